import PyProof.Rows.All
import Wide.All
import OpenK.AllK
import Wide.FinOn
import Lean
import PyProof.EqAt
import PyProof.EqKinds
import PyProof.TupleCall
import PySem.Challenge.RW_farhold_k16_whole_house
set_option Elab.async false
set_option maxRecDepth 100000
set_option linter.all false
namespace L2
open PySem PySem.Spec PyProof.Rows
abbrev Key:=Sum Int Str
def Ox:Key→Value→Bool
 | .inl k,v=>Value.isInt k v
 | .inr x,v=>Value.isStrOf x v
def Jdx (w:World):Key→Int
 | .inl k=>hashInt k
 | .inr x=>hashStr w x
theorem Cd:∀ {k:Key} {v:Value},Ox k v=true→(∃ i t,k=Sum.inl i∧v=Value.int i t)∨(∃ x t,k=Sum.inr x∧v=Value.str x t)
 | .inl i,v,h=>by
   obtain ⟨t,e⟩:=Value.isInt_shape (k:=i) (v:=v) h
   exact .inl ⟨i,t,rfl,e⟩
 | .inr x,v,h=>by
   obtain ⟨t,e⟩:=Value.isStrOf_shape (x:=x) (v:=v) h
   exact .inr ⟨x,t,rfl,e⟩
theorem V1 (i:Int) (t:Tok):Ox (.inl i) (.int i t)=true:=by simp [Ox,Value.isInt]
theorem V0 (x:Str) (t:Tok):Ox (.inr x) (.str x t)=true:=by simp [Ox,Value.isStrOf]
theorem Jcp (a b:Int):decide ((Sum.inl a:Key)=Sum.inl b)=(a == b):=by
 by_cases e:a=b
 ·subst e; simp
 ·have h:¬ (Sum.inl a:Key)=Sum.inl b:=fun q=>e (Sum.inl.inj q)
  rw [decide_eq_false h]
  exact (beq_eq_false_iff_ne.mpr e).symm
theorem Jcm (a b:Str):decide ((Sum.inr a:Key)=Sum.inr b)=decide (a=b):=by
 by_cases e:a=b
 ·subst e; simp
 ·have h:¬ (Sum.inr a:Key)=Sum.inr b:=fun q=>e (Sum.inr.inj q)
  rw [decide_eq_false h,decide_eq_false e]
theorem Jco (a:Int) (b:Str):decide ((Sum.inl a:Key)=Sum.inr b)=false:=decide_eq_false (fun q=>nomatch q)
theorem Jcn (a:Str) (b:Int):decide ((Sum.inr a:Key)=Sum.inl b)=false:=decide_eq_false (fun q=>nomatch q)
def B3 (prog:Program) (w:World):PySem.KeyKind prog w Key where
 is:=Ox
 hash:=Jdx w
 inj:=fun v a b ha hb=>by
  rcases Cd ha with ⟨i,t,rfl,rfl⟩ | ⟨x,t,rfl,rfl⟩
  ·rcases Cd hb with ⟨j,u,rfl,e⟩ | ⟨y,u,rfl,e⟩
   ·injection e with e1 _; rw [e1]
   ·exact nomatch e
  ·rcases Cd hb with ⟨j,u,rfl,e⟩ | ⟨y,u,rfl,e⟩
   ·exact nomatch e
   ·injection e with e1 _; rw [e1]
 byValue:=fun k v h=>by
  rcases Cd h with ⟨i,t,rfl,rfl⟩ | ⟨x,t,rfl,rfl⟩ <;> rfl
 pyHash:=fun hv h=>by
  rcases Cd hv with ⟨i,t,rfl,rfl⟩ | ⟨x,t,rfl,rfl⟩
  ·exact wpAny_pyHash_int h
  ·exact wpAny_pyHash_str h
 eqBool:=fun hu hv h=>by
  rcases Cd hu with ⟨i,t,rfl,rfl⟩ | ⟨x,t,rfl,rfl⟩
  ·rcases Cd hv with ⟨j,u,rfl,rfl⟩ | ⟨y,u,rfl,rfl⟩
   ·rw [Jcp] at h; exact wpAny_eqBool_int h
   ·rw [Jco] at h; exact SeqAt.EqAt.int_str i t y u _ _ _ _ h
  ·rcases Cd hv with ⟨j,u,rfl,rfl⟩ | ⟨y,u,rfl,rfl⟩
   ·rw [Jcn] at h; exact SeqAt.EqAt.str_int x t j u _ _ _ _ h
   ·rw [Jcm] at h; exact wpAny_eqBool_str h
 «strs»:=fun k x t v h=>by
  rcases Cd h with ⟨i,u,rfl,e⟩ | ⟨y,u,rfl,e⟩
  ·exact nomatch e
  ·injection e with e1 _
   subst e1
   cases v <;> rfl
theorem Rg (prog:Program) (w:World) (i:Int) (t:Tok):(B3 prog w).is (.inl i) (.int i t)=true:=V1 i t
theorem Rf (prog:Program) (w:World) (x:Str) (t:Tok):(B3 prog w).is (.inr x) (.str x t)=true:=V0 x t
inductive V where
 | non | bl (b:Bool) | int (i:Int) | str (x:Str) | byt (b:Array UInt8) | flt (b:UInt64) | ref (a:Addr) | ty (n:String)
 deriving DecidableEq
def RelV:V→Value→Prop
 | .non,u=>u=Value.none
 | .bl b,u=>u=Value.bool b
 | .int i,u=>∃ t,u=Value.int i t
 | .str x,u=>∃ t,u=Value.str x t
 | .byt b,u=>∃ t,u=Value.bytes b t
 | .flt b,u=>∃ t,u=Value.float b t
 | .ref a,u=>u=Value.ref a
 | .ty n,u=>u=Value.type n
abbrev Vals:List V→List Value→Prop:=Paired RelV
theorem Vals.length {xs:List V} {us:List Value} (r:Vals xs us):xs.length=us.length:=Paired.length r
theorem Vals.get:∀ {xs:List V} {us:List Value} {i:Nat} {x:V},Vals xs us→xs[i]?=some x→∃ u,us[i]?=some u∧RelV x u
 | _,_,_,_,.nil,e=>by simp at e
 | _,_,0,_,.cons r _,e=>by simp at e; subst e; exact ⟨_,rfl,r⟩
 | _,_,i + 1,x,.cons _ t,e=>by
   obtain ⟨u,h1,h2⟩:=Vals.get (i:=i) (x:=x) t (by simpa using e)
   exact ⟨u,by simpa using h1,h2⟩
theorem Vals.append:∀ {xs ys:List V} {us ws:List Value},Vals xs us→Vals ys ws→Vals (xs++ys) (us++ws)
 | _,_,_,_,.nil,s=>s
 | _,_,_,_,.cons r t,s=>.cons r (Vals.append t s)
theorem Vals.take:∀ {xs:List V} {us:List Value} (n:Nat),Vals xs us→Vals (xs.take n) (us.take n)
 | _,_,0,_=>.nil
 | _,_,_ + 1,.nil=>.nil
 | _,_,n + 1,.cons r t=>.cons r (Vals.take n t)
theorem Vals.drop:∀ {xs:List V} {us:List Value} (n:Nat),Vals xs us→Vals (xs.drop n) (us.drop n)
 | _,_,0,r=>r
 | _,_,_ + 1,.nil=>.nil
 | _,_,n + 1,.cons _ t=>Vals.drop n t
def RelO:Option V→Option Value→Prop
 | some v,some u=>RelV v u
 | none,none=>True
 | _,_=>False
def KV {κ:Type}:List (κ×V)→List (κ×Value)→Prop:=Paired fun (p:κ×V) (q:κ×Value)=>p.1=q.1∧RelV p.2 q.2
def kV:Key→V
 | .inl i=>.int i
 | .inr x=>.str x
inductive HO where
 | lst (xs:List V)
 | tup (xs:List V)
 | dK (kvs:List (Key×V)) | dT (kvs:List (List Key×V))
 | set (S:Int→Bool) (n:Nat)
 | ins (C dx:Addr) (fs:List (Str×V))
 | own (x:Addr)
 | xd (fs:List (Str×V))
 | met (f x:Addr)
 | rng (lo hi:Int)
 | frz (o:Obj) (u:HO)
 | tbl (ps:Array Value)
 | ext (φ:Heap→Prop)
abbrev Hp:=Addr→Option HO
def upd (H:Hp) (a:Addr) (o:HO):Hp:=fun b=>if b=a then some o else H b
theorem Ab {H:Hp} {a:Addr} {o:HO}:upd H a o a=some o:=by unfold upd; rw [if_pos rfl]
theorem Ac {H:Hp} {a b:Addr} {o:HO} (h:b≠a):upd H a o b=H b:=by unfold upd; rw [if_neg h]
theorem Pn {H:Hp} {a:Addr} {o u:HO}:upd (upd H a o) a u=upd H a u:=by
 funext b; unfold upd; split <;> rfl
theorem Il {H:Hp} {a b:Addr} {o u:HO} (h:H a=some o) (h':H b=some u) (d:o≠u):a≠b:=by
 intro e; subst e; rw [h] at h'; exact d (Option.some.inj h')
theorem Ar {H:Hp} {a b:Addr} {o:HO} (h:H a=some o) (h':H b=none):a≠b:=by
 intro e; subst e; rw [h] at h'; cases h'
section
variable (P:Program) (w:World)
def ObjOk (H:Hp) (h:Heap) (a:Addr):HO→Prop
 | .lst xs=>xs.length≤sizeLine∧∃ (its:List Value) (n:Nat),Vals xs its∧h.get? a=some { cls:=.type "list",data:=.seq its.toArray n }
 | .tup xs=>xs.length≤sizeLine∧∃ its:List Value,Vals xs its∧IsTup h a its.toArray
 | .dK kvs=>kvs.length≤sizeLine∧(a == sysModules)=false∧∃ vs,KV kvs vs∧h.DictOf (B3 P w) a vs
 | .dT kvs=>kvs.length≤sizeLine∧(a == sysModules)=false∧∃ xs:List (List Key×Addr×Value),
  Paired (fun (p:List Key×V) (q:List Key×Addr×Value)=>p.1=q.1∧H q.2.1=some (.tup (p.1.map kV))∧RelV p.2 q.2.2) kvs xs ∧
  ∃ o es ep,h.get? a=some o∧o.ExactDict∧o.data=.dict es ep∧es.toList=xs.map (entryOfKey (tupleKind (B3 P w)))∧(xs.map (·.1)).Nodup
 | .set S n=>h.SetOf (intKind P w) a S n
 | .ins C dx fs=>H dx=some (.own a)∧fs.length≤1000∧dx≠a∧h.get? a=some (W.instObj C dx) ∧
  ∃ mA,h.Ns1 dx mA∧(∀ f,RelO (fs.lookup f) (mA f))∧PySem.Within mA (fs.map (·.1))
 | .own _=>∃ o,h.get? a=some o
 | .xd fs=>∃ mA,h.Ns1 a mA∧∀ f,RelO (fs.lookup f) (mA f)
 | .rng lo hi=>∃ t u v,h.get? a=some { cls:=.type "range",data:=.fields #[.int lo t,.int hi u,.int 1 v] }
 | .frz o u=>h.get? a=some o∧ObjOk H h a u
 | .tbl ps=>h.get? a=some { cls:=.none,data:=.fields ps }
 | .met f x=>h.get? a=some (W.methodObj (.ref f) (.ref x))
 | .ext φ=>φ h∧(∃ o,h.get? a=some o)∧∀ h1 h2:Heap,φ h1→(∀ o,h1.get? a=some o→h2.get? a=some o)→φ h2
def HOk (H:Hp) (h:Heap):Prop:=∀ a o,H a=some o→ObjOk P w H h a o
end
section
variable {P:Program} {w:World} {H H':Hp} {h h':Heap} {a:Addr} {o:HO}
theorem ObjOk.lt (x:ObjOk P w H h a o):a < h.objs.size:=by
 cases o with
 | lst xs=>obtain ⟨_,_,_,_,e⟩:=x; exact Heap.lt_size e
 | tup xs=>obtain ⟨_,_,_,p⟩:=x; exact p.lt
 | dK kvs=>obtain ⟨_,_,_,_,o,_,_,e,_⟩:=x; exact Heap.lt_size e
 | dT kvs=>obtain ⟨_,_,_,_,o,_,_,e,_⟩:=x; exact Heap.lt_size e
 | set S n=>obtain ⟨o,_,_,_,e,_⟩:=x; exact Heap.lt_size e
 | ins C dx fs=>obtain ⟨_,_,_,e,_⟩:=x; exact Heap.lt_size e
 | own y=>obtain ⟨_,e⟩:=x; exact Heap.lt_size e
 | xd fs=>obtain ⟨_,⟨_,_,_,e,_⟩,_⟩:=x; exact Heap.lt_size e
 | rng lo hi=>obtain ⟨_,_,_,e⟩:=x; exact Heap.lt_size e
 | frz ob u=>obtain ⟨e,_⟩:=x; exact Heap.lt_size e
 | tbl ps=>exact Heap.lt_size (show h.get? a=some _ from x)
 | met f y=>exact Heap.lt_size (show h.get? a=some _ from x)
 | ext φ=>obtain ⟨_,⟨_,e⟩,_⟩:=x; exact Heap.lt_size e
theorem Paired.mapP {α β:Type} {F G:α→β→Prop}:∀ {l₁:List α} {l₂:List β},Paired F l₁ l₂→(∀ a b,F a b→G a b)→Paired G l₁ l₂
 | _,_,.nil,_=>.nil
 | _,_,.cons r t,f=>.cons (f _ _ r) (Paired.mapP t f)
theorem ObjOk.stay (x:ObjOk P w H h a o) (k:∀ b u,(b=a∨H b=some (.own a))→h.get? b=some u→h'.get? b=some u)
 (ho:∀ b,H b=some (.own a)→H' b=some (.own a)) (ht:∀ b xs,H b=some (.tup xs)→H' b=some (.tup xs)):ObjOk P w H' h' a o:=by
 induction o with
 | lst xs=>obtain ⟨z,its,n,r,e⟩:=x; exact ⟨z,its,n,r,k _ _ (.inl rfl) e⟩
 | tup xs=>obtain ⟨z,its,r,ob,e,c⟩:=x; exact ⟨z,its,r,ob,k _ _ (.inl rfl) e,c⟩
 | dK kvs=>obtain ⟨z,y,vs,r,ob,es,ep,e,c⟩:=x; exact ⟨z,y,vs,r,ob,es,ep,k _ _ (.inl rfl) e,c⟩
 | dT kvs =>
   obtain ⟨z,y,xs,r,ob,es,ep,e,c⟩:=x
   exact ⟨z,y,xs,Paired.mapP r fun p q z=>⟨z.1,ht _ _ z.2.1,z.2.2⟩,ob,es,ep,k _ _ (.inl rfl) e,c⟩
 | set S n=>obtain ⟨ob,es,ep,t,e,c⟩:=x; exact ⟨ob,es,ep,t,k _ _ (.inl rfl) e,c⟩
 | ins C dx fs =>
   obtain ⟨d,z,ne,e,mA,⟨od,es,ep,e2,c⟩,r⟩:=x
   exact ⟨ho _ d,z,ne,k _ _ (.inl rfl) e,mA,⟨od,es,ep,k _ _ (.inr d) e2,c⟩,r⟩
 | own y=>obtain ⟨ob,e⟩:=x; exact ⟨ob,k _ _ (.inl rfl) e⟩
 | xd fs=>obtain ⟨mA,⟨od,es,ep,e,c⟩,r⟩:=x; exact ⟨mA,⟨od,es,ep,k _ _ (.inl rfl) e,c⟩,r⟩
 | rng lo hi=>obtain ⟨t,u,v,e⟩:=x; exact ⟨t,u,v,k _ _ (.inl rfl) e⟩
 | frz ob u ih=>obtain ⟨e,q⟩:=x; exact ⟨k _ _ (.inl rfl) e,ih q⟩
 | tbl ps =>
   have e:h.get? a=some { cls:=.none,data:=.fields ps }:=x
   show h'.get? a=some { cls:=.none,data:=.fields ps }
   exact k a _ (.inl rfl) e
 | met f y =>
   have e:h.get? a=some (W.methodObj (.ref f) (.ref y)):=x
   show h'.get? a=some (W.methodObj (.ref f) (.ref y))
   exact k a _ (.inl rfl) e
 | ext φ=>obtain ⟨p,⟨o,e⟩,st⟩:=x; exact ⟨st _ _ p fun o q=>k _ _ (.inl rfl) q,⟨o,k _ _ (.inl rfl) e⟩,st⟩
theorem HOk.lt (x:HOk P w H h) (e:H a=some o):a < h.objs.size:=(x a o e).lt
theorem HOk.fresh (x:HOk P w H h) (e:h.objs.size≤a):H a=none:=by
 cases q:H a with
 | none=>rfl
 | some u=>exact absurd (Nat.lt_of_lt_of_le (x.lt q) e) (Nat.lt_irrefl _)
theorem HOk.kept (x:HOk P w H h) (k:∀ b u,h.get? b=some u→h'.get? b=some u):HOk P w H h':=fun a o e =>
 (x a o e).stay (fun b u _ q=>k b u q) (fun _ q=>q) fun _ _ q=>q
theorem HOk.laid (x:HOk P w H h) (k:∀ b u,h.get? b=some u→h'.get? b=some u) (hp:h.objs.size≤a) (new:ObjOk P w (upd H a o) h' a o):HOk P w (upd H a o) h':=fun b u e=>by
 have hn:=x.fresh hp
 by_cases hb:b=a
 ·subst hb; rw [Ab] at e; cases e; exact new
 ·rw [Ac hb] at e
  exact (x b u e).stay (fun c v _ q=>k c v q) (fun c q=>by rw [Ac (Ar q hn)]; exact q) fun c xs q=>by rw [Ac (Ar q hn)]; exact q
end
def Rd (H:Hp) (a:Addr) (u:HO):Prop:=H a=some u∨∃ o,H a=some (.frz o u)
theorem Rd.ok {P:Program} {w:World} {H:Hp} {h:Heap} {a:Addr} {u:HO} (r:Rd H a u) (x:HOk P w H h):ObjOk P w H h a u:=by
 rcases r with r | ⟨o,r⟩
 ·exact x a u r
 ·obtain ⟨_,q⟩:=x a _ r
  exact q
def Mut:Option HO→Prop
 | some (.lst _)=>True
 | some (.dK _)=>True
 | some (.dT _)=>True
 | some (.set _ _)=>True
 | some (.ins _ _ _)=>True
 | some (.ext _)=>True
 | _=>False
section
variable {P:Program} {w:World} {H:Hp} {h h':Heap} {x e:Addr} {o':HO}
theorem HOk.write (ok:HOk P w H h) (mu:Mut (H x)) (he:e=x∨H e=some (.own x)) (k:∀ b u,b≠e→h.get? b=some u→h'.get? b=some u) (heo:∃ u,h'.get? e=some u)
 (new:ObjOk P w (upd H x o') h' x o'):HOk P w (upd H x o') h':=fun b u q=>by
 have nown:∀ c y,H c=some (.own y)→c≠x:=fun c y r z=>by subst z; rw [r] at mu; exact mu
 have ntup:∀ c xs,H c=some (.tup xs)→c≠x:=fun c xs r z=>by subst z; rw [r] at mu; exact mu
 by_cases hb:b=x
 ·subst hb; rw [Ab] at q; cases q; exact new
 ·rw [Ac hb] at q
  by_cases hbe:b=e
  ·have q':H b=some (.own x):=by
    rcases he with z | z
    ·exact absurd (hbe.trans z) hb
    ·rw [hbe]; exact z
   rw [q] at q'; cases q'
   obtain ⟨v,hv⟩:=heo
   exact ⟨v,by rw [hbe]; exact hv⟩
  ·refine (ok b u q).stay (fun c v hc r=>k c v ?_ r) (fun c r=>by rw [Ac (nown c b r)]; exact r) fun c xs r=>by rw [Ac (ntup c xs r)]; exact r
   rcases hc with rfl | hc
   ·exact hbe
   ·rintro rfl
    rcases he with z | z
    ·exact nown c b hc z
    ·rw [hc] at z; cases z; exact hb rfl
end
structure Un (fs ex:List Addr) (H H':Hp) (h h':Heap):Prop where
 keep:∀ b o,h.get? b=some o→H b=none→b∉fs→b∉ex→h'.get? b=some o
 slot:∀ b o,h.get? b=some o→H b=none→b∈fs→b∉ex→∃ sl,h'.get? b=some { o with slots:=sl }
 free:∀ b o,h.get? b=some o→H b=none→b∉ex→H' b=none
 there:∀ b o,h.get? b=some o→b∉ex→∃ o',h'.get? b=some o'
 tups:∀ b xs,H b=some (.tup xs)→H' b=some (.tup xs)
 frzs:∀ b o u,H b=some (.frz o u)→H' b=some (.frz o u)
 tbls:∀ b ps,H b=some (.tbl ps)→∃ more,H' b=some (.tbl (ps++more))
section
variable {fs fs' ex ex':List Addr} {H H1 H2:Hp} {h h1 h2 h':Heap} {a x e:Addr} {o:HO}
theorem Un.any (u:Un fs ex H H1 h h1) {b:Addr} {ob:Obj} (q:h.get? b=some ob) (n:H b=none) (hx:b∉ex):∃ sl,h1.get? b=some { ob with slots:=sl }:=by
 by_cases hb:b∈fs
 ·exact u.slot b ob q n hb hx
 ·exact ⟨ob.slots,u.keep b ob q n hb hx⟩
theorem Un.kept (k:∀ b u,h.get? b=some u→h'.get? b=some u):Un fs ex H H h h' :=
 ⟨fun b ob q _ _ _=>k b ob q,fun b ob q _ _ _=>⟨ob.slots,k b ob q⟩,fun _ _ _ n _=>n,fun b ob q _=>⟨ob,k b ob q⟩,fun _ _ q=>q,fun _ _ _ q=>q,fun _ ps q=>⟨#[],by rw [q]; simp⟩⟩
theorem Un.refl:Un fs ex H H h h:=Un.kept fun _ _ q=>q
theorem Un.laid (k:∀ b u,h.get? b=some u→h'.get? b=some u) (hp:h.objs.size≤a) (hn:H a=none):Un fs ex H (upd H a o) h h' where
 keep:=fun b u q _ _ _=>k b u q
 slot:=fun b u q _ _ _=>⟨u.slots,k b u q⟩
 free:=fun b u q n _=>by rw [Ac (Nat.ne_of_lt (Nat.lt_of_lt_of_le (Heap.lt_size q) hp))]; exact n
 there:=fun b u q _=>⟨u,k b u q⟩
 tups:=fun b xs q=>by rw [Ac (Ar q hn)]; exact q
 frzs:=fun b u xs q=>by rw [Ac (Ar q hn)]; exact q
 tbls:=fun b ps q=>⟨#[],by rw [Ac (Ar q hn),q]; simp⟩
theorem Un.write (mu:Mut (H x)) (he:e=x∨H e=some (.own x)) (k:∀ b u,b≠e→h.get? b=some u→h'.get? b=some u) (heo:∃ u,h'.get? e=some u):Un fs ex H (upd H x o) h h':=by
 have hx:∀ b,H b=none→b≠x:=fun b n z=>by subst z; rw [n] at mu; exact mu
 have hb:∀ b,H b=none→b≠e:=fun b n z=>by
  subst z
  rcases he with r | r
  ·exact hx b n r
  ·rw [n] at r; cases r
 have hm:∀ b u,H b=some u→¬ Mut (some u)→b≠x:=fun b u q nm z=>by subst z; rw [q] at mu; exact nm mu
 refine ⟨fun b u q n _ _=>k b u (hb b n) q,fun b u q n _ _=>⟨u.slots,k b u (hb b n) q⟩,fun b u q n _=>by rw [Ac (hx b n)]; exact n,fun b u q _=>?_,
  fun b xs q=>by rw [Ac (hm b _ q fun z=>z)]; exact q,fun b u xs q=>by rw [Ac (hm b _ q fun z=>z)]; exact q,fun b ps q=>⟨#[],by rw [Ac (hm b _ q fun z=>z),q]; simp⟩⟩
 by_cases hbe:b=e
 ·subst hbe; exact heo
 ·exact ⟨u,k b u hbe q⟩
end
def trk (h:Heap) (H:Hp):List Addr:=(List.range h.objs.size).filter fun a=>(H a).isSome
def Qb (h:Heap) (H:Hp):Heap:=W.hideAll h (trk h H)
theorem V6 (h:Heap) (H:Hp):(Qb h H).objs.size=h.objs.size:=W.hideAll_size _ _
theorem Yp {h:Heap} {H:Hp} {b:Addr} {o:Obj} (e:h.get? b=some o) (n:H b=none):(Qb h H).get? b=some o :=
 W.hideAll_get _ e fun hm=>by
  have q:(H b).isSome=true:=(List.mem_filter.mp hm).2
  rw [n] at q; simp at q
theorem Z9 {h:Heap} {H:Hp} {b:Addr} {o:Obj} (e:(Qb h H).get? b=some o):h.get? b=some o∧H b=none:=by
 have e':h.get? b=some o:=W.of_hideAll (trk h H) e
 refine ⟨e',?_⟩
 cases q:H b with
 | none=>rfl
 | some x =>
   have hm:b∈trk h H:=List.mem_filter.mpr ⟨List.mem_range.mpr (Heap.lt_size e'),by simp [q]⟩
   have z:(Qb h H).get? b=none:=W.hideAll_none (trk h H) hm
   rw [z] at e; cases e
def Jaw (g h:Heap) (L:Addr):List (Addr×Obj):=(List.range h.objs.size).filterMap fun a=>if a=L∨(g.get? a).isSome=true then none else (h.get? a).map fun o=>(a,o)
def rest (g h:Heap) (L d:Addr):List (Addr×Obj):=(Jaw g h L).filter fun p=>decide (p.1≠d)
structure Mod (K:W.Frag) (mg:Str→Option Value) (base:Heap):Prop where
 kin:K.In base
 glob:base.Ns mainGlobals mg
 blt:∃ mb,base.Ns builtinsNs mb∧∀ x:Str,x≠"__name__"→mb x=bootBuiltins x
 nolimit:base.NoLimit
structure Cx where
 prog:Program
 w:World
 K:W.Frag
 mg:Str→Option Value
 base:Heap
 A:Around
 N:List Str
 s₀:Shared
 H₀:Hp
 env:Env
 outer:List Env
 stack:List Env
 ex:List Addr
 fn:Str→Bool
 calm:Bool
 pn:List (Addr×Obj)
 xe:Value→Shared→Prop
def frs (l:List Env):List Addr:=l.filterMap (·.frame)
abbrev Cx.fs (X:Cx):List Addr:=frs X.outer
def Vis (sc:Scope) (x:Str):Prop:=sc.names.lookup x=some .local∨sc.names.lookup x=some .cell∨sc.names.lookup x=some .free
def Loc (sc:Scope) (x:Str):Prop:=sc.names.lookup x=some .local∨sc.names.lookup x=some .cell
def Look (env:Env) (h:Heap) (m:Str→Option Value) (x:Str) (u:Value):Prop :=
 (env.kindOf x=some .local∧m x=some u)∨((env.kindOf x=some .cell∨env.kindOf x=some .free)∧∃ c,env.cells.lookup x=some c∧h.IsCell c (some u))
structure Cx.Ok (X:Cx):Prop where
 mod:Mod X.K X.mg X.base
 kind:X.env.scope.kind=.function
 glob:X.env.globals=mainGlobals
 blt:X.env.builtins=builtinsNs
 above:X.s₀.heap.objs.size≤X.env.locals
 inj:∀ x y c,X.env.cells.lookup x=some c→X.env.cells.lookup y=some c→x=y
 has:∀ x,(X.env.kindOf x=some .cell∨X.env.kindOf x=some .free)→∃ c,X.env.cells.lookup x=some c
 cab:∀ x c,X.fn x=true→X.env.cells.lookup x=some c→X.s₀.heap.objs.size≤c
 hd:X.calm=true→X.A.handled=none
 frames:X.A.frames=some X.stack
 stk:X.stack=X.outer∨(X.stack=X.env :: X.outer∧X.env.frame=some X.env.locals)
 exf:∀ b∈X.ex,b≠X.env.locals∧∀ x c,X.env.cells.lookup x=some c→c≠b
 bs:∀ b o,X.base.get? b=some o→X.s₀.heap.get? b=some o∧X.H₀ b=none
 bsz:X.base.objs.size≤X.s₀.heap.objs.size
 noex:∀ b o,X.base.get? b=some o→b∉X.ex
 exfs:∀ b∈X.ex,b∉X.fs
 funs:X.s₀.heap.FunFrames X.base X.outer
 frf:∀ b∈X.fs,X.H₀ b=none
structure Inv (X:Cx) (pins:List (Addr×Obj)) (σ:List (Option V)) (H:Hp) (s:Shared):Prop where
 ok:X.Ok
 os:s.os=X.s₀.os
 bare:AllBare s.gens
 base:Un X.fs X.ex X.H₀ H X.s₀.heap s.heap
 loc:∃ m,s.heap.Ns X.env.locals m∧∀ (i:Nat) (x:Str) (v:V),X.N[i]?=some x→σ[i]?=some (some v)→Vis X.env.scope x→∃ u,RelV v u∧Look X.env s.heap m x u
 cell:∀ x c,X.env.cells.lookup x=some c→∃ v,s.heap.IsCell c v
 free:H X.env.locals=none
 freeC:∀ x c,X.env.cells.lookup x=some c→H c=none
 pin:∀ p∈X.pn++pins,s.heap.get? p.1=some p.2∧H p.1=none∧p.1≠X.env.locals∧p.1∉X.fs∧∀ v,p.2.data≠.cell v
 hok:HOk X.prog X.w H s.heap
 len:σ.length=X.N.length
section
variable {X:Cx} {pins:List (Addr×Obj)} {σ:List (Option V)} {H H':Hp} {s:Shared} {h':Heap}
theorem Cx.Ok.nofr (ok:X.Ok) {b:Addr} {o:Obj} (e:X.base.get? b=some o):b∉X.fs:=fun hb=>by
 have:=(ok.funs.mem hb).1
 rw [e] at this; cases this
theorem Inv.bs (I:Inv X pins σ H s):∀ b o,X.base.get? b=some o→s.heap.get? b=some o∧H b=none:=fun b o e =>
 ⟨I.base.keep b o (I.ok.bs b o e).1 (I.ok.bs b o e).2 (I.ok.nofr e) (I.ok.noex b o e),I.base.free b o (I.ok.bs b o e).1 (I.ok.bs b o e).2 (I.ok.noex b o e)⟩
theorem Inv.bk (I:Inv X pins σ H s):∀ b o,X.base.get? b=some o→s.heap.get? b=some o:=fun b o e=>(I.bs b o e).1
theorem Inv.mod (I:Inv X pins σ H s):Mod X.K X.mg X.base:=I.ok.mod
theorem Inv.kIn (I:Inv X pins σ H s):X.K.In s.heap:=I.ok.mod.kin.keeps I.bk
theorem Inv.lt (I:Inv X pins σ H s):X.env.locals < s.heap.objs.size:=let ⟨_,hn,_⟩:=I.loc; hn.lt
theorem Inv.sz (I:Inv X pins σ H s):X.s₀.heap.objs.size≤s.heap.objs.size:=Nat.le_trans I.ok.above (Nat.le_of_lt I.lt)
theorem Inv.nofs (I:Inv X pins σ H s) {a:Addr} (h:s.heap.objs.size≤a):a∉X.fs:=fun hb=>by
 obtain ⟨_,o,ho,_⟩:=I.ok.funs.mem hb
 exact absurd (Nat.lt_of_lt_of_le (Heap.lt_size ho) (Nat.le_trans I.sz h)) (Nat.lt_irrefl _)
theorem Inv.cne (I:Inv X pins σ H s):∀ x c,X.env.cells.lookup x=some c→c≠X.env.locals:=fun x c e z=>by
 obtain ⟨v,o,ho,hd⟩:=I.cell x c e
 obtain ⟨m,⟨o',es,ep,ho',hd',_⟩,_⟩:=I.loc
 rw [z,ho'] at ho; cases ho; rw [hd'] at hd; cases hd
theorem Inv.funs (I:Inv X pins σ H s):s.heap.FunFrames X.base X.outer:=by
 have all:∀ (l:List Env),(∀ b∈frs l,b∈X.fs)→X.s₀.heap.FunFrames X.base l→s.heap.FunFrames X.base l:=by
  intro l
  induction l with
  | nil=>intro _ _; trivial
  | cons env r ih =>
    intro hs hl
    obtain ⟨hk,⟨L,o,hf,hn,ho,hd⟩,hr⟩:=hl
    have hL:L∈X.fs:=hs L (by unfold frs; rw [List.filterMap_cons,hf]; exact List.mem_cons_self)
    obtain ⟨sl,e⟩:=I.base.slot L o ho (I.ok.frf L hL) hL fun z=>I.ok.exfs L z hL
    exact ⟨hk,⟨L,_,hf,hn,e,hd⟩,ih (fun b hb=>hs b (by unfold frs; rw [List.filterMap_cons,hf]; exact List.mem_cons_of_mem _ hb)) hr⟩
 exact all X.outer (fun _ hb=>hb) I.ok.funs
theorem Inv.stack (I:Inv X pins σ H s):s.heap.FunFrames X.base X.stack:=by
 rcases I.ok.stk with e | ⟨e,hf⟩
 ·rw [e]; exact I.funs
 ·rw [e]
  obtain ⟨m,hn,_⟩:=I.loc
  refine .cons (by rw [I.ok.kind]; decide) hf hn ?_ I.funs
  exact Heap.get?_none_of_le (Nat.le_trans I.ok.bsz I.ok.above)
theorem Inv.stkSub (I:Inv X pins σ H s):∀ b∈frs X.stack,b∈X.env.locals :: X.fs:=fun b hb=>by
 rcases I.ok.stk with e | ⟨e,hf⟩
 ·rw [e] at hb; exact List.mem_cons_of_mem _ hb
 ·rw [e] at hb
  unfold frs at hb
  rw [List.filterMap_cons,hf] at hb
  exact hb
theorem Inv.stkFree (I:Inv X pins σ H s):∀ b∈frs X.stack,H b=none:=fun b hb=>by
 rcases List.mem_cons.mp (I.stkSub b hb) with e | hb
 ·rw [e]; exact I.free
 ·obtain ⟨_,o,ho,_⟩:=I.ok.funs.mem hb
  exact I.base.free b o ho (I.ok.frf b hb) fun z=>I.ok.exfs b z hb
theorem Inv.step {g':Array GenState} {t':Nat} {d':Drawn} {ch:List Addr} (I:Inv X pins σ H s)
 (hch:∀ b∈ch,(b∈X.ex∨X.s₀.heap.objs.size≤b)∧b≠X.env.locals∧(∀ x c,X.env.cells.lookup x=some c→c≠b)∧∀ p∈X.pn++pins,p.1≠b)
 (keep:∀ b o,b≠X.env.locals→b∉X.fs→b∉ch→s.heap.get? b=some o→H b=none→h'.get? b=some o)
 (slot:∀ b o,b≠X.env.locals→b∈X.fs→b∉ch→s.heap.get? b=some o→H b=none→∃ sl,h'.get? b=some { o with slots:=sl }) (free:∀ b o,b∉ch→s.heap.get? b=some o→H b=none→H' b=none)
 (there:∀ b o,b∉ch→s.heap.get? b=some o→∃ o',h'.get? b=some o')
 (tups:∀ b xs,H b=some (.tup xs)→H' b=some (.tup xs)) (frzs:∀ b o u,H b=some (.frz o u)→H' b=some (.frz o u)) (tbls:∀ b ps,H b=some (.tbl ps)→∃ more,H' b=some (.tbl (ps++more)))
 (ns:∀ m,s.heap.Ns X.env.locals m→h'.Ns X.env.locals m) (hok:HOk X.prog X.w H' h') (hg:AllBare g') :
 Inv X pins σ H' { s with heap:=h',gens:=g',drawn:=d',toks:=t' }:=by
 have neL:∀ b o,X.s₀.heap.get? b=some o→b≠X.env.locals:=fun b o e=>Nat.ne_of_lt (Nat.lt_of_lt_of_le (Heap.lt_size e) I.ok.above)
 have neC:∀ b o,X.s₀.heap.get? b=some o→b∉X.ex→b∉ch:=fun b o e hx hb=>by
  rcases (hch b hb).1 with z | z
  ·exact hx z
  ·exact absurd (Nat.lt_of_lt_of_le (Heap.lt_size e) z) (Nat.lt_irrefl _)
 have cellK:∀ x c,X.env.cells.lookup x=some c→∀ v,s.heap.IsCell c v→h'.IsCell c v:=fun x c e v ⟨o,ho,hd⟩=>by
  have nch:c∉ch:=fun z=>(hch c z).2.2.1 x c e rfl
  by_cases hc:c∈X.fs
  ·obtain ⟨sl,q⟩:=slot c o (I.cne x c e) hc nch ho (I.freeC x c e)
   exact ⟨_,q,hd⟩
  ·exact ⟨o,keep c o (I.cne x c e) hc nch ho (I.freeC x c e),hd⟩
 refine ⟨I.ok,I.os,hg,⟨fun b o e n hb hx=>?_,fun b o e n hb hx=>?_,fun b o e n hx=>?_,fun b o e hx=>?_,fun b xs e=>tups b xs (I.base.tups b xs e),fun b o xs e=>frzs b o xs (I.base.frzs b o xs e),fun b ps e=>?_⟩,?_,fun x c e=>?_,?_,fun x c e=>?_,fun p hp=>?_,hok,I.len⟩
 ·exact keep b o (neL b o e) hb (neC b o e hx) (I.base.keep b o e n hb hx) (I.base.free b o e n hx)
 ·obtain ⟨sl,e1⟩:=I.base.slot b o e n hb hx
  obtain ⟨sl',e2⟩:=slot b _ (neL b o e) hb (neC b o e hx) e1 (I.base.free b o e n hx)
  exact ⟨sl',e2⟩
 ·obtain ⟨o',e1⟩:=I.base.there b o e hx
  exact free b o' (neC b o e hx) e1 (I.base.free b o e n hx)
 ·obtain ⟨o',e1⟩:=I.base.there b o e hx
  exact there b o' (neC b o e hx) e1
 ·obtain ⟨m1,e1⟩:=I.base.tbls b ps e
  obtain ⟨m2,e2⟩:=tbls b _ e1
  exact ⟨m1++m2,by rw [e2,Array.append_assoc]⟩
 ·obtain ⟨m,hn,hl⟩:=I.loc
  refine ⟨m,ns m hn,fun i x v e1 e2 e3=>?_⟩
  obtain ⟨u,r,l⟩:=hl i x v e1 e2 e3
  refine ⟨u,r,?_⟩
  rcases l with l | ⟨k,c,e,z⟩
  ·exact .inl l
  ·exact .inr ⟨k,c,e,cellK x c e _ z⟩
 ·obtain ⟨v,z⟩:=I.cell x c e
  exact ⟨v,cellK x c e v z⟩
 ·obtain ⟨m,⟨o,_,_,ho,_⟩,_⟩:=I.loc
  exact free _ o (fun z=>(hch _ z).2.1 rfl) ho I.free
 ·obtain ⟨v,o,ho,hd⟩:=I.cell x c e
  exact free c o (fun z=>(hch c z).2.2.1 x c e rfl) ho (I.freeC x c e)
 ·obtain ⟨e,n,ne,nf,d⟩:=I.pin p hp
  have nch:p.1∉ch:=fun z=>(hch p.1 z).2.2.2 p hp rfl
  exact ⟨keep p.1 p.2 ne nf nch e n,free p.1 p.2 nch e n,ne,nf,d⟩
theorem Inv.un {t':Nat} (I:Inv X pins σ H s) (u:Un X.fs [] H H' s.heap h') (hok:HOk X.prog X.w H' h'):Inv X pins σ H' { s with heap:=h',toks:=t' }:=by
 obtain ⟨m,⟨o,es,ep,ho,r⟩,_⟩:=id I.loc
 obtain ⟨sl,hL⟩:=u.any ho I.free (by simp)
 exact I.step (g':=s.gens) (d':=s.drawn) (ch:=[]) (fun _ z=>nomatch z) (fun b o _ hb _ e n=>u.keep b o e n hb (by simp)) (fun b o _ hb _ e n=>u.slot b o e n hb (by simp)) (fun b o _ e n=>u.free b o e n (by simp)) (fun b o _ e=>u.there b o e (by simp)) u.tups u.frzs u.tbls (fun m' hm=>by
  obtain ⟨o',es',ep',ho',r'⟩:=hm
  rw [ho] at ho'; cases ho'
  exact ⟨_,es',ep',hL,r'⟩) hok I.bare
theorem Inv.call {g':Array GenState} {t':Nat} {d':Drawn} {ch:List Addr} (I:Inv X pins σ H s) (u:Un (frs X.stack) ch H H' s.heap h') (hok:HOk X.prog X.w H' h') (hg:AllBare g')
 (hch:∀ b∈ch,(b∈X.ex∨X.s₀.heap.objs.size≤b)∧b≠X.env.locals∧(∀ x c,X.env.cells.lookup x=some c→c≠b)∧∀ p∈X.pn++pins,p.1≠b) :
 Inv X pins σ H' { s with heap:=h',gens:=g',drawn:=d',toks:=t' }:=by
 obtain ⟨m,⟨o,es,ep,ho,r⟩,_⟩:=id I.loc
 obtain ⟨sl,hL⟩:=u.any ho I.free fun z=>(hch _ z).2.1 rfl
 exact I.step (ch:=ch) hch (fun b o hL hb hc e n=>u.keep b o e n (fun z=>(List.mem_cons.mp (I.stkSub b z)).elim hL hb) hc) (fun b o _ _ hc e n=>u.any e n hc) (fun b o hc e n=>u.free b o e n hc) (fun b o hc e=>u.there b o e hc) u.tups u.frzs u.tbls (fun m' hm=>by
  obtain ⟨o',es',ep',ho',r'⟩:=hm
  rw [ho] at ho'; cases ho'
  exact ⟨_,es',ep',hL,r'⟩) hok hg
theorem Inv.turned {t':Nat} {it:Addr} (I:Inv X pins σ H s) (k:∀ b o,b≠it→s.heap.get? b=some o→h'.get? b=some o) (hn:H it=none) (hL:it≠X.env.locals)
 (h1:it∈X.ex∨X.s₀.heap.objs.size≤it) (h2:∀ x c,X.env.cells.lookup x=some c→c≠it) (h3:∀ p∈X.pn++pins,p.1≠it):Inv X pins σ H { s with heap:=h',toks:=t' }:=by
 have nit:∀ b u,H b=some u→b≠it:=fun b u e z=>by rw [z,hn] at e; cases e
 refine I.step (g':=s.gens) (d':=s.drawn) (ch:=[it]) (fun b hb=>?_) (fun b o _ _ hc e _=>k b o (fun z=>hc (by simp [z])) e) (fun b o _ _ hc e _=>⟨o.slots,k b o (fun z=>hc (by simp [z])) e⟩) (fun _ _ _ _ n=>n)
  (fun b o hc e=>⟨o,k b o (fun z=>hc (by simp [z])) e⟩) (fun _ _ e=>e) (fun _ _ _ e=>e) (fun b ps e=>⟨#[],by rw [e]; simp⟩) (fun m hm=>?_) (fun b u e=>?_) I.bare
 ·have e:b=it:=by simpa using hb
  subst e
  exact ⟨h1,hL,h2,h3⟩
 ·obtain ⟨o,es,ep,ho,r⟩:=hm
  exact ⟨o,es,ep,k _ o (Ne.symm hL) ho,r⟩
 ·refine (I.hok b u e).stay (fun c v hc q=>k c v ?_ q) (fun _ q=>q) fun _ _ q=>q
  rcases hc with z | z
  ·rw [z]; exact nit b u e
  ·exact nit c _ z
theorem Inv.tok (I:Inv X pins σ H s) (t:Nat):Inv X pins σ H { s with toks:=t }:=I.un (h':=s.heap) (t':=t) Un.refl I.hok
theorem Inv.kept {t':Nat} (I:Inv X pins σ H s) (k:∀ b u,s.heap.get? b=some u→h'.get? b=some u):Inv X pins σ H { s with heap:=h',toks:=t' }:=I.un (Un.kept k) (I.hok.kept k)
theorem Inv.laid {a:Addr} {o:HO} {t':Nat} (I:Inv X pins σ H s) (k:∀ b u,s.heap.get? b=some u→h'.get? b=some u) (hp:s.heap.objs.size≤a) (new:ObjOk X.prog X.w (upd H a o) h' a o) :
 Inv X pins σ (upd H a o) { s with heap:=h',toks:=t' }:=I.un (Un.laid k hp (I.hok.fresh hp)) (I.hok.laid k hp new)
theorem Inv.write {x e:Addr} {o:HO} {t':Nat} (I:Inv X pins σ H s) (mu:Mut (H x)) (he:e=x∨H e=some (.own x)) (k:∀ b u,b≠e→s.heap.get? b=some u→h'.get? b=some u) (heo:∃ u,h'.get? e=some u)
 (new:ObjOk X.prog X.w (upd H x o) h' x o):Inv X pins σ (upd H x o) { s with heap:=h',toks:=t' }:=I.un (Un.write mu he k heo) (I.hok.write mu he k heo new)
theorem Inv.pins_of {pins':List (Addr×Obj)} (I:Inv X pins σ H s) (h:∀ p∈pins',s.heap.get? p.1=some p.2∧H p.1=none∧p.1≠X.env.locals∧p.1∉X.fs∧∀ v,p.2.data≠.cell v):Inv X pins' σ H s :=
 ⟨I.ok,I.os,I.bare,I.base,I.loc,I.cell,I.free,I.freeC,fun p hp=>(List.mem_append.mp hp).elim (fun z=>I.pin p (List.mem_append_left _ z)) (h p),I.hok,I.len⟩
theorem Mp {N:List Str} (hN:N.Nodup) {i j:Nat} {x:Str} (a:N[i]?=some x) (b:N[j]?=some x):i=j:=by
 obtain ⟨h1,e1⟩:=List.getElem?_eq_some_iff.mp a
 obtain ⟨h2,e2⟩:=List.getElem?_eq_some_iff.mp b
 exact (List.getElem_inj hN).mp (e1.trans e2.symm)
theorem Ol {M:Model} {A:Around} {E:Value→Shared→Prop} {i:Nat} {x:Str} {v:V} {u:Value} {Q:Unit→Shared→Prop} (I:Inv X pins σ H s) (hN:X.N.Nodup) (hi:X.N[i]?=some x) (hx:Loc X.env.scope x) (r:RelV v u)
 (h:∀ s',Inv X pins (σ.set i (some v)) H s'→(∃ a,Heap.SameBut a s.heap s'.heap∧(a=X.env.locals∨X.env.cells.lookup x=some a))→Q () s') (hf:X.fn x=true∨X.env.scope.names.lookup x=some .local:=by first | exact .inl rfl | exact .inr rfl | assumption):wpAny M A (storeName X.env x u) Q E s:=by
 obtain ⟨m,hn,hl⟩:=id I.loc
 have hcls:(X.env.scope.kind == .class || (X.env.scope.kind == .module && X.env.locals != X.env.globals))=false:=by rw [I.ok.kind]; rfl
 have hiσ:i < σ.length:=by rw [I.len]; exact (List.getElem?_eq_some_iff.mp hi).1
 have cne:=I.cne
 have tracked:∀ {a:Addr} {h':Heap},(∃ o,s.heap.get? a=some o∧H a=none)→Heap.SameBut a s.heap h'→HOk X.prog X.w H h':=fun {a h'} ha hs b ob e=>by
  obtain ⟨_,_,hfree⟩:=ha
  refine (I.hok b ob e).stay (fun c w' hc q=>(hs.2 c ?_).trans q) (fun _ q=>q) fun _ _ q=>q
  rintro rfl
  rcases hc with rfl | hc
  ·rw [hfree] at e; cases e
  ·rw [hfree] at hc; cases hc
 rcases hx with hk | hk
 ·refine wpAny_storeName_local hk hn (fun h' hn' hs=>?_) hcls
  obtain ⟨oL,_,_,hoL,_⟩:=id hn
  refine h _ ⟨I.ok,I.os,I.bare,⟨fun b o e n hb hx=>?_,fun b o e n hb hx=>?_,I.base.free,fun b o e hx=>?_,I.base.tups,I.base.frzs,I.base.tbls⟩,⟨_,hn',fun j y v' e1 e2 e3=>?_⟩,fun y c e=>?_,I.free,I.freeC,fun p hp=>?_,tracked ⟨oL,hoL,I.free⟩ hs,by simpa using I.len⟩ ⟨_,hs,.inl rfl⟩
  ·exact (hs.2 b (Nat.ne_of_lt (Nat.lt_of_lt_of_le (Heap.lt_size e) I.ok.above))).trans (I.base.keep b o e n hb hx)
  ·obtain ⟨sl,e1⟩:=I.base.slot b o e n hb hx
   exact ⟨sl,(hs.2 b (Nat.ne_of_lt (Nat.lt_of_lt_of_le (Heap.lt_size e) I.ok.above))).trans e1⟩
  ·obtain ⟨o',e1⟩:=I.base.there b o e hx
   exact ⟨o',(hs.2 b (Nat.ne_of_lt (Nat.lt_of_lt_of_le (Heap.lt_size e) I.ok.above))).trans e1⟩
  ·by_cases hj:j=i
   ·subst hj
    rw [hi] at e1; cases e1
    rw [List.getElem?_set_self hiσ] at e2
    cases e2
    exact ⟨u,r,.inl ⟨hk,by simp⟩⟩
   ·rw [List.getElem?_set_ne (Ne.symm hj)] at e2
    obtain ⟨u',r',q⟩:=hl j y v' e1 e2 e3
    refine ⟨u',r',?_⟩
    rcases q with ⟨k,e⟩ | ⟨k,c,e,z⟩
    ·refine .inl ⟨k,?_⟩
     have:y≠x:=fun e=>hj (Mp hN e1 (e ▸ hi))
     simp [this,e]
    ·exact .inr ⟨k,c,e,z.sameBut hs (cne y c e)⟩
  ·obtain ⟨w',z⟩:=I.cell y c e
   exact ⟨w',z.sameBut hs (cne y c e)⟩
  ·obtain ⟨e,n,ne,nf,d⟩:=I.pin p hp
   exact ⟨(hs.2 p.1 ne).trans e,n,ne,nf,d⟩
 ·have hfn:X.fn x=true:=by
   rcases hf with z | z
   ·exact z
   ·rw [z] at hk; cases hk
  obtain ⟨c,hc⟩:=I.ok.has x (.inl hk)
  obtain ⟨w',z⟩:=I.cell x c hc
  refine wpAny_storeName_cell I.ok.kind hk hc z (fun h' hc' hs=>?_)
  obtain ⟨oc,hoc,hocd⟩:=id z
  refine h { s with heap:=h' } ⟨I.ok,I.os,I.bare,⟨fun b o e n hb hx=>?_,fun b o e n hb hx=>?_,I.base.free,fun b o e hx=>?_,I.base.tups,I.base.frzs,I.base.tbls⟩,⟨m,hn.sameBut hs (Ne.symm (cne x c hc)),fun j y v' e1 e2 e3=>?_⟩,fun y c' e=>?_,I.free,I.freeC,fun p hp=>?_,tracked ⟨oc,hoc,I.freeC x c hc⟩ hs,by simpa using I.len⟩ ⟨c,hs,.inr hc⟩
  ·exact (hs.2 b (Nat.ne_of_lt (Nat.lt_of_lt_of_le (Heap.lt_size e) (I.ok.cab x c hfn hc)))).trans (I.base.keep b o e n hb hx)
  ·obtain ⟨sl,e1⟩:=I.base.slot b o e n hb hx
   exact ⟨sl,(hs.2 b (Nat.ne_of_lt (Nat.lt_of_lt_of_le (Heap.lt_size e) (I.ok.cab x c hfn hc)))).trans e1⟩
  ·obtain ⟨o',e1⟩:=I.base.there b o e hx
   exact ⟨o',(hs.2 b (Nat.ne_of_lt (Nat.lt_of_lt_of_le (Heap.lt_size e) (I.ok.cab x c hfn hc)))).trans e1⟩
  ·by_cases hj:j=i
   ·subst hj
    rw [hi] at e1; cases e1
    rw [List.getElem?_set_self hiσ] at e2
    cases e2
    exact ⟨u,r,.inr ⟨.inl hk,c,hc,hc'⟩⟩
   ·rw [List.getElem?_set_ne (Ne.symm hj)] at e2
    obtain ⟨u',r',q⟩:=hl j y v' e1 e2 e3
    refine ⟨u',r',?_⟩
    rcases q with q | ⟨k,c',e,z'⟩
    ·exact .inl q
    ·refine .inr ⟨k,c',e,z'.sameBut hs ?_⟩
     rintro rfl
     exact hj (Mp hN e1 (I.ok.inj _ _ _ e hc ▸ hi))
  ·by_cases hcc:c'=c
   ·subst hcc; exact ⟨_,hc'⟩
   ·obtain ⟨w2,z2⟩:=I.cell y c' e
    exact ⟨w2,z2.sameBut hs hcc⟩
  ·obtain ⟨e,n,ne,nf,d⟩:=I.pin p hp
   refine ⟨(hs.2 p.1 ?_).trans e,n,ne,nf,d⟩
   intro q
   rw [q,hoc] at e
   have q':oc=p.2:=Option.some.inj e
   exact d w' (by rw [← q']; exact hocd)
theorem Lo {M:Model} {A:Around} {E:Value→Shared→Prop} {i:Nat} {x:Str} {v:V} {u:Value} {Q:Unit→Shared→Prop} (I:Inv X pins σ H s) (hN:X.N.Nodup) (hi:X.N[i]?=some x) (hx:Loc X.env.scope x) (r:RelV v u)
 (h:∀ s',Inv X pins (σ.set i (some v)) H s'→Q () s') (hf:X.fn x=true∨X.env.scope.names.lookup x=some .local:=by first | exact .inl rfl | exact .inr rfl | assumption):wpAny M A (storeName X.env x u) Q E s :=
 Ol I hN hi hx r (fun s' I' _=>h s' I') hf
theorem Inv.call' {s':Shared} {ch:List Addr} (I:Inv X pins σ H s) (ho:s'.os=s.os) (u:Un (frs X.stack) ch H H' s.heap s'.heap) (hok:HOk X.prog X.w H' s'.heap) (hg:AllBare s'.gens)
 (hch:∀ b∈ch,(b∈X.ex∨X.s₀.heap.objs.size≤b)∧b≠X.env.locals∧(∀ x c,X.env.cells.lookup x=some c→c≠b)∧∀ p∈X.pn++pins,p.1≠b):Inv X pins σ H' s':=by
 obtain ⟨h',g',d',t',o'⟩:=s'
 have e:o'=s.os:=ho
 subst e
 exact I.call (g':=g') (t':=t') (d':=d') u hok hg hch
end
abbrev XK:=Value→Option Addr→Hp→Prop
abbrev St:=List (Option V)
abbrev VK:=V→Hp→Prop
abbrev TE:=St→Hp→VK→Prop
abbrev TT:=St→Hp→(Bool→Hp→Prop)→Prop
abbrev TA:=St→Hp→(List V→Hp→Prop)→Prop
structure Ends where
 nx:St→Hp→Prop
 rt:VK
 bk:St→Hp→Prop:=fun _ _=>False
 ct:St→Hp→Prop:=fun _ _=>False
abbrev TS:=Ends→St→Hp→Prop
def EP (X:Cx) (pins:List (Addr×Obj)) (σ:St) (Q:VK) (u:Value) (s':Shared):Prop:=∃ v H',Inv X pins σ H' s'∧RelV v u∧Q v H'
def TP (X:Cx) (pins:List (Addr×Obj)) (σ:St) (Q:Bool→Hp→Prop) (b:Bool) (s':Shared):Prop:=∃ H',Inv X pins σ H' s'∧Q b H'
def AP (X:Cx) (pins:List (Addr×Obj)) (σ:St) (Q:List V→Hp→Prop) (us:List Value) (s':Shared):Prop:=∃ vs H',Inv X pins σ H' s'∧Vals vs us∧Q vs H'
def SP (X:Cx) (pins:List (Addr×Obj)) (D:Ends) (f:Flow) (s':Shared):Prop :=
 match f with
 | .next=>∃ σ' H',Inv X pins σ' H' s'∧D.nx σ' H'
 | .brk=>∃ σ' H',Inv X pins σ' H' s'∧D.bk σ' H'
 | .cont=>∃ σ' H',Inv X pins σ' H' s'∧D.ct σ' H'
 | .ret u=>∃ v σ' H',Inv X pins σ' H' s'∧RelV v u∧D.rt v H'
def PE (X:Cx) (e:Expr) (t:TE):Prop :=
 ∀ (pins:List (Addr×Obj)) (s:Shared) (σ:St) (H:Hp) (Q:VK),Inv X pins σ H s→t σ H Q→wpAny (model X.prog X.w) X.A (eval e X.env) (EP X pins σ Q) X.xe s
def PT (X:Cx) (e:Expr) (t:TT):Prop :=
 ∀ (pins:List (Addr×Obj)) (s:Shared) (σ:St) (H:Hp) (Q:Bool→Hp→Prop),Inv X pins σ H s→t σ H Q→wpAny (model X.prog X.w) X.A (isTrue e X.env (eval e X.env)) (TP X pins σ Q) X.xe s
def PW (X:Cx) (e:Expr) (t:TT):Prop :=
 ∀ (whole:Sem Value) (pins:List (Addr×Obj)) (s:Shared) (σ:St) (H:Hp) (Q:Bool→Hp→Prop),Inv X pins σ H s→t σ H Q→wpAny (model X.prog X.w) X.A (isTrue e X.env whole) (TP X pins σ Q) X.xe s
theorem PW.pt {X:Cx} {e:Expr} {t:TT} (h:PW X e t):PT X e t:=h _
def PA (X:Cx) (es:List Expr) (t:TA):Prop :=
 ∀ (pos:Pos) (pins:List (Addr×Obj)) (s:Shared) (σ:St) (H:Hp) (Q:List V→Hp→Prop),Inv X pins σ H s→t σ H Q→wpAny (model X.prog X.w) X.A (spliced (backTo pos (starEach es X.env))) (AP X pins σ Q) X.xe s
def PS (X:Cx) (st:Stmt) (t:TS):Prop :=
 ∀ (pins:List (Addr×Obj)) (s:Shared) (σ:St) (H:Hp) (D:Ends),Inv X pins σ H s→t D σ H→wpAny (model X.prog X.w) X.A (exec st X.env) (SP X pins D) X.xe s
def PSs (X:Cx) (st:List Stmt) (t:TS):Prop :=
 ∀ (pins:List (Addr×Obj)) (s:Shared) (σ:St) (H:Hp) (D:Ends),Inv X pins σ H s→t D σ H→wpAny (model X.prog X.w) X.A (execs st X.env) (SP X pins D) X.xe s
theorem thn {α:Type} {t:Sem α} {Q Q':α→Shared→Prop} {M:Model} {A:Around} {E:Value→Shared→Prop} {s:Shared} (h:wpAny M A t Q E s) (hQ:∀ a s,Q a s→Q' a s):wpAny M A t Q' E s:=wpAny_mono h hQ fun _ _ x=>x
section
variable {X:Cx}
theorem bin {a b:Expr} {ta tb:TE} (ha:PE X a ta) (hb:PE X b tb) {pins:List (Addr×Obj)} {s:Shared} {σ:St} {H:Hp} {R:V→V→Hp→Prop} (I:Inv X pins σ H s) (h:ta σ H fun x H1=>tb σ H1 fun y H2=>R x y H2)
 {α:Type} {Q:α→Shared→Prop} {f:Value→Value→Sem α}
 (hf:∀ v u s2 x y H2,Inv X pins σ H2 s2→RelV x v→RelV y u→R x y H2→wpAny (model X.prog X.w) X.A (f v u) Q X.xe s2) :
 wpAny (model X.prog X.w) X.A (eval a X.env) (fun v s₁=>wpAny (model X.prog X.w) X.A (eval b X.env) (fun u s₂=>wpAny (model X.prog X.w) X.A (f v u) Q X.xe s₂) X.xe s₁) X.xe s:=by
 refine thn (ha pins s σ H _ I h) fun v s1 ⟨x,H1,I1,r1,q1⟩=>?_
 refine thn (hb pins s1 σ H1 _ I1 q1) fun u s2 ⟨y,H2,I2,r2,q2⟩=>?_
 exact hf v u s2 x y H2 I2 r1 r2 q2
def B8 (i:Nat):TE:=fun σ H Q=>∃ v,σ[i]?=some (some v)∧Q v H
def tC (v:V):TE:=fun _ H Q=>Q v H
theorem Jb1 {i:Nat} {x:Str} {pos:Pos} (hN:X.N[i]?=some x) (hv:Vis X.env.scope x) (hd:(x == ("__debug__":Str))=false:=by decide) (hcd:(x == ("__classdict__":Str))=false:=by decide):PE X (.Name x pos) (B8 i):=by
 intro pins s σ H Q I h
 obtain ⟨v,e,h⟩:=h
 obtain ⟨m,hn,hl⟩:=I.loc
 obtain ⟨u,r,l⟩:=hl i x v hN e hv
 have fin:EP X pins σ Q u s:=⟨v,H,I,r,h⟩
 rcases l with ⟨hk,hm⟩ | ⟨hk,c,hc,hcell⟩
 ·exact wpAny_Name (wpAny_loadName_local I.ok.kind hk hn hm fin) hd
 ·rcases hk with hk | hk
  ·exact wpAny_Name (wpAny_loadName_cell I.ok.kind hk hc hcell fin) hd
  ·exact wpAny_Name (wpAny_loadName_free I.ok.kind hk hc hcell fin hcd) hd
theorem Ai {i j pos}:PE X (.Constant (.int i) j pos) (tC (.int i)):=fun _ _ _ H _ I h=>wpAny_Constant_int ⟨.int i,H,I.tok _,⟨_,rfl⟩,h⟩
theorem K1 {b j pos}:PE X (.Constant (.bool b) j pos) (tC (.bl b)):=fun _ _ _ H _ I h=>Constant_bool ⟨.bl b,H,I,rfl,h⟩
theorem Dy {j pos}:PE X (.Constant .none j pos) (tC .non):=fun _ _ _ H _ I h=>Constant_none ⟨.non,H,I,rfl,h⟩
theorem Ak {x j pos}:PE X (.Constant (.str x) j pos) (tC (.str x)):=fun _ _ _ H _ I h=>Calls.Constant_str ⟨.str x,H,I.tok _,⟨_,rfl⟩,h⟩
def Gl (X:Cx) (x:Str):Prop:=X.env.kindOf x=some .globalImplicit
theorem Ie {E:Value→Shared→Prop} {pins:List (Addr×Obj)} {s:Shared} {σ:St} {H:Hp} {x:Str} {u:Value} {pos:Pos} {Q:Value→Shared→Prop} (I:Inv X pins σ H s) (hg:Gl X x) (hm:X.mg x=some u) (h:Q u s)
 (hd:(x == ("__debug__":Str))=false:=by decide):wpAny (model X.prog X.w) X.A (eval (.Name x pos) X.env) Q E s :=
 Calls.Name_function_global I.ok.kind hg (Calls.loadGlobal_global (by rw [I.ok.glob]; exact I.mod.glob.keeps I.bk) hm h) hd
theorem Tb {E:Value→Shared→Prop} {pins:List (Addr×Obj)} {s:Shared} {σ:St} {H:Hp} {x:Str} {u:Value} {pos:Pos} {Q:Value→Shared→Prop} (I:Inv X pins σ H s) (hg:Gl X x) (hm:X.mg x=none) (hv:bootBuiltins x=some u) (h:Q u s)
 (hn:x≠"__name__":=by decide) (hd:(x == ("__debug__":Str))=false:=by decide):wpAny (model X.prog X.w) X.A (eval (.Name x pos) X.env) Q E s:=by
 obtain ⟨mb,h1,h2⟩:=I.mod.blt
 exact Calls.Name_function_global I.ok.kind hg (Calls.loadGlobal_builtin (by rw [I.ok.glob]; exact I.mod.glob.keeps I.bk) hm (by rw [I.ok.blt]; exact h1.keeps I.bk) ((h2 x hn).trans hv) h) hd
theorem Lh {x:Str} {v:V} {u:Value} {pos:Pos} (hg:Gl X x) (hm:X.mg x=some u) (r:RelV v u) (hd:(x == ("__debug__":Str))=false:=by decide):PE X (.Name x pos) (tC v) :=
 fun _ _ _ H _ I h=>Ie I hg hm ⟨v,H,I,r,h⟩ hd
def t2I (ta tb:TE) (k:Int→Int→Hp→Prop):St→Hp→Prop:=fun σ H=>ta σ H fun x H1=>tb σ H1 fun y H2=>∃ i j,x=.int i∧y=.int j∧k i j H2
def Jgg (ta tb:TE):TE:=fun σ H Q=>t2I ta tb (fun i j H2=>Q (.int (i + j)) H2) σ H
def Jf7 (ta tb:TE):TE:=fun σ H Q=>t2I ta tb (fun i j H2=>Q (.int (i - j)) H2) σ H
def Jgb (ta tb:TE):TE:=fun σ H Q=>t2I ta tb (fun i j H2=>(-(2 ^ 64) < i∧i < 2 ^ 64)∧Q (.int (i * j)) H2) σ H
variable {a b:Expr} {ta tb:TE} {pos:Pos}
def PC (X:Cx) (op:CmpOp) (a b:Expr) (t:TE):Prop :=
 ∀ (pins:List (Addr×Obj)) (s:Shared) (σ:St) (H:Hp) (Q:VK),Inv X pins σ H s→t σ H Q →
  wpAny (model X.prog X.w) X.A (eval a X.env) (fun v s₁=>wpAny (model X.prog X.w) X.A (eval b X.env) (fun u s₂=>wpAny (model X.prog X.w) X.A (compareOp op v u) (EP X pins σ Q) X.xe s₂) X.xe s₁) X.xe s
theorem Ra (b:Expr) {op:CmpOp} (h:op≠.In) (h2:op≠.NotIn):behindInMarks op b=false:=by
 have e1:(op == CmpOp.In)=false:=by cases op <;> first | rfl | exact absurd rfl h
 have e2:(op == CmpOp.NotIn)=false:=by cases op <;> first | rfl | exact absurd rfl h2
 cases b <;> simp [behindInMarks,e1,e2]
def Sj (p:Int→Int→Bool) (ta tb:TE):TE:=fun σ H Q=>t2I ta tb (fun i j H2=>Q (.bl (p i j)) H2) σ H
abbrev tLt:TE→TE→TE:=Sj fun i j=>decide (i < j)
abbrev tLe:TE→TE→TE:=Sj fun i j=>decide (i≤j)
abbrev tGt:TE→TE→TE:=Sj fun i j=>decide (j < i)
abbrev tGe:TE→TE→TE:=Sj fun i j=>decide (j≤i)
abbrev Jel:TE→TE→TE:=Sj fun i j=>decide (i=j)
abbrev Jga:TE→TE→TE:=Sj fun i j=>!decide (i=j)
theorem Jb5 {op:CmpOp} {p:Int→Int→Bool} (ha:PE X a ta) (hb:PE X b tb)
 (rule:∀ (i j:Int) (t u:Tok) (Q:Value→Shared→Prop) (s:Shared),Q (.bool (p i j)) s→wpAny (model X.prog X.w) X.A (compareOp op (.int i t) (.int j u)) Q X.xe s):PC X op a b (Sj p ta tb):=by
 intro pins s σ H Q I h
 refine bin ha hb I h fun v u s2 x y H2 I2 rx ry q=>?_
 obtain ⟨i,j,rfl,rfl,q⟩:=q
 obtain ⟨t,rfl⟩:=rx
 obtain ⟨t',rfl⟩:=ry
 exact rule i j t t' _ s2 ⟨.bl _,H2,I2,rfl,q⟩
theorem Jb6 (ha:PE X a ta) (hb:PE X b tb):PC X .Eq a b (Jel ta tb):=Jb5 ha hb fun _ _ _ _ _ _ h=>eq_int (by rw [Bool.beq_eq_decide_eq]; exact h)
def Jgc (ta:TE):TE:=fun σ H Q=>ta σ H fun x H1=>Q (.bl (decide (x=.non))) H1
def Jc8 (ta:TE):TE:=fun σ H Q=>ta σ H fun x H1=>Q (.bl (!decide (x=.non))) H1
theorem RelV.none_iff {x:V} {v:Value} (r:RelV x v):(v == Value.none)=decide (x=.non):=by
 cases x with
 | non=>cases r; rfl
 | bl _=>cases r; rfl
 | int _=>obtain ⟨t,rfl⟩:=r; rfl
 | str _=>obtain ⟨t,rfl⟩:=r; rfl
 | byt _=>obtain ⟨t,rfl⟩:=r; rfl
 | flt _=>obtain ⟨t,rfl⟩:=r; rfl
 | ref _=>cases r; rfl
 | ty _=>cases r; rfl
theorem Zr {j pos'} (ha:PE X a ta):PC X .IsNot a (.Constant .none j pos') (Jc8 ta):=by
 intro pins s σ H Q I h
 refine thn (ha pins s σ H _ I h) fun v s1 ⟨x,H1,I1,r1,q1⟩=>?_
 exact Constant_none (isnot_none_gen ⟨.bl _,H1,I1,by rw [r1.none_iff]; rfl,q1⟩)
def tB (t:TE):TT:=fun σ H Q=>t σ H fun x H1=>∃ c,x=.bl c∧Q c H1
theorem Jb3 {op:CmpOp} {t:TE} (h:PC X op a b t) (h1:behindInMarks op b=false:=by first | exact Ra _ (by decide) (by decide) | rfl):PE X (.Compare a [op] [b] pos) t:=fun pins s σ H Q I hw=>wpAny_Compare1 (h pins s σ H Q I hw) h1
theorem Dl {op:CmpOp} {t:TE} (h:PC X op a b t) (h1:behindInMarks op b=false:=by first | exact Ra _ (by decide) (by decide) | rfl):PT X (.Compare a [op] [b] pos) (tB t):=by
 intro pins s σ H Q I hw
 refine wpAny_isTrue_Compare1 (thn (h pins s σ H _ I hw) fun v s1 h1=>thn h1 fun u s2 h2=>thn h2 fun c s3 ⟨x,H1,I1,r1,q1⟩=>?_) h1
 obtain ⟨d,rfl,q⟩:=q1
 cases r1
 exact wpAny_truthy_bool ⟨H1,I1,q⟩
theorem Gn {e:Expr} {t:TE} (h:PE X e t) (he:∀ whole,isTrue e X.env whole=(do let v ← whole; standAt e.pos; holding [v] (truthy v)):=by intro _; rfl):PT X e (tB t):=by
 intro pins s σ H Q I hw
 refine isTrue_plain (thn (h pins s σ H _ I hw) fun v s1 ⟨x,H1,I1,r1,q1⟩=>?_) (he _)
 obtain ⟨d,rfl,q⟩:=q1
 cases r1
 exact wpAny_truthy_bool ⟨H1,I1,q⟩
variable {tA tB':TT} {rest:List Expr}
def Jev (t u:TT):TT:=fun σ H Q=>t σ H fun c H1=>if c=true then u σ H1 Q else Q false H1
def tOr (t u:TT):TT:=fun σ H Q=>t σ H fun c H1=>if c=true then Q true H1 else u σ H1 Q
def Jeh (t:TT):TT:=fun σ H Q=>t σ H fun c H1=>Q (!c) H1
theorem Jq (ha:PT X a tA):PW X (.BoolOp .And [a] pos) tA:=by
 intro wh pins s σ H Q I h
 refine isTrue_and (thn (ha pins s σ H Q I h) fun c s1 e=>?_)
 cases c with
 | true=>exact isTrue_and_nil e
 | false=>exact e
theorem Xh (ha:PT X a tA):PW X (.BoolOp .Or [a] pos) tA:=by
 intro wh pins s σ H Q I h
 refine isTrue_or (thn (ha pins s σ H Q I h) fun c s1 e=>?_)
 cases c with
 | false=>exact isTrue_or_nil e
 | true=>exact e
theorem Mg (ha:PT X a tA) (hb:PW X (.BoolOp .And (b :: rest) pos) tB'):PW X (.BoolOp .And (a :: b :: rest) pos) (Jev tA tB'):=by
 intro wh pins s σ H Q I h
 refine isTrue_and (thn (ha pins s σ H _ I h) fun c s1 ⟨H1,I1,q1⟩=>?_)
 cases c with
 | true=>exact hb wh pins s1 σ H1 Q I1 q1
 | false=>exact ⟨H1,I1,q1⟩
theorem Ja8 (ha:PT X a tA) (hb:PW X (.BoolOp .Or (b :: rest) pos) tB'):PW X (.BoolOp .Or (a :: b :: rest) pos) (tOr tA tB'):=by
 intro wh pins s σ H Q I h
 refine isTrue_or (thn (ha pins s σ H _ I h) fun c s1 ⟨H1,I1,q1⟩=>?_)
 cases c with
 | true=>exact ⟨H1,I1,q1⟩
 | false=>exact hb wh pins s1 σ H1 Q I1 q1
theorem Jbz (ha:PT X a tA):PT X (.UnaryOp .Not a pos) (Jeh tA):=by
 intro pins s σ H Q I h
 exact isTrue_not (ha pins s σ H (fun c H1=>Q (!c) H1) I h)
def Jdg (ta tb:TE):TE:=fun σ H Q=>ta σ H fun x H1=>∃ c,x=.bl c∧if c=true then tb σ H1 Q else Q (.bl false) H1
def Jf9 (ta tb:TE):TE:=fun σ H Q=>ta σ H fun x H1=>∃ c,x=.bl c∧if c=true then Q (.bl true) H1 else tb σ H1 Q
def Jfv (ta:TE):TE:=fun σ H Q=>ta σ H fun x H1=>∃ c,x=.bl c∧Q (.bl (!c)) H1
theorem Jb2 {op} {t:TE} (h:PE X a t):PE X (.BoolOp op [a] pos) t:=fun pins s σ H Q I hw=>BoolOp_one (h pins s σ H Q I hw)
theorem Jb4 (ha:PE X a ta) (hb:PE X (.BoolOp .And (b :: rest) pos) tb):PE X (.BoolOp .And (a :: b :: rest) pos) (Jdg ta tb):=by
 intro pins s σ H Q I h
 refine BoolOp_and (thn (ha pins s σ H _ I h) fun v s1 ⟨x,H1,I1,r1,q1⟩=>?_)
 obtain ⟨c,rfl,q1⟩:=q1
 cases r1
 refine wpAny_truthy_bool ?_
 cases c with
 | true=>exact hb pins s1 σ H1 Q I1 q1
 | false=>exact ⟨.bl false,H1,I1,rfl,q1⟩
def tIf (t:TT) (ta tb:TE):TE:=fun σ H Q=>t σ H fun c H1=>if c=true then ta σ H1 Q else tb σ H1 Q
end
def SqL (K:W.Frag) (H:Hp) (a:Addr) (xs:List V):Prop :=
 Rd H a (.lst xs) ∨
  ∃ (o:Obj) (its:Array Value) (n:Nat),K.lookup a=some o∧o.cls=.type "list"∧o.dict=none∧o.data=.seq its n∧its.size≤sizeLine∧Vals xs its.toList
def SqT (K:W.Frag) (H:Hp) (a:Addr) (xs:List V):Prop :=
 Rd H a (.tup xs) ∨
  ∃ (o:Obj) (its:Array Value) (n:Nat),K.lookup a=some o∧o.cls=.type "tuple"∧o.data=.seq its n∧its.size≤sizeLine∧Vals xs its.toList
def Jfo:Value→Option V
 | .none=>some .non
 | .bool b=>some (.bl b)
 | .int i _=>some (.int i)
 | .str x _=>some (.str x)
 | .bytes b _=>some (.byt b)
 | .float b _=>some (.flt b)
 | .ref a=>some (.ref a)
 | .type n=>some (.ty n)
 | _=>none
theorem RelV.abs {x:V} {u:Value} (r:RelV x u):Jfo u=some x:=by
 cases x with
 | non=>cases r; rfl
 | bl _=>cases r; rfl
 | int _=>obtain ⟨t,rfl⟩:=r; rfl
 | str _=>obtain ⟨t,rfl⟩:=r; rfl
 | byt _=>obtain ⟨t,rfl⟩:=r; rfl
 | flt _=>obtain ⟨t,rfl⟩:=r; rfl
 | ref _=>cases r; rfl
 | ty _=>cases r; rfl
theorem RelV.inj {x y:V} {u:Value} (r:RelV x u) (q:RelV y u):x=y:=Option.some.inj (r.abs.symm.trans q.abs)
theorem Vals.inj:∀ {xs ys:List V} {us:List Value},Vals xs us→Vals ys us→xs=ys
 | _,_,_,.nil,.nil=>rfl
 | _,_,_,.cons r t,.cons r' t'=>by rw [r.inj r',Vals.inj t t']
section
variable {X:Cx} {pins:List (Addr×Obj)} {σ:St} {H:Hp} {s:Shared} {a:Addr} {xs ys:List V}
theorem SqL.of {K:W.Frag} (h:H a=some (.lst xs)):SqL K H a xs:=.inl (.inl h)
theorem SqT.of {K:W.Frag} (h:H a=some (.tup xs)):SqT K H a xs:=.inl (.inl h)
theorem Inv.list (I:Inv X pins σ H s) (h:SqL X.K H a xs):∃ its:List Value,Vals xs its∧PlainL s.heap a its.toArray∧xs.length≤sizeLine:=by
 rcases h with h | ⟨o,its,n,hk,hc,hd,hs,hz,r⟩
 ·obtain ⟨z,its,n,r,e⟩:=h.ok I.hok
  exact ⟨its,r,⟨_,n,e,rfl,rfl,rfl⟩,z⟩
 ·refine ⟨its.toList,r,⟨o,n,I.kIn a o hk,hc,hd,by simpa using hs⟩,?_⟩
  have e:=r.length
  simp only [Array.length_toList] at e
  omega
theorem Inv.tuple (I:Inv X pins σ H s) (h:SqT X.K H a xs):∃ its:List Value,Vals xs its∧IsTup s.heap a its.toArray∧xs.length≤sizeLine:=by
 rcases h with h | ⟨o,its,n,hk,hc,hs,hz,r⟩
 ·obtain ⟨z,its,r,p⟩:=h.ok I.hok
  exact ⟨its,r,p,z⟩
 ·refine ⟨its.toList,r,⟨o,I.kIn a o hk,hc,n,by simpa using hs⟩,?_⟩
  have e:=r.length
  simp only [Array.length_toList] at e
  omega
theorem Inv.list_inj (I:Inv X pins σ H s) (h:SqL X.K H a xs) (h':SqL X.K H a ys):xs=ys:=by
 obtain ⟨its,r,⟨o,n,e,_,_,d⟩,_⟩:=I.list h
 obtain ⟨its',r',⟨o',n',e',_,_,d'⟩,_⟩:=I.list h'
 rw [e] at e'; cases e'
 rw [d] at d'
 injection d' with d1 _
 have:its=its':=by simpa using congrArg Array.toList d1
 subst this
 exact r.inj r'
theorem Inv.tuple_inj (I:Inv X pins σ H s) (h:SqT X.K H a xs) (h':SqT X.K H a ys):xs=ys:=by
 obtain ⟨its,r,⟨o,e,_,n,d⟩,_⟩:=I.tuple h
 obtain ⟨its',r',⟨o',e',_,n',d'⟩,_⟩:=I.tuple h'
 rw [e] at e'; cases e'
 rw [d] at d'
 injection d' with d1 _
 have:its=its':=by simpa using congrArg Array.toList d1
 subst this
 exact r.inj r'
end
abbrev Cx.wish (X:Cx) (E:Value→Shared→Prop):Cx:={ X with xe:=E }
abbrev Cx.nox (X:Cx):Cx:=X.wish fun _ _=>False
theorem Cx.Ok.wish {X:Cx} (ok:X.Ok) (E:Value→Shared→Prop):(X.wish E).Ok :=
 ⟨ok.mod,ok.kind,ok.glob,ok.blt,ok.above,ok.inj,ok.has,ok.cab,ok.hd,ok.frames,ok.stk,ok.exf,ok.bs,ok.bsz,ok.noex,ok.exfs,ok.funs,ok.frf⟩
theorem Cx.Ok.unwish {X:Cx} {E:Value→Shared→Prop} (ok:(X.wish E).Ok):X.Ok :=
 ⟨ok.mod,ok.kind,ok.glob,ok.blt,ok.above,ok.inj,ok.has,ok.cab,ok.hd,ok.frames,ok.stk,ok.exf,ok.bs,ok.bsz,ok.noex,ok.exfs,ok.funs,ok.frf⟩
section
variable {X:Cx} {pins:List (Addr×Obj)} {σ:St} {H:Hp} {s:Shared} {E:Value→Shared→Prop}
theorem Inv.wish (I:Inv X pins σ H s) (E:Value→Shared→Prop):Inv (X.wish E) pins σ H s:=⟨I.ok.wish E,I.os,I.bare,I.base,I.loc,I.cell,I.free,I.freeC,I.pin,I.hok,I.len⟩
theorem Inv.unwish (I:Inv (X.wish E) pins σ H s):Inv X pins σ H s:=⟨I.ok.unwish,I.os,I.bare,I.base,I.loc,I.cell,I.free,I.freeC,I.pin,I.hok,I.len⟩
theorem SP.unwish {D:Ends} {f:Flow} {s':Shared} (h:SP (X.wish E) pins D f s'):SP X pins D f s':=by
 cases f with
 | next=>obtain ⟨σ',H',I,q⟩:=h; exact ⟨σ',H',I.unwish,q⟩
 | brk=>obtain ⟨σ',H',I,q⟩:=h; exact ⟨σ',H',I.unwish,q⟩
 | cont=>obtain ⟨σ',H',I,q⟩:=h; exact ⟨σ',H',I.unwish,q⟩
 | ret u=>obtain ⟨v,σ',H',I,r,q⟩:=h; exact ⟨v,σ',H',I.unwish,r,q⟩
theorem PSs.nox {st:List Stmt} {t:TS} (h:PSs X.nox st t):PSs X st t:=fun pins s σ H D I hw =>
 wpAny_mono (h pins s σ H D (I.wish _) hw) (fun _ _ q=>q.unwish) fun _ _ z=>False.elim z
end
section
variable {X:Cx} {st:Stmt} {rest:List Stmt} {t u:TS} {e:Expr} {te:TE} {pos:Pos}
def Jc9:TS:=fun D σ H=>D.nx σ H
def Jbl (t u:TS):TS:=fun D σ H=>t { D with nx:=u D } σ H
theorem Aq:PSs X [] Jc9:=fun _ _ σ H _ I h=>wpAny_execs_nil ⟨σ,H,I,h⟩
theorem Ad (h1:PS X st t) (h2:PSs X rest u):PSs X (st :: rest) (Jbl t u):=by
 intro pins s σ H D I h
 refine wpAny_execs_cons (thn (h1 pins s σ H { D with nx:=u D } I h) fun f s1 q=>?_)
 cases f with
 | next =>
   obtain ⟨σ',H',I',q⟩:=q
   exact h2 pins s1 σ' H' D I' q
 | ret v=>exact q
 | brk=>exact q
 | cont=>exact q
theorem Ah (h1:PS X st t):PSs X [st] t:=by
 intro pins s σ H D I h
 refine wpAny_execs_cons (thn (h1 pins s σ H D I h) fun f s1 q=>?_)
 cases f with
 | next=>exact wpAny_execs_nil q
 | ret v=>exact q
 | brk=>exact q
 | cont=>exact q
def Jet:TS:=fun D σ H=>D.bk σ H
def Jfw:TS:=fun D σ H=>D.ct σ H
theorem Inv.quiet {pins:List (Addr×Obj)} {σ:St} {H:Hp} {s:Shared} (I:Inv X pins σ H s):interactive X.env=false:=by simp [interactive,I.ok.kind]
def Jdc (te:TE):TS:=fun D σ H=>te σ H fun _ H1=>D.nx σ H1
theorem Ba (he:PE X e te) (hs:swapsWith e none pos.line X.env=pure false:=by rfl):PS X (.Expr e pos) (Jdc te):=by
 intro pins s σ H D I h
 exact wpAny_Expr_any (thn (he pins s σ H _ I h) fun v s1 ⟨x,H1,I1,r1,q1⟩=>⟨σ,H1,I1,q1⟩) I.quiet hs
def Jeg (te:TE):TS:=fun D σ H=>te σ H D.rt
theorem Au (he:PE X e te):PS X (.Return (some e) pos) (Jeg te):=by
 intro pins s σ H D I h
 exact wpAny_Return_some (thn (he pins s σ H _ I h) fun v s1 ⟨x,H1,I1,r1,q1⟩=>⟨x,σ,H1,I1,r1,q1⟩)
def Jfu:TS:=fun D _ H=>D.rt .non H
def Jbm (c:TT) (t u:TS):TS:=fun D σ H=>c σ H fun b H1=>if b=true then t D σ H1 else u D σ H1
theorem A5 {c:Expr} {a b:List Stmt} {tc:TT} (hc:PT X c tc) (ha:PSs X a t) (hb:PSs X b u):PS X (.If c a b pos) (Jbm tc t u):=by
 intro pins s σ H D I h
 refine wpAny_If (thn (hc pins s σ H _ I h) fun d s1 ⟨H1,I1,q1⟩=>?_)
 cases d with
 | true=>exact ha pins s1 σ H1 D I1 q1
 | false=>exact hb pins s1 σ H1 D I1 q1
def Jei:TS:=fun _ _ _=>False
end
abbrev TG:=V→St→Hp→(St→Hp→Prop)→Prop
abbrev TGs:=List V→St→Hp→(St→Hp→Prop)→Prop
def PG (X:Cx) (target:Expr) (t:TG):Prop :=
 ∀ (pins:List (Addr×Obj)) (s:Shared) (σ:St) (H:Hp) (v:V) (u:Value) (Q:St→Hp→Prop),Inv X pins σ H s→RelV v u→t v σ H Q →
  wpAny (model X.prog X.w) X.A (assign target X.env u) (fun _ s'=>∃ σ' H',Inv X pins σ' H' s'∧Q σ' H') X.xe s
def PGs (X:Cx) (ts:List Expr) (t:TGs):Prop :=
 ∀ (pins:List (Addr×Obj)) (s:Shared) (σ:St) (H:Hp) (vs:List V) (us:List Value) (Q:St→Hp→Prop),Inv X pins σ H s→Vals vs us→t vs σ H Q →
  wpAny (model X.prog X.w) X.A (assignInOrder ((assignEach ts X.env).map (·.2)) us) (fun _ s'=>∃ σ' H',Inv X pins σ' H' s'∧Q σ' H') X.xe s
abbrev Jc1:=V→V→V→Hp→(Hp→Prop)→Prop
def Jgq (X:Cx) (t:Jc1):Prop :=
 ∀ (pins:List (Addr×Obj)) (s:Shared) (σ:St) (H:Hp) (o i v:V) (ov iv u:Value) (Q:Hp→Prop),Inv X pins σ H s→RelV o ov→RelV i iv→RelV v u→t o i v H Q →
  wpAny (model X.prog X.w) X.A (setItem ov iv u) (fun _ s'=>∃ H',Inv X pins σ H' s'∧Q H') X.xe s
abbrev TIp:=V→V→Hp→VK→Prop
def PIp (X:Cx) (op:Operator) (t:TIp):Prop :=
 ∀ (pins:List (Addr×Obj)) (s:Shared) (σ:St) (H:Hp) (x y:V) (v u:Value) (Q:VK),Inv X pins σ H s→RelV x v→RelV y u→t x y H Q →
  wpAny (model X.prog X.w) X.A (inplaceOp op v u) (EP X pins σ Q) X.xe s
section
variable {X:Cx} {pos:Pos}
def Yr (i:Nat):TG:=fun v σ H Q=>Q (σ.set i (some v)) H
theorem Ek {i:Nat} {x:Str} (hN:X.N.Nodup) (hi:X.N[i]?=some x) (hx:Loc X.env.scope x) (hf:X.fn x=true∨X.env.scope.names.lookup x=some .local:=by first | exact .inl rfl | exact .inr rfl | assumption):PG X (.Name x pos) (Yr i):=by
 intro pins s σ H v u Q I r h
 exact wpAny_assign_Name (Lo I hN hi hx r (fun s' I'=>⟨_,H,I',h⟩) hf)
def Jgo:TGs:=fun vs σ H Q=>vs=[]∧Q σ H
def Jf2 (t:TG) (u:TGs):TGs:=fun vs σ H Q=>∃ v r,vs=v :: r∧t v σ H fun σ' H'=>u r σ' H' Q
def Jgm (K:W.Frag) (n:Nat) (t:TGs):TG:=fun v σ H Q=>∃ a xs,v=.ref a∧SqT K H a xs∧xs.length=n∧t xs σ H Q
def Jgn (to ti:TE) (t:Jc1):TG:=fun v σ H Q=>to σ H fun o H1=>ti σ H1 fun i H2=>t o i v H2 fun H3=>Q σ H3
def Jdf (te:TE) (g:TG):TS:=fun D σ H=>te σ H fun x H1=>g x σ H1 D.nx
theorem A3 {i:Nat} {x:Str} {e:Expr} {te:TE} {pos':Pos} (hN:X.N.Nodup) (hi:X.N[i]?=some x) (hx:Loc X.env.scope x) (he:PE X e te) (hs:swapsWith e (some (.Name x pos')) pos.line X.env=pure false:=by rfl) (hf:X.fn x=true∨X.env.scope.names.lookup x=some .local:=by first | exact .inl rfl | exact .inr rfl | assumption) :
 PS X (.Assign [.Name x pos'] e pos) (Jdf te (Yr i)):=by
 intro pins s σ H D I h
 refine wpAny_Assign_Name (thn (he pins s σ H _ I h) fun v s1 ⟨y,H1,I1,r1,q1⟩=>?_) hs
 exact Lo I1 hN hi hx r1 (fun s2 I2=>⟨_,H1,I2,q1⟩) hf
def Jf8 (i j:Nat) (ta:TA):TS:=fun D σ H=>ta σ H fun vs H1=>∃ v w,vs=[v,w]∧D.nx ((σ.set i (some v)).set j (some w)) H1
def Jgf (i:Nat) (te:TE) (ti:TIp):TS:=fun D σ H=>∃ x,σ[i]?=some (some x)∧te σ H fun y H1=>ti x y H1 fun z H2=>D.nx (σ.set i (some z)) H2
def Jfx (to ti te:TE) (tget:V→V→Hp→VK→Prop) (tip:TIp) (tset:Jc1):TS:=fun D σ H=>to σ H fun o H1=>ti σ H1 fun i H2=>tget o i H2 fun x H3=>te σ H3 fun y H4=>tip x y H4 fun z H5=>tset o i z H5 fun H6=>D.nx σ H6
def Jgr (X:Cx) (t:V→V→Hp→VK→Prop):Prop :=
 ∀ (pins:List (Addr×Obj)) (s:Shared) (σ:St) (H:Hp) (o i:V) (ov iv:Value) (Q:VK),Inv X pins σ H s→RelV o ov→RelV i iv→t o i H Q →
  wpAny (model X.prog X.w) X.A (getItem ov iv) (EP X pins σ Q) X.xe s
def ipI (f:Int→Int→Int):TIp:=fun x y H Q=>∃ i j,x=.int i∧y=.int j∧Q (.int (f i j)) H
def Jbj (c:TT) (tb:TS):TS:=fun D σ H=>∃ W:Nat→St→Hp→Prop,(∃ m,W m σ H)∧∀ m σ H,W m σ H →
 c σ H fun b H1=>if b=true then ∃ N:St→Hp→Prop,(∀ σ' H',N σ' H'→∃ m',m' < m∧W m' σ' H')∧tb { D with nx:=N,ct:=N,bk:=D.nx } σ H1 else D.nx σ H1
theorem Q1 {c:Expr} {body:List Stmt} {tc:TT} {tb:TS} (hp:PassesOwn (model X.prog X.w) X.A X.env X.xe) (hc:PT X c tc) (hb:PSs X body tb):PS X (.While c body [] pos) (Jbj tc tb):=by
 intro pins s σ H D I h
 obtain ⟨W,⟨m0,w0⟩,turn⟩:=h
 refine wpAny_While (codeAny_whileLoop (fun n s'=>∃ σ' H',Inv X pins σ' H' s'∧W n σ' H') ?_ m0 ⟨σ,H,I,w0⟩)
 rintro n s1 ⟨σ1,H1,I1,w1⟩
 refine wpAny_passesOwn hp (thn (hc pins s1 σ1 H1 _ I1 (turn n σ1 H1 w1)) fun b s2 ⟨H2,I2,q2⟩=>?_)
 cases b with
 | true =>
   obtain ⟨N,hN,q2⟩:=q2
   rw [if_pos rfl]
   refine wpAny_passesOwn hp (thn (hb pins s2 σ1 H2 _ I2 q2) fun f s3 q3=>?_)
   cases f with
   | next =>
     obtain ⟨σ3,H3,I3,n3⟩:=q3
     obtain ⟨m',hm,w3⟩:=hN σ3 H3 n3
     exact ⟨m',hm,σ3,H3,I3,w3⟩
   | cont =>
     obtain ⟨σ3,H3,I3,n3⟩:=q3
     obtain ⟨m',hm,w3⟩:=hN σ3 H3 n3
     exact ⟨m',hm,σ3,H3,I3,w3⟩
   | brk=>exact q3
   | ret v=>exact q3
 | false =>
   rw [if_neg Bool.false_ne_true]
   exact wpAny_execs_nil ⟨σ1,H2,I2,q2⟩
end
structure It where
 go:Nat→Hp→Prop
 yld:Nat→Hp→V→Hp→Prop
 stop:Nat→Hp→Prop
def Og (X:Cx) (pins:List (Addr×Obj)) (H:Hp) (b:Addr):Prop :=
 H b=none∧b≠X.env.locals∧b∉X.fs∧(b∈X.ex∨X.s₀.heap.objs.size≤b)∧(∀ x c,X.env.cells.lookup x=some c→c≠b)∧∀ p∈X.pn++pins,p.1≠b
theorem Inv.fpOk {X:Cx} {pins:List (Addr×Obj)} {σ:St} {H H':Hp} {s:Shared} {b:Addr} (I:Inv X pins σ H s) (hb:s.heap.objs.size≤b) (hn:H' b=none):Og X pins H' b:=by
 refine ⟨hn,Nat.ne_of_gt (Nat.lt_of_lt_of_le I.lt hb),I.nofs hb,.inr (Nat.le_trans I.sz hb),fun x c e z=>?_,fun p hp z=>?_⟩
 ·obtain ⟨v,q⟩:=I.cell x c e
  exact absurd (Nat.lt_of_lt_of_le q.lt (by rw [z]; exact hb)) (Nat.lt_irrefl _)
 ·exact absurd (Nat.lt_of_lt_of_le (Heap.lt_size (I.pin p hp).1) (by rw [z]; exact hb)) (Nat.lt_irrefl _)
structure Turn (P:Program) (w:World) (K:W.Frag) (tg:Expr) (J:It) (fp:List Addr) (it:Addr) (tn:Nat→Heap→Prop):Prop where
 mem:it∈fp
 obj:∀ i h,tn i h→∀ b∈fp,∃ o,h.get? b=some o∧∀ v,o.data≠.cell v
 keep:∀ i h h',tn i h→(∀ b∈fp,∀ o,h.get? b=some o→h'.get? b=some o)→tn i h'
 item:∀ (X:Cx),X.prog=P→X.w=w→X.K=K→X.calm=true→∀ (i:Nat) (pins:List (Addr×Obj)) (s:Shared) (σ:St) (H:Hp) (E:Value→Shared→Prop),Inv X pins σ H s→(∀ b∈fp,Og X pins H b)→tn i s.heap→J.go i H →
  wpAny (model P w) X.A (pyNext (.ref it)) (fun r s1=>∃ u,r=some u ∧
   wpAny (model P w) X.A (letOwnedTupleGo tg (.ref it) u) (fun _ s2=>∃ x H',Inv X pins σ H' s2∧RelV x u∧J.yld i H x H'∧tn (i + 1) s2.heap∧∀ b∈fp,H' b=none) E s1) E s
 done:∀ (X:Cx),X.prog=P→X.w=w→X.K=K→X.calm=true→∀ (i:Nat) (pins:List (Addr×Obj)) (s:Shared) (σ:St) (H:Hp) (E:Value→Shared→Prop),Inv X pins σ H s→(∀ b∈fp,Og X pins H b)→tn i s.heap→J.stop i H →
  wpAny (model P w) X.A (pyNext (.ref it)) (fun r s1=>r=none∧Inv X pins σ H s1) E s
 self:∀ (A:Around) (i:Nat) (s:Shared) (Q:Value→Shared→Prop) (E:Value→Shared→Prop),tn i s.heap→Q (.ref it) s→wpAny (model P w) A (pyIter (.ref it)) Q E s
abbrev TI:=St→Hp→(It→Hp→Prop)→Prop
def PIE (X:Cx) (pins:List (Addr×Obj)) (σ:St) (tg:Expr) (R:It→Hp→Prop) (itv:Value) (s2:Shared):Prop :=
 ∃ (it:Addr) (fp:List Addr) (tn:Nat→Heap→Prop) (J:It) (H':Hp),itv=.ref it∧Inv X pins σ H' s2∧Turn X.prog X.w X.K tg J fp it tn∧tn 0 s2.heap∧(∀ b∈fp,Og X pins H' b)∧R J H'
def PI (X:Cx) (tg iter:Expr) (wi:TI):Prop :=
 ∀ (pins:List (Addr×Obj)) (s:Shared) (σ:St) (H:Hp) (R:It→Hp→Prop),Inv X pins σ H s→wi σ H R →
  wpAny (model X.prog X.w) X.A (eval iter X.env) (fun v s1=>wpAny (model X.prog X.w) X.A (pyIter v) (PIE X pins σ tg R) X.xe s1) X.xe s
theorem Uz {M:Model} {A:Around} {E:Value→Shared→Prop} {s:Shared} {tg:Expr} {it:Addr} {u:Value} {o:Obj} {n:String} {vs:Array Value} {Q:Unit→Shared→Prop} (ho:s.heap.get? it=some o) (hc:o.cls=.type n) (hd:o.data=.fields vs)
 (hn:["enumerate","zip","dict_itemiterator","dict_reverseitemiterator","odict_iterator","itertools.zip_longest","itertools.pairwise"].contains n=false) (hQ:Q () s):wpAny M A (letOwnedTupleGo tg (.ref it) u) Q E s:=by
 unfold letOwnedTupleGo
 cases tg <;> first
  | exact wpAny_pure hQ
  | (cases u <;> first
   | exact wpAny_pure hQ
   | (refine wpAny_bind (wpAny_load ho ?_)
      rw [hc,hd]
      show wpAny M A (if (["enumerate","zip","dict_itemiterator","dict_reverseitemiterator","odict_iterator","itertools.zip_longest","itertools.pairwise"].contains n && vs[0]? == some (rawInt _))=true then _ else _) Q E s
      rw [if_neg (by intro h; rw [hn,Bool.false_and] at h; cases h)]
      exact wpAny_pure hQ))
def Itl (K:W.Frag) (a:Addr):It :=
 ⟨fun i H=>∃ xs x,SqL K H a xs∧xs[i]?=some x,fun i H x H'=>H'=H∧∀ xs,SqL K H a xs→xs[i]?=some x,fun i H=>∃ xs,SqL K H a xs∧xs.length≤i⟩
def Itt (K:W.Frag) (a:Addr):It :=
 ⟨fun i H=>∃ xs x,SqT K H a xs∧xs[i]?=some x,fun i H x H'=>H'=H∧∀ xs,SqT K H a xs→xs[i]?=some x,fun i H=>∃ xs,SqT K H a xs∧xs.length≤i⟩
def Itr (lo:Int) (n:Nat):It:=⟨fun i _=>i < n,fun i H x H'=>H'=H∧x=.int (lo + i),fun i _=>n≤i⟩
theorem Vd {P:Program} {w:World} {K:W.Frag} {tg:Expr} (a it:Addr):Turn P w K tg (Itl K a) [it] it (fun i h=>h.IsListIter it a i) where
 mem:=by simp
 obj:=fun i h st b hb=>by
  have e:b=it:=by simpa using hb
  subst e
  obtain ⟨o,e,c,d⟩:=st
  exact ⟨o,e,fun v z=>by rw [d] at z; cases z⟩
 keep:=fun i h h' st k=>st.at fun o e=>k it (by simp) o e
 item:=by
  intro X hP hw hK hc i pins s σ H E I hf st hg
  subst hP hw hK
  obtain ⟨xs,x,hq,hx⟩:=hg
  obtain ⟨its,rv,p,hz⟩:=I.list hq
  obtain ⟨u,hu,ru⟩:=rv.get hx
  obtain ⟨f0,f1,f2,f3,f4,f5⟩:=hf it (by simp)
  refine wpAny_pyNext_list_item st p.isList (x:=u) (by simpa using hu) fun h' st' sb=>?_
  have I1:Inv X pins σ H { s with heap:=h' }:=I.turned (t':=s.toks) (fun b o hb e=>(sb.2 b hb).trans e) f0 f1 f3 f4 f5
  obtain ⟨o,e,c,d⟩:=id st'
  exact ⟨u,rfl,Uz (s:={ s with heap:=h' }) e c d (by decide) ⟨x,H,I1,ru,⟨rfl,fun ys hy=>by rw [I.list_inj hy hq]; exact hx⟩,st',fun b hb=>(hf b hb).1⟩⟩
 done:=by
  intro X hP hw hK hc i pins s σ H E I hf st hg
  subst hP hw hK
  obtain ⟨xs,hq,hx⟩:=hg
  obtain ⟨its,rv,p,hz⟩:=I.list hq
  obtain ⟨f0,f1,f2,f3,f4,f5⟩:=hf it (by simp)
  have hl:=rv.length
  exact wpAny_pyNext_list_end (I.ok.hd hc) st p.isList (by simp; omega) fun h' eb=>⟨rfl,I.turned (t':=s.toks) (fun b o hb e=>eb b o hb e) f0 f1 f3 f4 f5⟩
 self:=fun _ _ _ _ _ st h=>wpAny_pyIter_listiter st h
theorem Sa {P:Program} {w:World} {K:W.Frag} {tg:Expr} (a it:Addr):Turn P w K tg (Itt K a) [it] it (fun i h=>h.IsTupleIter it a i) where
 mem:=by simp
 obj:=fun i h st b hb=>by
  have e:b=it:=by simpa using hb
  subst e
  obtain ⟨o,e,c,d⟩:=st
  exact ⟨o,e,fun v z=>by rw [d] at z; cases z⟩
 keep:=fun i h h' st k=>st.at fun o e=>k it (by simp) o e
 item:=by
  intro X hP hw hK hc i pins s σ H E I hf st hg
  subst hP hw hK
  obtain ⟨xs,x,hq,hx⟩:=hg
  obtain ⟨its,rv,p,hz⟩:=I.tuple hq
  obtain ⟨u,hu,ru⟩:=rv.get hx
  obtain ⟨f0,f1,f2,f3,f4,f5⟩:=hf it (by simp)
  refine wpAny_pyNext_tuple_item st (show s.heap.IsTuple a its.toArray from p) (x:=u) (by simpa using hu) fun h' st' sb=>?_
  have I1:Inv X pins σ H { s with heap:=h' }:=I.turned (t':=s.toks) (fun b o hb e=>(sb.2 b hb).trans e) f0 f1 f3 f4 f5
  obtain ⟨o,e,c,d⟩:=id st'
  exact ⟨u,rfl,Uz (s:={ s with heap:=h' }) e c d (by decide) ⟨x,H,I1,ru,⟨rfl,fun ys hy=>by rw [I.tuple_inj hy hq]; exact hx⟩,st',fun b hb=>(hf b hb).1⟩⟩
 done:=by
  intro X hP hw hK hc i pins s σ H E I hf st hg
  subst hP hw hK
  obtain ⟨xs,hq,hx⟩:=hg
  obtain ⟨its,rv,p,hz⟩:=I.tuple hq
  obtain ⟨f0,f1,f2,f3,f4,f5⟩:=hf it (by simp)
  have hl:=rv.length
  exact wpAny_pyNext_tuple_end (I.ok.hd hc) st (show s.heap.IsTuple a its.toArray from p) (by simp; omega) fun h' eb=>⟨rfl,I.turned (t':=s.toks) (fun b o hb e=>eb b o hb e) f0 f1 f3 f4 f5⟩
 self:=fun _ _ _ _ _ st h=>wpAny_pyIter_tupleiter st h
theorem Sb {P:Program} {w:World} {K:W.Frag} {tg:Expr} (it:Addr) (lo:Int) (n:Nat):Turn P w K tg (Itr lo n) [it] it (fun i h=>IsRangeIter h it (lo + (i:Nat) * 1) ((n:Int) - (i:Nat)) 1) where
 mem:=by simp
 obj:=fun i h st b hb=>by
  have e:b=it:=by simpa using hb
  subst e
  exact ⟨_,st,fun v z=>by
   have z':Data.fields _=Data.cell v:=z
   cases z'⟩
 keep:=fun i h h' st k=>k it (by simp) _ st
 item:=by
  intro X hP hw hK hc i pins s σ H E I hf st hg
  subst hP hw hK
  obtain ⟨f0,f1,f2,f3,f4,f5⟩:=hf it (by simp)
  have W:=Walks.range (prog:=X.prog) (w:=X.w) (I.ok.hd hc) it lo 1 n
  refine W.item i s _ _ hg st fun v h' tk hv st' kk=>?_
  obtain ⟨t,rfl⟩:=hv
  have I1:Inv X pins σ H { s with heap:=h',toks:=tk }:=I.turned (fun b o hb e=>kk b o (by simpa using hb) e) f0 f1 f3 f4 f5
  refine ⟨_,rfl,Uz (s:={ s with heap:=h',toks:=tk }) (n:="range_iterator") st' rfl rfl (by decide) ⟨.int (lo + i),H,I1,⟨t,?_⟩,⟨rfl,rfl⟩,st',fun b hb=>(hf b hb).1⟩⟩
  rw [Int.mul_one]
 done:=by
  intro X hP hw hK hc i pins s σ H E I hf st hg
  subst hP hw hK
  obtain ⟨f0,f1,f2,f3,f4,f5⟩:=hf it (by simp)
  exact wpAny_pyNext_range_end (I.ok.hd hc) st (by have:n≤i:=hg; omega) fun h' eb=>⟨rfl,I.turned (t':=s.toks) (fun b o hb e=>eb b o hb e) f0 f1 f3 f4 f5⟩
 self:=fun _ _ _ _ _ st h=>wpAny_pyIter_rangeiter st h
section
variable {X:Cx} {tg:Expr}
def Jd0 (K:W.Frag) (tl:TE):TI:=fun σ H R=>tl σ H fun x H1=>∃ a,x=.ref a∧(∃ xs,SqL K H1 a xs)∧R (Itl K a) H1
def Jfk (K:W.Frag) (tl:TE):TI:=fun σ H R=>tl σ H fun x H1=>∃ a,x=.ref a∧(∃ xs,SqT K H1 a xs)∧R (Itt K a) H1
theorem Cv {l:Expr} {tl:TE} (hl:PE X l tl):PI X tg l (Jd0 X.K tl):=by
 intro pins s σ H R I h
 refine thn (hl pins s σ H _ I h) fun v s1 ⟨x,H1,I1,r1,q1⟩=>?_
 obtain ⟨a,e,⟨xs,hq⟩,q⟩:=q1
 subst e
 cases r1
 obtain ⟨its,rv,p,hz⟩:=I1.list hq
 refine wpAny_pyIter_list p.isList ?_
 refine ⟨s1.heap.objs.size,[s1.heap.objs.size],_,_,H1,rfl,I1.kept (t':=s1.toks) fun b o e=>Heap.get?_push_of_some _ e,Vd a _,⟨_,Heap.get?_push_size _ rfl,rfl,rfl⟩,fun b hb=>?_,q⟩
 have e:b=s1.heap.objs.size:=by simpa using hb
 subst e
 exact I1.fpOk (Nat.le_refl _) (I1.hok.fresh (Nat.le_refl _))
theorem Jb0 {l:Expr} {tl:TE} (hl:PE X l tl):PI X tg l (Jfk X.K tl):=by
 intro pins s σ H R I h
 refine thn (hl pins s σ H _ I h) fun v s1 ⟨x,H1,I1,r1,q1⟩=>?_
 obtain ⟨a,e,⟨xs,hq⟩,q⟩:=q1
 subst e
 cases r1
 obtain ⟨its,rv,p,hz⟩:=I1.tuple hq
 refine wpAny_pyIter_tuple (show s1.heap.IsTuple a its.toArray from p) ?_
 refine ⟨s1.heap.objs.size,[s1.heap.objs.size],_,_,H1,rfl,I1.kept (t':=s1.toks) fun b o e=>Heap.get?_push_of_some _ e,Sa a _,⟨_,Heap.get?_push_size _ rfl,rfl,rfl⟩,fun b hb=>?_,q⟩
 have e:b=s1.heap.objs.size:=by simpa using hb
 subst e
 exact I1.fpOk (Nat.le_refl _) (I1.hok.fresh (Nat.le_refl _))
theorem Xe {pins:List (Addr×Obj)} {σ:St} {H:Hp} {s:Shared} {R:It→Hp→Prop} {E:Value→Shared→Prop} {lo hi:Int} {t u v:Tok} {tk:Nat} (I:Inv X pins σ H s) (h1:-(2 ^ 62)≤lo) (h2:lo < 2 ^ 62) (h3:-(2 ^ 62)≤hi) (h4:hi < 2 ^ 62)
 (q:R (Itr lo (hi - lo).toNat) H):wpAny (model X.prog X.w) X.A (pyIter (.ref s.heap.objs.size)) (PIE X pins σ tg R) E { s with heap:=s.heap.push { cls:=.type "range",data:=.fields #[.int lo t,.int hi u,.int 1 v] },toks:=tk }:=by
 refine wpAny_pyIter_range (IsRange.new ..) (small_one h1 h2 h3 h4) ?_
 have I1:Inv X pins σ H { s with heap:=s.heap.push { cls:=.type "range",data:=.fields #[.int lo t,.int hi u,.int 1 v] },toks:=tk }:=I.kept fun b o e=>Heap.get?_push_of_some _ e
 refine ⟨(s.heap.push { cls:=.type "range",data:=.fields #[.int lo t,.int hi u,.int 1 v] }).objs.size,[(s.heap.push { cls:=.type "range",data:=.fields #[.int lo t,.int hi u,.int 1 v] }).objs.size],_,_,H,rfl,
  I1.kept (t':=tk) fun b o e=>Heap.get?_push_of_some _ e,Sb _ lo (hi - lo).toNat,?_,fun b hb=>?_,q⟩
 ·have e1:lo + ((0:Nat):Int) * 1=lo:=by simp
  have e2:(((hi - lo).toNat:Nat):Int) - ((0:Nat):Int)=Builtin.Range.rangeSize lo hi 1:=by rw [rangeSize_one]; split <;> omega
  show IsRangeIter _ _ (lo + ((0:Nat):Int) * 1) ((((hi - lo).toNat:Nat):Int) - ((0:Nat):Int)) 1
  rw [e1,e2]
  exact Heap.get?_push_size _ rfl
 ·have e:b=(s.heap.push { cls:=.type "range",data:=.fields #[.int lo t,.int hi u,.int 1 v] }).objs.size:=by simpa using hb
  subst e
  exact I1.fpOk (Nat.le_refl _) (I1.hok.fresh (Nat.le_refl _))
def Jdz (ta:TA):TI:=fun σ H R=>ta σ H fun vs H1=>∃ j:Int,vs=[.int j]∧-(2 ^ 62)≤j∧j < 2 ^ 62∧R (Itr 0 j.toNat) H1
def Jf1 (ta:TA):TI:=fun σ H R=>ta σ H fun vs H1=>∃ i j:Int,vs=[.int i,.int j]∧(-(2 ^ 62)≤i∧i < 2 ^ 62∧-(2 ^ 62)≤j∧j < 2 ^ 62)∧R (Itr i (j - i).toNat) H1
theorem Vm {a:Expr} {ta:TA} {p pos:Pos} (hg:Gl X "range") (hm:X.mg "range"=none) (ha:PA X [a] ta) (hs:starEach [a] X.env=[(false,eval a X.env)]:=by rfl):PI X tg (.Call (.Name "range" p) [a] [] pos) (Jdz ta):=by
 intro pins s σ H R I h
 refine Call_ (Tb I hg hm boot_range (PyProof.Rows.callWith_type1 (thn (ha pos pins s σ H _ I h) fun us s1 ⟨vs,H1,I1,r1,q1⟩=>?_) hs rfl))
 obtain ⟨j,e,q1,q2,q⟩:=q1
 subst e
 cases r1 with
 | cons r rr =>
   cases rr
   obtain ⟨t,rfl⟩:=r
   exact call_range_1 (Xe I1 (by omega) (by omega) q1 q2 (by simpa using q))
def Jek (wi:TI) (g:TG) (tb:TS):TS:=fun D σ H=>wi σ H fun J H1=>∃ W:Nat→Nat→St→Hp→Prop,(∃ m,W 0 m σ H1)∧∀ i m σ H,W i m σ H →
 (J.stop i H∧D.nx σ H)∨(J.go i H∧∃ N:St→Hp→Prop,(∀ σ' H',N σ' H'→∃ m',m' < m∧W (i + 1) m' σ' H')∧∀ x H',J.yld i H x H'→g x σ H' fun σ2 H2=>tb { D with nx:=N,ct:=N,bk:=D.nx } σ2 H2)
def Mj (fp:List Addr) (h:Heap):List (Addr×Obj):=fp.filterMap fun b=>(h.get? b).map fun o=>(b,o)
theorem Gw {fp:List Addr} {h:Heap} {b:Addr} {o:Obj} (hb:b∈fp) (e:h.get? b=some o):(b,o)∈Mj fp h:=List.mem_filterMap.mpr ⟨b,hb,by rw [e]; rfl⟩
theorem Vv {fp:List Addr} {h:Heap} {p:Addr×Obj} (hp:p∈Mj fp h):p.1∈fp∧h.get? p.1=some p.2:=by
 obtain ⟨b,hb,e⟩:=List.mem_filterMap.mp hp
 cases q:h.get? b with
 | none=>rw [q] at e; cases e
 | some o =>
   rw [q] at e
   have e':(b,o)=p:=Option.some.inj e
   subst e'
   exact ⟨hb,q⟩
theorem Inv.pinned {pins:List (Addr×Obj)} {σ:St} {H:Hp} {s:Shared} {fp:List Addr} (I:Inv X pins σ H s) (hf:∀ b∈fp,Og X pins H b) (ho:∀ b∈fp,∃ o,s.heap.get? b=some o∧∀ v,o.data≠.cell v):Inv X (pins++Mj fp s.heap) σ H s :=
 I.pins_of fun p hp=>(List.mem_append.mp hp).elim (fun z=>I.pin p (List.mem_append_right _ z)) fun z=>by
  obtain ⟨hb,e⟩:=Vv z
  obtain ⟨f0,f1,f2,_⟩:=hf p.1 hb
  obtain ⟨o,e',d⟩:=ho p.1 hb
  rw [e] at e'; cases e'
  exact ⟨e,f0,f1,f2,d⟩
theorem Inv.unpinned {pins pl:List (Addr×Obj)} {σ:St} {H:Hp} {s:Shared} (I:Inv X (pins++pl) σ H s):Inv X pins σ H s:=I.pins_of fun p hp=>I.pin p (List.mem_append_right _ (List.mem_append_left _ hp))
theorem Hm {iter:Expr} {body:List Stmt} {wi:TI} {g:TG} {tb:TS} {pos:Pos} (hp:PassesOwn (model X.prog X.w) X.A X.env X.xe) (hc:X.calm=true) (hi:PI X tg iter wi) (hg:PG X tg g) (hb:PSs X body tb)
 (hs:∀ x,foldedSetIterable iter X.env x=pure x:=by intro _; rfl):PS X (.For tg iter body [] pos) (Jek wi g tb):=by
 intro pins s σ H D I h
 refine wpAny_For (thn (hi pins s σ H _ I h) fun v s1 h1=>thn h1 fun itv s2 h2=>?_) hs
 obtain ⟨it,fp,tn,J,H2,e,I2,T,st2,f2,W,⟨m0,w0⟩,turn⟩:=h2
 subst e
 have stat:∀ {H':Hp},(∀ b∈fp,H' b=none)→∀ b∈fp,Og X pins H' b:=fun hn b hb=>⟨hn b hb,(f2 b hb).2⟩
 refine codeAny_forLoop_any (fun n s'=>∃ i σ' H',Inv X pins σ' H' s'∧tn i s'.heap∧(∀ b∈fp,H' b=none)∧W i n σ' H') ?_ m0 ⟨0,σ,H2,I2,st2,fun b hb=>(f2 b hb).1,w0⟩
 rintro n s3 ⟨i,σ3,H3,I3,st3,fr3,w3⟩
 rcases turn i n σ3 H3 w3 with ⟨stop,qn⟩ | ⟨go,N,hN,step⟩
 ·refine wpAny_passesOwn hp (thn (T.done X rfl rfl rfl hc i pins s3 σ3 H3 X.xe I3 (stat fr3) st3 stop) fun r s4 ⟨hr,I4⟩=>?_)
  subst hr
  exact wpAny_execs_nil ⟨σ3,H3,I4,qn⟩
 ·refine wpAny_passesOwn hp (thn (T.item X rfl rfl rfl hc i pins s3 σ3 H3 X.xe I3 (stat fr3) st3 go) fun r s4 ⟨u,hr,h4⟩=>?_)
  subst hr
  refine wpAny_passesOwn hp (thn h4 fun _ s5 ⟨x,H5,I5,r5,y5,st5,fr5⟩=>?_)
  have I5':=I5.pinned (stat fr5) (T.obj _ _ st5)
  refine wpAny_passesOwn hp (thn (hg _ s5 σ3 H5 x u _ I5' r5 (step x H5 y5)) fun _ s6 ⟨σ6,H6,I6,q6⟩=>?_)
  refine wpAny_passesOwn hp (thn (hb _ s6 σ6 H6 _ I6 q6) fun f s7 q7=>?_)
  have again:∀ {σ7:St} {H7:Hp},Inv X (pins++Mj fp s5.heap) σ7 H7 s7→N σ7 H7→∃ m,m < n∧∃ i σ' H',Inv X pins σ' H' s7∧tn i s7.heap∧(∀ b∈fp,H' b=none)∧W i m σ' H':=fun {σ7 H7} I7 n7=>by
   obtain ⟨m',hm,w7⟩:=hN σ7 H7 n7
   refine ⟨m',hm,i + 1,σ7,H7,I7.unpinned,T.keep _ _ _ st5 fun b hb o e=>(I7.pin (b,o) (List.mem_append_right _ (List.mem_append_right _ (Gw hb e)))).1,fun b hb=>?_,w7⟩
   obtain ⟨o,e,d⟩:=T.obj _ _ st5 b hb
   exact (I7.pin (b,o) (List.mem_append_right _ (List.mem_append_right _ (Gw hb e)))).2.1
  cases f with
  | next=>obtain ⟨σ7,H7,I7,n7⟩:=q7; exact again I7 n7
  | cont=>obtain ⟨σ7,H7,I7,n7⟩:=q7; exact again I7 n7
  | brk=>obtain ⟨σ7,H7,I7,q7⟩:=q7; exact ⟨σ7,H7,I7.unpinned,q7⟩
  | ret v=>obtain ⟨x7,σ7,H7,I7,r7,q7⟩:=q7; exact ⟨x7,σ7,H7,I7.unpinned,r7,q7⟩
end
theorem Hv {K:W.Frag} {a:Addr} {xs:List V} {g:TG} {tb:TS} {D:Ends} {σ:St} {H:Hp} (Pv:Nat→St→Hp→Prop) (h0:Pv 0 σ H) (hl:∀ i σ H,i≤xs.length→Pv i σ H→SqL K H a xs)
 (hs:∀ i x σ H,xs[i]?=some x→Pv i σ H→g x σ H fun σ2 H2=>tb { D with nx:=Pv (i + 1),ct:=Pv (i + 1),bk:=D.nx } σ2 H2) (hd:∀ σ H,Pv xs.length σ H→D.nx σ H) :
 ∃ W:Nat→Nat→St→Hp→Prop,(∃ m,W 0 m σ H)∧∀ i m σ H,W i m σ H →
  ((Itl K a).stop i H∧D.nx σ H)∨((Itl K a).go i H∧∃ N:St→Hp→Prop,(∀ σ' H',N σ' H'→∃ m',m' < m∧W (i + 1) m' σ' H')∧∀ x H',(Itl K a).yld i H x H'→g x σ H' fun σ2 H2=>tb { D with nx:=N,ct:=N,bk:=D.nx } σ2 H2):=by
 refine ⟨fun i m σ H=>m=xs.length - i∧i≤xs.length∧Pv i σ H,⟨xs.length,by simp,Nat.zero_le _,h0⟩,?_⟩
 rintro i m σ H ⟨rfl,hi,p⟩
 have q:=hl i σ H hi p
 by_cases hlt:i < xs.length
 ·refine .inr ⟨⟨xs,xs[i],q,by simp [hlt]⟩,Pv (i + 1),fun σ' H' p'=>⟨xs.length - (i + 1),by omega,rfl,hlt,p'⟩,fun x H' y=>?_⟩
  obtain ⟨e,y⟩:=y
  subst e
  exact hs i x σ _ (y xs q) p
 ·have e:i=xs.length:=by omega
  subst e
  exact .inl ⟨⟨xs,q,Nat.le_refl _⟩,hd σ H p⟩
theorem Jao {K:W.Frag} {a:Addr} {xs:List V} {g:TG} {tb:TS} {D:Ends} {σ:St} {H:Hp} (Pv:Nat→St→Hp→Prop) (h0:Pv 0 σ H) (hl:∀ i σ H,i≤xs.length→Pv i σ H→SqT K H a xs)
 (hs:∀ i x σ H,xs[i]?=some x→Pv i σ H→g x σ H fun σ2 H2=>tb { D with nx:=Pv (i + 1),ct:=Pv (i + 1),bk:=D.nx } σ2 H2) (hd:∀ σ H,Pv xs.length σ H→D.nx σ H) :
 ∃ W:Nat→Nat→St→Hp→Prop,(∃ m,W 0 m σ H)∧∀ i m σ H,W i m σ H →
  ((Itt K a).stop i H∧D.nx σ H)∨((Itt K a).go i H∧∃ N:St→Hp→Prop,(∀ σ' H',N σ' H'→∃ m',m' < m∧W (i + 1) m' σ' H')∧∀ x H',(Itt K a).yld i H x H'→g x σ H' fun σ2 H2=>tb { D with nx:=N,ct:=N,bk:=D.nx } σ2 H2):=by
 refine ⟨fun i m σ H=>m=xs.length - i∧i≤xs.length∧Pv i σ H,⟨xs.length,by simp,Nat.zero_le _,h0⟩,?_⟩
 rintro i m σ H ⟨rfl,hi,p⟩
 have q:=hl i σ H hi p
 by_cases hlt:i < xs.length
 ·refine .inr ⟨⟨xs,xs[i],q,by simp [hlt]⟩,Pv (i + 1),fun σ' H' p'=>⟨xs.length - (i + 1),by omega,rfl,hlt,p'⟩,fun x H' y=>?_⟩
  obtain ⟨e,y⟩:=y
  subst e
  exact hs i x σ _ (y xs q) p
 ·have e:i=xs.length:=by omega
  subst e
  exact .inl ⟨⟨xs,q,Nat.le_refl _⟩,hd σ H p⟩
abbrev R2:=V→V→Hp→VK→Prop
def OpR (X:Cx) (f:Value→Value→Sem Value) (r:R2):Prop :=
 ∀ (pins:List (Addr×Obj)) (s:Shared) (σ:St) (H:Hp) (x y:V) (v u:Value) (Q:VK),Inv X pins σ H s→RelV x v→RelV y u→r x y H Q →
  wpAny (model X.prog X.w) X.A (f v u) (EP X pins σ Q) X.xe s
def UnR (X:Cx) (f:Value→Sem Value) (r:V→Hp→VK→Prop):Prop :=
 ∀ (pins:List (Addr×Obj)) (s:Shared) (σ:St) (H:Hp) (x:V) (v:Value) (Q:VK),Inv X pins σ H s→RelV x v→r x H Q →
  wpAny (model X.prog X.w) X.A (f v) (EP X pins σ Q) X.xe s
def E8 (X:Cx) (f:Value) (r:List V→Hp→VK→Prop):Prop :=
 ∀ (pins:List (Addr×Obj)) (s:Shared) (σ:St) (H:Hp) (xs:List V) (us:List Value) (Q:VK),Inv X pins σ H s→Vals xs us→r xs H Q →
  wpAny (model X.prog X.w) X.A (call f us) (EP X pins σ Q) X.xe s
def Jfp (X:Cx) (r:V→Hp→(Bool→Hp→Prop)→Prop):Prop :=
 ∀ (pins:List (Addr×Obj)) (s:Shared) (σ:St) (H:Hp) (x:V) (v:Value) (Q:Bool→Hp→Prop),Inv X pins σ H s→RelV x v→r x H Q →
  wpAny (model X.prog X.w) X.A (truthy v) (TP X pins σ Q) X.xe s
def tOp (r:R2) (ta tb:TE):TE:=fun σ H Q=>ta σ H fun x H1=>tb σ H1 fun y H2=>r x y H2 Q
def tUn (r:V→Hp→VK→Prop) (ta:TE):TE:=fun σ H Q=>ta σ H fun x H1=>r x H1 Q
def rI (C:Int→Int→Prop) (g:Int→Int→V):R2:=fun x y H Q=>∃ i j,x=.int i∧y=.int j∧C i j∧Q (g i j) H
def rI0 (g:Int→Int→V):R2:=fun x y H Q=>∃ i j,x=.int i∧y=.int j∧Q (g i j) H
def rU (g:Int→V):V→Hp→VK→Prop:=fun x H Q=>∃ i,x=.int i∧Q (g i) H
section
variable {X:Cx} {a b c:Expr} {ta tb tc:TE} {pos:Pos}
theorem Jcz (ha:PE X a ta) (hb:PE X b tb) {pins:List (Addr×Obj)} {s:Shared} {σ:St} {H:Hp} {R:V→V→Hp→Prop} (I:Inv X pins σ H s)
 (h:ta σ H fun x H1=>tb σ H1 fun y H2=>R x y H2) {Q:Value→Shared→Prop} {f:Value→Value→Sem Value}
 (hf:∀ v u s2 x y H2,Inv X pins σ H2 s2→RelV x v→RelV y u→R x y H2→wpAny (model X.prog X.w) X.A (f v u) Q X.xe s2) :
 wpAny (model X.prog X.w) X.A (eval a X.env) (fun v s₁=>wpAny (model X.prog X.w) X.A (eval b X.env) (fun u s₂=>wpAny (model X.prog X.w) X.A (f v u) Q X.xe s₂) X.xe s₁) X.xe s:=by
 refine thn (ha pins s σ H _ I h) fun v s1 ⟨x,H1,I1,r1,q1⟩=>?_
 refine thn (hb pins s1 σ H1 _ I1 q1) fun u s2 ⟨y,H2,I2,r2,q2⟩=>?_
 exact hf v u s2 x y H2 I2 r1 r2 q2
theorem Aw {op:Operator} {r:R2} (ho:OpR X (binaryOp op) r) (ha:PE X a ta) (hb:PE X b tb):PE X (.BinOp a op b pos) (tOp r ta tb):=by
 intro pins s σ H Q I h
 exact wpAny_BinOp (Jcz ha hb I h fun v u s2 x y H2 I2 rx ry q=>ho pins s2 σ H2 x y v u Q I2 rx ry q)
theorem opI {f:Value→Value→Sem Value} {C:Int→Int→Prop} {g:Int→Int→Int}
 (rule:∀ (i j:Int) (t u:Tok) (s:Shared) (Q:Value→Shared→Prop) (E:Value→Shared→Prop),C i j→Q (.int (g i j) s.toks) { s with toks:=s.toks + 1 }→wpAny (model X.prog X.w) X.A (f (.int i t) (.int j u)) Q E s) :
 OpR X f (rI C fun i j=>.int (g i j)):=by
 intro pins s σ H x y v u Q I rx ry h
 obtain ⟨i,j,rfl,rfl,hc,q⟩:=h
 obtain ⟨t,rfl⟩:=rx
 obtain ⟨t',rfl⟩:=ry
 exact rule i j t t' s _ _ hc ⟨.int (g i j),H,I.tok _,⟨_,rfl⟩,q⟩
theorem Jdv {f:Value→Value→Sem Value} {g:Int→Int→Int}
 (rule:∀ (i j:Int) (t u:Tok) (s:Shared) (Q:Value→Shared→Prop) (E:Value→Shared→Prop),Q (.int (g i j) s.toks) { s with toks:=s.toks + 1 }→wpAny (model X.prog X.w) X.A (f (.int i t) (.int j u)) Q E s) :
 OpR X f (rI0 fun i j=>.int (g i j)):=by
 intro pins s σ H x y v u Q I rx ry h
 obtain ⟨i,j,rfl,rfl,q⟩:=h
 obtain ⟨t,rfl⟩:=rx
 obtain ⟨t',rfl⟩:=ry
 exact rule i j t t' s _ _ ⟨.int (g i j),H,I.tok _,⟨_,rfl⟩,q⟩
theorem Jdw {f:Value→Value→Sem Value} {g:Int→Int→Bool}
 (rule:∀ (i j:Int) (t u:Tok) (s:Shared) (Q:Value→Shared→Prop) (E:Value→Shared→Prop),Q (.bool (g i j)) s→wpAny (model X.prog X.w) X.A (f (.int i t) (.int j u)) Q E s) :
 OpR X f (rI0 fun i j=>.bl (g i j)):=by
 intro pins s σ H x y v u Q I rx ry h
 obtain ⟨i,j,rfl,rfl,q⟩:=h
 obtain ⟨t,rfl⟩:=rx
 obtain ⟨t',rfl⟩:=ry
 exact rule i j t t' s _ _ ⟨.bl (g i j),H,I,rfl,q⟩
def Jfs (i j:Int):Prop:=0 < j∧j < 1073741824
def Jf5 (i j:Int):Prop:=j≠0∧j.natAbs < 1073741824
def Jfr (i j:Int):Prop:=0≤j∧j≤1000000∧i.natAbs < 2 ^ 64
def CMul (i j:Int):Prop:=(-(2 ^ 64) < i∧i < 2 ^ 64)∨(-(2 ^ 64) < j∧j < 2 ^ 64)
theorem CMul.ok {i j:Int} (h:CMul i j):IntMulOk i j:=by
 rcases h with ⟨h1,h2⟩ | ⟨h1,h2⟩
 ·exact .of_left (intBits_le_64 h1 h2)
 ·exact .of_right (intBits_le_64 h1 h2)
theorem Ce:OpR X (binaryOp .Add) (rI0 fun i j=>.int (i + j)):=Jdv fun _ _ _ _ _ _ _ q=>add_int q
theorem Jb:OpR X (binaryOp .Sub) (rI0 fun i j=>.int (i - j)):=Jdv fun _ _ _ _ _ _ _ q=>sub_int q
theorem Jc:OpR X (binaryOp .Mult) (rI CMul fun i j=>.int (i * j)):=opI fun _ _ _ _ _ _ _ hc q=>mul_int q hc.ok
theorem C0:OpR X (binaryOp .FloorDiv) (rI Jfs fun i j=>.int (i / j)):=opI fun i j _ _ _ _ _ hc q=>by
 have h1:(0:Int) < j:=hc.1
 have h2:j < 1073741824:=hc.2
 exact floordiv_int (by omega) (by rw [Int.fdiv_eq_ediv_of_nonneg i (by omega)]; exact q) (.inl (PyProof.noPylong_small (by omega)))
theorem B7:OpR X (binaryOp .Mod) (rI (fun _ j=>0 < j) fun i j=>.int (i % j)):=opI fun i j _ _ _ _ _ hc q=>by
 have h1:(0:Int) < j:=hc
 exact mod_int' (by omega) (by rw [Int.fmod_eq_emod_of_nonneg i (by omega)]; exact q)
theorem Hq:OpR X (binaryOp .Pow) (rI Jfr fun i j=>.int (i ^ j.toNat)):=opI fun _ _ _ _ _ _ _ hc q=>pow_int_small hc.1 hc.2.1 hc.2.2 q
end
def Jdi:V→V→Bool
 | .non,.non=>true | .non,.int _=>true | .int _,.non=>true | .non,.bl _=>true | .bl _,.non=>true | .non,.str _=>true | .str _,.non=>true
 | .int _,.int _=>true | .bl _,.bl _=>true | .str _,.str _=>true | .byt _,.byt _=>true
 | .int _,.str _=>true | .str _,.int _=>true | .bl _,.str _=>true | .str _,.bl _=>true
 | _,_=>false
def rEq:R2:=fun x y H Q=>Jdi x y=true∧Q (.bl (decide (x=y))) H
def rNe:R2:=fun x y H Q=>Jdi x y=true∧Q (.bl (!decide (x=y))) H
theorem U6 {i j:Int}:decide (V.int i=V.int j)=(i == j):=by
 rw [Bool.eq_iff_iff]
 simp
theorem Yx {i j:Bool}:decide (V.bl i=V.bl j)=(i == j):=by
 rw [Bool.eq_iff_iff]
 simp
theorem U5 {i j:Str}:decide (V.str i=V.str j)=(i == j):=by
 rw [Bool.eq_iff_iff]
 simp
theorem U7 {i j:Array UInt8}:decide (V.byt i=V.byt j)=(i.toList == j.toList):=by
 rw [Bool.eq_iff_iff]
 cases i
 cases j
 simp
section
variable {X:Cx} {a b c:Expr} {ta tb tc:TE} {pos:Pos}
theorem Bw {pins:List (Addr×Obj)} {σ:St} {H:Hp} {s:Shared} {Q:VK} {k k':Bool} (I:Inv X pins σ H s) (q:Q (.bl k) H) (e:k=k'):EP X pins σ Q (.bool k') s:=by
 subst e
 exact ⟨.bl k,H,I,rfl,q⟩
theorem By:OpR X (compareOp .Eq) rEq:=by
 intro pins s σ H x y v u Q I rx ry h
 obtain ⟨hs,q⟩:=h
 cases x with
 | non =>
   cases rx
   cases y with
   | non=>cases ry; exact PySem.EqNone.eq_none_none (Bw I q (by simp))
   | bl j=>cases ry; exact PySem.EqNone.eq_none_bool (Bw I q (by simp))
   | int j=>obtain ⟨t',rfl⟩:=ry; exact PySem.EqNone.eq_none_int (Bw I q (by simp))
   | str j=>obtain ⟨t',rfl⟩:=ry; exact PySem.EqNone.eq_none_str (Bw I q (by simp))
   | _=>exact absurd (show false=true from hs) Bool.false_ne_true
 | bl i =>
   cases rx
   cases y with
   | non=>cases ry; exact PySem.EqNone.eq_bool_none (Bw I q (by simp))
   | bl j=>cases ry; exact eq_bool (Bw I q Yx)
   | str j=>obtain ⟨t',rfl⟩:=ry; exact PySem.EqMixed.eq_bool_str (Bw I q (by simp))
   | _=>exact absurd (show false=true from hs) Bool.false_ne_true
 | int i =>
   obtain ⟨t,rfl⟩:=rx
   cases y with
   | non=>cases ry; exact PySem.EqNone.eq_int_none (Bw I q (by simp))
   | int j=>obtain ⟨t',rfl⟩:=ry; exact eq_int (Bw I q U6)
   | str j=>obtain ⟨t',rfl⟩:=ry; exact PySem.EqMixed.eq_int_str (Bw I q (by simp))
   | _=>exact absurd (show false=true from hs) Bool.false_ne_true
 | str i =>
   obtain ⟨t,rfl⟩:=rx
   cases y with
   | non=>cases ry; exact PySem.EqNone.eq_str_none (Bw I q (by simp))
   | bl j=>cases ry; exact PySem.EqMixed.eq_str_bool (Bw I q (by simp))
   | int j=>obtain ⟨t',rfl⟩:=ry; exact PySem.EqMixed.eq_str_int (Bw I q (by simp))
   | str j=>obtain ⟨t',rfl⟩:=ry; exact eq_str (Bw I q U5)
   | _=>exact absurd (show false=true from hs) Bool.false_ne_true
 | byt i =>
   obtain ⟨t,rfl⟩:=rx
   cases y with
   | byt j=>obtain ⟨t',rfl⟩:=ry; exact W.eq_bytes (Bw I q U7)
   | _=>exact absurd (show false=true from hs) Bool.false_ne_true
 | _=>cases y <;> exact absurd (show false=true from hs) Bool.false_ne_true
theorem Xu:OpR X (compareOp .NotEq) rNe:=by
 intro pins s σ H x y v u Q I rx ry h
 obtain ⟨hs,q⟩:=h
 cases x with
 | non =>
   cases rx
   cases y with
   | non=>cases ry; exact PySem.EqNone.ne_none_none (Bw I q (by simp))
   | bl j=>cases ry; exact PySem.EqNone.ne_none_bool (Bw I q (by simp))
   | int j=>obtain ⟨t',rfl⟩:=ry; exact PySem.EqNone.ne_none_int (Bw I q (by simp))
   | str j=>obtain ⟨t',rfl⟩:=ry; exact PySem.EqNone.ne_none_str (Bw I q (by simp))
   | _=>exact absurd (show false=true from hs) Bool.false_ne_true
 | bl i =>
   cases rx
   cases y with
   | non=>cases ry; exact PySem.EqNone.ne_bool_none (Bw I q (by simp))
   | bl j=>cases ry; exact ne_bool (Bw I q (congrArg not Yx))
   | str j=>obtain ⟨t',rfl⟩:=ry; exact PySem.EqMixed.ne_bool_str (Bw I q (by simp))
   | _=>exact absurd (show false=true from hs) Bool.false_ne_true
 | int i =>
   obtain ⟨t,rfl⟩:=rx
   cases y with
   | non=>cases ry; exact PySem.EqNone.ne_int_none (Bw I q (by simp))
   | int j=>obtain ⟨t',rfl⟩:=ry; exact ne_int (Bw I q (congrArg not U6))
   | str j=>obtain ⟨t',rfl⟩:=ry; exact PySem.EqMixed.ne_int_str (Bw I q (by simp))
   | _=>exact absurd (show false=true from hs) Bool.false_ne_true
 | str i =>
   obtain ⟨t,rfl⟩:=rx
   cases y with
   | non=>cases ry; exact PySem.EqNone.ne_str_none (Bw I q (by simp))
   | bl j=>cases ry; exact PySem.EqMixed.ne_str_bool (Bw I q (by simp))
   | int j=>obtain ⟨t',rfl⟩:=ry; exact PySem.EqMixed.ne_str_int (Bw I q (by simp))
   | str j=>obtain ⟨t',rfl⟩:=ry; exact ne_str (Bw I q (congrArg not U5))
   | _=>exact absurd (show false=true from hs) Bool.false_ne_true
 | byt i =>
   obtain ⟨t,rfl⟩:=rx
   cases y with
   | byt j=>obtain ⟨t',rfl⟩:=ry; exact W.ne_bytes (Bw I q (congrArg not U7))
   | _=>exact absurd (show false=true from hs) Bool.false_ne_true
 | _=>cases y <;> exact absurd (show false=true from hs) Bool.false_ne_true
theorem Jdu:OpR X (compareOp .Lt) (rI0 fun i j=>.bl (decide (i < j))):=Jdw fun _ _ _ _ _ _ _ q=>lt_int q
theorem Q3:OpR X (compareOp .Gt) (rI0 fun i j=>.bl (decide (j < i))):=Jdw fun _ _ _ _ _ _ _ q=>gt_int q
def isObj:HO→Bool
 | .lst _=>true
 | .ins _ _ _=>true
 | _=>false
theorem A4 (b:Expr) {op:CmpOp} (h:op≠.In:=by decide) (h2:op≠.NotIn:=by decide):behindInMarks op b=false:=by
 have e1:(op == CmpOp.In)=false:=by cases op <;> first | rfl | exact absurd rfl h
 have e2:(op == CmpOp.NotIn)=false:=by cases op <;> first | rfl | exact absurd rfl h2
 cases b <;> simp [behindInMarks,e1,e2]
theorem Li {op:CmpOp} {r:R2} (ho:OpR X (compareOp op) r) (ha:PE X a ta) (hb:PE X b tb) (hm:behindInMarks op b=false):PE X (.Compare a [op] [b] pos) (tOp r ta tb):=by
 intro pins s σ H Q I h
 exact wpAny_Compare1 (Jcz ha hb I h fun v u s2 x y H2 I2 rx ry q=>ho pins s2 σ H2 x y v u Q I2 rx ry q) hm
def Ji (t:TE):TT:=fun σ H Q=>t σ H fun x H'=>∃ k,x=.bl k∧Q k H'
theorem Ap {op:CmpOp} {r:R2} (ho:OpR X (compareOp op) r) (ha:PE X a ta) (hb:PE X b tb) (hm:behindInMarks op b=false):PT X (.Compare a [op] [b] pos) (Ji (tOp r ta tb)):=by
 intro pins s σ H Q I h
 refine wpAny_isTrue_Compare1 (thn (ha pins s σ H _ I h) fun v s1 ⟨x,H1,I1,r1,q1⟩=>thn (hb pins s1 σ H1 _ I1 q1) fun u s2 ⟨y,H2,I2,r2,q2⟩ =>
  thn (ho pins s2 σ H2 x y v u _ I2 r1 r2 q2) fun c s3 ⟨z,H3,I3,r3,k,e,q3⟩=>?_) hm
 subst e
 cases r3
 exact wpAny_truthy_bool ⟨H3,I3,q3⟩
def Jer (r r':R2) (ta tb tc:TE):TE:=fun σ H Q=>ta σ H fun x H1=>tb σ H1 fun y H2=>r x y H2 fun z H3=>∃ k,z=.bl k ∧
 (if k=true then tc σ H3 fun w' H4=>r' y w' H4 Q else Q (.bl false) H3)
def Jd3 (K:W.Frag) (x:V) (H:Hp) (k:Bool):Prop :=
 match x with
 | .non=>k=false
 | .bl b=>k=b
 | .int i=>k=(i != 0)
 | .str y=>y.length≤sizeLine∧k=((y.length:Int) != 0)
 | .byt y=>y.size≤sizeLine∧k=((y.size:Int) != 0)
 | .ref p=>(∃ xs,SqL K H p xs∧k=!xs.isEmpty)∨(∃ xs,SqT K H p xs∧k=!xs.isEmpty)∨∃ kvs,H p=some (.dK kvs)∧k=!kvs.isEmpty
 | _=>False
theorem Tg {κ:Type} {kvs:List (κ×V)} {vs:List (κ×Value)} (r:KV kvs vs):(!vs.isEmpty)=!kvs.isEmpty:=by
 cases r <;> rfl
theorem Nh {xs:List V} {its:List Value} (r:Vals xs its):(!its.toArray.isEmpty)=!xs.isEmpty:=by
 cases r <;> simp
theorem P4:(sizeLine:Nat) < 2 ^ 63:=by rw [sizeLine_eq]; decide
theorem Jbh:Jfp X (fun x H Q=>∃ k,Jd3 X.K x H k∧Q k H):=by
 intro pins s σ H x v Q I rx h
 obtain ⟨k,e,q⟩:=h
 have hl:=P4
 have hs:sizeLine=16777216:=sizeLine_eq
 cases x with
 | non =>
   cases rx
   have e':k=false:=e
   subst e'
   exact truthy_none ⟨H,I,q⟩
 | bl b =>
   cases rx
   have e':k=b:=e
   subst e'
   exact wpAny_truthy_bool ⟨H,I,q⟩
 | int i =>
   obtain ⟨t,rfl⟩:=rx
   have e':k=(i != 0):=e
   subst e'
   exact PySem.P.truthy_int ⟨H,I,q⟩
 | str y =>
   obtain ⟨t,rfl⟩:=rx
   obtain ⟨hy,e'⟩:y.length≤sizeLine∧k=((y.length:Int) != 0):=e
   subst e'
   exact PySem.P.truthy_str (by omega) ⟨H,I.tok _,q⟩
 | byt y =>
   obtain ⟨t,rfl⟩:=rx
   obtain ⟨hy,e'⟩:y.size≤sizeLine∧k=((y.size:Int) != 0):=e
   subst e'
   exact W.truthy_bytes (by omega) ⟨H,I.tok _,q⟩
 | ref p =>
   cases rx
   have e':(∃ xs,SqL X.K H p xs∧k=!xs.isEmpty)∨(∃ xs,SqT X.K H p xs∧k=!xs.isEmpty)∨∃ kvs,H p=some (.dK kvs)∧k=!kvs.isEmpty:=e
   rcases e' with ⟨xs,hx,e'⟩ | ⟨xs,hx,e'⟩ | ⟨kvs,hx,e'⟩
   ·subst e'
    obtain ⟨its,r,pl,hz⟩:=I.list hx
    have hlen:=r.length
    exact wpAny_truthy_list pl.isList (by simp only [List.size_toArray]; omega) ⟨H,I.tok _,by rw [Nh r]; exact q⟩
   ·subst e'
    obtain ⟨its,r,pl,hz⟩:=I.tuple hx
    have hlen:=r.length
    exact truthy_tuple pl (by simp only [List.size_toArray]; omega) ⟨H,I.tok _,by rw [Nh r]; exact q⟩
   ·subst e'
    obtain ⟨hz,hS,vs,r,m⟩:kvs.length≤sizeLine∧(p == sysModules)=false∧∃ vs,KV kvs vs∧s.heap.DictOf (B3 X.prog X.w) p vs:=I.hok p _ hx
    have hlen:kvs.length=vs.length:=Paired.length r
    exact wpAny_truthy_dict hS m (by omega) ⟨H,I.tok _,by rw [Tg r]; exact q⟩
 | _=>exact (show False from e).elim
theorem Xi (ha:PE X a ta) (he:∀ whole,isTrue a X.env whole=(do let v ← whole; standAt a.pos; holding [v] (truthy v))) :
 PT X a (fun σ H Q=>ta σ H fun x H'=>∃ k,Jd3 X.K x H' k∧Q k H'):=by
 intro pins s σ H Q I h
 exact isTrue_plain (thn (ha pins s σ H _ I h) fun v s1 ⟨x,H1,I1,r1,q1⟩=>Jbh pins s1 σ H1 x v Q I1 r1 q1) (he _)
theorem Gr:OpR X (binaryOp .Add) (fun x y H Q=>∃ i j,x=.str i∧y=.str j∧i.length + j.length≤sizeLine∧Q (.str (i++j)) H):=by
 intro pins s σ H x y v u Q I rx ry h
 obtain ⟨i,j,rfl,rfl,hz,q⟩:=h
 obtain ⟨t,rfl⟩:=rx
 obtain ⟨t',rfl⟩:=ry
 exact add_str (fun t' tk=>⟨.str (i++j),H,I.tok _,⟨_,rfl⟩,q⟩) hz
def Jd5 (b:Expr):Prop:=∀ o i,subscripted b false o i=operate [o,i] (getItem o i)
theorem vals1 {x:V} {us:List Value} (r:Vals [x] us):∃ u,us=[u]∧RelV x u:=by
 cases r with
 | cons r1 r2=>cases r2; exact ⟨_,rfl,r1⟩
theorem vals2 {x y:V} {us:List Value} (r:Vals [x,y] us):∃ u w',us=[u,w']∧RelV x u∧RelV y w':=by
 cases r with
 | cons r1 r2 =>
   cases r2 with
   | cons r3 r4=>cases r4; exact ⟨_,_,rfl,r1,r3⟩
theorem Wh (hc:X.calm=true):E8 X (.builtin "max") (fun xs H Q=>∃ i j,xs=[.int i,.int j]∧Q (.int (if j > i then j else i)) H):=by
 intro pins s σ H xs us Q I r h
 obtain ⟨i,j,rfl,q⟩:=h
 obtain ⟨u,w',rfl,⟨t,rfl⟩,⟨t',rfl⟩⟩:=vals2 r
 refine max_two_ints (I.ok.hd hc) fun h' tk k=>⟨_,H,I.kept k,?_,q⟩
 by_cases hj:j > i
 ·rw [if_pos hj,if_pos hj]; exact ⟨_,rfl⟩
 ·rw [if_neg hj,if_neg hj]; exact ⟨_,rfl⟩
theorem Pf (hc:X.calm=true):E8 X (.builtin "min") (fun xs H Q=>∃ i j,xs=[.int i,.int j]∧Q (.int (if j < i then j else i)) H):=by
 intro pins s σ H xs us Q I r h
 obtain ⟨i,j,rfl,q⟩:=h
 obtain ⟨u,w',rfl,⟨t,rfl⟩,⟨t',rfl⟩⟩:=vals2 r
 refine min_two_ints (I.ok.hd hc) fun h' tk k=>⟨_,H,I.kept k,?_,q⟩
 by_cases hj:j < i
 ·rw [if_pos hj,if_pos hj]; exact ⟨_,rfl⟩
 ·rw [if_neg hj,if_neg hj]; exact ⟨_,rfl⟩
theorem Pg:E8 X (.type "int") (fun xs H Q=>(∃ i,xs=[.int i]∧Q (.int i) H)∨∃ k,xs=[.bl k]∧Q (.int (if k then 1 else 0)) H):=by
 intro pins s σ H xs us Q I r h
 rcases h with ⟨i,rfl,q⟩ | ⟨k,rfl,q⟩
 ·obtain ⟨u,rfl,t,rfl⟩:=vals1 r
  exact call_int_int ⟨.int i,H,I,⟨_,rfl⟩,q⟩
 ·obtain ⟨u,rfl,r1⟩:=vals1 r
  cases r1
  exact call_int_bool ⟨.int (if k then 1 else 0),H,I.tok _,⟨_,rfl⟩,q⟩
def Jgs (K:W.Frag) (x:V) (H:Hp) (n:Nat):Prop :=
 match x with
 | .str y=>y.length≤sizeLine∧n=y.length
 | .byt y=>y.size≤sizeLine∧n=y.size
 | .ref p=>(∃ xs,SqL K H p xs∧n=xs.length)∨∃ xs,SqT K H p xs∧n=xs.length
 | _=>False
end
structure ObjM (h:Heap) (x dx C:Addr) (mA:Str→Option Value):Prop where
 obj:h.get? x=some (W.instObj C dx)
 ns:h.Ns1 dx mA
 ne:dx≠x
theorem Vy {h:Heap} {dx:Addr} {mA:Str→Option Value} (n:h.Ns1 dx mA):∃ od,h.get? dx=some od∧∀ name,W.lookIn name od=some (mA name):=by
 obtain ⟨o,es,ep,ho,hd,hk,_,hm⟩:=n
 refine ⟨o,ho,fun name=>?_⟩
 have e:=hm name
 unfold nsFind findBy at e
 rw [← Array.find?_toList] at e
 unfold W.lookIn
 rw [hd]
 dsimp only
 split
 ·rename_i y q
  rw [q] at e
  exact congrArg some e
 ·rename_i q
  rw [q] at e
  have a:es.toList.any (·.refKey)=false:=by
   rw [List.any_eq_false]
   intro y hy
   obtain ⟨z,t,hkey⟩:=hk y (Array.mem_toList_iff.mp hy)
   simp [DictEntry.refKey,hkey]
  have a':¬ es.toList.any (·.refKey)=true:=by rw [a]; exact Bool.false_ne_true
  rw [if_neg a']
  exact congrArg some e
theorem ObjM.look {h:Heap} {x dx C:Addr} {mA:Str→Option Value} (I:ObjM h x dx C mA):∃ od,W.InstAt h x (W.instObj C dx) C (some od)∧∀ name,W.lookIn name od=some (mA name) :=
 let ⟨od,ho,hl⟩:=Vy I.ns
 ⟨od,⟨I.obj,rfl,rfl,ho⟩,hl⟩
section
variable {prog:Program} {w:World} {A:Around} {E:Value→Shared→Prop} {s:Shared} {K:W.Frag} {x dx C f:Addr} {mA:Str→Option Value} {name:Str} {v:Value}
theorem Jam {expr:Bool} {Q:Value→Shared→Prop} (X:K.In s.heap) (I:ObjM s.heap x dx C mA) (hg:W.plainGet K C name=true) (hh:W.hasDictIn K C=true)
 (ha:W.findIn K (.ref C) name=some none) (hv:mA name=some v) (hv':W.handedIn v=true) (h:Q v { s with toks:=s.toks + 1 }) :
 wpAny (model prog w) A (getAttr (.ref x) name expr) Q E s:=by
 obtain ⟨od,J,hl⟩:=I.look
 exact W.get_value X J (W.plainGet_of hg).1 (W.findObj_own hh ha rfl (by rw [hl,hv])) hv' h
theorem Yq {pl:Sem Bool} {Q:Value×List Value→Shared→Prop} (X:K.In s.heap) (I:ObjM s.heap x dx C mA) (hg:W.plainGet K C name=true)
 (hf:W.findIn K (.ref C) name=some (some (.ref f))) (ht:W.isFn K (.ref f)=true) (hv:mA name=none) (h:Q (.ref f,[.ref x]) s) :
 wpAny (model prog w) A (getMethod (.ref x) name pl) Q E s:=by
 obtain ⟨od,J,hl⟩:=I.look
 exact W.method_fn X J (W.plainGet_of hg).1 (W.plainGet_of hg).2 hf (beq_iff_eq.mp ht) (by show (W.lookIn name od).map (·.isSome)=some false; rw [hl,hv]; rfl) h
theorem Zg {ns:List Str} {Q:Unit→Shared→Prop} (X:K.In s.heap) (I:ObjM s.heap x dx C mA)
 (hs:W.findIn K (.ref C) "__setattr__"=some (some (.builtin "object.__setattr__"))) (hp:W.plainOver K C=true) (ht:W.takerIn K C name=some none) (hh:W.hasDictIn K C=true)
 (hw:PySem.Within mA ns) (hsz:ns.length≤sizeLine)
 (h:∀ h',ObjM h' x dx C (fun y=>if y=name then some v else mA y)→Heap.SameBut dx s.heap h'→Q () { s with heap:=h',toks:=s.toks + 2 }) :
 wpAny (model prog w) A (setAttr (.ref x) name v) Q E s:=by
 obtain ⟨od,J,hl⟩:=I.look
 refine W.set_plain X J hs (W.osa_open (s:={ s with toks:=s.toks + 1 }) (r:=none) X J hp ht fun b=>?_)
 obtain ⟨cd,hc,hd'⟩:=W.any_some hh
 have hx:s.heap.get? x=some ⟨.ref C,some dx,.plain,#[]⟩:=I.obj
 refine wpAny_bind (wpAny_pure (wpAny_bind (wpAny_bind (wpAny_loadPart hx (wpAny_bind (W.Looks.here (s:={ s with toks:=s.toks + 1 }) (W.looks_clsIn X hc) ?_))))))
 rw [hd']
 refine wpAny_pure (a:=some dx) (wpAny_bind (wpAny_pure (wpAny_bind ?_)))
 refine wpAny_nsSet1 (s:={ s with toks:=s.toks + 1 }) I.ns fun h' hn2 hs2=>?_
 obtain ⟨oD,esD,epD,hoD,hdD,hcD⟩:=hn2.count (PySem.Within.cons name v hw)
 refine wpAny_bind (wpAny_lookBehind hoD (by rw [hdD]; exact pastItsLine_dict (Nat.le_trans hcD (by rw [List.length_cons]; omega))) ?_)
 exact wpAny_pure (h _ ⟨(hs2.2 _ (Ne.symm I.ne)).trans I.obj,hn2,I.ne⟩ hs2)
theorem Yh {R:Result→Shared→Prop} {vs:List Value} {kw:List (Str×Value)} (X:K.In s.heap) (hm:W.makesIn K C=true)
 (hi:W.findIn K (.ref C) "__init__"=some (some (.ref f))) (hf:W.typeIn K (.ref f)=some (.type "function"))
 (h:codeAny (model prog w) (A.under (.builtin "type.__call__" ⟨.ref C :: vs,kw⟩)) (.call (.ref f) ⟨.ref (s.heap.objs.size + 1) :: vs,kw⟩) (W.InitBack (s.heap.objs.size + 1) R)
  { s with heap:=(s.heap.push W.emptyDict).push (W.instObj C s.heap.objs.size) }) :
 codeAny (model prog w) A (.call (.ref C) ⟨vs,kw⟩) R s:=by
 obtain ⟨hh,g,d,t,os⟩:=s
 exact W.make_core (W.makes_of X hm) (W.looks_findIn X hi) (fun self=>W.bind_fn X self hf) (.inl rfl) h
end
def Bq (f:Str) (v:V):List (Str×V)→List (Str×V)
 | []=>[(f,v)]
 | (g,x) :: r=>if g=f then (g,v) :: r else (g,x) :: Bq f v r
theorem K3 (f g:Str) (v:V):∀ fs:List (Str×V),(Bq f v fs).lookup g=if g=f then some v else fs.lookup g
 | []=>by
   show List.lookup g [(f,v)]=_
   by_cases h:g=f
   ·have hb:(g == f)=true:=beq_iff_eq.mpr h
    simp only [List.lookup,hb,if_pos h]
   ·have hb:(g == f)=false:=beq_eq_false_iff_ne.mpr h
    simp only [List.lookup,hb,if_neg h]
 | (k,x) :: r=>by
   have ih:=K3 f g v r
   rw [show Bq f v ((k,x) :: r)=(if k=f then (k,v) :: r else (k,x) :: Bq f v r) from rfl]
   by_cases hk:k=f
   ·rw [if_pos hk]
    by_cases h:g=k
    ·have hb:(g == k)=true:=beq_iff_eq.mpr h
     simp only [List.lookup,hb,if_pos (h.trans hk)]
    ·have hb:(g == k)=false:=beq_eq_false_iff_ne.mpr h
     simp only [List.lookup,hb,if_neg (fun e:g=f=>h (e.trans hk.symm))]
   ·rw [if_neg hk]
    by_cases h:g=k
    ·have hb:(g == k)=true:=beq_iff_eq.mpr h
     simp only [List.lookup,hb,if_neg (fun e:g=f=>hk (h.symm.trans e))]
    ·have hb:(g == k)=false:=beq_eq_false_iff_ne.mpr h
     simp only [List.lookup,hb]
     exact ih
theorem Kr (f:Str) (v:V):∀ fs:List (Str×V),f∈(Bq f v fs).map (·.1)∧∀ g,g∈fs.map (·.1)→g∈(Bq f v fs).map (·.1)
 | []=>⟨by simp [Bq],fun g h=>by simp at h⟩
 | (k,x) :: r=>by
   obtain ⟨i1,i2⟩:=Kr f v r
   rw [show Bq f v ((k,x) :: r)=(if k=f then (k,v) :: r else (k,x) :: Bq f v r) from rfl]
   by_cases hk:k=f
   ·rw [if_pos hk]
    subst hk
    exact ⟨by simp,fun g h=>by simpa using h⟩
   ·rw [if_neg hk]
    refine ⟨?_,fun g h=>?_⟩
    ·rw [List.map_cons]
     exact List.mem_cons_of_mem _ i1
    ·rw [List.map_cons] at h ⊢
     rcases List.mem_cons.mp h with e | e
     ·exact List.mem_cons.mpr (.inl e)
     ·exact List.mem_cons_of_mem _ (i2 g e)
theorem Bb (f:Str) (v:V):∀ fs:List (Str×V),(Bq f v fs).length≤fs.length + 1
 | []=>by simp [Bq]
 | (k,x) :: r=>by
   have ih:=Bb f v r
   rw [show Bq f v ((k,x) :: r)=(if k=f then (k,v) :: r else (k,x) :: Bq f v r) from rfl]
   by_cases hk:k=f
   ·rw [if_pos hk,List.length_cons,List.length_cons]; omega
   ·rw [if_neg hk,List.length_cons,List.length_cons]; omega
theorem RelO.some_of {v:V} {o:Option Value} (r:RelO (some v) o):∃ u,o=some u∧RelV v u:=by
 cases o with
 | none=>exact (show False from r).elim
 | some u=>exact ⟨u,rfl,r⟩
theorem RelO.none_of {o:Option Value} (r:RelO none o):o=none:=by
 cases o with
 | none=>rfl
 | some u=>exact (show False from r).elim
theorem Wb {v:V} {u:Value} (r:RelV v u):W.handedIn u=true:=by
 cases v with
 | non=>cases (show u=Value.none from r); rfl
 | bl b=>cases (show u=Value.bool b from r); rfl
 | int i=>obtain ⟨t,e⟩:=(show ∃ t,u=Value.int i t from r); cases e; rfl
 | str x=>obtain ⟨t,e⟩:=(show ∃ t,u=Value.str x t from r); cases e; rfl
 | byt b=>obtain ⟨t,e⟩:=(show ∃ t,u=Value.bytes b t from r); cases e; rfl
 | flt b=>obtain ⟨t,e⟩:=(show ∃ t,u=Value.float b t from r); cases e; rfl
 | ref a=>cases (show u=Value.ref a from r); rfl
 | ty n=>cases (show u=Value.type n from r); rfl
section
variable {P:Program} {w:World} {H H':Hp} {h h':Heap} {a C dx:Addr} {fs fs':List (Str×V)}
theorem Qa (hok:HOk P w H h) (e:H a=some (.ins C dx fs)):∃ mA,ObjM h a dx C mA∧(∀ f,RelO (fs.lookup f) (mA f))∧PySem.Within mA (fs.map (·.1))∧fs.length≤1000∧H dx=some (.own a):=by
 obtain ⟨d,z,ne,ob,mA,n,r,q⟩:=(show ObjOk P w H h a (.ins C dx fs) from hok a _ e)
 exact ⟨mA,⟨ob,n,ne⟩,r,q,z,d⟩
end
structure Cls (K:W.Frag) (C:Addr):Prop where
 pg:W.plainGet K C Str.empty=true
 hd:W.hasDictIn K C=true
 po:W.plainOver K C=true
 sa:W.findIn K (.ref C) "__setattr__"=some (some (.builtin "object.__setattr__"))
theorem Cls.get {K:W.Frag} {C:Addr} (c:Cls K C) (f:Str):W.plainGet K C f=true:=c.pg
def NoAttr (K:W.Frag) (C:Addr) (f:Str):Prop:=W.findIn K (.ref C) f=some none
theorem NoAttr.taker {K:W.Frag} {C:Addr} {f:Str} (n:NoAttr K C f):W.takerIn K C f=some none:=by
 unfold W.takerIn
 rw [show W.findIn K (.ref C) f=some none from n]
 rfl
structure Con (K:W.Frag) (C:Addr) (f:Str) (v:V) (u:Value):Prop where
 at_:W.findIn K (.ref C) f=some (some u)
 rel:RelV v u
 get:W.specialIn K u "__get__"=some none
 cp:W.copiedNames.contains f=false
structure Y8 (K:W.Frag) (C:Addr) (m:Str) (f:Addr):Prop where
 at_:W.findIn K (.ref C) m=some (some (.ref f))
 fn:W.isFn K (.ref f)=true
 kp:W.keepIn K (.ref f)=true
section
variable {X:Cx} {pins:List (Addr×Obj)} {σ:St} {H:Hp} {s:Shared} {a C dx:Addr} {fs:List (Str×V)} {f:Str} {v:V} {A:Around} {E:Value→Shared→Prop}
theorem Np {b:Bool} {Q:Value→Shared→Prop} (I:Inv X pins σ H s) (e:H a=some (.ins C dx fs)) (c:Cls X.K C) (n:NoAttr X.K C f) (l:fs.lookup f=some v)
 (h:∀ u s',Inv X pins σ H s'→RelV v u→Q u s'):wpAny (model X.prog X.w) A (getAttr (.ref a) f b) Q E s:=by
 obtain ⟨mA,O,r,_,_,_⟩:=Qa I.hok e
 obtain ⟨u,hu,ru⟩:=RelO.some_of (v:=v) (o:=mA f) (by rw [← l]; exact r f)
 exact Jam I.kIn O (c.get f) c.hd n hu (Wb ru) (h u _ (I.tok _) ru)
theorem Nn {m:Str} {g:Addr} {pl:Sem Bool} {Q:Value×List Value→Shared→Prop} (I:Inv X pins σ H s) (e:H a=some (.ins C dx fs)) (c:Cls X.K C) (k:Y8 X.K C m g) (l:fs.lookup m=none)
 (h:Q (.ref g,[.ref a]) s):wpAny (model X.prog X.w) A (getMethod (.ref a) m pl) Q E s:=by
 obtain ⟨mA,O,r,_,_,_⟩:=Qa I.hok e
 have hn:mA m=none:=RelO.none_of (by rw [← l]; exact r m)
 exact Yq I.kIn O (c.get m) k.at_ k.fn hn h
theorem Lv {y:V} {u:Value} {Q:Unit→Shared→Prop} (I:Inv X pins σ H s) (e:H a=some (.ins C dx fs)) (c:Cls X.K C) (n:NoAttr X.K C f) (hl:fs.length < 1000) (ry:RelV y u)
 (h:∀ s',Inv X pins σ (upd H a (.ins C dx (Bq f y fs))) s'→Q () s'):wpAny (model X.prog X.w) A (setAttr (.ref a) f u) Q E s:=by
 obtain ⟨mA,O,r,wi,_,ho⟩:=Qa I.hok e
 have hz:(fs.map (·.1)).length≤sizeLine:=by rw [List.length_map,sizeLine_eq]; omega
 refine Zg I.kIn O c.sa c.po n.taker c.hd wi hz fun h' O' sb=>h _ ?_
 have hd:∃ o,h'.get? dx=some o:=let ⟨o,_,_,e',_⟩:=O'.ns; ⟨o,e'⟩
 refine I.write (x:=a) (e:=dx) (by rw [e]; exact True.intro) (.inr ho) (fun b q hb z=>(sb.2 b hb).trans z) hd ?_
 refine ⟨by rw [Ac O.ne]; exact ho,?_,O.ne,O'.obj,_,O'.ns,fun g=>?_,fun g hg=>?_⟩
 ·have:=Bb f y fs; omega
 ·show RelO ((Bq f y fs).lookup g) (if g=f then some u else mA g)
  rw [K3]
  by_cases q:g=f
  ·rw [if_pos q,if_pos q]; exact ry
  ·rw [if_neg q,if_neg q]; exact r g
 ·by_cases q:g=f
  ·rw [q]; exact (Kr f y fs).1
  ·refine (Kr f y fs).2 g (wi g fun z=>hg ?_)
   show (if g=f then some u else mA g)=none
   rw [if_neg q]; exact z
theorem Inv.made (I:Inv X pins σ H s):Inv X pins σ (upd (upd H s.heap.objs.size (.own (s.heap.objs.size + 1))) (s.heap.objs.size + 1) (.ins C s.heap.objs.size []))
 { s with heap:=(s.heap.push W.emptyDict).push (W.instObj C s.heap.objs.size) }:=by
 have e1:(s.heap.push W.emptyDict).get? s.heap.objs.size=some W.emptyDict:=Heap.get?_push_size s.heap rfl
 have e2:((s.heap.push W.emptyDict).push (W.instObj C s.heap.objs.size)).get? (s.heap.objs.size + 1)=some (W.instObj C s.heap.objs.size):=by
  have:=Heap.get?_push_size (s.heap.push W.emptyDict) (o:=W.instObj C s.heap.objs.size) rfl
  rwa [Heap.size_push] at this
 have e3:(s.heap.push W.emptyDict).Ns s.heap.objs.size (fun _=>none):=⟨W.emptyDict,#[],_,e1,rfl,(fun e he=>absurd he (by simp)),fun _=>rfl⟩
 have I1:=I.laid (a:=s.heap.objs.size) (o:=.own (s.heap.objs.size + 1)) (h':=s.heap.push W.emptyDict) (t':=s.toks) (fun b u q=>Heap.get?_push_of_some _ q) (Nat.le_refl _) ⟨_,e1⟩
 refine I1.laid (a:=s.heap.objs.size + 1) (o:=.ins C s.heap.objs.size []) (t':=s.toks) (fun b u q=>Heap.get?_push_of_some _ q) (Nat.le_of_eq (Heap.size_push _ _)) ?_
 have ne:s.heap.objs.size≠s.heap.objs.size + 1:=Nat.ne_of_lt (Nat.lt_succ_self _)
 refine ⟨by rw [Ac ne,Ab],Nat.zero_le _,ne,e2,fun _=>none,(Heap.Ns1.of_empty e3).at fun o q=>Heap.get?_push_of_some _ q,fun _=>True.intro,fun y hy=>absurd rfl hy⟩
theorem Jau {prog:Program} {w:World} {env:Env} {e:Expr} {f:Str} {pos:Pos} {s:Shared} {Q:Value→Shared→Prop} (hb:attributeBase e f env (eval e env)=eval e env)
 (h:wpAny (model prog w) A (eval e env) (fun o s₁=>wpAny (model prog w) A (getAttr o f true) Q E s₁) E s):wpAny (model prog w) A (eval (.Attribute e f pos) env) Q E s :=
 Attribute_any_ h (by rw [arm_eval_Attribute,hb])
end
def Zc (K:W.Frag) (ta:TE) (f:Str):TE:=fun σ H Q=>ta σ H fun x H1=>∃ a C dx fs v,x=.ref a∧H1 a=some (.ins C dx fs)∧Cls K C∧NoAttr K C f∧fs.lookup f=some v∧Q v H1
def Jge (K:W.Frag) (ta:TE) (f:Str):TE:=fun σ H Q=>ta σ H fun x H1=>∃ a C dx fs v u,x=.ref a∧H1 a=some (.ins C dx fs)∧Cls K C∧Con K C f v u∧fs.lookup f=none∧Q v H1
def Je8 (K:W.Frag) (ta tv:TE) (f:Str):TS:=fun D σ H=>tv σ H fun y H1=>ta σ H1 fun x H2=>∃ a C dx fs,x=.ref a∧H2 a=some (.ins C dx fs)∧Cls K C∧NoAttr K C f∧fs.length < 1000 ∧
 D.nx σ (upd H2 a (.ins C dx (Bq f y fs)))
def Ja0 (X:Cx) (op:Operator) (rd:V→V→Hp→VK→Prop):Prop :=
 ∀ (pins:List (Addr×Obj)) (s:Shared) (σ:St) (H:Hp) (x y:V) (u v:Value) (Q:VK),Inv X pins σ H s→RelV x u→RelV y v→rd x y H Q→wpAny (model X.prog X.w) X.A (inplaceOp op u v) (EP X pins σ Q) X.xe s
def Zh (K:W.Frag) (ta tv:TE) (rd:V→V→Hp→VK→Prop) (f:Str):TS:=fun D σ H=>ta σ H fun x H1=>∃ a C dx fs v,x=.ref a∧H1 a=some (.ins C dx fs)∧Cls K C∧NoAttr K C f∧fs.lookup f=some v ∧
 tv σ H1 fun y H2=>rd v y H2 fun z H3=>∃ dx' fs',H3 a=some (.ins C dx' fs')∧fs'.length < 1000∧D.nx σ (upd H3 a (.ins C dx' (Bq f z fs')))
section
variable {X:Cx} {o e value:Expr} {f:Str} {pos pos' tpos:Pos} {ta tv:TE}
theorem A7 (he:PE X e ta) (hb:attributeBase e f X.env (eval e X.env)=eval e X.env):PE X (.Attribute e f pos) (Zc X.K ta f):=by
 intro pins s σ H Q I h
 refine Jau hb (thn (he pins s σ H _ I h) fun u s1 ⟨x,H1,I1,rx,a,C,dx,fs,v,ex,ea,c,n,l,q⟩=>?_)
 subst ex
 obtain rfl:u=Value.ref a:=rx
 exact Np I1 ea c n l fun u' s2 I2 ru=>⟨v,H1,I2,ru,q⟩
theorem Ja (ha:PE X o ta) (hv:PE X value tv) (hs:swapsWith value (some (.Attribute o f pos')) pos.line X.env=pure false):PS X (.Assign [.Attribute o f pos'] value pos) (Je8 X.K ta tv f):=by
 intro pins s σ H D I h
 refine plainObj_wpAny_Assign_Attribute (thn (hv pins s σ H _ I h) fun u s1 ⟨y,H1,I1,ry,q⟩=>thn (ha pins s1 σ H1 _ I1 q) fun ov s2 ⟨x,H2,I2,rx,a,C,dx,fs,ex,ea,c,n,l,q2⟩=>?_) hs
 subst ex
 obtain rfl:ov=Value.ref a:=rx
 exact Lv I2 ea c n l ry fun s3 I3=>⟨σ,_,I3,q2⟩
theorem Ca {op:Operator} {rd:V→V→Hp→VK→Prop} (ha:PE X o ta) (hv:PE X value tv) (hop:Ja0 X op rd):PS X (.AugAssign (.Attribute o f tpos) op value pos) (Zh X.K ta tv rd f):=by
 intro pins s σ H D I h
 refine wpAny_AugAssign_AttributeAny (thn (ha pins s σ H _ I h) fun ov s1 ⟨x,H1,I1,rx,a,C,dx,fs,v,ex,ea,c,n,l,q⟩=>?_)
 subst ex
 obtain rfl:ov=Value.ref a:=rx
 refine Np I1 ea c n l fun u s2 I2 ru=>thn (hv pins s2 σ H1 _ I2 q) fun w3 s3 ⟨y,H2,I3,ry,q3⟩=>thn (hop pins s3 σ H2 v y u w3 _ I3 ru ry q3) fun w4 s4 ⟨z,H3,I4,rz,dx',fs',ea',l',q4⟩=>?_
 exact Lv I4 ea' c n l' rz fun s5 I5=>⟨σ,_,I5,q4⟩
def Jfi:V→V→Hp→VK→Prop:=fun x y H Q=>∃ i j,x=.int i∧y=.int j∧Q (.int (i + j)) H
def Je9:V→V→Hp→VK→Prop:=fun x y H Q=>∃ i j,x=.int i∧y=.int j∧Q (.int (i - j)) H
theorem C2:Ja0 X .Add Jfi:=by
 rintro pins s σ H x y u v Q I rx ry ⟨i,j,rfl,rfl,q⟩
 obtain ⟨t,rfl⟩:=(show ∃ t,u=Value.int i t from rx)
 obtain ⟨t',rfl⟩:=(show ∃ t',v=Value.int j t' from ry)
 exact PyProof.Rows.iadd_int ⟨.int (i + j),H,I.tok _,⟨_,rfl⟩,q⟩
theorem Yn:Ja0 X .Sub Je9:=by
 rintro pins s σ H x y u v Q I rx ry ⟨i,j,rfl,rfl,q⟩
 obtain ⟨t,rfl⟩:=(show ∃ t,u=Value.int i t from rx)
 obtain ⟨t',rfl⟩:=(show ∃ t',v=Value.int j t' from ry)
 exact PyProof.Rows.isub_int ⟨.int (i - j),H,I.tok _,⟨_,rfl⟩,q⟩
end
section
variable {X:Cx} {pins:List (Addr×Obj)} {σ:St} {H:Hp} {s:Shared} {A:Around} {E:Value→Shared→Prop} {Q:Value→Shared→Prop} {c:Value} {b:Bool}
inductive Ld (K:W.Frag) (H:Hp):V→Value→Prop where
 | non:Ld K H .non (.type "NoneType")
 | bl (x:Bool):Ld K H (.bl x) (.type "bool")
 | int (i:Int):Ld K H (.int i) (.type "int")
 | str (x:Str):Ld K H (.str x) (.type "str")
 | flt (x:UInt64):Ld K H (.flt x) (.type "float")
 | lst {a:Addr} {xs:List V} (e:H a=some (.lst xs)):Ld K H (.ref a) (.type "list")
 | frz {a:Addr} {o:Obj} {xs:List V} (e:H a=some (.frz o (.lst xs))):Ld K H (.ref a) (.type "list")
 | tup {a:Addr} {xs:List V} (e:H a=some (.tup xs)):Ld K H (.ref a) (.type "tuple")
 | dK {a:Addr} {kvs:List (Key×V)} (e:H a=some (.dK kvs)):Ld K H (.ref a) (.type "dict")
 | dT {a:Addr} {kvs:List (List Key×V)} (e:H a=some (.dT kvs)):Ld K H (.ref a) (.type "dict")
 | ins {a C dx:Addr} {fs:List (Str×V)} (e:H a=some (.ins C dx fs)) (cl:Cls K C) (ha:W.findIn K (.ref C) "__class__"=some (some (.builtin "object.__class__")))
  (hn:W.specialIn K (.builtin "object.__class__") "__get__"=some (some (.builtin "getset_descriptor.__get__"))) (htk:W.takesIn K (.builtin "object.__class__")=some true)
  (hm:W.mroIn K C (.type "object")=some true):Ld K H (.ref a) (.ref C)
end
structure Room (k:Nat) (A:Around):Prop where
 hd:A.handled=none
 dp:A.depth + 3 * k + 5 < recursionLimit
 un:A.units + 16 * k + 200 < cLine
theorem Room.mono {j k:Nat} {A:Around} (r:Room k A) (h:j≤k):Room j A:=⟨r.hd,by have:=r.dp; omega,by have:=r.un; omega⟩
theorem Room.deeper {k:Nat} {A:Around} (r:Room (k + 1) A) (env:Env):Room k (A.deeper env) :=
 ⟨r.hd,by have:=r.dp; show A.depth + 1 + 3 * k + 5 < _; omega,by have:=r.un; show A.units + 3 + 16 * k + 200 < _; omega⟩
theorem Ta {A:Around} {C:Addr} {us:List Value} {kw:List (Str×Value)}:(A.under (.builtin "type.__call__" ⟨.ref C :: us,kw⟩)).depth=A.depth + 1:=by
 first | rfl | simp [Around.under,Code.weight,Code.isCreation,Code.isGuard,Code.isCaller,Code.frames,Code.isFrame,guardIds]
theorem Sz {A:Around} {C:Addr} {us:List Value} {kw:List (Str×Value)}:(A.under (.builtin "type.__call__" ⟨.ref C :: us,kw⟩)).units=A.units + 1:=by
 first | rfl | simp [Around.under,Code.cUnits,Code.frames,Code.isFrame]
theorem Room.make {k:Nat} {A:Around} (r:Room (k + 1) A) (C:Addr) (us:List Value) (kw:List (Str×Value)):Room k (A.under (.builtin "type.__call__" ⟨.ref C :: us,kw⟩)) :=
 ⟨r.hd,by have:=r.dp; rw [Ta]; omega,by have:=r.un; rw [Sz]; omega⟩
theorem Room.depth {k:Nat} {A:Around} (r:Room k A):A.depth < recursionLimit:=by have:=r.dp; omega
theorem Room.units {k:Nat} {A:Around} (r:Room k A):A.units + 64 < cLine:=by have:=r.un; omega
def Ki:TA:=fun _ H Q=>Q [] H
def C3 (ta:TE) (tr:TA):TA:=fun σ H Q=>ta σ H fun x H1=>tr σ H1 fun xs H2=>Q (x :: xs) H2
section
variable {X:Cx} {e:Expr} {es:List Expr} {te:TE} {t:TA} {pos:Pos}
theorem Ag:PA X [] Ki:=fun _ _ _ _ H Q I h=>Calls.spliced_nil ⟨[],H,I,.nil,h⟩
theorem Aa (ha:PE X e te) (hr:PA X es t) (hs:starEach (e :: es) X.env=(false,eval e X.env) :: starEach es X.env:=by rfl):PA X (e :: es) (C3 te t):=by
 intro pos pins s σ H Q I h
 rw [hs]
 show wpAny _ _ (spliced ((false,eval e X.env) :: backTo pos (starEach es X.env))) _ _ s
 refine Calls.spliced_cons (thn (ha pins s σ H _ I h) fun u s1 ⟨x,H1,I1,r1,q1⟩=>?_)
 exact thn (hr pos pins s1 σ H1 _ I1 q1) fun us s2 ⟨xs,H2,I2,r2,q2⟩=>⟨x :: xs,H2,I2,.cons r1 r2,q2⟩
def Sh (t:TA):TE:=fun σ H Q=>t σ H fun xs H1=>xs.length≤sizeLine∧∀ p,H1 p=none→Q (.ref p) (upd H1 p (.tup xs))
def Jdb (t:TA):TE:=fun σ H Q=>t σ H fun xs H1=>xs.length≤sizeLine∧∀ p,H1 p=none→Q (.ref p) (upd H1 p (.lst xs))
theorem A6 {x1} (h:PA X es t):PE X (.Tuple es x1 pos) (Sh t):=by
 intro pins s σ H Q I hq
 refine wpAny_Tuple_spliced (thn (h pos pins s σ H _ I hq) fun us s1 ⟨xs,H1,I1,r,z,q⟩=>⟨by rw [← r.length]; exact z,?_⟩)
 have hf:H1 s1.heap.objs.size=none:=I1.hok.fresh (Nat.le_refl _)
 refine ⟨.ref s1.heap.objs.size,upd H1 s1.heap.objs.size (.tup xs),I1.laid (t':=s1.toks) (fun b u e=>Heap.get?_push_of_some _ e) (Nat.le_refl _) ?_,rfl,q _ hf⟩
 exact ⟨z,us,r,⟨_,Heap.get?_push_size _ rfl,rfl,_,rfl⟩⟩
theorem Hn (h:PA X es t):PE X (.List es pos) (Jdb t):=by
 intro pins s σ H Q I hq
 refine wpAny_List_spliced (thn (h pos pins s σ H _ I hq) fun us s1 ⟨xs,H1,I1,r,z,q⟩=>⟨by rw [← r.length]; exact z,?_⟩)
 have hf:H1 s1.heap.objs.size=none:=I1.hok.fresh (Nat.le_refl _)
 refine ⟨.ref s1.heap.objs.size,upd H1 s1.heap.objs.size (.lst xs),I1.laid (t':=s1.toks) (fun b u e=>Heap.get?_push_of_some _ e) (Nat.le_refl _) ?_,rfl,q _ hf⟩
 exact ⟨z,us,0,r,Heap.get?_push_size _ rfl⟩
end
abbrev Sp:=List V→Hp→VK→XK→Prop
abbrev CXT:=List Env→Hp→Shared→XK→Value→Shared→Prop
structure Env0 (P:Program) (w:World) (K:W.Frag) (mg:Str→Option Value) (base:Heap) (A:Around) (outer:List Env) (s:Shared) (H:Hp):Prop where
 frames:A.frames=some outer
 mod:Mod K mg base
 bs:∀ b o,base.get? b=some o→s.heap.get? b=some o∧H b=none
 bsz:base.objs.size≤s.heap.objs.size
 funs:s.heap.FunFrames base outer
 frf:∀ b∈frs outer,H b=none
 hok:HOk P w H s.heap
 bare:AllBare s.gens
def CE (outer:List Env) (P:Program) (w:World) (H:Hp) (s:Shared) (Q:VK) (u:Value) (s':Shared):Prop :=
 ∃ v H',s'.os=s.os∧AllBare s'.gens∧Un (frs outer) [] H H' s.heap s'.heap∧HOk P w H' s'.heap∧RelV v u∧Q v H'
def CR (CX:CXT) (outer:List Env) (P:Program) (w:World) (H:Hp) (s:Shared) (Q:VK) (E:XK) (r:Result) (s':Shared):Prop :=
 match r with
 | .ok (.ret u)=>CE outer P w H s Q u s'
 | .ok _=>False
 | .error e=>CX outer H s E e s'
structure FnOk (P:Program) (w:World) (K:W.Frag) (mg:Str→Option Value) (base:Heap) (CX:CXT) (k:Nat) (f:Addr) (fd:FuncData) (ps:List Str) (sp:Sp):Prop where
 len:∀ vs H Q E,sp vs H Q E→vs.length=ps.length
 run:∀ (A:Around) (outer:List Env) (s:Shared) (H:Hp) (args:Args) (us:List Value) (vs:List V) (Q:VK) (E:XK),Room k A→Env0 P w K mg base A outer s H→BindsTo s fd args (ps.zip us)→Vals vs us→sp vs H Q E →
  codeAny (model P w) A (.call (.ref f) args) (CR CX outer P w H s Q E) s
theorem Env0.make {P:Program} {w:World} {K:W.Frag} {mg:Str→Option Value} {base:Heap} {A:Around} {outer:List Env} {s:Shared} {H:Hp} (e:Env0 P w K mg base A outer s H) (C:Addr) (us:List Value) (kw:List (Str×Value)) :
 Env0 P w K mg base (A.under (.builtin "type.__call__" ⟨.ref C :: us,kw⟩)) outer s H:=⟨by first | exact e.frames | (simpa [Around.under,Code.envs,Code.isFrame,pushEnvs] using e.frames),e.mod,e.bs,e.bsz,e.funs,e.frf,e.hok,e.bare⟩
section
variable {X:Cx} {pins:List (Addr×Obj)} {σ:St} {H:Hp} {s s':Shared}
theorem Inv.env0 (I:Inv X pins σ H s):Env0 X.prog X.w X.K X.mg X.base X.A X.stack s H :=
 ⟨I.ok.frames,I.ok.mod,I.bs,Nat.le_trans I.ok.bsz I.sz,I.stack,I.stkFree,I.hok,I.bare⟩
theorem Inv.after {Q:VK} {u:Value} (I:Inv X pins σ H s) (h:CE X.stack X.prog X.w H s Q u s'):EP X pins σ Q u s':=by
 obtain ⟨v,H',os,bare,un,hok,r,q⟩:=h
 obtain ⟨hh,g,d,t,os'⟩:=s'
 obtain rfl:os'=s.os:=os
 exact ⟨v,H',I.call (h':=hh) (g':=g) (d':=d) (t':=t) (ch:=[]) un hok bare (fun b z=>absurd z (by simp)),r,q⟩
end
def Jde (sp:Sp) (dvs:List V) (E:XK) (t:TA):TE:=fun σ H Q=>t σ H fun vs H1=>sp (vs++dvs) H1 Q E
def Wr (C:Addr) (m:Str) (sp:Sp) (dvs:List V) (E:XK) (ta:TE) (t:TA):TE:=fun σ H Q=>ta σ H fun x H1=>∃ a dx fs,x=.ref a∧H1 a=some (.ins C dx fs)∧fs.lookup m=none ∧
 t σ H1 fun vs H2=>sp (x :: (vs++dvs)) H2 Q E
def Jda (C:Addr) (sp:Sp) (dvs:List V) (E:XK) (t:TA):TE:=fun σ H Q=>t σ H fun vs H1=>∀ x dx,H1 x=none→H1 dx=none→dx≠x →
 sp (.ref x :: (vs++dvs)) (upd (upd H1 dx (.own x)) x (.ins C dx [])) (fun v H2=>v=.non∧Q (.ref x) H2) E
def Binds (K:W.Frag) (fd:FuncData) (ps:List Str) (ds:List Value):Prop :=
 ∀ (s:Shared) (us:List Value),K.In s.heap→(us++ds).length=ps.length→BindsTo s fd ⟨us,[]⟩ (ps.zip (us++ds))
theorem Binds.all {K:W.Frag} {fd:FuncData} {ps:List Str} (h:∀ us:List Value,us.length=ps.length→bindArgs fd ⟨us,[]⟩=pure (ps.zip us)):Binds K fd ps []:=fun s us _ hl=>by
 rw [List.append_nil] at hl ⊢
 exact .of_eq (h us hl)
def Ia (CX:CXT) (X:Cx) (E:XK):Prop:=∀ (pins:List (Addr×Obj)) (σ:St) (H:Hp) (s:Shared) (e:Value) (s':Shared),Inv X pins σ H s→CX X.stack H s E e s'→X.xe e s'
section
variable {X:Cx} {CX:CXT} {k:Nat} {f C:Addr} {fd:FuncData} {ps:List Str} {sp:Sp} {dvs:List V} {ds:List Value} {E:XK} {x m:Str} {p pos apos:Pos} {e o:Expr} {es:List Expr} {ta:TE} {t:TA}
theorem Sq {pins:List (Addr×Obj)} {σ:St} {H:Hp} {s:Shared} {Q:VK} {us:List Value} {vs:List V} (F:FnOk X.prog X.w X.K X.mg X.base CX k f fd ps sp) (hr:Room k X.A) (hb:Binds X.K fd ps ds) (hd:Vals dvs ds) (hx:Ia CX X E)
 (I:Inv X pins σ H s) (r:Vals vs us) (h:sp (vs++dvs) H Q E):wpAny (model X.prog X.w) X.A (call (.ref f) us) (EP X pins σ Q) X.xe s:=by
 have r2:Vals (vs++dvs) (us++ds):=r.append hd
 have hl:(us++ds).length=ps.length:=by rw [← r2.length]; exact F.len _ _ _ _ h
 refine wpAny_call (codeAny_mono (F.run X.A X.stack s H ⟨us,[]⟩ (us++ds) (vs++dvs) Q E hr I.env0 (hb s us I.kIn hl) r2 h) fun r s' hq=>?_)
 cases r with
 | error e=>exact hx pins σ H s e s' I hq
 | ok fl =>
   cases fl with
   | ret u=>exact I.after hq
   | next=>exact False.elim hq
   | brk=>exact False.elim hq
   | cont=>exact False.elim hq
theorem Bn (F:FnOk X.prog X.w X.K X.mg X.base CX k f fd ps sp) (hr:Room k X.A) (hg:Gl X x) (hm:X.mg x=some (.ref f)) (hk:W.keepIn X.K (.ref f)=true) (hb:Binds X.K fd ps ds) (hd:Vals dvs ds) (hx:Ia CX X E)
 (ha:PA X (e :: es) t) (hdb:(x == ("__debug__":Str))=false:=by decide) (he:starEach (e :: es) X.env=(false,eval e X.env) :: starEach es X.env:=by rfl) (hpl:(backTo pos (starEach es X.env)).any (·.1)=false:=by rfl) :
 PE X (.Call (.Name x p) (e :: es) [] pos) (Jde sp dvs E t):=by
 intro pins s σ H Q I h
 refine wpAny_Call_Name_kw (Ie I hg hm ?_ hdb)
 refine W.callWith_K (h₀:=X.base) I.ok.mod.kin hk (thn (ha pos pins s σ H _ I h) fun us s1 ⟨vs,H1,I1,r,q⟩=>⟨I1.kIn,?_⟩) he hpl
 exact Sq F hr hb hd hx I1 r q
theorem Bo {pl:Sem Bool} (he:PE X o ta) (c:Cls X.K C) (hm:Y8 X.K C m f) (F:FnOk X.prog X.w X.K X.mg X.base CX k f fd ps sp) (hr:Room k X.A) (hb:Binds X.K fd ps ds) (hd:Vals dvs ds) (hx:Ia CX X E) (ha:PA X (e :: es) t)
 (hst:starEach (e :: es) X.env=(false,eval e X.env) :: starEach es X.env:=by rfl) (hpl:(backTo pos (starEach es X.env)).any (·.1)=false:=by rfl)
 (ht:eval (.Call (.Attribute o m apos) (e :: es) [] pos) X.env=(do
  let ov ← eval o X.env
  standAt apos.atName
  let (f,first) ← holding [ov] (getMethod ov m pl)
  callWith pos f first (backTo pos (starEach (e :: es) X.env)) (backToKw pos (keywordEach [] X.env))):=by rfl) :
 PE X (.Call (.Attribute o m apos) (e :: es) [] pos) (Wr C m sp dvs E ta t):=by
 intro pins s σ H Q I h
 refine W.methodCall_KW (pl:=pl) (thn (he pins s σ H _ I h) fun u s1 ⟨x,H1,I1,rx,a,dx,fs,ex,ea,l,q⟩=>?_) ht
 subst ex
 obtain rfl:u=Value.ref a:=rx
 refine Nn I1 ea c hm l ?_
 refine W.callWith_K (first:=[.ref a]) (h₀:=X.base) I.ok.mod.kin hm.kp (thn (ha pos pins s1 σ H1 _ I1 q) fun us s2 ⟨vs,H2,I2,r,q2⟩=>⟨I2.kIn,?_⟩) hst hpl
 exact Sq (us:=.ref a :: us) (vs:=.ref a :: vs) F hr hb hd hx I2 (.cons rfl r) q2
theorem D5 {pl:Sem Bool} (he:PE X o ta) (c:Cls X.K C) (hm:Y8 X.K C m f) (F:FnOk X.prog X.w X.K X.mg X.base CX k f fd ps sp) (hr:Room k X.A) (hb:Binds X.K fd ps ds) (hd:Vals dvs ds) (hx:Ia CX X E)
 (ht:eval (.Call (.Attribute o m apos) [] [] pos) X.env=(do
  let ov ← eval o X.env
  standAt apos.atName
  let (f,first) ← holding [ov] (getMethod ov m pl)
  callWith pos f first (backTo pos (starEach [] X.env)) (backToKw pos (keywordEach [] X.env))):=by rfl) :
 PE X (.Call (.Attribute o m apos) [] [] pos) (Wr C m sp dvs E ta Ki):=by
 intro pins s σ H Q I h
 refine W.methodCall_KW (pl:=pl) (thn (he pins s σ H _ I h) fun u s1 ⟨x,H1,I1,rx,a,dx,fs,ex,ea,l,q⟩=>?_) ht
 subst ex
 obtain rfl:u=Value.ref a:=rx
 refine Nn I1 ea c hm l ?_
 exact W.callWith_K0 (first:=[.ref a]) I1.kIn hm.kp (Sq (us:=[.ref a]) (vs:=[.ref a]) F hr hb hd hx I1 (.cons rfl .nil) q)
structure Mk (K:W.Frag) (C f:Addr):Prop where
 makes:W.makesIn K C=true
 init:W.findIn K (.ref C) "__init__"=some (some (.ref f))
 fn:W.isFn K (.ref f)=true
 kp:W.keepIn K (.ref C)=true
theorem Xa {pins:List (Addr×Obj)} {σ:St} {H:Hp} {s:Shared} {Q:VK} {us:List Value} {vs:List V} (M:Mk X.K C f) (F:FnOk X.prog X.w X.K X.mg X.base CX k f fd ps sp) (hr:Room (k + 1) X.A) (hb:Binds X.K fd ps ds) (hd:Vals dvs ds)
 (hx:Ia CX X E) (I:Inv X pins σ H s) (r:Vals vs us)
 (h:∀ x dx,H x=none→H dx=none→dx≠x→sp (.ref x :: (vs++dvs)) (upd (upd H dx (.own x)) x (.ins C dx [])) (fun v H2=>v=.non∧Q (.ref x) H2) E) :
 wpAny (model X.prog X.w) X.A (call (.ref C) us) (EP X pins σ Q) X.xe s:=by
 have hq:=h (s.heap.objs.size + 1) s.heap.objs.size (I.hok.fresh (Nat.le_succ _)) (I.hok.fresh (Nat.le_refl _)) (Nat.ne_of_lt (Nat.lt_succ_self _))
 have I2:=Inv.made (C:=C) I
 have r2:Vals (V.ref (s.heap.objs.size + 1) :: (vs++dvs)) (Value.ref (s.heap.objs.size + 1) :: (us++ds)):=.cons rfl (r.append hd)
 have hl:(Value.ref (s.heap.objs.size + 1) :: us++ds).length=ps.length:=by
  have e:=r2.length
  rw [F.len _ _ _ _ hq] at e
  exact e.symm
 refine wpAny_call (Yh (f:=f) I.kIn M.makes M.init (beq_iff_eq.mp M.fn) (codeAny_mono (F.run _ X.stack _ _ ⟨Value.ref (s.heap.objs.size + 1) :: us,[]⟩ (Value.ref (s.heap.objs.size + 1) :: (us++ds)) _ _ E (hr.make C us [])
  (I2.env0.make C us []) (hb _ (Value.ref (s.heap.objs.size + 1) :: us) I2.kIn hl) r2 hq) fun r s' hq'=>?_))
 cases r with
 | error e=>exact hx pins σ _ _ e s' I2 hq'
 | ok fl =>
   cases fl with
   | ret u =>
     obtain ⟨v,H',I3,rv,ev,q3⟩:=I2.after hq'
     subst ev
     exact ⟨rv,⟨V.ref (s.heap.objs.size + 1),H',I3,rfl,q3⟩⟩
   | next=>exact False.elim hq'
   | brk=>exact False.elim hq'
   | cont=>exact False.elim hq'
theorem Zp (M:Mk X.K C f) (F:FnOk X.prog X.w X.K X.mg X.base CX k f fd ps sp) (hr:Room (k + 1) X.A) (hg:Gl X x) (hm:X.mg x=some (.ref C)) (hb:Binds X.K fd ps ds) (hd:Vals dvs ds) (hx:Ia CX X E)
 (ha:PA X (e :: es) t) (hdb:(x == ("__debug__":Str))=false:=by decide) (he:starEach (e :: es) X.env=(false,eval e X.env) :: starEach es X.env:=by rfl) (hpl:(backTo pos (starEach es X.env)).any (·.1)=false:=by rfl) :
 PE X (.Call (.Name x p) (e :: es) [] pos) (Jda C sp dvs E t):=by
 intro pins s σ H Q I h
 refine wpAny_Call_Name_kw (Ie I hg hm ?_ hdb)
 refine W.callWith_K (h₀:=X.base) I.ok.mod.kin M.kp (thn (ha pos pins s σ H _ I h) fun us s1 ⟨vs,H1,I1,r,q⟩=>⟨I1.kIn,?_⟩) he hpl
 exact Xa M F hr hb hd hx I1 r q
end
def PK (X:Cx) (kws:List Keyword) (t:TA):Prop :=
 ∀ (pos:Pos) (pins:List (Addr×Obj)) (s:Shared) (σ:St) (H:Hp) (Q:List V→Hp→Prop),Inv X pins σ H s→t σ H Q→wpAny (model X.prog X.w) X.A (evalAll ((backToKw pos (keywordEach kws X.env)).map (·.2))) (AP X pins σ Q) X.xe s
section
variable {X:Cx} {CX:CXT} {k:Nat} {f C:Addr} {fd:FuncData} {ps ks:List Str} {sp:Sp} {E:XK} {x m:Str} {p pos apos kpos:Pos} {e o:Expr} {es:List Expr} {kws:List Keyword} {te ta:TE} {t tk:TA} {nm:Option Str}
structure Jfq (K:W.Frag) (fd:FuncData) (ps ks:List Str) (g:List Value→List Value→List Value) (gV:List V→List V→List V):Prop where
 to:∀ (s:Shared) (us ws:List Value),K.In s.heap→(g us ws).length=ps.length→BindsTo s fd ⟨us,ks.zip ws⟩ (ps.zip (g us ws))
 rel:∀ {vs:List V} {us:List Value} {zs:List V} {ws:List Value},Vals vs us→Vals zs ws→Vals (gV vs zs) (g us ws)
def Jes (sp:Sp) (gV:List V→List V→List V) (E:XK) (t tk:TA):TE:=fun σ H Q=>t σ H fun vs H1=>tk σ H1 fun zs H2=>sp (gV vs zs) H2 Q E
variable {g:List Value→List Value→List Value} {gV:List V→List V→List V}
end
structure Ay (N P:List Str) (sc:Scope):Prop where
 kind:sc.kind=.function:=by rfl
 co:sc.isCoroutine=false:=by rfl
 gen:sc.isGenerator=false:=by rfl
 nd:N.Nodup:=by decide +kernel
 pre:N.take P.length=P:=by rfl
 par:∀ x∈P,sc.names.lookup x=some .local∨sc.names.lookup x=some .cell:=by decide +kernel
 nofree:∀ y∈sc.names,y.2≠.free:=by decide +kernel
theorem Ph {kindOf:Str→Option NameKind} {x:Str}:∀ {binds:List (Str×Value)} {m:Str→Option Value},(∀ v,(x,v)∉binds)→bindL kindOf binds m x=m x
 | [],_,_=>rfl
 | (n,v) :: r,m,h=>by
   unfold bindL
   rw [Ph fun w hw=>h w (List.mem_cons_of_mem _ hw)]
   split
   ·have:x≠n:=by rintro rfl; exact h v List.mem_cons_self
    simp [this]
   ·rfl
theorem Pj {kindOf:Str→Option NameKind} {x:Str}:∀ {binds:List (Str×Value)} {m:Str→Option Value},(∀ v,(x,v)∉binds)→bindC kindOf binds m x=m x
 | [],_,_=>rfl
 | (n,v) :: r,m,h=>by
   unfold bindC
   rw [Pj fun w hw=>h w (List.mem_cons_of_mem _ hw)]
   split
   ·rfl
   ·have:x≠n:=by rintro rfl; exact h v List.mem_cons_self
    simp [this]
theorem Pi {kindOf:Str→Option NameKind} {x:Str} {v:Value}:∀ {P:List Str} {vs:List Value} {i:Nat} {m:Str→Option Value},P.Nodup→P[i]?=some x→vs[i]?=some v→kindOf x=some .local →
 bindL kindOf (P.zip vs) m x=some v
 | [],_,_,_,_,h,_,_=>by simp at h
 | _ :: _,[],_,_,_,_,h,_=>by simp at h
 | p :: P,w :: vs,0,m,nd,h1,h2,hk=>by
   simp at h1 h2; subst h1; subst h2
   show bindL kindOf ((p,w) :: P.zip vs) m p=_
   unfold bindL
   rw [Ph fun v hv=>(List.nodup_cons.mp nd).1 (List.of_mem_zip hv).1,if_pos hk]
   simp
 | p :: P,w :: vs,i + 1,m,nd,h1,h2,hk=>by
   show bindL kindOf ((p,w) :: P.zip vs) m x=_
   unfold bindL
   exact Pi (i:=i) (List.nodup_cons.mp nd).2 (by simpa using h1) (by simpa using h2) hk
theorem Pk {kindOf:Str→Option NameKind} {x:Str} {v:Value}:∀ {P:List Str} {vs:List Value} {i:Nat} {m:Str→Option Value},P.Nodup→P[i]?=some x→vs[i]?=some v→kindOf x≠some .local →
 bindC kindOf (P.zip vs) m x=some v
 | [],_,_,_,_,h,_,_=>by simp at h
 | _ :: _,[],_,_,_,_,h,_=>by simp at h
 | p :: P,w :: vs,0,m,nd,h1,h2,hk=>by
   simp at h1 h2; subst h1; subst h2
   show bindC kindOf ((p,w) :: P.zip vs) m p=_
   unfold bindC
   rw [Pj fun v hv=>(List.nodup_cons.mp nd).1 (List.of_mem_zip hv).1,if_neg hk]
   simp
 | p :: P,w :: vs,i + 1,m,nd,h1,h2,hk=>by
   show bindC kindOf ((p,w) :: P.zip vs) m x=_
   unfold bindC
   exact Pk (i:=i) (List.nodup_cons.mp nd).2 (by simpa using h1) (by simpa using h2) hk
def start (N:List Str) (vs:List V):St:=vs.map some++List.replicate (N.length - vs.length) none
def Hy (CX:CXT) (P:Program) (w:World) (K:W.Frag) (mg:Str→Option Value) (base:Heap) (N:List Str) (qual:Str) (scope:Scope) (f:Addr) (cd:Value) (A:Around) (outer:List Env) (s:Shared) (H:Hp) (E:XK):Cx where
 prog:=P
 w:=w
 K:=K
 mg:=mg
 base:=base
 A:=A.deeper (envOfC qual scope s.heap.objs.size f cd)
 N:=N
 s₀:=s
 H₀:=H
 env:=envOfC qual scope s.heap.objs.size f cd
 outer:=outer
 stack:=envOfC qual scope s.heap.objs.size f cd :: outer
 ex:=[]
 calm:=true
 fn:=fun _=>true
 pn:=[]
 xe:=fun e s'=>wpAny (model P w) (A.deeper (envOfC qual scope s.heap.objs.size f cd)) (leaving (envOfC qual scope s.heap.objs.size f cd) e) (fun _ s''=>CX outer H s E e s'') (fun e' s''=>CX outer H s E e' s'') s'
theorem R6 {sc:Scope} {n:Nat} {x:Str} (h:sc.names.lookup x=some .cell):∃ c,(cellsFrom n sc.names []).lookup x=some c:=by
 have q:=W.cellsFrom_some sc.names n [] (.inl h)
 exact Option.isSome_iff_exists.mp q
theorem V5 {CX:CXT} {P:Program} {w:World} {K:W.Frag} {mg:Str→Option Value} {base:Heap} {N ps:List Str} {qual:Str} {scope:Scope} {f:Addr} {cd:Value} {A:Around} {outer:List Env} {s s1:Shared} {H:Hp} {E:XK} {us:List Value} {vs:List V}
 (S:Ay N ps scope) (hd:A.handled=none) (e0:Env0 P w K mg base A outer s H) (hl:vs.length=ps.length) (r:Vals vs us)
 (x:InCallC s s.heap.objs.size (bindL (envOfC qual scope s.heap.objs.size f cd).kindOf (ps.zip us) fun _=>none) (cellsFrom (s.heap.objs.size + 1) scope.names []) (bindC (envOfC qual scope s.heap.objs.size f cd).kindOf (ps.zip us) fun _=>none) s1) :
 Inv (Hy CX P w K mg base N qual scope f cd A outer s H E) [] (start N vs) H s1:=by
 have hpl:ps.length≤N.length:=by have:=congrArg List.length S.pre; rw [List.length_take] at this; omega
 obtain ⟨h1,tk,rfl,hk⟩:=x.done
 have noA:∀ b:Addr,b∉(Hy CX P w K mg base N qual scope f cd A outer s H E).ex:=fun b z=>absurd (show b∈([]:List Addr) from z) (by simp)
 refine ⟨⟨e0.mod,S.kind,rfl,rfl,Nat.le_refl _,fun y z c h1 h2=>?_,fun y hy=>?_,fun y c _ h=>?_,fun _=>hd,Around.frames_deeper e0.frames,.inr ⟨rfl,rfl⟩,fun b z=>absurd z (noA b),e0.bs,e0.bsz,fun b _ _=>noA b,fun b z=>absurd z (noA b),e0.funs,e0.frf⟩,
  rfl,e0.bare,Un.kept hk,⟨_,x.toInCall.ns,fun i y v h1 h2 h3=>?_⟩,fun y c h=>⟨_,x.cell y c h⟩,e0.hok.fresh (Nat.le_refl _),fun y c h=>?_,fun p hp=>absurd (show p∈([]:List (Addr×Obj)) from hp) (by simp),e0.hok.kept hk,?_⟩
 ·exact name_of_addr x.apart (PySem.mem_of_lookup h1) (PySem.mem_of_lookup h2)
 ·have hy:scope.names.lookup y=some .cell∨scope.names.lookup y=some .free:=hy
  rcases hy with hy | hy
  ·exact R6 hy
  ·exact absurd rfl (S.nofree _ (PySem.mem_of_lookup hy))
 ·exact Nat.le_of_lt (x.above y c (PySem.mem_of_lookup h))
 ·have hi:i < vs.length:=by
   unfold start at h2
   by_cases hi:i < vs.length
   ·exact hi
   ·rw [List.getElem?_append_right (by simpa using hi)] at h2
    rw [List.getElem?_replicate] at h2
    split at h2 <;> cases h2
  have ha:vs[i]?=some v:=by
   unfold start at h2
   rw [List.getElem?_append_left (by simpa using hi),List.getElem?_map] at h2
   cases e:vs[i]? with
   | none=>rw [e] at h2; cases h2
   | some a=>rw [e] at h2; cases h2; rfl
  obtain ⟨u,hu,rv⟩:=r.get ha
  have hp:ps[i]?=some y:=by
   rw [← S.pre,List.getElem?_take_of_lt (by omega)]; exact h1
  have ndP:ps.Nodup:=by rw [← S.pre]; exact S.nd.sublist (List.take_sublist _ _)
  refine ⟨u,rv,?_⟩
  rcases S.par y (List.mem_of_getElem? hp) with k | k
  ·exact .inl ⟨k,Pi ndP hp hu k⟩
  ·obtain ⟨c,e⟩:=R6 (n:=s.heap.objs.size + 1) k
   refine .inr ⟨.inl k,c,e,?_⟩
   have q:=x.cell y c e
   rw [Pk ndP hp hu (by show scope.names.lookup y≠_; rw [k]; decide)] at q
   exact q
 ·exact e0.hok.fresh (Nat.le_of_lt (x.above y c (PySem.mem_of_lookup h)))
 ·unfold start
  show _=N.length
  rw [List.length_append,List.length_map,List.length_replicate]
  omega
theorem Jbc {CX:CXT} {P:Program} {w:World} {K:W.Frag} {mg:Str→Option Value} {base:Heap} {k:Nat} {f:Addr} {name qual:Str} {params:Arguments} {body:List Stmt} {scope:Scope} {dV kV doc pm cdv ct oc:Value} {an od:Option Addr}
 {osl:Array (Option Value)} {N ps:List Str} {sp:Sp} (lk:K.lookup f=some ⟨oc,od,.func (W.fnOf name qual params body scope dV kV doc pm an cdv ct),osl⟩) (hcd:W.codeIn K cdv qual=true) (S:Ay N ps scope)
 (len:∀ vs H Q E,sp vs H Q E→vs.length=ps.length)
 (hbody:∀ (A:Around) (outer:List Env) (s:Shared) (H:Hp) (vs:List V) (Q:VK) (E:XK),Room k (A.deeper (envOfC qual scope s.heap.objs.size f cdv))→sp vs H Q E →
  ∃ t,PSs (Hy CX P w K mg base N qual scope f cdv A outer s H E) body t∧t { nx:=fun _ H'=>Q .non H',rt:=Q } (start N vs) H) :
 FnOk P w K mg base CX (k + 1) f (W.fnOf name qual params body scope dV kV doc pm an cdv ct) ps sp:=by
 refine ⟨len,fun A outer s H args us vs Q E hr e0 hb r hsp=>?_⟩
 have hl:=len _ _ _ _ hsp
 have KX:K.In s.heap:=e0.mod.kin.keeps fun b o e=>(e0.bs b o e).1
 have lim:s.heap.NoLimit:=e0.mod.nolimit.keeps fun b o e=>(e0.bs b o e).1
 have hkind:∀ y∈ps.zip us,scope.names.lookup y.1=some .local∨(scope.names.lookup y.1=some .cell∧((cellsFrom (s.heap.objs.size + 1) scope.names []).lookup y.1).isSome=true):=fun ⟨n,v⟩ hy=>by
  rcases S.par n (List.of_mem_zip hy).1 with q | q
  ·exact .inl q
  ·exact .inr ⟨q,W.cellsFrom_some _ _ _ (.inl q)⟩
 refine codeAny_call_function hr.depth (KX _ _ lk) rfl S.co S.gen rfl (W.codeRec_of KX hcd) (hb _ _ _ _ ?_)
 refine wpAny_newFunctionEnv_cells S.kind hkind fun env he s1 x=>?_
 subst he
 refine ⟨lim.keeps x.toInCall.keep,codeAny_func ?_⟩
 obtain ⟨t,ht,hq⟩:=hbody A outer s H vs Q E (hr.deeper _) hsp
 have I:Inv (Hy CX P w K mg base N qual scope f cdv A outer s H E) [] (start N vs) H s1:=V5 S hr.hd e0 hl r x
 refine wpAny_mono (ht [] s1 (start N vs) H _ I hq) (fun fl s' hs=>?_) fun e s' hs=>hs
 have fin:∀ {σ':St} {H':Hp} {v:V} {u:Value},Inv (Hy CX P w K mg base N qual scope f cdv A outer s H E) [] σ' H' s'→RelV v u→Q v H'→CE outer P w H s Q u s' :=
  fun {σ' H' v u} J rv q=>⟨v,H',J.os,J.bare,J.base,J.hok,rv,q⟩
 cases fl with
 | ret u =>
   obtain ⟨v,σ',H',J,rv,q⟩:=hs
   exact fin J rv q
 | next =>
   obtain ⟨σ',H',J,q⟩:=hs
   exact fin (v:=V.non) (u:=Value.none) J rfl q
 | brk =>
   obtain ⟨_,_,_,q⟩:=hs
   exact False.elim q
 | cont =>
   obtain ⟨_,_,_,q⟩:=hs
   exact False.elim q
section
variable {X:Cx} {x:Str} {p pos:Pos} {e:Expr} {es:List Expr} {t:TA} {id T:String} {r:List V→Hp→VK→Prop}
def tCB (r:List V→Hp→VK→Prop) (t:TA):TE:=fun σ H Q=>t σ H fun vs H1=>r vs H1 Q
theorem Bj (hc:E8 X (.builtin id) r) (hg:Gl X x) (hm:X.mg x=none) (hv:bootBuiltins x=some (.builtin id)) (ha:PA X (e :: es) t) (hn:x≠"__name__":=by decide) (hdb:(x == ("__debug__":Str))=false:=by decide)
 (he:starEach (e :: es) X.env=(false,eval e X.env) :: starEach es X.env:=by rfl) (hpl:(backTo pos (starEach es X.env)).any (·.1)=false:=by rfl):PE X (.Call (.Name x p) (e :: es) [] pos) (tCB r t):=by
 intro pins s σ H Q I h
 refine wpAny_Call_Name_kw (Tb I hg hm hv ?_ hn hdb)
 exact PyProof.Rows.callWith_builtin1 (thn (ha pos pins s σ H _ I h) fun us s1 ⟨vs,H1,I1,r1,q1⟩=>hc pins s1 σ H1 vs us Q I1 r1 q1) he hpl
theorem B2 (hc:E8 X (.type T) r) (hg:Gl X x) (hm:X.mg x=none) (hv:bootBuiltins x=some (.type T)) (ha:PA X (e :: es) t) (hn:x≠"__name__":=by decide) (hdb:(x == ("__debug__":Str))=false:=by decide)
 (he:starEach (e :: es) X.env=(false,eval e X.env) :: starEach es X.env:=by rfl) (hpl:(backTo pos (starEach es X.env)).any (·.1)=false:=by rfl):PE X (.Call (.Name x p) (e :: es) [] pos) (tCB r t):=by
 intro pins s σ H Q I h
 refine wpAny_Call_Name_kw (Tb I hg hm hv ?_ hn hdb)
 exact PyProof.Rows.callWith_type1 (thn (ha pos pins s σ H _ I h) fun us s1 ⟨vs,H1,I1,r1,q1⟩=>hc pins s1 σ H1 vs us Q I1 r1 q1) he hpl
end
section
variable {κ:Type} [DecidableEq κ]
def Cp (kvs:List (κ×V)) (k:κ):Option V:=(kvs.find? fun kv=>decide (kv.1=k)).map (·.2)
def putK (kvs:List (κ×V)) (k:κ) (v:V):List (κ×V) :=
 if (kvs.any fun kv=>decide (kv.1=k))=true then kvs.map (fun kv=>if kv.1=k then (kv.1,v) else kv) else kvs++[(k,v)]
def Dk (kvs:List (κ×V)) (k:κ):List (κ×V):=kvs.filter fun kv=>decide (kv.1≠k)
theorem Wp {k:κ}:Cp ([]:List (κ×V)) k=none:=rfl
theorem Cw {p:κ×V} {r:List (κ×V)} {k:κ} (e:p.1=k):Cp (p :: r) k=some p.2:=by simp [Cp,List.find?_cons,e]
theorem Av {p:κ×V} {r:List (κ×V)} {k:κ} (e:¬ p.1=k):Cp (p :: r) k=Cp r k:=by simp [Cp,List.find?_cons,e]
theorem Fs (k:κ):∀ kvs:List (κ×V),(kvs.any fun kv=>decide (kv.1=k))=(Cp kvs k).isSome
 | []=>rfl
 | p :: r=>by
   rw [List.any_cons]
   by_cases e:p.1=k
   ·simp only [Cw e,decide_eq_true e,Bool.true_or,Option.isSome_some]
   ·rw [Av e,decide_eq_false e,Bool.false_or]; exact Fs k r
theorem Fk (kvs:List (κ×V)) (k:κ) (v:V):(putK kvs k v).length≤kvs.length + 1:=by
 unfold putK
 split
 ·rw [List.length_map]; omega
 ·rw [List.length_append,List.length_cons,List.length_nil]; omega
theorem D4 {kvs:List (κ×V)} {k:κ} (v:V) (h:Cp kvs k=none):putK kvs k v=kvs++[(k,v)]:=by
 unfold putK
 rw [Fs,h]
 exact if_neg (by decide)
theorem RelO.isSome_eq {o:Option V} {u:Option Value} (r:RelO o u):o.isSome=u.isSome:=by
 cases o with
 | none=>cases u with
   | none=>rfl
   | some _=>exact (show False from r).elim
 | some _=>cases u with
   | none=>exact (show False from r).elim
   | some _=>rfl
theorem RelO.getD {o:Option V} {u:Option Value} {d:V} {d':Value} (r:RelO o u) (rd:RelV d d'):RelV (o.getD d) (u.getD d'):=by
 cases o with
 | none=>cases u with
   | none=>exact rd
   | some _=>exact (show False from r).elim
 | some _=>cases u with
   | none=>exact (show False from r).elim
   | some _=>exact r
theorem KV.val {kvs:List (κ×V)} {vs:List (κ×Value)} (r:KV kvs vs) (k:κ):RelO (Cp kvs k) (valueAt vs k):=by
 unfold KV at r
 induction r with
 | nil=>exact True.intro
 | @cons p q ps qs h t ih =>
   obtain ⟨h1,h2⟩:=h
   by_cases e:p.1=k
   ·have e':q.1=k:=h1.symm.trans e
    have b:valueAt (q :: qs) k=some q.2:=by simp [valueAt,List.find?_cons,e']
    rw [Cw e,b]; exact h2
   ·have e':¬ q.1=k:=fun z=>e (h1.trans z)
    have b:valueAt (q :: qs) k=valueAt qs k:=by simp [valueAt,List.find?_cons,e']
    rw [Av e,b]; exact ih
theorem KV.any {kvs:List (κ×V)} {vs:List (κ×Value)} (r:KV kvs vs) (k:κ):(kvs.any fun kv=>decide (kv.1=k))=vs.any fun kv=>decide (kv.1=k):=by
 unfold KV at r
 induction r with
 | nil=>rfl
 | cons h t ih=>rw [List.any_cons,List.any_cons,ih,h.1]
theorem KV.repl {kvs:List (κ×V)} {vs:List (κ×Value)} (r:KV kvs vs) (k:κ) {y:V} {u:Value} (ry:RelV y u) :
 KV (kvs.map fun kv=>if kv.1=k then (kv.1,y) else kv) (vs.map fun kv=>if kv.1=k then (kv.1,u) else kv):=by
 unfold KV at r ⊢
 induction r with
 | nil=>exact .nil
 | @cons p q ps qs h t ih =>
   rw [List.map_cons,List.map_cons]
   refine .cons ?_ ih
   obtain ⟨h1,h2⟩:=h
   by_cases e:p.1=k
   ·rw [if_pos e,if_pos (h1.symm.trans e)]; exact ⟨h1,ry⟩
   ·rw [if_neg e,if_neg (fun z=>e (h1.trans z))]; exact ⟨h1,h2⟩
theorem KV.put {kvs:List (κ×V)} {vs:List (κ×Value)} (r:KV kvs vs) (k:κ) {y:V} {u:Value} (ry:RelV y u):KV (putK kvs k y) (stored vs k u):=by
 unfold putK stored
 rw [r.any k]
 by_cases e:(vs.any fun kv=>decide (kv.1=k))=true
 ·rw [if_pos e,if_pos e]; exact r.repl k ry
 ·rw [if_neg e,if_neg e]; exact Paired.snoc r ⟨rfl,ry⟩
theorem KV.length {kvs:List (κ×V)} {vs:List (κ×Value)} (r:KV kvs vs):kvs.length=vs.length:=Paired.length r
end
theorem Nf {P:Program} {w:World} {k:Key} {u:Value} (r:RelV (kV k) u):(B3 P w).is k u=true:=by
 cases k with
 | inl i=>obtain ⟨t,e⟩:=(show ∃ t,u=Value.int i t from r); subst e; exact Rg P w i t
 | inr x=>obtain ⟨t,e⟩:=(show ∃ t,u=Value.str x t from r); subst e; exact Rf P w x t
theorem Oy {P:Program} {w:World}:∀ {ks:List Key} {us:List Value},Vals (ks.map kV) us→ItemsAre (B3 P w) ks us
 | [],_,r=>by rw [List.map_nil] at r; cases r; exact .nil
 | k :: ks,_,r=>by
   rw [List.map_cons] at r
   cases r with
   | cons h t=>exact .cons (Nf h) (Oy t)
abbrev KT (H:Hp):List (List Key×V)→List (List Key×Addr×Value)→Prop:=Paired fun p q=>p.1=q.1∧H q.2.1=some (.tup (p.1.map kV))∧RelV p.2 q.2.2
theorem KT.val {H:Hp} {kvs:List (List Key×V)} {xs:List (List Key×Addr×Value)} (r:KT H kvs xs) (k:List Key):RelO (Cp kvs k) ((atKey xs k).map (·.2)):=by
 induction r with
 | nil=>exact True.intro
 | @cons p q ps qs h t ih =>
   obtain ⟨h1,_,h2⟩:=h
   by_cases e:p.1=k
   ·have e':q.1=k:=h1.symm.trans e
    have b:atKey (q :: qs) k=some q.2:=by simp [atKey,List.find?_cons,e']
    rw [Cw e,b]; exact h2
   ·have e':¬ q.1=k:=fun z=>e (h1.trans z)
    have b:atKey (q :: qs) k=atKey qs k:=by simp [atKey,List.find?_cons,e']
    rw [Av e,b]; exact ih
theorem KT.repl {H:Hp} {kvs:List (List Key×V)} {xs:List (List Key×Addr×Value)} (r:KT H kvs xs) (k:List Key) {y:V} {u:Value} (ry:RelV y u) :
 KT H (kvs.map fun kv=>if kv.1=k then (kv.1,y) else kv) (xs.map (putAt k u)):=by
 induction r with
 | nil=>exact .nil
 | @cons p q ps qs h t ih =>
   rw [List.map_cons,List.map_cons]
   refine .cons ?_ ih
   obtain ⟨h1,h2,h3⟩:=h
   unfold putAt
   by_cases e:p.1=k
   ·rw [if_pos e,if_pos (h1.symm.trans e)]; exact ⟨h1,h2,ry⟩
   ·rw [if_neg e,if_neg (fun z=>e (h1.trans z))]; exact ⟨h1,h2,h3⟩
theorem KT.put {H:Hp} {kvs:List (List Key×V)} {xs:List (List Key×Addr×Value)} (r:KT H kvs xs) (k:List Key) {b:Addr} {y:V} {u:Value} (hb:H b=some (.tup (k.map kV))) (ry:RelV y u) :
 KT H (putK kvs k y) (storedH xs k b u):=by
 have e:(kvs.any fun kv=>decide (kv.1=k))=(atKey xs k).isSome:=by
  rw [Fs,(r.val k).isSome_eq,Option.isSome_map]
 unfold putK storedH
 rw [e]
 by_cases q:(atKey xs k).isSome=true
 ·rw [if_pos q,if_pos q]; exact r.repl k ry
 ·rw [if_neg q,if_neg q]; exact Paired.snoc r ⟨rfl,hb,ry⟩
theorem KT.keeps {H H':Hp} {kvs:List (List Key×V)} {xs:List (List Key×Addr×Value)} (r:KT H kvs xs) (ht:∀ b ys,H b=some (.tup ys)→H' b=some (.tup ys)):KT H' kvs xs :=
 Paired.mapP r fun _ _ z=>⟨z.1,ht _ _ z.2.1,z.2.2⟩
section
variable {P:Program} {w:World} {H:Hp} {h:Heap} {a:Addr}
theorem Ja7 {u:HO} (ok:HOk P w H h) (e:Rd H a u):ObjOk P w H h a u:=e.ok ok
theorem Nv {kvs:List (Key×V)} (ok:HOk P w H h) (e:Rd H a (.dK kvs)):kvs.length≤sizeLine∧(a == sysModules)=false∧∃ vs,KV kvs vs∧h.DictOf (B3 P w) a vs :=
 show ObjOk P w H h a (.dK kvs) from Ja7 ok e
theorem Jbd {kvs:List (Key×V)} (ok:HOk P w H h) (e:H a=some (.dK kvs)):kvs.length≤sizeLine∧(a == sysModules)=false∧∃ vs,KV kvs vs∧h.DictOf (B3 P w) a vs:=Nv ok (.inl e)
theorem Jf {ks:List Key} (ok:HOk P w H h) (e:H a=some (.tup (ks.map kV))):(tupleKind (B3 P w)).is h ks a:=by
 obtain ⟨_,its,r,o,h1,h2,n,h3⟩:=(show ObjOk P w H h a (.tup (ks.map kV)) from ok a _ e)
 exact ⟨o,its.toArray,n,h1,h2,h3,by simpa using Oy r⟩
theorem K7 {kvs:List (List Key×V)} (ok:HOk P w H h) (e:Rd H a (.dT kvs)):kvs.length≤sizeLine∧(a == sysModules)=false ∧
 ∃ xs,KT H kvs xs∧h.DictOfH (tupleKind (B3 P w)) a xs:=by
 obtain ⟨z,y,xs,r,o,es,ep,h1,h2,h3,h4,h5⟩:=(show ObjOk P w H h a (.dT kvs) from Ja7 ok e)
 refine ⟨z,y,xs,r,o,es,ep,h1,h2,h3,h4,fun x hx=>?_,h5⟩
 have all:∀ {l:List (List Key×V)} {m:List (List Key×Addr×Value)},KT H l m→∀ x∈m,(tupleKind (B3 P w)).is h x.1 x.2.1:=by
  intro l m q
  induction q with
  | nil=>intro x hx; exact nomatch hx
  | @cons p q ps qs hq t ih =>
    intro x hx
    rcases List.mem_cons.mp hx with e | hx
    ·subst e
     exact Jf ok (by rw [← hq.1]; exact hq.2.1)
    ·exact ih x hx
 exact all r x hx
theorem O9 {kvs:List (List Key×V)} (ok:HOk P w H h) (e:H a=some (.dT kvs)):kvs.length≤sizeLine∧(a == sysModules)=false ∧
 ∃ xs,KT H kvs xs∧h.DictOfH (tupleKind (B3 P w)) a xs:=K7 ok (.inl e)
end
def DGet (H:Hp) (a:Addr) (y:V) (r:Option V):Prop :=
 (∃ kvs k,Rd H a (.dK kvs)∧y=kV k∧r=Cp kvs k)∨∃ kvs k b,Rd H a (.dT kvs)∧y=.ref b∧H b=some (.tup (k.map kV))∧r=Cp kvs k
def DPut (H:Hp) (a:Addr) (y v:V) (H':Hp):Prop :=
 (∃ kvs k,H a=some (.dK kvs)∧y=kV k∧kvs.length < sizeLine∧H'=upd H a (.dK (putK kvs k v))) ∨
 ∃ kvs k b,H a=some (.dT kvs)∧y=.ref b∧H b=some (.tup (k.map kV))∧kvs.length < sizeLine∧H'=upd H a (.dT (putK kvs k v))
theorem DGet.k {H:Hp} {a:Addr} {kvs:List (Key×V)} {k:Key} (e:H a=some (.dK kvs)):DGet H a (kV k) (Cp kvs k):=.inl ⟨kvs,k,.inl e,rfl,rfl⟩
theorem DGet.t {H:Hp} {a b:Addr} {kvs:List (List Key×V)} {k:List Key} (e:H a=some (.dT kvs)) (eb:H b=some (.tup (k.map kV))):DGet H a (.ref b) (Cp kvs k):=.inr ⟨kvs,k,b,.inl e,rfl,eb,rfl⟩
theorem DPut.k {H:Hp} {a:Addr} {kvs:List (Key×V)} {k:Key} {v:V} (e:H a=some (.dK kvs)) (hl:kvs.length < sizeLine):DPut H a (kV k) v (upd H a (.dK (putK kvs k v))):=.inl ⟨kvs,k,e,rfl,hl,rfl⟩
theorem DPut.t {H:Hp} {a b:Addr} {kvs:List (List Key×V)} {k:List Key} {v:V} (e:H a=some (.dT kvs)) (eb:H b=some (.tup (k.map kV))) (hl:kvs.length < sizeLine) :
 DPut H a (.ref b) v (upd H a (.dT (putK kvs k v))):=.inr ⟨kvs,k,b,e,rfl,eb,hl,rfl⟩
section
variable {X:Cx} {pins:List (Addr×Obj)} {σ:St} {H:Hp} {s:Shared} {a:Addr} {y v:V} {u r:Value} {o:Option V} {A:Around} {E:Value→Shared→Prop}
theorem Inv.big (I:Inv X pins σ H s):sysModules < s.heap.objs.size:=by
 have h:mainGlobals < s.heap.objs.size:=(I.mod.glob.keeps I.bk).lt
 exact Nat.lt_trans (by decide) h
theorem Pc {Q:Value→Shared→Prop} (hu:A.units + 1 < cLine) (I:Inv X pins σ H s) (g:DGet H a y (some v)) (ry:RelV y u) (h:∀ w' s',Inv X pins σ H s'→RelV v w'→Q w' s') :
 wpAny (model X.prog X.w) A (getItem (.ref a) u) Q E s:=by
 rcases g with ⟨kvs,k,e,ey,l⟩ | ⟨kvs,k,b,e,ey,eb,l⟩
 ·subst ey
  obtain ⟨z,hd,vs,rel,dd⟩:=Nv I.hok e
  obtain ⟨w',hw,rw'⟩:=RelO.some_of (v:=v) (o:=valueAt vs k) (by rw [l]; exact rel.val k)
  exact wpAny_getItem_of (Nf ry) dd.mapOf hw (h w' _ (I.tok _) rw')
 ·subst ey
  cases (show u=Value.ref b from ry)
  obtain ⟨z,hd,xs,rel,dd⟩:=K7 I.hok e
  obtain ⟨w',hw,rw'⟩:=RelO.some_of (v:=v) (o:=(atKey xs k).map (·.2)) (by rw [l]; exact rel.val k)
  obtain ⟨p,hp,hp2⟩:=Option.map_eq_some_iff.mp hw
  refine wpAny_getItem_heap (tupleKind_room_in1 hu) (Jf I.hok eb) dd hp ?_
  rw [hp2]
  exact h w' _ (I.tok _) rw'
theorem Jfn {Q:Value→Shared→Prop} (hu:A.units + 1 < cLine) (I:Inv X pins σ H s) (g:DGet H a y o) (ry:RelV y u) (h:∀ s',Inv X pins σ H s'→Q (.bool o.isSome) s') :
 wpAny (model X.prog X.w) A (compareOp .In u (.ref a)) Q E s:=by
 rcases g with ⟨kvs,k,e,ey,l⟩ | ⟨kvs,k,b,e,ey,eb,l⟩
 ·subst ey
  obtain ⟨z,hd,vs,rel,dd⟩:=Nv I.hok e
  refine wpAny_in_of (Nf ry) hd dd.mapOf ?_
  rw [← (rel.val k).isSome_eq,← l]
  exact h _ (I.tok _)
 ·subst ey
  cases (show u=Value.ref b from ry)
  obtain ⟨z,hd,xs,rel,dd⟩:=K7 I.hok e
  refine wpAny_in_heap (tupleKind_room_in1 hu) (Jf I.hok eb) hd dd ?_
  have q:=(rel.val k).isSome_eq
  rw [Option.isSome_map] at q
  rw [← q,← l]
  exact h _ (I.tok _)
theorem Jar {Q:Value→Shared→Prop} (hu:A.units + 1 < cLine) (I:Inv X pins σ H s) (g:DGet H a y o) (ry:RelV y u) (h:∀ s',Inv X pins σ H s'→Q (.bool (!o.isSome)) s') :
 wpAny (model X.prog X.w) A (compareOp .NotIn u (.ref a)) Q E s:=by
 rcases g with ⟨kvs,k,e,ey,l⟩ | ⟨kvs,k,b,e,ey,eb,l⟩
 ·subst ey
  obtain ⟨z,hd,vs,rel,dd⟩:=Nv I.hok e
  refine wpAny_notIn_of (Nf ry) hd dd.mapOf ?_
  rw [← (rel.val k).isSome_eq,← l]
  exact h _ (I.tok _)
 ·subst ey
  cases (show u=Value.ref b from ry)
  obtain ⟨z,hd,xs,rel,dd⟩:=K7 I.hok e
  refine wpAny_notIn_heap (tupleKind_room_in1 hu) (Jf I.hok eb) hd dd ?_
  have q:=(rel.val k).isSome_eq
  rw [Option.isSome_map] at q
  rw [← q,← l]
  exact h _ (I.tok _)
theorem Ih {h':Heap} {t':Nat} {ob:HO} (I:Inv X pins σ H s) (mu:Mut (H a)) (hs:Heap.SameBut a s.heap h') (he:∃ q,h'.get? a=some q) (new:ObjOk X.prog X.w (upd H a ob) h' a ob) :
 Inv X pins σ (upd H a ob) { s with heap:=h',toks:=t' } :=
 I.write (x:=a) (e:=a) mu (.inl rfl) (fun b q hb z=>(hs.2 b hb).trans z) he new
theorem Yv {P:Program} {w:World} {H':Hp} {h':Heap} {kvs:List (Key×V)} {vs:List (Key×Value)} (z:kvs.length≤sizeLine) (hd:(a == sysModules)=false) (rel:KV kvs vs) (dd:h'.DictOf (B3 P w) a vs) :
 ObjOk P w H' h' a (.dK kvs):=⟨z,hd,vs,rel,dd⟩
theorem Pb {H':Hp} {Q:Unit→Shared→Prop} (hu:A.units + 1 < cLine) (I:Inv X pins σ H s) (g:DPut H a y v H') (ry:RelV y u) (rv:RelV v r) (h:∀ s',Inv X pins σ H' s'→Q () s') :
 wpAny (model X.prog X.w) A (setItem (.ref a) u r) Q E s:=by
 rcases g with ⟨kvs,k,e,ey,l,eH⟩ | ⟨kvs,k,b,e,ey,eb,l,eH⟩
 ·subst ey eH
  obtain ⟨z,hd,vs,rel,dd⟩:=Jbd I.hok e
  have hz:vs.length≤sizeLine:=by rw [← rel.length]; exact z
  have hl:(putK kvs k v).length≤sizeLine:=by have:=Fk kvs k v; omega
  refine wpAny_setItem_pairs (hsz:=hz) (Nf ry) dd fun h' dd' hs=>h _ ?_
  have he:∃ q,h'.get? a=some q:=let ⟨q,_,_,hq,_⟩:=dd'; ⟨q,hq⟩
  exact Ih I (by rw [e]; exact True.intro) hs he (Yv hl hd (rel.put k rv) dd')
 ·subst ey eH
  cases (show u=Value.ref b from ry)
  obtain ⟨z,hd,xs,rel,dd⟩:=O9 I.hok e
  have hz:xs.length≤sizeLine:=by rw [← Paired.length rel]; exact z
  have hl:(putK kvs k v).length≤sizeLine:=by have:=Fk kvs k v; omega
  refine wpAny_setItem_heap (hsz:=hz) (tupleKind_room_in1 hu) (Jf I.hok eb) dd fun h' dd' hs=>h _ ?_
  obtain ⟨q,es,ep,hq,h2,h3,h4,_,h5⟩:=dd'
  refine Ih I (by rw [e]; exact True.intro) hs ⟨q,hq⟩ ⟨hl,hd,_,(rel.put k eb rv).keeps fun c ys ec=>?_,q,es,ep,hq,h2,h3,h4,h5⟩
  rw [Ac (Il ec e (fun z=>nomatch z))]
  exact ec
end
section
variable {X:Cx} {pins:List (Addr×Obj)} {σ:St} {H:Hp} {s:Shared} {a:Addr} {kvs:List (Key×V)} {k:Key} {u:Value} {A:Around} {E:Value→Shared→Prop}
end
def Jd7 (i:Expr):Prop:=∀ ov iv,subscripted i false ov iv=operate [ov,iv] (getItem ov iv)
theorem Ze {prog:Program} {w:World} {A:Around} {E:Value→Shared→Prop} {s:Shared} {env:Env} {value slice:Expr} {pos:Pos} {T id:String} {Q:Value→Shared→Prop}
 (hl:typeLookup (.type T) "__getitem__"=pure (some (.builtin id))) (hs:Jd7 slice)
 (h:wpAny (model prog w) A (eval value env) (fun o s₁=>wpAny (model prog w) A (eval slice env) (fun i s₂=>s₂.TypeIs o T∧wpAny (model prog w) A (getItem o i) Q E s₂) E s₁) E s) :
 wpAny (model prog w) A (eval (.Subscript value slice pos) env) Q E s:=by
 refine Subscript_ (wpAny_mono h (fun o s₁ h₁=>wpAny_mono h₁ (fun i s₂ h₂=>?_) fun _ _ x=>x) fun _ _ x=>x)
 obtain ⟨hT,h₂⟩:=h₂
 unfold subscriptTail
 refine wpAny_bind ?_
 rw [getitemInPython_of_ne hT.not_modules]
 refine wpAny_bind (wpAny_specialOf hT hl ?_)
 have fin:wpAny (model prog w) A (subscripted slice false o i) (fun r s₃=>wpAny (model prog w) A (letTemporaryGo value o r >>= fun _=>pure r) Q E s₃) E s₂:=by
  rw [hs o i]
  exact wpAny_operating (wpAny_mono h₂ (fun r s₃ h₃=>wpAny_bind (wpAny_letTemporaryGo (wpAny_pure h₃))) fun _ _ x=>x)
 first
  | exact wpAny_pure (wpAny_bind fin)
  | exact wpAny_bind (wpAny_pure (wpAny_bind fin))
  | exact wpAny_bind fin
theorem R0 {X:Cx} {pins:List (Addr×Obj)} {σ:St} {H:Hp} {s:Shared} {a:Addr} {y:V} {o:Option V} (I:Inv X pins σ H s) (g:DGet H a y o):s.TypeIs (.ref a) "dict":=by
 rcases g with ⟨kvs,k,e,_,_⟩ | ⟨kvs,k,b,e,_,_,_⟩
 ·obtain ⟨_,_,vs,_,dd⟩:=Nv I.hok e
  exact dd.typeIs
 ·obtain ⟨_,_,xs,_,dd⟩:=K7 I.hok e
  exact dd.typeIs
def Ha (td ty:TE):TE:=fun σ H Q=>td σ H fun x H1=>ty σ H1 fun y H2=>∃ a v,x=.ref a∧DGet H2 a y (some v)∧Q v H2
def Jep (ty td:TE):TE:=fun σ H Q=>ty σ H fun y H1=>td σ H1 fun x H2=>∃ a o,x=.ref a∧DGet H2 a y o∧Q (.bl o.isSome) H2
def Zd (ty td:TE):TE:=fun σ H Q=>ty σ H fun y H1=>td σ H1 fun x H2=>∃ a o,x=.ref a∧DGet H2 a y o∧Q (.bl (!o.isSome)) H2
def Jdm (td ty tv:TE):TS:=fun D σ H=>tv σ H fun v H1=>td σ H1 fun x H2=>ty σ H2 fun y H3=>∃ a H4,x=.ref a∧DPut H3 a y v H4∧D.nx σ H4
def Jdn (td ty tv:TE) (rd:V→V→Hp→VK→Prop):TS:=fun D σ H=>td σ H fun x H1=>ty σ H1 fun y H2=>∃ a v,x=.ref a∧DGet H2 a y (some v) ∧
 tv σ H2 fun y2 H3=>rd v y2 H3 fun z H4=>∃ H5,DPut H4 a y z H5∧D.nx σ H5
def Jfy (td ty:TE):TS:=fun D σ H=>td σ H fun x H1=>ty σ H1 fun y H2=>∃ a kvs k,x=.ref a∧H2 a=some (.dK kvs)∧y=kV k∧(Cp kvs k).isSome=true∧D.nx σ (upd H2 a (.dK (Dk kvs k)))
section
variable {X:Cx} {o i e value:Expr} {pos pos' tpos:Pos} {td ty tv:TE}
theorem Al (hu:X.A.units + 1 < cLine) (ho:PE X o td) (hi:PE X i ty) (hs:Jd7 i:=by exact fun _ _=>rfl):PE X (.Subscript o i pos) (Ha td ty):=by
 intro pins s σ H Q I h
 refine Ze PySem.F.slot_dict_getitem.lookup hs (thn (ho pins s σ H _ I h) fun u s1 ⟨x,H1,I1,rx,q1⟩=>thn (hi pins s1 σ H1 _ I1 q1) fun iv s2 ⟨y,H2,I2,ry,a,v,ex,g,q2⟩=>?_)
 subst ex
 obtain rfl:u=Value.ref a:=rx
 exact ⟨R0 I2 g,Pc hu I2 g ry fun w' s3 I3 rw'=>⟨v,H2,I3,rw',q2⟩⟩
theorem Ho (hu:X.A.units + 1 < cLine) (hi:PE X i ty) (ho:PE X o td):PC X .In i o (Jep ty td):=by
 intro pins s σ H Q I h
 refine thn (hi pins s σ H _ I h) fun iv s1 ⟨y,H1,I1,ry,q1⟩=>thn (ho pins s1 σ H1 _ I1 q1) fun u s2 ⟨x,H2,I2,rx,a,ov,ex,g,q2⟩=>?_
 subst ex
 obtain rfl:u=Value.ref a:=rx
 exact Jfn hu I2 g ry fun s3 I3=>⟨.bl ov.isSome,H2,I3,rfl,q2⟩
theorem Fy (hu:X.A.units + 1 < cLine) (hi:PE X i ty) (ho:PE X o td):PC X .NotIn i o (Zd ty td):=by
 intro pins s σ H Q I h
 refine thn (hi pins s σ H _ I h) fun iv s1 ⟨y,H1,I1,ry,q1⟩=>thn (ho pins s1 σ H1 _ I1 q1) fun u s2 ⟨x,H2,I2,rx,a,ov,ex,g,q2⟩=>?_
 subst ex
 obtain rfl:u=Value.ref a:=rx
 exact Jar hu I2 g ry fun s3 I3=>⟨.bl (!ov.isSome),H2,I3,rfl,q2⟩
theorem B9 (hu:X.A.units + 1 < cLine) (ho:PE X o td) (hi:PE X i ty) (hv:PE X value tv) (hs:swapsWith value (some (.Subscript o i pos')) pos.line X.env=pure false) :
 PS X (.Assign [.Subscript o i pos'] value pos) (Jdm td ty tv):=by
 intro pins s σ H D I h
 refine wpAny_Assign_Subscript (thn (hv pins s σ H _ I h) fun r s1 ⟨v,H1,I1,rv,q1⟩=>thn (ho pins s1 σ H1 _ I1 q1) fun u s2 ⟨x,H2,I2,rx,q2⟩=>thn (hi pins s2 σ H2 _ I2 q2) fun iv s3 ⟨y,H3,I3,ry,a,H4,ex,g,q3⟩=>?_) hs
 subst ex
 obtain rfl:u=Value.ref a:=rx
 exact Pb hu I3 g ry rv fun s4 I4=>⟨σ,H4,I4,q3⟩
theorem Jt {op:Operator} {rd:V→V→Hp→VK→Prop} (hu:X.A.units + 1 < cLine) (ho:PE X o td) (hi:PE X i ty) (hv:PE X value tv) (hop:Ja0 X op rd)
 (ha:∀ ov iv new,augStore i ov iv new=(do holding [new,ov,iv] (setItem ov iv new); release [new,ov,iv] []; pure .next)):PS X (.AugAssign (.Subscript o i tpos) op value pos) (Jdn td ty tv rd):=by
 intro pins s σ H D I h
 refine wpAny_AugAssign_SubscriptAny (thn (ho pins s σ H _ I h) fun u s1 ⟨x,H1,I1,rx,q1⟩=>thn (hi pins s1 σ H1 _ I1 q1) fun iv s2 ⟨y,H2,I2,ry,a,v,ex,g,q2⟩=>?_) ha
 subst ex
 obtain rfl:u=Value.ref a:=rx
 refine Pc hu I2 g ry fun w' s3 I3 rw'=>thn (hv pins s3 σ H2 _ I3 q2) fun w2 s4 ⟨y2,H3,I4,ry2,q3⟩=>thn (hop pins s4 σ H3 v y2 w' w2 _ I4 rw' ry2 q3) fun w3 s5 ⟨z,H4,I5,rz,H5,g5,q4⟩=>?_
 exact Pb hu I5 g5 ry rz fun s6 I6=>⟨σ,H5,I6,q4⟩
end
theorem Yw {P:Program} {w:World} {H:Hp} (h:Heap) (hb:sysModules < h.objs.size):ObjOk P w H (h.push { cls:=.type "dict",data:=.dict #[] }) h.objs.size (.dK []) :=
 ⟨Nat.zero_le _,beq_eq_false_iff_ne.mpr (Ne.symm (Nat.ne_of_lt hb)),[],.nil,Heap.DictOf.new h⟩
theorem Rx {P:Program} {w:World} {H:Hp} (h:Heap) (hb:sysModules < h.objs.size):ObjOk P w H (h.push { cls:=.type "dict",data:=.dict #[] }) h.objs.size (.dT []) :=
 ⟨Nat.zero_le _,beq_eq_false_iff_ne.mpr (Ne.symm (Nat.ne_of_lt hb)),[],.nil,_,#[],0,Heap.get?_push_size _ rfl,⟨rfl,rfl,rfl⟩,rfl,rfl,List.nodup_nil⟩
def Jeo:TE:=fun _ H Q=>∀ p,H p=none→Q (.ref p) (upd H p (.dK []))
def Jbo:TE:=fun _ H Q=>∀ p,H p=none→Q (.ref p) (upd H p (.dT []))
section
variable {X:Cx} {pos:Pos}
theorem Dm:PE X (.Dict [] [] pos) Jbo:=fun pins s σ H Q I h =>
 wpAny_Dict_empty ⟨.ref s.heap.objs.size,_,I.laid (a:=s.heap.objs.size) (o:=.dT []) (t':=s.toks) (fun _ _ q=>Heap.get?_push_of_some _ q) (Nat.le_refl _) (Rx s.heap I.big),rfl,h _ (I.hok.fresh (Nat.le_refl _))⟩
end
def Si:List (TE×TE)→St→Hp→(List (V×V)→Hp→Prop)→Prop
 | [],_,H,Q=>Q [] H
 | (tk,tv) :: r,σ,H,Q=>tk σ H fun x H1=>tv σ H1 fun y H2=>Si r σ H2 fun ps H3=>Q ((x,y) :: ps) H3
abbrev VV:List (V×V)→List (Value×Value)→Prop:=Paired fun p q=>RelV p.1 q.1∧RelV p.2 q.2
def PPs (X:Cx) (pos:Pos) (keys:List (Option Expr)) (values:List Expr) (trs:List (TE×TE)):Prop :=
 ∀ (pins:List (Addr×Obj)) (s:Shared) (σ:St) (H:Hp) (Q:List (V×V)→Hp→Prop),Inv X pins σ H s→Si trs σ H Q →
  wpAny (model X.prog X.w) X.A (evalPairs (pairTrees keys values X.env pos)) (fun vs s'=>∃ ps H',Inv X pins σ H' s'∧VV ps vs∧Q ps H') X.xe s
theorem Zo {X:Cx} {pos:Pos}:PPs X pos [] [] []:=fun pins s σ H Q I h=>pairTrees_nil_walk ⟨[],H,I,.nil,h⟩
theorem E2 {X:Cx} {pos:Pos} {k v:Expr} {ks:List (Option Expr)} {vs:List Expr} {tk tv:TE} {trs:List (TE×TE)} (hk:PE X k tk) (hv:PE X v tv) (hr:PPs X pos ks vs trs) :
 PPs X pos (some k :: ks) (v :: vs) ((tk,tv) :: trs):=fun pins s σ H Q I h =>
 pairTrees_cons_walk (thn (hk pins s σ H _ I h) fun u s1 ⟨x,H1,I1,rx,q1⟩=>thn (hv pins s1 σ H1 _ I1 q1) fun w2 s2 ⟨y,H2,I2,ry,q2⟩ =>
  thn (hr pins s2 σ H2 _ I2 q2) fun ws s3 ⟨ps,H3,I3,rel,q3⟩=>⟨(x,y) :: ps,H3,I3,.cons ⟨rx,ry⟩ rel,q3⟩)
def Jd (kvs more:List (Key×V)):List (Key×V):=more.foldl (fun acc kv=>putK acc kv.1 kv.2) kvs
theorem KV.merge:∀ {more:List (Key×V)} {rs:List (Key×Value)} {kvs:List (Key×V)} {vs:List (Key×Value)},KV more rs→KV kvs vs→KV (Jd kvs more) (merged vs rs):=by
 intro more rs kvs vs r
 unfold KV at r
 induction r generalizing kvs vs with
 | nil=>intro q; exact q
 | @cons p q ps qs h t ih =>
   intro r0
   have e:KV (putK kvs p.1 p.2) (stored vs q.1 q.2):=by
    have:=r0.put p.1 h.2
    rw [← h.1]; exact this
   exact ih e
theorem Io:∀ (more kvs:List (Key×V)),(Jd kvs more).length≤kvs.length + more.length
 | [],kvs=>by show kvs.length≤kvs.length + 0; omega
 | p :: r,kvs=>by
   have h1:=Io r (putK kvs p.1 p.2)
   have h2:=Fk kvs p.1 p.2
   show (Jd (putK kvs p.1 p.2) r).length≤_
   rw [List.length_cons]; omega
theorem Nw {P:Program} {w:World}:∀ {kvs:List (Key×V)} {ws:List (Value×Value)},VV (kvs.map fun kv=>(kV kv.1,kv.2)) ws→∃ rs,Carries (B3 P w) ws rs∧KV kvs rs
 | [],_,r=>by rw [List.map_nil] at r; cases r; exact ⟨[],True.intro,.nil⟩
 | p :: kvs,_,r=>by
   rw [List.map_cons] at r
   cases r with
   | @cons a b as bs h t =>
     obtain ⟨rs,c,q⟩:=Nw (P:=P) (w:=w) t
     obtain ⟨b1,b2⟩:=b
     exact ⟨(p.1,b2) :: rs,⟨Nf h.1,rfl,c⟩,.cons ⟨rfl,h.2⟩ q⟩
def Jdd (trs:List (TE×TE)):TE:=fun σ H Q=>∀ p,H p=none→Si trs σ (upd H p (.dK [])) fun ps H2=>H2 p=some (.dK [])∧∃ kvs:List (Key×V),ps=kvs.map (fun kv=>(kV kv.1,kv.2))∧kvs.length≤15∧Q (.ref p) (upd H2 p (.dK (Jd [] kvs)))
theorem Zq {X:Cx} {pos:Pos} {keys:List (Option Expr)} {values:List Expr} {trs:List (TE×TE)} (h:PPs X pos keys values trs) (hall:keys.all (·.isSome)=true) (hl:keys.length=values.length) (h0:keys≠[])
 (h15:keys.length≤15):PE X (.Dict keys values pos) (Jdd trs):=by
 intro pins s σ H Q I q
 have hn:=I.hok.fresh (Nat.le_refl s.heap.objs.size)
 have I1:=I.laid (a:=s.heap.objs.size) (o:=.dK []) (h':=s.heap.push { cls:=.type "dict",data:=.dict #[] }) (t':=s.toks) (fun _ _ q=>Heap.get?_push_of_some _ q) (Nat.le_refl _) (Yw s.heap I.big)
 refine wpAny_Dict_walk (knd:=B3 X.prog X.w) hall hl h0 h15 (thn (h pins _ σ _ _ I1 (q _ hn)) fun ws s2 ⟨ps,H2,I2,rel,e,kvs,ep,lk,q2⟩=>?_)
 subst ep
 obtain ⟨rs,c,rk⟩:=Nw (P:=X.prog) (w:=X.w) rel
 obtain ⟨z,hd,vs0,r0,dd⟩:=Jbd I2.hok e
 cases r0
 refine ⟨rs,c,dd,fun h' dd' hs=>⟨.ref s.heap.objs.size,_,?_,rfl,q2⟩⟩
 have hz:(Jd [] kvs).length≤sizeLine:=by
  have h1:=Io kvs []
  rw [List.length_nil] at h1
  rw [sizeLine_eq]; omega
 have he:∃ q,h'.get? s.heap.objs.size=some q:=let ⟨q,_,_,hq,_⟩:=dd'; ⟨q,hq⟩
 exact Ih I2 (by rw [e]; exact True.intro) hs he (Yv hz hd (rk.merge .nil) dd')
structure M1 (X:Cx) (o:Expr) (m:Str) (apos:Pos) (e:Expr) (cpos:Pos):Prop where
 base:attributeBase o m X.env (eval o X.env)=eval o X.env
 few:((backTo cpos (starEach [e] X.env)).all (fun x=>!x.1) && (backToKw cpos (keywordEach [] X.env)).all (fun x=>x.1.isSome)
  && decide (([e]:List Expr).length + ([]:List Keyword).length + (if ([]:List Keyword).isEmpty then 0 else 1) < 30))=true
 line:(apos.endLine == cpos.line)=true
 trees:backTo cpos (starEach [e] X.env)=[(false,eval e X.env)]
structure M2 (X:Cx) (o:Expr) (m:Str) (apos:Pos) (e f:Expr) (cpos:Pos):Prop where
 base:attributeBase o m X.env (eval o X.env)=eval o X.env
 few:((backTo cpos (starEach [e,f] X.env)).all (fun x=>!x.1) && (backToKw cpos (keywordEach [] X.env)).all (fun x=>x.1.isSome)
  && decide (([e,f]:List Expr).length + ([]:List Keyword).length + (if ([]:List Keyword).isEmpty then 0 else 1) < 30))=true
 line:(apos.endLine == cpos.line)=true
 trees:backTo cpos (starEach [e,f] X.env)=[(false,eval e X.env),(false,eval f X.env)]
def IsD (H:Hp) (a:Addr):Prop:=(∃ kvs,Rd H a (.dK kvs))∨∃ kvs,Rd H a (.dT kvs)
theorem Ym {X:Cx} {pins:List (Addr×Obj)} {σ:St} {H:Hp} {s:Shared} {a:Addr} (I:Inv X pins σ H s) (d:IsD H a) :
 s.TypeIs (.ref a) "dict"∧(∀ b,Value.ref a=.ref b→∃ ob,s.heap.get? b=some ob∧ob.dict=none)∧(a == sysModules)=false:=by
 rcases d with ⟨kvs,e⟩ | ⟨kvs,e⟩
 ·obtain ⟨_,hd,vs,_,dd⟩:=Nv I.hok e
  refine ⟨dd.typeIs,fun b q=>?_,hd⟩
  cases q
  obtain ⟨ob,_,_,h1,h2,_⟩:=dd
  exact ⟨ob,h1,h2.2.1⟩
 ·obtain ⟨_,hd,xs,_,dd⟩:=K7 I.hok e
  refine ⟨dd.typeIs,fun b q=>?_,hd⟩
  cases q
  obtain ⟨ob,_,_,h1,h2,_⟩:=dd
  exact ⟨ob,h1,h2.2.1⟩
section
variable {X:Cx} {pins:List (Addr×Obj)} {σ:St} {H:Hp} {s:Shared} {a:Addr} {y d:V} {u r:Value} {o:Option V} {A:Around} {E:Value→Shared→Prop}
theorem Jcv {Q:Value→Shared→Prop} (hu:A.units + 1 < cLine) (I:Inv X pins σ H s) (g:DGet H a y o) (ry:RelV y u) (rd:RelV d r) (h:∀ w' s',Inv X pins σ H s'→RelV (o.getD d) w'→Q w' s') :
 wpAny (model X.prog X.w) A (call (.builtin "dict.get") [.ref a,u,r]) Q E s:=by
 rcases g with ⟨kvs,k,e,ey,l⟩ | ⟨kvs,k,b,e,ey,eb,l⟩
 ·subst ey
  obtain ⟨z,hd,vs,rel,dd⟩:=Nv I.hok e
  refine call_meetsIn PySem.F.slot_dict_get dd.typeIs PySem.F.entry_dict_get (PySem.F.args_dict_get_3 _ _ _) (meets_dict_get_default (B3 X.prog X.w) a (Nf ry) hd r) ⟨_,dd.mapOf,h _ _ (I.tok _) ?_⟩
  rw [l]
  exact (rel.val k).getD rd
 ·subst ey
  cases (show u=Value.ref b from ry)
  obtain ⟨z,hd,xs,rel,dd⟩:=K7 I.hok e
  refine call_meetsIn PySem.F.slot_dict_get dd.typeIs PySem.F.entry_dict_get (PySem.F.args_dict_get_3 _ _ _) (meetsH_dict_get_default (tupleKind (B3 X.prog X.w)) a b hd r) ⟨tupleKind_room_in1 hu,k,xs,Jf I.hok eb,dd,h _ _ (I.tok _) ?_⟩
  rw [l]
  exact (rel.val k).getD rd
end
def Jeq (td ty:TE):TE:=fun σ H Q=>td σ H fun x H1=>∃ a,x=.ref a∧IsD H1 a∧ty σ H1 fun y H2=>∃ o,DGet H2 a y o∧Q (o.getD .non) H2
def Jbp (td ty tx:TE):TE:=fun σ H Q=>td σ H fun x H1=>∃ a,x=.ref a∧IsD H1 a∧ty σ H1 fun y H2=>tx σ H2 fun z H3=>∃ o,DGet H3 a y o∧Q (o.getD z) H3
def Jen (td ty:TE):TE:=fun σ H Q=>td σ H fun x H1=>∃ a,x=.ref a∧IsD H1 a∧ty σ H1 fun y H2=>∃ kvs k v,H2 a=some (.dK kvs)∧y=kV k∧Cp kvs k=some v∧Q v (upd H2 a (.dK (Dk kvs k)))
def Jem (td ty tx:TE):TE:=fun σ H Q=>td σ H fun x H1=>∃ a,x=.ref a∧IsD H1 a∧ty σ H1 fun y H2=>tx σ H2 fun z H3=>∃ kvs k,H3 a=some (.dK kvs)∧y=kV k ∧
 (∀ v,Cp kvs k=some v→Q v (upd H3 a (.dK (Dk kvs k))))∧(Cp kvs k=none→Q z H3)
section
variable {X:Cx} {o e f:Expr} {apos cpos:Pos} {td ty tx:TE}
theorem Mn (hu:X.A.units + 1 < cLine) (ho:PE X o td) (he:PE X e ty) (hf:PE X f tx) (m:M2 X o "get" apos e f cpos):PE X (.Call (.Attribute o "get" apos) [e,f] [] cpos) (Jbp td ty tx):=by
 intro pins s σ H Q I h
 refine wpAny_Call_method m.base m.few m.line PySem.F.plainAttrs_dict PySem.F.slot_dict_get PySem.F.type_dict_get (thn (ho pins s σ H _ I h) fun u s1 ⟨x,H1,I1,rx,a,ex,d,q1⟩=>?_)
 subst ex
 obtain rfl:u=Value.ref a:=rx
 obtain ⟨t1,t2,_⟩:=Ym I1 d
 refine ⟨t1,t2,?_⟩
 rw [m.trees]
 refine Calls.callWith_builtin rfl (Calls.evalArgs_plain (Calls.spliced_cons (thn (he pins s1 σ H1 _ I1 q1) fun iv s2 ⟨y,H2,I2,ry,q2⟩ =>
  Calls.spliced_cons (thn (hf pins s2 σ H2 _ I2 q2) fun fv s3 ⟨z,H3,I3,rz,ov,g,q3⟩=>Calls.spliced_nil ?_))))
 exact Jcv hu I3 g ry rz fun w' s4 I4 rw'=>⟨_,H3,I4,rw',q3⟩
end
section
variable {X:Cx} {pins:List (Addr×Obj)} {σ:St} {H:Hp} {s:Shared} {a:Addr} {kvs:List (Key×V)} {A:Around} {E:Value→Shared→Prop}
end
section
variable {X:Cx} {pins:List (Addr×Obj)} {σ:St} {H:Hp} {s:Shared} {a:Addr} {y:V} {u:Value} {A:Around} {E:Value→Shared→Prop}
end
end L2
namespace HT
open PySem PyProof.Rows
def lexLt:List Int→List Int→Bool
 | [],[]=>false
 | [],_ :: _=>true
 | _ :: _,[]=>false
 | x :: xs,y :: ys=>if x=y then lexLt xs ys else decide (x < y)
theorem lexLt_cons (x y:Int) (xs ys:List Int):lexLt (x :: xs) (y :: ys)=if x=y then lexLt xs ys else decide (x < y):=rfl
theorem lexLt_nil_nil:lexLt [] []=false:=rfl
theorem Nb (y:Int) (ys:List Int):lexLt [] (y :: ys)=true:=rfl
theorem Nc (x:Int) (xs:List Int):lexLt (x :: xs) []=false:=rfl
theorem Yu (A:Around) (s:Shared) (a:Int) (t:Tok) (c:Int) (u:Tok):∃ e,SeqAt.EqAt A s (.int a t) (.int c u) e∧(e=true↔a=c) :=
 ⟨(a == c),SeqAt.EqAt.int_int a t c u,by simp⟩
theorem Xd (A:Around) (s:Shared) (a:Int) (t:Tok) (c:Int) (u:Tok) (prog:Program) (w:World) (E:Value→Shared→Prop) (Q:Value→Shared→Prop) (h:Q (.bool (decide (a < c))) s) :
 wpAny (model prog w) A (richCompare .Lt (.int a t) (.int c u)) Q E s :=
 (PyProof.Rows.lt_int h:wpAny (model prog w) A (compareOp .Lt (.int a t) (.int c u)) Q E s)
section
open PySem.SeqAt
open PySem.AutoSeq1 (wpAny_loadPart')
open PySem.MeetsSeq PySem.MeetsSeq2 PySem.MeetsSeq3
theorem N5 (l b:Addr) (items items2:Array Value) (n n2:Nat) (dd dd2:Option Addr) (sl sl2:Array (Option Value)) (ns ms:List Int) (hi:IntsAre items.toList ns) (hj:IntsAre items2.toList ms) :
 Meets (Builtin.«tuple.__lt__» ⟨[.ref l,.ref b],[]⟩)
  (fun _ R s=>s.heap.get? l=some { cls:=.type "tuple",dict:=dd,data:=.seq items n,slots:=sl }∧s.heap.get? b=some { cls:=.type "tuple",dict:=dd2,data:=.seq items2 n2,slots:=sl2 } ∧
   R (.ok (.ret (.bool (lexLt ns ms)))) s) :=
 .of_wp fun prog w A R s h=>by
  obtain ⟨hp,g,d,tk,os⟩:=s; obtain ⟨hl,hb,h⟩:=h
  have f2:=AutoSeq1.sub_tuple_tuple
  have z1:items.size=ns.length:=by rw [← hi.length]; simp
  have z2:items2.size=ms.length:=by rw [← hj.length]; simp
  wp_walk using wpAny_loadPart' hl,wpAny_loadPart' hb,wpAny_forIn_list _ (fun rest b s'=>b.1=none∧s'=⟨hp,g,d,tk,os⟩∧∃ (vs ws:List Value) (ns' ms':List Int),rest=vs.zip ws ∧
   IntsAre vs ns'∧IntsAre ws ms'∧ns'.length + items2.size=ms'.length + items.size∧R (.ok (.ret (.bool (lexLt ns' ms')))) ⟨hp,g,d,tk,os⟩) _
  case turn =>
   rintro ⟨y,x⟩ rest b s' ⟨hb',rfl,vs,ws,ns',ms',hz,hvi,hwi,hlen,hR⟩
   cases hvi with
   | nil=>rw [List.zip_nil_left] at hz; cases hz
   | cons a t hvi' =>
     cases hwi with
     | nil=>rw [List.zip_nil_right] at hz; cases hz
     | cons c u hwi' =>
       rw [List.zip_cons_cons] at hz
       injection hz with hyx hrest
       injection hyx with hy hx
       subst hy hx
       rw [lexLt_cons] at hR
       simp only [List.length_cons] at hlen
       obtain ⟨e,he,hiff⟩:=Yu A.in1 ⟨hp,g,d,tk,os⟩ a t c u
       refine wpAny_bind (he prog w _ _ ?_)
       cases e with
       | true =>
         rw [if_pos (hiff.mp rfl)] at hR
         wp_walk
         exact ⟨rfl,rfl,_,_,_,_,hrest,hvi',hwi',by omega,hR⟩
       | false =>
         rw [if_neg (fun q=>absurd (hiff.mpr q) Bool.false_ne_true)] at hR
         have hri:=Xd A.in1 ⟨hp,g,d,tk,os⟩ a t c u prog w
         wp_walk using hri
         exact ⟨_,rfl,by simpa using hR⟩
  case fin =>
   rintro ⟨b1,b2⟩ s' ⟨hb',rfl,vs,ws,ns',ms',hz,hvi,hwi,hlen,hR⟩
   simp only at hb'
   subst hb'
   have hv:lexLt ns' ms'=decide (items.size < items2.size):=by
    cases hvi with
    | nil =>
      cases hwi with
      | nil =>
        simp only [List.length_nil] at hlen
        rw [lexLt_nil_nil]
        exact (decide_eq_false (by omega)).symm
      | cons c u hw =>
        simp only [List.length_nil,List.length_cons] at hlen
        rw [Nb]
        exact (decide_eq_true (by omega)).symm
    | cons a t hv =>
      cases hwi with
      | nil =>
        simp only [List.length_nil,List.length_cons] at hlen
        rw [Nc]
        exact (decide_eq_false (by omega)).symm
      | cons c u hw =>
        rw [List.zip_cons_cons] at hz
        cases hz
   rw [hv] at hR
   wp_walk
   exact ⟨_,rfl,by simpa [Builtin.Tuple.tupleCompareSizes] using hR⟩
  case h =>
   exact ⟨rfl,rfl,items.toList,items2.toList,ns,ms,rfl,hi,hj,by omega,h⟩
end
section
variable {prog:Program} {w:World} {A:Around} {E:Value→Shared→Prop} {s:Shared}
theorem lt_tupInts {l b:Addr} {items items2:Array Value} {ns ms:List Int} {Q:Value→Shared→Prop} (hl:IsTup s.heap l items) (hb:IsTup s.heap b items2) (hi:IntsAre items.toList ns) (hj:IntsAre items2.toList ms)
 (hu:A.units < cLine) (h:Q (.bool (lexLt ns ms)) s):wpAny (model prog w) A (compareOp .Lt (.ref l) (.ref b)) Q E s:=by
 obtain ⟨⟨cls,dd,data,sl⟩,ho,hc,n,hd⟩:=id hl
 obtain ⟨⟨cls2,dd2,data2,sl2⟩,ho2,hc2,n2,hd2⟩:=id hb
 simp only at hc hd hc2 hd2
 subst hc hd hc2 hd2
 exact richCompare_meets_room (op:=.Lt) ⟨_,ho,rfl⟩ ⟨_,ho2,rfl⟩ PySem.F.slot_tuple_lt PySem.F.entry_tuple_lt (PySem.F.args_tuple_lt_2 _ _) (N5 l b items items2 n n2 dd dd2 sl sl2 ns ms hi hj)
  ⟨ho,ho2,show Value.bool (lexLt ns ms)≠Value.notImplemented∧Q (.bool (lexLt ns ms)) s from ⟨(fun x=>nomatch x),h⟩⟩ hu
theorem cat_tup {t b:Addr} {vs ws:List Value} {Q:Value→Shared→Prop} (ht:IsTup s.heap t vs.toArray) (hb:IsTup s.heap b ws.toArray) (hv:vs≠[])
 (h1:ws=[]→Q (.ref t) s) (h2:ws≠[]→Q (.ref s.heap.objs.size) { s with heap:=s.heap.push { cls:=.type "tuple",data:=.seq (vs++ws).toArray } })
 (hsz:vs.length + ws.length≤sizeLine):wpAny (model prog w) A (binaryOp .Add (.ref t) (.ref b)) Q E s:=by
 obtain ⟨⟨cls,dd,data,sl⟩,ho,hc,n,hd⟩:=id ht
 obtain ⟨⟨cls2,dd2,data2,sl2⟩,ho2,hc2,n2,hd2⟩:=id hb
 simp only at hc hd hc2 hd2
 subst hc hd hc2 hd2
 have e:vs.toArray++ws.toArray=(vs++ws).toArray:=by simp
 by_cases hw:ws=[]
 ·exact concat_meets ⟨_,ho,rfl⟩ ⟨_,ho2,rfl⟩ noFill_tuple_add seq_tuple_add PySem.F.slot_tuple_add PySem.F.entry_tuple_add (PySem.F.args_tuple_add_2 _ _)
   (tuple_addW1 t b vs.toArray ws.toArray n n2 dd dd2 sl sl2 (by simpa using hv) (by simp [hw])) ⟨ho,ho2,h1 hw⟩
 ·refine concat_meets ⟨_,ho,rfl⟩ ⟨_,ho2,rfl⟩ noFill_tuple_add seq_tuple_add PySem.F.slot_tuple_add PySem.F.entry_tuple_add (PySem.F.args_tuple_add_2 _ _)
   (tuple_addW2 t b vs.toArray ws.toArray n n2 dd dd2 sl sl2 (by simpa using hv) (by simpa using hw) (by rw [List.size_toArray,List.size_toArray]; exact hsz)) ⟨ho,ho2,?_⟩
  rw [e]
  exact h2 hw
def sIx (n d:Nat):Option Int→Nat
 | none=>d
 | some v=>if v < 0 then (v + (n:Int)).toNat else min v.toNat n
theorem sIx_nat (n d k:Nat):sIx n d (some (k:Int))=min k n:=by
 show (if (k:Int) < 0 then ((k:Int) + (n:Int)).toNat else min (k:Int).toNat n)=min k n
 rw [if_neg (by omega),Int.toNat_natCast]
end
end HT
namespace L2
open PySem PySem.Spec PyProof.Rows
abbrev TO:=St→Hp→(Option Int→Hp→Prop)→Prop
def PO (X:Cx) (e:Option Expr) (t:TO):Prop :=
 ∀ (pins:List (Addr×Obj)) (s:Shared) (σ:St) (H:Hp) (Q:Option Int→Hp→Prop),Inv X pins σ H s→t σ H Q →
  wpAny (model X.prog X.w) X.A (evalPart e X.env) (fun u s'=>∃ o H',Inv X pins σ H' s'∧IsPart u o∧Q o H') X.xe s
def Jd9:TO:=fun _ H Q=>Q none H
def Jc7 (t:TE):TO:=fun σ H Q=>t σ H fun x H1=>∃ i,x=.int i∧Q (some i) H1
theorem intsAre_of {ns:List Int}:∀ {us:List Value},Vals (ns.map V.int) us→IntsAre us ns:=by
 induction ns with
 | nil=>intro us r; rw [List.map_nil] at r; cases r; exact .nil
 | cons n ns ih =>
   intro us r
   rw [List.map_cons] at r
   cases r with
   | cons r1 r2 =>
     obtain ⟨t,e⟩:=r1
     subst e
     exact .cons n t (ih r2)
section
variable {X:Cx} {e:Expr} {te:TE} {lo hi:Option Expr} {tl th:TO} {pos p2:Pos}
theorem Uj (h:PE X e te):PO X (some e) (Jc7 te):=by
 intro pins s σ H Q I hw
 rw [evalPart_some]
 refine thn (h pins s σ H _ I hw) fun u s1 ⟨x,H1,I1,r1,q1⟩=>?_
 obtain ⟨i,rfl,q⟩:=q1
 obtain ⟨t,rfl⟩:=r1
 exact ⟨some i,H1,I1,.int i t,q⟩
def SlR (X:Cx) (r:V→Option Int→Option Int→Hp→VK→Prop):Prop :=
 ∀ (pins:List (Addr×Obj)) (s:Shared) (σ:St) (H:Hp) (x:V) (v vl vu:Value) (lo hi:Option Int) (sl:Addr) (Q:VK),Inv X pins σ H s→RelV x v→s.heap.IsSliceOf sl vl vu .none→IsPart vl lo→IsPart vu hi→r x lo hi H Q →
  ∃ T id,typeLookup (.type T) "__getitem__"=pure (some (.builtin id))∧s.TypeIs v T∧wpAny (model X.prog X.w) X.A (getItem v (.ref sl)) (EP X pins σ Q) X.xe s
def tSl (r:V→Option Int→Option Int→Hp→VK→Prop) (te:TE) (tl th:TO):TE:=fun σ H Q=>te σ H fun x H1=>tl σ H1 fun l H2=>th σ H2 fun u H3=>r x l u H3 Q
theorem Xo {r:V→Option Int→Option Int→Hp→VK→Prop} (hr:SlR X r) (he:PE X e te) (hl:PO X lo tl) (hu:PO X hi th):PE X (.Subscript e (.Slice lo hi none p2) pos) (tSl r te tl th):=by
 intro pins s σ H Q I h
 refine Subscript_ (thn (he pins s σ H _ I h) fun v s1 ⟨x,H1,I1,r1,q1⟩=>?_)
 refine wpAny_Slice (thn (hl pins s1 σ H1 _ I1 q1) fun vl s2 ⟨l,H2,I2,pl,q2⟩=>thn (hu pins s2 σ H2 _ I2 q2) fun vu s3 ⟨u,H3,I3,pu,q3⟩=>?_)
 rw [evalPart_none]
 refine wpAny_pure ?_
 have I4:Inv X pins σ H3 { s3 with heap:=s3.heap.push { cls:=.type "slice",data:=.fields #[vl,vu,.none] } }:=I3.kept (t':=s3.toks) fun b ob q=>Heap.get?_push_of_some _ q
 obtain ⟨T,id,hT,ht,hg⟩:=hr pins { s3 with heap:=s3.heap.push { cls:=.type "slice",data:=.fields #[vl,vu,.none] } } σ H3 x v vl vu l u s3.heap.objs.size Q I4 r1 (Heap.IsSliceOf.new ..) pl pu q3
 show wpAny (model X.prog X.w) X.A (subscriptTail e (.Slice lo hi none p2) v (.ref s3.heap.objs.size)) (EP X pins σ Q) X.xe { s3 with heap:=s3.heap.push { cls:=.type "slice",data:=.fields #[vl,vu,.none] } }
 exact tail_any (ops:=[.ref s3.heap.objs.size,v]) ht hT hg (by with_unfolding_all rfl)
def Kx (xs:List V) (lo hi:Option Int):List V:=(xs.drop (HT.sIx xs.length 0 lo)).take (HT.sIx xs.length xs.length hi - HT.sIx xs.length 0 lo)
theorem R4 (xs:List V) (lo hi:Option Int):(Kx xs lo hi).length≤xs.length:=by
 unfold Kx
 rw [List.length_take,List.length_drop]
 omega
def Jgh (K:W.Frag):V→Option Int→Option Int→Hp→VK→Prop:=fun x lo hi H Q=>∃ a xs,x=.ref a∧SqT K H a xs ∧
 ¬ (HT.sIx xs.length 0 lo=0∧HT.sIx xs.length xs.length hi=xs.length)∧∀ p,H p=none→Q (.ref p) (upd H p (.tup (Kx xs lo hi)))
def Jgj (K:W.Frag):R2:=fun x y H Q=>∃ a b ns ms,x=.ref a∧y=.ref b∧SqT K H a (ns.map V.int)∧SqT K H b (ms.map V.int)∧Q (.bl (HT.lexLt ns ms)) H
def Jf0 (K:W.Frag):R2:=fun x y H Q=>∃ a b xs ys,x=.ref a∧y=.ref b∧SqT K H a xs∧SqT K H b ys∧xs≠[]∧xs.length + ys.length≤sizeLine ∧
 (ys=[]→Q (.ref a) H)∧(ys≠[]→∀ p,H p=none→Q (.ref p) (upd H p (.tup (xs++ys))))
theorem Vals.nil_iff {xs:List V} {us:List Value} (r:Vals xs us):us=[]↔xs=[]:=by
 cases r with
 | nil=>simp
 | cons _ _=>simp
end
def ixN (n:Nat) (i:Int):Option Nat:=if 0≤i then (if i < n then some i.toNat else none) else if -(n:Int)≤i then some (i + n).toNat else none
def atI {α:Type} (xs:List α) (i:Int):Option α:=(ixN xs.length i).bind fun j=>xs[j]?
theorem Jag {n:Nat} {i:Int} {j:Nat} (h:ixN n i=some j):seqIndex? i n=some j∧j < n∧-(n:Int)≤i∧i < n:=by
 unfold ixN at h
 by_cases h0:0≤i
 ·rw [if_pos h0] at h
  by_cases h1:i < n
  ·rw [if_pos h1] at h
   have e:i.toNat=j:=Option.some.inj h
   exact ⟨by rw [seqIndex_of h0 h1,e],by omega,by omega,h1⟩
  ·rw [if_neg h1] at h; cases h
 ·rw [if_neg h0] at h
  by_cases h1:-(n:Int)≤i
  ·rw [if_pos h1] at h
   have e:(i + n).toNat=j:=Option.some.inj h
   exact ⟨by rw [seqIndex_neg (by omega) h1,e],by omega,h1,by omega⟩
  ·rw [if_neg h1] at h; cases h
theorem U9 {α:Type} {xs:List α} {i:Int} {v:α} (h:atI xs i=some v):∃ j,seqIndex? i xs.length=some j∧xs[j]?=some v∧j < xs.length∧-(xs.length:Int)≤i∧i < xs.length:=by
 unfold atI at h
 cases e:ixN xs.length i with
 | none=>rw [e] at h; cases h
 | some j =>
   rw [e] at h
   obtain ⟨h1,h2,h3,h4⟩:=Jag e
   exact ⟨j,h1,h,h2,h3,h4⟩
theorem Jav {α:Type} {xs:List α} {j:Nat} {v:α} (h:xs[j]?=some v):atI xs (j:Int)=some v:=by
 have hj:j < xs.length:=(List.getElem?_eq_some_iff.mp h).1
 have e:ixN xs.length (j:Int)=some j:=by
  unfold ixN
  rw [if_pos (by omega),if_pos (by omega)]; simp
 unfold atI; rw [e]; exact h
def Jay (b:Expr):Prop:=∀ o i,subscripted b false o i=operate [o,i] (getItem o i)
def IxR (X:Cx) (r:R2):Prop :=
 ∀ (value slice:Expr) (pins:List (Addr×Obj)) (s:Shared) (σ:St) (H:Hp) (x y:V) (v u:Value) (Q:VK),Inv X pins σ H s→RelV x v→RelV y u→r x y H Q →
  subscripted slice false v u=operate [v,u] (getItem v u)→wpAny (model X.prog X.w) X.A (subscriptTail value slice v u) (EP X pins σ Q) X.xe s
def MtR (X:Cx) (id:String) (r:V→List V→Hp→VK→Prop):Prop :=
 ∀ (pins:List (Addr×Obj)) (s:Shared) (σ:St) (H:Hp) (x:V) (xs:List V) (v:Value) (us:List Value) (Q:VK),Inv X pins σ H s→RelV x v→Vals xs us→r x xs H Q →
  wpAny (model X.prog X.w) X.A (call (.builtin id) (v :: us)) (EP X pins σ Q) X.xe s
section
variable {X:Cx} {a b:Expr} {ta tb:TE} {pos:Pos}
theorem Bm {r:R2} (hr:IxR X r) (ha:PE X a ta) (hb:PE X b tb) (hs:Jay b:=by exact fun _ _=>rfl):PE X (.Subscript a b pos) (tOp r ta tb):=by
 intro pins s σ H Q I h
 exact Subscript_ (Jcz ha hb I h fun v u s2 x y H2 I2 rx ry q=>hr a b pins s2 σ H2 x y v u Q I2 rx ry q (hs _ _))
def Jdq (K:W.Frag):R2:=fun x y H Q=>∃ p xs i v,x=.ref p∧y=.int i∧SqL K H p xs∧atI xs i=some v∧Q v H
def Jbx (K:W.Frag):R2:=fun x y H Q=>∃ p xs i v,x=.ref p∧y=.int i∧SqT K H p xs∧atI xs i=some v∧Q v H
def Jff:R2:=fun x y H Q=>∃ z i c,x=.str z∧y=.int i∧z.length≤sizeLine∧atI z.cps.toList i=some c∧Q (.str ⟨#[c]⟩) H
theorem Gx:IxR X (Jdq X.K):=by
 intro value slice pins s σ H x y v u Q I rx ry h hs
 obtain ⟨p,xs,i,z,rfl,rfl,hq,he,q⟩:=h
 cases rx
 obtain ⟨t,rfl⟩:=ry
 obtain ⟨its,r,pl,hz⟩:=I.list hq
 obtain ⟨j,h1,h2,h3,h4,h5⟩:=U9 he
 obtain ⟨w,ew,rw'⟩:=r.get h2
 have hl:=r.length
 have hn:=P4
 have fin:EP X pins σ Q w s:=⟨z,H,I,rw',q⟩
 by_cases h0:0≤i
 ·have hj:i.toNat=j:=by
   rw [seqIndex_of h0 h5] at h1
   exact Option.some.inj h1
  exact item_listR pl.isList h0 (by omega) (by rw [hj]; simpa using ew) fin hs
 ·have hj:(i + (its.toArray.size:Int)).toNat=j:=by
   rw [seqIndex_neg (by omega) h4] at h1
   rw [List.size_toArray,← hl]
   exact Option.some.inj h1
  exact subscriptTail_builtinR (x:=w) pl.isList.typeIs slot_list_getitem.lookup
   (wpAny_getItem_list_neg (Q:=fun r s'=>r=w∧EP X pins σ Q r s') pl.isList (by omega) (by rw [List.size_toArray] <;> omega) (by omega) (by rw [hj]; simpa using ew) ⟨rfl,fin⟩) hs
theorem Bg:IxR X (Jbx X.K):=by
 intro value slice pins s σ H x y v u Q I rx ry h hs
 obtain ⟨p,xs,i,z,rfl,rfl,hq,he,q⟩:=h
 cases rx
 obtain ⟨t,rfl⟩:=ry
 obtain ⟨its,r,pl,hz⟩:=I.tuple hq
 obtain ⟨j,h1,h2,h3,h4,h5⟩:=U9 he
 obtain ⟨w,ew,rw'⟩:=r.get h2
 have hl:=r.length
 have hn:=P4
 have fin:EP X pins σ Q w s:=⟨z,H,I,rw',q⟩
 exact subscriptTail_builtinR (x:=w) pl.typeIs slot_tuple_getitem.lookup
  (getItem_tuple (j:=j) (Q:=fun r s'=>r=w∧EP X pins σ Q r s') pl (by omega) (by omega) (by rw [List.size_toArray,← hl]; exact h1) (by simpa using ew) ⟨rfl,fin⟩) hs
def rIx (K:W.Frag):R2:=fun x y H Q=>Jdq K x y H Q∨Jbx K x y H Q∨Jff x y H Q
def Jfz:V→V→V→Hp→(Hp→Prop)→Prop:=fun o i v H Q=>∃ p xs k j,o=.ref p∧i=.int k∧H p=some (.lst xs)∧ixN xs.length k=some j∧Q (upd H p (.lst (xs.set j v)))
theorem Pw (lo hi:Option Int) (n:Nat):(sliceBounds lo hi none n).1=((HT.sIx n 0 lo:Nat):Int)∧(sliceBounds lo hi none n).2.1=((HT.sIx n n hi:Nat):Int)∧(sliceBounds lo hi none n).2.2=1:=by
 refine ⟨?_,?_,rfl⟩
 ·cases lo with
  | none=>simp [sliceBounds,HT.sIx]
  | some i =>
    simp only [sliceBounds,HT.sIx,Option.getD_none,show (1:Int) > 0 by decide,if_true]
    by_cases h:i < 0
    ·simp only [h,if_true] <;> omega
    ·simp only [h,if_false] <;> omega
 ·cases hi with
  | none=>simp [sliceBounds,HT.sIx]
  | some i =>
    simp only [sliceBounds,HT.sIx,Option.getD_none,show (1:Int) > 0 by decide,if_true]
    by_cases h:i < 0
    ·simp only [h,if_true] <;> omega
    ·simp only [h,if_false] <;> omega
theorem N6 (its:List Value) (lo hi:Option Int):slicePick its.toArray lo hi none=((its.drop (HT.sIx its.length 0 lo)).take (HT.sIx its.length its.length hi - HT.sIx its.length 0 lo)).toArray:=by
 obtain ⟨h1,h2,h3⟩:=Pw lo hi its.toArray.size
 unfold slicePick
 rw [h1,h2,h3]
 simp only [sliceRange_one,pick_run,List.size_toArray] <;> rfl
def Jfa (K:W.Frag):V→Option Int→Option Int→Hp→VK→Prop:=fun x lo hi H Q=>∃ a xs,x=.ref a∧SqL K H a xs∧∀ p,H p=none→Q (.ref p) (upd H p (.lst (Kx xs lo hi)))
theorem Zf:SlR X (Jfa X.K):=by
 intro pins s σ H x v vl vu lo hi sl Q I rx hs pl pu h
 obtain ⟨a,xs,rfl,hx,q⟩:=h
 cases rx
 obtain ⟨its,r,ht,hz⟩:=I.list hx
 have hlen:=r.length
 refine ⟨"list",_,slot_list_getitem.lookup,ht.isList.typeIs,?_⟩
 refine wpAny_getItem_list_slice ht.isList hs pl pu .none (by simp) ?_ (by rw [List.size_toArray] <;> omega)
 rw [N6,← hlen]
 refine ⟨.ref s.heap.objs.size,_,I.laid (t':=s.toks) (o:=.lst (Kx xs lo hi)) (fun b ob q=>Heap.get?_push_of_some _ q) (Nat.le_refl _) ?_,rfl,q _ (I.hok.fresh (Nat.le_refl _))⟩
 exact ⟨Nat.le_trans (R4 xs lo hi) hz,_,0,(r.drop (HT.sIx xs.length 0 lo)).take (HT.sIx xs.length xs.length hi - HT.sIx xs.length 0 lo),Heap.get?_push_size _ rfl⟩
def K6:V→Bool
 | .non=>true
 | .bl _=>true
 | .int _=>true
 | .str _=>true
 | _=>false
def eqV:V→V→Bool
 | .non,.non=>true
 | .bl a,.bl b=>a == b
 | .bl a,.int b=>(if a then 1 else 0) == b
 | .int a,.bl b=>a == (if b then 1 else 0)
 | .int a,.int b=>a == b
 | .str a,.str b=>a == b
 | _,_=>false
theorem Jct {A:Around} {s:Shared} {y x:V} {u v:Value} (ry:RelV y u) (rx:RelV x v) (fy:K6 y=true) (fx:K6 x=true):SeqAt.EqAt A s u v (eqV y x):=by
 cases y with
 | non =>
   cases ry
   cases x with
   | non=>cases rx; exact SeqAt.EqAt.same _
   | bl b=>cases rx; exact SeqAt.EqAt.none_bool b
   | int b=>obtain ⟨t,rfl⟩:=rx; exact SeqAt.EqAt.none_int b t
   | str b=>obtain ⟨t,rfl⟩:=rx; exact SeqAt.EqAt.none_str b t
   | _=>exact absurd (show false=true from fx) Bool.false_ne_true
 | bl a =>
   cases ry
   cases x with
   | non=>cases rx; exact SeqAt.EqAt.bool_none a
   | bl b=>cases rx; exact SeqAt.EqAt.bool_bool a b
   | int b=>obtain ⟨t,rfl⟩:=rx; exact SeqAt.EqAt.bool_int a b t
   | str b=>obtain ⟨t,rfl⟩:=rx; exact SeqAt.EqAt.bool_str a b t
   | _=>exact absurd (show false=true from fx) Bool.false_ne_true
 | int a =>
   obtain ⟨t',rfl⟩:=ry
   cases x with
   | non=>cases rx; exact SeqAt.EqAt.int_none a t'
   | bl b=>cases rx; exact SeqAt.EqAt.int_bool a t' b
   | int b=>obtain ⟨t,rfl⟩:=rx; exact SeqAt.EqAt.int_int a t' b t
   | str b=>obtain ⟨t,rfl⟩:=rx; exact SeqAt.EqAt.int_str a t' b t
   | _=>exact absurd (show false=true from fx) Bool.false_ne_true
 | str a =>
   obtain ⟨t',rfl⟩:=ry
   cases x with
   | non=>cases rx; exact SeqAt.EqAt.str_none a t'
   | bl b=>cases rx; exact SeqAt.EqAt.str_bool a t' b
   | int b=>obtain ⟨t,rfl⟩:=rx; exact SeqAt.EqAt.str_int a t' b t
   | str b=>obtain ⟨t,rfl⟩:=rx; exact SeqAt.EqAt.str_str a t' b t
   | _=>exact absurd (show false=true from fx) Bool.false_ne_true
 | _=>exact absurd (show false=true from fy) Bool.false_ne_true
def eqU (x:V) (u:Value):Bool:=match u with
 | .none=>eqV .non x
 | .bool b=>eqV (.bl b) x
 | .int i _=>eqV (.int i) x
 | .str z _=>eqV (.str z) x
 | _=>false
theorem Yt {x y:V} {u:Value} (r:RelV y u) (f:K6 y=true):eqU x u=eqV y x:=by
 cases y with
 | non=>cases r; rfl
 | bl b=>cases r; rfl
 | int i=>obtain ⟨t,rfl⟩:=r; rfl
 | str z=>obtain ⟨t,rfl⟩:=r; rfl
 | _=>exact absurd (show false=true from f) Bool.false_ne_true
theorem Qi {x:V}:∀ {xs:List V} {us:List Value},Vals xs us→xs.all K6=true→us.any (eqU x)=xs.any fun y=>eqV y x
 | _,_,.nil,_=>rfl
 | y :: xs,u :: us,.cons r t,f=>by
   rw [List.all_cons,Bool.and_eq_true] at f
   rw [List.any_cons,List.any_cons,Yt r f.1,Qi t f.2]
theorem M7 {A:Around} {s:Shared} {x:V} {v:Value} (rx:RelV x v) (fx:K6 x=true):∀ {xs:List V} {us:List Value},Vals xs us→xs.all K6=true→∀ u∈us,SeqAt.EqAt A s u v (eqU x u)
 | _,_,.nil,_=>fun u hu=>by cases hu
 | y :: xs,u :: us,.cons r t,f=>fun u' hu=>by
   rw [List.all_cons,Bool.and_eq_true] at f
   rcases List.mem_cons.mp hu with rfl | hu
   ·rw [Yt r f.1]; exact Jct r rx f.1 fx
   ·exact M7 rx fx t f.2 u' hu
def inV (x:V) (xs:List V):Bool:=xs.any fun y=>eqV y x
def rIn (K:W.Frag) (neg:Bool):R2:=fun x y H Q=>∃ p xs,y=.ref p∧(SqL K H p xs∨SqT K H p xs)∧K6 x=true∧xs.all K6=true∧Q (.bl (if neg then !inV x xs else inV x xs)) H
theorem Ot:OpR X (compareOp .In) (rIn X.K false):=by
 intro pins s σ H x y v u Q I rx ry h
 obtain ⟨p,xs,rfl,hq,fx,fs,q⟩:=h
 cases ry
 rcases hq with hq | hq
 ·obtain ⟨its,r,pl,hz⟩:=I.list hq
  refine SeqAt.in_listAt (eqU x) pl.isList (fun w hw=>M7 rx fx r fs w (by simpa using hw)) ⟨.bl _,H,I,rfl,?_⟩
  rw [show its.toArray.any (eqU x)=its.any (eqU x) by simp,Qi r fs]
  exact q
 ·obtain ⟨its,r,pl,hz⟩:=I.tuple hq
  refine SeqAt.in_tupleAt (eqU x) pl (fun w hw=>M7 rx fx r fs w (by simpa using hw)) ⟨.bl _,H,I,rfl,?_⟩
  rw [show its.toArray.any (eqU x)=its.any (eqU x) by simp,Qi r fs]
  exact q
theorem Cm:E8 X (.builtin "len") (fun xs H Q=>∃ p ys,xs=[.ref p]∧(SqL X.K H p ys∨SqT X.K H p ys)∧Q (.int ys.length) H):=by
 intro pins s σ H xs us Q I r h
 obtain ⟨p,ys,rfl,hq,q⟩:=h
 obtain ⟨u,rfl,rx⟩:=vals1 r
 cases rx
 have hn:=P4
 rcases hq with hq | hq
 ·obtain ⟨its,r',pl,hz⟩:=I.list hq
  have hlen:=r'.length
  exact Calls.call_len_list pl.isList (by simp only [List.size_toArray] <;> omega) ⟨.int ys.length,H,I.tok _,⟨s.toks + 1,by rw [List.size_toArray,hlen]⟩,q⟩
 ·obtain ⟨its,r',pl,hz⟩:=I.tuple hq
  have hlen:=r'.length
  exact len_tuple pl (by simp only [List.size_toArray] <;> omega) ⟨.int ys.length,H,I.tok _,⟨s.toks + 1,by rw [List.size_toArray,hlen]⟩,q⟩
theorem Qg:E8 X (.type "list") (fun xs H Q=>∃ p ys,xs=[.ref p]∧(SqL X.K H p ys∨SqT X.K H p ys)∧∀ l,H l=none→Q (.ref l) (upd H l (.lst ys))):=by
 intro pins s σ H xs us Q I r h
 obtain ⟨p,ys,rfl,hq,q⟩:=h
 obtain ⟨u,rfl,rx⟩:=vals1 r
 cases rx
 have fin:∀ (its:List Value),Vals ys its→ys.length≤sizeLine→∀ (h':Heap) (c':Nat),(∀ b o',s.heap.get? b=some o'→h'.get? b=some o') →
  h'.get? s.heap.objs.size=some { cls:=.type "list",dict:=none,data:=.seq its.toArray c',slots:=#[] }→EP X pins σ Q (.ref s.heap.objs.size) { s with heap:=h' }:=fun its r' hz h' c' kp e =>
  ⟨.ref s.heap.objs.size,_,I.laid (t':=s.toks) kp (Nat.le_refl _) (show ObjOk X.prog X.w _ h' _ (.lst ys) from ⟨hz,its,c',r',e⟩),rfl,q _ (I.hok.fresh (Nat.le_refl _))⟩
 rcases hq with hq | hq
 ·obtain ⟨its,r',pl,hz⟩:=I.list hq
  have hlen:=r'.length
  obtain ⟨o,ho,hc,n,hd⟩:=pl.isList
  exact call_list_seq p (.inl rfl) ho hc hd (fun h' c' kp e=>fin its r' hz h' c' kp e) (by simp only [List.size_toArray] <;> omega)
 ·obtain ⟨its,r',pl,hz⟩:=I.tuple hq
  have hlen:=r'.length
  obtain ⟨o,ho,hc,n,hd⟩:=pl
  exact call_list_seq p (.inr rfl) ho hc hd (fun h' c' kp e=>fin its r' hz h' c' kp e) (by simp only [List.size_toArray] <;> omega)
theorem B4:E8 X (.type "tuple") (fun xs H Q=>∃ p ys,xs=[.ref p]∧((SqL X.K H p ys∧∀ l,H l=none→Q (.ref l) (upd H l (.tup ys)))∨(SqT X.K H p ys∧Q (.ref p) H))):=by
 intro pins s σ H xs us Q I r h
 obtain ⟨p,ys,rfl,h⟩:=h
 obtain ⟨u,rfl,rx⟩:=vals1 r
 cases rx
 rcases h with ⟨hq,q⟩ | ⟨hq,q⟩
 ·obtain ⟨its,r',pl,hz⟩:=I.list hq
  have hlen:=r'.length
  refine call_tuple_list pl.isList (fun h' kp=>?_) (by simp only [List.size_toArray] <;> omega)
  have I1:Inv X pins σ H { s with heap:=h' }:=I.kept (t':=s.toks) kp
  have I2:Inv X pins σ (upd H h'.objs.size (.tup ys)) { s with heap:=h'.push { cls:=.type "tuple",data:=.seq its.toArray } } :=
   I1.laid (t':=s.toks) (fun b o e=>Heap.get?_push_of_some _ e) (Nat.le_refl _) (show ObjOk X.prog X.w _ _ _ (.tup ys) from ⟨hz,its,r',IsTup.new _ _⟩)
  exact ⟨.ref h'.objs.size,_,I2,rfl,q _ (I1.hok.fresh (Nat.le_refl _))⟩
 ·obtain ⟨its,r',pl,hz⟩:=I.tuple hq
  exact call_tuple_same pl ⟨.ref p,H,I,rfl,q⟩
def tyV (K:W.Frag) (T:String) (x:V) (H:Hp):Prop:=match x with
 | .str _=>T="str"
 | .int _=>T="int"
 | .ref p=>(T="list"∧∃ xs,SqL K H p xs)∨(T="tuple"∧∃ o,K.lookup p=some o∧o.cls=.type "tuple"∧o.dict=none) ∨
  (T="dict"∧((∃ kvs,H p=some (.dK kvs))∨∃ kvs,H p=some (.dT kvs)))∨(T="set"∧∃ S n,H p=some (.set S n))
 | _=>False
theorem Wq {pins:List (Addr×Obj)} {σ:St} {H:Hp} {s:Shared} {T:String} {x:V} {v:Value} (I:Inv X pins σ H s) (r:RelV x v) (ty:tyV X.K T x H) :
 s.TypeIs v T∧∀ a,v=.ref a→∃ ob,s.heap.get? a=some ob∧ob.dict=none:=by
 cases x with
 | str z =>
   obtain ⟨t,rfl⟩:=r
   cases (show T="str" from ty)
   exact ⟨typeIs_str s z t,fun _ e=>nomatch e⟩
 | int i =>
   obtain ⟨t,rfl⟩:=r
   cases (show T="int" from ty)
   exact ⟨typeIs_int s i t,fun _ e=>nomatch e⟩
 | ref p =>
   cases r
   rcases ty with ⟨rfl,xs,hq⟩ | ⟨rfl,o,hk,hc,hd⟩ | ⟨rfl,hk⟩ | ⟨rfl,S,n,hk⟩
   ·obtain ⟨its,_,pl,_⟩:=I.list hq
    refine ⟨pl.isList.typeIs,fun a e=>?_⟩
    cases e
    obtain ⟨o,n,e,c,hd,_⟩:=pl
    exact ⟨o,e,hd⟩
   ·refine ⟨⟨o,I.kIn p o hk,hc⟩,fun a e=>?_⟩
    cases e
    exact ⟨o,I.kIn _ o hk,hd⟩
   ·have z:∃ o,s.heap.get? p=some o∧o.ExactDict:=by
     rcases hk with ⟨kvs,hk⟩ | ⟨kvs,hk⟩
     ·obtain ⟨_,_,_,_,o,_,_,e,ex,_⟩:=I.hok p _ hk
      exact ⟨o,e,ex⟩
     ·obtain ⟨_,_,_,_,o,_,_,e,ex,_⟩:=I.hok p _ hk
      exact ⟨o,e,ex⟩
    obtain ⟨o,e,ex⟩:=z
    refine ⟨⟨o,e,ex.1⟩,fun a e2=>?_⟩
    cases e2
    exact ⟨o,e,ex.2.1⟩
   ·obtain ⟨o,_,_,_,e,ex,_⟩:=I.hok p _ hk
    refine ⟨⟨o,e,ex.1⟩,fun a e2=>?_⟩
    cases e2
    exact ⟨o,e,ex.2.1⟩
 | _=>exact False.elim ty
def Jeu (K:W.Frag) (T:String) (r:V→List V→Hp→VK→Prop) (to:TE):TE:=fun σ H Q=>to σ H fun x H1=>tyV K T x H1∧r x [] H1 Q
def tBM (K:W.Frag) (T:String) (r:V→List V→Hp→VK→Prop) (to:TE) (t:TA):TE:=fun σ H Q=>to σ H fun x H1=>tyV K T x H1∧t σ H1 fun xs H2=>r x xs H2 Q
variable {o e:Expr} {es:List Expr} {to:TE} {t:TA} {name:Str} {apos cpos:Pos} {T id:String} {r:V→List V→Hp→VK→Prop}
theorem Ss (pa:PlainAttrs T) (slot:Slot T name id) (hty:typeOf (.builtin id)=pure (.type "method_descriptor")) (hm:MtR X id r) (ho:PE X o to)
 (hbase:attributeBase o name X.env (eval o X.env)=eval o X.env:=by rfl) (hline:(apos.endLine == cpos.line)=true:=by rfl):PE X (.Call (.Attribute o name apos) [] [] cpos) (Jeu X.K T r to):=by
 intro pins s σ H Q I h
 refine wpAny_Call_method0_late hbase hline (thn (ho pins s σ H _ I h) fun v s1 ⟨x,H1,I1,r1,ty,q1⟩=>?_)
 obtain ⟨h1,h2⟩:=Wq I1 r1 ty
 exact ⟨T,id,pa,slot,hty,h1,h2,Calls.callWith_builtin rfl (PySem.evalArgs_none (hm pins s1 σ H1 x [] v [] Q I1 r1 .nil q1))⟩
theorem Fx (pa:PlainAttrs T) (slot:Slot T name id) (hty:typeOf (.builtin id)=pure (.type "method_descriptor")) (hm:MtR X id r) (ho:PE X o to) (ha:PA X (e :: es) t)
 (hbase:attributeBase o name X.env (eval o X.env)=eval o X.env:=by rfl)
 (hfew:((backTo cpos (starEach (e :: es) X.env)).all (fun x=>!x.1) && (backToKw cpos (keywordEach [] X.env)).all (fun x=>x.1.isSome)
  && decide ((e :: es).length + ([]:List Keyword).length + (if ([]:List Keyword).isEmpty then 0 else 1) < 30))=true:=by rfl)
 (hline:(apos.endLine == cpos.line)=true:=by rfl) (hs:starEach (e :: es) X.env=(false,eval e X.env) :: starEach es X.env:=by rfl) (hplain:(backTo cpos (starEach es X.env)).any (·.1)=false:=by rfl) :
 PE X (.Call (.Attribute o name apos) (e :: es) [] cpos) (tBM X.K T r to t):=by
 intro pins s σ H Q I h
 refine wpAny_Call_method_late hbase hfew hline rfl (thn (ho pins s σ H _ I h) fun v s1 ⟨x,H1,I1,r1,ty,q1⟩=>?_)
 obtain ⟨h1,h2⟩:=Wq I1 r1 ty
 refine ⟨T,id,pa,slot,hty,h1,h2,?_⟩
 have hA:=ha cpos pins s1 σ H1 _ I1 q1
 rw [hs] at hA ⊢
 refine Calls.callWith_builtin (by show (false || (backTo cpos (starEach es X.env)).any (·.1))=false; rw [hplain] <;> rfl) (Calls.evalArgs_plain ?_)
 exact thn hA fun us s2 ⟨vs,H2,I2,r2,q2⟩=>hm pins s2 σ H2 x vs v us Q I2 r1 r2 q2
end
def MtM (X:Cx) (id:String) (r:V→List V→Hp→VK→Prop):Prop :=
 ∀ (pins:List (Addr×Obj)) (s:Shared) (σ:St) (H:Hp) (x:V) (xs:List V) (v:Value) (us:List Value) (Q:VK),Inv X pins σ H s→RelV x v→Vals xs us→r x xs H Q →
  wpAny (model X.prog X.w) X.A (call (.builtin id) (v :: us)) (EP X pins σ Q) X.xe s
theorem Vals.one:∀ {x:V} {us:List Value},Vals [x] us→∃ u,us=[u]∧RelV x u
 | _,_,.cons r .nil=>⟨_,rfl,r⟩
theorem Vals.two:∀ {x y:V} {us:List Value},Vals [x,y] us→∃ u v,us=[u,v]∧RelV x u∧RelV y v
 | _,_,_,.cons r (.cons q .nil)=>⟨_,_,rfl,r,q⟩
theorem Vals.zero:∀ {us:List Value},Vals [] us→us=[]
 | _,.nil=>rfl
theorem Vals.dropLast {xs:List V} {us:List Value} (h:Vals xs us):Vals xs.dropLast us.dropLast:=by
 induction h with
 | nil=>exact .nil
 | cons r t ih =>
   cases t with
   | nil=>exact .nil
   | cons q t'=>exact .cons r ih
theorem Tl {α:Type} (l:List α):l.eraseIdx (l.length - 1)=l.dropLast:=by
 induction l with
 | nil=>rfl
 | cons a r ih =>
   cases r with
   | nil=>rfl
   | cons b r =>
     have e:(a :: b :: r).length - 1=((b :: r).length - 1) + 1:=by
      have h1:(a :: b :: r).length=r.length + 2:=rfl
      have h2:(b :: r).length=r.length + 1:=rfl
      omega
     rw [e,List.eraseIdx_cons_succ,ih]
     all_goals rfl
section
variable {X:Cx} {pins:List (Addr×Obj)} {σ:St} {H:Hp} {s:Shared} {l b:Addr} {xs ys zs:List V}
theorem Inv.lset {its its':List Value} {n:Nat} {f:Array Value→Array Value} {t':Nat} (I:Inv X pins σ H s) (hH:H l=some (.lst xs))
 (e:s.heap.get? l=some { cls:=.type "list",data:=.seq its.toArray n }) (hf:f its.toArray=its'.toArray) (hv:Vals ys its') (hz:ys.length≤sizeLine) :
 Inv X pins σ (upd H l (.lst ys)) { s with heap:=s.heap.update l (Obj.mapSeq f),toks:=t' }:=by
 have q:=PySem.IsL.update e f
 rw [hf] at q
 refine I.write (x:=l) (e:=l) (by rw [hH]; exact trivial) (.inl rfl) (fun b' u hb hu=>(Heap.get?_update_other s.heap (Obj.mapSeq f) (Ne.symm hb)).trans hu) ⟨_,q⟩ ?_
 exact ⟨hz,its',_,hv,q⟩
theorem Inv.lnew {its:List Value} {t':Nat} (I:Inv X pins σ H s) (hv:Vals ys its) (hz:ys.length≤sizeLine) :
 Inv X pins σ (upd H s.heap.objs.size (.lst ys)) { s with heap:=s.heap.push { cls:=.type "list",data:=.seq its.toArray },toks:=t' } :=
 I.laid (fun _ _ q=>Heap.get?_push_of_some _ q) (Nat.le_refl _) ⟨hz,its,0,hv,Heap.get?_push_size _ rfl⟩
theorem Inv.fresh (I:Inv X pins σ H s):H s.heap.objs.size=none:=I.hok.fresh (Nat.le_refl _)
theorem Inv.lstM (I:Inv X pins σ H s) (hH:H l=some (.lst xs)):xs.length≤sizeLine∧∃ (its:List Value) (n:Nat),Vals xs its∧xs.length=its.length∧s.heap.get? l=some { cls:=.type "list",data:=.seq its.toArray n }:=by
 obtain ⟨z,its,n,r,e⟩:=I.hok l _ hH
 exact ⟨z,its,n,r,r.length,e⟩
theorem Ya {n:Nat} (h:n≤sizeLine):Builtin.List.listTooLong n=false:=by
 unfold Builtin.List.listTooLong
 exact decide_eq_false (by omega)
end
section
variable {X:Cx}
def Zm:V→List V→Hp→VK→Prop:=fun x vs H Q=>∃ l xs y,x=.ref l∧vs=[y]∧H l=some (.lst xs)∧xs.length < sizeLine∧Q .non (upd H l (.lst (xs++[y])))
theorem Di:MtM X "list.append" Zm:=by
 intro pins s σ H x vs v us Q I rx rv h
 obtain ⟨l,xs,y,rfl,rfl,hH,hz,q⟩:=h
 cases rx
 obtain ⟨u,rfl,ru⟩:=rv.one
 obtain ⟨z,its,n,r,hl,e⟩:=I.lstM hH
 refine call_meets F.slot_list_append ⟨_,e,rfl⟩ F.entry_list_append (F.args_list_append_2 _ _) (PySem.list_append l its.toArray n u (by rw [List.size_toArray]; omega)) ⟨e,?_⟩
 refine ⟨.non,_,I.lset (its':=its++[u]) hH e (by simp) (r.append (.cons ru .nil)) ?_,rfl,q⟩
 rw [List.length_append,List.length_singleton]
 omega
def Zl:V→List V→Hp→VK→Prop:=fun x vs H Q=>∃ l b xs zs,x=.ref l∧vs=[.ref b]∧H l=some (.lst xs)∧H b=some (.lst zs)∧xs.length + zs.length≤sizeLine∧Q .non (upd H l (.lst (xs++zs)))
theorem Kp:MtM X "list.extend" Zl:=by
 intro pins s σ H x vs v us Q I rx rv h
 obtain ⟨l,b,xs,zs,rfl,rfl,hH,hB,hz,q⟩:=h
 cases rx
 obtain ⟨u,rfl,ru⟩:=rv.one
 cases ru
 obtain ⟨z,its,n,r,hl,e⟩:=I.lstM hH
 obtain ⟨z2,its2,n2,r2,hl2,e2⟩:=I.lstM hB
 have hsz:its.toArray.size + its2.toArray.size≤sizeLine:=by rw [List.size_toArray,List.size_toArray]; omega
 have hlong:¬ (!its.toArray.isEmpty && Builtin.List.listTooLong (its.toArray.size + its2.toArray.size))=true:=by
  rw [Ya hsz,Bool.and_false]
  exact Bool.false_ne_true
 refine call_meets F.slot_list_extend ⟨_,e,rfl⟩ F.entry_list_extend (F.args_list_extend_2 _ _)
  (AutoSeq1.list_extend_list_list_0 l its.toArray n b its2.toArray n2 hlong (by rw [List.size_toArray]; omega) (by omega)) ⟨e,e2,?_⟩
 refine ⟨.non,_,I.lset (its':=its++its2) hH e (by simp) (r.append r2) ?_,rfl,q⟩
 rw [List.length_append]
 omega
def Jfc:V→List V→Hp→VK→Prop:=fun x vs H Q=>∃ l xs y,x=.ref l∧vs=[]∧H l=some (.lst xs)∧xs[xs.length - 1]?=some y∧Q y (upd H l (.lst xs.dropLast))
theorem Yb:MtM X "list.pop" Jfc:=by
 intro pins s σ H x vs v us Q I rx rv h
 obtain ⟨l,xs,y,rfl,rfl,hH,hy,q⟩:=h
 cases rx
 have hus:=rv.zero
 subst hus
 obtain ⟨z,its,n,r,hl,e⟩:=I.lstM hH
 obtain ⟨u,hu,ru⟩:=r.get hy
 have hy':its.toArray[its.toArray.size - 1]?=some u:=by
  show its.toArray[its.length - 1]?=some u
  rw [← Array.getElem?_toList,← hl]
  exact hu
 refine call_meets F.slot_list_pop ⟨_,e,rfl⟩ F.entry_list_pop (F.args_list_pop_1 _) (MeetsSeq.list_pop_last l its.toArray n u hy' (by rw [List.size_toArray]; omega)) ⟨e,?_⟩
 refine ⟨y,_,I.lset (its':=its.dropLast) hH e ?_ r.dropLast ?_,ru,q⟩
 ·show its.toArray.eraseIdxIfInBounds (its.toArray.size - 1)=its.dropLast.toArray
  rw [List.size_toArray,List.eraseIdxIfInBounds_toArray,Tl]
 ·rw [List.length_dropLast]
  omega
def Jfb:V→List V→Hp→VK→Prop:=fun x vs H Q=>∃ l xs i k y,x=.ref l∧vs=[.int i]∧H l=some (.lst xs)∧-(2 ^ 63)≤i∧i < 2 ^ 63∧seqIndex? i xs.length=some k∧xs[k]?=some y∧Q y (upd H l (.lst (xs.eraseIdx k)))
def Jdp:V→List V→Hp→VK→Prop:=fun x vs H Q=>∃ l xs,x=.ref l∧vs=[]∧H l=some (.lst xs)∧Q .non (upd H l (.lst xs.reverse))
def Jfg:V→List V→Hp→VK→Prop:=fun x vs H Q=>∃ l xs,x=.ref l∧vs=[]∧H l=some (.lst xs)∧Q .non (upd H l (.lst []))
def Jfh:R2:=fun x y H Q=>∃ l b xs zs,x=.ref l∧y=.ref b∧H l=some (.lst xs)∧H b=some (.lst zs)∧xs.length + zs.length≤sizeLine∧∀ p,H p=none→Q (.ref p) (upd H p (.lst (xs++zs)))
theorem Mo:OpR X (binaryOp .Add) Jfh:=by
 intro pins s σ H x y v u Q I rx ry h
 obtain ⟨l,b,xs,zs,rfl,rfl,hH,hB,hz,q⟩:=h
 cases rx
 cases ry
 obtain ⟨z,its,n,r,hl,e⟩:=I.lstM hH
 obtain ⟨z2,its2,n2,r2,hl2,e2⟩:=I.lstM hB
 refine PySem.P.add_list e e2 ?_ (by rw [List.size_toArray,List.size_toArray]; omega)
 have ea:its.toArray++its2.toArray=(its++its2).toArray:=by simp
 rw [ea]
 exact ⟨.ref _,_,I.lnew (t':=s.toks) (r.append r2) (by rw [List.length_append]; omega),rfl,q _ I.fresh⟩
def Jgi:R2:=fun x y H Q=>∃ l k xs,x=.ref l∧y=.int k∧H l=some (.lst xs)∧-(2 ^ 63)≤k∧k < 2 ^ 63∧xs.length * k.toNat≤sizeLine ∧
 ∀ p,H p=none→Q (.ref p) (upd H p (.lst (List.replicate k.toNat xs).flatten))
end
section
variable {prog:Program} {w:World} {A:Around} {E:Value→Shared→Prop} {s:Shared}
end
section
variable {X:Cx}
end
end L2
namespace Att
open PySem PySem.W PySem.Calls PyProof.Rows
theorem Lc {P:Params} {h:Heap}:∀ (ns:List Int) (vs:List Value),WellAll P h vs (ns.map WData.int)→IntsAre vs ns:=by
 intro ns
 induction ns with
 | nil =>
   intro vs w
   rw [List.map_nil] at w
   cases w
   exact .nil
 | cons n ns ih =>
   intro vs w
   rw [List.map_cons] at w
   cases w with
   | cons a b =>
     cases a
     exact .cons _ _ (ih _ b)
theorem Vg {l:OpenLaw} {n:Nat} (hn:l.most=some n) {P:Params} {h:Heap} {args:List WData} {vals:List Value}
 (hpre:l.row.toRowW.claim.pre args=true) (hwl:WellAll P h vals args) :
 ∃ a vs ns,vals=[Value.ref a]∧args=[WData.list (ns.map WData.int)]∧h.get? a=some { cls:=.type "list",data:=.seq vs.toArray }∧IntsAre vs ns∧ns.length≤n:=by
 have hsh:WShape.hasAll [] args [.list .int]=true:=(pre_splitW hpre).1
 have hc:l.pre.holds [] { args:=args }=true:=(pre_splitW hpre).2
 obtain ⟨d,r,rfl,h1,h2⟩:=hasAllW_cons hsh
 obtain rfl:=hasAllW_nil h2
 obtain ⟨xs,rfl,h3⟩:=hasW_list h1
 obtain ⟨ns,rfl⟩:=items_int h3
 have hlen:ns.length≤n:=by
  unfold OpenLaw.pre at hc
  have h4:(WTm.not (.lt (.lit (.int (n:Int))) (.len (.arg 0)))).holds [] { args:=[.list (ns.map .int)] }=true:=by
   have h4:=(holds_andW hc).1
   rw [hn] at h4
   exact h4
  have h5:=condW_of h4 (w_not (w_lt w_lit (w_len_list (w_arg rfl))))
  rw [List.length_map] at h5
  refine Nat.le_of_not_lt fun q=>?_
  have q':(n:Int) < ((ns.length:Nat):Int):=by omega
  first
   | (rw [decide_eq_true q'] at h5; exact absurd h5 (by decide))
   | (simp at h5; omega)
 cases hwl with
 | cons w1 w2 =>
   cases w2
   cases w1 with
   | list ho hall=>exact ⟨_,_,ns,rfl,rfl,ho,Lc ns _ hall,hlen⟩
theorem Vk (l:OpenLaw) (args:List WData):l.row.toRowW.claim.post args (.bool true) args=true :=
 postW_of (r:=l.row.toRowW) (X:=(true == true))
  (show WShape.has [] (.bool true) .bool=true by first | rfl | decide | simp [WShape.has,WShape.arms,WShape.armsAll])
  (show (WTm.eq .res (.lit (.bool true))).value [] { args:=args,res:=some (.bool true),after:=args }=some (.bool (true == true)) from w_eq_bool (w_res rfl) w_lit) rfl
theorem attach_call {l:OpenLaw} {n:Nat} {q:Program} {loose:List Str} {XP:(Str→Option Value)→Heap→Prop} {YP:World→Heap→Prop} {d:DefRec}
 (hn:l.most=some n) (hdf:d.params.defaults=[])
 (call:∀ (w:World) (s₀ s₁:Shared) (mg mb:Str→Option Value) (fa:Addr) (o:Obj) (pm cd doc:Value) (a:Addr) (vs:List Value) (ns:List Int),
  Ground q loose [] XP w s₀ mg mb s₁.heap→YP w s₁.heap →
  s₁.heap.get? fa=some o→o.data=.func (docDef d.name d.params d.body d.scope pm cd doc)→s₁.heap.CodeRec cd d.name→mg d.name=some (.ref fa) →
  s₁.heap.get? a=some { cls:=.type "list",data:=.seq vs.toArray }→IntsAre vs ns→ns.length≤n→s₁.gens=#[] →
  codeAny (model l.prog w) callerA (.call (.ref fa) ⟨[.ref a],[]⟩) (fun r s'=>r=.ok (.ret (.bool true))∧OldK s₁.heap s'.heap∧s'.os=s₁.os∧AllBare s'.gens) s₁) :
 WalkO q loose XP YP l.row.toRowW d [] (fun f vs=>PySem.call f vs):=by
 intro w s₀ s₁ mg mb G Y fa o pm cd doc dV kV ho hd hcd hD hmg hg args vals as hpre hlay hrd hwl hlo
 obtain rfl:dV=.none:=Dflts.none hD hdf
 obtain rfl:kV=.none:=Dflts.noKw hD
 obtain ⟨a,vs,ns,rfl,rfl,hobj,hints,hlen⟩:=Vg hn hpre hwl
 refine enter_call (codeAny_mono (call w s₀ s₁ mg mb fa o pm cd doc a vs ns G Y ho (fd_plain hd) hcd hmg hobj hints hlen hg) fun r s' hq=>?_)
 obtain ⟨rfl,h2,h3,h4⟩:=hq
 exact ⟨.inl ⟨.bool true,.bool true,[],rfl,fun _=>rfl,.bool true,Vk l _,fun _=>⟨List.Pairwise.nil,fun _ hm=>(nomatch hm)⟩⟩,h2,h3,h4⟩
section
variable {prog:Program} {w:World} {A:Around} {E:Value→Shared→Prop} {s:Shared} {K:Frag}
def Jfj (h:Heap):Heap:={ h with objs:=#[] }
def ledger (h:Heap) (L d:Addr):List (Addr×Obj):=(List.range h.objs.size).filterMap fun a=>if a=L∨a=d then none else (h.get? a).map fun o=>(a,o)
end
end Att
namespace L2
open PySem PySem.Spec PyProof.Rows
theorem Oh:∀ {vs:List Value} {ns:List Int},IntsAre vs ns→Vals (ns.map V.int) vs
 | _,_,.nil=>.nil
 | _,_,.cons n t h=>.cons ⟨t,rfl⟩ (Oh h)
def Jaz (H:Hp):Prop:=∀ b,H b=none∨∃ o xs,H b=some (.frz o (.lst xs))
theorem Yk {P:Program} {w:World} {K:W.Frag} {mg mb:Str→Option Value} {CX:CXT} {k:Nat} {fa a:Addr} {fd:FuncData} {x:Str} {sp:Sp} {s₁:Shared} {vs:List Value} {ns:List Int}
 (KX:K.In s₁.heap) (hns:s₁.heap.Ns mainGlobals mg) (hb:s₁.heap.Ns builtinsNs mb) (hbb:∀ x:Str,x≠"__name__"→mb x=bootBuiltins x) (hlim:s₁.heap.NoLimit) (hg:s₁.gens=#[])
 (ha:s₁.heap.get? a=some { cls:=.type "list",data:=.seq vs.toArray }) (hi:IntsAre vs ns) (hl:ns.length≤sizeLine) (hr:Room k callerA)
 (F:∀ base:Heap,K.In base→base.Ns mainGlobals mg→FnOk P w K mg base CX k fa fd [x] sp) (hbind:∀ (s:Shared) (u:Value),BindsTo s fd ⟨[u],[]⟩ [(x,u)])
 (hsp:∀ H:Hp,Jaz H→SqL K H a (ns.map V.int)→sp [.ref a] H (fun v _=>v=.bl true) fun _ _ _=>False)
 (hCX:∀ H e s',CX [] H s₁ (fun _ _ _=>False) e s'→False) :
 codeAny (model P w) callerA (.call (.ref fa) ⟨[.ref a],[]⟩) (fun r s'=>r=.ok (.ret (.bool true))∧OldK s₁.heap s'.heap∧s'.os=s₁.os∧AllBare s'.gens) s₁:=by
 have rv:=Oh hi
 have lenV:=hi.length
 have core:∀ H:Hp,Jaz H→SqL K H a (ns.map V.int)→HOk P w H s₁.heap→(∀ b,H b≠none→b=a)→(H a≠none→K.lookup a=none) →
  codeAny (model P w) callerA (.call (.ref fa) ⟨[.ref a],[]⟩) (fun r s'=>r=.ok (.ret (.bool true))∧OldK s₁.heap s'.heap∧s'.os=s₁.os∧AllBare s'.gens) s₁:=by
  intro H hO hS hok hA hK
  have base_of:∀ {b:Addr} {o:Obj},s₁.heap.get? b=some o→H b=none→(Qb s₁.heap H).get? b=some o:=fun e n=>Yp e n
  have noA:∀ {b:Addr} {o:Obj} {es:Array DictEntry} {ep:Nat},s₁.heap.get? b=some o→o.data=.dict es ep→H b=none:=fun {b o es ep} e d=>by
   cases q:H b with
   | none=>rfl
   | some u =>
     have e':b=a:=hA b (by rw [q]; simp)
     subst e'
     rw [ha] at e; cases e
     have d':Data.seq vs.toArray _=Data.dict es ep:=d
     cases d'
  have nsK:∀ {b:Addr} {m:Str→Option Value},s₁.heap.Ns b m→(Qb s₁.heap H).Ns b m:=fun {b m} ⟨o,es,ep,e,d,r⟩=>⟨o,es,ep,base_of e (noA e d),d,r⟩
  have hKb:K.In (Qb s₁.heap H):=fun b o e=>base_of (KX b o e) (by
   cases q:H b with
   | none=>rfl
   | some u =>
     have e':b=a:=hA b (by rw [q]; simp)
     subst e'
     rw [hK (by rw [q]; simp)] at e; cases e)
  have hM:Mod K mg (Qb s₁.heap H):=⟨hKb,nsK hns,⟨mb,nsK hb,hbb⟩,let ⟨mc,h1,h2⟩:=hlim; ⟨mc,nsK h1,h2⟩⟩
  have e0:Env0 P w K mg (Qb s₁.heap H) callerA [] s₁ H:=⟨rfl,hM,fun b o e=>Z9 e,Nat.le_of_eq (V6 _ _),trivial,fun b hb=>absurd (show b∈([]:List Addr) from hb) (by simp),hok,.of_eq hg⟩
  refine codeAny_mono ((F _ hKb (nsK hns)).run callerA [] s₁ H ⟨[.ref a],[]⟩ [.ref a] [.ref a] _ _ hr e0 (hbind s₁ (.ref a)) (.cons rfl .nil) (hsp H hO hS)) fun r s' h=>?_
  cases r with
  | error e=>exact (hCX H e s' h).elim
  | ok fl =>
    cases fl with
    | next=>exact False.elim h
    | brk=>exact False.elim h
    | cont=>exact False.elim h
    | ret u =>
      obtain ⟨v,H',os,bare,un,hok',r',q⟩:=h
      have q':v=.bl true:=q
      subst q'
      obtain rfl:u=Value.bool true:=r'
      refine ⟨rfl,OldK.of_keep fun b o e=>?_,os,bare⟩
      cases q:H b with
      | none=>exact un.keep b o e q (by intro z; exact absurd (show b∈([]:List Addr) from z) (by simp)) (by simp)
      | some u =>
        rcases hO b with z | ⟨ob,xs,z⟩
        ·rw [q] at z; cases z
        ·have z2:=un.frzs b ob _ z
         obtain ⟨e1,_⟩:=hok b _ z
         obtain ⟨e2,_⟩:=hok' b _ z2
         rw [e] at e1; cases e1
         exact e2
 cases hk:K.lookup a with
 | some o =>
   have e:=KX a o hk
   rw [ha] at e
   cases e
   refine core (fun _=>none) (fun _=>.inl rfl) (.inr ⟨_,vs.toArray,_,hk,rfl,rfl,rfl,by rw [List.size_toArray,lenV]; exact hl,by simpa using rv⟩) (fun b u z=>by have z':(none:Option HO)=some u:=z; cases z') (fun b z=>absurd rfl z) fun z=>absurd rfl z
 | none =>
   refine core (fun b=>if b=a then some (.frz { cls:=.type "list",data:=.seq vs.toArray } (.lst (ns.map V.int))) else none) (fun b=>?_) (.inl (.inr ⟨{ cls:=.type "list",data:=.seq vs.toArray },if_pos rfl⟩)) (fun b u z=>?_) (fun b z=>?_) fun _=>hk
   ·by_cases hb:b=a
    ·exact .inr ⟨_,_,if_pos hb⟩
    ·exact .inl (if_neg hb)
   ·by_cases hb:b=a
    ·have z':=(if_pos hb).symm.trans z
     cases z'
     subst hb
     exact ⟨ha,by rw [List.length_map]; exact hl,vs,_,rv,ha⟩
    ·have z':=(if_neg hb).symm.trans z
     cases z'
   ·by_cases hb:b=a
    ·exact hb
    ·exact absurd (if_neg hb) z
abbrev KOf {K:W.Frag} {h:Heap} (_:K.In h):W.Frag:=K
theorem walk_of {l:W.OpenLaw} {n k:Nat} {q:Program} {loose:List Str} {XP:(Str→Option Value)→Heap→Prop} {YP:World→Heap→Prop} {d:DefRec} {K:Params→W.Frag} {CX:World→CXT} {sp:World→Sp} {x:Str}
 (hn:l.most=some n) (hn2:n≤sizeLine) (hdf:d.params.defaults=[]) (hr:Room k callerA)
 (hY:∀ (w:World) (h:Heap),YP w h→(K w.params).In h)
 (F:∀ (w:World) (mg:Str→Option Value) (fa:Addr) (h:Heap),(K w.params).In h→h.Ns mainGlobals mg→mg d.name=some (.ref fa) →
  ∃ fd:FuncData,(∀ (s:Shared) (u:Value),BindsTo s fd ⟨[u],[]⟩ [(x,u)]) ∧
   ∀ base:Heap,(K w.params).In base→base.Ns mainGlobals mg→FnOk l.prog w (K w.params) mg base (CX w) k fa fd [x] (sp w))
 (hsp:∀ (w:World) (H:Hp) (a:Addr) (ns:List Int),ns.length≤n→Jaz H→SqL (K w.params) H a (ns.map V.int)→sp w [.ref a] H (fun v _=>v=.bl true) fun _ _ _=>False)
 (hCX:∀ (w:World) (H:Hp) (s:Shared) (e:Value) (s':Shared),CX w [] H s (fun _ _ _=>False) e s'→False) :
 W.WalkO q loose XP YP l.row.toRowW d [] (fun f vs=>PySem.call f vs):=by
 refine Att.attach_call hn hdf fun w s₀ s₁ mg mb fa o pm cd doc a vs ns G Y ho hd hcd hmg hobj hints hlen hg=>?_
 have KX:=hY w _ Y
 obtain ⟨fd,hb,hF⟩:=F w mg fa _ KX G.T.g hmg
 exact Yk KX G.T.g G.T.b G.T.builtins G.T.nolimit hg hobj hints (Nat.le_trans hlen hn2) hr hF hb (fun H hO hS=>hsp w H a ns hlen hO hS) fun H e s'=>hCX w H s₁ e s'
def inClass (s:Stmt) (j:Nat):Stmt:=match s with
 | .ClassDef _ _ _ body _ _ _ _ _ _ _=>body.getD j (.Pass ⟨0,0,0,0⟩)
 | _=>.Pass ⟨0,0,0,0⟩
def Ax (s:Stmt):Arguments:=match s with
 | .FunctionDef _ a _ _ _ _ _ _ _ _=>a
 | _=>{ posonlyargs:=[],args:=[],vararg:=none,kwonlyargs:=[],kw_defaults:=[],kwarg:=none,defaults:=[] }
def As (s:Stmt):List Stmt:=match s with
 | .FunctionDef _ _ b _ _ _ _ _ _ _=>b
 | _=>[]
def Af (s:Stmt):Scope:=match s with
 | .FunctionDef _ _ _ _ _ _ sc _ _ _=>sc
 | _=>{ kind:=.function,names:=[],isGenerator:=false,isCoroutine:=false }
abbrev CX0:CXT:=fun _ _ _ _ _ _=>False
abbrev E0:XK:=fun _ _ _=>False
theorem Bu {X:Cx}:Ia CX0 X E0:=fun _ _ _ _ _ _ _ h=>h.elim
structure Fun (K:W.Frag) (x qual:Str) (st:Stmt) (f:Addr) (fd:FuncData):Prop where
 ex:∃ (oc:Value) (od:Option Addr) (kV doc pm:Value) (an:Option Addr) (cdv ct:Value) (osl:Array (Option Value)),
  fd=W.fnOf x qual (Ax st) (As st) (Af st) .none kV doc pm an cdv ct∧K.lookup f=some ⟨oc,od,.func fd,osl⟩∧W.codeIn K cdv qual=true
 kp:W.keepIn K (.ref f)=true
section
variable {P:Program} {w:World} {K:W.Frag} {mg:Str→Option Value} {base:Heap}
theorem Fun.ok {x qual:Str} {st:Stmt} {f:Addr} {fd:FuncData} {N ps:List Str} {k:Nat} {sp:Sp} (F:Fun K x qual st f fd) (S:Ay N ps (Af st)) (len:∀ vs H Q E,sp vs H Q E→vs.length=ps.length)
 (hbody:∀ (cdv:Value) (A:Around) (outer:List Env) (s:Shared) (H:Hp) (vs:List V) (Q:VK) (E:XK),Room k (A.deeper (envOfC qual (Af st) s.heap.objs.size f cdv))→sp vs H Q E →
  ∃ t,PSs (Hy CX0 P w K mg base N qual (Af st) f cdv A outer s H E).nox (As st) t∧t { nx:=fun _ H'=>Q .non H',rt:=Q } (start N vs) H):FnOk P w K mg base CX0 (k + 1) f fd ps sp:=by
 obtain ⟨oc,od,kV,doc,pm,an,cdv,ct,osl,rfl,lk,hcd⟩:=F.ex
 refine Jbc lk hcd S len fun A outer s H vs Q E hr hsp=>?_
 obtain ⟨t,h,q⟩:=hbody cdv A outer s H vs Q E hr hsp
 exact ⟨t,h.nox,q⟩
theorem Fun.binds {x qual:Str} {st:Stmt} {f:Addr} {fd:FuncData} {ps:List Str} (F:Fun K x qual st f fd)
 (h:∀ (kV doc pm:Value) (an:Option Addr) (cdv ct:Value) (us:List Value),us.length=ps.length→bindArgs (W.fnOf x qual (Ax st) (As st) (Af st) .none kV doc pm an cdv ct) ⟨us,[]⟩=pure (ps.zip us)):Binds K fd ps []:=by
 obtain ⟨oc,od,kV,doc,pm,an,cdv,ct,osl,rfl,lk,hcd⟩:=F.ex
 exact .all (h kV doc pm an cdv ct)
theorem A9 {x qual:Str} {st:Stmt} {f:Addr} {oc:Value} {od an:Option Addr} {osl:Array (Option Value)} {kV doc pm cdv ct:Value} (l:K.lookup f=some ⟨oc,od,.func (W.fnOf x qual (Ax st) (As st) (Af st) .none kV doc pm an cdv ct),osl⟩)
 (c:W.codeIn K cdv qual=true) (k:W.keepIn K (.ref f)=true):Fun K x qual st f (W.fnOf x qual (Ax st) (As st) (Af st) .none kV doc pm an cdv ct):=⟨⟨oc,od,kV,doc,pm,an,cdv,ct,osl,rfl,l,c⟩,k⟩
end
theorem Bv {A:Around} {k:Nat} (hr:Room k A):A.units + 1 < cLine:=Nat.lt_of_le_of_lt (Nat.add_le_add_left (by decide:1≤64) _) hr.units
theorem A0 {n:Nat} (h:n≤1000):n < sizeLine:=Nat.lt_of_le_of_lt h (by decide)
section
variable {X:Cx}
theorem pv (i:Nat) {x:Str} {pos:Pos} (hN:X.N[i]?=some x:=by rfl) (hv:Vis X.env.scope x:=by first | exact Or.inl rfl | exact Or.inr (Or.inl rfl) | exact Or.inr (Or.inr rfl)) (hd:(x == ("__debug__":Str))=false:=by decide)
 (hcd:(x == ("__classdict__":Str))=false:=by decide):PE X (.Name x pos) (B8 i):=Jb1 hN hv hd hcd
end
theorem Be {A B:Prop} (h:B):if false=true then A else B:=by
 rw [if_neg Bool.false_ne_true]
 exact h
theorem Bk {A B:Prop} (h:A):if true=true then A else B:=by
 rw [if_pos rfl]
 exact h
theorem V3 {c A B:Prop} [Decidable c] (h1:c→A) (h2:¬ c→B):if c then A else B:=by
 by_cases h:c
 ·rw [if_pos h]
  exact h1 h
 ·rw [if_neg h]
  exact h2 h
def B1 (H H':Hp):Prop:=∀ b o,H b=some o→H' b=some o
section
variable {κ:Type} [DecidableEq κ]
theorem Fh:∀ {l:List κ} {k:κ},l.Nodup→¬ k∈l→(l++[k]).Nodup
 | [],k,_,_=>by simp
 | a :: r,k,h,hk=>by
   obtain ⟨h1,h2⟩:=List.nodup_cons.mp h
   show (a :: (r++[k])).Nodup
   refine List.nodup_cons.mpr ⟨fun m=>?_,Fh h2 fun m=>hk (List.mem_cons.mpr (Or.inr m))⟩
   rcases List.mem_append.mp m with q | q
   ·exact h1 q
   ·exact hk (List.mem_cons.mpr (Or.inl (List.mem_singleton.mp q).symm))
theorem Wf {p:κ×V} {r:List (κ×V)} {k:κ} (e:p.1=k):Dk (p :: r) k=Dk r k:=by
 unfold Dk
 rw [List.filter_cons,if_neg (by simp [e])]
theorem Pa {p:κ×V} {r:List (κ×V)} {k:κ} (e:¬ p.1=k):Dk (p :: r) k=p :: Dk r k:=by
 unfold Dk
 rw [List.filter_cons,if_pos (by simp [e])]
theorem Ry:∀ {kvs:List (κ×V)} {k:κ},¬ k∈kvs.map (·.1)→Dk kvs k=kvs
 | [],_,_=>rfl
 | p :: r,k,h=>by
   have h':¬ k∈r.map (·.1):=fun m=>by
    obtain ⟨q,hq,e⟩:=List.mem_map.mp m
    exact h (List.mem_map.mpr ⟨q,List.mem_cons.mpr (Or.inr hq),e⟩)
   rw [Pa fun e=>h (List.mem_map.mpr ⟨p,List.mem_cons.mpr (Or.inl rfl),e⟩),Ry h']
end
end L2
set_option maxHeartbeats 4000000
namespace FX
open PySem PySem.Spec PyProof.Rows L2
inductive RepT (K:W.Frag) (H:Hp):V→PyData→Prop
 | non:RepT K H .non .none
 | bl (b:Bool):RepT K H (.bl b) (.bool b)
 | int (i:Int):RepT K H (.int i) (.int i)
 | str (x:Str):RepT K H (.str x) (.str x)
 | tup {a:Addr} {xs:List V} {ds:List PyData}:SqT K H a xs→xs.length=ds.length→(∀ (j:Nat) (x:V) (d:PyData),xs[j]?=some x→ds[j]?=some d→RepT K H x d)→RepT K H (.ref a) (.tuple ds)
inductive Rep (K:W.Frag) (H:Hp):V→PyData→Prop
 | one {x:V} {d:PyData}:RepT K H x d→Rep K H x d
 | lst {a:Addr} {xs:List V} {ds:List PyData}:SqL K H a xs→Paired (RepT K H) xs ds→Rep K H (.ref a) (.list ds)
theorem A1 {α β:Type} {R:α→β→Prop}:∀ {xs:List α} {ys:List β},Paired R xs ys→∀ (j:Nat) (x:α) (y:β),xs[j]?=some x→ys[j]?=some y→R x y
 | _,_,.nil,j,x,y,h,_=>by simp at h
 | _,_,.cons r t,0,x,y,h,h'=>by simp at h h'; subst h; subst h'; exact r
 | _,_,.cons r t,j + 1,x,y,h,h'=>A1 t j x y (by simpa using h) (by simpa using h')
theorem Cz {α β:Type} {R:α→β→Prop}:∀ {xs:List α} {ys:List β},xs.length=ys.length→(∀ (j:Nat) (x:α) (y:β),xs[j]?=some x→ys[j]?=some y→R x y)→Paired R xs ys
 | [],[],_,_=>.nil
 | x :: xs,y :: ys,hl,h=>.cons (h 0 x y rfl rfl) (Cz (by simpa using hl) fun j a b e1 e2=>h (j + 1) a b (by simpa using e1) (by simpa using e2))
 | [],_ :: _,hl,_=>by simp at hl
 | _ :: _,[],hl,_=>by simp at hl
theorem RepT.tupP {K:W.Frag} {H:Hp} {a:Addr} {xs:List V} {ds:List PyData} (h:SqT K H a xs) (r:Paired (RepT K H) xs ds):RepT K H (.ref a) (.tuple ds) :=
 .tup h (Paired.length r) fun j x d e1 e2=>A1 r j x d e1 e2
structure KeepT (H H':Hp):Prop where
 tup:∀ a xs,H a=some (.tup xs)→H' a=some (.tup xs)
 frz:∀ a o u,H a=some (.frz o u)→H' a=some (.frz o u)
theorem KeepT.of_same {H H':Hp} (s:B1 H H'):KeepT H H':=⟨fun a xs e=>s a _ e,fun a o u e=>s a _ e⟩
theorem KeepT.sq {K:W.Frag} {H H':Hp} (k:KeepT H H') {a:Addr} {xs:List V} (h:SqT K H a xs):SqT K H' a xs:=by
 rcases h with (e | ⟨o,e⟩) | z
 ·exact .inl (.inl (k.tup a xs e))
 ·exact .inl (.inr ⟨o,k.frz a o _ e⟩)
 ·exact .inr z
theorem KeepT.upd {H:Hp} {p:Addr} {o:HO} (h:∀ o',H p=some o'→(∀ xs,o'≠.tup xs)∧∀ b u,o'≠.frz b u):KeepT H (upd H p o) :=
 ⟨fun a xs e=>by
  have:a≠p:=fun z=>by subst z; exact (h _ e).1 xs rfl
  rw [Ac this]; exact e,
  fun a b u e=>by
   have:a≠p:=fun z=>by subst z; exact (h _ e).2 b u rfl
   rw [Ac this]; exact e⟩
theorem RepT.keep {K:W.Frag} {H H':Hp} (k:KeepT H H') {v:V} {d:PyData} (r:RepT K H v d):RepT K H' v d:=by
 induction r with
 | non=>exact .non
 | bl b=>exact .bl b
 | int i=>exact .int i
 | str x=>exact .str x
 | tup h hl _ ih=>exact .tup (k.sq h) hl fun j x d e1 e2=>ih j x d e1 e2
section
variable {X:Cx} {pins:List (Addr×Obj)} {σ:L2.St} {H:Hp} {s:Shared}
theorem Fe {h:Heap}:∀ {xs:List V} {us:List Value} {ds:List PyData},Vals xs us→xs.length=ds.length →
 (∀ (j:Nat) (x:V) (d:PyData),xs[j]?=some x→ds[j]?=some d→∀ u,RelV x u→∃ as,Reads h u d as)→∃ as,ReadsAll h us ds as
 | _,_,[],.nil,_,_=>⟨[],.nil⟩
 | _,_,d :: ds,.cons (a:=x) (b:=u) r t,hl,f=>by
   obtain ⟨as,r1⟩:=f 0 x d rfl rfl u r
   obtain ⟨bs,r2⟩:=Fe t (by simpa using hl) fun j y e h1 h2=>f (j + 1) y e (by simpa using h1) (by simpa using h2)
   exact ⟨as++bs,.cons r1 r2⟩
 | _,_,_ :: _,.nil,hl,_=>by simp at hl
 | _,_,[],.cons _ _,hl,_=>by simp at hl
theorem RepT.reads (I:Inv X pins σ H s) {v:V} {d:PyData} (r:RepT X.K H v d):∀ u,RelV v u→∃ as,Reads s.heap u d as:=by
 induction r with
 | non=>intro u e; cases e; exact ⟨_,.none⟩
 | bl b=>intro u e; cases e; exact ⟨_,.bool b⟩
 | int i=>intro u e; obtain ⟨t,rfl⟩:=e; exact ⟨_,.int i t⟩
 | str x=>intro u e; obtain ⟨t,rfl⟩:=e; exact ⟨_,.str x t⟩
 | tup h hl _ ih =>
   intro u e
   cases e
   obtain ⟨its,rv,⟨o,ho,hc,n,hd⟩,_⟩:=I.tuple h
   obtain ⟨as,ra⟩:=Fe rv hl fun j x d e1 e2=>ih j x d e1 e2
   exact ⟨as,.tuple ho hc hd (by simpa using ra)⟩
theorem Rep.reads (I:Inv X pins σ H s) {v:V} {d:PyData} (r:Rep X.K H v d) {u:Value} (e:RelV v u):∃ as,Reads s.heap u d as:=by
 cases r with
 | one r=>exact r.reads I u e
 | lst h p =>
   cases e
   obtain ⟨its,rv,pl,_⟩:=I.list h
   obtain ⟨o,ho,hc,n,hd⟩:=pl.isList
   obtain ⟨as,ra⟩:=Fe rv (Paired.length p) fun j x d e1 e2=>(A1 p j x d e1 e2).reads I
   exact ⟨_,.list ho hc hd (by simpa using ra)⟩
def Okd (d:PyData):Prop:=d.canLay0=true∧d.depth≤40
def Jdr (K:W.Frag):R2:=fun x y H Q=>∃ d e,Rep K H x d∧Rep K H y e∧Okd d∧Okd e∧Q (.bl (PyData.eqv d e)) H
def Jfd (K:W.Frag):R2:=fun x y H Q=>∃ d e,Rep K H x d∧Rep K H y e∧Okd d∧Okd e∧Q (.bl (!PyData.eqv d e)) H
theorem Xv (hu:X.A.units + 64 < cLine):OpR X (compareOp .Eq) (Jdr X.K):=by
 intro pins s σ H x y v u Q I rx ry h
 obtain ⟨d,e,r1,r2,o1,o2,q⟩:=h
 obtain ⟨as,g1⟩:=r1.reads I rx
 obtain ⟨bs,g2⟩:=r2.reads I ry
 exact PySem.SeqAt.compareEq_reads g1 g2 o1.1 o2.1 (by have:=o1.2; omega) ⟨.bl _,H,I,rfl,q⟩
theorem Xt (hu:X.A.units + 64 < cLine):OpR X (compareOp .NotEq) (Jfd X.K):=by
 intro pins s σ H x y v u Q I rx ry h
 obtain ⟨d,e,r1,r2,o1,o2,q⟩:=h
 obtain ⟨as,g1⟩:=r1.reads I rx
 obtain ⟨bs,g2⟩:=r2.reads I ry
 exact PySem.SeqAt.compareNe_reads g1 g2 o1.1 o2.1 (by have:=o1.2; omega) ⟨.bl _,H,I,rfl,q⟩
theorem Nt {d:PyData} (h:Okd d):PyData.eqv d d=true:=PySem.SeqAt.eqv_refl d h.1
theorem E7 {A:Around} {k:Nat} (r:Room k A):A.units + 64 < cLine:=r.units
end
def Jft (p d:Addr):HO:=.ext fun h=>h.IsValuesView p d
section
variable {X:Cx}
def tAt (σ0:L2.St) (H0:Hp) (R:Bool→Hp→Prop):TT:=fun σ H Q=>σ=σ0∧H=H0∧∀ b H1,R b H1→Q b H1
def Jgd (σ0:L2.St) (H0:Hp) (R:VK):TE:=fun σ H Q=>σ=σ0∧H=H0∧∀ v H1,R v H1→Q v H1
end
theorem Ae {H:Hp} {p:Addr} {o:HO} (hp:H p=none):B1 H (upd H p o):=fun b u e=>by rw [Ac (Ar e hp)]; exact e
theorem Aj {H H1 H2:Hp} (a:B1 H H1) (b:B1 H1 H2):B1 H H2:=fun c o h=>b c o (a c o h)
theorem Dg {H H':Hp} (e:B1 H H') {l:Addr} (h:H' l=none):H l=none:=by
 cases q:H l with
 | none=>rfl
 | some o=>rw [e l o q] at h; cases h
theorem Jv {α β:Type} {R:α→β→Prop}:∀ {xs:List α} {ys:List β} (j:Nat),Paired R xs ys→Paired R (xs.eraseIdx j) (ys.eraseIdx j)
 | _,_,_,.nil=>.nil
 | _,_,0,.cons _ t=>t
 | _,_,j + 1,.cons r t=>.cons r (Jv j t)
theorem D6 {α β:Type} {R:α→β→Prop} {x:α} {y:β} (r:R x y):∀ {xs:List α} {ys:List β},Paired R xs ys→Paired R (xs++[x]) (ys++[y])
 | _,_,.nil=>.cons r .nil
 | _,_,.cons q t=>.cons q (D6 r t)
theorem An {α β:Type} {R S:α→β→Prop} (f:∀ a b,R a b→S a b):∀ {xs:List α} {ys:List β},Paired R xs ys→Paired S xs ys
 | _,_,.nil=>.nil
 | _,_,.cons q t=>.cons (f _ _ q) (An f t)
theorem Y4 {α:Type} {xs:List α} {i:Int} {v:α} (h0:0≤i) (h:xs[i.toNat]?=some v):atI xs i=some v:=by
 have:=Jav h
 rwa [Int.toNat_of_nonneg h0] at this
theorem Bd {α:Type} {xs:List α} {j:Nat} (h:j < xs.length):∃ x,xs[j]?=some x:=⟨xs[j],List.getElem?_eq_some_iff.mpr ⟨h,rfl⟩⟩
theorem Jba {ds:List PyData} (h:∀ d∈ds,d.canLay0=true∧d.depth≤20):PyData.canLayAll0 ds=true∧PyData.depthAll ds≤20:=by
 induction ds with
 | nil=>exact ⟨by simp [PyData.canLayAll0],by simp [PyData.depthAll]⟩
 | cons d ds ih =>
   obtain ⟨a,b⟩:=ih fun e he=>h e (List.mem_cons_of_mem _ he)
   obtain ⟨c,g⟩:=h d (List.mem_cons_self ..)
   exact ⟨by simp [PyData.canLayAll0,a,c],by simp only [PyData.depthAll]; omega⟩
theorem Q4 {ds:List PyData} (h:∀ d∈ds,d.canLay0=true∧d.depth≤20):Okd (.list ds):=by
 obtain ⟨a,b⟩:=Jba h
 exact ⟨by simp only [PyData.canLay0]; exact a,by simp only [PyData.depth]; omega⟩
theorem Vp {ds:List PyData} (h:∀ d∈ds,d.canLay0=true∧d.depth≤20):Okd (.tuple ds):=by
 obtain ⟨a,b⟩:=Jba h
 exact ⟨by simp only [PyData.canLay0]; exact a,by simp only [PyData.depth]; omega⟩
theorem Jap (ds:List PyData):PyData.eqv (.list ds) (.list [])=ds.isEmpty:=by
 cases ds <;> simp [PyData.eqv,PyData.eqvAll]
section
variable {X:Cx} {γ:Type}
def tG (Pre:γ→L2.St→Hp→Prop) (Post:γ→L2.St→Hp→Prop) (R:VK):TS:=fun D σ H=>∃ g,Pre g σ H∧(∀ σ' H',Post g σ' H'→D.nx σ' H')∧∀ v H',R v H'→D.rt v H'
end
def Scr (K:W.Frag) (H:Hp) (a:Addr) (xs:List V):Prop:=(∃ o,H a=some (.frz o (.lst xs)))∨∀ H':Hp,SqL K H' a xs
theorem Scr.sq {K:W.Frag} {H:Hp} {a:Addr} {xs:List V} (h:Scr K H a xs):SqL K H a xs:=h.elim (fun ⟨o,e⟩=>.inl (.inr ⟨o,e⟩)) fun z=>z H
theorem Scr.keep {K:W.Frag} {H H':Hp} {a:Addr} {xs:List V} (h:Scr K H a xs) (kt:KeepT H H'):Scr K H' a xs:=h.elim (fun ⟨o,e⟩=>.inl ⟨o,kt.frz _ _ _ e⟩) fun z=>.inr z
theorem Scr.of {K:W.Frag} {H:Hp} {a:Addr} {xs:List V} (hO:Jaz H) (h:SqL K H a xs):Scr K H a xs:=by
 rcases h with (e | ⟨o,e⟩) | z
 ·rcases hO a with q | ⟨o,ys,q⟩
  ·rw [q] at e; cases e
  ·rw [q] at e; cases e
 ·exact .inl ⟨o,e⟩
 ·exact .inr fun H'=>.inr z
theorem Wg {prog:Program} {w:World} {A:Around} {R:Result→Shared→Prop} {s:Shared} {elt target iter:Expr} {ifs:List Expr} {scope:Scope} {pos:Pos} {it acc:Value} {env:Env} (J:Nat→Shared→Prop)
 (turn:∀ k s0,J k s0→wpAny (model prog w) A (pyNext it) (fun r s1=>match r with
  | none=>R (.ok .next) s1
  | some v=>wpAny (model prog w) A (letOwnedTupleGo target it v) (fun _ sg=>wpAny (model prog w) A (assign target env v) (fun _ s2 =>
   wpAny (model prog w) A (forIn ifs true fun c r=>if r=true then do let ok ← isTrue c env (eval c env); pure (ForInStep.yield ok) else pure (ForInStep.yield r)) (fun ok s3 =>
    if ok=true then wpAny (model prog w) A (eval elt env) (fun x s4 =>
     wpAny (model prog w) A (call (.builtin "list.append") [acc,x]) (fun _ s5=>∃ m,m < k∧J m s5) (fun _ _=>False) s4) (fun _ _=>False) s3
    else ∃ m,m < k∧J m s3) (fun _ _=>False) s2) (fun _ _=>False) sg) (fun _ _=>False) s1) (fun _ _=>False) s0)
 (k:Nat) (h:J k s):codeAny (model prog w) A (.compLoop (.ListComp elt [⟨target,iter,ifs,0⟩] scope pos) 0 it acc env) R s:=by
 refine codeAny_loop rfl J (fun k s0 hI=>?_) k h
 show wpAny _ A ((compTurn (.ListComp elt [⟨target,iter,ifs,0⟩] scope pos) 0 it acc env).onRaise (fun x=>do noteFrame x env; theTreesLotGoes x)) _ _ s0
 have no:∀ {E:Value→Shared→Prop} (e:Value) (s':Shared),False→notedBy (model prog w) A env E e s':=fun _ _ z=>z.elim
 refine wpAny_noted ?_
 rw [compTurn_list]
 refine wpAny_bind (wpAny_standAt (wpAny_bind (wpAny_mono (turn k s0 hI) (fun r s1 h1=>?_) no)))
 cases r with
 | none=>exact wpAny_pure h1
 | some v =>
   refine wpAny_bind (wpAny_mono h1 (fun _ sg hg=>wpAny_bind (wpAny_mono hg (fun _ s2 h2=>wpAny_bind (wpAny_mono h2 (fun ok s3 h3=>?_) no)) no)) no)
   cases ok with
   | false =>
     simp only [Bool.false_eq_true,if_false] at h3 ⊢
     exact wpAny_pure ⟨rfl,h3⟩
   | true =>
     simp only [if_true] at h3 ⊢
     exact wpAny_bind (wpAny_bind (wpAny_mono h3 (fun x s4 h4=>wpAny_bind (wpAny_mono h4 (fun _ s5 h5=>wpAny_pure (wpAny_pure ⟨rfl,h5⟩)) no)) no))
def blk (X:Cx) (sc:Scope) (cl:List (Str×Addr)) (C:Addr) (N:List Str) (s1:Shared) (H1:Hp) (fp:List Addr) (pins:List (Addr×Obj)):Cx where
 prog:=X.prog
 w:=X.w
 K:=X.K
 mg:=X.mg
 base:=X.base
 A:=X.A
 N:=N
 s₀:=s1
 H₀:=H1
 env:=compEnvC sc cl C X.env
 outer:=X.stack
 stack:=X.stack
 ex:=fp
 fn:=fun _=>false
 calm:=X.calm
 pn:=X.pn++pins
 xe:=fun _ _=>False
def InCells (cells:List (Str×Addr)):List (Str×Addr)→Prop
 | []=>True
 | (x,c) :: r=>cells.lookup x=some c∧InCells cells r
theorem InCells.look {cells:List (Str×Addr)}:∀ {cl:List (Str×Addr)} {x:Str} {c:Addr},InCells cells cl→cl.lookup x=some c→cells.lookup x=some c
 | [],_,_,_,e=>by simp at e
 | (y,d) :: r,x,c,h,e=>by
   rw [List.lookup_cons] at e
   cases q:x == y with
   | true =>
     rw [q] at e
     have e1:x=y:=eq_of_beq q
     cases e
     rw [e1]; exact h.1
   | false =>
     rw [q] at e
     exact InCells.look h.2 e
structure Jbe (X:Cx) (sc:Scope) (cl:List (Str×Addr)) (p:Str×Nat):Prop where
 n:X.N[p.2]?=some p.1
 k:X.env.scope.names.lookup p.1=some .cell
 l:cl.lookup p.1=X.env.cells.lookup p.1
 f:(relabel sc X.env).names.lookup p.1=some .cell
def CapsOk (X:Cx) (sc:Scope) (cl:List (Str×Addr)):List (Str×Nat)→Prop
 | []=>True
 | p :: r=>Jbe X sc cl p∧CapsOk X sc cl r
theorem CapsOk.at {X:Cx} {sc:Scope} {cl:List (Str×Addr)}:∀ {caps:List (Str×Nat)} {j:Nat} {p:Str×Nat},CapsOk X sc cl caps→caps[j]?=some p→Jbe X sc cl p
 | [],_,_,_,e=>by simp at e
 | q :: r,0,p,h,e=>by simp at e; subst e; exact h.1
 | q :: r,j + 1,p,h,e=>CapsOk.at h.2 (by simpa using e)
abbrev F6 (caps:List (Str×Nat)):List Str:=caps.map fun p=>p.1
def Ea (σ:L2.St) (caps:List (Str×Nat)):L2.St:=caps.map fun p=>(σ[p.2]?).join
section
variable {X:Cx} {sc:Scope} {cl:List (Str×Addr)} {pins:List (Addr×Obj)} {σ:L2.St} {H1:Hp} {s1:Shared} {fp:List Addr} {N:List Str}
theorem Jcx (I:Inv X pins σ H1 s1) (hf:∀ b∈fp,Og X pins H1 b) (ho:∀ b∈fp,∃ o,s1.heap.get? b=some o) (hk:sc.kind=.function) (hin:InCells X.env.cells cl)
 (has:∀ x,((relabel sc X.env).names.lookup x=some .cell∨(relabel sc X.env).names.lookup x=some .free)→∃ c,cl.lookup x=some c):(blk X sc cl s1.heap.objs.size N s1 H1 fp pins).Ok where
 mod:=I.ok.mod
 kind:=hk
 glob:=I.ok.glob
 blt:=I.ok.blt
 above:=Nat.le_refl _
 inj:=fun x y c e1 e2=>I.ok.inj x y c (hin.look e1) (hin.look e2)
 has:=has
 cab:=fun x c e _=>by cases e
 hd:=I.ok.hd
 frames:=I.ok.frames
 stk:=.inl rfl
 exf:=fun b hb=>⟨fun z=>by
  obtain ⟨o,e⟩:=ho b hb
  exact Nat.ne_of_lt (Heap.lt_size e) z,fun x c e=>(hf b hb).2.2.2.2.1 x c (hin.look e)⟩
 bs:=fun b o e=>I.bs b o e
 bsz:=Nat.le_trans I.ok.bsz I.sz
 noex:=fun b o e hb=>by
  rcases (hf b hb).2.2.2.1 with z | z
  ·exact I.ok.noex b o e z
  ·exact absurd (Nat.lt_of_lt_of_le (Nat.lt_of_lt_of_le (Heap.lt_size e) I.ok.bsz) z) (Nat.lt_irrefl _)
 exfs:=fun b hb z=>by
  rcases List.mem_cons.mp (I.stkSub b z) with q | q
  ·exact (hf b hb).2.1 q
  ·exact (hf b hb).2.2.1 q
 funs:=I.stack
 frf:=fun b hb=>I.stkFree b hb
theorem Jcy {x:Str} {caps:List (Str×Nat)} {h':Heap} {m:Str→Option Value} {t':Nat} {o:Obj} (I:Inv X pins σ H1 s1) (ok:(blk X sc cl s1.heap.objs.size (x :: F6 caps) s1 H1 fp pins).Ok) (hin:InCells X.env.cells cl) (hcap:CapsOk X sc cl caps)
 (hx:(relabel sc X.env).names.lookup x=some .local) (hn:h'.Ns s1.heap.objs.size m) (hs:Heap.SameBut s1.heap.objs.size (s1.heap.push o) h') :
 Inv (blk X sc cl s1.heap.objs.size (x :: F6 caps) s1 H1 fp pins) [] (none :: Ea σ caps) H1 { s1 with heap:=h',toks:=t' }:=by
 have kp:∀ b u,s1.heap.get? b=some u→h'.get? b=some u:=fun b u e=>(hs.2 b (Nat.ne_of_lt (Heap.lt_size e))).trans (Heap.get?_push_of_some _ e)
 have hfree:H1 s1.heap.objs.size=none:=I.hok.fresh (Nat.le_refl _)
 refine ⟨ok,rfl,I.bare,Un.kept kp,⟨m,hn,fun i y v e1 e2 e3=>?_⟩,fun y c e=>?_,hfree,fun y c e=>I.freeC y c (hin.look e),fun p hp=>?_,I.hok.kept kp,?_⟩
 ·cases i with
  | zero=>simp at e2
  | succ j =>
    have e1':(x :: F6 caps)[j + 1]?=some y:=e1
    rw [List.getElem?_cons_succ] at e1'
    have e2':(Ea σ caps)[j]?=some (some v):=by simpa using e2
    rw [List.getElem?_map] at e1'
    unfold Ea at e2'
    rw [List.getElem?_map] at e2'
    cases q:caps[j]? with
    | none=>rw [q] at e1'; cases e1'
    | some p =>
      rw [q] at e1' e2'
      have e4:p.1=y:=Option.some.inj e1'
      have e5:(σ[p.2]?).join=some v:=Option.some.inj e2'
      have hc:=hcap.at q
      have e6:σ[p.2]?=some (some v):=by
       cases z:σ[p.2]? with
       | none=>rw [z] at e5; cases e5
       | some w' =>
         rw [z] at e5
         have:w'=some v:=e5
         rw [this]
      obtain ⟨mm,hnn,hl⟩:=I.loc
      obtain ⟨u,r,lk⟩:=hl p.2 p.1 v hc.n e6 (.inr (.inl hc.k))
      refine ⟨u,r,.inr ⟨.inl (by rw [← e4]; exact hc.f),?_⟩⟩
      rcases lk with ⟨k1,_⟩ | ⟨_,c,hcl,ce⟩
      ·have:X.env.scope.names.lookup p.1=some .local:=k1
       rw [hc.k] at this; cases this
      ·obtain ⟨oc,hoc,hd⟩:=ce
       exact ⟨c,by rw [← e4]; exact hc.l.trans hcl,oc,kp _ _ hoc,hd⟩
 ·obtain ⟨v,oc,hoc,hd⟩:=I.cell y c (hin.look e)
  exact ⟨v,oc,kp _ _ hoc,hd⟩
 ·have hp':p∈(X.pn++pins)++[]:=hp
  rw [List.append_nil] at hp'
  obtain ⟨a1,a2,a3,a4,a5⟩:=I.pin p hp'
  refine ⟨kp _ _ a1,a2,Nat.ne_of_lt (Heap.lt_size a1),fun z=>?_,a5⟩
  rcases List.mem_cons.mp (I.stkSub _ z) with q | q
  ·exact a3 q
  ·exact a4 q
 ·simp [Ea,blk]
theorem Jat {pins':List (Addr×Obj)} {σ':L2.St} {H':Hp} {s':Shared} (I:Inv X pins σ H1 s1) (hf:∀ b∈fp,Og X pins H1 b) (I':Inv (blk X sc cl s1.heap.objs.size N s1 H1 fp pins) pins' σ' H' s'):Inv X pins σ H' s' :=
 I.call' (ch:=fp) I'.os I'.base I'.hok I'.bare fun b hb=>⟨(hf b hb).2.2.2.1,(hf b hb).2.1,(hf b hb).2.2.2.2.1,(hf b hb).2.2.2.2.2⟩
theorem U8 {H':Hp} {s':Shared} {h':Heap} {σ2:L2.St} {sA:Shared} (I:Inv X pins σ H1 s1) (I2:Inv X pins σ2 H' sA) (hn:H' s1.heap.objs.size=none) (hs:Heap.SameBut s1.heap.objs.size sA.heap h'):Inv X pins σ2 H' { sA with heap:=h' } :=
 I2.turned (it:=s1.heap.objs.size) (t':=sA.toks) (fun b o hb e=>(hs.2 b hb).trans e) hn (Nat.ne_of_gt I.lt) (.inr I.sz) (fun x c e z=>by
  obtain ⟨v,q⟩:=I.cell x c e
  exact absurd q.lt (by rw [z]; exact Nat.lt_irrefl _)) fun p hp z=>by
  have:=Heap.lt_size (I.pin p hp).1
  rw [z] at this
  exact absurd this (Nat.lt_irrefl _)
end
def PTs (X:Cx) (ifs:List Expr) (t:TT):Prop :=
 ∀ (pins:List (Addr×Obj)) (s:Shared) (σ:L2.St) (H:Hp) (Q:Bool→Hp→Prop),Inv X pins σ H s→t σ H Q →
  wpAny (model X.prog X.w) X.A (forIn ifs true fun c r=>if r=true then do let ok ← isTrue c X.env (eval c X.env); pure (ForInStep.yield ok) else pure (ForInStep.yield r)) (TP X pins σ Q) X.xe s
theorem Lg {X:Cx}:PTs X [] (fun _ H Q=>Q true H):=fun pins s σ H Q I h=>wpAny_tests_nil ⟨H,I,h⟩
theorem C9 {X:Cx} {c:Expr} {t:TT} (h:PT X c t):PTs X [c] t:=fun pins s σ H Q I hw=>wpAny_tests_one (h pins s σ H Q I hw)
def Ws (wi:TI) (caps:List (Str×Nat)) (tt:TT) (te:TE):TE:=fun σ H Q=>wi σ H fun J H1=>∀ p,H1 p=none→∃ W:Nat→Nat→List V→Hp→Prop,(∃ m,W 0 m [] (upd H1 p (.lst [])))∧∀ i m ys H2,W i m ys H2→H2 p=some (.lst ys) ∧
 ((J.stop i H2∧Q (.ref p) H2)∨(J.go i H2∧∀ x H3,J.yld i H2 x H3→tt (some x :: Ea σ caps) H3 fun b H4 =>
   if b=true then te (some x :: Ea σ caps) H4 fun v H5=>H5 p=some (.lst ys)∧ys.length < sizeLine∧∃ m',m' < m∧W (i + 1) m' (ys++[v]) (upd H5 p (.lst (ys++[v])))
   else ∃ m',m' < m∧W (i + 1) m' ys H4))
section
variable {X:Cx} {elt iter:Expr} {x:Str} {px pos:Pos} {ifs:List Expr} {sc:Scope} {cl:List (Str×Addr)} {caps:List (Str×Nat)} {wi:TI} {tt:TT} {te:TE}
theorem Pd {pins:List (Addr×Obj)} {σ:L2.St} {H:Hp} {s:Shared} {Q:VK} {use:Option (Value→Sem Unit)} {RQ:Value→Shared→Prop} (hc:X.calm=true) (hi:PI X (.Name x px) iter wi) (hclos:closureFor sc X.env=pure cl) (hcell:∀ y∈sc.names,y.2≠.cell) (hkind:sc.kind=.function)
 (hnames:∀ y∈sc.names,y.2=.local→sc.names.lookup y.1=some .local) (hx:sc.names.lookup x=some .local) (hin:InCells X.env.cells cl)
 (has:∀ y,((relabel sc X.env).names.lookup y=some .cell∨(relabel sc X.env).names.lookup y=some .free)→∃ c,cl.lookup y=some c) (hcap:CapsOk X sc cl caps) (hN:(x :: F6 caps).Nodup)
 (ht:∀ C s1 H1 fp pins,PTs (blk X sc cl C (x :: F6 caps) s1 H1 fp pins) ifs tt) (he:∀ C s1 H1 fp pins,PE (blk X sc cl C (x :: F6 caps) s1 H1 fp pins) elt te)
 (I:Inv X pins σ H s) (h:Ws wi caps tt te σ H Q)
 (fin:∀ (C D:Addr) (H':Hp) (s1 s':Shared) (H1:Hp),C=s1.heap.objs.size→Inv X pins σ H1 s1→Inv X pins σ H' s'→H' C=none→(∃ m,s'.heap.Ns C m)→Q (.ref D) H'→compPost (model X.prog X.w) X.A X.xe use RQ (.ref D) C (.ok .next) s')
 (hs:∀ v,foldedSetIterable iter X.env v=pure v) :
 wpAny (model X.prog X.w) X.A (comprehension (.ListComp elt [⟨.Name x px,iter,ifs,0⟩] sc pos) sc X.env (firstIterPos [⟨.Name x px,iter,ifs,0⟩] pos) (newList []) false (eval iter X.env) use) RQ X.xe s:=by
 refine wpAny_comprehension_free rfl hs hclos hkind hnames (thn (hi pins s σ H _ I h) fun v s1 h1=>thn h1 fun itv s2 h2=>?_)
 obtain ⟨it,fp,tn,J,H2,e,I2,T,st2,f2,hW⟩:=h2
 subst e
 refine wpAny_newObj_type ?_
 have hfresh:H2 s2.heap.objs.size=none:=I2.hok.fresh (Nat.le_refl _)
 have I3:Inv X pins σ (upd H2 s2.heap.objs.size (.lst [])) { s2 with heap:=s2.heap.push { cls:=.type "list",dict:=none,data:=.seq ([]:List Value).toArray } }:=I2.lnew (t':=s2.toks) (its:=[]) .nil (Nat.zero_le _)
 obtain ⟨W,⟨m0,w0⟩,turn⟩:=hW s2.heap.objs.size hfresh
 have fpn:∀ b∈fp,b≠s2.heap.objs.size:=fun b hb z=>by
  obtain ⟨o,e,_⟩:=T.obj 0 _ st2 b hb
  exact absurd (Heap.lt_size e) (by rw [z]; exact Nat.lt_irrefl _)
 have f3:∀ b∈fp,Og X pins (upd H2 s2.heap.objs.size (.lst [])) b:=fun b hb=>⟨by rw [Ac (fpn b hb)]; exact (f2 b hb).1,(f2 b hb).2⟩
 have st3:tn 0 (s2.heap.push { cls:=.type "list",dict:=none,data:=.seq ([]:List Value).toArray }):=T.keep 0 _ _ st2 fun b hb o e=>Heap.get?_push_of_some _ e
 obtain ⟨D,hD⟩:∃ D,D=s2.heap.objs.size:=⟨_,rfl⟩
 obtain ⟨H3,hH3⟩:∃ H3,H3=upd H2 s2.heap.objs.size (.lst []):=⟨_,rfl⟩
 obtain ⟨s3,hs3⟩:∃ s3:Shared,s3={ s2 with heap:=s2.heap.push { cls:=.type "list",dict:=none,data:=.seq ([]:List Value).toArray } }:=⟨_,rfl⟩
 have st3':tn 0 s3.heap:=by rw [hs3]; exact st3
 rw [← hH3] at I3 f3 w0
 rw [← hs3] at I3
 rw [← hD] at turn
 show wpAny _ _ _ _ _ ({ s2 with heap:=s2.heap.push { cls:=.type "list",dict:=none,data:=.seq ([]:List Value).toArray } }:Shared)
 rw [← hs3,← hD]
 refine wpAny_newFunctionEnv hcell (by intro y hy; simp at hy) (fun h1 hn1 hs1=>?_) hkind
 have ok:=Jcx (N:=x :: F6 caps) I3 f3 (fun b hb=>let ⟨o,e,_⟩:=T.obj 0 _ st3' b hb; ⟨o,e⟩) hkind hin has
 have hx':(relabel sc X.env).names.lookup x=some .local:=lookup_relabel_local hx
 have J4:=Jcy (t':=s3.toks + ([]:List (Str×Value)).length) I3 ok hin hcap hx' hn1 hs1
 have st4:tn 0 h1:=T.keep 0 _ _ st3' fun b hb o e=>(hs1.2 b (Nat.ne_of_lt (Heap.lt_size e))).trans (Heap.get?_push_of_some _ e)
 have stat:∀ {H':Hp},(∀ b∈fp,H' b=none)→∀ b∈fp,Og (blk X sc cl s3.heap.objs.size (x :: F6 caps) s3 H3 fp pins) [] H' b:=fun hn b hb=>by
  refine ⟨hn b hb,?_,fun z=>ok.exfs b hb z,.inl hb,fun y c e=>(f3 b hb).2.2.2.2.1 y c (hin.look e),fun p hp=>?_⟩
  ·exact (ok.exf b hb).1
  ·have hp':p∈(X.pn++pins)++[]:=hp
   rw [List.append_nil] at hp'
   exact (f3 b hb).2.2.2.2.2 p hp'
 have loop:∀ s4:Shared,s4={ s3 with heap:=h1,toks:=s3.toks + ([]:List (Str×Value)).length } →
  codeAny (model X.prog X.w) X.A (.compLoop (.ListComp elt [⟨.Name x px,iter,ifs,0⟩] sc pos) 0 (.ref it) (.ref D) (compEnvC sc cl s3.heap.objs.size X.env)) (compPost (model X.prog X.w) X.A X.xe use RQ (.ref D) s3.heap.objs.size) s4:=by
  rintro s4 rfl
  refine Wg (fun k s'=>∃ i v0 ys H',Inv (blk X sc cl s3.heap.objs.size (x :: F6 caps) s3 H3 fp pins) [] (v0 :: Ea σ caps) H' s'∧tn i s'.heap∧(∀ b∈fp,H' b=none)∧W i k ys H') ?_ m0
   ⟨0,none,[],H3,J4,st4,fun b hb=>(f3 b hb).1,w0⟩
  rintro k s5 ⟨i,v0,ys,H5,I5,st5,fr5,w5⟩
  obtain ⟨hD5,stop | ⟨go,step⟩⟩:=turn i k ys H5 w5
  ·obtain ⟨stop,q⟩:=stop
   refine thn (T.done (blk X sc cl s3.heap.objs.size (x :: F6 caps) s3 H3 fp pins) rfl rfl rfl hc i [] s5 _ H5 (fun _ _=>False) I5 (stat fr5) st5 stop) fun r s6 ⟨hr,I6⟩=>?_
   subst hr
   obtain ⟨mm,hnn,_⟩:=I6.loc
   exact fin _ D H5 s3 s6 H3 rfl I3 (Jat I3 f3 I6) I6.free ⟨mm,hnn⟩ q
  ·refine thn (T.item (blk X sc cl s3.heap.objs.size (x :: F6 caps) s3 H3 fp pins) rfl rfl rfl hc i [] s5 _ H5 (fun _ _=>False) I5 (stat fr5) st5 go) fun r s6 ⟨u,hr,h6⟩=>?_
   subst hr
   refine thn h6 fun _ s7 ⟨y,H7,I7,r7,y7,st7,fr7⟩=>?_
   have I7':=I7.pinned (stat fr7) (T.obj _ _ st7)
   refine thn (Ek (X:=blk X sc cl s3.heap.objs.size (x :: F6 caps) s3 H3 fp pins) (i:=0) hN rfl (.inl hx') (.inr hx') _ s7 (v0 :: Ea σ caps) H7 y u (fun σ' H'=>σ'=some y :: Ea σ caps∧H'=H7) I7' r7 ⟨rfl,rfl⟩) fun _ s8 ⟨σ8,H8,I8,e8,e8'⟩=>?_
   subst e8
   subst e8'
   have back:∀ {σ9:L2.St} {H9:Hp} {s9:Shared},Inv (blk X sc cl s3.heap.objs.size (x :: F6 caps) s3 H3 fp pins) ([]++Mj fp s7.heap) σ9 H9 s9→tn (i + 1) s9.heap∧∀ b∈fp,H9 b=none:=fun {σ9 H9 s9} I9=>by
    refine ⟨T.keep _ _ _ st7 fun b hb o e=>(I9.pin (b,o) (List.mem_append_right _ (List.mem_append_right _ (Gw hb e)))).1,fun b hb=>?_⟩
    obtain ⟨o,e,d⟩:=T.obj _ _ st7 b hb
    exact (I9.pin (b,o) (List.mem_append_right _ (List.mem_append_right _ (Gw hb e)))).2.1
   refine thn (ht _ _ _ _ _ _ s8 _ _ _ I8 (step y _ y7)) fun ok s9 ⟨H9,I9,q9⟩=>?_
   cases ok with
   | false =>
     simp only [Bool.false_eq_true,if_false] at q9 ⊢
     obtain ⟨m',hm,w9⟩:=q9
     exact ⟨m',hm,i + 1,some y,ys,H9,I9.unpinned,(back I9).1,(back I9).2,w9⟩
   | true =>
     simp only [if_true] at q9 ⊢
     refine thn (he _ _ _ _ _ _ s9 _ _ _ I9 q9) fun xv s10 ⟨v,H10,I10,r10,hD10,hlt,m',hm,w10⟩=>?_
     refine thn (Di (X:=blk X sc cl s3.heap.objs.size (x :: F6 caps) s3 H3 fp pins) _ s10 _ H10 (.ref D) [v] (.ref D) [xv] (fun _ H'=>H'=upd H10 D (.lst (ys++[v]))) I10 rfl (.cons r10 .nil) ⟨D,ys,v,rfl,rfl,hD10,hlt,rfl⟩) fun _ s11 ⟨_,H11,I11,_,e11⟩=>?_
     subst e11
     exact ⟨m',hm,i + 1,some y,ys++[v],_,I11.unpinned,(back I11).1,(back I11).2,w10⟩
 exact codeAny_compStart_list (loop _ rfl) (T.self _ 0 _ _ _ st4 (loop _ rfl))
theorem El (hc:X.calm=true) (hi:PI X (.Name x px) iter wi) (hclos:closureFor sc X.env=pure cl) (hcell:∀ y∈sc.names,y.2≠.cell) (hkind:sc.kind=.function)
 (hnames:∀ y∈sc.names,y.2=.local→sc.names.lookup y.1=some .local) (hx:sc.names.lookup x=some .local) (hin:InCells X.env.cells cl)
 (has:∀ y,((relabel sc X.env).names.lookup y=some .cell∨(relabel sc X.env).names.lookup y=some .free)→∃ c,cl.lookup y=some c) (hcap:CapsOk X sc cl caps) (hN:(x :: F6 caps).Nodup)
 (ht:∀ C s1 H1 fp pins,PTs (blk X sc cl C (x :: F6 caps) s1 H1 fp pins) ifs tt) (he:∀ C s1 H1 fp pins,PE (blk X sc cl C (x :: F6 caps) s1 H1 fp pins) elt te)
 (hs:∀ v,foldedSetIterable iter X.env v=pure v:=by intro _; rfl):PE X (.ListComp elt [⟨.Name x px,iter,ifs,0⟩] sc pos) (Ws wi caps tt te):=by
 intro pins s σ H Q I h
 rw [eval_ListComp]
 refine Pd (use:=none) hc hi hclos hcell hkind hnames hx hin has hcap hN ht he I h (fun C D H' s1 s' H1 hC I1 I' hn ⟨m,hm⟩ q=>?_) hs
 subst hC
 exact ⟨m,hm,fun h' hs'=>⟨.ref D,H',U8 (s':=s') I1 I' hn hs',rfl,q⟩⟩
theorem Gp {i:Nat} {y:Str} {py spos:Pos} (hN':X.N.Nodup) (hi':X.N[i]?=some y) (hy:X.env.scope.names.lookup y=some .local)
 (hsw:swapsWith (.ListComp elt [⟨.Name x px,iter,ifs,0⟩] sc pos) (some (.Name y py)) spos.line X.env=pure true)
 (hc:X.calm=true) (hi:PI X (.Name x px) iter wi) (hclos:closureFor sc X.env=pure cl) (hcell:∀ y∈sc.names,y.2≠.cell) (hkind:sc.kind=.function)
 (hnames:∀ y∈sc.names,y.2=.local→sc.names.lookup y.1=some .local) (hx:sc.names.lookup x=some .local) (hin:InCells X.env.cells cl)
 (has:∀ y,((relabel sc X.env).names.lookup y=some .cell∨(relabel sc X.env).names.lookup y=some .free)→∃ c,cl.lookup y=some c) (hcap:CapsOk X sc cl caps) (hN:(x :: F6 caps).Nodup)
 (ht:∀ C s1 H1 fp pins,PTs (blk X sc cl C (x :: F6 caps) s1 H1 fp pins) ifs tt) (he:∀ C s1 H1 fp pins,PE (blk X sc cl C (x :: F6 caps) s1 H1 fp pins) elt te)
 (hs:∀ v,foldedSetIterable iter X.env v=pure v:=by intro _; rfl) :
 PS X (.Assign [.Name y py] (.ListComp elt [⟨.Name x px,iter,ifs,0⟩] sc pos) spos) (fun D σ H=>Ws wi caps tt te σ H fun v H'=>D.nx (σ.set i (some v)) H'):=by
 intro pins s σ H D I h
 rw [exec_Assign_Name_used _ _ _ _ hsw]
 refine wpAny_bind (wpAny_standAt (wpAny_bind ?_))
 show wpAny _ X.A (do let _ ← comprehension (.ListComp elt [⟨.Name x px,iter,ifs,0⟩] sc pos) sc X.env _ (newList []) false (eval iter X.env) (some (assign (.Name y py) X.env))) _ _ s
 refine wpAny_bind (wpAny_mono (Pd (use:=some (assign (.Name y py) X.env)) (RQ:=fun _ s'=>SP X pins D .next s') hc hi hclos hcell hkind hnames hx hin has hcap hN ht he I h (fun C Dd H' s1 s' H1 hC I1 I' hn ⟨m,hm⟩ q=>?_) hs) (fun _ s' hq=>wpAny_pure (wpAny_pure hq)) fun _ _ e=>e)
 subst hC
 show wpAny _ _ (assign (.Name y py) X.env (.ref Dd)) _ _ _
 refine wpAny_assign_Name (Ol I' hN' hi' (.inl hy) (show RelV (.ref Dd) (.ref Dd) from rfl) (fun s2 I2 ⟨a,hs2,ha⟩=>?_) (.inr hy))
 have hCa:s1.heap.objs.size≠a:=by
  rcases ha with z | z
  ·rw [z]; exact Nat.ne_of_gt I1.lt
  ·intro z2
   obtain ⟨v,qc⟩:=I1.cell y a z
   exact absurd qc.lt (by rw [← z2]; exact Nat.lt_irrefl _)
 exact ⟨m,hm.sameBut hs2 hCa,fun h' hs'=>⟨_,H',U8 (s':=s') I1 I2 hn hs',q⟩⟩
end
def RawD (h:Heap) (d:Addr) (es:Array DictEntry) (ep:Nat):Prop:=∃ o,h.get? d=some o∧o.ExactDict∧o.data=.dict es ep
theorem RawD.at {h h':Heap} {d:Addr} {es:Array DictEntry} {ep:Nat} (x:RawD h d es ep) (k:∀ o,h.get? d=some o→h'.get? d=some o):RawD h' d es ep:=let ⟨o,e,r⟩:=x; ⟨o,k o e,r⟩
section
variable {prog:Program} {w:World} {A:Around} {E:Value→Shared→Prop} {s:Shared} {d it:Addr} {es:Array DictEntry} {ep i:Nat}
theorem Qz {Q:Value→Shared→Prop} (nos:(d == sysModules)=false) (hm:RawD s.heap d es ep)
 (hQ:Q (.ref s.heap.objs.size) { s with heap:=s.heap.push { cls:=.type "dict_keyiterator",data:=.fields #[.ref d,.int 0 0,.int es.size 0,.int ep 0] } }):wpAny (model prog w) A (pyIter (.ref d)) Q E s:=by
 obtain ⟨ob,g1,g2,g3⟩:=id hm
 have tD:s.TypeIs (.ref d) "dict":=⟨ob,g1,g2.1⟩
 refine wpAny_pyIter_slot tD F.slot_dict_iter (wpAny_call_entry F.slot_dict_iter tD F.entry_dict_iter ?_ (F.args_dict_iter_1 _))
 unfold Builtin.«dict.__iter__»
 refine wpAny_bind ?_
 unfold Builtin.Dict.dictSlotNone
 refine wpAny_bind (wpAny_notOrdered_dict tD ?_)
 show wpAny _ _ (pure (Value.ref d)) _ _ s
 refine wpAny_pure ?_
 show wpAny _ _ (Builtin.Dict.showsAll d >>= _) _ _ s
 unfold Builtin.Dict.showsAll
 rw [if_neg (by rw [nos]; exact Bool.false_ne_true)]
 refine wpAny_bind (wpAny_pure ?_)
 refine wpAny_bind (wpAny_dictEntries g1 g3 (wpAny_bind (wpAny_dictEpoch g1 g3 ?_)))
 refine wpAny_bind (wpAny_newObj_type (wpAny_pure ⟨_,rfl,"dict_keyiterator",_,⟨_,Heap.get?_push_size _ rfl,rfl⟩,F.slot_dict_keyiterator_next.lookup,by simpa [rawInt] using hQ⟩))
theorem Qy {e:DictEntry} {Q:Option Value→Shared→Prop} (hit:s.heap.IsKeyIter it d i es.size ep) (hm:RawD s.heap d es ep) (hx:es[i]?=some e)
 (hQ:∀ h',h'.IsKeyIter it d (i + 1) es.size ep→Heap.SameBut it s.heap h'→Q (some e.key) { s with heap:=h' }):wpAny (model prog w) A (pyNext (.ref it)) Q E s:=by
 obtain ⟨oi,i1,i2,i3⟩:=id hit
 obtain ⟨ob,g1,g2,g3⟩:=id hm
 have tI:=hit.typeIs
 unfold pyNext
 refine wpAny_bind (wpAny_attempt (wpAny_callSpecial?_slot (name:=Str.ofString "__next__") tI F.slot_dict_keyiterator_next (wpAny_call_entry F.slot_dict_keyiterator_next tI F.entry_dict_keyiterator_next ?_ (F.args_dict_keyiterator_next_1 _))))
 refine wpAny_bind (wpAny_pure (wpAny_bind (wpAny_bind ?_)))
 first | refine wpAny_bind (wpAny_typeNameOfWhole_keyiter tI (wpAny_pure ?_)) | refine wpAny_bind (wpAny_typeNameOf_keyiter tI (wpAny_pure ?_))
 refine wpAny_bind (wpAny_fieldsOf i1 i3 ?_)
 have notOwn:Builtin.Dict_items.ownsTuple "dict_keyiterator"=false:=by decide
 simp only [notOwn,Bool.false_eq_true,if_false]
 show wpAny _ _ (if (Value.ref d == Value.none)=true then _ else _) _ _ s
 rw [if_neg (show ¬ ((Value.ref d == Value.none)=true) from Bool.false_ne_true)]
 refine wpAny_bind (wpAny_pure (wpAny_bind (wpAny_dictEntries g1 g3 ?_)))
 rw [if_neg (by simp)]
 refine wpAny_bind (wpAny_pure (wpAny_bind (wpAny_dictEpoch g1 g3 ?_)))
 rw [if_neg (by simp)]
 refine wpAny_pure ?_
 have lt:i < es.size:=(Array.getElem?_eq_some_iff.mp hx).1
 have ee:es[i]=e:=(Array.getElem?_eq_some_iff.mp hx).2
 simp only [show ¬ ((i:Int) < 0) from by omega,if_false,Int.toNat_natCast,Array.getElem?_eq_getElem lt]
 refine wpAny_bind ?_
 first | refine wpAny_bind (wpAny_typeNameOfWhole_keyiter tI (wpAny_pure ?_)) | refine wpAny_bind (wpAny_typeNameOf_keyiter tI (wpAny_pure ?_))
 refine wpAny_bind (wpAny_isOneOf_keyiter tI ?_)
 show wpAny _ _ (setField (.ref it) 1 (rawInt ((i:Int) + 1)) >>= _) _ _ s
 refine wpAny_bind (wpAny_setField i1 i3 (by simp) ?_)
 have hit':(s.heap.update it (Obj.mapFields (·.setIfInBounds 1 (rawInt ((i:Int) + 1))))).IsKeyIter it d (i + 1) es.size ep :=
  ⟨_,Heap.get?_update_self _ i1 (Obj.isFreed_of_fields (Obj.data_mapFields i3 _)),(Obj.cls_mapFields ..).trans i2,by rw [Obj.data_mapFields i3]; simp [rawInt]⟩
 refine wpAny_bind (wpAny_holding ?_)
 refine wpAny_bind (wpAny_isOneOf_keyiter (s:={ s with heap:=s.heap.update it (Obj.mapFields (·.setIfInBounds 1 (rawInt ((i:Int) + 1)))) }) hit'.typeIs ?_)
 show wpAny _ _ (pure es[i].key) _ _ _
 rw [ee]
 exact wpAny_pure (wpAny_pure ⟨_,rfl,wpAny_pure (hQ _ hit' (Heap.SameBut.update ..))⟩)
theorem Ui {Q:Option Value→Shared→Prop} (hh:A.handled=none) (hit:s.heap.IsKeyIter it d i es.size ep) (hm:RawD s.heap d es ep) (hx:es.size≤i)
 (hQ:∀ h',Heap.ExtBut it s.heap h'→Q none { s with heap:=h' }):wpAny (model prog w) A (pyNext (.ref it)) Q E s:=by
 obtain ⟨oi,i1,i2,i3⟩:=id hit
 obtain ⟨ob,g1,g2,g3⟩:=id hm
 have tI:=hit.typeIs
 unfold pyNext
 refine wpAny_bind (wpAny_attempt (wpAny_callSpecial?_slot (name:=Str.ofString "__next__") tI F.slot_dict_keyiterator_next (wpAny_call_entry F.slot_dict_keyiterator_next tI F.entry_dict_keyiterator_next ?_ (F.args_dict_keyiterator_next_1 _))))
 refine wpAny_bind (wpAny_pure (wpAny_bind (wpAny_bind ?_)))
 first | refine wpAny_bind (wpAny_typeNameOfWhole_keyiter tI (wpAny_pure ?_)) | refine wpAny_bind (wpAny_typeNameOf_keyiter tI (wpAny_pure ?_))
 refine wpAny_bind (wpAny_fieldsOf i1 i3 ?_)
 have notOwn:Builtin.Dict_items.ownsTuple "dict_keyiterator"=false:=by decide
 simp only [notOwn,Bool.false_eq_true,if_false]
 show wpAny _ _ (if (Value.ref d == Value.none)=true then _ else _) _ _ s
 rw [if_neg (show ¬ ((Value.ref d == Value.none)=true) from Bool.false_ne_true)]
 refine wpAny_bind (wpAny_pure (wpAny_bind (wpAny_dictEntries g1 g3 ?_)))
 rw [if_neg (by simp)]
 refine wpAny_bind (wpAny_pure (wpAny_bind (wpAny_dictEpoch g1 g3 ?_)))
 rw [if_neg (by simp)]
 refine wpAny_pure ?_
 simp only [show ¬ ((i:Int) < 0) from by omega,if_false,Int.toNat_natCast,Array.getElem?_eq_none hx]
 refine wpAny_bind ?_
 first | refine wpAny_bind (wpAny_typeNameOfWhole_keyiter tI (wpAny_pure ?_)) | refine wpAny_bind (wpAny_typeNameOf_keyiter tI (wpAny_pure ?_))
 show wpAny _ _ (setField (.ref it) 0 .none >>= _) _ _ s
 refine wpAny_bind (wpAny_setField i1 i3 (by simp) ?_)
 show wpAny _ _ (newExc (.type "StopIteration") [] >>= _) _ _ _
 refine wpAny_bind ?_
 simp only [newExc,newTuple]
 refine wpAny_bind (wpAny_newObj_type ?_ (by size_fits))
 refine wpAny_bind (m:=firstArgMember _ _) (wpAny_of_eq (a:=Value.none) (by first | rfl | (simp only [firstArgMember]; rfl)) ?_)
 refine wpAny_newObj_type ?_ (by size_fits)
 simp only [raiseNew]
 refine wpAny_bind (wpAny_handled ?_)
 rw [show A.in1.handled=none from hh]
 refine wpAny_bind (wpAny_pure (wpAny_throw ?_))
 refine wpAny_bind (wpAny_isInstance (T:="StopIteration") (b:=true) ⟨_,Heap.get?_push_size _ rfl,rfl⟩ isSubtype_stop ?_)
 exact wpAny_pure (hQ _ (((Heap.SameBut.update ..).extBut.push _).push _))
end
def Kys (H:Hp) (kvs:List (List Key×V)) (as:List Addr):Prop:=Paired (fun (p:List Key×V) (a:Addr)=>H a=some (.tup (p.1.map kV))) kvs as
section
variable {X:Cx} {pins:List (Addr×Obj)} {σ:L2.St} {H:Hp} {s:Shared} {d:Addr} {kvs:List (List Key×V)}
theorem Ut:∀ {kvs:List (List Key×V)} {xs:List (List Key×Addr×Value)},KT H kvs xs→Kys H kvs (xs.map (·.2.1))
 | _,_,.nil=>.nil
 | _,_,.cons r t=>.cons r.2.1 (Ut t)
theorem Qe (I:Inv X pins σ H s) (e:Rd H d (.dT kvs)):kvs.length≤sizeLine∧(d == sysModules)=false∧∃ (es:Array DictEntry) (ep:Nat) (as:List Addr),RawD s.heap d es ep∧es.size=kvs.length∧Kys H kvs as∧∀ j (h:j < es.size),∃ a,as[j]?=some a∧es[j].key=.ref a:=by
 obtain ⟨z,lo,xs,rel,o,es,ep,g1,g2,g3,g4,g5⟩:=(show ObjOk X.prog X.w H s.heap d (.dT kvs) from e.ok I.hok)
 have hl:es.size=xs.length:=by
  have:=congrArg List.length g4
  simpa using this
 refine ⟨z,lo,es,ep,xs.map (·.2.1),⟨o,g1,g2,g3⟩,by rw [hl]; exact (Paired.length rel).symm,Ut rel,fun j h=>?_⟩
 have hj:j < xs.length:=by omega
 have e1:es.toList[j]?=some es[j]:=by simp [h]
 rw [g4,List.getElem?_map] at e1
 have e2:xs[j]?=some xs[j]:=by simp [hj]
 rw [e2] at e1
 refine ⟨xs[j].2.1,by rw [List.getElem?_map,e2]; rfl,?_⟩
 have e3:entryOfKey (tupleKind (B3 X.prog X.w)) xs[j]=es[j]:=Option.some.inj e1
 rw [← e3]; rfl
end
section
variable {X:Cx} {pins:List (Addr×Obj)} {σ:L2.St} {H:Hp} {s:Shared} {d:Addr}
theorem Ni {u:HO} (I:Inv X pins σ H s) (hd:∃ o,H d=some o) (nt:∀ xs,H d≠some (.tup xs)) (no:∀ y,H d≠some (.own y)) (nf:∀ o v,X.H₀ d≠some (.frz o v)) (ntb:∀ ps,H d≠some (.tbl ps))
 (new:ObjOk X.prog X.w (upd H d u) s.heap d u):Inv X pins σ (upd H d u) s:=by
 obtain ⟨o,hd⟩:=hd
 have fr:∀ b,H b=none→(upd H d u) b=none:=fun b n=>by
  rw [Ac fun z=>by rw [z,hd] at n; cases n]; exact n
 refine ⟨I.ok,I.os,I.bare,⟨I.base.keep,I.base.slot,fun b ob e n hx=>fr b (I.base.free b ob e n hx),I.base.there,fun b xs e=>?_,fun b ob v e=>?_,fun b ps e=>?_⟩,I.loc,I.cell,fr _ I.free,fun y c e=>fr _ (I.freeC y c e),fun p hp=>?_,fun b v e=>?_,I.len⟩
 ·have:=I.base.tups b xs e
  rw [Ac fun z=>nt xs (by rw [← z]; exact this)]; exact this
 ·have:=I.base.frzs b ob v e
  rw [Ac fun z=>nf ob v (by rw [← z]; exact e)]; exact this
 ·obtain ⟨more,q⟩:=I.base.tbls b ps e
  exact ⟨more,by rw [Ac fun z=>ntb _ (by rw [← z]; exact q)]; exact q⟩
 ·obtain ⟨a1,a2,a3⟩:=I.pin p hp
  exact ⟨a1,fr _ a2,a3⟩
 ·by_cases hb:b=d
  ·subst hb
   rw [Ab] at e
   cases e
   exact new
  ·rw [Ac hb] at e
   refine (I.hok b v e).stay (fun c w' _ q=>q) (fun c q=>?_) fun c xs q=>?_
   ·rw [Ac fun z=>no _ (by rw [← z]; exact q)]; exact q
   ·rw [Ac fun z=>nt _ (by rw [← z]; exact q)]; exact q
theorem Th {kvs:List (List Key×V)} (I:Inv X pins σ H s) (e:H d=some (.dT kvs)):∃ o,s.heap.get? d=some o∧Inv X pins σ (upd H d (.frz o (.dT kvs))) s:=by
 have ok:=I.hok d _ e
 obtain ⟨_,_,xs,_,o,es,ep,g,_⟩:=id ok
 refine ⟨o,g,Ni I ⟨_,e⟩ (fun xs z=>by rw [e] at z; cases z) (fun y z=>by rw [e] at z; cases z) (fun ob v z=>by have:=I.base.frzs d ob v z; rw [e] at this; cases this) (fun ps z=>by rw [e] at z; cases z) ⟨g,?_⟩⟩
 refine ok.stay (fun c w' _ q=>q) (fun c q=>?_) fun c xs q=>?_
 ·rw [Ac fun z=>by rw [z,e] at q; cases q]; exact q
 ·rw [Ac fun z=>by rw [z,e] at q; cases q]; exact q
theorem Rq {o:Obj} {u:HO} (I:Inv X pins σ H s) (e:H d=some (.frz o u)) (nf:∀ o v,X.H₀ d≠some (.frz o v)):Inv X pins σ (upd H d u) s:=by
 obtain ⟨g,ok⟩:=(show ObjOk X.prog X.w H s.heap d (.frz o u) from I.hok d _ e)
 refine Ni I ⟨_,e⟩ (fun xs z=>by rw [e] at z; cases z) (fun y z=>by rw [e] at z; cases z) nf (fun ps z=>by rw [e] at z; cases z) ?_
 refine ok.stay (fun c w' _ q=>q) (fun c q=>?_) fun c xs q=>?_
 ·rw [Ac fun z=>by rw [z,e] at q; cases q]; exact q
 ·rw [Ac fun z=>by rw [z,e] at q; cases q]; exact q
def Jd4 (H₀ H H':Hp):Prop:=∃ d o u,H d=some (.frz o u)∧(∀ o v,H₀ d≠some (.frz o v))∧H'=upd H d u
theorem PE.thaw {e:Expr} {t:TE} (h:PE X e t):PE X e (fun σ H Q=>t σ H fun v H1=>∃ H2,Jd4 X.H₀ H1 H2∧Q v H2):=fun pins s σ H Q I hw =>
 thn (h pins s σ H _ I hw) fun u s' ⟨v,H1,I1,r,H2,⟨d,o,w',e1,e2,e3⟩,q⟩=>⟨v,H2,by rw [e3]; exact Rq I1 e1 e2,r,q⟩
theorem PSs.thaw {sts:List Stmt} {t:TS} (h:PSs X sts t):PSs X sts (fun D σ H=>∃ H2,Jd4 X.H₀ H H2∧t D σ H2):=fun pins s σ H D I ⟨H2,⟨d,o,w',e1,e2,e3⟩,q⟩=>by
 subst e3
 exact h pins s σ _ D (Rq I e1 e2) q
end
def ItD (d:Addr) (kvs:List (List Key×V)) (o:Obj):It :=
 ⟨fun i H=>H d=some (.frz o (.dT kvs))∧i < kvs.length,fun i H x H'=>H'=H∧∃ a k v,x=.ref a∧kvs[i]?=some (k,v)∧H a=some (.tup (k.map kV)),fun i H=>H d=some (.frz o (.dT kvs))∧kvs.length≤i⟩
theorem Ve {P:Program} {w:World} {K:W.Frag} {tg:Expr} (d it:Addr) (kvs:List (List Key×V)) (o:Obj) (es:Array DictEntry) (ep:Nat) (ho:o.ExactDict) (hd:o.data=.dict es ep) (hz:es.size=kvs.length):Turn P w K tg (ItD d kvs o) [it] it (fun i h=>h.IsKeyIter it d i es.size ep) where
 mem:=by simp
 obj:=fun i h st b hb=>by
  have e:b=it:=by simpa using hb
  subst e
  obtain ⟨oi,e,c,q⟩:=st
  exact ⟨oi,e,fun v z=>by rw [q] at z; cases z⟩
 keep:=fun i h h' ⟨oi,e,r⟩ k=>⟨oi,k it (by simp) oi e,r⟩
 item:=by
  intro X hP hw hK hc i pins s σ H E I hf st ⟨hg,hi⟩
  subst hP hw hK
  obtain ⟨f0,f1,f2,f3,f4,f5⟩:=hf it (by simp)
  have g:s.heap.get? d=some o:=(show ObjOk X.prog X.w H s.heap d (.frz o (.dT kvs)) from I.hok d _ hg).1
  obtain ⟨_,_,es',ep',as,⟨o',g',q1,q2⟩,z',ks,at_⟩:=Qe I (.inr ⟨o,hg⟩)
  rw [g] at g'; cases g'
  rw [hd] at q2
  injection q2 with q2 q3
  subst q2; subst q3
  have lt:i < es.size:=by omega
  obtain ⟨a,ha,hk⟩:=at_ i lt
  have hx:kvs[i]?=some kvs[i]:=by simp [hi]
  refine Qy st ⟨o,g,ho,hd⟩ (e:=es[i]) (by simp [lt]) fun h' st' sb=>?_
  have I1:Inv X pins σ H { s with heap:=h' }:=I.turned (t':=s.toks) (fun b ob hb e=>(sb.2 b hb).trans e) f0 f1 f3 f4 f5
  obtain ⟨oi,e,c,q⟩:=id st'
  refine ⟨_,rfl,Uz (s:={ s with heap:=h' }) e c q (by decide) ⟨.ref a,H,I1,hk,⟨rfl,a,kvs[i].1,kvs[i].2,rfl,hx,A1 ks i kvs[i] a hx ha⟩,st',fun b hb=>(hf b hb).1⟩⟩
 done:=by
  intro X hP hw hK hc i pins s σ H E I hf st ⟨hg,hi⟩
  subst hP hw hK
  obtain ⟨f0,f1,f2,f3,f4,f5⟩:=hf it (by simp)
  have g:s.heap.get? d=some o:=(show ObjOk X.prog X.w H s.heap d (.frz o (.dT kvs)) from I.hok d _ hg).1
  exact Ui (I.ok.hd hc) st ⟨o,g,ho,hd⟩ (by omega) fun h' eb=>⟨rfl,I.turned (t':=s.toks) (fun b ob hb e=>eb b ob hb e) f0 f1 f3 f4 f5⟩
 self:=fun _ _ _ _ _ st h=>wpAny_pyIter_keyiter st h
section
variable {X:Cx} {tg:Expr}
def Jd1 (td:TE):TI:=fun σ H R=>td σ H fun x H1=>∃ d kvs,x=.ref d∧H1 d=some (.dT kvs)∧∀ o,R (ItD d kvs o) (upd H1 d (.frz o (.dT kvs)))
theorem Ff {l:Expr} {td:TE} (hl:PE X l td):PI X tg l (Jd1 td):=by
 intro pins s σ H R I h
 refine thn (hl pins s σ H _ I h) fun v s1 ⟨x,H1,I1,r1,d,kvs,ex,hd,hR⟩=>?_
 subst ex
 cases r1
 obtain ⟨o,g,I2⟩:=Th I1 hd
 obtain ⟨_,lo,es,ep,as,⟨o',g',q1,q2⟩,z,ks,at_⟩:=Qe I1 (.inl hd)
 rw [g] at g'; cases g'
 refine Qz lo ⟨o,g,q1,q2⟩ ?_
 have fresh:=I2.hok.fresh (Nat.le_refl _)
 have I3:Inv X pins σ (upd H1 d (.frz o (.dT kvs))) { s1 with heap:=s1.heap.push { cls:=.type "dict_keyiterator",data:=.fields #[.ref d,.int 0 0,.int es.size 0,.int ep 0] } }:=I2.kept (t':=s1.toks) fun b ob e=>Heap.get?_push_of_some _ e
 refine ⟨s1.heap.objs.size,[s1.heap.objs.size],_,ItD d kvs o,_,rfl,I3,Ve d _ kvs o es ep q1 q2 z,⟨_,Heap.get?_push_size _ rfl,rfl,rfl⟩,fun b hb=>?_,hR o⟩
 have e:b=s1.heap.objs.size:=by simpa using hb
 subst e
 exact I2.fpOk (Nat.le_refl _) fresh
end
end FX
namespace FhS
open PySem PyProof.Rows PySem.W
def Asks (cmp:Nat→Nat→(Bool→Shared→Prop)→Shared→Prop) (lt:Nat→Nat→Bool) (n:Nat) (s:Shared):Prop :=
 ∀ i j,i < n→j < n→∀ C:Bool→Shared→Prop,C (lt i j) s→cmp i j C s
structure Ordr (lt:Nat→Nat→Bool) (n:Nat):Prop where
 tr:∀ i j k,i < n→j < n→k < n→lt i j=true→lt j k=true→lt i k=true
 tot:∀ i j,i < n→j < n→i≠j→lt i j=false→lt j i=true
structure Pm (p:Array Nat) (n:Nat):Prop where
 pm:p.toList.Perm (List.range n)
theorem Pm.size {p:Array Nat} {n:Nat} (h:Pm p n):p.size=n:=by
 have:=h.pm.length_eq
 simpa using this
theorem Pm.lt {p:Array Nat} {n i:Nat} (h:Pm p n) (hi:i < n):p.getD i 0 < n:=by
 have hs:=h.size
 have hi':i < p.size:=by lia
 have e:p.getD i 0=p[i]:=by simp [Array.getD,hi']
 rw [e]
 have:p[i]∈List.range n:=h.pm.mem_iff.mp (by simp)
 exact List.mem_range.mp this
theorem Pm.inj {p:Array Nat} {n i j:Nat} (h:Pm p n) (hi:i < n) (hj:j < n) (e:p.getD i 0=p.getD j 0):i=j:=by
 have hs:=h.size
 have hi':i < p.size:=by lia
 have hj':j < p.size:=by lia
 have nd:p.toList.Nodup:=h.pm.nodup_iff.mpr List.nodup_range
 have e1:p.getD i 0=p[i]:=by simp [Array.getD,hi']
 have e2:p.getD j 0=p[j]:=by simp [Array.getD,hj']
 rw [e1,e2] at e
 have:=(List.getElem_inj (xs:=p.toList) (i:=i) (j:=j) (h₀:=by simpa using hi') (h₁:=by simpa using hj') nd).mp (by simpa using e)
 exact this
theorem Pm.of_perm {p q:Array Nat} {n:Nat} (h:Pm p n) (hq:q.Perm p):Pm q n:=⟨(Array.perm_iff_toList_perm.mp hq).trans h.pm⟩
theorem Xn (n:Nat):Pm (List.toArray (List.range n)) n:=⟨by simp⟩
def Up (lt:Nat→Nat→Bool) (p:Array Nat) (m:Nat):Prop:=∀ i j,i < j→j < m→lt (p.getD i 0) (p.getD j 0)=true
def Dn (lt:Nat→Nat→Bool) (p:Array Nat) (m:Nat):Prop:=∀ i j,i < j→j < m→lt (p.getD j 0) (p.getD i 0)=true
section
variable {lt:Nat→Nat→Bool} {n:Nat} (O:Ordr lt n)
include O
theorem other {p:Array Nat} (h:Pm p n) {i j:Nat} (hi:i < n) (hj:j < n) (hij:i≠j) (e:lt (p.getD i 0) (p.getD j 0)=false):lt (p.getD j 0) (p.getD i 0)=true :=
 O.tot _ _ (h.lt hi) (h.lt hj) (fun z=>hij (h.inj hi hj z)) e
theorem Up.snoc {p:Array Nat} (h:Pm p n) {a:Nat} (h1:1≤a) (ha:a < n) (u:Up lt p a) (e:lt (p.getD (a - 1) 0) (p.getD a 0)=true):Up lt p (a + 1):=by
 intro i j hij hj
 by_cases hja:j=a
 ·subst hja
  by_cases hi:i=j - 1
  ·rw [hi]; exact e
  ·exact O.tr _ _ _ (h.lt (by lia)) (h.lt (by lia)) (h.lt ha) (u i (j - 1) (by lia) (by lia)) e
 ·exact u i j hij (by lia)
theorem Dn.snoc {p:Array Nat} (h:Pm p n) {a:Nat} (h1:1≤a) (ha:a < n) (u:Dn lt p a) (e:lt (p.getD a 0) (p.getD (a - 1) 0)=true):Dn lt p (a + 1):=by
 intro i j hij hj
 by_cases hja:j=a
 ·subst hja
  by_cases hi:i=j - 1
  ·rw [hi]; exact e
  ·exact O.tr _ _ _ (h.lt ha) (h.lt (by lia)) (h.lt (by lia)) e (u i (j - 1) (by lia) (by lia))
 ·exact u i j hij (by lia)
theorem Tq {cmp:Nat→Nat→(Bool→Shared→Prop)→Shared→Prop} {s:Shared} (K:Asks cmp lt n s) {p:Array Nat} (h:Pm p n):∀ (f a:Nat) (G:Nat→Shared→Prop),1≤a→a + f≤n→Up lt p a →
 (∀ m,a≤m→m≤a + f→Up lt p m→(m=a + f∨lt (p.getD m 0) (p.getD (m - 1) 0)=true)→G m s)→(kas_asc p f a).kasWp cmp G s
 | 0,a,G,_,_,u,k=>k a (Nat.le_refl _) (Nat.le_refl _) u (.inl rfl)
 | f + 1,a,G,h1,hn,u,k=>by
   unfold kas_asc
   refine K _ _ (h.lt (by lia)) (h.lt (by lia)) _ ?_
   cases e:lt (p.getD a 0) (p.getD (a - 1) 0) with
   | true =>
     simp only [if_true]
     exact k a (Nat.le_refl _) (by lia) u (.inr e)
   | false =>
     simp only [Bool.false_eq_true,if_false]
     exact Tq K h f (a + 1) G (by lia) (by lia) (Up.snoc O h h1 (by lia) u (other O h (by lia) (by lia) (by lia) e)) fun m a1 a2 a3 a4=>k m (by lia) (by lia) a3 (a4.imp (fun z=>by lia) fun z=>z)
theorem U4 {cmp:Nat→Nat→(Bool→Shared→Prop)→Shared→Prop} {s:Shared} (K:Asks cmp lt n s) {p:Array Nat} (h:Pm p n):∀ (f a:Nat) (G:Array Nat×Nat×Nat→Shared→Prop),1≤a→a + f≤n→Dn lt p a →
 (∀ m,a≤m→m≤a + f→Dn lt p m→G (p,m,0) s)→(kas_desc f p a 0).kasWp cmp G s
 | 0,a,G,_,_,u,k=>k a (Nat.le_refl _) (Nat.le_refl _) u
 | f + 1,a,G,h1,hn,u,k=>by
   unfold kas_desc
   refine K _ _ (h.lt (by lia)) (h.lt (by lia)) _ ?_
   cases e:lt (p.getD a 0) (p.getD (a - 1) 0) with
   | true =>
     simp only [if_true,Nat.lt_irrefl,gt_iff_lt,if_false]
     exact U4 K h f (a + 1) G (by lia) (by lia) (Dn.snoc O h h1 (by lia) u e) fun m a1 a2 a3=>k m (by lia) (by lia) a3
   | false =>
     simp only [Bool.false_eq_true,if_false]
     refine K _ _ (h.lt (by lia)) (h.lt (by lia)) _ ?_
     simp only [other O h (by lia) (by lia) (by lia) e,if_true]
     exact k a (Nat.le_refl _) (by lia) u
omit O in
theorem Lm {p q:Array Nat} {i j:Nat} (e:p[i]?=q[j]?):p.getD i 0=q.getD j 0:=by
 rw [Array.getD_eq_getD_getElem?,Array.getD_eq_getD_getElem?,e]
omit O in
theorem Jbs {p:Array Nat} {m:Nat} (hm:m≤p.size) (d:Dn lt p m):Up lt (kas_rev p 0 m) m:=by
 intro i j hij hj
 have g:∀ k,k < m→(kas_rev p 0 m).getD k 0=p.getD (m - 1 - k) 0:=fun k hk=>by
  refine Lm ?_
  unfold kas_rev
  rw [getElem?_mirror_all hm,if_pos ⟨Nat.zero_le _,hk⟩]
  congr 1; lia
 rw [g i (by lia),g j hj]
 exact d _ _ (by lia) (by lia)
theorem Y1 {cmp:Nat→Nat→(Bool→Shared→Prop)→Shared→Prop} {s:Shared} (K:Asks cmp lt n s) (hn:1≤n) {p:Array Nat} (h:Pm p n) (G:Nat×Array Nat→Shared→Prop)
 (k:∀ m q,1≤m→m≤n→Pm q n→Up lt q m→G (m,q) s):(kas_count n p).kasWp cmp G s:=by
 unfold kas_count
 rw [KasT.kasWp_bind]
 have up1:Up lt p 1:=fun i j h1 h2=>by lia
 refine Tq O K h (n - 1) 1 _ (Nat.le_refl _) (by lia) up1 fun a a1 a2 a3 a4=>?_
 by_cases ha:(a == n)=true
 ·rw [if_pos ha]
  exact k a p a1 (by lia) h a3
 ·rw [if_neg ha]
  have ha':a≠n:=by simpa using ha
  by_cases h1:a > 1
  ·rw [if_pos h1]
   refine K _ _ (h.lt (by lia)) (h.lt (by lia)) _ ?_
   simp only [a3 0 (a - 1) (by lia) (by lia),if_true]
   exact k a p a1 (by lia) h a3
  ·rw [if_neg h1]
   have e1:a=1:=by lia
   subst e1
   unfold kas_descPart
   rw [KasT.kasWp_bind]
   have e2:lt (p.getD 1 0) (p.getD 0 0)=true:=a4.elim (fun z=>by lia) fun z=>z
   have d2:Dn lt p (1 + 1):=by
    intro i j hij hj
    have e3:i=0:=by lia
    have e4:j=1:=by lia
    rw [e3,e4]; exact e2
   refine U4 O K h (n - (1 + 1)) (1 + 1) _ (by lia) (by lia) d2 fun m q2 q3 q4=>?_
   simp only [gt_iff_lt,Nat.lt_irrefl,if_false]
   unfold kas_tail3
   rw [KasT.kasWp_bind]
   have hr:Pm (kas_rev p 0 m) n:=h.of_perm (mirror_perm _ _ _ _)
   refine Tq O K hr (n - m) m _ (by lia) (by lia) (Jbs (by rw [h.size]; lia) q4) fun b b1 b2 b3 _=>?_
   exact k b _ (by lia) (by lia) hr b3
theorem Mi {cmp:Nat→Nat→(Bool→Shared→Prop)→Shared→Prop} {s:Shared} (K:Asks cmp lt n s) {p:Array Nat} (h:Pm p n) {k:Nat} (hk:k < n) (u:Up lt p k):∀ (f l r:Nat) (G:Nat→Shared→Prop),l≤r→r≤k→r - l≤f→(∀ i,i < l→lt (p.getD i 0) (p.getD k 0)=true)→(∀ i,r≤i→i < k→lt (p.getD k 0) (p.getD i 0)=true) →
 (∀ m,m≤k→(∀ i,i < m→lt (p.getD i 0) (p.getD k 0)=true)→(∀ i,m≤i→i < k→lt (p.getD k 0) (p.getD i 0)=true)→G m s)→(kas_place p k f l r).kasWp cmp G s
 | 0,l,r,G,h1,h2,h3,lo,hi,g=>g l (by lia) lo fun i a b=>hi i (by lia) b
 | f + 1,l,r,G,h1,h2,h3,lo,hi,g=>by
   unfold kas_place
   by_cases q:l ≥ r
   ·rw [if_pos q]
    exact g l (by lia) lo fun i a b=>hi i (by lia) b
   ·rw [if_neg q]
    refine K _ _ (h.lt hk) (h.lt (by lia)) _ ?_
    cases e:lt (p.getD k 0) (p.getD ((l + r) / 2) 0) with
    | true =>
      simp only [if_true]
      refine Mi K h hk u f l ((l + r) / 2) G (by lia) (by lia) (by lia) lo (fun i a b=>?_) g
      by_cases z:i=(l + r) / 2
      ·rw [z]; exact e
      ·exact O.tr _ _ _ (h.lt hk) (h.lt (by lia)) (h.lt (by lia)) e (u _ _ (by lia) b)
    | false =>
      simp only [Bool.false_eq_true,if_false]
      have e':=other O h hk (by lia) (by lia) e
      refine Mi K h hk u f ((l + r) / 2 + 1) r G (by lia) h2 (by lia) (fun i a=>?_) hi g
      by_cases z:i=(l + r) / 2
      ·rw [z]; exact e'
      ·exact O.tr _ _ _ (h.lt (by lia)) (h.lt (by lia)) (h.lt hk) (u _ _ (by lia) (by lia)) e'
omit O in
theorem Jcw {p:Array Nat} (h:Pm p n) {k l:Nat} (hk:k < n) (hl:l≤k) (u:Up lt p k) (lo:∀ i,i < l→lt (p.getD i 0) (p.getD k 0)=true) (hi:∀ i,l≤i→i < k→lt (p.getD k 0) (p.getD i 0)=true) :
 Up lt (bubble p k (k - l)) (k + 1):=by
 have g:∀ j,j < k + 1→(bubble p k (k - l)).getD j 0=if j=l then p.getD k 0 else if l < j then p.getD (j - 1) 0 else p.getD j 0:=fun j hj=>by
  have e:=getElem?_bubble (xs:=p) (src:=k) (by rw [h.size]; exact hk) (k - l) (by lia) j
  rw [show k - (k - l)=l by lia] at e
  by_cases c1:j=l
  ·rw [if_pos c1] at e ⊢; exact Lm e
  ·rw [if_neg c1] at e ⊢
   by_cases c2:l < j
   ·rw [if_pos ⟨c2,by lia⟩] at e; rw [if_pos c2]; exact Lm e
   ·rw [if_neg (by lia)] at e; rw [if_neg c2]; exact Lm e
 intro i j hij hj
 rw [g i (by lia),g j hj]
 repeat' split
 all_goals first
  | (exfalso; lia)
  | exact lo _ (by lia)
  | exact hi _ (by lia) (by lia)
  | exact u _ _ (by lia) (by lia)
theorem Y2 {cmp:Nat→Nat→(Bool→Shared→Prop)→Shared→Prop} {s:Shared} (K:Asks cmp lt n s):∀ (f:Nat) (p:Array Nat) (k:Nat) (G:Array Nat→Shared→Prop),Pm p n→k + f=n→Up lt p k→(∀ q,Pm q n→Up lt q n→G q s)→(kas_bin f p k).kasWp cmp G s
 | 0,p,k,G,h,hk,u,g=>by
   have e:k=n:=by lia
   subst e; exact g p h u
 | f + 1,p,k,G,h,hk,u,g=>by
   unfold kas_bin
   rw [KasT.kasWp_bind]
   exact Mi O K h (k:=k) (by lia) u k 0 k _ (Nat.zero_le _) (Nat.le_refl _) (by lia) (fun i a=>by lia) (fun i a b=>by lia) fun m c1 c2 c3 =>
    Y2 K f _ (k + 1) G (h.of_perm (bubble_perm _ _ _)) (by lia) (Jcw h (by lia) c1 u c2 c3) g
theorem sort_wp {cmp:Nat→Nat→(Bool→Shared→Prop)→Shared→Prop} {s:Shared} (K:Asks cmp lt n s) (hn:1≤n) (G:Array Nat→Shared→Prop) (g:∀ q,Pm q n→Up lt q n→G q s):(kas_sort n).kasWp cmp G s:=by
 unfold kas_sort
 rw [KasT.kasWp_bind]
 refine Y1 O K hn (Xn n) _ fun m q h1 h2 h3 h4=>?_
 by_cases c:m < n
 ·rw [if_pos c]
  have e2:max m 1=m:=by lia
  show (kas_bin (n - max m 1) q (max m 1)).kasWp cmp G s
  rw [e2]
  exact Y2 O K _ q m G h3 (by lia) h4 g
 ·rw [if_neg c]
  have e2:m=n:=by lia
  subst e2; exact g q h3 h4
end
end FhS
namespace FX
open PySem PySem.Spec PyProof.Rows L2
section
variable {prog:Program} {w:World} {A:Around} {E:Value→Shared→Prop} {s:Shared} {d:Addr} {es:Array DictEntry} {ep:Nat}
theorem Vj (hh:A.handled=none) (I d:Addr) (hne:d≠I) (es:Array DictEntry) (ep:Nat):Walks prog w A I [I,d] [I] es.size (fun i v=>∃ e,es[i]?=some e∧v=e.key) (fun i h=>h.IsKeyIter I d i es.size ep∧RawD h d es ep) where
 sub:=fun b hb=>by simp at hb; simp [hb]
 frame:=fun _ _ _ st hk=>⟨let ⟨o,e,r⟩:=st.1; ⟨o,hk I (by simp) o e,r⟩,st.2.at fun o e=>hk d (by simp) o e⟩
 item:=fun i s0 Q E0 hi st hQ=>Qy st.1 st.2 (e:=es[i]) (by simp [hi]) fun h' it' sb =>
  hQ _ h' s0.toks ⟨es[i],by simp [hi],rfl⟩ ⟨it',st.2.at fun o e=>(sb.2 d hne).trans e⟩ fun b o hb e=>(sb.2 b fun z=>hb (by simp [z])).trans e
 done:=fun s0 Q E0 st hQ=>Ui hh st.1 st.2 (Nat.le_refl _) fun h' eb=>hQ h' s0.toks fun b o hb e=>eb b o (fun z=>hb (by simp [z])) e
 self:=fun _ _ _ _ st hQ=>wpAny_pyIter_keyiter st.1 hQ
theorem Uh (lo:(d == sysModules)=false):W.KdlSrc prog w "dict" d d es.size (fun i v=>∃ e,es[i]?=some e∧v=e.key) (fun h=>RawD h d es ep) where
 type:=fun _ ⟨o,e,x,_⟩=>⟨o,e,x.1⟩
 there:=fun _ ⟨o,e,_⟩=>⟨Heap.lt_size e,Heap.lt_size e⟩
 keep:=fun _ _ hm hk=>hm.at fun o e=>hk d (.inl rfl) o e
 notList:=by decide
 notTuple:=by decide
 hint:=fun _ _ _ _ ⟨o,e,x,_⟩ hq=>W.kdl_hint_dict ⟨o,e,x.1⟩ hq
 iter:=fun _ s0 hh hm=>⟨_,_,(fun _ _ hq=>Qz lo hm hq),Vj hh _ d (let ⟨o,e,_⟩:=hm; Nat.ne_of_lt (Heap.lt_size e)) es ep,⟨⟨_,Heap.get?_push_size _ rfl,rfl,rfl⟩,hm.at fun o e=>Heap.get?_push_of_some _ e⟩⟩
end
theorem Fv:∀ as:List Addr,Vals (as.map V.ref) (as.map Value.ref)
 | []=>.nil
 | _ :: as=>.cons rfl (Fv as)
theorem R7 {es:Array DictEntry} {acc:Array Value} {as:List Addr} (ha:ItemsOf (fun i v=>∃ e,es[i]?=some e∧v=e.key) acc es.size) (hla:as.length=es.size) (at_:∀ j (h:j < es.size),∃ a,as[j]?=some a∧es[j].key=.ref a):acc.toList=as.map Value.ref:=by
 refine List.ext_getElem? fun j=>?_
 by_cases hj:j < es.size
 ·have h1:j < acc.size:=by rw [ha.1]; exact hj
  obtain ⟨e2,e3,e4⟩:=ha.2 j acc[j] (by simp [h1])
  obtain ⟨a,e5,e6⟩:=at_ j hj
  have e7:e2=es[j]:=by
   have:es[j]?=some es[j]:=by simp [hj]
   rw [this] at e3; exact (Option.some.inj e3).symm
  rw [List.getElem?_map,e5]
  have:acc.toList[j]?=some acc[j]:=by simp [h1]
  rw [this,e4,e7,e6]
  rfl
 ·have h1:acc.toList.length≤j:=by rw [Array.length_toList,ha.1]; lia
  have h2:(as.map Value.ref).length≤j:=by rw [List.length_map]; lia
  rw [List.getElem?_eq_none h1,List.getElem?_eq_none h2]
section
variable {X:Cx}
theorem Hz (hc:X.calm=true):E8 X (.type "list") (fun xs H Q=>∃ d kvs,xs=[.ref d]∧Rd H d (.dT kvs)∧∀ l as,H l=none→Kys H kvs as→Q (.ref l) (upd H l (.lst (as.map V.ref)))):=by
 intro pins s σ H xs us Q I r h
 obtain ⟨d,kvs,rfl,hd,q⟩:=h
 obtain ⟨u,rfl,rx⟩:=vals1 r
 cases rx
 obtain ⟨z,lo,es,ep,as,raw,hz,ks,at_⟩:=Qe I hd
 refine W.kdl_call (Uh lo (es:=es) (ep:=ep)) (I.ok.hd hc) raw (by rw [hz]; exact z) fun h' tk acc c kp e ha=>?_
 have hn:H s.heap.objs.size=none:=I.hok.fresh (Nat.le_refl _)
 have hla:as.length=kvs.length:=(Paired.length ks).symm
 have e1:acc.toList=as.map Value.ref:=R7 ha (by lia) at_
 refine ⟨.ref s.heap.objs.size,_,I.laid (t':=tk) kp (Nat.le_refl _) (show ObjOk X.prog X.w _ h' _ (.lst (as.map V.ref)) from ⟨by rw [List.length_map]; lia,acc.toList,c,?_,by simpa using e⟩),rfl,q _ as hn ks⟩
 rw [e1]
 exact Fv as
end
theorem Lj:∀ xs:List Int,HT.lexLt xs xs=false
 | []=>rfl
 | x :: xs=>by rw [HT.lexLt_cons,if_pos rfl]; exact Lj xs
theorem P5:∀ {xs ys zs:List Int},HT.lexLt xs ys=true→HT.lexLt ys zs=true→HT.lexLt xs zs=true
 | [],[],_,h,_=>by cases h
 | [],_ :: _,[],_,h=>by cases h
 | [],_ :: _,_ :: _,_,_=>rfl
 | _ :: _,[],_,h,_=>by cases h
 | _ :: _,_ :: _,[],_,h=>by cases h
 | x :: xs,y :: ys,z :: zs,h1,h2=>by
   rw [HT.lexLt_cons] at h1 h2 ⊢
   by_cases e1:x=y
   ·rw [if_pos e1] at h1
    by_cases e2:y=z
    ·rw [if_pos e2] at h2
     rw [if_pos (e1.trans e2)]; exact P5 h1 h2
    ·rw [if_neg e2] at h2
     rw [if_neg (by rw [e1]; exact e2),e1]; exact h2
   ·rw [if_neg e1] at h1
    have h1:=of_decide_eq_true h1
    by_cases e2:y=z
    ·rw [if_neg (by rw [← e2]; exact e1),← e2]; exact decide_eq_true h1
    ·rw [if_neg e2] at h2
     have h2:=of_decide_eq_true h2
     rw [if_neg (by lia)]; exact decide_eq_true (by lia)
theorem P6:∀ {xs ys:List Int},xs≠ys→HT.lexLt xs ys=false→HT.lexLt ys xs=true
 | [],[],h,_=>absurd rfl h
 | [],_ :: _,_,h=>by cases h
 | _ :: _,[],_,_=>rfl
 | x :: xs,y :: ys,hne,h=>by
   rw [HT.lexLt_cons] at h ⊢
   by_cases e:x=y
   ·rw [if_pos e] at h
    rw [if_pos e.symm]
    exact P6 (fun z=>hne (by rw [e,z])) h
   ·rw [if_neg e] at h
    have h:=of_decide_eq_false h
    rw [if_neg (Ne.symm e)]; exact decide_eq_true (by lia)
theorem F9 {α:Type} {lt:α→α→Prop} (irr:∀ a,¬ lt a a) (asym:∀ a b,lt a b→¬ lt b a):∀ {l₁ l₂:List α},l₁.Perm l₂→l₁.Pairwise lt→l₂.Pairwise lt→l₁=l₂
 | [],l₂,p,_,_=>(List.Perm.nil_eq p)
 | a :: l₁,[],p,_,_=>by have:=p.length_eq; simp at this
 | a :: l₁,b :: l₂,p,h1,h2=>by
   have h1':=List.pairwise_cons.mp h1
   have h2':=List.pairwise_cons.mp h2
   have e:a=b:=by
    have ha:a∈b :: l₂:=p.mem_iff.mp (List.mem_cons_self ..)
    have hb:b∈a :: l₁:=p.mem_iff.mpr (List.mem_cons_self ..)
    rcases List.mem_cons.mp ha with e | ha
    ·exact e
    ·rcases List.mem_cons.mp hb with e | hb
     ·exact e.symm
     ·exact absurd (h2'.1 a ha) (asym _ _ (h1'.1 b hb))
   subst e
   rw [F9 irr asym (List.Perm.cons_inv p) h1'.2 h2'.2]
section
variable {prog:Program} {w:World} {A:Around} {E:Value→Shared→Prop} {s:Shared}
theorem Ow {a:Addr} {vs:List Value} {n:Nat} {lt:Nat→Nat→Bool} {P:PySem.Fin→Shared→Prop} (ho:s.heap.get? a=some (seqObj "list" vs.toArray n)) (h64:vs.length < 64) (O:FhS.Ordr lt vs.length)
 (K:2≤vs.length→∀ h',(∀ b o,b≠a→s.heap.get? b=some o→h'.get? b=some o)→∀ Q:SortKind→Shared→Prop,(∀ κ,FhS.Asks (W.kas_ask prog w A κ vs) lt vs.length { s with heap:=h' }→Q κ { s with heap:=h' })→wpAny (model prog w) A (keyKind' vs.toArray) Q E { s with heap:=h' })
 (h:∀ q:List Nat,q.Perm (List.range vs.length)→q.Pairwise (fun i j=>lt i j=true)→∀ h' c,(∀ b o,b≠a→s.heap.get? b=some o→h'.get? b=some o)→h'.get? a=some (seqObj "list" (q.map fun i=>vs.getD i .none).toArray c)→P (.done (.ret .none)) { s with heap:=h' }) :
 wpAny (model prog w) A (Builtin.«list.sort» ⟨[.ref a],[]⟩) P E s:=by
 rw [list_sort_plain]
 have al:a < s.heap.objs.size:=Heap.lt_size ho
 have small:∀ {k:Nat},k≤63→k≤sizeLine:=fun hk=>by rw [sizeLine_eq]; lia
 refine wpAny_bind (listItems_at ho rfl (wpAny_bind (listUpdate_at ho rfl ?_ (by rw [List.size_toArray]; exact small (by lia)) (Nat.zero_le _))))
 obtain ⟨e1,g1⟩:∃ e1,(s.heap.update a (Obj.mapSeq fun _=>(#[]:Array Value))).get? a=some (seqObj "list" #[] e1):=⟨_,get?_update_seq ho fun _=>#[]⟩
 refine wpAny_bind (seqEpoch_at g1 rfl (wpAny_bind (wpAny_newTuple (wpAny_bind (wpAny_newList (wpAny_holding ?_) (Nat.zero_le _))) (by show vs.length≤_; exact small (by lia)))))
 have g2:(((s.heap.update a (Obj.mapSeq fun _=>(#[]:Array Value))).push (seqObj "tuple" vs.toArray 0)).push (seqObj "list" #[] 0)).get? a=some (seqObj "list" #[] e1):=Heap.get?_push_of_some _ (Heap.get?_push_of_some _ g1)
 have kp:∀ b o,b≠a→s.heap.get? b=some o→(((s.heap.update a (Obj.mapSeq fun _=>(#[]:Array Value))).push (seqObj "tuple" vs.toArray 0)).push (seqObj "list" #[] 0)).get? b=some o:=fun b o hb e =>
  Heap.get?_push_of_some _ (Heap.get?_push_of_some _ ((Heap.get?_update_other _ _ (Ne.symm hb)).trans e))
 show wpAny (model prog w) A _ P E { s with heap:=((s.heap.update a (Obj.mapSeq fun _=>(#[]:Array Value))).push (seqObj "tuple" vs.toArray 0)).push (seqObj "list" #[] 0) }
 generalize ((s.heap.update a (Obj.mapSeq fun _=>(#[]:Array Value))).push (seqObj "tuple" vs.toArray 0)).push (seqObj "list" #[] 0)=hh at g2 kp
 dsimp only
 have fin:∀ (st:SortSt) (q:List Nat),(arrOf st).map (·.2)=(q.map fun i=>vs.getD i .none).toArray→failedOf st=none→q.Perm (List.range vs.length)→q.Pairwise (fun i j=>lt i j=true) →
  wpAny (model prog w) A (do
   let touched:=(← seqEpoch a) != e1
   Builtin.List.listUpdate (.ref a) fun _=>(arrOf st).map (·.2)
   if let some e:=failedOf st then rule "list.sort.comparison-raised"; throw e
   if touched then rule "list.sort.modified"; raiseError "ValueError" "list modified during sort"
   ret .none) P E { s with heap:=hh }:=fun st q ea ef qp qo=>by
  have hl:q.length=vs.length:=by rw [qp.length_eq,List.length_range]
  refine wpAny_bind (seqEpoch_at g2 rfl ?_)
  rw [ea]
  refine wpAny_bind (listUpdate_at g2 rfl ?_ (Nat.zero_le _) (by show (q.map fun i=>vs.getD i Value.none).toArray.size≤sizeLine + 1; rw [List.size_toArray,List.length_map,hl]; exact Nat.le_succ_of_le (small (by lia))))
  rw [ef]
  simp only [bne_self_eq_false,Bool.false_eq_true,if_false]
  refine wpAny_pure (h q qp qo _ _ (fun b o hb e=>(Heap.get?_update_other _ _ (Ne.symm hb)).trans (kp b o hb e)) (get?_update_seq g2 _))
 by_cases h2:vs.toArray.size < 2
 ·rw [if_pos h2,if_pos h2]
  refine wpAny_bind (wpAny_pure ?_)
  rw [StateT.run_pure]
  refine wpAny_bind (wpAny_pure ?_)
  have h2':vs.length < 2:=by simpa using h2
  refine fin (SortSt.mk' general' (vs.toArray.zip vs.toArray) #[] 7 none) (List.range vs.length) ?_ rfl (List.Perm.refl _) ?_
  ·show (vs.toArray.zip vs.toArray).map (·.2)=_
   match vs,h2' with
   | [],_=>simp
   | [v],_=>simp
  ·match vs,h2' with
   | [],_=>exact List.Pairwise.nil
   | [v],_=>exact List.pairwise_singleton _ _
 ·rw [if_neg h2,if_neg h2]
  have h2':2≤vs.length:=by simpa using h2
  refine wpAny_bind (K h2' hh kp _ fun κ ask=>?_)
  refine wpAny_bind (wpAny_mono (W.kat_run (E:=E) (vs:=vs) (ks:=vs) (κ:=κ) (s:={ s with heap:=hh }) (Q:=fun st' s'=>s'={ s with heap:=hh }∧∃ q:List Nat,(arrOf st').map (·.2)=(q.map fun i=>vs.getD i .none).toArray∧failedOf st'=none∧q.Perm (List.range vs.length)∧q.Pairwise (fun i j=>lt i j=true))
   (G:=fun p s'=>s'={ s with heap:=hh }∧FhS.Pm p vs.length∧FhS.Up lt p vs.length) rfl h2' h64 (fun p st' s' hp ha hf ⟨e,pm,up⟩=>?_) (FhS.sort_wp O ask (by lia) _ fun q pm up=>⟨rfl,pm,up⟩)) (fun r s' hr=>?_) fun _ _ e=>e)
  ·refine ⟨e,p.toList,W.kat_snds rfl ha,hf,pm.pm,?_⟩
   rw [List.pairwise_iff_getElem]
   intro i j hi hj hij
   have hs:=pm.size
   have:=up i j hij (by rw [← hs]; simpa using hj)
   have gi:p.getD i 0=p.toList[i]:=by simp [Array.getD,show i < p.size by simpa using hi]
   have gj:p.getD j 0=p.toList[j]:=by simp [Array.getD,show j < p.size by simpa using hj]
   rw [gi,gj] at this
   exact this
  ·obtain ⟨u,st'⟩:=r
   obtain ⟨e,q,q1,q2,q3,q4⟩:=hr
   dsimp only at e q1 q2 ⊢
   subst e
   exact fin st' q q1 q2 q3 q4
end
section
variable {prog:Program} {w:World} {A:Around} {E:Value→Shared→Prop}
theorem Rp {b fin:Bool} {Q:Bool→Shared→Prop}:∀ {us ws:List Value} {ns ms:List Int} (i:Nat) (s:Shared),IntsAre us ns→IntsAre ws ms→fin=decide (ns.length < ms.length)→Q (HT.lexLt ns ms) s→W.KatLex prog w A b fin Q (us.zip ws) i s
 | _,_,_,_,i,s,.nil,.nil,hf,h=>by
   rw [List.zip_nil_left]
   refine W.kat_nil ?_
   rw [hf]; exact h
 | _,_,_,_,i,s,.nil,.cons (ns:=ms) m t r,hf,h=>by
   rw [List.zip_nil_left]
   refine W.kat_nil ?_
   rw [hf]
   have:decide (([]:List Int).length < (m :: ms).length)=true:=by simp
   rw [this]; exact h
 | _,_,_,_,i,s,.cons (ns:=ns) n t r,.nil,hf,h=>by
   rw [List.zip_nil_right]
   refine W.kat_nil ?_
   rw [hf]
   have:decide ((n :: ns).length < ([]:List Int).length)=false:=by simp
   rw [this]; exact h
 | _,_,_,_,i,s,.cons (ns:=ns) n t r,.cons (ns:=ms) m u q,hf,h=>by
   rw [List.zip_cons_cons]
   refine W.kat_cons (wpAny_eqBool_int (W.kat_go (fun e=>W.kat_yes ?_) fun e=>W.kat_no ?_))
   ·have e:n=m:=by simpa using e
    rw [HT.lexLt_cons,if_pos e] at h
    exact Rp (i + 1) s r q (by rw [hf]; simp) h
   ·have e:n≠m:=by simpa using e
    rw [HT.lexLt_cons,if_neg e] at h
    cases hb:(b && i == 0) with
    | true=>exact oneLt_int h
    | false=>exact W.kat_one _ _ (lt_int h)
def TupsAt (h:Heap):List Addr→List (List Int)→Prop:=Paired fun a ns=>ns≠[]∧∃ its,IsTup h a its∧IntsAre its.toList ns
theorem Kz {h:Heap}:∀ {as:List Addr} {nss:List (List Int)},TupsAt h as nss→∃ fs:List Value,W.KatTups h (as.map Value.ref) fs∧fs.length=as.length∧∀ v∈fs,∃ n t,v=Value.int n t
 | _,_,.nil=>⟨[],trivial,rfl,fun v hv=>by simp at hv⟩
 | _,_,.cons (a:=a) (b:=ns) r t=>by
   obtain ⟨fs,a1,a2,a3⟩:=Kz t
   obtain ⟨hne,its,⟨o,ho,hc,n,hd⟩,hi⟩:=r
   cases hL:its.toList with
   | nil=>rw [hL] at hi; cases hi; exact absurd rfl hne
   | cons f fr =>
     rw [hL] at hi
     cases hi with
     | cons n0 t0 hr =>
       refine ⟨Value.int n0 t0 :: fs,W.KatTups.cons ho hc hd ?_ a1,by simp [a2],fun v hv=>?_⟩
       ·have:its[0]?=its.toList[0]?:=by simp
        rw [this,hL]; rfl
       ·rcases List.mem_cons.mp hv with rfl | hv
        ·exact ⟨_,_,rfl⟩
        ·exact a3 v hv
theorem TupsAt.keep {h h':Heap} (k:∀ b o,h.get? b=some o→(∃ ts n,o.data=.seq ts n∧o.cls=.type "tuple")→h'.get? b=some o) {as:List Addr} {nss:List (List Int)} (t:TupsAt h as nss):TupsAt h' as nss :=
 An (fun a ns ⟨h1,its,⟨o,ho,hc,n,hd⟩,hi⟩=>⟨h1,its,⟨o,k a o ho ⟨_,_,hd,hc⟩,hc,n,hd⟩,hi⟩) t
theorem Vf {s:Shared} {κ:SortKind} (hκ:∃ b,κ=tuples' b) {as:List Addr} {nss:List (List Int)} (t:TupsAt s.heap as nss) :
 FhS.Asks (W.kas_ask prog w A κ (as.map Value.ref)) (fun i j=>HT.lexLt (nss.getD i []) (nss.getD j [])) (as.map Value.ref).length s:=by
 obtain ⟨b,rfl⟩:=hκ
 intro i j hi hj C hC
 rw [List.length_map] at hi hj
 have get:∀ k,k < as.length→∃ a ns its,(as.map Value.ref).getD k .none=.ref a∧nss.getD k []=ns∧IsTup s.heap a its∧IntsAre its.toList ns:=fun k hk=>by
  have hl:=Paired.length t
  have h1:as[k]?=some as[k]:=by simp [hk]
  have h2:nss[k]?=some (nss[k]'(by lia)):=by simp [show k < nss.length by lia]
  obtain ⟨_,its,q1,q2⟩:=A1 t k _ _ h1 h2
  exact ⟨as[k],_,its,by simp [hk],by simp [show k < nss.length by lia],q1,q2⟩
 obtain ⟨a,ns,its,e1,e2,⟨o,ho,hc,n,hd⟩,hi1⟩:=get i hi
 obtain ⟨a',ns',its',e1',e2',⟨o',ho',hc',n',hd'⟩,hi1'⟩:=get j hj
 unfold W.kas_ask
 rw [e1,e1']
 refine W.kat_lt ho hd ho' hd' (Rp 0 s hi1 hi1' ?_ (by dsimp only at hC; rw [e2,e2'] at hC; exact hC))
 have l1:=hi1.length
 have l2:=hi1'.length
 simp only [Array.length_toList] at l1 l2
 rw [l1,l2]
theorem M9 {s:Shared} {a:Addr} {as:List Addr} {nss:List (List Int)} {n:Nat} {P:PySem.Fin→Shared→Prop} (ho:s.heap.get? a=some (seqObj "list" (as.map Value.ref).toArray n)) (h64:as.length < 64) (t:TupsAt s.heap as nss) (nd:nss.Nodup)
 (h:∀ q:List Nat,q.Perm (List.range as.length)→q.Pairwise (fun i j=>HT.lexLt (nss.getD i []) (nss.getD j [])=true)→∀ h' c,(∀ b o,b≠a→s.heap.get? b=some o→h'.get? b=some o)→h'.get? a=some (seqObj "list" (q.map fun i=>(as.map Value.ref).getD i .none).toArray c)→P (.done (.ret .none)) { s with heap:=h' }) :
 wpAny (model prog w) A (Builtin.«list.sort» ⟨[.ref a],[]⟩) P E s:=by
 have hl:=Paired.length t
 have hml:(as.map Value.ref).length=as.length:=List.length_map ..
 refine Ow (lt:=fun i j=>HT.lexLt (nss.getD i []) (nss.getD j [])) ho (by rw [hml]; exact h64) ⟨fun i j k _ _ _=>P5,fun i j hi hj hij e=>P6 (fun z=>hij ?_) e⟩ (fun h2 h' kp Q hQ=>?_) (by rw [hml]; exact h)
 ·have hi':i < nss.length:=by lia
  have hj':j < nss.length:=by lia
  have e1:nss[i]=nss[j]:=by simpa [hi',hj'] using z
  exact (List.getElem_inj nd).mp e1
 ·have t':TupsAt h' as nss:=t.keep fun b o e ⟨ts,k,q,qc⟩=>kp b o (fun z=>by rw [z,ho] at e; cases e; have qc:Value.type "list"=Value.type "tuple":=qc; injection qc with qc; exact absurd qc (by decide)) e
  obtain ⟨fs,f1,f2,f3⟩:=Kz t'
  refine W.kat_kind (s:={ s with heap:=h' }) (T:=.type "int") f1 (by rw [f2]; rw [hml] at h2; lia) (fun v hv=>?_) rfl (hQ _ (Vf ⟨_,rfl⟩ t'))
  obtain ⟨m,tk,rfl⟩:=f3 v hv
  exact W.Looks.of_pure rfl
end
theorem Me {α:Type} (g:α→V) (f:α→Addr) (h:∀ x,g x=V.ref (f x)):∀ as:List α,Vals (as.map g) ((as.map f).map Value.ref)
 | []=>.nil
 | a :: as=>.cons (by rw [h a]; exact rfl) (Me g f h as)
section
variable {X:Cx}
theorem Ky (hc:X.calm=true):E8 X (.builtin "sorted") (fun xs H Q=>∃ d,∃ L:List (List Int×V),xs=[.ref d]∧Rd H d (.dT (L.map fun p=>(p.1.map Sum.inl,p.2)))∧L.length < 64∧(L.map (·.1)).Nodup∧(∀ p∈L,p.1≠[]) ∧
 ∀ (l:Addr) (M:List (List Int×Addr)),H l=none→(M.map (·.1)).Perm (L.map (·.1))→M.Pairwise (fun p q=>HT.lexLt p.1 q.1=true)→(∀ p∈M,H p.2=some (.tup (p.1.map V.int)))→Q (.ref l) (upd H l (.lst (M.map fun p=>V.ref p.2)))):=by
 intro pins s σ H xs us Q I r h
 obtain ⟨d,L,rfl,hd,h64,nd,hne,q⟩:=h
 obtain ⟨u,rfl,rx⟩:=vals1 r
 cases rx
 obtain ⟨z,lo,es,ep,as,raw,hz,ks,at_⟩:=Qe I hd
 have hlL:(L.map fun p=>((p.1.map Sum.inl:List Key),p.2)).length=L.length:=List.length_map ..
 have hla:as.length=L.length:=by rw [← hlL]; exact (Paired.length ks).symm
 have key:∀ (j:Nat) (p:List Int×V),L[j]?=some p→∃ a,as[j]?=some a∧H a=some (.tup (p.1.map V.int)):=fun j p hp=>by
  have hj:j < L.length:=(List.getElem?_eq_some_iff.mp hp).1
  obtain ⟨a,ha⟩:=Bd (xs:=as) (j:=j) (by lia)
  have:=A1 ks j ((p.1.map Sum.inl:List Key),p.2) a (by rw [List.getElem?_map,hp]; rfl) ha
  refine ⟨a,ha,?_⟩
  rw [this,List.map_map]
  rfl
 have t0:TupsAt s.heap as (L.map (·.1)):=Cz (by rw [List.length_map,hla]) fun j a ns e1 e2=>by
  rw [List.getElem?_map] at e2
  cases hp:L[j]? with
  | none=>rw [hp] at e2; cases e2
  | some p =>
    rw [hp] at e2
    have e3:p.1=ns:=Option.some.inj e2
    obtain ⟨a',h1,h2⟩:=key j p hp
    rw [e1] at h1; cases h1
    obtain ⟨its,rv,it,_⟩:=I.tuple (SqT.of (K:=X.K) h2)
    exact ⟨by rw [← e3]; exact hne p (List.mem_of_getElem? hp),its.toArray,it,by rw [← e3]; simpa using intsAre_of rv⟩
 refine Calls.call_function_entry kind_sorted plain_sorted entry_sorted (args_sorted1 _) (by
  unfold Builtin.«sorted»
  refine wpAny_bind (m:=checkCount "sorted" 1 1 _) (wpAny_pure (wpAny_bind (W.kdu_collect (Uh lo (es:=es) (ep:=ep)) (show _ from I.ok.hd hc) raw (by rw [hz]; exact z) fun h1 tk acc kp ha=>?_)))
  have e1:acc.toList=as.map Value.ref:=R7 ha (by lia) at_
  rw [e1]
  have I1:Inv X pins σ H { s with heap:=h1,toks:=tk }:=I.kept kp
  refine wpAny_bind (wpAny_newList ?_ (by rw [List.length_map,sizeLine_eq]; lia))
  have g1:(h1.push (seqObj "list" (as.map Value.ref).toArray 0)).get? h1.objs.size=some (seqObj "list" (as.map Value.ref).toArray 0):=Heap.get?_push_size _ rfl
  have t1:TupsAt (h1.push (seqObj "list" (as.map Value.ref).toArray 0)) as (L.map (·.1)):=t0.keep fun b o e _=>Heap.get?_push_of_some _ (kp b o e)
  refine wpAny_bind (wpAny_holding (wpAny_call_entry slot_list_sort ⟨_,g1,rfl⟩ entry_list_sort (M9 g1 (by lia) t1 nd fun p pp po h2 c kp2 e=>⟨_,rfl,?_⟩) (args_list_sort _)))
  have hn:H h1.objs.size=none:=I1.hok.fresh (Nat.le_refl _)
  have inr:∀ i∈p,i < as.length:=fun i hi=>List.mem_range.mp (pp.mem_iff.mp hi)
  have eM:(p.map fun i=>(as.map Value.ref).getD i .none)=(p.map fun i=>as.getD i 0).map Value.ref:=by
   rw [List.map_map]
   refine List.map_congr_left fun i hi=>?_
   have:=inr i hi
   simp [this]
  refine wpAny_pure ⟨_,rfl,.ref h1.objs.size,_,I1.laid (a:=h1.objs.size) (o:=.lst ((p.map fun i=>((L.map (·.1)).getD i [],as.getD i 0)).map fun q=>V.ref q.2)) (t':=tk) (fun b o hb=>kp2 b o (Nat.ne_of_lt (Heap.lt_size hb)) (Heap.get?_push_of_some _ hb)) (Nat.le_refl _) ⟨?_,(p.map fun i=>as.getD i 0).map Value.ref,c,?_,?_⟩,rfl,q _ _ hn ?_ ?_ ?_⟩
  ·rw [List.length_map,List.length_map,pp.length_eq,List.length_range,sizeLine_eq]; lia
  ·rw [List.map_map]
   exact Me _ (fun i=>as.getD i 0) (fun _=>rfl) p
  ·rw [← eM]; exact e
  ·rw [List.map_map]
   have e2:(List.range as.length).map (fun i=>(L.map (·.1)).getD i [])=L.map (·.1):=by
    refine List.ext_getElem? fun j=>?_
    rw [List.getElem?_map]
    by_cases hj:j < L.length
    ·have h3:(List.range as.length)[j]?=some j:=by simp [hla,hj]
     rw [h3]
     simp [hj]
    ·have h3:(List.range as.length)[j]?=none:=by simp [hla]; lia
     rw [h3,List.getElem?_eq_none (by rw [List.length_map]; lia)]
     rfl
   have e7:=pp.map fun i=>(L.map (·.1)).getD i []
   rw [e2] at e7
   exact e7
  ·rw [List.pairwise_map]
   exact po
  ·intro r hr
   obtain ⟨i,hi,e3⟩:=List.mem_map.mp hr
   have hlt:=inr i hi
   obtain ⟨p0,hp0⟩:=Bd (xs:=L) (j:=i) (by lia)
   obtain ⟨a,h3,h4⟩:=key i p0 hp0
   rw [← e3]
   have e5:as.getD i 0=a:=by rw [List.getD_eq_getElem?_getD,h3]; rfl
   have e6:(L.map (·.1)).getD i []=p0.1:=by rw [List.getD_eq_getElem?_getD,List.getElem?_map,hp0]; rfl
   show H (as.getD i 0)=some (.tup (((L.map (·.1)).getD i []).map V.int))
   rw [e5,e6]; exact h4)
def Jgk (K:W.Frag):List V→Hp→VK→Prop:=fun xs H Q=>∃ x n t b,xs=[x,.ty n]∧Ld K H x t∧W.kitOne K t (.type n)=some b∧Q (.bl b) H
end
def P8 (p d:Addr):HO:=.ext fun h=>h.IsItemsView p d
theorem Lb {prog:Program} {w:World} (d:Addr) (hd:(d == sysModules)=false) :
 MeetsIn prog w (Builtin.«dict.items» ⟨[.ref d],[]⟩) (fun _ R s=>s.TypeIs (.ref d) "dict"∧R (.ok (.ret (.ref s.heap.objs.size))) { s with heap:=s.heap.push { cls:=.type "dict_items",data:=.fields #[.ref d] } }) :=
 .of_wp fun A R s ⟨ht,h⟩=>by
  unfold Builtin.«dict.items»
  refine wpAny_bind ?_
  unfold Builtin.Dict.noArgs
  refine wpAny_bind (wpAny_notOrdered_dict ht ?_)
  show wpAny _ _ (pure d) _ _ s
  refine wpAny_pure ?_
  show wpAny _ _ (Builtin.Dict.showsAll d >>= _) _ _ s
  unfold Builtin.Dict.showsAll
  rw [if_neg (by rw [hd]; exact Bool.false_ne_true)]
  refine wpAny_bind (wpAny_pure ?_)
  exact wpAny_bind (wpAny_newObj_type (wpAny_pure ⟨_,rfl,h⟩))
section
variable {X:Cx}
theorem Yc:MtR X "dict.items" (fun x xs H Q=>∃ d kvs,x=.ref d∧xs=[]∧H d=some (.dT kvs)∧∀ p,H p=none→Q (.ref p) (upd H p (P8 p d))):=by
 intro pins s σ H x xs v us Q I rx rs h
 obtain ⟨d,kvs,rfl,rfl,hd,q⟩:=h
 cases rx
 cases rs
 obtain ⟨z,lo,ys,rel,o,es,ep,g1,g2,g3,g4,g5⟩:=(show ObjOk X.prog X.w H s.heap d (.dT kvs) from I.hok d _ hd)
 refine PySem.call_meetsIn PySem.F.slot_dict_items ⟨o,g1,g2.1⟩ PySem.F.entry_dict_items (PySem.F.args_dict_items_1 _) (Lb d lo) ⟨⟨o,g1,g2.1⟩,?_⟩
 have hn:H s.heap.objs.size=none:=I.hok.fresh (Nat.le_refl _)
 refine ⟨.ref s.heap.objs.size,_,I.laid (a:=s.heap.objs.size) (o:=P8 s.heap.objs.size d) (t':=s.toks) (fun b o e=>Heap.get?_push_of_some _ e) (Nat.le_refl _) ?_,rfl,q _ hn⟩
 have g:(s.heap.push { cls:=.type "dict_items",data:=.fields #[.ref d] }).get? s.heap.objs.size=some { cls:=.type "dict_items",data:=.fields #[.ref d] }:=Heap.get?_push_size _ rfl
 exact ⟨⟨_,g,rfl,rfl⟩,⟨_,g⟩,fun h1 h2 ⟨o,e,r⟩ k=>⟨o,k o e,r⟩⟩
end
abbrev T2:=Int×Int
def tk (t:T2):List Key:=[.inl t.1,.inl t.2]
def tv (t:T2):List V:=[.int t.1,.int t.2]
theorem Ql (t:T2):(tk t).map kV=tv t:=rfl
theorem Se {a b:T2} (h:tk a=tk b):a=b:=by
 obtain ⟨a1,a2⟩:=a
 obtain ⟨b1,b2⟩:=b
 unfold tk at h
 simp only [List.cons.injEq,Sum.inl.injEq,and_true] at h
 rw [h.1,h.2]
structure HGh where
 num:Int
 made:Int
 ticks:Int
 h:Addr
 o:Addr
 l:Addr
 r:Addr
 hand:List T2
 outs:List (T2×Int)
 holds:List (T2×Addr×List T2)
 recs:List (T2×Int)
theorem Na {k:Str} {v:V} {r:List (Str×V)}:List.lookup k ((k,v) :: r)=some v:=by
 rw [List.lookup_cons]
 have:(k == k)=true:=beq_self_eq_true k
 rw [this]
theorem Cf {k j:Str} {v:V} {r:List (Str×V)} (h:¬ k=j):List.lookup k ((j,v) :: r)=List.lookup k r:=by
 rw [List.lookup_cons]
 have:(k == j)=false:=beq_eq_false_iff_ne.mpr h
 rw [this]
theorem Gq {f:Str} {v:V}:Bq f v []=[(f,v)]:=rfl
theorem Ja9 {f:Str} {v x:V} {r:List (Str×V)}:Bq f v ((f,x) :: r)=(f,v) :: r:=by
 show (if f=f then (f,v) :: r else (f,x) :: Bq f v r)=_
 rw [if_pos rfl]
theorem Cr {f k:Str} {v x:V} {r:List (Str×V)} (h:¬ k=f):Bq f v ((k,x) :: r)=(k,x) :: Bq f v r:=by
 show (if k=f then (k,v) :: r else (k,x) :: Bq f v r)=_
 rw [if_neg h]
theorem Fo:¬ (("number":Str)="made"):=by decide +kernel
theorem Hr:¬ (("number":Str)="ticks"):=by decide +kernel
theorem Oc:¬ (("number":Str)="hand"):=by decide +kernel
theorem Ob:¬ (("number":Str)="outs"):=by decide +kernel
theorem Mu:¬ (("number":Str)="holds"):=by decide +kernel
theorem Ko:¬ (("number":Str)="records"):=by decide +kernel
theorem Od:¬ (("made":Str)="number"):=by decide +kernel
theorem Dp:¬ (("made":Str)="ticks"):=by decide +kernel
theorem Re:¬ (("made":Str)="hand"):=by decide +kernel
theorem Rc:¬ (("made":Str)="outs"):=by decide +kernel
theorem P1:¬ (("made":Str)="holds"):=by decide +kernel
theorem Mv:¬ (("made":Str)="records"):=by decide +kernel
theorem Mq:¬ (("ticks":Str)="number"):=by decide +kernel
theorem Jy:¬ (("ticks":Str)="made"):=by decide +kernel
theorem Pz:¬ (("ticks":Str)="hand"):=by decide +kernel
theorem Py:¬ (("ticks":Str)="outs"):=by decide +kernel
theorem N7:¬ (("ticks":Str)="holds"):=by decide +kernel
theorem K9:¬ (("ticks":Str)="records"):=by decide +kernel
theorem Oe:¬ (("hand":Str)="number"):=by decide +kernel
theorem Fj:¬ (("hand":Str)="made"):=by decide +kernel
theorem Ep:¬ (("hand":Str)="ticks"):=by decide +kernel
theorem Ht:¬ (("hand":Str)="outs"):=by decide +kernel
theorem Gv:¬ (("hand":Str)="holds"):=by decide +kernel
theorem E5:¬ (("hand":Str)="records"):=by decide +kernel
theorem Oa:¬ (("outs":Str)="number"):=by decide +kernel
theorem Fi:¬ (("outs":Str)="made"):=by decide +kernel
theorem En:¬ (("outs":Str)="ticks"):=by decide +kernel
theorem Rb:¬ (("outs":Str)="hand"):=by decide +kernel
theorem P0:¬ (("outs":Str)="holds"):=by decide +kernel
theorem E4:¬ (("outs":Str)="records"):=by decide +kernel
theorem Mw:¬ (("holds":Str)="number"):=by decide +kernel
theorem Eo:¬ (("holds":Str)="made"):=by decide +kernel
theorem Dz:¬ (("holds":Str)="ticks"):=by decide +kernel
theorem P2:¬ (("holds":Str)="hand"):=by decide +kernel
theorem Gu:¬ (("holds":Str)="outs"):=by decide +kernel
theorem Ef:¬ (("holds":Str)="records"):=by decide +kernel
theorem Kn:¬ (("records":Str)="number"):=by decide +kernel
theorem Do:¬ (("records":Str)="made"):=by decide +kernel
theorem Dc:¬ (("records":Str)="ticks"):=by decide +kernel
theorem Mt:¬ (("records":Str)="hand"):=by decide +kernel
theorem Mr:¬ (("records":Str)="outs"):=by decide +kernel
theorem La:¬ (("records":Str)="holds"):=by decide +kernel
def Bx (G:HGh):List (Str×V):=[("number",.int G.num),("made",.int G.made),("ticks",.int G.ticks),("hand",.ref G.h),("outs",.ref G.o),("holds",.ref G.l),("records",.ref G.r)]
theorem O2 (G:HGh):(Bx G).lookup ("number":Str)=some (.int G.num):=by
 unfold Bx
 rw [Na]
theorem Ux (G:HGh):(Bx G).lookup ("made":Str)=some (.int G.made):=by
 unfold Bx
 rw [Cf Od,Na]
theorem B5 (G:HGh):(Bx G).lookup ("ticks":Str)=some (.int G.ticks):=by
 unfold Bx
 rw [Cf Mq,Cf Jy,Na]
theorem Et (G:HGh):(Bx G).lookup ("hand":Str)=some (.ref G.h):=by
 unfold Bx
 rw [Cf Oe,Cf Fj,Cf Ep,Na]
theorem Cg (G:HGh):(Bx G).lookup ("outs":Str)=some (.ref G.o):=by
 unfold Bx
 rw [Cf Oa,Cf Fi,Cf En,Cf Rb,Na]
theorem C7 (G:HGh):(Bx G).lookup ("holds":Str)=some (.ref G.l):=by
 unfold Bx
 rw [Cf Mw,Cf Eo,Cf Dz,Cf P2,Cf Gu,Na]
theorem Ck (G:HGh):(Bx G).lookup ("records":Str)=some (.ref G.r):=by
 unfold Bx
 rw [Cf Kn,Cf Do,Cf Dc,Cf Mt,Cf Mr,Cf La,Na]
theorem Rr (G:HGh) (y:Int):Bq "made" (.int y) (Bx G)=Bx { G with made:=y }:=by
 unfold Bx
 rw [Cr Fo,Ja9]
theorem Bh (G:HGh) (y:Int):Bq "ticks" (.int y) (Bx G)=Bx { G with ticks:=y }:=by
 unfold Bx
 rw [Cr Hr,Cr Dp,Ja9]
theorem Jcr (G:HGh):Bq "records" (.ref G.r) (Bq "holds" (.ref G.l) (Bq "outs" (.ref G.o) (Bq "hand" (.ref G.h) (Bq "ticks" (.int G.ticks) (Bq "made" (.int G.made) (Bq "number" (.int G.num) []))))))=Bx G:=by
 unfold Bx
 rw [Gq]
 rw [Cr Fo,Gq]
 rw [Cr Hr,Cr Dp,Gq]
 rw [Cr Oc,Cr Re,Cr Pz,Gq]
 rw [Cr Ob,Cr Rc,Cr Py,Cr Ht,Gq]
 rw [Cr Mu,Cr P1,Cr N7,Cr Gv,Cr P0,Gq]
 rw [Cr Ko,Cr Mv,Cr K9,Cr E5,Cr E4,Cr Ef,Gq]
theorem Bz (G:HGh) {m:Str} (h:(["number","made","ticks","hand","outs","holds","records"]:List Str).contains m=false):(Bx G).lookup m=none:=by
 simp only [List.contains_cons,Bool.or_eq_false_iff,beq_eq_false_iff_ne] at h
 obtain ⟨h1,h2,h3,h4,h5,h6,h7,_⟩:=h
 unfold Bx
 rw [Cf h1,Cf h2,Cf h3,Cf h4,Cf h5,Cf h6,Cf h7]
 rfl
theorem Cy (G:HGh):(Bx G).length < 1000:=by show 7 < 1000; decide
def Bi (l:List T2):HO:=.dT (l.map fun t=>(tk t,V.bl true))
def Bs (l:List (T2×Int)):HO:=.dT (l.map fun q=>(tk q.1,V.int q.2))
def B6 (l:List (T2×Addr×List T2)):HO:=.dT (l.map fun q=>(tk q.1,V.ref q.2.1))
theorem Ct {α:Type} (l:List α) (k:α→T2) (f:α→V) (t:T2):Cp (l.map fun q=>(tk (k q),f q)) (tk t)=(l.find? fun q=>decide (k q=t)).map f:=by
 unfold Cp
 rw [List.find?_map,Option.map_map]
 congr 1
 congr 1
 funext q
 show decide (tk (k q)=tk t)=decide (k q=t)
 by_cases e:k q=t
 ·rw [e]; simp
 ·rw [decide_eq_false e,decide_eq_false fun z=>e (Se z)]
theorem Pl {α:Type} {l:List α} {k:α→T2} {f:α→V} {t:T2} (h:∀ q∈l,k q≠t):Cp (l.map fun q=>(tk (k q),f q)) (tk t)=none:=by
 rw [Ct,List.find?_eq_none.mpr fun q hq=>by simpa using h q hq]
 rfl
theorem Gm {α:Type} {l:List α} {k:α→T2} {f:α→V} {t:T2} (v:V) (h:∀ q∈l,k q≠t):putK (l.map fun q=>(tk (k q),f q)) (tk t) v=(l.map fun q=>(tk (k q),f q))++[(tk t,v)]:=D4 v (Pl h)
def Am (G:HGh):List Addr:=G.h :: G.o :: G.l :: G.r :: G.holds.map (·.2.1)
structure HouseAt (C:Addr) (H:Hp) (p:Addr) (G:HGh):Prop where
 ob:∃ dx,H p=some (.ins C dx (Bx G))
 dh:H G.h=some (Bi G.hand)
 dO:H G.o=some (Bs G.outs)
 dl:H G.l=some (B6 G.holds)
 dr:H G.r=some (Bs G.recs)
 hl:∀ q∈G.holds,H q.2.1=some (Bi q.2.2)
 nd:(Am G).Nodup
def HFr (p:Addr) (G:HGh) (H H':Hp):Prop:=∀ b o,H b=some o→b≠p→b∉Am G→H' b=some o
section
variable {C p:Addr} {H H':Hp} {G:HGh}
theorem HouseAt.keep (x:HouseAt C H p G) (k:∀ b o,(b=p∨b∈Am G)→H b=some o→H' b=some o):HouseAt C H' p G:=by
 have m0:G.h∈Am G:=by simp [Am]
 have m1:G.o∈Am G:=by simp [Am]
 have m2:G.l∈Am G:=by simp [Am]
 have m3:G.r∈Am G:=by simp [Am]
 refine ⟨let ⟨dx,e⟩:=x.ob; ⟨dx,k _ _ (.inl rfl) e⟩,k _ _ (.inr m0) x.dh,k _ _ (.inr m1) x.dO,k _ _ (.inr m2) x.dl,k _ _ (.inr m3) x.dr,fun q hq=>k _ _ (.inr ?_) (x.hl q hq),x.nd⟩
 unfold Am
 exact List.mem_cons_of_mem _ (List.mem_cons_of_mem _ (List.mem_cons_of_mem _ (List.mem_cons_of_mem _ (List.mem_map_of_mem hq))))
theorem HouseAt.same (x:HouseAt C H p G) (s:B1 H H'):HouseAt C H' p G:=x.keep fun b o _ e=>s b o e
theorem HouseAt.foot_dT (x:HouseAt C H p G) {b:Addr} (hb:b∈Am G):∃ kvs,H b=some (.dT kvs):=by
 unfold Am at hb
 rcases List.mem_cons.mp hb with rfl | hb
 ·exact ⟨_,x.dh⟩
 rcases List.mem_cons.mp hb with rfl | hb
 ·exact ⟨_,x.dO⟩
 rcases List.mem_cons.mp hb with rfl | hb
 ·exact ⟨_,x.dl⟩
 rcases List.mem_cons.mp hb with rfl | hb
 ·exact ⟨_,x.dr⟩
 obtain ⟨q,hq,e⟩:=List.mem_map.mp hb
 rw [← e]
 exact ⟨_,x.hl q hq⟩
theorem HouseAt.p_ne (x:HouseAt C H p G) {b:Addr} (hb:b∈Am G):b≠p:=by
 obtain ⟨kvs,e⟩:=x.foot_dT hb
 obtain ⟨dx,e'⟩:=x.ob
 exact Il e e' (by intro z; cases z)
theorem HouseAt.tup_ne (x:HouseAt C H p G) {b:Addr} {xs:List V} (hb:H b=some (.tup xs)):b≠p∧b∉Am G:=by
 obtain ⟨dx,e'⟩:=x.ob
 refine ⟨Il hb e' (by intro z; cases z),fun m=>?_⟩
 obtain ⟨kvs,e⟩:=x.foot_dT m
 rw [hb] at e; cases e
theorem HouseAt.lst_ne (x:HouseAt C H p G) {b:Addr} {xs:List V} (hb:H b=some (.lst xs)):b≠p∧b∉Am G:=by
 obtain ⟨dx,e'⟩:=x.ob
 refine ⟨Il hb e' (by intro z; cases z),fun m=>?_⟩
 obtain ⟨kvs,e⟩:=x.foot_dT m
 rw [hb] at e; cases e
theorem HouseAt.frz_ne (x:HouseAt C H p G) {b:Addr} {ob:Obj} {u:HO} (hb:H b=some (.frz ob u)):b≠p∧b∉Am G:=by
 obtain ⟨dx,e'⟩:=x.ob
 refine ⟨Il hb e' (by intro z; cases z),fun m=>?_⟩
 obtain ⟨kvs,e⟩:=x.foot_dT m
 rw [hb] at e; cases e
theorem HFr.keepT (x:HouseAt C H p G) (f:HFr p G H H'):KeepT H H' :=
 ⟨fun a xs e=>f a _ e (x.tup_ne e).1 (x.tup_ne e).2,fun a ob u e=>f a _ e (x.frz_ne e).1 (x.frz_ne e).2⟩
theorem HouseAt.nds (x:HouseAt C H p G):(G.h≠G.o∧G.h≠G.l∧G.h≠G.r)∧(G.o≠G.l∧G.o≠G.r)∧G.l≠G.r∧∀ q∈G.holds,q.2.1≠G.h∧q.2.1≠G.o∧q.2.1≠G.l∧q.2.1≠G.r:=by
 have nd:=x.nd
 unfold Am at nd
 simp only [List.nodup_cons,List.mem_cons,not_or] at nd
 obtain ⟨⟨a1,a2,a3,a4⟩,⟨b1,b2,b3⟩,⟨c1,c2⟩,d1,_⟩:=nd
 refine ⟨⟨a1,a2,a3⟩,⟨b1,b2⟩,c1,fun q hq=>?_⟩
 have m:q.2.1∈G.holds.map (·.2.1):=List.mem_map_of_mem hq
 exact ⟨fun z=>a4 (z ▸ m),fun z=>b3 (z ▸ m),fun z=>c2 (z ▸ m),fun z=>d1 (z ▸ m)⟩
theorem HouseAt.fld (x:HouseAt C H p G) (dx:Addr) (m t:Int):HouseAt C (upd H p (.ins C dx (Bx { G with made:=m,ticks:=t }))) p { G with made:=m,ticks:=t }:=by
 have n:∀ {b},b∈Am G→b≠p:=fun hb=>x.p_ne hb
 have m0:G.h∈Am G:=by simp [Am]
 have m1:G.o∈Am G:=by simp [Am]
 have m2:G.l∈Am G:=by simp [Am]
 have m3:G.r∈Am G:=by simp [Am]
 refine ⟨⟨dx,Ab⟩,by rw [Ac (n m0)]; exact x.dh,by rw [Ac (n m1)]; exact x.dO,by rw [Ac (n m2)]; exact x.dl,by rw [Ac (n m3)]; exact x.dr,fun q hq=>?_,x.nd⟩
 rw [Ac (n (by unfold Am; exact List.mem_cons_of_mem _ (List.mem_cons_of_mem _ (List.mem_cons_of_mem _ (List.mem_cons_of_mem _ (List.mem_map_of_mem hq))))))]
 exact x.hl q hq
theorem HouseAt.setOuts (x:HouseAt C H p G) (l:List (T2×Int)):HouseAt C (upd H G.o (Bs l)) p { G with outs:=l }:=by
 obtain ⟨⟨a1,a2,a3⟩,⟨b1,b2⟩,c1,d1⟩:=x.nds
 have np:=x.p_ne (b:=G.o) (by simp [Am])
 obtain ⟨dx,e⟩:=x.ob
 exact ⟨⟨dx,by rw [Ac np.symm]; exact e⟩,by rw [Ac a1]; exact x.dh,Ab,by rw [Ac b1.symm]; exact x.dl,by rw [Ac b2.symm]; exact x.dr,fun q hq=>by rw [Ac (d1 q hq).2.1]; exact x.hl q hq,x.nd⟩
theorem HouseAt.setHand (x:HouseAt C H p G) (l:List T2):HouseAt C (upd H G.h (Bi l)) p { G with hand:=l }:=by
 obtain ⟨⟨a1,a2,a3⟩,⟨b1,b2⟩,c1,d1⟩:=x.nds
 have np:=x.p_ne (b:=G.h) (by simp [Am])
 obtain ⟨dx,e⟩:=x.ob
 exact ⟨⟨dx,by rw [Ac np.symm]; exact e⟩,Ab,by rw [Ac a1.symm]; exact x.dO,by rw [Ac a2.symm]; exact x.dl,by rw [Ac a3.symm]; exact x.dr,fun q hq=>by rw [Ac (d1 q hq).1]; exact x.hl q hq,x.nd⟩
theorem HouseAt.setRecs (x:HouseAt C H p G) (l:List (T2×Int)):HouseAt C (upd H G.r (Bs l)) p { G with recs:=l }:=by
 obtain ⟨⟨a1,a2,a3⟩,⟨b1,b2⟩,c1,d1⟩:=x.nds
 have np:=x.p_ne (b:=G.r) (by simp [Am])
 obtain ⟨dx,e⟩:=x.ob
 exact ⟨⟨dx,by rw [Ac np.symm]; exact e⟩,by rw [Ac a3]; exact x.dh,by rw [Ac b2]; exact x.dO,by rw [Ac c1]; exact x.dl,Ab,fun q hq=>by rw [Ac (d1 q hq).2.2.2]; exact x.hl q hq,x.nd⟩
theorem HouseAt.addHold (x:HouseAt C H p G) (t:T2) {a:Addr} (ha:H a=some (Bi [])) (hf:a∉Am G):HouseAt C (upd H G.l (B6 (G.holds++[(t,a,[])]))) p { G with holds:=G.holds++[(t,a,[])] }:=by
 obtain ⟨⟨a1,a2,a3⟩,⟨b1,b2⟩,c1,d1⟩:=x.nds
 have np:=x.p_ne (b:=G.l) (by simp [Am])
 obtain ⟨dx,e⟩:=x.ob
 refine ⟨⟨dx,by rw [Ac np.symm]; exact e⟩,by rw [Ac a2]; exact x.dh,by rw [Ac b1]; exact x.dO,Ab,by rw [Ac c1.symm]; exact x.dr,fun q hq=>?_,?_⟩
 ·rcases List.mem_append.mp hq with hq | hq
  ·rw [Ac (d1 q hq).2.2.1]; exact x.hl q hq
  ·have e2:q=(t,a,[]):=by simpa using hq
   subst e2
   have:a≠G.l:=fun z=>hf (by rw [z]; simp [Am])
   rw [Ac this]; exact ha
 ·have e2:Am { G with holds:=G.holds++[(t,a,[])] }=Am G++[a]:=by simp [Am]
  rw [e2]
  exact Fh x.nd hf
end
def thD (t:T2):PyData:=.tuple [.int t.1,.int t.2]
def Ik (q:T2×Int×List T2):PyData:=.tuple [thD q.1,.int q.2.1,.tuple (q.2.2.map thD)]
def Kk (q:T2×Int):PyData:=.tuple [thD q.1,.int q.2]
def stD (hs:List T2) (os:List (T2×Int×List T2)) (rs:List (T2×Int)):PyData:=.tuple [.tuple (hs.map thD),.tuple (os.map Ik),.tuple (rs.map Kk)]
theorem Fl (t:T2):(thD t).canLay0=true∧(thD t).depth≤2:=by
 unfold thD
 constructor
 ·simp [PyData.canLay0,PyData.canLayAll0]
 ·simp [PyData.depth,PyData.depthAll]
theorem X5 {α:Type} {f:α→PyData} {n:Nat} (h:∀ x,(f x).canLay0=true∧(f x).depth≤n):∀ l:List α,PyData.canLayAll0 (l.map f)=true∧PyData.depthAll (l.map f)≤n
 | []=>⟨by simp [PyData.canLayAll0],by simp [PyData.depthAll]⟩
 | x :: l=>by
   obtain ⟨a,b⟩:=X5 h l
   obtain ⟨c,d⟩:=h x
   exact ⟨by simp [PyData.canLayAll0,a,c],by simp only [List.map_cons,PyData.depthAll]; lia⟩
theorem Po {α:Type} {f:α→PyData} {n:Nat} (h:∀ x,(f x).canLay0=true∧(f x).depth≤n) (l:List α):(PyData.tuple (l.map f)).canLay0=true∧(PyData.tuple (l.map f)).depth≤n + 1:=by
 obtain ⟨a,b⟩:=X5 h l
 exact ⟨by simp only [PyData.canLay0]; exact a,by simp only [PyData.depth]; lia⟩
theorem Zj (q:T2×Int×List T2):(Ik q).canLay0=true∧(Ik q).depth≤5:=by
 obtain ⟨a,b⟩:=Fl q.1
 obtain ⟨c,d⟩:=Po Fl q.2.2
 unfold Ik
 exact ⟨by simp [PyData.canLay0,PyData.canLayAll0,a,c] at *; simp [a,c],by simp only [PyData.depth,PyData.depthAll] at *; lia⟩
theorem Ug (q:T2×Int):(Kk q).canLay0=true∧(Kk q).depth≤5:=by
 obtain ⟨a,b⟩:=Fl q.1
 unfold Kk
 exact ⟨by simp [PyData.canLay0,PyData.canLayAll0,a],by simp only [PyData.depth,PyData.depthAll] at *; lia⟩
theorem Wu (hs:List T2) (os:List (T2×Int×List T2)) (rs:List (T2×Int)):(stD hs os rs).canLay0=true∧(stD hs os rs).depth≤20:=by
 obtain ⟨a,b⟩:=Po Fl hs
 obtain ⟨c,d⟩:=Po Zj os
 obtain ⟨e,f⟩:=Po Ug rs
 unfold stD
 refine ⟨?_,?_⟩
 ·rw [PyData.canLay0,PyData.canLayAll0,PyData.canLayAll0,PyData.canLayAll0,PyData.canLayAll0,a,c,e]; rfl
 ·rw [PyData.depth,PyData.depthAll,PyData.depthAll,PyData.depthAll,PyData.depthAll]; lia
theorem Tt (hs:List T2) (os:List (T2×Int×List T2)) (rs:List (T2×Int)):Okd (stD hs os rs):=⟨(Wu hs os rs).1,Nat.le_trans (Wu hs os rs).2 (by decide)⟩
theorem Ts (t:T2):Okd (thD t):=⟨(Fl t).1,Nat.le_trans (Fl t).2 (by decide)⟩
def ThsAt (H:Hp):List Addr→List T2→Prop:=Paired fun a t=>H a=some (.tup (tv t))
theorem Hf {K:W.Frag} {H:Hp} {a:Addr} {t:T2} (e:H a=some (.tup (tv t))):RepT K H (.ref a) (thD t):=.tupP (SqT.of e) (.cons (.int _) (.cons (.int _) .nil))
theorem Ic {K:W.Frag} {H:Hp}:∀ {as:List Addr} {ts:List T2},ThsAt H as ts→Paired (RepT K H) (as.map V.ref) (ts.map thD)
 | _,_,.nil=>.nil
 | _,_,.cons e t=>.cons (Hf e) (Ic t)
def lt2 (a b:T2):Prop:=HT.lexLt [a.1,a.2] [b.1,b.2]=true
theorem Er (a b:T2):lt2 a b↔(a.1 < b.1∨(a.1=b.1∧a.2 < b.2)):=by
 unfold lt2
 rw [HT.lexLt_cons,HT.lexLt_cons]
 by_cases h1:a.1=b.1
 ·rw [if_pos h1]
  by_cases h2:a.2=b.2
  ·rw [if_pos h2,HT.lexLt_nil_nil]
   constructor
   ·intro z; cases z
   ·intro z; lia
  ·rw [if_neg h2]
   constructor
   ·intro z; exact .inr ⟨h1,of_decide_eq_true z⟩
   ·intro z; exact decide_eq_true (by lia)
 ·rw [if_neg h1]
  constructor
  ·intro z; exact .inl (of_decide_eq_true z)
  ·intro z; exact decide_eq_true (by lia)
section
variable {X:Cx}
theorem Bp (hc:X.calm=true):E8 X (.builtin "sorted") (fun xs H Q=>∃ d,∃ l:List (T2×V),∃ ss:List T2,xs=[.ref d]∧Rd H d (.dT (l.map fun q=>(tk q.1,q.2)))∧l.length < 64∧ss.Perm (l.map (·.1))∧ss.Pairwise lt2 ∧
 ∀ (r:Addr) (as:List Addr),H r=none→ThsAt H as ss→Q (.ref r) (upd H r (.lst (as.map V.ref)))):=by
 intro pins s σ H xs us Q I rv h
 obtain ⟨d,l,ss,rfl,hd,h64,pm,pw,q⟩:=h
 refine Ky hc pins s σ H _ us Q I rv ⟨d,l.map fun q=>([q.1.1,q.1.2],q.2),rfl,?_,by rw [List.length_map]; exact h64,?_,?_,fun r M hr mp mw ma=>?_⟩
 ·have e:((l.map fun q=>(([q.1.1,q.1.2]:List Int),q.2)).map fun p=>((p.1.map Sum.inl:List Key),p.2))=l.map fun q=>(tk q.1,q.2):=by
   rw [List.map_map]; rfl
  rw [e]; exact hd
 ·have nd:ss.Nodup:=pw.imp fun {a b} h z=>by
   rw [Er,z] at h; lia
  have nd2:(l.map (·.1)).Nodup:=pm.nodup_iff.mp nd
  have e:(l.map fun q=>(([q.1.1,q.1.2]:List Int),q.2)).map (·.1)=(l.map (·.1)).map fun t=>[t.1,t.2]:=by
   rw [List.map_map,List.map_map]; rfl
  rw [e]
  exact List.Pairwise.map _ (fun a b h z=>h (by obtain ⟨a1,a2⟩:=a; obtain ⟨b1,b2⟩:=b; simp at z; rw [z.1,z.2])) nd2
 ·intro p hp
  obtain ⟨q,_,e⟩:=List.mem_map.mp hp
  rw [← e]; simp
 ·have e:(l.map fun q=>(([q.1.1,q.1.2]:List Int),q.2)).map (·.1)=(l.map (·.1)).map fun t=>[t.1,t.2]:=by
   rw [List.map_map,List.map_map]; rfl
  rw [e] at mp
  have e2:M.map (·.1)=ss.map fun t=>[t.1,t.2]:=by
   refine F9 (lt:=fun a b=>HT.lexLt a b=true) (fun a z=>by rw [Lj] at z; cases z) (fun a b h1 h2=>by have:=P5 h1 h2; rw [Lj] at this; cases this) (mp.trans (pm.symm.map _)) ?_ ?_
   ·rw [List.pairwise_map]; exact mw
   ·rw [List.pairwise_map]; exact pw
  have hl:M.length=ss.length:=by have:=congrArg List.length e2; simpa using this
  have e3:(M.map fun p=>V.ref p.2)=(M.map (·.2)).map V.ref:=by rw [List.map_map]; rfl
  rw [e3]
  refine q r _ hr (Cz (by rw [List.length_map]; exact hl) fun j a t e4 e5=>?_)
  rw [List.getElem?_map] at e4
  cases hm:M[j]? with
  | none=>rw [hm] at e4; cases e4
  | some m =>
    rw [hm] at e4
    cases e4
    have e6:(M.map (·.1))[j]?=some m.1:=by rw [List.getElem?_map,hm]; rfl
    rw [e2,List.getElem?_map,e5] at e6
    have e7:[t.1,t.2]=m.1:=Option.some.inj e6
    have:=ma m (List.mem_of_getElem? hm)
    rw [← e7] at this
    exact this
end
theorem Uy {H:Hp} {d:Addr} {l:List T2} (h:H d=some (Bi l)):Rd H d (.dT ((l.map fun t=>(t,V.bl true)).map fun q=>(tk q.1,q.2))):=by
 have e:((l.map fun t=>(t,V.bl true)).map fun q=>(tk q.1,q.2))=l.map fun t=>(tk t,V.bl true):=by rw [List.map_map]; rfl
 rw [e]; exact .inl h
theorem P9 {H:Hp} {d:Addr} {l:List (T2×Int)} (h:H d=some (Bs l)):Rd H d (.dT ((l.map fun q=>(q.1,V.int q.2)).map fun q=>(tk q.1,q.2))):=by
 have e:((l.map fun q=>(q.1,V.int q.2)).map fun q=>(tk q.1,q.2))=l.map fun q=>(tk q.1,V.int q.2):=by rw [List.map_map]; rfl
 rw [e]; exact .inl h
theorem F5 {K:W.Frag} {a p:Addr} {xs:List V} {tt:TT} {te:TE} {caps:List (Str×Nat)} {σ:L2.St} {H:Hp} {Q:Hp→Prop} (Pv:Nat→List V→Hp→Prop) (h0:Pv 0 [] (upd H p (.lst [])))
 (hl:∀ i ys H2,i≤xs.length→Pv i ys H2→SqL K H2 a xs∧H2 p=some (.lst ys))
 (hs:∀ i x ys H2 (N:List V→Hp→Prop),xs[i]?=some x→Pv i ys H2→(∀ ys H,Pv (i + 1) ys H→N ys H)→tt (some x :: Ea σ caps) H2 fun b H4 =>
  if b=true then te (some x :: Ea σ caps) H4 fun v H5=>H5 p=some (.lst ys)∧ys.length < sizeLine∧N (ys++[v]) (upd H5 p (.lst (ys++[v]))) else N ys H4)
 (hd:∀ ys H2,Pv xs.length ys H2→Q H2) :
 ∃ W:Nat→Nat→List V→Hp→Prop,(∃ m,W 0 m [] (upd H p (.lst [])))∧∀ i m ys H2,W i m ys H2→H2 p=some (.lst ys) ∧
  (((Itl K a).stop i H2∧Q H2)∨((Itl K a).go i H2∧∀ x H3,(Itl K a).yld i H2 x H3→tt (some x :: Ea σ caps) H3 fun b H4 =>
    if b=true then te (some x :: Ea σ caps) H4 fun v H5=>H5 p=some (.lst ys)∧ys.length < sizeLine∧∃ m',m' < m∧W (i + 1) m' (ys++[v]) (upd H5 p (.lst (ys++[v])))
    else ∃ m',m' < m∧W (i + 1) m' ys H4)):=by
 refine ⟨fun i m ys H=>m=xs.length - i∧i≤xs.length∧Pv i ys H,⟨xs.length,by simp,Nat.zero_le _,h0⟩,?_⟩
 rintro i m ys H2 ⟨rfl,hi,pv⟩
 obtain ⟨q1,q2⟩:=hl i ys H2 hi pv
 refine ⟨q2,?_⟩
 by_cases hlt:i < xs.length
 ·refine .inr ⟨⟨xs,xs[i],q1,by simp [hlt]⟩,fun x H3 y=>?_⟩
  obtain ⟨e,y⟩:=y
  subst e
  exact hs i x ys _ (fun zs H'=>∃ m',m' < xs.length - i∧(m'=xs.length - (i + 1)∧i + 1≤xs.length∧Pv (i + 1) zs H')) (y xs q1) pv fun zs H' pz=>⟨_,by lia,rfl,hlt,pz⟩
 ·have e:i=xs.length:=by lia
  subst e
  exact .inl ⟨⟨xs,q1,Nat.le_refl _⟩,hd ys H2 pv⟩
theorem To {lo:Int} {n:Nat} {p:Addr} {tt:TT} {te:TE} {caps:List (Str×Nat)} {σ:L2.St} {H:Hp} {Q:Hp→Prop} (Pv:Nat→List V→Hp→Prop) (h0:Pv 0 [] (upd H p (.lst [])))
 (hl:∀ i ys H2,i≤n→Pv i ys H2→H2 p=some (.lst ys))
 (hs:∀ i ys H2 (N:List V→Hp→Prop),i < n→Pv i ys H2→(∀ ys H,Pv (i + 1) ys H→N ys H)→tt (some (.int (lo + i)) :: Ea σ caps) H2 fun b H4 =>
  if b=true then te (some (.int (lo + i)) :: Ea σ caps) H4 fun v H5=>H5 p=some (.lst ys)∧ys.length < sizeLine∧N (ys++[v]) (upd H5 p (.lst (ys++[v]))) else N ys H4)
 (hd:∀ ys H2,Pv n ys H2→Q H2) :
 ∃ W:Nat→Nat→List V→Hp→Prop,(∃ m,W 0 m [] (upd H p (.lst [])))∧∀ i m ys H2,W i m ys H2→H2 p=some (.lst ys) ∧
  (((Itr lo n).stop i H2∧Q H2)∨((Itr lo n).go i H2∧∀ x H3,(Itr lo n).yld i H2 x H3→tt (some x :: Ea σ caps) H3 fun b H4 =>
    if b=true then te (some x :: Ea σ caps) H4 fun v H5=>H5 p=some (.lst ys)∧ys.length < sizeLine∧∃ m',m' < m∧W (i + 1) m' (ys++[v]) (upd H5 p (.lst (ys++[v])))
    else ∃ m',m' < m∧W (i + 1) m' ys H4)):=by
 refine ⟨fun i m ys H=>m=n - i∧i≤n∧Pv i ys H,⟨n,by simp,Nat.zero_le _,h0⟩,?_⟩
 rintro i m ys H2 ⟨rfl,hi,pv⟩
 refine ⟨hl i ys H2 hi pv,?_⟩
 by_cases hlt:i < n
 ·refine .inr ⟨hlt,fun x H3 y=>?_⟩
  obtain ⟨e,y⟩:=y
  subst e y
  exact hs i ys _ (fun zs H'=>∃ m',m' < n - i∧(m'=n - (i + 1)∧i + 1≤n∧Pv (i + 1) zs H')) hlt pv fun zs H' pz=>⟨_,by lia,rfl,hlt,pz⟩
 ·have e:i=n:=by lia
  subst e
  exact .inl ⟨Nat.le_refl _,hd ys H2 pv⟩
def XAt (h:Heap) (g:Addr→Prop) (e:Addr) (cls:Value):Prop:=g e∧∃ oe vs a0,h.get? e=some oe∧oe.cls=cls∧oe.data=.fields vs∧vs[0]?=some a0 ∧
 (vs[1]?=some .none∨∃ T oT ts,vs[1]?=some (.ref T)∧g T∧T≠e∧h.get? T=some oT∧oT.data=.fields ts∧ts[3]?=some .none)
theorem XAt.mono {h:Heap} {g g':Addr→Prop} {e:Addr} {cls:Value} (x:XAt h g e cls) (k:∀ b,g b→g' b):XAt h g' e cls:=by
 obtain ⟨g1,oe,vs,a0,h1,h2,h4,h5,h6⟩:=x
 refine ⟨k _ g1,oe,vs,a0,h1,h2,h4,h5,h6.imp (fun z=>z) ?_⟩
 rintro ⟨T,oT,ts,t1,t2,t3⟩
 exact ⟨T,oT,ts,t1,k _ t2,t3⟩
def XTr (h:Heap) (g:Addr→Prop) (e:Addr) (cls:Value):Prop:=g e∧∃ oe vs a0 T oT ts,h.get? e=some oe∧oe.cls=cls∧oe.data=.fields vs∧vs[0]?=some a0∧vs[1]?=some (.ref T)∧g T∧T≠e∧h.get? T=some oT∧oT.data=.fields ts∧ts[3]?=some .none
theorem XTr.at {h:Heap} {g:Addr→Prop} {e:Addr} {cls:Value} (x:XTr h g e cls):XAt h g e cls:=by
 obtain ⟨g1,oe,vs,a0,T,oT,ts,h1,h2,h3,h4,h5⟩:=x
 exact ⟨g1,oe,vs,a0,h1,h2,h3,h4,.inr ⟨T,oT,ts,h5⟩⟩
def CX1 (P:Program) (w:World):CXT:=fun outer H s E e s'=>∃ ex cls H',e=.ref ex∧XTr s'.heap (fun b=>s.heap.get? b=none∧H' b=none) ex cls∧E cls none H'∧s'.os=s.os∧AllBare s'.gens∧Un (frs outer) [] H H' s.heap s'.heap∧HOk P w H' s'.heap
theorem Ku {P:Program} {w:World} {H:Hp} {h:Heap} (ok:HOk P w H h) {a:Addr} {o:HO} (e:H a=some o):∃ ob,h.get? a=some ob:=by
 have x:=ok a o e
 cases o with
 | lst xs=>obtain ⟨_,_,_,_,e⟩:=x; exact ⟨_,e⟩
 | tup xs=>obtain ⟨_,_,_,o,e,_⟩:=x; exact ⟨_,e⟩
 | dK kvs=>obtain ⟨_,_,_,_,o,_,_,e,_⟩:=x; exact ⟨_,e⟩
 | dT kvs=>obtain ⟨_,_,_,_,o,_,_,e,_⟩:=x; exact ⟨_,e⟩
 | set S n=>obtain ⟨o,_,_,_,e,_⟩:=x; exact ⟨_,e⟩
 | ins C dx fs=>obtain ⟨_,_,_,e,_⟩:=x; exact ⟨_,e⟩
 | own y=>obtain ⟨_,e⟩:=x; exact ⟨_,e⟩
 | xd fs=>obtain ⟨_,⟨_,_,_,e,_⟩,_⟩:=x; exact ⟨_,e⟩
 | rng lo hi=>obtain ⟨_,_,_,e⟩:=x; exact ⟨_,e⟩
 | frz ob u=>obtain ⟨e,_⟩:=x; exact ⟨_,e⟩
 | tbl ps=>exact ⟨_,(show h.get? a=some _ from x)⟩
 | met f y=>exact ⟨_,(show h.get? a=some _ from x)⟩
 | ext φ=>obtain ⟨_,⟨_,e⟩,_⟩:=x; exact ⟨_,e⟩
structure Aside (fr:List Addr) (g:Addr→Prop) (h h':Heap):Prop where
 keep:∀ b o,h.get? b=some o→b∉fr→¬ g b→h'.get? b=some o
 slot:∀ b o,h.get? b=some o→b∈fr→∃ sl,h'.get? b=some { o with slots:=sl }
theorem Aside.trans {fr:List Addr} {g:Addr→Prop} {h h1 h2:Heap} (a:Aside fr g h h1) (b:Aside fr g h1 h2):Aside fr g h h2 :=
 ⟨fun c o e n1 n2=>b.keep c o (a.keep c o e n1 n2) n1 n2,fun c o e m=>by
  obtain ⟨sl,e1⟩:=a.slot c o e m
  obtain ⟨sl2,e2⟩:=b.slot c _ e1 m
  exact ⟨sl2,e2⟩⟩
section
variable {M:Model} {A:Around} {E:Value→Shared→Prop} {s:Shared} {base:Heap} {env:Env} {outer:List Env} {L e:Addr} {cls:Value} {g:Addr→Prop}
theorem Ny {h h':Heap} {Hd:List Addr} (hl:h.FunFrames base (env :: outer)) (hd:∀ b∈Hd,b∈frs (env :: outer)∨g b) (k1:(W.hideAll h Hd).StaysIn h') (k4:∀ b o,h.get? b=some o→(∀ vs,o.data≠.fields vs)→∃ sl,h'.get? b=some { o with slots:=sl }):Aside (frs (env :: outer)) g h h':=by
 refine ⟨fun b o e n1 n2=>k1 b o (W.hideAll_get _ e fun m=>?_),fun b o e m=>?_⟩
 ·rcases hd b m with z | z
  ·exact n1 z
  ·exact n2 z
 ·obtain ⟨_,o',e',hn⟩:=hl.mem m
  rw [e] at e'; cases e'
  exact k4 b o e hn
theorem Km {h h':Heap} {Hd:List Addr} {T:Addr} {oT:Obj} {ts:Array Value} (hl:h.FunFrames base (env :: outer)) (hd:∀ b∈Hd,b∈frs (env :: outer)∨g b) (k4:∀ b o,h.get? b=some o→(∀ vs,o.data≠.fields vs)→∃ sl,h'.get? b=some { o with slots:=sl })
 (hT:(W.hideAll h Hd).get? T=none) (eT:h'.get? T=some oT) (dT:oT.data=.fields ts) (fresh:∀ b,h.get? b=none→g b):g T:=by
 cases q:h.get? T with
 | none=>exact fresh T q
 | some o =>
   have m:T∈Hd:=by
    apply Classical.byContradiction
    intro n
    rw [W.hideAll_get _ q n] at hT
    cases hT
   rcases hd T m with z | z
   ·exfalso
    obtain ⟨_,o',e',hn⟩:=hl.mem z
    rw [q] at e'; cases e'
    obtain ⟨sl,e2⟩:=k4 T o q hn
    rw [eT] at e2
    cases e2
    exact hn ts dT
   ·exact z
theorem Kw {l:List Env}:∀ en∈l,∀ a,en.frame=some a→a∈frs l:=fun en he a ha=>List.mem_filterMap.mpr ⟨en,he,ha⟩
theorem Jaf {Q:Unit→Shared→Prop} (hfr:A.frames=some (env :: outer)) (hl:s.heap.FunFrames base (env :: outer)) (hf:env.frame=some L) (x:XAt s.heap g e cls) (fresh:∀ b,s.heap.get? b=none→g b)
 (h:∀ h',XTr h' g e cls→Aside (frs (env :: outer)) g s.heap h'→Q () { s with heap:=h' }):wpAny M A (leaving env (.ref e)) Q E s:=by
 obtain ⟨ge,oe,vs,a0,h1,h2,h3,h4,h5⟩:=x
 subst h2
 rcases h5 with h5 | ⟨T,oT,ts,t1,t2,t3,t4,t5,t6⟩
 ·have hd:∀ b∈frs (env :: outer)++[e],b∈frs (env :: outer)∨g b:=fun b hb=>by
   rcases List.mem_append.mp hb with z | z
   ·exact .inl z
   ·have:b=e:=by simpa using z
    rw [this]; exact .inr ge
  refine wpAny_leaving_firstW (base:=W.hideAll s.heap (frs (env :: outer)++[e])) (a0:=a0) hfr (W.funFrames_hide hl fun en he a ha=>List.mem_append_left _ (Kw en he a ha)) hf h1 (fun b o q=>W.of_hideAll _ q) (W.hideAll_none _ (by simp)) h3 h5 h4 fun h' hL=>?_
  obtain ⟨k1,k2,⟨oe',vs',T',oT',ts',b1,⟨b2,b3⟩,b4,b5,b6,b7,b8,b9,b10⟩,k4⟩:=hL
  exact h h' ⟨ge,oe',vs',a0,T',oT',ts',b1,b2,b4,b3,b5,Km hl hd k4 b6 b8 b9 fresh,b7,b8,b9,b10⟩ (Ny hl hd k1 k4)
 ·have hd:∀ b∈frs (env :: outer)++[e,T],b∈frs (env :: outer)∨g b:=fun b hb=>by
   rcases List.mem_append.mp hb with z | z
   ·exact .inl z
   ·have:b=e∨b=T:=by simpa using z
    rcases this with rfl | rfl
    ·exact .inr ge
    ·exact .inr t2
  refine wpAny_leaving_nextW (base:=W.hideAll s.heap (frs (env :: outer)++[e,T])) (cls:=oe.cls) (a0:=a0) hfr (W.funFrames_hide hl fun en he a ha=>List.mem_append_left _ (Kw en he a ha)) hf ⟨oe,vs,T,oT,ts,h1,⟨rfl,h4⟩,h3,t1,W.hideAll_none _ (by simp),t3,t4,t5,t6⟩
   (fun b o q=>W.of_hideAll _ q) (W.hideAll_none _ (by simp)) fun h' hL=>?_
  obtain ⟨k1,k2,⟨oe',vs',T',oT',ts',b1,⟨b2,b3⟩,b4,b5,b6,b7,b8,b9,b10⟩,k4⟩:=hL
  exact h h' ⟨ge,oe',vs',a0,T',oT',ts',b1,b2,b4,b3,b5,Km hl hd k4 b6 b8 b9 fresh,b7,b8,b9,b10⟩ (Ny hl hd k1 k4)
theorem Jcj {Q:Unit→Shared→Prop} (hfr:A.frames=some (env :: outer)) (hl:s.heap.FunFrames base (env :: outer)) (hf:env.frame=some L) (x:XTr s.heap g e cls) (fresh:∀ b,s.heap.get? b=none→g b)
 (h:∀ h',XTr h' g e cls→Aside (frs (env :: outer)) g s.heap h'→Q () { s with heap:=h' }):wpAny M A (noteFrame (.ref e) env) (fun _ s2=>wpAny M A (setFlight (.ref e) none) Q E s2) E s:=by
 obtain ⟨ge,oe,vs,a0,T,oT,ts,h1,h2,h3,h4,t1,t2,t3,t4,t5,t6⟩:=x
 subst h2
 have hd:∀ b∈frs (env :: outer)++[e,T],b∈frs (env :: outer)∨g b:=fun b hb=>by
  rcases List.mem_append.mp hb with z | z
  ·exact .inl z
  ·have:b=e∨b=T:=by simpa using z
   rcases this with rfl | rfl
   ·exact .inr ge
   ·exact .inr t2
 refine wpAny_noteFrame_onW (base:=W.hideAll s.heap (frs (env :: outer)++[e,T])) (cls:=oe.cls) (a0:=a0) hfr (W.funFrames_hide hl fun en he a ha=>List.mem_append_left _ (Kw en he a ha)) hf ⟨oe,vs,T,oT,ts,h1,⟨rfl,h4⟩,h3,t1,W.hideAll_none _ (by simp),t3,t4,t5,t6⟩
  (fun b o q=>W.of_hideAll _ q) (W.hideAll_none _ (by simp)) fun h' hN=>?_
 obtain ⟨k1,k2,k3,k4⟩:=hN
 refine wpAny_setFlight_noneW (s:={ s with heap:=h' }) k1 k2 k3 fun h2 j1 j2 j3 j4=>?_
 obtain ⟨oe',vs',T',oT',ts',b1,⟨b2,b3⟩,b4,b5,b6,b7,b8,b9,b10⟩:=j3
 have kk:∀ b o,s.heap.get? b=some o→(∀ vs,o.data≠.fields vs)→∃ sl,h2.get? b=some { o with slots:=sl }:=fun b o q n=>by
  obtain ⟨sl,q2⟩:=k4 b o q n
  exact ⟨sl,j4 b _ q2 n⟩
 exact h h2 ⟨ge,oe',vs',a0,T',oT',ts',b1,b2,b4,b3,b5,Km hl hd kk b6 b8 b9 fresh,b7,b8,b9,b10⟩ (Ny hl hd j1 kk)
theorem Jcl {Q:Unit→Shared→Prop} {fr:List Addr} (x:XTr s.heap g e cls) (hg:∀ b∈fr,¬ g b)
 (h:∀ h',XTr h' g e cls→Aside fr g s.heap h'→Q () { s with heap:=h' }):wpAny M A (setFlight (.ref e) none) Q E s:=by
 obtain ⟨ge,oe,vs,a0,T,oT,ts,h1,h2,h3,h4,t1,t2,t3,t4,t5,t6⟩:=x
 subst h2
 have hsz:3 < ts.size:=(Array.getElem?_eq_some_iff.mp t6).1
 refine wpAny_setFlight_none h1 h3 t1 t4 t5 hsz (h _ ⟨ge,oe,vs,a0,T,_,_,(Heap.get?_update_other _ _ t3).trans h1,rfl,h3,h4,t1,t2,t3,Heap.get?_update_self _ t4 (Obj.isFreed_of_fields (Obj.data_mapFields t5 _)),Obj.data_mapFields t5 _,by simp [hsz]⟩ ⟨fun b o q _ n=>?_,fun b o q m=>?_⟩)
 ·exact (Heap.get?_update_other _ _ (fun z=>n (by rw [← z]; exact t2))).trans q
 ·refine ⟨o.slots,(Heap.get?_update_other _ _ (fun z=>hg b m (by rw [← z]; exact t2))).trans q⟩
end
section
variable {X:Cx} {pins:List (Addr×Obj)} {σ:L2.St} {H H1:Hp} {s s1:Shared} {h':Heap} {g:Addr→Prop} {ex:Addr} {cls:Value}
theorem O1 {P:Program} {w:World} {fr:List Addr} {h:Heap} (ok:HOk P w H1 h) (a:Aside fr g h h') (hf:∀ b∈fr,H1 b=none) (hg:∀ b,g b→H1 b=none):HOk P w H1 h':=fun b o e =>
 (ok b o e).stay (fun c u hc q=>a.keep c u q (fun m=>by
  have:=hf c m
  rcases hc with rfl | hc
  ·rw [this] at e; cases e
  ·rw [this] at hc; cases hc) (fun m=>by
  have:=hg c m
  rcases hc with rfl | hc
  ·rw [this] at e; cases e
  ·rw [this] at hc; cases hc)) (fun _ q=>q) fun _ _ q=>q
theorem Qk {fr:List Addr} {h:Heap} {s0:Heap} {H0:Hp} {fs:List Addr} (u:Un fs [] H0 H1 s0 h) (a:Aside fr g h h') (hg:∀ b o,s0.get? b=some o→¬ g b) (hfr:∀ b o,s0.get? b=some o→b∈fr→b∈fs) (hH:∀ b∈fr,H1 b=none):Un fs [] H0 H1 s0 h' where
 keep:=fun b o e n1 n2 n3=>a.keep b o (u.keep b o e n1 n2 n3) (fun m=>n2 (hfr b o e m)) (hg b o e)
 slot:=fun b o e n1 m n3=>by
  obtain ⟨sl,q⟩:=u.slot b o e n1 m n3
  by_cases hm:b∈fr
  ·obtain ⟨sl2,q2⟩:=a.slot b _ q hm
   exact ⟨sl2,q2⟩
  ·exact ⟨sl,a.keep b _ q hm (hg b o e)⟩
 free:=u.free
 there:=fun b o e n=>by
  obtain ⟨o',q⟩:=u.there b o e n
  by_cases hm:b∈fr
  ·obtain ⟨sl2,q2⟩:=a.slot b _ q hm
   exact ⟨_,q2⟩
  ·exact ⟨_,a.keep b _ q hm (hg b o e)⟩
 tups:=u.tups
 frzs:=u.frzs
 tbls:=u.tbls
end
def Y7 (X:Cx) (E:XK):Prop:=∀ (pins:List (Addr×Obj)) (σ:L2.St) (H1:Hp) (s1:Shared) (ex:Addr) (cls:Value),Inv X pins σ H1 s1→XAt s1.heap (fun b=>X.s₀.heap.get? b=none∧H1 b=none) ex cls→E cls none H1→X.xe (.ref ex) s1
section
variable {P:Program} {w:World} {K:W.Frag} {mg:Str→Option Value} {base:Heap} {N:List Str} {qual:Str} {scope:Scope} {f:Addr} {cd:Value} {A:Around} {outer:List Env} {s:Shared} {H:Hp} {E:XK}
theorem Jp:Y7 (Hy (CX1 P w) P w K mg base N qual scope f cd A outer s H E) E:=by
 intro pins σ H1 s1 ex cls I x hE
 have hs0:∀ b o,s.heap.get? b=some o→∃ o',s1.heap.get? b=some o':=fun b o e=>I.base.there b o e (by simp [Hy])
 refine Jaf (base:=base) (L:=s.heap.objs.size) I.ok.frames I.stack rfl x (fun b q=>?_) fun h' x' as=>?_
 ·constructor
  ·cases q2:s.heap.get? b with
   | none=>exact q2
   | some o =>
     obtain ⟨o',e⟩:=hs0 b o q2
     rw [q] at e; cases e
  ·cases q2:H1 b with
   | none=>rfl
   | some o =>
     obtain ⟨ob,e⟩:=Ku I.hok q2
     rw [q] at e; cases e
 ·have hfree:∀ b∈frs (envOfC qual scope s.heap.objs.size f cd :: outer),H1 b=none:=fun b hb=>I.stkFree b hb
  refine ⟨ex,cls,H1,rfl,x',hE,I.os,I.bare,Qk (fs:=frs outer) I.base as (fun b o e z=>?_) (fun b o e m=>?_) hfree,O1 I.hok as hfree fun b z=>z.2⟩
  ·have:=z.1
   have e':s.heap.get? b=some o:=e
   rw [show (Hy (CX1 P w) P w K mg base N qual scope f cd A outer s H E).s₀.heap.get? b=s.heap.get? b from rfl,e'] at this
   cases this
  ·rcases List.mem_cons.mp (show b∈s.heap.objs.size :: frs outer from m) with z | z
   ·have:=Heap.lt_size (show s.heap.get? b=some o from e)
    rw [z] at this
    exact absurd this (Nat.lt_irrefl _)
   ·exact z
theorem Cs:Ia (CX1 P w) (Hy (CX1 P w) P w K mg base N qual scope f cd A outer s H E) E:=by
 intro pins σ H0 s0 e s' I ⟨ex,cls,H',he,x,hE,ho,hg,u,ok⟩
 subst he
 have I':Inv (Hy (CX1 P w) P w K mg base N qual scope f cd A outer s H E) pins σ H' s':=I.call' (ch:=[]) ho u ok hg (fun b hb=>by simp at hb)
 refine Jp pins σ H' s' ex cls I' (x.at.mono fun b z=>⟨?_,z.2⟩) hE
 cases q:s.heap.get? b with
 | none=>exact q
 | some o =>
   obtain ⟨o',e⟩:=I.base.there b o q (by simp [Hy])
   rw [z.1] at e; cases e
end
section
variable {P:Program} {w:World} {K:W.Frag} {mg:Str→Option Value} {base:Heap}
theorem ok1 {x qual:Str} {st:Stmt} {f:Addr} {fd:FuncData} {N ps:List Str} {k:Nat} {sp:Sp} (F:Fun K x qual st f fd) (S:Ay N ps (Af st)) (len:∀ vs H Q E,sp vs H Q E→vs.length=ps.length)
 (hbody:∀ (cdv:Value) (A:Around) (outer:List Env) (s:Shared) (H:Hp) (vs:List V) (Q:VK) (E:XK),Room k (A.deeper (envOfC qual (Af st) s.heap.objs.size f cdv))→sp vs H Q E →
  ∃ t,PSs (Hy (CX1 P w) P w K mg base N qual (Af st) f cdv A outer s H E) (As st) t∧t { nx:=fun _ H'=>Q .non H',rt:=Q } (start N vs) H):FnOk P w K mg base (CX1 P w) (k + 1) f fd ps sp:=by
 obtain ⟨oc,od,kV,doc,pm,an,cdv,ct,osl,rfl,lk,hcd⟩:=F.ex
 exact Jbc lk hcd S len fun A outer s H vs Q E hr hsp=>hbody cdv A outer s H vs Q E hr hsp
theorem FnOk.to1 {k:Nat} {f:Addr} {fd:FuncData} {ps:List Str} {sp:Sp} (F:FnOk P w K mg base CX0 k f fd ps sp):FnOk P w K mg base (CX1 P w) k f fd ps sp :=
 ⟨F.len,fun A outer s H args us vs Q E hr he hb hv hs=>codeAny_mono (F.run A outer s H args us vs Q E hr he hb hv hs) fun r s' h=>by
  cases r with
  | ok fl=>cases fl <;> exact h
  | error e=>exact False.elim h⟩
end
def Wj:List Value:=[.type "ValueError",.type "Exception",.type "BaseException",.type "object"]
structure R8 (K:W.Frag) (mg:Str→Option Value) (x:Str) (C:Addr):Prop where
 mg:mg x=some (.ref C)
 ex:W.excIn K C Wj "ValueError.__new__"=true
section
variable {X:Cx} {x:Str} {C:Addr} {E:XK} {np cpos pos p1:Pos} {msg:Str} {j:Nat}
theorem U1 {K:W.Frag} {h:Heap} {C:Addr} (XK:K.In h) (q:W.excIn K C Wj "ValueError.__new__"=true):∃ nm q N bs bm hdct sn sub ab col dd k0 k1 k2 k3 k5 mN,h.get? C=some (excClassObj nm q C N bs bm hdct sn sub ab col dd k0 k1 k2 k3 k5 "ValueError.__new__")∧h.Ns N mN∧mN "__init__"=none∧OwnTail h Wj bm:=by
 unfold W.excIn at q
 split at q
 ·rename_i dd cd sl ho
  split at q
  ·rename_i C' bm k0 k1 k2 k3 n k5 hm hs
   simp only [Bool.and_eq_true,beq_iff_eq,Bool.not_eq_true'] at q
   obtain ⟨⟨⟨⟨⟨rfl,rfl⟩,hdel⟩,ht⟩,hok⟩,hni⟩:=q
   obtain ⟨nm,bs,mro,ns,qn,hd,sn,sub,ab,col,del⟩:=cd
   dsimp only at hm hdel hok hni
   subst hm hdel
   have hsl:sl=#[k0,k1,k2,k3,some (.builtin "ValueError.__new__"),k5]:=by
    obtain ⟨l⟩:=sl
    simp only at hs
    rw [hs]
   subst hsl
   exact ⟨nm,qn,ns,bs,bm,hd,sn,sub,ab,col,dd,k0,k1,k2,k3,k5,_,XK _ _ ho,.of_isNs (W.isNs_of_in XK hok),W.nsMap_none_of_in XK hok hni,W.tail_of_in XK ht⟩
  ·cases q
 ·cases q
theorem Wn {h:Heap} {mg:Str→Option Value} (XK:X.K.In h) (c:R8 X.K mg x C):∃ nm q N bs bm hdct sn sub ab col dd k0 k1 k2 k3 k5 mN,h.get? C=some (excClassObj nm q C N bs bm hdct sn sub ab col dd k0 k1 k2 k3 k5 "ValueError.__new__")∧h.Ns N mN∧mN "__init__"=none∧OwnTail h Wj bm:=U1 XK c.ex
theorem Js (hc:X.calm=true) (hg:Gl X x) (c:R8 X.K X.mg x C) (hx:Y7 X E) (hex:X.ex=[]:=by rfl) (hd:(x == ("__debug__":Str))=false:=by decide)
 (hplain:(backTo cpos (starEach [.Constant (.str msg) j p1] X.env)).any (·.1)=false:=by rfl) (hs:starEach [.Constant (.str msg) j p1] X.env=[(false,eval (.Constant (.str msg) j p1) X.env)]:=by rfl) :
 PS X (.Raise (some (.Call (.Name x np) [.Constant (.str msg) j p1] [] cpos)) none pos) (fun _ _ H=>E (.ref C) none H):=by
 intro pins s σ H D I h
 obtain ⟨nm,q,N,bs,bm,hdct,sn,sub,ab,col,dd,k0,k1,k2,k3,k5,mN,hC,hN,hni,tl⟩:=Wn (X:=X) I.mod.kin c
 refine wpAny_Raise_call_subU (C:=C) (nm:=nm) (q:=q) (N:=N) (bs:=bs) (bm:=bm) (hdct:=hdct) (sn:=sn) (sub:=sub) (ab:=ab) (col:=col) (dd:=dd) (k0:=k0) (k1:=k1) (k2:=k2) (k3:=k3) (k5:=k5) F.excBase_ValueError (bmB:=Wj) (by decide +kernel) F.excBase_ValueError (tl.hasType (by decide +kernel)) (I.ok.hd hc) hplain hni ?_
 refine Ie I hg c.mg ⟨rfl,?_⟩ hd
 have ha:PA X [.Constant (.str msg) j p1] (C3 (tC (.str msg)) Ki):=Aa Ak Ag hs
 have hA:=ha cpos pins s σ H (fun vs H1=>vs=[.str msg]∧H1=H) I ⟨rfl,rfl⟩
 rw [hs] at hA ⊢
 refine Calls.evalArgs_plain (thn hA fun us s2 ⟨vs,H2,I2,r2,e1,e2⟩=>?_)
 subst e1 e2
 refine ⟨rfl,by show us.length≤sizeLine; rw [← r2.length]; show 1≤sizeLine; decide,I2.bk _ _ hC,(let ⟨o,es,ep,e,r⟩:=hN; ⟨o,es,ep,I2.bk _ _ e,r⟩),tl.keeps I2.bk,fun h' e hm=>?_⟩
 obtain ⟨t,ht,_⟩:=hm.there
 have none_:∀ b,s2.heap.get? b=none→X.s₀.heap.get? b=none∧H2 b=none:=fun b q=>by
  constructor
  ·cases q2:X.s₀.heap.get? b with
   | none=>rfl
   | some o =>
     obtain ⟨o',e'⟩:=I2.base.there b o q2 (by rw [hex]; simp)
     rw [q] at e'; cases e'
  ·cases q2:H2 b with
   | none=>rfl
   | some o =>
     obtain ⟨ob,e'⟩:=Ku I2.hok q2
     rw [q] at e'; cases e'
 have I3:Inv X pins σ H2 { s2 with heap:=h' }:=I2.kept (t':=s2.toks) hm.keeps
 exact hx pins σ H2 _ e (.ref C) I3 ⟨none_ e hm.new,_,_,_,ht,rfl,rfl,rfl,.inl rfl⟩ h
end
section
variable {X:Cx} {pins:List (Addr×Obj)} {σ:L2.St} {H:Hp} {s:Shared}
theorem Ig {M:Model} {A:Around} {E:Value→Shared→Prop} {i:Nat} {x:Str} {pos:Pos} {Q:Unit→Shared→Prop} (I:Inv X pins σ H s) (hN:X.N.Nodup) (hi:X.N[i]?=some x) (hk:X.env.scope.names.lookup x=some .local)
 (h:∀ s',Inv X pins (σ.set i none) H s'→Q () s'):wpAny M A (do bindName X.env x .none; unbindBehindTheSuite X.env x pos) Q E s:=by
 obtain ⟨m,hn,hl⟩:=id I.loc
 have hcls:(X.env.scope.kind == .class || (X.env.scope.kind == .module && X.env.locals != X.env.globals))=false:=by rw [I.ok.kind]; rfl
 have hiσ:i < σ.length:=by rw [I.len]; exact (List.getElem?_eq_some_iff.mp hi).1
 have cne:=I.cne
 refine wpAny_nameGoes_keeps hk hn hcls fun h' v hn' hs=>?_
 have low:∀ {b:Addr} {o:Obj},X.s₀.heap.get? b=some o→b≠X.env.locals:=fun e=>Nat.ne_of_lt (Nat.lt_of_lt_of_le (Heap.lt_size e) I.ok.above)
 refine h _ ⟨I.ok,I.os,I.bare,⟨fun b o e n hb hx=>(hs.2 b (low e)).trans (I.base.keep b o e n hb hx),fun b o e n hb hx=>?_,I.base.free,fun b o e hx=>?_,I.base.tups,I.base.frzs,I.base.tbls⟩,⟨_,hn',fun j y v' e1 e2 e3=>?_⟩,fun y c e=>?_,I.free,I.freeC,fun p hp=>?_,fun b ob e=>?_,by rw [List.length_set]; exact I.len⟩
 ·obtain ⟨sl,e1⟩:=I.base.slot b o e n hb hx
  exact ⟨sl,(hs.2 b (low e)).trans e1⟩
 ·obtain ⟨o',e1⟩:=I.base.there b o e hx
  exact ⟨o',(hs.2 b (low e)).trans e1⟩
 ·have hj:j≠i:=fun z=>by
   subst z
   rw [List.getElem?_set_self hiσ] at e2
   cases e2
  rw [List.getElem?_set_ne (Ne.symm hj)] at e2
  obtain ⟨u',r',q⟩:=hl j y v' e1 e2 e3
  refine ⟨u',r',?_⟩
  rcases q with ⟨k,e⟩ | ⟨k,c,e,z⟩
  ·refine .inl ⟨k,?_⟩
   have:y≠x:=fun e=>hj (Mp hN e1 (e ▸ hi))
   simp [this,e]
  ·exact .inr ⟨k,c,e,z.sameBut hs (cne y c e)⟩
 ·obtain ⟨w',z⟩:=I.cell y c e
  exact ⟨w',z.sameBut hs (cne y c e)⟩
 ·obtain ⟨e,n,ne,nf,d⟩:=I.pin p hp
  exact ⟨(hs.2 p.1 ne).trans e,n,ne,nf,d⟩
 ·refine (I.hok b ob e).stay (fun c w' hc q=>(hs.2 c ?_).trans q) (fun _ q=>q) fun _ _ q=>q
  rintro rfl
  rcases hc with rfl | hc
  ·rw [I.free] at e; cases e
  ·rw [I.free] at hc; cases hc
end
def O0 (X:Cx) (pins:List (Addr×Obj)) (E:Value→Shared→Prop):Cx:={ X with pn:=X.pn++pins,xe:=E }
def inX (X:Cx) (ex:Addr):Cx:={ X with A:=X.A.mark (some (.ref ex)),calm:=false,xe:=fun _ _=>False }
section
variable {X:Cx} {pins pins':List (Addr×Obj)} {σ:L2.St} {H:Hp} {s:Shared} {E:Value→Shared→Prop} {ex:Addr}
theorem Cx.Ok.toTry (ok:X.Ok):(O0 X pins E).Ok:=⟨ok.mod,ok.kind,ok.glob,ok.blt,ok.above,ok.inj,ok.has,ok.cab,ok.hd,ok.frames,ok.stk,ok.exf,ok.bs,ok.bsz,ok.noex,ok.exfs,ok.funs,ok.frf⟩
theorem Cx.Ok.ofTry (ok:(O0 X pins E).Ok):X.Ok:=⟨ok.mod,ok.kind,ok.glob,ok.blt,ok.above,ok.inj,ok.has,ok.cab,ok.hd,ok.frames,ok.stk,ok.exf,ok.bs,ok.bsz,ok.noex,ok.exfs,ok.funs,ok.frf⟩
theorem Cx.Ok.toX (ok:X.Ok):(inX X ex).Ok:=⟨ok.mod,ok.kind,ok.glob,ok.blt,ok.above,ok.inj,ok.has,ok.cab,fun z=>(by cases z),ok.frames,ok.stk,ok.exf,ok.bs,ok.bsz,ok.noex,ok.exfs,ok.funs,ok.frf⟩
theorem V4 (I:Inv X pins σ H s):Inv (O0 X pins E) [] σ H s:=⟨Cx.Ok.toTry I.ok,I.os,I.bare,I.base,I.loc,I.cell,I.free,I.freeC,fun p hp=>I.pin p (by
 have hp':p∈(X.pn++pins)++[]:=hp
 rwa [List.append_nil] at hp'),I.hok,I.len⟩
theorem F2 (I:Inv (O0 X pins E) pins' σ H s):Inv X pins σ H s:=⟨Cx.Ok.ofTry I.ok,I.os,I.bare,I.base,I.loc,I.cell,I.free,I.freeC,fun p hp=>I.pin p (List.mem_append_left _ hp),I.hok,I.len⟩
theorem Uv (I:Inv X pins σ H s):Inv (inX X ex) pins σ H s:=⟨Cx.Ok.toX I.ok,I.os,I.bare,I.base,I.loc,I.cell,I.free,I.freeC,I.pin,I.hok,I.len⟩
theorem Lk (I:Inv (inX X ex) pins σ H s) (ok:X.Ok):Inv X pins σ H s:=⟨ok,I.os,I.bare,I.base,I.loc,I.cell,I.free,I.freeC,I.pin,I.hok,I.len⟩
theorem Oz {a:Addr} {o:HO} (I:Inv X pins σ H s) (hn:H a=none) (h0:X.s₀.heap.get? a=none) (h1:a≠X.env.locals) (h2:∀ x c,X.env.cells.lookup x=some c→c≠a) (h3:∀ p∈X.pn++pins,p.1≠a) (ok:ObjOk X.prog X.w (upd H a o) s.heap a o):Inv X pins σ (upd H a o) s:=by
 have ne:∀ {b:Addr} {u:HO},H b=some u→b≠a:=fun e=>Ar e hn
 refine ⟨I.ok,I.os,I.bare,⟨I.base.keep,I.base.slot,fun b ob e n hx=>?_,I.base.there,fun b xs e=>?_,fun b ob u e=>?_,fun b ps e=>?_⟩,I.loc,I.cell,by rw [Ac (Ne.symm h1)]; exact I.free,fun x c e=>by rw [Ac (h2 x c e)]; exact I.freeC x c e,fun p hp=>?_,fun b u e=>?_,I.len⟩
 ·rw [Ac (fun z=>by rw [z,h0] at e; cases e)]; exact I.base.free b ob e n hx
 ·have:=I.base.tups b xs e
  rw [Ac (ne this)]; exact this
 ·have:=I.base.frzs b ob u e
  rw [Ac (ne this)]; exact this
 ·obtain ⟨more,q⟩:=I.base.tbls b ps e
  exact ⟨more,by rw [Ac (ne q)]; exact q⟩
 ·obtain ⟨a1,a2,a3⟩:=I.pin p hp
  exact ⟨a1,by rw [Ac (h3 p hp)]; exact a2,a3⟩
 ·by_cases hb:b=a
  ·subst hb; rw [Ab] at e; cases e; exact ok
  ·rw [Ac hb] at e
   exact (I.hok b u e).stay (fun c w' _ q=>q) (fun c q=>by rw [Ac (ne q)]; exact q) fun c xs q=>by rw [Ac (ne q)]; exact q
end
def Rw (a C:Addr):HO:=.ext fun h=>∃ o vs,h.get? a=some o∧o.cls=.ref C∧o.data=.fields vs
def Qj (X:Cx) (ES:L2.St→XK):Prop:=∀ (pins:List (Addr×Obj)) (σ:L2.St) (H:Hp) (s:Shared) (e:Value) (s':Shared),Inv X pins σ H s→CX1 X.prog X.w X.stack H s (ES σ) e s'→X.xe e s'
section
variable {X:Cx} {k:Nat} {f C:Addr} {fd:FuncData} {ps:List Str} {sp:Sp} {ES:L2.St→XK} {x m:Str} {p pos apos:Pos} {e o:Expr} {es:List Expr} {ta:TE} {t:TA}
theorem Zi {pins:List (Addr×Obj)} {σ:L2.St} {H:Hp} {s:Shared} {Q:VK} {us:List Value} {vs:List V} (F:FnOk X.prog X.w X.K X.mg X.base (CX1 X.prog X.w) k f fd ps sp) (hr:Room k X.A) (hb:Binds X.K fd ps []) (hx:Qj X ES)
 (I:Inv X pins σ H s) (r:Vals vs us) (h:sp vs H Q (ES σ)):wpAny (model X.prog X.w) X.A (call (.ref f) us) (EP X pins σ Q) X.xe s:=by
 have hl:us.length=ps.length:=by rw [← r.length]; exact F.len _ _ _ _ h
 refine wpAny_call (codeAny_mono (F.run X.A X.stack s H ⟨us,[]⟩ us vs Q (ES σ) hr I.env0 (by have:=hb s us I.kIn (by rw [List.append_nil]; exact hl); rwa [List.append_nil] at this) r h) fun r s' hq=>?_)
 cases r with
 | error e=>exact hx pins σ H s e s' I hq
 | ok fl =>
   cases fl with
   | ret u=>exact I.after hq
   | next=>exact hq.elim
   | brk=>exact hq.elim
   | cont=>exact hq.elim
def Jbq (sp:Sp) (ES:L2.St→XK) (t:TA):TE:=fun σ H Q=>t σ H fun vs H1=>sp vs H1 Q (ES σ)
def Jej (C:Addr) (m:Str) (sp:Sp) (ES:L2.St→XK) (ta:TE) (t:TA):TE:=fun σ H Q=>ta σ H fun x H1=>∃ a dx fs,x=.ref a∧H1 a=some (.ins C dx fs)∧fs.lookup m=none∧t σ H1 fun vs H2=>sp (x :: vs) H2 Q (ES σ)
theorem Xp (F:FnOk X.prog X.w X.K X.mg X.base (CX1 X.prog X.w) k f fd ps sp) (hr:Room k X.A) (hg:Gl X x) (hm:X.mg x=some (.ref f)) (hk:W.keepIn X.K (.ref f)=true) (hb:Binds X.K fd ps []) (hx:Qj X ES) (ha:PA X (e :: es) t)
 (hdb:(x == ("__debug__":Str))=false:=by decide) (he:starEach (e :: es) X.env=(false,eval e X.env) :: starEach es X.env:=by rfl) (hpl:(backTo pos (starEach es X.env)).any (·.1)=false:=by rfl):PE X (.Call (.Name x p) (e :: es) [] pos) (Jbq sp ES t):=by
 intro pins s σ H Q I h
 refine wpAny_Call_Name_kw (Ie I hg hm (W.callWith_K (h₀:=X.base) I.ok.mod.kin hk (thn (ha pos pins s σ H _ I h) fun us s1 ⟨vs,H1,I1,r,q⟩=>⟨I1.kIn,Zi F hr hb hx I1 r q⟩) he hpl) hdb)
end
theorem Jbf {M:Model} {A:Around} {E:Value→Shared→Prop} {s:Shared} {K:W.Frag} {C D e:Addr} {oe:Obj} {Q:Bool→Shared→Prop} (XK:K.In s.heap) (cD:W.excIn K D Wj "ValueError.__new__"=true)
 (hsub:W.mroIn K C (.ref D)=some true) (he:s.heap.get? e=some oe) (hcls:oe.cls=.ref C) (hq:Q true s):wpAny M A (excMatches (.ref e) (.ref D)) Q E s:=by
 obtain ⟨h,g,d,t,os⟩:=s
 obtain ⟨nm,q,N,bs,bm,hdct,sn,sub,ab,col,dd,k0,k1,k2,k3,k5,mN,hD,hN,hni,tl⟩:=U1 XK cD
 have hB:(Value.ref D :: bm).contains (.type "BaseException")=true:=by rw [List.contains_cons,tl.hasType (b:=true) (by decide +kernel),Bool.or_true]
 have f:=tc_notTuple
 have LS:=W.looks_mroIn (M:=M) XK hsub
 unfold excMatches
 repeat (first | (with_reducible refine wpAny_loadPart_at he ?_; rw [hcls]) | with_reducible refine wpAny_loadPart_at hD ?_ | (with_reducible refine wpAny_isSubtype_exc hD ?_; rw [hB]) | with_reducible refine LS.at ?_ | wp_step)
 exact hq
def gone (D:Ends) (i:Nat):Ends:={ nx:=fun σ H=>D.nx (σ.set i none) H,bk:=fun σ H=>D.bk (σ.set i none) H,ct:=fun σ H=>D.ct (σ.set i none) H,rt:=D.rt }
def Jc2 (K:W.Frag) (D:Addr) (cls:Value) (C:Addr):Prop:=cls=.ref C∧W.mroIn K C (.ref D)=some true
def Jbk (K:W.Frag) (D:Addr) (i:Nat) (tb:(L2.St→XK)→TS) (ts:Addr→TS):TS:=fun E σ H =>
 tb (fun σ' cls _ H'=>∃ C,Jc2 K D cls C∧∀ ex,H' ex=none→ts ex (gone E i) (σ'.set i (some (.ref ex))) (upd H' ex (Rw ex C))) E σ H
section
variable {X:Cx} {body suite:List Stmt} {b₀:Stmt} {n x:Str} {D:Addr} {i:Nat} {np hpos pos:Pos} {tb:(L2.St→XK)→TS} {ts:Addr→TS}
theorem Xj (hstk:X.stack=X.env :: X.outer) (hfr:X.env.frame=some X.env.locals) (hex:X.ex=[]) (hN:X.N.Nodup) (hi:X.N[i]?=some n) (hn:X.env.scope.names.lookup n=some .local) (hg:Gl X x) (cD:R8 X.K X.mg x D)
 (hb:∀ (pins:List (Addr×Obj)) (E:Value→Shared→Prop) (ES:L2.St→XK),Qj (O0 X pins E) ES→PSs (O0 X pins E) body (tb ES)) (hs:∀ ex,PSs (inX X ex) (b₀ :: suite) (ts ex))
 (hd:(x == ("__debug__":Str))=false:=by decide) :
 PS X (.Try body [.ExceptHandler (some (.Name x np)) (some n) (b₀ :: suite) hpos] [] [] pos) (Jbk X.K D i tb ts):=by
 intro pins s σ H E I h
 refine wpAny_Try_except (wpAny_mono (hb pins (fun e s1=>wpAny (model X.prog X.w) X.A (noteFrame e X.env) (fun _ s2=>wpAny (model X.prog X.w) X.A (setFlight e none) (fun _ s3=>wpAny (model X.prog X.w) X.A (handleBy e X.env [.ExceptHandler (some (.Name x np)) (some n) (b₀ :: suite) hpos]) (SP X pins E) X.xe s3) X.xe s2) X.xe s1) _ ?_ [] s σ H E (V4 I) h) (fun f s1 q=>?_) fun e s1 q=>q)
 ·
  intro pins' σ' H0 s0 e s' I0 ⟨ex,cls,H',he,xt,⟨C,⟨hcls,hsub⟩,hE⟩,ho,hga,u,ok⟩
  subst he hcls
  have I1:Inv X pins σ' H0 s0:=F2 I0
  have frn:∀ b∈frs (X.env :: X.outer),H' b=none:=fun b hb=>by
   have:=I1.stkFree b (by rw [hstk]; exact hb)
   obtain ⟨o,e1,_⟩:=(I1.stack.mem (by rw [hstk]; exact hb)).2
   exact u.free b o e1 this (by simp)
  have frg:∀ b∈frs (X.env :: X.outer),¬ (s0.heap.get? b=none∧H' b=none):=fun b hb z=>by
   obtain ⟨o,e1,_⟩:=(I1.stack.mem (by rw [hstk]; exact hb)).2
   rw [e1] at z; cases z.1
  have I2:Inv X pins σ' H' s':=I1.call' (ch:=[]) ho u ok hga (fun b hb=>by simp at hb)
  have fl:s'.heap.FunFrames X.base (X.env :: X.outer):=by have:=I2.stack; rwa [hstk] at this
  have hfm:X.A.frames=some (X.env :: X.outer):=by rw [I1.ok.frames,hstk]
  have none_:∀ b,s'.heap.get? b=none→s0.heap.get? b=none∧H' b=none:=fun b q=>by
   constructor
   ·cases q2:s0.heap.get? b with
    | none=>rfl
    | some o =>
      obtain ⟨o',e1⟩:=u.there b o q2 (by simp)
      rw [q] at e1; cases e1
   ·cases q2:H' b with
    | none=>rfl
    | some o =>
      obtain ⟨ob,e1⟩:=Ku ok q2
      rw [q] at e1; cases e1
  have back:∀ {h':Heap} (t:Nat),Aside (frs (X.env :: X.outer)) (fun b=>s0.heap.get? b=none∧H' b=none) s'.heap h'→Inv X pins σ' H' { s' with heap:=h',toks:=t }:=fun {h'} t as=>by
   refine I1.call' (s':={ s' with heap:=h',toks:=t }) (ch:=[]) ho ?_ (O1 ok as frn fun b z=>z.2) hga (fun b hb=>by simp at hb)
   have u':Un (frs X.stack) [] H0 H' s0.heap s'.heap:=u
   exact Qk u' as (fun b o e1 z=>by rw [e1] at z; cases z.1) (fun b o e1 m=>by rw [hstk]; exact m) frn
  refine Jcj (base:=X.base) (L:=X.env.locals) hfm fl hfr xt none_ fun h1 x1 as1=>?_
  have J1:=back s'.toks as1
  obtain ⟨oe,vs,a0,T,oT,ts',b1,b2,b3,_⟩:=x1.2
  refine wpAny_handleBy_cons (codeAny_handlers_test (Ie (X:=inX X ex) (Uv J1) hg cD.mg ?_ hd)) (by intro q; cases q)
  refine Jbf J1.kIn cD.ex hsub b1 b2 ?_
  refine codeAny_handlers_suite_as (Jcl (s:={ s' with heap:=h1 }) x1 frg fun h2 x2 as2=>?_)
  have J2:=back s'.toks (as1.trans as2)
  obtain ⟨oe2,vs2,a2,T2,oT2,ts2,c1,c2,c3,_⟩:=x2.2
  have J3:Inv X pins σ' (upd H' ex (Rw ex C)) { s' with heap:=h2,toks:=s'.toks }:=by
   refine Oz J2 x2.1.2 ?_ (fun z=>?_) (fun y c e1 z=>?_) (fun p hp z=>?_) ⟨⟨oe2,vs2,c1,c2,c3⟩,⟨oe2,c1⟩,fun ha hb ⟨o,vs,q1,q2⟩ k=>⟨o,vs,k o q1,q2⟩⟩
   ·cases q2:X.s₀.heap.get? ex with
    | none=>rfl
    | some o =>
      obtain ⟨o',e1⟩:=I1.base.there ex o q2 (by rw [hex]; simp)
      rw [x2.1.1] at e1; cases e1
   ·obtain ⟨m,⟨o,_,_,e1,_⟩,_⟩:=I1.loc
    rw [← z,x2.1.1] at e1; cases e1
   ·obtain ⟨v,o,e2,_⟩:=I1.cell y c e1
    rw [z,x2.1.1] at e2; cases e2
   ·have:=(I1.pin p hp).1
    rw [z,x2.1.1] at this; cases this
  refine Lo (X:=X) J3 hN hi (.inl hn) (show RelV (.ref ex) (.ref ex) from rfl) (fun s4 J4=>?_) (.inr hn)
  refine wpAny_mono (hs ex pins s4 _ _ (gone E i) (Uv J4) (hE ex x2.1.2)) (fun f s5 q=>?_) fun _ _ z=>z.elim
  cases f with
  | next=>obtain ⟨σ5,H5,J5,q5⟩:=q; exact Ig (Lk J5 J4.ok) hN hi hn fun s6 J6=>⟨_,H5,J6,q5⟩
  | brk=>obtain ⟨σ5,H5,J5,q5⟩:=q; exact Ig (Lk J5 J4.ok) hN hi hn fun s6 J6=>⟨_,H5,J6,q5⟩
  | cont=>obtain ⟨σ5,H5,J5,q5⟩:=q; exact Ig (Lk J5 J4.ok) hN hi hn fun s6 J6=>⟨_,H5,J6,q5⟩
  | ret v=>obtain ⟨v5,σ5,H5,J5,r5,q5⟩:=q; exact Ig (Lk J5 J4.ok) hN hi hn fun s6 J6=>⟨v5,_,H5,J6,r5,q5⟩
 ·cases f with
  | next=>obtain ⟨σ1,H1,I1,q1⟩:=q; exact wpAny_execs_nil ⟨σ1,H1,F2 I1,q1⟩
  | brk=>obtain ⟨σ1,H1,I1,q1⟩:=q; exact ⟨σ1,H1,F2 I1,q1⟩
  | cont=>obtain ⟨σ1,H1,I1,q1⟩:=q; exact ⟨σ1,H1,F2 I1,q1⟩
  | ret v=>obtain ⟨v1,σ1,H1,I1,r1,q1⟩:=q; exact ⟨v1,σ1,H1,F2 I1,r1,q1⟩
end
end FX
namespace FX
open PySem PySem.Spec PySem.Calls PyProof.Rows L2 Builtin Builtin.ObjectAttr Builtin.Getset_descriptor
set_option maxHeartbeats 400000
structure Y5 (K:W.Frag) (C:Addr):Prop where
 ga:W.findIn K (.ref C) "__getattribute__"=some (some (.builtin "BaseException.__getattribute__"))
 gb:W.findIn K (.ref C) "__getattr__"=some none
 ha:W.findIn K (.ref C) "__class__"=some (some (.builtin "object.__class__"))
 hn:W.specialIn K (.builtin "object.__class__") "__get__"=some (some (.builtin "getset_descriptor.__get__"))
 ht:W.takesIn K (.builtin "object.__class__")=some true
 hm:W.mroIn K C (.type "object")=some true
 hb:W.mroIn K C (.type "BaseException")=some true
 hc:(W.clsIn K C).isSome=true
theorem Y3:builtinKind "BaseException.__getattribute__"=some .slot:=by decide +kernel
theorem Wl:splitId "BaseException.__getattribute__"=some ("BaseException","__getattribute__"):=by decide +kernel
section
variable {prog:Program} {w:World} {A:Around} {E:Value→Shared→Prop} {s:Shared} {K:W.Frag} {x C:Addr}
theorem R5 {R:Result→Shared→Prop} {tp:Value} (X:K.In s.heap) (hx:∃ o,s.heap.get? x=some o∧o.cls=.ref C) (f:Y5 K C)
 (h:R (.ok (.ret (.ref C))) s):codeAny (model prog w) A (.call (.builtin "getset_descriptor.__get__") ⟨[.builtin "object.__class__",.ref x,tp],[]⟩) R s:=by
 obtain ⟨hh,g,dr,t,os⟩:=s
 obtain ⟨o,hxo,hc⟩:=hx
 have L0:W.Looks (model prog w) hh (typeOf (.ref x)) (.ref C):=hc ▸ (W.Looks.ld hxo).andThen .now
 have L1:=W.looks_mroIn (M:=model prog w) X f.hm
 refine codeAny_call_builtin W.KF.slot_gs.plain W.KF.entry_gs (W.KF.slot_gs.check _ _ _ _ _ _ _ _ W.KF.type_class (W.KF.args_gs _ _ _) ?_)
 unfold Builtin.«getset_descriptor.__get__» descrGet
 rw [W.dga_obj]
 refine wpAny_bind (wpAny_pure ?_)
 unfold descrGetter descrCheckInstance descrNameAndClass isInstance
 simp only [W.KF.owner_class]
 repeat lk
 refine ⟨Code.quiet_builtin _ (by decide +kernel),codeAny_builtin W.KF.entry_class ?_⟩
 unfold Builtin.«object.__class__» shownTypeOf
 repeat lk
 exact h
theorem We {Q:Option Value→Shared→Prop} (X:K.In s.heap) (hx:∃ o,s.heap.get? x=some o∧o.cls=.ref C) (f:Y5 K C)
 (h:Q (some (.ref C)) { s with toks:=s.toks + 1 }):wpAny (model prog w) A (getAttr? (.ref x) "__class__") Q E s:=by
 obtain ⟨hh,g,dr,t,os⟩:=s
 obtain ⟨o,hxo,hc⟩:=id hx
 have L0:W.Looks (model prog w) hh (typeOf (.ref x)) (.ref C):=hc ▸ (W.Looks.ld hxo).andThen .now
 have L1:=W.looks_findIn (M:=model prog w) X f.ga
 have L2':=W.looks_findIn (M:=model prog w) X f.gb
 have L3:W.Looks (model prog w) hh (isInstance (.ref x) (.type "BaseException")) true:=L0.andThen (W.looks_mroIn X f.hb)
 have L4:=W.looks_findIn (M:=model prog w) X f.ha
 have L5:W.Looks (model prog w) hh (getOf (some (.builtin "object.__class__"))) (some (.builtin "getset_descriptor.__get__")):=W.looks_specialIn X f.hn
 have L6:W.Looks (model prog w) hh (dataDescriptor? (some (.builtin "object.__class__")) (some (.builtin "getset_descriptor.__get__"))) (some (.builtin "getset_descriptor.__get__",.builtin "object.__class__")):=(W.looks_takesIn X f.ht).andThen .now
 have L7:W.Looks (model prog w) hh (find (.ref x) (.ref C) "__class__") (.bind (.builtin "getset_descriptor.__get__") (.builtin "object.__class__")):=L4.andThen (L5.andThen (L6.andThen (W.Looks.tag .now)))
 unfold getAttr? getAttrBy? getAttrBy
 refine wpAny_bind (wpAny_mkText (wpAny_bind (wpAny_attempt (wpAny_holding (wpAny_bind (L0.at (wpAny_bind (L1.at ?_))))))))
 have hne:(onTheHeap (Value.ref C) && (Value.builtin "BaseException.__getattribute__" == Value.builtin "object.__getattribute__"))=false:=by
  rw [show (Value.builtin "BaseException.__getattribute__" == Value.builtin "object.__getattribute__")=false from by decide +kernel,Bool.and_false]
 dsimp only
 rw [if_neg (by rw [hne]; exact Bool.false_ne_true)]
 unfold getAttrByItsOwn
 refine wpAny_bind (show wpAny _ _ (typeLookup (.ref C) "__getattr__") _ _ _ from L2'.at ?_)
 refine wpAny_bind (wpAny_attempt (wpAny_holding ?_))
 unfold callGetattribute
 rw [if_neg (by show ¬ ((false && _)=true); rw [Bool.false_and]; exact Bool.false_ne_true)]
 unfold boundAndCalled
 refine wpAny_bind (wpAny_of_eq (F.excAttr_ValueError.ga.bind (.ref x)) ?_)
 show wpAny _ _ (call (.builtin "BaseException.__getattribute__") [.ref x,.str "__class__" t]) _ _ _
 refine wpAny_call (codeAny_call_builtin F.excAttr_ValueError.ga.plain F.entry_bexc_ga (@W.check_slot (model prog w) _ _ _ "BaseException.__getattribute__" "BaseException" "__getattribute__" (.ref x) [.str "__class__" t] [] _ Y3 Wl L3 (F.args_bexc_ga (.ref x) (.str "__class__" t)) ?_))
 unfold Builtin.«object.__getattribute__»
 refine wpAny_bind (m:=slotArgs "__getattribute__" 1 ⟨[.ref x,.str "__class__" t],[]⟩) (wpAny_of_eq (a:=(Value.ref x,[Value.str "__class__" t])) (by kernel_rfl) ?_)
 dsimp only
 refine wpAny_bind (m:=attrName (.str "__class__" t)) (wpAny_of_eq (a:=("__class__":Str)) (by kernel_rfl) ?_)
 refine wpAny_bind (L0.at (wpAny_bind (L7.at ?_)))
 dsimp only
 unfold bindTo
 dsimp only
 refine wpAny_bind (wpAny_holding (wpAny_call (R5 (A:=A.in1) X hx f ?_)))
 refine wpAny_pure ?_
 refine wpAny_of_eq (a:=Value.ref C) (W.handedOut_of rfl) ?_
 exact wpAny_pure h
theorem Yl (f:Y5 K C):W.KitX K (.ref x) (.ref C) (fun h=>∃ o,h.get? x=some o∧o.cls=.ref C) where
 ty:=fun _ _ _ ⟨o,h1,h2⟩=>h2 ▸ (W.Looks.ld h1).andThen .now
 it:=fun _ _ X _=>by
  obtain ⟨cd,hcd⟩:=Option.isSome_iff_exists.mp f.hc
  unfold W.clsIn at hcd
  split at hcd
  ·rename_i c' d' cd' sl' ho
   intro A' Q' E' s' k q
   unfold isType loadHead
   exact wpAny_bind (wpAny_loadPart (k _ _ (X _ _ ho)) (wpAny_pure q))
  ·cases hcd
 ne:=fun h tp dd its n sl X htp=>by
  obtain ⟨cd,hcd⟩:=Option.isSome_iff_exists.mp f.hc
  refine Bool.eq_false_iff.mpr fun q=>?_
  have e:C=tp:=Value.ref.inj (beq_iff_eq.mp q)
  subst e
  unfold W.clsIn at hcd
  split at hcd
  ·rename_i c' d' cd' sl' ho
   have z:=(X _ _ ho).symm.trans htp
   cases z
  ·cases hcd
 ca:=fun X I k=>We X I f k
end
theorem Fq:∀ {ds:List Addr} {its:List Value},Vals (ds.map V.ref) its→its=ds.map Value.ref
 | [],_,.nil=>rfl
 | d :: ds,_,.cons h1 h2=>by
   cases h1
   rw [Fq h2]; rfl
section
variable {X:Cx}
theorem Ii:E8 X (.builtin "isinstance") (fun xs H Q=>∃ a C c cv b,xs=[.ref a,c]∧RelV c cv∧H a=some (Rw a C)∧Y5 X.K C∧W.kitOne X.K (.ref C) cv=some b∧Q (.bl b) H):=by
 intro pins s σ H xs us Q I r h
 obtain ⟨a,C,c,cv,b,rfl,rc,ha,f,e,q⟩:=h
 obtain ⟨u1,u2,rfl,r1,r2⟩:=r.two
 cases r1
 have:u2=cv:=by
  cases c with
  | ref p=>exact Eq.trans r2 rc.symm
  | ty n=>exact Eq.trans r2 rc.symm
  | non=>exact Eq.trans r2 rc.symm
  | bl b=>exact Eq.trans r2 rc.symm
  | int i=>obtain ⟨t,e1⟩:=rc; rw [e1] at e; unfold W.kitOne W.kitCls at e; simp at e
  | str i=>obtain ⟨t,e1⟩:=rc; rw [e1] at e; unfold W.kitOne W.kitCls at e; simp at e
  | byt i=>obtain ⟨t,e1⟩:=rc; rw [e1] at e; unfold W.kitOne W.kitCls at e; simp at e
  | flt i=>obtain ⟨t,e1⟩:=rc; rw [e1] at e; unfold W.kitOne W.kitCls at e; simp at e
 subst this
 obtain ⟨o,vs,g1,g2,g3⟩:=(I.hok a _ ha).1
 exact W.kia_one (Yl f) I.kIn ⟨o,g1,g2⟩ e (fun z=>nomatch z) fun tk=>⟨.bl b,H,I.tok tk,rfl,q⟩
end
end FX
namespace FX
open PySem PySem.Spec PyProof.Rows L2
theorem Ka {K:W.Frag} {v:Value}:W.kitOne K v v=some true:=by
 unfold W.kitOne
 rw [if_pos (by simp)]
end FX
namespace FX
open PySem L2
theorem Gz {K:W.Frag} {C:Addr} {b:Value} {r:Bool} (h:W.mroIn K C b=some r):(W.clsIn K C).isSome=true:=by
 obtain ⟨cd,a,_⟩:=Option.bind_eq_some_iff.mp h
 rw [a]; rfl
end FX
namespace FX
open PySem PySem.Spec PyProof.Rows L2
def ItW (h:Heap) (it d:Addr) (i n ep:Nat):Prop :=
 ∃ (own ok ov:Value) (f:Bool),(own=.none∨∃ a:Nat,own=rawInt a)∧h.get? it=some { cls:=.type "dict_itemiterator",dict:=none,data:=.fields #[own,.bool f,.ref d,.int i 0,.int n 0,.int ep 0,ok,ov],slots:=#[] }
def R9 (h:Heap) (a:Addr) (k v:Value):Prop:=h.get? a=some { cls:=.type "tuple",data:=.seq #[k,v] }
section
variable {prog:Program} {w:World} {A:Around} {E:Value→Shared→Prop} {s:Shared} {it d:Addr} {i n ep:Nat}
theorem ItW.ty (x:ItW s.heap it d i n ep):s.TypeIs (.ref it) "dict_itemiterator":=let ⟨_,_,_,_,_,e⟩:=x; ⟨_,e,rfl⟩
theorem ItW.to {h h':Heap} (x:ItW h it d i n ep) (k:∀ o,h.get? it=some o→h'.get? it=some o):ItW h' it d i n ep:=let ⟨a,b,c,f,g,e⟩:=x; ⟨a,b,c,f,g,k _ e⟩
theorem Jax {a:Addr} {Q:Option Obj→Shared→Prop} (h:Q (s.heap.get? a) s):wpAny (model prog w) A (loadIfAlive a) Q E s:=fun _ _ _=>h
theorem Wt {Q:Value→Shared→Prop} (h:∀ h' e,Shared.TypeIs { s with heap:=h' } (.ref e) "StopIteration"→(∀ b o,s.heap.get? b=some o→h'.get? b=some o)→Q (.ref e) { s with heap:=h' }):wpAny (model prog w) A (newExc (.type "StopIteration") []) Q E s:=by
 have first:firstArgMember (.type "StopIteration") []=pure .none:=by
  unfold firstArgMember
  cases (Manifest.find? "StopIteration").elim false fun t=>t.mro.contains "StopIteration" || t.mro.contains "SystemExit" <;> rfl
 unfold newExc newTuple
 rw [first]
 refine wpAny_bind (wpAny_newObj_type (wpAny_bind (wpAny_pure (wpAny_newObj_type (h _ _ ⟨_,Heap.get?_push_size _ rfl,rfl⟩ fun b o e=>Heap.get?_push_of_some _ (Heap.get?_push_of_some _ e)) (by size_fits)))) (by size_fits))
theorem Xr {k v:Value} {Q:Value→Shared→Prop} (hw:ItW s.heap it d i n ep)
 (hQ:∀ h',ItW h' it d i n ep→R9 h' s.heap.objs.size k v→(∀ b o,b≠it→s.heap.get? b=some o→h'.get? b=some o)→Q (.ref s.heap.objs.size) { s with heap:=h' }) :
 wpAny (model prog w) A (Builtin.Dict_items.pairFromOwner (.ref it) 6 k v) Q E s:=by
 obtain ⟨own,ok,ov,f,ho,e0⟩:=hw
 have il:it < s.heap.objs.size:=Heap.lt_size e0
 have inew:s.heap.objs.size≠it:=Nat.ne_of_gt il
 obtain ⟨h1,eh⟩:∃ h1,h1=s.heap.push { cls:=.type "tuple",data:=.seq ([k,v]:List Value).toArray }:=⟨_,rfl⟩
 have p1:R9 h1 s.heap.objs.size k v:=by rw [eh]; exact Heap.get?_push_size _ rfl
 have k1:∀ b o,s.heap.get? b=some o→h1.get? b=some o:=fun b o e=>by rw [eh]; exact Heap.get?_push_of_some _ e
 have e1:=k1 it _ e0
 have fin:∀ h2,ItW h2 it d i n ep→Heap.SameBut it h1 h2→Q (.ref s.heap.objs.size) { s with heap:=h2 }:=fun h2 x y =>
  hQ h2 x ((y.2 _ inew).trans p1) fun b o hb e=>(y.2 b hb).trans (k1 b o e)
 have free:wpAny (model prog w) A (do
  let old:=[← field (.ref it) 6,← field (.ref it) (6 + 1)]
  setField (.ref it) 6 k; setField (.ref it) (6 + 1) v
  setField (.ref it) 0 (rawInt s.heap.objs.size); setField (.ref it) 1 (.bool false)
  letGo old [.ref s.heap.objs.size]
  return .ref s.heap.objs.size) Q E { s with heap:=h1 }:=by
  refine wpAny_bind (wpAny_field (x:=ok) e1 rfl rfl (wpAny_bind (wpAny_field (x:=ov) e1 rfl rfl ?_)))
  refine wpAny_bind (wpAny_setField_rec e1 (by simp) fun g2 q2 b2=>wpAny_bind (wpAny_setField_rec q2 (by simp) fun g3 q3 b3=>wpAny_bind (wpAny_setField_rec q3 (by simp) fun g4 q4 b4=>wpAny_bind (wpAny_setField_rec q4 (by simp) fun g5 q5 b5=>?_))))
  refine wpAny_bind (wpAny_letGo (wpAny_pure (fin g5 ⟨_,_,_,_,.inr ⟨s.heap.objs.size,rfl⟩,q5⟩ ⟨?_,fun b hb=>?_⟩)))
  ·rw [b5.1,b4.1,b3.1,b2.1]
  ·rw [b5.2 b hb,b4.2 b hb,b3.2 b hb,b2.2 b hb]
 unfold Builtin.Dict_items.pairFromOwner
 refine wpAny_bind (wpAny_newTuple ?_)
 rw [← eh]
 refine wpAny_bind ?_
 unfold Builtin.Dict_items.ownedTupleIsFree
 refine wpAny_bind (wpAny_field (x:=own) e1 rfl rfl ?_)
 rcases ho with rfl | ⟨a,rfl⟩
 ·exact wpAny_pure free
 ·show wpAny _ _ (loadIfAlive ((a:Int).toNat) >>= _) _ _ _
  refine wpAny_bind (Jax ?_)
  cases ha:h1.get? (a:Int).toNat with
  | none=>exact wpAny_pure free
  | some oa =>
    refine wpAny_bind (wpAny_field (x:=.bool f) e1 rfl rfl ?_)
    cases f with
    | true=>exact wpAny_pure (wpAny_pure (fin h1 ⟨_,_,_,_,.inr ⟨a,rfl⟩,e1⟩ (Heap.SameBut.refl _ _)))
    | false=>exact wpAny_bind (wpAny_setField_rec e1 (by simp) fun g2 q2 b2=>wpAny_pure (wpAny_pure (fin g2 ⟨_,_,_,_,.inr ⟨a,rfl⟩,q2⟩ b2)))
theorem Te {v:Addr} {es:Array DictEntry} {Q:Value→Shared→Prop} (hv:s.heap.IsItemsView v d) (hm:RawD s.heap d es ep)
 (hQ:∀ h',ItW h' s.heap.objs.size d 0 es.size ep→(∀ b o,s.heap.get? b=some o→h'.get? b=some o)→Q (.ref s.heap.objs.size) { s with heap:=h' }):wpAny (model prog w) A (pyIter (.ref v)) Q E s:=by
 obtain ⟨o1,e1,c1,f1⟩:=id hv
 obtain ⟨o2,e2,c2,f2⟩:=hm
 refine wpAny_pyIter_slot hv.typeIs F.slot_dict_items_iter (wpAny_call_entry F.slot_dict_items_iter hv.typeIs F.entry_dict_items_iter ?_ (F.args_dict_items_iter_1 _))
 unfold Builtin.«dict_items.__iter__» Builtin.Dict_items.dictOf Builtin.Dict_items.newIterator
 refine wpAny_bind (wpAny_pure (wpAny_bind (wpAny_bind (wpAny_field (x:=.ref d) e1 f1 rfl (wpAny_pure (wpAny_bind (wpAny_bind (wpAny_dictEntries e2 f2 (wpAny_bind (wpAny_dictEpoch e2 f2 ?_))))))))))
 have own:Builtin.Dict_items.ownsTuple "dict_itemiterator"=true:=by decide
 simp only [own,if_true,Bool.false_eq_true,if_false]
 refine wpAny_newObj_type (wpAny_pure ⟨_,rfl,"dict_itemiterator",_,⟨_,Heap.get?_push_size _ rfl,rfl⟩,F.slot_dict_itemiterator_next.lookup,?_⟩) (by simp [sizeOk,Builtin.Dict_items.ownedTupleFields,sizeLine_eq])
 exact hQ _ ⟨.none,.none,.none,false,.inl rfl,(Heap.get?_push_size _ rfl).trans (by simp [rawInt,Builtin.Dict_items.ownedTupleFields])⟩ fun b o e=>Heap.get?_push_of_some _ e
theorem Td {es:Array DictEntry} {Q:Option Value→Shared→Prop} (hw:ItW s.heap it d i es.size ep) (hm:RawD s.heap d es ep) (hi:i < es.size)
 (hQ:∀ h',ItW h' it d (i + 1) es.size ep→R9 h' s.heap.objs.size es[i].key es[i].val→(∀ b o,b≠it→s.heap.get? b=some o→h'.get? b=some o)→Q (some (.ref s.heap.objs.size)) { s with heap:=h' }):wpAny (model prog w) A (pyNext (.ref it)) Q E s:=by
 have ty:=hw.ty
 obtain ⟨own,ok,ov,f,ho,e0⟩:=hw
 obtain ⟨o2,e2,c2,f2⟩:=hm
 have owns:Builtin.Dict_items.ownsTuple "dict_itemiterator"=true:=by decide
 unfold pyNext
 refine wpAny_bind (wpAny_attempt (wpAny_callSpecial?_slot (name:=Str.ofString "__next__") ty F.slot_dict_itemiterator_next (wpAny_call_entry F.slot_dict_itemiterator_next ty F.entry_dict_itemiterator_next (wpAny_bind (wpAny_pure (wpAny_bind ?_))) (F.args_dict_itemiterator_next_1 _))))
 refine wpAny_bind (wpAny_bind (wpAny_typeNameOfWhole_itemiter ty (wpAny_pure (wpAny_bind (wpAny_fieldsOf e0 rfl ?_)))))
 simp only [owns,if_true]
 refine (show wpAny (model prog w) _ (if (Value.ref d == Value.none)=true then _ else _) _ _ s from ?_)
 rw [if_neg (show ¬ ((Value.ref d == Value.none)=true) from Bool.false_ne_true)]
 refine wpAny_bind (wpAny_pure (wpAny_bind (wpAny_dictEntries e2 f2 ?_)))
 rw [if_neg (by simp)]
 refine wpAny_bind (wpAny_pure (wpAny_bind (wpAny_dictEpoch e2 f2 ?_)))
 rw [if_neg (by simp)]
 refine wpAny_pure ?_
 simp only [show ¬ ((i:Int) < 0) by lia,if_false,Int.toNat_natCast,Array.getElem?_eq_getElem hi]
 refine wpAny_bind (wpAny_bind (wpAny_typeNameOfWhole_itemiter ty (wpAny_pure (wpAny_bind (wpAny_isOneOf_itemiter ty ?_)))))
 refine (show wpAny (model prog w) _ (setField (.ref it) 3 (rawInt ((i:Int) + 1)) >>= _) _ _ s from ?_)
 refine wpAny_bind (wpAny_setField_rec e0 (by simp) fun h1 q1 b1=>?_)
 have w1:ItW h1 it d (i + 1) es.size ep:=⟨own,ok,ov,f,ho,by rw [show ((i + 1:Nat):Int)=(i:Int) + 1 by lia]; simpa [rawInt] using q1⟩
 have ty1:Shared.TypeIs { s with heap:=h1 } (.ref it) "dict_itemiterator":=ItW.ty (s:={ s with heap:=h1 }) w1
 refine wpAny_bind (wpAny_holding (wpAny_bind (wpAny_isOneOf_itemiter ty1 (wpAny_bind (wpAny_isOneOf_itemiter ty1 ?_)))))
 refine Xr (s:={ s with heap:=h1 }) w1 fun h2 w2 p2 k2=>?_
 have z1:h1.objs.size=s.heap.objs.size:=b1.1
 dsimp only at p2 k2 ⊢
 rw [z1] at p2 ⊢
 exact wpAny_pure ⟨_,rfl,wpAny_pure (hQ h2 w2 p2 fun b o hb e=>k2 b o hb ((b1.2 b hb).trans e))⟩
theorem V2 {es:Array DictEntry} {Q:Option Value→Shared→Prop} (hh:A.handled=none) (hw:ItW s.heap it d i es.size ep) (hm:RawD s.heap d es ep) (hi:es.size≤i)
 (hQ:∀ h',(∀ b o,b≠it→s.heap.get? b=some o→h'.get? b=some o)→Q none { s with heap:=h' }):wpAny (model prog w) A (pyNext (.ref it)) Q E s:=by
 have ty:=hw.ty
 obtain ⟨own,ok,ov,f,ho,e0⟩:=hw
 obtain ⟨o2,e2,c2,f2⟩:=hm
 have owns:Builtin.Dict_items.ownsTuple "dict_itemiterator"=true:=by decide
 unfold pyNext
 refine wpAny_bind (wpAny_attempt (wpAny_callSpecial?_slot (name:=Str.ofString "__next__") ty F.slot_dict_itemiterator_next (wpAny_call_entry F.slot_dict_itemiterator_next ty F.entry_dict_itemiterator_next (wpAny_bind (wpAny_pure (wpAny_bind ?_))) (F.args_dict_itemiterator_next_1 _))))
 refine wpAny_bind (wpAny_bind (wpAny_typeNameOfWhole_itemiter ty (wpAny_pure (wpAny_bind (wpAny_fieldsOf e0 rfl ?_)))))
 simp only [owns,if_true]
 refine (show wpAny (model prog w) _ (if (Value.ref d == Value.none)=true then _ else _) _ _ s from ?_)
 rw [if_neg (show ¬ ((Value.ref d == Value.none)=true) from Bool.false_ne_true)]
 refine wpAny_bind (wpAny_pure (wpAny_bind (wpAny_dictEntries e2 f2 ?_)))
 rw [if_neg (by simp)]
 refine wpAny_bind (wpAny_pure (wpAny_bind (wpAny_dictEpoch e2 f2 ?_)))
 rw [if_neg (by simp)]
 refine wpAny_pure ?_
 simp only [show ¬ ((i:Int) < 0) by lia,if_false,Int.toNat_natCast,Array.getElem?_eq_none hi]
 refine wpAny_bind (wpAny_bind (wpAny_typeNameOfWhole_itemiter ty (wpAny_pure ?_)))
 refine wpAny_bind (wpAny_setField_rec (k:=2) e0 (by simp) fun h1 q1 b1=>?_)
 refine wpAny_bind (Wt fun h2 x t2 k2=>wpAny_raiseNew_none hh (wpAny_bind (wpAny_isInstance t2 isSubtype_stop (wpAny_pure (hQ h2 fun b o hb e=>k2 b o ((b1.2 b hb).trans e))))))
end
def Prs (h:Heap) (it:Addr) (es:Array DictEntry) (as:List Addr):Prop:=∀ (j:Nat) (a:Addr),as[j]?=some a→it < a∧∃ e:DictEntry,es[j]?=some e∧R9 h a e.key e.val
theorem Prs.to {h h':Heap} {it:Addr} {es:Array DictEntry} {as:List Addr} (x:Prs h it es as) (k:∀ b o,it < b→h.get? b=some o→h'.get? b=some o):Prs h' it es as :=
 fun j a e=>let ⟨l,d,e1,e2⟩:=x j a e; ⟨l,d,e1,k a _ l e2⟩
theorem Prs.more {h:Heap} {it a:Addr} {es:Array DictEntry} {as:List Addr} (x:Prs h it es as) (hi:as.length < es.size) (l:it < a) (p:R9 h a es[as.length].key es[as.length].val):Prs h it es (as++[a]):=fun j b e=>by
 rcases Nat.lt_trichotomy j as.length with hj | hj | hj
 ·rw [List.getElem?_append_left hj] at e; exact x j b e
 ·subst hj
  have e':a=b:=by simpa using e
  subst e'
  exact ⟨l,_,by simp [hi],p⟩
 ·rw [List.getElem?_eq_none (by simp; lia)] at e; cases e
section
variable {prog:Program} {w:World} {A:Around} {R:Result→Shared→Prop} {S it d:Addr} {ep:Nat} {es:Array DictEntry}
theorem Ng (hh:A.handled=none) (l1:S < it) (n1:d≠S) (n2:d≠it) (hz:es.size≤sizeLine) (res:Value) :
 ∀ (k:Nat) (s:Shared) (as:List Addr) (c:Nat),as.length + k=es.size→ItW s.heap it d as.length es.size ep→RawD s.heap d es ep→s.heap.get? S=some (seqObj "list" (as.map Value.ref).toArray c)→Prs s.heap it es as→as.Nodup →
  (∀ h' as' c',as'.length=es.size→as'.Nodup→(∀ b o,b≠S→b≠it→s.heap.get? b=some o→h'.get? b=some o)→h'.get? S=some (seqObj "list" (as'.map Value.ref).toArray c')→Prs h' it es as'→R (.ok (.ret res)) { s with heap:=h' }) →
  codeAny (model prog w) A (.builtin "list.extend.loop" ⟨[.ref S,.ref it,res],[]⟩) R s
 | 0,s,as,c,hk,iw,rd,hS,ps,nd,q=>by
   refine codeAny_builtin PySem.F.entry_extend_loop ?_
   rw [Around.under_plainId PySem.F.plain_extend_loop _]
   refine (wpAny_bind (m:=pyNext (.ref it)) (V2 hh iw rd (by lia) fun h' kp=>wpAny_pure (q h' as c (by lia) nd (fun b o _ hb e=>kp b o hb e) (kp S _ (Nat.ne_of_lt l1) hS) (ps.to fun b o hb e=>kp b o (Nat.ne_of_gt hb) e))))
 | k + 1,s,as,c,hk,iw,rd,hS,ps,nd,q=>by
   have hi:as.length < es.size:=by lia
   have al:it < s.heap.objs.size:=let ⟨_,_,_,_,_,e⟩:=iw; Heap.lt_size e
   refine codeAny_builtin PySem.F.entry_extend_loop ?_
   rw [Around.under_plainId PySem.F.plain_extend_loop _]
   refine wpAny_bind (m:=pyNext (.ref it)) (Td iw rd hi fun h1 iw1 p1 k1=>?_)
   have hS1:=k1 S _ (Nat.ne_of_lt l1) hS
   have sz:(as.map Value.ref).toArray.size=as.length:=by simp
   refine wpAny_bind (m:=updateSeq S (·.push (Value.ref s.heap.objs.size))) (wpAny_updateSeq hS1 rfl (wpAny_pure ⟨plainId_quiet PySem.F.plain_extend_loop _,?_⟩) (by rw [sz]; lia) (by rw [Array.size_push,sz]; lia))
   have up:∀ b o,b≠S→h1.get? b=some o→(h1.update S (Obj.mapSeq (·.push (Value.ref s.heap.objs.size)))).get? b=some o:=fun b o hb e=>(Heap.get?_update_other _ _ (Ne.symm hb)).trans e
   refine Ng hh l1 n1 n2 hz res k { s with heap:=h1.update S (Obj.mapSeq (·.push (Value.ref s.heap.objs.size))) } (as++[s.heap.objs.size]) (c + 1) (by simp; lia) (by rw [List.length_append]; exact iw1.to fun o e=>up it o (Nat.ne_of_gt l1) e) (rd.at fun o e=>up d o n1 (k1 d o n2 e)) ?_ ?_ ?_ fun h' as' c' a1 a0 a2 a3 a4=>q h' as' c' a1 a0 (fun b o hb hc e=>a2 b o hb hc (up b o hb (k1 b o hc e))) a3 a4
   ·refine (get?_update_seq hS1 _).trans ?_
    simp [seqObj]
   ·exact Prs.more (ps.to fun b o hb e=>up b o (Nat.ne_of_gt (Nat.lt_trans l1 hb)) (k1 b o (Nat.ne_of_gt hb) e)) hi al (up _ _ (Nat.ne_of_gt (Nat.lt_trans l1 al)) p1)
   ·refine List.nodup_append.mpr ⟨nd,by simp,fun a ha b hb z=>?_⟩
    have e:b=s.heap.objs.size:=by simpa using hb
    obtain ⟨j,hj⟩:=List.mem_iff_getElem?.mp ha
    obtain ⟨_,_,_,e2⟩:=ps j a hj
    exact absurd (Heap.lt_size e2) (by rw [z,e]; exact Nat.lt_irrefl _)
end
section
variable {prog:Program} {w:World} {A:Around} {E:Value→Shared→Prop} {s:Shared} {v d:Addr} {ep:Nat} {es:Array DictEntry}
theorem Of {R:List Value→Shared→Prop} (hh:A.handled=none) (hv:s.heap.IsItemsView v d) (hm:RawD s.heap d es ep) (hz:es.size≤sizeLine)
 (h:∀ h' as it,as.length=es.size→as.Nodup→s.heap.objs.size≤it→(∀ b o,s.heap.get? b=some o→h'.get? b=some o)→Prs h' it es as→R (as.map Value.ref) { s with heap:=h' }) :
 wpAny (model prog w) A (collect (.ref v)) R E s:=by
 have lv:v < s.heap.objs.size:=let ⟨_,e,_⟩:=hv; Heap.lt_size e
 have ld:d < s.heap.objs.size:=let ⟨_,e,_⟩:=hm; Heap.lt_size e
 unfold collect
 refine wpAny_bind (wpAny_runValue (codeAny_builtin PySem.F.entry_proto_collect ?_))
 rw [Around.under_plainId PySem.F.plain_proto_collect _]
 refine wpAny_bind (m:=newList []) (wpAny_newObj_type (wpAny_pure ⟨plainId_quiet PySem.F.plain_list_iadd _,codeAny_builtin PySem.F.entry_list_iadd ?_⟩) (by size_fits))
 rw [Around.under_plainId PySem.F.plain_list_iadd _]
 generalize hS0:s.heap.push { cls:=.type "list",data:=.seq ([]:List Value).toArray }=h0
 have gS:h0.get? s.heap.objs.size=some (seqObj "list" #[] 0):=by rw [← hS0]; exact Heap.get?_push_size _ rfl
 have k0:∀ b o,s.heap.get? b=some o→h0.get? b=some o:=fun b o e=>by rw [← hS0]; exact Heap.get?_push_of_some _ e
 have hv0:h0.IsItemsView v d:=let ⟨o,e,r⟩:=hv; ⟨o,k0 v o e,r⟩
 have hm0:RawD h0 d es ep:=hm.at fun o e=>k0 d o e
 have z0:h0.objs.size=s.heap.objs.size + 1:=by rw [← hS0,Heap.size_push]
 have low:∀ b o,s.heap.get? b=some o→b < s.heap.objs.size:=fun b o e=>Heap.lt_size e
 obtain ⟨S,hS⟩:∃ S:Addr,S=s.heap.objs.size:=⟨_,rfl⟩
 rw [← hS] at gS z0 lv ld low ⊢
 have lS:S < h0.objs.size:=by rw [z0]; exact Nat.lt_succ_self _
 refine (show wpAny (model prog w) _ (Builtin.List.listExtendWith (.ref S) (.ref v) (.ref S)) _ _ { s with heap:=h0 } from ?_)
 have fin:∀ (R':Result→Shared→Prop),(∀ h' as' c',as'.length=es.size→as'.Nodup→(∀ b o,s.heap.get? b=some o→h'.get? b=some o)→h'.get? S=some (seqObj "list" (as'.map Value.ref).toArray c')→Prs h' h0.objs.size es as'→R' (.ok (.ret (.ref S))) { s with heap:=h' }) →
  ∀ h1 c1,ItW h1 h0.objs.size d 0 es.size ep→RawD h1 d es ep→h1.get? S=some (seqObj "list" #[] c1)→(∀ b o,s.heap.get? b=some o→h1.get? b=some o)→codeAny (model prog w) A (.builtin "list.extend.loop" ⟨[.ref S,.ref h0.objs.size,.ref S],[]⟩) R' { s with heap:=h1 }:=fun R' q h1 c1 a1 a2 a3 a4 =>
  Ng hh lS (Nat.ne_of_lt ld) (Nat.ne_of_lt (Nat.lt_trans ld lS)) hz _ es.size { s with heap:=h1 } [] c1 (by simp) a1 a2 (by simpa using a3) (fun j a e=>by simp at e) List.nodup_nil fun h' as' c' q1 q0 q2 q3 q4=>q h' as' c' q1 q0 (fun b o e=>q2 b o (Nat.ne_of_lt (low b o e)) (Nat.ne_of_lt (Nat.lt_trans (low b o e) lS)) (a4 b o e)) q3 q4
 unfold Builtin.List.listExtendWith
 refine wpAny_bind (wpAny_typeOf (T:="dict_items") (Heap.IsItemsView.typeIs (s:={ s with heap:=h0 }) hv0) ?_)
 have n1:Builtin.List.listSameRef (.ref S) (.ref v)=false:=by simp [Builtin.List.listSameRef,Nat.ne_of_gt lv]
 have n2:(Value.type "dict_items" == Value.type "list")=false:=by decide
 have n3:(Value.type "dict_items" == Value.type "tuple")=false:=by decide
 simp only [n1,n2,n3,Bool.or_false,Bool.false_eq_true,if_false]
 refine wpAny_bind (Te (s:={ s with heap:=h0 }) hv0 hm0 fun h1 iw k1=>?_)
 refine wpAny_bind (wpAny_holding (W.kdx_hint (s:={ s with heap:=h1 }) (let ⟨o,e,c,_⟩:=hv0; ⟨o,k1 v o e,c⟩) ?_))
 have gS1:=k1 _ _ gS
 have loop:∀ h2 c2,(∀ b o,b≠S→h1.get? b=some o→h2.get? b=some o)→h2.get? S=some (seqObj "list" #[] c2) →
  codeAny (model prog w) A (.builtin "list.extend.loop" ⟨[.ref S,.ref h0.objs.size,.ref S],[]⟩) (fun q s'=>∃ h' as' c',q=.ok (.ret (.ref S))∧s'={ s with heap:=h' }∧as'.length=es.size∧as'.Nodup∧(∀ b o,s.heap.get? b=some o→h'.get? b=some o)∧h'.get? S=some (seqObj "list" (as'.map Value.ref).toArray c')∧Prs h' h0.objs.size es as') { s with heap:=h2 }:=fun h2 c2 k2 g2 =>
  fin _ (fun h' as' c' a1 a0 a2 a3 a4=>⟨h',as',c',rfl,rfl,a1,a0,a2,a3,a4⟩) h2 c2 (iw.to fun o e=>k2 _ o (Nat.ne_of_gt lS) e) (hm0.at fun o e=>k2 d o (Nat.ne_of_lt ld) (k1 d o e)) g2 fun b o e=>k2 b o (Nat.ne_of_lt (low b o e)) (k1 b o (k0 b o e))
 refine wpAny_ite_split (fun _=>?_) (fun _=>wpAny_pure ⟨plainId_quiet PySem.F.plain_extend_loop _,?_⟩)
 ·refine wpAny_bind (wpAny_rule (wpAny_bind (m:=updateSeq S (·.push .none) >>= fun _=>updateSeq S (·.pop)) (wpAny_bind (wpAny_updateSeq gS1 rfl (wpAny_updateSeq (get?_update_seq gS1 _) rfl (wpAny_pure ⟨plainId_quiet PySem.F.plain_extend_loop _,?_⟩) ?_ ?_) ?_ ?_))))
  ·refine codeAny_mono (loop _ _ (fun b o hb e=>(Heap.get?_update_other _ _ (Ne.symm hb)).trans ((Heap.get?_update_other _ _ (Ne.symm hb)).trans e)) (get?_update_seq (get?_update_seq gS1 _) _)) fun q s' y=>?_
   obtain ⟨h',as',c',rfl,rfl,a1,a0,a2,a3,a4⟩:=y
   refine wpAny_bind (m:=load S) (wpAny_load a3 (wpAny_pure ?_))
   exact h h' as' _ a1 a0 (by rw [← hS]; exact Nat.le_of_lt lS) a2 a4
  all_goals (simp [seqObj,sizeLine_eq])
 ·refine codeAny_mono (loop h1 0 (fun b o _ e=>e) gS1) fun q s' y=>?_
  obtain ⟨h',as',c',rfl,rfl,a1,a0,a2,a3,a4⟩:=y
  refine wpAny_bind (m:=load S) (wpAny_load a3 (wpAny_pure ?_))
  exact h h' as' _ a1 a0 (by rw [← hS]; exact Nat.le_of_lt lS) a2 a4
end
section
variable {prog:Program} {w:World} {A:Around} {E:Value→Shared→Prop} {s:Shared}
theorem Nj:∀ {vs:List Value} {ns:List Int},IntsAre vs ns→ItemsAre (intKind prog w) ns vs
 | _,_,.nil=>.nil
 | _,_,.cons n t r=>.cons (intKind_is prog w n t) (Nj r)
theorem Le {h:Heap} {a:Addr} {its:Array Value} {ns:List Int} (x:IsTup h a its) (y:IntsAre its.toList ns):IsTupleKey (intKind prog w) h ns a :=
 let ⟨o,ho,hc,n,hd⟩:=x; ⟨o,its,n,ho,hc,hd,Nj y⟩
def PairAt (h:Heap) (a:Addr) (q:List Int×Int):Prop:=∃ ka its t,R9 h a (.ref ka) (.int q.2 t)∧IsTup h ka its∧IntsAre its.toList q.1
theorem PairAt.to {h h':Heap} {a:Addr} {q:List Int×Int} (k:∀ b o,h.get? b=some o→o.cls=.type "tuple"→h'.get? b=some o) (x:PairAt h a q):PairAt h' a q :=
 let ⟨ka,its,t,e1,⟨o,ho,hc,r⟩,e3⟩:=x; ⟨ka,its,t,k _ _ e1 rfl,⟨o,k ka o ho hc,hc,r⟩,e3⟩
theorem Zt {a b:Addr} {p q:List Int×Int} {C:Bool→Shared→Prop} (hu:A.units < cLine) (x:PairAt s.heap a p) (y:PairAt s.heap b q) (same:p.1=q.1→p.2=q.2) (h:C (HT.lexLt p.1 q.1) s) :
 wpAny (model prog w) A (keyLt' (tuples' false) (.ref a) (.ref b)) C (fun _ _=>False) s:=by
 obtain ⟨ka,its,t,e1,e2,e3⟩:=x
 obtain ⟨kb,jts,u,f1,f2,f3⟩:=y
 refine W.kat_lt e1 rfl f1 rfl (W.kat_cons (wpAny_eqBool_tuple hu (Le e2 e3) (Le f2 f3) (W.kat_go (fun e=>W.kat_yes (W.kat_cons (wpAny_eqBool_int (W.kat_go (fun _=>W.kat_yes (W.kat_nil ?_)) fun z=>?_)))) fun e=>W.kat_no (W.kat_one _ _ (HT.lt_tupInts e2 f2 e3 f3 hu h)))))
 ·have e:=of_decide_eq_true e
  rw [e,Lj] at h
  exact h
 ·rw [same (of_decide_eq_true e)] at z
  simp at z
def Ij (h:Heap):List Addr→List (List Int×Int)→Prop:=Paired (PairAt h)
theorem Ju {h:Heap}:∀ {as:List Addr} {L:List (List Int×Int)},Ij h as L→∃ fs:List Value,W.KatTups h (as.map Value.ref) fs∧fs.length=as.length∧∀ v∈fs,∃ ka its,v=Value.ref ka∧IsTup h ka its
 | _,_,.nil=>⟨[],trivial,rfl,fun v hv=>by simp at hv⟩
 | _,_,.cons ⟨ka,its,t,e1,e2,e3⟩ r=>by
   obtain ⟨fs,a1,a2,a3⟩:=Ju r
   refine ⟨.ref ka :: fs,W.KatTups.cons e1 rfl rfl rfl a1,by simp [a2],fun v hv=>?_⟩
   rcases List.mem_cons.mp hv with rfl | hv
   ·exact ⟨ka,its,rfl,e2⟩
   ·exact a3 v hv
theorem Oq {h:Heap} {as:List Addr} {L:List (List Int×Int)} (x:Ij h as L) {i:Nat} (hi:i < as.length):∃ a q,as[i]?=some a∧L[i]?=some q∧(as.map Value.ref).getD i .none=.ref a∧(L.map (·.1)).getD i []=q.1∧PairAt h a q:=by
 have hl:=Paired.length x
 obtain ⟨a,ha⟩:=Bd (xs:=as) (j:=i) hi
 obtain ⟨q,hq⟩:=Bd (xs:=L) (j:=i) (by lia)
 refine ⟨a,q,ha,hq,?_,?_,A1 x i a q ha hq⟩
 ·rw [List.getD_eq_getElem?_getD,List.getElem?_map,ha]; rfl
 ·rw [List.getD_eq_getElem?_getD,List.getElem?_map,hq]; rfl
theorem Rl {a:Addr} {as:List Addr} {L:List (List Int×Int)} {n:Nat} {P:PySem.Fin→Shared→Prop} (hu:A.units < cLine) (ho:s.heap.get? a=some (seqObj "list" (as.map Value.ref).toArray n)) (h64:as.length < 64) (x:Ij s.heap as L) (nd:(L.map (·.1)).Nodup)
 (h:∀ q:List Nat,q.Perm (List.range as.length)→q.Pairwise (fun i j=>HT.lexLt ((L.map (·.1)).getD i []) ((L.map (·.1)).getD j [])=true)→∀ h' c,(∀ b o,b≠a→s.heap.get? b=some o→h'.get? b=some o)→h'.get? a=some (seqObj "list" (q.map fun i=>(as.map Value.ref).getD i .none).toArray c)→P (.done (.ret .none)) { s with heap:=h' }) :
 wpAny (model prog w) A (Builtin.«list.sort» ⟨[.ref a],[]⟩) P E s:=by
 have hl:=Paired.length x
 have hml:(as.map Value.ref).length=as.length:=List.length_map ..
 have key:∀ i,i < as.length→∃ h:i < (L.map (·.1)).length,(L.map (·.1)).getD i []=(L.map (·.1))[i]:=fun i hi=>⟨by rw [List.length_map]; lia,by simp [show i < L.length by lia]⟩
 have one:∀ i j,i < as.length→j < as.length→(L.map (·.1)).getD i []=(L.map (·.1)).getD j []→i=j:=fun i j hi hj e=>by
  obtain ⟨l1,e1⟩:=key i hi
  obtain ⟨l2,e2⟩:=key j hj
  rw [e1,e2] at e
  exact (List.getElem_inj nd).mp e
 refine Ow (lt:=fun i j=>HT.lexLt ((L.map (·.1)).getD i []) ((L.map (·.1)).getD j [])) ho (by rw [hml]; exact h64) ⟨fun i j k _ _ _=>P5,fun i j hi hj hij e=>P6 (fun z=>hij (one i j (by lia) (by lia) z)) e⟩ (fun h2 h' kp Q hQ=>?_) (by rw [hml]; exact h)
 have x':Ij h' as L:=An (fun b q y=>y.to fun b o e c=>kp b o (fun z=>by rw [z,ho] at e; cases e; exact absurd (show Value.type "list"=Value.type "tuple" from c) (by decide)) e) x
 obtain ⟨fs,f1,f2,f3⟩:=Ju x'
 refine W.kat_kind (s:={ s with heap:=h' }) (T:=.type "tuple") f1 (by rw [f2]; lia) (fun v hv=>?_) rfl (hQ _ fun i j hi hj C hC=>?_)
 ·obtain ⟨ka,its,rfl,o,e,c,_⟩:=f3 v hv
  have z:W.Looks (model prog w) h' (typeOf (.ref ka)) o.cls:=(W.Looks.ld e).andThen .now
  rw [c] at z; exact z
 ·rw [hml] at hi hj
  obtain ⟨a1,q1,g1,g2,g3,g4,g5⟩:=Oq x' hi
  obtain ⟨a2,q2,k1,k2,k3,k4,k5⟩:=Oq x' hj
  unfold W.kas_ask
  rw [g3,k3]
  dsimp only at hC
  rw [g4,k4] at hC
  refine Zt (s:={ s with heap:=h' }) hu g5 k5 (fun z=>?_) hC
  have e:=one i j hi hj (by rw [g4,k4,z])
  subst e
  rw [g2] at k2; cases k2; rfl
end
def lay (H:Hp):List (Addr×List V)→Hp
 | []=>H
 | p :: r=>upd (lay H r) p.1 (.tup p.2)
theorem P7 {H:Hp} {b:Addr}:∀ {ps:List (Addr×List V)},b∉ps.map (·.1)→lay H ps b=H b
 | [],_=>rfl
 | p :: r,h=>by
   have h1:b≠p.1:=fun z=>h (by rw [z]; exact List.mem_cons_self ..)
   show (upd (lay H r) p.1 (.tup p.2)) b=_
   rw [Ac h1]
   exact P7 fun z=>h (List.mem_cons_of_mem _ z)
theorem Uq {H:Hp}:∀ {ps:List (Addr×List V)},(ps.map (·.1)).Nodup→∀ p∈ps,lay H ps p.1=some (.tup p.2)
 | [],_,p,hp=>by cases hp
 | q :: r,nd,p,hp=>by
   have nd':=List.nodup_cons.mp nd
   rcases List.mem_cons.mp hp with rfl | hp
   ·exact Ab
   ·have ne:p.1≠q.1:=fun z=>nd'.1 (List.mem_map.mpr ⟨p,hp,z⟩)
    show (upd (lay H r) q.1 (.tup q.2)) p.1=_
    rw [Ac ne]
    exact Uq nd'.2 p hp
section
variable {X:Cx} {pins:List (Addr×Obj)} {σ:L2.St} {H:Hp} {s:Shared}
def Jd8 (X:Cx) (pins:List (Addr×Obj)) (a:Addr):Prop:=X.s₀.heap.get? a=none∧a≠X.env.locals∧(∀ x c,X.env.cells.lookup x=some c→c≠a)∧∀ p∈X.pn++pins,p.1≠a
theorem Inv.newA {a:Addr} (I:Inv X pins σ H s) (h:s.heap.objs.size≤a):Jd8 X pins a :=
 let x:=I.fpOk (H':=fun _=>none) h rfl
 ⟨Heap.get?_none_of_le (Nat.le_trans I.sz h),x.2.1,x.2.2.2.2.1,x.2.2.2.2.2⟩
theorem Uw:∀ {ps:List (Addr×List V)},Inv X pins σ H s→(ps.map (·.1)).Nodup→(∀ p∈ps,Jd8 X pins p.1∧H p.1=none∧∀ H',ObjOk X.prog X.w H' s.heap p.1 (.tup p.2))→Inv X pins σ (lay H ps) s
 | [],I,_,_=>I
 | p :: r,I,nd,h=>by
   have nd':=List.nodup_cons.mp nd
   obtain ⟨⟨a1,a2,a3,a4⟩,a5,a6⟩:=h p (List.mem_cons_self ..)
   exact Oz (Uw I nd'.2 fun q hq=>h q (List.mem_cons_of_mem _ hq)) (by rw [P7 nd'.1]; exact a5) a1 a2 a3 a4 (a6 _)
end
def RecAt (H:Hp) (a:Addr) (q:T2×Int):Prop:=∃ ka,H a=some (.tup [.ref ka,.int q.2])∧H ka=some (.tup (tv q.1))
theorem Yj {P:Program} {w:World} {H:Hp} {h1:Heap} {n:Nat}:∀ {as:List Addr} {L:List (T2×Int)},Paired (fun a q=>n≤a∧∃ ka t,R9 h1 a (.ref ka) (.int q.2 t)∧H ka=some (.tup (tv q.1))) as L →
 ∃ ps:List (Addr×List V),ps.map (·.1)=as∧(∀ p∈ps,n≤p.1∧∀ H',ObjOk P w H' h1 p.1 (.tup p.2))∧Paired (fun p q=>∃ ka,p.2=[.ref ka,.int q.2]∧H ka=some (.tup (tv q.1))) ps L
 | _,_,.nil=>⟨[],rfl,fun p hp=>by (cases hp),.nil⟩
 | a :: _,q :: _,.cons ⟨la,ka,t,e1,e2⟩ r=>by
   obtain ⟨ps,b1,b2,b3⟩:=Yj (P:=P) (w:=w) r
   refine ⟨(a,[.ref ka,.int q.2]) :: ps,by rw [List.map_cons,b1],fun p hp=>?_,.cons ⟨ka,rfl,e2⟩ b3⟩
   rcases List.mem_cons.mp hp with rfl | hp
   ·exact ⟨la,fun H'=>⟨by show 2≤sizeLine; rw [sizeLine_eq]; lia,[.ref ka,.int q.2 t],.cons rfl (.cons ⟨t,rfl⟩ .nil),⟨_,e1,rfl,_,rfl⟩⟩⟩
   ·exact b2 p hp
section
variable {X:Cx}
theorem Kf (hc:X.calm=true) (hu:X.A.units + 64 < cLine):E8 X (.builtin "sorted") (fun xs H Q=>∃ v d,∃ L rs:List (T2×Int),xs=[.ref v]∧H v=some (P8 v d)∧H d=some (Bs L)∧L.length < 64∧rs.Perm L∧(rs.map (·.1)).Pairwise lt2 ∧
 ∀ (r:Addr) (as:List Addr) (H':Hp),B1 H H'→H r=none→H' r=some (.lst (as.map V.ref))→Paired (RecAt H') as rs→Q (.ref r) H'):=by
 intro pins s σ H xs us Q I rv h
 obtain ⟨v,d,L,rs,rfl,hv,hd,h64,pm,pw,q⟩:=h
 obtain ⟨u,rfl,rx⟩:=vals1 rv
 cases rx
 obtain ⟨z,lo,ys,rel,o,es,ep,g1,g2,g3,g4,g5⟩:=(show ObjOk X.prog X.w H s.heap d (Bs L) from I.hok d _ hd)
 have vw:s.heap.IsItemsView v d:=(I.hok v _ hv).1
 have hes:es.size=ys.length:=size_of_entries g4
 have hyl:ys.length=L.length:=by have:=Paired.length rel; rw [List.length_map] at this; exact this.symm
 have ent:∀ (j:Nat) (e:DictEntry) (q:T2×Int),es[j]?=some e→L[j]?=some q→∃ ka t,e.key=.ref ka∧e.val=.int q.2 t∧H ka=some (.tup (tv q.1)):=fun j e q h1 h2=>by
  rw [entry_at g4 j] at h1
  cases hy:ys[j]? with
  | none=>rw [hy] at h1; cases h1
  | some y =>
    rw [hy] at h1
    cases h1
    obtain ⟨r1,r2,r3⟩:=A1 rel j (tk q.1,V.int q.2) y (by rw [List.getElem?_map,h2]; rfl) hy
    obtain ⟨t,r3⟩:=r3
    exact ⟨y.2.1,t,rfl,r3,r2⟩
 have ndL:(L.map (·.1)).Nodup:=(pm.map (·.1)).nodup_iff.mp (List.Pairwise.imp (fun {a b} (h:lt2 a b) (z:a=b)=>by rw [Er,z] at h; lia) pw)
 refine Calls.call_function_entry kind_sorted plain_sorted entry_sorted (args_sorted1 _) (by
  unfold Builtin.«sorted»
  refine wpAny_bind (m:=checkCount "sorted" 1 1 _) (wpAny_pure (wpAny_bind (Of (show _ from I.ok.hd hc) vw ⟨o,g1,g2,g3⟩ (by rw [hes,hyl,sizeLine_eq]; lia) fun h1 as it hl nda hit kp prs=>?_)))
  have I1:Inv X pins σ H { s with heap:=h1,toks:=s.toks }:=I.kept kp
  have hasL:as.length=L.length:=by lia
  have fct:Paired (fun a q=>s.heap.objs.size≤a∧∃ ka t,R9 h1 a (.ref ka) (.int q.2 t)∧H ka=some (.tup (tv q.1))) as L:=Cz hasL fun j a q e1 e2=>by
   obtain ⟨la,e,e3,e4⟩:=prs j a e1
   obtain ⟨ka,t,k1,k2,k3⟩:=ent j e q e3 e2
   rw [k1,k2] at e4
   exact ⟨Nat.le_of_lt (Nat.lt_of_le_of_lt hit la),ka,t,e4,k3⟩
  obtain ⟨ps,b1,b2,b3⟩:=Yj (P:=X.prog) (w:=X.w) fct
  have hno:∀ a,s.heap.objs.size≤a→H a=none:=fun a ha=>I.hok.fresh ha
  have I2:Inv X pins σ (lay H ps) { s with heap:=h1,toks:=s.toks }:=Uw I1 (by rw [b1]; exact nda) fun p hp=>⟨Inv.newA I (b2 p hp).1,hno _ (b2 p hp).1,(b2 p hp).2⟩
  have sm:B1 H (lay H ps):=fun b ob e=>by
   rw [P7 (fun z=>?_)]
   ·exact e
   ·obtain ⟨p,hp,rfl⟩:=List.mem_map.mp z
    rw [hno _ (b2 p hp).1] at e; cases e
  have rec0:Paired (RecAt (lay H ps)) as L:=by
   rw [← b1]
   refine Cz (by rw [List.length_map]; exact Paired.length b3) fun j a q e1 e2=>?_
   rw [List.getElem?_map] at e1
   cases hp:ps[j]? with
   | none=>rw [hp] at e1; cases e1
   | some p =>
     rw [hp] at e1
     cases e1
     obtain ⟨ka,k1,k2⟩:=A1 b3 j p q hp e2
     exact ⟨ka,by rw [Uq (by rw [b1]; exact nda) p (List.mem_of_getElem? hp),k1],sm _ _ k2⟩
  have prs2:Ij h1 as (L.map fun q=>(([q.1.1,q.1.2]:List Int),q.2)):=Cz (by rw [List.length_map]; exact hasL) fun j a q e1 e2=>by
   rw [List.getElem?_map] at e2
   cases hq:L[j]? with
   | none=>rw [hq] at e2; cases e2
   | some q0 =>
     rw [hq] at e2
     cases e2
     obtain ⟨_,ka,t,k1,k2⟩:=A1 fct j a q0 e1 hq
     obtain ⟨its,rv,it2,_⟩:=I1.tuple (SqT.of (K:=X.K) k2)
     exact ⟨ka,its.toArray,t,k1,it2,by simpa using intsAre_of (ns:=[q0.1.1,q0.1.2]) rv⟩
  have eK:(L.map fun q=>(([q.1.1,q.1.2]:List Int),q.2)).map (·.1)=L.map fun q=>[q.1.1,q.1.2]:=by rw [List.map_map]; rfl
  have ndK:((L.map fun q=>(([q.1.1,q.1.2]:List Int),q.2)).map (·.1)).Nodup:=by
   have e:(L.map fun q=>([q.1.1,q.1.2]:List Int))=(L.map (·.1)).map fun t=>[t.1,t.2]:=by rw [List.map_map]; rfl
   rw [eK,e]
   exact List.Pairwise.map _ (fun a b h z=>h (by obtain ⟨a1,a2⟩:=a; obtain ⟨c1,c2⟩:=b; simp at z; rw [z.1,z.2])) ndL
  refine wpAny_bind (wpAny_newList ?_ (by rw [List.length_map,sizeLine_eq]; lia))
  have g1:(h1.push (seqObj "list" (as.map Value.ref).toArray 0)).get? h1.objs.size=some (seqObj "list" (as.map Value.ref).toArray 0):=Heap.get?_push_size _ rfl
  have prs3:Ij (h1.push (seqObj "list" (as.map Value.ref).toArray 0)) as (L.map fun q=>(([q.1.1,q.1.2]:List Int),q.2)):=An (fun a q y=>y.to fun b o e _=>Heap.get?_push_of_some _ e) prs2
  refine wpAny_bind (wpAny_holding (wpAny_call_entry slot_list_sort ⟨_,g1,rfl⟩ entry_list_sort (Rl (by show X.A.units + 1 + 1 < cLine; lia) g1 (by lia) prs3 ndK fun p pp po h2 c kp2 e=>⟨_,rfl,?_⟩) (args_list_sort _)))
  have hn:H h1.objs.size=none:=I1.hok.fresh (Nat.le_refl _)
  have hn2:lay H ps h1.objs.size=none:=I2.hok.fresh (Nat.le_refl _)
  have inr:∀ i∈p,i < as.length:=fun i hi=>List.mem_range.mp (pp.mem_iff.mp hi)
  have eR:p.map (fun i=>L.getD i ((0,0),0))=rs:=by
   refine F9 (lt:=fun a b:T2×Int=>lt2 a.1 b.1) (fun a z=>by rw [Er] at z; lia) (fun a b h1 h2=>by rw [Er] at h1 h2; lia) ?_ ?_ (by rw [← List.pairwise_map (f:=fun q:T2×Int=>q.1) (R:=lt2)]; exact pw)
   ·have e2:(List.range as.length).map (fun i=>L.getD i ((0,0),0))=L:=by
     refine List.ext_getElem? fun j=>?_
     rw [List.getElem?_map]
     by_cases hj:j < L.length
     ·rw [show (List.range as.length)[j]?=some j by simp [hasL,hj]]; simp [hj]
     ·rw [show (List.range as.length)[j]?=none by simp [hasL]; lia,List.getElem?_eq_none (by lia)]; rfl
    have e7:=pp.map fun i=>L.getD i ((0,0),0)
    rw [e2] at e7
    exact e7.trans pm.symm
   ·rw [List.pairwise_map]
    refine List.Pairwise.imp_of_mem (fun {i j} hi hj z=>?_) po
    have li:=inr i hi
    have lj:=inr j hj
    rw [eK] at z
    simpa [lt2,show i < L.length by lia,show j < L.length by lia] using z
  have eV:(p.map fun i=>(as.map Value.ref).getD i .none)=(p.map fun i=>as.getD i 0).map Value.ref:=by
   rw [List.map_map]
   refine List.map_congr_left fun i hi=>?_
   have:=inr i hi
   simp [this]
  have rec1:Paired (RecAt (upd (lay H ps) h1.objs.size (.lst ((p.map fun i=>as.getD i 0).map V.ref)))) (p.map fun i=>as.getD i 0) rs:=by
   rw [← eR]
   refine Cz (by rw [List.length_map,List.length_map]) fun j a q e1 e2=>?_
   rw [List.getElem?_map] at e1 e2
   cases hp:p[j]? with
   | none=>rw [hp] at e1; cases e1
   | some i =>
     rw [hp] at e1 e2
     cases e1
     cases e2
     have li:=inr i (List.mem_of_getElem? hp)
     obtain ⟨ka,k1,k2⟩:=A1 rec0 i (as.getD i 0) (L.getD i ((0,0),0)) (by simp [li]) (by simp [show i < L.length by lia])
     exact ⟨ka,Ae hn2 _ _ k1,Ae hn2 _ _ k2⟩
  refine wpAny_pure ⟨_,rfl,.ref h1.objs.size,_,I2.laid (a:=h1.objs.size) (o:=.lst ((p.map fun i=>as.getD i 0).map V.ref)) (t':=s.toks) (fun b o hb=>kp2 b o (Nat.ne_of_lt (Heap.lt_size hb)) (Heap.get?_push_of_some _ hb)) (Nat.le_refl _) ⟨?_,(p.map fun i=>as.getD i 0).map Value.ref,c,Fv _,?_⟩,rfl,q _ (p.map fun i=>as.getD i 0) _ (Aj sm (Ae hn2)) hn Ab rec1⟩
  ·rw [List.length_map,List.length_map,pp.length_eq,List.length_range,sizeLine_eq]; lia
  ·rw [← eV]; exact e)
end
theorem J9 {α β:Type} (f:α→β):∀ (xs:List α) (j:Nat),(xs.map f).eraseIdx j=(xs.eraseIdx j).map f
 | [],_=>rfl
 | _ :: _,0=>rfl
 | x :: xs,j + 1=>congrArg (f x :: ·) (J9 f xs j)
section
variable {prog:Program} {w:World} {K:Type} [DecidableEq K] {knd:HeapKind prog w K} {A:Around} {E:Value→Shared→Prop} {s:Shared}
theorem Pp {d a:Addr} {xs:List (K×Addr×Value)} {k:K} {p:Addr×Value} {j:Nat} {Q:Option DictEntry→Shared→Prop} (hu:knd.room A) (hkey:knd.is s.heap k a) (hm:s.heap.DictOfH knd d xs) (hz:xs.length≤sizeLine) (hj:xs[j]?=some (k,p))
 (hQ:∀ h' o es ep,h'.get? d=some o→o.ExactDict→o.data=.dict es ep→es.toList=(xs.eraseIdx j).map (entryOfKey knd)→Heap.SameBut d s.heap h'→Q (some (entryOfKey knd (k,p))) { s with heap:=h',toks:=s.toks + knd.draws k }) :
 wpAny (model prog w) A (Builtin.Dict.takeOut d (.ref a)) Q E s:=by
 obtain ⟨o,es,ep,ho,hc,hd,he,his,hn⟩:=hm
 unfold Builtin.Dict.takeOut
 refine wpAny_holding (wpAny_bind (knd.pyHash hu hkey (wpAny_bind (wpAny_dictFind_heap (s:={ s with toks:=s.toks + knd.draws k }) hu hkey ho hd he his hn (fun no=>absurd hj (no j p)) fun i q hi=>?_))))
 obtain rfl:=idxH_unique hn hi hj
 rw [hj] at hi; cases hi
 refine wpAny_bind (wpAny_dictEntries (s:={ s with toks:=s.toks + knd.draws k }) ho hd ?_)
 rw [entry_at he i,hj]
 refine wpAny_bind (wpAny_updateDictKeys (hz:=by rw [size_of_entries he]; exact hz) (s:={ s with toks:=s.toks + knd.draws k }) ho hd (wpAny_pure (hQ _ _ _ _ (Heap.get?_update_self _ ho (Obj.isFreed_of_dict (Obj.data_mapDictKeys hd _))) (hc.mapDictKeys _) (Obj.data_mapDictKeys hd _) ?_ (Heap.SameBut.update ..))))
 have e1:(es.eraseIdxIfInBounds i).toList=es.toList.eraseIdx i:=by simp
 rw [e1,he]; exact J9 _ _ _
theorem Xk {d a:Addr} {xs:List (K×Addr×Value)} {k:K} {p:Addr×Value} {j:Nat} {Q:PySem.Fin→Shared→Prop} (hu:knd.room A) (hkey:knd.is s.heap k a) (hm:s.heap.DictOfH knd d xs) (hz:xs.length≤sizeLine) (hj:xs[j]?=some (k,p))
 (hQ:∀ h' o es ep,h'.get? d=some o→o.ExactDict→o.data=.dict es ep→es.toList=(xs.eraseIdx j).map (entryOfKey knd)→Heap.SameBut d s.heap h'→Q (.done (.ret p.2)) { s with heap:=h',toks:=s.toks + knd.draws k }) :
 wpAny (model prog w) A (Builtin.«dict.pop» ⟨[.ref d,.ref a],[]⟩) Q E s:=by
 have ty:=hm.typeIs
 obtain ⟨o,es,ep,ho,hc,hd,he,his,hn⟩:=id hm
 have ne:es.isEmpty=false:=by
  have h1:=size_of_entries he
  have h2:j < xs.length:=(List.getElem?_eq_some_iff.mp hj).1
  cases h3:es.isEmpty with
  | false=>rfl
  | true=>rw [Array.isEmpty_iff_size_eq_zero] at h3; omega
 unfold Builtin.«dict.pop» Builtin.Dict.keyAndDefault
 refine wpAny_bind (wpAny_bind (wpAny_notOrdered_dict ty (wpAny_pure ?_)))
 dsimp only
 rw [if_neg (show ¬ (keyPart (Value.ref a)).isSome=true from Bool.false_ne_true)]
 refine wpAny_bind (wpAny_dictEntries ho hd (wpAny_bind (wpAny_pure ?_)))
 rw [if_neg (by rw [ne]; exact Bool.false_ne_true)]
 refine wpAny_bind (Pp hu hkey hm hz hj fun h' o' es' ep' a1 a2 a3 a4 a5=>?_)
 exact wpAny_bind (wpAny_letGo (wpAny_pure (hQ h' o' es' ep' a1 a2 a3 a4 a5)))
end
section
variable {κ:Type} [DecidableEq κ]
theorem Nu:∀ {kvs:List (κ×V)} {k:κ} {v:V} {j:Nat},(kvs.map (·.1)).Nodup→kvs[j]?=some (k,v)→Dk kvs k=kvs.eraseIdx j
 | [],_,_,j,_,h=>by simp at h
 | p :: r,k,v,0,nd,h=>by
   have h:p=(k,v):=by simpa using h
   have nd':=List.nodup_cons.mp nd
   rw [Wf (by rw [h]),Ry (by rw [h] at nd'; exact nd'.1)]
   rfl
 | p :: r,k,v,j + 1,nd,h=>by
   have h:r[j]?=some (k,v):=by simpa using h
   have nd':=List.nodup_cons.mp nd
   have ne:¬ p.1=k:=fun z=>nd'.1 (List.mem_map.mpr ⟨(k,v),List.mem_of_getElem? h,z.symm⟩)
   rw [Pa ne,Nu nd'.2 h]
   rfl
theorem Tr:∀ {kvs:List (κ×V)} {k:κ} {v:V},Cp kvs k=some v→∃ j:Nat,kvs[j]?=some (k,v)
 | [],k,v,h=>by cases h
 | p :: r,k,v,h=>by
   by_cases e:p.1=k
   ·rw [Cw e] at h
    exact ⟨0,by rw [← e,← Option.some.inj h]; rfl⟩
   ·rw [Av e] at h
    obtain ⟨j,hj⟩:=Tr h
    exact ⟨j + 1,by simpa using hj⟩
end
section
variable {X:Cx} {pins:List (Addr×Obj)} {σ:L2.St} {H:Hp} {s:Shared} {A:Around} {E:Value→Shared→Prop} {a b:Addr}
theorem Nd:∀ {kvs:List (List Key×V)} {xs:List (List Key×Addr×Value)},KT H kvs xs→xs.map (·.1)=kvs.map (·.1)
 | _,_,.nil=>rfl
 | _,_,.cons r t=>by rw [List.map_cons,List.map_cons,Nd t,r.1]
theorem Jcu {kvs:List (List Key×V)} {k:List Key} {v:V} {Q:Value→Shared→Prop} (hu:A.units + 1 < cLine) (I:Inv X pins σ H s) (e:H a=some (.dT kvs)) (eb:H b=some (.tup (k.map kV))) (l:Cp kvs k=some v)
 (h:∀ w' s',Inv X pins σ (upd H a (.dT (Dk kvs k))) s'→RelV v w'→Q w' s'):wpAny (model X.prog X.w) A (call (.builtin "dict.pop") [.ref a,.ref b]) Q E s:=by
 obtain ⟨z,hd,xs,rel,dd⟩:=O9 I.hok e
 have hz:xs.length≤sizeLine:=by rw [← Paired.length rel]; exact z
 obtain ⟨j,hj⟩:=Tr l
 have hjx:j < xs.length:=by rw [← Paired.length rel]; exact (List.getElem?_eq_some_iff.mp hj).1
 obtain ⟨x,hx⟩:=Bd hjx
 obtain ⟨r1,r2,r3⟩:=A1 rel j _ _ hj hx
 obtain ⟨k',p⟩:=x
 have r1:k=k':=r1
 subst r1
 have nd:(kvs.map (·.1)).Nodup:=by
  obtain ⟨_,_,_,_,_,_,_,_,nd⟩:=id dd
  rw [← Nd rel]; exact nd
 have ndx:((xs.eraseIdx j).map (·.1)).Nodup:=by
  rw [← J9,Nd rel]; exact nd.sublist (List.eraseIdx_sublist _ _)
 refine wpAny_call_entry PySem.F.slot_dict_pop dd.typeIs PySem.F.entry_dict_pop (Xk (tupleKind_room_in1 hu) (Jf I.hok eb) dd hz hx fun h' o es ep a1 a2 a3 a4 a5=>⟨_,rfl,h _ _ ?_ r3⟩) (PySem.F.args_dict_pop_2 _ _)
 rw [Nu nd hj]
 refine Ih I (by rw [e]; exact True.intro) a5 ⟨o,a1⟩ ⟨?_,hd,xs.eraseIdx j,KT.keeps (Jv j rel) fun c ys ec=>?_,o,es,ep,a1,a2,a3,a4,ndx⟩
 ·exact Nat.le_trans (by rw [List.length_eraseIdx]; split <;> omega) z
 ·rw [Ac (Il ec e (fun z=>nomatch z))]
  exact ec
def Jbn (td ty:TE):TE:=fun σ H Q=>td σ H fun x H1=>∃ a,x=.ref a∧IsD H1 a∧ty σ H1 fun y H2=>∃ kvs k v b,H2 a=some (.dT kvs)∧y=.ref b∧H2 b=some (.tup (k.map kV))∧Cp kvs k=some v∧Q v (upd H2 a (.dT (Dk kvs k)))
theorem C4 {o e:Expr} {apos cpos:Pos} {td ty:TE} (hu:X.A.units + 1 < cLine) (ho:PE X o td) (he:PE X e ty) (m:M1 X o "pop" apos e cpos):PE X (.Call (.Attribute o "pop" apos) [e] [] cpos) (Jbn td ty):=by
 intro pins s σ H Q I h
 refine wpAny_Call_method m.base m.few m.line PySem.F.plainAttrs_dict PySem.F.slot_dict_pop PySem.F.type_dict_pop (thn (ho pins s σ H _ I h) fun u s1 ⟨x,H1,I1,rx,a,ex,d,q1⟩=>?_)
 subst ex
 obtain rfl:u=Value.ref a:=rx
 obtain ⟨t1,t2,_⟩:=Ym I1 d
 refine ⟨t1,t2,?_⟩
 rw [m.trees]
 refine Calls.callWith_builtin rfl (Calls.evalArgs_plain (Calls.spliced_cons (thn (he pins s1 σ H1 _ I1 q1) fun iv s2 ⟨y,H2,I2,ry,kvs,k,v,b,ea,ey,eb,l,q2⟩=>Calls.spliced_nil ?_)))
 subst ey
 obtain rfl:iv=Value.ref b:=ry
 exact Jcu hu I2 ea eb l fun w' s3 I3 rw'=>⟨v,_,I3,rw',q2⟩
end
def Eb (l:List (T2×Addr×List T2)) (a:Addr) (h:List T2):List (T2×Addr×List T2):=l.map fun q=>if q.2.1=a then (q.1,a,h) else q
theorem Jk (l:List (T2×Addr×List T2)) (a:Addr) (h:List T2):(Eb l a h).map (·.2.1)=l.map (·.2.1):=by
 unfold Eb
 rw [List.map_map]
 refine List.map_congr_left fun q _=>?_
 show (if q.2.1=a then (q.1,a,h) else q).2.1=q.2.1
 by_cases e:q.2.1=a
 ·rw [if_pos e]; exact e.symm
 ·rw [if_neg e]
theorem Qs (l:List (T2×Addr×List T2)) (a:Addr) (h:List T2):(Eb l a h).map (fun q=>(tk q.1,V.ref q.2.1))=l.map fun q=>(tk q.1,V.ref q.2.1):=by
 unfold Eb
 rw [List.map_map]
 refine List.map_congr_left fun q _=>?_
 show (tk (if q.2.1=a then (q.1,a,h) else q).1,V.ref (if q.2.1=a then (q.1,a,h) else q).2.1)=_
 by_cases e:q.2.1=a
 ·rw [if_pos e,← e]
 ·rw [if_neg e]
theorem Rk {l:List (T2×Addr×List T2)} {a:Addr} {h:List T2} {q:T2×Addr×List T2} (m:q∈Eb l a h):(∃ q0∈l,q0.2.1=a∧q=(q0.1,a,h))∨(q∈l∧q.2.1≠a):=by
 unfold Eb at m
 obtain ⟨q0,h0,e⟩:=List.mem_map.mp m
 by_cases e1:q0.2.1=a
 ·rw [if_pos e1] at e; exact .inl ⟨q0,h0,e1,e.symm⟩
 ·rw [if_neg e1] at e; rw [← e]; exact .inr ⟨h0,e1⟩
section
variable {C p:Addr} {H H':Hp} {G:HGh}
theorem HouseAt.setHold (x:HouseAt C H p G) {q:T2×Addr×List T2} (hq:q∈G.holds) (l:List T2):HouseAt C (upd H q.2.1 (Bi l)) p { G with holds:=Eb G.holds q.2.1 l }:=by
 obtain ⟨_,_,_,d1⟩:=x.nds
 obtain ⟨n1,n2,n3,n4⟩:=d1 q hq
 have mem:q.2.1∈Am G:=by
  unfold Am
  exact List.mem_cons_of_mem _ (List.mem_cons_of_mem _ (List.mem_cons_of_mem _ (List.mem_cons_of_mem _ (List.mem_map_of_mem hq))))
 have np:=x.p_ne mem
 obtain ⟨dx,e⟩:=x.ob
 refine ⟨⟨dx,by rw [Ac np.symm]; exact e⟩,by rw [Ac n1.symm]; exact x.dh,by rw [Ac n2.symm]; exact x.dO,?_,by rw [Ac n4.symm]; exact x.dr,fun r hr=>?_,?_⟩
 ·rw [Ac n3.symm]
  show H G.l=some (.dT ((Eb G.holds q.2.1 l).map fun q=>(tk q.1,V.ref q.2.1)))
  rw [Qs]; exact x.dl
 ·rcases Rk hr with ⟨q0,_,e1,e2⟩ | ⟨h1,h2⟩
  ·rw [e2]; exact Ab
  ·rw [Ac h2]; exact x.hl r h1
 ·have e2:Am { G with holds:=Eb G.holds q.2.1 l }=Am G:=by
   unfold Am
   rw [Jk]
  rw [e2]; exact x.nd
end
def Bf (l:List T2) (t:T2):List T2:=if t∈l then l else l++[t]
def Dr (l:List T2) (t:T2):List T2:=l.filter fun u=>decide (u≠t)
theorem Wc (l:List T2) (t:T2):l.find? (fun q=>decide (q=t))=if t∈l then some t else none:=by
 by_cases h:t∈l
 ·rw [if_pos h]
  cases e:l.find? fun q=>decide (q=t) with
  | none=>exact absurd (List.find?_eq_none.mp e t h) (by simp)
  | some u =>
    have:=List.find?_some e
    have:u=t:=by simpa using this
    rw [this]
 ·rw [if_neg h]
  exact List.find?_eq_none.mpr fun u hu=>by
   have:¬ u=t:=fun z=>h (z ▸ hu)
   simpa using this
theorem Ib (l:List T2) (t:T2):Cp (l.map fun q=>(tk q,V.bl true)) (tk t)=if t∈l then some (V.bl true) else none:=by
 rw [Ct (k:=fun q:T2=>q) (f:=fun _=>V.bl true),Wc]
 by_cases h:t∈l
 ·rw [if_pos h,if_pos h]; rfl
 ·rw [if_neg h,if_neg h]; rfl
theorem Eu (l:List T2) (t:T2):putK (l.map fun q=>(tk q,V.bl true)) (tk t) (V.bl true)=(Bf l t).map fun q=>(tk q,V.bl true):=by
 unfold Bf
 by_cases h:t∈l
 ·rw [if_pos h]
  unfold putK
  rw [Fs,Ib,if_pos h,if_pos (show (some (V.bl true)).isSome=true from rfl),List.map_map]
  refine List.map_congr_left fun q _=>?_
  show (if tk q=tk t then (tk q,V.bl true) else (tk q,V.bl true))=_
  by_cases e:tk q=tk t
  ·rw [if_pos e]
  ·rw [if_neg e]
 ·rw [if_neg h,Gm (k:=fun q:T2=>q) (f:=fun _=>V.bl true) _ (fun q hq z=>h (by rw [← z]; exact hq)),List.map_append]
  rfl
theorem C8 {α:Type} (l:List α) (k:α→T2) (f:α→V) (t:T2):Dk (l.map fun q=>(tk (k q),f q)) (tk t)=(l.filter fun q=>decide (k q≠t)).map fun q=>(tk (k q),f q):=by
 unfold Dk
 rw [List.filter_map]
 congr 1
 refine List.filter_congr fun q _=>?_
 show decide (tk (k q)≠tk t)=decide (k q≠t)
 by_cases e:k q=t
 ·rw [e]; simp
 ·have e2:¬ tk (k q)=tk t:=fun z=>e (Se z)
  simp [e,e2]
def Bc (l:List (T2×Int)) (t:T2) (v:Int):List (T2×Int):=if t∈l.map (·.1) then l.map fun q=>if q.1=t then (q.1,v) else q else l++[(t,v)]
theorem Cq (l:List (T2×Int)) (t:T2) (v:Int):putK (l.map fun q=>(tk q.1,V.int q.2)) (tk t) (V.int v)=(Bc l t v).map fun q=>(tk q.1,V.int q.2):=by
 unfold Bc
 by_cases h:t∈l.map (·.1)
 ·rw [if_pos h]
  unfold putK
  have e1:((l.map fun q=>(tk q.1,V.int q.2)).any fun kv=>decide (kv.1=tk t))=true:=by
   obtain ⟨q,hq,e⟩:=List.mem_map.mp h
   exact List.any_eq_true.mpr ⟨(tk q.1,V.int q.2),List.mem_map_of_mem hq,by simp [e]⟩
  rw [e1,if_pos rfl,List.map_map,List.map_map]
  refine List.map_congr_left fun q _=>?_
  show (if tk q.1=tk t then (tk q.1,V.int v) else (tk q.1,V.int q.2))=(tk (if q.1=t then (q.1,v) else q).1,V.int (if q.1=t then (q.1,v) else q).2)
  by_cases e:q.1=t
  ·rw [if_pos e,if_pos (by rw [e])]
  ·rw [if_neg e,if_neg fun z=>e (Se z)]
 ·rw [if_neg h,Gm (k:=fun q:T2×Int=>q.1) (f:=fun q=>V.int q.2) _ fun q hq z=>h (List.mem_map.mpr ⟨q,hq,z⟩),List.map_append]
  rfl
section
variable {X:Cx}
theorem F7 (hc:X.calm=true):E8 X (.builtin "sorted") (fun xs H Q=>∃ (l:Addr) (as:List Addr) (ts ss:List T2),xs=[.ref l]∧H l=some (.lst (as.map V.ref))∧ThsAt H as ts∧ts.length < 64∧ss.Perm ts∧ss.Pairwise lt2 ∧
 ∀ (r:Addr) (as':List Addr),H r=none→ThsAt H as' ss→Q (.ref r) (upd H r (.lst (as'.map V.ref)))):=by
 intro pins s σ H xs us Q I rv h
 obtain ⟨l,as,ts,ss,rfl,hl,th,h64,pm,pw,q⟩:=h
 obtain ⟨u,rfl,rx⟩:=vals1 rv
 cases rx
 obtain ⟨z,its,n,vl,gl⟩:=(show ObjOk X.prog X.w H s.heap l (.lst (as.map V.ref)) from I.hok l _ hl)
 have ei:=Fq vl
 subst ei
 have hal:=Paired.length th
 have nd:ts.Nodup:=pm.nodup_iff.mp (List.Pairwise.imp (fun {a b} (h:lt2 a b) (z:a=b)=>by rw [Er,z] at h; lia) pw)
 have ndK:(ts.map fun t=>([t.1,t.2]:List Int)).Nodup:=List.Pairwise.map _ (fun a b h z=>h (by obtain ⟨a1,a2⟩:=a; obtain ⟨c1,c2⟩:=b; simp at z; rw [z.1,z.2])) nd
 have t0:TupsAt s.heap as (ts.map fun t=>[t.1,t.2]):=Cz (by rw [List.length_map]; exact hal) fun j a ns e1 e2=>by
  rw [List.getElem?_map] at e2
  cases ht:ts[j]? with
  | none=>rw [ht] at e2; cases e2
  | some t =>
    rw [ht] at e2
    cases e2
    obtain ⟨its,rv,it,_⟩:=I.tuple (SqT.of (K:=X.K) (A1 th j a t e1 ht))
    exact ⟨by simp,its.toArray,it,by simpa using intsAre_of (ns:=[t.1,t.2]) rv⟩
 refine Calls.call_function_entry kind_sorted plain_sorted entry_sorted (args_sorted1 _) (by
  unfold Builtin.«sorted»
  refine wpAny_bind (m:=checkCount "sorted" 1 1 _) (wpAny_pure (wpAny_bind (collect_list ⟨_,gl,rfl,_,rfl⟩ ?_ (by rw [List.length_map,sizeLine_eq]; lia))))
  have kp:∀ b o,s.heap.get? b=some o→((s.heap.push (seqObj "list" #[] 0)).update s.heap.objs.size (Obj.mapSeq (·++(as.map Value.ref).toArray))).get? b=some o:=fun b o e =>
   (Heap.get?_update_other _ _ (Nat.ne_of_gt (Heap.lt_size e))).trans (Heap.get?_push_of_some _ e)
  generalize (s.heap.push (seqObj "list" #[] 0)).update s.heap.objs.size (Obj.mapSeq (·++(as.map Value.ref).toArray))=h1 at kp
  have I1:Inv X pins σ H { s with heap:=h1,toks:=s.toks }:=I.kept kp
  refine wpAny_bind (wpAny_newList ?_ (by rw [List.length_map,sizeLine_eq]; lia))
  have g1:(h1.push (seqObj "list" (as.map Value.ref).toArray 0)).get? h1.objs.size=some (seqObj "list" (as.map Value.ref).toArray 0):=Heap.get?_push_size _ rfl
  have t1:TupsAt (h1.push (seqObj "list" (as.map Value.ref).toArray 0)) as (ts.map fun t=>[t.1,t.2]):=t0.keep fun b o e _=>Heap.get?_push_of_some _ (kp b o e)
  refine wpAny_bind (wpAny_holding (wpAny_call_entry slot_list_sort ⟨_,g1,rfl⟩ entry_list_sort (M9 g1 (by lia) t1 ndK fun p pp po h2 c kp2 e=>⟨_,rfl,?_⟩) (args_list_sort _)))
  have hn:H h1.objs.size=none:=I1.hok.fresh (Nat.le_refl _)
  have inr:∀ i∈p,i < as.length:=fun i hi=>List.mem_range.mp (pp.mem_iff.mp hi)
  have eR:p.map (fun i=>ts.getD i (0,0))=ss:=by
   refine F9 (lt:=lt2) (fun a z=>by rw [Er] at z; lia) (fun a b h1 h2=>by rw [Er] at h1 h2; lia) ?_ ?_ pw
   ·have e2:(List.range as.length).map (fun i=>ts.getD i (0,0))=ts:=by
     refine List.ext_getElem? fun j=>?_
     rw [List.getElem?_map]
     by_cases hj:j < ts.length
     ·rw [show (List.range as.length)[j]?=some j by simp [hal,hj]]; simp [hj]
     ·rw [show (List.range as.length)[j]?=none by simp [hal]; lia,List.getElem?_eq_none (by lia)]; rfl
    have e7:=pp.map fun i=>ts.getD i (0,0)
    rw [e2] at e7
    exact e7.trans pm.symm
   ·rw [List.pairwise_map]
    refine List.Pairwise.imp_of_mem (fun {i j} hi hj z=>?_) po
    have li:=inr i hi
    have lj:=inr j hj
    simpa [lt2,show i < ts.length by lia,show j < ts.length by lia] using z
  have eV:(p.map fun i=>(as.map Value.ref).getD i .none)=(p.map fun i=>as.getD i 0).map Value.ref:=by
   rw [List.map_map]
   refine List.map_congr_left fun i hi=>?_
   have:=inr i hi
   simp [this]
  have th2:ThsAt H (p.map fun i=>as.getD i 0) ss:=by
   rw [← eR]
   refine Cz (by rw [List.length_map,List.length_map]) fun j a t e1 e2=>?_
   rw [List.getElem?_map] at e1 e2
   cases hp:p[j]? with
   | none=>rw [hp] at e1; cases e1
   | some i =>
     rw [hp] at e1 e2
     cases e1
     cases e2
     have li:=inr i (List.mem_of_getElem? hp)
     exact A1 th i (as.getD i 0) (ts.getD i (0,0)) (by simp [li]) (by simp [show i < ts.length by lia])
  refine wpAny_pure ⟨_,rfl,.ref h1.objs.size,_,I1.laid (a:=h1.objs.size) (o:=.lst ((p.map fun i=>as.getD i 0).map V.ref)) (t':=s.toks) (fun b o hb=>kp2 b o (Nat.ne_of_lt (Heap.lt_size hb)) (Heap.get?_push_of_some _ hb)) (Nat.le_refl _) ⟨?_,(p.map fun i=>as.getD i 0).map Value.ref,c,Fv _,?_⟩,rfl,q _ (p.map fun i=>as.getD i 0) hn th2⟩
  ·rw [List.length_map,List.length_map,pp.length_eq,List.length_range,sizeLine_eq]; lia
  ·rw [← eV]; exact e)
end
noncomputable def isT (H:Hp) (tb:T2):Value→Bool
 | .ref a=>@decide (H a=some (.tup (tv tb))) (Classical.propDecidable _)
 | _=>false
theorem Tf {H:Hp} {a:Addr} {t tb:T2} (h:H a=some (.tup (tv t))):isT H tb (.ref a)=decide (t=tb):=by
 show @decide (H a=some (.tup (tv tb))) (Classical.propDecidable _)=_
 by_cases e:t=tb
 ·rw [decide_eq_true e]
  exact @decide_eq_true _ (Classical.propDecidable _) (by rw [h,e])
 ·rw [decide_eq_false e]
  refine @decide_eq_false _ (Classical.propDecidable _) fun z=>e ?_
  rw [h] at z
  have z:tv t=tv tb:=HO.tup.inj (Option.some.inj z)
  unfold tv at z
  simp only [List.cons.injEq,V.int.injEq,and_true] at z
  exact Prod.ext z.1 z.2
theorem Qh {H:Hp} {tb:T2}:∀ {as:List Addr} {ts:List T2},ThsAt H as ts→(as.map Value.ref).any (isT H tb)=decide (tb∈ts)
 | _,_,.nil=>by simp
 | _,t :: ts,.cons r q=>by
   rw [List.map_cons,List.any_cons,Tf r,Qh q]
   by_cases e:t=tb
   ·rw [e]; simp
   ·have:¬ tb=t:=fun z=>e z.symm
    simp [e,this]
section
variable {X:Cx} {pins:List (Addr×Obj)} {σ:L2.St} {H:Hp} {s:Shared} {A:Around}
theorem U2 {a b:Addr} {t tb:T2} (hu:A.units < cLine) (I:Inv X pins σ H s) (ha:H a=some (.tup (tv t))) (hb:H b=some (.tup (tv tb))):SeqAt.EqAt A s (.ref a) (.ref b) (isT H tb (.ref a)):=by
 intro prog w E Q q
 obtain ⟨its,rv,it,_⟩:=I.tuple (SqT.of (K:=X.K) ha)
 obtain ⟨jts,rw',jt,_⟩:=I.tuple (SqT.of (K:=X.K) hb)
 have i1:IntsAre its [t.1,t.2]:=intsAre_of (ns:=[t.1,t.2]) rv
 have i2:IntsAre jts [tb.1,tb.2]:=intsAre_of (ns:=[tb.1,tb.2]) rw'
 refine wpAny_eqBool_tuple hu (Le it (by simpa using i1)) (Le jt (by simpa using i2)) ?_
 rw [Tf ha] at q
 have e:decide (([t.1,t.2]:List Int)=[tb.1,tb.2])=decide (t=tb):=by
  by_cases e:t=tb
  ·rw [e]; simp
  ·have:¬ ([t.1,t.2]:List Int)=[tb.1,tb.2]:=fun z=>e (by simp at z; exact Prod.ext z.1 z.2)
   rw [decide_eq_false e,decide_eq_false this]
 rw [e]; exact q
def Jby (neg:Bool):R2:=fun x y H Q=>∃ (b l:Addr) (tb:T2) (as:List Addr) (ts:List T2),x=.ref b∧y=.ref l∧H b=some (.tup (tv tb))∧H l=some (.lst (as.map V.ref))∧ThsAt H as ts∧Q (.bl (if neg then !decide (tb∈ts) else decide (tb∈ts))) H
theorem Oj (hu:X.A.units + 64 < cLine) {l b:Addr} {tb:T2} {as:List Addr} {ts:List T2} (I:Inv X pins σ H s) (hb:H b=some (.tup (tv tb))) (hl:H l=some (.lst (as.map V.ref))) (th:ThsAt H as ts) :
 s.heap.IsList l (as.map Value.ref).toArray∧∀ y,y∈(as.map Value.ref).toArray→SeqAt.EqAt X.A.in1 s y (.ref b) (isT H tb y):=by
 obtain ⟨z,its,n,vl,gl⟩:=(show ObjOk X.prog X.w H s.heap l (.lst (as.map V.ref)) from I.hok l _ hl)
 have ei:=Fq vl
 subst ei
 refine ⟨⟨_,gl,rfl,_,rfl⟩,fun y hy=>?_⟩
 have hy:y∈as.map Value.ref:=by simpa using hy
 obtain ⟨a,ha,rfl⟩:=List.mem_map.mp hy
 obtain ⟨j,hj⟩:=List.mem_iff_getElem?.mp ha
 obtain ⟨t,ht⟩:=Bd (xs:=ts) (j:=j) (by rw [← Paired.length th]; exact (List.getElem?_eq_some_iff.mp hj).1)
 exact U2 (by show X.A.units + 1 < cLine; omega) I (A1 th j a t hj ht) hb
theorem A8 (hu:X.A.units + 64 < cLine):OpR X (compareOp .NotIn) (Jby true):=by
 intro pins s σ H x y v u Q I rx ry h
 obtain ⟨b,l,tb,as,ts,rfl,rfl,hb,hl,th,q⟩:=h
 cases rx
 cases ry
 obtain ⟨a1,a2⟩:=Oj hu I hb hl th
 refine SeqAt.notIn_listAt (isT H tb) a1 a2 ⟨.bl _,H,I,rfl,?_⟩
 rw [show (as.map Value.ref).toArray.any (isT H tb)=(as.map Value.ref).any (isT H tb) by simp,Qh th]
 exact q
end
section
variable {prog:Program} {w:World} {A:Around} {R:Result→Shared→Prop} {s:Shared} {l:Addr} {items:Array Value} {n:Nat} {x:Value}
theorem Qx (e:Value→Bool) (hl:s.heap.get? l=some (seqObj "list" items n)) (he:∀ y,y∈items→SeqAt.EqAt A.in1 s y x (e y)) (j:Nat) (hj:j < items.size) (hit:e items[j]=true) (hno:∀ m (h:m < items.size),m < j→e items[m]=false) (hz:items.size≤sizeLine)
 (h:∀ h' c,h'.get? l=some (seqObj "list" (items.eraseIdxIfInBounds j) c)→Heap.SameBut l s.heap h'→R (.ok (.ret .none)) { s with heap:=h' }) :
 ∀ (k i:Nat),i + k=j→codeAny (model prog w) A (.builtin "list.remove.loop" ⟨[.ref l,x,rawInt i],[]⟩) R s
 | 0,i,hk=>by
   have hk:i=j:=by lia
   subst hk
   refine codeAny_builtin MeetsSeq.entry_remove_loop ?_
   rw [Around.under_plainId MeetsSeq.plain_remove_loop _]
   refine wpAny_bind (m:=Builtin.List.listItems (.ref l)) (listItems_at hl rfl ?_)
   rw [show items[((i:Nat):Int).toNat]?=some items[i] by simp [hj]]
   refine wpAny_bind (he _ (Array.getElem_mem hj) prog w _ _ ?_)
   rw [hit]
   refine wpAny_bind (m:=Builtin.List.listUpdate (.ref l) (·.eraseIdxIfInBounds ((i:Nat):Int).toNat)) (listUpdate_at hl rfl (wpAny_pure ?_) hz (Nat.le_trans (MeetsSeq.size_erased _ _) (Nat.le_succ_of_le hz)))
   exact h _ _ (get?_update_seq hl _) (Heap.SameBut.update ..)
 | k + 1,i,hk=>by
   have hi:i < items.size:=by lia
   refine codeAny_builtin MeetsSeq.entry_remove_loop ?_
   rw [Around.under_plainId MeetsSeq.plain_remove_loop _]
   refine wpAny_bind (m:=Builtin.List.listItems (.ref l)) (listItems_at hl rfl ?_)
   rw [show items[((i:Nat):Int).toNat]?=some items[i] by simp [hi]]
   refine wpAny_bind (he _ (Array.getElem_mem hi) prog w _ _ ?_)
   rw [hno i hi (by lia)]
   refine wpAny_pure ⟨plainId_quiet MeetsSeq.plain_remove_loop _,?_⟩
   have:=Qx e hl he j hj hit hno hz h k (i + 1) (by lia)
   rw [show ((i + 1:Nat):Int)=(i:Int) + 1 by lia] at this
   exact this
end
theorem Vx {α β:Type} (f:α→β) (xs:List α) (j:Nat):(xs.map f).eraseIdx j=(xs.eraseIdx j).map f:=J9 f xs j
section
variable {X:Cx}
def Xf:V→List V→Hp→VK→Prop:=fun x vs H Q=>∃ (l b:Addr) (tb:T2) (as:List Addr) (ts:List T2) (j:Nat),x=.ref l∧vs=[.ref b]∧H b=some (.tup (tv tb))∧H l=some (.lst (as.map V.ref))∧ThsAt H as ts∧ts[j]?=some tb∧(∀ m t,m < j→ts[m]?=some t→t≠tb) ∧
 Q .non (upd H l (.lst ((as.eraseIdx j).map V.ref)))
theorem Mx (hu:X.A.units + 64 < cLine):MtM X "list.remove" Xf:=by
 intro pins s σ H x vs v us Q I rx rv h
 obtain ⟨l,b,tb,as,ts,j,rfl,rfl,hb,hl,th,hj,no,q⟩:=h
 cases rx
 obtain ⟨u,rfl,ru⟩:=rv.one
 cases ru
 obtain ⟨a1,a2⟩:=Oj hu I hb hl th
 obtain ⟨z,its,n,vl,gl⟩:=(show ObjOk X.prog X.w H s.heap l (.lst (as.map V.ref)) from I.hok l _ hl)
 have ei:=Fq vl
 subst ei
 have lth:=Paired.length th
 have hjt:j < ts.length:=(List.getElem?_eq_some_iff.mp hj).1
 have sz:(as.map Value.ref).toArray.size=as.length:=by simp
 have at_:∀ m (h:m < (as.map Value.ref).toArray.size) t,ts[m]?=some t→isT H tb (as.map Value.ref).toArray[m]=decide (t=tb):=fun m h t ht=>by
  obtain ⟨a,ha⟩:=Bd (xs:=as) (j:=m) (by rw [← sz]; exact h)
  have e:(as.map Value.ref).toArray[m]=Value.ref a:=by
   have:=List.getElem?_eq_some_iff.mp ha
   simp [this.2]
  rw [e]
  exact Tf (A1 th m a t ha ht)
 refine call_meetsIn F.slot_list_remove ⟨_,gl,rfl⟩ F.entry_list_remove (F.args_list_remove_2 _ _) (S:=fun A R s0=>A=X.A∧s0=s∧R=wants (EP X pins σ Q) X.xe) (fun A R s0 hS=>?_) ⟨rfl,rfl,rfl⟩
 obtain ⟨rfl,rfl,rfl⟩:=hS
 refine wpAny_pure ⟨plainId_quiet MeetsSeq.plain_remove_loop _,Qx (isT H tb) gl a2 j (by rw [sz]; lia) ?_ (fun m h hm=>?_) (by rw [sz]; simpa using z) (fun h' c g sb=>?_) j 0 (by lia)⟩
 ·rw [at_ j (by rw [sz]; lia) tb hj]; simp
 ·obtain ⟨t,ht⟩:=Bd (xs:=ts) (j:=m) (by lia)
  rw [at_ m h t ht]
  exact decide_eq_false (no m t hm ht)
 ·refine ⟨.non,_,Ih (t':=s0.toks) (ob:=.lst ((as.eraseIdx j).map V.ref)) I (by rw [hl]; exact True.intro) sb ⟨_,g⟩ ⟨?_,(as.eraseIdx j).map Value.ref,c,Fv _,?_⟩,rfl,q⟩
  ·rw [List.length_map]
   refine Nat.le_trans ?_ (by simpa using z)
   rw [List.length_eraseIdx]; split <;> lia
  ·rw [g]
   have e:((as.map Value.ref).toArray.eraseIdxIfInBounds j)=((as.eraseIdx j).map Value.ref).toArray:=by
    rw [← Vx]; simp
   rw [e]
end
theorem kne {a b:Str} (h:¬ a=b):¬ ((Sum.inr a:Key)=Sum.inr b):=fun z=>h (Sum.inr.inj z)
theorem J0:¬ (("house":Str)="hand"):=by decide +kernel
theorem Im:¬ (("house":Str)="holds"):=by decide +kernel
theorem Jz:¬ (("house":Str)="outs"):=by decide +kernel
theorem Hb:¬ (("house":Str)="records"):=by decide +kernel
theorem Gs:¬ (("house":Str)="made"):=by decide +kernel
theorem Fp:¬ (("house":Str)="ticks"):=by decide +kernel
def Bt (G:HGh):List (Key×V):=[(.inr "house",.int G.num),(.inr "hand",.ref G.h),(.inr "holds",.ref G.l),(.inr "outs",.ref G.o),(.inr "records",.ref G.r),(.inr "made",.int G.made),(.inr "ticks",.int G.ticks)]
theorem Ye (G:HGh):Cp (Bt G) (.inr "house")=some (.int G.num):=by
 unfold Bt
 rw [Cw rfl]
theorem Jab (G:HGh):Cp (Bt G) (.inr "hand")=some (.ref G.h):=by
 unfold Bt
 rw [Av (kne J0),Cw rfl]
theorem Rj (G:HGh):Cp (Bt G) (.inr "holds")=some (.ref G.l):=by
 unfold Bt
 rw [Av (kne Im),Av (kne Gv),Cw rfl]
theorem Um (G:HGh):Cp (Bt G) (.inr "outs")=some (.ref G.o):=by
 unfold Bt
 rw [Av (kne Jz),Av (kne Ht),Av (kne Gu),Cw rfl]
theorem Sx (G:HGh):Cp (Bt G) (.inr "records")=some (.ref G.r):=by
 unfold Bt
 rw [Av (kne Hb),Av (kne E5),Av (kne Ef),Av (kne E4),Cw rfl]
theorem Uo (G:HGh):Cp (Bt G) (.inr "made")=some (.int G.made):=by
 unfold Bt
 rw [Av (kne Gs),Av (kne Fj),Av (kne Eo),Av (kne Fi),Av (kne Do),Cw rfl]
theorem Rh (G:HGh):Cp (Bt G) (.inr "ticks")=some (.int G.ticks):=by
 unfold Bt
 rw [Av (kne Fp),Av (kne Ep),Av (kne Dz),Av (kne En),Av (kne Dc),Av (kne Dp),Cw rfl]
theorem Ri (G:HGh) (y:Int):putK (Bt G) (.inr "made") (.int y)=Bt { G with made:=y }:=by
 have h:((Bt G).any fun kv=>decide (kv.1=.inr "made"))=true:=by rw [Fs,Uo]; rfl
 unfold putK
 rw [if_pos h]
 unfold Bt
 simp only [List.map_cons,List.map_nil,if_neg (kne Gs),if_neg (kne Fj),if_neg (kne Eo),if_neg (kne Fi),if_neg (kne Do),if_neg (kne Jy),if_true]
theorem P3 (G:HGh) (y:Int):putK (Bt G) (.inr "ticks") (.int y)=Bt { G with ticks:=y }:=by
 have h:((Bt G).any fun kv=>decide (kv.1=.inr "ticks"))=true:=by rw [Fs,Rh]; rfl
 unfold putK
 rw [if_pos h]
 unfold Bt
 simp only [List.map_cons,List.map_nil,if_neg (kne Fp),if_neg (kne Ep),if_neg (kne Dz),if_neg (kne En),if_neg (kne Dc),if_neg (kne Dp),if_true]
theorem Jcg (G:HGh):Jd [] (Bt G)=Bt G:=by
 have e0:putK ([]:List (Key×V)) (.inr "house") (.int G.num)=[(.inr "house",.int G.num)]:=D4 _ Wp
 have e1:putK ([(.inr "house",.int G.num)]:List (Key×V)) (.inr "hand") (.ref G.h)=[(.inr "house",.int G.num),(.inr "hand",.ref G.h)]:=D4 _ (by rw [Av (kne J0)]; rfl)
 have e2:putK ([(.inr "house",.int G.num),(.inr "hand",.ref G.h)]:List (Key×V)) (.inr "holds") (.ref G.l)=[(.inr "house",.int G.num),(.inr "hand",.ref G.h),(.inr "holds",.ref G.l)]:=D4 _ (by rw [Av (kne Im),Av (kne Gv)]; rfl)
 have e3:putK ([(.inr "house",.int G.num),(.inr "hand",.ref G.h),(.inr "holds",.ref G.l)]:List (Key×V)) (.inr "outs") (.ref G.o)=[(.inr "house",.int G.num),(.inr "hand",.ref G.h),(.inr "holds",.ref G.l),(.inr "outs",.ref G.o)]:=D4 _ (by rw [Av (kne Jz),Av (kne Ht),Av (kne Gu)]; rfl)
 have e4:putK ([(.inr "house",.int G.num),(.inr "hand",.ref G.h),(.inr "holds",.ref G.l),(.inr "outs",.ref G.o)]:List (Key×V)) (.inr "records") (.ref G.r)=[(.inr "house",.int G.num),(.inr "hand",.ref G.h),(.inr "holds",.ref G.l),(.inr "outs",.ref G.o),(.inr "records",.ref G.r)]:=D4 _ (by rw [Av (kne Hb),Av (kne E5),Av (kne Ef),Av (kne E4)]; rfl)
 have e5:putK ([(.inr "house",.int G.num),(.inr "hand",.ref G.h),(.inr "holds",.ref G.l),(.inr "outs",.ref G.o),(.inr "records",.ref G.r)]:List (Key×V)) (.inr "made") (.int G.made)=[(.inr "house",.int G.num),(.inr "hand",.ref G.h),(.inr "holds",.ref G.l),(.inr "outs",.ref G.o),(.inr "records",.ref G.r),(.inr "made",.int G.made)]:=D4 _ (by rw [Av (kne Gs),Av (kne Fj),Av (kne Eo),Av (kne Fi),Av (kne Do)]; rfl)
 have e6:putK ([(.inr "house",.int G.num),(.inr "hand",.ref G.h),(.inr "holds",.ref G.l),(.inr "outs",.ref G.o),(.inr "records",.ref G.r),(.inr "made",.int G.made)]:List (Key×V)) (.inr "ticks") (.int G.ticks)=[(.inr "house",.int G.num),(.inr "hand",.ref G.h),(.inr "holds",.ref G.l),(.inr "outs",.ref G.o),(.inr "records",.ref G.r),(.inr "made",.int G.made),(.inr "ticks",.int G.ticks)]:=D4 _ (by rw [Av (kne Fp),Av (kne Ep),Av (kne Dz),Av (kne En),Av (kne Dc),Av (kne Dp)]; rfl)
 unfold Jd Bt
 simp only [List.foldl_cons,List.foldl_nil]
 rw [e0,e1,e2,e3,e4,e5,e6]
theorem Yd (G:HGh):(Bt G).length < sizeLine:=by show 7 < sizeLine; decide
def LstAt (H:Hp) (b:Addr) (ts:List T2):Prop:=∃ as:List Addr,H b=some (.lst (as.map V.ref))∧ThsAt H as ts
theorem ThsAt.keep {H H':Hp} (k:KeepT H H') {as:List Addr} {ts:List T2} (x:ThsAt H as ts):ThsAt H' as ts:=An (fun _ _ e=>k.tup _ _ e) x
structure ModelAt (H:Hp) (p:Addr) (G:HGh):Prop where
 ob:H p=some (.dK (Bt G))
 dh:LstAt H G.h G.hand
 dO:H G.o=some (Bs G.outs)
 dl:H G.l=some (B6 G.holds)
 dr:H G.r=some (Bs G.recs)
 hl:∀ q∈G.holds,LstAt H q.2.1 q.2.2
 nd:(p :: Am G).Nodup
theorem C5 {G:HGh} {q:T2×Addr×List T2} (h:q∈G.holds):q.2.1∈Am G:=by
 unfold Am
 exact List.mem_cons_of_mem _ (List.mem_cons_of_mem _ (List.mem_cons_of_mem _ (List.mem_cons_of_mem _ (List.mem_map_of_mem h))))
section
variable {p:Addr} {H H':Hp} {G:HGh}
theorem ModelAt.keep (x:ModelAt H p G) (k:∀ b o,(b=p∨b∈Am G)→H b=some o→H' b=some o) (kt:KeepT H H'):ModelAt H' p G:=by
 have m0:G.h∈Am G:=by simp [Am]
 have m1:G.o∈Am G:=by simp [Am]
 have m2:G.l∈Am G:=by simp [Am]
 have m3:G.r∈Am G:=by simp [Am]
 refine ⟨k _ _ (.inl rfl) x.ob,let ⟨as,e,t⟩:=x.dh; ⟨as,k _ _ (.inr m0) e,t.keep kt⟩,k _ _ (.inr m1) x.dO,k _ _ (.inr m2) x.dl,k _ _ (.inr m3) x.dr,fun q hq=>?_,x.nd⟩
 obtain ⟨as,e,t⟩:=x.hl q hq
 exact ⟨as,k _ _ (.inr (C5 hq)) e,t.keep kt⟩
theorem ModelAt.same (x:ModelAt H p G) (s:B1 H H'):ModelAt H' p G:=x.keep (fun b o _ e=>s b o e) (KeepT.of_same s)
theorem ModelAt.foot_some (x:ModelAt H p G) {b:Addr} (hb:b∈Am G):(∃ kvs,H b=some (.dT kvs))∨∃ xs,H b=some (.lst xs):=by
 unfold Am at hb
 rcases List.mem_cons.mp hb with rfl | hb
 ·obtain ⟨as,e,_⟩:=x.dh; exact .inr ⟨_,e⟩
 rcases List.mem_cons.mp hb with rfl | hb
 ·exact .inl ⟨_,x.dO⟩
 rcases List.mem_cons.mp hb with rfl | hb
 ·exact .inl ⟨_,x.dl⟩
 rcases List.mem_cons.mp hb with rfl | hb
 ·exact .inl ⟨_,x.dr⟩
 obtain ⟨q,hq,e⟩:=List.mem_map.mp hb
 rw [← e]
 obtain ⟨as,e,_⟩:=x.hl q hq
 exact .inr ⟨_,e⟩
theorem ModelAt.p_ne (x:ModelAt H p G) {b:Addr} (hb:b∈Am G):b≠p:=fun z=>(List.nodup_cons.mp x.nd).1 (z ▸ hb)
theorem ModelAt.tup_ne (x:ModelAt H p G) {b:Addr} {xs:List V} (hb:H b=some (.tup xs)):b≠p∧b∉Am G:=by
 refine ⟨Il hb x.ob (by intro z; cases z),fun m=>?_⟩
 rcases x.foot_some m with ⟨_,e⟩ | ⟨_,e⟩ <;> (rw [hb] at e; cases e)
theorem ModelAt.frz_ne (x:ModelAt H p G) {b:Addr} {ob:Obj} {u:HO} (hb:H b=some (.frz ob u)):b≠p∧b∉Am G:=by
 refine ⟨Il hb x.ob (by intro z; cases z),fun m=>?_⟩
 rcases x.foot_some m with ⟨_,e⟩ | ⟨_,e⟩ <;> (rw [hb] at e; cases e)
theorem ModelAt.new_ne (x:ModelAt H p G) {b:Addr} (hb:H b=none):b≠p∧b∉Am G:=by
 refine ⟨fun z=>(by rw [z,x.ob] at hb; cases hb),fun m=>?_⟩
 rcases x.foot_some m with ⟨_,e⟩ | ⟨_,e⟩ <;> (rw [hb] at e; cases e)
theorem ModelAt.keepT (x:ModelAt H p G) (f:HFr p G H H'):KeepT H H' :=
 ⟨fun a xs e=>f a _ e (x.tup_ne e).1 (x.tup_ne e).2,fun a ob u e=>f a _ e (x.frz_ne e).1 (x.frz_ne e).2⟩
theorem ModelAt.nds (x:ModelAt H p G):(G.h≠G.o∧G.h≠G.l∧G.h≠G.r)∧(G.o≠G.l∧G.o≠G.r)∧G.l≠G.r∧∀ q∈G.holds,q.2.1≠G.h∧q.2.1≠G.o∧q.2.1≠G.l∧q.2.1≠G.r:=by
 have nd:=(List.nodup_cons.mp x.nd).2
 unfold Am at nd
 simp only [List.nodup_cons,List.mem_cons,not_or] at nd
 obtain ⟨⟨a1,a2,a3,a4⟩,⟨b1,b2,b3⟩,⟨c1,c2⟩,d1,_⟩:=nd
 refine ⟨⟨a1,a2,a3⟩,⟨b1,b2⟩,c1,fun q hq=>?_⟩
 have m:q.2.1∈G.holds.map (·.2.1):=List.mem_map_of_mem hq
 exact ⟨fun z=>a4 (z ▸ m),fun z=>b3 (z ▸ m),fun z=>c2 (z ▸ m),fun z=>d1 (z ▸ m)⟩
theorem ModelAt.kw (x:ModelAt H p G) {b:Addr} (hb:b=p∨b∈Am G) (o:HO):KeepT H (upd H b o):=KeepT.upd fun o' e=>by
 rcases hb with rfl | hb
 ·rw [x.ob] at e; cases e; exact ⟨fun _ z=>(by cases z),fun _ _ z=>(by cases z)⟩
 ·rcases x.foot_some hb with ⟨_,e'⟩ | ⟨_,e'⟩ <;> (rw [e'] at e; cases e; exact ⟨fun _ z=>(by cases z),fun _ _ z=>(by cases z)⟩)
theorem LstAt.up {ts:List T2} (x:LstAt H p ts) {b:Addr} {o:HO} (hb:p≠b) (kt:KeepT H (upd H b o)):LstAt (upd H b o) p ts:=by
 obtain ⟨as,e,t⟩:=x
 exact ⟨as,by rw [Ac hb]; exact e,t.keep kt⟩
theorem ModelAt.fld (x:ModelAt H p G) (m t:Int):ModelAt (upd H p (.dK (Bt { G with made:=m,ticks:=t }))) p { G with made:=m,ticks:=t }:=by
 have n:∀ {b},b∈Am G→b≠p:=fun hb=>x.p_ne hb
 have m0:G.h∈Am G:=by simp [Am]
 have m1:G.o∈Am G:=by simp [Am]
 have m2:G.l∈Am G:=by simp [Am]
 have m3:G.r∈Am G:=by simp [Am]
 have kt:=x.kw (b:=p) (.inl rfl) (.dK (Bt { G with made:=m,ticks:=t }))
 exact ⟨Ab,x.dh.up (n m0) kt,by rw [Ac (n m1)]; exact x.dO,by rw [Ac (n m2)]; exact x.dl,by rw [Ac (n m3)]; exact x.dr,fun q hq=>(x.hl q hq).up (n (C5 hq)) kt,x.nd⟩
theorem ModelAt.setOuts (x:ModelAt H p G) (l:List (T2×Int)):ModelAt (upd H G.o (Bs l)) p { G with outs:=l }:=by
 obtain ⟨⟨a1,a2,a3⟩,⟨b1,b2⟩,c1,d1⟩:=x.nds
 have m1:G.o∈Am G:=by simp [Am]
 have np:=x.p_ne m1
 have kt:=x.kw (.inr m1) (Bs l)
 exact ⟨by rw [Ac np.symm]; exact x.ob,x.dh.up a1 kt,Ab,by rw [Ac b1.symm]; exact x.dl,by rw [Ac b2.symm]; exact x.dr,fun q hq=>(x.hl q hq).up (d1 q hq).2.1 kt,x.nd⟩
theorem ModelAt.setRecs (x:ModelAt H p G) (l:List (T2×Int)):ModelAt (upd H G.r (Bs l)) p { G with recs:=l }:=by
 obtain ⟨⟨a1,a2,a3⟩,⟨b1,b2⟩,c1,d1⟩:=x.nds
 have m1:G.r∈Am G:=by simp [Am]
 have np:=x.p_ne m1
 have kt:=x.kw (.inr m1) (Bs l)
 exact ⟨by rw [Ac np.symm]; exact x.ob,x.dh.up a3 kt,by rw [Ac b2]; exact x.dO,by rw [Ac c1]; exact x.dl,Ab,fun q hq=>(x.hl q hq).up (d1 q hq).2.2.2 kt,x.nd⟩
theorem ModelAt.setHand (x:ModelAt H p G) {as:List Addr} {ts:List T2} (th:ThsAt H as ts):ModelAt (upd H G.h (.lst (as.map V.ref))) p { G with hand:=ts }:=by
 obtain ⟨⟨a1,a2,a3⟩,⟨b1,b2⟩,c1,d1⟩:=x.nds
 have m1:G.h∈Am G:=by simp [Am]
 have np:=x.p_ne m1
 have kt:=x.kw (.inr m1) (.lst (as.map V.ref))
 exact ⟨by rw [Ac np.symm]; exact x.ob,⟨as,Ab,th.keep kt⟩,by rw [Ac a1.symm]; exact x.dO,by rw [Ac a2.symm]; exact x.dl,by rw [Ac a3.symm]; exact x.dr,fun q hq=>(x.hl q hq).up (d1 q hq).1 kt,x.nd⟩
theorem E3 {α β:Type} {f:α→β}:∀ {l:List α},(l.map f).Nodup→∀ {a b:α},a∈l→b∈l→f a=f b→a=b
 | [],_,_,_,ha,_,_=>by cases ha
 | x :: l,nd,a,b,ha,hb,e=>by
   have nd:=List.nodup_cons.mp nd
   rcases List.mem_cons.mp ha with ha | ha <;> rcases List.mem_cons.mp hb with hb | hb
   ·rw [ha,hb]
   ·exact absurd (List.mem_map.mpr ⟨b,hb,by rw [← e,ha]⟩) nd.1
   ·exact absurd (List.mem_map.mpr ⟨a,ha,by rw [e,hb]⟩) nd.1
   ·exact E3 nd.2 ha hb e
theorem ModelAt.setHold (x:ModelAt H p G) {q:T2×Addr×List T2} (hq:q∈G.holds) {as:List Addr} {ts:List T2} (th:ThsAt H as ts):ModelAt (upd H q.2.1 (.lst (as.map V.ref))) p { G with holds:=Eb G.holds q.2.1 ts }:=by
 obtain ⟨_,_,_,d1⟩:=x.nds
 obtain ⟨e1,e2,e3,e4⟩:=d1 q hq
 have m1:=C5 hq
 have np:=x.p_ne m1
 have kt:=x.kw (.inr m1) (.lst (as.map V.ref))
 refine ⟨by rw [Ac np.symm]; exact x.ob,x.dh.up e1.symm kt,by rw [Ac e2.symm]; exact x.dO,?_,by rw [Ac e4.symm]; exact x.dr,fun r hr=>?_,?_⟩
 ·rw [Ac e3.symm]
  show H G.l=some (B6 (Eb G.holds q.2.1 ts))
  unfold B6
  rw [Qs]
  exact x.dl
 ·rcases Rk hr with ⟨r0,h0,e0,rfl⟩ | ⟨h0,ne⟩
  ·exact ⟨as,Ab,th.keep kt⟩
  ·exact (x.hl r h0).up ne kt
 ·have e:Am { G with holds:=Eb G.holds q.2.1 ts }=Am G:=by
   unfold Am
   rw [Jk]
  rw [e]; exact x.nd
theorem ModelAt.addHold (x:ModelAt H p G) (t:T2) {a:Addr} (ha:H a=some (.lst [])) (hf:a∉Am G):ModelAt (upd H G.l (B6 (G.holds++[(t,a,[])]))) p { G with holds:=G.holds++[(t,a,[])] }:=by
 obtain ⟨⟨a1,a2,a3⟩,⟨b1,b2⟩,c1,d1⟩:=x.nds
 have m1:G.l∈Am G:=by simp [Am]
 have np:=x.p_ne m1
 have kt:=x.kw (.inr m1) (B6 (G.holds++[(t,a,[])]))
 have hap:a≠p:=fun z=>by rw [z,x.ob] at ha; cases ha
 refine ⟨by rw [Ac np.symm]; exact x.ob,x.dh.up a2 kt,by rw [Ac b1]; exact x.dO,Ab,by rw [Ac c1.symm]; exact x.dr,fun q hq=>?_,?_⟩
 ·rcases List.mem_append.mp hq with hq | hq
  ·exact (x.hl q hq).up (d1 q hq).2.2.1 kt
  ·have e2:q=(t,a,[]):=by simpa using hq
   subst e2
   have:a≠G.l:=fun z=>hf (by rw [z]; exact m1)
   exact ⟨[],by rw [Ac this]; exact ha,.nil⟩
 ·have e2:p :: Am { G with holds:=G.holds++[(t,a,[])] }=(p :: Am G)++[a]:=by simp [Am]
  rw [e2]
  exact Fh x.nd (fun m=>by
   rcases List.mem_cons.mp m with m | m
   ·exact hap m
   ·exact hf m)
theorem ModelAt.gHouse (x:ModelAt H p G):DGet H p (.str "house") (some (.int G.num)):=by have:=DGet.k (k:=.inr "house") x.ob; rw [Ye] at this; exact this
theorem ModelAt.gHand (x:ModelAt H p G):DGet H p (.str "hand") (some (.ref G.h)):=by have:=DGet.k (k:=.inr "hand") x.ob; rw [Jab] at this; exact this
theorem ModelAt.gHolds (x:ModelAt H p G):DGet H p (.str "holds") (some (.ref G.l)):=by have:=DGet.k (k:=.inr "holds") x.ob; rw [Rj] at this; exact this
theorem ModelAt.gOuts (x:ModelAt H p G):DGet H p (.str "outs") (some (.ref G.o)):=by have:=DGet.k (k:=.inr "outs") x.ob; rw [Um] at this; exact this
theorem ModelAt.gRecs (x:ModelAt H p G):DGet H p (.str "records") (some (.ref G.r)):=by have:=DGet.k (k:=.inr "records") x.ob; rw [Sx] at this; exact this
theorem ModelAt.gMade (x:ModelAt H p G):DGet H p (.str "made") (some (.int G.made)):=by have:=DGet.k (k:=.inr "made") x.ob; rw [Uo] at this; exact this
theorem ModelAt.gTicks (x:ModelAt H p G):DGet H p (.str "ticks") (some (.int G.ticks)):=by have:=DGet.k (k:=.inr "ticks") x.ob; rw [Rh] at this; exact this
theorem ModelAt.pMade (x:ModelAt H p G) (y:Int):DPut H p (.str "made") (.int y) (upd H p (.dK (Bt { G with made:=y }))):=by have:=DPut.k (k:=.inr "made") (v:=.int y) x.ob (Yd G); rw [Ri] at this; exact this
theorem ModelAt.pTicks (x:ModelAt H p G) (y:Int):DPut H p (.str "ticks") (.int y) (upd H p (.dK (Bt { G with ticks:=y }))):=by have:=DPut.k (k:=.inr "ticks") (v:=.int y) x.ob (Yd G); rw [P3] at this; exact this
end
theorem O8 {ts:List T2} (nd:ts.Nodup) {t:T2} {j:Nat} (h:ts[j]?=some t):ts.eraseIdx j=Dr ts t:=by
 induction ts generalizing j with
 | nil=>simp at h
 | cons x ts ih =>
   have nd':=List.nodup_cons.mp nd
   cases j with
   | zero =>
     have e:x=t:=by simpa using h
     subst e
     show ts=Dr (x :: ts) x
     unfold Dr
     rw [List.filter_cons,if_neg (by simp)]
     exact (List.filter_eq_self.mpr fun y hy=>by simp; exact fun z=>nd'.1 (z ▸ hy)).symm
   | succ j =>
     have h:ts[j]?=some t:=by simpa using h
     have ne:x≠t:=fun z=>nd'.1 (z ▸ List.mem_of_getElem? h)
     show x :: ts.eraseIdx j=Dr (x :: ts) t
     rw [ih nd'.2 h]
     unfold Dr
     rw [List.filter_cons,if_pos (by simpa using ne)]
theorem Q2 {ts:List T2} (nd:ts.Nodup) {t:T2} (h:t∈ts):∃ j:Nat,ts[j]?=some t∧∀ (m:Nat) (u:T2),m < j→ts[m]?=some u→u≠t:=by
 induction ts with
 | nil=>cases h
 | cons x ts ih =>
   by_cases e:x=t
   ·exact ⟨0,by simp [e],fun m u hm=>by omega⟩
   ·have nd':=List.nodup_cons.mp nd
    have h:t∈ts:=by
     rcases List.mem_cons.mp h with h | h
     ·exact absurd h.symm e
     ·exact h
    obtain ⟨j,h1,h2⟩:=ih nd'.2 h
    refine ⟨j + 1,by simpa using h1,fun m u hm hu=>?_⟩
    cases m with
    | zero =>
      have:x=u:=by simpa using hu
      rw [← this]; exact e
    | succ m=>exact h2 m u (by omega) (by simpa using hu)
theorem Kh {H:Hp}:∀ {as:List Addr} {ts:List T2},ThsAt H as ts→∀ j,ThsAt H (as.eraseIdx j) (ts.eraseIdx j)
 | _,_,.nil,_=>.nil
 | _,_,.cons r t,0=>t
 | _,_,.cons r t,j + 1=>.cons r (Kh t j)
abbrev HL:=List (T2×Addr×List T2)
def hs0 (l:HL):List (T2×List T2):=l.map fun q=>(q.1,q.2.2)
def Fu (l:HL) (t:T2) (h:List T2):HL:=l.map fun q=>if q.1=t then (q.1,q.2.1,h) else q
def getH (l:HL) (t:T2):List T2:=((l.find? fun q=>decide (q.1=t)).map (·.2.2)).getD []
theorem Nk (l:HL) (t:T2):(hs0 l).find? (fun q=>decide (q.1=t))=(l.find? fun q=>decide (q.1=t)).map fun q=>(q.1,q.2.2):=by
 unfold hs0
 rw [List.find?_map]
 rfl
theorem Ru (l:HL) (t:T2):getH l t=(((hs0 l).find? fun q=>decide (q.1=t)).map (·.2)).getD []:=by
 unfold getH
 rw [Nk,Option.map_map]
 rfl
theorem Qt (l:HL) (t:T2) (h:List T2):hs0 (Fu l t h)=(hs0 l).map fun q=>if q.1=t then (q.1,h) else q:=by
 unfold hs0 Fu
 rw [List.map_map,List.map_map]
 refine List.map_congr_left fun q _=>?_
 show ((if q.1=t then (q.1,q.2.1,h) else q).1,(if q.1=t then (q.1,q.2.1,h) else q).2.2)=if q.1=t then (q.1,h) else (q.1,q.2.2)
 by_cases e:q.1=t
 ·rw [if_pos e,if_pos e]
 ·rw [if_neg e,if_neg e]
theorem W9 (l:HL) (t:T2) (h:List T2):(Fu l t h).map (·.2.1)=l.map (·.2.1):=by
 unfold Fu
 rw [List.map_map]
 refine List.map_congr_left fun q _=>?_
 show (if q.1=t then (q.1,q.2.1,h) else q).2.1=q.2.1
 by_cases e:q.1=t
 ·rw [if_pos e]
 ·rw [if_neg e]
theorem W8 (l:HL) (t:T2) (h:List T2):(Fu l t h).map (·.1)=l.map (·.1):=by
 unfold Fu
 rw [List.map_map]
 refine List.map_congr_left fun q _=>?_
 show (if q.1=t then (q.1,q.2.1,h) else q).1=q.1
 by_cases e:q.1=t
 ·rw [if_pos e]
 ·rw [if_neg e]
theorem J7 {l:HL} {t:T2} {h:List T2} {q:T2×Addr×List T2} (m:q∈Fu l t h):(q.1=t∧q.2.2=h)∨q∈l:=by
 obtain ⟨q0,h0,e⟩:=List.mem_map.mp m
 by_cases c:q0.1=t
 ·rw [if_pos c] at e; subst e; exact .inl ⟨c,rfl⟩
 ·rw [if_neg c] at e; subst e; exact .inr h0
theorem Ln {l:HL} {t:T2} (h:t∈l.map (·.1)):∃ a,l.find? (fun q=>decide (q.1=t))=some (t,a,getH l t):=by
 cases e:l.find? fun q=>decide (q.1=t) with
 | none =>
   obtain ⟨q,hq,e2⟩:=List.mem_map.mp h
   have:=List.find?_eq_none.mp e q hq
   exact absurd e2 (by simpa using this)
 | some q =>
   have h1:q.1=t:=by have:=List.find?_some e; simpa using this
   refine ⟨q.2.1,?_⟩
   have:getH l t=q.2.2:=by unfold getH; rw [e]; rfl
   rw [this,← h1]
theorem Ft {l:HL} (ka:(l.map (·.2.1)).Nodup) (kt:(l.map (·.1)).Nodup) {t:T2} {a:Addr} {hl:List T2} (f:l.find? (fun q=>decide (q.1=t))=some (t,a,hl)) (h:List T2):Eb l a h=Fu l t h:=by
 have m:=List.mem_of_find?_eq_some f
 unfold Eb Fu
 refine List.map_congr_left fun q hq=>?_
 by_cases e:q.1=t
 ·have:=E3 kt hq m e
  rw [this,if_pos rfl,if_pos rfl]
 ·have:¬ q.2.1=a:=fun z=>e (by rw [E3 ka hq m z])
  rw [if_neg this,if_neg e]
structure Like (M G:HGh):Prop where
 num:M.num=G.num
 made:M.made=G.made
 ticks:M.ticks=G.ticks
 hand:M.hand=G.hand
 outs:M.outs=G.outs
 recs:M.recs=G.recs
 holds:hs0 M.holds=hs0 G.holds
theorem Like.getH {M G:HGh} (x:Like M G) (t:T2):FX.getH M.holds t=FX.getH G.holds t:=by rw [Ru,Ru,x.holds]
structure Ok (G:HGh) (n:Nat):Prop where
 hn:G.hand.Nodup
 hz:G.hand.length≤n
 on:(G.outs.map (·.1)).Nodup
 oz:G.outs.length≤n
 ke:G.holds.map (·.1)=G.outs.map (·.1)
 rn:(G.recs.map (·.1)).Nodup
 rz:G.recs.length≤n
 ln:∀ q∈G.holds,q.2.2.Nodup∧q.2.2.length≤n
 new:∀ t∈G.outs.map (·.1),t.1=G.num∧t.2 < G.made
 hk:∀ t∈G.hand,t.1=G.num→t∈G.outs.map (·.1)
 lk:∀ q∈G.holds,∀ t∈q.2.2,t.1=G.num→t∈G.outs.map (·.1)
 rk:∀ t∈G.recs.map (·.1),t.1≠G.num
theorem Ok.mono {G:HGh} {n m:Nat} (x:Ok G n) (h:n≤m):Ok G m :=
 ⟨x.hn,Nat.le_trans x.hz h,x.on,Nat.le_trans x.oz h,x.ke,x.rn,Nat.le_trans x.rz h,fun q hq=>⟨(x.ln q hq).1,Nat.le_trans (x.ln q hq).2 h⟩,x.new,x.hk,x.lk,x.rk⟩
theorem Like.ok {M G:HGh} (x:Like M G) {n:Nat} (k:Ok G n):Ok M n:=by
 have e1:M.holds.map (·.1)=G.holds.map (·.1):=by
  have:=congrArg (List.map (·.1)) x.holds
  unfold hs0 at this
  rw [List.map_map,List.map_map] at this
  exact this
 have mm:∀ q∈M.holds,∃ r∈G.holds,r.1=q.1∧r.2.2=q.2.2:=fun q hq=>by
  have m:(q.1,q.2.2)∈hs0 M.holds:=List.mem_map.mpr ⟨q,hq,rfl⟩
  rw [x.holds] at m
  obtain ⟨r,hr,e⟩:=List.mem_map.mp m
  exact ⟨r,hr,(Prod.mk.inj e).1,(Prod.mk.inj e).2⟩
 refine ⟨by rw [x.hand]; exact k.hn,by rw [x.hand]; exact k.hz,by rw [x.outs]; exact k.on,by rw [x.outs]; exact k.oz,by rw [e1,x.outs]; exact k.ke,by rw [x.recs]; exact k.rn,by rw [x.recs]; exact k.rz,fun q hq=>?_,by rw [x.outs,x.num,x.made]; exact k.new,by rw [x.hand,x.outs,x.num]; exact k.hk,fun q hq=>?_,by rw [x.recs,x.num]; exact k.rk⟩
 ·obtain ⟨r,hr,_,e⟩:=mm q hq
  rw [← e]; exact k.ln r hr
 ·obtain ⟨r,hr,_,e⟩:=mm q hq
  rw [← e,x.outs,x.num]; exact k.lk r hr
def tk1 (G:HGh):HGh:={ G with ticks:=G.ticks + 1 }
def mkG (G:HGh) (a:Addr):HGh:={ G with made:=G.made + 1,hand:=G.hand++[(G.num,G.made)],outs:=G.outs++[((G.num,G.made),0)],holds:=G.holds++[((G.num,G.made),a,[])] }
def Az (G:HGh) (word:Str) (ta tb:T2):Str×HGh :=
 if ta∉G.hand∨(word="hold"∧tb∉G.hand) then ("NotHeld",G)
 else if ta.1≠G.num then ("NotNear",G)
 else if word≠"hold"∧tb∉getH G.holds ta then ("Missing",G)
 else ("told",if word="hold" then { G with holds:=Fu G.holds ta (Bf (getH G.holds ta) tb) } else if word="drop" then { G with holds:=Fu G.holds ta (Dr (getH G.holds ta) tb) } else { G with hand:=Bf G.hand tb })
def Cj (G:HGh) (tb:T2):Str×HGh:=if tb∉G.hand then ("NotHeld",G) else ("told",{ G with hand:=Dr G.hand tb })
def Jf4 (G:HGh) (word:Str) (ta tb:T2):Str×HGh:=if word="free" then Cj G tb else Az G word ta tb
def Jf6 (r:Str×HGh):HGh:=if r.1="told" then tk1 r.2 else r.2
theorem mem_addT' {l:List T2} {t u:T2}:u∈Bf l t↔u∈l∨u=t:=by
 unfold Bf
 by_cases h:t∈l
 ·rw [if_pos h]
  exact ⟨.inl,fun z=>z.elim id fun z=>by rw [z]; exact h⟩
 ·rw [if_neg h]; simp
theorem mem_delT' {l:List T2} {t u:T2}:u∈Dr l t↔u∈l∧u≠t:=by
 unfold Dr
 rw [List.mem_filter]; simp
theorem Jx {l:List T2} (t:T2) (h:l.Nodup):(Bf l t).Nodup:=by
 unfold Bf
 by_cases e:t∈l
 ·rw [if_pos e]; exact h
 ·rw [if_neg e]; exact Fh h e
theorem F1 (l:List T2) (t:T2):(Bf l t).length≤l.length + 1:=by
 unfold Bf
 by_cases e:t∈l
 ·rw [if_pos e]; lia
 ·rw [if_neg e]; simp
section
variable {M G:HGh} {n:Nat}
theorem Ok.tk1 (x:Ok G n):Ok (tk1 G) n:=⟨x.hn,x.hz,x.on,x.oz,x.ke,x.rn,x.rz,x.ln,x.new,x.hk,x.lk,x.rk⟩
theorem Ok.hand (x:Ok G n) {l:List T2} (h1:l.Nodup) (h2:l.length≤n) (h3:∀ t∈l,t.1=G.num→t∈G.outs.map (·.1)):Ok { G with hand:=l } n:=⟨h1,h2,x.on,x.oz,x.ke,x.rn,x.rz,x.ln,x.new,h3,x.lk,x.rk⟩
theorem Ok.holds (x:Ok G n) {t:T2} {l:List T2} (h1:l.Nodup) (h2:l.length≤n) (h3:∀ t∈l,t.1=G.num→t∈G.outs.map (·.1)):Ok { G with holds:=Fu G.holds t l } n:=by
 refine ⟨x.hn,x.hz,x.on,x.oz,(W8 ..).trans x.ke,x.rn,x.rz,fun q hq=>?_,x.new,x.hk,fun q hq=>?_,x.rk⟩
 ·rcases J7 hq with ⟨_,e⟩ | hq
  ·rw [e]; exact ⟨h1,h2⟩
  ·exact x.ln q hq
 ·rcases J7 hq with ⟨_,e⟩ | hq
  ·rw [e]; exact h3
  ·exact x.lk q hq
theorem Ok.mkG (x:Ok G n) (a:Addr):Ok (mkG G a) (n + 1):=by
 have nw:(G.num,G.made)∉G.outs.map (·.1):=fun m=>by have:=(x.new _ m).2; exact absurd this (by show ¬ G.made < G.made; lia)
 have eo:(G.outs++[((G.num,G.made),(0:Int))]).map (·.1)=G.outs.map (·.1)++[(G.num,G.made)]:=by rw [List.map_append]; rfl
 refine ⟨?_,?_,?_,?_,?_,x.rn,by have:=x.rz; show G.recs.length≤n + 1; lia,fun q hq=>?_,?_,?_,?_,x.rk⟩
 ·exact Fh x.hn fun m=>nw (x.hk _ m rfl)
 ·show (G.hand++[(G.num,G.made)]).length≤n + 1
  rw [List.length_append]; have:=x.hz; show G.hand.length + 1≤n + 1; lia
 ·show ((G.outs++[((G.num,G.made),(0:Int))]).map (·.1)).Nodup
  rw [eo]; exact Fh x.on nw
 ·show (G.outs++[((G.num,G.made),(0:Int))]).length≤n + 1
  rw [List.length_append]; have:=x.oz; show G.outs.length + 1≤n + 1; lia
 ·show (G.holds++[((G.num,G.made),a,([]:List T2))]).map (fun (q:T2×Addr×List T2)=>q.1)=(G.outs++[((G.num,G.made),(0:Int))]).map (·.1)
  rw [eo,List.map_append,x.ke]; rfl
 ·rcases List.mem_append.mp hq with hq | hq
  ·exact ⟨(x.ln q hq).1,Nat.le_succ_of_le (x.ln q hq).2⟩
  ·have:q=((G.num,G.made),a,[]):=by simpa using hq
   rw [this]; exact ⟨List.nodup_nil,Nat.zero_le _⟩
 ·intro t ht
  have ht:t∈(G.outs++[((G.num,G.made),(0:Int))]).map (·.1):=ht
  show t.1=G.num∧t.2 < G.made + 1
  rw [eo] at ht
  rcases List.mem_append.mp ht with ht | ht
  ·have:=x.new t ht; exact ⟨this.1,by have:=this.2; lia⟩
  ·have:t=(G.num,G.made):=by simpa using ht
   rw [this]; exact ⟨rfl,by show G.made < G.made + 1; lia⟩
 ·intro t ht e
  show t∈(G.outs++[((G.num,G.made),(0:Int))]).map (·.1)
  rw [eo]
  rcases List.mem_append.mp ht with ht | ht
  ·exact List.mem_append_left _ (x.hk t ht e)
  ·exact List.mem_append_right _ ht
 ·intro q hq t ht e
  show t∈(G.outs++[((G.num,G.made),(0:Int))]).map (·.1)
  rw [eo]
  rcases List.mem_append.mp hq with hq | hq
  ·exact List.mem_append_left _ (x.lk q hq t ht e)
  ·have:q=((G.num,G.made),a,[]):=by simpa using hq
   rw [this] at ht; cases ht
theorem Ok.fresh (x:Ok G n):(∀ t∈G.hand,t≠(G.num,G.made))∧(∀ q∈G.outs,q.1≠(G.num,G.made))∧∀ q∈G.holds,q.1≠(G.num,G.made):=by
 have nw:(G.num,G.made)∉G.outs.map (·.1):=fun m=>by have:=(x.new _ m).2; exact absurd this (by show ¬ G.made < G.made; lia)
 refine ⟨fun t ht e=>nw (by rw [← e]; exact x.hk t ht (by rw [e])),fun q hq e=>nw (by rw [← e]; exact List.mem_map_of_mem hq),fun q hq e=>nw (by rw [← e,← x.ke]; exact List.mem_map_of_mem hq)⟩
theorem Ok.lens (x:Ok G n):G.holds.length≤n:=by
 have:=congrArg List.length x.ke
 rw [List.length_map,List.length_map] at this
 rw [this]; exact x.oz
theorem Ok.get (x:Ok G n) (t:T2):(getH G.holds t).Nodup∧(getH G.holds t).length≤n∧∀ u∈getH G.holds t,u.1=G.num→u∈G.outs.map (·.1):=by
 unfold getH
 cases e:G.holds.find? fun q=>decide (q.1=t) with
 | none=>exact ⟨List.nodup_nil,Nat.zero_le _,fun u hu=>by cases hu⟩
 | some q =>
   have m:=List.mem_of_find?_eq_some e
   exact ⟨(x.ln q m).1,(x.ln q m).2,x.lk q m⟩
theorem Ok.find (x:Ok G n) {t:T2} (h1:t∈G.hand) (h2:t.1=G.num):∃ a,G.holds.find? (fun q=>decide (q.1=t))=some (t,a,getH G.holds t):=Ln (by rw [x.ke]; exact x.hk t h1 h2)
theorem Yz (x:Ok G n) (word:Str) (ta tb:T2):Ok (Az G word ta tb).2 (n + 1):=by
 have x1:=x.mono (Nat.le_succ n)
 obtain ⟨g1,g2,g3⟩:=x.get ta
 unfold Az
 by_cases c1:ta∉G.hand∨(word="hold"∧tb∉G.hand)
 ·rw [if_pos c1]; exact x1
 rw [if_neg c1]
 by_cases c2:ta.1≠G.num
 ·rw [if_pos c2]; exact x1
 rw [if_neg c2]
 by_cases c3:word≠"hold"∧tb∉getH G.holds ta
 ·rw [if_pos c3]; exact x1
 rw [if_neg c3]
 have c1':=not_or.mp c1
 show Ok (if word="hold" then _ else _) _
 by_cases c4:word="hold"
 ·rw [if_pos c4]
  have hb:tb∈G.hand:=Classical.byContradiction fun z=>c1'.2 ⟨c4,z⟩
  refine x1.holds (Jx _ g1) (by have:=F1 (getH G.holds ta) tb; lia) fun t ht e=>?_
  rcases mem_addT'.mp ht with ht | ht
  ·exact g3 t ht e
  ·rw [ht]; rw [ht] at e; exact x.hk tb hb e
 ·rw [if_neg c4]
  have hb:tb∈getH G.holds ta:=Classical.byContradiction fun z=>c3 ⟨c4,z⟩
  by_cases c5:word="drop"
  ·rw [if_pos c5]
   exact x1.holds (g1.filter _) (by have:(Dr (getH G.holds ta) tb).length≤_:=List.length_filter_le _ _; lia) fun t ht e=>g3 t (mem_delT'.mp ht).1 e
  ·rw [if_neg c5]
   refine x1.hand (Jx _ x.hn) (by have:=F1 G.hand tb; have:=x.hz; lia) fun t ht e=>?_
   rcases mem_addT'.mp ht with ht | ht
   ·exact x.hk t ht e
   ·rw [ht]; rw [ht] at e; exact g3 tb hb e
theorem Y0 (x:Ok G n) (tb:T2):Ok (Cj G tb).2 n:=by
 unfold Cj
 by_cases c1:tb∉G.hand
 ·rw [if_pos c1]; exact x
 ·rw [if_neg c1]
  exact x.hand (x.hn.filter _) (Nat.le_trans (List.length_filter_le _ _) x.hz) fun t ht e=>x.hk t (mem_delT'.mp ht).1 e
theorem Like.mk2 (x:Like M G) (a b:Addr):Like (tk1 (mkG M a)) (tk1 (mkG G b)):=by
 refine ⟨x.num,?_,?_,?_,?_,x.recs,?_⟩
 ·show M.made + 1=G.made + 1; rw [x.made]
 ·show M.ticks + 1=G.ticks + 1; rw [x.ticks]
 ·show M.hand++_=G.hand++_; rw [x.hand,x.num,x.made]
 ·show M.outs++_=G.outs++_; rw [x.outs,x.num,x.made]
 ·show hs0 (M.holds++[((M.num,M.made),a,[])])=hs0 (G.holds++[((G.num,G.made),b,[])])
  unfold hs0
  rw [List.map_append,List.map_append,show M.holds.map (fun q=>(q.1,q.2.2))=G.holds.map fun q=>(q.1,q.2.2) from x.holds,x.num,x.made]; rfl
end
def Ao (l:List (T2×Int)) (t:T2):Int:=((l.find? fun q=>decide (q.1=t)).map (·.2)).getD 0
theorem Fw (l:List (T2×Int)) (t:T2) (v:Int):(Bc l t v).map (·.1)=if t∈l.map (·.1) then l.map (·.1) else l.map (·.1)++[t]:=by
 unfold Bc
 by_cases h:t∈l.map (·.1)
 ·rw [if_pos h,if_pos h,List.map_map]
  refine List.map_congr_left fun q _=>?_
  show (if q.1=t then (q.1,v) else q).1=q.1
  by_cases e:q.1=t
  ·rw [if_pos e]
  ·rw [if_neg e]
 ·rw [if_neg h,if_neg h,List.map_append]; rfl
theorem Ok.came {G:HGh} {n:Nat} (x:Ok G n) {tb:T2} (hf:tb.1≠G.num) (v:Int):Ok { G with hand:=Bf G.hand tb,recs:=Bc G.recs tb v } (n + 1):=by
 have x1:=x.mono (Nat.le_succ n)
 refine ⟨Jx _ x.hn,by have:=F1 G.hand tb; have:=x.hz; show (Bf G.hand tb).length≤n + 1; lia,x1.on,x1.oz,x1.ke,?_,?_,x1.ln,x1.new,fun t ht e=>?_,x1.lk,?_⟩
 ·show ((Bc G.recs tb v).map (·.1)).Nodup
  rw [Fw]
  by_cases h:tb∈G.recs.map (·.1)
  ·rw [if_pos h]; exact x.rn
  ·rw [if_neg h]; exact Fh x.rn h
 ·have h0:=congrArg List.length (Fw G.recs tb v)
  have:=x.rz
  show (Bc G.recs tb v).length≤n + 1
  rw [List.length_map] at h0
  rw [h0]
  by_cases h:tb∈G.recs.map (·.1)
  ·rw [if_pos h,List.length_map]; lia
  ·rw [if_neg h,List.length_append,List.length_map]; show G.recs.length + 1≤n + 1; lia
 ·rcases mem_addT'.mp ht with ht | ht
  ·exact x.hk t ht e
  ·exact absurd (by rw [← ht]; exact e) hf
 ·show ∀ t∈(Bc G.recs tb v).map (·.1),t.1≠G.num
  rw [Fw]
  intro t ht
  by_cases h:tb∈G.recs.map (·.1)
  ·rw [if_pos h] at ht; exact x.rk t ht
  ·rw [if_neg h] at ht
   rcases List.mem_append.mp ht with ht | ht
   ·exact x.rk t ht
   ·have:t=tb:=by simpa using ht
    rw [this]; exact hf
def Dj (p m:Addr) (G M:HGh):Prop:=∀ b,(b=m∨b∈Am M)→b≠p∧b∉Am G
structure Two (C p m:Addr) (H:Hp) (G M:HGh) (n:Nat):Prop where
 hs:HouseAt C H p G
 md:ModelAt H m M
 lk:Like M G
 ok:Ok G n
 dj:Dj p m G M
 mz:0≤G.made∧G.made≤n
section
variable {C p m:Addr} {H H':Hp} {G M:HGh} {n:Nat}
theorem Dj.model (d:Dj p m G M) (S:HouseAt C H p G) (fr:HFr m M H H'):HouseAt C H' p G:=S.keep fun b o hb e=>by
 refine fr b o e (fun z=>?_) (fun z=>?_)
 ·have:=d b (.inl z)
  rcases hb with hb | hb
  ·exact this.1 hb
  ·exact this.2 hb
 ·have:=d b (.inr z)
  rcases hb with hb | hb
  ·exact this.1 hb
  ·exact this.2 hb
theorem Dj.house (d:Dj p m G M) (S:HouseAt C H p G) (N:ModelAt H m M) (fr:HFr p G H H'):ModelAt H' m M:=N.keep (fun b o hb e=>fr b o e (d b hb).1 (d b hb).2) (HFr.keepT S fr)
theorem Nq (G:HGh) (a:Addr):Am (tk1 (mkG G a))=Am G++[a]:=by unfold Am mkG tk1; simp
theorem Dj.mkM (d:Dj p m G M) (S:HouseAt C H p G) {a:Addr} (ha:H a=none):Dj p m G (tk1 (mkG M a)):=fun b hb=>by
 rcases hb with hb | hb
 ·exact d b (.inl hb)
 ·rw [Nq] at hb
  rcases List.mem_append.mp hb with hb | hb
  ·exact d b (.inr hb)
  ·have e:b=a:=by simpa using hb
   subst e
   refine ⟨fun z=>?_,fun z=>?_⟩
   ·obtain ⟨dx,e⟩:=S.ob
    rw [z,e] at ha; cases ha
   ·obtain ⟨kvs,e⟩:=S.foot_dT z
    rw [e] at ha; cases ha
theorem Dj.mkH (d:Dj p m G M) (N:ModelAt H m M) {a:Addr} (ha:H a=none):Dj p m (tk1 (mkG G a)) M:=fun b hb=>by
 refine ⟨(d b hb).1,fun z=>?_⟩
 rw [Nq] at z
 rcases List.mem_append.mp z with z | z
 ·exact (d b hb).2 z
 ·have e:b=a:=by simpa using z
  subst e
  have:=N.new_ne ha
  rcases hb with hb | hb
  ·exact this.1 hb
  ·exact this.2 hb
end
def D8 (n:Int):Int:=if n=1 then 1 else n / 2
def Jgl:Option Int→PyData
 | none=>.none
 | some v=>.int v
def Jdt:Option Int→V
 | none=>.non
 | some v=>.int v
theorem Ci {l:List (T2×Int)} {t:T2} (h:t∈l.map (·.1)):l.find? (fun q=>decide (q.1=t))=some (t,Ao l t):=by
 cases e:l.find? fun q=>decide (q.1=t) with
 | none =>
   obtain ⟨q,hq,e2⟩:=List.mem_map.mp h
   have:=List.find?_eq_none.mp e q hq
   exact absurd e2 (by simpa using this)
 | some q =>
   have h1:q.1=t:=by have:=List.find?_some e; simpa using this
   have:Ao l t=q.2:=by unfold Ao; rw [e]; rfl
   rw [this,← h1]
theorem Lf {l:List (T2×Int)} {t:T2} (h:t∈l.map (·.1)) (v:Int):(Bc l t v).map (·.1)=l.map (·.1):=by rw [Fw,if_pos h]
theorem Q0 {l:List (T2×Int)} {t:T2} (h:t∈l.map (·.1)) (v:Int):(Bc l t v).length=l.length:=by
 have:=congrArg List.length (Lf h v)
 rw [List.length_map,List.length_map] at this
 exact this
theorem Yf {l:List (T2×Int)} {t:T2} {v:Int} {q:T2×Int} (h:q∈Bc l t v):q.2=v∨q∈l:=by
 unfold Bc at h
 by_cases c:t∈l.map (·.1)
 ·rw [if_pos c] at h
  obtain ⟨r,hr,e⟩:=List.mem_map.mp h
  by_cases e1:r.1=t
  ·rw [if_pos e1] at e; rw [← e]; exact .inl rfl
  ·rw [if_neg e1] at e; rw [← e]; exact .inr hr
 ·rw [if_neg c] at h
  rcases List.mem_append.mp h with h | h
  ·exact .inr h
  ·have:q=(t,v):=by simpa using h
   rw [this]; exact .inl rfl
structure Wk (G:HGh):Prop where
 nn:∀ q∈G.recs,0≤q.2
 hr:∀ t∈G.hand,t.1≠G.num→t∈G.recs.map (·.1)
def A2 (G:HGh) (tb:T2) (sh:Int):Str×Option Int×HGh :=
 if tb∉G.hand then ("NotHeld",none,G)
 else if tb.1=G.num then ("told",some sh,{ G with outs:=Bc G.outs tb (Ao G.outs tb + sh) })
 else if Ao G.recs tb=0 then ("NoWeight",none,G)
 else ("told",some (D8 (Ao G.recs tb)),{ G with recs:=Bc G.recs tb (Ao G.recs tb - D8 (Ao G.recs tb)) })
def tk3 (r:Str×Option Int×HGh):HGh:=if r.1="told" then tk1 r.2.2 else r.2.2
section
variable {G M:HGh} {n:Nat}
theorem Ok.outs (x:Ok G n) {tb:T2} (h:tb∈G.outs.map (·.1)) (v:Int):Ok { G with outs:=Bc G.outs tb v } n:=by
 have e:=Lf h v
 refine ⟨x.hn,x.hz,by show ((Bc G.outs tb v).map (·.1)).Nodup; rw [e]; exact x.on,by show (Bc G.outs tb v).length≤n; rw [Q0 h]; exact x.oz,by show G.holds.map (·.1)=(Bc G.outs tb v).map (·.1); rw [e]; exact x.ke,x.rn,x.rz,x.ln,?_,?_,?_,x.rk⟩
 ·show ∀ t∈(Bc G.outs tb v).map (·.1),_; rw [e]; exact x.new
 ·show ∀ t∈G.hand,t.1=G.num→t∈(Bc G.outs tb v).map (·.1); rw [e]; exact x.hk
 ·show ∀ q∈G.holds,∀ t∈q.2.2,t.1=G.num→t∈(Bc G.outs tb v).map (·.1); rw [e]; exact x.lk
theorem Ok.recs (x:Ok G n) {tb:T2} (h:tb∈G.recs.map (·.1)) (v:Int):Ok { G with recs:=Bc G.recs tb v } n:=by
 have e:=Lf h v
 refine ⟨x.hn,x.hz,x.on,x.oz,x.ke,by show ((Bc G.recs tb v).map (·.1)).Nodup; rw [e]; exact x.rn,by show (Bc G.recs tb v).length≤n; rw [Q0 h]; exact x.rz,x.ln,x.new,x.hk,x.lk,?_⟩
 show ∀ t∈(Bc G.recs tb v).map (·.1),_; rw [e]; exact x.rk
theorem Wk.recs (x:Wk G) {tb:T2} (h:tb∈G.recs.map (·.1)) {v:Int} (hv:0≤v):Wk { G with recs:=Bc G.recs tb v }:=by
 refine ⟨fun q hq=>?_,fun t ht e=>?_⟩
 ·rcases Yf hq with e | hq
  ·rw [e]; exact hv
  ·exact x.nn q hq
 ·show t∈(Bc G.recs tb v).map (·.1)
  rw [Lf h]; exact x.hr t ht e
theorem Wk.get (x:Wk G) {tb:T2} (h:tb∈G.recs.map (·.1)):0≤Ao G.recs tb:=x.nn (tb,Ao G.recs tb) (List.mem_of_find?_eq_some (Ci h))
theorem Jal {w:Int} (h:0≤w) (h0:w≠0):0≤w - D8 w:=by
 unfold D8
 by_cases e:w=1
 ·rw [if_pos e]; omega
 ·rw [if_neg e]; omega
theorem Yy (x:Ok G n) (y:Wk G) (tb:T2) (sh:Int):Ok (tk3 (A2 G tb sh)) n∧Wk (tk3 (A2 G tb sh))∧Am (tk3 (A2 G tb sh))=Am G∧(tk3 (A2 G tb sh)).made=G.made:=by
 have r1:¬ (("NotHeld":Str)="told"):=by decide +kernel
 have r2:¬ (("NoWeight":Str)="told"):=by decide +kernel
 unfold A2 tk3
 by_cases c1:tb∉G.hand
 ·rw [if_pos c1,if_neg r1]; exact ⟨x,y,rfl,rfl⟩
 rw [if_neg c1]
 have c1:tb∈G.hand:=Classical.byContradiction c1
 by_cases c2:tb.1=G.num
 ·rw [if_pos c2,if_pos rfl]; exact ⟨(x.outs (x.hk tb c1 c2) _).tk1,⟨y.nn,y.hr⟩,rfl,rfl⟩
 rw [if_neg c2]
 have hr:=y.hr tb c1 c2
 by_cases c3:Ao G.recs tb=0
 ·rw [if_pos c3,if_neg r2]; exact ⟨x,y,rfl,rfl⟩
 ·rw [if_neg c3,if_pos rfl]
  have w1:=y.recs hr (Jal (y.get hr) c3)
  exact ⟨(x.recs hr _).tk1,⟨w1.nn,w1.hr⟩,rfl,rfl⟩
theorem Like.part (x:Like M G) (tb:T2) (sh:Int):(A2 M tb sh).1=(A2 G tb sh).1∧(A2 M tb sh).2.1=(A2 G tb sh).2.1∧Like (A2 M tb sh).2.2 (A2 G tb sh).2.2:=by
 unfold A2
 rw [x.hand,x.num,x.recs,x.outs]
 by_cases c1:tb∉G.hand
 ·rw [if_pos c1,if_pos c1]; exact ⟨rfl,rfl,x⟩
 rw [if_neg c1,if_neg c1]
 by_cases c2:tb.1=G.num
 ·rw [if_pos c2,if_pos c2]; exact ⟨rfl,rfl,rfl,x.made,x.ticks,rfl,rfl,rfl,x.holds⟩
 rw [if_neg c2,if_neg c2]
 by_cases c3:Ao G.recs tb=0
 ·rw [if_pos c3,if_pos c3]; exact ⟨rfl,rfl,x⟩
 ·rw [if_neg c3,if_neg c3]; exact ⟨rfl,rfl,rfl,x.made,x.ticks,rfl,rfl,rfl,x.holds⟩
def LikeW (M G:HGh):Prop:=Like { M with ticks:=G.ticks } G
theorem R1 (M:HGh) (t:Int) (tb:T2) (sh:Int):A2 { M with ticks:=t } tb sh=((A2 M tb sh).1,(A2 M tb sh).2.1,{ (A2 M tb sh).2.2 with ticks:=t }):=by
 by_cases c1:tb∈M.hand <;> by_cases c2:tb.1=M.num <;> by_cases c3:Ao M.recs tb=0 <;> simp [A2,c1,c2,c3]
theorem LikeW.ok {M G:HGh} (x:LikeW M G) {n:Nat} (k:Ok G n):Ok M n:=by
 have y:=Like.ok x k
 exact ⟨y.hn,y.hz,y.on,y.oz,y.ke,y.rn,y.rz,y.ln,y.new,y.hk,y.lk,y.rk⟩
theorem LikeW.part {M G:HGh} (x:LikeW M G) (tb:T2) (sh:Int):(A2 M tb sh).1=(A2 G tb sh).1∧(A2 M tb sh).2.1=(A2 G tb sh).2.1∧LikeW (A2 M tb sh).2.2 (tk3 (A2 G tb sh)):=by
 obtain ⟨h1,h2,h3⟩:=Like.part x tb sh
 rw [R1] at h1 h2 h3
 refine ⟨h1,h2,?_⟩
 unfold tk3
 by_cases c:(A2 G tb sh).1="told"
 ·rw [if_pos c]; exact ⟨h3.num,h3.made,rfl,h3.hand,h3.outs,h3.recs,h3.holds⟩
 ·rw [if_neg c]; exact ⟨h3.num,h3.made,rfl,h3.hand,h3.outs,h3.recs,h3.holds⟩
end
section
variable {prog:Program} {w:World}
end
section
variable {X:Cx}
end
theorem Nr {α:Type} (f:α→Int):∀ {l:List α} (x:Int),(l.map f).Nodup→(l.filter fun e=>f e == x).length≤1
 | [],_,_=>Nat.zero_le _
 | a :: l,x,nd=>by
   have nd:=List.nodup_cons.mp nd
   rw [List.filter_cons]
   by_cases e:f a=x
   ·have no:(l.filter fun e=>f e == x)=[]:=List.filter_eq_nil_iff.mpr fun b hb z=>nd.1 (List.mem_map.mpr ⟨b,hb,by rw [e]; simpa using z⟩)
    rw [if_pos (by simpa using e),no]; exact Nat.le_refl _
   ·rw [if_neg (by simpa using e)]; exact Nr f x nd.2
section
variable {prog:Program} {w:World} {K:Type} [DecidableEq K] {knd:HeapKind prog w K} {A:Around} {E:Value→Shared→Prop} {s:Shared}
def Tame (knd:HeapKind prog w K):Prop:=∀ {A:Around} {E:Value→Shared→Prop} {s:Shared} {k:K} {a:Addr} {Q:Bool→Shared→Prop},knd.is s.heap k a→(∀ b,Q b s)→wpAny (model prog w) A (Builtin.Dict.quietEq (.ref a)) Q E s
theorem Tn {id:String} {d:Addr} {ob:Obj} {es:Array DictEntry} {ep:Nat} {xs:List (K×Addr×Value)} {Q:Array DictEntry→Shared→Prop} (tm:Tame knd) (g:s.heap.get? d=some ob) (dat:ob.data=.dict es ep) (ent:es.toList=xs.map (entryOfKey knd))
 (keys:∀ x∈xs,knd.is s.heap x.1 x.2.1) (hh:(xs.map fun x=>knd.hash x.1).Nodup) (q:Q es s):wpAny (model prog w) A (Builtin.Dict.entriesForEmpty id d) Q E s:=by
 have hn:(es.toList.map fun e=>e.hash).Nodup:=by rw [ent,List.map_map]; exact hh
 unfold Builtin.Dict.entriesForEmpty
 refine wpAny_bind (wpAny_dictEntries g dat (wpAny_bind ?_))
 rw [← Array.forIn_toList]
 refine wpAny_forIn_list _ (fun rest _ s'=>s'=s∧∀ e∈rest,e∈es.toList) _ ?_ ?_ _ _ ⟨rfl,fun e he=>he⟩
 ·rintro e rest b s' ⟨rfl,sub⟩
  have me:=sub e (List.mem_cons_self ..)
  rw [ent] at me
  obtain ⟨x,hx,ex⟩:=List.mem_map.mp me
  have ek:e.key=.ref x.2.1:=by rw [← ex]; rfl
  rw [ek]
  refine wpAny_bind (tm (keys x hx) fun bq=>?_)
  have small:¬ (es.filter fun z=>z.hash == e.hash).size > 1:=by
   have h1:=Nr (fun z:DictEntry=>z.hash) e.hash hn
   have h2:(es.filter fun z=>z.hash == e.hash).size=(es.toList.filter fun z=>z.hash == e.hash).length:=by rw [← Array.length_toList,Array.toList_filter]
   rw [h2]; exact Nat.not_lt.mpr h1
  cases bq with
  | true =>
    simp only [Bool.not_true,Bool.false_eq_true,if_false]
    exact wpAny_pure ⟨rfl,fun e he=>sub e (List.mem_cons_of_mem _ he)⟩
  | false =>
    simp only [Bool.not_false,if_true]
    rw [if_neg small]
    exact wpAny_pure ⟨rfl,fun e he=>sub e (List.mem_cons_of_mem _ he)⟩
 ·rintro b s' ⟨rfl,_⟩
  exact wpAny_pure q
theorem Lw {d a:Addr} {xs:List (K×Addr×Value)} {k:K} {v:Value} {Q:Unit→Shared→Prop} (room:knd.room A) (key:knd.is s.heap k a) (m:s.heap.DictOfH knd d xs) (z:xs.length≤sizeLine)
 (q:∀ h',h'.DictOfH knd d (storedH xs k a v)→Heap.SameBut d s.heap h'→Q () { s with heap:=h' }):wpAny (model prog w) A (dictSetHashed d (.ref a) (knd.hash k) v) Q E s:=by
 obtain ⟨ob,es,ep,g,ex,dat,ent,keys,nd⟩:=m
 have sz:=size_of_entries ent
 unfold dictSetHashed
 refine wpAny_holding (wpAny_bind (wpAny_dictFind_heap room key g dat ent keys nd (fun no=>?_) fun j p hj=>?_))
 ·refine wpAny_bind (wpAny_rule (wpAny_updateDictKeys (hz:=by rw [sz]; exact z) g dat (q _ ⟨_,_,ep + 1,Heap.get?_update_self _ g (Obj.isFreed_of_dict (Obj.data_mapDictKeys dat _)),ex.mapDictKeys _,Obj.data_mapDictKeys dat _,?_,fun x hx=>?_,?_⟩ (Heap.SameBut.update ..))))
  ·rw [storedH_new (atKey_none_of_get no),List.map_append,← ent]
   simp [entryOfKey]
  ·rw [storedH_new (atKey_none_of_get no)] at hx
   rcases List.mem_append.mp hx with hx | hx
   ·exact knd.keeps (keys x hx) g dat (Heap.SameBut.update ..)
   ·have e:x=(k,a,v):=by simpa using hx
    rw [e]; exact knd.keeps key g dat (Heap.SameBut.update ..)
  ·rw [storedH_new (atKey_none_of_get no),List.map_append]
   exact Fh nd (not_mem_keys_of_get no)
 ·refine wpAny_bind (wpAny_rule (wpAny_bind (wpAny_updateDict g dat (wpAny_point (q _ ⟨_,_,ep,Heap.get?_update_self _ g (Obj.isFreed_of_dict (Obj.data_mapDict dat _)),ex.mapDict _,Obj.data_mapDict dat _,?_,fun x hx=>?_,?_⟩ (Heap.SameBut.update ..))))))
  ·rw [storedH_old (atKey_of_get nd hj)]
   have e:=modify_map_putAt (entryOfKey knd) (fun e:DictEntry=>{ e with val:=v }) k v (fun _ _=>rfl) nd hj
   rw [← ent] at e
   rw [← e]
   simp
  ·rw [storedH_old (atKey_of_get nd hj)] at hx
   obtain ⟨y,hy,e⟩:=List.mem_map.mp hx
   have e1:x.1=y.1∧x.2.1=y.2.1:=by
    rw [← e]; unfold putAt
    by_cases c:y.1=k
    ·rw [if_pos c]; exact ⟨rfl,rfl⟩
    ·rw [if_neg c]; exact ⟨rfl,rfl⟩
   rw [e1.1,e1.2]
   exact knd.keeps (keys y hy) g dat (Heap.SameBut.update ..)
  ·rw [storedH_old (atKey_of_get nd hj),keys_map_putAt]; exact nd
def C1 (xs more:List (K×Addr×Value)):List (K×Addr×Value):=more.foldl (fun acc x=>storedH acc x.1 x.2.1 x.2.2) xs
theorem K2 (xs more:List (K×Addr×Value)) {i:Nat} {x:K×Addr×Value} (h:more[i]?=some x):C1 xs (more.take (i + 1))=storedH (C1 xs (more.take i)) x.1 x.2.1 x.2.2:=by
 unfold C1
 rw [List.take_succ,h,List.foldl_append]
 rfl
theorem Qn (xs:List (K×Addr×Value)) (k:K) (a:Addr) (v:Value):(storedH xs k a v).length≤xs.length + 1:=by
 cases e:atKey xs k with
 | none=>rw [storedH_new e,List.length_append]; exact Nat.le_refl _
 | some p=>rw [storedH_old e,List.length_map]; exact Nat.le_succ _
theorem Je:∀ (more xs:List (K×Addr×Value)),(C1 xs more).length≤xs.length + more.length
 | [],xs=>Nat.le_refl _
 | x :: r,xs=>by
   have h1:(C1 (storedH xs x.1 x.2.1 x.2.2) r).length≤_:=Je r _
   have h2:=Qn xs x.1 x.2.1 x.2.2
   show (C1 (storedH xs x.1 x.2.1 x.2.2) r).length≤xs.length + (r.length + 1)
   lia
theorem Mz:∀ (more xs:List (K×Addr×Value)),((xs++more).map (·.1)).Nodup→C1 xs more=xs++more
 | [],xs,_=>(List.append_nil xs).symm
 | x :: r,xs,nd=>by
   have e:atKey xs x.1=none:=by
    cases c:atKey xs x.1 with
    | none=>rfl
    | some p =>
      exfalso
      unfold atKey at c
      cases f:xs.find? (fun y=>decide (y.1=x.1)) with
      | none=>rw [f] at c; cases c
      | some y =>
        have h1:y.1=x.1:=by simpa using List.find?_some f
        have h2:=List.mem_of_find?_eq_some f
        rw [List.map_append,List.nodup_append] at nd
        exact nd.2.2 _ (List.mem_map_of_mem h2) _ (List.mem_map_of_mem (List.mem_cons_self ..)) h1
   show C1 (storedH xs x.1 x.2.1 x.2.2) r=xs++x :: r
   rw [storedH_new e]
   have e2:xs++[(x.1,x.2.1,x.2.2)]++r=xs++x :: r:=by rw [List.append_assoc]; rfl
   rw [Mz r _ (by rw [e2]; exact nd),e2]
theorem Sy {id:String} {d o:Addr} {xs more:List (K×Addr×Value)} {Q:Unit→Shared→Prop} (tm:Tame knd) (room:knd.room A) (ne:d≠o) (lo:(o == sysModules)=false) (hd:s.heap.DictOfH knd d xs) (ho:s.heap.DictOfH knd o more) (z:xs.length + more.length≤sizeLine)
 (hh:xs=[]→(more.map fun x=>knd.hash x.1).Nodup) (q:∀ h',h'.DictOfH knd d (C1 xs more)→Heap.SameBut d s.heap h'→Q () { s with heap:=h' }):wpAny (model prog w) A (Builtin.Dict.mergeDict id d o) Q E s:=by
 obtain ⟨od,esd,epd,gd,exd,datd,entd,keysd,ndd⟩:=_root_.id hd
 obtain ⟨oo,eso,epo,go,exo,dato,ento,keyso,ndo⟩:=_root_.id ho
 have so:=size_of_entries ento
 unfold Builtin.Dict.mergeDict Builtin.Dict.showsAll
 rw [if_neg (by simpa using ne),if_neg (by rw [lo]; exact Bool.false_ne_true)]
 refine wpAny_bind (wpAny_pure (wpAny_bind (wpAny_dictEntries go dato ?_)))
 dsimp only
 split
 ·refine wpAny_bind (wpAny_dictEntries gd datd ?_)
  split
  ·rename_i em
   have ex:xs=[]:=by
    have h1:=size_of_entries entd
    rw [Array.isEmpty_iff_size_eq_zero.mp em] at h1
    exact List.length_eq_zero_iff.mp h1.symm
   subst ex
   have em':C1 [] more=more:=Mz more [] ndo
   rw [em'] at q
   refine wpAny_bind (Tn tm go dato ento keyso (hh rfl) ?_)
   split
   ·have zz:eso.size≤sizeLine + 1:=by rw [so]; have:0 + more.length≤sizeLine:=z; lia
    refine wpAny_bind (wpAny_updateDictKeysTo gd datd (wpAny_pure (q _ ⟨_,_,epd + 1,Heap.get?_update_self _ gd (Obj.isFreed_of_dict (Obj.data_mapDictKeys datd _)),exd.mapDictKeys _,Obj.data_mapDictKeys datd _,ento,fun x hx=>?_,ndo⟩ (Heap.SameBut.update ..))) zz)
    exact knd.keeps (keyso x hx) gd datd (Heap.SameBut.update ..)
   ·rename_i nz
    have e0:more=[]:=by
     have:eso.size=0:=Array.isEmpty_iff_size_eq_zero.mp (by simpa using nz)
     rw [so] at this; exact List.length_eq_zero_iff.mp this
    subst e0
    exact wpAny_pure (q _ hd (Heap.SameBut.refl _ _))
  ·refine wpAny_bind (wpAny_dictEpoch go dato (wpAny_bind (wpAny_dictEntries go dato (wpAny_bind ?_))))
   rw [Std.Legacy.Range.forIn_eq_forIn_range']
   simp only [Std.Legacy.Range.size,Nat.sub_zero,Nat.add_sub_cancel,Nat.div_one]
   refine wpAny_forIn_list _ (fun rest _ s'=>∃ h' j,s'={ s with heap:=h' }∧rest=List.range' j (eso.size - j)∧j≤eso.size∧h'.DictOfH knd d (C1 xs (more.take j))∧Heap.SameBut d s.heap h') _ ?_ ?_ _ _ ⟨s.heap,0,rfl,by simp,Nat.zero_le _,hd,Heap.SameBut.refl _ _⟩
   ·rintro i rest b s' ⟨h',j,rfl,hr,hj,hd',sb⟩
    have lt:j < eso.size:=by
     by_cases c:j < eso.size
     ·exact c
     ·rw [Nat.sub_eq_zero_of_le (Nat.not_lt.mp c)] at hr; cases hr
    have er:i=j∧rest=List.range' (j + 1) (eso.size - (j + 1)):=by
     rw [show eso.size - j=(eso.size - (j + 1)) + 1 by lia,List.range'_succ] at hr
     exact List.cons.inj hr
    obtain ⟨rfl,er⟩:=er
    have go':h'.get? o=some oo:=(sb.2 o ne.symm).trans go
    obtain ⟨x,hx⟩:=Bd (xs:=more) (j:=i) (by lia)
    refine wpAny_bind (wpAny_dictEntries (s:={ s with heap:=h' }) go' dato ?_)
    rw [entry_at ento i,hx]
    have kx:=knd.keeps (keyso x (List.mem_of_getElem? hx)) gd datd sb
    have zl:(C1 xs (more.take i)).length≤sizeLine:=by
     have h1:=Je (more.take i) xs
     have h2:(more.take i).length≤more.length:=by rw [List.length_take]; lia
     lia
    refine wpAny_bind (wpAny_holding (Lw (s:={ s with heap:=h' }) room kx hd' zl fun h2 hd2 sb2=>?_))
    have go2:h2.get? o=some oo:=(sb2.2 o ne.symm).trans go'
    refine wpAny_bind (wpAny_dictEpoch (s:={ s with heap:=h2 }) go2 dato ?_)
    rw [if_neg (by simp)]
    exact wpAny_pure ⟨h2,i + 1,rfl,er,lt,by rw [K2 xs more hx]; exact hd2,sb.trans sb2⟩
   ·rintro b s' ⟨h',j,rfl,hr,hj,hd',sb⟩
    have ej:j=eso.size:=by
     by_cases c:j < eso.size
     ·rw [show eso.size - j=(eso.size - (j + 1)) + 1 by lia,List.range'_succ] at hr; cases hr
     ·lia
    rw [ej,so,List.take_length] at hd'
    exact wpAny_pure (q h' hd' sb)
 ·refine wpAny_bind (wpAny_dictEpoch go dato (wpAny_bind (wpAny_dictEntries go dato (wpAny_bind ?_))))
  rw [Std.Legacy.Range.forIn_eq_forIn_range']
  simp only [Std.Legacy.Range.size,Nat.sub_zero,Nat.add_sub_cancel,Nat.div_one]
  refine wpAny_forIn_list _ (fun rest _ s'=>∃ h' j,s'={ s with heap:=h' }∧rest=List.range' j (eso.size - j)∧j≤eso.size∧h'.DictOfH knd d (C1 xs (more.take j))∧Heap.SameBut d s.heap h') _ ?_ ?_ _ _ ⟨s.heap,0,rfl,by simp,Nat.zero_le _,hd,Heap.SameBut.refl _ _⟩
  ·rintro i rest b s' ⟨h',j,rfl,hr,hj,hd',sb⟩
   have lt:j < eso.size:=by
    by_cases c:j < eso.size
    ·exact c
    ·rw [Nat.sub_eq_zero_of_le (Nat.not_lt.mp c)] at hr; cases hr
   have er:i=j∧rest=List.range' (j + 1) (eso.size - (j + 1)):=by
    rw [show eso.size - j=(eso.size - (j + 1)) + 1 by lia,List.range'_succ] at hr
    exact List.cons.inj hr
   obtain ⟨rfl,er⟩:=er
   have go':h'.get? o=some oo:=(sb.2 o ne.symm).trans go
   obtain ⟨x,hx⟩:=Bd (xs:=more) (j:=i) (by lia)
   refine wpAny_bind (wpAny_dictEntries (s:={ s with heap:=h' }) go' dato ?_)
   rw [entry_at ento i,hx]
   have kx:=knd.keeps (keyso x (List.mem_of_getElem? hx)) gd datd sb
   have zl:(C1 xs (more.take i)).length≤sizeLine:=by
    have h1:=Je (more.take i) xs
    have h2:(more.take i).length≤more.length:=by rw [List.length_take]; lia
    lia
   refine wpAny_bind (wpAny_holding (Lw (s:={ s with heap:=h' }) room kx hd' zl fun h2 hd2 sb2=>?_))
   have go2:h2.get? o=some oo:=(sb2.2 o ne.symm).trans go'
   refine wpAny_bind (wpAny_dictEpoch (s:={ s with heap:=h2 }) go2 dato ?_)
   rw [if_neg (by simp)]
   exact wpAny_pure ⟨h2,i + 1,rfl,er,lt,by rw [K2 xs more hx]; exact hd2,sb.trans sb2⟩
  ·rintro b s' ⟨h',j,rfl,hr,hj,hd',sb⟩
   have ej:j=eso.size:=by
    by_cases c:j < eso.size
    ·rw [show eso.size - j=(eso.size - (j + 1)) + 1 by lia,List.range'_succ] at hr; cases hr
    ·lia
   rw [ej,so,List.take_length] at hd'
   exact wpAny_pure (q h' hd' sb)
end
theorem Sg {prog:Program} {w:World} {K:Type} [DecidableEq K] (knd:KeyKind prog w K):Tame (tupleKind knd):=fun hk q=>by
 unfold Builtin.Dict.quietEq
 exact wpAny_bind (wpAny_specialOf (IsTupleKey.typeIs hk) F.slot_tuple_eq.lookup (wpAny_pure (q _)))
def Kb (w:World) (k:List Key):Int:=reduceHash (Builtin.Tuple.tupleHashOf (k.map (Jdx w)))
def Eg (kvs more:List (List Key×V)):List (List Key×V):=more.foldl (fun acc kv=>putK acc kv.1 kv.2) kvs
theorem Rn {H:Hp}:∀ {more:List (List Key×V)} {ms:List (List Key×Addr×Value)} {kvs:List (List Key×V)} {xs:List (List Key×Addr×Value)},KT H more ms→KT H kvs xs→KT H (Eg kvs more) (C1 xs ms)
 | _,_,_,_,.nil,r=>r
 | _,_,kvs,xs,.cons (a:=p) (b:=q) h t,r=>by
   have e:q.1=p.1:=h.1.symm
   have r1:=KT.put r p.1 h.2.1 h.2.2
   show KT H (Eg (putK kvs p.1 p.2) _) (C1 (storedH xs q.1 q.2.1 q.2.2) _)
   rw [e]
   exact Rn t r1
theorem Uu {P:Program} {w:World} {H:Hp}:∀ {kvs:List (List Key×V)} {xs:List (List Key×Addr×Value)},KT H kvs xs→(xs.map fun x=>(tupleKind (B3 P w)).hash x.1)=kvs.map fun q=>Kb w q.1
 | _,_,.nil=>rfl
 | _,_,.cons r t=>by rw [List.map_cons,List.map_cons,Uu t,r.1]; rfl
theorem My:∀ (more kvs:List (List Key×V)),(Eg kvs more).length≤kvs.length + more.length
 | [],_=>Nat.le_refl _
 | q :: r,kvs=>by
   have h1:(Eg (putK kvs q.1 q.2) r).length≤_:=My r _
   have h2:=Fk kvs q.1 q.2
   show (Eg (putK kvs q.1 q.2) r).length≤kvs.length + (r.length + 1)
   lia
section
variable {X:Cx} {pins:List (Addr×Obj)} {σ:L2.St} {H:Hp} {s:Shared} {A:Around} {E:Value→Shared→Prop}
theorem O5 {id:String} {d o:Addr} {kvs more:List (List Key×V)} {Q:PySem.Fin→Shared→Prop} (hu:A.units < cLine) (I:Inv X pins σ H s) (ed:H d=some (.dT kvs)) (eo:Rd H o (.dT more)) (ne:d≠o) (z:kvs.length + more.length≤sizeLine) (hh:kvs=[]→(more.map fun q=>Kb X.w q.1).Nodup)
 (q:∀ s',Inv X pins σ (upd H d (.dT (Eg kvs more))) s'→Q (.done (.ret .none)) s'):wpAny (model X.prog X.w) A (Builtin.Dict.updateFrom id d (.ref o) [] .none) Q E s:=by
 obtain ⟨zd,ld,xs,rd,dd⟩:=O9 I.hok ed
 obtain ⟨zo,lo,ms,ro,dO⟩:=K7 I.hok eo
 have l1:=Paired.length rd
 have l2:=Paired.length ro
 unfold Builtin.Dict.updateFrom
 refine wpAny_bind (wpAny_typeOf dO.typeIs ?_)
 rw [if_neg (by decide)]
 refine wpAny_bind ?_
 unfold Builtin.Dict.merge Builtin.Dict.readDirectly
 refine wpAny_bind (wpAny_bind (wpAny_isInstance dO.typeIs isSubtype_dict_dict ?_))
 simp only [Bool.not_true,Bool.false_eq_true,if_false]
 refine wpAny_bind (wpAny_specialOf dO.typeIs F.slot_dict_iter.lookup (wpAny_pure ?_))
 simp only [beq_self_eq_true,if_true]
 refine wpAny_bind (wpAny_pure (Sy (Sg _) hu ne lo dd dO (by lia) (fun e=>?_) fun h' dd' sb=>?_))
 ·rw [Uu ro]
  refine hh ?_
  rw [e] at l1
  exact List.length_eq_zero_iff.mp l1
 ·obtain ⟨ob,es,ep,g,h2,h3,h4,_,h5⟩:=dd'
  have I':Inv X pins σ (upd H d (.dT (Eg kvs more))) { s with heap:=h' }:=by
   refine Ih (t':=s.toks) I (by rw [ed]; exact True.intro) sb ⟨ob,g⟩ ⟨?_,ld,_,(Rn ro rd).keeps fun c ys ec=>?_,ob,es,ep,g,h2,h3,h4,h5⟩
   ·have:=My more kvs; lia
   ·rw [Ac (Il ec ed (fun z=>nomatch z))]; exact ec
  show wpAny _ _ (Builtin.Dict.addKeywords d [] >>= _) _ _ _
  exact wpAny_bind (wpAny_pure (wpAny_pure (q _ I')))
end
section
variable {X:Cx}
def Jdo (w:World):V→List V→Hp→VK→Prop:=fun x vs H Q=>∃ (d o:Addr) (kvs more:List (List Key×V)),x=.ref d∧vs=[.ref o]∧H d=some (.dT kvs)∧Rd H o (.dT more)∧d≠o∧kvs.length + more.length≤sizeLine∧(kvs=[]→(more.map fun q=>Kb w q.1).Nodup)∧Q .non (upd H d (.dT (Eg kvs more)))
theorem Jaa (hu:X.A.units + 1 < cLine):MtM X "dict.update" (Jdo X.w):=by
 intro pins s σ H x vs v us Q I rx rv h
 obtain ⟨d,o,kvs,more,rfl,rfl,ed,eo,ne,z,hh,q⟩:=h
 cases rx
 obtain ⟨u,rfl,ru⟩:=rv.one
 cases ru
 obtain ⟨_,_,xs,rd,dd⟩:=O9 I.hok ed
 refine wpAny_call_entry PySem.F.slot_dict_update dd.typeIs PySem.F.entry_dict_update ?_ (PySem.F.args_dict_update_2 _ _)
 unfold Builtin.«dict.update» Builtin.Dict.selfAndRest
 refine wpAny_bind (wpAny_bind (wpAny_notOrdered_dict dd.typeIs (wpAny_pure ?_)))
 exact O5 (id:="dict.update") (show X.A.in1.units < cLine from tupleKind_room_in1 (knd:=B3 X.prog X.w) hu) I ed eo ne z hh fun s' I'=>⟨_,rfl,.non,_,I',rfl,q⟩
theorem Tp (hu:X.A.units + 64 < cLine):E8 X (.type "dict") (fun xs H Q=>∃ (o:Addr) (more:List (List Key×V)),xs=[.ref o]∧H o=some (.dT more)∧(more.map fun q=>Kb X.w q.1).Nodup∧∀ p,H p=none→Q (.ref p) (upd H p (.dT (Eg [] more)))):=by
 intro pins s σ H xs us Q I r h
 obtain ⟨o,more,rfl,eo,hh,q⟩:=h
 obtain ⟨u,rfl,rx⟩:=vals1 r
 cases rx
 refine callType_codes (Q₁:=fun obj s₁=>obj=.ref s.heap.objs.size∧s₁={ s with heap:=s.heap.push { cls:=.type "dict",data:=.dict #[] } }) F.kt_called_dict (F.kt_typeCall_dict_1 _) F.entry_dict_init (kt_code_dict_new _ ⟨rfl,rfl⟩) ?_
 rintro obj s₁ ⟨rfl,rfl⟩
 have hn:H s.heap.objs.size=none:=I.hok.fresh (Nat.le_refl _)
 have I1:=I.laid (a:=s.heap.objs.size) (o:=.dT []) (t':=s.toks) (fun _ _ z=>Heap.get?_push_of_some _ z) (Nat.le_refl _) (Rx s.heap I.big)
 have e1:(upd H s.heap.objs.size (.dT [])) s.heap.objs.size=some (.dT []):=Ab
 obtain ⟨_,_,xs,rd,dd⟩:=O9 I1.hok e1
 refine ⟨dd.typeIs,F.args_dict_init_2 _ _,?_⟩
 unfold Builtin.«dict.__init__» Builtin.Dict.selfAndRest
 refine wpAny_bind (wpAny_bind (wpAny_notOrdered_dict dd.typeIs (wpAny_pure ?_)))
 have ne:s.heap.objs.size≠o:=fun z=>by rw [← z,hn] at eo; cases eo
 have eo1:(upd H s.heap.objs.size (.dT [])) o=some (.dT more):=by rw [Ac ne.symm]; exact eo
 obtain ⟨zo,_⟩:=O9 I.hok eo
 have hu2:X.A.in1.in1.units < cLine:=by
  have h1:X.A.in1.in1.units=X.A.units + 1 + 1:=by first | rfl | simp [units_in1]
  lia
 exact O5 (id:="dict.__init__") hu2 I1 e1 (.inl eo1) ne (by rw [List.length_nil]; lia) (fun _=>hh) fun s' I'=>⟨rfl,.ref s.heap.objs.size,_,by rw [Pn] at I'; exact I',rfl,q _ hn⟩
end
def hN (a b:Nat):Int:=reduceHash (Builtin.Tuple.tupleHashOf [hashInt (a:Int),hashInt (b:Int)])
theorem Em {α β:Type} {R:α→β→Prop}:∀ {as:List α} {bs:List β},Paired R as bs→∀ {a:α} {b:β},R a b→Paired R (as++[a]) (bs++[b])
 | _,_,.nil,_,_,h=>.cons h .nil
 | _,_,.cons h t,_,_,h'=>.cons h (Em t h')
theorem Hw {α:Type} (b:α→Bool) {ts:List α} {i:Nat} {t:α} (h:ts[i]?=some t):(ts.take (i + 1)).filter b=(ts.take i).filter b++(if b t=true then [t] else []):=by
 rw [List.take_succ,h,List.filter_append]
 cases e:b t <;> simp [e]
theorem Hc {α:Type} (b:α→Bool) (ts:List α) (i:Nat):((ts.take i).filter b).length≤ts.length:=by
 have h1:=List.length_filter_le b (ts.take i)
 have h2:(ts.take i).length≤ts.length:=by rw [List.length_take]; lia
 lia
def Chosen (p:Addr) (b:T2→Bool) (ts:List T2) (H:Hp) (i:Nat) (ys:List V) (H2:Hp):Prop :=
 ∃ bs:List Addr,ys=bs.map V.ref∧B1 H H2∧H2 p=some (.lst ys)∧ThsAt H2 bs ((ts.take i).filter b)
section
variable {p:Addr} {b:T2→Bool} {ts:List T2} {H:Hp} {tt:TT} {caps:List (Str×Nat)} {σ:L2.St} {Q:Hp→Prop}
theorem Chosen.start (hp:H p=none):Chosen p b ts H 0 [] (upd H p (.lst [])):=⟨[],rfl,Ae hp,Ab,.nil⟩
theorem Chosen.turn (hp:H p=none) (hz:ts.length≤900) (ht:∀ (H2:Hp) (a:Addr) (t:T2) (Q':Bool→Hp→Prop),B1 H H2→H2 a=some (.tup (tv t))→t∈ts→Q' (b t) H2→tt (some (.ref a) :: Ea σ caps) H2 Q')
 {i:Nat} {ys:List V} {H2:Hp} {a:Addr} {t:T2} {N:List V→Hp→Prop} (pv:Chosen p b ts H i ys H2) (hi:ts[i]?=some t) (ha:H2 a=some (.tup (tv t))) (n:∀ ys H',Chosen p b ts H (i + 1) ys H'→N ys H') :
 tt (some (.ref a) :: Ea σ caps) H2 fun c H4=>if c=true then B8 0 (some (.ref a) :: Ea σ caps) H4 fun v H5=>H5 p=some (.lst ys)∧ys.length < sizeLine∧N (ys++[v]) (upd H5 p (.lst (ys++[v]))) else N ys H4:=by
 obtain ⟨bs,ey,sm,hp2,th⟩:=pv
 have e1:=Hw b hi
 have ln:ys.length≤ts.length:=by rw [ey,List.length_map,Paired.length th]; exact Hc b ts i
 refine ht H2 a t _ sm ha (List.mem_of_getElem? hi) ?_
 cases c:b t with
 | false =>
   rw [c] at e1
   rw [if_neg (by decide)]
   exact n ys H2 ⟨bs,ey,sm,hp2,by rw [e1]; simpa using th⟩
 | true =>
   rw [c,if_pos rfl] at e1
   rw [if_pos rfl]
   have s2:B1 H (upd H2 p (.lst (ys++[V.ref a]))):=fun d o e=>by
    rw [Ac (Ar e hp)]; exact sm d o e
   have kt:KeepT H2 (upd H2 p (.lst (ys++[V.ref a]))):=KeepT.upd fun o' e=>by
    rw [hp2] at e; cases e; exact ⟨fun _ z=>(by cases z),fun _ _ z=>(by cases z)⟩
   refine ⟨_,rfl,hp2,A0 (by lia),n _ _ ⟨bs++[a],by rw [ey,List.map_append]; rfl,s2,Ab,?_⟩⟩
   rw [e1]
   exact Em (ThsAt.keep kt th) (kt.tup _ _ ha)
theorem F4 {K:W.Frag} {l:Addr} {as:List Addr} (hp:H p=none) (hz:ts.length≤900) (hl:H l=some (.lst (as.map V.ref))) (th:ThsAt H as ts)
 (ht:∀ (H2:Hp) (a:Addr) (t:T2) (Q':Bool→Hp→Prop),B1 H H2→H2 a=some (.tup (tv t))→t∈ts→Q' (b t) H2→tt (some (.ref a) :: Ea σ caps) H2 Q')
 (k:∀ (H2:Hp) (bs:List Addr),B1 H H2→H2 p=some (.lst (bs.map V.ref))→ThsAt H2 bs (ts.filter b)→Q H2) :
 ∃ W:Nat→Nat→List V→Hp→Prop,(∃ m,W 0 m [] (upd H p (.lst [])))∧∀ i m ys H2,W i m ys H2→H2 p=some (.lst ys) ∧
  (((Itl K l).stop i H2∧Q H2)∨((Itl K l).go i H2∧∀ x H3,(Itl K l).yld i H2 x H3→tt (some x :: Ea σ caps) H3 fun b H4 =>
    if b=true then B8 0 (some x :: Ea σ caps) H4 fun v H5=>H5 p=some (.lst ys)∧ys.length < sizeLine∧∃ m',m' < m∧W (i + 1) m' (ys++[v]) (upd H5 p (.lst (ys++[v])))
    else ∃ m',m' < m∧W (i + 1) m' ys H4)):=by
 have lt:=Paired.length th
 refine F5 (K:=K) (a:=l) (p:=p) (xs:=as.map V.ref) (caps:=caps) (fun i ys H2=>Chosen p b ts H i ys H2) (Chosen.start hp) (fun i ys H2 _ pv=>?_) (fun i x ys H2 N hx pv n=>?_) fun ys H2 pv=>?_
 ·obtain ⟨bs,_,sm,hp2,_⟩:=pv
  exact ⟨SqL.of (sm _ _ hl),hp2⟩
 ·rw [List.getElem?_map] at hx
  cases ea:as[i]? with
  | none=>rw [ea] at hx; cases hx
  | some a =>
    rw [ea] at hx
    have hx:V.ref a=x:=Option.some.inj hx
    subst hx
    obtain ⟨t,et⟩:=Bd (xs:=ts) (j:=i) (by have:=(List.getElem?_eq_some_iff.mp ea).1; lia)
    have ha:=A1 th i a t ea et
    obtain ⟨bs,e0,sm,hp2,th2⟩:=id pv
    exact Chosen.turn hp hz ht pv et (sm _ _ ha) n
 ·obtain ⟨bs,ey,sm,hp2,th2⟩:=pv
  rw [List.length_map,lt,List.take_length] at th2
  exact k H2 bs sm (by rw [← ey]; exact hp2) th2
theorem Ew {α:Type} {d:Addr} {l:List α} {key:α→T2} {val:α→V} {ob:Obj} (hp:H p=none) (hz:l.length≤900) (hd:H d=some (.frz ob (.dT (l.map fun q=>(tk (key q),val q)))))
 (ht:∀ (H2:Hp) (a:Addr) (t:T2) (Q':Bool→Hp→Prop),B1 H H2→H2 a=some (.tup (tv t))→t∈l.map key→Q' (b t) H2→tt (some (.ref a) :: Ea σ caps) H2 Q')
 (k:∀ (H2:Hp) (bs:List Addr),B1 H H2→H2 p=some (.lst (bs.map V.ref))→ThsAt H2 bs ((l.map key).filter b)→Q H2) :
 ∃ W:Nat→Nat→List V→Hp→Prop,(∃ m,W 0 m [] (upd H p (.lst [])))∧∀ i m ys H2,W i m ys H2→H2 p=some (.lst ys) ∧
  (((ItD d (l.map fun q=>(tk (key q),val q)) ob).stop i H2∧Q H2)∨((ItD d (l.map fun q=>(tk (key q),val q)) ob).go i H2∧∀ x H3,(ItD d (l.map fun q=>(tk (key q),val q)) ob).yld i H2 x H3→tt (some x :: Ea σ caps) H3 fun b H4 =>
    if b=true then B8 0 (some x :: Ea σ caps) H4 fun v H5=>H5 p=some (.lst ys)∧ys.length < sizeLine∧∃ m',m' < m∧W (i + 1) m' (ys++[v]) (upd H5 p (.lst (ys++[v])))
    else ∃ m',m' < m∧W (i + 1) m' ys H4)):=by
 have hz':(l.map key).length≤900:=by rw [List.length_map]; exact hz
 refine ⟨fun i m ys H2=>m=l.length - i∧i≤l.length∧Chosen p b (l.map key) H i ys H2,⟨l.length,by simp,Nat.zero_le _,Chosen.start hp⟩,?_⟩
 rintro i m ys H2 ⟨rfl,hi,pv⟩
 obtain ⟨bs,ey,sm,hp2,th2⟩:=id pv
 have hd2:=sm _ _ hd
 refine ⟨hp2,?_⟩
 by_cases hlt:i < l.length
 ·refine .inr ⟨⟨hd2,by rw [List.length_map]; exact hlt⟩,fun x H3 y=>?_⟩
  obtain ⟨e,a,kk,v,ex,ek,ha⟩:=y
  subst e ex
  rw [List.getElem?_map] at ek
  obtain ⟨q,hq⟩:=Bd hlt
  rw [hq] at ek
  have ek:(tk (key q),val q)=(kk,v):=Option.some.inj ek
  have e1:kk=tk (key q):=(Prod.mk.inj ek).1.symm
  rw [e1,Ql] at ha
  exact Chosen.turn (N:=fun zs H'=>∃ m',m' < l.length - i∧(m'=l.length - (i + 1)∧i + 1≤l.length∧Chosen p b (l.map key) H (i + 1) zs H')) hp hz' ht pv (by rw [List.getElem?_map,hq]; rfl) ha fun zs H' pz=>⟨_,by lia,rfl,hlt,pz⟩
 ·have e:i=l.length:=by lia
  subst e
  refine .inl ⟨⟨hd2,by rw [List.length_map]; exact Nat.le_refl _⟩,?_⟩
  have e2:(l.map key).take l.length=l.map key:=by rw [← List.length_map (f:=key),List.take_length]
  rw [e2] at th2
  exact k H2 bs sm (by rw [← ey]; exact hp2) th2
end
def Rch (nx:T2→List T2):Nat→List T2→List T2→List T2→Prop
 | 0,ahead,found,R=>ahead=[]∧R=found
 | n + 1,ahead,found,R=>∃ a t,ahead=a++[t]∧((t∈found∧Rch nx n a found R)∨(t∉found∧Rch nx n (a++nx t) (found++[t]) R))
theorem Rch.len {nx:T2→List T2}:∀ {n:Nat} {ahead found R:List T2},Rch nx n ahead found R→ahead.length≤n
 | 0,_,_,_,h=>by rw [h.1]; exact Nat.le_refl _
 | n + 1,_,_,_,⟨a,t,e,h⟩=>by
   rw [e,List.length_append]
   rcases h with ⟨_,h⟩ | ⟨_,h⟩
   ·have:=h.len; show a.length + 1≤n + 1; lia
   ·have:=h.len; rw [List.length_append] at this; show a.length + 1≤n + 1; lia
theorem Rch.sub {nx:T2→List T2}:∀ {n:Nat} {ahead found R:List T2},Rch nx n ahead found R→(∀ t∈found,t∈R)∧∀ t∈ahead,t∈R
 | 0,_,_,_,h=>by rw [h.1,h.2]; exact ⟨fun _ z=>z,fun _ z=>by cases z⟩
 | n + 1,_,_,_,⟨a,t,e,h⟩=>by
   rw [e]
   rcases h with ⟨ht,h⟩ | ⟨_,h⟩
   ·refine ⟨h.sub.1,fun u hu=>?_⟩
    rcases List.mem_append.mp hu with hu | hu
    ·exact h.sub.2 u hu
    ·have:u=t:=by simpa using hu
     rw [this]; exact h.sub.1 t ht
   ·refine ⟨fun u hu=>h.sub.1 u (List.mem_append_left _ hu),fun u hu=>?_⟩
    rcases List.mem_append.mp hu with hu | hu
    ·exact h.sub.2 u (List.mem_append_left _ hu)
    ·exact h.sub.1 u (List.mem_append_right _ hu)
theorem Rch.closed {nx:T2→List T2}:∀ {n:Nat} {ahead found R:List T2},Rch nx n ahead found R→(∀ t∈found,∀ u∈nx t,u∈found∨u∈ahead)→∀ t∈R,∀ u∈nx t,u∈R
 | 0,_,_,_,h,c=>by
   rw [h.2]; rw [h.1] at c
   exact fun t ht u hu=>(c t ht u hu).elim id fun z=>by cases z
 | n + 1,_,found,_,⟨a,t,e,h⟩,c=>by
   rw [e] at c
   rcases h with ⟨ht,h⟩ | ⟨_,h⟩
   ·refine h.closed fun s hs u hu=>?_
    rcases c s hs u hu with z | z
    ·exact .inl z
    ·rcases List.mem_append.mp z with z | z
     ·exact .inr z
     ·have:u=t:=by simpa using z
      rw [this]; exact .inl ht
   ·refine h.closed fun s hs u hu=>?_
    rcases List.mem_append.mp hs with hs | hs
    ·rcases c s hs u hu with z | z
     ·exact .inl (List.mem_append_left _ z)
     ·rcases List.mem_append.mp z with z | z
      ·exact .inr (List.mem_append_left _ z)
      ·exact .inl (List.mem_append_right _ z)
    ·have:s=t:=by simpa using hs
     rw [this] at hu
     exact .inr (List.mem_append_right _ hu)
theorem Ip {α:Type}:∀ {l:List α},l≠[]→∃ a t,l=a++[t]
 | [],h=>absurd rfl h
 | [x],_=>⟨[],x,rfl⟩
 | x :: y :: l,_=>by
   obtain ⟨a,t,e⟩:=Ip (l:=y :: l) (by simp)
   exact ⟨x :: a,t,by rw [e]; rfl⟩
theorem Rch.ex {nx:T2→List T2} {keys:List T2} {B:Nat} (sub:∀ t,∀ u∈nx t,u∈keys) (sz:∀ t,(nx t).length≤B):∀ (m:Nat) (ahead found:List T2),(∀ t∈ahead,t∈keys)→(keys.filter fun t=>decide (t∉found)).length * (B + 1) + ahead.length≤m→∃ n R,n≤m∧Rch nx n ahead found R
 | m,ahead,found,ha,hm=>by
   by_cases e:ahead=[]
   ·exact ⟨0,found,Nat.zero_le _,e,rfl⟩
   obtain ⟨a,t,ea⟩:=Ip e
   have l1:ahead.length=a.length + 1:=by rw [ea,List.length_append]; rfl
   have ha':∀ u∈a,u∈keys:=fun u hu=>ha u (by rw [ea]; exact List.mem_append_left _ hu)
   have ht:t∈keys:=ha t (by rw [ea]; exact List.mem_append_right _ (by simp))
   match m,hm with
   | 0,hm=>exact absurd hm (by lia)
   | m + 1,hm =>
     by_cases hf:t∈found
     ·obtain ⟨n,R,h1,h2⟩:=Rch.ex sub sz m a found ha' (by lia)
      exact ⟨n + 1,R,by lia,a,t,ea,.inl ⟨hf,h2⟩⟩
     ·have lt:(keys.filter fun u=>decide (u∉found++[t])).length < (keys.filter fun u=>decide (u∉found)).length:=by
       have e1:(keys.filter fun u=>decide (u∉found++[t]))=(keys.filter fun u=>decide (u∉found)).filter fun u=>decide (u≠t):=by
        rw [List.filter_filter]
        refine List.filter_congr fun u _=>?_
        by_cases c1:u∈found <;> by_cases c2:u=t <;> simp [c1,c2]
       rw [e1]
       refine List.length_filter_lt_length_iff_exists.mpr ⟨t,List.mem_filter.mpr ⟨ht,by simpa using hf⟩,by simp⟩
      have l2:=sz t
      have key:(keys.filter fun u=>decide (u∉found++[t])).length * (B + 1) + (a++nx t).length≤m:=by
       rw [List.length_append]
       have:((keys.filter fun u=>decide (u∉found++[t])).length + 1) * (B + 1)≤(keys.filter fun u=>decide (u∉found)).length * (B + 1):=Nat.mul_le_mul_right _ lt
       rw [Nat.add_mul,Nat.one_mul] at this
       lia
      obtain ⟨n,R,h1,h2⟩:=Rch.ex sub sz m (a++nx t) (found++[t]) (fun u hu=>(List.mem_append.mp hu).elim (ha' u) (sub t u)) key
      exact ⟨n + 1,R,by lia,a,t,ea,.inr ⟨hf,h2⟩⟩
def nxT (hl:HL) (t:T2):List T2:=(getH hl t).filter fun u=>decide (u∈hl.map (·.1))
def Eh (G:HGh):List T2:=(G.outs.map (·.1)).filter fun t=>decide (0 < Ao G.outs t)
def startT (G:HGh):List T2:=(G.hand++Eh G).filter fun t=>decide (t∈G.holds.map (·.1))
def keepR (G:HGh) (R:List T2):HGh:={ G with outs:=G.outs.filter (fun q=>decide (q.1∈R)),holds:=G.holds.filter (fun q=>decide (q.1∈R)) }
def heldB (G:HGh) (t:T2):Bool:=decide (t∈G.hand) || G.holds.any fun q=>decide (t∈q.2.2)
def keepB (G:HGh):HGh:={ G with recs:=G.recs.filter fun q=>heldB G q.1 }
section
variable {C p m:Addr} {H H':Hp} {G M:HGh} {n:Nat}
theorem F3 {hl:HL} (s:hl.Sublist G.holds):(Am { G with holds:=hl }).Sublist (Am G):=by
 unfold Am
 exact ((((s.map _).cons₂ _).cons₂ _).cons₂ _).cons₂ _
theorem HouseAt.subHolds (x:HouseAt C H p G) {hl:HL} (s:hl.Sublist G.holds):HouseAt C (upd H G.l (B6 hl)) p { G with holds:=hl }:=by
 obtain ⟨⟨a1,a2,a3⟩,⟨b1,b2⟩,c1,d1⟩:=x.nds
 have np:=x.p_ne (b:=G.l) (by simp [Am])
 obtain ⟨dx,e⟩:=x.ob
 exact ⟨⟨dx,by rw [Ac np.symm]; exact e⟩,by rw [Ac a2]; exact x.dh,by rw [Ac b1]; exact x.dO,Ab,by rw [Ac c1.symm]; exact x.dr,fun q hq=>by rw [Ac (d1 q (s.subset hq)).2.2.1]; exact x.hl q (s.subset hq),x.nd.sublist (F3 s)⟩
theorem ModelAt.subHolds (x:ModelAt H p G) {hl:HL} (s:hl.Sublist G.holds):ModelAt (upd H G.l (B6 hl)) p { G with holds:=hl }:=by
 obtain ⟨⟨a1,a2,a3⟩,⟨b1,b2⟩,c1,d1⟩:=x.nds
 have m1:G.l∈Am G:=by simp [Am]
 have np:=x.p_ne m1
 have kt:=x.kw (.inr m1) (B6 hl)
 exact ⟨by rw [Ac np.symm]; exact x.ob,x.dh.up a2 kt,by rw [Ac b1]; exact x.dO,Ab,by rw [Ac c1.symm]; exact x.dr,fun q hq=>(x.hl q (s.subset hq)).up (d1 q (s.subset hq)).2.2.1 kt,x.nd.sublist ((F3 s).cons₂ _)⟩
theorem Dj.sub {G' M':HGh} (d:Dj p m G M) (e1:∀ b∈Am G',b∈Am G) (e2:∀ b∈Am M',b∈Am M):Dj p m G' M':=fun b hb=>by
 have:=d b (hb.imp id (e2 b))
 exact ⟨this.1,fun z=>this.2 (e1 b z)⟩
end
theorem Rv {d:Addr} {kvs:List (List Key×V)} {ob:Obj} {g:TG} {tb:TS} {D:Ends} {σ:L2.St} {H:Hp} (Pv:Nat→L2.St→Hp→Prop) (h0:Pv 0 σ H) (hf:∀ i σ H,i≤kvs.length→Pv i σ H→H d=some (.frz ob (.dT kvs)))
 (hs:∀ i a k v σ H,kvs[i]?=some (k,v)→H a=some (.tup (k.map kV))→Pv i σ H→g (.ref a) σ H fun σ2 H2=>tb { D with nx:=Pv (i + 1),ct:=Pv (i + 1),bk:=D.nx } σ2 H2) (hd:∀ σ H,Pv kvs.length σ H→D.nx σ H) :
 ∃ W:Nat→Nat→L2.St→Hp→Prop,(∃ m,W 0 m σ H)∧∀ i m σ H,W i m σ H →
  ((ItD d kvs ob).stop i H∧D.nx σ H)∨((ItD d kvs ob).go i H∧∃ N:L2.St→Hp→Prop,(∀ σ' H',N σ' H'→∃ m',m' < m∧W (i + 1) m' σ' H')∧∀ x H',(ItD d kvs ob).yld i H x H'→g x σ H' fun σ2 H2=>tb { D with nx:=N,ct:=N,bk:=D.nx } σ2 H2):=by
 refine ⟨fun i m σ H=>m=kvs.length - i∧i≤kvs.length∧Pv i σ H,⟨kvs.length,by simp,Nat.zero_le _,h0⟩,?_⟩
 rintro i m σ H ⟨rfl,hi,pv⟩
 have fz:=hf i σ H hi pv
 by_cases hlt:i < kvs.length
 ·refine .inr ⟨⟨fz,hlt⟩,Pv (i + 1),fun σ' H' p'=>⟨kvs.length - (i + 1),by lia,rfl,hlt,p'⟩,fun x H' y=>?_⟩
  obtain ⟨e,a,k,v,ex,ek,ha⟩:=y
  subst e ex
  exact hs i a k v σ _ ek ha pv
 ·have e:i=kvs.length:=by lia
  subst e
  exact .inl ⟨⟨fz,Nat.le_refl _⟩,hd σ H pv⟩
def Ds (l m:List T2):List T2:=m.foldl Bf l
theorem M8:∀ {m l:List T2} {t:T2},t∈Ds l m↔t∈l∨t∈m
 | [],l,t=>by simp [Ds]
 | u :: m,l,t=>by
   show t∈Ds (Bf l u) m↔_
   rw [M8,mem_addT',List.mem_cons,or_assoc]
theorem N0:∀ (m l:List T2),(Ds l m).length≤l.length + m.length
 | [],l=>Nat.le_refl _
 | u :: m,l=>by
   have h1:(Ds (Bf l u) m).length≤_:=N0 m (Bf l u)
   have h2:=F1 l u
   show (Ds (Bf l u) m).length≤l.length + (m.length + 1)
   lia
theorem Nz:∀ (m l:List T2),(l++m).Nodup→Ds l m=l++m
 | [],l,_=>(List.append_nil l).symm
 | u :: m,l,nd=>by
   have nu:u∉l:=fun z=>by
    rw [List.nodup_append] at nd
    exact nd.2.2 u z u (List.mem_cons_self ..) rfl
   have e2:l++[u]++m=l++u :: m:=by rw [List.append_assoc]; rfl
   show Ds (Bf l u) m=_
   have e3:Bf l u=l++[u]:=by unfold Bf; rw [if_neg nu]
   rw [e3,Nz m _ (by rw [e2]; exact nd),e2]
theorem Hu:∀ (m l:List T2),Eg (l.map fun q=>(tk q,V.bl true)) (m.map fun q=>(tk q,V.bl true))=(Ds l m).map fun q=>(tk q,V.bl true)
 | [],l=>rfl
 | u :: m,l=>by
   show Eg (putK (l.map fun q=>(tk q,V.bl true)) (tk u) (V.bl true)) (m.map fun q=>(tk q,V.bl true))=_
   rw [Eu]
   exact Hu m (Bf l u)
def InR (t:T2):Prop:=0≤t.1∧t.1 < 12∧0≤t.2∧t.2 < 10
theorem K4 {α:Type} {l:List α} {k:α→T2} {f:α→V} {t:T2}:((l.find? fun q=>decide (k q=t)).map f).isSome=decide (t∈l.map k):=by
 rw [Option.isSome_map]
 cases e:l.find? fun q=>decide (k q=t) with
 | none =>
   have:t∉l.map k:=fun m=>by
    obtain ⟨q,hq,e2⟩:=List.mem_map.mp m
    have:=List.find?_eq_none.mp e q hq
    exact absurd e2 (by simpa using this)
   simp [this]
 | some q =>
   have h1:k q=t:=by simpa using List.find?_some e
   have h2:t∈l.map k:=List.mem_map.mpr ⟨q,List.mem_of_find?_eq_some e,h1⟩
   simp [h2]
theorem Ks {H:Hp} {d a:Addr} {α:Type} {l:List α} {k:α→T2} {f:α→V} {t:T2} (hd:Rd H d (.dT (l.map fun q=>(tk (k q),f q)))) (ha:H a=some (.tup (tv t))):∃ o,DGet H d (.ref a) o∧o.isSome=decide (t∈l.map k) :=
 ⟨_,.inr ⟨_,tk t,a,hd,rfl,ha,rfl⟩,by rw [Ct]; exact K4⟩
theorem Ur {α:Type} (a:List α) (t:α):(a++[t])[(a++[t]).length - 1]?=some t:=by
 rw [List.length_append]; simp
theorem Qm {H:Hp} {as:List Addr} {a:List T2} {t:T2} (th:ThsAt H as (a++[t])):∃ (bs:List Addr) (c:Addr),as=bs++[c]∧ThsAt H bs a∧H c=some (.tup (tv t)):=by
 have hl:=Paired.length th
 have ne:as≠[]:=fun z=>by rw [z] at hl; simp at hl
 obtain ⟨bs,c,e⟩:=Ip ne
 subst e
 have l2:bs.length=a.length:=by rw [List.length_append,List.length_append] at hl; simpa using hl
 refine ⟨bs,c,rfl,?_,?_⟩
 ·have go:∀ {xs:List Addr} {ys:List T2} {x:Addr} {y:T2},xs.length=ys.length→ThsAt H (xs++[x]) (ys++[y])→ThsAt H xs ys:=by
   intro xs
   induction xs with
   | nil=>intro ys x y h _; cases ys with
     | nil=>exact .nil
     | cons _ _=>simp at h
   | cons x0 xs ih=>intro ys x y h q; cases ys with
     | nil=>simp at h
     | cons y0 ys =>
       cases q with
       | cons h1 q=>exact .cons h1 (ih (by simpa using h) q)
  exact go l2 th
 ·exact A1 th bs.length c t (by simp) (by rw [l2]; simp)
theorem F8 {H:Hp}:∀ {as:List Addr} {ts:List T2} {bs:List Addr} {us:List T2},ThsAt H as ts→ThsAt H bs us→ThsAt H (as++bs) (ts++us)
 | _,_,_,_,.nil,r=>r
 | _,_,_,_,.cons h t,r=>.cons h (F8 t r)
theorem D9 {α:Type} (k:α→T2) (l:List α) {ts:List T2} {i:Nat} {t:T2} (h:ts[i]?=some t):(l.filter fun q=>decide (k q∉ts.take (i + 1)))=(l.filter fun q=>decide (k q∉ts.take i)).filter fun q=>decide (k q≠t):=by
 rw [List.filter_filter,List.take_succ,h]
 refine List.filter_congr fun q _=>?_
 by_cases c1:k q∈ts.take i <;> by_cases c2:k q=t <;> simp [c1,c2]
theorem Br {α:Type} (k:α→T2) (l:List α) (f:T2→Bool):(l.filter fun q=>f (k q)).map k=(l.map k).filter f:=by
 rw [List.filter_map]; rfl
theorem Dt {α:Type} {l:List α} {k:α→T2} {f:α→V} {t:T2} (h:t∈l.map k):∃ v,Cp (l.map fun q=>(tk (k q),f q)) (tk t)=some v:=by
 rw [Ct]
 have:=K4 (l:=l) (k:=k) (f:=f) (t:=t)
 rw [decide_eq_true h] at this
 exact Option.isSome_iff_exists.mp this
def dropTs (G:HGh) (ts:List T2):HGh:={ G with outs:=G.outs.filter (fun q=>decide (q.1∉ts)),holds:=G.holds.filter (fun q=>decide (q.1∉ts)) }
theorem Jh (G:HGh):dropTs G []=G:=by
 have a1:G.outs.filter (fun q=>decide (q.1∉([]:List T2)))=G.outs:=List.filter_eq_self.mpr fun q _=>by simp
 have a2:G.holds.filter (fun q=>decide (q.1∉([]:List T2)))=G.holds:=List.filter_eq_self.mpr fun q _=>by simp
 unfold dropTs
 rw [a1,a2]
theorem find_self {α:Type} {k:α→T2} {l:List α} (nd:(l.map k).Nodup) {q:α} (hq:q∈l):l.find? (fun r=>decide (k r=k q))=some q:=by
 cases e:l.find? fun r=>decide (k r=k q) with
 | none=>have:=List.find?_eq_none.mp e q hq; simp at this
 | some r =>
   have h1:k r=k q:=by simpa using List.find?_some e
   rw [E3 nd (List.mem_of_find?_eq_some e) hq h1]
def Cb (hand:List T2) (qs:HL):List T2:=qs.foldl (fun l q=>Ds l q.2.2) hand
theorem mem_handAll:∀ {qs:HL} {hand:List T2} {t:T2},t∈Cb hand qs↔t∈hand∨∃ q∈qs,t∈q.2.2
 | [],hand,t=>by simp [Cb]
 | q :: qs,hand,t=>by
   show t∈Cb (Ds hand q.2.2) qs↔_
   rw [mem_handAll,M8,or_assoc]
   simp
theorem K5 {B:Nat}:∀ {qs:HL} {hand:List T2},(∀ q∈qs,q.2.2.length≤B)→(Cb hand qs).length≤hand.length + qs.length * B
 | [],hand,_=>by simp [Cb]
 | q :: qs,hand,h=>by
   have h1:(Cb (Ds hand q.2.2) qs).length≤_:=K5 fun r hr=>h r (List.mem_cons_of_mem _ hr)
   have h2:=N0 q.2.2 hand
   have h3:=h q (List.mem_cons_self ..)
   show (Cb (Ds hand q.2.2) qs).length≤hand.length + (qs.length + 1) * B
   rw [Nat.add_mul,Nat.one_mul]
   lia
theorem Qc (hand:List T2) {qs:HL} {i:Nat} {q:T2×Addr×List T2} (h:qs[i]?=some q):Cb hand (qs.take (i + 1))=Ds (Cb hand (qs.take i)) q.2.2:=by
 unfold Cb
 rw [List.take_succ,h,List.foldl_append]
 rfl
theorem O3 (G:HGh) (t:T2):(decide (t∈Cb G.hand G.holds))=heldB G t:=by
 unfold heldB
 by_cases h:t∈Cb G.hand G.holds
 ·rw [decide_eq_true h]
  rcases mem_handAll.mp h with h | ⟨q,hq,h⟩
  ·simp [h]
  ·have:(G.holds.any fun q=>decide (t∈q.2.2))=true:=List.any_eq_true.mpr ⟨q,hq,by simpa using h⟩
   rw [this]; simp
 ·rw [decide_eq_false h]
  have h1:t∉G.hand:=fun z=>h (mem_handAll.mpr (.inl z))
  have h2:(G.holds.any fun q=>decide (t∈q.2.2))=false:=by
   rw [List.any_eq_false]
   intro q hq z
   exact h (mem_handAll.mpr (.inr ⟨q,hq,by simpa using z⟩))
  simp [h1,h2]
theorem Kd {α:Type} {b:α→Bool} {ts:List α} {i:Nat} {t:α} (h:ts[i]?=some t):(ts.take (i + 1)).filter b=(ts.take i).filter b++(if b t=true then [t] else []):=Hw b h
theorem Fz {α:Type} (b:α→Bool) (ts:List α) (i:Nat):((ts.take i).filter b).length≤ts.length:=Hc b ts i
theorem Fg {α:Type}:∀ {l:List α} {i:Nat} {t:α},l.Nodup→l[i]?=some t→t∉l.take i
 | [],_,_,_,h=>by simp at h
 | x :: l,0,t,_,_=>by simp
 | x :: l,i + 1,t,nd,h=>by
   have nd:=List.nodup_cons.mp nd
   have h:l[i]?=some t:=by simpa using h
   rw [List.take_succ_cons]
   intro z
   rcases List.mem_cons.mp z with z | z
   ·exact nd.1 (by rw [← z]; exact List.mem_of_getElem? h)
   ·exact Fg nd.2 h z
def BackAt (H:Hp):List Addr→List (T2×Int)→Prop:=Paired fun a q=>∃ c,H a=some (.tup [.ref c,.int q.2])∧H c=some (.tup (tv q.1))
theorem BackAt.keep {H H':Hp} (k:KeepT H H') {as:List Addr} {bs:List (T2×Int)} (x:BackAt H as bs):BackAt H' as bs:=An (fun _ _ ⟨c,e1,e2⟩=>⟨c,k.tup _ _ e1,k.tup _ _ e2⟩) x
theorem Us {H:Hp} {val:T2→V}:∀ {l:List T2} {as:List Addr},Kys H (l.map fun q=>(tk q,val q)) as→ThsAt H as l
 | [],as,h=>by cases h; exact .nil
 | t :: l,as,h=>by
   cases h with
   | cons h1 h2=>exact .cons (by rw [← Ql]; exact h1) (Us h2)
theorem O7 {α:Type} (k:α→T2) {l:List α} {ks R:List T2} (h:∀ q∈l,k q∈ks):(l.filter fun q=>decide (k q∉ks.filter fun t=>decide (t∉R)))=l.filter fun q=>decide (k q∈R):=List.filter_congr fun q hq=>by
 by_cases c:k q∈R
 ·have:k q∉ks.filter fun t=>decide (t∉R):=fun z=>by have:=(List.mem_filter.mp z).2; simp [c] at this
  simp [c]
 ·have:k q∈ks.filter fun t=>decide (t∉R):=List.mem_filter.mpr ⟨h q hq,by simpa using c⟩
  simp [c,h q hq]
theorem Ke {G:HGh} {R:List T2} (ke:G.holds.map (·.1)=G.outs.map (·.1)):dropTs G ((G.outs.map (·.1)).filter fun t=>decide (t∉R))=keepR G R:=by
 have h1:=O7 (fun q:T2×Int=>q.1) (l:=G.outs) (ks:=G.outs.map (·.1)) (R:=R) fun q hq=>List.mem_map_of_mem hq
 have h2:=O7 (fun q:T2×Addr×List T2=>q.1) (l:=G.holds) (ks:=G.outs.map (·.1)) (R:=R) fun q hq=>by rw [← ke]; exact List.mem_map_of_mem hq
 unfold dropTs keepR
 rw [h1,h2]
theorem Jci {α:Type} {f:α→PyData} (h:∀ x,(f x).canLay0=true∧(f x).depth≤5) (xs:List α):Okd (.list (xs.map f)):=Q4 fun d hd=>by
 obtain ⟨x,_,e⟩:=List.mem_map.mp hd
 rw [← e]
 exact ⟨(h x).1,Nat.le_trans (h x).2 (by decide)⟩
theorem Za (t:T2):(thD t).canLay0=true∧(thD t).depth≤5:=⟨(Fl t).1,Nat.le_trans (Fl t).2 (by decide)⟩
theorem Jcf:Okd (.list []):=Q4 fun _ h=>by cases h
theorem Ys {α:Type} (f:α→PyData) (xs:List α):PyData.eqv (.list (xs.map f)) (.list [])=xs.isEmpty:=by
 rw [Jap]; cases xs <;> rfl
theorem Rm {H:Hp} {α:Type} {k:α→T2} {f:α→V}:∀ {l:List α} {as:List Addr},Kys H (l.map fun q=>(tk (k q),f q)) as→ThsAt H as (l.map k)
 | [],as,h=>by cases h; exact .nil
 | t :: l,as,h=>by
   cases h with
   | cons h1 h2=>exact .cons (by rw [← Ql]; exact h1) (Rm h2)
theorem Hx {α:Type} (k:α→T2) (l:List α) (ts:List T2) (t:T2):(l.filter fun q=>decide (k q∉ts++[t]))=(l.filter fun q=>decide (k q∉ts)).filter fun q=>decide (k q≠t):=by
 rw [List.filter_filter]
 refine List.filter_congr fun q _=>?_
 by_cases c1:k q∈ts <;> by_cases c2:k q=t <;> simp [c1,c2]
theorem ModelAt.lst_ne {H:Hp} {p:Addr} {G:HGh} (x:ModelAt H p G) {b:Addr} {xs:List V} (hb:H b=some (.lst xs)):b≠p:=Il hb x.ob (by intro z; cases z)
theorem ModelAt.foot_dropTs {G:HGh} (ts:List T2) {b:Addr} (h:b∈Am (dropTs G ts)):b∈Am G:=by
 have:(Am (dropTs G ts)).Sublist (Am G):=F3 (G:={ G with outs:=(dropTs G ts).outs }) List.filter_sublist
 exact this.subset h
def D7 (M:HGh) (i:Nat):List T2:=M.hand++(M.holds.take i).flatMap (·.2.2)
theorem Ti (M:HGh) {i:Nat} {q:T2×Addr×List T2} (h:M.holds[i]?=some q):D7 M (i + 1)=D7 M i++q.2.2:=by
 unfold D7
 rw [List.take_succ,h,List.flatMap_append,List.append_assoc]
 simp
theorem V9 {n:Nat} (M:HGh) (h:∀ q∈M.holds,q.2.2.length≤n):∀ i,(D7 M i).length≤M.hand.length + i * n:=by
 have go:∀ (l:HL),(∀ q∈l,q.2.2.length≤n)→(l.flatMap (·.2.2)).length≤l.length * n:=by
  intro l
  induction l with
  | nil=>intro _; simp
  | cons q l ih =>
    intro hl
    have h1:=ih fun r hr=>hl r (List.mem_cons_of_mem _ hr)
    have h2:=hl q (List.mem_cons_self ..)
    rw [List.flatMap_cons,List.length_append,List.length_cons,Nat.add_mul,Nat.one_mul]
    lia
 intro i
 have h1:=go (M.holds.take i) fun q hq=>h q (List.mem_of_mem_take hq)
 have h2:(M.holds.take i).length * n≤i * n:=Nat.mul_le_mul_right _ (List.length_take_le _ _)
 unfold D7
 rw [List.length_append]
 lia
theorem Kv (M:HGh) (t:T2):decide (t∈D7 M M.holds.length)=heldB M t:=by
 rw [← O3]
 have:t∈D7 M M.holds.length↔t∈Cb M.hand M.holds:=by
  unfold D7
  rw [List.take_length,mem_handAll,List.mem_append,List.mem_flatMap]
 by_cases c:t∈D7 M M.holds.length
 ·rw [decide_eq_true c,decide_eq_true (this.mp c)]
 ·rw [decide_eq_false c,decide_eq_false fun z=>c (this.mpr z)]
structure Jgp (C p m:Addr) (H:Hp) (G M:HGh) (n:Nat):Prop where
 hs:HouseAt C H p G
 md:ModelAt H m M
 lk:LikeW M G
 ok:Ok G n
 wk:Wk G
 dj:Dj p m G M
section
variable {C p m:Addr} {H H':Hp} {G M:HGh} {n:Nat}
theorem LikeW.mk2 (x:LikeW M G) (a b:Addr):LikeW (mkG M a) (tk1 (mkG G b)):=by
 have y:=Like.mk2 x a b
 exact ⟨y.num,y.made,rfl,y.hand,y.outs,y.recs,y.holds⟩
theorem Ll {l:List (T2×Int)} {t:T2} (h:t∉l.map (·.1)):Ao l t=0:=by
 unfold Ao
 rw [List.find?_eq_none.mpr fun q hq=>by
  have:¬ q.1=t:=fun z=>h (List.mem_map.mpr ⟨q,hq,z⟩)
  simpa using this]
 rfl
structure Few (G:HGh):Prop where
 n0:0≤G.num
 n1:G.num < 12
 hd:∀ t∈G.hand,InR t∧t.2 < 9
 hl:∀ q∈G.holds,∀ t∈q.2.2,InR t∧t.2 < 9
 rc:∀ t∈G.recs.map (·.1),t.2 < 9
end
theorem lw {M' G':HGh} (n:M'.num=G'.num) (m:M'.made=G'.made) (h:M'.hand=G'.hand) (o:M'.outs=G'.outs) (r:M'.recs=G'.recs) (l:hs0 M'.holds=hs0 G'.holds):LikeW M' G':=⟨n,m,rfl,h,o,r,l⟩
def Had (G:HGh):Prop:=∀ q∈G.holds,∀ t∈q.2.2,t∈G.hand
theorem Va {G:HGh} (h:(Am G).Nodup):(G.holds.map (·.2.1)).Nodup:=by
 unfold Am at h
 simp only [List.nodup_cons] at h
 exact h.2.2.2.2
section
variable {p:Addr} {H H':Hp} {G:HGh}
end
theorem R3 (M:HGh) (tb:T2) (sh:Int):Am (A2 M tb sh).2.2=Am M:=by
 unfold A2
 by_cases c1:tb∉M.hand
 ·rw [if_pos c1]
 rw [if_neg c1]
 by_cases c2:tb.1=M.num
 ·rw [if_pos c2]; rfl
 rw [if_neg c2]
 by_cases c3:Ao M.recs tb=0
 ·rw [if_pos c3]
 ·rw [if_neg c3]; rfl
theorem Ro (l:HL):l.map (·.1)=(hs0 l).map (·.1):=by unfold hs0; rw [List.map_map]; rfl
theorem Nl (l:HL) (R:List T2):hs0 (l.filter fun q=>decide (q.1∈R))=(hs0 l).filter fun q=>decide (q.1∈R):=by
 unfold hs0
 rw [List.filter_map]; rfl
section
variable {G M:HGh} {n:Nat} {R:List T2}
theorem LikeW.keys (x:LikeW M G):M.holds.map (·.1)=G.holds.map (·.1):=by rw [Ro,Ro,show hs0 M.holds=hs0 G.holds from x.holds]
theorem LikeW.nx (x:LikeW M G):nxT M.holds=nxT G.holds:=by
 funext t
 unfold nxT
 rw [show getH M.holds t=getH G.holds t from Like.getH x t,x.keys]
theorem LikeW.start (x:LikeW M G):startT M=startT G:=by
 unfold startT Eh
 rw [show M.hand=G.hand from x.hand,show M.outs=G.outs from x.outs,x.keys]
theorem LikeW.keepR (x:LikeW M G) (R:List T2):LikeW (FX.keepR M R) (FX.keepR G R):=by
 refine ⟨x.num,x.made,rfl,x.hand,?_,x.recs,?_⟩
 ·show M.outs.filter _=G.outs.filter _
  rw [show M.outs=G.outs from x.outs]
 ·show hs0 (M.holds.filter fun q=>decide (q.1∈R))=hs0 (G.holds.filter fun q=>decide (q.1∈R))
  rw [Nl,Nl,show hs0 M.holds=hs0 G.holds from x.holds]
theorem O4 (G:HGh) (t:T2):heldB G t=(decide (t∈G.hand) || (hs0 G.holds).any fun q=>decide (t∈q.2)):=by
 unfold heldB hs0
 rw [List.any_map]; rfl
theorem LikeW.heldB (x:LikeW M G) (t:T2):FX.heldB M t=FX.heldB G t:=by
 rw [O4,O4,show M.hand=G.hand from x.hand,show hs0 M.holds=hs0 G.holds from x.holds]
theorem LikeW.keepB (x:LikeW M G):LikeW (FX.keepB M) (FX.keepB G):=by
 refine ⟨x.num,x.made,rfl,x.hand,x.outs,?_,x.holds⟩
 show M.recs.filter (fun q=>FX.heldB M q.1)=G.recs.filter (fun q=>FX.heldB G q.1)
 rw [show M.recs=G.recs from x.recs]
 exact List.filter_congr fun q _=>x.heldB q.1
theorem LikeW.tk1 (x:LikeW M G):LikeW M (FX.tk1 G):=⟨x.num,x.made,rfl,x.hand,x.outs,x.recs,x.holds⟩
theorem Yg (ok:Ok G n) {q:T2×Addr×List T2} (hq:q∈G.holds) {t:T2} (ht:t∈q.2.2) (e:t∈G.holds.map (·.1)):t∈nxT G.holds q.1:=by
 have nd:(G.holds.map (·.1)).Nodup:=by rw [ok.ke]; exact ok.on
 have f:=find_self (k:=fun q:T2×Addr×List T2=>q.1) nd hq
 have:getH G.holds q.1=q.2.2:=by unfold getH; rw [f]; rfl
 unfold nxT
 rw [this]
 exact List.mem_filter.mpr ⟨ht,by simpa using e⟩
theorem Ok.keepR (ok:Ok G n) (st:∀ t∈startT G,t∈R) (cl:∀ t∈R,∀ u∈nxT G.holds t,u∈R):Ok (FX.keepR G R) n:=by
 have mem:∀ t,t∈G.outs.map (·.1)→t∈R→t∈(G.outs.filter fun q=>decide (q.1∈R)).map (·.1):=fun t h1 h2=>by
  rw [Br (fun q:T2×Int=>q.1) G.outs (fun t=>decide (t∈R))]
  exact List.mem_filter.mpr ⟨h1,by simpa using h2⟩
 have sub:∀ t,t∈(G.outs.filter fun q=>decide (q.1∈R)).map (·.1)→t∈G.outs.map (·.1):=fun t h=>(List.filter_sublist.map _).subset h
 refine ⟨ok.hn,ok.hz,ok.on.sublist (List.filter_sublist.map _),Nat.le_trans (List.length_filter_le _ _) ok.oz,?_,ok.rn,ok.rz,fun q hq=>ok.ln q (List.mem_filter.mp hq).1,fun t ht=>ok.new t (sub t ht),fun t ht e=>?_,fun q hq t ht e=>?_,ok.rk⟩
 ·show (G.holds.filter fun q=>decide (q.1∈R)).map (·.1)=(G.outs.filter fun q=>decide (q.1∈R)).map (·.1)
  rw [Br (fun q:T2×Addr×List T2=>q.1) G.holds (fun t=>decide (t∈R)),Br (fun q:T2×Int=>q.1) G.outs (fun t=>decide (t∈R)),ok.ke]
 ·have h1:=ok.hk t ht e
  refine mem t h1 (st t ?_)
  unfold startT
  exact List.mem_filter.mpr ⟨List.mem_append_left _ ht,by rw [ok.ke]; simpa using h1⟩
 ·obtain ⟨hq1,hq2⟩:=List.mem_filter.mp hq
  have h1:=ok.lk q hq1 t ht e
  exact mem t h1 (cl q.1 (by simpa using hq2) t (Yg ok hq1 ht (by rw [ok.ke]; exact h1)))
theorem Ok.keepB (ok:Ok G n):Ok (FX.keepB G) n :=
 ⟨ok.hn,ok.hz,ok.on,ok.oz,ok.ke,ok.rn.sublist (List.filter_sublist.map _),Nat.le_trans (List.length_filter_le _ _) ok.rz,ok.ln,ok.new,ok.hk,ok.lk,fun t ht=>ok.rk t ((List.filter_sublist.map _).subset ht)⟩
theorem Jcd (hl:HL) (t:T2):∀ u∈nxT hl t,u∈hl.map (·.1):=fun u hu=>by
 have:=(List.mem_filter.mp hu).2
 simpa using this
end
def Jf3 (G:HGh) (R:List T2):HGh:=tk1 (keepB (keepR G R))
section
variable {G M:HGh} {n:Nat} {R:List T2}
end
theorem Fm {n:Nat} (h:n≤100000):n < sizeLine:=Nat.lt_of_le_of_lt h (by decide)
def Xm (n:Nat):List (Nat×Nat):=(List.range 60).map (fun j=>(n,j))++[((n + 1) % 12,0),((n + 1) % 12,1),((n + 2) % 12,0),((n + 2) % 12,100000000000000000000)]
def U3:List Int→Bool
 | []=>true
 | x :: xs=>xs.all (fun y=>decide (y≠x)) && U3 xs
theorem Rz:∀ {l:List Int},U3 l=true→l.Nodup
 | [],_=>List.nodup_nil
 | x :: xs,h=>by
   unfold U3 at h
   rw [Bool.and_eq_true] at h
   refine List.nodup_cons.mpr ⟨fun m=>?_,Rz h.2⟩
   have:=List.all_eq_true.mp h.1 x m
   simp at this
theorem Xl:((List.range 12).all fun n=>U3 ((Xm n).map fun p=>hN p.1 p.2))=true:=by decide +kernel
def InP (n:Int) (t:T2):Prop:=0≤n∧n < 12∧((t.1=n∧0≤t.2∧t.2 < 60)∨t=((n + 1) % 12,0)∨t=((n + 1) % 12,1)∨t=((n + 2) % 12,0)∨t=((n + 2) % 12,100000000000000000000))
theorem InP.pool {n:Int} {t:T2} (h:InP n t):0≤t.1∧0≤t.2∧(t.1.toNat,t.2.toNat)∈Xm n.toNat:=by
 obtain ⟨h0,h1,h⟩:=h
 obtain ⟨m,rfl⟩:∃ m:Nat,n=m:=⟨n.toNat,by lia⟩
 rw [Int.toNat_natCast]
 unfold Xm
 rcases h with ⟨e,a,b⟩ | rfl | rfl | rfl | rfl
 ·refine ⟨by lia,a,List.mem_append_left _ (List.mem_map.mpr ⟨t.2.toNat,List.mem_range.mpr (by lia),?_⟩)⟩
  rw [e,Int.toNat_natCast]
 all_goals
  refine ⟨Int.emod_nonneg _ (by decide),by (dsimp only; decide),List.mem_append_right _ ?_⟩
 ·have:(((m:Int) + 1) % 12).toNat=(m + 1) % 12:=by lia
  show ((((m:Int) + 1) % 12).toNat,(0:Int).toNat)∈_
  rw [this]; simp
 ·have:(((m:Int) + 1) % 12).toNat=(m + 1) % 12:=by lia
  show ((((m:Int) + 1) % 12).toNat,(1:Int).toNat)∈_
  rw [this]; simp
 ·have:(((m:Int) + 2) % 12).toNat=(m + 2) % 12:=by lia
  show ((((m:Int) + 2) % 12).toNat,(0:Int).toNat)∈_
  rw [this]; simp
 ·have:(((m:Int) + 2) % 12).toNat=(m + 2) % 12:=by lia
  show ((((m:Int) + 2) % 12).toNat,(100000000000000000000:Int).toNat)∈_
  rw [this]; simp
theorem Wa {w:World} {n:Int} {t u:T2} (ht:InP n t) (hu:InP n u) (e:Kb w (tk t)=Kb w (tk u)):t=u:=by
 have hN':∀ v:T2,0≤v.1→0≤v.2→Kb w (tk v)=hN v.1.toNat v.2.toNat:=fun v h1 h2=>by
  show reduceHash (Builtin.Tuple.tupleHashOf [hashInt v.1,hashInt v.2])=reduceHash (Builtin.Tuple.tupleHashOf [hashInt (v.1.toNat:Int),hashInt (v.2.toNat:Int)])
  rw [Int.toNat_of_nonneg h1,Int.toNat_of_nonneg h2]
 obtain ⟨a1,a2,a3⟩:=ht.pool
 obtain ⟨b1,b2,b3⟩:=hu.pool
 rw [hN' t a1 a2,hN' u b1 b2] at e
 have nd:=Rz (List.all_eq_true.mp Xl n.toNat (List.mem_range.mpr (by have:=ht.1; have:=ht.2.1; lia)))
 have:=E3 (f:=fun p:Nat×Nat=>hN p.1 p.2) nd a3 b3 e
 have e1:=congrArg Prod.fst this
 have e2:=congrArg Prod.snd this
 simp only at e1 e2
 exact Prod.ext (by lia) (by lia)
theorem Rt {w:World} {n:Int}:∀ {ts:List T2},ts.Nodup→(∀ t∈ts,InP n t)→(ts.map fun t=>Kb w (tk t)).Nodup
 | [],_,_=>List.nodup_nil
 | t :: ts,nd,hr=>by
   have nd:=List.nodup_cons.mp nd
   refine List.nodup_cons.mpr ⟨fun m=>?_,Rt nd.2 fun u hu=>hr u (List.mem_cons_of_mem _ hu)⟩
   obtain ⟨u,hu,e⟩:=List.mem_map.mp m
   exact nd.1 ((Wa (hr t (List.mem_cons_self ..)) (hr u (List.mem_cons_of_mem _ hu)) e.symm) ▸ hu)
theorem Nm {w:World} {n:Int} {l:List T2} (nd:l.Nodup) (hr:∀ t∈l,InP n t):((l.map fun q=>(tk q,V.bl true)).map fun q=>Kb w q.1).Nodup:=by
 rw [List.map_map]
 exact Rt nd hr
end FX
namespace K16
open PySem L2 FX
def top (i:Nat):Stmt:=PySem.Challenge.pw_farhold_k16_whole_house.main.body.getD i (.Pass ⟨0,0,0,0⟩)
abbrev L8:Stmt:=inClass (top 12) 0
abbrev Lz:Stmt:=inClass (top 12) 1
abbrev L9:Stmt:=inClass (top 12) 2
abbrev Mb:Stmt:=inClass (top 12) 3
abbrev Lx:Stmt:=inClass (top 12) 4
abbrev Ma:Stmt:=inClass (top 12) 5
abbrev Ly:Stmt:=inClass (top 12) 6
abbrev Md:Stmt:=inClass (top 12) 7
abbrev Iz:Stmt:=inClass (top 12) 8
abbrev Iw:Stmt:=inClass (top 12) 9
abbrev Gf:Stmt:=inClass (top 12) 10
abbrev K0:Stmt:=inClass (top 12) 13
abbrev Hh:Stmt:=inClass (top 12) 14
abbrev Jl:Stmt:=inClass (top 12) 15
abbrev E9:Stmt:=inClass (top 12) 16
abbrev Dv:Stmt:=inClass (top 12) 18
abbrev Ey:Stmt:=inClass (top 12) 19
abbrev Ej:Stmt:=inClass (top 12) 20
abbrev Hi:Stmt:=inClass (top 12) 21
abbrev Jn:Stmt:=inClass (top 12) 22
abbrev Mc:Stmt:=top 14
abbrev Ei:Stmt:=top 10
abbrev D0:Stmt:=top 8
abbrev Iq:Stmt:=top 15
abbrev Fa:Stmt:=top 16
abbrev Ir:Stmt:=top 17
abbrev Iv:Stmt:=top 18
abbrev Gk:Stmt:=top 19
abbrev Hg:Stmt:=top 20
abbrev Ez:Stmt:=top 21
abbrev Hk:Stmt:=top 22
abbrev Iu:Stmt:=top 23
abbrev Fn:Stmt:=top 24
abbrev E1:Stmt:=top 25
abbrev Fb:Stmt:=top 26
abbrev Hj:Stmt:=top 27
abbrev Dw:Stmt:=top 28
abbrev Qv:Stmt:=top 29
abbrev Fd:Stmt:=top 30
abbrev Qu:Stmt:=top 31
abbrev Gj:Stmt:=top 32
abbrev Fc:Stmt:=top 33
abbrev K8:Stmt:=top 34
abbrev Iy:Stmt:=inClass (top 12) 11
abbrev So:Stmt:=inClass (top 12) 12
abbrev Hl:Stmt:=inClass (top 12) 23
abbrev Jm:Stmt:=inClass (top 12) 24
structure Txt (K:W.Frag) (mg:Str→Option Value) (C NHd NNr MI NW:Addr):Prop where
 cl:Cls K C
 nN:NoAttr K C "number"
 nM:NoAttr K C "made"
 nT:NoAttr K C "ticks"
 nH:NoAttr K C "hand"
 nO:NoAttr K C "outs"
 nL:NoAttr K C "holds"
 nR:NoAttr K C "records"
 mgC:mg "House"=some (.ref C)
 cNHd:R8 K mg "NotHeld" NHd
 cNNr:R8 K mg "NotNear" NNr
 cMI:R8 K mg "Missing" MI
 cNW:R8 K mg "NoWeight" NW
 len:mg "len"=none
 range:mg "range"=none
 tuple:mg "tuple"=none
 sorted:mg "sorted"=none
 isi:mg "isinstance"=none
def Pr (C:Addr):Sp:=fun vs H Q _=>∃ (p t:Addr) (G:HGh) (th:T2),vs=[.ref p,.ref t]∧HouseAt C H p G∧H t=some (.tup (tv th))∧Q (.bl (decide (th.1=G.num))) H
def Jj (C NHd:Addr):Sp:=fun vs H Q E=>∃ (p t:Addr) (G:HGh) (th:T2),vs=[.ref p,.ref t]∧HouseAt C H p G∧H t=some (.tup (tv th))∧((th∈G.hand∧Q .non H)∨(th∉G.hand∧E (.ref NHd) none H))
def Pq (C NNr:Addr):Sp:=fun vs H Q E=>∃ (p t:Addr) (G:HGh) (th:T2),vs=[.ref p,.ref t]∧HouseAt C H p G∧H t=some (.tup (tv th))∧((th.1=G.num∧Q .non H)∨(th.1≠G.num∧E (.ref NNr) none H))
def Kg (G:HGh) (ta tb:T2) (good:Addr→List T2→Prop) (nh nn mi:Prop):Prop :=
 (ta∉G.hand∧nh)∨(ta∈G.hand∧ta.1≠G.num∧nn)∨(ta∈G.hand∧ta.1=G.num∧∃ (a:Addr) (hl:List T2),G.holds.find? (fun q=>decide (q.1=ta))=some (ta,a,hl)∧((tb∉hl∧mi)∨(tb∈hl∧good a hl)))
def Lp (C NHd NNr MI:Addr):Sp:=fun vs H Q E=>∃ (p a b:Addr) (G:HGh) (ta tb:T2),vs=[.ref p,.ref a,.ref b]∧HouseAt C H p G∧H a=some (.tup (tv ta))∧H b=some (.tup (tv tb)) ∧
 Kg G ta tb (fun _ _=>Q .non H) (E (.ref NHd) none H) (E (.ref NNr) none H) (E (.ref MI) none H)
section
variable {P:Program} {w:World} {K:W.Frag} {mg:Str→Option Value} {base:Heap} {C NHd NNr MI NW:Addr}
theorem scN:Ay ["self","thing"] ["self","thing"] (Af E9):={}
theorem Px {f:Addr} {fd:FuncData} (F:Fun K "is_near" "House.is_near" E9 f fd) (T:Txt K mg C NHd NNr MI NW):FnOk P w K mg base CX0 1 f fd ["self","thing"] (Pr C):=by
 refine F.ok scN (fun vs H Q E h=>?_) (fun cdv A outer s H vs Q E hr h=>?_)
 ·obtain ⟨p,t,G,th,rfl,_⟩:=h
  rfl
 ·obtain ⟨p,t,G,th,rfl,S,ht,k⟩:=h
  obtain ⟨dx,hp⟩:=S.ob
  refine ⟨_,Ah (Au (Jb3 (Jb6 (Bm Bg (pv 1) Ai) (A7 (pv 0) rfl)))),?_⟩
  exact ⟨_,rfl,⟨t,_,0,_,rfl,rfl,SqT.of ht,rfl,_,rfl,p,C,dx,_,_,rfl,hp,T.cl,T.nN,O2 G,_,_,rfl,rfl,k⟩⟩
theorem Kc {H:Hp} {d t:Addr} {l:List T2} {th:T2} (hd:H d=some (Bi l)) (ht:H t=some (.tup (tv th))):DGet H d (.ref t) (if th∈l then some (V.bl true) else none):=by
 have:=DGet.t (k:=tk th) hd ht
 rw [Ib] at this
 exact this
theorem Je0:Ay ["self","thing"] ["self","thing"] (Af Dv):={}
theorem Jw {f:Addr} {fd:FuncData} (F:Fun K "need_in_hand" "House.need_in_hand" Dv f fd) (T:Txt K mg C NHd NNr MI NW):FnOk P w K mg base (CX1 P w) 1 f fd ["self","thing"] (Jj C NHd):=by
 refine ok1 F Je0 (fun vs H Q E h=>?_) (fun cdv A outer s H vs Q E hr h=>?_)
 ·obtain ⟨p,t,G,th,rfl,_⟩:=h
  rfl
 ·obtain ⟨p,t,G,th,rfl,S,ht,k⟩:=h
  have hu:=Bv hr
  obtain ⟨dx,hp⟩:=S.ob
  refine ⟨_,Ah (A5 (Dl (Fy hu (pv 1) (A7 (pv 0) rfl))) (Ah (Js rfl rfl T.cNHd Jp)) Aq),?_⟩
  refine ⟨_,rfl,_,rfl,p,C,dx,_,_,rfl,hp,T.cl,T.nH,Et G,G.h,_,rfl,Kc S.dh ht,_,rfl,?_⟩
  rcases k with ⟨h,k⟩ | ⟨h,k⟩
  ·rw [if_pos h]; exact Be k
  ·rw [if_neg h]; exact Bk k
end
structure Mth (K:W.Frag) (C:Addr) (x qual:Str) (st:Stmt) (ps:List Str) (f:Addr) (fd:FuncData):Prop where
 fn:Fun K x qual st f fd
 bd:Binds K fd ps []
 mt:Y8 K C x f
section
variable {P:Program} {w:World} {K:W.Frag} {mg:Str→Option Value} {base:Heap} {C NHd NNr MI NW:Addr}
theorem Jez:Ay ["self","thing"] ["self","thing"] (Af Ey):={}
theorem Q5 {f f1:Addr} {fd fd1:FuncData} (F:Fun K "need_near" "House.need_near" Ey f fd) (T:Txt K mg C NHd NNr MI NW) (M1:Mth K C "is_near" "House.is_near" E9 ["self","thing"] f1 fd1):FnOk P w K mg base (CX1 P w) 2 f fd ["self","thing"] (Pq C NNr):=by
 have G1:FnOk P w K mg base (CX1 P w) 1 f1 fd1 ["self","thing"] (Pr C):=FX.FnOk.to1 (Px M1.fn T)
 refine ok1 F Jez (fun vs H Q E h=>?_) (fun cdv A outer s H vs Q E hr h=>?_)
 ·obtain ⟨p,t,G,th,rfl,_⟩:=h
  rfl
 ·obtain ⟨p,t,G,th,rfl,S,ht,k⟩:=h
  have hu:=Bv hr
  obtain ⟨dx,hp⟩:=S.ob
  refine ⟨_,Ah (A5 (Jbz (Gn (Bo (pl:=_) (pv 0) T.cl M1.mt G1 hr M1.bd .nil Cs (Aa (pv 1) Ag)))) (Ah (Js rfl rfl T.cNNr Jp)) Aq),?_⟩
  refine ⟨_,rfl,p,dx,_,rfl,hp,Bz G (by decide +kernel),_,rfl,p,t,G,th,rfl,S,ht,_,rfl,?_⟩
  rcases k with ⟨h,k⟩ | ⟨h,k⟩
  ·rw [decide_eq_true h]; exact Be k
  ·rw [decide_eq_false h]; exact Bk k
theorem Jdj:Ay ["self","a","b"] ["self","a","b"] (Af Ej):={}
theorem Kt {H:Hp} {p t:Addr} {G:HGh} {th:T2} {a:Addr} {hl:List T2} (S:HouseAt C H p G) (ht:H t=some (.tup (tv th))) (f:G.holds.find? (fun q=>decide (q.1=th))=some (th,a,hl)):DGet H G.l (.ref t) (some (V.ref a))∧H a=some (Bi hl)∧(th,a,hl)∈G.holds:=by
 have:=DGet.t (k:=tk th) S.dl ht
 rw [Ct (k:=fun q:T2×Addr×List T2=>q.1) (f:=fun q=>V.ref q.2.1),f] at this
 exact ⟨this,S.hl _ (List.mem_of_find?_eq_some f),List.mem_of_find?_eq_some f⟩
theorem Ou {f f1 f2 f3:Addr} {fd fd1 fd2 fd3:FuncData} (F:Fun K "need_holding" "House.need_holding" Ej f fd) (T:Txt K mg C NHd NNr MI NW) (M1:Mth K C "is_near" "House.is_near" E9 ["self","thing"] f1 fd1)
 (M2:Mth K C "need_in_hand" "House.need_in_hand" Dv ["self","thing"] f2 fd2) (M3:Mth K C "need_near" "House.need_near" Ey ["self","thing"] f3 fd3):FnOk P w K mg base (CX1 P w) 3 f fd ["self","a","b"] (Lp C NHd NNr MI):=by
 have G2:FnOk P w K mg base (CX1 P w) 1 f2 fd2 ["self","thing"] (Jj C NHd):=Jw M2.fn T
 have G3:FnOk P w K mg base (CX1 P w) 2 f3 fd3 ["self","thing"] (Pq C NNr):=Q5 M3.fn T M1
 refine ok1 F Jdj (fun vs H Q E h=>?_) (fun cdv A outer s H vs Q E hr h=>?_)
 ·obtain ⟨p,a,b,G,ta,tb,rfl,_⟩:=h
  rfl
 ·obtain ⟨p,a,b,G,ta,tb,rfl,S,ha,hb,k⟩:=h
  have hu:=Bv hr
  have hr1:Room 1 _:=hr.mono (by decide)
  obtain ⟨dx,hp⟩:=S.ob
  refine ⟨_,Ad (Ba (Bo (pl:=_) (pv 0) T.cl M2.mt G2 hr1 M2.bd .nil Cs (Aa (pv 1) Ag))) (Ad (Ba (Bo (pl:=_) (pv 0) T.cl M3.mt G3 hr M3.bd .nil Cs (Aa (pv 1) Ag)))
   (Ah (A5 (Dl (Fy hu (pv 2) (Al hu (A7 (pv 0) rfl) (pv 1)))) (Ah (Js rfl rfl T.cMI Jp)) Aq))),?_⟩
  refine ⟨_,rfl,p,dx,_,rfl,hp,Bz G (by decide +kernel),_,rfl,p,a,G,ta,rfl,S,ha,?_⟩
  rcases k with ⟨h,k⟩ | ⟨h,h2,k⟩ | ⟨h,h2,ad,hl,fnd,k⟩
  ·exact .inr ⟨h,k⟩
  ·refine .inl ⟨h,_,rfl,p,dx,_,rfl,hp,Bz G (by decide +kernel),_,rfl,p,a,G,ta,rfl,S,ha,.inr ⟨h2,k⟩⟩
  ·obtain ⟨g1,g2,g3⟩:=Kt S ha fnd
   refine .inl ⟨h,_,rfl,p,dx,_,rfl,hp,Bz G (by decide +kernel),_,rfl,p,a,G,ta,rfl,S,ha,.inl ⟨h2,?_⟩⟩
   refine ⟨_,rfl,_,rfl,p,C,dx,_,_,rfl,hp,T.cl,T.nL,C7 G,_,rfl,G.l,_,rfl,g1,ad,_,rfl,Kc g2 hb,_,rfl,?_⟩
   rcases k with ⟨h3,k⟩ | ⟨h3,k⟩
   ·rw [if_neg h3]; exact Bk k
   ·rw [if_pos h3]; exact Be k
def Done (C:Addr) (p:Addr) (G:HGh) (H:Hp) (G':HGh) (k:Hp→Prop):Prop:=∀ H',HouseAt C H' p G'→HFr p G H H'→k H'
def W1 (C NHd NNr:Addr):Sp:=fun vs H Q E=>∃ (p a b:Addr) (G:HGh) (ta tb:T2),vs=[.ref p,.ref a,.ref b]∧HouseAt C H p G∧H a=some (.tup (tv ta))∧H b=some (.tup (tv tb)) ∧
 ((¬ (ta∈G.hand∧tb∈G.hand)∧E (.ref NHd) none H)∨(ta∈G.hand∧tb∈G.hand∧ta.1≠G.num∧E (.ref NNr) none H) ∨
  (ta∈G.hand∧tb∈G.hand∧ta.1=G.num∧∃ (ad:Addr) (hl:List T2),G.holds.find? (fun q=>decide (q.1=ta))=some (ta,ad,hl)∧hl.length≤500 ∧
   Done C p G H { G with ticks:=G.ticks + 1,holds:=Eb G.holds ad (Bf hl tb) } (Q .non)))
def W4 (C NHd NNr MI:Addr):Sp:=fun vs H Q E=>∃ (p a b:Addr) (G:HGh) (ta tb:T2),vs=[.ref p,.ref a,.ref b]∧HouseAt C H p G∧H a=some (.tup (tv ta))∧H b=some (.tup (tv tb)) ∧
 Kg G ta tb (fun ad hl=>Done C p G H { G with ticks:=G.ticks + 1,holds:=Eb G.holds ad (Dr hl tb) } (Q .non)) (E (.ref NHd) none H) (E (.ref NNr) none H) (E (.ref MI) none H)
def Ww (C NHd NNr MI:Addr):Sp:=fun vs H Q E=>∃ (p a b:Addr) (G:HGh) (ta tb:T2),vs=[.ref p,.ref a,.ref b]∧HouseAt C H p G∧H a=some (.tup (tv ta))∧H b=some (.tup (tv tb))∧G.hand.length≤500 ∧
 Kg G ta tb (fun _ _=>Done C p G H { G with ticks:=G.ticks + 1,hand:=Bf G.hand tb } (Q .non)) (E (.ref NHd) none H) (E (.ref NNr) none H) (E (.ref MI) none H)
def W2 (C NHd:Addr):Sp:=fun vs H Q E=>∃ (p b:Addr) (G:HGh) (tb:T2),vs=[.ref p,.ref b]∧HouseAt C H p G∧H b=some (.tup (tv tb)) ∧
 ((tb∉G.hand∧E (.ref NHd) none H)∨(tb∈G.hand∧Done C p G H { G with ticks:=G.ticks + 1,hand:=Dr G.hand tb } (Q .non)))
theorem Du {p d:Addr} {G G1:HGh} {H H1:Hp} {o:HO} {dx:Addr} {k:Hp→Prop} (hd:d∈Am G) (hf:Am G1=Am G) (e:H1=upd H d o) (S1:HouseAt C H1 p G1) (D:Done C p G H { G1 with ticks:=G1.ticks + 1 } k) :
 k (upd H1 p (.ins C dx (Bx { G1 with ticks:=G1.ticks + 1 }))):=by
 refine D _ (S1.fld dx G1.made (G1.ticks + 1)) fun b o' e1 h1 h2=>?_
 rw [Ac h1,e,Ac (fun z=>h2 (by rw [z]; exact hd))]
 exact e1
theorem scH:Ay ["self","a","b"] ["self","a","b"] (Af L9):={}
theorem O6 {G:HGh} {q:T2×Addr×List T2} (h:q∈G.holds):q.2.1∈Am G:=by
 unfold Am
 exact List.mem_cons_of_mem _ (List.mem_cons_of_mem _ (List.mem_cons_of_mem _ (List.mem_cons_of_mem _ (List.mem_map_of_mem h))))
theorem Z3 {f f1 f2 f3:Addr} {fd fd1 fd2 fd3:FuncData} (F:Fun K "hold" "House.hold" L9 f fd) (T:Txt K mg C NHd NNr MI NW) (M1:Mth K C "is_near" "House.is_near" E9 ["self","thing"] f1 fd1)
 (M2:Mth K C "need_in_hand" "House.need_in_hand" Dv ["self","thing"] f2 fd2) (M3:Mth K C "need_near" "House.need_near" Ey ["self","thing"] f3 fd3):FnOk P w K mg base (CX1 P w) 3 f fd ["self","a","b"] (W1 C NHd NNr):=by
 have G2:FnOk P w K mg base (CX1 P w) 1 f2 fd2 ["self","thing"] (Jj C NHd):=Jw M2.fn T
 have G3:FnOk P w K mg base (CX1 P w) 2 f3 fd3 ["self","thing"] (Pq C NNr):=Q5 M3.fn T M1
 refine ok1 F scH (fun vs H Q E h=>?_) (fun cdv A outer s H vs Q E hr h=>?_)
 ·obtain ⟨p,a,b,G,ta,tb,rfl,_⟩:=h
  rfl
 ·obtain ⟨p,a,b,G,ta,tb,rfl,S,ha,hb,k⟩:=h
  have hu:=Bv hr
  have hr1:Room 1 _:=hr.mono (by decide)
  obtain ⟨dx,hp⟩:=S.ob
  refine ⟨_,Ad (Ba (Bo (pl:=_) (pv 0) T.cl M2.mt G2 hr1 M2.bd .nil Cs (Aa (pv 1) Ag))) (Ad (Ba (Bo (pl:=_) (pv 0) T.cl M2.mt G2 hr1 M2.bd .nil Cs (Aa (pv 2) Ag))) (Ad (Ba (Bo (pl:=_) (pv 0) T.cl M3.mt G3 hr M3.bd .nil Cs (Aa (pv 1) Ag)))
   (Ad (B9 hu (Al hu (A7 (pv 0) rfl) (pv 1)) (pv 2) K1 rfl) (Ah (Ca (pv 0) Ai C2))))),?_⟩
  refine ⟨_,rfl,p,dx,_,rfl,hp,Bz G (by decide +kernel),_,rfl,p,a,G,ta,rfl,S,ha,?_⟩
  by_cases h1:ta∈G.hand
  ·refine .inl ⟨h1,_,rfl,p,dx,_,rfl,hp,Bz G (by decide +kernel),_,rfl,p,b,G,tb,rfl,S,hb,?_⟩
   by_cases h2:tb∈G.hand
   ·refine .inl ⟨h2,_,rfl,p,dx,_,rfl,hp,Bz G (by decide +kernel),_,rfl,p,a,G,ta,rfl,S,ha,?_⟩
    rcases k with ⟨h,k⟩ | ⟨_,_,h,k⟩ | ⟨_,_,h,ad,hl,fnd,z,k⟩
    ·exact absurd ⟨h1,h2⟩ h
    ·exact .inr ⟨h,k⟩
    ·obtain ⟨g1,g2,g3⟩:=Kt S ha fnd
     refine .inl ⟨h,_,rfl,p,C,dx,_,_,rfl,hp,T.cl,T.nL,C7 G,_,rfl,G.l,_,rfl,g1,_,rfl,ad,_,rfl,DPut.t (k:=tk tb) g2 hb (by rw [List.length_map]; exact A0 (by omega)),?_⟩
     rw [Eu]
     have S1:HouseAt C (upd H ad (Bi (Bf hl tb))) p { G with holds:=Eb G.holds ad (Bf hl tb) }:=S.setHold g3 (Bf hl tb)
     obtain ⟨dx1,hp1⟩:=S1.ob
     refine ⟨_,rfl,p,C,dx1,_,_,rfl,hp1,T.cl,T.nT,B5 _,_,_,rfl,rfl,dx1,_,hp1,Cy _,?_⟩
     rw [Bh]
     exact Du (G1:={ G with holds:=Eb G.holds ad (Bf hl tb) }) (O6 g3) (by unfold Am; rw [Jk]) rfl S1 k
   ·rcases k with ⟨h,k⟩ | ⟨_,h,_⟩ | ⟨_,h,_⟩
    ·exact .inr ⟨h2,k⟩
    ·exact absurd h h2
    ·exact absurd h h2
  ·rcases k with ⟨h,k⟩ | ⟨h,_⟩ | ⟨h,_⟩
   ·exact .inr ⟨h1,k⟩
   ·exact absurd h h1
   ·exact absurd h h1
theorem scD:Ay ["self","a","b"] ["self","a","b"] (Af Mb):={}
theorem Z5 {f f1 f2 f3 f4:Addr} {fd fd1 fd2 fd3 fd4:FuncData} (F:Fun K "drop" "House.drop" Mb f fd) (T:Txt K mg C NHd NNr MI NW) (M1:Mth K C "is_near" "House.is_near" E9 ["self","thing"] f1 fd1)
 (M2:Mth K C "need_in_hand" "House.need_in_hand" Dv ["self","thing"] f2 fd2) (M3:Mth K C "need_near" "House.need_near" Ey ["self","thing"] f3 fd3) (M4:Mth K C "need_holding" "House.need_holding" Ej ["self","a","b"] f4 fd4) :
 FnOk P w K mg base (CX1 P w) 4 f fd ["self","a","b"] (W4 C NHd NNr MI):=by
 have G4:FnOk P w K mg base (CX1 P w) 3 f4 fd4 ["self","a","b"] (Lp C NHd NNr MI):=Ou M4.fn T M1 M2 M3
 refine ok1 F scD (fun vs H Q E h=>?_) (fun cdv A outer s H vs Q E hr h=>?_)
 ·obtain ⟨p,a,b,G,ta,tb,rfl,_⟩:=h
  rfl
 ·obtain ⟨p,a,b,G,ta,tb,rfl,S,ha,hb,k⟩:=h
  have hu:=Bv hr
  obtain ⟨dx,hp⟩:=S.ob
  refine ⟨_,Ad (Ba (Bo (pl:=_) (pv 0) T.cl M4.mt G4 hr M4.bd .nil Cs (Aa (pv 1) (Aa (pv 2) Ag))))
   (Ad (Ba (C4 hu (Al hu (A7 (pv 0) rfl) (pv 1)) (pv 2) ⟨rfl,rfl,rfl,rfl⟩)) (Ah (Ca (pv 0) Ai C2))),?_⟩
  refine ⟨_,rfl,p,dx,_,rfl,hp,Bz G (by decide +kernel),_,rfl,_,rfl,p,a,b,G,ta,tb,rfl,S,ha,hb,?_⟩
  rcases k with k | k | ⟨h1,h2,ad,hl,fnd,k⟩
  ·exact .inl k
  ·exact .inr (.inl k)
  ·refine .inr (.inr ⟨h1,h2,ad,hl,fnd,?_⟩)
   rcases k with k | ⟨h3,k⟩
   ·exact .inl k
   ·obtain ⟨g1,g2,g3⟩:=Kt S ha fnd
    refine .inr ⟨h3,_,rfl,p,C,dx,_,_,rfl,hp,T.cl,T.nL,C7 G,_,rfl,G.l,_,rfl,g1,ad,rfl,.inr ⟨_,.inl g2⟩,_,rfl,_,tk tb,_,b,g2,rfl,hb,(by rw [Ib,if_pos h3]),?_⟩
    rw [C8 (k:=fun q:T2=>q) (f:=fun _=>V.bl true)]
    have S1:HouseAt C (upd H ad (Bi (Dr hl tb))) p { G with holds:=Eb G.holds ad (Dr hl tb) }:=S.setHold g3 (Dr hl tb)
    obtain ⟨dx1,hp1⟩:=S1.ob
    refine ⟨_,rfl,p,C,dx1,_,_,rfl,hp1,T.cl,T.nT,B5 _,_,_,rfl,rfl,dx1,_,hp1,Cy _,?_⟩
    rw [Bh]
    exact Du (G1:={ G with holds:=Eb G.holds ad (Dr hl tb) }) (O6 g3) (by unfold Am; rw [Jk]) rfl S1 k
theorem Jex:Ay ["self","a","b"] ["self","a","b"] (Af Lx):={}
theorem Zy {f f1 f2 f3 f4:Addr} {fd fd1 fd2 fd3 fd4:FuncData} (F:Fun K "take" "House.take" Lx f fd) (T:Txt K mg C NHd NNr MI NW) (M1:Mth K C "is_near" "House.is_near" E9 ["self","thing"] f1 fd1)
 (M2:Mth K C "need_in_hand" "House.need_in_hand" Dv ["self","thing"] f2 fd2) (M3:Mth K C "need_near" "House.need_near" Ey ["self","thing"] f3 fd3) (M4:Mth K C "need_holding" "House.need_holding" Ej ["self","a","b"] f4 fd4) :
 FnOk P w K mg base (CX1 P w) 4 f fd ["self","a","b"] (Ww C NHd NNr MI):=by
 have G4:FnOk P w K mg base (CX1 P w) 3 f4 fd4 ["self","a","b"] (Lp C NHd NNr MI):=Ou M4.fn T M1 M2 M3
 refine ok1 F Jex (fun vs H Q E h=>?_) (fun cdv A outer s H vs Q E hr h=>?_)
 ·obtain ⟨p,a,b,G,ta,tb,rfl,_⟩:=h
  rfl
 ·obtain ⟨p,a,b,G,ta,tb,rfl,S,ha,hb,z,k⟩:=h
  have hu:=Bv hr
  obtain ⟨dx,hp⟩:=S.ob
  refine ⟨_,Ad (Ba (Bo (pl:=_) (pv 0) T.cl M4.mt G4 hr M4.bd .nil Cs (Aa (pv 1) (Aa (pv 2) Ag))))
   (Ad (B9 hu (A7 (pv 0) rfl) (pv 2) K1 rfl) (Ah (Ca (pv 0) Ai C2))),?_⟩
  refine ⟨_,rfl,p,dx,_,rfl,hp,Bz G (by decide +kernel),_,rfl,_,rfl,p,a,b,G,ta,tb,rfl,S,ha,hb,?_⟩
  rcases k with k | k | ⟨h1,h2,ad,hl,fnd,k⟩
  ·exact .inl k
  ·exact .inr (.inl k)
  ·refine .inr (.inr ⟨h1,h2,ad,hl,fnd,?_⟩)
   rcases k with k | ⟨h3,k⟩
   ·exact .inl k
   ·refine .inr ⟨h3,_,rfl,p,C,dx,_,_,rfl,hp,T.cl,T.nH,Et G,_,rfl,G.h,_,rfl,DPut.t (k:=tk tb) S.dh hb (by rw [List.length_map]; exact A0 (by omega)),?_⟩
    rw [Eu]
    have S1:HouseAt C (upd H G.h (Bi (Bf G.hand tb))) p { G with hand:=Bf G.hand tb }:=S.setHand (Bf G.hand tb)
    obtain ⟨dx1,hp1⟩:=S1.ob
    refine ⟨_,rfl,p,C,dx1,_,_,rfl,hp1,T.cl,T.nT,B5 _,_,_,rfl,rfl,dx1,_,hp1,Cy _,?_⟩
    rw [Bh]
    exact Du (G1:={ G with hand:=Bf G.hand tb }) (by simp [Am]) rfl rfl S1 k
theorem scF:Ay ["self","b"] ["self","b"] (Af Ma):={}
theorem Z4 {f f2:Addr} {fd fd2:FuncData} (F:Fun K "free" "House.free" Ma f fd) (T:Txt K mg C NHd NNr MI NW) (M2:Mth K C "need_in_hand" "House.need_in_hand" Dv ["self","thing"] f2 fd2) :
 FnOk P w K mg base (CX1 P w) 2 f fd ["self","b"] (W2 C NHd):=by
 have G2:FnOk P w K mg base (CX1 P w) 1 f2 fd2 ["self","thing"] (Jj C NHd):=Jw M2.fn T
 refine ok1 F scF (fun vs H Q E h=>?_) (fun cdv A outer s H vs Q E hr h=>?_)
 ·obtain ⟨p,b,G,tb,rfl,_⟩:=h
  rfl
 ·obtain ⟨p,b,G,tb,rfl,S,hb,k⟩:=h
  have hu:=Bv hr
  obtain ⟨dx,hp⟩:=S.ob
  refine ⟨_,Ad (Ba (Bo (pl:=_) (pv 0) T.cl M2.mt G2 hr M2.bd .nil Cs (Aa (pv 1) Ag)))
   (Ad (Ba (C4 hu (A7 (pv 0) rfl) (pv 1) ⟨rfl,rfl,rfl,rfl⟩)) (Ah (Ca (pv 0) Ai C2))),?_⟩
  refine ⟨_,rfl,p,dx,_,rfl,hp,Bz G (by decide +kernel),_,rfl,p,b,G,tb,rfl,S,hb,?_⟩
  rcases k with k | ⟨h,k⟩
  ·exact .inr k
  ·refine .inl ⟨h,_,rfl,p,C,dx,_,_,rfl,hp,T.cl,T.nH,Et G,G.h,rfl,.inr ⟨_,.inl S.dh⟩,_,rfl,_,tk tb,_,b,S.dh,rfl,hb,(by rw [Ib,if_pos h]),?_⟩
   rw [C8 (k:=fun q:T2=>q) (f:=fun _=>V.bl true)]
   have S1:HouseAt C (upd H G.h (Bi (Dr G.hand tb))) p { G with hand:=Dr G.hand tb }:=S.setHand (Dr G.hand tb)
   obtain ⟨dx1,hp1⟩:=S1.ob
   refine ⟨_,rfl,p,C,dx1,_,_,rfl,hp1,T.cl,T.nT,B5 _,_,_,rfl,rfl,dx1,_,hp1,Cy _,?_⟩
   rw [Bh]
   exact Du (G1:={ G with hand:=Dr G.hand tb }) (by simp [Am]) rfl rfl S1 k
def Gy (n:Int):Int:=if n=1 then 1 else n / 2
def Qp:Sp:=fun vs H Q _=>∃ n:Int,vs=[.int n]∧∀ p,H p=none→Q (.ref p) (upd H p (.tup [.int (n - Gy n),.int (Gy n)]))
theorem scP:Ay ["weight","goes"] ["weight"] (Af Ei):={}
theorem Vr {f:Addr} {fd:FuncData} (F:Fun K "parted" "parted" Ei f fd):FnOk P w K mg base CX0 1 f fd ["weight"] Qp:=by
 refine F.ok scP (fun vs H Q E h=>?_) (fun cdv A outer s H vs Q E hr h=>?_)
 ·obtain ⟨n,rfl,_⟩:=h
  rfl
 ·obtain ⟨n,rfl,k⟩:=h
  refine ⟨_,Ad (A5 (Ap By (pv 0) Ai (A4 _)) (Ah (Au (A6 (Aa Ai (Aa Ai Ag))))) Aq)
   (Ad (A3 (i:=1) scP.nd rfl (Or.inl rfl) (Aw C0 (pv 0) Ai))
   (Ah (Au (A6 (Aa (Aw Jb (pv 0) (pv 1)) (Aa (pv 1) Ag)))))),?_⟩
  refine ⟨_,rfl,rfl,_,rfl,?_⟩
  refine V3 (fun c1=>?_) (fun c1=>?_)
  ·have c1:n=1:=V.int.inj (of_decide_eq_true c1)
   subst c1
   exact ⟨show 2≤sizeLine by decide,fun p hp=>k p hp⟩
  ·have c1:¬ n=1:=fun z=>by rw [z] at c1; simp at c1
   refine ⟨_,rfl,_,_,rfl,rfl,⟨by decide,by decide⟩,?_⟩
   refine ⟨_,rfl,_,rfl,_,_,rfl,rfl,_,rfl,(show 2≤sizeLine by decide),fun p hp=>?_⟩
   have:=k p hp
   unfold Gy at this
   rw [if_neg c1] at this
   exact this
structure Gdf (K:W.Frag) (mg:Str→Option Value) (x:Str) (st:Stmt) (ps:List Str) (f:Addr) (fd:FuncData):Prop where
 fn:Fun K x x st f fd
 bd:Binds K fd ps []
 mg:mg x=some (.ref f)
def Tj (l:List (T2×Int)) (t:T2):Int:=((l.find? fun q=>decide (q.1=t)).map (·.2)).getD 0
def Tw (C NW:Addr):Sp:=fun vs H Q E=>∃ (p b:Addr) (G:HGh) (tb:T2) (wt:Int),vs=[.ref p,.ref b]∧HouseAt C H p G∧H b=some (.tup (tv tb))∧G.recs.find? (fun q=>decide (q.1=tb))=some (tb,wt)∧G.recs.length≤500 ∧
 ((wt=0∧E (.ref NW) none H)∨(wt≠0∧Done C p G H { G with recs:=Bc G.recs tb (wt - Gy wt) } (Q (.int (Gy wt)))))
theorem Es {H:Hp} {d t:Addr} {l:List (T2×Int)} {th:T2} (hd:H d=some (Bs l)) (ht:H t=some (.tup (tv th))):DGet H d (.ref t) ((l.find? fun q=>decide (q.1=th)).map fun q=>V.int q.2):=by
 have:=DGet.t (k:=tk th) hd ht
 rw [Ct (k:=fun q:T2×Int=>q.1) (f:=fun q=>V.int q.2)] at this
 exact this
theorem scPR:Ay ["self","b","weight","halves"] ["self","b"] (Af Hi):={}
theorem Xy {f fP:Addr} {fd fdP:FuncData} (F:Fun K "part_record" "House.part_record" Hi f fd) (T:Txt K mg C NHd NNr MI NW) (MP:Gdf K mg "parted" Ei ["weight"] fP fdP):FnOk P w K mg base (CX1 P w) 2 f fd ["self","b"] (Tw C NW):=by
 have GP:FnOk P w K mg base (CX1 P w) 1 fP fdP ["weight"] Qp:=FX.FnOk.to1 (Vr MP.fn)
 refine ok1 F scPR (fun vs H Q E h=>?_) (fun cdv A outer s H vs Q E hr h=>?_)
 ·obtain ⟨p,b,G,tb,wt,rfl,_⟩:=h
  rfl
 ·obtain ⟨p,b,G,tb,wt,rfl,S,hb,fnd,z,k⟩:=h
  have hu:=Bv hr
  obtain ⟨dx,hp⟩:=S.ob
  have g1:DGet H G.r (.ref b) (some (V.int wt)):=by
   have:=Es S.dr hb
   rw [fnd] at this; exact this
  refine ⟨_,Ad (A3 (i:=2) scPR.nd rfl (Or.inl rfl) (Al hu (A7 (pv 0) rfl) (pv 1)))
   (Ad (A5 (Ap By (pv 2) Ai (A4 _)) (Ah (Js rfl rfl T.cNW Jp)) Aq)
   (Ad (A3 (i:=3) scPR.nd rfl (Or.inl rfl) (Bn GP hr (by rfl) MP.mg MP.fn.kp MP.bd .nil Cs (Aa (pv 2) Ag)))
   (Ad (B9 hu (A7 (pv 0) rfl) (pv 1) (Bm Bg (pv 3) Ai) rfl)
   (Ah (Au (Bm Bg (pv 3) Ai)))))),?_⟩
  refine ⟨_,rfl,p,C,dx,_,_,rfl,hp,T.cl,T.nR,Ck G,_,rfl,G.r,_,rfl,g1,?_⟩
  refine ⟨_,rfl,rfl,_,rfl,?_⟩
  rcases k with ⟨h,k⟩ | ⟨h,k⟩
  ·rw [show decide (V.int wt=V.int 0)=true from decide_eq_true (by rw [h])]
   exact Bk k
  ·rw [show decide (V.int wt=V.int 0)=false from decide_eq_false fun e=>h (V.int.inj e)]
   refine Be ?_
   refine ⟨_,rfl,wt,rfl,fun t ht=>?_⟩
   have s1:=Ae (o:=.tup [V.int (wt - Gy wt),V.int (Gy wt)]) ht
   have S1:=S.same s1
   have t1:(upd H t (.tup [V.int (wt - Gy wt),V.int (Gy wt)])) t=some (.tup [V.int (wt - Gy wt),V.int (Gy wt)]):=Ab
   have b1:=s1 _ _ hb
   generalize upd H t (.tup [V.int (wt - Gy wt),V.int (Gy wt)])=H1 at s1 S1 t1 b1
   obtain ⟨dx1,hp1⟩:=S1.ob
   refine ⟨_,rfl,t,_,0,_,rfl,rfl,SqT.of t1,rfl,_,rfl,p,C,dx1,_,_,rfl,hp1,T.cl,T.nR,Ck G,_,rfl,G.r,_,rfl,DPut.t (k:=tk tb) S1.dr b1 (by rw [List.length_map]; exact A0 (by omega)),?_⟩
   rw [Cq]
   have S2:HouseAt C (upd H1 G.r (Bs (Bc G.recs tb (wt - Gy wt)))) p { G with recs:=Bc G.recs tb (wt - Gy wt) }:=S1.setRecs _
   have tr:t≠G.r:=fun e=>(S1.tup_ne t1).2 (by rw [e]; simp [Am])
   refine ⟨_,rfl,t,_,1,_,rfl,rfl,SqT.of (by rw [Ac tr]; exact t1),rfl,?_⟩
   refine k _ S2 fun b' o e h1 h2=>?_
   rw [Ac fun e'=>h2 (by rw [e']; simp [Am])]
   exact s1 _ _ e
def Sn (C:Addr):Sp:=fun vs H Q _=>∃ (p b:Addr) (G:HGh) (tb:T2) (wt:Int),vs=[.ref p,.ref b,.int wt]∧HouseAt C H p G∧H b=some (.tup (tv tb))∧G.recs.length≤500 ∧
 Done C p G H { G with recs:=Bc G.recs tb (Tj G.recs tb + wt) } (Q .non)
theorem Je7:Ay ["self","b","weight"] ["self","b","weight"] (Af Jn):={}
theorem Ul {f:Addr} {fd:FuncData} (F:Fun K "add_to_record" "House.add_to_record" Jn f fd) (T:Txt K mg C NHd NNr MI NW):FnOk P w K mg base CX0 1 f fd ["self","b","weight"] (Sn C):=by
 refine F.ok Je7 (fun vs H Q E h=>?_) (fun cdv A outer s H vs Q E hr h=>?_)
 ·obtain ⟨p,b,G,tb,wt,rfl,_⟩:=h
  rfl
 ·obtain ⟨p,b,G,tb,wt,rfl,S,hb,z,k⟩:=h
  have hu:=Bv hr
  obtain ⟨dx,hp⟩:=S.ob
  refine ⟨_,Ah (B9 hu (A7 (pv 0) rfl) (pv 1) (Aw Ce (Mn hu (A7 (pv 0) rfl) (pv 1) Ai ⟨rfl,rfl,rfl,rfl⟩) (pv 2)) rfl),?_⟩
  have ei:((G.recs.find? fun q=>decide (q.1=tb)).map fun q=>V.int q.2).getD (V.int 0)=V.int (Tj G.recs tb):=by
   unfold Tj
   cases G.recs.find? fun q=>decide (q.1=tb) <;> rfl
  refine ⟨_,rfl,p,C,dx,_,_,rfl,hp,T.cl,T.nR,Ck G,G.r,rfl,.inr ⟨_,.inl S.dr⟩,_,rfl,_,Es S.dr hb,?_⟩
  rw [ei]
  refine ⟨_,rfl,_,_,rfl,rfl,_,rfl,p,C,dx,_,_,rfl,hp,T.cl,T.nR,Ck G,_,rfl,G.r,_,rfl,DPut.t (k:=tk tb) S.dr hb (by rw [List.length_map]; exact A0 (by omega)),?_⟩
  rw [Cq]
  refine k _ (S.setRecs _) fun b' o e h1 h2=>?_
  rw [Ac fun e'=>h2 (by rw [e']; simp [Am])]
  exact e
def Uc (C:Addr):Sp:=fun vs H Q _=>∃ (p b:Addr) (G:HGh) (tb:T2) (wt:Int),vs=[.ref p,.ref b,.int wt]∧HouseAt C H p G∧H b=some (.tup (tv tb))∧G.recs.length≤500 ∧
 Done C p G H { G with ticks:=G.ticks + 1,recs:=Bc G.recs tb (Tj G.recs tb + wt) } (Q .non)
theorem Je6:Ay ["self","b","weight"] ["self","b","weight"] (Af Iz):={}
theorem X9 {f f5:Addr} {fd fd5:FuncData} (F:Fun K "added" "House.added" Iz f fd) (T:Txt K mg C NHd NNr MI NW) (M5:Mth K C "add_to_record" "House.add_to_record" Jn ["self","b","weight"] f5 fd5):FnOk P w K mg base CX0 2 f fd ["self","b","weight"] (Uc C):=by
 have G5:FnOk P w K mg base CX0 1 f5 fd5 ["self","b","weight"] (Sn C):=Ul M5.fn T
 refine F.ok Je6 (fun vs H Q E h=>?_) (fun cdv A outer s H vs Q E hr h=>?_)
 ·obtain ⟨p,b,G,tb,wt,rfl,_⟩:=h
  rfl
 ·obtain ⟨p,b,G,tb,wt,rfl,S,hb,z,k⟩:=h
  obtain ⟨dx,hp⟩:=S.ob
  refine ⟨_,Ad (Ba (Bo (pl:=_) (pv 0) T.cl M5.mt G5 hr M5.bd .nil Bu (Aa (pv 1) (Aa (pv 2) Ag)))) (Ah (Ca (pv 0) Ai C2)),?_⟩
  refine ⟨_,rfl,p,dx,_,rfl,hp,Bz G (by decide +kernel),_,rfl,_,rfl,p,b,G,tb,wt,rfl,S,hb,z,fun H1 S1 fr1=>?_⟩
  obtain ⟨dx1,hp1⟩:=S1.ob
  refine ⟨_,rfl,p,C,dx1,_,_,rfl,hp1,T.cl,T.nT,B5 _,_,_,rfl,rfl,dx1,_,hp1,Cy _,?_⟩
  rw [Bh]
  exact k _ (S1.fld dx1 G.made (G.ticks + 1)) fun b' o e h1 h2=>by rw [Ac h1]; exact fr1 _ _ e h1 h2
def W6 (C:Addr):Sp:=fun vs H Q _=>∃ (p b:Addr) (G:HGh) (tb:T2) (wt:Int),vs=[.ref p,.ref b,.int wt]∧HouseAt C H p G∧H b=some (.tup (tv tb))∧G.hand.length≤500∧G.outs.length≤500∧G.recs.length≤500 ∧
 ((tb.1=G.num∧∃ o,G.outs.find? (fun q=>decide (q.1=tb))=some (tb,o)∧Done C p G H { G with ticks:=G.ticks + 1,hand:=Bf G.hand tb,outs:=Bc G.outs tb (o - wt) } (Q .non)) ∨
  (tb.1≠G.num∧Done C p G H { G with ticks:=G.ticks + 1,hand:=Bf G.hand tb,recs:=Bc G.recs tb (Tj G.recs tb + wt) } (Q .non)))
theorem scC:Ay ["self","b","weight"] ["self","b","weight"] (Af Md):={}
theorem Z8 {f f1 f5:Addr} {fd fd1 fd5:FuncData} (F:Fun K "came" "House.came" Md f fd) (T:Txt K mg C NHd NNr MI NW) (M1:Mth K C "is_near" "House.is_near" E9 ["self","thing"] f1 fd1) (M5:Mth K C "add_to_record" "House.add_to_record" Jn ["self","b","weight"] f5 fd5) :
 FnOk P w K mg base CX0 2 f fd ["self","b","weight"] (W6 C):=by
 have G1:FnOk P w K mg base CX0 1 f1 fd1 ["self","thing"] (Pr C):=Px M1.fn T
 have G5:FnOk P w K mg base CX0 1 f5 fd5 ["self","b","weight"] (Sn C):=Ul M5.fn T
 refine F.ok scC (fun vs H Q E h=>?_) (fun cdv A outer s H vs Q E hr h=>?_)
 ·obtain ⟨p,b,G,tb,wt,rfl,_⟩:=h
  rfl
 ·obtain ⟨p,b,G,tb,wt,rfl,S,hb,z1,z2,z3,k⟩:=h
  have hu:=Bv hr
  obtain ⟨dx,hp⟩:=S.ob
  refine ⟨_,Ad (B9 hu (A7 (pv 0) rfl) (pv 1) K1 rfl)
   (Ad (A5 (Gn (Bo (pl:=_) (pv 0) T.cl M1.mt G1 hr M1.bd .nil Bu (Aa (pv 1) Ag))) (Ah (Jt hu (A7 (pv 0) rfl) (pv 1) (pv 2) Yn (fun _ _ _=>rfl)))
    (Ah (Ba (Bo (pl:=_) (pv 0) T.cl M5.mt G5 hr M5.bd .nil Bu (Aa (pv 1) (Aa (pv 2) Ag))))))
   (Ah (Ca (pv 0) Ai C2))),?_⟩
  refine ⟨_,rfl,p,C,dx,_,_,rfl,hp,T.cl,T.nH,Et G,_,rfl,G.h,_,rfl,DPut.t (k:=tk tb) S.dh hb (by rw [List.length_map]; exact A0 (by omega)),?_⟩
  rw [Eu]
  have S1:HouseAt C (upd H G.h (Bi (Bf G.hand tb))) p { G with hand:=Bf G.hand tb }:=S.setHand (Bf G.hand tb)
  have fr1:HFr p G H (upd H G.h (Bi (Bf G.hand tb))):=fun b' o e h1 h2=>by rw [Ac fun e'=>h2 (by rw [e']; simp [Am])]; exact e
  have b1:=fr1 _ _ hb (S.tup_ne hb).1 (S.tup_ne hb).2
  rw [show (HO.dT ((Bf G.hand tb).map fun q=>(tk q,V.bl true)))=Bi (Bf G.hand tb) from rfl]
  generalize (upd H G.h (Bi (Bf G.hand tb)))=H1 at S1 fr1 b1
  obtain ⟨dx1,hp1⟩:=S1.ob
  refine ⟨_,rfl,p,dx1,_,rfl,hp1,Bz _ (by decide +kernel),_,rfl,p,b,_,tb,rfl,S1,b1,_,rfl,?_⟩
  rcases k with ⟨h,o,fnd,k⟩ | ⟨h,k⟩
  ·rw [show decide (tb.1=({ G with hand:=Bf G.hand tb }:HGh).num)=true from decide_eq_true h]
   refine Bk ?_
   have g1:DGet H1 G.o (.ref b) (some (V.int o)):=by
    have:=Es S1.dO b1
    rw [show ({ G with hand:=Bf G.hand tb }:HGh).outs=G.outs from rfl,fnd] at this
    exact this
   refine ⟨_,rfl,p,C,dx1,_,_,rfl,hp1,T.cl,T.nO,Cg _,_,rfl,G.o,_,rfl,g1,_,rfl,_,_,rfl,rfl,_,DPut.t (k:=tk tb) S1.dO b1 (by rw [List.length_map]; exact A0 (by show G.outs.length≤1000; omega)),?_⟩
   rw [Cq]
   have S2:=S1.setOuts (Bc G.outs tb (o - wt))
   have fr2:HFr p G H (upd H1 G.o (Bs (Bc G.outs tb (o - wt)))):=fun b' o' e h1 h2=>by rw [Ac fun e'=>h2 (by rw [e']; simp [Am])]; exact fr1 _ _ e h1 h2
   obtain ⟨dx2,hp2⟩:=S2.ob
   refine ⟨_,rfl,p,C,dx2,_,_,rfl,hp2,T.cl,T.nT,B5 _,_,_,rfl,rfl,dx2,_,hp2,Cy _,?_⟩
   rw [Bh]
   exact k _ (S2.fld dx2 G.made (G.ticks + 1)) fun b' o e h1 h2=>by rw [Ac h1]; exact fr2 _ _ e h1 h2
  ·rw [show decide (tb.1=({ G with hand:=Bf G.hand tb }:HGh).num)=false from decide_eq_false h]
   refine Be ?_
   refine ⟨_,rfl,p,dx1,_,rfl,hp1,Bz _ (by decide +kernel),_,rfl,_,rfl,p,b,_,tb,wt,rfl,S1,b1,z3,fun H2 S2 fr2=>?_⟩
   obtain ⟨dx2,hp2⟩:=S2.ob
   refine ⟨_,rfl,p,C,dx2,_,_,rfl,hp2,T.cl,T.nT,B5 _,_,_,rfl,rfl,dx2,_,hp2,Cy _,?_⟩
   rw [Bh]
   exact k _ (S2.fld dx2 G.made (G.ticks + 1)) fun b' o e h1 h2=>by rw [Ac h1]; exact fr2 _ _ (fr1 _ _ e h1 h2) h1 h2
def Wx (C NHd NW:Addr):Sp:=fun vs H Q E=>∃ (p b:Addr) (G:HGh) (tb:T2) (sh:Int),vs=[.ref p,.ref b,.int sh]∧HouseAt C H p G∧H b=some (.tup (tv tb))∧G.outs.length≤500∧G.recs.length≤500 ∧
 ((tb∉G.hand∧E (.ref NHd) none H) ∨
  (tb∈G.hand∧tb.1=G.num∧∃ o,G.outs.find? (fun q=>decide (q.1=tb))=some (tb,o)∧Done C p G H { G with ticks:=G.ticks + 1,outs:=Bc G.outs tb (o + sh) } (Q (.int sh))) ∨
  (tb∈G.hand∧tb.1≠G.num∧∃ wt,G.recs.find? (fun q=>decide (q.1=tb))=some (tb,wt)∧((wt=0∧E (.ref NW) none H)∨(wt≠0∧Done C p G H { G with ticks:=G.ticks + 1,recs:=Bc G.recs tb (wt - Gy wt) } (Q (.int (Gy wt)))))))
theorem scPa:Ay ["self","b","share","goes"] ["self","b","share"] (Af Ly):={}
theorem Zz {f f1 f2 f6 fP:Addr} {fd fd1 fd2 fd6 fdP:FuncData} (F:Fun K "part" "House.part" Ly f fd) (T:Txt K mg C NHd NNr MI NW) (M1:Mth K C "is_near" "House.is_near" E9 ["self","thing"] f1 fd1)
 (M2:Mth K C "need_in_hand" "House.need_in_hand" Dv ["self","thing"] f2 fd2) (M6:Mth K C "part_record" "House.part_record" Hi ["self","b"] f6 fd6) (MP:Gdf K mg "parted" Ei ["weight"] fP fdP) :
 FnOk P w K mg base (CX1 P w) 3 f fd ["self","b","share"] (Wx C NHd NW):=by
 have G1:FnOk P w K mg base (CX1 P w) 1 f1 fd1 ["self","thing"] (Pr C):=FX.FnOk.to1 (Px M1.fn T)
 have G2:FnOk P w K mg base (CX1 P w) 1 f2 fd2 ["self","thing"] (Jj C NHd):=Jw M2.fn T
 have G6:FnOk P w K mg base (CX1 P w) 2 f6 fd6 ["self","b"] (Tw C NW):=Xy M6.fn T MP
 refine ok1 F scPa (fun vs H Q E h=>?_) (fun cdv A outer s H vs Q E hr h=>?_)
 ·obtain ⟨p,b,G,tb,sh,rfl,_⟩:=h
  rfl
 ·obtain ⟨p,b,G,tb,sh,rfl,S,hb,z1,z2,k⟩:=h
  have hu:=Bv hr
  have hr1:Room 1 _:=hr.mono (by decide)
  obtain ⟨dx,hp⟩:=S.ob
  refine ⟨_,Ad (Ba (Bo (pl:=_) (pv 0) T.cl M2.mt G2 hr1 M2.bd .nil Cs (Aa (pv 1) Ag)))
   (Ad (A5 (Gn (Bo (pl:=_) (pv 0) T.cl M1.mt G1 hr1 M1.bd .nil Cs (Aa (pv 1) Ag)))
    (Ad (Jt hu (A7 (pv 0) rfl) (pv 1) (pv 2) C2 (fun _ _ _=>rfl)) (Ah (A3 (i:=3) scPa.nd rfl (Or.inl rfl) (pv 2))))
    (Ah (A3 (i:=3) scPa.nd rfl (Or.inl rfl) (Bo (pl:=_) (pv 0) T.cl M6.mt G6 hr M6.bd .nil Cs (Aa (pv 1) Ag)))))
   (Ad (Ca (pv 0) Ai C2) (Ah (Au (pv 3))))),?_⟩
  refine ⟨_,rfl,p,dx,_,rfl,hp,Bz G (by decide +kernel),_,rfl,p,b,G,tb,rfl,S,hb,?_⟩
  rcases k with k | ⟨h1,h2,o,fnd,k⟩ | ⟨h1,h2,wt,fnd,k⟩
  ·exact .inr k
  ·refine .inl ⟨h1,_,rfl,p,dx,_,rfl,hp,Bz G (by decide +kernel),_,rfl,p,b,G,tb,rfl,S,hb,_,rfl,?_⟩
   rw [decide_eq_true h2]
   refine Bk ?_
   have g1:DGet H G.o (.ref b) (some (V.int o)):=by
    have:=Es S.dO hb
    rw [fnd] at this; exact this
   refine ⟨_,rfl,p,C,dx,_,_,rfl,hp,T.cl,T.nO,Cg _,_,rfl,G.o,_,rfl,g1,_,rfl,_,_,rfl,rfl,_,DPut.t (k:=tk tb) S.dO hb (by rw [List.length_map]; exact A0 (by omega)),?_⟩
   rw [Cq]
   have S1:HouseAt C (upd H G.o (Bs (Bc G.outs tb (o + sh)))) p { G with outs:=Bc G.outs tb (o + sh) }:=S.setOuts _
   obtain ⟨dx1,hp1⟩:=S1.ob
   refine ⟨_,rfl,_,rfl,p,C,dx1,_,_,rfl,hp1,T.cl,T.nT,B5 _,_,_,rfl,rfl,dx1,_,hp1,Cy _,?_⟩
   rw [Bh]
   refine ⟨_,rfl,?_⟩
   exact Du (G1:={ G with outs:=Bc G.outs tb (o + sh) }) (by simp [Am]) rfl rfl S1 k
  ·refine .inl ⟨h1,_,rfl,p,dx,_,rfl,hp,Bz G (by decide +kernel),_,rfl,p,b,G,tb,rfl,S,hb,_,rfl,?_⟩
   rw [decide_eq_false h2]
   refine Be ?_
   refine ⟨_,rfl,p,dx,_,rfl,hp,Bz G (by decide +kernel),_,rfl,p,b,G,tb,wt,rfl,S,hb,fnd,z2,?_⟩
   rcases k with k | ⟨h3,k⟩
   ·exact .inl k
   ·refine .inr ⟨h3,fun H1 S1 fr1=>?_⟩
    obtain ⟨dx1,hp1⟩:=S1.ob
    refine ⟨_,rfl,p,C,dx1,_,_,rfl,hp1,T.cl,T.nT,B5 _,_,_,rfl,rfl,dx1,_,hp1,Cy _,?_⟩
    rw [Bh]
    exact ⟨_,rfl,k _ (S1.fld dx1 G.made (G.ticks + 1)) fun b' o e h1 h2=>by rw [Ac h1]; exact fr1 _ _ e h1 h2⟩
end
def W0 (C:Addr):Sp:=fun vs H Q _=>∃ (p dx:Addr) (n:Int),vs=[.ref p,.int n]∧H p=some (.ins C dx []) ∧
 ∀ (h o l r:Addr) (H':Hp),H h=none→H o=none→H l=none→H r=none→HouseAt C H' p ⟨n,0,0,h,o,l,r,[],[],[],[]⟩→(∀ b u,H b=some u→b≠p→H' b=some u)→Q .non H'
def Wy (C:Addr):Sp:=fun vs H Q _=>∃ (p:Addr) (G:HGh),vs=[.ref p]∧HouseAt C H p G∧G.hand.length≤500∧G.outs.length≤500∧G.holds.length≤500 ∧
 (∀ t∈G.hand,t≠(G.num,G.made))∧(∀ q∈G.outs,q.1≠(G.num,G.made))∧(∀ q∈G.holds,q.1≠(G.num,G.made)) ∧
 ∀ (t a:Addr) (H':Hp),H t=none→H a=none→H' t=some (.tup (tv (G.num,G.made))) →
  HouseAt C H' p { G with made:=G.made + 1,ticks:=G.ticks + 1,hand:=G.hand++[(G.num,G.made)],outs:=G.outs++[((G.num,G.made),0)],holds:=G.holds++[((G.num,G.made),a,[])] }→HFr p G H H'→Q (.ref t) H'
def Wv (C:Addr):Sp:=fun vs H Q _=>∃ (p:Addr) (G:HGh),vs=[.ref p]∧HouseAt C H p G∧Q (.int G.ticks) H
def Sk (C:Addr) (K:W.Frag):Sp:=fun vs H Q _=>∃ (p t:Addr) (G:HGh) (th:T2) (w:Int) (a:Addr) (hl hs:List T2),vs=[.ref p,.ref t]∧HouseAt C H p G∧H t=some (.tup (tv th)) ∧
 G.outs.find? (fun q=>decide (q.1=th))=some (th,w)∧G.holds.find? (fun q=>decide (q.1=th))=some (th,a,hl)∧hl.length < 64∧hs.Perm hl∧hs.Pairwise lt2 ∧
 ∀ (x:Addr) (H':Hp),B1 H H'→RepT K H' (.ref x) (Ik (th,w,hs))→Q (.ref x) H'
structure Rows (G:HGh) (os:List (T2×Int×List T2)):Prop where
 pm:(os.map (·.1)).Perm (G.outs.map (·.1))
 pw:(os.map (·.1)).Pairwise lt2
 at_:∀ q∈os,G.outs.find? (fun z=>decide (z.1=q.1))=some (q.1,q.2.1)∧∃ a hl,G.holds.find? (fun z=>decide (z.1=q.1))=some (q.1,a,hl)∧hl.length < 64∧q.2.2.Perm hl∧q.2.2.Pairwise lt2
def Tv (C:Addr) (K:W.Frag):Sp:=fun vs H Q _=>∃ (p:Addr) (G:HGh) (hs:List T2) (os:List (T2×Int×List T2)) (rs:List (T2×Int)),vs=[.ref p]∧HouseAt C H p G∧G.hand.length < 64∧G.outs.length < 64∧G.recs.length < 64 ∧
 hs.Perm G.hand∧hs.Pairwise lt2∧Rows G os∧rs.Perm G.recs∧(rs.map (·.1)).Pairwise lt2∧∀ (x:Addr) (H':Hp),B1 H H'→(∃ xs,H' x=some (.tup xs))→RepT K H' (.ref x) (stD hs os rs)→Q (.ref x) H'
section
variable {P:Program} {w:World} {K:W.Frag} {mg:Str→Option Value} {base:Heap} {C NHd NNr MI NW:Addr}
theorem scI:Ay ["self","number"] ["self","number"] (Af L8):={}
theorem Z2 {f:Addr} {fd:FuncData} (F:Fun K "__init__" "House.__init__" L8 f fd) (T:Txt K mg C NHd NNr MI NW):FnOk P w K mg base CX0 1 f fd ["self","number"] (W0 C):=by
 refine F.ok scI (fun vs H Q E h=>?_) (fun cdv A outer s H vs Q E hr h=>?_)
 ·obtain ⟨p,dx,n,rfl,_⟩:=h
  rfl
 ·obtain ⟨p,dx,n,rfl,hp,k⟩:=h
  refine ⟨_,Ad (Ja (pv 0) (pv 1) rfl) (Ad (Ja (pv 0) Ai rfl) (Ad (Ja (pv 0) Ai rfl) (Ad (Ja (pv 0) Dm rfl) (Ad (Ja (pv 0) Dm rfl) (Ad (Ja (pv 0) Dm rfl) (Ah (Ja (pv 0) Dm rfl))))))),?_⟩
  refine ⟨_,rfl,_,rfl,p,C,dx,[],rfl,hp,T.cl,T.nN,(by show 0 < 1000; decide),?_⟩
  refine ⟨_,rfl,p,C,dx,_,rfl,Ab,T.cl,T.nM,(by show 1 < 1000; decide),?_⟩
  rw [Pn]
  refine ⟨_,rfl,p,C,dx,_,rfl,Ab,T.cl,T.nT,(by rw [Gq,Cr Fo,Gq]; show 2 < 1000; decide),?_⟩
  rw [Pn]
  have step:∀ {H1:Hp} {d:Addr} {fs:List (Str×V)} {o:HO},H1 p=some (.ins C dx fs)→(∀ b u,H b=some u→b≠p→H1 b=some u)→H1 d=none→(upd H1 d o) p=some (.ins C dx fs)∧(∀ b u,H b=some u→b≠p→(upd H1 d o) b=some u)∧d≠p∧H d=none:=fun {H1 d fs o} e1 e2 e3=>by
   have ndp:p≠d:=Ar e1 e3
   refine ⟨by rw [Ac ndp]; exact e1,fun b u e hb=>by rw [Ac (Ar (e2 b u e hb) e3)]; exact e2 b u e hb,ndp.symm,?_⟩
   cases q:H d with
   | none=>rfl
   | some u=>rw [e2 d u q ndp.symm] at e3; cases e3
  have a0:∀ b u,H b=some u→b≠p→(upd H p (.ins C dx (Bq "ticks" (.int 0) (Bq "made" (.int 0) (Bq "number" (.int n) []))))) b=some u:=fun b u e hb=>by rw [Ac hb]; exact e
  intro d1 h1
  obtain ⟨b1,b2,b3,b4⟩:=step (o:=.dT []) Ab a0 h1
  refine ⟨_,rfl,p,C,dx,_,rfl,b1,T.cl,T.nH,?_,?_⟩
  ·have:=Bb "ticks" (.int 0) (Bq "made" (.int 0) (Bq "number" (.int n) []))
   have:=Bb "made" (.int 0) (Bq "number" (.int n) [])
   have:=Bb "number" (.int n) []
   simp only [List.length_nil] at *
   omega
  have c0:∀ {H1:Hp} {fs:List (Str×V)},(∀ b u,H b=some u→b≠p→H1 b=some u)→∀ b u,H b=some u→b≠p→(upd H1 p (.ins C dx fs)) b=some u:=fun e b u e1 hb=>by rw [Ac hb]; exact e b u e1 hb
  intro d2 h2
  obtain ⟨b5,b6,b7,b8⟩:=step (o:=.dT []) Ab (c0 b2) h2
  refine ⟨_,rfl,p,C,dx,_,rfl,b5,T.cl,T.nO,?_,?_⟩
  ·have:=Bb "hand" (.ref d1) (Bq "ticks" (.int 0) (Bq "made" (.int 0) (Bq "number" (.int n) [])))
   have:=Bb "ticks" (.int 0) (Bq "made" (.int 0) (Bq "number" (.int n) []))
   have:=Bb "made" (.int 0) (Bq "number" (.int n) [])
   have:=Bb "number" (.int n) []
   simp only [List.length_nil] at *
   omega
  intro d3 h3
  obtain ⟨b9,b10,b11,b12⟩:=step (o:=.dT []) Ab (c0 b6) h3
  refine ⟨_,rfl,p,C,dx,_,rfl,b9,T.cl,T.nL,?_,?_⟩
  ·have:=Bb "outs" (.ref d2) (Bq "hand" (.ref d1) (Bq "ticks" (.int 0) (Bq "made" (.int 0) (Bq "number" (.int n) []))))
   have:=Bb "hand" (.ref d1) (Bq "ticks" (.int 0) (Bq "made" (.int 0) (Bq "number" (.int n) [])))
   have:=Bb "ticks" (.int 0) (Bq "made" (.int 0) (Bq "number" (.int n) []))
   have:=Bb "made" (.int 0) (Bq "number" (.int n) [])
   have:=Bb "number" (.int n) []
   simp only [List.length_nil] at *
   omega
  intro d4 h4
  obtain ⟨b13,b14,b15,b16⟩:=step (o:=.dT []) Ab (c0 b10) h4
  refine ⟨_,rfl,p,C,dx,_,rfl,b13,T.cl,T.nR,?_,?_⟩
  ·have:=Bb "holds" (.ref d3) (Bq "outs" (.ref d2) (Bq "hand" (.ref d1) (Bq "ticks" (.int 0) (Bq "made" (.int 0) (Bq "number" (.int n) [])))))
   have:=Bb "outs" (.ref d2) (Bq "hand" (.ref d1) (Bq "ticks" (.int 0) (Bq "made" (.int 0) (Bq "number" (.int n) []))))
   have:=Bb "hand" (.ref d1) (Bq "ticks" (.int 0) (Bq "made" (.int 0) (Bq "number" (.int n) [])))
   have:=Bb "ticks" (.int 0) (Bq "made" (.int 0) (Bq "number" (.int n) []))
   have:=Bb "made" (.int 0) (Bq "number" (.int n) [])
   have:=Bb "number" (.int n) []
   simp only [List.length_nil] at *
   omega
  have n12:d1≠d2:=fun z=>by rw [← z,Ac b3,Ab] at h2; cases h2
  have n13:d1≠d3:=fun z=>by rw [← z,Ac b3,Ac n12,Ac b3,Ab] at h3; cases h3
  have n23:d2≠d3:=fun z=>by rw [← z,Ac b7,Ab] at h3; cases h3
  have n14:d1≠d4:=fun z=>by rw [← z,Ac b3,Ac n13,Ac b3,Ac n12,Ac b3,Ab] at h4; cases h4
  have n24:d2≠d4:=fun z=>by rw [← z,Ac b7,Ac n23,Ac b7,Ab] at h4; cases h4
  have n34:d3≠d4:=fun z=>by rw [← z,Ac b11,Ab] at h4; cases h4
  refine k d1 d2 d3 d4 _ b4 b8 b12 b16 ⟨⟨dx,?_⟩,?_,?_,?_,?_,fun q hq=>by simp at hq,?_⟩ (c0 b14)
  ·rw [Ab,← Jcr]
  ·rw [Ac b3,Ac n14,Ac b3,Ac n13,Ac b3,Ac n12,Ac b3,Ab]; rfl
  ·rw [Ac b7,Ac n24,Ac b7,Ac n23,Ac b7,Ab]; rfl
  ·rw [Ac b11,Ac n34,Ac b11,Ab]; rfl
  ·rw [Ac b15,Ab]; rfl
  ·simp [Am,n12,n13,n14,n23,n24,n34]
theorem scM:Ay ["self","thing"] ["self"] (Af Lz):={}
theorem Z0 {f:Addr} {fd:FuncData} (F:Fun K "make" "House.make" Lz f fd) (T:Txt K mg C NHd NNr MI NW):FnOk P w K mg base CX0 1 f fd ["self"] (Wy C):=by
 refine F.ok scM (fun vs H Q E h=>?_) (fun cdv A outer s H vs Q E hr h=>?_)
 ·obtain ⟨p,G,rfl,_⟩:=h
  rfl
 ·obtain ⟨p,G,rfl,S,z1,z2,z3,f1,f2,f3,k⟩:=h
  have hu:=Bv hr
  refine ⟨_,Ad (A3 (i:=1) scM.nd rfl (Or.inl rfl) (A6 (Aa (A7 (pv 0) rfl) (Aa (A7 (pv 0) rfl) Ag))))
   (Ad (Ca (pv 0) Ai C2)
   (Ad (B9 hu (A7 (pv 0) rfl) (pv 1) Ai rfl)
   (Ad (B9 hu (A7 (pv 0) rfl) (pv 1) Dm rfl)
   (Ad (B9 hu (A7 (pv 0) rfl) (pv 1) K1 rfl)
   (Ad (Ca (pv 0) Ai C2)
   (Ah (Au (pv 1)))))))),?_⟩
  obtain ⟨dx,hp⟩:=S.ob
  refine ⟨_,rfl,p,C,dx,_,_,rfl,hp,T.cl,T.nN,O2 G,_,rfl,p,C,dx,_,_,rfl,hp,T.cl,T.nM,Ux G,(by show 2≤sizeLine; decide),fun t ht=>?_⟩
  have s1:=Ae (o:=.tup [V.int G.num,V.int G.made]) ht
  have S1:=S.same s1
  have t1:(upd H t (.tup [V.int G.num,V.int G.made])) t=some (.tup (tv (G.num,G.made))):=Ab
  generalize upd H t (.tup [V.int G.num,V.int G.made])=H1 at s1 S1 t1
  obtain ⟨dx1,hp1⟩:=S1.ob
  refine ⟨_,rfl,p,C,dx1,_,_,rfl,hp1,T.cl,T.nM,Ux G,_,_,rfl,rfl,dx1,_,hp1,Cy G,?_⟩
  rw [Rr]
  have S2:=S1.fld dx1 (G.made + 1) G.ticks
  have fr2:∀ b o,H1 b=some o→b≠p→(upd H1 p (.ins C dx1 (Bx { G with made:=G.made + 1 }))) b=some o:=fun b o e hb=>by rw [Ac hb]; exact e
  have tp:=S1.tup_ne t1
  have t2:=fr2 _ _ t1 tp.1
  have S2:HouseAt C (upd H1 p (.ins C dx1 (Bx { G with made:=G.made + 1 }))) p { G with made:=G.made + 1 }:=S2
  generalize upd H1 p (.ins C dx1 (Bx { G with made:=G.made + 1 }))=H2 at S2 fr2 t2
  obtain ⟨dx2,hp2⟩:=S2.ob
  refine ⟨_,rfl,p,C,dx2,_,_,rfl,hp2,T.cl,T.nO,Cg _,_,rfl,G.o,_,rfl,DPut.t (k:=tk (G.num,G.made)) S2.dO t2 (by rw [List.length_map]; exact A0 (by show G.outs.length≤1000; omega)),?_⟩
  have e3:putK (G.outs.map fun (q:T2×Int)=>(tk q.1,V.int q.2)) (tk (G.num,G.made)) (V.int 0)=(G.outs++[((G.num,G.made),0)]).map fun (q:T2×Int)=>(tk q.1,V.int q.2):=by
   rw [Gm (k:=fun q:T2×Int=>q.1) (f:=fun q=>V.int q.2) _ f2,List.map_append]; rfl
  have S3:=S2.setOuts (G.outs++[((G.num,G.made),0)])
  unfold Bs at S3
  rw [← e3] at S3
  have tn2:=S2.tup_ne t2
  have fr3:∀ b o,H2 b=some o→b∉Am G→(upd H2 G.o (.dT (putK (G.outs.map fun (q:T2×Int)=>(tk q.1,V.int q.2)) (tk (G.num,G.made)) (V.int 0)))) b=some o:=fun b o e hb=>by rw [Ac (fun z=>hb (by rw [z]; simp [Am]))]; exact e
  have t3:=fr3 _ _ t2 tn2.2
  generalize (upd H2 G.o (.dT (putK (G.outs.map fun (q:T2×Int)=>(tk q.1,V.int q.2)) (tk (G.num,G.made)) (V.int 0))))=H3 at S3 fr3 t3
  intro a ha
  have s4:=Ae (o:=.dT []) ha
  have S4:=S3.same s4
  have a4:(upd H3 a (.dT [])) a=some (Bi []):=Ab
  have t4:=s4 _ _ t3
  have af:a∉Am G:=fun m=>by
   obtain ⟨kvs,e⟩:=S3.foot_dT (b:=a) (by have:Am { G with made:=G.made + 1,outs:=G.outs++[((G.num,G.made),(0:Int))] }=Am G:=rfl; rw [this]; exact m)
   rw [ha] at e; cases e
  generalize upd H3 a (.dT [])=H4 at s4 S4 a4 t4
  obtain ⟨dx4,hp4⟩:=S4.ob
  refine ⟨_,rfl,p,C,dx4,_,_,rfl,hp4,T.cl,T.nL,C7 _,_,rfl,G.l,_,rfl,DPut.t (k:=tk (G.num,G.made)) S4.dl t4 (by rw [List.length_map]; exact A0 (by show G.holds.length≤1000; omega)),?_⟩
  have e5:putK (G.holds.map fun (q:T2×Addr×List T2)=>(tk q.1,V.ref q.2.1)) (tk (G.num,G.made)) (V.ref a)=(G.holds++[((G.num,G.made),a,[])]).map fun (q:T2×Addr×List T2)=>(tk q.1,V.ref q.2.1):=by
   rw [Gm (k:=fun q:T2×Addr×List T2=>q.1) (f:=fun q=>V.ref q.2.1) _ f3,List.map_append]; rfl
  have S5:=S4.addHold (G.num,G.made) a4 af
  unfold B6 at S5
  rw [← e5] at S5
  have fr5:∀ b o,H4 b=some o→b∉Am G→(upd H4 G.l (.dT (putK (G.holds.map fun (q:T2×Addr×List T2)=>(tk q.1,V.ref q.2.1)) (tk (G.num,G.made)) (V.ref a)))) b=some o:=fun b o e hb=>by rw [Ac (fun z=>hb (by rw [z]; simp [Am]))]; exact e
  have t5:=fr5 _ _ t4 tn2.2
  generalize (upd H4 G.l (.dT (putK (G.holds.map fun (q:T2×Addr×List T2)=>(tk q.1,V.ref q.2.1)) (tk (G.num,G.made)) (V.ref a))))=H5 at S5 fr5 t5
  obtain ⟨dx5,hp5⟩:=S5.ob
  refine ⟨_,rfl,p,C,dx5,_,_,rfl,hp5,T.cl,T.nH,Et _,_,rfl,G.h,_,rfl,DPut.t (k:=tk (G.num,G.made)) S5.dh t5 (by rw [List.length_map]; exact A0 (by show G.hand.length≤1000; omega)),?_⟩
  have e6:putK (G.hand.map fun (q:T2)=>(tk q,V.bl true)) (tk (G.num,G.made)) (V.bl true)=(G.hand++[(G.num,G.made)]).map fun (q:T2)=>(tk q,V.bl true):=by
   rw [Gm (k:=fun q:T2=>q) (f:=fun _=>V.bl true) _ f1,List.map_append]; rfl
  have S6:=S5.setHand (G.hand++[(G.num,G.made)])
  unfold Bi at S6
  rw [← e6] at S6
  have fr6:∀ b o,H5 b=some o→b∉Am G→(upd H5 G.h (.dT (putK (G.hand.map fun (q:T2)=>(tk q,V.bl true)) (tk (G.num,G.made)) (V.bl true)))) b=some o:=fun b o e hb=>by rw [Ac (fun z=>hb (by rw [z]; simp [Am]))]; exact e
  have t6:=fr6 _ _ t5 tn2.2
  generalize (upd H5 G.h (.dT (putK (G.hand.map fun (q:T2)=>(tk q,V.bl true)) (tk (G.num,G.made)) (V.bl true))))=H6 at S6 fr6 t6
  obtain ⟨dx6,hp6⟩:=S6.ob
  refine ⟨_,rfl,p,C,dx6,_,_,rfl,hp6,T.cl,T.nT,B5 _,_,_,rfl,rfl,dx6,_,hp6,Cy _,?_⟩
  rw [Bh]
  have S7:=S6.fld dx6 (G.made + 1) (G.ticks + 1)
  have hfree:∀ {b:Addr},H1 b=none→H b=none:=fun {b} e=>Dg s1 e
  have fr7:HFr p G H (upd H6 p (.ins C dx6 (Bx { G with made:=G.made + 1,ticks:=G.ticks + 1,outs:=G.outs++[((G.num,G.made),0)],holds:=G.holds++[((G.num,G.made),a,[])],hand:=G.hand++[(G.num,G.made)] }))):=fun b o e hb hf=>by
   rw [Ac hb]
   exact fr6 _ _ (fr5 _ _ (s4 _ _ (fr3 _ _ (fr2 _ _ (s1 _ _ e) hb) hf)) hf) hf
  refine ⟨_,rfl,k t a _ ht ?_ (by rw [Ac tp.1]; exact t6) S7 fr7⟩
  cases q:H a with
  | none=>rfl
  | some u =>
    exfalso
    have nap:a≠p:=fun z=>by rw [z,S3.ob.choose_spec] at ha; cases ha
    have:H3 a=some u:=fr3 _ _ (fr2 _ _ (s1 _ _ q) nap) af
    rw [ha] at this; cases this
theorem scT:Ay ["self"] ["self"] (Af K0):={}
theorem Zx {f:Addr} {fd:FuncData} (F:Fun K "tick" "House.tick" K0 f fd) (T:Txt K mg C NHd NNr MI NW):FnOk P w K mg base CX0 1 f fd ["self"] (Wv C):=by
 refine F.ok scT (fun vs H Q E h=>?_) (fun cdv A outer s H vs Q E hr h=>?_)
 ·obtain ⟨p,G,rfl,_⟩:=h
  rfl
 ·obtain ⟨p,G,rfl,S,k⟩:=h
  obtain ⟨dx,hp⟩:=S.ob
  exact ⟨_,Ah (Au (A7 (pv 0) rfl)),⟨_,rfl,p,C,dx,_,_,rfl,hp,T.cl,T.nT,B5 G,k⟩⟩
end
theorem Jg {a b c:Str} {k:NameKind} {cl:List (Str×Addr)} {y:Str} (hc:∃ z,cl.lookup c=some z)
 (h:([(a,NameKind.local),(b,NameKind.local),(c,k)]:List (Str×NameKind)).lookup y=some .cell∨([(a,NameKind.local),(b,NameKind.local),(c,k)]:List (Str×NameKind)).lookup y=some .free):∃ z,cl.lookup y=some z:=by
 by_cases e3:y=c
 ·rw [e3]; exact hc
 ·exfalso
  have q3:(y == c)=false:=beq_eq_false_iff_ne.mpr e3
  by_cases e1:y=a
  ·have q1:(y == a)=true:=by rw [e1]; exact beq_self_eq_true a
   simp only [List.lookup_cons,q1] at h
   rcases h with h | h <;> cases h
  ·have q1:(y == a)=false:=beq_eq_false_iff_ne.mpr e1
   by_cases e2:y=b
   ·have q2:(y == b)=true:=by rw [e2]; exact beq_self_eq_true b
    simp only [List.lookup_cons,q1,q2] at h
    rcases h with h | h <;> cases h
   ·have q2:(y == b)=false:=beq_eq_false_iff_ne.mpr e2
    simp only [List.lookup_cons,q1,q2,q3,List.lookup_nil] at h
    rcases h with h | h <;> cases h
theorem Mf {K:W.Frag} {H:Hp}:∀ {as:List Addr} {rs:List (T2×Int)},Paired (RecAt H) as rs→Paired (RepT K H) (as.map V.ref) (rs.map Kk)
 | _,_,.nil=>.nil
 | _,_,.cons ⟨ka,e1,e2⟩ t=>.cons (.tupP (SqT.of e1) (.cons (Hf e2) (.cons (.int _) .nil))) (Mf t)
theorem Vh {H H':Hp} (s:B1 H H') {as:List Addr} {rs:List (T2×Int)} (x:Paired (RecAt H) as rs):Paired (RecAt H') as rs:=An (fun _ _ ⟨ka,e1,e2⟩=>⟨ka,s _ _ e1,s _ _ e2⟩) x
section
variable {P:Program} {w:World} {K:W.Frag} {mg:Str→Option Value} {base:Heap} {C NHd NNr MI NW:Addr}
theorem Jew:Ay ["self","thing"] ["self","thing"] (Af Jl):={}
theorem J8 {α β:Type} (f:α→β) (l:List α):(l.map fun t=>(t,f t)).map (·.1)=l:=by
 rw [List.map_map]; exact List.map_id' l
theorem Zw {f:Addr} {fd:FuncData} (F:Fun K "told" "House.told" Jl f fd) (T:Txt K mg C NHd NNr MI NW):FnOk P w K mg base CX0 1 f fd ["self","thing"] (Sk C K):=by
 refine F.ok Jew (fun vs H Q E h=>?_) (fun cdv A outer s H vs Q E hr h=>?_)
 ·obtain ⟨p,t,G,th,w,a,hl,hs,rfl,_⟩:=h
  rfl
 ·obtain ⟨p,t,G,th,wt,a,hl,hs,rfl,S,ht,f1,f2,h64,pm,pw,k⟩:=h
  have hu:=Bv hr
  obtain ⟨dx,hp⟩:=S.ob
  have g1:DGet H G.o (.ref t) (some (V.int wt)):=by
   have:=DGet.t (k:=tk th) S.dO ht
   rw [Ct (k:=fun q:T2×Int=>q.1) (f:=fun q=>V.int q.2),f1] at this
   exact this
  have g2:DGet H G.l (.ref t) (some (V.ref a)):=by
   have:=DGet.t (k:=tk th) S.dl ht
   rw [Ct (k:=fun q:T2×Addr×List T2=>q.1) (f:=fun q=>V.ref q.2.1),f2] at this
   exact this
  have g3:H a=some (Bi hl):=S.hl _ (List.mem_of_find?_eq_some f2)
  refine ⟨_,Ah (Au (A6 (Aa (pv 1) (Aa (Al hu (A7 (pv 0) rfl) (pv 1)) (Aa (B2 B4 (by rfl) T.tuple PyProof.Rows.boot_tuple (Aa (Bj (Bp rfl) (by rfl) T.sorted PyProof.Rows.boot_sorted (Aa (Al hu (A7 (pv 0) rfl) (pv 1)) Ag)) Ag)) Ag))))),?_⟩
  refine ⟨_,rfl,_,rfl,p,C,dx,_,_,rfl,hp,T.cl,T.nO,Cg G,_,rfl,G.o,_,rfl,g1,_,rfl,p,C,dx,_,_,rfl,hp,T.cl,T.nL,C7 G,_,rfl,G.l,_,rfl,g2,a,_,hs,rfl,Uy g3,(by rw [List.length_map]; exact h64),(by rw [J8]; exact pm),pw,fun r as hr ha=>?_⟩
  refine ⟨r,_,rfl,.inl ⟨SqL.of Ab,fun x2 hx2=>⟨(by show 3≤sizeLine; decide),fun x hx=>?_⟩⟩⟩
  have s1:=Ae (o:=.lst (as.map V.ref)) hr
  have s2:=Ae (o:=.tup (as.map V.ref)) hx2
  have s3:=Ae (o:=.tup [V.ref t,V.int wt,V.ref x2]) hx
  have ss:=Aj s1 (Aj s2 s3)
  refine k x _ ss ?_
  refine .tupP (SqT.of Ab) (.cons (Hf (ss _ _ ht)) (.cons (.int _) (.cons (.tupP (SqT.of (s3 _ _ Ab)) (Ic (An (fun _ _ e=>ss _ _ e) ha))) .nil)))
theorem scS:Ay ["self","hand","things","records"] ["self"] (Af Hh):={}
theorem Xx {f fT:Addr} {fd fdT:FuncData} (F:Fun K "state" "House.state" Hh f fd) (T:Txt K mg C NHd NNr MI NW) (FT:Fun K "told" "House.told" Jl fT fdT) (bT:Binds K fdT ["self","thing"] []) (mT:Y8 K C "told" fT) :
 FnOk P w K mg base CX0 2 f fd ["self"] (Tv C K):=by
 have GT:FnOk P w K mg base CX0 1 fT fdT ["self","thing"] (Sk C K):=Zw FT T
 refine F.ok scS (fun vs H Q E h=>?_) (fun cdv A outer s H vs Q E hr h=>?_)
 ·obtain ⟨p,G,hs,os,rs,rfl,_⟩:=h
  rfl
 ·obtain ⟨p,G,hs,os,rs,rfl,S,z1,z2,z3,pm,pw,R,pmr,pwr,k⟩:=h
  have hr1:Room 1 _:=hr.mono (by decide)
  obtain ⟨dx,hp⟩:=S.ob
  refine ⟨_,Ad (A3 (i:=1) scS.nd rfl (Or.inl rfl) (B2 B4 (by rfl) T.tuple PyProof.Rows.boot_tuple (Aa (Bj (Bp rfl) (by rfl) T.sorted PyProof.Rows.boot_sorted (Aa (A7 (pv 0) rfl) Ag)) Ag)))
   (Ad (A3 (i:=2) scS.nd rfl (Or.inl rfl) (B2 B4 (by rfl) T.tuple PyProof.Rows.boot_tuple (Aa (El (caps:=[("self",0)]) rfl (Cv (Bj (Bp rfl) (by rfl) T.sorted PyProof.Rows.boot_sorted (Aa (A7 (pv 0) rfl) Ag)))
    rfl (by decide +kernel) rfl (by decide +kernel) rfl ⟨rfl,trivial⟩ (fun y h=>Jg ⟨_,rfl⟩ h) ⟨⟨rfl,rfl,rfl,rfl⟩,trivial⟩ (by decide +kernel) (fun _ _ _ _ _=>Lg)
    (fun _ _ _ _ _=>Bo (pv 1) T.cl mT GT hr1 bT .nil Bu (Aa (pv 0) Ag))) Ag)))
   (Ad (A3 (i:=3) scS.nd rfl (Or.inl rfl) (B2 B4 (by rfl) T.tuple PyProof.Rows.boot_tuple (Aa (Bj (Kf rfl (E7 hr)) (by rfl) T.sorted PyProof.Rows.boot_sorted (Aa (Ss PySem.F.plainAttrs_dict PySem.F.slot_dict_items PySem.F.type_dict_items Yc (A7 (pv 0) rfl)) Ag)) Ag)))
   (Ah (Au (A6 (Aa (pv 1) (Aa (pv 2) (Aa (pv 3) Ag)))))))),?_⟩
  refine ⟨_,rfl,p,C,dx,_,_,rfl,hp,T.cl,T.nH,Et G,G.h,_,hs,rfl,Uy S.dh,(by rw [List.length_map]; exact z1),(by rw [J8]; exact pm),pw,fun r1 as1 hr1' ha1=>⟨r1,_,rfl,.inl ⟨SqL.of Ab,fun x1 hx1=>?_⟩⟩⟩
  have s1:=Ae (o:=.lst (as1.map V.ref)) hr1'
  have s2:=Ae (o:=.tup (as1.map V.ref)) hx1
  have ss1:=Aj s1 s2
  have S1:=S.same ss1
  have q1:(upd (upd H r1 (.lst (as1.map V.ref))) x1 (.tup (as1.map V.ref))) x1=some (.tup (as1.map V.ref)):=Ab
  have ha1':ThsAt (upd (upd H r1 (.lst (as1.map V.ref))) x1 (.tup (as1.map V.ref))) as1 hs:=An (fun _ _ e=>ss1 _ _ e) ha1
  generalize upd (upd H r1 (.lst (as1.map V.ref))) x1 (.tup (as1.map V.ref))=H1 at ss1 S1 q1 ha1'
  obtain ⟨dx1,hp1⟩:=S1.ob
  have e0:((G.outs.map fun q=>(q.1,V.int q.2)).map (·.1))=G.outs.map (·.1):=by rw [List.map_map]; rfl
  refine ⟨_,rfl,p,C,dx1,_,_,rfl,hp1,T.cl,T.nO,Cg G,G.o,_,os.map (·.1),rfl,P9 S1.dO,(by rw [List.length_map]; exact z2),(by rw [e0]; exact R.pm),R.pw,fun r2 as2 hr2 ha2=>⟨r2,rfl,⟨_,SqL.of Ab⟩,fun q hq=>?_⟩⟩
  have s3:=Ae (o:=.lst (as2.map V.ref)) hr2
  have er2:(upd H1 r2 (.lst (as2.map V.ref))) r2=some (.lst (as2.map V.ref)):=Ab
  have S2:=S1.same s3
  have ss2:=Aj ss1 s3
  have ha2':ThsAt (upd H1 r2 (.lst (as2.map V.ref))) as2 (os.map (·.1)):=An (fun _ _ e=>s3 _ _ e) ha2
  have ha1b:ThsAt (upd H1 r2 (.lst (as2.map V.ref))) as1 hs:=An (fun _ _ e=>s3 _ _ e) ha1'
  have q1b:=s3 _ _ q1
  generalize upd H1 r2 (.lst (as2.map V.ref))=H2 at s3 er2 S2 ss2 ha2' ha1b q1b hq
  have hlen:as2.length=os.length:=by have:=Paired.length ha2; rw [List.length_map] at this; exact this
  have hos:os.length < 64:=by
   have h1:=R.pm.length_eq
   rw [List.length_map,List.length_map] at h1
   omega
  refine F5 (K:=K) (a:=r2) (xs:=as2.map V.ref) (tt:=fun _ H Q=>Q true H) (te:=Wr C "told" (Sk C K) [] E0 (B8 1) (C3 (B8 0) Ki)) (caps:=[("self",0)]) (σ:=[some (.ref p),some (.ref x1),none,none]) (fun i ys H3=>H3 q=some (.lst ys)∧B1 H2 H3∧Paired (RepT K H3) ys ((os.take i).map Ik)) ⟨Ab,Ae hq,by rw [List.take_zero]; exact .nil⟩ (fun i ys H3 _ h=>⟨SqL.of (h.2.1 _ _ er2),h.1⟩) ?_ ?_
  ·rintro i x ys H3 N hx ⟨e3,s4,pr⟩ hN
   refine Bk ?_
   rw [List.getElem?_map] at hx
   cases hai:as2[i]? with
   | none=>rw [hai] at hx; cases hx
   | some ai =>
     rw [hai] at hx
     cases hx
     have hio:i < os.length:=by rw [← hlen]; exact (List.getElem?_eq_some_iff.mp hai).1
     obtain ⟨qo,hqo⟩:=Bd hio
     have eth:=A1 ha2' i ai qo.1 hai (by rw [List.getElem?_map,hqo]; rfl)
     obtain ⟨f1,a,hl,f2,f3,f4,f5⟩:=R.at_ qo (List.mem_of_getElem? hqo)
     have S3:=S2.same s4
     obtain ⟨dx3,hp3⟩:=S3.ob
     refine ⟨_,rfl,p,dx3,_,rfl,hp3,Bz G (by decide +kernel),_,rfl,p,ai,G,qo.1,qo.2.1,a,hl,qo.2.2,rfl,S3,s4 _ _ eth,f1,f2,f3,f4,f5,fun x2 H5 s5 rep=>⟨s5 _ _ e3,?_,hN _ _ ⟨Ab,fun b o e=>?_,?_⟩⟩⟩
     ·have:=Paired.length pr
      rw [this,List.length_map]
      exact A0 (Nat.le_trans (List.length_take_le _ _) (by omega))
     ·have nb:b≠q:=Ar e hq
      rw [Ac nb]; exact s5 _ _ (s4 _ _ e)
     ·have kq:KeepT H5 (upd H5 q (.lst (ys++[V.ref x2]))):=KeepT.upd fun o' e=>by
       rw [s5 _ _ e3] at e; cases e; exact ⟨fun _ z=>(by cases z),fun _ _ z=>(by cases z)⟩
      have et:(os.take (i + 1)).map Ik=(os.take i).map Ik++[Ik qo]:=by
       rw [List.take_add_one,hqo,List.map_append]; rfl
      rw [et]
      exact D6 (rep.keep kq) (An (fun _ _ r=>(r.keep (KeepT.of_same s5)).keep kq) pr)
  ·rintro ys H3 ⟨e3,s4,pr⟩
   rw [List.length_map,hlen,List.take_length] at pr
   refine ⟨q,_,rfl,.inl ⟨SqL.of e3,fun x2 hx2=>?_⟩⟩
   have s5:=Ae (o:=.tup ys) hx2
   have ss3:=Aj ss2 (Aj s4 s5)
   have S4:=(S2.same s4).same s5
   have q2:(upd H3 x2 (.tup ys)) x2=some (.tup ys):=Ab
   have q1c:=s5 _ _ (s4 _ _ q1b)
   have ha1c:ThsAt (upd H3 x2 (.tup ys)) as1 hs:=An (fun _ _ e=>s5 _ _ (s4 _ _ e)) ha1b
   have pr':Paired (RepT K (upd H3 x2 (.tup ys))) ys (os.map Ik):=An (fun _ _ r=>r.keep (KeepT.of_same s5)) pr
   generalize upd H3 x2 (.tup ys)=H4 at s5 ss3 S4 q2 q1c ha1c pr'
   obtain ⟨dx4,hp4⟩:=S4.ob
   have dr4:=S4.dr
   refine ⟨_,rfl,p,C,dx4,_,_,rfl,hp4,T.cl,T.nR,Ck G,(.inr (.inr (.inl ⟨rfl,.inr ⟨_,dr4⟩⟩))),G.r,_,rfl,rfl,dr4,fun v hv=>?_⟩
   have s6:=Ae (o:=P8 v G.r) hv
   refine ⟨v,G.r,G.recs,rs,rfl,Ab,s6 _ _ dr4,z3,pmr,pwr,fun r3 as3 H7 s7 hr3 e7 pr7=>⟨r3,_,rfl,.inl ⟨SqL.of e7,fun x3 hx3=>?_⟩⟩⟩
   have s8:=Ae (o:=.tup (as3.map V.ref)) hx3
   refine ⟨_,rfl,_,rfl,_,rfl,(by show 3≤sizeLine; decide),fun x hx=>?_⟩
   have s9:=Ae (o:=.tup [V.ref x1,V.ref x2,V.ref x3]) hx
   have ss4:=Aj s6 (Aj s7 (Aj s8 s9))
   refine k x _ (Aj ss3 ss4) ⟨_,Ab⟩ ?_
   refine .tupP (SqT.of Ab) (.cons (.tupP (SqT.of (ss4 _ _ q1c)) (Ic (An (fun _ _ e=>ss4 _ _ e) ha1c))) (.cons (.tupP (SqT.of (ss4 _ _ q2)) (An (fun _ _ r=>r.keep (KeepT.of_same ss4)) pr')) (.cons (.tupP (SqT.of (s9 _ _ Ab)) (Mf (Vh (Aj s8 s9) pr7))) .nil)))
theorem scCe:Ay ["_law_script","_law_k","_law_number"] ["_law_script","_law_k"] (Af Mc):={}
def W5 (K:W.Frag):Sp:=fun vs H Q _=>∃ (a:Addr) (ns:List Int) (k:Int),vs=[.ref a,.int k]∧SqL K H a (ns.map V.int)∧ns.length≤63∧0≤k∧k≤1000∧∀ v:Int,Q (.int v) H
theorem Z7 {f:Addr} {fd:FuncData} (F:Fun K "_law_cell" "_law_cell" Mc f fd) (hn:mg "len"=none):FnOk P w K mg base CX0 1 f fd ["_law_script","_law_k"] (W5 K):=by
 refine F.ok scCe (fun vs H Q E h=>?_) (fun cdv A outer s H vs Q E hr h=>?_)
 ·obtain ⟨a,ns,k,rfl,_⟩:=h
  rfl
 ·obtain ⟨a,ns,k,rfl,hS,hl,h0,h100,kk⟩:=h
  have hlen:(ns.map V.int).length=ns.length:=List.length_map ..
  have item:∀ i:Int,0≤i→i < ns.length→∃ v,atI (ns.map V.int) i=some (.int v):=fun i a b=>by
   obtain ⟨x,hx⟩:=Bd (xs:=ns) (j:=i.toNat) (by omega)
   exact ⟨x,Y4 a (by rw [List.getElem?_map,hx]; rfl)⟩
  refine ⟨_,Ad (A5 (Ap Jdu (pv 1) (Bj Cm (by rfl) hn PySem.boot_len (Aa (pv 0) Ag)) (A4 _)) (Ah (Au (Bm Gx (pv 0) (pv 1)))) Aq)
   (Ad (A3 (i:=2) scCe.nd rfl (Or.inl rfl) (Aw Ce (Aw Jc (pv 1) Ai) Ai))
   (Ad (A5 (Ap Q3 (Bj Cm (by rfl) hn PySem.boot_len (Aa (pv 0) Ag)) Ai (A4 _))
    (Ah (A3 (i:=2) scCe.nd rfl (Or.inl rfl) (Aw B7 (Aw Ce (Aw Jc (Bm Gx (pv 0) (Aw B7 (Aw Jc (pv 1) Ai) (Bj Cm (by rfl) hn PySem.boot_len (Aa (pv 0) Ag)))) Ai) (Aw Jc (pv 1) Ai)) Ai))) Aq)
   (Ah (Au (Aw B7 (Aw Jc (pv 2) (pv 2)) Ai))))),?_⟩
  refine ⟨_,rfl,_,rfl,a,_,rfl,.inl hS,_,_,rfl,rfl,_,rfl,?_⟩
  refine V3 (fun c1=>?_) (fun _=>?_)
  ·have c1:=of_decide_eq_true c1
   obtain ⟨v,hv⟩:=item k h0 (by rw [hlen] at c1; exact c1)
   exact ⟨_,rfl,_,rfl,a,_,_,_,rfl,rfl,hS,hv,kk v⟩
  ·refine ⟨_,rfl,_,_,rfl,rfl,.inr ⟨by decide,by decide⟩,_,_,rfl,rfl,?_⟩
   refine ⟨_,rfl,a,_,rfl,.inl hS,_,_,rfl,rfl,_,rfl,?_⟩
   refine V3 (fun c2=>?_) (fun _=>?_)
   ·have c2:=of_decide_eq_true c2
    have hpos:(0:Int) < (ns.length:Int):=by rw [hlen] at c2; exact c2
    obtain ⟨v,hv⟩:=item (k * 7 % (ns.length:Int)) (Int.emod_nonneg _ (by omega)) (Int.emod_lt_of_pos _ hpos)
    refine ⟨_,rfl,_,rfl,_,_,rfl,rfl,.inr ⟨by decide,by decide⟩,_,rfl,a,_,rfl,.inl hS,_,_,rfl,rfl,(by rw [hlen]; exact hpos),a,_,_,_,rfl,rfl,hS,(by rw [hlen]; exact hv),_,_,rfl,rfl,.inr ⟨by decide,by decide⟩,
     _,rfl,_,_,rfl,rfl,.inr ⟨by decide,by decide⟩,_,_,rfl,rfl,_,_,rfl,rfl,(show (0:Int) < 2147483647 by decide),?_⟩
    refine ⟨_,rfl,_,rfl,_,_,rfl,rfl,.inl ⟨?_,?_⟩,_,_,rfl,rfl,(show (0:Int) < 2147483629 by decide),kk _⟩
    ·have:=Int.emod_nonneg (v * 48271 + k * 7919) (show (2147483647:Int)≠0 by decide)
     omega
    ·have:=Int.emod_lt_of_pos (v * 48271 + k * 7919) (show (0:Int) < 2147483647 by decide)
     omega
   ·exact ⟨_,rfl,_,rfl,_,_,rfl,rfl,.inl ⟨by omega,by omega⟩,_,_,rfl,rfl,(show (0:Int) < 2147483629 by decide),kk _⟩
end
theorem Jch {a b c:T2} (h1:lt2 a b) (h2:lt2 b c):lt2 a c:=by
 rw [Er] at *; omega
theorem Jac {a b:T2} (h:a≠b) (h1:¬ lt2 a b):lt2 b a:=by
 rw [Er] at *
 have:¬ (a.1=b.1∧a.2=b.2):=fun z=>h (Prod.ext z.1 z.2)
 omega
theorem Ud {α:Type} (key:α→T2) (x:α):∀ {s:List α},(s.map key).Pairwise lt2→(∀ y∈s,key x≠key y)→∃ s':List α,s'.Perm (x :: s)∧(s'.map key).Pairwise lt2
 | [],_,_=>⟨[x],.refl _,by simp⟩
 | y :: s,h,ne=>by
   have h':=List.pairwise_cons.mp h
   by_cases e:lt2 (key x) (key y)
   ·refine ⟨x :: y :: s,.refl _,List.pairwise_cons.mpr ⟨fun z hz=>?_,h⟩⟩
    rcases List.mem_cons.mp hz with rfl | hz
    ·exact e
    ·exact Jch e (h'.1 z hz)
   ·obtain ⟨s',p,q⟩:=Ud key x h'.2 fun z hz=>ne z (List.mem_cons_of_mem _ hz)
    refine ⟨y :: s',(p.cons y).trans (List.Perm.swap x y s),List.pairwise_cons.mpr ⟨fun z hz=>?_,q⟩⟩
    obtain ⟨u,hu,rfl⟩:=List.mem_map.mp hz
    rcases List.mem_cons.mp (p.mem_iff.mp hu) with rfl | hu
    ·exact Jac (ne y (List.mem_cons_self ..)) e
    ·exact h'.1 _ (List.mem_map_of_mem hu)
theorem Lu {α:Type} (key:α→T2):∀ {l:List α},(l.map key).Nodup→∃ s:List α,s.Perm l∧(s.map key).Pairwise lt2
 | [],_=>⟨[],.refl _,by simp⟩
 | x :: l,nd=>by
   have nd':=List.nodup_cons.mp nd
   obtain ⟨s,p,q⟩:=Lu key nd'.2
   obtain ⟨s',p',q'⟩:=Ud key x q fun y hy e=>nd'.1 (List.mem_map.mpr ⟨y,p.mem_iff.mp hy,e.symm⟩)
   exact ⟨s',p'.trans (p.cons x),q'⟩
structure Good (G:HGh):Prop where
 h1:G.hand.Nodup
 h2:G.hand.length < 64
 o1:(G.outs.map (·.1)).Nodup
 o2:G.outs.length < 64
 r1:(G.recs.map (·.1)).Nodup
 r2:G.recs.length < 64
 at_:∀ q∈G.outs,∃ a hl,G.holds.find? (fun z=>decide (z.1=q.1))=some (q.1,a,hl)∧hl.Nodup∧hl.length < 64
structure Told (G:HGh) (hs:List T2) (os:List (T2×Int×List T2)) (rs:List (T2×Int)):Prop where
 pm:hs.Perm G.hand
 pw:hs.Pairwise lt2
 rw_:Rows G os
 pr:rs.Perm G.recs
 wr:(rs.map (·.1)).Pairwise lt2
theorem find_self {l:List (T2×Int)} (nd:(l.map (·.1)).Nodup) {q:T2×Int} (hq:q∈l):l.find? (fun z=>decide (z.1=q.1))=some q:=by
 induction l with
 | nil=>cases hq
 | cons x l ih =>
   have nd':=List.nodup_cons.mp nd
   rcases List.mem_cons.mp hq with rfl | hq
   ·simp
   ·have ne:¬ x.1=q.1:=fun z=>nd'.1 (List.mem_map.mpr ⟨q,hq,z.symm⟩)
    rw [List.find?_cons,decide_eq_false ne]
    exact ih nd'.2 hq
theorem Ue {G:HGh} (g:Good G):∀ {s:List (T2×Int)},(∀ q∈s,q∈G.outs)→∃ os:List (T2×Int×List T2),os.map (fun q=>(q.1,q.2.1))=s∧∀ q∈os,G.outs.find? (fun z=>decide (z.1=q.1))=some (q.1,q.2.1)∧∃ a hl,G.holds.find? (fun z=>decide (z.1=q.1))=some (q.1,a,hl)∧hl.length < 64∧q.2.2.Perm hl∧q.2.2.Pairwise lt2
 | [],_=>⟨[],rfl,fun q hq=>by cases hq⟩
 | x :: s,h=>by
   obtain ⟨os,e,k⟩:=Ue g fun q hq=>h q (List.mem_cons_of_mem _ hq)
   have hx:=h x (List.mem_cons_self ..)
   obtain ⟨a,hl,f,nd,z⟩:=g.at_ x hx
   obtain ⟨hs,p,q⟩:=Lu (fun t:T2=>t) (l:=hl) (by rw [List.map_id']; exact nd)
   rw [List.map_id'] at q
   refine ⟨(x.1,x.2,hs) :: os,by rw [List.map_cons,e],fun y hy=>?_⟩
   rcases List.mem_cons.mp hy with rfl | hy
   ·exact ⟨find_self g.o1 hx,a,hl,f,z,p,q⟩
   ·exact k y hy
theorem Good.told {G:HGh} (g:Good G):∃ hs os rs,Told G hs os rs:=by
 obtain ⟨hs,p1,q1⟩:=Lu (fun t:T2=>t) (l:=G.hand) (by rw [List.map_id']; exact g.h1)
 obtain ⟨so,p2,q2⟩:=Lu (fun q:T2×Int=>q.1) g.o1
 obtain ⟨rs,p3,q3⟩:=Lu (fun q:T2×Int=>q.1) g.r1
 obtain ⟨os,e,k⟩:=Ue g fun q hq=>p2.mem_iff.mp hq
 have e1:os.map (·.1)=so.map (·.1):=by rw [← e,List.map_map]; rfl
 rw [List.map_id'] at q1
 exact ⟨hs,os,rs,p1,q1,⟨by rw [e1]; exact p2.map _,by rw [e1]; exact q2,k⟩,p3,q3⟩
theorem lookup_mem {y:Str} {k:NameKind}:∀ {l:List (Str×NameKind)},l.lookup y=some k→(y,k)∈l
 | [],h=>by simp at h
 | (a,b) :: l,h=>by
   rw [List.lookup_cons] at h
   by_cases e:y=a
   ·have q1:(y == a)=true:=by rw [e]; exact beq_self_eq_true a
    rw [q1] at h
    have h:b=k:=Option.some.inj h
    rw [e,h]; exact List.mem_cons_self ..
   ·have q1:(y == a)=false:=beq_eq_false_iff_ne.mpr e
    rw [q1] at h
    exact List.mem_cons_of_mem _ (lookup_mem h)
theorem Jfm {a b c d e:Str} {k:NameKind} {cl:List (Str×Addr)} {y:Str} (hc:∃ z,cl.lookup e=some z)
 (h:([(a,NameKind.local),(b,NameKind.local),(c,NameKind.globalImplicit),(d,NameKind.globalImplicit),(e,k)]:List (Str×NameKind)).lookup y=some .cell∨([(a,NameKind.local),(b,NameKind.local),(c,NameKind.globalImplicit),(d,NameKind.globalImplicit),(e,k)]:List (Str×NameKind)).lookup y=some .free):∃ z,cl.lookup y=some z:=by
 have:∀ k',(k'=NameKind.cell∨k'=NameKind.free)→(y,k')∈([(a,NameKind.local),(b,NameKind.local),(c,NameKind.globalImplicit),(d,NameKind.globalImplicit),(e,k)]:List (Str×NameKind))→y=e:=fun k' hk m=>by
  simp only [List.mem_cons,Prod.mk.injEq,List.not_mem_nil,or_false] at m
  rcases m with ⟨_,m⟩ | ⟨_,m⟩ | ⟨_,m⟩ | ⟨_,m⟩ | ⟨m,_⟩
  ·rw [m] at hk; rcases hk with hk | hk <;> cases hk
  ·rw [m] at hk; rcases hk with hk | hk <;> cases hk
  ·rw [m] at hk; rcases hk with hk | hk <;> cases hk
  ·rw [m] at hk; rcases hk with hk | hk <;> cases hk
  ·exact m
 rcases h with h | h
 ·rw [this _ (.inl rfl) (lookup_mem h)]; exact hc
 ·rw [this _ (.inr rfl) (lookup_mem h)]; exact hc
section
variable {P:Program} {w:World} {K:W.Frag} {mg:Str→Option Value} {base:Heap} {C NHd NNr MI NW:Addr}
def T1:Sp:=fun vs H Q _=>∃ n:Int,vs=[.int n]∧∀ (p h o l r:Addr) (H':Hp),B1 H H'→H p=none→H h=none→H o=none→H l=none→H r=none→ModelAt H' p ⟨n,0,0,h,o,l,r,[],[],[],[]⟩→Q (.ref p) H'
theorem Je1:Ay ["_law_number"] ["_law_number"] (Af Iq):={}
theorem X1 {f:Addr} {fd:FuncData} (F:Fun K "_law_model" "_law_model" Iq f fd):FnOk P w K mg base CX0 1 f fd ["_law_number"] T1:=by
 refine F.ok Je1 (fun vs H Q E h=>?_) (fun cdv A outer s H vs Q E hr h=>?_)
 ·obtain ⟨n,rfl,_⟩:=h
  rfl
 ·obtain ⟨n,rfl,k⟩:=h
  refine ⟨_,Ah (Au (Zq (E2 Ak (pv 0) (E2 Ak (Hn Ag) (E2 Ak Dm (E2 Ak Dm (E2 Ak Dm (E2 Ak Ai (E2 Ak Ai Zo))))))) rfl rfl (by intro z; cases z) (by decide))),?_⟩
  intro p hp
  refine ⟨_,rfl,Nat.zero_le _,fun h hh l hl o ho r hr'=>⟨?_,Bt ⟨n,0,0,h,o,l,r,[],[],[],[]⟩,rfl,(by show 7≤15; decide),?_⟩⟩
  ·have n1:p≠h:=Ar (H:=upd H p (.dK [])) Ab hh
   have n2:p≠l:=fun z=>by rw [← z,Ac n1,Ab] at hl; cases hl
   have n3:p≠o:=fun z=>by rw [← z,Ac n2,Ac n1,Ab] at ho; cases ho
   have n4:p≠r:=fun z=>by rw [← z,Ac n3,Ac n2,Ac n1,Ab] at hr'; cases hr'
   rw [Ac n4,Ac n3,Ac n2,Ac n1,Ab]
  rw [Jcg]
  have n1:p≠h:=Ar (H:=upd H p (.dK [])) Ab hh
  have n2:p≠l:=fun z=>by rw [← z,Ac n1,Ab] at hl; cases hl
  have n3:p≠o:=fun z=>by rw [← z,Ac n2,Ac n1,Ab] at ho; cases ho
  have n4:p≠r:=fun z=>by rw [← z,Ac n3,Ac n2,Ac n1,Ab] at hr'; cases hr'
  have n5:h≠l:=fun z=>by rw [← z,Ab] at hl; cases hl
  have n6:h≠o:=fun z=>by rw [← z,Ac n5,Ab] at ho; cases ho
  have n7:h≠r:=fun z=>by rw [← z,Ac n6,Ac n5,Ab] at hr'; cases hr'
  have n8:l≠o:=fun z=>by rw [← z,Ab] at ho; cases ho
  have n9:l≠r:=fun z=>by rw [← z,Ac n8,Ab] at hr'; cases hr'
  have na:o≠r:=fun z=>by rw [← z,Ab] at hr'; cases hr'
  have s1:=Ae (o:=.dK []) hp
  have s2:=Aj s1 (Ae (o:=.lst []) hh)
  have s3:=Aj s2 (Ae (o:=.dT []) hl)
  have s4:=Aj s3 (Ae (o:=.dT []) ho)
  have s5:=Aj s4 (Ae (o:=.dT []) hr')
  refine k p h o l r _ (fun b u e=>?_) hp (Dg s1 hh) (Dg s3 ho) (Dg s2 hl) (Dg s4 hr') ⟨Ab,⟨[],?_,.nil⟩,?_,?_,?_,fun q hq=>(by cases hq),?_⟩
  ·rw [Ac (Ar e hp)]; exact s5 _ _ e
  ·show upd _ _ _ h=_
   rw [Ac n1.symm,Ac n7,Ac n6,Ac n5,Ab]; rfl
  ·show upd _ _ _ o=_
   rw [Ac n3.symm,Ac na,Ab]; rfl
  ·show upd _ _ _ l=_
   rw [Ac n2.symm,Ac n9,Ac n8,Ab]; rfl
  ·show upd _ _ _ r=_
   rw [Ac n4.symm,Ab]; rfl
  ·simp [Am,n1,n2,n3,n4,n5,n6,n7,n8,n9,na,n8.symm,n9.symm,n5.symm]
def Qq (K:W.Frag):Sp:=fun vs H Q _=>∃ (p:Addr) (M:HGh) (hs:List T2) (os:List (T2×Int×List T2)) (rs:List (T2×Int)),vs=[.ref p]∧ModelAt H p M∧Good M∧Told M hs os rs∧M.holds.map (·.1)=M.outs.map (·.1) ∧
 ∀ (x:Addr) (H':Hp),B1 H H'→(∃ xs,H' x=some (.tup xs))→RepT K H' (.ref x) (stD hs os rs)→Q (.ref x) H'
theorem Xc {H:Hp} {d:Addr} {l:List (T2×Addr×List T2)} (h:H d=some (B6 l)):Rd H d (.dT ((l.map fun q=>(q.1,V.ref q.2.1)).map fun q=>(tk q.1,q.2))):=by
 have e:((l.map fun q=>(q.1,V.ref q.2.1)).map fun q=>(tk q.1,q.2))=l.map fun q=>(tk q.1,V.ref q.2.1):=by rw [List.map_map]; rfl
 rw [e]; exact .inl h
theorem Id {H:Hp} {d t:Addr} {l:List (T2×Addr×List T2)} {th:T2} {a:Addr} {hl:List T2} (hd:H d=some (B6 l)) (ht:H t=some (.tup (tv th))) (f:l.find? (fun q=>decide (q.1=th))=some (th,a,hl)):DGet H d (.ref t) (some (V.ref a)):=by
 have:=DGet.t (k:=tk th) hd ht
 rw [Ct (k:=fun q:T2×Addr×List T2=>q.1) (f:=fun q=>V.ref q.2.1),f] at this
 exact this
theorem C6 {H:Hp} {d t:Addr} {l:List (T2×Int)} {th:T2} {v:Int} (hd:H d=some (Bs l)) (ht:H t=some (.tup (tv th))) (f:l.find? (fun q=>decide (q.1=th))=some (th,v)):DGet H d (.ref t) (some (V.int v)):=by
 have:=Es hd ht
 rw [f] at this
 exact this
def Jbv (K:W.Frag):List V→Hp→VK→Prop:=fun xs H Q=>∃ p ys,xs=[.ref p]∧((SqL K H p ys∧∀ l,H l=none→Q (.ref l) (upd H l (.tup ys)))∨(SqT K H p ys∧Q (.ref p) H))
def Jbw:List V→Hp→VK→Prop:=fun xs H Q=>∃ (l:Addr) (as:List Addr) (ts ss:List T2),xs=[.ref l]∧H l=some (.lst (as.map V.ref))∧ThsAt H as ts∧ts.length < 64∧ss.Perm ts∧ss.Pairwise lt2 ∧
 ∀ (r:Addr) (as':List Addr),H r=none→ThsAt H as' ss→Q (.ref r) (upd H r (.lst (as'.map V.ref)))
def Ja3 (K:W.Frag):TE:=Sh (C3 (B8 0) (C3 (Ha (Ha (B8 1) (tC (.str "outs"))) (B8 0)) (C3 (tCB (Jbv K) (C3 (tCB Jbw (C3 (Ha (Ha (B8 1) (tC (.str "holds"))) (B8 0)) Ki)) Ki)) Ki)))
def Ja4:TE:=Sh (C3 (B8 0) (C3 (Ha (Ha (B8 1) (tC (.str "records"))) (B8 0)) Ki))
theorem scMS:Ay ["_law_model_here","_law_things","_law_records"] ["_law_model_here"] (Af Fa):={}
theorem Vs {f:Addr} {fd:FuncData} (F:Fun K "_law_state" "_law_state" Fa f fd) (T:Txt K mg C NHd NNr MI NW):FnOk P w K mg base CX0 1 f fd ["_law_model_here"] (Qq K):=by
 refine F.ok scMS (fun vs H Q E h=>?_) (fun cdv A outer s H vs Q E hr h=>?_)
 ·obtain ⟨p,M,hs,os,rs,rfl,_⟩:=h
  rfl
 ·obtain ⟨p,M,hs,os,rs,rfl,S,g,tld,ke,k⟩:=h
  have hu:=Bv hr
  refine ⟨_,Ad (Gp (te:=Ja3 K) (i:=1) (caps:=[("_law_model_here",0)]) scMS.nd rfl rfl rfl rfl (Cv (Bj (Bp rfl) (by rfl) T.sorted PyProof.Rows.boot_sorted (Aa (Al hu (pv 0) Ak) Ag)))
   rfl (by decide +kernel) rfl (by decide +kernel) rfl ⟨rfl,trivial⟩ (fun y h=>Jfm ⟨_,rfl⟩ h) ⟨⟨rfl,rfl,rfl,rfl⟩,trivial⟩ (by decide +kernel) (fun _ _ _ _ _=>Lg)
   (fun _ _ _ _ _=>A6 (Aa (pv 0) (Aa (Al hu (Al hu (pv 1) Ak) (pv 0)) (Aa (B2 B4 (by rfl) T.tuple PyProof.Rows.boot_tuple (Aa (Bj (F7 rfl) (by rfl) T.sorted PyProof.Rows.boot_sorted (Aa (Al hu (Al hu (pv 1) Ak) (pv 0)) Ag)) Ag)) Ag)))))
   (Ad (Gp (te:=Ja4) (i:=2) (caps:=[("_law_model_here",0)]) scMS.nd rfl rfl rfl rfl (Cv (Bj (Bp rfl) (by rfl) T.sorted PyProof.Rows.boot_sorted (Aa (Al hu (pv 0) Ak) Ag)))
    rfl (by decide +kernel) rfl (by decide +kernel) rfl ⟨rfl,trivial⟩ (fun y h=>Jg ⟨_,rfl⟩ h) ⟨⟨rfl,rfl,rfl,rfl⟩,trivial⟩ (by decide +kernel) (fun _ _ _ _ _=>Lg)
    (fun _ _ _ _ _=>A6 (Aa (pv 0) (Aa (Al hu (Al hu (pv 1) Ak) (pv 0)) Ag))))
   (Ah (Au (A6 (Aa (B2 B4 (by rfl) T.tuple PyProof.Rows.boot_tuple (Aa (Bj (F7 rfl) (by rfl) T.sorted PyProof.Rows.boot_sorted (Aa (Al hu (pv 0) Ak) Ag)) Ag))
    (Aa (B2 B4 (by rfl) T.tuple PyProof.Rows.boot_tuple (Aa (pv 1) Ag)) (Aa (B2 B4 (by rfl) T.tuple PyProof.Rows.boot_tuple (Aa (pv 2) Ag)) Ag))))))),?_⟩
  have hos:os.length < 64:=by
   have h1:=tld.rw_.pm.length_eq
   rw [List.length_map,List.length_map] at h1
   have:=g.o2
   lia
  have hrs:rs.length < 64:=by
   have h1:=tld.pr.length_eq
   have:=g.r2
   lia
  have hhl:M.holds.length < 64:=by
   have:=congrArg List.length ke
   rw [List.length_map,List.length_map] at this
   have:=g.o2
   lia
  refine ⟨_,rfl,p,_,rfl,S.gHolds,M.l,_,os.map (·.1),rfl,Xc S.dl,(by rw [List.length_map]; exact hhl),?_,tld.rw_.pw,fun r2 as2 hr2 ha2=>⟨r2,rfl,⟨_,SqL.of Ab⟩,fun q hq=>?_⟩⟩
  ·have e0:((M.holds.map fun q=>(q.1,V.ref q.2.1)).map (·.1))=M.holds.map (·.1):=by rw [List.map_map]; rfl
   rw [e0,ke]; exact tld.rw_.pm
  have s1:=Ae (o:=.lst (as2.map V.ref)) hr2
  have er2:(upd H r2 (.lst (as2.map V.ref))) r2=some (.lst (as2.map V.ref)):=Ab
  have ha2':ThsAt (upd H r2 (.lst (as2.map V.ref))) as2 (os.map (·.1)):=An (fun _ _ e=>s1 _ _ e) ha2
  have S1:=S.same s1
  generalize upd H r2 (.lst (as2.map V.ref))=H1 at s1 er2 ha2' S1 hq
  have hlen:as2.length=os.length:=by have:=Paired.length ha2; rw [List.length_map] at this; exact this
  refine F5 (K:=K) (a:=r2) (xs:=as2.map V.ref) (tt:=fun _ H Q=>Q true H) (te:=Ja3 K) (caps:=[("_law_model_here",0)]) (σ:=[some (.ref p),none,none]) (fun i ys H3=>H3 q=some (.lst ys)∧B1 H1 H3∧Paired (RepT K H3) ys ((os.take i).map Ik)) ⟨Ab,Ae hq,by rw [List.take_zero]; exact .nil⟩ (fun i ys H3 _ h=>⟨SqL.of (h.2.1 _ _ er2),h.1⟩) ?_ ?_
  ·rintro i x ys H3 N hx ⟨e3,s4,pr⟩ hN
   refine Bk ?_
   rw [List.getElem?_map] at hx
   cases hai:as2[i]? with
   | none=>rw [hai] at hx; cases hx
   | some ai =>
     rw [hai] at hx
     cases hx
     have hio:i < os.length:=by rw [← hlen]; exact (List.getElem?_eq_some_iff.mp hai).1
     obtain ⟨qo,hqo⟩:=Bd hio
     have eth:=A1 ha2' i ai qo.1 hai (by rw [List.getElem?_map,hqo]; rfl)
     obtain ⟨f1,a,hl,f2,f3,f4,f5⟩:=tld.rw_.at_ qo (List.mem_of_getElem? hqo)
     have S3:=S1.same s4
     have th3:=s4 _ _ eth
     obtain ⟨bs,eb,tb⟩:=S3.hl _ (List.mem_of_find?_eq_some f2)
     refine ⟨_,rfl,_,rfl,p,_,rfl,S3.gOuts,_,rfl,M.o,_,rfl,C6 S3.dO th3 f1,_,rfl,p,_,rfl,S3.gHolds,_,rfl,M.l,_,rfl,Id S3.dl th3 f2,a,bs,hl,qo.2.2,rfl,eb,tb,f3,f4,f5,fun r as hr ha=>?_⟩
     refine ⟨r,_,rfl,.inl ⟨SqL.of Ab,fun x2 hx2=>⟨(by show 3≤sizeLine; decide),fun x hx=>?_⟩⟩⟩
     have t1:=Ae (o:=.lst (as.map V.ref)) hr
     have t2:=Ae (o:=.tup (as.map V.ref)) hx2
     have t3:=Ae (o:=.tup [V.ref ai,V.int qo.2.1,V.ref x2]) hx
     have tt:=Aj t1 (Aj t2 t3)
     have rep:RepT K (upd (upd (upd H3 r (.lst (as.map V.ref))) x2 (.tup (as.map V.ref))) x (.tup [V.ref ai,V.int qo.2.1,V.ref x2])) (.ref x) (Ik qo) :=
      .tupP (SqT.of Ab) (.cons (Hf (tt _ _ th3)) (.cons (.int _) (.cons (.tupP (SqT.of (t3 _ _ Ab)) (Ic (An (fun _ _ e=>tt _ _ e) ha))) .nil)))
     generalize upd (upd (upd H3 r (.lst (as.map V.ref))) x2 (.tup (as.map V.ref))) x (.tup [V.ref ai,V.int qo.2.1,V.ref x2])=H5 at tt rep
     refine ⟨tt _ _ e3,?_,hN _ _ ⟨Ab,fun b o e=>?_,?_⟩⟩
     ·have:=Paired.length pr
      rw [this,List.length_map]
      exact A0 (Nat.le_trans (List.length_take_le _ _) (by lia))
     ·rw [Ac (Ar e hq)]; exact tt _ _ (s4 _ _ e)
     ·have kq:KeepT H5 (upd H5 q (.lst (ys++[V.ref x]))):=KeepT.upd fun o' e=>by
       rw [tt _ _ e3] at e; cases e; exact ⟨fun _ z=>(by cases z),fun _ _ z=>(by cases z)⟩
      have et:(os.take (i + 1)).map Ik=(os.take i).map Ik++[Ik qo]:=by
       rw [List.take_add_one,hqo,List.map_append]; rfl
      rw [et]
      exact D6 (rep.keep kq) (An (fun _ _ r=>(r.keep (KeepT.of_same tt)).keep kq) pr)
  ·rintro ys H3 ⟨e3,s4,pr⟩
   rw [List.length_map,hlen,List.take_length] at pr
   have S3:=S1.same s4
   have ss3:=Aj s1 s4
   refine ⟨_,rfl,p,_,rfl,S3.gRecs,M.r,_,rs.map (·.1),rfl,P9 S3.dr,(by rw [List.length_map]; exact g.r2),?_,tld.wr,fun r4 as4 hr4 ha4=>⟨r4,rfl,⟨_,SqL.of Ab⟩,fun q2 hq2=>?_⟩⟩
   ·have e0:((M.recs.map fun q=>(q.1,V.int q.2)).map (·.1))=M.recs.map (·.1):=by rw [List.map_map]; rfl
    rw [e0]; exact tld.pr.map _
   have s5:=Ae (o:=.lst (as4.map V.ref)) hr4
   have er4:(upd H3 r4 (.lst (as4.map V.ref))) r4=some (.lst (as4.map V.ref)):=Ab
   have ha4':ThsAt (upd H3 r4 (.lst (as4.map V.ref))) as4 (rs.map (·.1)):=An (fun _ _ e=>s5 _ _ e) ha4
   have S4:=S3.same s5
   have e4:=s5 _ _ e3
   have pr4:Paired (RepT K (upd H3 r4 (.lst (as4.map V.ref)))) ys (os.map Ik):=An (fun _ _ r=>r.keep (KeepT.of_same s5)) pr
   have ss4:=Aj ss3 s5
   generalize upd H3 r4 (.lst (as4.map V.ref))=H4 at s5 er4 ha4' S4 hq2 e4 pr4 ss4
   have hlen4:as4.length=rs.length:=by have:=Paired.length ha4; rw [List.length_map] at this; exact this
   refine F5 (K:=K) (a:=r4) (xs:=as4.map V.ref) (tt:=fun _ H Q=>Q true H) (te:=Ja4) (caps:=[("_law_model_here",0)]) (σ:=[some (.ref p),some (.ref q),none]) (fun i zs H5=>H5 q2=some (.lst zs)∧B1 H4 H5∧Paired (RepT K H5) zs ((rs.take i).map Kk)) ⟨Ab,Ae hq2,by rw [List.take_zero]; exact .nil⟩ (fun i ys H3 _ h=>⟨SqL.of (h.2.1 _ _ er4),h.1⟩) ?_ ?_
   ·rintro i x zs H5 N hx ⟨e5,s6,pz⟩ hN
    refine Bk ?_
    rw [List.getElem?_map] at hx
    cases hai:as4[i]? with
    | none=>rw [hai] at hx; cases hx
    | some ai =>
      rw [hai] at hx
      cases hx
      have hio:i < rs.length:=by rw [← hlen4]; exact (List.getElem?_eq_some_iff.mp hai).1
      obtain ⟨qo,hqo⟩:=Bd hio
      have eth:=A1 ha4' i ai qo.1 hai (by rw [List.getElem?_map,hqo]; rfl)
      have fr:M.recs.find? (fun z=>decide (z.1=qo.1))=some (qo.1,qo.2):=find_self g.r1 (tld.pr.mem_iff.mp (List.mem_of_getElem? hqo))
      have S5:=S4.same s6
      have th5:=s6 _ _ eth
      refine ⟨_,rfl,_,rfl,p,_,rfl,S5.gRecs,_,rfl,M.r,_,rfl,C6 S5.dr th5 fr,(by show 2≤sizeLine; decide),fun x hx=>?_⟩
      have tt:=Ae (o:=.tup [V.ref ai,V.int qo.2]) hx
      have rep:RepT K (upd H5 x (.tup [V.ref ai,V.int qo.2])) (.ref x) (Kk qo):=.tupP (SqT.of Ab) (.cons (Hf (tt _ _ th5)) (.cons (.int _) .nil))
      generalize upd H5 x (.tup [V.ref ai,V.int qo.2])=H6 at tt rep
      refine ⟨tt _ _ e5,?_,hN _ _ ⟨Ab,fun b o e=>?_,?_⟩⟩
      ·have:=Paired.length pz
       rw [this,List.length_map]
       exact A0 (Nat.le_trans (List.length_take_le _ _) (by lia))
      ·rw [Ac (Ar e hq2)]; exact tt _ _ (s6 _ _ e)
      ·have kq:KeepT H6 (upd H6 q2 (.lst (zs++[V.ref x]))):=KeepT.upd fun o' e=>by
        rw [tt _ _ e5] at e; cases e; exact ⟨fun _ z=>(by cases z),fun _ _ z=>(by cases z)⟩
       have et:(rs.take (i + 1)).map Kk=(rs.take i).map Kk++[Kk qo]:=by
        rw [List.take_add_one,hqo,List.map_append]; rfl
       rw [et]
       exact D6 (rep.keep kq) (An (fun _ _ r=>(r.keep (KeepT.of_same tt)).keep kq) pz)
   ·rintro zs H5 ⟨e5,s6,pz⟩
    rw [List.length_map,hlen4,List.take_length] at pz
    have S5:=S4.same s6
    obtain ⟨bs,eb,tb⟩:=S5.dh
    refine ⟨_,rfl,p,_,rfl,S5.gHand,M.h,bs,M.hand,hs,rfl,eb,tb,g.h2,tld.pm,tld.pw,fun r6 as6 hr6 ha6=>?_⟩
    refine ⟨r6,_,rfl,.inl ⟨SqL.of Ab,fun x1 hx1=>?_⟩⟩
    have u1:=Ae (o:=.lst (as6.map V.ref)) hr6
    have u2:=Ae (o:=.tup (as6.map V.ref)) hx1
    have u12:=Aj u1 u2
    refine ⟨_,rfl,q,_,rfl,.inl ⟨SqL.of (u12 _ _ (s6 _ _ e4)),fun x2 hx2=>?_⟩⟩
    have u3:=Ae (o:=.tup ys) hx2
    have u13:=Aj u12 u3
    refine ⟨_,rfl,q2,_,rfl,.inl ⟨SqL.of (u13 _ _ e5),fun x3 hx3=>⟨(by show 3≤sizeLine; decide),fun x hx=>?_⟩⟩⟩
    have u4:=Ae (o:=.tup zs) hx3
    have u5:=Ae (o:=.tup [V.ref x1,V.ref x2,V.ref x3]) hx
    have u35:=Aj u3 (Aj u4 u5)
    have u15:=Aj u12 u35
    refine k x _ (Aj ss4 (Aj s6 u15)) ⟨_,Ab⟩ ?_
    exact .tupP (SqT.of Ab) (.cons (.tupP (SqT.of (u35 _ _ Ab)) (Ic (An (fun _ _ e=>u15 _ _ e) ha6)))
     (.cons (.tupP (SqT.of ((Aj u4 u5) _ _ Ab)) (An (fun _ _ r=>r.keep (KeepT.of_same (Aj s6 u15))) pr4)) (.cons (.tupP (SqT.of (u5 _ _ Ab)) (An (fun _ _ r=>r.keep (KeepT.of_same u15)) pz)) .nil)))
end
theorem Cc {Q:VK} {H:Hp} {b l:Addr} {tb:T2} {as:List Addr} {ts:List T2} (hb:H b=some (.tup (tv tb))) (hl:H l=some (.lst (as.map V.ref))) (th:ThsAt H as ts) (q:(tb∉ts→Q (.bl true) H)∧(tb∈ts→Q (.bl false) H)):Jby true (.ref b) (.ref l) H Q:=by
 refine ⟨b,l,tb,as,ts,rfl,rfl,hb,hl,th,?_⟩
 by_cases h:tb∈ts
 ·have:=q.2 h
  simpa [h] using this
 ·have:=q.1 h
  simpa [h] using this
theorem Ex {H:Hp} {as:List Addr} {ts:List T2} {a:Addr} {t:T2} (h:H a=some (.tup (tv t))) (x:ThsAt H as ts):ThsAt H (as++[a]) (ts++[t]):=by
 exact D6 (R:=fun (a:Addr) (t:T2)=>H a=some (.tup (tv t))) h x
theorem Cu (x:Str):decide (V.str x=V.str x)=true:=by simp
theorem Kj {x y:Str} (h:¬ x=y):decide (V.str x=V.str y)=false:=decide_eq_false fun z=>h (V.str.inj z)
theorem Jdh (x:Str):(!decide (V.str x=V.str x))=false:=by simp
theorem W7 {x y:Str} (h:¬ x=y):(!decide (V.str x=V.str y))=true:=by rw [Kj h]; rfl
theorem N4:¬ (("drop":Str)="hold"):=by decide +kernel
theorem N3:¬ (("take":Str)="hold"):=by decide +kernel
theorem Jc4:¬ (("hold":Str)="drop"):=by decide +kernel
theorem Jbg:¬ (("take":Str)="drop"):=by decide +kernel
theorem Jc3:¬ (("hold":Str)="take"):=by decide +kernel
theorem Jea:¬ (("drop":Str)="take"):=by decide +kernel
section
variable {P:Program} {w:World} {K:W.Frag} {mg:Str→Option Value} {base:Heap} {C NHd NNr MI NW:Addr}
def T5:Sp:=fun vs H Q _=>∃ (p:Addr) (M:HGh) (n:Nat),vs=[.ref p]∧ModelAt H p M∧Ok M n∧n≤500 ∧
 ∀ (x t a:Addr) (H':Hp),H a=none→H' x=some (.tup [.str "told",.ref t])→H' t=some (.tup (tv (M.num,M.made)))→ModelAt H' p (mkG M a)→HFr p M H H'→Q (.ref x) H'
theorem scMM:Ay ["_law_model_here","_law_thing"] ["_law_model_here"] (Af Ir):={}
theorem X2 {f:Addr} {fd:FuncData} (F:Fun K "_law_made" "_law_made" Ir f fd):FnOk P w K mg base CX0 1 f fd ["_law_model_here"] T5:=by
 refine F.ok scMM (fun vs H Q E h=>?_) (fun cdv A outer s H vs Q E hr h=>?_)
 ·obtain ⟨p,M,n,rfl,_⟩:=h
  rfl
 ·obtain ⟨p,M,n,rfl,S,ok,hn,k⟩:=h
  have hu:=Bv hr
  have z1:=ok.hz
  have z2:=ok.oz
  have z3:=ok.lens
  obtain ⟨f1,f2,f3⟩:=ok.fresh
  refine ⟨_,Ad (A3 (i:=1) scMM.nd rfl (Or.inl rfl) (A6 (Aa (Al hu (pv 0) Ak) (Aa (Al hu (pv 0) Ak) Ag))))
   (Ad (B9 hu (pv 0) Ak (Aw Ce (Al hu (pv 0) Ak) Ai) rfl)
   (Ad (B9 hu (Al hu (pv 0) Ak) (pv 1) (Hn Ag) rfl)
   (Ad (B9 hu (Al hu (pv 0) Ak) (pv 1) Ai rfl)
   (Ad (Ba (Fx PySem.F.plainAttrs_list PySem.F.slot_list_append PySem.F.type_list_append Di (Al hu (pv 0) Ak) (Aa (pv 1) Ag)))
   (Ah (Au (A6 (Aa Ak (Aa (pv 1) Ag))))))))),?_⟩
  refine ⟨_,rfl,p,_,rfl,S.gHouse,_,rfl,p,_,rfl,S.gMade,(by show 2≤sizeLine; decide),fun t ht=>?_⟩
  have s1:=Ae (o:=.tup [V.int M.num,V.int M.made]) ht
  have S1:=S.same s1
  have t1:(upd H t (.tup [V.int M.num,V.int M.made])) t=some (.tup (tv (M.num,M.made))):=Ab
  generalize upd H t (.tup [V.int M.num,V.int M.made])=H1 at s1 S1 t1
  refine ⟨_,rfl,p,_,rfl,S1.gMade,_,_,rfl,rfl,_,rfl,p,_,rfl,S1.pMade (M.made + 1),?_⟩
  have S2:ModelAt (upd H1 p (.dK (Bt { M with made:=M.made + 1 }))) p { M with made:=M.made + 1 }:=S1.fld (M.made + 1) M.ticks
  have fr2:∀ b o,H1 b=some o→b≠p→(upd H1 p (.dK (Bt { M with made:=M.made + 1 }))) b=some o:=fun b o e hb=>by rw [Ac hb]; exact e
  have tp:=S1.tup_ne t1
  have t2:=fr2 _ _ t1 tp.1
  generalize upd H1 p (.dK (Bt { M with made:=M.made + 1 }))=H2 at S2 fr2 t2
  refine ⟨Nat.zero_le _,fun a ha=>?_⟩
  have s3:=Ae (o:=.lst []) ha
  have S3:=S2.same s3
  have a3:(upd H2 a (.lst [])) a=some (.lst []):=Ab
  have t3:=s3 _ _ t2
  have an:=S2.new_ne ha
  generalize upd H2 a (.lst [])=H3 at s3 S3 a3 t3
  refine ⟨_,rfl,p,_,rfl,S3.gHolds,_,rfl,M.l,_,rfl,DPut.t (k:=tk (M.num,M.made)) S3.dl t3 (by rw [List.length_map]; exact A0 (by show M.holds.length≤1000; lia)),?_⟩
  have e5:putK (M.holds.map fun (q:T2×Addr×List T2)=>(tk q.1,V.ref q.2.1)) (tk (M.num,M.made)) (V.ref a)=(M.holds++[((M.num,M.made),a,[])]).map fun (q:T2×Addr×List T2)=>(tk q.1,V.ref q.2.1):=by
   rw [Gm (k:=fun q:T2×Addr×List T2=>q.1) (f:=fun q=>V.ref q.2.1) _ f3,List.map_append]; rfl
  have S4:=S3.addHold (M.num,M.made) a3 an.2
  unfold B6 at S4
  rw [← e5] at S4
  have tn:=S3.tup_ne t3
  have fr4:∀ b o,H3 b=some o→b∉Am M→(upd H3 M.l (.dT (putK (M.holds.map fun (q:T2×Addr×List T2)=>(tk q.1,V.ref q.2.1)) (tk (M.num,M.made)) (V.ref a)))) b=some o:=fun b o e hb=>by rw [Ac (fun z=>hb (by rw [z]; simp [Am]))]; exact e
  have t4:=fr4 _ _ t3 tn.2
  generalize (upd H3 M.l (.dT (putK (M.holds.map fun (q:T2×Addr×List T2)=>(tk q.1,V.ref q.2.1)) (tk (M.num,M.made)) (V.ref a))))=H4 at S4 fr4 t4
  refine ⟨_,rfl,p,_,rfl,S4.gOuts,_,rfl,M.o,_,rfl,DPut.t (k:=tk (M.num,M.made)) S4.dO t4 (by rw [List.length_map]; exact A0 (by show M.outs.length≤1000; lia)),?_⟩
  have e3:putK (M.outs.map fun (q:T2×Int)=>(tk q.1,V.int q.2)) (tk (M.num,M.made)) (V.int 0)=(M.outs++[((M.num,M.made),0)]).map fun (q:T2×Int)=>(tk q.1,V.int q.2):=by
   rw [Gm (k:=fun q:T2×Int=>q.1) (f:=fun q=>V.int q.2) _ f2,List.map_append]; rfl
  have S5:=S4.setOuts (M.outs++[((M.num,M.made),0)])
  unfold Bs at S5
  rw [← e3] at S5
  have fr5:∀ b o,H4 b=some o→b∉Am M→(upd H4 M.o (.dT (putK (M.outs.map fun (q:T2×Int)=>(tk q.1,V.int q.2)) (tk (M.num,M.made)) (V.int 0)))) b=some o:=fun b o e hb=>by rw [Ac (fun z=>hb (by rw [z]; simp [Am]))]; exact e
  have t5:=fr5 _ _ t4 tn.2
  generalize (upd H4 M.o (.dT (putK (M.outs.map fun (q:T2×Int)=>(tk q.1,V.int q.2)) (tk (M.num,M.made)) (V.int 0))))=H5 at S5 fr5 t5
  obtain ⟨as,eh,th⟩:=S5.dh
  have th:ThsAt H5 as M.hand:=th
  have hlen:as.length≤500:=by have:=Paired.length th; lia
  refine ⟨_,rfl,p,_,rfl,S5.gHand,.inl ⟨rfl,_,SqL.of eh⟩,_,rfl,M.h,_,_,rfl,rfl,eh,(by rw [List.length_map]; exact A0 (by lia)),?_⟩
  have e6:as.map V.ref++[V.ref t]=(as++[t]).map V.ref:=by rw [List.map_append]; rfl
  rw [e6]
  have S6:=S5.setHand (as:=as++[t]) (ts:=M.hand++[(M.num,M.made)]) (Ex t5 th)
  have fr6:∀ b o,H5 b=some o→b∉Am M→(upd H5 M.h (.lst ((as++[t]).map V.ref))) b=some o:=fun b o e hb=>by rw [Ac (fun z=>hb (by rw [z]; simp [Am]))]; exact e
  have t6:=fr6 _ _ t5 tn.2
  have S6:ModelAt (upd H5 M.h (.lst ((as++[t]).map V.ref))) p (mkG M a):=S6
  generalize (upd H5 M.h (.lst ((as++[t]).map V.ref)))=H6 at S6 fr6 t6
  refine ⟨_,rfl,(by show 2≤sizeLine; decide),fun x hx=>?_⟩
  have s7:=Ae (o:=.tup [V.str "told",V.ref t]) hx
  refine k x t a _ ?_ Ab (s7 _ _ t6) (S6.same s7) fun b o e hb hf=>s7 _ _ (fr6 _ _ (fr5 _ _ (fr4 _ _ (s3 _ _ (fr2 _ _ (s1 _ _ e) hb)) hf) hf) hf)
  cases q:H a with
  | none=>rfl
  | some u =>
    exfalso
    have:H2 a=some u:=fr2 _ _ (s1 _ _ q) an.1
    rw [ha] at this; cases this
def Qr:Sp:=fun vs H Q _=>∃ (p b:Addr) (M:HGh) (n:Nat) (tb:T2),vs=[.ref p,.ref b]∧ModelAt H p M∧Ok M n∧H b=some (.tup (tv tb)) ∧
 ∀ (x:Addr) (H':Hp),H' x=some (.tup [.str (Cj M tb).1,.non])→ModelAt H' p (Cj M tb).2→HFr p M H H'→Q (.ref x) H'
theorem Je2:Ay ["_law_model_here","_law_b"] ["_law_model_here","_law_b"] (Af Gk):={}
theorem Dq {p:Addr} {M:HGh} {H:Hp} {o:HO} {d:Addr} (hd:d∈Am M):HFr p M H (upd H d o):=fun b u e _ h2=>by
 rw [Ac (fun z=>h2 (by rw [z]; exact hd))]; exact e
theorem Vt {f:Addr} {fd:FuncData} (F:Fun K "_law_freed" "_law_freed" Gk f fd):FnOk P w K mg base CX0 1 f fd ["_law_model_here","_law_b"] Qr:=by
 refine F.ok Je2 (fun vs H Q E h=>?_) (fun cdv A outer s H vs Q E hr h=>?_)
 ·obtain ⟨p,b,M,n,tb,rfl,_⟩:=h
  rfl
 ·obtain ⟨p,b,M,n,tb,rfl,S,ok,hb,k⟩:=h
  have hu:=Bv hr
  obtain ⟨as,eh,th⟩:=S.dh
  refine ⟨_,Ad (A5 (Ap (A8 (E7 hr)) (pv 1) (Al hu (pv 0) Ak) rfl) (Ah (Au (A6 (Aa Ak (Aa Dy Ag))))) Aq)
   (Ad (Ba (Fx PySem.F.plainAttrs_list PySem.F.slot_list_remove PySem.F.type_list_remove (Mx (E7 hr)) (Al hu (pv 0) Ak) (Aa (pv 1) Ag)))
   (Ah (Au (A6 (Aa Ak (Aa Dy Ag)))))),?_⟩
  refine ⟨_,rfl,_,rfl,p,_,rfl,S.gHand,Cc hb eh th ⟨fun h1=>⟨_,rfl,Bk ?_⟩,fun h1=>⟨_,rfl,Be ?_⟩⟩⟩
  ·refine ⟨(by show 2≤sizeLine; decide),fun x hx=>?_⟩
   have s1:=Ae (o:=.tup [V.str "NotHeld",V.non]) hx
   have e:Cj M tb=(("NotHeld":Str),M):=by unfold Cj; rw [if_pos h1]
   exact k x _ (by rw [e]; exact Ab) (by rw [e]; exact S.same s1) fun b o e _ _=>s1 _ _ e
  ·obtain ⟨j,hj,hno⟩:=Q2 ok.hn h1
   refine ⟨_,rfl,p,_,rfl,S.gHand,.inl ⟨rfl,_,SqL.of eh⟩,_,rfl,M.h,b,tb,as,M.hand,j,rfl,rfl,hb,eh,th,hj,hno,?_⟩
   have S1:=S.setHand (as:=as.eraseIdx j) (ts:=Dr M.hand tb) (by rw [← O8 ok.hn hj]; exact Kh th j)
   have fr1:HFr p M H (upd H M.h (.lst ((as.eraseIdx j).map V.ref))):=Dq (by simp [Am])
   generalize upd H M.h (.lst ((as.eraseIdx j).map V.ref))=H1 at S1 fr1
   refine ⟨(by show 2≤sizeLine; decide),fun x hx=>?_⟩
   have s1:=Ae (o:=.tup [V.str "told",V.non]) hx
   have e:Cj M tb=(("told":Str),{ M with hand:=Dr M.hand tb }):=by unfold Cj; rw [if_neg (fun z=>z h1)]
   exact k x _ (by rw [e]; exact Ab) (by rw [e]; exact S1.same s1) fun b o e h1 h2=>s1 _ _ (fr1 _ _ e h1 h2)
def T7:Sp:=fun vs H Q _=>∃ (p a b:Addr) (word:Str) (M:HGh) (n:Nat) (ta tb:T2),vs=[.ref p,.str word,.ref a,.ref b]∧(word="hold"∨word="drop"∨word="take")∧ModelAt H p M∧Ok M n∧n≤500∧H a=some (.tup (tv ta))∧H b=some (.tup (tv tb)) ∧
 ∀ (x:Addr) (H':Hp),H' x=some (.tup [.str (Az M word ta tb).1,.non])→ModelAt H' p (Az M word ta tb).2→HFr p M H H'→Q (.ref x) H'
theorem scMH:Ay ["_law_model_here","_law_word","_law_a","_law_b","_law_held_here"] ["_law_model_here","_law_word","_law_a","_law_b"] (Af Iv):={}
theorem X4 {f:Addr} {fd:FuncData} (F:Fun K "_law_held" "_law_held" Iv f fd):FnOk P w K mg base CX0 1 f fd ["_law_model_here","_law_word","_law_a","_law_b"] T7:=by
 refine F.ok scMH (fun vs H Q E h=>?_) (fun cdv A outer s H vs Q E hr h=>?_)
 ·obtain ⟨p,a,b,word,M,n,ta,tb,rfl,_⟩:=h
  rfl
 ·obtain ⟨p,a,b,word,M,n,ta,tb,rfl,hw,S,ok,hn,ha,hb,k⟩:=h
  have hu:=Bv hr
  obtain ⟨as,eh,th⟩:=S.dh
  have ni:=fun {X:Cx} (h:X.A.units + 64 < cLine)=>A8 h
  refine ⟨_,Ad (A5 (PW.pt (Ja8 (Ap (A8 (E7 hr)) (pv 2) (Al hu (pv 0) Ak) rfl) (Xh (PW.pt (Mg (Ap By (pv 1) Ak (A4 _)) (Jq (Ap (A8 (E7 hr)) (pv 3) (Al hu (pv 0) Ak) rfl))))))) (Ah (Au (A6 (Aa Ak (Aa Dy Ag))))) Aq)
   (Ad (A5 (Ap Xu (Bm Bg (pv 2) Ai) (Al hu (pv 0) Ak) (A4 _)) (Ah (Au (A6 (Aa Ak (Aa Dy Ag))))) Aq)
   (Ad (A3 (i:=4) scMH.nd rfl (Or.inl rfl) (Al hu (Al hu (pv 0) Ak) (pv 2)))
   (Ad (A5 (PW.pt (Mg (Ap Xu (pv 1) Ak (A4 _)) (Jq (Ap (A8 (E7 hr)) (pv 3) (pv 4) rfl)))) (Ah (Au (A6 (Aa Ak (Aa Dy Ag))))) Aq)
   (Ad (A5 (PW.pt (Mg (Ap By (pv 1) Ak (A4 _)) (Jq (Ap (A8 (E7 hr)) (pv 3) (pv 4) rfl)))) (Ah (Ba (Fx PySem.F.plainAttrs_list PySem.F.slot_list_append PySem.F.type_list_append Di (pv 4) (Aa (pv 3) Ag)))) Aq)
   (Ad (A5 (Ap By (pv 1) Ak (A4 _)) (Ah (Ba (Fx PySem.F.plainAttrs_list PySem.F.slot_list_remove PySem.F.type_list_remove (Mx (E7 hr)) (pv 4) (Aa (pv 3) Ag)))) Aq)
   (Ad (A5 (PW.pt (Mg (Ap By (pv 1) Ak (A4 _)) (Jq (Ap (A8 (E7 hr)) (pv 3) (Al hu (pv 0) Ak) rfl)))) (Ah (Ba (Fx PySem.F.plainAttrs_list PySem.F.slot_list_append PySem.F.type_list_append Di (Al hu (pv 0) Ak) (Aa (pv 3) Ag)))) Aq)
   (Ah (Au (A6 (Aa Ak (Aa Dy Ag))))))))))),?_⟩
  have stop:∀ {r:Str},Az M word ta tb=(r,M)→∀ x,H x=none→Q (.ref x) (upd H x (.tup [V.str r,V.non])):=fun {r} e x hx=>by
   have s1:=Ae (o:=.tup [V.str r,V.non]) hx
   exact k x _ (by rw [e]; exact Ab) (by rw [e]; exact S.same s1) fun b o e _ _=>s1 _ _ e
  have done:∀ {M':HGh} {H1:Hp},Az M word ta tb=(("told":Str),M')→ModelAt H1 p M'→HFr p M H H1→∀ x,H1 x=none→Q (.ref x) (upd H1 x (.tup [V.str "told",V.non])):=fun {M' H1} e S1 fr1 x hx=>by
   have s1:=Ae (o:=.tup [V.str "told",V.non]) hx
   exact k x _ (by rw [e]; exact Ab) (by rw [e]; exact S1.same s1) fun b o e h1 h2=>s1 _ _ (fr1 _ _ e h1 h2)
  have two:(2:Nat)≤sizeLine:=by decide
  refine ⟨_,rfl,_,rfl,p,_,rfl,S.gHand,Cc ha eh th ⟨fun h1=>⟨_,rfl,Bk (Bk ⟨two,stop ?_⟩)⟩,fun h1=>⟨_,rfl,Be ?_⟩⟩⟩
  ·unfold Az; rw [if_pos (.inl h1)]
  have go:¬ (word="hold"∧tb∉M.hand)→∀ {R:Prop},(ta.1≠M.num→R)→(∀ (ad:Addr),ta.1=M.num→M.holds.find? (fun q=>decide (q.1=ta))=some (ta,ad,getH M.holds ta)→R)→R:=fun _ {R} r1 r2=>by
   by_cases h:ta.1=M.num
   ·obtain ⟨ad,fd⟩:=ok.find h1 h
    exact r2 ad h fd
   ·exact r1 h
  have nh:∀ {x:Int},ta.1=M.num→(!decide (V.int ta.1=V.int M.num))=false:=fun h=>by rw [h]; simp
  have nn:ta.1≠M.num→(!decide (V.int ta.1=V.int M.num))=true:=fun h=>by
   rw [decide_eq_false fun z=>h (V.int.inj z)]; rfl
  have ka:(M.holds.map (·.2.1)).Nodup:=by
   have:=(List.nodup_cons.mp S.nd).2
   unfold Am at this
   simp only [List.nodup_cons] at this
   exact this.2.2.2.2
  have kt:(M.holds.map (·.1)).Nodup:=by rw [ok.ke]; exact ok.on
  rcases hw with rfl | rfl | rfl
  ·
   refine ⟨_,rfl,rfl,_,rfl,?_⟩
   rw [Cu]
   refine Bk ⟨_,rfl,_,rfl,p,_,rfl,S.gHand,Cc hb eh th ⟨fun h2=>⟨_,rfl,Bk ⟨two,stop ?_⟩⟩,fun h2=>⟨_,rfl,Be ?_⟩⟩⟩
   ·unfold Az; rw [if_pos (.inr ⟨rfl,h2⟩)]
   have c1:¬ (ta∉M.hand∨(("hold":Str)="hold"∧tb∉M.hand)):=fun z=>z.elim (fun z=>z h1) fun z=>z.2 h2
   refine ⟨_,rfl,a,_,_,_,rfl,rfl,SqT.of ha,rfl,_,rfl,p,_,rfl,S.gHouse,rfl,_,rfl,?_⟩
   refine go (fun z=>z.2 h2) (fun h3=>?_) fun ad h3 fd=>?_
   ·rw [nn h3]
    exact Bk ⟨two,stop (by unfold Az; rw [if_neg c1,if_pos h3])⟩
   rw [nh (x:=0) h3]
   have c2:¬ (ta.1≠M.num):=fun z=>z h3
   have c3:¬ (("hold":Str)≠"hold"∧tb∉getH M.holds ta):=fun z=>z.1 rfl
   have e:Az M "hold" ta tb=(("told":Str),{ M with holds:=Fu M.holds ta (Bf (getH M.holds ta) tb) }):=by unfold Az; rw [if_neg c1,if_neg c2,if_neg c3,if_pos rfl]
   obtain ⟨bs,eb,tb'⟩:=S.hl _ (List.mem_of_find?_eq_some fd)
   have eb:H ad=some (.lst (bs.map V.ref)):=eb
   refine Be ⟨_,rfl,p,_,rfl,S.gHolds,_,rfl,M.l,_,rfl,Id S.dl ha fd,?_⟩
   refine ⟨_,rfl,rfl,_,rfl,?_⟩
   rw [Jdh]
   refine Be (Be ⟨_,rfl,rfl,_,rfl,?_⟩)
   rw [Cu]
   have rest:∀ {H1:Hp},ModelAt H1 p { M with holds:=Fu M.holds ta (Bf (getH M.holds ta) tb) }→HFr p M H H1→∀ x,H1 x=none→Q (.ref x) (upd H1 x (.tup [V.str "told",V.non])):=fun S1 fr1=>done e S1 fr1
   refine Bk ⟨_,rfl,_,rfl,Cc hb eb tb' ⟨fun h4=>⟨_,rfl,Bk ?_⟩,fun h4=>⟨_,rfl,Be ?_⟩⟩⟩
   ·have h4:tb∉getH M.holds ta:=h4
    have hlen:bs.length≤500:=by
     have h5:=Paired.length tb'
     have h6:=(ok.get ta).2.1
     have h5:bs.length=(getH M.holds ta).length:=h5
     lia
    refine ⟨_,rfl,.inl ⟨rfl,_,SqL.of eb⟩,_,rfl,ad,_,_,rfl,rfl,eb,(by rw [List.length_map]; exact A0 (by lia)),?_⟩
    have e6:bs.map V.ref++[V.ref b]=(bs++[b]).map V.ref:=by rw [List.map_append]; rfl
    rw [e6]
    have S1:=S.setHold (List.mem_of_find?_eq_some fd) (as:=bs++[b]) (ts:=getH M.holds ta++[tb]) (Ex hb tb')
    have S1:ModelAt (upd H ad (.lst ((bs++[b]).map V.ref))) p { M with holds:=Eb M.holds ad (getH M.holds ta++[tb]) }:=S1
    rw [Ft ka kt fd] at S1
    have fr1:HFr p M H (upd H ad (.lst ((bs++[b]).map V.ref))):=Dq (C5 (List.mem_of_find?_eq_some fd))
    have ea:Bf (getH M.holds ta) tb=getH M.holds ta++[tb]:=by unfold Bf; rw [if_neg h4]
    rw [← ea] at S1
    generalize upd H ad (.lst ((bs++[b]).map V.ref))=H1 at S1 fr1
    refine ⟨_,rfl,rfl,_,rfl,?_⟩
    rw [Kj Jc4]
    refine Be ⟨_,rfl,rfl,_,rfl,?_⟩
    rw [Kj Jc3]
    exact Be (Be ⟨two,rest S1 fr1⟩)
   ·have h4:tb∈getH M.holds ta:=h4
    have ea:Bf (getH M.holds ta) tb=getH M.holds ta:=by unfold Bf; rw [if_pos h4]
    have S1:=S.setHold (List.mem_of_find?_eq_some fd) (as:=bs) (ts:=getH M.holds ta) tb'
    have S1:ModelAt (upd H ad (.lst (bs.map V.ref))) p { M with holds:=Eb M.holds ad (getH M.holds ta) }:=S1
    rw [Ft ka kt fd] at S1
    have eu:upd H ad (.lst (bs.map V.ref))=H:=by
     funext c
     by_cases z:c=ad
     ·rw [z,Ab,eb]
     ·rw [Ac z]
    rw [eu,← ea] at S1
    rw [ea] at S1
    refine ⟨_,rfl,rfl,_,rfl,?_⟩
    rw [Kj Jc4]
    refine Be ⟨_,rfl,rfl,_,rfl,?_⟩
    rw [Kj Jc3]
    exact Be (Be ⟨two,rest (by rw [ea]; exact S1) fun b o e _ _=>e⟩)
  ·
   refine ⟨_,rfl,rfl,_,rfl,?_⟩
   rw [Kj N4]
   have c1:¬ (ta∉M.hand∨(("drop":Str)="hold"∧tb∉M.hand)):=fun z=>z.elim (fun z=>z h1) fun z=>N4 z.1
   refine Be (Be ⟨_,rfl,a,_,_,_,rfl,rfl,SqT.of ha,rfl,_,rfl,p,_,rfl,S.gHouse,rfl,_,rfl,?_⟩)
   refine go (fun z=>N4 z.1) (fun h3=>?_) fun ad h3 fd=>?_
   ·rw [nn h3]
    exact Bk ⟨two,stop (by unfold Az; rw [if_neg c1,if_pos h3])⟩
   rw [nh (x:=0) h3]
   have c2:¬ (ta.1≠M.num):=fun z=>z h3
   obtain ⟨bs,eb,tb'⟩:=S.hl _ (List.mem_of_find?_eq_some fd)
   have eb:H ad=some (.lst (bs.map V.ref)):=eb
   have tb':ThsAt H bs (getH M.holds ta):=tb'
   refine Be ⟨_,rfl,p,_,rfl,S.gHolds,_,rfl,M.l,_,rfl,Id S.dl ha fd,?_⟩
   refine ⟨_,rfl,rfl,_,rfl,?_⟩
   rw [W7 N4]
   refine Bk ⟨_,rfl,_,rfl,Cc hb eb tb' ⟨fun h4=>⟨_,rfl,Bk ⟨two,stop (by unfold Az; rw [if_neg c1,if_neg c2,if_pos ⟨N4,h4⟩])⟩⟩,fun h4=>⟨_,rfl,Be ?_⟩⟩⟩
   have c3:¬ (("drop":Str)≠"hold"∧tb∉getH M.holds ta):=fun z=>z.2 h4
   refine ⟨_,rfl,rfl,_,rfl,?_⟩
   rw [Kj N4]
   refine Be (Be ⟨_,rfl,rfl,_,rfl,?_⟩)
   rw [Cu]
   have e:Az M "drop" ta tb=(("told":Str),{ M with holds:=Fu M.holds ta (Dr (getH M.holds ta) tb) }):=by unfold Az; rw [if_neg c1,if_neg c2,if_neg c3,if_neg N4,if_pos rfl]
   have ndl:=(ok.get ta).1
   obtain ⟨j,hj,hno⟩:=Q2 ndl h4
   refine Bk ⟨_,rfl,.inl ⟨rfl,_,SqL.of eb⟩,_,rfl,ad,b,tb,bs,getH M.holds ta,j,rfl,rfl,hb,eb,tb',hj,hno,?_⟩
   have S1:=S.setHold (List.mem_of_find?_eq_some fd) (as:=bs.eraseIdx j) (ts:=Dr (getH M.holds ta) tb) (by rw [← O8 ndl hj]; exact Kh tb' j)
   have S1:ModelAt (upd H ad (.lst ((bs.eraseIdx j).map V.ref))) p { M with holds:=Eb M.holds ad (Dr (getH M.holds ta) tb) }:=S1
   rw [Ft ka kt fd] at S1
   have fr1:HFr p M H (upd H ad (.lst ((bs.eraseIdx j).map V.ref))):=Dq (C5 (List.mem_of_find?_eq_some fd))
   generalize upd H ad (.lst ((bs.eraseIdx j).map V.ref))=H1 at S1 fr1
   refine ⟨_,rfl,rfl,_,rfl,?_⟩
   rw [Kj Jea]
   exact Be (Be ⟨two,done e S1 fr1⟩)
  ·
   refine ⟨_,rfl,rfl,_,rfl,?_⟩
   rw [Kj N3]
   have c1:¬ (ta∉M.hand∨(("take":Str)="hold"∧tb∉M.hand)):=fun z=>z.elim (fun z=>z h1) fun z=>N3 z.1
   refine Be (Be ⟨_,rfl,a,_,_,_,rfl,rfl,SqT.of ha,rfl,_,rfl,p,_,rfl,S.gHouse,rfl,_,rfl,?_⟩)
   refine go (fun z=>N3 z.1) (fun h3=>?_) fun ad h3 fd=>?_
   ·rw [nn h3]
    exact Bk ⟨two,stop (by unfold Az; rw [if_neg c1,if_pos h3])⟩
   rw [nh (x:=0) h3]
   have c2:¬ (ta.1≠M.num):=fun z=>z h3
   obtain ⟨bs,eb,tb'⟩:=S.hl _ (List.mem_of_find?_eq_some fd)
   have eb:H ad=some (.lst (bs.map V.ref)):=eb
   have tb':ThsAt H bs (getH M.holds ta):=tb'
   refine Be ⟨_,rfl,p,_,rfl,S.gHolds,_,rfl,M.l,_,rfl,Id S.dl ha fd,?_⟩
   refine ⟨_,rfl,rfl,_,rfl,?_⟩
   rw [W7 N3]
   refine Bk ⟨_,rfl,_,rfl,Cc hb eb tb' ⟨fun h4=>⟨_,rfl,Bk ⟨two,stop (by unfold Az; rw [if_neg c1,if_neg c2,if_pos ⟨N3,h4⟩])⟩⟩,fun h4=>⟨_,rfl,Be ?_⟩⟩⟩
   have c3:¬ (("take":Str)≠"hold"∧tb∉getH M.holds ta):=fun z=>z.2 h4
   refine ⟨_,rfl,rfl,_,rfl,?_⟩
   rw [Kj N3]
   refine Be (Be ⟨_,rfl,rfl,_,rfl,?_⟩)
   rw [Kj Jbg]
   have e:Az M "take" ta tb=(("told":Str),{ M with hand:=Bf M.hand tb }):=by unfold Az; rw [if_neg c1,if_neg c2,if_neg c3,if_neg N3,if_neg Jbg]
   refine Be ⟨_,rfl,rfl,_,rfl,?_⟩
   rw [Cu]
   refine Bk ⟨_,rfl,_,rfl,p,_,rfl,S.gHand,Cc hb eh th ⟨fun h5=>⟨_,rfl,Bk ?_⟩,fun h5=>⟨_,rfl,Be ?_⟩⟩⟩
   ·have hlen:as.length≤500:=by
     have h6:=Paired.length th
     have:=ok.hz
     lia
    refine ⟨_,rfl,p,_,rfl,S.gHand,.inl ⟨rfl,_,SqL.of eh⟩,_,rfl,M.h,_,_,rfl,rfl,eh,(by rw [List.length_map]; exact A0 (by lia)),?_⟩
    have e6:as.map V.ref++[V.ref b]=(as++[b]).map V.ref:=by rw [List.map_append]; rfl
    rw [e6]
    have ea:Bf M.hand tb=M.hand++[tb]:=by unfold Bf; rw [if_neg h5]
    rw [ea] at e
    have S1:=S.setHand (as:=as++[b]) (ts:=M.hand++[tb]) (Ex hb th)
    have fr1:HFr p M H (upd H M.h (.lst ((as++[b]).map V.ref))):=Dq (by simp [Am])
    exact ⟨two,done e S1 fr1⟩
   ·have ea:Bf M.hand tb=M.hand:=by unfold Bf; rw [if_pos h5]
    rw [ea] at e
    exact ⟨two,done e S fun b o e _ _=>e⟩
end
structure XF (K:W.Frag) (HE NHd NNr MI NW cls:Addr) (b1 b2 b3 b4:Bool):Prop where
 sub:W.mroIn K cls (.ref HE)=some true
 isX:Y5 K cls
 k1:W.kitOne K (.ref cls) (.ref NHd)=some b1
 k2:W.kitOne K (.ref cls) (.ref NNr)=some b2
 k3:W.kitOne K (.ref cls) (.ref MI)=some b3
 k4:W.kitOne K (.ref cls) (.ref NW)=some b4
structure Y6 (K:W.Frag) (mg:Str→Option Value) (HE NHd NNr MI NW:Addr):Prop where
 cHE:R8 K mg "HoldError" HE
 x1:XF K HE NHd NNr MI NW NHd true false false false
 x2:XF K HE NHd NNr MI NW NNr false true false false
 x3:XF K HE NHd NNr MI NW MI false false true false
 x4:XF K HE NHd NNr MI NW NW false false false true
def Names (NHd NNr MI NW cls:Addr) (name:Str):Prop:=(cls=NHd∧name="NotHeld")∨(cls=NNr∧name="NotNear")∨(cls=MI∧name="Missing")∨(cls=NW∧name="NoWeight")
section
variable {P:Program} {w:World} {K:W.Frag} {mg:Str→Option Value} {base:Heap} {C NHd NNr MI NW HE:Addr}
theorem Names.sub {cls:Addr} {name:Str} (n:Names NHd NNr MI NW cls name) (T:Y6 K mg HE NHd NNr MI NW):W.mroIn K cls (.ref HE)=some true:=by
 rcases n with ⟨rfl,_⟩ | ⟨rfl,_⟩ | ⟨rfl,_⟩ | ⟨rfl,_⟩
 ·exact T.x1.sub
 ·exact T.x2.sub
 ·exact T.x3.sub
 ·exact T.x4.sub
def Tu (NHd NNr MI NW:Addr):Sp:=fun vs H Q _=>∃ (ex cls:Addr) (name:Str),vs=[.ref ex]∧H ex=some (Rw ex cls)∧Names NHd NNr MI NW cls name∧Q (.str name) H
theorem scWh:Ay ["_law_e","_law_names"] ["_law_e"] (Af Hg):={}
theorem en1:(("":Str)++("NotHeld":Str))="NotHeld":=by decide +kernel
theorem en2:(("":Str)++("NotNear":Str))="NotNear":=by decide +kernel
theorem en3:(("":Str)++("Missing":Str))="Missing":=by decide +kernel
theorem en4:(("":Str)++("NoWeight":Str))="NoWeight":=by decide +kernel
theorem Xw {f:Addr} {fd:FuncData} (F:Fun K "_law_which" "_law_which" Hg f fd) (T:Txt K mg C NHd NNr MI NW) (T2:Y6 K mg HE NHd NNr MI NW):FnOk P w K mg base CX0 1 f fd ["_law_e"] (Tu NHd NNr MI NW):=by
 refine F.ok scWh (fun vs H Q E h=>?_) (fun cdv A outer s H vs Q E hr h=>?_)
 ·obtain ⟨ex,cls,name,rfl,_⟩:=h
  rfl
 ·obtain ⟨ex,cls,name,rfl,e5,nms,k⟩:=h
  refine ⟨_,Ad (A3 (i:=1) scWh.nd rfl (Or.inl rfl) Ak)
   (Ad (A5 (Gn (Bj Ii (by rfl) T.isi PyProof.Rows.boot_isinstance (Aa (pv 0) (Aa (Lh (v:=.ref NHd) (by rfl) T.cNHd.mg rfl) Ag)))) (Ah (A3 (i:=1) scWh.nd rfl (Or.inl rfl) (Aw Gr (pv 1) Ak))) Aq)
   (Ad (A5 (Gn (Bj Ii (by rfl) T.isi PyProof.Rows.boot_isinstance (Aa (pv 0) (Aa (Lh (v:=.ref NNr) (by rfl) T.cNNr.mg rfl) Ag)))) (Ah (A3 (i:=1) scWh.nd rfl (Or.inl rfl) (Aw Gr (pv 1) Ak))) Aq)
   (Ad (A5 (Gn (Bj Ii (by rfl) T.isi PyProof.Rows.boot_isinstance (Aa (pv 0) (Aa (Lh (v:=.ref MI) (by rfl) T.cMI.mg rfl) Ag)))) (Ah (A3 (i:=1) scWh.nd rfl (Or.inl rfl) (Aw Gr (pv 1) Ak))) Aq)
   (Ad (A5 (Gn (Bj Ii (by rfl) T.isi PyProof.Rows.boot_isinstance (Aa (pv 0) (Aa (Lh (v:=.ref NW) (by rfl) T.cNW.mg rfl) Ag)))) (Ah (A3 (i:=1) scWh.nd rfl (Or.inl rfl) (Aw Gr (pv 1) Ak))) Aq)
   (Ah (Au (pv 1))))))),?_⟩
  rcases nms with ⟨rfl,rfl⟩ | ⟨rfl,rfl⟩ | ⟨rfl,rfl⟩ | ⟨rfl,rfl⟩
  ·refine ⟨_,rfl,ex,cls,.ref cls,.ref cls,true,rfl,rfl,e5,T2.x1.isX,T2.x1.k1,true,rfl,?_⟩
   refine Bk ⟨_,rfl,_,_,rfl,rfl,(by decide +kernel),?_⟩
   refine ⟨_,rfl,ex,cls,.ref NNr,.ref NNr,false,rfl,rfl,e5,T2.x1.isX,T2.x1.k2,false,rfl,Be ?_⟩
   refine ⟨_,rfl,ex,cls,.ref MI,.ref MI,false,rfl,rfl,e5,T2.x1.isX,T2.x1.k3,false,rfl,Be ?_⟩
   refine ⟨_,rfl,ex,cls,.ref NW,.ref NW,false,rfl,rfl,e5,T2.x1.isX,T2.x1.k4,false,rfl,Be ?_⟩
   rw [← en1] at k
   exact ⟨_,rfl,k⟩
  ·refine ⟨_,rfl,ex,cls,.ref NHd,.ref NHd,false,rfl,rfl,e5,T2.x2.isX,T2.x2.k1,false,rfl,Be ?_⟩
   refine ⟨_,rfl,ex,cls,.ref cls,.ref cls,true,rfl,rfl,e5,T2.x2.isX,T2.x2.k2,true,rfl,?_⟩
   refine Bk ⟨_,rfl,_,_,rfl,rfl,(by decide +kernel),?_⟩
   refine ⟨_,rfl,ex,cls,.ref MI,.ref MI,false,rfl,rfl,e5,T2.x2.isX,T2.x2.k3,false,rfl,Be ?_⟩
   refine ⟨_,rfl,ex,cls,.ref NW,.ref NW,false,rfl,rfl,e5,T2.x2.isX,T2.x2.k4,false,rfl,Be ?_⟩
   rw [← en2] at k
   exact ⟨_,rfl,k⟩
  ·refine ⟨_,rfl,ex,cls,.ref NHd,.ref NHd,false,rfl,rfl,e5,T2.x3.isX,T2.x3.k1,false,rfl,Be ?_⟩
   refine ⟨_,rfl,ex,cls,.ref NNr,.ref NNr,false,rfl,rfl,e5,T2.x3.isX,T2.x3.k2,false,rfl,Be ?_⟩
   refine ⟨_,rfl,ex,cls,.ref cls,.ref cls,true,rfl,rfl,e5,T2.x3.isX,T2.x3.k3,true,rfl,?_⟩
   refine Bk ⟨_,rfl,_,_,rfl,rfl,(by decide +kernel),?_⟩
   refine ⟨_,rfl,ex,cls,.ref NW,.ref NW,false,rfl,rfl,e5,T2.x3.isX,T2.x3.k4,false,rfl,Be ?_⟩
   rw [← en3] at k
   exact ⟨_,rfl,k⟩
  ·refine ⟨_,rfl,ex,cls,.ref NHd,.ref NHd,false,rfl,rfl,e5,T2.x4.isX,T2.x4.k1,false,rfl,Be ?_⟩
   refine ⟨_,rfl,ex,cls,.ref NNr,.ref NNr,false,rfl,rfl,e5,T2.x4.isX,T2.x4.k2,false,rfl,Be ?_⟩
   refine ⟨_,rfl,ex,cls,.ref MI,.ref MI,false,rfl,rfl,e5,T2.x4.isX,T2.x4.k3,false,rfl,Be ?_⟩
   refine ⟨_,rfl,ex,cls,.ref cls,.ref cls,true,rfl,rfl,e5,T2.x4.isX,T2.x4.k4,true,rfl,?_⟩
   refine Bk ⟨_,rfl,_,_,rfl,rfl,(by decide +kernel),?_⟩
   rw [← en4] at k
   exact ⟨_,rfl,k⟩
end
structure He (mg:Str→Option Value):Prop where
 dict:mg "dict"=none
 list:mg "list"=none
 max:mg "max"=none
 min:mg "min"=none
 int:mg "int"=none
section
variable {P:Program} {w:World} {K:W.Frag} {mg:Str→Option Value} {base:Heap} {C NHd NNr MI NW HE:Addr}
theorem Wd (wt:Int) (h:0≤wt) (h0:wt≠0):(if wt / 2 > 1 then wt / 2 else 1)=D8 wt:=by
 unfold D8
 by_cases e:wt=1
 ·rw [e]; rfl
 ·rw [if_neg e]
  by_cases c:wt / 2 > 1
  ·rw [if_pos c]
  ·rw [if_neg c]; lia
theorem Yo (x:Int):decide (V.int x=V.int x)=true:=by simp
theorem Jai {x y:Int} (h:¬ x=y):decide (V.int x=V.int y)=false:=decide_eq_false fun z=>h (V.int.inj z)
def Oo:Sp:=fun vs H Q _=>∃ (p b:Addr) (M:HGh) (n:Nat) (tb:T2) (sh:Int),vs=[.ref p,.ref b,.int sh]∧ModelAt H p M∧Ok M n∧Wk M∧n≤500∧H b=some (.tup (tv tb)) ∧
 ∀ (x:Addr) (H':Hp),H' x=some (.tup [.str (A2 M tb sh).1,Jdt (A2 M tb sh).2.1])→ModelAt H' p (A2 M tb sh).2.2→HFr p M H H'→Q (.ref x) H'
theorem scMP:Ay ["_law_model_here","_law_b","_law_share","_law_weight","_law_goes"] ["_law_model_here","_law_b","_law_share"] (Af Ez):={}
theorem Sv {f:Addr} {fd:FuncData} (F:Fun K "_law_parted" "_law_parted" Ez f fd) (Tx:He mg):FnOk P w K mg base CX0 1 f fd ["_law_model_here","_law_b","_law_share"] Oo:=by
 refine F.ok scMP (fun vs H Q E h=>?_) (fun cdv A outer s H vs Q E hr h=>?_)
 ·obtain ⟨p,b,M,n,tb,sh,rfl,_⟩:=h
  rfl
 ·obtain ⟨p,b,M,n,tb,sh,rfl,S,ok,wk,hn,hb,k⟩:=h
  have hu:=Bv hr
  obtain ⟨as,eh,th⟩:=S.dh
  have two:(2:Nat)≤sizeLine:=by decide
  refine ⟨_,Ad (A5 (Ap (A8 (E7 hr)) (pv 1) (Al hu (pv 0) Ak) rfl) (Ah (Au (A6 (Aa Ak (Aa Dy Ag))))) Aq)
   (Ad (A5 (Ap By (Bm Bg (pv 1) Ai) (Al hu (pv 0) Ak) (A4 _))
    (Ad (B9 hu (Al hu (pv 0) Ak) (pv 1) (Aw Ce (Al hu (Al hu (pv 0) Ak) (pv 1)) (pv 2)) rfl) (Ah (Au (A6 (Aa Ak (Aa (pv 2) Ag)))))) Aq)
   (Ad (A3 (i:=3) scMP.nd rfl (Or.inl rfl) (Al hu (Al hu (pv 0) Ak) (pv 1)))
   (Ad (A5 (Ap By (pv 3) Ai (A4 _)) (Ah (Au (A6 (Aa Ak (Aa Dy Ag))))) Aq)
   (Ad (A3 (i:=4) scMP.nd rfl (Or.inl rfl) (Bj (Wh rfl) (by rfl) Tx.max PyProof.Rows.boot_max (Aa Ai (Aa (Aw C0 (pv 3) Ai) Ag))))
   (Ad (B9 hu (Al hu (pv 0) Ak) (pv 1) (Aw Jb (pv 3) (pv 4)) rfl)
   (Ah (Au (A6 (Aa Ak (Aa (pv 4) Ag)))))))))),?_⟩
  refine ⟨_,rfl,_,rfl,p,_,rfl,S.gHand,Cc hb eh th ⟨fun h1=>⟨_,rfl,Bk ⟨two,fun x hx=>?_⟩⟩,fun h1=>⟨_,rfl,Be ?_⟩⟩⟩
  ·have s1:=Ae (o:=.tup [V.str "NotHeld",V.non]) hx
   have e:A2 M tb sh=(("NotHeld":Str),none,M):=by unfold A2; rw [if_pos h1]
   exact k x _ (by rw [e]; exact Ab) (by rw [e]; exact S.same s1) fun b o e _ _=>s1 _ _ e
  refine ⟨_,rfl,b,_,_,_,rfl,rfl,SqT.of hb,rfl,_,rfl,p,_,rfl,S.gHouse,rfl,_,rfl,?_⟩
  by_cases h2:tb.1=M.num
  ·rw [show decide (V.int tb.1=V.int M.num)=true by rw [h2]; exact Yo _]
   have fo:=Ci (ok.hk tb h1 h2)
   refine Bk ⟨_,rfl,p,_,rfl,S.gOuts,_,rfl,M.o,_,rfl,C6 S.dO hb fo,_,rfl,_,_,rfl,rfl,_,rfl,p,_,rfl,S.gOuts,_,rfl,M.o,_,rfl,DPut.t (k:=tk tb) S.dO hb (by rw [List.length_map]; exact A0 (by have:=ok.oz; lia)),?_⟩
   rw [Cq]
   have S1:=S.setOuts (Bc M.outs tb (Ao M.outs tb + sh))
   have fr1:HFr p M H (upd H M.o (Bs (Bc M.outs tb (Ao M.outs tb + sh)))):=Dq (by simp [Am])
   rw [show (HO.dT ((Bc M.outs tb (Ao M.outs tb + sh)).map fun q=>(tk q.1,V.int q.2)))=Bs (Bc M.outs tb (Ao M.outs tb + sh)) from rfl]
   generalize upd H M.o (Bs (Bc M.outs tb (Ao M.outs tb + sh)))=H1 at S1 fr1
   refine ⟨_,rfl,two,fun x hx=>?_⟩
   have s1:=Ae (o:=.tup [V.str "told",V.int sh]) hx
   have e:A2 M tb sh=(("told":Str),some sh,{ M with outs:=Bc M.outs tb (Ao M.outs tb + sh) }):=by unfold A2; rw [if_neg (fun z=>z h1),if_pos h2]
   exact k x _ (by rw [e]; exact Ab) (by rw [e]; exact S1.same s1) fun b o e h1 h2=>s1 _ _ (fr1 _ _ e h1 h2)
  ·rw [Jai h2]
   have hr1:=wk.hr tb h1 h2
   have fr:=Ci hr1
   refine Be ⟨_,rfl,p,_,rfl,S.gRecs,_,rfl,M.r,_,rfl,C6 S.dr hb fr,?_⟩
   refine ⟨_,rfl,rfl,_,rfl,?_⟩
   by_cases h3:Ao M.recs tb=0
   ·rw [show decide (V.int (Ao M.recs tb)=V.int 0)=true by rw [h3]; rfl]
    refine Bk ⟨two,fun x hx=>?_⟩
    have s1:=Ae (o:=.tup [V.str "NoWeight",V.non]) hx
    have e:A2 M tb sh=(("NoWeight":Str),none,M):=by unfold A2; rw [if_neg (fun z=>z h1),if_neg h2,if_pos h3]
    exact k x _ (by rw [e]; exact Ab) (by rw [e]; exact S.same s1) fun b o e _ _=>s1 _ _ e
   ·rw [Jai h3]
    have nn:=wk.get hr1
    refine Be ⟨_,rfl,_,_,rfl,rfl,⟨by decide,by decide⟩,_,_,rfl,?_⟩
    rw [Wd _ nn h3]
    refine ⟨_,rfl,_,rfl,_,_,rfl,rfl,_,rfl,p,_,rfl,S.gRecs,_,rfl,M.r,_,rfl,DPut.t (k:=tk tb) S.dr hb (by rw [List.length_map]; exact A0 (by have:=ok.rz; lia)),?_⟩
    rw [Cq]
    have S1:=S.setRecs (Bc M.recs tb (Ao M.recs tb - D8 (Ao M.recs tb)))
    have fr1:HFr p M H (upd H M.r (Bs (Bc M.recs tb (Ao M.recs tb - D8 (Ao M.recs tb))))):=Dq (by simp [Am])
    rw [show (HO.dT ((Bc M.recs tb (Ao M.recs tb - D8 (Ao M.recs tb))).map fun q=>(tk q.1,V.int q.2)))=Bs (Bc M.recs tb (Ao M.recs tb - D8 (Ao M.recs tb))) from rfl]
    generalize upd H M.r (Bs (Bc M.recs tb (Ao M.recs tb - D8 (Ao M.recs tb))))=H1 at S1 fr1
    refine ⟨_,rfl,two,fun x hx=>?_⟩
    have s1:=Ae (o:=.tup [V.str "told",V.int (D8 (Ao M.recs tb))]) hx
    have e:A2 M tb sh=(("told":Str),some (D8 (Ao M.recs tb)),{ M with recs:=Bc M.recs tb (Ao M.recs tb - D8 (Ao M.recs tb)) }):=by unfold A2; rw [if_neg (fun z=>z h1),if_neg h2,if_neg h3]
    exact k x _ (by rw [e]; exact Ab) (by rw [e]; exact S1.same s1) fun b o e h1 h2=>s1 _ _ (fr1 _ _ e h1 h2)
end
def gvO (G:HGh) (tb:T2) (wt:Int):List (T2×Int):=if tb∈G.outs.map (·.1) then Bc G.outs tb (Ao G.outs tb - wt) else G.outs
theorem U0 {l:List (T2×Int)} {t:T2} (h:t∉l.map (·.1)):l.find? (fun q=>decide (q.1=t))=none:=List.find?_eq_none.mpr fun q hq=>by
 have:¬ q.1=t:=fun z=>h (List.mem_map.mpr ⟨q,hq,z⟩)
 simpa using this
section
variable {P:Program} {w:World} {K:W.Frag} {mg:Str→Option Value} {base:Heap} {C NHd NNr MI NW:Addr}
def Ua (C:Addr):Sp:=fun vs H Q _=>∃ (p b:Addr) (G:HGh) (tb:T2) (wt:Int),vs=[.ref p,.ref b,.int wt]∧HouseAt C H p G∧H b=some (.tup (tv tb))∧G.outs.length≤500∧Done C p G H { G with ticks:=G.ticks + 1,outs:=gvO G tb wt } (Q .non)
theorem Je5:Ay ["self","b","weight"] ["self","b","weight"] (Af Iw):={}
theorem X7 {f:Addr} {fd:FuncData} (F:Fun K "given" "House.given" Iw f fd) (T:Txt K mg C NHd NNr MI NW):FnOk P w K mg base CX0 1 f fd ["self","b","weight"] (Ua C):=by
 refine F.ok Je5 (fun vs H Q E h=>?_) (fun cdv A outer s H vs Q E hr h=>?_)
 ·obtain ⟨p,b,G,tb,wt,rfl,_⟩:=h
  rfl
 ·obtain ⟨p,b,G,tb,wt,rfl,S,hb,z,k⟩:=h
  have hu:=Bv hr
  obtain ⟨dx,hp⟩:=S.ob
  refine ⟨_,Ad (A5 (Dl (Ho hu (pv 1) (A7 (pv 0) rfl))) (Ah (Jt hu (A7 (pv 0) rfl) (pv 1) (pv 2) Yn (fun _ _ _=>rfl))) Aq) (Ah (Ca (pv 0) Ai C2)),?_⟩
  refine ⟨_,rfl,_,rfl,p,C,dx,_,_,rfl,hp,T.cl,T.nO,Cg G,G.o,_,rfl,Es S.dO hb,_,rfl,?_⟩
  by_cases h:tb∈G.outs.map (·.1)
  ·have fo:=Ci h
   rw [fo]
   refine Bk ?_
   have g1:DGet H G.o (.ref b) (some (V.int (Ao G.outs tb))):=C6 S.dO hb fo
   refine ⟨_,rfl,p,C,dx,_,_,rfl,hp,T.cl,T.nO,Cg _,_,rfl,G.o,_,rfl,g1,_,rfl,_,_,rfl,rfl,_,DPut.t (k:=tk tb) S.dO hb (by rw [List.length_map]; exact A0 (by lia)),?_⟩
   rw [Cq]
   have S1:HouseAt C (upd H G.o (Bs (Bc G.outs tb (Ao G.outs tb - wt)))) p { G with outs:=Bc G.outs tb (Ao G.outs tb - wt) }:=S.setOuts _
   obtain ⟨dx1,hp1⟩:=S1.ob
   refine ⟨_,rfl,p,C,dx1,_,_,rfl,hp1,T.cl,T.nT,B5 _,_,_,rfl,rfl,dx1,_,hp1,Cy _,?_⟩
   rw [Bh]
   have e:gvO G tb wt=Bc G.outs tb (Ao G.outs tb - wt):=by unfold gvO; rw [if_pos h]
   rw [e] at k
   exact Du (G1:={ G with outs:=Bc G.outs tb (Ao G.outs tb - wt) }) (by simp [Am]) rfl rfl S1 k
  ·rw [U0 h]
   refine Be ?_
   have e:gvO G tb wt=G.outs:=by unfold gvO; rw [if_neg h]
   rw [e] at k
   refine ⟨_,rfl,p,C,dx,_,_,rfl,hp,T.cl,T.nT,B5 _,_,_,rfl,rfl,dx,_,hp,Cy _,?_⟩
   rw [Bh]
   exact k _ (S.fld dx G.made (G.ticks + 1)) fun b' o e h1 h2=>by rw [Ac h1]; exact e
def psH (G:HGh) (tb:T2) (mine:Bool):List T2:=if mine=true then Bf G.hand tb else G.hand
def psO (G:HGh) (tb:T2) (sh:Int) (mine:Bool):List (T2×Int):=Bc G.outs tb (Ao G.outs tb + (if mine=true then sh - 1 else 2 * sh - 1))
def Qo (C:Addr):Sp:=fun vs H Q _=>∃ (p b:Addr) (G:HGh) (tb:T2) (sh:Int) (mine:Bool),vs=[.ref p,.ref b,.int sh,.bl mine]∧HouseAt C H p G∧H b=some (.tup (tv tb))∧G.outs.length≤500∧G.hand.length≤500∧tb∈G.outs.map (·.1) ∧
 Done C p G H { G with ticks:=G.ticks + 1,hand:=psH G tb mine,outs:=psO G tb sh mine } (Q .non)
theorem Jey:Ay ["self","b","share","mine"] ["self","b","share","mine"] (Af Gf):={}
theorem Vq {f:Addr} {fd:FuncData} (F:Fun K "passed" "House.passed" Gf f fd) (T:Txt K mg C NHd NNr MI NW):FnOk P w K mg base CX0 1 f fd ["self","b","share","mine"] (Qo C):=by
 refine F.ok Jey (fun vs H Q E h=>?_) (fun cdv A outer s H vs Q E hr h=>?_)
 ·obtain ⟨p,b,G,tb,sh,mine,rfl,_⟩:=h
  rfl
 ·obtain ⟨p,b,G,tb,sh,mine,rfl,S,hb,z1,z2,h,k⟩:=h
  have hu:=Bv hr
  obtain ⟨dx,hp⟩:=S.ob
  refine ⟨_,Ad (A5 (Gn (pv 3)) (Ad (B9 hu (A7 (pv 0) rfl) (pv 1) K1 rfl) (Ah (Jt hu (A7 (pv 0) rfl) (pv 1) (Aw Jb (pv 2) Ai) C2 (fun _ _ _=>rfl))))
   (Ah (Jt hu (A7 (pv 0) rfl) (pv 1) (Aw Jb (Aw Jc Ai (pv 2)) Ai) C2 (fun _ _ _=>rfl)))) (Ah (Ca (pv 0) Ai C2)),?_⟩
  have fo:=Ci h
  refine ⟨_,rfl,mine,rfl,?_⟩
  cases mine with
  | true =>
    refine Bk ?_
    refine ⟨_,rfl,p,C,dx,_,_,rfl,hp,T.cl,T.nH,Et G,_,rfl,G.h,_,rfl,DPut.t (k:=tk tb) S.dh hb (by rw [List.length_map]; exact A0 (by lia)),?_⟩
    rw [Eu]
    have S1:HouseAt C (upd H G.h (Bi (Bf G.hand tb))) p { G with hand:=Bf G.hand tb }:=S.setHand (Bf G.hand tb)
    have fr1:HFr p G H (upd H G.h (Bi (Bf G.hand tb))):=fun b' o e h1 h2=>by rw [Ac fun e'=>h2 (by rw [e']; simp [Am])]; exact e
    have b1:=fr1 _ _ hb (S.tup_ne hb).1 (S.tup_ne hb).2
    rw [show (HO.dT ((Bf G.hand tb).map fun q=>(tk q,V.bl true)))=Bi (Bf G.hand tb) from rfl]
    generalize (upd H G.h (Bi (Bf G.hand tb)))=H1 at S1 fr1 b1
    obtain ⟨dx1,hp1⟩:=S1.ob
    have g1:DGet H1 G.o (.ref b) (some (V.int (Ao G.outs tb))):=C6 S1.dO b1 fo
    refine ⟨_,rfl,p,C,dx1,_,_,rfl,hp1,T.cl,T.nO,Cg _,_,rfl,G.o,_,rfl,g1,_,rfl,_,_,rfl,rfl,_,_,rfl,rfl,_,DPut.t (k:=tk tb) S1.dO b1 (by rw [List.length_map]; exact A0 (by show G.outs.length≤1000; lia)),?_⟩
    rw [Cq]
    have S2:=S1.setOuts (Bc G.outs tb (Ao G.outs tb + (sh - 1)))
    have fr2:HFr p G H (upd H1 G.o (Bs (Bc G.outs tb (Ao G.outs tb + (sh - 1))))):=fun b' o' e h1 h2=>by rw [Ac fun e'=>h2 (by rw [e']; simp [Am])]; exact fr1 _ _ e h1 h2
    obtain ⟨dx2,hp2⟩:=S2.ob
    refine ⟨_,rfl,p,C,dx2,_,_,rfl,hp2,T.cl,T.nT,B5 _,_,_,rfl,rfl,dx2,_,hp2,Cy _,?_⟩
    rw [Bh]
    exact k _ (S2.fld dx2 G.made (G.ticks + 1)) fun b' o e h1 h2=>by rw [Ac h1]; exact fr2 _ _ e h1 h2
  | false =>
    refine Be ?_
    have g1:DGet H G.o (.ref b) (some (V.int (Ao G.outs tb))):=C6 S.dO hb fo
    refine ⟨_,rfl,p,C,dx,_,_,rfl,hp,T.cl,T.nO,Cg _,_,rfl,G.o,_,rfl,g1,_,rfl,_,_,rfl,rfl,.inl ⟨by decide,by decide⟩,_,_,rfl,rfl,_,_,rfl,rfl,_,DPut.t (k:=tk tb) S.dO hb (by rw [List.length_map]; exact A0 (by lia)),?_⟩
    rw [Cq]
    have S1:HouseAt C (upd H G.o (Bs (Bc G.outs tb (Ao G.outs tb + (2 * sh - 1))))) p { G with outs:=Bc G.outs tb (Ao G.outs tb + (2 * sh - 1)) }:=S.setOuts _
    obtain ⟨dx1,hp1⟩:=S1.ob
    refine ⟨_,rfl,p,C,dx1,_,_,rfl,hp1,T.cl,T.nT,B5 _,_,_,rfl,rfl,dx1,_,hp1,Cy _,?_⟩
    rw [Bh]
    exact Du (G1:={ G with outs:=Bc G.outs tb (Ao G.outs tb + (2 * sh - 1)) }) (by simp [Am]) rfl rfl S1 k
end
def B0 (G:HGh) (tb:T2) (wt:Int):HGh:=if tb.1=G.num then (if tb∈G.outs.map (·.1) then { G with outs:=Bc G.outs tb (Ao G.outs tb - wt) } else G) else { G with recs:=Bc G.recs tb (Ao G.recs tb + wt) }
def De (G:HGh) (tb:T2) (wt:Int):HGh:=B0 { G with hand:=Bf G.hand tb } tb wt
def Qf (G:HGh) (tb:T2) (sh:Int) (mine:Bool):HGh:={ G with hand:=psH G tb mine,outs:=psO G tb sh mine }
section
variable {P:Program} {w:World} {K:W.Frag} {mg:Str→Option Value} {base:Heap} {C NHd NNr MI NW HE:Addr}
def Pu:Sp:=fun vs H Q _=>∃ (p b:Addr) (M:HGh) (tb:T2) (wt:Int),vs=[.ref p,.ref b,.int wt]∧ModelAt H p M∧M.outs.length≤500∧M.recs.length≤500∧H b=some (.tup (tv tb)) ∧
 ∀ (x:Addr) (H':Hp),H' x=some (.tup [.str "told",.non])→ModelAt H' p (B0 M tb wt)→HFr p M H H'→Q (.ref x) H'
theorem Je3:Ay ["_law_model_here","_law_b","_law_weight"] ["_law_model_here","_law_b","_law_weight"] (Af Hk):={}
theorem Q9 {f:Addr} {fd:FuncData} (F:Fun K "_law_weight_came" "_law_weight_came" Hk f fd):FnOk P w K mg base CX0 1 f fd ["_law_model_here","_law_b","_law_weight"] Pu:=by
 refine F.ok Je3 (fun vs H Q E h=>?_) (fun cdv A outer s H vs Q E hr h=>?_)
 ·obtain ⟨p,b,M,tb,wt,rfl,_⟩:=h
  rfl
 ·obtain ⟨p,b,M,tb,wt,rfl,S,oz,rz,hb,k⟩:=h
  have hu:=Bv hr
  have two:(2:Nat)≤sizeLine:=by decide
  refine ⟨_,Ad (A5 (Ap By (Bm Bg (pv 1) Ai) (Al hu (pv 0) Ak) (A4 _))
   (Ah (A5 (Dl (Ho hu (pv 1) (Al hu (pv 0) Ak))) (Ah (B9 hu (Al hu (pv 0) Ak) (pv 1) (Aw Jb (Al hu (Al hu (pv 0) Ak) (pv 1)) (pv 2)) rfl)) Aq))
   (Ah (B9 hu (Al hu (pv 0) Ak) (pv 1) (Aw Ce (Mn hu (Al hu (pv 0) Ak) (pv 1) Ai ⟨rfl,rfl,rfl,rfl⟩) (pv 2)) rfl)))
   (Ah (Au (A6 (Aa Ak (Aa Dy Ag))))),?_⟩
  have done:∀ {H1:Hp},ModelAt H1 p (B0 M tb wt)→HFr p M H H1→∀ x,H1 x=none→Q (.ref x) (upd H1 x (.tup [V.str "told",V.non])):=fun {H1} S1 fr1 x hx=>by
   have s1:=Ae (o:=.tup [V.str "told",V.non]) hx
   exact k x _ Ab (S1.same s1) fun b o e h1 h2=>s1 _ _ (fr1 _ _ e h1 h2)
  refine ⟨_,rfl,b,_,_,_,rfl,rfl,SqT.of hb,rfl,_,rfl,p,_,rfl,S.gHouse,rfl,_,rfl,?_⟩
  by_cases h2:tb.1=M.num
  ·rw [show decide (V.int tb.1=V.int M.num)=true by rw [h2]; exact Yo _]
   refine Bk ⟨_,rfl,_,rfl,p,_,rfl,S.gOuts,M.o,_,rfl,Es S.dO hb,_,rfl,?_⟩
   by_cases h3:tb∈M.outs.map (·.1)
   ·have fo:=Ci h3
    rw [fo]
    refine Bk ⟨_,rfl,p,_,rfl,S.gOuts,_,rfl,M.o,_,rfl,C6 S.dO hb fo,_,rfl,_,_,rfl,rfl,_,rfl,p,_,rfl,S.gOuts,_,rfl,M.o,_,rfl,DPut.t (k:=tk tb) S.dO hb (by rw [List.length_map]; exact A0 (by lia)),?_⟩
    rw [Cq]
    have S1:=S.setOuts (Bc M.outs tb (Ao M.outs tb - wt))
    have fr1:HFr p M H (upd H M.o (Bs (Bc M.outs tb (Ao M.outs tb - wt)))):=Dq (by simp [Am])
    have e:B0 M tb wt={ M with outs:=Bc M.outs tb (Ao M.outs tb - wt) }:=by unfold B0; rw [if_pos h2,if_pos h3]
    rw [← e] at S1
    exact ⟨two,done S1 fr1⟩
   ·rw [U0 h3]
    have e:B0 M tb wt=M:=by unfold B0; rw [if_pos h2,if_neg h3]
    exact Be ⟨two,done (by rw [e]; exact S) fun b o e _ _=>e⟩
  ·rw [Jai h2]
   have ei:((M.recs.find? fun q=>decide (q.1=tb)).map fun q=>V.int q.2).getD (V.int 0)=V.int (Ao M.recs tb):=by
    unfold Ao
    cases M.recs.find? fun q=>decide (q.1=tb) <;> rfl
   refine Be ⟨_,rfl,p,_,rfl,S.gRecs,M.r,rfl,.inr ⟨_,.inl S.dr⟩,_,rfl,_,Es S.dr hb,?_⟩
   rw [ei]
   refine ⟨_,rfl,_,_,rfl,rfl,_,rfl,p,_,rfl,S.gRecs,_,rfl,M.r,_,rfl,DPut.t (k:=tk tb) S.dr hb (by rw [List.length_map]; exact A0 (by lia)),?_⟩
   rw [Cq]
   have S1:=S.setRecs (Bc M.recs tb (Ao M.recs tb + wt))
   have fr1:HFr p M H (upd H M.r (Bs (Bc M.recs tb (Ao M.recs tb + wt)))):=Dq (by simp [Am])
   have e:B0 M tb wt={ M with recs:=Bc M.recs tb (Ao M.recs tb + wt) }:=by unfold B0; rw [if_neg h2]
   rw [← e] at S1
   exact ⟨two,done S1 fr1⟩
theorem Vb {l:List T2} {t:T2} (h:t∉l):Bf l t=l++[t]:=by unfold Bf; rw [if_neg h]
theorem Vc {l:List T2} {t:T2} (h:t∈l):Bf l t=l:=by unfold Bf; rw [if_pos h]
def T6:Sp:=fun vs H Q _=>∃ (p b:Addr) (M:HGh) (tb:T2) (wt:Int),vs=[.ref p,.ref b,.int wt]∧ModelAt H p M∧M.outs.length≤500∧M.recs.length≤500∧M.hand.length≤500∧H b=some (.tup (tv tb)) ∧
 ∀ (x:Addr) (H':Hp),H' x=some (.tup [.str "told",.non])→ModelAt H' p (De M tb wt)→HFr p M H H'→Q (.ref x) H'
theorem Jdl:Ay ["_law_model_here","_law_b","_law_weight"] ["_law_model_here","_law_b","_law_weight"] (Af Iu):={}
theorem X3 {f fC:Addr} {fd dC:FuncData} (F:Fun K "_law_hold_came" "_law_hold_came" Iu f fd) (MC:Gdf K mg "_law_weight_came" Hk ["_law_model_here","_law_b","_law_weight"] fC dC):FnOk P w K mg base CX0 2 f fd ["_law_model_here","_law_b","_law_weight"] T6:=by
 have GC:FnOk P w K mg base CX0 1 fC dC ["_law_model_here","_law_b","_law_weight"] Pu:=Q9 MC.fn
 refine F.ok Jdl (fun vs H Q E h=>?_) (fun cdv A outer s H vs Q E hr h=>?_)
 ·obtain ⟨p,b,M,tb,wt,rfl,_⟩:=h
  rfl
 ·obtain ⟨p,b,M,tb,wt,rfl,S,oz,rz,hz,hb,k⟩:=h
  have hu:=Bv hr
  obtain ⟨as,eh,th⟩:=S.dh
  refine ⟨_,Ad (A5 (Ap (A8 (E7 hr)) (pv 1) (Al hu (pv 0) Ak) rfl)
   (Ah (Ba (Fx PySem.F.plainAttrs_list PySem.F.slot_list_append PySem.F.type_list_append Di (Al hu (pv 0) Ak) (Aa (pv 1) Ag)))) Aq)
   (Ah (Au (Bn GC hr (by rfl) MC.mg MC.fn.kp MC.bd .nil Bu (Aa (pv 0) (Aa (pv 1) (Aa (pv 2) Ag)))))),?_⟩
  refine ⟨_,rfl,_,rfl,p,_,rfl,S.gHand,Cc hb eh th ⟨fun h1=>⟨_,rfl,Bk ?_⟩,fun h1=>⟨_,rfl,Be ?_⟩⟩⟩
  ·have hlen:as.length≤500:=by have:=Paired.length th; lia
   refine ⟨_,rfl,p,_,rfl,S.gHand,.inl ⟨rfl,_,SqL.of eh⟩,_,rfl,M.h,_,_,rfl,rfl,eh,(by rw [List.length_map]; exact A0 (by lia)),?_⟩
   have e6:as.map V.ref++[V.ref b]=(as++[b]).map V.ref:=by rw [List.map_append]; rfl
   rw [e6]
   have S5:=S.setHand (as:=as++[b]) (ts:=M.hand++[tb]) (Ex hb th)
   have fr5:HFr p M H (upd H M.h (.lst ((as++[b]).map V.ref))):=Dq (by simp [Am])
   have b5:=(S.keepT fr5).tup _ _ hb
   generalize upd H M.h (.lst ((as++[b]).map V.ref))=H5 at S5 fr5 b5
   refine ⟨_,rfl,_,rfl,_,rfl,p,b,_,tb,wt,rfl,S5,oz,rz,b5,fun x H' ex S' fr'=>?_⟩
   refine k x H' ex ?_ fun b o e h1 h2=>fr' _ _ (fr5 _ _ e h1 h2) h1 h2
   unfold De; rw [Vb h1]; exact S'
  ·refine ⟨_,rfl,_,rfl,_,rfl,p,b,M,tb,wt,rfl,S,oz,rz,hb,fun x H' ex S' fr'=>?_⟩
   refine k x H' ex ?_ fr'
   unfold De; rw [Vc h1]; exact S'
def T4:Sp:=fun vs H Q _=>∃ (p b:Addr) (M:HGh) (tb:T2) (sh:Int) (mine:Bool),vs=[.ref p,.ref b,.int sh,.bl mine]∧ModelAt H p M∧M.outs.length≤500∧M.hand.length≤500∧tb∈M.outs.map (·.1)∧H b=some (.tup (tv tb)) ∧
 ∀ (x:Addr) (H':Hp),H' x=some (.tup [.str "told",.non])→ModelAt H' p (Qf M tb sh mine)→HFr p M H H'→Q (.ref x) H'
theorem Jdk:Ay ["_law_model_here","_law_b","_law_share","_law_mine"] ["_law_model_here","_law_b","_law_share","_law_mine"] (Af Fn):={}
theorem Vn {f:Addr} (Tx:He mg) {cdv:Value} {A:Around} {outer:List Env} {s:Shared} {H:Hp} {E:XK} (hr:Room 0 (A.deeper (PyProof.Rows.envOfC "_law_pass_came" (Af Fn) s.heap.objs.size f cdv))) :
 ∃ t,PSs (Hy CX0 P w K mg base ["_law_model_here","_law_b","_law_share","_law_mine"] "_law_pass_came" (Af Fn) f cdv A outer s H E).nox ((As Fn).drop 1) t ∧
  ∀ (p b:Addr) (M:HGh) (tb:T2) (sh:Int) (mine:Bool) (Q:VK) (H1:Hp),ModelAt H1 p M→M.outs.length≤500→tb∈M.outs.map (·.1)→H1 b=some (.tup (tv tb))→(∀ (x:Addr) (H':Hp),H' x=some (.tup [.str "told",.non])→ModelAt H' p { M with outs:=psO M tb sh mine }→HFr p M H1 H'→Q (.ref x) H') →
   t { nx:=fun _ H'=>Q .non H',rt:=Q } [some (.ref p),some (.ref b),some (.int sh),some (.bl mine)] H1:=by
 have hu:=Bv hr
 have two:(2:Nat)≤sizeLine:=by decide
 refine ⟨_,Ad (B9 hu (Al hu (pv 0) Ak) (pv 1) (Aw Ce (Aw Jb (Al hu (Al hu (pv 0) Ak) (pv 1)) Ai) (Aw Jc (pv 2) (Aw Jb Ai (B2 Pg (by rfl) Tx.int PyProof.Rows.boot_int (Aa (pv 3) Ag))))) rfl)
  (Ah (Au (A6 (Aa Ak (Aa Dy Ag))))),?_⟩
 intro p b M tb sh mine Q H1 S oz hin hb k
 have fo:=Ci hin
 refine ⟨_,rfl,p,_,rfl,S.gOuts,_,rfl,M.o,_,rfl,C6 S.dO hb fo,_,_,rfl,rfl,_,rfl,_,rfl,.inr ⟨mine,rfl,?_⟩⟩
 have ev:Ao M.outs tb - 1 + sh * (2 - if mine=true then 1 else 0)=Ao M.outs tb + (if mine=true then sh - 1 else 2 * sh - 1):=by
  cases mine
  ·rw [if_neg (by decide),if_neg (by decide)]; lia
  ·rw [if_pos rfl,if_pos rfl]; lia
 refine ⟨_,_,rfl,rfl,_,_,rfl,rfl,?_,_,_,rfl,rfl,?_⟩
 ·exact .inr (by cases mine <;> exact ⟨by decide,by decide⟩)
 refine ⟨_,rfl,p,_,rfl,S.gOuts,_,rfl,M.o,_,rfl,DPut.t (k:=tk tb) S.dO hb (by rw [List.length_map]; exact A0 (by lia)),?_⟩
 rw [show ((fun (i j:Int)=>V.int (i + j)) (Ao M.outs tb - 1) (sh * (2 - if mine=true then 1 else 0)))=V.int (Ao M.outs tb + (if mine=true then sh - 1 else 2 * sh - 1)) by rw [← ev],Cq]
 have S1:ModelAt (upd H1 M.o (Bs (psO M tb sh mine))) p { M with outs:=psO M tb sh mine }:=S.setOuts _
 have fr1:HFr p M H1 (upd H1 M.o (Bs (psO M tb sh mine))):=Dq (by simp [Am])
 refine ⟨two,fun x hx=>?_⟩
 have s1:=Ae (o:=.tup [V.str "told",V.non]) hx
 exact k x _ Ab (S1.same s1) fun b o e h1 h2=>s1 _ _ (fr1 _ _ e h1 h2)
theorem X0 {f:Addr} {fd:FuncData} (F:Fun K "_law_pass_came" "_law_pass_came" Fn f fd) (Tx:He mg):FnOk P w K mg base CX0 1 f fd ["_law_model_here","_law_b","_law_share","_law_mine"] T4:=by
 refine F.ok Jdk (fun vs H Q E h=>?_) (fun cdv A outer s H vs Q E hr h=>?_)
 ·obtain ⟨p,b,M,tb,sh,mine,rfl,_⟩:=h
  rfl
 ·obtain ⟨p,b,M,tb,sh,mine,rfl,S,oz,hz,hin,hb,k⟩:=h
  have hu:=Bv hr
  obtain ⟨as,eh,th⟩:=S.dh
  obtain ⟨tt,htt,hsem⟩:=Vn (P:=P) (w:=w) (K:=K) (base:=base) (outer:=outer) (H:=H) (E:=E) Tx hr
  refine ⟨_,Ad (A5 (PW.pt (Mg (Gn (pv 3)) (Jq (Ap (A8 (E7 hr)) (pv 1) (Al hu (pv 0) Ak) rfl))))
   (Ah (Ba (Fx PySem.F.plainAttrs_list PySem.F.slot_list_append PySem.F.type_list_append Di (Al hu (pv 0) Ak) (Aa (pv 1) Ag)))) Aq)
   htt,?_⟩
  cases mine with
  | false =>
    refine ⟨_,rfl,false,rfl,?_⟩
    refine Be ?_
    refine Be (hsem p b M tb sh false Q H S oz hin hb fun x H' ex S' fr'=>k x H' ex S' fr')
  | true =>
    refine ⟨_,rfl,true,rfl,?_⟩
    refine Bk ?_
    refine ⟨_,rfl,_,rfl,p,_,rfl,S.gHand,Cc hb eh th ⟨fun h1=>⟨_,rfl,Bk ?_⟩,fun h1=>⟨_,rfl,Be ?_⟩⟩⟩
    ·have hlen:as.length≤500:=by have:=Paired.length th; lia
     refine ⟨_,rfl,p,_,rfl,S.gHand,.inl ⟨rfl,_,SqL.of eh⟩,_,rfl,M.h,_,_,rfl,rfl,eh,(by rw [List.length_map]; exact A0 (by lia)),?_⟩
     have e6:as.map V.ref++[V.ref b]=(as++[b]).map V.ref:=by rw [List.map_append]; rfl
     rw [e6]
     have S5:=S.setHand (as:=as++[b]) (ts:=M.hand++[tb]) (Ex hb th)
     have fr5:HFr p M H (upd H M.h (.lst ((as++[b]).map V.ref))):=Dq (by simp [Am])
     have b5:=(S.keepT fr5).tup _ _ hb
     generalize upd H M.h (.lst ((as++[b]).map V.ref))=H5 at S5 fr5 b5
     refine hsem p b _ tb sh true Q H5 S5 oz hin b5 fun x H' ex S' fr'=>k x H' ex ?_ fun b o e h1 h2=>fr' _ _ (fr5 _ _ e h1 h2) h1 h2
     unfold Qf psH; rw [if_pos rfl,Vb h1]; exact S'
    ·refine hsem p b M tb sh true Q H S oz hin hb fun x H' ex S' fr'=>k x H' ex ?_ fr'
     unfold Qf psH; rw [if_pos rfl,Vc h1]; exact S'
end
section
variable {P:Program} {w:World} {K:W.Frag} {mg:Str→Option Value} {base:Heap} {C NHd NNr MI NW:Addr}
def Om:Sp:=fun vs H Q _=>∃ (sa l:Addr) (as:List Addr) (ts:List T2) (hl:HL) (n:Nat) (R:List T2),vs=[.ref sa,.ref l]∧H sa=some (.lst (as.map V.ref))∧ThsAt H as ts∧ts.length≤400∧H l=some (B6 hl)∧hl.length≤400 ∧
 (∀ q∈hl,H q.2.1=some (Bi q.2.2)∧q.2.2.length≤400∧q.2.1≠l)∧Rch (nxT hl) n (ts.filter fun t=>decide (t∈hl.map (·.1))) [] R∧n≤5000∧∀ (x:Addr) (H':Hp),H x=none→B1 H H'→H' x=some (Bi R)→Q (.ref x) H'
theorem scR:Ay ["starts","holds","found","thing","ahead"] ["starts","holds"] (Af D0):={}
theorem Su {f:Addr} {fd:FuncData} (F:Fun K "reached" "reached" D0 f fd):FnOk P w K mg base CX0 1 f fd ["starts","holds"] Om:=by
 refine F.ok scR (fun vs H Q E h=>?_) (fun cdv A outer s H vs Q E hr h=>?_)
 ·obtain ⟨sa,l,as,ts,hl,n,R,rfl,_⟩:=h
  rfl
 ·obtain ⟨sa,l,as,ts,hl,n,R,rfl,es,th,zt,el,zl,hq,rch,zn,k⟩:=h
  have hu:=Bv hr
  refine ⟨_,Ad (A3 (i:=2) scR.nd rfl (Or.inl rfl) Dm)
   (Ad (Gp (te:=B8 0) (i:=4) (caps:=[("holds",1)]) scR.nd rfl rfl rfl rfl (Cv (pv 0))
    rfl (by decide +kernel) rfl (by decide +kernel) rfl ⟨rfl,trivial⟩ (fun y h=>Jg ⟨_,rfl⟩ h) ⟨⟨rfl,rfl,rfl,rfl⟩,trivial⟩ (by decide +kernel) (fun _ _ _ _ _=>C9 (Dl (Ho hu (pv 0) (pv 1)))) (fun _ _ _ _ _=>pv 0))
   (Ad (Q1 PassesOwn.never (Xi (pv 4) (fun _=>rfl))
    (Ad (A3 (i:=3) scR.nd rfl (Or.inl rfl) (Ss PySem.F.plainAttrs_list PySem.F.slot_list_pop PySem.F.type_list_pop Yb (pv 4)))
    (Ah (A5 (Dl (Fy hu (pv 3) (pv 2)))
     (Ad (B9 hu (pv 2) (pv 3) K1 rfl)
     (Ah (Ba (Fx PySem.F.plainAttrs_list PySem.F.slot_list_extend PySem.F.type_list_extend Kp (pv 4) (Aa (PE.thaw (El (te:=B8 0) (caps:=[("holds",1)]) rfl (Ff (Al hu (pv 1) (pv 3)))
      rfl (by decide +kernel) rfl (by decide +kernel) rfl ⟨rfl,trivial⟩ (fun y h=>Jg ⟨_,rfl⟩ h) ⟨⟨rfl,rfl,rfl,rfl⟩,trivial⟩ (by decide +kernel) (fun _ _ _ _ _=>C9 (Dl (Ho hu (pv 0) (pv 1)))) (fun _ _ _ _ _=>pv 0))) Ag))))) Aq))))
   (Ah (Au (pv 2))))),?_⟩
  intro fa hfa
  have s1:=Ae (o:=.dT []) hfa
  have e1:(upd H fa (.dT [])) fa=some (Bi []):=Ab
  generalize upd H fa (.dT [])=H1 at s1 e1
  have th1:ThsAt H1 as ts:=ThsAt.keep (KeepT.of_same s1) th
  refine ⟨_,rfl,sa,rfl,⟨_,SqL.of (s1 _ _ es)⟩,fun aa haa=>?_⟩
  refine F4 (b:=fun t=>decide (t∈hl.map (·.1))) (caps:=[("holds",1)]) haa (by lia) (s1 _ _ es) th1 (fun H2 a t Q' sm ha ht q=>?_) fun H2 bs sm ea tb=>?_
  ·obtain ⟨o,g,eo⟩:=Ks (k:=fun q:T2×Addr×List T2=>q.1) (f:=fun q=>V.ref q.2.1) (.inl (sm _ _ (s1 _ _ el))) ha
   refine ⟨_,rfl,_,rfl,l,o,rfl,g,?_⟩
   rw [eo]
   exact ⟨_,rfl,q⟩
  have naa:H aa=none:=by
   cases c:H aa with
   | none=>rfl
   | some o=>rw [s1 _ _ c] at haa; cases haa
  have nfa:fa≠aa:=fun z=>by rw [← z,e1] at haa; cases haa
  refine ⟨fun m σ H'=>∃ (ahead found:List T2) (as':List Addr) (u3:Option V),σ=[some (.ref sa),some (.ref l),some (.ref fa),u3,some (.ref aa)]∧B1 H H'∧H' fa=some (Bi found)∧H' aa=some (.lst (as'.map V.ref))∧ThsAt H' as' ahead∧Rch (nxT hl) m ahead found R∧found.length + m≤5000∧∀ t∈ahead,t∈hl.map (·.1),
   ⟨n,_,[],bs,_,rfl,Aj s1 sm,sm _ _ e1,ea,tb,rch,by simpa using zn,fun t ht=>by have:=(List.mem_filter.mp ht).2; simpa using this⟩,?_⟩
  rintro m σ H' ⟨ahead,found,as',u3,rfl,sh,ef,ea',tha,rc,zm,hk⟩
  refine ⟨_,rfl,_,.inl ⟨_,SqL.of ea',rfl⟩,?_⟩
  cases m with
  | zero =>
    obtain ⟨e0,eR⟩:=rc
    rw [e0] at tha
    have e2:as'=[]:=List.length_eq_zero_iff.mp (Paired.length tha)
    rw [e2]
    refine Be ⟨_,rfl,k fa H' hfa sh ?_⟩
    rw [eR]; exact ef
  | succ m =>
    have zl1:=rc.len
    obtain ⟨a,t,ea0,rc⟩:=rc
    rw [ea0] at tha zl1
    obtain ⟨bs',c,e2,thb,ec⟩:=Qm tha
    subst e2
    have em:(bs'++[c]).map V.ref=bs'.map V.ref++[V.ref c]:=by rw [List.map_append]; rfl
    rw [em] at ea' ⊢
    rw [show (!(bs'.map V.ref++[V.ref c]).isEmpty)=true by cases bs' <;> rfl]
    refine Bk ⟨_,fun σ' H' h=>⟨m,Nat.lt_succ_self m,h⟩,?_⟩
    refine ⟨_,rfl,.inl ⟨rfl,_,SqL.of ea'⟩,aa,_,_,rfl,rfl,ea',Ur _ _,?_⟩
    rw [show (bs'.map V.ref++[V.ref c]).dropLast=bs'.map V.ref by simp]
    have s3:B1 H (upd H' aa (.lst (bs'.map V.ref))):=fun b o e=>by rw [Ac (Ar e naa)]; exact sh _ _ e
    have kt3:KeepT H' (upd H' aa (.lst (bs'.map V.ref))):=KeepT.upd fun o' e=>by
     rw [ea'] at e; cases e; exact ⟨fun _ z=>(by cases z),fun _ _ z=>(by cases z)⟩
    have ef3:(upd H' aa (.lst (bs'.map V.ref))) fa=some (Bi found):=by rw [Ac nfa]; exact ef
    have ea3:(upd H' aa (.lst (bs'.map V.ref))) aa=some (.lst (bs'.map V.ref)):=Ab
    have thb3:ThsAt (upd H' aa (.lst (bs'.map V.ref))) bs' a:=ThsAt.keep kt3 thb
    have ec3:=kt3.tup _ _ ec
    generalize upd H' aa (.lst (bs'.map V.ref))=H3 at s3 kt3 ef3 ea3 thb3 ec3
    refine ⟨_,rfl,_,rfl,fa,_,rfl,Kc ef3 ec3,_,rfl,?_⟩
    rcases rc with ⟨hf,rc⟩ | ⟨hf,rc⟩
    ·rw [if_pos hf]
     exact Be ⟨a,found,bs',_,rfl,s3,ef3,ea3,thb3,rc,by lia,fun u hu=>hk u (by rw [ea0]; exact List.mem_append_left _ hu)⟩
    ·rw [if_neg hf]
     refine Bk ⟨_,rfl,_,rfl,fa,_,rfl,DPut.t (k:=tk t) ef3 ec3 (by rw [List.length_map]; exact Fm (by lia)),?_⟩
     rw [Eu,show Bf found t=found++[t] by unfold Bf; rw [if_neg hf]]
     have s4:B1 H (upd H3 fa (Bi (found++[t]))):=fun b o e=>by rw [Ac (Ar e hfa)]; exact s3 _ _ e
     have kt4:KeepT H3 (upd H3 fa (Bi (found++[t]))):=KeepT.upd fun o' e=>by
      rw [ef3] at e; cases e; exact ⟨fun _ z=>(by cases z),fun _ _ z=>(by cases z)⟩
     have ef4:(upd H3 fa (Bi (found++[t]))) fa=some (Bi (found++[t])):=Ab
     have ea4:(upd H3 fa (Bi (found++[t]))) aa=some (.lst (bs'.map V.ref)):=by rw [Ac nfa.symm]; exact ea3
     have thb4:ThsAt (upd H3 fa (Bi (found++[t]))) bs' a:=ThsAt.keep kt4 thb3
     have ec4:=kt4.tup _ _ ec3
     rw [show HO.dT ((found++[t]).map fun q=>(tk q,V.bl true))=Bi (found++[t]) from rfl]
     generalize upd H3 fa (Bi (found++[t]))=H4 at s4 kt4 ef4 ea4 thb4 ec4
     have tin:t∈hl.map (·.1):=hk t (by rw [ea0]; exact List.mem_append_right _ (by simp))
     obtain ⟨ad,fd'⟩:=Ln tin
     have mq:=List.mem_of_find?_eq_some fd'
     obtain ⟨q1,q2,q3⟩:=hq _ mq
     have q1:H ad=some (Bi (getH hl t)):=q1
     have q2:(getH hl t).length≤400:=q2
     have q3:ad≠l:=q3
     refine ⟨_,rfl,.inl ⟨rfl,_,SqL.of ea4⟩,_,rfl,_,rfl,l,_,rfl,Id (s4 _ _ el) ec4 fd',ad,_,rfl,s4 _ _ q1,fun ob pl hpl=>?_⟩
     have naad:aa≠ad:=fun z=>by rw [z,q1] at naa; cases naa
     have nfad:fa≠ad:=fun z=>by rw [z,q1] at hfa; cases hfa
     refine Ew (b:=fun u=>decide (u∈hl.map (·.1))) (caps:=[("holds",1)]) (l:=getH hl t) (key:=fun q=>q) (val:=fun _=>V.bl true) (ob:=ob) hpl (by lia) Ab (fun H2 a' u Q' sm' ha hu' q=>?_) fun H5 bs2 sm5 ep5 th5=>?_
     ·obtain ⟨o,g,eo⟩:=Ks (k:=fun q:T2×Addr×List T2=>q.1) (f:=fun q=>V.ref q.2.1) (.inl (sm' l (B6 hl) (by rw [Ac q3.symm]; exact s4 _ _ el))) ha
      refine ⟨_,rfl,_,rfl,l,o,rfl,g,?_⟩
      rw [eo]
      exact ⟨_,rfl,q⟩
     ·have f5:H5 ad=some (.frz ob (Bi (getH hl t))):=sm5 _ _ Ab
      refine ⟨upd H5 ad (Bi (getH hl t)),⟨ad,ob,_,f5,fun o v z=>?_,rfl⟩,?_⟩
      ·have z:H ad=some (.frz o v):=z
       rw [q1] at z; cases z
      have npl:pl≠ad:=fun z=>by rw [z,Ab] at hpl; cases hpl
      have s6:B1 H4 (upd H5 ad (Bi (getH hl t))):=fun b o e=>by
       by_cases hb:b=ad
       ·subst hb
        rw [s4 _ _ q1] at e
        rw [Ab]; exact e
       ·rw [Ac hb]
        exact sm5 _ _ (by rw [Ac hb]; exact e)
      have ep6:(upd H5 ad (Bi (getH hl t))) pl=some (.lst (bs2.map V.ref)):=by rw [Ac npl]; exact ep5
      have th6:ThsAt (upd H5 ad (Bi (getH hl t))) bs2 (nxT hl t):=by
       have th5:ThsAt H5 bs2 (nxT hl t):=by rw [List.map_id'] at th5; exact th5
       refine An (fun b u e=>?_) th5
       rw [Ac fun z=>by rw [z,f5] at e; cases e]; exact e
      generalize upd H5 ad (Bi (getH hl t))=H6 at s6 ep6 th6
      have zz:=rc.len
      rw [List.length_append] at zz
      have l1:=Paired.length thb4
      have l2:=Paired.length th6
      refine ⟨aa,pl,_,_,rfl,rfl,s6 _ _ ea4,ep6,Nat.le_of_lt (Fm (by rw [List.length_map,List.length_map]; lia)),?_⟩
      rw [← List.map_append]
      have kt7:KeepT H6 (upd H6 aa (.lst ((bs'++bs2).map V.ref))):=KeepT.upd fun o' e=>by
       rw [s6 _ _ ea4] at e; cases e; exact ⟨fun _ z=>(by cases z),fun _ _ z=>(by cases z)⟩
      refine ⟨a++nxT hl t,found++[t],bs'++bs2,_,rfl,fun b o e=>?_,?_,Ab,ThsAt.keep kt7 (F8 (ThsAt.keep (KeepT.of_same s6) thb4) th6),rc,?_,fun u hu=>?_⟩
      ·rw [Ac (Ar e naa)]; exact s6 _ _ (s4 _ _ e)
      ·rw [Ac nfa]; exact s6 _ _ ef4
      ·rw [List.length_append]; show found.length + 1 + m≤5000; lia
      ·rcases List.mem_append.mp hu with hu | hu
       ·exact hk u (by rw [ea0]; exact List.mem_append_left _ hu)
       ·have:=(List.mem_filter.mp hu).2; simpa using this
def Wz (C:Addr):Sp:=fun vs H Q _=>∃ (p ta:Addr) (G:HGh) (as:List Addr) (ts:List T2),vs=[.ref p,.ref ta]∧HouseAt C H p G∧G.holds.map (·.1)=G.outs.map (·.1)∧H ta=some (.lst (as.map V.ref))∧ThsAt H as ts∧Done C p G H (dropTs G ts) (Q .non)
theorem scLo:Ay ["self","things","thing"] ["self","things"] (Af Hl):={}
theorem Z1 {f:Addr} {fd:FuncData} (F:Fun K "lose" "House.lose" Hl f fd) (T:Txt K mg C NHd NNr MI NW):FnOk P w K mg base CX0 1 f fd ["self","things"] (Wz C):=by
 refine F.ok scLo (fun vs H Q E h=>?_) (fun cdv A outer s H vs Q E hr h=>?_)
 ·obtain ⟨p,ta,G,as,ts,rfl,_⟩:=h
  rfl
 ·obtain ⟨p,ta,G,as,ts,rfl,S,ke,et,th,k⟩:=h
  have hu:=Bv hr
  have lt:=Paired.length th
  refine ⟨_,Ah (Hm PassesOwn.never rfl (Cv (pv 1)) (Ek (i:=2) scLo.nd rfl (Or.inl rfl))
   (Ah (A5 (Dl (Ho hu (pv 2) (A7 (pv 0) rfl))) (Ad (Ba (C4 hu (A7 (pv 0) rfl) (pv 2) ⟨rfl,rfl,rfl,rfl⟩)) (Ah (Ba (C4 hu (A7 (pv 0) rfl) (pv 2) ⟨rfl,rfl,rfl,rfl⟩)))) Aq))),?_⟩
  refine ⟨_,rfl,ta,rfl,⟨_,SqL.of et⟩,?_⟩
  refine Hv (K:=K) (a:=ta) (xs:=as.map V.ref) (fun i σ H2=>∃ u2:Option V,σ=[some (.ref p),some (.ref ta),u2]∧HouseAt C H2 p (dropTs G (ts.take i))∧HFr p G H H2)
   ⟨_,rfl,by rw [List.take_zero,Jh]; exact S,fun b o e _ _=>e⟩ (fun i σ H2 _ h=>let ⟨_,_,_,fr⟩:=h; SqL.of (fr _ _ et (S.lst_ne et).1 (S.lst_ne et).2)) ?_ ?_
  ·rintro i x σ H2 hx ⟨u2,rfl,S2,fr2⟩
   rw [List.getElem?_map] at hx
   cases ea:as[i]? with
   | none=>rw [ea] at hx; cases hx
   | some a =>
     rw [ea] at hx
     have hx:V.ref a=x:=Option.some.inj hx
     subst hx
     obtain ⟨t,ht⟩:=Bd (xs:=ts) (j:=i) (by have:=(List.getElem?_eq_some_iff.mp ea).1; lia)
     have ha:=A1 th i a t ea ht
     have ha2:=fr2 _ _ ha (S.tup_ne ha).1 (S.tup_ne ha).2
     obtain ⟨dx2,hp2⟩:=S2.ob
     obtain ⟨o,g,eo⟩:=Ks (k:=fun q:T2×Int=>q.1) (f:=fun q=>V.int q.2) (.inl S2.dO) ha2
     have f1:=D9 (fun q:T2×Int=>q.1) G.outs ht
     have f2:=D9 (fun q:T2×Addr×List T2=>q.1) G.holds ht
     refine ⟨_,rfl,_,rfl,p,C,dx2,_,_,rfl,hp2,T.cl,T.nO,Cg _,G.o,o,rfl,g,_,rfl,?_⟩
     rw [eo]
     have ks:(dropTs G (ts.take i)).holds.map (·.1)=(dropTs G (ts.take i)).outs.map (·.1):=by
      show (G.holds.filter fun q=>decide (q.1∉ts.take i)).map (·.1)=(G.outs.filter fun q=>decide (q.1∉ts.take i)).map (·.1)
      rw [Br (fun q:T2×Addr×List T2=>q.1) G.holds (fun t=>decide (t∉ts.take i)),Br (fun q:T2×Int=>q.1) G.outs (fun t=>decide (t∉ts.take i)),ke]
     by_cases h:t∈(dropTs G (ts.take i)).outs.map (·.1)
     ·rw [decide_eq_true h]
      obtain ⟨v1,hv1⟩:=Dt (l:=(dropTs G (ts.take i)).outs) (k:=fun q=>q.1) (f:=fun q=>V.int q.2) h
      obtain ⟨v2,hv2⟩:=Dt (l:=(dropTs G (ts.take i)).holds) (k:=fun q=>q.1) (f:=fun q=>V.ref q.2.1) (by rw [ks]; exact h)
      refine Bk ⟨_,rfl,p,C,dx2,_,_,rfl,hp2,T.cl,T.nO,Cg _,G.o,rfl,.inr ⟨_,.inl S2.dO⟩,_,rfl,_,tk t,_,a,S2.dO,rfl,ha2,hv1,?_⟩
      rw [C8 (k:=fun q:T2×Int=>q.1) (f:=fun q=>V.int q.2)]
      have S3:=S2.setOuts ((dropTs G (ts.take i)).outs.filter fun q=>decide (q.1≠t))
      have fr3:HFr p G H (upd H2 G.o (Bs ((dropTs G (ts.take i)).outs.filter fun q=>decide (q.1≠t)))):=fun b o e h1 h2=>by rw [Ac fun z=>h2 (by rw [z]; simp [Am])]; exact fr2 _ _ e h1 h2
      have ha3:=fr3 _ _ ha (S.tup_ne ha).1 (S.tup_ne ha).2
      rw [show HO.dT (((dropTs G (ts.take i)).outs.filter fun q=>decide (q.1≠t)).map fun q=>(tk q.1,V.int q.2))=Bs ((dropTs G (ts.take i)).outs.filter fun q=>decide (q.1≠t)) from rfl]
      have S3:HouseAt C (upd H2 G.o (Bs ((dropTs G (ts.take i)).outs.filter fun q=>decide (q.1≠t)))) p { dropTs G (ts.take i) with outs:=(dropTs G (ts.take i)).outs.filter fun q=>decide (q.1≠t) }:=S3
      generalize upd H2 G.o (Bs ((dropTs G (ts.take i)).outs.filter fun q=>decide (q.1≠t)))=H3 at S3 fr3 ha3
      obtain ⟨dx3,hp3⟩:=S3.ob
      refine ⟨_,rfl,p,C,dx3,_,_,rfl,hp3,T.cl,T.nL,C7 _,G.l,rfl,.inr ⟨_,.inl S3.dl⟩,_,rfl,_,tk t,_,a,S3.dl,rfl,ha3,hv2,?_⟩
      have e3:Dk (({ dropTs G (ts.take i) with outs:=(dropTs G (ts.take i)).outs.filter fun q=>decide (q.1≠t) }:HGh).holds.map fun (q:T2×Addr×List T2)=>(tk q.1,V.ref q.2.1)) (tk t)=((dropTs G (ts.take i)).holds.filter fun q=>decide (q.1≠t)).map fun (q:T2×Addr×List T2)=>(tk q.1,V.ref q.2.1) :=
       C8 (k:=fun q:T2×Addr×List T2=>q.1) (f:=fun q=>V.ref q.2.1) _ t
      rw [e3]
      have S4:=S3.subHolds (hl:=(dropTs G (ts.take i)).holds.filter fun q=>decide (q.1≠t)) List.filter_sublist
      have eG:dropTs G (ts.take (i + 1))={ dropTs G (ts.take i) with outs:=(dropTs G (ts.take i)).outs.filter (fun q=>decide (q.1≠t)),holds:=(dropTs G (ts.take i)).holds.filter (fun q=>decide (q.1≠t)) }:=by
       unfold dropTs
       rw [f1,f2]
      refine ⟨_,rfl,by rw [eG]; exact S4,fun b o e h1 h2=>?_⟩
      rw [Ac fun z=>h2 (by rw [z]; show G.l∈Am G; simp [Am])]; exact fr3 _ _ e h1 h2
     ·rw [decide_eq_false h]
      have no1:∀ q∈(dropTs G (ts.take i)).outs,q.1≠t:=fun q hq z=>h (List.mem_map.mpr ⟨q,hq,z⟩)
      have no2:∀ q∈(dropTs G (ts.take i)).holds,q.1≠t:=fun q hq z=>h (by rw [← ks]; exact List.mem_map.mpr ⟨q,hq,z⟩)
      have eG:dropTs G (ts.take (i + 1))=dropTs G (ts.take i):=by
       have a1:(dropTs G (ts.take i)).outs.filter (fun q=>decide (q.1≠t))=(dropTs G (ts.take i)).outs:=List.filter_eq_self.mpr fun q hq=>by simpa using no1 q hq
       have a2:(dropTs G (ts.take i)).holds.filter (fun q=>decide (q.1≠t))=(dropTs G (ts.take i)).holds:=List.filter_eq_self.mpr fun q hq=>by simpa using no2 q hq
       unfold dropTs at a1 a2 ⊢
       rw [f1,f2,a1,a2]
      exact Be ⟨_,rfl,by rw [eG]; exact S2,fr2⟩
  ·rintro σ H2 ⟨u2,rfl,S2,fr2⟩
   rw [List.length_map,lt,List.take_length] at S2
   exact k H2 S2 fr2
def Co (G:HGh) (rs:List (T2×Int)):List (T2×Int):=(rs.filter fun q=>!heldB G q.1).filter fun q=>decide (0 < q.2)
def Sl (C:Addr):Sp:=fun vs H Q _=>∃ (p:Addr) (G:HGh) (n:Nat) (rs:List (T2×Int)),vs=[.ref p]∧HouseAt C H p G∧Ok G n∧n≤62∧(∀ t∈G.hand,InP G.num t)∧(∀ q∈G.holds,∀ t∈q.2.2,InP G.num t)∧rs.Perm G.recs∧(rs.map (·.1)).Pairwise lt2 ∧
 ∀ (x:Addr) (as:List Addr) (H':Hp),H x=none→H' x=some (.lst (as.map V.ref))→BackAt H' as (Co G rs)→HouseAt C H' p (keepB G)→HFr p G H H'→Q (.ref x) H'
theorem scGB:Ay ["self","held","holder","thing","unheld","back"] ["self"] (Af Jm):={}
def Jc6 (K:W.Frag):TE:=Sh (C3 (B8 0) (C3 (Ha (Zc K (B8 1) "records") (B8 0)) Ki))
def Jc5 (K:W.Frag):TT:=Ji (tOp (rI0 fun i j=>.bl (decide (j < i))) (Ha (Zc K (B8 1) "records") (B8 0)) (tC (.int 0)))
theorem Uk {f:Addr} {fd:FuncData} (F:Fun K "give_back" "House.give_back" Jm f fd) (T:Txt K mg C NHd NNr MI NW) (Tx:He mg):FnOk P w K mg base CX0 1 f fd ["self"] (Sl C):=by
 refine F.ok scGB (fun vs H Q E h=>?_) (fun cdv A outer s H vs Q E hr h=>?_)
 ·obtain ⟨p,G,n,rs,rfl,_⟩:=h
  rfl
 ·obtain ⟨p,G,n,rs,rfl,S,ok,zn,ir1,ir2,pm,pw,k⟩:=h
  have hu:=Bv hr
  obtain ⟨dx,hp⟩:=S.ob
  refine ⟨_,Ad (A3 (i:=1) scGB.nd rfl (by first | exact Or.inl rfl | exact Or.inr rfl) (B2 (Tp (E7 hr)) (by rfl) Tx.dict PyProof.Rows.boot_dict (Aa (A7 (pv 0) rfl) Ag)))
   (Ad (Hm PassesOwn.never rfl (Ff (A7 (pv 0) rfl)) (Ek (i:=2) scGB.nd rfl (Or.inl rfl))
    (Ah (Ba (Fx PySem.F.plainAttrs_dict PySem.F.slot_dict_update PySem.F.type_dict_update (Jaa hu) (pv 1) (Aa (Al hu (A7 (pv 0) rfl) (pv 2)) Ag)))))
   (PSs.thaw (Ad (Gp (te:=B8 0) (i:=4) (caps:=[("held",1)]) scGB.nd rfl rfl rfl rfl (Cv (Bj (Bp rfl) (by rfl) T.sorted PyProof.Rows.boot_sorted (Aa (A7 (pv 0) rfl) Ag)))
    rfl (by decide +kernel) rfl (by decide +kernel) rfl ⟨rfl,trivial⟩ (fun y h=>Jg ⟨_,rfl⟩ h) ⟨⟨rfl,rfl,rfl,rfl⟩,trivial⟩ (by decide +kernel) (fun _ _ _ _ _=>C9 (Dl (Fy hu (pv 0) (pv 1)))) (fun _ _ _ _ _=>pv 0))
   (Ad (Gp (te:=Jc6 K) (tt:=Jc5 K) (i:=5) (caps:=[("self",0)]) scGB.nd rfl rfl rfl rfl (Cv (pv 4))
    rfl (by decide +kernel) rfl (by decide +kernel) rfl ⟨rfl,trivial⟩ (fun y h=>Jg ⟨_,rfl⟩ h) ⟨⟨rfl,rfl,rfl,rfl⟩,trivial⟩ (by decide +kernel) (fun _ _ _ _ _=>C9 (Ap Q3 (Al hu (A7 (pv 1) rfl) (pv 0)) Ai (A4 _))) (fun _ _ _ _ _=>A6 (Aa (pv 0) (Aa (Al hu (A7 (pv 1) rfl) (pv 0)) Ag))))
   (Ad (Hm PassesOwn.never rfl (Cv (pv 4)) (Ek (i:=3) scGB.nd rfl (Or.inl rfl))
    (Ah (Ba (C4 hu (A7 (pv 0) rfl) (pv 3) ⟨rfl,rfl,rfl,rfl⟩))))
   (Ah (Au (pv 5)))))))),?_⟩
  have z1:=ok.hz
  have z2:=ok.lens
  have z3:=ok.rz
  refine ⟨_,rfl,p,C,dx,_,_,rfl,hp,T.cl,T.nH,Et G,G.h,_,rfl,S.dh,Nm ok.hn ir1,fun hd hhd=>?_⟩
  have e0:Eg [] (G.hand.map fun q=>(tk q,V.bl true))=G.hand.map fun q=>(tk q,V.bl true):=by
   have:=Hu G.hand []
   rw [Nz _ _ (by simpa using ok.hn)] at this
   simpa using this
  rw [e0]
  have s1:=Ae (o:=Bi G.hand) hhd
  have e1:(upd H hd (Bi G.hand)) hd=some (Bi G.hand):=Ab
  rw [show HO.dT (G.hand.map fun q=>(tk q,V.bl true))=Bi G.hand from rfl]
  generalize upd H hd (Bi G.hand)=H1 at s1 e1
  have S1:=S.same s1
  obtain ⟨dx1,hp1⟩:=S1.ob
  have ndl:(G.holds.map (·.1)).Nodup:=by rw [ok.ke]; exact ok.on
  have nhd:∀ {b:Addr} {o:HO},H b=some o→b≠hd:=fun e=>Ar e hhd
  have npl:p≠G.l:=fun z=>S.p_ne (b:=G.l) (by simp [Am]) z.symm
  refine ⟨_,rfl,p,C,dx1,_,_,rfl,hp1,T.cl,T.nL,C7 G,G.l,_,rfl,S1.dl,fun ob=>?_⟩
  refine Rv (d:=G.l) (ob:=ob) (fun i σ H2=>∃ u2:Option V,σ=[some (.ref p),some (.ref hd),u2,none,none,none]∧H2 hd=some (Bi (Cb G.hand (G.holds.take i)))∧∀ b o,(upd H1 G.l (.frz ob (B6 G.holds))) b=some o→b≠hd→H2 b=some o)
   ⟨_,rfl,by rw [Ac (nhd S.dl).symm,e1]; rfl,fun b o e _=>e⟩ (fun i σ H2 _ h=>let ⟨_,_,_,fr⟩:=h; fr _ _ Ab (nhd S.dl)) ?_ ?_
  ·rintro i a kk v σ H2 hx ha ⟨u2,rfl,eh,fr⟩
   rw [List.getElem?_map] at hx
   cases eq:G.holds[i]? with
   | none=>rw [eq] at hx; cases hx
   | some q =>
     rw [eq] at hx
     have hx:(tk q.1,V.ref q.2.1)=(kk,v):=Option.some.inj hx
     have mq:=List.mem_of_getElem? eq
     have e2:kk=tk q.1:=(Prod.mk.inj hx).1.symm
     rw [e2,Ql] at ha
     have hpp:H2 p=some (.ins C dx1 (Bx G)):=fr _ _ (by rw [Ac npl]; exact hp1) (nhd hp)
     have hll:H2 G.l=some (.frz ob (B6 G.holds)):=fr _ _ Ab (nhd S.dl)
     have hqq:H2 q.2.1=some (Bi q.2.2):=by
      have h0:=S.hl q mq
      refine fr _ _ ?_ (nhd h0)
      rw [Ac (S.nds.2.2.2 q mq).2.2.1]; exact S1.hl q mq
     have gv:Cp (G.holds.map fun (q:T2×Addr×List T2)=>(tk q.1,V.ref q.2.1)) (tk q.1)=some (V.ref q.2.1):=by
      rw [Ct (k:=fun q:T2×Addr×List T2=>q.1) (f:=fun q=>V.ref q.2.1),FX.find_self (k:=fun q:T2×Addr×List T2=>q.1) ndl mq]; rfl
     have l0:=ok.ln q mq
     have l1:(Cb G.hand (G.holds.take i)).length≤62 + 62 * 62:=by
      have h1:=K5 (B:=62) (qs:=G.holds.take i) (hand:=G.hand) (fun r hr=>by have:=(ok.ln r (List.mem_of_mem_take hr)).2; lia)
      have h2:(G.holds.take i).length≤G.holds.length:=by rw [List.length_take]; lia
      have h3:(G.holds.take i).length * 62≤62 * 62:=Nat.mul_le_mul_right _ (by lia)
      lia
     refine ⟨_,rfl,.inr (.inr (.inl ⟨rfl,.inr ⟨_,eh⟩⟩)),_,rfl,p,C,dx1,_,_,rfl,hpp,T.cl,T.nL,C7 G,_,rfl,G.l,_,rfl,.inr ⟨_,tk q.1,a,.inr ⟨ob,hll⟩,rfl,ha,gv.symm⟩,hd,q.2.1,_,_,rfl,rfl,eh,.inl hqq,(nhd (S.hl q mq)).symm,?_,fun _=>Nm l0.1 (ir2 q mq),?_⟩
     ·rw [List.length_map,List.length_map]
      exact Nat.le_of_lt (Fm (by lia))
     ·rw [Hu,← Qc G.hand eq]
      exact ⟨_,rfl,Ab,fun b o e hb=>by rw [Ac hb]; exact fr b o e hb⟩
  ·rintro σ H2 ⟨u2,rfl,eh,fr⟩
   rw [List.length_map,List.take_length] at eh
   have hll:H2 G.l=some (.frz ob (B6 G.holds)):=fr _ _ Ab (nhd S.dl)
   refine ⟨upd H2 G.l (B6 G.holds),⟨G.l,ob,_,hll,fun o v z=>?_,rfl⟩,?_⟩
   ·have z:H G.l=some (.frz o v):=z
    rw [S.dl] at z; cases z
   have s3:B1 H (upd H2 G.l (B6 G.holds)):=fun b o e=>by
    by_cases hb:b=G.l
    ·subst hb
     rw [S.dl] at e
     rw [Ab]; exact e
    ·rw [Ac hb]
     exact fr _ _ (by rw [Ac hb]; exact s1 _ _ e) (nhd e)
   have e3:(upd H2 G.l (B6 G.holds)) hd=some (Bi (Cb G.hand G.holds)):=by rw [Ac (nhd S.dl).symm]; exact eh
   generalize upd H2 G.l (B6 G.holds)=H3 at s3 e3
   have S3:=S.same s3
   obtain ⟨dx3,hp3⟩:=S3.ob
   refine ⟨_,rfl,p,C,dx3,_,_,rfl,hp3,T.cl,T.nR,Ck G,G.r,_,rs.map (·.1),rfl,P9 S3.dr,(by rw [List.length_map]; lia),?_,pw,fun sl asl hsl tsl=>⟨sl,rfl,⟨_,SqL.of Ab⟩,fun ul hul=>?_⟩⟩
   ·have e4:((G.recs.map fun q=>(q.1,V.int q.2)).map (·.1))=G.recs.map (·.1):=by rw [List.map_map]; rfl
    rw [e4]; exact pm.map _
   have s4:=Ae (o:=.lst (asl.map V.ref)) hsl
   have el4:(upd H3 sl (.lst (asl.map V.ref))) sl=some (.lst (asl.map V.ref)):=Ab
   have t4:ThsAt (upd H3 sl (.lst (asl.map V.ref))) asl (rs.map (·.1)):=ThsAt.keep (KeepT.of_same s4) tsl
   generalize upd H3 sl (.lst (asl.map V.ref))=H4 at s4 el4 t4 hul
   have lrs:rs.length≤62:=by have:=pm.length_eq; lia
   refine F4 (b:=fun t=>!heldB G t) (caps:=[("held",1)]) hul (by rw [List.length_map]; lia) el4 t4 (fun H5 a t Q' sm ha ht q=>?_) fun H5 bs sm eu tu=>?_
   ·refine ⟨_,rfl,_,rfl,hd,_,rfl,Kc (sm _ _ (s4 _ _ e3)) ha,?_⟩
    have e5:(!(if t∈Cb G.hand G.holds then some (V.bl true) else none).isSome)=!heldB G t:=by
     rw [← O3]
     by_cases c:t∈Cb G.hand G.holds
     ·rw [if_pos c,decide_eq_true c]; rfl
     ·rw [if_neg c,decide_eq_false c]; rfl
    rw [e5]
    exact ⟨_,rfl,q⟩
   have eU:(rs.map (·.1)).filter (fun t=>!heldB G t)=(rs.filter fun q=>!heldB G q.1).map (·.1):=(Br (fun q:T2×Int=>q.1) rs fun t=>!heldB G t).symm
   rw [eU] at tu
   have s5:B1 H H5:=Aj s3 (Aj s4 sm)
   have usub:∀ q∈rs.filter (fun q=>!heldB G q.1),q∈rs:=fun q hq=>(List.mem_filter.mp hq).1
   have usz:(rs.filter fun q=>!heldB G q.1).length≤62:=by have:=List.length_filter_le (fun q=>!heldB G q.1) rs; lia
   have hbk:Co G rs=(rs.filter fun q=>!heldB G q.1).filter fun q=>decide (0 < q.2):=rfl
   have und:((rs.filter fun q=>!heldB G q.1).map (·.1)).Nodup:=by
    have h1:(rs.map (·.1)).Nodup:=(pm.map _).nodup_iff.mpr ok.rn
    exact h1.sublist (List.filter_sublist.map _)
   generalize hus:(rs.filter fun q=>!heldB G q.1)=us at tu usub usz hbk und
   have S5:=S.same s5
   have lbs:=Paired.length tu
   rw [List.length_map] at lbs
   have val:∀ q∈us,G.recs.find? (fun r=>decide (r.1=q.1))=some q:=fun q hq=>FX.find_self (k:=fun q:T2×Int=>q.1) ok.rn (pm.subset (usub q hq))
   refine ⟨_,rfl,ul,rfl,⟨_,SqL.of eu⟩,fun bl hbl=>?_⟩
   refine F5 (K:=K) (a:=ul) (p:=bl) (xs:=bs.map V.ref) (tt:=Jc5 K) (te:=Jc6 K) (caps:=[("self",0)]) (fun i ys H6=>∃ cs:List Addr,ys=cs.map V.ref∧H6 bl=some (.lst ys)∧B1 H5 H6∧BackAt H6 cs ((us.take i).filter fun q=>decide (0 < q.2)))
    ⟨[],rfl,Ab,Ae hbl,.nil⟩ (fun i ys H6 _ h=>let ⟨_,_,e,sm,_⟩:=h; ⟨SqL.of (sm _ _ eu),e⟩) ?_ ?_
   ·rintro i x ys H6 N hx ⟨cs,ey,e6,s6,ba⟩ hN
    rw [List.getElem?_map] at hx
    cases eb:bs[i]? with
    | none=>rw [eb] at hx; cases hx
    | some b =>
      rw [eb] at hx
      have hx:V.ref b=x:=Option.some.inj hx
      subst hx
      obtain ⟨q,hq⟩:=Bd (xs:=us) (j:=i) (by have:=(List.getElem?_eq_some_iff.mp eb).1; lia)
      have hb:=A1 tu i b q.1 eb (by rw [List.getElem?_map,hq]; rfl)
      have hb6:=s6 _ _ hb
      have S6:=S5.same s6
      obtain ⟨dx6,hp6⟩:=S6.ob
      have gv:DGet H6 G.r (.ref b) (some (V.int q.2)):=C6 S6.dr hb6 (val q (List.mem_of_getElem? hq))
      have ft:=Kd (b:=fun q:T2×Int=>decide (0 < q.2)) hq
      refine ⟨_,rfl,p,C,dx6,_,_,rfl,hp6,T.cl,T.nR,Ck G,_,rfl,G.r,_,rfl,gv,_,_,rfl,rfl,_,rfl,?_⟩
      by_cases c:0 < q.2
      ·rw [decide_eq_true c] at ft ⊢
       refine Bk ⟨_,rfl,_,rfl,p,C,dx6,_,_,rfl,hp6,T.cl,T.nR,Ck G,_,rfl,G.r,_,rfl,gv,(by show 2≤sizeLine; decide),fun x1 hx1=>?_⟩
       have s7:=Ae (o:=.tup [V.ref b,V.int q.2]) hx1
       have x7:(upd H6 x1 (.tup [V.ref b,V.int q.2])) x1=some (.tup [V.ref b,V.int q.2]):=Ab
       have e7:=s7 _ _ e6
       generalize upd H6 x1 (.tup [V.ref b,V.int q.2])=H7 at s7 x7 e7
       have kt8:KeepT H7 (upd H7 bl (.lst (ys++[V.ref x1]))):=KeepT.upd fun o' e=>by
        rw [e7] at e; cases e; exact ⟨fun _ z=>(by cases z),fun _ _ z=>(by cases z)⟩
       have lcs:cs.length≤us.length:=by rw [Paired.length ba]; exact Fz _ us i
       refine ⟨e7,by rw [ey,List.length_map]; exact Fm (by lia),hN _ _ ⟨cs++[x1],by rw [ey,List.map_append]; rfl,Ab,fun d o e=>?_,?_⟩⟩
       ·rw [Ac (Ar e hbl)]; exact s7 _ _ (s6 _ _ e)
       ·rw [ft,if_pos rfl]
        exact Em (BackAt.keep kt8 (BackAt.keep (KeepT.of_same s7) ba)) ⟨b,kt8.tup _ _ x7,kt8.tup _ _ (s7 _ _ hb6)⟩
      ·rw [decide_eq_false c] at ft ⊢
       refine Be (hN _ _ ⟨cs,ey,e6,s6,?_⟩)
       rw [ft,if_neg (by decide),List.append_nil]; exact ba
   ·rintro ys H6 ⟨cs,ey,e6,s6,ba⟩
    rw [List.length_map,lbs,List.take_length,← hbk] at ba
    rw [ey] at e6
    have S6:=S5.same s6
    have eu6:=s6 _ _ eu
    have tu6:ThsAt H6 bs (us.map (·.1)):=ThsAt.keep (KeepT.of_same s6) tu
    have nblr:bl≠G.r:=fun z=>by rw [z,S5.dr] at hbl; cases hbl
    have hbl0:H bl=none:=by
     cases c:H bl with
     | none=>rfl
     | some o=>rw [s5 _ _ c] at hbl; cases hbl
    refine ⟨_,rfl,ul,rfl,⟨_,SqL.of eu6⟩,?_⟩
    have dropR:∀ j,({ G with recs:=G.recs.filter fun q=>decide (q.1∉(us.map (·.1)).take j) }:HGh).recs=G.recs.filter fun q=>decide (q.1∉(us.map (·.1)).take j):=fun _=>rfl
    refine Hv (K:=K) (a:=ul) (xs:=bs.map V.ref) (fun i σ H7=>∃ u3:Option V,σ=[some (.ref p),some (.ref hd),u2,u3,some (.ref ul),some (.ref bl)]∧HouseAt C H7 p { G with recs:=G.recs.filter fun q=>decide (q.1∉(us.map (·.1)).take i) }∧∀ b o,H6 b=some o→b≠G.r→H7 b=some o)
     ⟨_,rfl,?_,fun b o e _=>e⟩ (fun i σ H7 _ h=>let ⟨_,_,_,fr⟩:=h; SqL.of (fr _ _ eu6 fun z=>by rw [z,S6.dr] at eu6; cases eu6)) ?_ ?_
    ·have e8:(G.recs.filter fun q=>decide (q.1∉(us.map (·.1)).take 0))=G.recs:=List.filter_eq_self.mpr fun q _=>by simp
     rw [e8]; exact S6
    ·rintro i x σ H7 hx ⟨u3,rfl,S7,fr7⟩
     rw [List.getElem?_map] at hx
     cases eb:bs[i]? with
     | none=>rw [eb] at hx; cases hx
     | some b =>
       rw [eb] at hx
       have hx:V.ref b=x:=Option.some.inj hx
       subst hx
       obtain ⟨q,hq⟩:=Bd (xs:=us) (j:=i) (by have:=(List.getElem?_eq_some_iff.mp eb).1; lia)
       have hqm:(us.map (·.1))[i]?=some q.1:=by rw [List.getElem?_map,hq]; rfl
       have hb:=A1 tu6 i b q.1 eb hqm
       have hb7:=fr7 _ _ hb fun z=>by rw [z,S6.dr] at hb; cases hb
       obtain ⟨dx7,hp7⟩:=S7.ob
       have qin:q.1∈(G.recs.filter fun r=>decide (r.1∉(us.map (·.1)).take i)).map (·.1):=by
        refine List.mem_map.mpr ⟨q,List.mem_filter.mpr ⟨pm.subset (usub q (List.mem_of_getElem? hq)),?_⟩,rfl⟩
        have:q.1∉(us.map (·.1)).take i:=fun z=>Fg und hqm z
        simpa using this
       obtain ⟨v,hv⟩:=Dt (l:=G.recs.filter fun (r:T2×Int)=>decide (r.1∉(us.map fun (z:T2×Int)=>z.1).take i)) (k:=fun (q:T2×Int)=>q.1) (f:=fun (q:T2×Int)=>V.int q.2) (t:=q.1) qin
       refine ⟨_,rfl,p,C,dx7,_,_,rfl,hp7,T.cl,T.nR,Ck _,G.r,rfl,.inr ⟨_,.inl S7.dr⟩,_,rfl,_,tk q.1,_,b,S7.dr,rfl,hb7,hv,?_⟩
       have e9:Dk ((({ G with recs:=G.recs.filter fun q=>decide (q.1∉(us.map (·.1)).take i) }:HGh).recs).map fun q=>(tk q.1,V.int q.2)) (tk q.1)=(G.recs.filter fun r=>decide (r.1∉(us.map (·.1)).take (i + 1))).map fun q=>(tk q.1,V.int q.2):=by
        rw [D9 (fun q:T2×Int=>q.1) G.recs hqm]
        exact C8 (k:=fun q:T2×Int=>q.1) (f:=fun q=>V.int q.2) _ _
       rw [e9]
       have S8:=S7.setRecs (G.recs.filter fun r=>decide (r.1∉(us.map (·.1)).take (i + 1)))
       exact ⟨_,rfl,S8,fun b o e hb=>by rw [Ac hb]; exact fr7 _ _ e hb⟩
    ·rintro σ H7 ⟨u3,rfl,S7,fr7⟩
     rw [List.length_map,lbs,← List.length_map (f:=fun q:T2×Int=>q.1),List.take_length] at S7
     have kt7:KeepT H6 H7:=⟨fun b xs e=>fr7 _ _ e (fun z=>by rw [z,S6.dr] at e; cases e),fun b o v e=>fr7 _ _ e (fun z=>by rw [z,S6.dr] at e; cases e)⟩
     refine ⟨_,rfl,k bl cs H7 hbl0 (fr7 _ _ e6 nblr) (BackAt.keep kt7 ba) ?_ fun b o e h1 h2=>fr7 _ _ (s6 _ _ (s5 _ _ e)) fun z=>h2 (by rw [z]; simp [Am])⟩
     have eK:keepB G={ G with recs:=G.recs.filter fun q=>decide (q.1∉us.map (·.1)) }:=by
      unfold keepB
      have:(G.recs.filter fun q=>heldB G q.1)=G.recs.filter fun q=>decide (q.1∉us.map (·.1)):=List.filter_congr fun q hq=>by
       by_cases c:heldB G q.1=true
       ·have nm:q.1∉us.map (·.1):=fun z=>by
         obtain ⟨r,hr,er⟩:=List.mem_map.mp z
         rw [← hus] at hr
         have:=(List.mem_filter.mp hr).2
         rw [er,c] at this; cases this
        rw [c,decide_eq_true nm]
       ·have c:heldB G q.1=false:=by simpa using c
        have im:q.1∈us.map (·.1):=by
         rw [← hus]
         exact List.mem_map.mpr ⟨q,List.mem_filter.mpr ⟨pm.symm.subset hq,by rw [c]; rfl⟩,rfl⟩
        rw [c]; simp only [im,not_true_eq_false,decide_false]
      rw [this]
     rw [eK]; exact S7
def Ub (C:Addr):Sp:=fun vs H Q _=>∃ (p:Addr) (G:HGh) (n m:Nat) (rs:List (T2×Int)) (R:List T2),vs=[.ref p]∧HouseAt C H p G∧Ok G n∧n≤62∧(∀ t∈G.hand,InP G.num t)∧(∀ q∈G.holds,∀ t∈q.2.2,InP G.num t)∧rs.Perm G.recs∧(rs.map (·.1)).Pairwise lt2 ∧
 Rch (nxT G.holds) m (startT G) [] R∧m≤5000∧Ok (keepR G R) n ∧
 ∀ (x:Addr) (as:List Addr) (H':Hp),(∀ b o,H b=some o→b≠p→b∉Am G→b≠x)→H' x=some (.lst (as.map V.ref))→BackAt H' as (Co (keepR G R) rs)→HouseAt C H' p (tk1 (keepB (keepR G R)))→HFr p G H H'→Q (.ref x) H'
theorem scCl:Ay ["self","lent","kept"] ["self"] (Af Iy):={}
def Jed (K:W.Frag):TT:=Ji (tOp (rI0 fun i j=>.bl (decide (j < i))) (Ha (Zc K (B8 1) "outs") (B8 0)) (tC (.int 0)))
theorem X8 {f fR fL fG:Addr} {fd dR dL dG:FuncData} (F:Fun K "clean" "House.clean" Iy f fd) (T:Txt K mg C NHd NNr MI NW) (Tx:He mg) (MR:Gdf K mg "reached" D0 ["starts","holds"] fR dR) (ML:Mth K C "lose" "House.lose" Hl ["self","things"] fL dL) (MG:Mth K C "give_back" "House.give_back" Jm ["self"] fG dG) :
 FnOk P w K mg base CX0 2 f fd ["self"] (Ub C):=by
 have GR:FnOk P w K mg base CX0 1 fR dR ["starts","holds"] Om:=Su MR.fn
 have GL:FnOk P w K mg base CX0 1 fL dL ["self","things"] (Wz C):=Z1 ML.fn T
 have GG:FnOk P w K mg base CX0 1 fG dG ["self"] (Sl C):=Uk MG.fn T Tx
 refine F.ok scCl (fun vs H Q E h=>?_) (fun cdv A outer s H vs Q E hr h=>?_)
 ·obtain ⟨p,G,n,m,rs,R,rfl,_⟩:=h
  rfl
 ·obtain ⟨p,G,n,m,rs,R,rfl,S,ok,zn,ir1,ir2,pm,pw,rc,zm,okR,k⟩:=h
  have hu:=Bv hr
  obtain ⟨dx,hp⟩:=S.ob
  refine ⟨_,Ad (Gp (te:=B8 0) (tt:=Jed K) (i:=1) (caps:=[("self",0)]) scCl.nd rfl rfl rfl rfl (Ff (A7 (pv 0) rfl))
   rfl (by decide +kernel) rfl (by decide +kernel) rfl ⟨rfl,trivial⟩ (fun y h=>Jg ⟨_,rfl⟩ h) ⟨⟨rfl,rfl,rfl,rfl⟩,trivial⟩ (by decide +kernel) (fun _ _ _ _ _=>C9 (Ap Q3 (Al hu (A7 (pv 1) rfl) (pv 0)) Ai (A4 _))) (fun _ _ _ _ _=>pv 0))
   (PSs.thaw (Ad (A3 (i:=2) scCl.nd rfl (by first | exact Or.inl rfl | exact Or.inr rfl) (Bn GR hr (by rfl) MR.mg MR.fn.kp MR.bd .nil Bu (Aa (Aw Mo (B2 (Hz rfl) (by rfl) Tx.list PyProof.Rows.boot_list (Aa (A7 (pv 0) rfl) Ag)) (pv 1)) (Aa (A7 (pv 0) rfl) Ag))))
   (Ad (Ba (Bo (pl:=_) (pv 0) T.cl ML.mt GL hr ML.bd .nil Bu (Aa (PE.thaw (El (te:=B8 0) (caps:=[("kept",2)]) rfl (Ff (A7 (pv 0) rfl))
    rfl (by decide +kernel) rfl (by decide +kernel) rfl ⟨rfl,trivial⟩ (fun y h=>Jg ⟨_,rfl⟩ h) ⟨⟨rfl,rfl,rfl,rfl⟩,trivial⟩ (by decide +kernel) (fun _ _ _ _ _=>C9 (Dl (Fy hu (pv 0) (pv 1)))) (fun _ _ _ _ _=>pv 0))) Ag)))
   (Ad (Ca (pv 0) Ai C2)
   (Ah (Au (D5 (pv 0) T.cl MG.mt GG hr MG.bd .nil Bu))))))),?_⟩
  have z0:=ok.oz
  have z1:=ok.hz
  have z2:=ok.lens
  have npo:p≠G.o:=fun z=>S.p_ne (b:=G.o) (by simp [Am]) z.symm
  refine ⟨_,rfl,p,C,dx,_,_,rfl,hp,T.cl,T.nO,Cg G,G.o,_,rfl,S.dO,fun ob ll hll=>?_⟩
  refine Ew (b:=fun t=>decide (0 < Ao G.outs t)) (caps:=[("self",0)]) (l:=G.outs) (key:=fun q=>q.1) (val:=fun q=>V.int q.2) (ob:=ob) hll (by lia) Ab (fun H2 a t Q' sm ha ht q=>?_) fun H2 bs sm el tl=>?_
  ·have hp2:H2 p=some (.ins C dx (Bx G)):=sm _ _ (by rw [Ac npo]; exact hp)
   have gv:Cp (G.outs.map fun q=>(tk q.1,V.int q.2)) (tk t)=some (V.int (Ao G.outs t)):=by
    rw [Ct (k:=fun q:T2×Int=>q.1) (f:=fun q=>V.int q.2),Ci ht]; rfl
   exact ⟨_,rfl,p,C,dx,_,_,rfl,hp2,T.cl,T.nO,Cg G,_,rfl,G.o,_,rfl,.inr ⟨_,tk t,a,.inr ⟨ob,sm _ _ Ab⟩,rfl,ha,gv.symm⟩,_,_,rfl,rfl,_,rfl,q⟩
  have ho2:H2 G.o=some (.frz ob (Bs G.outs)):=sm _ _ Ab
  refine ⟨upd H2 G.o (Bs G.outs),⟨G.o,ob,_,ho2,fun o v z=>?_,rfl⟩,?_⟩
  ·have z:H G.o=some (.frz o v):=z
   rw [S.dO] at z; cases z
  have nll:ll≠G.o:=fun z=>by rw [z,Ab] at hll; cases hll
  have s3:B1 H (upd H2 G.o (Bs G.outs)):=fun b o e=>by
   by_cases hb:b=G.o
   ·subst hb
    rw [S.dO] at e
    rw [Ab]; exact e
   ·rw [Ac hb]
    exact sm _ _ (by rw [Ac hb]; exact e)
  have el3:(upd H2 G.o (Bs G.outs)) ll=some (.lst (bs.map V.ref)):=by rw [Ac nll]; exact el
  have tl3:ThsAt (upd H2 G.o (Bs G.outs)) bs (Eh G):=by
   refine An (fun b u e=>?_) tl
   rw [Ac fun z=>by rw [z,ho2] at e; cases e]; exact e
  generalize upd H2 G.o (Bs G.outs)=H3 at s3 el3 tl3
  have S3:=S.same s3
  obtain ⟨dx3,hp3⟩:=S3.ob
  refine ⟨_,rfl,p,C,dx3,_,_,rfl,hp3,T.cl,T.nH,Et G,G.h,_,rfl,.inl S3.dh,fun l1 as1 hl1 ky1=>?_⟩
  have t1:ThsAt H3 as1 G.hand:=Us (val:=fun _=>V.bl true) ky1
  have s4:=Ae (o:=.lst (as1.map V.ref)) hl1
  have e4:(upd H3 l1 (.lst (as1.map V.ref))) l1=some (.lst (as1.map V.ref)):=Ab
  have t4:ThsAt (upd H3 l1 (.lst (as1.map V.ref))) as1 G.hand:=ThsAt.keep (KeepT.of_same s4) t1
  have el4:=s4 _ _ el3
  have tl4:ThsAt (upd H3 l1 (.lst (as1.map V.ref))) bs (Eh G):=ThsAt.keep (KeepT.of_same s4) tl3
  generalize upd H3 l1 (.lst (as1.map V.ref))=H4 at s4 e4 t4 el4 tl4
  have n1:=Paired.length t4
  have n2:=Paired.length tl4
  have n3:(Eh G).length≤62:=by
   have:(Eh G).length≤(G.outs.map (·.1)).length:=List.length_filter_le _ _
   rw [List.length_map] at this; lia
  refine ⟨_,rfl,l1,ll,_,_,rfl,rfl,e4,el4,Nat.le_of_lt (Fm (by rw [List.length_map,List.length_map]; lia)),fun cl hcl=>?_⟩
  rw [← List.map_append]
  have s5:=Ae (o:=.lst ((as1++bs).map V.ref)) hcl
  have e5:(upd H4 cl (.lst ((as1++bs).map V.ref))) cl=some (.lst ((as1++bs).map V.ref)):=Ab
  have t5:ThsAt (upd H4 cl (.lst ((as1++bs).map V.ref))) (as1++bs) (G.hand++Eh G):=ThsAt.keep (KeepT.of_same s5) (F8 t4 tl4)
  generalize upd H4 cl (.lst ((as1++bs).map V.ref))=H5 at s5 e5 t5
  have S5:=S3.same (Aj s4 s5)
  obtain ⟨dx5,hp5⟩:=S5.ob
  refine ⟨_,rfl,p,C,dx5,_,_,rfl,hp5,T.cl,T.nL,C7 G,cl,G.l,as1++bs,G.hand++Eh G,G.holds,m,R,rfl,e5,t5,by rw [List.length_append]; lia,S5.dl,by lia,fun q hq=>⟨S5.hl q hq,by have:=(ok.ln q hq).2; lia,(S.nds.2.2.2 q hq).2.2.1⟩,rc,zm,fun kp H6 hkp s6 ek=>?_⟩
  have S6:=S5.same s6
  obtain ⟨dx6,hp6⟩:=S6.ob
  refine ⟨_,rfl,p,dx6,_,rfl,hp6,Bz G (by decide +kernel),_,rfl,p,C,dx6,_,_,rfl,hp6,T.cl,T.nO,Cg G,G.o,_,rfl,S6.dO,fun ob2 gl hgl=>?_⟩
  have nkp:kp≠G.o:=fun z=>by rw [z,S5.dO] at hkp; cases hkp
  refine Ew (b:=fun t=>decide (t∉R)) (caps:=[("kept",2)]) (l:=G.outs) (key:=fun q=>q.1) (val:=fun q=>V.int q.2) (ob:=ob2) hgl (by lia) Ab (fun H7 a t Q' sm7 ha ht q=>?_) fun H7 gs sm7 eg tg=>?_
  ·refine ⟨_,rfl,_,rfl,kp,_,rfl,Kc (sm7 kp (Bi R) (by rw [Ac nkp]; exact ek)) ha,?_⟩
   have e8:(!(if t∈R then some (V.bl true) else none).isSome)=decide (t∉R):=by
    by_cases c:t∈R
    ·rw [if_pos c]; simp [c]
    ·rw [if_neg c]; simp [c]
   rw [e8]
   exact ⟨_,rfl,q⟩
  have ho7:H7 G.o=some (.frz ob2 (Bs G.outs)):=sm7 _ _ Ab
  refine ⟨upd H7 G.o (Bs G.outs),⟨G.o,ob2,_,ho7,fun o v z=>?_,rfl⟩,?_⟩
  ·have z:H G.o=some (.frz o v):=z
   rw [S.dO] at z; cases z
  have ngl:gl≠G.o:=fun z=>by rw [z,Ab] at hgl; cases hgl
  have s8:B1 H6 (upd H7 G.o (Bs G.outs)):=fun b o e=>by
   by_cases hb:b=G.o
   ·subst hb
    rw [S6.dO] at e
    rw [Ab]; exact e
   ·rw [Ac hb]
    exact sm7 _ _ (by rw [Ac hb]; exact e)
  have eg8:(upd H7 G.o (Bs G.outs)) gl=some (.lst (gs.map V.ref)):=by rw [Ac ngl]; exact eg
  have tg8:ThsAt (upd H7 G.o (Bs G.outs)) gs ((G.outs.map (·.1)).filter fun t=>decide (t∉R)):=by
   refine An (fun b u e=>?_) tg
   rw [Ac fun z=>by rw [z,ho7] at e; cases e]; exact e
  generalize upd H7 G.o (Bs G.outs)=H8 at s8 eg8 tg8
  have S8:=S6.same s8
  refine ⟨p,gl,G,gs,_,rfl,S8,ok.ke,eg8,tg8,fun H9 S9 fr9=>?_⟩
  rw [Ke ok.ke] at S9
  obtain ⟨dx9,hp9⟩:=S9.ob
  refine ⟨_,rfl,p,C,dx9,_,_,rfl,hp9,T.cl,T.nT,B5 _,_,_,rfl,rfl,dx9,_,hp9,Cy _,?_⟩
  rw [Bh]
  have S10:=S9.fld dx9 (keepR G R).made ((keepR G R).ticks + 1)
  have fr10:HFr p G H8 (upd H9 p (.ins C dx9 (Bx { keepR G R with ticks:=(keepR G R).ticks + 1 }))):=fun b o e h1 h2=>by rw [Ac h1]; exact fr9 _ _ e h1 h2
  have S10:HouseAt C (upd H9 p (.ins C dx9 (Bx { keepR G R with ticks:=(keepR G R).ticks + 1 }))) p (tk1 (keepR G R)):=S10
  generalize upd H9 p (.ins C dx9 (Bx { keepR G R with ticks:=(keepR G R).ticks + 1 }))=H10 at S10 fr10
  obtain ⟨dx10,hp10⟩:=S10.ob
  have s08:B1 H H8:=Aj s3 (Aj s4 (Aj s5 (Aj s6 s8)))
  refine ⟨_,rfl,p,dx10,_,rfl,hp10,Bz _ (by decide +kernel),p,tk1 (keepR G R),n,rs,rfl,S10,okR.tk1,zn,ir1,fun q hq=>ir2 q (List.mem_filter.mp hq).1,pm,pw,fun x as H11 hx ex ba S11 fr11=>?_⟩
  have hx0:∀ b o,H b=some o→b≠p→b∉Am G→b≠x:=fun b o e h1 h2=>Ar (fr10 _ _ (s08 _ _ e) h1 h2) hx
  refine k x as H11 hx0 ex ba S11 fun b o e h1 h2=>fr11 _ _ (fr10 _ _ (s08 _ _ e) h1 h2) h1 fun z=>h2 (List.Sublist.subset (F3 (G:={ G with outs:=(keepR G R).outs }) List.filter_sublist) z)
def T8 (C:Addr):Sp:=fun vs H Q _=>∃ (p ta:Addr) (G:HGh) (as:List Addr) (ts:List T2),vs=[.ref p,.ref ta]∧HouseAt C H p G∧G.holds.map (·.1)=G.outs.map (·.1)∧H ta=some (.tup (as.map V.ref))∧ThsAt H as ts∧Done C p G H (dropTs G ts) (Q .non)
theorem scLoT:Ay ["self","things","thing"] ["self","things"] (Af Hl):={}
theorem X6 {f:Addr} {fd:FuncData} (F:Fun K "lose" "House.lose" Hl f fd) (T:Txt K mg C NHd NNr MI NW):FnOk P w K mg base CX0 1 f fd ["self","things"] (T8 C):=by
 refine F.ok scLoT (fun vs H Q E h=>?_) (fun cdv A outer s H vs Q E hr h=>?_)
 ·obtain ⟨p,ta,G,as,ts,rfl,_⟩:=h
  rfl
 ·obtain ⟨p,ta,G,as,ts,rfl,S,ke,et,th,k⟩:=h
  have hu:=Bv hr
  have lt:=Paired.length th
  refine ⟨_,Ah (Hm PassesOwn.never rfl (Jb0 (pv 1)) (Ek (i:=2) scLoT.nd rfl (Or.inl rfl))
   (Ah (A5 (Dl (Ho hu (pv 2) (A7 (pv 0) rfl))) (Ad (Ba (C4 hu (A7 (pv 0) rfl) (pv 2) ⟨rfl,rfl,rfl,rfl⟩)) (Ah (Ba (C4 hu (A7 (pv 0) rfl) (pv 2) ⟨rfl,rfl,rfl,rfl⟩)))) Aq))),?_⟩
  refine ⟨_,rfl,ta,rfl,⟨_,SqT.of et⟩,?_⟩
  refine Jao (K:=K) (a:=ta) (xs:=as.map V.ref) (fun i σ H2=>∃ u2:Option V,σ=[some (.ref p),some (.ref ta),u2]∧HouseAt C H2 p (dropTs G (ts.take i))∧HFr p G H H2)
   ⟨_,rfl,by rw [List.take_zero,Jh]; exact S,fun b o e _ _=>e⟩ (fun i σ H2 _ h=>let ⟨_,_,_,fr⟩:=h; SqT.of (fr _ _ et (S.tup_ne et).1 (S.tup_ne et).2)) ?_ ?_
  ·rintro i x σ H2 hx ⟨u2,rfl,S2,fr2⟩
   rw [List.getElem?_map] at hx
   cases ea:as[i]? with
   | none=>rw [ea] at hx; cases hx
   | some a =>
     rw [ea] at hx
     have hx:V.ref a=x:=Option.some.inj hx
     subst hx
     obtain ⟨t,ht⟩:=Bd (xs:=ts) (j:=i) (by have:=(List.getElem?_eq_some_iff.mp ea).1; lia)
     have ha:=A1 th i a t ea ht
     have ha2:=fr2 _ _ ha (S.tup_ne ha).1 (S.tup_ne ha).2
     obtain ⟨dx2,hp2⟩:=S2.ob
     obtain ⟨o,g,eo⟩:=Ks (k:=fun q:T2×Int=>q.1) (f:=fun q=>V.int q.2) (.inl S2.dO) ha2
     have f1:=D9 (fun q:T2×Int=>q.1) G.outs ht
     have f2:=D9 (fun q:T2×Addr×List T2=>q.1) G.holds ht
     refine ⟨_,rfl,_,rfl,p,C,dx2,_,_,rfl,hp2,T.cl,T.nO,Cg _,G.o,o,rfl,g,_,rfl,?_⟩
     rw [eo]
     have ks:(dropTs G (ts.take i)).holds.map (·.1)=(dropTs G (ts.take i)).outs.map (·.1):=by
      show (G.holds.filter fun q=>decide (q.1∉ts.take i)).map (·.1)=(G.outs.filter fun q=>decide (q.1∉ts.take i)).map (·.1)
      rw [Br (fun q:T2×Addr×List T2=>q.1) G.holds (fun t=>decide (t∉ts.take i)),Br (fun q:T2×Int=>q.1) G.outs (fun t=>decide (t∉ts.take i)),ke]
     by_cases h:t∈(dropTs G (ts.take i)).outs.map (·.1)
     ·rw [decide_eq_true h]
      obtain ⟨v1,hv1⟩:=Dt (l:=(dropTs G (ts.take i)).outs) (k:=fun q=>q.1) (f:=fun q=>V.int q.2) h
      obtain ⟨v2,hv2⟩:=Dt (l:=(dropTs G (ts.take i)).holds) (k:=fun q=>q.1) (f:=fun q=>V.ref q.2.1) (by rw [ks]; exact h)
      refine Bk ⟨_,rfl,p,C,dx2,_,_,rfl,hp2,T.cl,T.nO,Cg _,G.o,rfl,.inr ⟨_,.inl S2.dO⟩,_,rfl,_,tk t,_,a,S2.dO,rfl,ha2,hv1,?_⟩
      rw [C8 (k:=fun q:T2×Int=>q.1) (f:=fun q=>V.int q.2)]
      have S3:=S2.setOuts ((dropTs G (ts.take i)).outs.filter fun q=>decide (q.1≠t))
      have fr3:HFr p G H (upd H2 G.o (Bs ((dropTs G (ts.take i)).outs.filter fun q=>decide (q.1≠t)))):=fun b o e h1 h2=>by rw [Ac fun z=>h2 (by rw [z]; simp [Am])]; exact fr2 _ _ e h1 h2
      have ha3:=fr3 _ _ ha (S.tup_ne ha).1 (S.tup_ne ha).2
      rw [show HO.dT (((dropTs G (ts.take i)).outs.filter fun q=>decide (q.1≠t)).map fun q=>(tk q.1,V.int q.2))=Bs ((dropTs G (ts.take i)).outs.filter fun q=>decide (q.1≠t)) from rfl]
      have S3:HouseAt C (upd H2 G.o (Bs ((dropTs G (ts.take i)).outs.filter fun q=>decide (q.1≠t)))) p { dropTs G (ts.take i) with outs:=(dropTs G (ts.take i)).outs.filter fun q=>decide (q.1≠t) }:=S3
      generalize upd H2 G.o (Bs ((dropTs G (ts.take i)).outs.filter fun q=>decide (q.1≠t)))=H3 at S3 fr3 ha3
      obtain ⟨dx3,hp3⟩:=S3.ob
      refine ⟨_,rfl,p,C,dx3,_,_,rfl,hp3,T.cl,T.nL,C7 _,G.l,rfl,.inr ⟨_,.inl S3.dl⟩,_,rfl,_,tk t,_,a,S3.dl,rfl,ha3,hv2,?_⟩
      have e3:Dk (({ dropTs G (ts.take i) with outs:=(dropTs G (ts.take i)).outs.filter fun q=>decide (q.1≠t) }:HGh).holds.map fun (q:T2×Addr×List T2)=>(tk q.1,V.ref q.2.1)) (tk t)=((dropTs G (ts.take i)).holds.filter fun q=>decide (q.1≠t)).map fun (q:T2×Addr×List T2)=>(tk q.1,V.ref q.2.1) :=
       C8 (k:=fun q:T2×Addr×List T2=>q.1) (f:=fun q=>V.ref q.2.1) _ t
      rw [e3]
      have S4:=S3.subHolds (hl:=(dropTs G (ts.take i)).holds.filter fun q=>decide (q.1≠t)) List.filter_sublist
      have eG:dropTs G (ts.take (i + 1))={ dropTs G (ts.take i) with outs:=(dropTs G (ts.take i)).outs.filter (fun q=>decide (q.1≠t)),holds:=(dropTs G (ts.take i)).holds.filter (fun q=>decide (q.1≠t)) }:=by
       unfold dropTs
       rw [f1,f2]
      refine ⟨_,rfl,by rw [eG]; exact S4,fun b o e h1 h2=>?_⟩
      rw [Ac fun z=>h2 (by rw [z]; show G.l∈Am G; simp [Am])]; exact fr3 _ _ e h1 h2
     ·rw [decide_eq_false h]
      have no1:∀ q∈(dropTs G (ts.take i)).outs,q.1≠t:=fun q hq z=>h (List.mem_map.mpr ⟨q,hq,z⟩)
      have no2:∀ q∈(dropTs G (ts.take i)).holds,q.1≠t:=fun q hq z=>h (by rw [← ks]; exact List.mem_map.mpr ⟨q,hq,z⟩)
      have eG:dropTs G (ts.take (i + 1))=dropTs G (ts.take i):=by
       have a1:(dropTs G (ts.take i)).outs.filter (fun q=>decide (q.1≠t))=(dropTs G (ts.take i)).outs:=List.filter_eq_self.mpr fun q hq=>by simpa using no1 q hq
       have a2:(dropTs G (ts.take i)).holds.filter (fun q=>decide (q.1≠t))=(dropTs G (ts.take i)).holds:=List.filter_eq_self.mpr fun q hq=>by simpa using no2 q hq
       unfold dropTs at a1 a2 ⊢
       rw [f1,f2,a1,a2]
      exact Be ⟨_,rfl,by rw [eG]; exact S2,fr2⟩
  ·rintro σ H2 ⟨u2,rfl,S2,fr2⟩
   rw [List.length_map,lt,List.take_length] at S2
   exact k H2 S2 fr2
def Ja5 (C:Addr):Sp:=fun vs H Q _=>∃ (p ta:Addr) (G:HGh) (n:Nat) (rs:List (T2×Int)) (ts:List T2) (as:List Addr),vs=[.ref p,.ref ta]∧HouseAt C H p G∧Ok G n∧n≤62∧(∀ t∈G.hand,InP G.num t)∧(∀ q∈G.holds,∀ t∈q.2.2,InP G.num t)∧rs.Perm G.recs∧(rs.map (·.1)).Pairwise lt2 ∧
 H ta=some (.tup (as.map V.ref))∧ThsAt H as ts∧Ok (dropTs G ts) n ∧
 ∀ (x:Addr) (as:List Addr) (H':Hp),(∀ b o,H b=some o→b≠p→b∉Am G→b≠x)→H' x=some (.lst (as.map V.ref))→BackAt H' as (Co (dropTs G ts) rs)→HouseAt C H' p (tk1 (keepB (dropTs G ts)))→HFr p G H H'→Q (.ref x) H'
theorem Je4:Ay ["self","things"] ["self","things"] (Af So):={}
theorem Jb9 {f fL fG:Addr} {fd dL dG:FuncData} (F:Fun K "let" "House.let" So f fd) (T:Txt K mg C NHd NNr MI NW) (Tx:He mg) (ML:Mth K C "lose" "House.lose" Hl ["self","things"] fL dL) (MG:Mth K C "give_back" "House.give_back" Jm ["self"] fG dG) :
 FnOk P w K mg base CX0 2 f fd ["self","things"] (Ja5 C):=by
 have GL:FnOk P w K mg base CX0 1 fL dL ["self","things"] (T8 C):=X6 ML.fn T
 have GG:FnOk P w K mg base CX0 1 fG dG ["self"] (Sl C):=Uk MG.fn T Tx
 refine F.ok Je4 (fun vs H Q E h=>?_) (fun cdv A outer s H vs Q E hr h=>?_)
 ·obtain ⟨p,ta,G,n,rs,ts,as,rfl,_⟩:=h
  rfl
 ·obtain ⟨p,ta,G,n,rs,ts,as,rfl,S,ok,zn,ir1,ir2,pm,pw,et,th,okR,k⟩:=h
  have hu:=Bv hr
  obtain ⟨dx,hp⟩:=S.ob
  refine ⟨_,Ad (Ba (Bo (pl:=_) (pv 0) T.cl ML.mt GL hr ML.bd .nil Bu (Aa (pv 1) Ag)))
   (Ad (Ca (pv 0) Ai C2)
   (Ah (Au (D5 (pv 0) T.cl MG.mt GG hr MG.bd .nil Bu)))),?_⟩
  refine ⟨_,rfl,p,dx,_,rfl,hp,Bz G (by decide +kernel),_,rfl,p,ta,G,as,ts,rfl,S,ok.ke,et,th,fun H9 S9 fr9=>?_⟩
  obtain ⟨dx9,hp9⟩:=S9.ob
  refine ⟨_,rfl,p,C,dx9,_,_,rfl,hp9,T.cl,T.nT,B5 _,_,_,rfl,rfl,dx9,_,hp9,Cy _,?_⟩
  rw [Bh]
  have S10:=S9.fld dx9 (dropTs G ts).made ((dropTs G ts).ticks + 1)
  have fr10:HFr p G H (upd H9 p (.ins C dx9 (Bx { dropTs G ts with ticks:=(dropTs G ts).ticks + 1 }))):=fun b o e h1 h2=>by rw [Ac h1]; exact fr9 _ _ e h1 h2
  have S10:HouseAt C (upd H9 p (.ins C dx9 (Bx { dropTs G ts with ticks:=(dropTs G ts).ticks + 1 }))) p (tk1 (dropTs G ts)):=S10
  generalize upd H9 p (.ins C dx9 (Bx { dropTs G ts with ticks:=(dropTs G ts).ticks + 1 }))=H10 at S10 fr10
  obtain ⟨dx10,hp10⟩:=S10.ob
  refine ⟨_,rfl,p,dx10,_,rfl,hp10,Bz _ (by decide +kernel),p,tk1 (dropTs G ts),n,rs,rfl,S10,okR.tk1,zn,ir1,fun q hq=>ir2 q (List.mem_filter.mp hq).1,pm,pw,fun x as H11 hx ex ba S11 fr11=>?_⟩
  have hx0:∀ b o,H b=some o→b≠p→b∉Am G→b≠x:=fun b o e h1 h2=>Ar (fr10 _ _ e h1 h2) hx
  exact k x as H11 hx0 ex ba S11 fun b o e h1 h2=>fr11 _ _ (fr10 _ _ e h1 h2) h1 fun z=>h2 (ModelAt.foot_dropTs ts z)
def Ps:Sp:=fun vs H Q _=>∃ (p sa:Addr) (M:HGh) (as:List Addr) (ts:List T2) (n:Nat) (R:List T2),vs=[.ref p,.ref sa]∧ModelAt H p M∧H sa=some (.lst (as.map V.ref))∧ThsAt H as ts∧ts.length≤400∧(∀ q∈M.holds,q.2.2.length≤400) ∧
 Rch (nxT M.holds) n (ts.filter fun t=>decide (t∈M.holds.map (·.1))) [] R∧n≤5000∧∀ (x:Addr) (rs:List Addr) (H':Hp),H x=none→B1 H H'→H' x=some (.lst (rs.map V.ref))→ThsAt H' rs R→Q (.ref x) H'
theorem scMN:Ay ["_law_model_here","_law_starts","_law_near_here","_law_thing","_law_left_here"] ["_law_model_here","_law_starts"] (Af E1):={}
theorem Q6 {f:Addr} {fd:FuncData} (F:Fun K "_law_near" "_law_near" E1 f fd):FnOk P w K mg base CX0 1 f fd ["_law_model_here","_law_starts"] Ps:=by
 refine F.ok scMN (fun vs H Q E h=>?_) (fun cdv A outer s H vs Q E hr h=>?_)
 ·obtain ⟨p,sa,M,as,ts,n,R,rfl,_⟩:=h
  rfl
 ·obtain ⟨p,sa,M,as,ts,n,R,rfl,S,es,th,zt,zq,rch,zn,k⟩:=h
  have hu:=Bv hr
  refine ⟨_,Ad (A3 (i:=2) scMN.nd rfl (Or.inl rfl) (Hn Ag))
   (Ad (Gp (te:=B8 0) (i:=4) (caps:=[("_law_model_here",0)]) scMN.nd rfl rfl rfl rfl (Cv (pv 1))
    rfl (by decide +kernel) rfl (by decide +kernel) rfl ⟨rfl,trivial⟩ (fun y h=>Jg ⟨_,rfl⟩ h) ⟨⟨rfl,rfl,rfl,rfl⟩,trivial⟩ (by decide +kernel) (fun _ _ _ _ _=>C9 (Dl (Ho hu (pv 0) (Al hu (pv 1) Ak)))) (fun _ _ _ _ _=>pv 0))
   (Ad (Q1 PassesOwn.never (Ap (Xt (E7 hr)) (pv 4) (Hn Ag) (A4 _))
    (Ad (A3 (i:=3) scMN.nd rfl (Or.inl rfl) (Ss PySem.F.plainAttrs_list PySem.F.slot_list_pop PySem.F.type_list_pop Yb (pv 4)))
    (Ah (A5 (Ap (A8 (E7 hr)) (pv 3) (pv 2) rfl)
     (Ad (Ba (Fx PySem.F.plainAttrs_list PySem.F.slot_list_append PySem.F.type_list_append Di (pv 2) (Aa (pv 3) Ag)))
     (Ah (Ba (Fx PySem.F.plainAttrs_list PySem.F.slot_list_extend PySem.F.type_list_extend Kp (pv 4) (Aa (El (te:=B8 0) (caps:=[("_law_model_here",0)]) rfl (Cv (Al hu (Al hu (pv 0) Ak) (pv 3)))
      rfl (by decide +kernel) rfl (by decide +kernel) rfl ⟨rfl,trivial⟩ (fun y h=>Jg ⟨_,rfl⟩ h) ⟨⟨rfl,rfl,rfl,rfl⟩,trivial⟩ (by decide +kernel) (fun _ _ _ _ _=>C9 (Dl (Ho hu (pv 0) (Al hu (pv 1) Ak)))) (fun _ _ _ _ _=>pv 0)) Ag))))) Aq))))
   (Ah (Au (pv 2))))),?_⟩
  refine ⟨Nat.zero_le _,fun na hna=>?_⟩
  have s1:=Ae (o:=.lst []) hna
  have e1:(upd H na (.lst [])) na=some (.lst (([]:List Addr).map V.ref)):=Ab
  generalize upd H na (.lst [])=H1 at s1 e1
  have th1:ThsAt H1 as ts:=ThsAt.keep (KeepT.of_same s1) th
  refine ⟨_,rfl,sa,rfl,⟨_,SqL.of (s1 _ _ es)⟩,fun aa haa=>?_⟩
  refine F4 (b:=fun t=>decide (t∈M.holds.map (·.1))) (caps:=[("_law_model_here",0)]) haa (by lia) (s1 _ _ es) th1 (fun H2 a t Q' sm ha ht q=>?_) fun H2 bs sm ea tb=>?_
  ·have S2:=S.same (Aj s1 sm)
   obtain ⟨o,g,eo⟩:=Ks (k:=fun q:T2×Addr×List T2=>q.1) (f:=fun q=>V.ref q.2.1) (.inl S2.dl) ha
   refine ⟨_,rfl,_,rfl,p,_,rfl,S2.gHolds,M.l,o,rfl,g,?_⟩
   rw [eo]
   exact ⟨_,rfl,q⟩
  have naa:H aa=none:=Dg s1 haa
  have nfa:na≠aa:=fun z=>by rw [← z,e1] at haa; cases haa
  refine ⟨fun m σ H'=>∃ (ahead found:List T2) (as' fs:List Addr) (u3:Option V),σ=[some (.ref p),some (.ref sa),some (.ref na),u3,some (.ref aa)]∧B1 H H'∧H' na=some (.lst (fs.map V.ref))∧ThsAt H' fs found∧H' aa=some (.lst (as'.map V.ref))∧ThsAt H' as' ahead∧Rch (nxT M.holds) m ahead found R∧found.length + m≤5000∧∀ t∈ahead,t∈M.holds.map (·.1),
   ⟨n,_,[],bs,[],_,rfl,Aj s1 sm,sm _ _ e1,.nil,ea,tb,rch,by simpa using zn,fun t ht=>by have:=(List.mem_filter.mp ht).2; simpa using this⟩,?_⟩
  rintro m σ H0 ⟨ahead,found,as',fs,u3,rfl,sh0,ef0,tf0,ea0',tha0,rc,zm,hk⟩
  refine ⟨_,rfl,Nat.zero_le _,fun nl hnl=>?_⟩
  have sn:=Ae (o:=.lst []) hnl
  have en:(upd H0 nl (.lst [])) nl=some (.lst []):=Ab
  generalize upd H0 nl (.lst [])=H' at sn en
  have sh:=Aj sh0 sn
  have ef:=sn _ _ ef0
  have ea':=sn _ _ ea0'
  have tf:ThsAt H' fs found:=ThsAt.keep (KeepT.of_same sn) tf0
  have tha:ThsAt H' as' ahead:=ThsAt.keep (KeepT.of_same sn) tha0
  refine ⟨_,_,.lst (SqL.of ea') (Ic tha),.lst (SqL.of en) .nil,Jci Za _,Jcf,_,rfl,?_⟩
  rw [Ys]
  cases m with
  | zero =>
    obtain ⟨e0,eR⟩:=rc
    rw [e0]
    refine Be ⟨_,rfl,k na fs H' hna sh ef ?_⟩
    rw [eR]; exact tf
  | succ m =>
    have zl1:=rc.len
    obtain ⟨a,t,ea0,rc⟩:=rc
    rw [ea0] at tha zl1 ⊢
    obtain ⟨bs',c,e2,thb,ec⟩:=Qm tha
    subst e2
    have em:(bs'++[c]).map V.ref=bs'.map V.ref++[V.ref c]:=by rw [List.map_append]; rfl
    rw [em] at ea'
    rw [show (!(a++[t]).isEmpty)=true by cases a <;> rfl]
    refine Bk ⟨_,fun σ' H' h=>⟨m,Nat.lt_succ_self m,h⟩,?_⟩
    refine ⟨_,rfl,.inl ⟨rfl,_,SqL.of ea'⟩,aa,_,_,rfl,rfl,ea',Ur _ _,?_⟩
    rw [show (bs'.map V.ref++[V.ref c]).dropLast=bs'.map V.ref by simp]
    have s3:B1 H (upd H' aa (.lst (bs'.map V.ref))):=fun b o e=>by rw [Ac (Ar e naa)]; exact sh _ _ e
    have kt3:KeepT H' (upd H' aa (.lst (bs'.map V.ref))):=KeepT.upd fun o' e=>by
     rw [ea'] at e; cases e; exact ⟨fun _ z=>(by cases z),fun _ _ z=>(by cases z)⟩
    have ef3:(upd H' aa (.lst (bs'.map V.ref))) na=some (.lst (fs.map V.ref)):=by rw [Ac nfa]; exact ef
    have ea3:(upd H' aa (.lst (bs'.map V.ref))) aa=some (.lst (bs'.map V.ref)):=Ab
    have thb3:ThsAt (upd H' aa (.lst (bs'.map V.ref))) bs' a:=ThsAt.keep kt3 thb
    have tf3:ThsAt (upd H' aa (.lst (bs'.map V.ref))) fs found:=ThsAt.keep kt3 tf
    have ec3:=kt3.tup _ _ ec
    generalize upd H' aa (.lst (bs'.map V.ref))=H3 at s3 kt3 ef3 ea3 thb3 tf3 ec3
    have hk':∀ u∈a,u∈M.holds.map (·.1):=fun u hu=>hk u (by rw [ea0]; exact List.mem_append_left _ hu)
    refine ⟨_,rfl,_,rfl,Cc ec3 ef3 tf3 ⟨fun hf=>⟨_,rfl,Bk ?_⟩,fun hf=>⟨_,rfl,Be ?_⟩⟩⟩
    ·rcases rc with ⟨hf',rc⟩ | ⟨_,rc⟩
     ·exact absurd hf' hf
     have lf:=Paired.length tf3
     refine ⟨_,rfl,.inl ⟨rfl,_,SqL.of ef3⟩,_,rfl,na,_,_,rfl,rfl,ef3,(by rw [List.length_map]; exact Fm (by lia)),?_⟩
     have e6:fs.map V.ref++[V.ref c]=(fs++[c]).map V.ref:=by rw [List.map_append]; rfl
     rw [e6]
     have s4:B1 H (upd H3 na (.lst ((fs++[c]).map V.ref))):=fun b o e=>by rw [Ac (Ar e hna)]; exact s3 _ _ e
     have kt4:KeepT H3 (upd H3 na (.lst ((fs++[c]).map V.ref))):=KeepT.upd fun o' e=>by
      rw [ef3] at e; cases e; exact ⟨fun _ z=>(by cases z),fun _ _ z=>(by cases z)⟩
     have ef4:(upd H3 na (.lst ((fs++[c]).map V.ref))) na=some (.lst ((fs++[c]).map V.ref)):=Ab
     have ea4:(upd H3 na (.lst ((fs++[c]).map V.ref))) aa=some (.lst (bs'.map V.ref)):=by rw [Ac nfa.symm]; exact ea3
     have thb4:ThsAt (upd H3 na (.lst ((fs++[c]).map V.ref))) bs' a:=ThsAt.keep kt4 thb3
     have tf4:ThsAt (upd H3 na (.lst ((fs++[c]).map V.ref))) (fs++[c]) (found++[t]):=Ex (kt4.tup _ _ ec3) (ThsAt.keep kt4 tf3)
     have ec4:=kt4.tup _ _ ec3
     generalize upd H3 na (.lst ((fs++[c]).map V.ref))=H4 at s4 kt4 ef4 ea4 thb4 tf4 ec4
     have S4:=S.same s4
     have tin:t∈M.holds.map (·.1):=hk t (by rw [ea0]; exact List.mem_append_right _ (by simp))
     obtain ⟨ad,fd'⟩:=Ln tin
     have mq:=List.mem_of_find?_eq_some fd'
     obtain ⟨qs,q1,q2⟩:=S4.hl _ mq
     have q1:H4 ad=some (.lst (qs.map V.ref)):=q1
     have q2:ThsAt H4 qs (getH M.holds t):=q2
     have q3:(getH M.holds t).length≤400:=zq _ mq
     refine ⟨_,rfl,.inl ⟨rfl,_,SqL.of ea4⟩,_,rfl,p,_,rfl,S4.gHolds,_,rfl,M.l,_,rfl,Id S4.dl ec4 fd',ad,rfl,⟨_,SqL.of q1⟩,fun pl hpl=>?_⟩
     refine F4 (b:=fun u=>decide (u∈M.holds.map (·.1))) (caps:=[("_law_model_here",0)]) hpl (by lia) q1 q2 (fun H2 a' u Q' sm' ha hu' q=>?_) fun H5 bs2 sm5 ep5 th5=>?_
     ·have S2:=S4.same sm'
      obtain ⟨o,g,eo⟩:=Ks (k:=fun q:T2×Addr×List T2=>q.1) (f:=fun q=>V.ref q.2.1) (.inl S2.dl) ha
      refine ⟨_,rfl,_,rfl,p,_,rfl,S2.gHolds,M.l,o,rfl,g,?_⟩
      rw [eo]
      exact ⟨_,rfl,q⟩
     ·have th5:ThsAt H5 bs2 (nxT M.holds t):=th5
      have zz:=rc.len
      rw [List.length_append] at zz
      have l1:=Paired.length thb4
      have l2:=Paired.length th5
      refine ⟨aa,pl,_,_,rfl,rfl,sm5 _ _ ea4,ep5,Nat.le_of_lt (Fm (by rw [List.length_map,List.length_map]; lia)),?_⟩
      rw [← List.map_append]
      have kt7:KeepT H5 (upd H5 aa (.lst ((bs'++bs2).map V.ref))):=KeepT.upd fun o' e=>by
       rw [sm5 _ _ ea4] at e; cases e; exact ⟨fun _ z=>(by cases z),fun _ _ z=>(by cases z)⟩
      refine ⟨a++nxT M.holds t,found++[t],bs'++bs2,fs++[c],_,rfl,fun b o e=>?_,?_,ThsAt.keep kt7 (ThsAt.keep (KeepT.of_same sm5) tf4),Ab,ThsAt.keep kt7 (F8 (ThsAt.keep (KeepT.of_same sm5) thb4) th5),rc,?_,fun u hu=>?_⟩
      ·rw [Ac (Ar e naa)]; exact sm5 _ _ (s4 _ _ e)
      ·rw [Ac nfa]; exact sm5 _ _ ef4
      ·rw [List.length_append]; show found.length + 1 + m≤5000; lia
      ·rcases List.mem_append.mp hu with hu | hu
       ·exact hk' u hu
       ·have:=(List.mem_filter.mp hu).2; simpa using this
    ·rcases rc with ⟨_,rc⟩ | ⟨hf',rc⟩
     ·exact ⟨a,found,bs',fs,_,rfl,s3,ef3,tf3,ea3,thb3,rc,by lia,hk'⟩
     ·exact absurd hf hf'
def Pt:Sp:=fun vs H Q _=>∃ (p na:Addr) (M:HGh) (rs:List Addr) (R:List T2),vs=[.ref p,.ref na]∧ModelAt H p M∧M.holds.map (·.1)=M.outs.map (·.1)∧(M.outs.map (·.1)).Nodup∧H na=some (.lst (rs.map V.ref))∧na∉Am M∧ThsAt H rs R ∧
 ∀ H':Hp,ModelAt H' p (keepR M R)→HFr p M H H'→Q .non H'
theorem scML:Ay ["_law_model_here","_law_near_here","_law_thing"] ["_law_model_here","_law_near_here"] (Af Hj):={}
theorem Q7 {f:Addr} {fd:FuncData} (F:Fun K "_law_left" "_law_left" Hj f fd) (Tx:He mg):FnOk P w K mg base CX0 1 f fd ["_law_model_here","_law_near_here"] Pt:=by
 refine F.ok scML (fun vs H Q E h=>?_) (fun cdv A outer s H vs Q E hr h=>?_)
 ·obtain ⟨p,na,M,rs,R,rfl,_⟩:=h
  rfl
 ·obtain ⟨p,na,M,rs,R,rfl,S,ke,kn,en,nf,tr,k⟩:=h
  have hu:=Bv hr
  refine ⟨_,Ah (Hm PassesOwn.never rfl (Cv (B2 (Hz rfl) (by rfl) Tx.list PyProof.Rows.boot_list (Aa (Al hu (pv 0) Ak) Ag))) (Ek (i:=2) scML.nd rfl (Or.inl rfl))
   (Ah (A5 (Ap (A8 (E7 hr)) (pv 2) (pv 1) rfl) (Ad (Ba (C4 hu (Al hu (pv 0) Ak) (pv 2) ⟨rfl,rfl,rfl,rfl⟩)) (Ah (Ba (C4 hu (Al hu (pv 0) Ak) (pv 2) ⟨rfl,rfl,rfl,rfl⟩)))) Aq))),?_⟩
  refine ⟨_,rfl,p,_,rfl,S.gHolds,M.l,_,rfl,.inl S.dl,fun ll as hll ky=>?_⟩
  have t0:ThsAt H as (M.holds.map (·.1)):=Rm (k:=fun q:T2×Addr×List T2=>q.1) (f:=fun q=>V.ref q.2.1) ky
  have s1:=Ae (o:=.lst (as.map V.ref)) hll
  have e1:(upd H ll (.lst (as.map V.ref))) ll=some (.lst (as.map V.ref)):=Ab
  have th:ThsAt (upd H ll (.lst (as.map V.ref))) as (M.holds.map (·.1)):=ThsAt.keep (KeepT.of_same s1) t0
  generalize upd H ll (.lst (as.map V.ref))=H1 at s1 e1 th
  have S1:=S.same s1
  have lln:=S.new_ne hll
  have nnp:=S.lst_ne en
  have en1:=s1 _ _ en
  have tr1:ThsAt H1 rs R:=ThsAt.keep (KeepT.of_same s1) tr
  have hkn:(M.holds.map (·.1)).Nodup:=by rw [ke]; exact kn
  have ks:∀ xs,(dropTs M xs).holds.map (·.1)=(dropTs M xs).outs.map (·.1):=fun xs=>by
   show (M.holds.filter fun q=>decide (q.1∉xs)).map (·.1)=(M.outs.filter fun q=>decide (q.1∉xs)).map (·.1)
   rw [Br (fun q:T2×Addr×List T2=>q.1) M.holds (fun t=>decide (t∉xs)),Br (fun q:T2×Int=>q.1) M.outs (fun t=>decide (t∉xs)),ke]
  have lt:=Paired.length th
  generalize hts:M.holds.map (·.1)=ts at th lt hkn
  refine ⟨ll,rfl,⟨_,SqL.of e1⟩,?_⟩
  refine Hv (K:=K) (a:=ll) (xs:=as.map V.ref) (fun i σ H2=>∃ u2:Option V,σ=[some (.ref p),some (.ref na),u2]∧ModelAt H2 p (dropTs M ((ts.take i).filter fun t=>decide (t∉R)))∧HFr p M H1 H2)
   ⟨_,rfl,by rw [List.take_zero]; show ModelAt H1 p (dropTs M []); rw [Jh]; exact S1,fun b o e _ _=>e⟩ (fun i σ H2 _ h=>let ⟨_,_,_,fr⟩:=h; SqL.of (fr _ _ e1 lln.1 lln.2)) ?_ ?_
  ·rintro i x σ H2 hx ⟨u2,rfl,S2,fr2⟩
   rw [List.getElem?_map] at hx
   cases ea:as[i]? with
   | none=>rw [ea] at hx; cases hx
   | some a =>
     rw [ea] at hx
     have hx:V.ref a=x:=Option.some.inj hx
     subst hx
     obtain ⟨t,ht⟩:=Bd (xs:=ts) (j:=i) (by have:=(List.getElem?_eq_some_iff.mp ea).1; lia)
     have ha:=A1 th i a t ea ht
     have ha2:=fr2 _ _ ha (S1.tup_ne ha).1 (S1.tup_ne ha).2
     have tr2:ThsAt H2 rs R:=ThsAt.keep (S1.keepT fr2) tr1
     have ft:=Hw (fun t=>decide (t∉R)) ht
     have nt:t∉(ts.take i).filter fun t=>decide (t∉R):=fun z=>Fg hkn ht (List.mem_filter.mp z).1
     refine ⟨_,rfl,_,rfl,Cc ha2 (fr2 _ _ en1 nnp nf) tr2 ⟨fun hR=>⟨_,rfl,Bk ?_⟩,fun hR=>⟨_,rfl,Be ⟨_,rfl,?_,fr2⟩⟩⟩⟩
     ·rw [if_pos (by simpa using hR)] at ft
      have h:t∈(dropTs M ((ts.take i).filter fun t=>decide (t∉R))).holds.map (·.1):=by
       show t∈(M.holds.filter fun q=>decide (q.1∉_)).map (·.1)
       rw [Br (fun q:T2×Addr×List T2=>q.1) M.holds (fun u=>decide (u∉(ts.take i).filter fun t=>decide (t∉R))),hts]
       exact List.mem_filter.mpr ⟨List.mem_of_getElem? ht,decide_eq_true nt⟩
      generalize (ts.take i).filter (fun t=>decide (t∉R))=xs at *
      obtain ⟨v1,hv1⟩:=Dt (l:=(dropTs M xs).holds) (k:=fun q=>q.1) (f:=fun q=>V.ref q.2.1) h
      obtain ⟨v2,hv2⟩:=Dt (l:=(dropTs M xs).outs) (k:=fun q=>q.1) (f:=fun q=>V.int q.2) (by rw [← ks]; exact h)
      refine ⟨_,rfl,p,_,rfl,S2.gHolds,M.l,rfl,.inr ⟨_,.inl S2.dl⟩,_,rfl,_,tk t,_,a,S2.dl,rfl,ha2,hv1,?_⟩
      rw [C8 (k:=fun q:T2×Addr×List T2=>q.1) (f:=fun q=>V.ref q.2.1)]
      have S3:=S2.subHolds (hl:=(dropTs M xs).holds.filter fun q=>decide (q.1≠t)) List.filter_sublist
      have fr3:HFr p M H1 (upd H2 M.l (B6 ((dropTs M xs).holds.filter fun q=>decide (q.1≠t)))):=fun b o e h1 h2=>by rw [Ac fun z=>h2 (by rw [z]; simp [Am])]; exact fr2 _ _ e h1 h2
      have ha3:=fr3 _ _ ha (S1.tup_ne ha).1 (S1.tup_ne ha).2
      rw [show HO.dT (((dropTs M xs).holds.filter fun q=>decide (q.1≠t)).map fun q=>(tk q.1,V.ref q.2.1))=B6 ((dropTs M xs).holds.filter fun q=>decide (q.1≠t)) from rfl]
      have S3:ModelAt (upd H2 M.l (B6 ((dropTs M xs).holds.filter fun q=>decide (q.1≠t)))) p { dropTs M xs with holds:=(dropTs M xs).holds.filter fun q=>decide (q.1≠t) }:=S3
      generalize upd H2 M.l (B6 ((dropTs M xs).holds.filter fun q=>decide (q.1≠t)))=H3 at S3 fr3 ha3
      refine ⟨_,rfl,p,_,rfl,S3.gOuts,M.o,rfl,.inr ⟨_,.inl S3.dO⟩,_,rfl,_,tk t,_,a,S3.dO,rfl,ha3,hv2,?_⟩
      have e3:Dk (({ dropTs M xs with holds:=(dropTs M xs).holds.filter fun q=>decide (q.1≠t) }:HGh).outs.map fun (q:T2×Int)=>(tk q.1,V.int q.2)) (tk t)=((dropTs M xs).outs.filter fun q=>decide (q.1≠t)).map fun (q:T2×Int)=>(tk q.1,V.int q.2) :=
       C8 (k:=fun q:T2×Int=>q.1) (f:=fun q=>V.int q.2) _ t
      rw [e3]
      have S4:=S3.setOuts ((dropTs M xs).outs.filter fun q=>decide (q.1≠t))
      have eG:dropTs M (xs++[t])={ dropTs M xs with outs:=(dropTs M xs).outs.filter (fun q=>decide (q.1≠t)),holds:=(dropTs M xs).holds.filter (fun q=>decide (q.1≠t)) }:=by
       unfold dropTs
       rw [Hx (fun q:T2×Int=>q.1),Hx (fun q:T2×Addr×List T2=>q.1)]
      refine ⟨_,rfl,by rw [ft,eG]; exact S4,fun b o e h1 h2=>?_⟩
      rw [Ac fun z=>h2 (by rw [z]; show M.o∈Am M; simp [Am])]; exact fr3 _ _ e h1 h2
     ·rw [if_neg (by simpa using hR),List.append_nil] at ft
      rw [ft]; exact S2
  ·rintro σ H2 ⟨u2,rfl,S2,fr2⟩
   rw [List.length_map,lt,List.take_length] at S2
   have e4:dropTs M (ts.filter fun t=>decide (t∉R))=keepR M R:=by rw [← hts,ke]; exact Ke ke
   rw [e4] at S2
   exact k H2 S2 fun b o e h1 h2=>fr2 _ _ (s1 _ _ e) h1 h2
def Lr:Sp:=fun vs H Q _=>∃ (p:Addr) (M:HGh) (n:Nat) (rs:List (T2×Int)),vs=[.ref p]∧ModelAt H p M∧Ok M n∧n≤62∧rs.Perm M.recs∧(rs.map (·.1)).Pairwise lt2 ∧
 ∀ (x:Addr) (as:List Addr) (H':Hp),H x=none→H' x=some (.lst (as.map V.ref))→BackAt H' as (Co M rs)→ModelAt H' p (keepB M)→HFr p M H H'→Q (.ref x) H'
theorem scMB:Ay ["_law_model_here","_law_held_here","_law_thing","_law_backs_here","_law_weight"] ["_law_model_here"] (Af Fb):={}
theorem Ov {f:Addr} {fd:FuncData} (F:Fun K "_law_backs" "_law_backs" Fb f fd) (T:Txt K mg C NHd NNr MI NW) (Tx:He mg):FnOk P w K mg base CX0 1 f fd ["_law_model_here"] Lr:=by
 refine F.ok scMB (fun vs H Q E h=>?_) (fun cdv A outer s H vs Q E hr h=>?_)
 ·obtain ⟨p,M,n,rs,rfl,_⟩:=h
  rfl
 ·obtain ⟨p,M,n,rs,rfl,S,ok,zn,pm,pw,k⟩:=h
  have hu:=Bv hr
  refine ⟨_,Ad (A3 (i:=1) scMB.nd rfl (Or.inl rfl) (B2 Qg (by rfl) Tx.list PyProof.Rows.boot_list (Aa (Al hu (pv 0) Ak) Ag)))
   (Ad (Hm PassesOwn.never rfl (Ff (Al hu (pv 0) Ak)) (Ek (i:=2) scMB.nd rfl (Or.inl rfl))
    (Ah (Ba (Fx PySem.F.plainAttrs_list PySem.F.slot_list_extend PySem.F.type_list_extend Kp (pv 1) (Aa (Al hu (Al hu (pv 0) Ak) (pv 2)) Ag)))))
   (PSs.thaw (Ad (A3 (i:=3) scMB.nd rfl (Or.inl rfl) (Hn Ag))
   (Ad (Hm PassesOwn.never rfl (Cv (Bj (Bp rfl) (by rfl) T.sorted PyProof.Rows.boot_sorted (Aa (Al hu (pv 0) Ak) Ag))) (Ek (i:=2) scMB.nd rfl (Or.inl rfl))
    (Ah (A5 (Ap (A8 (E7 hr)) (pv 2) (pv 1) rfl)
     (Ad (A3 (i:=4) scMB.nd rfl (Or.inl rfl) (C4 hu (Al hu (pv 0) Ak) (pv 2) ⟨rfl,rfl,rfl,rfl⟩))
     (Ah (A5 (Ap Q3 (pv 4) Ai (A4 _)) (Ah (Ba (Fx PySem.F.plainAttrs_list PySem.F.slot_list_append PySem.F.type_list_append Di (pv 3) (Aa (A6 (Aa (pv 2) (Aa (pv 4) Ag))) Ag)))) Aq))) Aq)))
   (Ah (Au (pv 3)))))))
   ,?_⟩
  have z1:=ok.hz
  have z2:=ok.lens
  have z3:=ok.rz
  obtain ⟨as,eh,th⟩:=S.dh
  refine ⟨_,rfl,p,_,rfl,S.gHand,M.h,_,rfl,.inl (SqL.of eh),fun hd hhd=>?_⟩
  have s1:=Ae (o:=.lst (as.map V.ref)) hhd
  have e1:(upd H hd (.lst (as.map V.ref))) hd=some (.lst (as.map V.ref)):=Ab
  have t1:ThsAt (upd H hd (.lst (as.map V.ref))) as M.hand:=ThsAt.keep (KeepT.of_same s1) th
  generalize upd H hd (.lst (as.map V.ref))=H1 at s1 e1 t1
  have S1:=S.same s1
  have ndl:(M.holds.map (·.1)).Nodup:=by rw [ok.ke]; exact ok.on
  have nhd:∀ {b:Addr} {o:HO},H b=some o→b≠hd:=fun e=>Ar e hhd
  have npl:p≠M.l:=fun z=>S.p_ne (b:=M.l) (by simp [Am]) z.symm
  refine ⟨_,rfl,p,_,rfl,S1.gHolds,M.l,_,rfl,S1.dl,fun ob=>?_⟩
  have F0:∀ b o,H b=some o→b≠M.l→(upd H1 M.l (.frz ob (B6 M.holds))) b=some o:=fun b o e hb=>by rw [Ac hb]; exact s1 _ _ e
  have ktF:∀ {H2:Hp},(∀ b o,(upd H1 M.l (.frz ob (B6 M.holds))) b=some o→b≠hd→H2 b=some o)→∀ b xs,(upd H1 M.l (.frz ob (B6 M.holds))) b=some (.tup xs)→H2 b=some (.tup xs):=fun fr b xs e=>fr _ _ e fun z=>by
   rw [z,Ac (nhd S.dl).symm,e1] at e; cases e
  refine Rv (d:=M.l) (ob:=ob) (fun i σ H2=>∃ (u2:Option V) (hs:List Addr),σ=[some (.ref p),some (.ref hd),u2,none,none]∧H2 hd=some (.lst (hs.map V.ref))∧ThsAt H2 hs (D7 M i)∧∀ b o,(upd H1 M.l (.frz ob (B6 M.holds))) b=some o→b≠hd→H2 b=some o)
   ⟨_,as,rfl,by rw [Ac (nhd S.dl).symm,e1],?_,fun b o e _=>e⟩ (fun i σ H2 _ h=>let ⟨_,_,_,_,_,fr⟩:=h; fr _ _ Ab (nhd S.dl)) ?_ ?_
  ·have:D7 M 0=M.hand:=by unfold D7; simp
   rw [this]
   refine An (fun b u e=>?_) t1
   rw [Ac fun z=>by rw [z,S1.dl] at e; cases e]; exact e
  ·rintro i a kk v σ H2 hx ha ⟨u2,hs,rfl,eh2,t2,fr⟩
   rw [List.getElem?_map] at hx
   cases eq:M.holds[i]? with
   | none=>rw [eq] at hx; cases hx
   | some q =>
     rw [eq] at hx
     have hx:(tk q.1,V.ref q.2.1)=(kk,v):=Option.some.inj hx
     have mq:=List.mem_of_getElem? eq
     have e2:kk=tk q.1:=(Prod.mk.inj hx).1.symm
     rw [e2,Ql] at ha
     have hpp:H2 p=some (.dK (Bt M)):=fr _ _ (F0 _ _ S.ob npl) (nhd S.ob)
     have hll:H2 M.l=some (.frz ob (B6 M.holds)):=fr _ _ Ab (nhd S.dl)
     obtain ⟨qs,q1,q2⟩:=S.hl q mq
     have hqq:H2 q.2.1=some (.lst (qs.map V.ref)):=fr _ _ (F0 _ _ q1 (S.nds.2.2.2 q mq).2.2.1) (nhd q1)
     have tqq:ThsAt H2 qs q.2.2:=An (fun b u e=>fr _ _ (F0 _ _ e fun z=>by rw [z,S.dl] at e; cases e) (nhd e)) q2
     have gv:Cp (M.holds.map fun (q:T2×Addr×List T2)=>(tk q.1,V.ref q.2.1)) (tk q.1)=some (V.ref q.2.1):=by
      rw [Ct (k:=fun q:T2×Addr×List T2=>q.1) (f:=fun q=>V.ref q.2.1),FX.find_self (k:=fun q:T2×Addr×List T2=>q.1) ndl mq]; rfl
     have gh:DGet H2 p (.str "holds") (some (V.ref M.l)):=by have:=DGet.k (k:=.inr "holds") hpp; rw [Rj] at this; exact this
     have l0:=ok.ln q mq
     have hi:i < 62:=by have:=(List.getElem?_eq_some_iff.mp eq).1; lia
     have l1:(D7 M i).length≤62 + 62 * 62:=by
      have h1:=V9 (n:=62) M (fun r hr=>by have:=(ok.ln r hr).2; lia) i
      have h3:i * 62≤62 * 62:=Nat.mul_le_mul_right _ (by lia)
      lia
     have l2:=Paired.length t2
     have l3:=Paired.length tqq
     refine ⟨_,rfl,.inl ⟨rfl,_,SqL.of eh2⟩,_,rfl,p,_,rfl,gh,_,rfl,M.l,_,rfl,.inr ⟨_,tk q.1,a,.inr ⟨ob,hll⟩,rfl,ha,gv.symm⟩,hd,q.2.1,_,_,rfl,rfl,eh2,hqq,?_,?_⟩
     ·rw [List.length_map,List.length_map]
      exact Nat.le_of_lt (Fm (by lia))
     ·rw [← List.map_append]
      have kt:KeepT H2 (upd H2 hd (.lst ((hs++qs).map V.ref))):=KeepT.upd fun o' e=>by
       rw [eh2] at e; cases e; exact ⟨fun _ z=>(by cases z),fun _ _ z=>(by cases z)⟩
      refine ⟨_,hs++qs,rfl,Ab,?_,fun b o e hb=>by rw [Ac hb]; exact fr b o e hb⟩
      rw [Ti M eq]
      exact F8 (ThsAt.keep kt t2) (ThsAt.keep kt tqq)
  ·rintro σ H2 ⟨u2,hs,rfl,eh2,t2,fr⟩
   rw [List.length_map] at t2
   have hll:H2 M.l=some (.frz ob (B6 M.holds)):=fr _ _ Ab (nhd S.dl)
   refine ⟨upd H2 M.l (B6 M.holds),⟨M.l,ob,_,hll,fun o v z=>?_,rfl⟩,?_⟩
   ·have z:H M.l=some (.frz o v):=z
    rw [S.dl] at z; cases z
   have s3:B1 H (upd H2 M.l (B6 M.holds)):=fun b o e=>by
    by_cases hb:b=M.l
    ·subst hb
     rw [S.dl] at e
     rw [Ab]; exact e
    ·rw [Ac hb]
     exact fr _ _ (F0 _ _ e hb) (nhd e)
   have e3:(upd H2 M.l (B6 M.holds)) hd=some (.lst (hs.map V.ref)):=by rw [Ac (nhd S.dl).symm]; exact eh2
   have t3:ThsAt (upd H2 M.l (B6 M.holds)) hs (D7 M M.holds.length):=by
    refine An (fun b u e=>?_) t2
    rw [Ac fun z=>by rw [z,hll] at e; cases e]; exact e
   generalize upd H2 M.l (B6 M.holds)=H3 at s3 e3 t3
   refine ⟨Nat.zero_le _,fun bl hbl=>?_⟩
   have s4:=Ae (o:=.lst []) hbl
   have e4:(upd H3 bl (.lst [])) bl=some (.lst (([]:List Addr).map V.ref)):=Ab
   have nhb:hd≠bl:=Ar e3 hbl
   have e3':=s4 _ _ e3
   have t4:ThsAt (upd H3 bl (.lst [])) hs (D7 M M.holds.length):=ThsAt.keep (KeepT.of_same s4) t3
   generalize upd H3 bl (.lst [])=H4 at s4 e4 e3' t4
   have s04:=Aj s3 s4
   have S4:=S.same s04
   have hbl0:H bl=none:=Dg s3 hbl
   refine ⟨_,rfl,p,_,rfl,S4.gRecs,M.r,_,rs.map (·.1),rfl,P9 S4.dr,(by rw [List.length_map]; lia),?_,pw,fun sl asl hsl tsl=>?_⟩
   ·have e4:((M.recs.map fun q=>(q.1,V.int q.2)).map (·.1))=M.recs.map (·.1):=by rw [List.map_map]; rfl
    rw [e4]; exact pm.map _
   have s5:=Ae (o:=.lst (asl.map V.ref)) hsl
   have el5:(upd H4 sl (.lst (asl.map V.ref))) sl=some (.lst (asl.map V.ref)):=Ab
   have t5:ThsAt (upd H4 sl (.lst (asl.map V.ref))) asl (rs.map (·.1)):=ThsAt.keep (KeepT.of_same s5) tsl
   have nsb:sl≠bl:=(Ar e4 hsl).symm
   have nsh:hd≠sl:=Ar e3' hsl
   have e4':=s5 _ _ e4
   have e3'':=s5 _ _ e3'
   have t4':ThsAt (upd H4 sl (.lst (asl.map V.ref))) hs (D7 M M.holds.length):=ThsAt.keep (KeepT.of_same s5) t4
   have hsl0:H sl=none:=Dg s04 hsl
   generalize upd H4 sl (.lst (asl.map V.ref))=H5 at s5 el5 t5 e4' e3'' t4'
   have s05:=Aj s04 s5
   have S5:=S.same s05
   have lrs:rs.length≤62:=by have:=pm.length_eq; lia
   have lasl:=Paired.length t5
   rw [List.length_map] at lasl
   have rnd:(rs.map (·.1)).Nodup:=(pm.map _).nodup_iff.mpr ok.rn
   have hdn:=S.new_ne hhd
   have sln:=S.new_ne hsl0
   have bln:=S.new_ne hbl0
   refine ⟨sl,rfl,⟨_,SqL.of el5⟩,?_⟩
   refine Hv (K:=K) (a:=sl) (xs:=asl.map V.ref) (fun i σ H6=>∃ (u2 u4:Option V) (cs:List Addr),σ=[some (.ref p),some (.ref hd),u2,some (.ref bl),u4]∧H6 bl=some (.lst (cs.map V.ref))∧BackAt H6 cs (Co M (rs.take i)) ∧
    ModelAt H6 p { M with recs:=M.recs.filter fun q=>decide (q.1∉((rs.take i).filter fun r=>!heldB M r.1).map (·.1)) }∧∀ b o,H5 b=some o→b≠bl→b≠M.r→H6 b=some o)
    ⟨_,_,[],rfl,e4',.nil,?_,fun b o e _ _=>e⟩ (fun i σ H6 _ h=>let ⟨_,_,_,_,_,_,_,fr⟩:=h; SqL.of (fr _ _ el5 nsb fun z=>sln.2 (by rw [z]; simp [Am]))) ?_ ?_
   ·have:(M.recs.filter fun q=>decide (q.1∉((rs.take 0).filter fun r=>!heldB M r.1).map (·.1)))=M.recs:=List.filter_eq_self.mpr fun q _=>by simp
    rw [this]; exact S5
   ·rintro i x σ H6 hx ⟨u2,u4,cs,rfl,eb6,ba,S6,fr6⟩
    rw [List.getElem?_map] at hx
    cases ea:asl[i]? with
    | none=>rw [ea] at hx; cases hx
    | some a =>
      rw [ea] at hx
      have hx:V.ref a=x:=Option.some.inj hx
      subst hx
      obtain ⟨q,hq⟩:=Bd (xs:=rs) (j:=i) (by have:=(List.getElem?_eq_some_iff.mp ea).1; lia)
      have ha:=A1 t5 i a q.1 ea (by rw [List.getElem?_map,hq]; rfl)
      have kt6:∀ b xs,H5 b=some (.tup xs)→H6 b=some (.tup xs):=fun b xs e=>fr6 _ _ e (fun z=>by rw [z,e4'] at e; cases e) fun z=>by rw [z,S5.dr] at e; cases e
      have ha6:=kt6 _ _ ha
      have t6:ThsAt H6 hs (D7 M M.holds.length):=An (fun b u e=>kt6 _ _ e) t4'
      have eh6:=fr6 _ _ e3'' nhb fun z=>hdn.2 (by rw [z]; simp [Am])
      have ft:=Kd (b:=fun r:T2×Int=>!heldB M r.1) hq
      have qm:q∈M.recs:=pm.subset (List.mem_of_getElem? hq)
      have nin:q.1∉((rs.take i).filter fun r=>!heldB M r.1).map (·.1):=fun z=>by
       obtain ⟨r,hr,er⟩:=List.mem_map.mp z
       have h1:=Fg rnd (i:=i) (t:=q.1) (by rw [List.getElem?_map,hq]; rfl)
       exact h1 (by rw [← List.map_take]; exact List.mem_map.mpr ⟨r,(List.mem_filter.mp hr).1,er⟩)
      have hbk:∀ j,Co M (rs.take j)=((rs.take j).filter fun r=>!heldB M r.1).filter fun r=>decide (0 < r.2):=fun _=>rfl
      refine ⟨_,rfl,_,rfl,Cc ha6 eh6 t6 ⟨fun hR=>⟨_,rfl,Bk ?_⟩,fun hR=>⟨_,rfl,Be ⟨_,_,cs,rfl,eb6,?_,?_,fr6⟩⟩⟩⟩
      ·have hb:heldB M q.1=false:=by rw [← Kv]; exact decide_eq_false hR
       rw [hb,if_pos (show (!false)=true from rfl)] at ft
       have hv:Cp ((M.recs.filter fun r=>decide (r.1∉((rs.take i).filter fun r=>!heldB M r.1).map (·.1))).map fun q=>(tk q.1,V.int q.2)) (tk q.1)=some (V.int q.2):=by
        have n0:((M.recs.filter fun r=>decide (r.1∉((rs.take i).filter fun r=>!heldB M r.1).map (·.1))).map (·.1)).Nodup:=ok.rn.sublist (List.filter_sublist.map _)
        rw [Ct (k:=fun q:T2×Int=>q.1) (f:=fun q=>V.int q.2),FX.find_self (k:=fun q:T2×Int=>q.1) n0 (List.mem_filter.mpr ⟨qm,decide_eq_true nin⟩)]; rfl
       have e9:((rs.take (i + 1)).filter fun r=>!heldB M r.1).map (·.1)=((rs.take i).filter fun r=>!heldB M r.1).map (·.1)++[q.1]:=by rw [ft,List.map_append]; rfl
       have e10:=hbk (i + 1)
       rw [ft,List.filter_append,← hbk i] at e10
       generalize ((rs.take i).filter fun r=>!heldB M r.1).map (·.1)=ds at *
       refine ⟨_,rfl,p,_,rfl,S6.gRecs,M.r,rfl,.inr ⟨_,.inl S6.dr⟩,_,rfl,_,tk q.1,_,a,S6.dr,rfl,ha6,hv,?_⟩
       have e11:Dk ((M.recs.filter fun r=>decide (r.1∉ds)).map fun q=>(tk q.1,V.int q.2)) (tk q.1)=(M.recs.filter fun r=>decide (r.1∉ds++[q.1])).map fun q=>(tk q.1,V.int q.2):=by
        rw [Hx (fun q:T2×Int=>q.1)]
        exact C8 (k:=fun q:T2×Int=>q.1) (f:=fun q=>V.int q.2) _ _
       rw [e11]
       have S7:ModelAt (upd H6 M.r (Bs (M.recs.filter fun r=>decide (r.1∉ds++[q.1])))) p { M with recs:=M.recs.filter fun r=>decide (r.1∉ds++[q.1]) }:=S6.setRecs (M.recs.filter fun r=>decide (r.1∉ds++[q.1]))
       have fr7:∀ b o,H5 b=some o→b≠bl→b≠M.r→(upd H6 M.r (Bs (M.recs.filter fun r=>decide (r.1∉ds++[q.1])))) b=some o:=fun b o e h1 h2=>by rw [Ac h2]; exact fr6 _ _ e h1 h2
       have kt7:KeepT H6 (upd H6 M.r (Bs (M.recs.filter fun r=>decide (r.1∉ds++[q.1])))):=KeepT.upd fun o' e=>by
        rw [S6.dr] at e; cases e; exact ⟨fun _ z=>(by cases z),fun _ _ z=>(by cases z)⟩
       have eb7:(upd H6 M.r (Bs (M.recs.filter fun r=>decide (r.1∉ds++[q.1])))) bl=some (.lst (cs.map V.ref)):=by rw [Ac fun z=>bln.2 (by rw [z]; simp [Am])]; exact eb6
       rw [show HO.dT ((M.recs.filter fun r=>decide (r.1∉ds++[q.1])).map fun q=>(tk q.1,V.int q.2))=Bs (M.recs.filter fun r=>decide (r.1∉ds++[q.1])) from rfl]
       generalize upd H6 M.r (Bs (M.recs.filter fun r=>decide (r.1∉ds++[q.1])))=H7 at S7 fr7 kt7 eb7
       have ba7:=BackAt.keep kt7 ba
       have ha7:=kt7.tup _ _ ha6
       refine ⟨_,rfl,_,_,rfl,rfl,_,rfl,?_⟩
       by_cases c:0 < q.2
       ·rw [decide_eq_true c]
        have lcs:cs.length≤rs.length:=by
         rw [Paired.length ba]
         have h1:=List.length_filter_le (fun q:T2×Int=>decide (0 < q.2)) ((rs.take i).filter fun r=>!heldB M r.1)
         have h2:=Fz (fun r:T2×Int=>!heldB M r.1) rs i
         rw [hbk]; lia
        refine Bk ⟨_,rfl,.inl ⟨rfl,_,SqL.of eb7⟩,_,rfl,_,rfl,(by show 2≤sizeLine; decide),fun x1 hx1=>?_⟩
        have s8:=Ae (o:=.tup [V.ref a,V.int q.2]) hx1
        have x8:(upd H7 x1 (.tup [V.ref a,V.int q.2])) x1=some (.tup [V.ref a,V.int q.2]):=Ab
        have e8:=s8 _ _ eb7
        generalize upd H7 x1 (.tup [V.ref a,V.int q.2])=H8 at s8 x8 e8
        refine ⟨bl,_,_,rfl,rfl,e8,by rw [List.length_map]; exact Fm (by lia),?_⟩
        have kt9:KeepT H8 (upd H8 bl (.lst (cs.map V.ref++[V.ref x1]))):=KeepT.upd fun o' e=>by
         rw [e8] at e; cases e; exact ⟨fun _ z=>(by cases z),fun _ _ z=>(by cases z)⟩
        refine ⟨_,_,cs++[x1],rfl,by rw [List.map_append]; exact Ab,?_,?_,fun b o e h1 h2=>by rw [Ac h1]; exact s8 _ _ (fr7 _ _ e h1 h2)⟩
        ·rw [e10]
         have:([q].filter fun r:T2×Int=>decide (0 < r.2))=[q]:=by rw [List.filter_cons,if_pos (by simpa using c)]; rfl
         rw [this]
         exact Em (BackAt.keep kt9 (BackAt.keep (KeepT.of_same s8) ba7)) ⟨a,kt9.tup _ _ x8,kt9.tup _ _ (s8 _ _ ha7)⟩
        ·rw [e9]
         exact (S7.same s8).keep (fun b o hb e=>by
          rw [Ac fun z=>?_]; exact e
          rcases hb with hb | hb
          ·exact bln.1 (z ▸ hb)
          ·exact bln.2 (z ▸ hb)) kt9
       ·rw [decide_eq_false c]
        refine Be ⟨_,_,cs,rfl,eb7,?_,by rw [e9]; exact S7,fr7⟩
        rw [e10]
        have:([q].filter fun r:T2×Int=>decide (0 < r.2))=[]:=by rw [List.filter_cons,if_neg (by simpa using c)]; rfl
        rw [this,List.append_nil]
        exact ba7
      ·have hb:heldB M q.1=true:=by rw [← Kv]; exact decide_eq_true hR
       rw [hb,if_neg (by decide),List.append_nil] at ft
       rw [hbk,ft,← hbk]; exact ba
      ·have hb:heldB M q.1=true:=by rw [← Kv]; exact decide_eq_true hR
       rw [hb,if_neg (by decide),List.append_nil] at ft
       rw [ft]; exact S6
   ·rintro σ H6 ⟨u2,u4,cs,rfl,eb6,ba,S6,fr6⟩
    rw [List.length_map,lasl,List.take_length] at ba S6
    refine ⟨_,rfl,k bl cs H6 hbl0 eb6 ba ?_ fun b o e h1 h2=>fr6 _ _ (s05 _ _ e) (Ar e hbl0) fun z=>h2 (by rw [z]; simp [Am])⟩
    have:(M.recs.filter fun q=>heldB M q.1)=M.recs.filter fun q=>decide (q.1∉(rs.filter fun r=>!heldB M r.1).map (·.1)):=List.filter_congr fun q hq=>by
     by_cases c:heldB M q.1=true
     ·have nm:q.1∉(rs.filter fun r=>!heldB M r.1).map (·.1):=fun z=>by
       obtain ⟨r,hr,er⟩:=List.mem_map.mp z
       have:=(List.mem_filter.mp hr).2
       rw [er,c] at this; cases this
      rw [c,decide_eq_true nm]
     ·have c:heldB M q.1=false:=by simpa using c
      have im:q.1∈(rs.filter fun r=>!heldB M r.1).map (·.1):=List.mem_map.mpr ⟨q,List.mem_filter.mpr ⟨pm.symm.subset hq,by rw [c]; rfl⟩,rfl⟩
      rw [c]; simp only [im,not_true_eq_false,decide_false]
    unfold keepB
    rw [this]; exact S6
def Lq:Sp:=fun vs H Q _=>∃ (p:Addr) (M:HGh) (n m:Nat) (rs:List (T2×Int)) (R:List T2),vs=[.ref p]∧ModelAt H p M∧Ok M n∧n≤62∧rs.Perm M.recs∧(rs.map (·.1)).Pairwise lt2∧Rch (nxT M.holds) m (startT M) [] R∧m≤5000∧Ok (keepR M R) n ∧
 ∀ (x bl:Addr) (as:List Addr) (H':Hp),(∀ b o,H b=some o→b≠p→b∉Am M→b≠bl)→H' x=some (.tup [.str "told",.ref bl])→H' bl=some (.lst (as.map V.ref))→BackAt H' as (Co (keepR M R) rs)→ModelAt H' p (keepB (keepR M R))→HFr p M H H'→Q (.ref x) H'
theorem scMCl:Ay ["_law_model_here","_law_starts"] ["_law_model_here"] (Af Dw):={}
def Jec:TT:=Ji (tOp (rI0 fun i j=>.bl (decide (j < i))) (Ha (Ha (B8 1) (tC (.str "outs"))) (B8 0)) (tC (.int 0)))
theorem Q8 {f fN fL fB:Addr} {fd dN dL dB:FuncData} (F:Fun K "_law_cleaned" "_law_cleaned" Dw f fd) (T:Txt K mg C NHd NNr MI NW) (Tx:He mg) (MN:Gdf K mg "_law_near" E1 ["_law_model_here","_law_starts"] fN dN) (ML:Gdf K mg "_law_left" Hj ["_law_model_here","_law_near_here"] fL dL) (MB:Gdf K mg "_law_backs" Fb ["_law_model_here"] fB dB) :
 FnOk P w K mg base CX0 2 f fd ["_law_model_here"] Lq:=by
 have GN:FnOk P w K mg base CX0 1 fN dN ["_law_model_here","_law_starts"] Ps:=Q6 MN.fn
 have GL:FnOk P w K mg base CX0 1 fL dL ["_law_model_here","_law_near_here"] Pt:=Q7 ML.fn Tx
 have GB:FnOk P w K mg base CX0 1 fB dB ["_law_model_here"] Lr:=Ov MB.fn T Tx
 refine F.ok scMCl (fun vs H Q E h=>?_) (fun cdv A outer s H vs Q E hr h=>?_)
 ·obtain ⟨p,M,n,m,rs,R,rfl,_⟩:=h
  rfl
 ·obtain ⟨p,M,n,m,rs,R,rfl,S,ok,zn,pm,pw,rc,zm,okR,k⟩:=h
  have hu:=Bv hr
  refine ⟨_,Ad (A3 (i:=1) scMCl.nd rfl (Or.inl rfl) (Aw Mo (Al hu (pv 0) Ak) (PE.thaw (El (te:=B8 0) (tt:=Jec) (caps:=[("_law_model_here",0)]) rfl (Ff (Al hu (pv 0) Ak))
   rfl (by decide +kernel) rfl (by decide +kernel) rfl ⟨rfl,trivial⟩ (fun y h=>Jg ⟨_,rfl⟩ h) ⟨⟨rfl,rfl,rfl,rfl⟩,trivial⟩ (by decide +kernel) (fun _ _ _ _ _=>C9 (Ap Q3 (Al hu (Al hu (pv 1) Ak) (pv 0)) Ai (A4 _))) (fun _ _ _ _ _=>pv 0)))))
   (Ad (Ba (Bn GL hr (by rfl) ML.mg ML.fn.kp ML.bd .nil Bu (Aa (pv 0) (Aa (Bn GN hr (by rfl) MN.mg MN.fn.kp MN.bd .nil Bu (Aa (pv 0) (Aa (pv 1) Ag))) Ag))))
   (Ah (Au (A6 (Aa Ak (Aa (Bn GB hr (by rfl) MB.mg MB.fn.kp MB.bd .nil Bu (Aa (pv 0) Ag)) Ag)))))),?_⟩
  have z0:=ok.oz
  have z1:=ok.hz
  have z2:=ok.lens
  have npo:p≠M.o:=fun z=>S.p_ne (b:=M.o) (by simp [Am]) z.symm
  obtain ⟨as1,eh,th⟩:=S.dh
  refine ⟨_,rfl,p,_,rfl,S.gHand,_,rfl,p,_,rfl,S.gOuts,M.o,_,rfl,S.dO,fun ob ll hll=>?_⟩
  refine Ew (b:=fun t=>decide (0 < Ao M.outs t)) (caps:=[("_law_model_here",0)]) (l:=M.outs) (key:=fun q=>q.1) (val:=fun q=>V.int q.2) (ob:=ob) hll (by lia) Ab (fun H2 a t Q' sm ha ht q=>?_) fun H2 bs sm el tl=>?_
  ·have hp2:H2 p=some (.dK (Bt M)):=sm _ _ (by rw [Ac npo]; exact S.ob)
   have go:DGet H2 p (.str "outs") (some (V.ref M.o)):=by have:=DGet.k (k:=.inr "outs") hp2; rw [Um] at this; exact this
   have gv:Cp (M.outs.map fun q=>(tk q.1,V.int q.2)) (tk t)=some (V.int (Ao M.outs t)):=by
    rw [Ct (k:=fun q:T2×Int=>q.1) (f:=fun q=>V.int q.2),Ci ht]; rfl
   exact ⟨_,rfl,p,_,rfl,go,_,rfl,M.o,_,rfl,.inr ⟨_,tk t,a,.inr ⟨ob,sm _ _ Ab⟩,rfl,ha,gv.symm⟩,_,_,rfl,rfl,_,rfl,q⟩
  have ho2:H2 M.o=some (.frz ob (Bs M.outs)):=sm _ _ Ab
  refine ⟨upd H2 M.o (Bs M.outs),⟨M.o,ob,_,ho2,fun o v z=>?_,rfl⟩,?_⟩
  ·have z:H M.o=some (.frz o v):=z
   rw [S.dO] at z; cases z
  have nll:ll≠M.o:=fun z=>by rw [z,Ab] at hll; cases hll
  have s3:B1 H (upd H2 M.o (Bs M.outs)):=fun b o e=>by
   by_cases hb:b=M.o
   ·subst hb
    rw [S.dO] at e
    rw [Ab]; exact e
   ·rw [Ac hb]
    exact sm _ _ (by rw [Ac hb]; exact e)
  have el3:(upd H2 M.o (Bs M.outs)) ll=some (.lst (bs.map V.ref)):=by rw [Ac nll]; exact el
  have tl3:ThsAt (upd H2 M.o (Bs M.outs)) bs (Eh M):=by
   refine An (fun b u e=>?_) tl
   rw [Ac fun z=>by rw [z,ho2] at e; cases e]; exact e
  generalize upd H2 M.o (Bs M.outs)=H3 at s3 el3 tl3
  have t3:ThsAt H3 as1 M.hand:=ThsAt.keep (KeepT.of_same s3) th
  have n1:=Paired.length t3
  have n2:=Paired.length tl3
  have n3:(Eh M).length≤62:=by
   have:(Eh M).length≤(M.outs.map (·.1)).length:=List.length_filter_le _ _
   rw [List.length_map] at this; lia
  refine ⟨M.h,ll,_,_,rfl,rfl,s3 _ _ eh,el3,Nat.le_of_lt (Fm (by rw [List.length_map,List.length_map]; lia)),fun cl hcl=>?_⟩
  rw [← List.map_append]
  have s5:=Ae (o:=.lst ((as1++bs).map V.ref)) hcl
  have e5:(upd H3 cl (.lst ((as1++bs).map V.ref))) cl=some (.lst ((as1++bs).map V.ref)):=Ab
  have t5:ThsAt (upd H3 cl (.lst ((as1++bs).map V.ref))) (as1++bs) (M.hand++Eh M):=ThsAt.keep (KeepT.of_same s5) (F8 t3 tl3)
  generalize upd H3 cl (.lst ((as1++bs).map V.ref))=H5 at s5 e5 t5
  have s05:=Aj s3 s5
  have S5:=S.same s05
  refine ⟨_,rfl,_,rfl,_,rfl,p,cl,M,as1++bs,M.hand++Eh M,m,R,rfl,S5,e5,t5,by rw [List.length_append]; lia,fun q hq=>by have:=(ok.ln q hq).2; lia,rc,zm,fun na ns H6 hna s6 en tn=>?_⟩
  have S6:=S5.same s6
  have nan:=S5.new_ne hna
  refine ⟨p,na,M,ns,R,rfl,S6,ok.ke,ok.on,en,nan.2,tn,fun H7 S7 fr7=>?_⟩
  have s06:=Aj s05 s6
  refine ⟨_,rfl,p,keepR M R,n,rs,rfl,S7,okR,zn,pm,pw,fun bl cs H8 hbl eb ba S8 fr8=>?_⟩
  refine ⟨(by show 2≤sizeLine; decide),fun x hx=>?_⟩
  have s9:=Ae (o:=.tup [V.str "told",V.ref bl]) hx
  have sub:∀ b,b∈Am (keepR M R)→b∈Am M:=fun b hb=>List.Sublist.subset (F3 (G:={ M with outs:=(keepR M R).outs }) List.filter_sublist) hb
  exact k x bl cs _ (fun b o e h1 h2=>Ar (fr7 _ _ (s06 _ _ e) h1 h2) hbl) Ab (s9 _ _ eb) (BackAt.keep (KeepT.of_same s9) ba) (S8.same s9) fun b o e h1 h2=>s9 _ _ (fr8 _ _ (fr7 _ _ (s06 _ _ e) h1 h2) h1 fun z=>h2 (sub b z))
end
end K16
namespace FX
open PySem PySem.Spec PyProof.Rows L2
inductive RepA (K:W.Frag) (H:Hp):V→PyData→Prop
 | tup {a:Addr} {xs:List V} {ds:List PyData}:SqT K H a xs→Paired (Rep K H) xs ds→RepA K H (.ref a) (.tuple ds)
section
variable {X:Cx} {pins:List (Addr×Obj)} {σ:L2.St} {H:Hp} {s:Shared}
theorem RepA.reads (I:Inv X pins σ H s) {v:V} {d:PyData} (r:RepA X.K H v d) {u:Value} (e:RelV v u):∃ as,Reads s.heap u d as:=by
 cases r with
 | tup h p =>
   cases e
   obtain ⟨its,rv,⟨o,ho,hc,n,hd⟩,_⟩:=I.tuple h
   obtain ⟨as,ra⟩:=Fe rv (Paired.length p) fun j x d e1 e2=>fun u e=>(A1 p j x d e1 e2).reads I e
   exact ⟨as,.tuple ho hc hd (by simpa using ra)⟩
def Jfe (K:W.Frag):R2:=fun x y H Q=>∃ d e,RepA K H x d∧RepA K H y e∧Okd d∧Okd e∧Q (.bl (!PyData.eqv d e)) H
theorem Jb8 (hu:X.A.units + 64 < cLine):OpR X (compareOp .NotEq) (Jfe X.K):=by
 intro pins s σ H x y v u Q I rx ry h
 obtain ⟨d,e,r1,r2,o1,o2,q⟩:=h
 obtain ⟨as,g1⟩:=r1.reads I rx
 obtain ⟨bs,g2⟩:=r2.reads I ry
 exact PySem.SeqAt.compareNe_reads g1 g2 o1.1 o2.1 (by have:=o1.2; omega) ⟨.bl _,H,I,rfl,q⟩
end
end FX
namespace K16
open PySem L2 FX
inductive Df
 | three (w:Str) (ta tb:T2)
 | wt (w:Str) (tb:T2) (v:Int)
 | pass (tb:T2) (sh:Int) (mine:Bool)
 | lt (ts:List T2)
inductive Vl
 | no
 | int (i:Int)
 | th (t:T2)
 | bk (bs:List (T2×Int))
def Jah (x:Str):Prop:=x="make"∨x="hold"∨x="drop"∨x="take"∨x="free"∨x="clean"
def Jcq (x:Str):Prop:=x="part"∨x="came"∨x="added"∨x="given"
def DeedAt (H:Hp) (q:Addr):Df→Prop
 | .three w ta tb=>Jah w∧∃ a b,H q=some (.tup [.str w,.ref a,.ref b])∧H a=some (.tup (tv ta))∧H b=some (.tup (tv tb))
 | .wt w tb v=>Jcq w∧∃ b,H q=some (.tup [.str w,.ref b,.int v])∧H b=some (.tup (tv tb))
 | .pass tb sh mine=>∃ b,H q=some (.tup [.str "passed",.ref b,.int sh,.bl mine])∧H b=some (.tup (tv tb))
 | .lt ts=>∃ l as,H q=some (.tup [.str "let",.ref l])∧H l=some (.tup (as.map V.ref))∧ThsAt H as ts
theorem DeedAt.keep {H H':Hp} (k:KeepT H H') {q:Addr} {d:Df} (x:DeedAt H q d):DeedAt H' q d:=by
 cases d with
 | three w ta tb=>obtain ⟨h,a,b,e1,e2,e3⟩:=x; exact ⟨h,a,b,k.tup _ _ e1,k.tup _ _ e2,k.tup _ _ e3⟩
 | wt w tb v=>obtain ⟨h,b,e1,e2⟩:=x; exact ⟨h,b,k.tup _ _ e1,k.tup _ _ e2⟩
 | pass tb sh mine=>obtain ⟨b,e1,e2⟩:=x; exact ⟨b,k.tup _ _ e1,k.tup _ _ e2⟩
 | lt ts=>obtain ⟨l,as,e1,e2,e3⟩:=x; exact ⟨l,as,k.tup _ _ e1,k.tup _ _ e2,ThsAt.keep k e3⟩
def ValAt (H:Hp) (v:V):Vl→Prop
 | .no=>v=.non
 | .int i=>v=.int i
 | .th t=>∃ a,v=.ref a∧H a=some (.tup (tv t))
 | .bk bs=>∃ l as,v=.ref l∧H l=some (.lst (as.map V.ref))∧BackAt H as bs
def Xs:Option Int→Vl
 | none=>.no
 | some i=>.int i
def vlD:Vl→PyData
 | .no=>.none
 | .int i=>.int i
 | .th t=>thD t
 | .bk bs=>.list (bs.map Kk)
def KeepL (H H':Hp):Prop:=KeepT H H'∧∀ b xs,H b=some (.lst xs)→H' b=some (.lst xs)
theorem KeepL.same {H H':Hp} (s:B1 H H'):KeepL H H':=⟨KeepT.of_same s,fun b xs e=>s _ _ e⟩
theorem KeepL.house {C p:Addr} {G:HGh} {H H':Hp} (S:HouseAt C H p G) (f:HFr p G H H'):KeepL H H':=⟨HFr.keepT S f,fun b xs e=>f _ _ e (S.lst_ne e).1 (S.lst_ne e).2⟩
theorem ValAt.keep {H H':Hp} (k:KeepL H H') {v:V} {x:Vl} (h:ValAt H v x):ValAt H' v x:=by
 cases x with
 | no=>exact h
 | int i=>exact h
 | th t=>obtain ⟨a,e1,e2⟩:=h; exact ⟨a,e1,k.1.tup _ _ e2⟩
 | bk bs=>obtain ⟨l,as,e1,e2,e3⟩:=h; exact ⟨l,as,e1,k.2 _ _ e2,BackAt.keep k.1 e3⟩
theorem Vi {K:W.Frag} {H:Hp} {as:List Addr} {rs:List (T2×Int)} (h:BackAt H as rs):Paired (RepT K H) (as.map V.ref) (rs.map Kk):=Mf h
theorem ValAt.rep {K:W.Frag} {H:Hp} {v:V} {x:Vl} (h:ValAt H v x):Rep K H v (vlD x):=by
 cases x with
 | no=>cases h; exact .one .non
 | int i=>cases h; exact .one (.int i)
 | th t=>obtain ⟨a,e1,e2⟩:=h; rw [e1]; exact .one (Hf e2)
 | bk bs=>obtain ⟨l,as,e1,e2,e3⟩:=h; rw [e1]; exact .lst (SqL.of e2) (Vi e3)
theorem Ja2 (x:Vl):(vlD x).canLay0=true∧(vlD x).depth≤15:=by
 cases x with
 | no=>exact ⟨rfl,by decide⟩
 | int i=>exact ⟨rfl,by simp [vlD,PyData.depth]⟩
 | th t=>exact ⟨(Fl t).1,Nat.le_trans (Fl t).2 (by decide)⟩
 | bk bs =>
   have h:∀ d∈bs.map Kk,d.canLay0=true∧d.depth≤5:=fun d hd=>by
    obtain ⟨q,_,e⟩:=List.mem_map.mp hd
    rw [← e]; exact Ug q
   have go:∀ {ds:List PyData},(∀ d∈ds,d.canLay0=true∧d.depth≤5)→PyData.canLayAll0 ds=true∧PyData.depthAll ds≤5:=by
    intro ds
    induction ds with
    | nil=>intro _; exact ⟨by simp [PyData.canLayAll0],by simp [PyData.depthAll]⟩
    | cons d ds ih =>
      intro h
      obtain ⟨a,b⟩:=ih fun e he=>h e (List.mem_cons_of_mem _ he)
      obtain ⟨c,g⟩:=h d (List.mem_cons_self ..)
      exact ⟨by simp [PyData.canLayAll0,a,c],by simp only [PyData.depthAll]; omega⟩
   obtain ⟨a,b⟩:=go h
   exact ⟨by simp only [vlD,PyData.canLay0]; exact a,by simp only [vlD,PyData.depth]; omega⟩
def isR (r:Str):Prop:=r="told"∨r="NotHeld"∨r="NotNear"∨r="Missing"∨r="NoWeight"
theorem isR.ok {r:Str} (h:isR r):PyData.strOk r=true:=by
 rcases h with rfl | rfl | rfl | rfl | rfl <;> decide +kernel
theorem Jc0 {r:Str} (hr:isR r) (x:Vl):Okd (.tuple [.str r,vlD x]):=Vp fun d hd=>by
 rcases List.mem_cons.mp hd with rfl | hd
 ·exact ⟨by simp [PyData.canLay0,hr.ok],by simp [PyData.depth]⟩
 ·rcases List.mem_cons.mp hd with rfl | hd
  ·exact ⟨(Ja2 x).1,Nat.le_trans (Ja2 x).2 (by decide)⟩
  ·cases hd
def AnsAt (H:Hp) (x:Addr) (r:Str) (v:Vl):Prop:=∃ y,H x=some (.tup [.str r,y])∧ValAt H y v
theorem AnsAt.keep {H H':Hp} (k:KeepL H H') {x:Addr} {r:Str} {v:Vl} (h:AnsAt H x r v):AnsAt H' x r v:=let ⟨y,e1,e2⟩:=h; ⟨y,k.1.tup _ _ e1,e2.keep k⟩
theorem AnsAt.rep {K:W.Frag} {H:Hp} {x:Addr} {r:Str} {v:Vl} (h:AnsAt H x r v):RepA K H (.ref x) (.tuple [.str r,vlD v]):=let ⟨y,e1,e2⟩:=h; .tup (SqT.of e1) (.cons (.one (.str r)) (.cons e2.rep .nil))
def Bl (G:HGh) (R:List T2) (rs:List (T2×Int)):Df→Str×Vl×HGh
 | .three w ta tb=>if w="clean" then ("told",.bk (Co (keepR G R) rs),keepB (keepR G R)) else if w="free" then ((Cj G ta).1,.no,(Cj G ta).2) else ((Az G w ta tb).1,.no,(Az G w ta tb).2)
 | .wt w tb v=>if w="part" then ((A2 G tb v).1,Xs (A2 G tb v).2.1,(A2 G tb v).2.2) else if w="came" then ("told",.no,De G tb v) else ("told",.no,B0 G tb v)
 | .pass tb sh mine=>("told",.no,Qf G tb sh mine)
 | .lt ts=>("told",.bk (Co (dropTs G ts) rs),keepB (dropTs G ts))
section
variable (G:HGh) (R:List T2) (rs:List (T2×Int)) (ta tb:T2) (v:Int)
theorem Ed {w:Str} (h1:¬ w="clean") (h2:¬ w="free"):Bl G R rs (.three w ta tb)=((Az G w ta tb).1,.no,(Az G w ta tb).2):=by
 unfold Bl
 dsimp only
 rw [if_neg h1,if_neg h2]
theorem D2:Bl G R rs (.three "free" ta tb)=((Cj G ta).1,.no,(Cj G ta).2):=by
 unfold Bl
 dsimp only
 rw [if_neg (by decide +kernel),if_pos rfl]
theorem Dh:Bl G R rs (.three "clean" ta tb)=(("told":Str),.bk (Co (keepR G R) rs),keepB (keepR G R)):=by
 unfold Bl
 dsimp only
 rw [if_pos rfl]
theorem D1:Bl G R rs (.wt "part" tb v)=((A2 G tb v).1,Xs (A2 G tb v).2.1,(A2 G tb v).2.2):=by
 unfold Bl
 dsimp only
 rw [if_pos rfl]
theorem D3:Bl G R rs (.wt "came" tb v)=(("told":Str),.no,De G tb v):=by
 unfold Bl
 dsimp only
 rw [if_neg (by decide +kernel),if_pos rfl]
theorem Ec {w:Str} (h1:¬ w="part") (h2:¬ w="came"):Bl G R rs (.wt w tb v)=(("told":Str),.no,B0 G tb v):=by
 unfold Bl
 dsimp only
 rw [if_neg h1,if_neg h2]
end
def E6:Df→Prop
 | .three w _ _=>w="make"
 | _=>False
structure Hyp (G:HGh) (n:Nat) (R:List T2) (rs:List (T2×Int)):Prop where
 ok:Ok G n
 wk:Wk G
 nz:n≤62
 ph:∀ t∈G.hand,InP G.num t
 pl:∀ q∈G.holds,∀ t∈q.2.2,InP G.num t
 pm:rs.Perm G.recs
 pw:(rs.map (·.1)).Pairwise lt2
 rc:∃ m,Rch (nxT G.holds) m (startT G) [] R∧m≤5000
 okR:Ok (keepR G R) n
def DOk (G:HGh) (n:Nat):Df→Prop
 | .three _ _ _=>True
 | .wt w tb _=>(w="came"→tb.1=G.num→tb∈G.outs.map (·.1))∧(w="added"→tb.1≠G.num)∧(w="given"→tb.1=G.num)
 | .pass tb _ _=>tb∈G.outs.map (·.1)
 | .lt ts=>Ok (dropTs G ts) n
section
variable {P:Program} {w:World} {K:W.Frag} {mg:Str→Option Value} {base:Heap} {C NHd NNr MI NW HE:Addr}
theorem Jaj {p:Addr} {H:Hp} {G:HGh} {n:Nat} {ta tb:T2} {R:Hp→Prop} {Ee:Addr→Prop} (S:HouseAt C H p G) (ok:Ok G n) (hn:n≤500) (k1:∀ H',(Az G "hold" ta tb).1="told"→HouseAt C H' p (tk1 (Az G "hold" ta tb).2)→HFr p G H H'→R H') (k2:∀ cls,Names NHd NNr MI NW cls (Az G "hold" ta tb).1→Ee cls) :
 (¬ (ta∈G.hand∧tb∈G.hand)∧Ee NHd)∨(ta∈G.hand∧tb∈G.hand∧ta.1≠G.num∧Ee NNr) ∨
 (ta∈G.hand∧tb∈G.hand∧ta.1=G.num∧∃ (ad:Addr) (hl:List T2),G.holds.find? (fun q=>decide (q.1=ta))=some (ta,ad,hl)∧hl.length≤500∧Done C p G H { G with ticks:=G.ticks + 1,holds:=Eb G.holds ad (Bf hl tb) } R):=by
 have kt:(G.holds.map (·.1)).Nodup:=by rw [ok.ke]; exact ok.on
 by_cases c0:ta∈G.hand∧tb∈G.hand
 ·have c1:¬ (ta∉G.hand∨(("hold":Str)="hold"∧tb∉G.hand)):=fun z=>z.elim (fun z=>z c0.1) fun z=>z.2 c0.2
  by_cases c2:ta.1=G.num
  ·have c3:¬ (("hold":Str)≠"hold"∧tb∉getH G.holds ta):=fun z=>z.1 rfl
   have e:Az G "hold" ta tb=(("told":Str),{ G with holds:=Fu G.holds ta (Bf (getH G.holds ta) tb) }):=by unfold Az; rw [if_neg c1,if_neg (fun z=>z c2),if_neg c3,if_pos rfl]
   obtain ⟨ad,fd⟩:=ok.find c0.1 c2
   refine .inr (.inr ⟨c0.1,c0.2,c2,ad,_,fd,Nat.le_trans (ok.get ta).2.1 hn,fun H' S' fr=>?_⟩)
   rw [Ft (Va S.nd) kt fd] at S'
   rw [e] at k1
   exact k1 H' rfl S' fr
  ·have e:Az G "hold" ta tb=(("NotNear":Str),G):=by unfold Az; rw [if_neg c1,if_pos c2]
   rw [e] at k2
   exact .inr (.inl ⟨c0.1,c0.2,c2,k2 _ (.inr (.inl ⟨rfl,rfl⟩))⟩)
 ·have e:Az G "hold" ta tb=(("NotHeld":Str),G):=by
   unfold Az
   rw [if_pos]
   by_cases c:ta∈G.hand
   ·exact .inr ⟨rfl,fun z=>c0 ⟨c,z⟩⟩
   ·exact .inl c
  rw [e] at k2
  exact .inl ⟨c0,k2 _ (.inl ⟨rfl,rfl⟩)⟩
theorem Jaq {p:Addr} {H:Hp} {G:HGh} {n:Nat} {ta tb:T2} {R:Hp→Prop} {Ee:Addr→Prop} (S:HouseAt C H p G) (ok:Ok G n) (k1:∀ H',(Az G "drop" ta tb).1="told"→HouseAt C H' p (tk1 (Az G "drop" ta tb).2)→HFr p G H H'→R H') (k2:∀ cls,Names NHd NNr MI NW cls (Az G "drop" ta tb).1→Ee cls) :
 Kg G ta tb (fun ad hl=>Done C p G H { G with ticks:=G.ticks + 1,holds:=Eb G.holds ad (Dr hl tb) } R) (Ee NHd) (Ee NNr) (Ee MI):=by
 have kt:(G.holds.map (·.1)).Nodup:=by rw [ok.ke]; exact ok.on
 by_cases c0:ta∈G.hand
 ·have c1:¬ (ta∉G.hand∨(("drop":Str)="hold"∧tb∉G.hand)):=fun z=>z.elim (fun z=>z c0) fun z=>N4 z.1
  by_cases c2:ta.1=G.num
  ·obtain ⟨ad,fd⟩:=ok.find c0 c2
   by_cases c3:tb∈getH G.holds ta
   ·have e:Az G "drop" ta tb=(("told":Str),{ G with holds:=Fu G.holds ta (Dr (getH G.holds ta) tb) }):=by unfold Az; rw [if_neg c1,if_neg (fun z=>z c2),if_neg (fun z=>z.2 c3),if_neg N4,if_pos rfl]
    refine .inr (.inr ⟨c0,c2,ad,_,fd,.inr ⟨c3,fun H' S' fr=>?_⟩⟩)
    rw [Ft (Va S.nd) kt fd] at S'
    rw [e] at k1
    exact k1 H' rfl S' fr
   ·have e:Az G "drop" ta tb=(("Missing":Str),G):=by unfold Az; rw [if_neg c1,if_neg (fun z=>z c2),if_pos ⟨N4,c3⟩]
    rw [e] at k2
    exact .inr (.inr ⟨c0,c2,ad,_,fd,.inl ⟨c3,k2 _ (.inr (.inr (.inl ⟨rfl,rfl⟩)))⟩⟩)
  ·have e:Az G "drop" ta tb=(("NotNear":Str),G):=by unfold Az; rw [if_neg c1,if_pos c2]
   rw [e] at k2
   exact .inr (.inl ⟨c0,c2,k2 _ (.inr (.inl ⟨rfl,rfl⟩))⟩)
 ·have e:Az G "drop" ta tb=(("NotHeld":Str),G):=by unfold Az; rw [if_pos (.inl c0)]
  rw [e] at k2
  exact .inl ⟨c0,k2 _ (.inl ⟨rfl,rfl⟩)⟩
theorem Zb {p:Addr} {H:Hp} {G:HGh} {n:Nat} {ta tb:T2} {R:Hp→Prop} {Ee:Addr→Prop} (ok:Ok G n) (k1:∀ H',(Az G "take" ta tb).1="told"→HouseAt C H' p (tk1 (Az G "take" ta tb).2)→HFr p G H H'→R H') (k2:∀ cls,Names NHd NNr MI NW cls (Az G "take" ta tb).1→Ee cls) :
 Kg G ta tb (fun _ _=>Done C p G H { G with ticks:=G.ticks + 1,hand:=Bf G.hand tb } R) (Ee NHd) (Ee NNr) (Ee MI):=by
 by_cases c0:ta∈G.hand
 ·have c1:¬ (ta∉G.hand∨(("take":Str)="hold"∧tb∉G.hand)):=fun z=>z.elim (fun z=>z c0) fun z=>N3 z.1
  by_cases c2:ta.1=G.num
  ·obtain ⟨ad,fd⟩:=ok.find c0 c2
   by_cases c3:tb∈getH G.holds ta
   ·have e:Az G "take" ta tb=(("told":Str),{ G with hand:=Bf G.hand tb }):=by unfold Az; rw [if_neg c1,if_neg (fun z=>z c2),if_neg (fun z=>z.2 c3),if_neg N3,if_neg Jbg]
    refine .inr (.inr ⟨c0,c2,ad,_,fd,.inr ⟨c3,fun H' S' fr=>?_⟩⟩)
    rw [e] at k1
    exact k1 H' rfl S' fr
   ·have e:Az G "take" ta tb=(("Missing":Str),G):=by unfold Az; rw [if_neg c1,if_neg (fun z=>z c2),if_pos ⟨N3,c3⟩]
    rw [e] at k2
    exact .inr (.inr ⟨c0,c2,ad,_,fd,.inl ⟨c3,k2 _ (.inr (.inr (.inl ⟨rfl,rfl⟩)))⟩⟩)
  ·have e:Az G "take" ta tb=(("NotNear":Str),G):=by unfold Az; rw [if_neg c1,if_pos c2]
   rw [e] at k2
   exact .inr (.inl ⟨c0,c2,k2 _ (.inr (.inl ⟨rfl,rfl⟩))⟩)
 ·have e:Az G "take" ta tb=(("NotHeld":Str),G):=by unfold Az; rw [if_pos (.inl c0)]
  rw [e] at k2
  exact .inl ⟨c0,k2 _ (.inl ⟨rfl,rfl⟩)⟩
theorem Jan {p:Addr} {H:Hp} {G:HGh} {tb:T2} {R:Hp→Prop} {Ee:Addr→Prop} (k1:∀ H',(Cj G tb).1="told"→HouseAt C H' p (tk1 (Cj G tb).2)→HFr p G H H'→R H') (k2:∀ cls,Names NHd NNr MI NW cls (Cj G tb).1→Ee cls) :
 (tb∉G.hand∧Ee NHd)∨(tb∈G.hand∧Done C p G H { G with ticks:=G.ticks + 1,hand:=Dr G.hand tb } R):=by
 by_cases c:tb∈G.hand
 ·have e:Cj G tb=(("told":Str),{ G with hand:=Dr G.hand tb }):=by unfold Cj; rw [if_neg (fun z=>z c)]
  refine .inr ⟨c,fun H' S' fr=>?_⟩
  rw [e] at k1
  exact k1 H' rfl S' fr
 ·have e:Cj G tb=(("NotHeld":Str),G):=by unfold Cj; rw [if_pos c]
  rw [e] at k2
  exact .inl ⟨c,k2 _ (.inl ⟨rfl,rfl⟩)⟩
theorem Xq {p:Addr} {H:Hp} {G:HGh} {n:Nat} {tb:T2} {sh:Int} {R:V→Hp→Prop} {Ee:Addr→Prop} (ok:Ok G n) (wk:Wk G) (k1:∀ v H',(A2 G tb sh).1="told"→HouseAt C H' p (tk1 (A2 G tb sh).2.2)→HFr p G H H'→ValAt H' v (Xs (A2 G tb sh).2.1)→R v H') (k2:∀ cls,Names NHd NNr MI NW cls (A2 G tb sh).1→Ee cls) :
 (tb∉G.hand∧Ee NHd)∨(tb∈G.hand∧tb.1=G.num∧∃ o,G.outs.find? (fun q=>decide (q.1=tb))=some (tb,o)∧Done C p G H { G with ticks:=G.ticks + 1,outs:=Bc G.outs tb (o + sh) } (R (.int sh))) ∨
 (tb∈G.hand∧tb.1≠G.num∧∃ wt,G.recs.find? (fun q=>decide (q.1=tb))=some (tb,wt)∧((wt=0∧Ee NW)∨(wt≠0∧Done C p G H { G with ticks:=G.ticks + 1,recs:=Bc G.recs tb (wt - Gy wt) } (R (.int (Gy wt)))))):=by
 by_cases h1:tb∈G.hand
 ·by_cases h2:tb.1=G.num
  ·have e:A2 G tb sh=(("told":Str),some sh,{ G with outs:=Bc G.outs tb (Ao G.outs tb + sh) }):=by unfold A2; rw [if_neg (fun z=>z h1),if_pos h2]
   refine .inr (.inl ⟨h1,h2,_,Ci (ok.hk tb h1 h2),fun H' S' fr=>?_⟩)
   rw [e] at k1
   exact k1 _ H' rfl S' fr rfl
  ·refine .inr (.inr ⟨h1,h2,_,Ci (wk.hr tb h1 h2),?_⟩)
   by_cases h3:Ao G.recs tb=0
   ·have e:A2 G tb sh=(("NoWeight":Str),none,G):=by unfold A2; rw [if_neg (fun z=>z h1),if_neg h2,if_pos h3]
    rw [e] at k2
    exact .inl ⟨h3,k2 _ (.inr (.inr (.inr ⟨rfl,rfl⟩)))⟩
   ·have e:A2 G tb sh=(("told":Str),some (D8 (Ao G.recs tb)),{ G with recs:=Bc G.recs tb (Ao G.recs tb - D8 (Ao G.recs tb)) }):=by unfold A2; rw [if_neg (fun z=>z h1),if_neg h2,if_neg h3]
    refine .inr ⟨h3,fun H' S' fr=>?_⟩
    rw [e] at k1
    exact k1 _ H' rfl S' fr rfl
 ·have e:A2 G tb sh=(("NotHeld":Str),none,G):=by unfold A2; rw [if_pos h1]
  rw [e] at k2
  exact .inl ⟨h1,k2 _ (.inl ⟨rfl,rfl⟩)⟩
end
theorem noI {i:Nat} {c wd:Str} {ta tb:TS} {D:Ends} {σ:L2.St} {H:Hp} (k:tb D σ H) (hv:σ[i]?=some (some (.str wd)):=by rfl) (ne:¬ wd=c:=by decide +kernel):Jbm (Ji (tOp rEq (B8 i) (tC (.str c)))) ta tb D σ H:=⟨_,hv,rfl,_,rfl,by rw [Kj ne]; exact Be k⟩
theorem Wm {i:Nat} {c:Str} {ta tb:TS} {D:Ends} {σ:L2.St} {H:Hp} (k:ta D σ H) (hv:σ[i]?=some (some (.str c)):=by rfl):Jbm (Ji (tOp rEq (B8 i) (tC (.str c)))) ta tb D σ H:=⟨_,hv,rfl,_,rfl,by rw [Cu]; exact Bk k⟩
structure Hs (K:W.Frag) (mg:Str→Option Value) (C:Addr) (f1 f2 f3 f4 f5 f6 f7 f8 f9 fa fb fc fd fe fg fh fi fj fk fl fP fR:Addr) (d1 d2 d3 d4 d5 d6 d7 d8 d9 da db dc dd de dg dh di dj dk dl dP dR:FuncData):Prop where
 near:Mth K C "is_near" "House.is_near" E9 ["self","thing"] f1 d1
 needH:Mth K C "need_in_hand" "House.need_in_hand" Dv ["self","thing"] f2 d2
 needN:Mth K C "need_near" "House.need_near" Ey ["self","thing"] f3 d3
 needHo:Mth K C "need_holding" "House.need_holding" Ej ["self","a","b"] f4 d4
 addR:Mth K C "add_to_record" "House.add_to_record" Jn ["self","b","weight"] f5 d5
 partR:Mth K C "part_record" "House.part_record" Hi ["self","b"] f6 d6
 hold:Mth K C "hold" "House.hold" L9 ["self","a","b"] f7 d7
 drop:Mth K C "drop" "House.drop" Mb ["self","a","b"] f8 d8
 take:Mth K C "take" "House.take" Lx ["self","a","b"] f9 d9
 free:Mth K C "free" "House.free" Ma ["self","b"] fa da
 part:Mth K C "part" "House.part" Ly ["self","b","share"] fb db
 came:Mth K C "came" "House.came" Md ["self","b","weight"] fc dc
 added:Mth K C "added" "House.added" Iz ["self","b","weight"] fd dd
 given:Mth K C "given" "House.given" Iw ["self","b","weight"] fe de
 passed:Mth K C "passed" "House.passed" Gf ["self","b","share","mine"] fg dg
 clean:Mth K C "clean" "House.clean" Iy ["self"] fh dh
 lt:Mth K C "let" "House.let" So ["self","things"] fi di
 lose:Mth K C "lose" "House.lose" Hl ["self","things"] fj dj
 give:Mth K C "give_back" "House.give_back" Jm ["self"] fk dk
 make:Mth K C "make" "House.make" Lz ["self"] fl dl
 parted:Gdf K mg "parted" Ei ["weight"] fP dP
 reached:Gdf K mg "reached" D0 ["starts","holds"] fR dR
section
variable {P:Program} {w:World} {K:W.Frag} {mg:Str→Option Value} {base:Heap} {C NHd NNr MI NW HE:Addr}
def Ja6 (C NHd NNr MI NW:Addr):Sp:=fun vs H Q E=>∃ (p q:Addr) (G:HGh) (n:Nat) (R:List T2) (rs:List (T2×Int)) (d:Df),vs=[.ref p,.ref q]∧HouseAt C H p G∧Hyp G n R rs∧DeedAt H q d∧DOk G n d ∧
 (E6 d→∀ (t ad:Addr) (H':Hp),H ad=none→H' t=some (.tup (tv (G.num,G.made)))→HouseAt C H' p (tk1 (mkG G ad))→HFr p G H H'→Q (.ref t) H') ∧
 (¬ E6 d→(∀ (v:V) (H':Hp),(Bl G R rs d).1="told"→HouseAt C H' p (tk1 (Bl G R rs d).2.2)→HFr p G H H'→ValAt H' v (Bl G R rs d).2.1→Q v H')∧∀ cls,Names NHd NNr MI NW cls (Bl G R rs d).1→E (.ref cls) none H)
theorem scAs:Ay ["_law_house","_law_deed_here","_law_word"] ["_law_house","_law_deed_here"] (Af Qv):={}
theorem Jcc {f f1 f2 f3 f4 f5 f6 f7 f8 f9 fa fb fc fd fe fg fh fi fj fk fl fP fR:Addr} {fd0 d1 d2 d3 d4 d5 d6 d7 d8 d9 da db dc dd de dg dh di dj dk dl dP dR:FuncData} (F:Fun K "_law_ask" "_law_ask" Qv f fd0) (T:Txt K mg C NHd NNr MI NW) (Tx:He mg)
 (M:Hs K mg C f1 f2 f3 f4 f5 f6 f7 f8 f9 fa fb fc fd fe fg fh fi fj fk fl fP fR d1 d2 d3 d4 d5 d6 d7 d8 d9 da db dc dd de dg dh di dj dk dl dP dR):FnOk P w K mg base (CX1 P w) 5 f fd0 ["_law_house","_law_deed_here"] (Ja6 C NHd NNr MI NW):=by
 have GM:FnOk P w K mg base (CX1 P w) 1 fl dl ["self"] (Wy C):=FX.FnOk.to1 (Z0 M.make.fn T)
 have G7:FnOk P w K mg base (CX1 P w) 3 f7 d7 ["self","a","b"] (W1 C NHd NNr):=Z3 M.hold.fn T M.near M.needH M.needN
 have G8:FnOk P w K mg base (CX1 P w) 4 f8 d8 ["self","a","b"] (W4 C NHd NNr MI):=Z5 M.drop.fn T M.near M.needH M.needN M.needHo
 have G9:FnOk P w K mg base (CX1 P w) 4 f9 d9 ["self","a","b"] (Ww C NHd NNr MI):=Zy M.take.fn T M.near M.needH M.needN M.needHo
 have Ga:FnOk P w K mg base (CX1 P w) 2 fa da ["self","b"] (W2 C NHd):=Z4 M.free.fn T M.needH
 have Gb:FnOk P w K mg base (CX1 P w) 3 fb db ["self","b","share"] (Wx C NHd NW):=Zz M.part.fn T M.near M.needH M.partR M.parted
 have Gc:FnOk P w K mg base (CX1 P w) 2 fc dc ["self","b","weight"] (W6 C):=FX.FnOk.to1 (Z8 M.came.fn T M.near M.addR)
 have Gd:FnOk P w K mg base (CX1 P w) 2 fd dd ["self","b","weight"] (Uc C):=FX.FnOk.to1 (X9 M.added.fn T M.addR)
 have Ge:FnOk P w K mg base (CX1 P w) 1 fe de ["self","b","weight"] (Ua C):=FX.FnOk.to1 (X7 M.given.fn T)
 have Gg:FnOk P w K mg base (CX1 P w) 1 fg dg ["self","b","share","mine"] (Qo C):=FX.FnOk.to1 (Vq M.passed.fn T)
 have Gh:FnOk P w K mg base (CX1 P w) 2 fh dh ["self"] (Ub C):=FX.FnOk.to1 (X8 M.clean.fn T Tx M.reached M.lose M.give)
 have Gi:FnOk P w K mg base (CX1 P w) 2 fi di ["self","things"] (Ja5 C):=FX.FnOk.to1 (Jb9 M.lt.fn T Tx M.lose M.give)
 refine ok1 F scAs (fun vs H Q E h=>?_) (fun cdv A outer s H vs Q E hr h=>?_)
 ·obtain ⟨p,q,G,n,R,rs,d,rfl,_⟩:=h
  rfl
 ·obtain ⟨p,q,G,n,R,rs,d,rfl,S,hy,dq,dok,km,k⟩:=h
  have hr1:Room 1 _:=hr.mono (by decide)
  have hr2:Room 2 _:=hr.mono (by decide)
  have hr3:Room 3 _:=hr.mono (by decide)
  obtain ⟨dx,hp⟩:=S.ob
  have ok:=hy.ok
  have hn:=hy.nz
  have z1:=ok.hz
  have z2:=ok.oz
  have z3:=ok.lens
  have z4:=ok.rz
  refine ⟨_,Ad (A3 (i:=2) scAs.nd rfl (Or.inl rfl) (Bm Bg (pv 1) Ai))
   (Ad (A5 (Ap By (pv 2) Ak (A4 _)) (Ah (Au (D5 (pv 0) T.cl M.make.mt GM hr1 M.make.bd .nil Cs))) Aq)
   (Ad (A5 (Ap By (pv 2) Ak (A4 _)) (Ah (Au (Bo (pl:=_) (pv 0) T.cl M.hold.mt G7 hr3 M.hold.bd .nil Cs (Aa (Bm Bg (pv 1) Ai) (Aa (Bm Bg (pv 1) Ai) Ag))))) Aq)
   (Ad (A5 (Ap By (pv 2) Ak (A4 _)) (Ah (Au (Bo (pl:=_) (pv 0) T.cl M.drop.mt G8 hr M.drop.bd .nil Cs (Aa (Bm Bg (pv 1) Ai) (Aa (Bm Bg (pv 1) Ai) Ag))))) Aq)
   (Ad (A5 (Ap By (pv 2) Ak (A4 _)) (Ah (Au (Bo (pl:=_) (pv 0) T.cl M.take.mt G9 hr M.take.bd .nil Cs (Aa (Bm Bg (pv 1) Ai) (Aa (Bm Bg (pv 1) Ai) Ag))))) Aq)
   (Ad (A5 (Ap By (pv 2) Ak (A4 _)) (Ah (Au (Bo (pl:=_) (pv 0) T.cl M.free.mt Ga hr2 M.free.bd .nil Cs (Aa (Bm Bg (pv 1) Ai) Ag)))) Aq)
   (Ad (A5 (Ap By (pv 2) Ak (A4 _)) (Ah (Au (Bo (pl:=_) (pv 0) T.cl M.part.mt Gb hr3 M.part.bd .nil Cs (Aa (Bm Bg (pv 1) Ai) (Aa (Bm Bg (pv 1) Ai) Ag))))) Aq)
   (Ad (A5 (Ap By (pv 2) Ak (A4 _)) (Ah (Au (Bo (pl:=_) (pv 0) T.cl M.came.mt Gc hr2 M.came.bd .nil Cs (Aa (Bm Bg (pv 1) Ai) (Aa (Bm Bg (pv 1) Ai) Ag))))) Aq)
   (Ad (A5 (Ap By (pv 2) Ak (A4 _)) (Ah (Au (Bo (pl:=_) (pv 0) T.cl M.added.mt Gd hr2 M.added.bd .nil Cs (Aa (Bm Bg (pv 1) Ai) (Aa (Bm Bg (pv 1) Ai) Ag))))) Aq)
   (Ad (A5 (Ap By (pv 2) Ak (A4 _)) (Ah (Au (Bo (pl:=_) (pv 0) T.cl M.given.mt Ge hr1 M.given.bd .nil Cs (Aa (Bm Bg (pv 1) Ai) (Aa (Bm Bg (pv 1) Ai) Ag))))) Aq)
   (Ad (A5 (Ap By (pv 2) Ak (A4 _)) (Ah (Au (Bo (pl:=_) (pv 0) T.cl M.passed.mt Gg hr1 M.passed.bd .nil Cs (Aa (Bm Bg (pv 1) Ai) (Aa (Bm Bg (pv 1) Ai) (Aa (Bm Bg (pv 1) Ai) Ag)))))) Aq)
   (Ad (A5 (Ap By (pv 2) Ak (A4 _)) (Ah (Au (Bo (pl:=_) (pv 0) T.cl M.lt.mt Gi hr2 M.lt.bd .nil Cs (Aa (Bm Bg (pv 1) Ai) Ag)))) Aq)
   (Ah (Au (D5 (pv 0) T.cl M.clean.mt Gh hr2 M.clean.bd .nil Cs)))))))))))))),?_⟩
  cases d with
  | three w0 ta tb =>
    obtain ⟨hw,a,b,eq,ha,hb⟩:=dq
    refine ⟨_,rfl,q,_,_,_,rfl,rfl,SqT.of eq,rfl,?_⟩
    rcases hw with rfl | rfl | rfl | rfl | rfl | rfl
    ·refine ⟨_,rfl,rfl,_,rfl,?_⟩; rw [Cu]
     obtain ⟨n1,n2,n3⟩:=ok.fresh
     exact Bk ⟨_,rfl,p,dx,_,rfl,hp,Bz G (by decide +kernel),p,G,rfl,S,by lia,by lia,by lia,n1,n2,n3,fun t ad H' _ had et S' fr=>km rfl t ad H' had et S' fr⟩
    ·obtain ⟨k1,k2⟩:=k (by show ¬ _=_; decide +kernel)
     have e0:Bl G R rs (.three "hold" ta tb)=((Az G "hold" ta tb).1,.no,(Az G "hold" ta tb).2):=Ed G R rs ta tb (by decide +kernel) (by decide +kernel)
     rw [e0] at k1 k2
     refine noI ?_; refine ⟨_,rfl,rfl,_,rfl,?_⟩; rw [Cu]
     exact Bk ⟨_,rfl,p,dx,_,rfl,hp,Bz G (by decide +kernel),_,rfl,q,_,_,_,rfl,rfl,SqT.of eq,rfl,_,rfl,q,_,_,_,rfl,rfl,SqT.of eq,rfl,p,a,b,G,ta,tb,rfl,S,ha,hb,Jaj (MI:=MI) (NW:=NW) S ok (by lia) (fun H' e S' fr=>k1 .non H' e S' fr rfl) k2⟩
    ·obtain ⟨k1,k2⟩:=k (by show ¬ _=_; decide +kernel)
     have e0:Bl G R rs (.three "drop" ta tb)=((Az G "drop" ta tb).1,.no,(Az G "drop" ta tb).2):=Ed G R rs ta tb (by decide +kernel) (by decide +kernel)
     rw [e0] at k1 k2
     refine noI ?_; refine noI ?_; refine ⟨_,rfl,rfl,_,rfl,?_⟩; rw [Cu]
     exact Bk ⟨_,rfl,p,dx,_,rfl,hp,Bz G (by decide +kernel),_,rfl,q,_,_,_,rfl,rfl,SqT.of eq,rfl,_,rfl,q,_,_,_,rfl,rfl,SqT.of eq,rfl,p,a,b,G,ta,tb,rfl,S,ha,hb,Jaq (NW:=NW) S ok (fun H' e S' fr=>k1 .non H' e S' fr rfl) k2⟩
    ·obtain ⟨k1,k2⟩:=k (by show ¬ _=_; decide +kernel)
     have e0:Bl G R rs (.three "take" ta tb)=((Az G "take" ta tb).1,.no,(Az G "take" ta tb).2):=Ed G R rs ta tb (by decide +kernel) (by decide +kernel)
     rw [e0] at k1 k2
     refine noI ?_; refine noI ?_; refine noI ?_; refine ⟨_,rfl,rfl,_,rfl,?_⟩; rw [Cu]
     exact Bk ⟨_,rfl,p,dx,_,rfl,hp,Bz G (by decide +kernel),_,rfl,q,_,_,_,rfl,rfl,SqT.of eq,rfl,_,rfl,q,_,_,_,rfl,rfl,SqT.of eq,rfl,p,a,b,G,ta,tb,rfl,S,ha,hb,by lia,Zb (NW:=NW) ok (fun H' e S' fr=>k1 .non H' e S' fr rfl) k2⟩
    ·obtain ⟨k1,k2⟩:=k (by show ¬ _=_; decide +kernel)
     have e0:Bl G R rs (.three "free" ta tb)=((Cj G ta).1,.no,(Cj G ta).2):=D2 G R rs ta tb
     rw [e0] at k1 k2
     refine noI ?_; refine noI ?_; refine noI ?_; refine noI ?_; refine ⟨_,rfl,rfl,_,rfl,?_⟩; rw [Cu]
     exact Bk ⟨_,rfl,p,dx,_,rfl,hp,Bz G (by decide +kernel),_,rfl,q,_,_,_,rfl,rfl,SqT.of eq,rfl,p,a,G,ta,rfl,S,ha,Jan (NNr:=NNr) (MI:=MI) (NW:=NW) (fun H' e S' fr=>k1 .non H' e S' fr rfl) k2⟩
    ·obtain ⟨k1,k2⟩:=k (by show ¬ _=_; decide +kernel)
     have e0:Bl G R rs (.three "clean" ta tb)=(("told":Str),.bk (Co (keepR G R) rs),keepB (keepR G R)):=Dh G R rs ta tb
     rw [e0] at k1
     obtain ⟨m,rc,zm⟩:=hy.rc
     refine noI ?_; refine noI ?_; refine noI ?_; refine noI ?_; refine noI ?_; refine noI ?_; refine noI ?_; refine noI ?_; refine noI ?_; refine noI ?_; refine noI ?_
     exact ⟨_,rfl,p,dx,_,rfl,hp,Bz G (by decide +kernel),p,G,n,m,rs,R,rfl,S,ok,hn,hy.ph,hy.pl,hy.pm,hy.pw,rc,zm,hy.okR,fun x as H' _ ex ba S' fr=>k1 _ H' rfl S' fr ⟨x,as,rfl,ex,ba⟩⟩
  | wt w0 tb v =>
    obtain ⟨hw,b,eq,hb⟩:=dq
    refine ⟨_,rfl,q,_,_,_,rfl,rfl,SqT.of eq,rfl,?_⟩
    obtain ⟨k1,k2⟩:=k (fun z=>z)
    rcases hw with rfl | rfl | rfl | rfl
    ·have e0:Bl G R rs (.wt "part" tb v)=((A2 G tb v).1,Xs (A2 G tb v).2.1,(A2 G tb v).2.2):=D1 G R rs tb v
     rw [e0] at k1 k2
     refine noI ?_; refine noI ?_; refine noI ?_; refine noI ?_; refine noI ?_; refine ⟨_,rfl,rfl,_,rfl,?_⟩; rw [Cu]
     refine Bk ⟨_,rfl,p,dx,_,rfl,hp,Bz G (by decide +kernel),_,rfl,q,_,_,_,rfl,rfl,SqT.of eq,rfl,_,rfl,q,_,_,_,rfl,rfl,SqT.of eq,rfl,p,b,G,tb,v,rfl,S,hb,by lia,by lia,?_⟩
     exact Xq (NNr:=NNr) (MI:=MI) (R:=Q) ok hy.wk k1 k2
    ·have e0:Bl G R rs (.wt "came" tb v)=(("told":Str),.no,De G tb v):=D3 G R rs tb v
     rw [e0] at k1
     refine noI ?_; refine noI ?_; refine noI ?_; refine noI ?_; refine noI ?_; refine noI ?_; refine ⟨_,rfl,rfl,_,rfl,?_⟩; rw [Cu]
     refine Bk ⟨_,rfl,p,dx,_,rfl,hp,Bz G (by decide +kernel),_,rfl,q,_,_,_,rfl,rfl,SqT.of eq,rfl,_,rfl,q,_,_,_,rfl,rfl,SqT.of eq,rfl,p,b,G,tb,v,rfl,S,hb,by lia,by lia,by lia,?_⟩
     by_cases c:tb.1=G.num
     ·have hin:=dok.1 rfl c
      refine .inl ⟨c,_,Ci hin,fun H' S' fr=>k1 .non H' rfl ?_ fr rfl⟩
      have e1:De G tb v={ G with hand:=Bf G.hand tb,outs:=Bc G.outs tb (Ao G.outs tb - v) }:=by unfold De B0; rw [if_pos c,if_pos hin]
      rw [e1]; exact S'
     ·refine .inr ⟨c,fun H' S' fr=>k1 .non H' rfl ?_ fr rfl⟩
      have e1:De G tb v={ G with hand:=Bf G.hand tb,recs:=Bc G.recs tb (Tj G.recs tb + v) }:=by unfold De B0; rw [if_neg c]; rfl
      rw [e1]; exact S'
    ·have e0:Bl G R rs (.wt "added" tb v)=(("told":Str),.no,B0 G tb v):=Ec G R rs tb v (by decide +kernel) (by decide +kernel)
     rw [e0] at k1
     refine noI ?_; refine noI ?_; refine noI ?_; refine noI ?_; refine noI ?_; refine noI ?_; refine noI ?_; refine ⟨_,rfl,rfl,_,rfl,?_⟩; rw [Cu]
     have e1:B0 G tb v={ G with recs:=Bc G.recs tb (Tj G.recs tb + v) }:=by unfold B0; rw [if_neg (dok.2.1 rfl)]; rfl
     rw [e1] at k1
     exact Bk ⟨_,rfl,p,dx,_,rfl,hp,Bz G (by decide +kernel),_,rfl,q,_,_,_,rfl,rfl,SqT.of eq,rfl,_,rfl,q,_,_,_,rfl,rfl,SqT.of eq,rfl,p,b,G,tb,v,rfl,S,hb,by lia,fun H' S' fr=>k1 .non H' rfl S' fr rfl⟩
    ·have e0:Bl G R rs (.wt "given" tb v)=(("told":Str),.no,B0 G tb v):=Ec G R rs tb v (by decide +kernel) (by decide +kernel)
     rw [e0] at k1
     refine noI ?_; refine noI ?_; refine noI ?_; refine noI ?_; refine noI ?_; refine noI ?_; refine noI ?_; refine noI ?_; refine ⟨_,rfl,rfl,_,rfl,?_⟩; rw [Cu]
     have e1:B0 G tb v={ G with outs:=gvO G tb v }:=by
      unfold B0 gvO
      rw [if_pos (dok.2.2 rfl)]
      by_cases c:tb∈G.outs.map (·.1)
      ·rw [if_pos c,if_pos c]
      ·rw [if_neg c,if_neg c]
     rw [e1] at k1
     exact Bk ⟨_,rfl,p,dx,_,rfl,hp,Bz G (by decide +kernel),_,rfl,q,_,_,_,rfl,rfl,SqT.of eq,rfl,_,rfl,q,_,_,_,rfl,rfl,SqT.of eq,rfl,p,b,G,tb,v,rfl,S,hb,by lia,fun H' S' fr=>k1 .non H' rfl S' fr rfl⟩
  | pass tb sh mine =>
    obtain ⟨b,eq,hb⟩:=dq
    refine ⟨_,rfl,q,_,_,_,rfl,rfl,SqT.of eq,rfl,?_⟩
    obtain ⟨k1,k2⟩:=k (fun z=>z)
    refine noI ?_; refine noI ?_; refine noI ?_; refine noI ?_; refine noI ?_; refine noI ?_; refine noI ?_; refine noI ?_; refine noI ?_; refine ⟨_,rfl,rfl,_,rfl,?_⟩; rw [Cu]
    exact Bk ⟨_,rfl,p,dx,_,rfl,hp,Bz G (by decide +kernel),_,rfl,q,_,_,_,rfl,rfl,SqT.of eq,rfl,_,rfl,q,_,_,_,rfl,rfl,SqT.of eq,rfl,_,rfl,q,_,_,_,rfl,rfl,SqT.of eq,rfl,p,b,G,tb,sh,mine,rfl,S,hb,by lia,by lia,dok,fun H' S' fr=>k1 .non H' rfl S' fr rfl⟩
  | lt ts =>
    obtain ⟨l,as,eq,el,tl⟩:=dq
    refine ⟨_,rfl,q,_,_,_,rfl,rfl,SqT.of eq,rfl,?_⟩
    obtain ⟨k1,k2⟩:=k (fun z=>z)
    refine noI ?_; refine noI ?_; refine noI ?_; refine noI ?_; refine noI ?_; refine noI ?_; refine noI ?_; refine noI ?_; refine noI ?_; refine noI ?_; refine ⟨_,rfl,rfl,_,rfl,?_⟩; rw [Cu]
    exact Bk ⟨_,rfl,p,dx,_,rfl,hp,Bz G (by decide +kernel),_,rfl,q,_,_,_,rfl,rfl,SqT.of eq,rfl,p,l,G,n,rs,ts,as,rfl,S,ok,hn,hy.ph,hy.pl,hy.pm,hy.pw,el,tl,dok,fun x as H' _ ex ba S' fr=>k1 _ H' rfl S' fr ⟨x,as,rfl,ex,ba⟩⟩
end
def tkr (r:Str×Vl×HGh):HGh:=if r.1="told" then tk1 r.2.2 else r.2.2
theorem Jak (G:HGh) (w:Str) (ta tb:T2):(Az G w ta tb).1="told"∨((Az G w ta tb).2=G∧((Az G w ta tb).1="NotHeld"∨(Az G w ta tb).1="NotNear"∨(Az G w ta tb).1="Missing")):=by
 unfold Az
 by_cases c1:ta∉G.hand∨(w="hold"∧tb∉G.hand)
 ·rw [if_pos c1]; exact .inr ⟨rfl,.inl rfl⟩
 rw [if_neg c1]
 by_cases c2:ta.1≠G.num
 ·rw [if_pos c2]; exact .inr ⟨rfl,.inr (.inl rfl)⟩
 rw [if_neg c2]
 by_cases c3:w≠"hold"∧tb∉getH G.holds ta
 ·rw [if_pos c3]; exact .inr ⟨rfl,.inr (.inr rfl)⟩
 rw [if_neg c3]; exact .inl rfl
theorem Xb (G:HGh) (R:List T2) (rs:List (T2×Int)) (d:Df):(Bl G R rs d).1="told"∨((Bl G R rs d).2.1=.no∧(Bl G R rs d).2.2=G∧((Bl G R rs d).1="NotHeld"∨(Bl G R rs d).1="NotNear"∨(Bl G R rs d).1="Missing"∨(Bl G R rs d).1="NoWeight")):=by
 cases d with
 | three w ta tb =>
   by_cases c1:w="clean"
   ·rw [c1,Dh]; exact .inl rfl
   by_cases c2:w="free"
   ·rw [c2,D2]
    unfold Cj
    by_cases c:ta∉G.hand
    ·rw [if_pos c]; exact .inr ⟨rfl,rfl,.inl rfl⟩
    ·rw [if_neg c]; exact .inl rfl
   ·rw [Ed G R rs ta tb c1 c2]
    rcases Jak G w ta tb with h | ⟨h1,h2⟩
    ·exact .inl h
    ·refine .inr ⟨rfl,h1,?_⟩
     rcases h2 with h | h | h
     ·exact .inl h
     ·exact .inr (.inl h)
     ·exact .inr (.inr (.inl h))
 | wt w tb v =>
   by_cases c1:w="part"
   ·rw [c1,D1]
    unfold A2
    by_cases h1:tb∉G.hand
    ·rw [if_pos h1]; exact .inr ⟨rfl,rfl,.inl rfl⟩
    rw [if_neg h1]
    by_cases h2:tb.1=G.num
    ·rw [if_pos h2]; exact .inl rfl
    rw [if_neg h2]
    by_cases h3:Ao G.recs tb=0
    ·rw [if_pos h3]; exact .inr ⟨rfl,rfl,.inr (.inr (.inr rfl))⟩
    ·rw [if_neg h3]; exact .inl rfl
   by_cases c2:w="came"
   ·rw [c2,D3]; exact .inl rfl
   ·rw [Ec G R rs tb v c1 c2]; exact .inl rfl
 | pass tb sh mine=>exact .inl rfl
 | lt ts=>exact .inl rfl
theorem Zk (G:HGh) (R:List T2) (rs:List (T2×Int)) (d:Df):isR (Bl G R rs d).1:=by
 rcases Xb G R rs d with h | ⟨_,_,h⟩
 ·exact .inl h
 ·exact .inr h
theorem Jce {NHd NNr MI NW cls:Addr} {G:HGh} {R:List T2} {rs:List (T2×Int)} {d:Df} (nm:Names NHd NNr MI NW cls (Bl G R rs d).1):(Bl G R rs d).2.1=.no∧tkr (Bl G R rs d)=G:=by
 have ht:¬ (Bl G R rs d).1="told":=by
  rcases nm with ⟨_,e⟩ | ⟨_,e⟩ | ⟨_,e⟩ | ⟨_,e⟩ <;> (rw [e]; decide +kernel)
 rcases Xb G R rs d with h | ⟨h1,h2,_⟩
 ·exact absurd h ht
 ·exact ⟨h1,by unfold tkr; rw [if_neg ht]; exact h2⟩
section
variable {P:Program} {w:World} {K:W.Frag} {mg:Str→Option Value} {base:Heap} {C NHd NNr MI NW HE:Addr}
def AnsKG (C p:Addr) (G:HGh) (R:List T2) (rs:List (T2×Int)) (d:Df) (H:Hp) (Q:VK):Prop :=
 (E6 d→∀ (x ad:Addr) (H':Hp),H ad=none→HouseAt C H' p (tk1 (mkG G ad))→HFr p G H H'→AnsAt H' x "told" (.th (G.num,G.made))→Q (.ref x) H') ∧
 (¬ E6 d→∀ (x:Addr) (H':Hp),HouseAt C H' p (tkr (Bl G R rs d))→HFr p G H H'→AnsAt H' x (Bl G R rs d).1 (Bl G R rs d).2.1→Q (.ref x) H')
def Ls (C:Addr):Sp:=fun vs H Q _=>∃ (p q:Addr) (G:HGh) (n:Nat) (R:List T2) (rs:List (T2×Int)) (d:Df),vs=[.ref p,.ref q]∧HouseAt C H p G∧Hyp G n R rs∧DeedAt H q d∧DOk G n d∧AnsKG C p G R rs d H Q
theorem scAn:Ay ["_law_house","_law_deed_here","_law_error","_law_found","_law_e"] ["_law_house","_law_deed_here"] (Af Fd):={}
theorem Vu {f fA fW f1 f2 f3 f4 f5 f6 f7 f8 f9 fa fb fc fd fe fg fh fi fj fk fl fP fR:Addr} {fd0 dA dW d1 d2 d3 d4 d5 d6 d7 d8 d9 da db dc dd de dg dh di dj dk dl dP dR:FuncData} (F:Fun K "_law_answer" "_law_answer" Fd f fd0) (T:Txt K mg C NHd NNr MI NW) (T2:Y6 K mg HE NHd NNr MI NW) (Tx:He mg)
 (M:Hs K mg C f1 f2 f3 f4 f5 f6 f7 f8 f9 fa fb fc fd fe fg fh fi fj fk fl fP fR d1 d2 d3 d4 d5 d6 d7 d8 d9 da db dc dd de dg dh di dj dk dl dP dR) (MA:Gdf K mg "_law_ask" Qv ["_law_house","_law_deed_here"] fA dA) (MW:Gdf K mg "_law_which" Hg ["_law_e"] fW dW) :
 FnOk P w K mg base CX0 6 f fd0 ["_law_house","_law_deed_here"] (Ls C):=by
 have GA:FnOk P w K mg base (CX1 P w) 5 fA dA ["_law_house","_law_deed_here"] (Ja6 C NHd NNr MI NW):=Jcc MA.fn T Tx M
 have GW:FnOk P w K mg base CX0 1 fW dW ["_law_e"] (Tu NHd NNr MI NW):=Xw MW.fn T T2
 refine F.ok scAn (fun vs H Q E h=>?_) (fun cdv A outer s H vs Q E hr h=>?_)
 ·obtain ⟨p,q,G,n,R,rs,d,rfl,_⟩:=h
  rfl
 ·obtain ⟨p,q,G,n,R,rs,d,rfl,S,hy,dq,dok,km,k⟩:=h
  have hr1:Room 1 _:=hr.mono (by decide)
  have two:(2:Nat)≤sizeLine:=by decide
  refine ⟨_,Ad (A3 (i:=2) scAn.nd rfl (Or.inl rfl) Dy)
   (Ad (A3 (i:=3) scAn.nd rfl (Or.inl rfl) Dy)
   (Ad (Xj (i:=4) rfl rfl rfl scAn.nd rfl rfl rfl T2.cHE (fun pins E ES hES=>Ah (A3 (i:=3) scAn.nd rfl (Or.inl rfl) (Xp GA hr (by rfl) MA.mg MA.fn.kp MA.bd hES (Aa (pv 0) (Aa (pv 1) Ag)))))
    (fun ex=>Ah (A3 (i:=2) scAn.nd rfl (Or.inl rfl) (pv 4))))
   (Ad (A5 (Dl (Zr (pv 2))) (Ah (Au (A6 (Aa (Bn GW hr1 (by rfl) MW.mg MW.fn.kp MW.bd .nil Bu (Aa (pv 2) Ag)) (Aa Dy Ag))))) Aq)
   (Ah (Au (A6 (Aa Ak (Aa (pv 3) Ag)))))))),?_⟩
  refine ⟨_,rfl,_,rfl,p,q,G,n,R,rs,d,rfl,S,hy,dq,dok,fun e t ad H' had et S' fr=>?_,fun ne=>⟨fun v H' e S' fr va=>?_,fun cls nm=>?_⟩⟩
  ·refine ⟨_,rfl,_,rfl,Be ⟨_,rfl,two,fun x hx=>?_⟩⟩
   have s1:=Ae (o:=.tup [V.str "told",V.ref t]) hx
   exact km e x ad _ had (S'.same s1) (fun b o e h1 h2=>s1 _ _ (fr _ _ e h1 h2)) ⟨_,Ab,t,rfl,s1 _ _ et⟩
  ·refine ⟨_,rfl,_,rfl,Be ⟨_,rfl,two,fun x hx=>?_⟩⟩
   have s1:=Ae (o:=.tup [V.str "told",v]) hx
   have e1:tkr (Bl G R rs d)=tk1 (Bl G R rs d).2.2:=by unfold tkr; rw [if_pos e]
   exact k ne x _ (by rw [e1]; exact S'.same s1) (fun b o e h1 h2=>s1 _ _ (fr _ _ e h1 h2)) ⟨v,by rw [e]; exact Ab,va.keep (KeepL.same s1)⟩
  ·refine ⟨cls,⟨rfl,nm.sub T2⟩,fun ex hex=>?_⟩
   have s1:=Ae (o:=Rw ex cls) hex
   have ee:(upd H ex (Rw ex cls)) ex=some (Rw ex cls):=Ab
   generalize upd H ex (Rw ex cls)=H1 at s1 ee
   refine ⟨_,rfl,_,rfl,_,rfl,Bk ?_⟩
   refine ⟨_,rfl,ex,cls,_,rfl,ee,nm,two,fun x hx=>?_⟩
   have s2:=Ae (o:=.tup [V.str (Bl G R rs d).1,V.non]) hx
   have ss:=Aj s1 s2
   obtain ⟨e1,e2⟩:=Jce nm
   exact k ne x _ (by rw [e2]; exact S.same ss) (fun b o e _ _=>ss _ _ e) ⟨.non,Ab,by rw [e1]; rfl⟩
end
end K16
namespace FX
open PySem PySem.Spec PyProof.Rows L2
section
variable {X:Cx} {pins:List (Addr×Obj)} {σ:L2.St} {H:Hp} {s:Shared}
def Xg (neg:Bool):R2:=fun x y H Q=>∃ (b l:Addr) (tb:T2) (as:List Addr) (ts:List T2),x=.ref b∧y=.ref l∧H b=some (.tup (tv tb))∧H l=some (.tup (as.map V.ref))∧ThsAt H as ts∧Q (.bl (if neg then !decide (tb∈ts) else decide (tb∈ts))) H
theorem Sf (hu:X.A.units + 64 < cLine) {l b:Addr} {tb:T2} {as:List Addr} {ts:List T2} (I:Inv X pins σ H s) (hb:H b=some (.tup (tv tb))) (hl:H l=some (.tup (as.map V.ref))) (th:ThsAt H as ts) :
 s.heap.IsTuple l (as.map Value.ref).toArray∧∀ y,y∈(as.map Value.ref).toArray→SeqAt.EqAt X.A.in1 s y (.ref b) (isT H tb y):=by
 obtain ⟨its,vl,gl,z⟩:=I.tuple (SqT.of (K:=X.K) hl)
 have ei:=Fq vl
 subst ei
 refine ⟨gl,fun y hy=>?_⟩
 have hy:y∈as.map Value.ref:=by simpa using hy
 obtain ⟨a,ha,rfl⟩:=List.mem_map.mp hy
 obtain ⟨j,hj⟩:=List.mem_iff_getElem?.mp ha
 obtain ⟨t,ht⟩:=Bd (xs:=ts) (j:=j) (by rw [← Paired.length th]; exact (List.getElem?_eq_some_iff.mp hj).1)
 exact U2 (by show X.A.units + 1 < cLine; omega) I (A1 th j a t hj ht) hb
theorem Kl (hu:X.A.units + 64 < cLine):OpR X (compareOp .NotIn) (Xg true):=by
 intro pins s σ H x y v u Q I rx ry h
 obtain ⟨b,l,tb,as,ts,rfl,rfl,hb,hl,th,q⟩:=h
 cases rx
 cases ry
 obtain ⟨a1,a2⟩:=Sf hu I hb hl th
 refine SeqAt.notIn_tupleAt (isT H tb) a1 a2 ⟨.bl _,H,I,rfl,?_⟩
 rw [show (as.map Value.ref).toArray.any (isT H tb)=(as.map Value.ref).any (isT H tb) by simp,Qh th]
 exact q
end
theorem Tc {M:HGh} {n:Nat} (ok:Ok M n) (ts:List T2):keepR M ((M.holds.map (·.1)).filter fun t=>decide (t∉ts))=dropTs M ts:=by
 have h1:(M.outs.filter fun q=>decide (q.1∈(M.holds.map (·.1)).filter fun t=>decide (t∉ts)))=M.outs.filter fun q=>decide (q.1∉ts):=List.filter_congr fun q hq=>by
  have:q.1∈M.holds.map (·.1):=by rw [ok.ke]; exact List.mem_map_of_mem hq
  by_cases c:q.1∈ts
  ·simp [c]
  ·have m:q.1∈(M.holds.map (·.1)).filter fun t=>decide (t∉ts):=List.mem_filter.mpr ⟨this,by simpa using c⟩
   rw [decide_eq_true m,decide_eq_true c]
 have h2:(M.holds.filter fun q=>decide (q.1∈(M.holds.map (·.1)).filter fun t=>decide (t∉ts)))=M.holds.filter fun q=>decide (q.1∉ts):=List.filter_congr fun q hq=>by
  have:q.1∈M.holds.map (·.1):=List.mem_map_of_mem hq
  by_cases c:q.1∈ts
  ·simp [c]
  ·have m:q.1∈(M.holds.map (·.1)).filter fun t=>decide (t∉ts):=List.mem_filter.mpr ⟨this,by simpa using c⟩
   rw [decide_eq_true m,decide_eq_true c]
 unfold keepR dropTs
 rw [h1,h2]
end FX
namespace K16
open PySem L2 FX
structure Ms (K:W.Frag) (mg:Str→Option Value) (fM fH fF fP fC fO fA fN fB fL fE:Addr) (dM dH dF dP dC dO dA dN dB dL dE:FuncData):Prop where
 made:Gdf K mg "_law_made" Ir ["_law_model_here"] fM dM
 held:Gdf K mg "_law_held" Iv ["_law_model_here","_law_word","_law_a","_law_b"] fH dH
 freed:Gdf K mg "_law_freed" Gk ["_law_model_here","_law_b"] fF dF
 part:Gdf K mg "_law_parted" Ez ["_law_model_here","_law_b","_law_share"] fP dP
 came:Gdf K mg "_law_weight_came" Hk ["_law_model_here","_law_b","_law_weight"] fC dC
 hold:Gdf K mg "_law_hold_came" Iu ["_law_model_here","_law_b","_law_weight"] fO dO
 pass:Gdf K mg "_law_pass_came" Fn ["_law_model_here","_law_b","_law_share","_law_mine"] fA dA
 near:Gdf K mg "_law_near" E1 ["_law_model_here","_law_starts"] fN dN
 backs:Gdf K mg "_law_backs" Fb ["_law_model_here"] fB dB
 left:Gdf K mg "_law_left" Hj ["_law_model_here","_law_near_here"] fL dL
 cleaned:Gdf K mg "_law_cleaned" Dw ["_law_model_here"] fE dE
theorem Vw {Q:VK} {H:Hp} {b l:Addr} {tb:T2} {as:List Addr} {ts:List T2} (hb:H b=some (.tup (tv tb))) (hl:H l=some (.tup (as.map V.ref))) (th:ThsAt H as ts) (q:Q (.bl (decide (tb∉ts))) H):Xg true (.ref b) (.ref l) H Q:=by
 refine ⟨b,l,tb,as,ts,rfl,rfl,hb,hl,th,?_⟩
 have e:(if true=true then !decide (tb∈ts) else decide (tb∈ts))=decide (tb∉ts):=by
  by_cases c:tb∈ts <;> simp [c]
 rw [e]; exact q
def Jef (K:W.Frag):TT:=Ji (tOp (Xg true) (B8 0) (tOp (Jbx K) (B8 1) (tC (.int 1))))
theorem Zu {H:Hp} (o:Option Int):ValAt H (Jdt o) (Xs o):=by cases o <;> rfl
section
variable {P:Program} {w:World} {K:W.Frag} {mg:Str→Option Value} {base:Heap} {C NHd NNr MI NW HE:Addr}
def DueKM (p:Addr) (M:HGh) (R:List T2) (rs:List (T2×Int)) (d:Df) (H:Hp) (Q:VK):Prop :=
 (E6 d→∀ (x ad:Addr) (H':Hp),H ad=none→ModelAt H' p (mkG M ad)→HFr p M H H'→AnsAt H' x "told" (.th (M.num,M.made))→Q (.ref x) H') ∧
 (¬ E6 d→∀ (x:Addr) (H':Hp),ModelAt H' p (Bl M R rs d).2.2→HFr p M H H'→AnsAt H' x (Bl M R rs d).1 (Bl M R rs d).2.1→Q (.ref x) H')
def W3:Sp:=fun vs H Q _=>∃ (p q:Addr) (M:HGh) (n:Nat) (R:List T2) (rs:List (T2×Int)) (d:Df),vs=[.ref p,.ref q]∧ModelAt H p M∧Hyp M n R rs∧DeedAt H q d∧DOk M n d∧DueKM p M R rs d H Q
theorem scDu:Ay ["_law_model_here","_law_deed_here","_law_word"] ["_law_model_here","_law_deed_here"] (Af Qu):={}
theorem Jcb {f fM fH fF fP fC fO fA fN fB fL fE:Addr} {fd dM dH dF dP dC dO dA dN dB dL dE:FuncData} (F:Fun K "_law_due" "_law_due" Qu f fd) (T:Txt K mg C NHd NNr MI NW) (Tx:He mg) (MS:Ms K mg fM fH fF fP fC fO fA fN fB fL fE dM dH dF dP dC dO dA dN dB dL dE) :
 FnOk P w K mg base CX0 3 f fd ["_law_model_here","_law_deed_here"] W3:=by
 have GM:FnOk P w K mg base CX0 1 fM dM ["_law_model_here"] T5:=X2 MS.made.fn
 have GH:FnOk P w K mg base CX0 1 fH dH ["_law_model_here","_law_word","_law_a","_law_b"] T7:=X4 MS.held.fn
 have GF:FnOk P w K mg base CX0 1 fF dF ["_law_model_here","_law_b"] Qr:=Vt MS.freed.fn
 have GP:FnOk P w K mg base CX0 1 fP dP ["_law_model_here","_law_b","_law_share"] Oo:=Sv MS.part.fn Tx
 have GC:FnOk P w K mg base CX0 1 fC dC ["_law_model_here","_law_b","_law_weight"] Pu:=Q9 MS.came.fn
 have GO:FnOk P w K mg base CX0 2 fO dO ["_law_model_here","_law_b","_law_weight"] T6:=X3 MS.hold.fn MS.came
 have GA:FnOk P w K mg base CX0 1 fA dA ["_law_model_here","_law_b","_law_share","_law_mine"] T4:=X0 MS.pass.fn Tx
 have GB:FnOk P w K mg base CX0 1 fB dB ["_law_model_here"] Lr:=Ov MS.backs.fn T Tx
 have GL:FnOk P w K mg base CX0 1 fL dL ["_law_model_here","_law_near_here"] Pt:=Q7 MS.left.fn Tx
 have GE:FnOk P w K mg base CX0 2 fE dE ["_law_model_here"] Lq:=Q8 MS.cleaned.fn T Tx MS.near MS.left MS.backs
 refine F.ok scDu (fun vs H Q E h=>?_) (fun cdv A outer s H vs Q E hr h=>?_)
 ·obtain ⟨p,q,M,n,R,rs,d,rfl,_⟩:=h
  rfl
 ·obtain ⟨p,q,M,n,R,rs,d,rfl,S,hy,dq,dok,km,k⟩:=h
  have hu:=Bv hr
  have hr1:Room 1 _:=hr.mono (by decide)
  have ok:=hy.ok
  have hn:=hy.nz
  have z1:=ok.hz
  have z2:=ok.oz
  have z4:=ok.rz
  have two:(2:Nat)≤sizeLine:=by decide
  have three:(3:Nat)≤sizeLine:=by decide
  refine ⟨_,Ad (A3 (i:=2) scDu.nd rfl (Or.inl rfl) (Bm Bg (pv 1) Ai))
   (Ad (A5 (Ap By (pv 2) Ak (A4 _)) (Ah (Au (Bn GM hr1 (by rfl) MS.made.mg MS.made.fn.kp MS.made.bd .nil Bu (Aa (pv 0) Ag)))) Aq)
   (Ad (A5 (Ap Ot (pv 2) (A6 (Aa Ak (Aa Ak (Aa Ak Ag)))) rfl) (Ah (Au (Bn GH hr1 (by rfl) MS.held.mg MS.held.fn.kp MS.held.bd .nil Bu (Aa (pv 0) (Aa (pv 2) (Aa (Bm Bg (pv 1) Ai) (Aa (Bm Bg (pv 1) Ai) Ag))))))) Aq)
   (Ad (A5 (Ap By (pv 2) Ak (A4 _)) (Ah (Au (Bn GF hr1 (by rfl) MS.freed.mg MS.freed.fn.kp MS.freed.bd .nil Bu (Aa (pv 0) (Aa (Bm Bg (pv 1) Ai) Ag))))) Aq)
   (Ad (A5 (Ap By (pv 2) Ak (A4 _)) (Ah (Au (Bn GP hr1 (by rfl) MS.part.mg MS.part.fn.kp MS.part.bd .nil Bu (Aa (pv 0) (Aa (Bm Bg (pv 1) Ai) (Aa (Bm Bg (pv 1) Ai) Ag)))))) Aq)
   (Ad (A5 (Ap By (pv 2) Ak (A4 _)) (Ah (Au (Bn GO hr (by rfl) MS.hold.mg MS.hold.fn.kp MS.hold.bd .nil Bu (Aa (pv 0) (Aa (Bm Bg (pv 1) Ai) (Aa (Bm Bg (pv 1) Ai) Ag)))))) Aq)
   (Ad (A5 (Ap Ot (pv 2) (A6 (Aa Ak (Aa Ak Ag))) rfl) (Ah (Au (Bn GC hr1 (by rfl) MS.came.mg MS.came.fn.kp MS.came.bd .nil Bu (Aa (pv 0) (Aa (Bm Bg (pv 1) Ai) (Aa (Bm Bg (pv 1) Ai) Ag)))))) Aq)
   (Ad (A5 (Ap By (pv 2) Ak (A4 _)) (Ah (Au (Bn GA hr1 (by rfl) MS.pass.mg MS.pass.fn.kp MS.pass.bd .nil Bu (Aa (pv 0) (Aa (Bm Bg (pv 1) Ai) (Aa (Bm Bg (pv 1) Ai) (Aa (Bm Bg (pv 1) Ai) Ag))))))) Aq)
   (Ad (A5 (Ap By (pv 2) Ak (A4 _))
    (Ad (Ba (Bn GL hr1 (by rfl) MS.left.mg MS.left.fn.kp MS.left.bd .nil Bu (Aa (pv 0) (Aa (PE.thaw (El (te:=B8 0) (tt:=Jef K) (caps:=[("_law_deed_here",1)]) rfl (Ff (Al hu (pv 0) Ak))
     rfl (by decide +kernel) rfl (by decide +kernel) rfl ⟨rfl,trivial⟩ (fun y h=>Jg ⟨_,rfl⟩ h) ⟨⟨rfl,rfl,rfl,rfl⟩,trivial⟩ (by decide +kernel) (fun _ _ _ _ _=>C9 (Ap (Kl (E7 hr)) (pv 0) (Bm Bg (pv 1) Ai) rfl)) (fun _ _ _ _ _=>pv 0))) Ag))))
    (Ah (Au (A6 (Aa Ak (Aa (Bn GB hr1 (by rfl) MS.backs.mg MS.backs.fn.kp MS.backs.bd .nil Bu (Aa (pv 0) Ag)) Ag)))))) Aq)
   (Ah (Au (Bn GE hr (by rfl) MS.cleaned.mg MS.cleaned.fn.kp MS.cleaned.bd .nil Bu (Aa (pv 0) Ag)))))))))))),?_⟩
  have ans:∀ {H':Hp} {x:Addr} {r:Str} {y:V} {v:Vl},H' x=some (.tup [.str r,y])→ValAt H' y v→AnsAt H' x r v:=fun e1 e2=>⟨_,e1,e2⟩
  cases d with
  | three w0 ta tb =>
    obtain ⟨hw,a,b,eq,ha,hb⟩:=dq
    refine ⟨_,rfl,q,_,_,_,rfl,rfl,SqT.of eq,rfl,?_⟩
    rcases hw with rfl | rfl | rfl | rfl | rfl | rfl
    ·refine ⟨_,rfl,rfl,_,rfl,?_⟩; rw [Cu]
     exact Bk ⟨_,rfl,p,M,n,rfl,S,ok,by lia,fun x t ad H' had ex et S' fr=>km rfl x ad H' had S' fr (ans ex ⟨t,rfl,et⟩)⟩
    ·have k:=k (by show ¬ _=_; decide +kernel)
     rw [Ed M R rs ta tb (by decide +kernel) (by decide +kernel)] at k
     refine noI ?_
     refine ⟨_,rfl,three,fun u hu'=>⟨u,_,rfl,.inr (SqT.of Ab),rfl,rfl,_,rfl,?_⟩⟩
     have su:=Ae (o:=.tup [V.str "hold",V.str "drop",V.str "take"]) hu'
     rw [show (if false=true then !inV (V.str "hold") [V.str "hold",V.str "drop",V.str "take"] else inV (V.str "hold") [V.str "hold",V.str "drop",V.str "take"])=true by decide +kernel]
     exact Bk ⟨_,rfl,_,rfl,_,rfl,q,_,_,_,rfl,rfl,SqT.of (su _ _ eq),rfl,_,rfl,q,_,_,_,rfl,rfl,SqT.of (su _ _ eq),rfl,p,a,b,_,M,n,ta,tb,rfl,.inl rfl,S.same su,ok,by lia,su _ _ ha,su _ _ hb,fun x H' ex S' fr=>k x H' S' (fun b o e h1 h2=>fr _ _ (su _ _ e) h1 h2) (ans ex rfl)⟩
    ·have k:=k (by show ¬ _=_; decide +kernel)
     rw [Ed M R rs ta tb (by decide +kernel) (by decide +kernel)] at k
     refine noI ?_
     refine ⟨_,rfl,three,fun u hu'=>⟨u,_,rfl,.inr (SqT.of Ab),rfl,rfl,_,rfl,?_⟩⟩
     have su:=Ae (o:=.tup [V.str "hold",V.str "drop",V.str "take"]) hu'
     rw [show (if false=true then !inV (V.str "drop") [V.str "hold",V.str "drop",V.str "take"] else inV (V.str "drop") [V.str "hold",V.str "drop",V.str "take"])=true by decide +kernel]
     exact Bk ⟨_,rfl,_,rfl,_,rfl,q,_,_,_,rfl,rfl,SqT.of (su _ _ eq),rfl,_,rfl,q,_,_,_,rfl,rfl,SqT.of (su _ _ eq),rfl,p,a,b,_,M,n,ta,tb,rfl,.inr (.inl rfl),S.same su,ok,by lia,su _ _ ha,su _ _ hb,fun x H' ex S' fr=>k x H' S' (fun b o e h1 h2=>fr _ _ (su _ _ e) h1 h2) (ans ex rfl)⟩
    ·have k:=k (by show ¬ _=_; decide +kernel)
     rw [Ed M R rs ta tb (by decide +kernel) (by decide +kernel)] at k
     refine noI ?_
     refine ⟨_,rfl,three,fun u hu'=>⟨u,_,rfl,.inr (SqT.of Ab),rfl,rfl,_,rfl,?_⟩⟩
     have su:=Ae (o:=.tup [V.str "hold",V.str "drop",V.str "take"]) hu'
     rw [show (if false=true then !inV (V.str "take") [V.str "hold",V.str "drop",V.str "take"] else inV (V.str "take") [V.str "hold",V.str "drop",V.str "take"])=true by decide +kernel]
     exact Bk ⟨_,rfl,_,rfl,_,rfl,q,_,_,_,rfl,rfl,SqT.of (su _ _ eq),rfl,_,rfl,q,_,_,_,rfl,rfl,SqT.of (su _ _ eq),rfl,p,a,b,_,M,n,ta,tb,rfl,.inr (.inr rfl),S.same su,ok,by lia,su _ _ ha,su _ _ hb,fun x H' ex S' fr=>k x H' S' (fun b o e h1 h2=>fr _ _ (su _ _ e) h1 h2) (ans ex rfl)⟩
    ·have k:=k (by show ¬ _=_; decide +kernel)
     rw [D2] at k
     refine noI ?_
     refine ⟨_,rfl,three,fun u hu'=>⟨u,_,rfl,.inr (SqT.of Ab),rfl,rfl,_,rfl,?_⟩⟩
     have su:=Ae (o:=.tup [V.str "hold",V.str "drop",V.str "take"]) hu'
     rw [show (if false=true then !inV (V.str "free") [V.str "hold",V.str "drop",V.str "take"] else inV (V.str "free") [V.str "hold",V.str "drop",V.str "take"])=false by decide +kernel]
     refine Be ?_
     refine ⟨_,rfl,rfl,_,rfl,?_⟩; rw [Cu]
     exact Bk ⟨_,rfl,_,rfl,q,_,_,_,rfl,rfl,SqT.of (su _ _ eq),rfl,p,a,M,n,ta,rfl,S.same su,ok,su _ _ ha,fun x H' ex S' fr=>k x H' S' (fun b o e h1 h2=>fr _ _ (su _ _ e) h1 h2) (ans ex rfl)⟩
    ·have k:=k (by show ¬ _=_; decide +kernel)
     rw [Dh] at k
     obtain ⟨m,rc,zm⟩:=hy.rc
     refine noI ?_
     refine ⟨_,rfl,three,fun u hu'=>⟨u,_,rfl,.inr (SqT.of Ab),rfl,rfl,_,rfl,?_⟩⟩
     have su:=Ae (o:=.tup [V.str "hold",V.str "drop",V.str "take"]) hu'
     generalize upd H u (.tup [V.str "hold",V.str "drop",V.str "take"])=H1 at su
     rw [show (if false=true then !inV (V.str "clean") [V.str "hold",V.str "drop",V.str "take"] else inV (V.str "clean") [V.str "hold",V.str "drop",V.str "take"])=false by decide +kernel]
     refine Be ?_
     refine noI ?_; refine noI ?_; refine noI ?_
     refine ⟨_,rfl,two,fun u2 hu2=>⟨u2,_,rfl,.inr (SqT.of Ab),rfl,rfl,_,rfl,?_⟩⟩
     have su2:=Aj su (Ae (o:=.tup [V.str "added",V.str "given"]) hu2)
     rw [show (if false=true then !inV (V.str "clean") [V.str "added",V.str "given"] else inV (V.str "clean") [V.str "added",V.str "given"])=false by decide +kernel]
     refine Be ?_
     refine noI ?_; refine noI ?_
     exact ⟨_,rfl,p,M,n,m,rs,R,rfl,S.same su2,ok,hn,hy.pm,hy.pw,rc,zm,hy.okR,fun x bl as H' _ ex eb ba S' fr=>k x H' S' (fun b o e h1 h2=>fr _ _ (su2 _ _ e) h1 h2) (ans ex ⟨bl,as,rfl,eb,ba⟩)⟩
  | wt w0 tb v =>
    obtain ⟨hw,b,eq,hb⟩:=dq
    refine ⟨_,rfl,q,_,_,_,rfl,rfl,SqT.of eq,rfl,?_⟩
    have k:=k (fun z=>z)
    rcases hw with rfl | rfl | rfl | rfl
    ·rw [D1] at k
     refine noI ?_
     refine ⟨_,rfl,three,fun u hu'=>⟨u,_,rfl,.inr (SqT.of Ab),rfl,rfl,_,rfl,?_⟩⟩
     have su:=Ae (o:=.tup [V.str "hold",V.str "drop",V.str "take"]) hu'
     rw [show (if false=true then !inV (V.str "part") [V.str "hold",V.str "drop",V.str "take"] else inV (V.str "part") [V.str "hold",V.str "drop",V.str "take"])=false by decide +kernel]
     refine Be ?_
     refine noI ?_; refine ⟨_,rfl,rfl,_,rfl,?_⟩; rw [Cu]
     exact Bk ⟨_,rfl,_,rfl,q,_,_,_,rfl,rfl,SqT.of (su _ _ eq),rfl,_,rfl,q,_,_,_,rfl,rfl,SqT.of (su _ _ eq),rfl,p,b,M,n,tb,v,rfl,S.same su,ok,hy.wk,by lia,su _ _ hb,fun x H' ex S' fr=>k x H' S' (fun b o e h1 h2=>fr _ _ (su _ _ e) h1 h2) (ans ex (Zu _))⟩
    ·rw [D3] at k
     refine noI ?_
     refine ⟨_,rfl,three,fun u hu'=>⟨u,_,rfl,.inr (SqT.of Ab),rfl,rfl,_,rfl,?_⟩⟩
     have su:=Ae (o:=.tup [V.str "hold",V.str "drop",V.str "take"]) hu'
     rw [show (if false=true then !inV (V.str "came") [V.str "hold",V.str "drop",V.str "take"] else inV (V.str "came") [V.str "hold",V.str "drop",V.str "take"])=false by decide +kernel]
     refine Be ?_
     refine noI ?_; refine noI ?_; refine ⟨_,rfl,rfl,_,rfl,?_⟩; rw [Cu]
     exact Bk ⟨_,rfl,_,rfl,q,_,_,_,rfl,rfl,SqT.of (su _ _ eq),rfl,_,rfl,q,_,_,_,rfl,rfl,SqT.of (su _ _ eq),rfl,p,b,M,tb,v,rfl,S.same su,by lia,by lia,by lia,su _ _ hb,fun x H' ex S' fr=>k x H' S' (fun b o e h1 h2=>fr _ _ (su _ _ e) h1 h2) (ans ex rfl)⟩
    ·rw [Ec M R rs tb v (by decide +kernel) (by decide +kernel)] at k
     refine noI ?_
     refine ⟨_,rfl,three,fun u hu'=>⟨u,_,rfl,.inr (SqT.of Ab),rfl,rfl,_,rfl,?_⟩⟩
     have su:=Ae (o:=.tup [V.str "hold",V.str "drop",V.str "take"]) hu'
     generalize upd H u (.tup [V.str "hold",V.str "drop",V.str "take"])=H1 at su
     rw [show (if false=true then !inV (V.str "added") [V.str "hold",V.str "drop",V.str "take"] else inV (V.str "added") [V.str "hold",V.str "drop",V.str "take"])=false by decide +kernel]
     refine Be ?_
     refine noI ?_; refine noI ?_; refine noI ?_
     refine ⟨_,rfl,two,fun u2 hu2=>⟨u2,_,rfl,.inr (SqT.of Ab),rfl,rfl,_,rfl,?_⟩⟩
     have su2:=Aj su (Ae (o:=.tup [V.str "added",V.str "given"]) hu2)
     rw [show (if false=true then !inV (V.str "added") [V.str "added",V.str "given"] else inV (V.str "added") [V.str "added",V.str "given"])=true by decide +kernel]
     exact Bk ⟨_,rfl,_,rfl,q,_,_,_,rfl,rfl,SqT.of (su2 _ _ eq),rfl,_,rfl,q,_,_,_,rfl,rfl,SqT.of (su2 _ _ eq),rfl,p,b,M,tb,v,rfl,S.same su2,by lia,by lia,su2 _ _ hb,fun x H' ex S' fr=>k x H' S' (fun b o e h1 h2=>fr _ _ (su2 _ _ e) h1 h2) (ans ex rfl)⟩
    ·rw [Ec M R rs tb v (by decide +kernel) (by decide +kernel)] at k
     refine noI ?_
     refine ⟨_,rfl,three,fun u hu'=>⟨u,_,rfl,.inr (SqT.of Ab),rfl,rfl,_,rfl,?_⟩⟩
     have su:=Ae (o:=.tup [V.str "hold",V.str "drop",V.str "take"]) hu'
     generalize upd H u (.tup [V.str "hold",V.str "drop",V.str "take"])=H1 at su
     rw [show (if false=true then !inV (V.str "given") [V.str "hold",V.str "drop",V.str "take"] else inV (V.str "given") [V.str "hold",V.str "drop",V.str "take"])=false by decide +kernel]
     refine Be ?_
     refine noI ?_; refine noI ?_; refine noI ?_
     refine ⟨_,rfl,two,fun u2 hu2=>⟨u2,_,rfl,.inr (SqT.of Ab),rfl,rfl,_,rfl,?_⟩⟩
     have su2:=Aj su (Ae (o:=.tup [V.str "added",V.str "given"]) hu2)
     rw [show (if false=true then !inV (V.str "given") [V.str "added",V.str "given"] else inV (V.str "given") [V.str "added",V.str "given"])=true by decide +kernel]
     exact Bk ⟨_,rfl,_,rfl,q,_,_,_,rfl,rfl,SqT.of (su2 _ _ eq),rfl,_,rfl,q,_,_,_,rfl,rfl,SqT.of (su2 _ _ eq),rfl,p,b,M,tb,v,rfl,S.same su2,by lia,by lia,su2 _ _ hb,fun x H' ex S' fr=>k x H' S' (fun b o e h1 h2=>fr _ _ (su2 _ _ e) h1 h2) (ans ex rfl)⟩
  | pass tb sh mine =>
    obtain ⟨b,eq,hb⟩:=dq
    refine ⟨_,rfl,q,_,_,_,rfl,rfl,SqT.of eq,rfl,?_⟩
    have k:=k (fun z=>z)
    refine noI ?_
    refine ⟨_,rfl,three,fun u hu'=>⟨u,_,rfl,.inr (SqT.of Ab),rfl,rfl,_,rfl,?_⟩⟩
    have su:=Ae (o:=.tup [V.str "hold",V.str "drop",V.str "take"]) hu'
    generalize upd H u (.tup [V.str "hold",V.str "drop",V.str "take"])=H1 at su
    rw [show (if false=true then !inV (V.str "passed") [V.str "hold",V.str "drop",V.str "take"] else inV (V.str "passed") [V.str "hold",V.str "drop",V.str "take"])=false by decide +kernel]
    refine Be ?_
    refine noI ?_; refine noI ?_; refine noI ?_
    refine ⟨_,rfl,two,fun u2 hu2=>⟨u2,_,rfl,.inr (SqT.of Ab),rfl,rfl,_,rfl,?_⟩⟩
    have su2:=Aj su (Ae (o:=.tup [V.str "added",V.str "given"]) hu2)
    rw [show (if false=true then !inV (V.str "passed") [V.str "added",V.str "given"] else inV (V.str "passed") [V.str "added",V.str "given"])=false by decide +kernel]
    refine Be ?_
    refine ⟨_,rfl,rfl,_,rfl,?_⟩; rw [Cu]
    exact Bk ⟨_,rfl,_,rfl,q,_,_,_,rfl,rfl,SqT.of (su2 _ _ eq),rfl,_,rfl,q,_,_,_,rfl,rfl,SqT.of (su2 _ _ eq),rfl,_,rfl,q,_,_,_,rfl,rfl,SqT.of (su2 _ _ eq),rfl,p,b,M,tb,sh,mine,rfl,S.same su2,by lia,by lia,dok,su2 _ _ hb,fun x H' ex S' fr=>k x H' S' (fun b o e h1 h2=>fr _ _ (su2 _ _ e) h1 h2) (ans ex rfl)⟩
  | lt ts =>
    obtain ⟨l,as,eq,el,tl⟩:=dq
    refine ⟨_,rfl,q,_,_,_,rfl,rfl,SqT.of eq,rfl,?_⟩
    have k:=k (fun z=>z)
    refine noI ?_
    refine ⟨_,rfl,three,fun u hu'=>⟨u,_,rfl,.inr (SqT.of Ab),rfl,rfl,_,rfl,?_⟩⟩
    have su:=Ae (o:=.tup [V.str "hold",V.str "drop",V.str "take"]) hu'
    generalize upd H u (.tup [V.str "hold",V.str "drop",V.str "take"])=H1 at su
    rw [show (if false=true then !inV (V.str "let") [V.str "hold",V.str "drop",V.str "take"] else inV (V.str "let") [V.str "hold",V.str "drop",V.str "take"])=false by decide +kernel]
    refine Be ?_
    refine noI ?_; refine noI ?_; refine noI ?_
    refine ⟨_,rfl,two,fun u2 hu2=>⟨u2,_,rfl,.inr (SqT.of Ab),rfl,rfl,_,rfl,?_⟩⟩
    have su2:=Aj su (Ae (o:=.tup [V.str "added",V.str "given"]) hu2)
    generalize upd H1 u2 (.tup [V.str "added",V.str "given"])=H2 at su2
    rw [show (if false=true then !inV (V.str "let") [V.str "added",V.str "given"] else inV (V.str "let") [V.str "added",V.str "given"])=false by decide +kernel]
    refine Be ?_
    refine noI ?_; refine ⟨_,rfl,rfl,_,rfl,?_⟩; rw [Cu]
    have S2:=S.same su2
    have tl2:ThsAt H2 as ts:=ThsAt.keep (KeepT.of_same su2) tl
    have eq2:=su2 _ _ eq
    have el2:=su2 _ _ el
    have zl:=ok.lens
    refine Bk ⟨_,rfl,_,rfl,p,_,rfl,S2.gHolds,M.l,_,rfl,S2.dl,fun ob nl hnl=>?_⟩
    have tn:∀ {H3:Hp} {xs:List V} {c:Addr},B1 (upd H2 M.l (.frz ob (B6 M.holds))) H3→H2 c=some (.tup xs)→H3 c=some (.tup xs):=fun {H3 xs c} sm e=>sm _ _ (by rw [Ac fun z=>by rw [z,S2.dl] at e; cases e]; exact e)
    refine Ew (b:=fun t=>decide (t∉ts)) (caps:=[("_law_deed_here",1)]) (l:=M.holds) (key:=fun q=>q.1) (val:=fun q=>V.ref q.2.1) (ob:=ob) hnl (by lia) Ab (fun H3 c t Q' sm hc ht qq=>?_) fun H3 bs sm eb tb'=>?_
    ·exact ⟨_,rfl,_,rfl,q,_,_,_,rfl,rfl,SqT.of (tn sm eq2),rfl,Vw hc (tn sm el2) (An (fun _ _ e=>tn sm e) tl2) ⟨_,rfl,qq⟩⟩
    ·have f3:H3 M.l=some (.frz ob (B6 M.holds)):=sm _ _ Ab
     refine ⟨upd H3 M.l (B6 M.holds),⟨M.l,ob,_,f3,fun o v z=>?_,rfl⟩,?_⟩
     ·have z:H M.l=some (.frz o v):=z
      rw [S.dl] at z; cases z
     have nnl:nl≠M.l:=fun z=>by rw [z,Ab] at hnl; cases hnl
     have s4:B1 H2 (upd H3 M.l (B6 M.holds)):=fun b o e=>by
      by_cases hb:b=M.l
      ·subst hb
       rw [S2.dl] at e
       rw [Ab]; exact e
      ·rw [Ac hb]
       exact sm _ _ (by rw [Ac hb]; exact e)
     have e4:(upd H3 M.l (B6 M.holds)) nl=some (.lst (bs.map V.ref)):=by rw [Ac nnl]; exact eb
     have t4:ThsAt (upd H3 M.l (B6 M.holds)) bs ((M.holds.map (·.1)).filter fun t=>decide (t∉ts)):=by
      refine An (fun b u e=>?_) tb'
      rw [Ac fun z=>by rw [z,f3] at e; cases e]; exact e
     generalize upd H3 M.l (B6 M.holds)=H4 at s4 e4 t4
     have nf:nl∉Am M:=fun z=>by
      rcases S2.foot_some z with ⟨_,e⟩ | ⟨_,e⟩ <;> (rw [Ac nnl,e] at hnl; cases hnl)
     have S4:=S2.same s4
     refine ⟨p,nl,M,bs,_,rfl,S4,ok.ke,ok.on,e4,nf,t4,fun H5 S5 fr5=>?_⟩
     rw [Tc ok ts] at S5
     have dok:Ok (dropTs M ts) n:=dok
     refine ⟨_,rfl,p,dropTs M ts,n,rs,rfl,S5,dok,hn,hy.pm,hy.pw,fun bl cs H6 _ eb6 ba6 S6 fr6=>⟨two,fun x hx=>?_⟩⟩
     have s7:=Ae (o:=.tup [V.str "told",V.ref bl]) hx
     exact k x _ (S6.same s7) (fun b o e h1 h2=>s7 _ _ (fr6 _ _ (fr5 _ _ (s4 _ _ (su2 _ _ e)) h1 h2) h1 fun z=>h2 (ModelAt.foot_dropTs ts z))) (ans Ab ⟨bl,cs,rfl,s7 _ _ eb6,BackAt.keep (KeepT.of_same s7) ba6⟩)
end
end K16
namespace FX
open PySem PySem.Spec PyProof.Rows L2
def Hd2 (G:HGh) (t:T2):Prop:=t∈G.hand∨∃ q∈G.holds,t∈q.2.2
theorem Qd {G:HGh} {ta t:T2} (h:t∈getH G.holds ta):Hd2 G t:=by
 unfold getH at h
 cases e:G.holds.find? fun q=>decide (q.1=ta) with
 | none=>rw [e] at h; cases h
 | some q=>rw [e] at h; exact .inr ⟨q,List.mem_of_find?_eq_some e,h⟩
structure Sd (G:HGh) (n:Nat):Prop where
 ok:Ok G n
 nn:∀ q∈G.recs,0≤q.2
 ip:∀ t,Hd2 G t→InP G.num t
 rk:∀ t,Hd2 G t→t.1≠G.num→t∈G.recs.map (·.1)
 n0:0≤G.num
 n1:G.num < 12
 m0:0≤G.made
 m1:G.made≤n
section
variable {G M:HGh} {n:Nat}
theorem Sd.wk (x:Sd G n):Wk G:=⟨x.nn,fun t ht e=>x.rk t (.inl ht) e⟩
theorem Sd.tk (x:Sd G n):Sd (tk1 G) n:=⟨x.ok.tk1,x.nn,x.ip,x.rk,x.n0,x.n1,x.m0,x.m1⟩
theorem Sd.of (x:Sd G n) {G':HGh} (ok':Ok G' (n + 1)) (nu:G'.num=G.num) (md:G'.made=G.made) (hd:∀ t∈G'.hand,Hd2 G t∨(InP G.num t∧(t.1≠G.num→t∈G'.recs.map (·.1)))) (hl:∀ q∈G'.holds,∀ t∈q.2.2,Hd2 G t) (nn:∀ q∈G'.recs,0≤q.2) (ks:∀ t,Hd2 G' t→t∈G.recs.map (·.1)→t∈G'.recs.map (·.1)):Sd G' (n + 1):=by
 refine ⟨ok',nn,fun t ht=>?_,fun t ht e=>?_,by rw [nu]; exact x.n0,by rw [nu]; exact x.n1,by rw [md]; exact x.m0,by rw [md]; have:=x.m1; lia⟩
 ·rw [nu]
  rcases ht with ht | ⟨q,hq,ht⟩
  ·rcases hd t ht with h | h
   ·exact x.ip t h
   ·exact h.1
  ·exact x.ip t (hl q hq t ht)
 ·rw [nu] at e
  rcases id ht with h | ⟨q,hq,h⟩
  ·rcases hd t h with h | h
   ·exact ks t ht (x.rk t h e)
   ·exact h.2 e
  ·exact ks t ht (x.rk t (hl q hq t h) e)
theorem Sd.mkG (x:Sd G n) (hn:n < 60) (a:Addr):Sd (mkG G a) (n + 1):=by
 refine ⟨x.ok.mkG a,x.nn,fun t ht=>?_,fun t ht e=>?_,x.n0,x.n1,by show 0≤G.made + 1; have:=x.m0; lia,by show G.made + 1≤((n + 1:Nat):Int); have:=x.m1; lia⟩
 ·have hm:=x.m1
  rcases ht with ht | ⟨q,hq,ht⟩
  ·have ht:t∈G.hand++[(G.num,G.made)]:=ht
   rcases List.mem_append.mp ht with ht | ht
   ·exact x.ip t (.inl ht)
   ·have:t=(G.num,G.made):=by simpa using ht
    rw [this]
    exact ⟨x.n0,x.n1,.inl ⟨rfl,x.m0,by show G.made < 60; lia⟩⟩
  ·have hq:q∈G.holds++[((G.num,G.made),a,[])]:=hq
   rcases List.mem_append.mp hq with hq | hq
   ·exact x.ip t (.inr ⟨q,hq,ht⟩)
   ·have:q=((G.num,G.made),a,[]):=by simpa using hq
    rw [this] at ht; cases ht
 ·rcases ht with ht | ⟨q,hq,ht⟩
  ·have ht:t∈G.hand++[(G.num,G.made)]:=ht
   rcases List.mem_append.mp ht with ht | ht
   ·exact x.rk t (.inl ht) e
   ·have:t=(G.num,G.made):=by simpa using ht
    exact absurd (by rw [this]; rfl) e
  ·have hq:q∈G.holds++[((G.num,G.made),a,[])]:=hq
   rcases List.mem_append.mp hq with hq | hq
   ·exact x.rk t (.inr ⟨q,hq,ht⟩) e
   ·have:q=((G.num,G.made),a,[]):=by simpa using hq
    rw [this] at ht; cases ht
theorem Kq {l:List (T2×Int)} {t:T2} {v:Int} {q:T2×Int} (h:q∈Bc l t v):q=(t,v)∨q∈l:=by
 unfold Bc at h
 by_cases c:t∈l.map (·.1)
 ·rw [if_pos c] at h
  obtain ⟨r,hr,e⟩:=List.mem_map.mp h
  by_cases d:r.1=t
  ·rw [if_pos d] at e
   exact .inl (by rw [← e,d])
  ·rw [if_neg d] at e
   exact .inr (by rw [← e]; exact hr)
 ·rw [if_neg c] at h
  rcases List.mem_append.mp h with h | h
  ·exact .inr h
  ·exact .inl (by simpa using h)
theorem Jr (l:List (T2×Int)) (t:T2) (v:Int):t∈(Bc l t v).map (·.1)∧∀ u∈l.map (·.1),u∈(Bc l t v).map (·.1):=by
 rw [Fw]
 by_cases c:t∈l.map (·.1)
 ·rw [if_pos c]; exact ⟨c,fun u hu=>hu⟩
 ·rw [if_neg c]; exact ⟨List.mem_append_right _ (by simp),fun u hu=>List.mem_append_left _ hu⟩
theorem Ok.addIn (ok:Ok G n) {tb:T2} (h:tb.1=G.num→tb∈G.outs.map (·.1)):Ok { G with hand:=Bf G.hand tb } (n + 1):=by
 refine (ok.mono (Nat.le_succ n)).hand (Jx _ ok.hn) (by have:=F1 G.hand tb; have:=ok.hz; lia) fun t ht e=>?_
 rcases mem_addT'.mp ht with ht | ht
 ·exact ok.hk t ht e
 ·rw [ht]; exact h (by rw [← ht]; exact e)
theorem Ok.dropTs (ok:Ok G n) {ts:List T2} (h1:∀ t∈G.hand,t∉ts∨t.1≠G.num) (h2:∀ q∈G.holds,q.1∉ts→∀ t∈q.2.2,t.1=G.num→t∉ts):Ok (FX.dropTs G ts) n:=by
 have mem:∀ t,t∈G.outs.map (·.1)→t∉ts→t∈(G.outs.filter fun q=>decide (q.1∉ts)).map (·.1):=fun t h1 h2=>by
  rw [Br (fun q:T2×Int=>q.1) G.outs (fun t=>decide (t∉ts))]
  exact List.mem_filter.mpr ⟨h1,by simpa using h2⟩
 have sub:∀ t,t∈(G.outs.filter fun q=>decide (q.1∉ts)).map (·.1)→t∈G.outs.map (·.1):=fun t h=>(List.filter_sublist.map _).subset h
 refine ⟨ok.hn,ok.hz,ok.on.sublist (List.filter_sublist.map _),Nat.le_trans (List.length_filter_le _ _) ok.oz,?_,ok.rn,ok.rz,fun q hq=>ok.ln q (List.mem_filter.mp hq).1,fun t ht=>ok.new t (sub t ht),fun t ht e=>?_,fun q hq t ht e=>?_,ok.rk⟩
 ·show (G.holds.filter fun q=>decide (q.1∉ts)).map (·.1)=(G.outs.filter fun q=>decide (q.1∉ts)).map (·.1)
  rw [Br (fun q:T2×Addr×List T2=>q.1) G.holds (fun t=>decide (t∉ts)),Br (fun q:T2×Int=>q.1) G.outs (fun t=>decide (t∉ts)),ok.ke]
 ·exact mem t (ok.hk t ht e) ((h1 t ht).elim id fun z=>absurd e z)
 ·obtain ⟨hq1,hq2⟩:=List.mem_filter.mp hq
  exact mem t (ok.lk q hq1 t ht e) (h2 q hq1 (by simpa using hq2) t ht e)
theorem LikeW.dropTs (x:LikeW M G) (ts:List T2):LikeW (FX.dropTs M ts) (FX.dropTs G ts):=by
 refine ⟨x.num,x.made,rfl,x.hand,?_,x.recs,?_⟩
 ·show M.outs.filter _=G.outs.filter _
  rw [show M.outs=G.outs from x.outs]
 ·show hs0 (M.holds.filter fun q=>decide (q.1∉ts))=hs0 (G.holds.filter fun q=>decide (q.1∉ts))
  have e:∀ l:HL,hs0 (l.filter fun q=>decide (q.1∉ts))=(hs0 l).filter fun q=>decide (q.1∉ts):=fun l=>by unfold hs0; rw [List.filter_map]; rfl
  rw [e,e,show hs0 M.holds=hs0 G.holds from x.holds]
theorem Sd.keepB (x:Sd G n) {G1:HGh} (ok1:Ok G1 n) (nu:G1.num=G.num) (md:G1.made=G.made) (hd:G1.hand=G.hand) (hl:∀ q∈G1.holds,q∈G.holds) (rc:G1.recs=G.recs):Sd (keepB G1) (n + 1):=by
 refine x.of (ok1.keepB.mono (Nat.le_succ n)) nu md (fun t ht=>.inl (.inl (by rw [← hd]; exact ht))) (fun q hq t ht=>.inr ⟨q,hl q hq,ht⟩) (fun q hq=>x.nn q (by rw [← rc]; exact (List.mem_filter.mp hq).1)) fun t ht hk=>?_
 rw [← rc] at hk
 obtain ⟨q,hq,e⟩:=List.mem_map.mp hk
 refine List.mem_map.mpr ⟨q,List.mem_filter.mpr ⟨hq,?_⟩,e⟩
 rw [e]
 unfold heldB
 rcases ht with ht | ⟨r,hr,ht⟩
 ·have ht:t∈G1.hand:=ht
  rw [decide_eq_true ht]; rfl
 ·have:(G1.holds.any fun q=>decide (t∈q.2.2))=true:=List.any_eq_true.mpr ⟨r,hr,by simpa using ht⟩
  rw [this,Bool.or_true]
end
end FX
namespace K16
open PySem L2 FX
theorem Nx {M G:HGh} (x:LikeW M G) (rs:List (T2×Int)):Co M rs=Co G rs:=by
 unfold Co
 congr 1
 exact List.filter_congr fun q _=>by rw [x.heldB]
section
variable {G M:HGh} {n:Nat} {R:List T2} {rs:List (T2×Int)}
theorem V7 (x:LikeW M G) (w:Str) (ta tb:T2):(Az M w ta tb).1=(Az G w ta tb).1∧LikeW (Az M w ta tb).2 (Az G w ta tb).2:=by
 have eH:M.hand=G.hand:=x.hand
 have eN:M.num=G.num:=x.num
 have eG:getH M.holds ta=getH G.holds ta:=Like.getH x ta
 have eS:∀ l,hs0 (Fu M.holds ta l)=hs0 (Fu G.holds ta l):=fun l=>by rw [Qt,Qt,show hs0 M.holds=hs0 G.holds from x.holds]
 unfold Az
 rw [eH,eN,eG]
 by_cases c1:ta∉G.hand∨(w="hold"∧tb∉G.hand)
 ·rw [if_pos c1,if_pos c1]; exact ⟨rfl,x⟩
 rw [if_neg c1,if_neg c1]
 by_cases c2:ta.1≠G.num
 ·rw [if_pos c2,if_pos c2]; exact ⟨rfl,x⟩
 rw [if_neg c2,if_neg c2]
 by_cases c3:w≠"hold"∧tb∉getH G.holds ta
 ·rw [if_pos c3,if_pos c3]; exact ⟨rfl,x⟩
 rw [if_neg c3,if_neg c3]
 refine ⟨rfl,?_⟩
 by_cases c4:w="hold"
 ·rw [if_pos c4,if_pos c4]; exact lw rfl x.made rfl x.outs x.recs (eS _)
 rw [if_neg c4,if_neg c4]
 by_cases c5:w="drop"
 ·rw [if_pos c5,if_pos c5]; exact lw rfl x.made rfl x.outs x.recs (eS _)
 ·rw [if_neg c5,if_neg c5]; exact lw rfl x.made rfl x.outs x.recs x.holds
theorem Vo (x:LikeW M G) (tb:T2) (v:Int):(A2 M tb v).1=(A2 G tb v).1∧(A2 M tb v).2.1=(A2 G tb v).2.1∧LikeW (A2 M tb v).2.2 (A2 G tb v).2.2:=by
 obtain ⟨h1,h2,h3⟩:=x.part tb v
 refine ⟨h1,h2,?_⟩
 unfold tk3 at h3
 by_cases c:(A2 G tb v).1="told"
 ·rw [if_pos c] at h3; exact lw h3.num h3.made h3.hand h3.outs h3.recs h3.holds
 ·rw [if_neg c] at h3; exact h3
theorem Pe (x:LikeW M G) (tb:T2) (v:Int):LikeW (B0 M tb v) (B0 G tb v):=by
 have eO:M.outs=G.outs:=x.outs
 have eN:M.num=G.num:=x.num
 have eR:M.recs=G.recs:=x.recs
 unfold B0
 rw [eO,eN,eR]
 by_cases c1:tb.1=G.num
 ·rw [if_pos c1,if_pos c1]
  by_cases c2:tb∈G.outs.map (·.1)
  ·rw [if_pos c2,if_pos c2]; exact lw rfl x.made x.hand rfl rfl x.holds
  ·rw [if_neg c2,if_neg c2]; exact x
 ·rw [if_neg c1,if_neg c1]; exact lw rfl x.made x.hand rfl rfl x.holds
theorem Qw (x:LikeW M G) (d:Df):(Bl M R rs d).1=(Bl G R rs d).1∧(Bl M R rs d).2.1=(Bl G R rs d).2.1∧LikeW (Bl M R rs d).2.2 (Bl G R rs d).2.2:=by
 cases d with
 | three w ta tb =>
   by_cases c1:w="clean"
   ·rw [c1,Dh,Dh]
    exact ⟨rfl,by rw [Nx (x.keepR R)],(x.keepR R).keepB⟩
   by_cases c2:w="free"
   ·rw [c2,D2,D2]
    have eH:M.hand=G.hand:=x.hand
    unfold Cj
    rw [eH]
    by_cases c:ta∉G.hand
    ·rw [if_pos c,if_pos c]; exact ⟨rfl,rfl,x⟩
    ·rw [if_neg c,if_neg c]; exact ⟨rfl,rfl,lw x.num x.made rfl x.outs x.recs x.holds⟩
   ·rw [Ed M R rs ta tb c1 c2,Ed G R rs ta tb c1 c2]
    obtain ⟨h1,h2⟩:=V7 x w ta tb
    exact ⟨h1,rfl,h2⟩
 | wt w tb v =>
   by_cases c1:w="part"
   ·rw [c1,D1,D1]
    obtain ⟨h1,h2,h3⟩:=Vo x tb v
    exact ⟨h1,by rw [h2],h3⟩
   by_cases c2:w="came"
   ·rw [c2,D3,D3]
    refine ⟨rfl,rfl,Pe (M:={ M with hand:=Bf M.hand tb }) (G:={ G with hand:=Bf G.hand tb }) (lw x.num x.made ?_ x.outs x.recs x.holds) tb v⟩
    show Bf M.hand tb=Bf G.hand tb
    rw [show M.hand=G.hand from x.hand]
   ·rw [Ec M R rs tb v c1 c2,Ec G R rs tb v c1 c2]
    exact ⟨rfl,rfl,Pe x tb v⟩
 | pass tb sh mine =>
   refine ⟨rfl,rfl,lw x.num x.made ?_ ?_ x.recs x.holds⟩
   ·show psH M tb mine=psH G tb mine; unfold psH; rw [show M.hand=G.hand from x.hand]
   ·show psO M tb sh mine=psO G tb sh mine; unfold psO; rw [show M.outs=G.outs from x.outs]
 | lt ts=>exact ⟨rfl,by show Vl.bk _=Vl.bk _; rw [Nx (x.dropTs ts)],(x.dropTs ts).keepB⟩
theorem V8 (G:HGh) (w:Str) (ta tb:T2):Am (Az G w ta tb).2=Am G∧(Az G w ta tb).2.ticks=G.ticks∧(Az G w ta tb).2.num=G.num∧(Az G w ta tb).2.made=G.made∧(Az G w ta tb).2.recs=G.recs:=by
 have eS:∀ l,Am { G with holds:=Fu G.holds ta l }=Am G:=fun l=>by unfold Am; rw [W9]
 unfold Az
 by_cases c1:ta∉G.hand∨(w="hold"∧tb∉G.hand)
 ·rw [if_pos c1]; exact ⟨rfl,rfl,rfl,rfl,rfl⟩
 rw [if_neg c1]
 by_cases c2:ta.1≠G.num
 ·rw [if_pos c2]; exact ⟨rfl,rfl,rfl,rfl,rfl⟩
 rw [if_neg c2]
 by_cases c3:w≠"hold"∧tb∉getH G.holds ta
 ·rw [if_pos c3]; exact ⟨rfl,rfl,rfl,rfl,rfl⟩
 rw [if_neg c3]
 by_cases c4:w="hold"
 ·rw [if_pos c4]; exact ⟨eS _,rfl,rfl,rfl,rfl⟩
 rw [if_neg c4]
 by_cases c5:w="drop"
 ·rw [if_pos c5]; exact ⟨eS _,rfl,rfl,rfl,rfl⟩
 ·rw [if_neg c5]; exact ⟨rfl,rfl,rfl,rfl,rfl⟩
theorem Jo (G:HGh) (d:Df):(∀ b∈Am (Bl G R rs d).2.2,b∈Am G)∧(Bl G R rs d).2.2.ticks=G.ticks:=by
 cases d with
 | three w ta tb =>
   by_cases c1:w="clean"
   ·rw [c1,Dh]
    exact ⟨fun b hb=>List.Sublist.subset (F3 (G:={ G with outs:=(keepR G R).outs }) List.filter_sublist) hb,rfl⟩
   by_cases c2:w="free"
   ·rw [c2,D2]
    unfold Cj
    by_cases c:ta∉G.hand
    ·rw [if_pos c]; exact ⟨fun b hb=>hb,rfl⟩
    ·rw [if_neg c]; exact ⟨fun b hb=>hb,rfl⟩
   ·rw [Ed G R rs ta tb c1 c2]
    obtain ⟨h1,h2,_⟩:=V8 G w ta tb
    exact ⟨fun b hb=>by rw [← h1]; exact hb,h2⟩
 | wt w tb v =>
   have ec:∀ (G:HGh),Am (B0 G tb v)=Am G∧(B0 G tb v).ticks=G.ticks:=fun G=>by
    unfold B0
    by_cases c1:tb.1=G.num
    ·rw [if_pos c1]
     by_cases c2:tb∈G.outs.map (·.1)
     ·rw [if_pos c2]; exact ⟨rfl,rfl⟩
     ·rw [if_neg c2]; exact ⟨rfl,rfl⟩
    ·rw [if_neg c1]; exact ⟨rfl,rfl⟩
   by_cases c1:w="part"
   ·rw [c1,D1]
    refine ⟨fun b hb=>?_,?_⟩
    ·have e:=R3 G tb v
     rw [← e]; exact hb
    ·show (A2 G tb v).2.2.ticks=G.ticks
     unfold A2
     by_cases c1:tb∉G.hand
     ·rw [if_pos c1]
     rw [if_neg c1]
     by_cases c2:tb.1=G.num
     ·rw [if_pos c2]
     rw [if_neg c2]
     by_cases c3:Ao G.recs tb=0
     ·rw [if_pos c3]
     ·rw [if_neg c3]
   by_cases c2:w="came"
   ·rw [c2,D3]
    obtain ⟨h1,h2⟩:=ec { G with hand:=Bf G.hand tb }
    exact ⟨fun b hb=>by have hb:b∈Am (B0 { G with hand:=Bf G.hand tb } tb v):=hb; rw [h1] at hb; exact hb,h2⟩
   ·rw [Ec G R rs tb v c1 c2]
    obtain ⟨h1,h2⟩:=ec G
    exact ⟨fun b hb=>by have hb:b∈Am (B0 G tb v):=hb; rw [h1] at hb; exact hb,h2⟩
 | pass tb sh mine=>exact ⟨fun b hb=>hb,rfl⟩
 | lt ts=>exact ⟨fun b hb=>ModelAt.foot_dropTs ts hb,rfl⟩
def DIn (G:HGh):Df→Prop
 | .wt w tb v=>(w="came"→InP G.num tb∧(tb.1≠G.num→0≤v))∧(w="added"→0≤v)
 | .pass tb _ _=>InP G.num tb
 | _=>True
theorem Jbt (x:Sd G n) (hR:Ok (keepR G R) n) (d:Df) (dok:DOk G n d) (din:DIn G d) (hw:match d with | .three w _ _=>w="clean"∨w="free"∨w="hold"∨w="drop"∨w="take" | .wt w _ _=>Jcq w | _=>True):Sd (Bl G R rs d).2.2 (n + 1):=by
 cases d with
 | three w ta tb =>
   have up:Sd G (n + 1):=x.of (x.ok.mono (Nat.le_succ n)) rfl rfl (fun t ht=>.inl (.inl ht)) (fun q hq t ht=>.inr ⟨q,hq,ht⟩) x.nn fun t _ h=>h
   by_cases c1:w="clean"
   ·rw [c1,Dh]
    exact x.keepB hR rfl rfl rfl (fun q hq=>(List.mem_filter.mp hq).1) rfl
   by_cases c2:w="free"
   ·rw [c2,D2]
    have okF:=Y0 x.ok ta
    unfold Cj at okF ⊢
    by_cases c:ta∉G.hand
    ·rw [if_pos c]; exact up
    ·rw [if_neg c] at okF ⊢
     exact x.of (okF.mono (Nat.le_succ n)) rfl rfl (fun t ht=>.inl (.inl (mem_delT'.mp ht).1)) (fun q hq t ht=>.inr ⟨q,hq,ht⟩) x.nn fun t _ h=>h
   ·rw [Ed G R rs ta tb c1 c2]
    have okF:=Yz x.ok w ta tb
    show Sd (Az G w ta tb).2 (n + 1)
    unfold Az at okF ⊢
    by_cases d1:ta∉G.hand∨(w="hold"∧tb∉G.hand)
    ·rw [if_pos d1]; exact up
    rw [if_neg d1] at okF ⊢
    by_cases d2:ta.1≠G.num
    ·rw [if_pos d2]; exact up
    rw [if_neg d2] at okF ⊢
    by_cases d3:w≠"hold"∧tb∉getH G.holds ta
    ·rw [if_pos d3]; exact up
    rw [if_neg d3] at okF ⊢
    by_cases d4:w="hold"
    ·rw [if_pos d4] at okF ⊢
     have hb:tb∈G.hand:=Classical.byContradiction fun z=>d1 (.inr ⟨d4,z⟩)
     refine x.of okF rfl rfl (fun t ht=>.inl (.inl ht)) (fun q hq t ht=>?_) x.nn fun t _ h=>h
     rcases J7 hq with ⟨_,e⟩ | hq
     ·rw [e] at ht
      rcases mem_addT'.mp ht with ht | ht
      ·exact Qd ht
      ·rw [ht]; exact .inl hb
     ·exact .inr ⟨q,hq,ht⟩
    rw [if_neg d4] at okF ⊢
    by_cases d5:w="drop"
    ·rw [if_pos d5] at okF ⊢
     refine x.of okF rfl rfl (fun t ht=>.inl (.inl ht)) (fun q hq t ht=>?_) x.nn fun t _ h=>h
     rcases J7 hq with ⟨_,e⟩ | hq
     ·rw [e] at ht
      exact Qd (mem_delT'.mp ht).1
     ·exact .inr ⟨q,hq,ht⟩
    ·rw [if_neg d5] at okF ⊢
     have hb:tb∈getH G.holds ta:=Classical.byContradiction fun z=>d3 ⟨d4,z⟩
     refine x.of okF rfl rfl (fun t ht=>.inl ?_) (fun q hq t ht=>.inr ⟨q,hq,ht⟩) x.nn fun t _ h=>h
     rcases mem_addT'.mp ht with ht | ht
     ·exact .inl ht
     ·rw [ht]; exact Qd hb
 | wt w tb v =>
   have up:Sd G (n + 1):=x.of (x.ok.mono (Nat.le_succ n)) rfl rfl (fun t ht=>.inl (.inl ht)) (fun q hq t ht=>.inr ⟨q,hq,ht⟩) x.nn fun t _ h=>h
   rcases hw with rfl | rfl | rfl | rfl
   ·rw [D1]
    obtain ⟨okF,wkF,_,_⟩:=Yy x.ok x.wk tb v
    show Sd (A2 G tb v).2.2 (n + 1)
    unfold tk3 A2 at okF wkF
    unfold A2
    by_cases c1:tb∉G.hand
    ·rw [if_pos c1]; exact up
    rw [if_neg c1] at okF wkF ⊢
    by_cases c2:tb.1=G.num
    ·rw [if_pos c2] at okF wkF ⊢
     rw [if_pos rfl] at okF
     have okF:Ok { G with outs:=Bc G.outs tb (Ao G.outs tb + v) } n:=⟨okF.hn,okF.hz,okF.on,okF.oz,okF.ke,okF.rn,okF.rz,okF.ln,okF.new,okF.hk,okF.lk,okF.rk⟩
     exact x.of (okF.mono (Nat.le_succ n)) rfl rfl (fun t ht=>.inl (.inl ht)) (fun q hq t ht=>.inr ⟨q,hq,ht⟩) x.nn fun t _ h=>h
    rw [if_neg c2] at okF wkF ⊢
    by_cases c3:Ao G.recs tb=0
    ·rw [if_pos c3]; exact up
    ·rw [if_neg c3] at okF wkF ⊢
     rw [if_pos rfl] at okF wkF
     have okF:Ok { G with recs:=Bc G.recs tb (Ao G.recs tb - D8 (Ao G.recs tb)) } n:=⟨okF.hn,okF.hz,okF.on,okF.oz,okF.ke,okF.rn,okF.rz,okF.ln,okF.new,okF.hk,okF.lk,okF.rk⟩
     exact x.of (okF.mono (Nat.le_succ n)) rfl rfl (fun t ht=>.inl (.inl ht)) (fun q hq t ht=>.inr ⟨q,hq,ht⟩) wkF.nn fun t _ h=>(Jr _ _ _).2 t h
   ·rw [D3]
    show Sd (De G tb v) (n + 1)
    by_cases c1:tb.1=G.num
    ·have hin:=dok.1 rfl c1
     have e1:De G tb v={ G with hand:=Bf G.hand tb,outs:=Bc G.outs tb (Ao G.outs tb - v) }:=by unfold De B0; rw [if_pos c1,if_pos hin]
     rw [e1]
     refine x.of (FX.Ok.outs (G:={ G with hand:=Bf G.hand tb }) (Ok.addIn x.ok fun _=>hin) hin _) rfl rfl (fun t ht=>?_) (fun q hq t ht=>.inr ⟨q,hq,ht⟩) x.nn fun t _ h=>h
     rcases mem_addT'.mp ht with ht | ht
     ·exact .inl (.inl ht)
     ·rw [ht]; exact .inr ⟨(din.1 rfl).1,fun e=>absurd c1 e⟩
    ·have e1:De G tb v={ G with hand:=Bf G.hand tb,recs:=Bc G.recs tb (Ao G.recs tb + v) }:=by unfold De B0; rw [if_neg c1]
     rw [e1]
     refine x.of (x.ok.came c1 _) rfl rfl (fun t ht=>?_) (fun q hq t ht=>.inr ⟨q,hq,ht⟩) (fun q hq=>?_) fun t _ h=>(Jr _ _ _).2 t h
     ·rcases mem_addT'.mp ht with ht | ht
      ·exact .inl (.inl ht)
      ·rw [ht]; exact .inr ⟨(din.1 rfl).1,fun _=>(Jr _ _ _).1⟩
     ·rcases Kq hq with e | hq
      ·rw [e]
       show 0≤Ao G.recs tb + v
       have h1:0≤Ao G.recs tb:=by
        by_cases c:tb∈G.recs.map (·.1)
        ·exact x.wk.get c
        ·rw [Ll c]; decide
       have h2:=(din.1 rfl).2 c1
       lia
      ·exact x.nn q hq
   ·have c1:=dok.2.1 rfl
    rw [Ec G R rs tb v (by decide +kernel) (by decide +kernel)]
    show Sd (B0 G tb v) (n + 1)
    have e1:B0 G tb v={ G with recs:=Bc G.recs tb (Ao G.recs tb + v) }:=by unfold B0; rw [if_neg c1]
    rw [e1]
    have okc:=(x.ok.came c1 (Ao G.recs tb + v)).hand (l:=G.hand) x.ok.hn (Nat.le_succ_of_le x.ok.hz) x.ok.hk
    refine x.of okc rfl rfl (fun t ht=>.inl (.inl ht)) (fun q hq t ht=>.inr ⟨q,hq,ht⟩) (fun q hq=>?_) fun t _ h=>(Jr _ _ _).2 t h
    rcases Kq hq with e | hq
    ·rw [e]
     show 0≤Ao G.recs tb + v
     have h1:0≤Ao G.recs tb:=by
      by_cases c:tb∈G.recs.map (·.1)
      ·exact x.wk.get c
      ·rw [Ll c]; decide
     have h2:=din.2 rfl
     lia
    ·exact x.nn q hq
   ·have c1:=dok.2.2 rfl
    rw [Ec G R rs tb v (by decide +kernel) (by decide +kernel)]
    show Sd (B0 G tb v) (n + 1)
    unfold B0
    rw [if_pos c1]
    by_cases c2:tb∈G.outs.map (·.1)
    ·rw [if_pos c2]
     exact x.of ((x.ok.outs c2 _).mono (Nat.le_succ n)) rfl rfl (fun t ht=>.inl (.inl ht)) (fun q hq t ht=>.inr ⟨q,hq,ht⟩) x.nn fun t _ h=>h
    ·rw [if_neg c2]; exact up
 | pass tb sh mine =>
   have hin:tb∈G.outs.map (·.1):=dok
   have okh:Ok { G with hand:=psH G tb mine } (n + 1):=by
    cases mine
    ·exact x.ok.mono (Nat.le_succ n)
    ·exact Ok.addIn x.ok fun _=>hin
   refine x.of (FX.Ok.outs (G:={ G with hand:=psH G tb mine }) okh hin _) rfl rfl (fun t ht=>?_) (fun q hq t ht=>.inr ⟨q,hq,ht⟩) x.nn fun t _ h=>h
   have ht:t∈psH G tb mine:=ht
   unfold psH at ht
   cases mine
   ·exact .inl (.inl ht)
   ·rcases mem_addT'.mp ht with ht | ht
    ·exact .inl (.inl ht)
    ·rw [ht]; exact .inr ⟨din,fun e=>absurd (x.ok.new tb hin).1 e⟩
 | lt ts=>exact x.keepB dok rfl rfl rfl (fun q hq=>(List.mem_filter.mp hq).1) rfl
end
end K16
namespace FX
open PySem PySem.Spec PyProof.Rows L2
section
variable {X:Cx}
def Jds (K:W.Frag):R2:=fun x y H Q=>∃ a b xs ys,x=.ref a∧y=.ref b∧SqT K H a xs∧SqT K H b ys∧ys≠[]∧xs.length + ys.length≤sizeLine ∧
 (xs=[]→Q (.ref b) H)∧(xs≠[]→∀ p,H p=none→Q (.ref p) (upd H p (.tup (xs++ys))))
theorem Zv:OpR X (binaryOp .Add) (Jds X.K):=by
 intro pins s σ H x y v u Q I rx ry h
 obtain ⟨a,b,xs,ys,rfl,rfl,ha,hb,hy,hz,q1,q2⟩:=h
 cases rx
 cases ry
 obtain ⟨its,r1,p1,_⟩:=I.tuple ha
 obtain ⟨its2,r2,p2,_⟩:=I.tuple hb
 have l1:=r1.length
 have l2:=r2.length
 by_cases hv:its=[]
 ·obtain ⟨⟨cls,dd,data,sl⟩,ho,hc,n,hd⟩:=id p1
  obtain ⟨⟨cls2,dd2,data2,sl2⟩,ho2,hc2,n2,hd2⟩:=id p2
  simp only at hc hd hc2 hd2
  subst hc hd hc2 hd2
  exact concat_meets ⟨_,ho,rfl⟩ ⟨_,ho2,rfl⟩ noFill_tuple_add seq_tuple_add PySem.F.slot_tuple_add PySem.F.entry_tuple_add (PySem.F.args_tuple_add_2 _ _)
   (tuple_addW0 a b its.toArray its2.toArray n n2 dd dd2 sl sl2 (by simp [hv])) ⟨ho,ho2,⟨.ref b,H,I,rfl,q1 (r1.nil_iff.mp hv)⟩⟩
 ·refine HT.cat_tup p1 p2 hv (fun z=>absurd (r2.nil_iff.mp z) hy) (fun _=>?_) (by omega)
  refine ⟨.ref s.heap.objs.size,_,I.laid (t':=s.toks) (o:=.tup (xs++ys)) (fun b ob q=>Heap.get?_push_of_some _ q) (Nat.le_refl _) ?_,rfl,q2 (fun w=>hv (r1.nil_iff.mpr w)) _ (I.hok.fresh (Nat.le_refl _))⟩
  exact ⟨by rw [List.length_append]; exact hz,_,r1.append r2,IsTup.new _ _⟩
end
theorem Jcs (t u:T2):PyData.eqv (thD t) (thD u)=decide (t=u):=by
 unfold thD
 obtain ⟨a,b⟩:=t
 obtain ⟨c,d⟩:=u
 by_cases h1:a=c <;> by_cases h2:b=d <;> simp [PyData.eqv,PyData.eqvAll,h1,h2]
section
variable {G M:HGh} {n:Nat}
theorem Sd.like (x:Sd G n) (l:LikeW M G):Sd M n:=by
 have eH:M.hand=G.hand:=l.hand
 have eR:M.recs=G.recs:=l.recs
 have eN:M.num=G.num:=l.num
 have eM:M.made=G.made:=l.made
 have hd:∀ t,Hd2 M t→Hd2 G t:=fun t ht=>by
  rcases ht with ht | ⟨q,hq,ht⟩
  ·exact .inl (by rw [← eH]; exact ht)
  ·have:(q.1,q.2.2)∈hs0 M.holds:=List.mem_map_of_mem (f:=fun q:T2×Addr×List T2=>(q.1,q.2.2)) hq
   rw [show hs0 M.holds=hs0 G.holds from l.holds] at this
   obtain ⟨r,hr,e⟩:=List.mem_map.mp this
   have e2:r.2.2=q.2.2:=(Prod.mk.inj e).2
   exact .inr ⟨r,hr,by rw [e2]; exact ht⟩
 exact ⟨l.ok x.ok,by rw [eR]; exact x.nn,fun t ht=>by rw [eN]; exact x.ip t (hd t ht),fun t ht e=>by rw [eR]; exact x.rk t (hd t ht) (by rw [← eN]; exact e),by rw [eN]; exact x.n0,by rw [eN]; exact x.n1,by rw [eM]; exact x.m0,by rw [eM]; exact x.m1⟩
def On (G:HGh):Prop:=∀ q∈G.outs,0≤q.2
theorem On.get (x:On G) (t:T2):0≤Ao G.outs t:=by
 by_cases c:t∈G.outs.map (·.1)
 ·exact x (t,Ao G.outs t) (List.mem_of_find?_eq_some (Ci c))
 ·rw [Ll c]; decide
theorem On.put (x:On G) (t:T2) {v:Int} (h:0≤v):∀ q∈Bc G.outs t v,0≤q.2:=fun q hq=>by
 rcases Kq hq with e | hq
 ·rw [e]; exact h
 ·exact x q hq
theorem Rch.ofN (ok:Ok G n) (hn:n≤60) (ts:List T2) (hz:ts.length≤200):∃ m R,m≤5000∧Rch (nxT G.holds) m (ts.filter fun t=>decide (t∈G.holds.map (·.1))) [] R:=by
 have l1:(G.holds.map (·.1)).length≤60:=by rw [ok.ke,List.length_map]; have:=ok.oz; lia
 have l2:(ts.filter fun t=>decide (t∈G.holds.map (·.1))).length≤200:=Nat.le_trans (List.length_filter_le _ _) hz
 have l3:((G.holds.map (·.1)).filter fun t=>decide (t∉([]:List T2))).length≤60:=Nat.le_trans (List.length_filter_le _ _) l1
 obtain ⟨m,R,h1,h2⟩:=Rch.ex (nx:=nxT G.holds) (keys:=G.holds.map (·.1)) (B:=60) (Jcd G.holds) (fun t=>Nat.le_trans (List.length_filter_le _ _) (Nat.le_trans (ok.get t).2.1 hn)) 5000 (ts.filter fun t=>decide (t∈G.holds.map (·.1))) [] (fun t ht=>by have:=(List.mem_filter.mp ht).2; simpa using this) (by
  have:((G.holds.map (·.1)).filter fun t=>decide (t∉([]:List T2))).length * (60 + 1)≤60 * (60 + 1):=Nat.mul_le_mul_right _ l3
  lia)
 exact ⟨m,R,h1,h2⟩
theorem Jck (x:Sd M n) (hn:n≤60) {m:Nat} {R ts us:List T2} (rc:Rch (nxT M.holds) m (us.filter fun t=>decide (t∈M.holds.map (·.1))) [] R) (hu:∀ t∈M.hand,t∈us) {u:T2} (ht:∀ t,t∈ts↔(t∈M.holds.map (·.1)∧t∉R)∨t=u) (h60:60≤u.2):Ok (dropTs M ts) n:=by
 have cl:=rc.closed (fun t ht=>by cases ht)
 have out:∀ t,t∈M.outs.map (·.1)→t∈R→t∉ts:=fun t hk hR z=>by
  rcases (ht t).mp z with z | z
  ·exact z.2 hR
  ·have h1:=(x.ok.new t hk).2
   have h2:=x.m1
   rw [z] at h1
   lia
 refine x.ok.dropTs (fun t h=>?_) fun q hq h1 t h2 e=>?_
 ·by_cases e:t.1=M.num
  ·have hk:=x.ok.hk t h e
   exact .inl (out t hk (rc.sub.2 t (List.mem_filter.mpr ⟨hu t h,by rw [x.ok.ke]; simpa using hk⟩)))
  ·exact .inr e
 ·have hk:=x.ok.lk q hq t h2 e
  have hqR:q.1∈R:=Classical.byContradiction fun z=>h1 ((ht q.1).mpr (.inl ⟨List.mem_map_of_mem hq,z⟩))
  exact out t hk (cl q.1 hqR t (Yg x.ok hq h2 (by rw [x.ok.ke]; exact hk)))
end
end FX
namespace K16
open PySem L2 FX
def Ja1 (G:HGh):Df→Prop
 | .wt w tb v=>(w="part"→0≤v)∧(w="came"∨w="given"→tb∈G.outs.map (·.1)→v≤Ao G.outs tb)
 | .pass tb sh _=>1≤Ao G.outs tb∧2≤sh
 | _=>True
theorem Jbu {G:HGh} {R:List T2} {rs:List (T2×Int)} (x:On G) (d:Df) {n:Nat} (dok:DOk G n d) (dout:Ja1 G d) (hw:match d with | .wt w _ _=>Jcq w | _=>True):On (Bl G R rs d).2.2:=by
 cases d with
 | three w ta tb =>
   by_cases c1:w="clean"
   ·rw [c1,Dh]; exact fun q hq=>x q (List.mem_filter.mp hq).1
   by_cases c2:w="free"
   ·rw [c2,D2]
    unfold Cj
    by_cases c:ta∉G.hand
    ·rw [if_pos c]; exact x
    ·rw [if_neg c]; exact x
   ·rw [Ed G R rs ta tb c1 c2]
    show On (Az G w ta tb).2
    unfold Az
    by_cases d1:ta∉G.hand∨(w="hold"∧tb∉G.hand)
    ·rw [if_pos d1]; exact x
    rw [if_neg d1]
    by_cases d2:ta.1≠G.num
    ·rw [if_pos d2]; exact x
    rw [if_neg d2]
    by_cases d3:w≠"hold"∧tb∉getH G.holds ta
    ·rw [if_pos d3]; exact x
    rw [if_neg d3]
    by_cases d4:w="hold"
    ·rw [if_pos d4]; exact x
    rw [if_neg d4]
    by_cases d5:w="drop"
    ·rw [if_pos d5]; exact x
    ·rw [if_neg d5]; exact x
 | wt w tb v =>
   have came:∀ G':HGh,G'.outs=G.outs→G'.num=G.num→(tb∈G.outs.map (·.1)→v≤Ao G.outs tb)→On (B0 G' tb v):=fun G' eo en h=>by
    unfold B0
    by_cases c1:tb.1=G'.num
    ·rw [if_pos c1]
     by_cases c2:tb∈G'.outs.map (·.1)
     ·rw [if_pos c2]
      show ∀ q∈Bc G'.outs tb (Ao G'.outs tb - v),0≤q.2
      rw [eo] at c2 ⊢
      exact x.put tb (by have:=h c2; lia)
     ·rw [if_neg c2]; show ∀ q∈G'.outs,0≤q.2; rw [eo]; exact x
    ·rw [if_neg c1]; show ∀ q∈G'.outs,0≤q.2; rw [eo]; exact x
   rcases hw with rfl | rfl | rfl | rfl
   ·rw [D1]
    show On (A2 G tb v).2.2
    unfold A2
    by_cases c1:tb∉G.hand
    ·rw [if_pos c1]; exact x
    rw [if_neg c1]
    by_cases c2:tb.1=G.num
    ·rw [if_pos c2]; exact x.put tb (by have:=x.get tb; have:=dout.1 rfl; lia)
    rw [if_neg c2]
    by_cases c3:Ao G.recs tb=0
    ·rw [if_pos c3]; exact x
    ·rw [if_neg c3]; exact x
   ·rw [D3]
    exact came { G with hand:=Bf G.hand tb } rfl rfl (dout.2 (.inl rfl))
   ·rw [Ec G R rs tb v (by decide +kernel) (by decide +kernel)]
    show On (B0 G tb v)
    unfold B0
    by_cases c1:tb.1=G.num
    ·exact absurd c1 (dok.2.1 rfl)
    ·rw [if_neg c1]; exact x
   ·rw [Ec G R rs tb v (by decide +kernel) (by decide +kernel)]
    exact came G rfl rfl (dout.2 (.inr rfl))
 | pass tb sh mine =>
   show ∀ q∈psO G tb sh mine,0≤q.2
   unfold psO
   refine x.put tb ?_
   have:=x.get tb
   have:=dout.2
   cases mine
   ·show 0≤Ao G.outs tb + (2 * sh - 1); lia
   ·show 0≤Ao G.outs tb + (sh - 1); lia
 | lt ts=>exact fun q hq=>x q (List.mem_filter.mp hq).1
section
variable {P:Program} {w:World} {K:W.Frag} {mg:Str→Option Value} {base:Heap} {C NHd NNr MI NW HE:Addr}
def DGood (M:HGh) (n:Nat) (d:Df):Prop:=DOk M n d∧DIn M d∧Ja1 M d
def Tz:Sp:=fun vs H Q _=>∃ (m b:Addr) (v sh:Int) (M:HGh) (n:Nat) (tb:T2),vs=[.ref m,.int v,.ref b,.int sh]∧ModelAt H m M∧On M∧H b=some (.tup (tv tb))∧tb.1=M.num∧2≤sh∧(tb∈M.outs.map (·.1)→InP M.num tb)∧(∀ t∈M.outs.map (·.1),t.2 < 1000) ∧
 ∀ (x:Addr) (d:Df) (H':Hp),B1 H H'→DeedAt H' x d→DGood M n d→Q (.ref x) H'
theorem scND:Ay ["_law_model_here","_law_cell_here","_law_b","_law_share","_law_out"] ["_law_model_here","_law_cell_here","_law_b","_law_share"] (Af Gj):={}
theorem Sw {o:Int} (h:0 < o):0 < (if (10:Int) ^ (59:Int).toNat < o then (10:Int) ^ (59:Int).toNat else o):=by
 by_cases c:(10:Int) ^ (59:Int).toNat < o
 ·rw [if_pos c]; decide
 ·rw [if_neg c]; exact h
theorem Jbb (o x:Int) (h:0 < o):1 + x % (if (10:Int) ^ (59:Int).toNat < o then (10:Int) ^ (59:Int).toNat else o)≤o:=by
 have h1:=Int.emod_lt_of_pos x (Sw h)
 by_cases c:(10:Int) ^ (59:Int).toNat < o
 ·rw [if_pos c] at h1 ⊢; lia
 ·rw [if_neg c] at h1 ⊢; lia
theorem Xz {f:Addr} {fd:FuncData} (F:Fun K "_law_near_deed" "_law_near_deed" Gj f fd) (Tx:He mg):FnOk P w K mg base CX0 1 f fd ["_law_model_here","_law_cell_here","_law_b","_law_share"] Tz:=by
 refine F.ok scND (fun vs H Q E h=>?_) (fun cdv A outer s H vs Q E hr h=>?_)
 ·obtain ⟨m,b,v,sh,M,n,tb,rfl,_⟩:=h
  rfl
 ·obtain ⟨m,b,v,sh,M,n,tb,rfl,S,on,hb,nu,hsh,ip,sm,k⟩:=h
  have hu:=Bv hr
  have two:(2:Nat)≤sizeLine:=by decide
  have three:(3:Nat)≤sizeLine:=by decide
  have four:(4:Nat)≤sizeLine:=by decide
  refine ⟨_,Ad (A3 (i:=4) scND.nd rfl (Or.inl rfl) (Mn hu (Al hu (pv 0) Ak) (pv 2) Ai ⟨rfl,rfl,rfl,rfl⟩))
   (Ad (A5 (Ap By (pv 4) Ai (A4 _)) (Ah (Au (A6 (Aa Ak (Aa (A6 (Aa (Bm Bg (pv 2) Ai) (Aa (Aw Hq Ai Ai) Ag))) (Aa (Aw Ce Ai (Aw B7 (Aw C0 (pv 1) Ai) (Aw Hq Ai Ai))) Ag)))))) Aq)
   (Ad (A5 (Ap By (Aw B7 (pv 1) Ai) Ai (A4 _)) (Ah (Au (A6 (Aa Ak (Aa (pv 2) (Aa (Aw Ce Ai (Aw B7 (Aw C0 (pv 1) Ai) (Bj (Pf rfl) (by rfl) Tx.min PyProof.Rows.boot_min (Aa (pv 4) (Aa (Aw Hq Ai Ai) Ag))))) Ag)))))) Aq)
   (Ad (A5 (Ap By (Aw B7 (pv 1) Ai) Ai (A4 _)) (Ah (Au (A6 (Aa Ak (Aa (pv 2) (Aa (Aw Ce Ai (Aw B7 (Aw C0 (pv 1) Ai) (Bj (Pf rfl) (by rfl) Tx.min PyProof.Rows.boot_min (Aa (pv 4) (Aa (Aw Hq Ai Ai) Ag))))) Ag)))))) Aq)
   (Ah (Au (A6 (Aa Ak (Aa (pv 2) (Aa (pv 3) (Aa (Li By (Aw B7 (Aw C0 (pv 1) Ai) Ai) Ai (A4 _)) Ag)))))))))),?_⟩
  have ei:((M.outs.find? fun q=>decide (q.1=tb)).map fun q=>V.int q.2).getD (V.int 0)=V.int (Ao M.outs tb):=by
   unfold Ao
   cases M.outs.find? fun q=>decide (q.1=tb) <;> rfl
  refine ⟨_,rfl,m,_,rfl,S.gOuts,M.o,rfl,.inr ⟨_,.inl S.dO⟩,_,rfl,_,Es S.dO hb,?_⟩
  rw [ei]
  refine ⟨_,rfl,rfl,_,rfl,?_⟩
  have o0:=on.get tb
  by_cases c:Ao M.outs tb=0
  ·rw [show decide (V.int (Ao M.outs tb)=V.int 0)=true by rw [c]; exact Yo _]
   refine Bk ⟨_,rfl,b,_,_,_,rfl,rfl,SqT.of hb,rfl,_,_,rfl,rfl,⟨by decide,by decide,by decide⟩,two,fun g hg=>⟨_,rfl,_,_,rfl,rfl,⟨by decide,by decide⟩,_,_,rfl,rfl,⟨by decide,by decide,by decide⟩,_,_,rfl,rfl,(show (0:Int) < 10 ^ 59 by decide),_,_,rfl,rfl,three,fun x hx=>?_⟩⟩
   have s1:=Ae (o:=.tup [V.int tb.1,V.int (10 ^ (9:Int).toNat)]) hg
   have s2:=Ae (H:=upd H g (.tup [V.int tb.1,V.int (10 ^ (9:Int).toNat)])) (o:=.tup [V.str "given",V.ref g,V.int (1 + v / 3 % 10 ^ (59:Int).toNat)]) hx
   refine k x (.wt "given" (tb.1,10 ^ (9:Int).toNat) (1 + v / 3 % 10 ^ (59:Int).toNat)) _ (Aj s1 s2) ⟨.inr (.inr (.inr rfl)),g,Ab,s2 _ _ Ab⟩ ⟨⟨fun z=>absurd z (by decide +kernel),fun z=>absurd z (by decide +kernel),fun _=>nu⟩,⟨fun z=>absurd z (by decide +kernel),fun z=>absurd z (by decide +kernel)⟩,fun z=>absurd z (by decide +kernel),fun _ z=>?_⟩
   have h9:=sm _ z
   exact absurd (show (10:Int) ^ (9:Int).toNat < 1000 from h9) (by decide)
  ·rw [Jai c]
   have hin:tb∈M.outs.map (·.1):=Classical.byContradiction fun z=>c (Ll z)
   have pos:0 < Ao M.outs tb:=by lia
   refine Be ⟨_,rfl,_,_,rfl,rfl,(show (0:Int) < 3 by decide),rfl,_,rfl,?_⟩
   refine V3 (fun _=>?_) (fun _=>?_)
   ·refine ⟨_,rfl,_,rfl,_,_,rfl,rfl,⟨by decide,by decide⟩,_,rfl,_,_,rfl,rfl,⟨by decide,by decide,by decide⟩,_,_,rfl,_,_,rfl,rfl,Sw pos,_,_,rfl,rfl,three,fun x hx=>?_⟩
    have s1:=Ae (o:=.tup [V.str "given",V.ref b,V.int (1 + v / 3 % (if (10:Int) ^ (59:Int).toNat < Ao M.outs tb then (10:Int) ^ (59:Int).toNat else Ao M.outs tb))]) hx
    exact k x (.wt "given" tb _) _ s1 ⟨.inr (.inr (.inr rfl)),b,Ab,s1 _ _ hb⟩ ⟨⟨fun z=>absurd z (by decide +kernel),fun z=>absurd z (by decide +kernel),fun _=>nu⟩,⟨fun z=>absurd z (by decide +kernel),fun z=>absurd z (by decide +kernel)⟩,fun z=>absurd z (by decide +kernel),fun _ _=>Jbb _ _ pos⟩
   refine ⟨_,rfl,_,_,rfl,rfl,(show (0:Int) < 3 by decide),rfl,_,rfl,?_⟩
   refine V3 (fun _=>?_) (fun _=>?_)
   ·refine ⟨_,rfl,_,rfl,_,_,rfl,rfl,⟨by decide,by decide⟩,_,rfl,_,_,rfl,rfl,⟨by decide,by decide,by decide⟩,_,_,rfl,_,_,rfl,rfl,Sw pos,_,_,rfl,rfl,three,fun x hx=>?_⟩
    have s1:=Ae (o:=.tup [V.str "came",V.ref b,V.int (1 + v / 3 % (if (10:Int) ^ (59:Int).toNat < Ao M.outs tb then (10:Int) ^ (59:Int).toNat else Ao M.outs tb))]) hx
    exact k x (.wt "came" tb _) _ s1 ⟨.inr (.inl rfl),b,Ab,s1 _ _ hb⟩ ⟨⟨fun _ _=>hin,fun z=>absurd z (by decide +kernel),fun z=>absurd z (by decide +kernel)⟩,⟨fun _=>⟨ip hin,fun z=>absurd nu z⟩,fun z=>absurd z (by decide +kernel)⟩,fun z=>absurd z (by decide +kernel),fun _ _=>Jbb _ _ pos⟩
   ·refine ⟨_,rfl,_,rfl,_,rfl,_,_,rfl,rfl,⟨by decide,by decide⟩,_,_,rfl,rfl,(show (0:Int) < 2 by decide),rfl,four,fun x hx=>?_⟩
    have s1:=Ae (o:=.tup [V.str "passed",V.ref b,V.int sh,V.bl (decide (V.int (v / 3 % 2)=V.int 1))]) hx
    exact k x (.pass tb sh _) _ s1 ⟨b,Ab,s1 _ _ hb⟩ ⟨hin,ip hin,by lia,hsh⟩
end
def PoolAt (q:T2→Prop) (H:Hp) (xs:List V):Prop:=∀ x∈xs,∃ (c:Addr) (t:T2),x=.ref c∧H c=some (.tup (tv t))∧q t
theorem PoolAt.keep {q:T2→Prop} {H H':Hp} (k:KeepT H H') {xs:List V} (p:PoolAt q H xs):PoolAt q H' xs:=fun x hx=>let ⟨c,t,e1,e2,e3⟩:=p x hx; ⟨c,t,e1,k.tup _ _ e2,e3⟩
theorem PoolAt.at {q:T2→Prop} {H:Hp} {xs:List V} (p:PoolAt q H xs) {i:Int} (h0:0≤i) (h1:i < xs.length):∃ (c:Addr) (t:T2),atI xs i=some (.ref c)∧H c=some (.tup (tv t))∧q t:=by
 obtain ⟨x,hx⟩:=Bd (xs:=xs) (j:=i.toNat) (by lia)
 obtain ⟨c,t,e1,e2,e3⟩:=p x (List.mem_of_getElem? hx)
 exact ⟨c,t,by rw [← e1]; exact Y4 h0 hx,e2,e3⟩
def wds:List V:=[V.str "make",V.str "hold",V.str "hold",V.str "drop",V.str "take",V.str "free",V.str "part",V.str "part",V.str "far",V.str "added",V.str "near",V.str "near"]
def Jdy (wd:Str):Prop:=Jah wd∨wd="part"∨wd="far"∨wd="added"∨wd="near"∨wd="let"
theorem Y9 (v:Int):∃ wd:Str,Jdy wd∧atI (wds++[V.str "let",V.str "clean"]) (v % 14)=some (.str wd):=by
 have h:v % 14=0∨v % 14=1∨v % 14=2∨v % 14=3∨v % 14=4∨v % 14=5∨v % 14=6∨v % 14=7∨v % 14=8∨v % 14=9∨v % 14=10∨v % 14=11∨v % 14=12∨v % 14=13:=by lia
 rcases h with h | h | h | h | h | h | h | h | h | h | h | h | h | h <;> rw [h]
 ·exact ⟨"make",.inl (.inl rfl),rfl⟩
 ·exact ⟨"hold",.inl (.inr (.inl rfl)),rfl⟩
 ·exact ⟨"hold",.inl (.inr (.inl rfl)),rfl⟩
 ·exact ⟨"drop",.inl (.inr (.inr (.inl rfl))),rfl⟩
 ·exact ⟨"take",.inl (.inr (.inr (.inr (.inl rfl)))),rfl⟩
 ·exact ⟨"free",.inl (.inr (.inr (.inr (.inr (.inl rfl))))),rfl⟩
 ·exact ⟨"part",.inr (.inl rfl),rfl⟩
 ·exact ⟨"part",.inr (.inl rfl),rfl⟩
 ·exact ⟨"far",.inr (.inr (.inl rfl)),rfl⟩
 ·exact ⟨"added",.inr (.inr (.inr (.inl rfl))),rfl⟩
 ·exact ⟨"near",.inr (.inr (.inr (.inr (.inl rfl)))),rfl⟩
 ·exact ⟨"near",.inr (.inr (.inr (.inr (.inl rfl)))),rfl⟩
 ·exact ⟨"let",.inr (.inr (.inr (.inr (.inr rfl)))),rfl⟩
 ·exact ⟨"clean",.inl (.inr (.inr (.inr (.inr (.inr rfl))))),rfl⟩
def FarT (n:Int) (t:T2):Prop:=t=((n + 1) % 12,0)∨t=((n + 1) % 12,1)∨t=((n + 2) % 12,0)∨t=((n + 2) % 12,100000000000000000000)
theorem FarT.inP {n:Int} {t:T2} (h0:0≤n) (h1:n < 12) (x:FarT n t):InP n t∧t.1≠n:=by
 refine ⟨⟨h0,h1,.inr x⟩,?_⟩
 rcases x with rfl | rfl | rfl | rfl
 ·show (n + 1) % 12≠n; lia
 ·show (n + 1) % 12≠n; lia
 ·show (n + 2) % 12≠n; lia
 ·show (n + 2) % 12≠n; lia
theorem Jb7 {X:Cx} {v:Str} {j p} {es:List Expr} {t:TA} (hr:PA X es t):PA X (.Constant (.str v) j p :: es) (C3 (tC (.str v)) t):=Aa Ak hr rfl
section
variable {P:Program} {w:World} {K:W.Frag} {mg:Str→Option Value} {base:Heap} {C NHd NNr MI NW HE:Addr}
def Jee (K:W.Frag):TT:=Ji (tOp (Jdr K) (B8 0) (B8 1))
def Jeb:TT:=Ji (tOp (Jby true) (B8 0) (B8 1))
def Sm:Sp:=fun vs H Q _=>∃ (m:Addr) (v sh:Int) (M:HGh) (n:Nat),vs=[.ref m,.int v,.int sh]∧ModelAt H m M∧Sd M n∧n≤60∧On M∧2≤sh ∧
 ∀ (x:Addr) (d:Df) (H':Hp),B1 H H'→DeedAt H' x d→DGood M n d→Q (.ref x) H'
theorem scDe:Ay ["_law_model_here","_law_cell_here","_law_share","_law_house","_law_far","_law_pool","_law_words","_law_word","_law_a","_law_b","_law_near_here"] ["_law_model_here","_law_cell_here","_law_share"] (Af Fc):={}
abbrev nDe:List Str:=["_law_model_here","_law_cell_here","_law_share","_law_house","_law_far","_law_pool","_law_words","_law_word","_law_a","_law_b","_law_near_here"]
theorem Yi {f fN:Addr} {dN:FuncData} (T:Txt K mg C NHd NNr MI NW) (MN:Gdf K mg "_law_near" E1 ["_law_model_here","_law_starts"] fN dN)
 {cdv:Value} {A:Around} {outer:List Env} {s:Shared} {H:Hp} {Q:VK} {E:XK} (hr:Room 1 (A.deeper (PyProof.Rows.envOfC "_law_deed" (Af Fc) s.heap.objs.size f cdv))) :
 ∃ t,PSs (Hy CX0 P w K mg base nDe "_law_deed" (Af Fc) f cdv A outer s H E).nox ((As Fc).drop 12) t ∧
  ∀ (m fr pl wl ca cb:Addr) (c sh:Int) (wd:Str) (ta tb:T2) (M:HGh) (n:Nat) (H4:Hp),ModelAt H m M→ModelAt H4 m M→Sd M n→n≤60→H4 ca=some (.tup (tv ta))→H4 cb=some (.tup (tv tb))→(Jah wd∨wd="let")→(∀ (x:Addr) (d:Df) (H':Hp),B1 H4 H'→DeedAt H' x d→DGood M n d→Q (.ref x) H') →
   t { nx:=fun _ H'=>Q .non H',rt:=Q } [some (.ref m),some (.int c),some (.int sh),some (.int M.num),some (.ref fr),some (.ref pl),some (.ref wl),some (.str wd),some (.ref ca),some (.ref cb),none] H4:=by
 have GN:FnOk P w K mg base CX0 1 fN dN ["_law_model_here","_law_starts"] Ps:=Q6 MN.fn
 have hu:=Bv hr
 have hr1:Room 1 _:=hr.mono (by decide)
 have two:(2:Nat)≤sizeLine:=by decide
 have one:(1:Nat)≤sizeLine:=by decide
 have three:(3:Nat)≤sizeLine:=by decide
 refine ⟨_,Ad (A5 (Ap By (pv 7) Ak (A4 _)) (Ad (A3 (i:=10) scDe.nd rfl (Or.inr rfl) (Bn GN hr1 (by rfl) MN.mg MN.fn.kp MN.bd .nil Bu (Aa (pv 0) (Aa (Aw Mo (Al hu (pv 0) Ak) (PE.thaw (El (te:=B8 0) (tt:=Jee K) (caps:=[("_law_b",9)]) rfl (Ff (Al hu (pv 0) Ak))
  rfl (by decide +kernel) rfl (by decide +kernel) rfl ⟨rfl,trivial⟩ (fun y h=>Jg ⟨_,rfl⟩ h) ⟨⟨rfl,rfl,rfl,rfl⟩,trivial⟩ (by decide +kernel) (fun _ _ _ _ _=>C9 (Ap (Xv (E7 hr)) (pv 0) (pv 1) (A4 _))) (fun _ _ _ _ _=>pv 0)))) Ag))))
         (Ah (Au (A6 (Aa Ak (Aa (Aw Zv (B2 B4 (by rfl) T.tuple PyProof.Rows.boot_tuple (Aa (El (te:=B8 0) (tt:=Jeb) (caps:=[("_law_near_here",10)]) rfl (Cv (Bj (Bp rfl) (by rfl) T.sorted PyProof.Rows.boot_sorted (Aa (Al hu (pv 0) Ak) Ag)))
          rfl (by decide +kernel) rfl (by decide +kernel) rfl ⟨rfl,trivial⟩ (fun y h=>Jg ⟨_,rfl⟩ h) ⟨⟨rfl,rfl,rfl,rfl⟩,trivial⟩ (by decide +kernel) (fun _ _ _ _ _=>C9 (Ap (A8 (E7 hr)) (pv 0) (pv 1) rfl)) (fun _ _ _ _ _=>pv 0)) Ag))
          (A6 (Aa (A6 (Aa (pv 3) (Aa (Aw Hq Ai Ai) Ag))) Ag))) Ag)))))) Aq)
  (Ah (Au (A6 (Aa (pv 7) (Aa (pv 8) (Aa (pv 9) Ag)))))),?_⟩
 intro m fr pl wl ca cb c sh wd ta tb M n H4 S0 S sd hn ha hb hw k
 have rest:Jah wd→Sh (C3 (B8 7) (C3 (B8 8) (C3 (B8 9) Ki))) [some (.ref m),some (.int c),some (.int sh),some (.int M.num),some (.ref fr),some (.ref pl),some (.ref wl),some (.str wd),some (.ref ca),some (.ref cb),none] H4 Q:=fun h3=>by
  refine ⟨_,rfl,_,rfl,_,rfl,three,fun x hx=>?_⟩
  have s1:=Ae (o:=.tup [V.str wd,V.ref ca,V.ref cb]) hx
  exact k x (.three wd ta tb) _ s1 ⟨h3,ca,cb,Ab,s1 _ _ ha,s1 _ _ hb⟩ ⟨trivial,trivial,trivial⟩
 rcases hw with h3 | rfl
 ·have h3':=h3
  rcases h3' with rfl | rfl | rfl | rfl | rfl | rfl <;> (refine noI ?_; exact rest h3)
 refine Wm ?_
 have ok:=sd.ok
 have z1:=ok.hz
 have z2:=ok.oz
 have z3:=ok.lens
 obtain ⟨as1,eh,th⟩:=S.dh
 refine ⟨_,rfl,_,rfl,m,_,rfl,S.gHand,_,rfl,m,_,rfl,S.gHolds,M.l,_,rfl,S.dl,fun ob ll hll=>?_⟩
 have tn:∀ {H3:Hp} {xs:List V} {c:Addr},B1 (upd H4 M.l (.frz ob (B6 M.holds))) H3→H4 c=some (.tup xs)→H3 c=some (.tup xs):=fun {H3 xs c} sm e=>sm _ _ (by rw [Ac fun z=>by rw [z,S.dl] at e; cases e]; exact e)
 refine Ew (b:=fun t=>decide (t=tb)) (caps:=[("_law_b",9)]) (l:=M.holds) (key:=fun q=>q.1) (val:=fun q=>V.ref q.2.1) (ob:=ob) hll (by lia) Ab (fun H2 a t Q' sm hA ht q=>?_) fun H2 bs sm el tl=>?_
 ·refine ⟨_,rfl,_,rfl,thD t,thD tb,.one (Hf hA),.one (Hf (tn sm hb)),Ts t,Ts tb,_,rfl,?_⟩
  rw [Jcs]; exact q
 have f3:H2 M.l=some (.frz ob (B6 M.holds)):=sm _ _ Ab
 refine ⟨upd H2 M.l (B6 M.holds),⟨M.l,ob,_,f3,fun o v z=>?_,rfl⟩,?_⟩
 ·have z:H M.l=some (.frz o v):=z
  rw [S0.dl] at z; cases z
 have nll:ll≠M.l:=fun z=>by rw [z,Ab] at hll; cases hll
 have s4:B1 H4 (upd H2 M.l (B6 M.holds)):=fun b o e=>by
  by_cases hb:b=M.l
  ·subst hb
   rw [S.dl] at e
   rw [Ab]; exact e
  ·rw [Ac hb]
   exact sm _ _ (by rw [Ac hb]; exact e)
 have e4:(upd H2 M.l (B6 M.holds)) ll=some (.lst (bs.map V.ref)):=by rw [Ac nll]; exact el
 have t4:ThsAt (upd H2 M.l (B6 M.holds)) bs ((M.holds.map (·.1)).filter fun t=>decide (t=tb)):=by
  refine An (fun b u e=>?_) tl
  rw [Ac fun z=>by rw [z,f3] at e; cases e]; exact e
 generalize upd H2 M.l (B6 M.holds)=H5 at s4 e4 t4
 have lus:((M.holds.map (·.1)).filter fun t=>decide (t=tb)).length≤60:=by
  refine Nat.le_trans (List.length_filter_le _ _) ?_
  rw [ok.ke,List.length_map]; lia
 generalize (M.holds.map (·.1)).filter (fun t=>decide (t=tb))=us at t4 lus
 have t5:ThsAt H5 as1 M.hand:=ThsAt.keep (KeepT.of_same s4) th
 have n1:=Paired.length t5
 have n2:=Paired.length t4
 refine ⟨M.h,ll,_,_,rfl,rfl,s4 _ _ eh,e4,Nat.le_of_lt (A0 (by rw [List.length_map,List.length_map]; lia)),fun cl hcl=>?_⟩
 rw [← List.map_append]
 have s6:=Ae (o:=.lst ((as1++bs).map V.ref)) hcl
 have e6:(upd H5 cl (.lst ((as1++bs).map V.ref))) cl=some (.lst ((as1++bs).map V.ref)):=Ab
 have t6:ThsAt (upd H5 cl (.lst ((as1++bs).map V.ref))) (as1++bs) (M.hand++us):=ThsAt.keep (KeepT.of_same s6) (F8 t5 t4)
 generalize upd H5 cl (.lst ((as1++bs).map V.ref))=H6 at s6 e6 t6
 have s46:=Aj s4 s6
 have lts:(M.hand++us).length≤200:=by rw [List.length_append]; lia
 obtain ⟨m1,R,zm1,rc⟩:=Rch.ofN ok hn (M.hand++us) lts
 refine ⟨m,cl,M,as1++bs,M.hand++us,m1,R,rfl,S.same s46,e6,t6,by lia,fun q hq=>by have:=(ok.ln q hq).2; lia,rc,zm1,fun sa ra H7 hsa s7 esa tra=>?_⟩
 have s47:=Aj s46 s7
 have S7:=S.same s47
 obtain ⟨ks0,pm,pw⟩:=Lu (fun q:T2×Addr×List T2=>q.1) (l:=M.holds) (by rw [ok.ke]; exact ok.on)
 have zh:M.holds.length≤60:=by
  have:=congrArg List.length ok.ke
  rw [List.length_map,List.length_map] at this; lia
 refine ⟨_,rfl,m,_,rfl,S7.gHolds,M.l,_,ks0.map (·.1),rfl,Xc S7.dl,(by rw [List.length_map]; lia),?_,pw,fun nl asn hnl tnn=>?_⟩
 ·have e0:((M.holds.map fun q=>(q.1,V.ref q.2.1)).map (·.1))=M.holds.map (·.1):=by rw [List.map_map]; rfl
  rw [e0]; exact pm.map _
 have kin:∀ t,t∈ks0.map (·.1)↔t∈M.holds.map (·.1):=fun t=>(pm.map _).mem_iff
 have kl:(ks0.map (·.1)).length≤60:=by rw [List.length_map,pm.length_eq]; exact zh
 generalize ks0.map (·.1)=ks at tnn kin kl
 have s8:=Ae (o:=.lst (asn.map V.ref)) hnl
 have e8:(upd H7 nl (.lst (asn.map V.ref))) nl=some (.lst (asn.map V.ref)):=Ab
 have tn8:ThsAt (upd H7 nl (.lst (asn.map V.ref))) asn ks:=ThsAt.keep (KeepT.of_same s8) tnn
 generalize upd H7 nl (.lst (asn.map V.ref))=H8 at s8 e8 tn8
 refine ⟨nl,rfl,⟨_,SqL.of e8⟩,fun gl hgl=>?_⟩
 have esa8:=s8 _ _ esa
 have tra8:ThsAt H8 ra R:=ThsAt.keep (KeepT.of_same s8) tra
 refine F4 (b:=fun t=>decide (t∉R)) (caps:=[("_law_near_here",10)]) hgl (by lia) e8 tn8 (fun H2 b t Q' sm hb ht q=>?_) fun H9 gas sm9 eg9 tg9=>?_
 ·refine ⟨_,rfl,_,rfl,Cc hb (sm _ _ esa8) (ThsAt.keep (KeepT.of_same sm) tra8) ⟨fun h=>⟨_,rfl,?_⟩,fun h=>⟨_,rfl,?_⟩⟩⟩
  ·rw [decide_eq_true h] at q; exact q
  ·rw [decide_eq_false (fun z=>z h)] at q; exact q
 have s49:=Aj s47 (Aj s8 sm9)
 have lg:=Paired.length tg9
 have lg2:(ks.filter fun t=>decide (t∉R)).length≤60:=Nat.le_trans (List.length_filter_le _ _) kl
 have mem0:∀ t,t∈(ks.filter fun t=>decide (t∉R))↔(t∈M.holds.map (·.1)∧t∉R):=fun t=>by
  rw [List.mem_filter,kin]; simp
 generalize (ks.filter fun t=>decide (t∉R))=g0 at tg9 lg lg2 mem0
 refine ⟨gl,_,rfl,.inl ⟨SqL.of eg9,fun tp htp=>?_⟩⟩
 have s10:=Ae (o:=.tup (gas.map V.ref)) htp
 have e10:(upd H9 tp (.tup (gas.map V.ref))) tp=some (.tup (gas.map V.ref)):=Ab
 have t10:ThsAt (upd H9 tp (.tup (gas.map V.ref))) gas g0:=ThsAt.keep (KeepT.of_same s10) tg9
 generalize upd H9 tp (.tup (gas.map V.ref))=H10 at s10 e10 t10
 refine ⟨_,rfl,_,_,rfl,rfl,⟨by decide,by decide,by decide⟩,two,fun ut hut=>⟨one,fun y2 hy2=>?_⟩⟩
 have s11:=Ae (o:=.tup [V.int M.num,V.int (10 ^ (9:Int).toNat)]) hut
 have t11:(upd H10 ut (.tup [V.int M.num,V.int (10 ^ (9:Int).toNat)])) ut=some (.tup (tv (M.num,10 ^ (9:Int).toNat))):=Ab
 have h60:(60:Int)≤((M.num,(10:Int) ^ (9:Int).toNat):T2).2:=by show (60:Int)≤10 ^ (9:Int).toNat; decide
 generalize upd H10 ut (.tup [V.int M.num,V.int (10 ^ (9:Int).toNat)])=H11 at s11 t11 hy2
 have s12:=Ae (o:=.tup [V.ref ut]) hy2
 have e12:(upd H11 y2 (.tup [V.ref ut])) y2=some (.tup [V.ref ut]):=Ab
 generalize upd H11 y2 (.tup [V.ref ut])=H12 at s12 e12
 have s4c:=Aj s49 (Aj s10 (Aj s11 s12))
 have t12:ThsAt H12 (gas++[ut]) (g0++[(M.num,(10:Int) ^ (9:Int).toNat)]):=Ex (s12 _ _ t11) (ThsAt.keep (KeepT.of_same (Aj s11 s12)) t10)
 have fin:∀ (y:Addr) (H13:Hp),B1 H12 H13→H13 y=some (.tup ((gas++[ut]).map V.ref))→(2:Nat)≤sizeLine∧∀ x,H13 x=none→Q (.ref x) (upd H13 x (.tup [V.str "let",V.ref y])):=fun y H13 s13 ey=>⟨two,fun x hx=>by
  have s14:=Ae (o:=.tup [V.str "let",V.ref y]) hx
  have s15:=Aj s13 s14
  refine k x (.lt (g0++[(M.num,(10:Int) ^ (9:Int).toNat)])) _ (Aj s4c s15) ⟨y,gas++[ut],Ab,s14 _ _ ey,ThsAt.keep (KeepT.of_same s15) t12⟩ ⟨Jck sd hn rc (fun t ht=>List.mem_append_left _ ht) (fun t=>?_) h60,trivial,trivial⟩
  rw [List.mem_append,mem0]
  constructor
  ·rintro (h | h)
   ·exact .inl h
   ·exact .inr (by simpa using h)
  ·rintro (h | h)
   ·exact .inl h
   ·exact .inr (by rw [h]; simp)⟩
 refine ⟨tp,y2,_,_,rfl,rfl,SqT.of ((Aj s11 s12) _ _ e10),SqT.of e12,(by simp),Nat.le_of_lt (A0 (by rw [List.length_map]; show gas.length + 1≤1000; lia)),fun e=>?_,fun _ y hy=>?_⟩
 ·have e:gas=[]:=by simpa using e
  refine fin y2 H12 (fun _ _ e=>e) ?_
  rw [e]; exact e12
 ·have em:gas.map V.ref++[V.ref ut]=(gas++[ut]).map V.ref:=by rw [List.map_append]; rfl
  rw [em]
  exact fin y _ (Ae hy) Ab
theorem Wo {f fN fD:Addr} {dN dD:FuncData} (T:Txt K mg C NHd NNr MI NW) (Tx:He mg) (MN:Gdf K mg "_law_near" E1 ["_law_model_here","_law_starts"] fN dN) (MD:Gdf K mg "_law_near_deed" Gj ["_law_model_here","_law_cell_here","_law_b","_law_share"] fD dD)
 {cdv:Value} {A:Around} {outer:List Env} {s:Shared} {H:Hp} {Q:VK} {E:XK} (hr:Room 1 (A.deeper (PyProof.Rows.envOfC "_law_deed" (Af Fc) s.heap.objs.size f cdv))) :
 ∃ t,PSs (Hy CX0 P w K mg base nDe "_law_deed" (Af Fc) f cdv A outer s H E).nox ((As Fc).drop 8) t ∧
  ∀ (m fr pl wl ca cb:Addr) (c sh:Int) (wd:Str) (ta tb:T2) (fs ps:List V) (M:HGh) (n:Nat) (H4:Hp),ModelAt H m M→ModelAt H4 m M→Sd M n→n≤60→On M→2≤sh→H4 ca=some (.tup (tv ta))→H4 cb=some (.tup (tv tb))→H4 fr=some (.lst fs)→PoolAt (FarT M.num) H4 fs→fs.length=4→H4 pl=some (.lst ps)→0 < ps.length→ps.length≤1000→Jdy wd→(∀ (x:Addr) (d:Df) (H':Hp),B1 H4 H'→DeedAt H' x d→DGood M n d→Q (.ref x) H') →
   t { nx:=fun _ H'=>Q .non H',rt:=Q } [some (.ref m),some (.int c),some (.int sh),some (.int M.num),some (.ref fr),some (.ref pl),some (.ref wl),some (.str wd),some (.ref ca),some (.ref cb),none] H4:=by
 have GD:FnOk P w K mg base CX0 1 fD dD ["_law_model_here","_law_cell_here","_law_b","_law_share"] Tz:=Xz MD.fn Tx
 have hu:=Bv hr
 have hr1:Room 1 _:=hr.mono (by decide)
 have two:(2:Nat)≤sizeLine:=by decide
 have three:(3:Nat)≤sizeLine:=by decide
 obtain ⟨tl,htl,hsem⟩:=Yi (P:=P) (w:=w) (base:=base) (outer:=outer) (H:=H) (Q:=Q) (E:=E) T MN hr
 refine ⟨_,Ad (A5 (Ap By (pv 7) Ak (A4 _)) (Ah (Au (A6 (Aa Ak (Aa (pv 8) (Aa (pv 2) Ag)))))) Aq)
  (Ad (A5 (Ap By (pv 7) Ak (A4 _)) (Ah (Au (A6 (Aa Ak (Aa (Bm Gx (pv 4) (Aw B7 (pv 1) Ai)) (Aa (Aw Ce Ai (Aw B7 (Aw C0 (pv 1) Ai) (Aw Hq Ai Ai))) Ag)))))) Aq)
  (Ad (A5 (Ap By (pv 7) Ak (A4 _)) (Ah (Au (A6 (Aa Ak (Aa (Bm Gx (pv 4) (Aw B7 (pv 1) Ai)) (Aa (Aw Ce Ai (Aw B7 (Aw C0 (pv 1) Ai) Ai)) Ag)))))) Aq)
  (Ad (A5 (Ap By (pv 7) Ak (A4 _)) (Ah (Au (Bn GD hr1 (by rfl) MD.mg MD.fn.kp MD.bd .nil Bu (Aa (pv 0) (Aa (Aw C0 (pv 1) (Bj Cm (by rfl) T.len PySem.boot_len (Aa (pv 5) Ag))) (Aa (A6 (Aa (pv 3) (Aa (Aw B7 (pv 1) (Aw Ce (Al hu (pv 0) Ak) Ai)) Ag))) (Aa (pv 2) Ag))))))) Aq)
  htl))),?_⟩
 intro m fr pl wl ca cb c sh wd ta tb fs ps M n H4 S0 S sd hn on hsh ha hb ef pf lf ep lp lp2 hw k
 have far:∀ (w0:Str) (v:Int),w0="came"∨w0="added"→1≤v→∃ cf,atI fs (c % 4)=some (.ref cf)∧∀ x,H4 x=none→Q (.ref x) (upd H4 x (.tup [V.str w0,V.ref cf,V.int v])):=fun w0 v hw hv=>by
  obtain ⟨cf,tf,e1,e2,e3⟩:=pf.at (i:=c % 4) (Int.emod_nonneg _ (by decide)) (by rw [lf]; exact Int.emod_lt_of_pos _ (by decide))
  obtain ⟨f1,f2⟩:=e3.inP sd.n0 sd.n1
  refine ⟨cf,e1,fun x hx=>?_⟩
  have s1:=Ae (o:=.tup [V.str w0,V.ref cf,V.int v]) hx
  refine k x (.wt w0 tf v) _ s1 ⟨?_,cf,Ab,s1 _ _ e2⟩ ⟨⟨fun _ z=>absurd z f2,fun _=>f2,fun z=>?_⟩,⟨fun _=>⟨f1,fun _=>by lia⟩,fun _=>by lia⟩,fun z=>?_,fun _ z=>absurd (sd.ok.new _ z).1 f2⟩
  ·rcases hw with rfl | rfl
   ·exact .inr (.inl rfl)
   ·exact .inr (.inr (.inl rfl))
  ·rcases hw with rfl | rfl <;> exact absurd z (by decide +kernel)
  ·rcases hw with rfl | rfl <;> exact absurd z (by decide +kernel)
 rcases hw with h3 | rfl | rfl | rfl | rfl | rfl
 ·have go:=hsem m fr pl wl ca cb c sh wd ta tb M n H4 S0 S sd hn ha hb (.inl h3) k
  have h3':=h3
  rcases h3' with rfl | rfl | rfl | rfl | rfl | rfl <;> (refine noI ?_; refine noI ?_; refine noI ?_; refine noI ?_; exact go)
 ·refine Wm ?_
  refine ⟨_,rfl,_,rfl,three,fun x hx=>?_⟩
  have s1:=Ae (o:=.tup [V.str "part",V.ref ca,V.int sh]) hx
  exact k x (.wt "part" ta sh) _ s1 ⟨.inl rfl,ca,Ab,s1 _ _ ha⟩ ⟨⟨fun z=>absurd z (by decide +kernel),fun z=>absurd z (by decide +kernel),fun z=>absurd z (by decide +kernel)⟩,⟨fun z=>absurd z (by decide +kernel),fun z=>absurd z (by decide +kernel)⟩,fun _=>by lia,fun z=>by rcases z with z | z <;> exact absurd z (by decide +kernel)⟩
 ·refine noI ?_; refine Wm ?_
  have h0:0≤c / 4 % 10 ^ (59:Int).toNat:=Int.emod_nonneg _ (by decide)
  obtain ⟨cf,e1,go⟩:=far "came" (1 + c / 4 % 10 ^ (59:Int).toNat) (.inl rfl) (by lia)
  exact ⟨_,rfl,_,rfl,_,_,rfl,rfl,(show (0:Int) < 4 by decide),fr,_,_,_,rfl,rfl,SqL.of ef,e1,_,rfl,_,_,rfl,rfl,⟨by decide,by decide⟩,_,_,rfl,rfl,⟨by decide,by decide,by decide⟩,_,_,rfl,rfl,(show (0:Int) < 10 ^ 59 by decide),_,_,rfl,rfl,three,go⟩
 ·refine noI ?_; refine noI ?_; refine Wm ?_
  have h0:0≤c / 4 % 3:=Int.emod_nonneg _ (by decide)
  obtain ⟨cf,e1,go⟩:=far "added" (1 + c / 4 % 3) (.inr rfl) (by lia)
  exact ⟨_,rfl,_,rfl,_,_,rfl,rfl,(show (0:Int) < 4 by decide),fr,_,_,_,rfl,rfl,SqL.of ef,e1,_,rfl,_,_,rfl,rfl,⟨by decide,by decide⟩,_,_,rfl,rfl,(show (0:Int) < 3 by decide),_,_,rfl,rfl,three,go⟩
 ·refine noI ?_; refine noI ?_; refine noI ?_; refine Wm ?_
  have m0:=sd.m0
  have m1:=sd.m1
  have b0:0≤c % (M.made + 1):=Int.emod_nonneg _ (by lia)
  refine ⟨_,rfl,_,rfl,_,rfl,pl,_,rfl,.inl (SqL.of ep),_,_,rfl,rfl,⟨by lia,by lia⟩,_,rfl,_,rfl,_,rfl,m,_,rfl,S.gMade,_,_,rfl,rfl,_,_,rfl,rfl,(by lia),two,fun b hb'=>?_⟩
  have s1:=Ae (o:=.tup [V.int M.num,V.int (c % (M.made + 1))]) hb'
  exact ⟨_,rfl,m,b,_,sh,M,n,(M.num,c % (M.made + 1)),rfl,S.same s1,on,Ab,rfl,hsh,fun z=>⟨sd.n0,sd.n1,.inl ⟨rfl,b0,by have:=(sd.ok.new _ z).2; show c % (M.made + 1) < 60; have this:c % (M.made + 1) < M.made:=this; lia⟩⟩,fun t z=>by have:=(sd.ok.new _ z).2; lia,fun x d H' s2 dq dg=>k x d H' (Aj s1 s2) dq dg⟩
 ·have go:=hsem m fr pl wl ca cb c sh "let" ta tb M n H4 S0 S sd hn ha hb (.inr rfl) k
  refine noI ?_; refine noI ?_; refine noI ?_; refine noI ?_; exact go
end
structure PAw (X:Cx) (es:List Expr) (t:TA):Prop where
 out:PA X es t
structure PSw (X:Cx) (st:Stmt) (t:TS):Prop where
 out:PS X st t
structure PSsw (X:Cx) (sts:List Stmt) (t:TS):Prop where
 out:PSs X sts t
theorem Zs {X:Cx}:PAw X [] Ki:=⟨Ag⟩
theorem Da {X:Cx} {v:Str} {j p} {es:List Expr} {t:TA} (h:PAw X es t):PAw X (.Constant (.str v) j p :: es) (C3 (tC (.str v)) t):=⟨Jb7 h.out⟩
theorem Zn {X:Cx} {i:Nat} {x:Str} {es:List Expr} {t:TA} {pos' q pos:Pos} (hN:X.N.Nodup) (hi:X.N[i]?=some x) (hx:X.env.scope.names.lookup x=some .local) (h:PAw X es t):PSw X (.Assign [.Name x pos'] (.List es q) pos) (Jdf (Jdb t) (Yr i)):=⟨A3 hN hi (Or.inl hx) (Hn h.out) rfl (.inr hx)⟩
theorem Dx {X:Cx} {st:Stmt} {rest:List Stmt} {t u:TS} (h1:PS X st t) (h2:PSsw X rest u):PSsw X (st :: rest) (Jbl t u):=⟨Ad h1 h2.out⟩
theorem Sr {X:Cx} {st:Stmt} {rest:List Stmt} {t u:TS} (h1:PSw X st t) (h2:PSsw X rest u):PSsw X (st :: rest) (Jbl t u):=⟨Ad h1.out h2.out⟩
section
variable {P:Program} {w:World} {K:W.Frag} {mg:Str→Option Value} {base:Heap} {C NHd NNr MI NW HE:Addr}
theorem Z6 {f fN fD:Addr} {fd dN dD:FuncData} (F:Fun K "_law_deed" "_law_deed" Fc f fd) (T:Txt K mg C NHd NNr MI NW) (Tx:He mg) (MN:Gdf K mg "_law_near" E1 ["_law_model_here","_law_starts"] fN dN) (MD:Gdf K mg "_law_near_deed" Gj ["_law_model_here","_law_cell_here","_law_b","_law_share"] fD dD) :
 FnOk P w K mg base CX0 2 f fd ["_law_model_here","_law_cell_here","_law_share"] Sm:=by
 refine F.ok scDe (fun vs H Q E h=>?_) (fun cdv A outer s H vs Q E hr h=>?_)
 ·obtain ⟨m,v,sh,M,n,rfl,_⟩:=h
  rfl
 ·obtain ⟨m,v,sh,M,n,rfl,S,sd,hn,on,hsh,k⟩:=h
  have hu:=Bv hr
  have two:(2:Nat)≤sizeLine:=by decide
  have four:(4:Nat)≤sizeLine:=by decide
  have tw12:(12:Nat)≤sizeLine:=by decide
  obtain ⟨tl,htl,hsem⟩:=Wo (P:=P) (w:=w) (base:=base) (outer:=outer) (H:=H) (Q:=Q) (E:=E) T Tx MN MD hr
  refine ⟨_,PSsw.out (Dx (A3 (i:=3) scDe.nd rfl (Or.inr rfl) (Al hu (pv 0) Ak))
   (Dx (A3 (i:=4) scDe.nd rfl (Or.inl rfl) (Hn (Aa (A6 (Aa (Aw B7 (Aw Ce (pv 3) Ai) Ai) (Aa Ai Ag))) (Aa (A6 (Aa (Aw B7 (Aw Ce (pv 3) Ai) Ai) (Aa Ai Ag))) (Aa (A6 (Aa (Aw B7 (Aw Ce (pv 3) Ai) Ai) (Aa Ai Ag))) (Aa (A6 (Aa (Aw B7 (Aw Ce (pv 3) Ai) Ai) (Aa (Aw Hq Ai Ai) Ag))) Ag))))))
   (Dx (A3 (i:=5) scDe.nd rfl (Or.inl rfl) (Aw Mo (El (te:=Sh (C3 (B8 1) (C3 (B8 0) Ki))) (caps:=[("_law_house",3)]) rfl (Vm rfl T.range (Aa (Aw Ce (Al hu (pv 0) Ak) Ai) Ag))
    rfl (by decide +kernel) rfl (by decide +kernel) rfl ⟨rfl,trivial⟩ (fun y h=>Jg ⟨_,rfl⟩ h) ⟨⟨rfl,rfl,rfl,rfl⟩,trivial⟩ (by decide +kernel) (fun _ _ _ _ _=>Lg)
    (fun _ _ _ _ _=>A6 (Aa (pv 1) (Aa (pv 0) Ag)))) (pv 4)))
   (Sr (Zn (i:=6) scDe.nd rfl rfl (Da (Da (Da (Da (Da (Da (Da (Da (Da (Da (Da (Da Zs)))))))))))))
   (Dx (A3 (i:=7) scDe.nd rfl (Or.inl rfl) (Bm Gx (Aw Mo (pv 6) (Hn (Aa Ak (Aa Ak Ag)))) (Aw B7 (pv 1) Ai)))
   (Dx (A3 (i:=1) scDe.nd rfl (Or.inl rfl) (Aw C0 (pv 1) Ai))
   (Dx (A3 (i:=8) scDe.nd rfl (Or.inl rfl) (Bm Gx (pv 5) (Aw B7 (pv 1) (Bj Cm (by rfl) T.len PySem.boot_len (Aa (pv 5) Ag)))))
   (Dx (A3 (i:=9) scDe.nd rfl (Or.inr rfl) (Bm Gx (pv 5) (Aw B7 (Aw C0 (pv 1) (Bj Cm (by rfl) T.len PySem.boot_len (Aa (pv 5) Ag))) (Bj Cm (by rfl) T.len PySem.boot_len (Aa (pv 5) Ag)))))
   ⟨htl⟩)))))))),?_⟩
  have m0:=sd.m0
  have m1:=sd.m1
  refine ⟨_,rfl,m,_,rfl,S.gHouse,?_⟩
  have t12:(0:Int) < 12:=by decide
  refine ⟨_,rfl,_,_,rfl,rfl,_,_,rfl,rfl,t12,two,fun c1 h1=>⟨_,rfl,_,_,rfl,rfl,_,_,rfl,rfl,t12,two,fun c2 h2=>⟨_,rfl,_,_,rfl,rfl,_,_,rfl,rfl,t12,two,fun c3 h3=>⟨_,rfl,_,_,rfl,rfl,_,_,rfl,rfl,t12,_,_,rfl,rfl,⟨by decide,by decide,by decide⟩,two,fun c4 h4=>⟨four,fun fr hfr=>?_⟩⟩⟩⟩⟩
  have s1:=Ae (o:=.tup [V.int ((M.num + 1) % 12),V.int 0]) h1
  have e1:(upd H c1 (.tup [V.int ((M.num + 1) % 12),V.int 0])) c1=some (.tup (tv ((M.num + 1) % 12,0))):=Ab
  generalize upd H c1 (.tup [V.int ((M.num + 1) % 12),V.int 0])=H1 at *
  have s2:=Ae (o:=.tup [V.int ((M.num + 1) % 12),V.int 1]) h2
  have e2:(upd H1 c2 (.tup [V.int ((M.num + 1) % 12),V.int 1])) c2=some (.tup (tv ((M.num + 1) % 12,1))):=Ab
  generalize upd H1 c2 (.tup [V.int ((M.num + 1) % 12),V.int 1])=H2 at *
  have s3:=Ae (o:=.tup [V.int ((M.num + 2) % 12),V.int 0]) h3
  have e3:(upd H2 c3 (.tup [V.int ((M.num + 2) % 12),V.int 0])) c3=some (.tup (tv ((M.num + 2) % 12,0))):=Ab
  generalize upd H2 c3 (.tup [V.int ((M.num + 2) % 12),V.int 0])=H3 at *
  have p20:(10:Int) ^ (20:Int).toNat=100000000000000000000:=by decide
  have s4:=Ae (o:=.tup [V.int ((M.num + 2) % 12),V.int (10 ^ (20:Int).toNat)]) h4
  have e4:(upd H3 c4 (.tup [V.int ((M.num + 2) % 12),V.int (10 ^ (20:Int).toNat)])) c4=some (.tup (tv ((M.num + 2) % 12,10 ^ (20:Int).toNat))):=Ab
  generalize upd H3 c4 (.tup [V.int ((M.num + 2) % 12),V.int (10 ^ (20:Int).toNat)])=H4 at *
  rw [p20] at e4
  have s5:=Ae (o:=.lst [V.ref c1,V.ref c2,V.ref c3,V.ref c4]) hfr
  have ef:(upd H4 fr (.lst [V.ref c1,V.ref c2,V.ref c3,V.ref c4])) fr=some (.lst [V.ref c1,V.ref c2,V.ref c3,V.ref c4]):=Ab
  have s45:=Aj s4 s5
  have s35:=Aj s3 s45
  have s25:=Aj s2 s35
  have pf:PoolAt (FarT M.num) (upd H4 fr (.lst [V.ref c1,V.ref c2,V.ref c3,V.ref c4])) [V.ref c1,V.ref c2,V.ref c3,V.ref c4]:=fun x hx=>by
   rcases List.mem_cons.mp hx with rfl | hx
   ·exact ⟨c1,_,rfl,s25 _ _ e1,.inl rfl⟩
   rcases List.mem_cons.mp hx with rfl | hx
   ·exact ⟨c2,_,rfl,s35 _ _ e2,.inr (.inl rfl)⟩
   rcases List.mem_cons.mp hx with rfl | hx
   ·exact ⟨c3,_,rfl,s45 _ _ e3,.inr (.inr (.inl rfl))⟩
   rcases List.mem_cons.mp hx with rfl | hx
   ·exact ⟨c4,_,rfl,s5 _ _ e4,.inr (.inr (.inr rfl))⟩
   ·cases hx
  have s05:=Aj s1 s25
  have lf:[V.ref c1,V.ref c2,V.ref c3,V.ref c4].length=4:=rfl
  generalize [V.ref c1,V.ref c2,V.ref c3,V.ref c4]=fs at ef pf s05 lf ⊢
  generalize upd H4 fr (.lst fs)=H5 at ef pf s05 ⊢
  have S5:=S.same s05
  refine ⟨_,rfl,m,_,rfl,S5.gMade,_,_,rfl,rfl,M.made + 1,rfl,by lia,by lia,fun qc hqc=>?_⟩
  refine To (lo:=0) (n:=(M.made + 1).toNat) (tt:=fun _ H Q=>Q true H) (te:=Sh (C3 (B8 1) (C3 (B8 0) Ki))) (caps:=[("_law_house",3)]) (σ:=[some (.ref m),some (.int v),some (.int sh),some (.int M.num),some (.ref fr),none,none,none,none,none,none])
   (fun j ys H7=>H7 qc=some (.lst ys)∧B1 H5 H7∧PoolAt (fun _=>True) H7 ys∧ys.length=j) ⟨Ab,Ae hqc,(fun x hx=>by cases hx),rfl⟩ (fun j ys H7 _ h=>h.1) ?_ ?_
  ·rintro j ys H7 N hj ⟨e7,s7,p7,l7⟩ hN
   refine Bk ⟨_,rfl,_,rfl,two,fun t ht=>?_⟩
   have s8:=Ae (o:=.tup [V.int M.num,V.int (0 + (j:Int))]) ht
   have t8:(upd H7 t (.tup [V.int M.num,V.int (0 + (j:Int))])) t=some (.tup (tv (M.num,0 + (j:Int)))):=Ab
   generalize upd H7 t (.tup [V.int M.num,V.int (0 + (j:Int))])=H8 at s8 t8
   have e8:=s8 _ _ e7
   have kq:KeepT H8 (upd H8 qc (.lst (ys++[V.ref t]))):=KeepT.upd fun o' e=>by
    rw [e8] at e; cases e; exact ⟨fun _ z=>(by cases z),fun _ _ z=>(by cases z)⟩
   refine ⟨e8,A0 (by lia),hN _ _ ⟨Ab,fun b o e=>?_,fun x hx=>?_,by rw [List.length_append,l7]; rfl⟩⟩
   ·rw [Ac (Ar e hqc)]; exact s8 _ _ (s7 _ _ e)
   ·rcases List.mem_append.mp hx with hx | hx
    ·exact ((p7.keep (KeepT.of_same s8)).keep kq) x hx
    ·have:x=V.ref t:=by simpa using hx
     exact ⟨t,_,this,kq.tup _ _ t8,trivial⟩
  rintro ys H7 ⟨e7,s7,p7,l7⟩
  have lny:ys.length≤100:=by lia
  refine ⟨_,rfl,qc,fr,ys,_,rfl,rfl,e7,s7 _ _ ef,Nat.le_of_lt (A0 (by rw [lf]; lia)),fun pl hpl=>?_⟩
  have s8:=Ae (o:=.lst (ys++fs)) hpl
  have e8:(upd H7 pl (.lst (ys++fs))) pl=some (.lst (ys++fs)):=Ab
  have p8:PoolAt (fun _=>True) (upd H7 pl (.lst (ys++fs))) (ys++fs):=fun x hx=>by
   rcases List.mem_append.mp hx with hx | hx
   ·exact (p7.keep (KeepT.of_same s8)) x hx
   ·obtain ⟨c,t,h1,h2,_⟩:=(pf.keep (KeepT.of_same (Aj s7 s8))) x hx
    exact ⟨c,t,h1,h2,trivial⟩
  have ln0:0 < (ys++fs).length:=by rw [List.length_append,lf]; lia
  have ln1:(ys++fs).length≤1000:=by rw [List.length_append,lf]; lia
  have s08:=Aj s05 (Aj s7 s8)
  have ef8:=(Aj s7 s8) _ _ ef
  have pf8:=pf.keep (KeepT.of_same (Aj s7 s8))
  generalize ys++fs=ps at s08 e8 p8 ln0 ln1 ef8 pf8 ⊢
  generalize upd H7 pl (.lst ps)=H8 at s08 e8 p8 ef8 pf8 ⊢
  refine ⟨tw12,fun wl hwl=>?_⟩
  have hwd:[V.str "make",V.str "hold",V.str "hold",V.str "drop",V.str "take",V.str "free",V.str "part",V.str "part",V.str "far",V.str "added",V.str "near",V.str "near"]=wds:=rfl
  rw [hwd]
  have s9:=Ae (o:=.lst wds) hwl
  have e9:(upd H8 wl (.lst wds)) wl=some (.lst wds):=Ab
  generalize upd H8 wl (.lst wds)=H9 at s9 e9 ⊢
  obtain ⟨wd,hw,ewd⟩:=Y9 v
  refine ⟨_,rfl,two,fun l2 hl2=>?_⟩
  have s10:=Ae (o:=.lst [V.str "let",V.str "clean"]) hl2
  have e10:(upd H9 l2 (.lst [V.str "let",V.str "clean"])) l2=some (.lst [V.str "let",V.str "clean"]):=Ab
  generalize upd H9 l2 (.lst [V.str "let",V.str "clean"])=H10 at s10 e10 ⊢
  refine ⟨wl,l2,_,_,rfl,rfl,s10 _ _ e9,e10,(by show 14≤sizeLine; decide),fun cw hcw=>⟨_,rfl,_,_,rfl,rfl,(show (0:Int) < 14 by decide),cw,_,_,_,rfl,rfl,SqL.of Ab,ewd,?_⟩⟩
  have s11:=Ae (o:=.lst (wds++[V.str "let",V.str "clean"])) hcw
  generalize upd H10 cw (.lst (wds++[V.str "let",V.str "clean"]))=H11 at s11 ⊢
  have s811:=Aj s9 (Aj s10 s11)
  have e11:=s811 _ _ e8
  have p11:=p8.keep (KeepT.of_same s811)
  have s011:=Aj s08 s811
  refine ⟨_,rfl,_,_,rfl,rfl,⟨by decide,by decide⟩,?_⟩
  have lnI:(0:Int) < (ps.length:Int):=by lia
  obtain ⟨ca,ta,hca,eca,_⟩:=p11.at (i:=v / 14 % (ps.length:Int)) (Int.emod_nonneg _ (by lia)) (Int.emod_lt_of_pos _ lnI)
  obtain ⟨cb,tb,hcb,ecb,_⟩:=p11.at (i:=v / 14 / (ps.length:Int) % (ps.length:Int)) (Int.emod_nonneg _ (by lia)) (Int.emod_lt_of_pos _ lnI)
  refine ⟨_,rfl,_,rfl,_,rfl,pl,_,rfl,.inl (SqL.of e11),_,_,rfl,rfl,lnI,pl,_,_,_,rfl,rfl,SqL.of e11,hca,?_⟩
  refine ⟨_,rfl,_,rfl,_,rfl,pl,_,rfl,.inl (SqL.of e11),_,_,rfl,rfl,⟨lnI,by lia⟩,_,rfl,pl,_,rfl,.inl (SqL.of e11),_,_,rfl,rfl,lnI,pl,_,_,_,rfl,rfl,SqL.of e11,hcb,?_⟩
  exact hsem m fr pl wl ca cb (v / 14) sh wd ta tb fs ps M n H11 S (S.same s011) sd hn on hsh eca ecb (s811 _ _ ef8) (pf8.keep (KeepT.of_same s811)) lf e11 ln0 ln1 hw fun x d H' s12 dq dg=>k x d H' (Aj s011 s12) dq dg
end
theorem Good.of {G:HGh} {n:Nat} (x:Ok G n) (h:n < 64):Good G:=by
 refine ⟨x.hn,by have:=x.hz; lia,x.on,by have:=x.oz; lia,x.rn,by have:=x.rz; lia,fun q hq=>?_⟩
 obtain ⟨a,fd⟩:=Ln (l:=G.holds) (t:=q.1) (by rw [x.ke]; exact List.mem_map_of_mem hq)
 obtain ⟨g1,g2,_⟩:=x.get q.1
 exact ⟨a,_,fd,g1,by lia⟩
theorem Told.like {M G:HGh} (x:LikeW M G) {hs:List T2} {os:List (T2×Int×List T2)} {rs:List (T2×Int)} (t:Told G hs os rs):Told M hs os rs:=by
 have xh:M.hand=G.hand:=x.hand
 have xo:M.outs=G.outs:=x.outs
 have xr:M.recs=G.recs:=x.recs
 have xl:hs0 M.holds=hs0 G.holds:=x.holds
 refine ⟨by rw [xh]; exact t.pm,t.pw,⟨by rw [xo]; exact t.rw_.pm,t.rw_.pw,fun q hq=>?_⟩,by rw [xr]; exact t.pr,t.wr⟩
 obtain ⟨f1,a,hl,f2,f3,f4,f5⟩:=t.rw_.at_ q hq
 have e:(hs0 M.holds).find? (fun z=>decide (z.1=q.1))=some (q.1,hl):=by rw [xl,Nk,f2]; rfl
 rw [Nk] at e
 cases e2:M.holds.find? fun z=>decide (z.1=q.1) with
 | none=>rw [e2] at e; cases e
 | some r =>
   rw [e2] at e
   have e3:(r.1,r.2.2)=(q.1,hl):=Option.some.inj e
   have e4:=(Prod.mk.inj e3).1
   have e5:=(Prod.mk.inj e3).2
   exact ⟨by rw [xo]; exact f1,r.2.1,hl,by rw [← e4,← e5],f3,f4,f5⟩
theorem Oi {G M:HGh} {n:Nat} (ok:Ok G n) (hn:n < 64) (lk:LikeW M G):∃ hs os rs,Good G∧Told G hs os rs∧Good M∧Told M hs os rs∧M.holds.map (·.1)=M.outs.map (·.1):=by
 have gd:=Good.of ok hn
 obtain ⟨hs,os,rs,tld⟩:=gd.told
 exact ⟨hs,os,rs,gd,tld,Good.of (lk.ok ok) hn,Told.like lk tld,(lk.ok ok).ke⟩
theorem Vz {M G:HGh} (x:LikeW M G):LikeW G M:=by
 have h1:M.num=G.num:=x.num
 have h2:M.made=G.made:=x.made
 have h3:M.hand=G.hand:=x.hand
 have h4:M.outs=G.outs:=x.outs
 have h5:M.recs=G.recs:=x.recs
 have h6:hs0 M.holds=hs0 G.holds:=x.holds
 exact lw h1.symm h2.symm h3.symm h4.symm h5.symm h6.symm
theorem On.like {M G:HGh} (x:On G) (l:LikeW M G):On M:=by
 have h4:M.outs=G.outs:=l.outs
 intro q hq
 rw [h4] at hq
 exact x q hq
theorem On.mkG {G:HGh} (x:On G) (a:Addr):On (FX.mkG G a):=fun q hq=>by
 have hq:q∈G.outs++[((G.num,G.made),0)]:=hq
 rcases List.mem_append.mp hq with hq | hq
 ·exact x q hq
 ·have:q=((G.num,G.made),0):=by simpa using hq
  rw [this]; exact Int.le_refl _
theorem DGood.like {M G:HGh} {n:Nat} {d:Df} (l:LikeW M G) (x:DGood M n d):DGood G n d:=by
 have eN:M.num=G.num:=l.num
 have eO:M.outs=G.outs:=l.outs
 cases d with
 | three w ta tb=>exact ⟨trivial,trivial,trivial⟩
 | wt w tb v =>
   obtain ⟨h1,h2,h3⟩:=x
   unfold DOk at h1
   unfold DIn at h2
   unfold Ja1 at h3
   dsimp only at h1 h2 h3
   rw [eN,eO] at h1
   rw [eN] at h2
   rw [eO] at h3
   exact ⟨h1,h2,h3⟩
 | pass tb sh mine =>
   obtain ⟨h1,h2,h3⟩:=x
   unfold DOk at h1
   unfold DIn at h2
   unfold Ja1 at h3
   dsimp only at h1 h2 h3
   rw [eO] at h1
   rw [eN] at h2
   rw [eO] at h3
   exact ⟨h1,h2,h3⟩
 | lt ts=>exact ⟨((Vz l).dropTs ts).ok x.1,trivial,trivial⟩
theorem Jfl {G M:HGh} {n:Nat} (sd:Sd G n) (hn:n≤60) (l:LikeW M G):∃ R rs,Hyp G n R rs∧Hyp M n R rs:=by
 have ok:=sd.ok
 have z1:=ok.hz
 have z2:=ok.oz
 obtain ⟨rs,pm,pw⟩:=Lu (fun q:T2×Int=>q.1) (l:=G.recs) ok.rn
 have lz:(G.hand++Eh G).length≤200:=by
  have:(Eh G).length≤(G.outs.map (·.1)).length:=List.length_filter_le _ _
  rw [List.length_map] at this
  rw [List.length_append]; lia
 obtain ⟨m,R,zm,rc⟩:=Rch.ofN ok hn (G.hand++Eh G) lz
 have rc:Rch (nxT G.holds) m (startT G) [] R:=rc
 have cl:=rc.closed (fun t ht=>by cases ht)
 have okR:=ok.keepR rc.sub.2 cl
 have sdM:=sd.like l
 refine ⟨R,rs,⟨ok,sd.wk,by lia,fun t ht=>sd.ip t (.inl ht),fun q hq t ht=>sd.ip t (.inr ⟨q,hq,ht⟩),pm,pw,⟨m,rc,zm⟩,okR⟩,
  ⟨sdM.ok,sdM.wk,by lia,fun t ht=>sdM.ip t (.inl ht),fun q hq t ht=>sdM.ip t (.inr ⟨q,hq,ht⟩),by rw [show M.recs=G.recs from l.recs]; exact pm,pw,⟨m,by rw [l.nx,l.start]; exact rc,zm⟩,(l.keepR R).ok okR⟩⟩
structure Both (C p m:Addr) (H:Hp) (G M:HGh) (n:Nat):Prop where
 hs:HouseAt C H p G
 md:ModelAt H m M
 lk:LikeW M G
 sd:Sd G n
 on:On G
 dj:Dj p m G M
 tk:M.ticks=G.ticks
section
variable {C p m:Addr} {H H':Hp} {G M:HGh} {n:Nat}
theorem Both.same (t:Both C p m H G M n) (s:B1 H H'):Both C p m H' G M n:=⟨t.hs.same s,t.md.same s,t.lk,t.sd,t.on,t.dj,t.tk⟩
def tkM (M:HGh) (r:Str):HGh:={ M with ticks:=M.ticks + (if decide (V.str r=V.str "told")=true then 1 else 0) }
theorem Jae {M G:HGh} (x:LikeW M G) (r s:Str) (v:Vl):LikeW (tkM M r) (tkr (s,v,G)):=by
 have h:LikeW (tkM M r) G:=lw x.num x.made x.hand x.outs x.recs x.holds
 unfold tkr
 dsimp only
 by_cases c:s="told"
 ·rw [if_pos c]; exact h.tk1
 ·rw [if_neg c]; exact h
theorem Jbi (r:Str) (v:Vl) (G:HGh):Am (tkr (r,v,G))=Am G∧(tkr (r,v,G)).ticks=G.ticks + (if decide (V.str r=V.str "told")=true then 1 else 0)∧(tkr (r,v,G)).outs=G.outs:=by
 unfold tkr
 dsimp only
 by_cases c:r="told"
 ·rw [if_pos c,c,Cu]; exact ⟨rfl,rfl,rfl⟩
 ·rw [if_neg c,Kj c]
  refine ⟨rfl,?_,rfl⟩
  rw [show (if false=true then (1:Int) else 0)=0 from rfl,Int.add_zero]
theorem Jbr {G:HGh} {n:Nat} (x:Sd G n) (r:Str) (v:Vl):Sd (tkr (r,v,G)) n:=by
 unfold tkr
 dsimp only
 by_cases c:r="told"
 ·rw [if_pos c]; exact x.tk
 ·rw [if_neg c]; exact x
theorem Both.res (b:Both C p m H G M n) {R:List T2} {rs:List (T2×Int)} {d:Df} {q:Addr} {H0 H2:Hp} (hR:Ok (keepR G R) n) (dq:DeedAt H0 q d) (nm:¬ E6 d) (dg:DGood G n d) (S2:HouseAt C H2 p (tkr (Bl G R rs d))) (N2:ModelAt H2 m (tkM (Bl M R rs d).2.2 (Bl M R rs d).1)) :
 Both C p m H2 (tkr (Bl G R rs d)) (tkM (Bl M R rs d).2.2 (Bl M R rs d).1) (n + 1):=by
 obtain ⟨e1,e2,l⟩:=Qw (R:=R) (rs:=rs) b.lk d
 obtain ⟨f1,f2⟩:=Jo (R:=R) (rs:=rs) G d
 obtain ⟨f3,f4⟩:=Jo (R:=R) (rs:=rs) M d
 obtain ⟨dok,din,dout⟩:=dg
 have hsd:=Jbt (R:=R) (rs:=rs) b.sd hR d dok din (by
  cases d with
  | three w ta tb =>
    obtain ⟨hw,_⟩:=dq
    rcases hw with rfl | rfl | rfl | rfl | rfl | rfl
    ·exact absurd rfl nm
    ·exact .inr (.inr (.inl rfl))
    ·exact .inr (.inr (.inr (.inl rfl)))
    ·exact .inr (.inr (.inr (.inr rfl)))
    ·exact .inr (.inl rfl)
    ·exact .inl rfl
  | wt w tb v=>exact dq.1
  | pass tb sh mine=>trivial
  | lt ts=>trivial)
 have hon:=Jbu (R:=R) (rs:=rs) b.on d dok dout (by
  cases d with
  | three w ta tb=>trivial
  | wt w tb v=>exact dq.1
  | pass tb sh mine=>trivial
  | lt ts=>trivial)
 obtain ⟨t1,t2,t3⟩:=Jbi (Bl G R rs d).1 (Bl G R rs d).2.1 (Bl G R rs d).2.2
 refine ⟨S2,N2,Jae l _ _ _,Jbr hsd _ _,fun q hq=>hon q (by rw [← t3]; exact hq),b.dj.sub (fun b hb=>f1 b (by rw [← t1]; exact hb)) (fun b hb=>f3 b hb),?_⟩
 show (Bl M R rs d).2.2.ticks + _=(tkr ((Bl G R rs d).1,(Bl G R rs d).2.1,(Bl G R rs d).2.2)).ticks
 rw [t2,f2,f4,e1,b.tk]
theorem Both.made (b:Both C p m H G M n) (hn:n < 60) {H1 H2:Hp} {a1 a2:Addr} (h1:H a1=none) (S1:HouseAt C H1 p G) (N1:ModelAt H1 m (tkM (mkG M a1) "told")) (h2:H1 a2=none) (S2:HouseAt C H2 p (tk1 (mkG G a2))) (N2:ModelAt H2 m (tkM (mkG M a1) "told")) :
 Both C p m H2 (tk1 (mkG G a2)) (tkM (mkG M a1) "told") (n + 1):=by
 have l:=b.lk.mk2 a1 a2
 have d1:Dj p m G (tkM (mkG M a1) "told"):=b.dj.mkM b.hs h1
 refine ⟨S2,N2,lw l.num l.made l.hand l.outs l.recs l.holds,(b.sd.mkG hn a2).tk,K16.On.mkG b.on a2,d1.mkH N1 h2,?_⟩
 show M.ticks + (if decide (V.str "told"=V.str "told")=true then 1 else 0)=G.ticks + 1
 rw [Cu,b.tk]; rfl
end
abbrev nL:List Str:=["_law_script","_law_model_here","_law_house","_law_share","_law_cell_here","_law_deed_here","_law_due_here"]
def Off (m:Addr) (M:HGh) (c:Addr):Prop:=c≠m∧c∉Am M
theorem Jas {xs:List V} {lo hi:Option Int} {x:V} (h:x∈Kx xs lo hi):x∈xs:=List.mem_of_mem_drop (List.mem_of_mem_take h)
theorem Jd2 (xs:List V):(Kx xs (some 2) (some 62)).length≤60:=by
 unfold Kx
 rw [List.length_take,show HT.sIx xs.length xs.length (some 62)=min 62 xs.length from HT.sIx_nat _ _ 62,show HT.sIx xs.length 0 (some 2)=min 2 xs.length from HT.sIx_nat _ _ 2]
 lia
def OutM (M:HGh) (R:List T2) (rs:List (T2×Int)) (d:Df) (H:Hp) (M1:HGh) (r:Str) (v:Vl):Prop :=
 (E6 d∧∃ ad,H ad=none∧M1=mkG M ad∧r="told"∧v=.th (M.num,M.made))∨(¬ E6 d∧M1=(Bl M R rs d).2.2∧r=(Bl M R rs d).1∧v=(Bl M R rs d).2.1)
def Jd6 (G:HGh) (R:List T2) (rs:List (T2×Int)) (d:Df) (H:Hp) (G1:HGh) (r:Str) (v:Vl):Prop :=
 (E6 d∧∃ ad,H ad=none∧G1=tk1 (mkG G ad)∧r="told"∧v=.th (G.num,G.made))∨(¬ E6 d∧G1=tkr (Bl G R rs d)∧r=(Bl G R rs d).1∧v=(Bl G R rs d).2.1)
theorem DueKM.of {p:Addr} {M:HGh} {R:List T2} {rs:List (T2×Int)} {d:Df} {H:Hp} {Q:VK} (k:∀ (x:Addr) (M1:HGh) (r:Str) (v:Vl) (H':Hp),OutM M R rs d H M1 r v→ModelAt H' p M1→HFr p M H H'→AnsAt H' x r v→Q (.ref x) H'):DueKM p M R rs d H Q :=
 ⟨fun im x ad H' h1 h2 h3 h4=>k x _ _ _ H' (.inl ⟨im,ad,h1,rfl,rfl,rfl⟩) h2 h3 h4,fun im x H' h2 h3 h4=>k x _ _ _ H' (.inr ⟨im,rfl,rfl,rfl⟩) h2 h3 h4⟩
theorem AnsKG.of {C p:Addr} {G:HGh} {R:List T2} {rs:List (T2×Int)} {d:Df} {H:Hp} {Q:VK} (k:∀ (x:Addr) (G1:HGh) (r:Str) (v:Vl) (H':Hp),Jd6 G R rs d H G1 r v→HouseAt C H' p G1→HFr p G H H'→AnsAt H' x r v→Q (.ref x) H'):AnsKG C p G R rs d H Q :=
 ⟨fun im x ad H' h1 h2 h3 h4=>k x _ _ _ H' (.inl ⟨im,ad,h1,rfl,rfl,rfl⟩) h2 h3 h4,fun im x H' h2 h3 h4=>k x _ _ _ H' (.inr ⟨im,rfl,rfl,rfl⟩) h2 h3 h4⟩
section
variable {C p m:Addr} {H H1 H2:Hp} {G M G1 M1:HGh} {n:Nat} {R:List T2} {rs:List (T2×Int)} {d:Df} {r r2:Str} {v v2:Vl}
theorem OutM.isR (o:OutM M R rs d H M1 r v):isR r:=by
 rcases o with ⟨_,_,_,_,e,_⟩ | ⟨_,_,e,_⟩
 ·exact .inl e
 ·rw [e]; exact Zk ..
theorem OutM.dj (o:OutM M R rs d H M1 r v) (b:Both C p m H G M n):Dj p m G (tkM M1 r):=by
 rcases o with ⟨_,ad,had,e,_,_⟩ | ⟨_,e,_,_⟩
 ·rw [e]; exact b.dj.mkM b.hs had
 ·rw [e]; exact b.dj.sub (fun b hb=>hb) (fun b hb=>(Jo (R:=R) (rs:=rs) M d).1 b hb)
theorem OutM.off (o:OutM M R rs d H M1 r v) {c:Addr} {ob:HO} (hc:H c=some ob) (x:Off m M c):Off m (tkM M1 r) c:=by
 rcases o with ⟨_,ad,had,e,_,_⟩ | ⟨_,e,_,_⟩
 ·rw [e]
  refine ⟨x.1,fun z=>?_⟩
  have z:c∈Am (tk1 (mkG M ad)):=z
  rw [Nq] at z
  rcases List.mem_append.mp z with z | z
  ·exact x.2 z
  ·have e:c=ad:=by simpa using z
   rw [e,had] at hc; cases hc
 ·rw [e]; exact ⟨x.1,fun z=>x.2 ((Jo (R:=R) (rs:=rs) M d).1 c z)⟩
theorem Wi (b:Both C p m H G M n) (hn:n < 60) {q:Addr} {H0:Hp} (hR:Ok (keepR G R) n) (dq:DeedAt H0 q d) (dg:DGood G n d) (o1:OutM M R rs d H M1 r v) (o2:Jd6 G R rs d H1 G1 r2 v2) (S1:HouseAt C H1 p G) (N1:ModelAt H1 m (tkM M1 r)) (S2:HouseAt C H2 p G1) (N2:ModelAt H2 m (tkM M1 r)) :
 Both C p m H2 G1 (tkM M1 r) (n + 1)∧r2=r∧v2=v:=by
 have eN:M.num=G.num:=b.lk.num
 have eM:M.made=G.made:=b.lk.made
 rcases o1 with ⟨im,ad,had,rfl,rfl,rfl⟩ | ⟨im,rfl,rfl,rfl⟩
 ·rcases o2 with ⟨_,a2,h2,rfl,rfl,rfl⟩ | ⟨im2,_⟩
  ·exact ⟨b.made hn had S1 N1 h2 S2 N2,rfl,by rw [eN,eM]⟩
  ·exact absurd im im2
 ·rcases o2 with ⟨im2,_⟩ | ⟨_,rfl,rfl,rfl⟩
  ·exact absurd im2 im
  ·obtain ⟨e1,e2,_⟩:=Qw (R:=R) (rs:=rs) b.lk d
   exact ⟨b.res hR dq im dg S2 N2,e1.symm,e2.symm⟩
end
section
variable {P:Program} {w:World} {K:W.Frag} {mg:Str→Option Value} {base:Heap} {C NHd NNr MI NW HE:Addr}
theorem scL:Ay nL ["_law_script"] (Af K8):={}
theorem Jad {f fS fT fK fMS fDe fDu fAn:Addr} {dS dT dK dMS dDe dDu dAn:FuncData} (T:Txt K mg C NHd NNr MI NW) (Tx:He mg)
 (MS:Mth K C "state" "House.state" Hh ["self"] fS dS) (MT:Mth K C "told" "House.told" Jl ["self","thing"] fT dT) (MK:Mth K C "tick" "House.tick" K0 ["self"] fK dK)
 (MMS:Gdf K mg "_law_state" Fa ["_law_model_here"] fMS dMS) (MDe:Gdf K mg "_law_deed" Fc ["_law_model_here","_law_cell_here","_law_share"] fDe dDe) (MDu:Gdf K mg "_law_due" Qu ["_law_model_here","_law_deed_here"] fDu dDu) (MAn:Gdf K mg "_law_answer" Fd ["_law_house","_law_deed_here"] fAn dAn)
 (GDe:FnOk P w K mg base CX0 2 fDe dDe ["_law_model_here","_law_cell_here","_law_share"] Sm) (GDu:FnOk P w K mg base CX0 3 fDu dDu ["_law_model_here","_law_deed_here"] W3) (GAn:FnOk P w K mg base CX0 6 fAn dAn ["_law_house","_law_deed_here"] (Ls C))
 {cdv:Value} {A:Around} {outer:List Env} {s:Shared} {H:Hp} {Q:VK} {E:XK} (hr:Room 6 (A.deeper (PyProof.Rows.envOfC "law" (Af K8) s.heap.objs.size f cdv))) :
 ∃ t,PSs (Hy CX0 P w K mg base nL "law" (Af K8) f cdv A outer s H E).nox ((As K8).drop 4) t ∧
  ∀ (a p m:Addr) (ns:List Int) (sh:Int) (G M:HGh) (H4:Hp),Scr K H4 a (ns.map V.int)→Both C p m H4 G M 0→2≤sh→(∀ H',Q (.bl true) H') →
   t { nx:=fun _ H'=>Q .non H',rt:=Q } [some (.ref a),some (.ref m),some (.ref p),some (.int sh),none,none,none] H4:=by
 have GS:FnOk P w K mg base CX0 2 fS dS ["self"] (Tv C K):=Xx MS.fn T MT.fn MT.bd MT.mt
 have GK:FnOk P w K mg base CX0 1 fK dK ["self"] (Wv C):=Zx MK.fn T
 have GMS:FnOk P w K mg base CX0 1 fMS dMS ["_law_model_here"] (Qq K):=Vs MMS.fn T
 have hu:=Bv hr
 have hr1:Room 1 _:=hr.mono (by decide)
 have hr2:Room 2 _:=hr.mono (by decide)
 have hr3:Room 3 _:=hr.mono (by decide)
 refine ⟨_,Ad (Hm PassesOwn.never rfl (Cv (Xo Zf (pv 0) (Uj Ai) (Uj Ai))) (Ek (i:=4) scL.nd rfl (Or.inl rfl))
  (Ad (A3 (i:=5) scL.nd rfl (Or.inl rfl) (Bn GDe hr2 (by rfl) MDe.mg MDe.fn.kp MDe.bd .nil Bu (Aa (pv 1) (Aa (pv 4) (Aa (pv 3) Ag)))))
  (Ad (A3 (i:=6) scL.nd rfl (Or.inl rfl) (Bn GDu hr3 (by rfl) MDu.mg MDu.fn.kp MDu.bd .nil Bu (Aa (pv 1) (Aa (pv 5) Ag))))
  (Ad (B9 hu (pv 1) Ak (Aw Ce (Al hu (pv 1) Ak) (B2 Pg (by rfl) Tx.int PyProof.Rows.boot_int (Aa (Li By (Bm Bg (pv 6) Ai) Ak (A4 _)) Ag))) rfl)
  (Ad (A5 (Ap (Jb8 (E7 hr)) (Bn GAn hr (by rfl) MAn.mg MAn.fn.kp MAn.bd .nil Bu (Aa (pv 2) (Aa (pv 5) Ag))) (pv 6) (A4 _)) (Ah (Au K1)) Aq)
  (Ah (A5 (PW.pt (Ja8 (Ap (Xt (E7 hr)) (D5 (pv 2) T.cl MS.mt GS hr2 MS.bd .nil Bu) (Bn GMS hr1 (by rfl) MMS.mg MMS.fn.kp MMS.bd .nil Bu (Aa (pv 1) Ag)) (A4 _)) (Xh (Ap Xu (D5 (pv 2) T.cl MK.mt GK hr1 MK.bd .nil Bu) (Al hu (pv 1) Ak) (A4 _))))) (Ah (Au K1)) Aq)))))))
  (Ah (Au (Jb4 (Li (Xv (E7 hr)) (D5 (pv 2) T.cl MS.mt GS hr2 MS.bd .nil Bu) (Bn GMS hr1 (by rfl) MMS.mg MMS.fn.kp MMS.bd .nil Bu (Aa (pv 1) Ag)) (A4 _)) (Jb2 (Li By (D5 (pv 2) T.cl MK.mt GK hr1 MK.bd .nil Bu) (Al hu (pv 1) Ak) (A4 _)))))),?_⟩
 intro a p m ns sh G0 M0 H4 hS4 b4 hsh k
 refine ⟨_,rfl,_,rfl,_,rfl,a,_,rfl,hS4.sq,fun q hq=>⟨q,rfl,⟨_,SqL.of Ab⟩,?_⟩⟩
 have xs60:=Jd2 (ns.map V.int)
 have xsI:∀ x∈Kx (ns.map V.int) (some 2) (some 62),∃ v:Int,x=.int v:=fun x hx=>by
  obtain ⟨v,_,e⟩:=List.mem_map.mp (Jas hx)
  exact ⟨v,e.symm⟩
 have s5:=Ae (o:=.lst (Kx (ns.map V.int) (some 2) (some 62))) hq
 have eq5:(upd H4 q (.lst (Kx (ns.map V.int) (some 2) (some 62)))) q=some (.lst (Kx (ns.map V.int) (some 2) (some 62))):=Ab
 have nqm:Off m M0 q:=b4.md.new_ne hq
 have b5:=b4.same s5
 generalize Kx (ns.map V.int) (some 2) (some 62)=xs at xs60 xsI s5 eq5 b5 ⊢
 generalize upd H4 q (.lst xs)=H5 at s5 eq5 b5 ⊢
 refine Hv (K:=K) (a:=q) (xs:=xs) (fun i σ H6=>∃ (G M:HGh) (u4 u5 u6:Option V),σ=[some (.ref a),some (.ref m),some (.ref p),some (.int sh),u4,u5,u6]∧Both C p m H6 G M i∧H6 q=some (.lst xs)∧Off m M q)
  ⟨G0,M0,_,_,_,rfl,b5,eq5,nqm⟩ (fun i σ H6 _ h=>let ⟨_,_,_,_,_,_,_,e,_⟩:=h; SqL.of e) ?_ ?_
 ·rintro i x σ H6 hi ⟨G,M,u4,u5,u6,rfl,b,eq,off⟩
  have hi60:i < 60:=by have:=(List.getElem?_eq_some_iff.mp hi).1; lia
  obtain ⟨v,rfl⟩:=xsI x (List.mem_of_getElem? hi)
  obtain ⟨R,rs,hyG,hyM⟩:=Jfl b.sd (by lia) b.lk
  refine ⟨_,rfl,_,rfl,_,rfl,m,v,sh,M,i,rfl,b.md,b.sd.like b.lk,by lia,K16.On.like b.on b.lk,hsh,fun dx d H7 s7 dq dg=>?_⟩
  have b7:=b.same s7
  have eq7:=s7 _ _ eq
  have dgG:=DGood.like b.lk dg
  refine ⟨_,rfl,_,rfl,m,dx,M,i,R,rs,d,rfl,b7.md,hyM,dq,dg.1,DueKM.of fun x1 M1 r v1 H8 o8 N8 fr8 an8=>?_⟩
  obtain ⟨y1,ex1,ev1⟩:=id an8
  refine ⟨_,rfl,m,_,rfl,N8.gTicks,_,rfl,x1,_,_,_,rfl,rfl,SqT.of ex1,rfl,rfl,.inr ⟨_,rfl,_,_,rfl,rfl,_,rfl,m,_,rfl,N8.pTicks _,?_⟩⟩
  have N9:ModelAt (upd H8 m (.dK (Bt (tkM M1 r)))) m (tkM M1 r):=N8.fld M1.made _
  have k9:KeepL H8 (upd H8 m (.dK (Bt (tkM M1 r)))):=⟨N8.kw (b:=m) (.inl rfl) _,fun b xs e=>by
   rw [Ac fun z=>by rw [z,N8.ob] at e; cases e]; exact e⟩
  have fr9:HFr m M H7 (upd H8 m (.dK (Bt (tkM M1 r)))):=fun b o e h1 h2=>by rw [Ac h1]; exact fr8 _ _ e h1 h2
  have dq9:=(dq.keep (b7.md.keepT fr8)).keep k9.1
  have an9:=an8.keep k9
  have S9:=b7.dj.model b7.hs fr9
  have eq9:=fr9 _ _ eq7 off.1 off.2
  have off9:=o8.off eq7 off
  have dj9:=o8.dj b7
  change _
  have e9:upd H8 m (.dK (Bt { M1 with ticks:=M1.ticks + (if decide (V.str r=V.str "told")=true then 1 else 0) }))=upd H8 m (.dK (Bt (tkM M1 r))):=rfl
  refine ⟨_,rfl,_,rfl,p,dx,G,i,R,rs,d,rfl,S9,hyG,dq9,dgG.1,AnsKG.of fun x2 G2 r2 v2 H10 o10 S10 fr10 an10=>?_⟩
  have N10:=dj9.house S9 N9 fr10
  obtain ⟨b10,rfl,rfl⟩:=Wi b7 hi60 hyG.okR dq dgG o8 o10 S9 N9 S10 N10
  have an10':=an9.keep (KeepL.house S9 fr10)
  have eq10:=fr10 _ _ eq9 (S9.lst_ne eq9).1 (S9.lst_ne eq9).2
  have okd:=Jc0 o8.isR v2
  refine ⟨_,rfl,_,_,an10.rep,an10'.rep,okd,okd,_,rfl,?_⟩
  rw [Nt okd]
  refine Be ?_
  obtain ⟨hs,os,rs',gd,tld,gdM,tldM,keM⟩:=Oi b10.sd.ok (by lia) b10.lk
  obtain ⟨dx10,hp10⟩:=b10.hs.ob
  refine ⟨_,rfl,p,dx10,_,rfl,hp10,Bz _ (by decide +kernel),p,G2,hs,os,rs',rfl,b10.hs,gd.h2,gd.o2,gd.r2,tld.pm,tld.pw,tld.rw_,tld.pr,tld.wr,fun x3 H15 s15 _ rep3=>?_⟩
  have b15:=b10.same s15
  refine ⟨_,rfl,m,_,hs,os,rs',rfl,b15.md,gdM,tldM,keM,fun x4 H16 s16 _ rep4=>?_⟩
  have b16:=b15.same s16
  have okS:=Tt hs os rs'
  refine ⟨_,_,.one (rep3.keep (KeepT.of_same s16)),.one rep4,okS,okS,_,rfl,?_⟩
  rw [Nt okS]
  refine Be ?_
  obtain ⟨dx16,hp16⟩:=b16.hs.ob
  refine ⟨_,rfl,p,dx16,_,rfl,hp16,Bz _ (by decide +kernel),p,G2,rfl,b16.hs,_,rfl,m,_,rfl,b16.md.gTicks,rfl,_,rfl,?_⟩
  rw [b16.tk,show (!decide (V.int G2.ticks=V.int G2.ticks))=false by simp]
  exact Be ⟨G2,_,_,_,_,rfl,b16,(Aj s15 s16) _ _ eq10,off9⟩
 ·rintro σ H6 ⟨G,M,u4,u5,u6,rfl,b,eq,off⟩
  obtain ⟨hs,os,rs,gd,tld,gdM,tldM,keM⟩:=Oi b.sd.ok (by lia) b.lk
  obtain ⟨dx6,hp6⟩:=b.hs.ob
  refine ⟨_,rfl,p,dx6,_,rfl,hp6,Bz _ (by decide +kernel),p,G,hs,os,rs,rfl,b.hs,gd.h2,gd.o2,gd.r2,tld.pm,tld.pw,tld.rw_,tld.pr,tld.wr,fun x3 H15 s15 _ rep3=>?_⟩
  have b15:=b.same s15
  refine ⟨_,rfl,m,M,hs,os,rs,rfl,b15.md,gdM,tldM,keM,fun x4 H16 s16 _ rep4=>?_⟩
  have b16:=b15.same s16
  have okS:=Tt hs os rs
  refine ⟨_,_,.one (rep3.keep (KeepT.of_same s16)),.one rep4,okS,okS,_,rfl,?_⟩
  rw [Nt okS]
  obtain ⟨dx16,hp16⟩:=b16.hs.ob
  refine Bk ⟨_,rfl,p,dx16,_,rfl,hp16,Bz _ (by decide +kernel),p,G,rfl,b16.hs,_,rfl,m,_,rfl,b16.md.gTicks,rfl,?_⟩
  rw [b16.tk,show decide (V.int G.ticks=V.int G.ticks)=true by simp]
  exact k _
def T9 (K:W.Frag):Sp:=fun vs H Q _=>∃ (a:Addr) (ns:List Int),vs=[.ref a]∧Scr K H a (ns.map V.int)∧ns.length≤63∧∀ H',Q (.bl true) H'
theorem Jca {f fI fS fT fK fC fMo fMS fDe fDu fAn fA fW fND f1 f2 f3 f4 f5 f6 f7 f8 f9 fa fb fc fd fe fg fh fi fj fk fl fP fR gM gH gF gP gC gO gA gN gB gL gE:Addr} {fd0 dI dS dT dK dC dMo dMS dDe dDu dAn dA dW dND d1 d2 d3 d4 d5 d6 d7 d8 d9 da db dc dd de dg dh di dj dk dl dP dR hM hH hF hP hC hO hA hN hB hL hE:FuncData} (F:Fun K "law" "law" K8 f fd0) (T:Txt K mg C NHd NNr MI NW) (T2:Y6 K mg HE NHd NNr MI NW) (Tx:He mg) (Mm:Mk K C fI)
 (FI:Fun K "__init__" "House.__init__" L8 fI dI) (bI:Binds K dI ["self","number"] [])
 (MS:Mth K C "state" "House.state" Hh ["self"] fS dS) (MT:Mth K C "told" "House.told" Jl ["self","thing"] fT dT) (MK:Mth K C "tick" "House.tick" K0 ["self"] fK dK)
 (M:Hs K mg C f1 f2 f3 f4 f5 f6 f7 f8 f9 fa fb fc fd fe fg fh fi fj fk fl fP fR d1 d2 d3 d4 d5 d6 d7 d8 d9 da db dc dd de dg dh di dj dk dl dP dR)
 (L:Ms K mg gM gH gF gP gC gO gA gN gB gL gE hM hH hF hP hC hO hA hN hB hL hE)
 (MC:Gdf K mg "_law_cell" Mc ["_law_script","_law_k"] fC dC) (MMo:Gdf K mg "_law_model" Iq ["_law_number"] fMo dMo) (MMS:Gdf K mg "_law_state" Fa ["_law_model_here"] fMS dMS)
 (MND:Gdf K mg "_law_near_deed" Gj ["_law_model_here","_law_cell_here","_law_b","_law_share"] fND dND) (MDe:Gdf K mg "_law_deed" Fc ["_law_model_here","_law_cell_here","_law_share"] fDe dDe) (MDu:Gdf K mg "_law_due" Qu ["_law_model_here","_law_deed_here"] fDu dDu)
 (MA:Gdf K mg "_law_ask" Qv ["_law_house","_law_deed_here"] fA dA) (MW:Gdf K mg "_law_which" Hg ["_law_e"] fW dW) (MAn:Gdf K mg "_law_answer" Fd ["_law_house","_law_deed_here"] fAn dAn) :
 FnOk P w K mg base CX0 7 f fd0 ["_law_script"] (T9 K):=by
 have GI:FnOk P w K mg base CX0 1 fI dI ["self","number"] (W0 C):=Z2 FI T
 have GC:FnOk P w K mg base CX0 1 fC dC ["_law_script","_law_k"] (W5 K):=Z7 MC.fn T.len
 have GMo:FnOk P w K mg base CX0 1 fMo dMo ["_law_number"] T1:=X1 MMo.fn
 have GDe:FnOk P w K mg base CX0 2 fDe dDe ["_law_model_here","_law_cell_here","_law_share"] Sm:=Z6 MDe.fn T Tx L.near MND
 have GDu:FnOk P w K mg base CX0 3 fDu dDu ["_law_model_here","_law_deed_here"] W3:=Jcb MDu.fn T Tx L
 have GAn:FnOk P w K mg base CX0 6 fAn dAn ["_law_house","_law_deed_here"] (Ls C):=Vu MAn.fn T T2 Tx M MA MW
 refine F.ok scL (fun vs H Q E h=>?_) (fun cdv A outer s H vs Q E hr h=>?_)
 ·obtain ⟨a,ns,rfl,_⟩:=h
  rfl
 ·obtain ⟨a,ns,rfl,hS,hlen,k⟩:=h
  have hu:=Bv hr
  have hr1:Room 1 _:=hr.mono (by decide)
  have hr2:Room 2 _:=hr.mono (by decide)
  obtain ⟨tl,htl,hsem⟩:=Jad (P:=P) (w:=w) (base:=base) (outer:=outer) (H:=H) (Q:=Q) (E:=E) T Tx MS MT MK MMS MDe MDu MAn GDe GDu GAn hr
  refine ⟨_,Ad (A3 (i:=1) scL.nd rfl (Or.inl rfl) (Bn GMo hr1 (by rfl) MMo.mg MMo.fn.kp MMo.bd .nil Bu (Aa (Aw B7 (Bn GC hr1 (by rfl) MC.mg MC.fn.kp MC.bd .nil Bu (Aa (pv 0) (Aa Ai Ag))) Ai) Ag)))
   (Ad (A3 (i:=2) scL.nd rfl (Or.inl rfl) (Zp Mm GI hr2 (by rfl) T.mgC bI .nil Bu (Aa (Al hu (pv 1) Ak) Ag)))
   (Ad (A3 (i:=3) scL.nd rfl (Or.inl rfl) (Aw Ce Ai (Aw B7 (Aw C0 (Bn GC hr1 (by rfl) MC.mg MC.fn.kp MC.bd .nil Bu (Aa (pv 0) (Aa Ai Ag))) Ai) Ai)))
   (Ad (A5 (Ap By (Aw B7 (Bn GC hr1 (by rfl) MC.mg MC.fn.kp MC.bd .nil Bu (Aa (pv 0) (Aa Ai Ag))) Ai) Ai (A4 _)) (Ah (A3 (i:=3) scL.nd rfl (Or.inl rfl) (Aw Ce Ai (Aw B7 (Aw C0 (Bn GC hr1 (by rfl) MC.mg MC.fn.kp MC.bd .nil Bu (Aa (pv 0) (Aa Ai Ag))) Ai) (Aw Hq Ai Ai))))) Aq)
   htl))),?_⟩
  refine ⟨_,rfl,a,ns,0,rfl,hS.sq,hlen,by decide,by decide,fun v0=>⟨_,_,rfl,rfl,(show (0:Int) < 12 by decide),?_⟩⟩
  have hn0:=Int.emod_nonneg v0 (show (12:Int)≠0 by decide)
  have hn1:=Int.emod_lt_of_pos v0 (show (0:Int) < 12 by decide)
  obtain ⟨n,hn⟩:∃ n:Int,n=v0 % 12:=⟨_,rfl⟩
  rw [← hn] at hn0 hn1
  refine ⟨n,(by rw [hn]; rfl),fun m h0 o0 l0 r0 H1 s1 nm nh no nl nr N1=>?_⟩
  have hS1:=hS.keep (KeepT.of_same s1)
  refine ⟨_,rfl,m,_,rfl,N1.gHouse,fun p dx np ndx nex=>⟨p,dx,n,rfl,Ab,fun hh oo ll rr H2 f1 f2 f3 f4 S2 kp2=>⟨rfl,?_⟩⟩⟩
  have s01:B1 H1 (upd (upd H1 dx (.own p)) p (.ins C dx [])):=fun b o e=>by
   rw [Ac (Ar e np),Ac (Ar e ndx)]
   exact e
  have s2:B1 H1 H2:=fun b o e=>kp2 b o (s01 b o e) (Ar e np)
  have N2:=N1.same s2
  have hS2:=hS1.keep (KeepT.of_same s2)
  have tw2:Both C p m H2 ⟨n,0,0,hh,oo,ll,rr,[],[],[],[]⟩ ⟨n,0,0,h0,o0,l0,r0,[],[],[],[]⟩ 0:=by
   refine ⟨S2,N2,⟨rfl,rfl,rfl,rfl,rfl,rfl,rfl⟩,⟨⟨List.nodup_nil,Nat.le_refl _,List.nodup_nil,Nat.le_refl _,rfl,List.nodup_nil,Nat.le_refl _,fun q hq=>(by cases hq),fun q hq=>(by cases hq),fun q hq=>(by cases hq),fun q hq=>(by cases hq),fun q hq=>(by cases hq)⟩,fun q hq=>(by cases hq),fun t ht=>?_,fun t ht=>?_,hn0,hn1,Int.le_refl _,Int.le_refl _⟩,fun q hq=>(by cases hq),fun b hb=>?_,rfl⟩
   ·rcases ht with ht | ⟨_,hq,_⟩
    ·cases ht
    ·cases hq
   ·rcases ht with ht | ⟨_,hq,_⟩
    ·cases ht
    ·cases hq
   have hb1:∃ o,H1 b=some o:=by
    rcases hb with hb | hb
    ·rw [hb]; exact ⟨_,N1.ob⟩
    ·rcases N1.foot_some hb with ⟨_,e⟩ | ⟨_,e⟩ <;> exact ⟨_,e⟩
   obtain ⟨o,e⟩:=hb1
   refine ⟨Ar e np,fun z=>?_⟩
   have e2:=s01 _ _ e
   simp only [Am,List.map_nil,List.mem_cons,List.not_mem_nil,or_false] at z
   rcases z with z | z | z | z
   ·rw [z,f1] at e2; cases e2
   ·rw [z,f2] at e2; cases e2
   ·rw [z,f3] at e2; cases e2
   ·rw [z,f4] at e2; cases e2
  refine ⟨_,rfl,a,ns,1,rfl,hS2.sq,hlen,by decide,by decide,fun v8=>⟨_,_,rfl,rfl,⟨by decide,by decide⟩,_,_,rfl,rfl,(show (0:Int) < 3 by decide),_,_,rfl,rfl,?_⟩⟩
  refine ⟨_,rfl,a,ns,1,rfl,hS2.sq,hlen,by decide,by decide,fun v9=>⟨_,_,rfl,rfl,(show (0:Int) < 2 by decide),rfl,_,rfl,?_⟩⟩
  refine V3 (fun _=>⟨_,rfl,a,ns,1,rfl,hS2.sq,hlen,by decide,by decide,fun v10=>⟨_,_,rfl,rfl,⟨by decide,by decide⟩,_,_,rfl,rfl,⟨by decide,by decide,by decide⟩,_,_,rfl,rfl,(show (0:Int) < 10 ^ 59 by decide),_,_,rfl,rfl,?_⟩⟩) (fun _=>?_)
  ·exact hsem a p m ns (2 + v10 / 2 % 10 ^ (59:Int).toNat) _ _ H2 hS2 tw2 (by have:0≤v10 / 2 % 10 ^ (59:Int).toNat:=Int.emod_nonneg _ (by decide); lia) k
  ·exact hsem a p m ns (2 + v8 / 2 % 3) _ _ H2 hS2 tw2 (by have:0≤v8 / 2 % 3:=Int.emod_nonneg _ (by decide); lia) k
end
end K16
def PySem.W.Fast.tw16200965502995138390:Unit:=()
def PySem.W.Fast.tw6417538584673045714:Unit:=()
def PySem.W.Fast.tw2139794167664945956:Unit:=()
def PySem.W.Fast.tw6814804093800396701:Unit:=()
def PySem.W.Fast.tw15714558091270551436:Unit:=()
def PySem.W.Fast.tw4216013462269283159:Unit:=()
def PySem.W.Fast.tw17076462123342610794:Unit:=()
def PySem.W.Fast.tw15191448510249313964:Unit:=()
def PySem.W.Fast.tw8246333361130154842:Unit:=()
def PySem.W.Fast.tw14374255856516447078:Unit:=()
def PySem.W.Fast.tw9289356392585349488:Unit:=()
def PySem.W.Fast.tw7572085790916029087:Unit:=()
def PySem.W.Fast.tw10755290890985099781:Unit:=()
def PySem.W.Fast.tw4827998047276667360:Unit:=()
def PySem.W.Fast.tw11091833005886780527:Unit:=()
def PySem.W.Fast.tw12740532119828837146:Unit:=()
def PySem.W.Fast.tw8164451585954067390:Unit:=()
def PySem.W.Fast.tw12641652665138389028:Unit:=()
def PySem.W.Fast.tw1975245423959818404:Unit:=()
def PySem.W.Fast.tw12815858008725156643:Unit:=()
def PySem.W.Fast.tw1947964056575512217:Unit:=()
def PySem.W.Fast.tw4255918878414173209:Unit:=()
def PySem.W.Fast.tw17403315891477143752:Unit:=()
def PySem.W.Fast.tw17902352553552943649:Unit:=()
def PySem.W.Fast.tw12219722957950115665:Unit:=()
def PySem.W.Fast.tw259635112552665242:Unit:=()
def PySem.W.Fast.tw6877908670534356598:Unit:=()
def PySem.W.Fast.tw15851840846899801049:Unit:=()
def PySem.W.Fast.tw1439606523429206342:Unit:=()
def PySem.W.Fast.tw9603940730339694136:Unit:=()
def PySem.W.Fast.tw13999397042163677084:Unit:=()
def PySem.W.Fast.tw3536976703485728481:Unit:=()
def PySem.W.Fast.tw15140004162026754747:Unit:=()
def PySem.W.Fast.tw1111383556021258564:Unit:=()
def PySem.W.Fast.tw16668195182329437218:Unit:=()
def PySem.W.Fast.tw17079016909429024599:Unit:=()
def PySem.W.Fast.tw8725723956617593152:Unit:=()
def PySem.W.Fast.tw3470539847401878349:Unit:=()
def PySem.W.Fast.tw17877039770046021649:Unit:=()
def PySem.W.Fast.tw12588849811401932706:Unit:=()
def PySem.W.Fast.tw5825848545873716477:Unit:=()
def PySem.W.Fast.tw12337826991364113116:Unit:=()
def PySem.W.Fast.tw17683583022808288029:Unit:=()
def PySem.W.Fast.tw2804353038497731748:Unit:=()
def PySem.W.Fast.tw5262964242801103810:Unit:=()
def PySem.W.Fast.tw11243647199365907012:Unit:=()
def PySem.W.Fast.tw8600530009155142740:Unit:=()
def PySem.W.Fast.tw9633792802622395035:Unit:=()
def PySem.W.Fast.tw13512865602312148717:Unit:=()
def PySem.W.Fast.tw14303463689634116347:Unit:=()
def PySem.W.Fast.tw16379137769261960754:Unit:=()
def PySem.W.Fast.tw9786260147463041861:Unit:=()
def PySem.W.Fast.tw3525701735125994983:Unit:=()
def PySem.W.Fast.tw2716363826713652265:Unit:=()
def PySem.W.Fast.tw1208360365072671251:Unit:=()
def PySem.W.Fast.tw9461307745150964599:Unit:=()
def PySem.W.Fast.tw4279076817762966591:Unit:=()
def PySem.W.Fast.tw16186039046153615410:Unit:=()
def PySem.W.Fast.tw9536992470158709275:Unit:=()
def PySem.W.Fast.tw6510766285376777562:Unit:=()
def PySem.W.Fast.tw18099262840435662957:Unit:=()
def PySem.W.Fast.tw2455065123667448686:Unit:=()
def PySem.W.Fast.tw2736556683370594288:Unit:=()
def PySem.W.Fast.tw5465686968961082105:Unit:=()
def PySem.W.Fast.tw8725587083252779036:Unit:=()
def PySem.W.Fast.tw1858995692143425946:Unit:=()
def PySem.W.Fast.tw13232955081198473785:Unit:=()
def PySem.W.Fast.tw16948290761870118777:Unit:=()
def PySem.W.Fast.tw10696330681116676756:Unit:=()
def PySem.W.Fast.tw5567152013258367219:Unit:=()
def PySem.W.Fast.tw13952880852471604295:Unit:=()
def PySem.W.Fast.tw17182335120646507416:Unit:=()
def PySem.W.Fast.tw7511908411555750966:Unit:=()
def PySem.W.Fast.tw9037102549055764575:Unit:=()
def PySem.W.Fast.tw10943211921468511126:Unit:=()
def PySem.W.Fast.tw10778901988907836453:Unit:=()
def PySem.W.Fast.tw4478902863481733091:Unit:=()
def PySem.W.Fast.tw17044500663382522086:Unit:=()
def PySem.W.Fast.tw10598975493153983060:Unit:=()
def PySem.W.Fast.tw3866810804252543319:Unit:=()
def PySem.W.Fast.tw17128864268198271180:Unit:=()
def PySem.W.Fast.tw10833638533091234117:Unit:=()
def PySem.W.Fast.tw12419419800959394172:Unit:=()
def PySem.W.Fast.tw18032693337814380764:Unit:=()
def PySem.W.Fast.tw17132297030174496268:Unit:=()
def PySem.W.Fast.tw4431122521982398843:Unit:=()
def PySem.W.Fast.tw3669033414661681337:Unit:=()
def PySem.W.Fast.tw6878799308458189563:Unit:=()
def PySem.W.Fast.tw10416676599660594296:Unit:=()
def PySem.W.Fast.tw15828436341722400728:Unit:=()
def PySem.W.Fast.tw13415746984525542759:Unit:=()
def PySem.W.Fast.tw17805560040590334715:Unit:=()
def PySem.W.Fast.tw12386725793543011410:Unit:=()
def PySem.W.Fast.tw1329052675538763910:Unit:=()
def PySem.W.Fast.tw473464840164210267:Unit:=()
def PySem.W.Fast.tw6027838698023122275:Unit:=()
def PySem.W.Fast.tw11398771283588395751:Unit:=()
def PySem.W.Fast.tw3452177547921010416:Unit:=()
def PySem.W.Fast.tw12926809723486195093:Unit:=()
def PySem.W.Fast.tw4311439571682273508:Unit:=()
def PySem.W.Fast.tw4040756616581537376:Unit:=()
def PySem.W.Fast.tw8250662895451089079:Unit:=()
def PySem.W.Fast.tw7347238256348769711:Unit:=()
def PySem.W.Fast.tw12706003859327345010:Unit:=()
def PySem.W.Fast.tw11688684236939986422:Unit:=()
namespace K16
open PySem L2 FX
theorem all_mk {l:W.OpenLaw} {w:World} {K:W.Frag} {h:Heap} {mg:Str→Option Value} {fa C HE XH XN XM XW fI fM fHo fDr fTa fFr fPa fCa fAd fGi fPs fCl fLt fTi fSt fTo fNe fQH fQN fQO fPR fAR fLo fGb fR1 fP1 fC1 fMo fMS fMM fMH fMF fW1 fMP fMC fMO fMA fMN fMB fML fME fA1 fAn fDu fND fDe fW:Addr} (X:K.In h) (G:h.Ns mainGlobals mg) (hfa:mg "law"=some (.ref fa))
 {odI anI odM anM odHo anHo odDr anDr odTa anTa odFr anFr odPa anPa odCa anCa odAd anAd odGi anGi odPs anPs odCl anCl odLt anLt odTi anTi odSt anSt odTo anTo odNe anNe odQH anQH odQN anQN odQO anQO odPR anPR odAR anAR odLo anLo odGb anGb odR1 anR1 odP1 anP1 odC1 anC1 odMo anMo odMS anMS odMM anMM odMH anMH odMF anMF odW1 anW1 odMP anMP odMC anMC odMO anMO odMA anMA odMN anMN odMB anMB odML anML odME anME odA1 anA1 odAn anAn odDu anDu odND anND odDe anDe odW anW:Option Addr} {slI slM slHo slDr slTa slFr slPa slCa slAd slGi slPs slCl slLt slTi slSt slTo slNe slQH slQN slQO slPR slAR slLo slGb slR1 slP1 slC1 slMo slMS slMM slMH slMF slW1 slMP slMC slMO slMA slMN slMB slML slME slA1 slAn slDu slND slDe slW:Array (Option Value)} {ocI kVI dcI pmI cdI ctI ocM kVM dcM pmM cdM ctM ocHo kVHo dcHo pmHo cdHo ctHo ocDr kVDr dcDr pmDr cdDr ctDr ocTa kVTa dcTa pmTa cdTa ctTa ocFr kVFr dcFr pmFr cdFr ctFr ocPa kVPa dcPa pmPa cdPa ctPa ocCa kVCa dcCa pmCa cdCa ctCa ocAd kVAd dcAd pmAd cdAd ctAd ocGi kVGi dcGi pmGi cdGi ctGi ocPs kVPs dcPs pmPs cdPs ctPs ocCl kVCl dcCl pmCl cdCl ctCl ocLt kVLt dcLt pmLt cdLt ctLt ocTi kVTi dcTi pmTi cdTi ctTi ocSt kVSt dcSt pmSt cdSt ctSt ocTo kVTo dcTo pmTo cdTo ctTo ocNe kVNe dcNe pmNe cdNe ctNe ocQH kVQH dcQH pmQH cdQH ctQH ocQN kVQN dcQN pmQN cdQN ctQN ocQO kVQO dcQO pmQO cdQO ctQO ocPR kVPR dcPR pmPR cdPR ctPR ocAR kVAR dcAR pmAR cdAR ctAR ocLo kVLo dcLo pmLo cdLo ctLo ocGb kVGb dcGb pmGb cdGb ctGb ocR1 kVR1 dcR1 pmR1 cdR1 ctR1 ocP1 kVP1 dcP1 pmP1 cdP1 ctP1 ocC1 kVC1 dcC1 pmC1 cdC1 ctC1 ocMo kVMo dcMo pmMo cdMo ctMo ocMS kVMS dcMS pmMS cdMS ctMS ocMM kVMM dcMM pmMM cdMM ctMM ocMH kVMH dcMH pmMH cdMH ctMH ocMF kVMF dcMF pmMF cdMF ctMF ocW1 kVW1 dcW1 pmW1 cdW1 ctW1 ocMP kVMP dcMP pmMP cdMP ctMP ocMC kVMC dcMC pmMC cdMC ctMC ocMO kVMO dcMO pmMO cdMO ctMO ocMA kVMA dcMA pmMA cdMA ctMA ocMN kVMN dcMN pmMN cdMN ctMN ocMB kVMB dcMB pmMB cdMB ctMB ocML kVML dcML pmML cdML ctML ocME kVME dcME pmME cdME ctME ocA1 kVA1 dcA1 pmA1 cdA1 ctA1 ocAn kVAn dcAn pmAn cdAn ctAn ocDu kVDu dcDu pmDu cdDu ctDu ocND kVND dcND pmND cdND ctND ocDe kVDe dcDe pmDe cdDe ctDe ocW kVW dcW pmW cdW ctW:Value}
 (aC:W.nsIn K mainGlobals "House"=some (some (.ref C)))
 (aHE:W.nsIn K mainGlobals "HoldError"=some (some (.ref HE)))
 (xHE:W.excIn K HE [.type "ValueError",.type "Exception",.type "BaseException",.type "object"] "ValueError.__new__"=true)
 (aXH:W.nsIn K mainGlobals "NotHeld"=some (some (.ref XH)))
 (aXN:W.nsIn K mainGlobals "NotNear"=some (some (.ref XN)))
 (aXM:W.nsIn K mainGlobals "Missing"=some (some (.ref XM)))
 (aXW:W.nsIn K mainGlobals "NoWeight"=some (some (.ref XW)))
 (q3:W.specialIn K (.builtin "object.__class__") "__get__"=some (some (.builtin "getset_descriptor.__get__")))
 (q4:W.takesIn K (.builtin "object.__class__")=some true)
 (xXH:W.excIn K XH [.type "ValueError",.type "Exception",.type "BaseException",.type "object"] "ValueError.__new__"=true)
 (sXH:W.mroIn K XH (.ref HE)=some true)
 (qaXH:W.findIn K (.ref XH) "__getattribute__"=some (some (.builtin "BaseException.__getattribute__")))
 (qbXH:W.findIn K (.ref XH) "__getattr__"=some none)
 (qcXH:W.findIn K (.ref XH) "__class__"=some (some (.builtin "object.__class__")))
 (qdXH:W.mroIn K XH (.type "object")=some true)
 (qeXH:W.mroIn K XH (.type "BaseException")=some true)
 (tXHXN:W.kitOne K (.ref XH) (.ref XN)=some false)
 (tXHXM:W.kitOne K (.ref XH) (.ref XM)=some false)
 (tXHXW:W.kitOne K (.ref XH) (.ref XW)=some false)
 (xXN:W.excIn K XN [.type "ValueError",.type "Exception",.type "BaseException",.type "object"] "ValueError.__new__"=true)
 (sXN:W.mroIn K XN (.ref HE)=some true)
 (qaXN:W.findIn K (.ref XN) "__getattribute__"=some (some (.builtin "BaseException.__getattribute__")))
 (qbXN:W.findIn K (.ref XN) "__getattr__"=some none)
 (qcXN:W.findIn K (.ref XN) "__class__"=some (some (.builtin "object.__class__")))
 (qdXN:W.mroIn K XN (.type "object")=some true)
 (qeXN:W.mroIn K XN (.type "BaseException")=some true)
 (tXNXH:W.kitOne K (.ref XN) (.ref XH)=some false)
 (tXNXM:W.kitOne K (.ref XN) (.ref XM)=some false)
 (tXNXW:W.kitOne K (.ref XN) (.ref XW)=some false)
 (xXM:W.excIn K XM [.type "ValueError",.type "Exception",.type "BaseException",.type "object"] "ValueError.__new__"=true)
 (sXM:W.mroIn K XM (.ref HE)=some true)
 (qaXM:W.findIn K (.ref XM) "__getattribute__"=some (some (.builtin "BaseException.__getattribute__")))
 (qbXM:W.findIn K (.ref XM) "__getattr__"=some none)
 (qcXM:W.findIn K (.ref XM) "__class__"=some (some (.builtin "object.__class__")))
 (qdXM:W.mroIn K XM (.type "object")=some true)
 (qeXM:W.mroIn K XM (.type "BaseException")=some true)
 (tXMXH:W.kitOne K (.ref XM) (.ref XH)=some false)
 (tXMXN:W.kitOne K (.ref XM) (.ref XN)=some false)
 (tXMXW:W.kitOne K (.ref XM) (.ref XW)=some false)
 (xXW:W.excIn K XW [.type "ValueError",.type "Exception",.type "BaseException",.type "object"] "ValueError.__new__"=true)
 (sXW:W.mroIn K XW (.ref HE)=some true)
 (qaXW:W.findIn K (.ref XW) "__getattribute__"=some (some (.builtin "BaseException.__getattribute__")))
 (qbXW:W.findIn K (.ref XW) "__getattr__"=some none)
 (qcXW:W.findIn K (.ref XW) "__class__"=some (some (.builtin "object.__class__")))
 (qdXW:W.mroIn K XW (.type "object")=some true)
 (qeXW:W.mroIn K XW (.type "BaseException")=some true)
 (tXWXH:W.kitOne K (.ref XW) (.ref XH)=some false)
 (tXWXN:W.kitOne K (.ref XW) (.ref XN)=some false)
 (tXWXM:W.kitOne K (.ref XW) (.ref XM)=some false)
 (aI:W.findIn K (.ref C) "__init__"=some (some (.ref fI)))
 (iI:W.isFn K (.ref fI)=true)
 (lI:K.lookup fI=some ⟨ocI,odI,.func (W.fnOf "__init__" "House.__init__" (Ax L8) (As L8) (Af L8) .none kVI dcI pmI anI cdI ctI),slI⟩)
 (cI:W.codeIn K cdI "House.__init__"=true)
 (kI:W.keepIn K (.ref fI)=true)
 (aM:W.findIn K (.ref C) "make"=some (some (.ref fM)))
 (iM:W.isFn K (.ref fM)=true)
 (lM:K.lookup fM=some ⟨ocM,odM,.func (W.fnOf "make" "House.make" (Ax Lz) (As Lz) (Af Lz) .none kVM dcM pmM anM cdM ctM),slM⟩)
 (cM:W.codeIn K cdM "House.make"=true)
 (kM:W.keepIn K (.ref fM)=true)
 (aHo:W.findIn K (.ref C) "hold"=some (some (.ref fHo)))
 (iHo:W.isFn K (.ref fHo)=true)
 (lHo:K.lookup fHo=some ⟨ocHo,odHo,.func (W.fnOf "hold" "House.hold" (Ax L9) (As L9) (Af L9) .none kVHo dcHo pmHo anHo cdHo ctHo),slHo⟩)
 (cHo:W.codeIn K cdHo "House.hold"=true)
 (kHo:W.keepIn K (.ref fHo)=true)
 (aDr:W.findIn K (.ref C) "drop"=some (some (.ref fDr)))
 (iDr:W.isFn K (.ref fDr)=true)
 (lDr:K.lookup fDr=some ⟨ocDr,odDr,.func (W.fnOf "drop" "House.drop" (Ax Mb) (As Mb) (Af Mb) .none kVDr dcDr pmDr anDr cdDr ctDr),slDr⟩)
 (cDr:W.codeIn K cdDr "House.drop"=true)
 (kDr:W.keepIn K (.ref fDr)=true)
 (aTa:W.findIn K (.ref C) "take"=some (some (.ref fTa)))
 (iTa:W.isFn K (.ref fTa)=true)
 (lTa:K.lookup fTa=some ⟨ocTa,odTa,.func (W.fnOf "take" "House.take" (Ax Lx) (As Lx) (Af Lx) .none kVTa dcTa pmTa anTa cdTa ctTa),slTa⟩)
 (cTa:W.codeIn K cdTa "House.take"=true)
 (kTa:W.keepIn K (.ref fTa)=true)
 (aFr:W.findIn K (.ref C) "free"=some (some (.ref fFr)))
 (iFr:W.isFn K (.ref fFr)=true)
 (lFr:K.lookup fFr=some ⟨ocFr,odFr,.func (W.fnOf "free" "House.free" (Ax Ma) (As Ma) (Af Ma) .none kVFr dcFr pmFr anFr cdFr ctFr),slFr⟩)
 (cFr:W.codeIn K cdFr "House.free"=true)
 (kFr:W.keepIn K (.ref fFr)=true)
 (aPa:W.findIn K (.ref C) "part"=some (some (.ref fPa)))
 (iPa:W.isFn K (.ref fPa)=true)
 (lPa:K.lookup fPa=some ⟨ocPa,odPa,.func (W.fnOf "part" "House.part" (Ax Ly) (As Ly) (Af Ly) .none kVPa dcPa pmPa anPa cdPa ctPa),slPa⟩)
 (cPa:W.codeIn K cdPa "House.part"=true)
 (kPa:W.keepIn K (.ref fPa)=true)
 (aCa:W.findIn K (.ref C) "came"=some (some (.ref fCa)))
 (iCa:W.isFn K (.ref fCa)=true)
 (lCa:K.lookup fCa=some ⟨ocCa,odCa,.func (W.fnOf "came" "House.came" (Ax Md) (As Md) (Af Md) .none kVCa dcCa pmCa anCa cdCa ctCa),slCa⟩)
 (cCa:W.codeIn K cdCa "House.came"=true)
 (kCa:W.keepIn K (.ref fCa)=true)
 (aAd:W.findIn K (.ref C) "added"=some (some (.ref fAd)))
 (iAd:W.isFn K (.ref fAd)=true)
 (lAd:K.lookup fAd=some ⟨ocAd,odAd,.func (W.fnOf "added" "House.added" (Ax Iz) (As Iz) (Af Iz) .none kVAd dcAd pmAd anAd cdAd ctAd),slAd⟩)
 (cAd:W.codeIn K cdAd "House.added"=true)
 (kAd:W.keepIn K (.ref fAd)=true)
 (aGi:W.findIn K (.ref C) "given"=some (some (.ref fGi)))
 (iGi:W.isFn K (.ref fGi)=true)
 (lGi:K.lookup fGi=some ⟨ocGi,odGi,.func (W.fnOf "given" "House.given" (Ax Iw) (As Iw) (Af Iw) .none kVGi dcGi pmGi anGi cdGi ctGi),slGi⟩)
 (cGi:W.codeIn K cdGi "House.given"=true)
 (kGi:W.keepIn K (.ref fGi)=true)
 (aPs:W.findIn K (.ref C) "passed"=some (some (.ref fPs)))
 (iPs:W.isFn K (.ref fPs)=true)
 (lPs:K.lookup fPs=some ⟨ocPs,odPs,.func (W.fnOf "passed" "House.passed" (Ax Gf) (As Gf) (Af Gf) .none kVPs dcPs pmPs anPs cdPs ctPs),slPs⟩)
 (cPs:W.codeIn K cdPs "House.passed"=true)
 (kPs:W.keepIn K (.ref fPs)=true)
 (aCl:W.findIn K (.ref C) "clean"=some (some (.ref fCl)))
 (iCl:W.isFn K (.ref fCl)=true)
 (lCl:K.lookup fCl=some ⟨ocCl,odCl,.func (W.fnOf "clean" "House.clean" (Ax Iy) (As Iy) (Af Iy) .none kVCl dcCl pmCl anCl cdCl ctCl),slCl⟩)
 (cCl:W.codeIn K cdCl "House.clean"=true)
 (kCl:W.keepIn K (.ref fCl)=true)
 (aLt:W.findIn K (.ref C) "let"=some (some (.ref fLt)))
 (iLt:W.isFn K (.ref fLt)=true)
 (lLt:K.lookup fLt=some ⟨ocLt,odLt,.func (W.fnOf "let" "House.let" (Ax So) (As So) (Af So) .none kVLt dcLt pmLt anLt cdLt ctLt),slLt⟩)
 (cLt:W.codeIn K cdLt "House.let"=true)
 (kLt:W.keepIn K (.ref fLt)=true)
 (aTi:W.findIn K (.ref C) "tick"=some (some (.ref fTi)))
 (iTi:W.isFn K (.ref fTi)=true)
 (lTi:K.lookup fTi=some ⟨ocTi,odTi,.func (W.fnOf "tick" "House.tick" (Ax K0) (As K0) (Af K0) .none kVTi dcTi pmTi anTi cdTi ctTi),slTi⟩)
 (cTi:W.codeIn K cdTi "House.tick"=true)
 (kTi:W.keepIn K (.ref fTi)=true)
 (aSt:W.findIn K (.ref C) "state"=some (some (.ref fSt)))
 (iSt:W.isFn K (.ref fSt)=true)
 (lSt:K.lookup fSt=some ⟨ocSt,odSt,.func (W.fnOf "state" "House.state" (Ax Hh) (As Hh) (Af Hh) .none kVSt dcSt pmSt anSt cdSt ctSt),slSt⟩)
 (cSt:W.codeIn K cdSt "House.state"=true)
 (kSt:W.keepIn K (.ref fSt)=true)
 (aTo:W.findIn K (.ref C) "told"=some (some (.ref fTo)))
 (iTo:W.isFn K (.ref fTo)=true)
 (lTo:K.lookup fTo=some ⟨ocTo,odTo,.func (W.fnOf "told" "House.told" (Ax Jl) (As Jl) (Af Jl) .none kVTo dcTo pmTo anTo cdTo ctTo),slTo⟩)
 (cTo:W.codeIn K cdTo "House.told"=true)
 (kTo:W.keepIn K (.ref fTo)=true)
 (aNe:W.findIn K (.ref C) "is_near"=some (some (.ref fNe)))
 (iNe:W.isFn K (.ref fNe)=true)
 (lNe:K.lookup fNe=some ⟨ocNe,odNe,.func (W.fnOf "is_near" "House.is_near" (Ax E9) (As E9) (Af E9) .none kVNe dcNe pmNe anNe cdNe ctNe),slNe⟩)
 (cNe:W.codeIn K cdNe "House.is_near"=true)
 (kNe:W.keepIn K (.ref fNe)=true)
 (aQH:W.findIn K (.ref C) "need_in_hand"=some (some (.ref fQH)))
 (iQH:W.isFn K (.ref fQH)=true)
 (lQH:K.lookup fQH=some ⟨ocQH,odQH,.func (W.fnOf "need_in_hand" "House.need_in_hand" (Ax Dv) (As Dv) (Af Dv) .none kVQH dcQH pmQH anQH cdQH ctQH),slQH⟩)
 (cQH:W.codeIn K cdQH "House.need_in_hand"=true)
 (kQH:W.keepIn K (.ref fQH)=true)
 (aQN:W.findIn K (.ref C) "need_near"=some (some (.ref fQN)))
 (iQN:W.isFn K (.ref fQN)=true)
 (lQN:K.lookup fQN=some ⟨ocQN,odQN,.func (W.fnOf "need_near" "House.need_near" (Ax Ey) (As Ey) (Af Ey) .none kVQN dcQN pmQN anQN cdQN ctQN),slQN⟩)
 (cQN:W.codeIn K cdQN "House.need_near"=true)
 (kQN:W.keepIn K (.ref fQN)=true)
 (aQO:W.findIn K (.ref C) "need_holding"=some (some (.ref fQO)))
 (iQO:W.isFn K (.ref fQO)=true)
 (lQO:K.lookup fQO=some ⟨ocQO,odQO,.func (W.fnOf "need_holding" "House.need_holding" (Ax Ej) (As Ej) (Af Ej) .none kVQO dcQO pmQO anQO cdQO ctQO),slQO⟩)
 (cQO:W.codeIn K cdQO "House.need_holding"=true)
 (kQO:W.keepIn K (.ref fQO)=true)
 (aPR:W.findIn K (.ref C) "part_record"=some (some (.ref fPR)))
 (iPR:W.isFn K (.ref fPR)=true)
 (lPR:K.lookup fPR=some ⟨ocPR,odPR,.func (W.fnOf "part_record" "House.part_record" (Ax Hi) (As Hi) (Af Hi) .none kVPR dcPR pmPR anPR cdPR ctPR),slPR⟩)
 (cPR:W.codeIn K cdPR "House.part_record"=true)
 (kPR:W.keepIn K (.ref fPR)=true)
 (aAR:W.findIn K (.ref C) "add_to_record"=some (some (.ref fAR)))
 (iAR:W.isFn K (.ref fAR)=true)
 (lAR:K.lookup fAR=some ⟨ocAR,odAR,.func (W.fnOf "add_to_record" "House.add_to_record" (Ax Jn) (As Jn) (Af Jn) .none kVAR dcAR pmAR anAR cdAR ctAR),slAR⟩)
 (cAR:W.codeIn K cdAR "House.add_to_record"=true)
 (kAR:W.keepIn K (.ref fAR)=true)
 (aLo:W.findIn K (.ref C) "lose"=some (some (.ref fLo)))
 (iLo:W.isFn K (.ref fLo)=true)
 (lLo:K.lookup fLo=some ⟨ocLo,odLo,.func (W.fnOf "lose" "House.lose" (Ax Hl) (As Hl) (Af Hl) .none kVLo dcLo pmLo anLo cdLo ctLo),slLo⟩)
 (cLo:W.codeIn K cdLo "House.lose"=true)
 (kLo:W.keepIn K (.ref fLo)=true)
 (aGb:W.findIn K (.ref C) "give_back"=some (some (.ref fGb)))
 (iGb:W.isFn K (.ref fGb)=true)
 (lGb:K.lookup fGb=some ⟨ocGb,odGb,.func (W.fnOf "give_back" "House.give_back" (Ax Jm) (As Jm) (Af Jm) .none kVGb dcGb pmGb anGb cdGb ctGb),slGb⟩)
 (cGb:W.codeIn K cdGb "House.give_back"=true)
 (kGb:W.keepIn K (.ref fGb)=true)
 (aR1:W.nsIn K mainGlobals "reached"=some (some (.ref fR1)))
 (lR1:K.lookup fR1=some ⟨ocR1,odR1,.func (W.fnOf "reached" "reached" (Ax D0) (As D0) (Af D0) .none kVR1 dcR1 pmR1 anR1 cdR1 ctR1),slR1⟩)
 (cR1:W.codeIn K cdR1 "reached"=true)
 (kR1:W.keepIn K (.ref fR1)=true)
 (aP1:W.nsIn K mainGlobals "parted"=some (some (.ref fP1)))
 (lP1:K.lookup fP1=some ⟨ocP1,odP1,.func (W.fnOf "parted" "parted" (Ax Ei) (As Ei) (Af Ei) .none kVP1 dcP1 pmP1 anP1 cdP1 ctP1),slP1⟩)
 (cP1:W.codeIn K cdP1 "parted"=true)
 (kP1:W.keepIn K (.ref fP1)=true)
 (aC1:W.nsIn K mainGlobals "_law_cell"=some (some (.ref fC1)))
 (lC1:K.lookup fC1=some ⟨ocC1,odC1,.func (W.fnOf "_law_cell" "_law_cell" (Ax Mc) (As Mc) (Af Mc) .none kVC1 dcC1 pmC1 anC1 cdC1 ctC1),slC1⟩)
 (cC1:W.codeIn K cdC1 "_law_cell"=true)
 (kC1:W.keepIn K (.ref fC1)=true)
 (aMo:W.nsIn K mainGlobals "_law_model"=some (some (.ref fMo)))
 (lMo:K.lookup fMo=some ⟨ocMo,odMo,.func (W.fnOf "_law_model" "_law_model" (Ax Iq) (As Iq) (Af Iq) .none kVMo dcMo pmMo anMo cdMo ctMo),slMo⟩)
 (cMo:W.codeIn K cdMo "_law_model"=true)
 (kMo:W.keepIn K (.ref fMo)=true)
 (aMS:W.nsIn K mainGlobals "_law_state"=some (some (.ref fMS)))
 (lMS:K.lookup fMS=some ⟨ocMS,odMS,.func (W.fnOf "_law_state" "_law_state" (Ax Fa) (As Fa) (Af Fa) .none kVMS dcMS pmMS anMS cdMS ctMS),slMS⟩)
 (cMS:W.codeIn K cdMS "_law_state"=true)
 (kMS:W.keepIn K (.ref fMS)=true)
 (aMM:W.nsIn K mainGlobals "_law_made"=some (some (.ref fMM)))
 (lMM:K.lookup fMM=some ⟨ocMM,odMM,.func (W.fnOf "_law_made" "_law_made" (Ax Ir) (As Ir) (Af Ir) .none kVMM dcMM pmMM anMM cdMM ctMM),slMM⟩)
 (cMM:W.codeIn K cdMM "_law_made"=true)
 (kMM:W.keepIn K (.ref fMM)=true)
 (aMH:W.nsIn K mainGlobals "_law_held"=some (some (.ref fMH)))
 (lMH:K.lookup fMH=some ⟨ocMH,odMH,.func (W.fnOf "_law_held" "_law_held" (Ax Iv) (As Iv) (Af Iv) .none kVMH dcMH pmMH anMH cdMH ctMH),slMH⟩)
 (cMH:W.codeIn K cdMH "_law_held"=true)
 (kMH:W.keepIn K (.ref fMH)=true)
 (aMF:W.nsIn K mainGlobals "_law_freed"=some (some (.ref fMF)))
 (lMF:K.lookup fMF=some ⟨ocMF,odMF,.func (W.fnOf "_law_freed" "_law_freed" (Ax Gk) (As Gk) (Af Gk) .none kVMF dcMF pmMF anMF cdMF ctMF),slMF⟩)
 (cMF:W.codeIn K cdMF "_law_freed"=true)
 (kMF:W.keepIn K (.ref fMF)=true)
 (aW1:W.nsIn K mainGlobals "_law_which"=some (some (.ref fW1)))
 (lW1:K.lookup fW1=some ⟨ocW1,odW1,.func (W.fnOf "_law_which" "_law_which" (Ax Hg) (As Hg) (Af Hg) .none kVW1 dcW1 pmW1 anW1 cdW1 ctW1),slW1⟩)
 (cW1:W.codeIn K cdW1 "_law_which"=true)
 (kW1:W.keepIn K (.ref fW1)=true)
 (aMP:W.nsIn K mainGlobals "_law_parted"=some (some (.ref fMP)))
 (lMP:K.lookup fMP=some ⟨ocMP,odMP,.func (W.fnOf "_law_parted" "_law_parted" (Ax Ez) (As Ez) (Af Ez) .none kVMP dcMP pmMP anMP cdMP ctMP),slMP⟩)
 (cMP:W.codeIn K cdMP "_law_parted"=true)
 (kMP:W.keepIn K (.ref fMP)=true)
 (aMC:W.nsIn K mainGlobals "_law_weight_came"=some (some (.ref fMC)))
 (lMC:K.lookup fMC=some ⟨ocMC,odMC,.func (W.fnOf "_law_weight_came" "_law_weight_came" (Ax Hk) (As Hk) (Af Hk) .none kVMC dcMC pmMC anMC cdMC ctMC),slMC⟩)
 (cMC:W.codeIn K cdMC "_law_weight_came"=true)
 (kMC:W.keepIn K (.ref fMC)=true)
 (aMO:W.nsIn K mainGlobals "_law_hold_came"=some (some (.ref fMO)))
 (lMO:K.lookup fMO=some ⟨ocMO,odMO,.func (W.fnOf "_law_hold_came" "_law_hold_came" (Ax Iu) (As Iu) (Af Iu) .none kVMO dcMO pmMO anMO cdMO ctMO),slMO⟩)
 (cMO:W.codeIn K cdMO "_law_hold_came"=true)
 (kMO:W.keepIn K (.ref fMO)=true)
 (aMA:W.nsIn K mainGlobals "_law_pass_came"=some (some (.ref fMA)))
 (lMA:K.lookup fMA=some ⟨ocMA,odMA,.func (W.fnOf "_law_pass_came" "_law_pass_came" (Ax Fn) (As Fn) (Af Fn) .none kVMA dcMA pmMA anMA cdMA ctMA),slMA⟩)
 (cMA:W.codeIn K cdMA "_law_pass_came"=true)
 (kMA:W.keepIn K (.ref fMA)=true)
 (aMN:W.nsIn K mainGlobals "_law_near"=some (some (.ref fMN)))
 (lMN:K.lookup fMN=some ⟨ocMN,odMN,.func (W.fnOf "_law_near" "_law_near" (Ax E1) (As E1) (Af E1) .none kVMN dcMN pmMN anMN cdMN ctMN),slMN⟩)
 (cMN:W.codeIn K cdMN "_law_near"=true)
 (kMN:W.keepIn K (.ref fMN)=true)
 (aMB:W.nsIn K mainGlobals "_law_backs"=some (some (.ref fMB)))
 (lMB:K.lookup fMB=some ⟨ocMB,odMB,.func (W.fnOf "_law_backs" "_law_backs" (Ax Fb) (As Fb) (Af Fb) .none kVMB dcMB pmMB anMB cdMB ctMB),slMB⟩)
 (cMB:W.codeIn K cdMB "_law_backs"=true)
 (kMB:W.keepIn K (.ref fMB)=true)
 (aML:W.nsIn K mainGlobals "_law_left"=some (some (.ref fML)))
 (lML:K.lookup fML=some ⟨ocML,odML,.func (W.fnOf "_law_left" "_law_left" (Ax Hj) (As Hj) (Af Hj) .none kVML dcML pmML anML cdML ctML),slML⟩)
 (cML:W.codeIn K cdML "_law_left"=true)
 (kML:W.keepIn K (.ref fML)=true)
 (aME:W.nsIn K mainGlobals "_law_cleaned"=some (some (.ref fME)))
 (lME:K.lookup fME=some ⟨ocME,odME,.func (W.fnOf "_law_cleaned" "_law_cleaned" (Ax Dw) (As Dw) (Af Dw) .none kVME dcME pmME anME cdME ctME),slME⟩)
 (cME:W.codeIn K cdME "_law_cleaned"=true)
 (kME:W.keepIn K (.ref fME)=true)
 (aA1:W.nsIn K mainGlobals "_law_ask"=some (some (.ref fA1)))
 (lA1:K.lookup fA1=some ⟨ocA1,odA1,.func (W.fnOf "_law_ask" "_law_ask" (Ax Qv) (As Qv) (Af Qv) .none kVA1 dcA1 pmA1 anA1 cdA1 ctA1),slA1⟩)
 (cA1:W.codeIn K cdA1 "_law_ask"=true)
 (kA1:W.keepIn K (.ref fA1)=true)
 (aAn:W.nsIn K mainGlobals "_law_answer"=some (some (.ref fAn)))
 (lAn:K.lookup fAn=some ⟨ocAn,odAn,.func (W.fnOf "_law_answer" "_law_answer" (Ax Fd) (As Fd) (Af Fd) .none kVAn dcAn pmAn anAn cdAn ctAn),slAn⟩)
 (cAn:W.codeIn K cdAn "_law_answer"=true)
 (kAn:W.keepIn K (.ref fAn)=true)
 (aDu:W.nsIn K mainGlobals "_law_due"=some (some (.ref fDu)))
 (lDu:K.lookup fDu=some ⟨ocDu,odDu,.func (W.fnOf "_law_due" "_law_due" (Ax Qu) (As Qu) (Af Qu) .none kVDu dcDu pmDu anDu cdDu ctDu),slDu⟩)
 (cDu:W.codeIn K cdDu "_law_due"=true)
 (kDu:W.keepIn K (.ref fDu)=true)
 (aND:W.nsIn K mainGlobals "_law_near_deed"=some (some (.ref fND)))
 (lND:K.lookup fND=some ⟨ocND,odND,.func (W.fnOf "_law_near_deed" "_law_near_deed" (Ax Gj) (As Gj) (Af Gj) .none kVND dcND pmND anND cdND ctND),slND⟩)
 (cND:W.codeIn K cdND "_law_near_deed"=true)
 (kND:W.keepIn K (.ref fND)=true)
 (aDe:W.nsIn K mainGlobals "_law_deed"=some (some (.ref fDe)))
 (lDe:K.lookup fDe=some ⟨ocDe,odDe,.func (W.fnOf "_law_deed" "_law_deed" (Ax Fc) (As Fc) (Af Fc) .none kVDe dcDe pmDe anDe cdDe ctDe),slDe⟩)
 (cDe:W.codeIn K cdDe "_law_deed"=true)
 (kDe:W.keepIn K (.ref fDe)=true)
 (aW:W.nsIn K mainGlobals "law"=some (some (.ref fW)))
 (lW:K.lookup fW=some ⟨ocW,odW,.func (W.fnOf "law" "law" (Ax K8) (As K8) (Af K8) .none kVW dcW pmW anW cdW ctW),slW⟩)
 (cW:W.codeIn K cdW "law"=true)
 (kW:W.keepIn K (.ref fW)=true)
 (pgC:W.plainGet K C Str.empty=true)
 (hdC:W.hasDictIn K C=true)
 (poC:W.plainOver K C=true)
 (saC:W.findIn K (.ref C) "__setattr__"=some (some (.builtin "object.__setattr__")))
 (mkC:W.makesIn K C=true)
 (kcC:W.keepIn K (.ref C)=true)
 (nC0:W.findIn K (.ref C) "number"=some none)
 (nC1:W.findIn K (.ref C) "made"=some none)
 (nC2:W.findIn K (.ref C) "ticks"=some none)
 (nC3:W.findIn K (.ref C) "hand"=some none)
 (nC4:W.findIn K (.ref C) "outs"=some none)
 (nC5:W.findIn K (.ref C) "holds"=some none)
 (nC6:W.findIn K (.ref C) "records"=some none)
 (z0:W.nsIn K mainGlobals "len"=some none)
 (z1:W.nsIn K mainGlobals "range"=some none)
 (z2:W.nsIn K mainGlobals "tuple"=some none)
 (z3:W.nsIn K mainGlobals "sorted"=some none)
 (z4:W.nsIn K mainGlobals "isinstance"=some none)
 (z5:W.nsIn K mainGlobals "dict"=some none)
 (z6:W.nsIn K mainGlobals "list"=some none)
 (z7:W.nsIn K mainGlobals "max"=some none)
 (z8:W.nsIn K mainGlobals "min"=some none)
 (z9:W.nsIn K mainGlobals "int"=some none)
 : ∃ fd:FuncData,(∀ (s:Shared) (v:Value),BindsTo s fd ⟨[v],[]⟩ [("_law_script",v)])∧∀ base:Heap,K.In base→base.Ns mainGlobals mg→FnOk l.prog w K mg base CX0 7 fa fd ["_law_script"] (T9 K):=by
 have e:=hfa.symm.trans (W.mg_of X G aW)
 cases e
 have y0:=W.mg_none_of X G z0
 have y1:=W.mg_none_of X G z1
 have y2:=W.mg_none_of X G z2
 have y3:=W.mg_none_of X G z3
 have y4:=W.mg_none_of X G z4
 have y5:=W.mg_none_of X G z5
 have y6:=W.mg_none_of X G z6
 have y7:=W.mg_none_of X G z7
 have y8:=W.mg_none_of X G z8
 have y9:=W.mg_none_of X G z9
 have gC:=W.mg_of X G aC
 have gHE:=W.mg_of X G aHE
 have gXH:=W.mg_of X G aXH
 have gXN:=W.mg_of X G aXN
 have gXM:=W.mg_of X G aXM
 have gXW:=W.mg_of X G aXW
 have FI:=A9 (st:=L8) lI cI kI
 have bI:=FI.binds (ps:=["self","number"]) fun _ _ _ _ _ _ us hl=>match us,hl with | [_,_],_=>rfl
 have FM:=A9 (st:=Lz) lM cM kM
 have bM:=FM.binds (ps:=["self"]) fun _ _ _ _ _ _ us hl=>match us,hl with | [_],_=>rfl
 have FHo:=A9 (st:=L9) lHo cHo kHo
 have bHo:=FHo.binds (ps:=["self","a","b"]) fun _ _ _ _ _ _ us hl=>match us,hl with | [_,_,_],_=>rfl
 have FDr:=A9 (st:=Mb) lDr cDr kDr
 have bDr:=FDr.binds (ps:=["self","a","b"]) fun _ _ _ _ _ _ us hl=>match us,hl with | [_,_,_],_=>rfl
 have FTa:=A9 (st:=Lx) lTa cTa kTa
 have bTa:=FTa.binds (ps:=["self","a","b"]) fun _ _ _ _ _ _ us hl=>match us,hl with | [_,_,_],_=>rfl
 have FFr:=A9 (st:=Ma) lFr cFr kFr
 have bFr:=FFr.binds (ps:=["self","b"]) fun _ _ _ _ _ _ us hl=>match us,hl with | [_,_],_=>rfl
 have FPa:=A9 (st:=Ly) lPa cPa kPa
 have bPa:=FPa.binds (ps:=["self","b","share"]) fun _ _ _ _ _ _ us hl=>match us,hl with | [_,_,_],_=>rfl
 have FCa:=A9 (st:=Md) lCa cCa kCa
 have bCa:=FCa.binds (ps:=["self","b","weight"]) fun _ _ _ _ _ _ us hl=>match us,hl with | [_,_,_],_=>rfl
 have FAd:=A9 (st:=Iz) lAd cAd kAd
 have bAd:=FAd.binds (ps:=["self","b","weight"]) fun _ _ _ _ _ _ us hl=>match us,hl with | [_,_,_],_=>rfl
 have FGi:=A9 (st:=Iw) lGi cGi kGi
 have bGi:=FGi.binds (ps:=["self","b","weight"]) fun _ _ _ _ _ _ us hl=>match us,hl with | [_,_,_],_=>rfl
 have FPs:=A9 (st:=Gf) lPs cPs kPs
 have bPs:=FPs.binds (ps:=["self","b","share","mine"]) fun _ _ _ _ _ _ us hl=>match us,hl with | [_,_,_,_],_=>rfl
 have FCl:=A9 (st:=Iy) lCl cCl kCl
 have bCl:=FCl.binds (ps:=["self"]) fun _ _ _ _ _ _ us hl=>match us,hl with | [_],_=>rfl
 have FLt:=A9 (st:=So) lLt cLt kLt
 have bLt:=FLt.binds (ps:=["self","things"]) fun _ _ _ _ _ _ us hl=>match us,hl with | [_,_],_=>rfl
 have FTi:=A9 (st:=K0) lTi cTi kTi
 have bTi:=FTi.binds (ps:=["self"]) fun _ _ _ _ _ _ us hl=>match us,hl with | [_],_=>rfl
 have FSt:=A9 (st:=Hh) lSt cSt kSt
 have bSt:=FSt.binds (ps:=["self"]) fun _ _ _ _ _ _ us hl=>match us,hl with | [_],_=>rfl
 have FTo:=A9 (st:=Jl) lTo cTo kTo
 have bTo:=FTo.binds (ps:=["self","thing"]) fun _ _ _ _ _ _ us hl=>match us,hl with | [_,_],_=>rfl
 have FNe:=A9 (st:=E9) lNe cNe kNe
 have bNe:=FNe.binds (ps:=["self","thing"]) fun _ _ _ _ _ _ us hl=>match us,hl with | [_,_],_=>rfl
 have FQH:=A9 (st:=Dv) lQH cQH kQH
 have bQH:=FQH.binds (ps:=["self","thing"]) fun _ _ _ _ _ _ us hl=>match us,hl with | [_,_],_=>rfl
 have FQN:=A9 (st:=Ey) lQN cQN kQN
 have bQN:=FQN.binds (ps:=["self","thing"]) fun _ _ _ _ _ _ us hl=>match us,hl with | [_,_],_=>rfl
 have FQO:=A9 (st:=Ej) lQO cQO kQO
 have bQO:=FQO.binds (ps:=["self","a","b"]) fun _ _ _ _ _ _ us hl=>match us,hl with | [_,_,_],_=>rfl
 have FPR:=A9 (st:=Hi) lPR cPR kPR
 have bPR:=FPR.binds (ps:=["self","b"]) fun _ _ _ _ _ _ us hl=>match us,hl with | [_,_],_=>rfl
 have FAR:=A9 (st:=Jn) lAR cAR kAR
 have bAR:=FAR.binds (ps:=["self","b","weight"]) fun _ _ _ _ _ _ us hl=>match us,hl with | [_,_,_],_=>rfl
 have FLo:=A9 (st:=Hl) lLo cLo kLo
 have bLo:=FLo.binds (ps:=["self","things"]) fun _ _ _ _ _ _ us hl=>match us,hl with | [_,_],_=>rfl
 have FGb:=A9 (st:=Jm) lGb cGb kGb
 have bGb:=FGb.binds (ps:=["self"]) fun _ _ _ _ _ _ us hl=>match us,hl with | [_],_=>rfl
 have FR1:=A9 (st:=D0) lR1 cR1 kR1
 have bR1:=FR1.binds (ps:=["starts","holds"]) fun _ _ _ _ _ _ us hl=>match us,hl with | [_,_],_=>rfl
 have gR1:=W.mg_of X G aR1
 have FP1:=A9 (st:=Ei) lP1 cP1 kP1
 have bP1:=FP1.binds (ps:=["weight"]) fun _ _ _ _ _ _ us hl=>match us,hl with | [_],_=>rfl
 have gP1:=W.mg_of X G aP1
 have FC1:=A9 (st:=Mc) lC1 cC1 kC1
 have bC1:=FC1.binds (ps:=["_law_script","_law_k"]) fun _ _ _ _ _ _ us hl=>match us,hl with | [_,_],_=>rfl
 have gC1:=W.mg_of X G aC1
 have FMo:=A9 (st:=Iq) lMo cMo kMo
 have bMo:=FMo.binds (ps:=["_law_number"]) fun _ _ _ _ _ _ us hl=>match us,hl with | [_],_=>rfl
 have gMo:=W.mg_of X G aMo
 have FMS:=A9 (st:=Fa) lMS cMS kMS
 have bMS:=FMS.binds (ps:=["_law_model_here"]) fun _ _ _ _ _ _ us hl=>match us,hl with | [_],_=>rfl
 have gMS:=W.mg_of X G aMS
 have FMM:=A9 (st:=Ir) lMM cMM kMM
 have bMM:=FMM.binds (ps:=["_law_model_here"]) fun _ _ _ _ _ _ us hl=>match us,hl with | [_],_=>rfl
 have gMM:=W.mg_of X G aMM
 have FMH:=A9 (st:=Iv) lMH cMH kMH
 have bMH:=FMH.binds (ps:=["_law_model_here","_law_word","_law_a","_law_b"]) fun _ _ _ _ _ _ us hl=>match us,hl with | [_,_,_,_],_=>rfl
 have gMH:=W.mg_of X G aMH
 have FMF:=A9 (st:=Gk) lMF cMF kMF
 have bMF:=FMF.binds (ps:=["_law_model_here","_law_b"]) fun _ _ _ _ _ _ us hl=>match us,hl with | [_,_],_=>rfl
 have gMF:=W.mg_of X G aMF
 have FW1:=A9 (st:=Hg) lW1 cW1 kW1
 have bW1:=FW1.binds (ps:=["_law_e"]) fun _ _ _ _ _ _ us hl=>match us,hl with | [_],_=>rfl
 have gW1:=W.mg_of X G aW1
 have FMP:=A9 (st:=Ez) lMP cMP kMP
 have bMP:=FMP.binds (ps:=["_law_model_here","_law_b","_law_share"]) fun _ _ _ _ _ _ us hl=>match us,hl with | [_,_,_],_=>rfl
 have gMP:=W.mg_of X G aMP
 have FMC:=A9 (st:=Hk) lMC cMC kMC
 have bMC:=FMC.binds (ps:=["_law_model_here","_law_b","_law_weight"]) fun _ _ _ _ _ _ us hl=>match us,hl with | [_,_,_],_=>rfl
 have gMC:=W.mg_of X G aMC
 have FMO:=A9 (st:=Iu) lMO cMO kMO
 have bMO:=FMO.binds (ps:=["_law_model_here","_law_b","_law_weight"]) fun _ _ _ _ _ _ us hl=>match us,hl with | [_,_,_],_=>rfl
 have gMO:=W.mg_of X G aMO
 have FMA:=A9 (st:=Fn) lMA cMA kMA
 have bMA:=FMA.binds (ps:=["_law_model_here","_law_b","_law_share","_law_mine"]) fun _ _ _ _ _ _ us hl=>match us,hl with | [_,_,_,_],_=>rfl
 have gMA:=W.mg_of X G aMA
 have FMN:=A9 (st:=E1) lMN cMN kMN
 have bMN:=FMN.binds (ps:=["_law_model_here","_law_starts"]) fun _ _ _ _ _ _ us hl=>match us,hl with | [_,_],_=>rfl
 have gMN:=W.mg_of X G aMN
 have FMB:=A9 (st:=Fb) lMB cMB kMB
 have bMB:=FMB.binds (ps:=["_law_model_here"]) fun _ _ _ _ _ _ us hl=>match us,hl with | [_],_=>rfl
 have gMB:=W.mg_of X G aMB
 have FML:=A9 (st:=Hj) lML cML kML
 have bML:=FML.binds (ps:=["_law_model_here","_law_near_here"]) fun _ _ _ _ _ _ us hl=>match us,hl with | [_,_],_=>rfl
 have gML:=W.mg_of X G aML
 have FME:=A9 (st:=Dw) lME cME kME
 have bME:=FME.binds (ps:=["_law_model_here"]) fun _ _ _ _ _ _ us hl=>match us,hl with | [_],_=>rfl
 have gME:=W.mg_of X G aME
 have FA1:=A9 (st:=Qv) lA1 cA1 kA1
 have bA1:=FA1.binds (ps:=["_law_house","_law_deed_here"]) fun _ _ _ _ _ _ us hl=>match us,hl with | [_,_],_=>rfl
 have gA1:=W.mg_of X G aA1
 have FAn:=A9 (st:=Fd) lAn cAn kAn
 have bAn:=FAn.binds (ps:=["_law_house","_law_deed_here"]) fun _ _ _ _ _ _ us hl=>match us,hl with | [_,_],_=>rfl
 have gAn:=W.mg_of X G aAn
 have FDu:=A9 (st:=Qu) lDu cDu kDu
 have bDu:=FDu.binds (ps:=["_law_model_here","_law_deed_here"]) fun _ _ _ _ _ _ us hl=>match us,hl with | [_,_],_=>rfl
 have gDu:=W.mg_of X G aDu
 have FND:=A9 (st:=Gj) lND cND kND
 have bND:=FND.binds (ps:=["_law_model_here","_law_cell_here","_law_b","_law_share"]) fun _ _ _ _ _ _ us hl=>match us,hl with | [_,_,_,_],_=>rfl
 have gND:=W.mg_of X G aND
 have FDe:=A9 (st:=Fc) lDe cDe kDe
 have bDe:=FDe.binds (ps:=["_law_model_here","_law_cell_here","_law_share"]) fun _ _ _ _ _ _ us hl=>match us,hl with | [_,_,_],_=>rfl
 have gDe:=W.mg_of X G aDe
 have FW:=A9 (st:=K8) lW cW kW
 have T2:Y6 K mg HE XH XN XM XW:=⟨⟨gHE,xHE⟩,⟨sXH,⟨qaXH,qbXH,qcXH,q3,q4,qdXH,qeXH,Gz qdXH⟩,Ka,tXHXN,tXHXM,tXHXW⟩,⟨sXN,⟨qaXN,qbXN,qcXN,q3,q4,qdXN,qeXN,Gz qdXN⟩,tXNXH,Ka,tXNXM,tXNXW⟩,⟨sXM,⟨qaXM,qbXM,qcXM,q3,q4,qdXM,qeXM,Gz qdXM⟩,tXMXH,tXMXN,Ka,tXMXW⟩,⟨sXW,⟨qaXW,qbXW,qcXW,q3,q4,qdXW,qeXW,Gz qdXW⟩,tXWXH,tXWXN,tXWXM,Ka⟩⟩
 have T3:He mg:=⟨y5,y6,y7,y8,y9⟩
 have Mh:Hs K mg C fNe fQH fQN fQO fAR fPR fHo fDr fTa fFr fPa fCa fAd fGi fPs fCl fLt fLo fGb fM fP1 fR1 _ _ _ _ _ _ _ _ _ _ _ _ _ _ _ _ _ _ _ _ _ _:=⟨⟨FNe,bNe,⟨aNe,iNe,kNe⟩⟩,⟨FQH,bQH,⟨aQH,iQH,kQH⟩⟩,⟨FQN,bQN,⟨aQN,iQN,kQN⟩⟩,⟨FQO,bQO,⟨aQO,iQO,kQO⟩⟩,⟨FAR,bAR,⟨aAR,iAR,kAR⟩⟩,⟨FPR,bPR,⟨aPR,iPR,kPR⟩⟩,⟨FHo,bHo,⟨aHo,iHo,kHo⟩⟩,⟨FDr,bDr,⟨aDr,iDr,kDr⟩⟩,⟨FTa,bTa,⟨aTa,iTa,kTa⟩⟩,⟨FFr,bFr,⟨aFr,iFr,kFr⟩⟩,⟨FPa,bPa,⟨aPa,iPa,kPa⟩⟩,⟨FCa,bCa,⟨aCa,iCa,kCa⟩⟩,⟨FAd,bAd,⟨aAd,iAd,kAd⟩⟩,⟨FGi,bGi,⟨aGi,iGi,kGi⟩⟩,⟨FPs,bPs,⟨aPs,iPs,kPs⟩⟩,⟨FCl,bCl,⟨aCl,iCl,kCl⟩⟩,⟨FLt,bLt,⟨aLt,iLt,kLt⟩⟩,⟨FLo,bLo,⟨aLo,iLo,kLo⟩⟩,⟨FGb,bGb,⟨aGb,iGb,kGb⟩⟩,⟨FM,bM,⟨aM,iM,kM⟩⟩,⟨FP1,bP1,gP1⟩,⟨FR1,bR1,gR1⟩⟩
 have Ml:Ms K mg fMM fMH fMF fMP fMC fMO fMA fMN fMB fML fME _ _ _ _ _ _ _ _ _ _ _:=⟨⟨FMM,bMM,gMM⟩,⟨FMH,bMH,gMH⟩,⟨FMF,bMF,gMF⟩,⟨FMP,bMP,gMP⟩,⟨FMC,bMC,gMC⟩,⟨FMO,bMO,gMO⟩,⟨FMA,bMA,gMA⟩,⟨FMN,bMN,gMN⟩,⟨FMB,bMB,gMB⟩,⟨FML,bML,gML⟩,⟨FME,bME,gME⟩⟩
 have T:Txt K mg C XH XN XM XW:=⟨⟨pgC,hdC,poC,saC⟩,nC0,nC1,nC2,nC3,nC4,nC5,nC6,gC,⟨gXH,xXH⟩,⟨gXN,xXN⟩,⟨gXM,xXM⟩,⟨gXW,xXW⟩,y0,y1,y2,y3,y4⟩
 exact ⟨W.fnOf "law" "law" (Ax K8) (As K8) (Af K8) .none kVW dcW pmW anW cdW ctW,fun s v=>.of_eq rfl,fun base _ _=>Jca FW T T2 T3 ⟨mkC,aI,iI,kcC⟩ FI bI ⟨FSt,bSt,⟨aSt,iSt,kSt⟩⟩ ⟨FTo,bTo,⟨aTo,iTo,kTo⟩⟩ ⟨FTi,bTi,⟨aTi,iTi,kTi⟩⟩ Mh Ml ⟨FC1,bC1,gC1⟩ ⟨FMo,bMo,gMo⟩ ⟨FMS,bMS,gMS⟩ ⟨FND,bND,gND⟩ ⟨FDe,bDe,gDe⟩ ⟨FDu,bDu,gDu⟩ ⟨FA1,bA1,gA1⟩ ⟨FW1,bW1,gW1⟩ ⟨FAn,bAn,gAn⟩⟩
theorem walk {l:W.OpenLaw} {q:Program} {loose:List Str} {XP:(Str→Option Value)→Heap→Prop} {YP:World→Heap→Prop} {d:DefRec} {K:Params→W.Frag} (hn:l.most=some 63) (hdf:d.params.defaults=[])
 (hY:∀ (w:World) (h:Heap),YP w h→(K w.params).In h)
 (F:∀ (w:World) (mg:Str→Option Value) (fa:Addr) (h:Heap),(K w.params).In h→h.Ns mainGlobals mg→mg d.name=some (.ref fa) →
  ∃ fd:FuncData,(∀ (s:Shared) (u:Value),BindsTo s fd ⟨[u],[]⟩ [("_law_script",u)])∧∀ base:Heap,(K w.params).In base→base.Ns mainGlobals mg→FnOk l.prog w (K w.params) mg base CX0 7 fa fd ["_law_script"] (T9 (K w.params))) :
 W.WalkO q loose XP YP l.row.toRowW d [] (fun f vs=>PySem.call f vs) :=
 L2.walk_of (n:=63) (k:=7) (x:="_law_script") (CX:=fun w=>CX0) (sp:=fun w=>T9 (K w.params)) hn (by decide) hdf ⟨rfl,by decide,by decide⟩ hY F (fun _ H a ns hl hO hS=>⟨a,ns,rfl,Scr.of hO hS,hl,fun _=>rfl⟩) fun _ _ _ _ _ z=>z
end K16
open PySem PySem.W PyProof.Rows
set_option maxRecDepth 100000 in
set_option maxHeartbeats 0 in
theorem PySem.Challenge.cw_farhold_k16_whole_house_holds : PySem.Challenge.rw_farhold_k16_whole_house.Holds := by
 w_on; o_law; k_head; (case hw=>w_witness2)
 k_fill
 refine K16.walk (l:=PySem.Challenge.rw_farhold_k16_whole_house) rfl rfl (fun w h Y=>W.kIn_of Y) ?F
 case F =>
  intro w mg fa h KX G hmg
  refine' K16.all_mk KX G hmg ?aC ?aHE ?xHE ?aXH ?aXN ?aXM ?aXW ?q3 ?q4 ?xXH ?sXH ?qaXH ?qbXH ?qcXH ?qdXH ?qeXH ?tXHXN ?tXHXM ?tXHXW ?xXN ?sXN ?qaXN ?qbXN ?qcXN ?qdXN ?qeXN ?tXNXH ?tXNXM ?tXNXW ?xXM ?sXM ?qaXM ?qbXM ?qcXM ?qdXM ?qeXM ?tXMXH ?tXMXN ?tXMXW ?xXW ?sXW ?qaXW ?qbXW ?qcXW ?qdXW ?qeXW ?tXWXH ?tXWXN ?tXWXM ?aI ?iI ?lI ?cI ?kI ?aM ?iM ?lM ?cM ?kM ?aHo ?iHo ?lHo ?cHo ?kHo ?aDr ?iDr ?lDr ?cDr ?kDr ?aTa ?iTa ?lTa ?cTa ?kTa ?aFr ?iFr ?lFr ?cFr ?kFr ?aPa ?iPa ?lPa ?cPa ?kPa ?aCa ?iCa ?lCa ?cCa ?kCa ?aAd ?iAd ?lAd ?cAd ?kAd ?aGi ?iGi ?lGi ?cGi ?kGi ?aPs ?iPs ?lPs ?cPs ?kPs ?aCl ?iCl ?lCl ?cCl ?kCl ?aLt ?iLt ?lLt ?cLt ?kLt ?aTi ?iTi ?lTi ?cTi ?kTi ?aSt ?iSt ?lSt ?cSt ?kSt ?aTo ?iTo ?lTo ?cTo ?kTo ?aNe ?iNe ?lNe ?cNe ?kNe ?aQH ?iQH ?lQH ?cQH ?kQH ?aQN ?iQN ?lQN ?cQN ?kQN ?aQO ?iQO ?lQO ?cQO ?kQO ?aPR ?iPR ?lPR ?cPR ?kPR ?aAR ?iAR ?lAR ?cAR ?kAR ?aLo ?iLo ?lLo ?cLo ?kLo ?aGb ?iGb ?lGb ?cGb ?kGb ?aR1 ?lR1 ?cR1 ?kR1 ?aP1 ?lP1 ?cP1 ?kP1 ?aC1 ?lC1 ?cC1 ?kC1 ?aMo ?lMo ?cMo ?kMo ?aMS ?lMS ?cMS ?kMS ?aMM ?lMM ?cMM ?kMM ?aMH ?lMH ?cMH ?kMH ?aMF ?lMF ?cMF ?kMF ?aW1 ?lW1 ?cW1 ?kW1 ?aMP ?lMP ?cMP ?kMP ?aMC ?lMC ?cMC ?kMC ?aMO ?lMO ?cMO ?kMO ?aMA ?lMA ?cMA ?kMA ?aMN ?lMN ?cMN ?kMN ?aMB ?lMB ?cMB ?kMB ?aML ?lML ?cML ?kML ?aME ?lME ?cME ?kME ?aA1 ?lA1 ?cA1 ?kA1 ?aAn ?lAn ?cAn ?kAn ?aDu ?lDu ?cDu ?kDu ?aND ?lND ?cND ?kND ?aDe ?lDe ?cDe ?kDe ?aW ?lW ?cW ?kW ?pgC ?hdC ?poC ?saC ?mkC ?kcC ?nC0 ?nC1 ?nC2 ?nC3 ?nC4 ?nC5 ?nC6 ?z0 ?z1 ?z2 ?z3 ?z4 ?z5 ?z6 ?z7 ?z8 ?z9
  (case aC=>k_is); (case aHE=>k_is); (case xHE=>k_exc); (case aXH=>k_is); (case aXN=>k_is); (case aXM=>k_is)
  (case aXW=>k_is); (case q3=>k_is); (case q4=>k_is); (case xXH=>k_exc); (case sXH=>k_is); (case qaXH=>k_is)
  (case qbXH=>k_is); (case qcXH=>k_is); (case qdXH=>k_is); (case qeXH=>k_is); (case tXHXN=>kit_is); (case tXHXM=>kit_is)
  (case tXHXW=>kit_is); (case xXN=>k_exc); (case sXN=>k_is); (case qaXN=>k_is); (case qbXN=>k_is); (case qcXN=>k_is)
  (case qdXN=>k_is); (case qeXN=>k_is); (case tXNXH=>kit_is); (case tXNXM=>kit_is); (case tXNXW=>kit_is); (case xXM=>k_exc)
  (case sXM=>k_is); (case qaXM=>k_is); (case qbXM=>k_is); (case qcXM=>k_is); (case qdXM=>k_is); (case qeXM=>k_is)
  (case tXMXH=>kit_is); (case tXMXN=>kit_is); (case tXMXW=>kit_is); (case xXW=>k_exc); (case sXW=>k_is); (case qaXW=>k_is)
  (case qbXW=>k_is); (case qcXW=>k_is); (case qdXW=>k_is); (case qeXW=>k_is); (case tXWXH=>kit_is); (case tXWXN=>kit_is)
  (case tXWXM=>kit_is); (case aI=>k_is); (case iI=>k_is); (case lI=>k_is); (case cI=>k_is); (case kI=>k_is)
  (case aM=>k_is); (case iM=>k_is); (case lM=>k_is); (case cM=>k_is); (case kM=>k_is); (case aHo=>k_is)
  (case iHo=>k_is); (case lHo=>k_is); (case cHo=>k_is); (case kHo=>k_is); (case aDr=>k_is); (case iDr=>k_is)
  (case lDr=>k_is); (case cDr=>k_is); (case kDr=>k_is); (case aTa=>k_is); (case iTa=>k_is); (case lTa=>k_is)
  (case cTa=>k_is); (case kTa=>k_is); (case aFr=>k_is); (case iFr=>k_is); (case lFr=>k_is); (case cFr=>k_is)
  (case kFr=>k_is); (case aPa=>k_is); (case iPa=>k_is); (case lPa=>k_is); (case cPa=>k_is); (case kPa=>k_is)
  (case aCa=>k_is); (case iCa=>k_is); (case lCa=>k_is); (case cCa=>k_is); (case kCa=>k_is); (case aAd=>k_is)
  (case iAd=>k_is); (case lAd=>k_is); (case cAd=>k_is); (case kAd=>k_is); (case aGi=>k_is); (case iGi=>k_is)
  (case lGi=>k_is); (case cGi=>k_is); (case kGi=>k_is); (case aPs=>k_is); (case iPs=>k_is); (case lPs=>k_is)
  (case cPs=>k_is); (case kPs=>k_is); (case aCl=>k_is); (case iCl=>k_is); (case lCl=>k_is); (case cCl=>k_is)
  (case kCl=>k_is); (case aLt=>k_is); (case iLt=>k_is); (case lLt=>k_is); (case cLt=>k_is); (case kLt=>k_is)
  (case aTi=>k_is); (case iTi=>k_is); (case lTi=>k_is); (case cTi=>k_is); (case kTi=>k_is); (case aSt=>k_is)
  (case iSt=>k_is); (case lSt=>k_is); (case cSt=>k_is); (case kSt=>k_is); (case aTo=>k_is); (case iTo=>k_is)
  (case lTo=>k_is); (case cTo=>k_is); (case kTo=>k_is); (case aNe=>k_is); (case iNe=>k_is); (case lNe=>k_is)
  (case cNe=>k_is); (case kNe=>k_is); (case aQH=>k_is); (case iQH=>k_is); (case lQH=>k_is); (case cQH=>k_is)
  (case kQH=>k_is); (case aQN=>k_is); (case iQN=>k_is); (case lQN=>k_is); (case cQN=>k_is); (case kQN=>k_is)
  (case aQO=>k_is); (case iQO=>k_is); (case lQO=>k_is); (case cQO=>k_is); (case kQO=>k_is); (case aPR=>k_is)
  (case iPR=>k_is); (case lPR=>k_is); (case cPR=>k_is); (case kPR=>k_is); (case aAR=>k_is); (case iAR=>k_is)
  (case lAR=>k_is); (case cAR=>k_is); (case kAR=>k_is); (case aLo=>k_is); (case iLo=>k_is); (case lLo=>k_is)
  (case cLo=>k_is); (case kLo=>k_is); (case aGb=>k_is); (case iGb=>k_is); (case lGb=>k_is); (case cGb=>k_is)
  (case kGb=>k_is); (case aR1=>k_is); (case lR1=>k_is); (case cR1=>k_is); (case kR1=>k_is); (case aP1=>k_is)
  (case lP1=>k_is); (case cP1=>k_is); (case kP1=>k_is); (case aC1=>k_is); (case lC1=>k_is); (case cC1=>k_is)
  (case kC1=>k_is); (case aMo=>k_is); (case lMo=>k_is); (case cMo=>k_is); (case kMo=>k_is); (case aMS=>k_is)
  (case lMS=>k_is); (case cMS=>k_is); (case kMS=>k_is); (case aMM=>k_is); (case lMM=>k_is); (case cMM=>k_is)
  (case kMM=>k_is); (case aMH=>k_is); (case lMH=>k_is); (case cMH=>k_is); (case kMH=>k_is); (case aMF=>k_is)
  (case lMF=>k_is); (case cMF=>k_is); (case kMF=>k_is); (case aW1=>k_is); (case lW1=>k_is); (case cW1=>k_is)
  (case kW1=>k_is); (case aMP=>k_is); (case lMP=>k_is); (case cMP=>k_is); (case kMP=>k_is); (case aMC=>k_is)
  (case lMC=>k_is); (case cMC=>k_is); (case kMC=>k_is); (case aMO=>k_is); (case lMO=>k_is); (case cMO=>k_is)
  (case kMO=>k_is); (case aMA=>k_is); (case lMA=>k_is); (case cMA=>k_is); (case kMA=>k_is); (case aMN=>k_is)
  (case lMN=>k_is); (case cMN=>k_is); (case kMN=>k_is); (case aMB=>k_is); (case lMB=>k_is); (case cMB=>k_is)
  (case kMB=>k_is); (case aML=>k_is); (case lML=>k_is); (case cML=>k_is); (case kML=>k_is); (case aME=>k_is)
  (case lME=>k_is); (case cME=>k_is); (case kME=>k_is); (case aA1=>k_is); (case lA1=>k_is); (case cA1=>k_is)
  (case kA1=>k_is); (case aAn=>k_is); (case lAn=>k_is); (case cAn=>k_is); (case kAn=>k_is); (case aDu=>k_is)
  (case lDu=>k_is); (case cDu=>k_is); (case kDu=>k_is); (case aND=>k_is); (case lND=>k_is); (case cND=>k_is)
  (case kND=>k_is); (case aDe=>k_is); (case lDe=>k_is); (case cDe=>k_is); (case kDe=>k_is); (case aW=>k_is)
  (case lW=>k_is); (case cW=>k_is); (case kW=>k_is); (case pgC=>k_is); (case hdC=>k_is); (case poC=>k_is)
  (case saC=>k_is); (case mkC=>k_is); (case kcC=>k_is); (case nC0=>k_is); (case nC1=>k_is); (case nC2=>k_is)
  (case nC3=>k_is); (case nC4=>k_is); (case nC5=>k_is); (case nC6=>k_is); (case z0=>k_is); (case z1=>k_is)
  (case z2=>k_is); (case z3=>k_is); (case z4=>k_is); (case z5=>k_is); (case z6=>k_is); (case z7=>k_is)
  (case z8=>k_is); (case z9=>k_is)
