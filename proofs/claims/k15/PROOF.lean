import PyProof.Rows.All
import Wide.All
import OpenK.AllK
import Wide.FinOn
import Lean
import PyProof.EqAt
import PyProof.EqKinds
import PyProof.TupleCall
import PySem.Challenge.RW_farhold_k15_let
set_option Elab.async false
set_option linter.all false
set_option maxRecDepth 100000
/-! THE HAND LAYER, for ints, bools, texts, own classes, DICTS (int and text keys), calls, loops. Paste it whole ahead of your own text; what your proof does not reach may be deleted. -/
namespace L2
open PySem PySem.Spec PyProof.Rows

/-- a key: an int or a str -/
abbrev Key := Sum Int Str
def keyIs : Key → Value → Bool
  | .inl k, v => Value.isInt k v
  | .inr x, v => Value.isStrOf x v
def keyH (w : World) : Key → Int
  | .inl k => hashInt k
  | .inr x => hashStr w x
theorem keyIs_shape : ∀ {k : Key} {v : Value}, keyIs k v = true → (∃ i t, k = Sum.inl i ∧ v = Value.int i t) ∨ (∃ x t, k = Sum.inr x ∧ v = Value.str x t)
  | .inl i, v, h => by
    obtain ⟨t, e⟩ := Value.isInt_shape (k := i) (v := v) h
    exact .inl ⟨i, t, rfl, e⟩
  | .inr x, v, h => by
    obtain ⟨t, e⟩ := Value.isStrOf_shape (x := x) (v := v) h
    exact .inr ⟨x, t, rfl, e⟩
theorem keyIs_int (i : Int) (t : Tok) : keyIs (.inl i) (.int i t) = true := by simp [keyIs, Value.isInt]
theorem keyIs_str (x : Str) (t : Tok) : keyIs (.inr x) (.str x t) = true := by simp [keyIs, Value.isStrOf]
theorem key_ll (a b : Int) : decide ((Sum.inl a : Key) = Sum.inl b) = (a == b) := by
  by_cases e : a = b
  · subst e; simp
  · have h : ¬ (Sum.inl a : Key) = Sum.inl b := fun q => e (Sum.inl.inj q)
    rw [decide_eq_false h]
    exact (beq_eq_false_iff_ne.mpr e).symm
theorem key_rr (a b : Str) : decide ((Sum.inr a : Key) = Sum.inr b) = decide (a = b) := by
  by_cases e : a = b
  · subst e; simp
  · have h : ¬ (Sum.inr a : Key) = Sum.inr b := fun q => e (Sum.inr.inj q)
    rw [decide_eq_false h, decide_eq_false e]
theorem key_lr (a : Int) (b : Str) : decide ((Sum.inl a : Key) = Sum.inr b) = false := decide_eq_false (fun q => nomatch q)
theorem key_rl (a : Str) (b : Int) : decide ((Sum.inr a : Key) = Sum.inl b) = false := decide_eq_false (fun q => nomatch q)

def mixKind (prog : Program) (w : World) : PySem.KeyKind prog w Key where
  is := keyIs
  hash := keyH w
  inj := fun v a b ha hb => by
    rcases keyIs_shape ha with ⟨i, t, rfl, rfl⟩ | ⟨x, t, rfl, rfl⟩
    · rcases keyIs_shape hb with ⟨j, u, rfl, e⟩ | ⟨y, u, rfl, e⟩
      · injection e with e1 _; rw [e1]
      · exact nomatch e
    · rcases keyIs_shape hb with ⟨j, u, rfl, e⟩ | ⟨y, u, rfl, e⟩
      · exact nomatch e
      · injection e with e1 _; rw [e1]
  byValue := fun k v h => by
    rcases keyIs_shape h with ⟨i, t, rfl, rfl⟩ | ⟨x, t, rfl, rfl⟩ <;> rfl
  pyHash := fun hv h => by
    rcases keyIs_shape hv with ⟨i, t, rfl, rfl⟩ | ⟨x, t, rfl, rfl⟩
    · exact wpAny_pyHash_int h
    · exact wpAny_pyHash_str h
  eqBool := fun hu hv h => by
    rcases keyIs_shape hu with ⟨i, t, rfl, rfl⟩ | ⟨x, t, rfl, rfl⟩
    · rcases keyIs_shape hv with ⟨j, u, rfl, rfl⟩ | ⟨y, u, rfl, rfl⟩
      · rw [key_ll] at h; exact wpAny_eqBool_int h
      · rw [key_lr] at h; exact SeqAt.EqAt.int_str i t y u _ _ _ _ h
    · rcases keyIs_shape hv with ⟨j, u, rfl, rfl⟩ | ⟨y, u, rfl, rfl⟩
      · rw [key_rl] at h; exact SeqAt.EqAt.str_int x t j u _ _ _ _ h
      · rw [key_rr] at h; exact wpAny_eqBool_str h
  «strs» := fun k x t v h => by
    rcases keyIs_shape h with ⟨i, u, rfl, e⟩ | ⟨y, u, rfl, e⟩
    · exact nomatch e
    · injection e with e1 _
      subst e1
      cases v <;> rfl

theorem mixKind_int (prog : Program) (w : World) (i : Int) (t : Tok) : (mixKind prog w).is (.inl i) (.int i t) = true := keyIs_int i t
theorem mixKind_str (prog : Program) (w : World) (x : Str) (t : Tok) : (mixKind prog w).is (.inr x) (.str x t) = true := keyIs_str x t
end L2

namespace L2
open PySem PySem.Spec PyProof.Rows

/-- a value, without the heap -/
inductive V where
  | non | bl (b : Bool) | int (i : Int) | str (x : Str) | byt (b : Array UInt8) | flt (b : UInt64) | ref (a : Addr) | ty (n : String)
  deriving DecidableEq

def RelV : V → Value → Prop
  | .non, u => u = Value.none
  | .bl b, u => u = Value.bool b
  | .int i, u => ∃ t, u = Value.int i t
  | .str x, u => ∃ t, u = Value.str x t
  | .byt b, u => ∃ t, u = Value.bytes b t
  | .flt b, u => ∃ t, u = Value.float b t
  | .ref a, u => u = Value.ref a
  | .ty n, u => u = Value.type n

abbrev Vals : List V → List Value → Prop := Paired RelV
theorem Vals.length {xs : List V} {us : List Value} (r : Vals xs us) : xs.length = us.length := Paired.length r
theorem Vals.get : ∀ {xs : List V} {us : List Value} {i : Nat} {x : V}, Vals xs us → xs[i]? = some x → ∃ u, us[i]? = some u ∧ RelV x u
  | _, _, _, _, .nil, e => by simp at e
  | _, _, 0, _, .cons r _, e => by simp at e; subst e; exact ⟨_, rfl, r⟩
  | _, _, i + 1, x, .cons _ t, e => by
    obtain ⟨u, h1, h2⟩ := Vals.get (i := i) (x := x) t (by simpa using e)
    exact ⟨u, by simpa using h1, h2⟩
theorem Vals.append : ∀ {xs ys : List V} {us ws : List Value}, Vals xs us → Vals ys ws → Vals (xs ++ ys) (us ++ ws)
  | _, _, _, _, .nil, s => s
  | _, _, _, _, .cons r t, s => .cons r (Vals.append t s)
theorem Vals.take : ∀ {xs : List V} {us : List Value} (n : Nat), Vals xs us → Vals (xs.take n) (us.take n)
  | _, _, 0, _ => .nil
  | _, _, _ + 1, .nil => .nil
  | _, _, n + 1, .cons r t => .cons r (Vals.take n t)
theorem Vals.drop : ∀ {xs : List V} {us : List Value} (n : Nat), Vals xs us → Vals (xs.drop n) (us.drop n)
  | _, _, 0, r => r
  | _, _, _ + 1, .nil => .nil
  | _, _, n + 1, .cons _ t => Vals.drop n t

def RelO : Option V → Option Value → Prop
  | some v, some u => RelV v u
  | none, none => True
  | _, _ => False
def KV {κ : Type} : List (κ × V) → List (κ × Value) → Prop := Paired fun (p : κ × V) (q : κ × Value) => p.1 = q.1 ∧ RelV p.2 q.2

/-- a key of a dict (00_mix): an int or a text -/
def kV : Key → V
  | .inl i => .int i
  | .inr x => .str x

/-- what stands at a tracked address -/
inductive HO where
  /-- a list -/
  | lst (xs : List V)
  /-- a tuple (never changes) -/
  | tup (xs : List V)
  /-- a dict whose keys are ints and texts; one whose keys are tuples of ints and texts (the empty one is both) -/
  | dK (kvs : List (Key × V)) | dT (kvs : List (List Key × V))
  /-- a set of ints: its members, its size -/
  | set (S : Int → Bool) (n : Nat)
  /-- an instance of the class at C, its dict at dx, its attributes -/
  | ins (C dx : Addr) (fs : List (Str × V))
  /-- the dict of the instance at x -/
  | own (x : Addr)
  /-- the dict of an exception -/
  | xd (fs : List (Str × V))
  /-- a bound method, f of x -/
  | met (f x : Addr)
  /-- a range object lo, lo + 1, .. below hi -/
  | rng (lo hi : Int)
  /-- a thing that is known to the object (the script; a dict while a loop walks it): read, never written while it is so -/
  | frz (o : Obj) (u : HO)
  /-- a code object's table -/
  | tbl (ps : Array Value)
  /-- any other thing, by what is true of its one object (a def of one's own: SetO a S n := HO.ext fun h => ..) -/
  | ext (φ : Heap → Prop)

abbrev Hp := Addr → Option HO
def upd (H : Hp) (a : Addr) (o : HO) : Hp := fun b => if b = a then some o else H b
theorem upd_same {H : Hp} {a : Addr} {o : HO} : upd H a o a = some o := by unfold upd; rw [if_pos rfl]
theorem upd_ne {H : Hp} {a b : Addr} {o : HO} (h : b ≠ a) : upd H a o b = H b := by unfold upd; rw [if_neg h]
theorem upd_upd {H : Hp} {a : Addr} {o u : HO} : upd (upd H a o) a u = upd H a u := by
  funext b; unfold upd; split <;> rfl
/-- two objects of different content stand apart -/
theorem ne_of {H : Hp} {a b : Addr} {o u : HO} (h : H a = some o) (h' : H b = some u) (d : o ≠ u) : a ≠ b := by
  intro e; subst e; rw [h] at h'; exact d (Option.some.inj h')
theorem ne_of_none {H : Hp} {a b : Addr} {o : HO} (h : H a = some o) (h' : H b = none) : a ≠ b := by
  intro e; subst e; rw [h] at h'; cases h'

section
variable (P : Program) (w : World)
def ObjOk (H : Hp) (h : Heap) (a : Addr) : HO → Prop
  | .lst xs => xs.length ≤ sizeLine ∧ ∃ (its : List Value) (n : Nat), Vals xs its ∧ h.get? a = some { cls := .type "list", data := .seq its.toArray n }
  | .tup xs => xs.length ≤ sizeLine ∧ ∃ its : List Value, Vals xs its ∧ IsTup h a its.toArray
  | .dK kvs => kvs.length ≤ sizeLine ∧ (a == sysModules) = false ∧ ∃ vs, KV kvs vs ∧ h.DictOf (mixKind P w) a vs
  | .dT kvs => kvs.length ≤ sizeLine ∧ (a == sysModules) = false ∧ ∃ xs : List (List Key × Addr × Value),
      Paired (fun (p : List Key × V) (q : List Key × Addr × Value) => p.1 = q.1 ∧ H q.2.1 = some (.tup (p.1.map kV)) ∧ RelV p.2 q.2.2) kvs xs ∧
      ∃ o es ep, h.get? a = some o ∧ o.ExactDict ∧ o.data = .dict es ep ∧ es.toList = xs.map (entryOfKey (tupleKind (mixKind P w))) ∧ (xs.map (·.1)).Nodup
  | .set S n => h.SetOf (intKind P w) a S n
  | .ins C dx fs => H dx = some (.own a) ∧ fs.length ≤ 1000 ∧ dx ≠ a ∧ h.get? a = some (PySem.W.instObj C dx) ∧
      ∃ mA, h.Ns1 dx mA ∧ (∀ f, RelO (fs.lookup f) (mA f)) ∧ PySem.Within mA (fs.map (·.1))
  | .own _ => ∃ o, h.get? a = some o
  | .xd fs => ∃ mA, h.Ns1 a mA ∧ ∀ f, RelO (fs.lookup f) (mA f)
  | .rng lo hi => ∃ t u v, h.get? a = some { cls := .type "range", data := .fields #[.int lo t, .int hi u, .int 1 v] }
  | .frz o u => h.get? a = some o ∧ ObjOk H h a u
  | .tbl ps => h.get? a = some { cls := .none, data := .fields ps }
  | .met f x => h.get? a = some (PySem.W.methodObj (.ref f) (.ref x))
  | .ext φ => φ h ∧ (∃ o, h.get? a = some o) ∧ ∀ h1 h2 : Heap, φ h1 → (∀ o, h1.get? a = some o → h2.get? a = some o) → φ h2
/-- the abstract heap is held -/
def HOk (H : Hp) (h : Heap) : Prop := ∀ a o, H a = some o → ObjOk P w H h a o
end

section
variable {P : Program} {w : World} {H H' : Hp} {h h' : Heap} {a : Addr} {o : HO}
theorem ObjOk.lt (x : ObjOk P w H h a o) : a < h.objs.size := by
  cases o with
  | lst xs => obtain ⟨_, _, _, _, e⟩ := x; exact Heap.lt_size e
  | tup xs => obtain ⟨_, _, _, p⟩ := x; exact p.lt
  | dK kvs => obtain ⟨_, _, _, _, o, _, _, e, _⟩ := x; exact Heap.lt_size e
  | dT kvs => obtain ⟨_, _, _, _, o, _, _, e, _⟩ := x; exact Heap.lt_size e
  | set S n => obtain ⟨o, _, _, _, e, _⟩ := x; exact Heap.lt_size e
  | ins C dx fs => obtain ⟨_, _, _, e, _⟩ := x; exact Heap.lt_size e
  | own y => obtain ⟨_, e⟩ := x; exact Heap.lt_size e
  | xd fs => obtain ⟨_, ⟨_, _, _, e, _⟩, _⟩ := x; exact Heap.lt_size e
  | rng lo hi => obtain ⟨_, _, _, e⟩ := x; exact Heap.lt_size e
  | frz ob u => obtain ⟨e, _⟩ := x; exact Heap.lt_size e
  | tbl ps => exact Heap.lt_size (show h.get? a = some _ from x)
  | met f y => exact Heap.lt_size (show h.get? a = some _ from x)
  | ext φ => obtain ⟨_, ⟨_, e⟩, _⟩ := x; exact Heap.lt_size e
theorem Paired.mapP {α β : Type} {F G : α → β → Prop} : ∀ {l₁ : List α} {l₂ : List β}, Paired F l₁ l₂ → (∀ a b, F a b → G a b) → Paired G l₁ l₂
  | _, _, .nil, _ => .nil
  | _, _, .cons r t, f => .cons (f _ _ r) (Paired.mapP t f)
/-- what an object's description leans on: its own object, its own dict, the tuples -/
theorem ObjOk.stay (x : ObjOk P w H h a o) (k : ∀ b u, (b = a ∨ H b = some (.own a)) → h.get? b = some u → h'.get? b = some u)
    (ho : ∀ b, H b = some (.own a) → H' b = some (.own a)) (ht : ∀ b xs, H b = some (.tup xs) → H' b = some (.tup xs)) : ObjOk P w H' h' a o := by
  induction o with
  | lst xs => obtain ⟨z, its, n, r, e⟩ := x; exact ⟨z, its, n, r, k _ _ (.inl rfl) e⟩
  | tup xs => obtain ⟨z, its, r, ob, e, c⟩ := x; exact ⟨z, its, r, ob, k _ _ (.inl rfl) e, c⟩
  | dK kvs => obtain ⟨z, y, vs, r, ob, es, ep, e, c⟩ := x; exact ⟨z, y, vs, r, ob, es, ep, k _ _ (.inl rfl) e, c⟩
  | dT kvs =>
    obtain ⟨z, y, xs, r, ob, es, ep, e, c⟩ := x
    exact ⟨z, y, xs, Paired.mapP r fun p q z => ⟨z.1, ht _ _ z.2.1, z.2.2⟩, ob, es, ep, k _ _ (.inl rfl) e, c⟩
  | set S n => obtain ⟨ob, es, ep, t, e, c⟩ := x; exact ⟨ob, es, ep, t, k _ _ (.inl rfl) e, c⟩
  | ins C dx fs =>
    obtain ⟨d, z, ne, e, mA, ⟨od, es, ep, e2, c⟩, r⟩ := x
    exact ⟨ho _ d, z, ne, k _ _ (.inl rfl) e, mA, ⟨od, es, ep, k _ _ (.inr d) e2, c⟩, r⟩
  | own y => obtain ⟨ob, e⟩ := x; exact ⟨ob, k _ _ (.inl rfl) e⟩
  | xd fs => obtain ⟨mA, ⟨od, es, ep, e, c⟩, r⟩ := x; exact ⟨mA, ⟨od, es, ep, k _ _ (.inl rfl) e, c⟩, r⟩
  | rng lo hi => obtain ⟨t, u, v, e⟩ := x; exact ⟨t, u, v, k _ _ (.inl rfl) e⟩
  | frz ob u ih => obtain ⟨e, q⟩ := x; exact ⟨k _ _ (.inl rfl) e, ih q⟩
  | tbl ps =>
    have e : h.get? a = some { cls := .none, data := .fields ps } := x
    show h'.get? a = some { cls := .none, data := .fields ps }
    exact k a _ (.inl rfl) e
  | met f y =>
    have e : h.get? a = some (PySem.W.methodObj (.ref f) (.ref y)) := x
    show h'.get? a = some (PySem.W.methodObj (.ref f) (.ref y))
    exact k a _ (.inl rfl) e
  | ext φ => obtain ⟨p, ⟨o, e⟩, st⟩ := x; exact ⟨st _ _ p fun o q => k _ _ (.inl rfl) q, ⟨o, k _ _ (.inl rfl) e⟩, st⟩
theorem HOk.lt (x : HOk P w H h) (e : H a = some o) : a < h.objs.size := (x a o e).lt
theorem HOk.fresh (x : HOk P w H h) (e : h.objs.size ≤ a) : H a = none := by
  cases q : H a with
  | none => rfl
  | some u => exact absurd (Nat.lt_of_lt_of_le (x.lt q) e) (Nat.lt_irrefl _)
/-- every object of the heap is kept -/
theorem HOk.kept (x : HOk P w H h) (k : ∀ b u, h.get? b = some u → h'.get? b = some u) : HOk P w H h' := fun a o e =>
  (x a o e).stay (fun b u _ q => k b u q) (fun _ q => q) fun _ _ q => q
/-- a new object is laid and tracked -/
theorem HOk.laid (x : HOk P w H h) (k : ∀ b u, h.get? b = some u → h'.get? b = some u) (hp : h.objs.size ≤ a) (new : ObjOk P w (upd H a o) h' a o) : HOk P w (upd H a o) h' := fun b u e => by
  have hn := x.fresh hp
  by_cases hb : b = a
  · subst hb; rw [upd_same] at e; cases e; exact new
  · rw [upd_ne hb] at e
    exact (x b u e).stay (fun c v _ q => k c v q) (fun c q => by rw [upd_ne (ne_of_none q hn)]; exact q) fun c xs q => by rw [upd_ne (ne_of_none q hn)]; exact q
end

/-- what may be read as u: it is u, or a known u -/
def Rd (H : Hp) (a : Addr) (u : HO) : Prop := H a = some u ∨ ∃ o, H a = some (.frz o u)
theorem Rd.ok {P : Program} {w : World} {H : Hp} {h : Heap} {a : Addr} {u : HO} (r : Rd H a u) (x : HOk P w H h) : ObjOk P w H h a u := by
  rcases r with r | ⟨o, r⟩
  · exact x a u r
  · obtain ⟨_, q⟩ := x a _ r
    exact q
/-- what may be written -/
def Mut : Option HO → Prop
  | some (.lst _) => True
  | some (.dK _) => True
  | some (.dT _) => True
  | some (.set _ _) => True
  | some (.ins _ _ _) => True
  | some (.ext _) => True
  | _ => False
section
variable {P : Program} {w : World} {H : Hp} {h h' : Heap} {x e : Addr} {o' : HO}
/-- the object at e is changed: x itself, or the dict of the instance x -/
theorem HOk.write (ok : HOk P w H h) (mu : Mut (H x)) (he : e = x ∨ H e = some (.own x)) (k : ∀ b u, b ≠ e → h.get? b = some u → h'.get? b = some u) (heo : ∃ u, h'.get? e = some u)
    (new : ObjOk P w (upd H x o') h' x o') : HOk P w (upd H x o') h' := fun b u q => by
  have nown : ∀ c y, H c = some (.own y) → c ≠ x := fun c y r z => by subst z; rw [r] at mu; exact mu
  have ntup : ∀ c xs, H c = some (.tup xs) → c ≠ x := fun c xs r z => by subst z; rw [r] at mu; exact mu
  by_cases hb : b = x
  · subst hb; rw [upd_same] at q; cases q; exact new
  · rw [upd_ne hb] at q
    by_cases hbe : b = e
    · have q' : H b = some (.own x) := by
        rcases he with z | z
        · exact absurd (hbe.trans z) hb
        · rw [hbe]; exact z
      rw [q] at q'; cases q'
      obtain ⟨v, hv⟩ := heo
      exact ⟨v, by rw [hbe]; exact hv⟩
    · refine (ok b u q).stay (fun c v hc r => k c v ?_ r) (fun c r => by rw [upd_ne (nown c b r)]; exact r) fun c xs r => by rw [upd_ne (ntup c xs r)]; exact r
      rcases hc with rfl | hc
      · exact hbe
      · rintro rfl
        rcases he with z | z
        · exact nown c b hc z
        · rw [hc] at z; cases z; exact hb rfl
end

/-! ### kept unless tracked; of the frames at fs (the callers') the slots may change (an exception that passes writes there); of the records at ex (iterators) nothing is said -/
structure Un (fs ex : List Addr) (H H' : Hp) (h h' : Heap) : Prop where
  keep : ∀ b o, h.get? b = some o → H b = none → b ∉ fs → b ∉ ex → h'.get? b = some o
  slot : ∀ b o, h.get? b = some o → H b = none → b ∈ fs → b ∉ ex → ∃ sl, h'.get? b = some { o with slots := sl }
  free : ∀ b o, h.get? b = some o → H b = none → b ∉ ex → H' b = none
  there : ∀ b o, h.get? b = some o → b ∉ ex → ∃ o', h'.get? b = some o'
  tups : ∀ b xs, H b = some (.tup xs) → H' b = some (.tup xs)
  frzs : ∀ b o u, H b = some (.frz o u) → H' b = some (.frz o u)
  tbls : ∀ b ps, H b = some (.tbl ps) → ∃ more, H' b = some (.tbl (ps ++ more))
section
variable {fs fs' ex ex' : List Addr} {H H1 H2 : Hp} {h h1 h2 h' : Heap} {a x e : Addr} {o : HO}
theorem Un.any (u : Un fs ex H H1 h h1) {b : Addr} {ob : Obj} (q : h.get? b = some ob) (n : H b = none) (hx : b ∉ ex) : ∃ sl, h1.get? b = some { ob with slots := sl } := by
  by_cases hb : b ∈ fs
  · exact u.slot b ob q n hb hx
  · exact ⟨ob.slots, u.keep b ob q n hb hx⟩
theorem Un.kept (k : ∀ b u, h.get? b = some u → h'.get? b = some u) : Un fs ex H H h h' :=
  ⟨fun b ob q _ _ _ => k b ob q, fun b ob q _ _ _ => ⟨ob.slots, k b ob q⟩, fun _ _ _ n _ => n, fun b ob q _ => ⟨ob, k b ob q⟩, fun _ _ q => q, fun _ _ _ q => q, fun _ ps q => ⟨#[], by rw [q]; simp⟩⟩
theorem Un.refl : Un fs ex H H h h := Un.kept fun _ _ q => q
theorem Un.laid (k : ∀ b u, h.get? b = some u → h'.get? b = some u) (hp : h.objs.size ≤ a) (hn : H a = none) : Un fs ex H (upd H a o) h h' where
  keep := fun b u q _ _ _ => k b u q
  slot := fun b u q _ _ _ => ⟨u.slots, k b u q⟩
  free := fun b u q n _ => by rw [upd_ne (Nat.ne_of_lt (Nat.lt_of_lt_of_le (Heap.lt_size q) hp))]; exact n
  there := fun b u q _ => ⟨u, k b u q⟩
  tups := fun b xs q => by rw [upd_ne (ne_of_none q hn)]; exact q
  frzs := fun b u xs q => by rw [upd_ne (ne_of_none q hn)]; exact q
  tbls := fun b ps q => ⟨#[], by rw [upd_ne (ne_of_none q hn), q]; simp⟩
theorem Un.write (mu : Mut (H x)) (he : e = x ∨ H e = some (.own x)) (k : ∀ b u, b ≠ e → h.get? b = some u → h'.get? b = some u) (heo : ∃ u, h'.get? e = some u) : Un fs ex H (upd H x o) h h' := by
  have hx : ∀ b, H b = none → b ≠ x := fun b n z => by subst z; rw [n] at mu; exact mu
  have hb : ∀ b, H b = none → b ≠ e := fun b n z => by
    subst z
    rcases he with r | r
    · exact hx b n r
    · rw [n] at r; cases r
  have hm : ∀ b u, H b = some u → ¬ Mut (some u) → b ≠ x := fun b u q nm z => by subst z; rw [q] at mu; exact nm mu
  refine ⟨fun b u q n _ _ => k b u (hb b n) q, fun b u q n _ _ => ⟨u.slots, k b u (hb b n) q⟩, fun b u q n _ => by rw [upd_ne (hx b n)]; exact n, fun b u q _ => ?_,
    fun b xs q => by rw [upd_ne (hm b _ q fun z => z)]; exact q, fun b u xs q => by rw [upd_ne (hm b _ q fun z => z)]; exact q, fun b ps q => ⟨#[], by rw [upd_ne (hm b _ q fun z => z), q]; simp⟩⟩
  by_cases hbe : b = e
  · subst hbe; exact heo
  · exact ⟨u, k b u hbe q⟩
end

/-! ### the heap without what is tracked -/
def trk (h : Heap) (H : Hp) : List Addr := (List.range h.objs.size).filter fun a => (H a).isSome
def hidT (h : Heap) (H : Hp) : Heap := PySem.W.hideAll h (trk h H)
theorem hidT_size (h : Heap) (H : Hp) : (hidT h H).objs.size = h.objs.size := PySem.W.hideAll_size _ _
theorem hidT_get {h : Heap} {H : Hp} {b : Addr} {o : Obj} (e : h.get? b = some o) (n : H b = none) : (hidT h H).get? b = some o :=
  PySem.W.hideAll_get _ e fun hm => by
    have q : (H b).isSome = true := (List.mem_filter.mp hm).2
    rw [n] at q; simp at q
theorem of_hidT {h : Heap} {H : Hp} {b : Addr} {o : Obj} (e : (hidT h H).get? b = some o) : h.get? b = some o ∧ H b = none := by
  have e' : h.get? b = some o := PySem.W.of_hideAll (trk h H) e
  refine ⟨e', ?_⟩
  cases q : H b with
  | none => rfl
  | some x =>
    have hm : b ∈ trk h H := List.mem_filter.mpr ⟨List.mem_range.mpr (Heap.lt_size e'), by simp [q]⟩
    have z : (hidT h H).get? b = none := PySem.W.hideAll_none (trk h H) hm
    rw [z] at e; cases e

/-! ### OpenK's ledger, filled with every new object but one -/
def allNews (g h : Heap) (L : Addr) : List (Addr × Obj) := (List.range h.objs.size).filterMap fun a => if a = L ∨ (g.get? a).isSome = true then none else (h.get? a).map fun o => (a, o)
def rest (g h : Heap) (L d : Addr) : List (Addr × Obj) := (allNews g h L).filter fun p => decide (p.1 ≠ d)
end L2

namespace L2
open PySem PySem.Spec PyProof.Rows

/-- the module's facts, over the base: the heap at the law's entry without what is tracked there -/
structure Mod (K : PySem.W.Frag) (mg : Str → Option Value) (base : Heap) : Prop where
  kin : K.In base
  glob : base.Ns mainGlobals mg
  blt : ∃ mb, base.Ns builtinsNs mb ∧ ∀ x : Str, x ≠ "__name__" → mb x = bootBuiltins x
  nolimit : base.NoLimit

/-- the context: a def's body (or a comprehension's block) running. base: fixed through the whole law; s₀, H₀: the entry; outer: the frames whose slots others may change (a def's callers); stack: all frames that run;
   ex: iterators that were made ahead of the entry and are walked here (a comprehension's); fn: the names whose cells were made at the entry (a def: all; a comprehension's block: its own); calm: not within an except suite; pn: pins that every state bears; xe: what is wanted of an exception that leaves the code -/
structure Cx where
  prog : Program
  w : World
  K : PySem.W.Frag
  mg : Str → Option Value
  base : Heap
  A : Around
  N : List Str
  s₀ : Shared
  H₀ : Hp
  env : Env
  outer : List Env
  stack : List Env
  ex : List Addr
  fn : Str → Bool
  calm : Bool
  pn : List (Addr × Obj)
  xe : Value → Shared → Prop
/-- the callers' frames -/
def frs (l : List Env) : List Addr := l.filterMap (·.frame)
abbrev Cx.fs (X : Cx) : List Addr := frs X.outer

def Vis (sc : Scope) (x : Str) : Prop := sc.names.lookup x = some .local ∨ sc.names.lookup x = some .cell ∨ sc.names.lookup x = some .free
def Loc (sc : Scope) (x : Str) : Prop := sc.names.lookup x = some .local ∨ sc.names.lookup x = some .cell
def Look (env : Env) (h : Heap) (m : Str → Option Value) (x : Str) (u : Value) : Prop :=
  (env.kindOf x = some .local ∧ m x = some u) ∨ ((env.kindOf x = some .cell ∨ env.kindOf x = some .free) ∧ ∃ c, env.cells.lookup x = some c ∧ h.IsCell c (some u))

structure Cx.Ok (X : Cx) : Prop where
  mod : Mod X.K X.mg X.base
  kind : X.env.scope.kind = .function
  glob : X.env.globals = mainGlobals
  blt : X.env.builtins = builtinsNs
  above : X.s₀.heap.objs.size ≤ X.env.locals
  inj : ∀ x y c, X.env.cells.lookup x = some c → X.env.cells.lookup y = some c → x = y
  has : ∀ x, (X.env.kindOf x = some .cell ∨ X.env.kindOf x = some .free) → ∃ c, X.env.cells.lookup x = some c
  cab : ∀ x c, X.fn x = true → X.env.cells.lookup x = some c → X.s₀.heap.objs.size ≤ c
  hd : X.calm = true → X.A.handled = none
  frames : X.A.frames = some X.stack
  stk : X.stack = X.outer ∨ (X.stack = X.env :: X.outer ∧ X.env.frame = some X.env.locals)
  exf : ∀ b ∈ X.ex, b ≠ X.env.locals ∧ ∀ x c, X.env.cells.lookup x = some c → c ≠ b
  bs : ∀ b o, X.base.get? b = some o → X.s₀.heap.get? b = some o ∧ X.H₀ b = none
  bsz : X.base.objs.size ≤ X.s₀.heap.objs.size
  noex : ∀ b o, X.base.get? b = some o → b ∉ X.ex
  exfs : ∀ b ∈ X.ex, b ∉ X.fs
  funs : X.s₀.heap.FunFrames X.base X.outer
  frf : ∀ b ∈ X.fs, X.H₀ b = none

structure Inv (X : Cx) (pins : List (Addr × Obj)) (σ : List (Option V)) (H : Hp) (s : Shared) : Prop where
  ok : X.Ok
  os : s.os = X.s₀.os
  bare : AllBare s.gens
  base : Un X.fs X.ex X.H₀ H X.s₀.heap s.heap
  loc : ∃ m, s.heap.Ns X.env.locals m ∧ ∀ (i : Nat) (x : Str) (v : V), X.N[i]? = some x → σ[i]? = some (some v) → Vis X.env.scope x → ∃ u, RelV v u ∧ Look X.env s.heap m x u
  cell : ∀ x c, X.env.cells.lookup x = some c → ∃ v, s.heap.IsCell c v
  free : H X.env.locals = none
  freeC : ∀ x c, X.env.cells.lookup x = some c → H c = none
  pin : ∀ p ∈ X.pn ++ pins, s.heap.get? p.1 = some p.2 ∧ H p.1 = none ∧ p.1 ≠ X.env.locals ∧ p.1 ∉ X.fs ∧ ∀ v, p.2.data ≠ .cell v
  hok : HOk X.prog X.w H s.heap
  len : σ.length = X.N.length

section
variable {X : Cx} {pins : List (Addr × Obj)} {σ : List (Option V)} {H H' : Hp} {s : Shared} {h' : Heap}

theorem Cx.Ok.nofr (ok : X.Ok) {b : Addr} {o : Obj} (e : X.base.get? b = some o) : b ∉ X.fs := fun hb => by
  have := (ok.funs.mem hb).1
  rw [e] at this; cases this
theorem Inv.bs (I : Inv X pins σ H s) : ∀ b o, X.base.get? b = some o → s.heap.get? b = some o ∧ H b = none := fun b o e =>
  ⟨I.base.keep b o (I.ok.bs b o e).1 (I.ok.bs b o e).2 (I.ok.nofr e) (I.ok.noex b o e), I.base.free b o (I.ok.bs b o e).1 (I.ok.bs b o e).2 (I.ok.noex b o e)⟩
theorem Inv.bk (I : Inv X pins σ H s) : ∀ b o, X.base.get? b = some o → s.heap.get? b = some o := fun b o e => (I.bs b o e).1
theorem Inv.mod (I : Inv X pins σ H s) : Mod X.K X.mg X.base := I.ok.mod
theorem Inv.kIn (I : Inv X pins σ H s) : X.K.In s.heap := I.ok.mod.kin.keeps I.bk
theorem Inv.lt (I : Inv X pins σ H s) : X.env.locals < s.heap.objs.size := let ⟨_, hn, _⟩ := I.loc; hn.lt
theorem Inv.sz (I : Inv X pins σ H s) : X.s₀.heap.objs.size ≤ s.heap.objs.size := Nat.le_trans I.ok.above (Nat.le_of_lt I.lt)
theorem Inv.nofs (I : Inv X pins σ H s) {a : Addr} (h : s.heap.objs.size ≤ a) : a ∉ X.fs := fun hb => by
  obtain ⟨_, o, ho, _⟩ := I.ok.funs.mem hb
  exact absurd (Nat.lt_of_lt_of_le (Heap.lt_size ho) (Nat.le_trans I.sz h)) (Nat.lt_irrefl _)
theorem Inv.cne (I : Inv X pins σ H s) : ∀ x c, X.env.cells.lookup x = some c → c ≠ X.env.locals := fun x c e z => by
  obtain ⟨v, o, ho, hd⟩ := I.cell x c e
  obtain ⟨m, ⟨o', es, ep, ho', hd', _⟩, _⟩ := I.loc
  rw [z, ho'] at ho; cases ho; rw [hd'] at hd; cases hd
theorem Inv.funs (I : Inv X pins σ H s) : s.heap.FunFrames X.base X.outer := by
  have all : ∀ (l : List Env), (∀ b ∈ frs l, b ∈ X.fs) → X.s₀.heap.FunFrames X.base l → s.heap.FunFrames X.base l := by
    intro l
    induction l with
    | nil => intro _ _; trivial
    | cons env r ih =>
      intro hs hl
      obtain ⟨hk, ⟨L, o, hf, hn, ho, hd⟩, hr⟩ := hl
      have hL : L ∈ X.fs := hs L (by unfold frs; rw [List.filterMap_cons, hf]; exact List.mem_cons_self)
      obtain ⟨sl, e⟩ := I.base.slot L o ho (I.ok.frf L hL) hL fun z => I.ok.exfs L z hL
      exact ⟨hk, ⟨L, _, hf, hn, e, hd⟩, ih (fun b hb => hs b (by unfold frs; rw [List.filterMap_cons, hf]; exact List.mem_cons_of_mem _ hb)) hr⟩
  exact all X.outer (fun _ hb => hb) I.ok.funs

/-- the frames that run, for a call -/
theorem Inv.stack (I : Inv X pins σ H s) : s.heap.FunFrames X.base X.stack := by
  rcases I.ok.stk with e | ⟨e, hf⟩
  · rw [e]; exact I.funs
  · rw [e]
    obtain ⟨m, hn, _⟩ := I.loc
    refine .cons (by rw [I.ok.kind]; decide) hf hn ?_ I.funs
    exact Heap.get?_none_of_le (Nat.le_trans I.ok.bsz I.ok.above)
theorem Inv.stkSub (I : Inv X pins σ H s) : ∀ b ∈ frs X.stack, b ∈ X.env.locals :: X.fs := fun b hb => by
  rcases I.ok.stk with e | ⟨e, hf⟩
  · rw [e] at hb; exact List.mem_cons_of_mem _ hb
  · rw [e] at hb
    unfold frs at hb
    rw [List.filterMap_cons, hf] at hb
    exact hb
theorem Inv.stkFree (I : Inv X pins σ H s) : ∀ b ∈ frs X.stack, H b = none := fun b hb => by
  rcases List.mem_cons.mp (I.stkSub b hb) with e | hb
  · rw [e]; exact I.free
  · obtain ⟨_, o, ho, _⟩ := I.ok.funs.mem hb
    exact I.base.free b o ho (I.ok.frf b hb) fun z => I.ok.exfs b z hb

/-- THE STEP: the untracked objects but the frame and the records at ch are kept (the callers' frames up to slots), the frame's map is kept, the new abstract heap is held -/
theorem Inv.step {g' : Array GenState} {t' : Nat} {d' : Drawn} {ch : List Addr} (I : Inv X pins σ H s)
    (hch : ∀ b ∈ ch, (b ∈ X.ex ∨ X.s₀.heap.objs.size ≤ b) ∧ b ≠ X.env.locals ∧ (∀ x c, X.env.cells.lookup x = some c → c ≠ b) ∧ ∀ p ∈ X.pn ++ pins, p.1 ≠ b)
    (keep : ∀ b o, b ≠ X.env.locals → b ∉ X.fs → b ∉ ch → s.heap.get? b = some o → H b = none → h'.get? b = some o)
    (slot : ∀ b o, b ≠ X.env.locals → b ∈ X.fs → b ∉ ch → s.heap.get? b = some o → H b = none → ∃ sl, h'.get? b = some { o with slots := sl }) (free : ∀ b o, b ∉ ch → s.heap.get? b = some o → H b = none → H' b = none)
    (there : ∀ b o, b ∉ ch → s.heap.get? b = some o → ∃ o', h'.get? b = some o')
    (tups : ∀ b xs, H b = some (.tup xs) → H' b = some (.tup xs)) (frzs : ∀ b o u, H b = some (.frz o u) → H' b = some (.frz o u)) (tbls : ∀ b ps, H b = some (.tbl ps) → ∃ more, H' b = some (.tbl (ps ++ more)))
    (ns : ∀ m, s.heap.Ns X.env.locals m → h'.Ns X.env.locals m) (hok : HOk X.prog X.w H' h') (hg : AllBare g') :
    Inv X pins σ H' { s with heap := h', gens := g', drawn := d', toks := t' } := by
  have neL : ∀ b o, X.s₀.heap.get? b = some o → b ≠ X.env.locals := fun b o e => Nat.ne_of_lt (Nat.lt_of_lt_of_le (Heap.lt_size e) I.ok.above)
  have neC : ∀ b o, X.s₀.heap.get? b = some o → b ∉ X.ex → b ∉ ch := fun b o e hx hb => by
    rcases (hch b hb).1 with z | z
    · exact hx z
    · exact absurd (Nat.lt_of_lt_of_le (Heap.lt_size e) z) (Nat.lt_irrefl _)
  have cellK : ∀ x c, X.env.cells.lookup x = some c → ∀ v, s.heap.IsCell c v → h'.IsCell c v := fun x c e v ⟨o, ho, hd⟩ => by
    have nch : c ∉ ch := fun z => (hch c z).2.2.1 x c e rfl
    by_cases hc : c ∈ X.fs
    · obtain ⟨sl, q⟩ := slot c o (I.cne x c e) hc nch ho (I.freeC x c e)
      exact ⟨_, q, hd⟩
    · exact ⟨o, keep c o (I.cne x c e) hc nch ho (I.freeC x c e), hd⟩
  refine ⟨I.ok, I.os, hg, ⟨fun b o e n hb hx => ?_, fun b o e n hb hx => ?_, fun b o e n hx => ?_, fun b o e hx => ?_, fun b xs e => tups b xs (I.base.tups b xs e), fun b o xs e => frzs b o xs (I.base.frzs b o xs e), fun b ps e => ?_⟩, ?_, fun x c e => ?_, ?_, fun x c e => ?_, fun p hp => ?_, hok, I.len⟩
  · exact keep b o (neL b o e) hb (neC b o e hx) (I.base.keep b o e n hb hx) (I.base.free b o e n hx)
  · obtain ⟨sl, e1⟩ := I.base.slot b o e n hb hx
    obtain ⟨sl', e2⟩ := slot b _ (neL b o e) hb (neC b o e hx) e1 (I.base.free b o e n hx)
    exact ⟨sl', e2⟩
  · obtain ⟨o', e1⟩ := I.base.there b o e hx
    exact free b o' (neC b o e hx) e1 (I.base.free b o e n hx)
  · obtain ⟨o', e1⟩ := I.base.there b o e hx
    exact there b o' (neC b o e hx) e1
  · obtain ⟨m1, e1⟩ := I.base.tbls b ps e
    obtain ⟨m2, e2⟩ := tbls b _ e1
    exact ⟨m1 ++ m2, by rw [e2, Array.append_assoc]⟩
  · obtain ⟨m, hn, hl⟩ := I.loc
    refine ⟨m, ns m hn, fun i x v e1 e2 e3 => ?_⟩
    obtain ⟨u, r, l⟩ := hl i x v e1 e2 e3
    refine ⟨u, r, ?_⟩
    rcases l with l | ⟨k, c, e, z⟩
    · exact .inl l
    · exact .inr ⟨k, c, e, cellK x c e _ z⟩
  · obtain ⟨v, z⟩ := I.cell x c e
    exact ⟨v, cellK x c e v z⟩
  · obtain ⟨m, ⟨o, _, _, ho, _⟩, _⟩ := I.loc
    exact free _ o (fun z => (hch _ z).2.1 rfl) ho I.free
  · obtain ⟨v, o, ho, hd⟩ := I.cell x c e
    exact free c o (fun z => (hch c z).2.2.1 x c e rfl) ho (I.freeC x c e)
  · obtain ⟨e, n, ne, nf, d⟩ := I.pin p hp
    have nch : p.1 ∉ ch := fun z => (hch p.1 z).2.2.2 p hp rfl
    exact ⟨keep p.1 p.2 ne nf nch e n, free p.1 p.2 nch e n, ne, nf, d⟩
/-- .. where the frame's own object is kept too -/
theorem Inv.un {t' : Nat} (I : Inv X pins σ H s) (u : Un X.fs [] H H' s.heap h') (hok : HOk X.prog X.w H' h') : Inv X pins σ H' { s with heap := h', toks := t' } := by
  obtain ⟨m, ⟨o, es, ep, ho, r⟩, _⟩ := id I.loc
  obtain ⟨sl, hL⟩ := u.any ho I.free (by simp)
  exact I.step (g' := s.gens) (d' := s.drawn) (ch := []) (fun _ z => nomatch z) (fun b o _ hb _ e n => u.keep b o e n hb (by simp)) (fun b o _ hb _ e n => u.slot b o e n hb (by simp)) (fun b o _ e n => u.free b o e n (by simp)) (fun b o _ e => u.there b o e (by simp)) u.tups u.frzs u.tbls (fun m' hm => by
    obtain ⟨o', es', ep', ho', r'⟩ := hm
    rw [ho] at ho'; cases ho'
    exact ⟨_, es', ep', hL, r'⟩) hok I.bare
/-- behind a call (or a comprehension's block): the slots of this frame may have changed too, the records at ch may have turned -/
theorem Inv.call {g' : Array GenState} {t' : Nat} {d' : Drawn} {ch : List Addr} (I : Inv X pins σ H s) (u : Un (frs X.stack) ch H H' s.heap h') (hok : HOk X.prog X.w H' h') (hg : AllBare g')
    (hch : ∀ b ∈ ch, (b ∈ X.ex ∨ X.s₀.heap.objs.size ≤ b) ∧ b ≠ X.env.locals ∧ (∀ x c, X.env.cells.lookup x = some c → c ≠ b) ∧ ∀ p ∈ X.pn ++ pins, p.1 ≠ b) :
    Inv X pins σ H' { s with heap := h', gens := g', drawn := d', toks := t' } := by
  obtain ⟨m, ⟨o, es, ep, ho, r⟩, _⟩ := id I.loc
  obtain ⟨sl, hL⟩ := u.any ho I.free fun z => (hch _ z).2.1 rfl
  exact I.step (ch := ch) hch (fun b o hL hb hc e n => u.keep b o e n (fun z => (List.mem_cons.mp (I.stkSub b z)).elim hL hb) hc) (fun b o _ _ hc e n => u.any e n hc) (fun b o hc e n => u.free b o e n hc) (fun b o hc e => u.there b o e hc) u.tups u.frzs u.tbls (fun m' hm => by
    obtain ⟨o', es', ep', ho', r'⟩ := hm
    rw [ho] at ho'; cases ho'
    exact ⟨_, es', ep', hL, r'⟩) hok hg
/-- an untracked record of ours (an iterator) has turned -/
theorem Inv.turned {t' : Nat} {it : Addr} (I : Inv X pins σ H s) (k : ∀ b o, b ≠ it → s.heap.get? b = some o → h'.get? b = some o) (hn : H it = none) (hL : it ≠ X.env.locals)
    (h1 : it ∈ X.ex ∨ X.s₀.heap.objs.size ≤ it) (h2 : ∀ x c, X.env.cells.lookup x = some c → c ≠ it) (h3 : ∀ p ∈ X.pn ++ pins, p.1 ≠ it) : Inv X pins σ H { s with heap := h', toks := t' } := by
  have nit : ∀ b u, H b = some u → b ≠ it := fun b u e z => by rw [z, hn] at e; cases e
  refine I.step (g' := s.gens) (d' := s.drawn) (ch := [it]) (fun b hb => ?_) (fun b o _ _ hc e _ => k b o (fun z => hc (by simp [z])) e) (fun b o _ _ hc e _ => ⟨o.slots, k b o (fun z => hc (by simp [z])) e⟩) (fun _ _ _ _ n => n)
    (fun b o hc e => ⟨o, k b o (fun z => hc (by simp [z])) e⟩) (fun _ _ e => e) (fun _ _ _ e => e) (fun b ps e => ⟨#[], by rw [e]; simp⟩) (fun m hm => ?_) (fun b u e => ?_) I.bare
  · have e : b = it := by simpa using hb
    subst e
    exact ⟨h1, hL, h2, h3⟩
  · obtain ⟨o, es, ep, ho, r⟩ := hm
    exact ⟨o, es, ep, k _ o (Ne.symm hL) ho, r⟩
  · refine (I.hok b u e).stay (fun c v hc q => k c v ?_ q) (fun _ q => q) fun _ _ q => q
    rcases hc with z | z
    · rw [z]; exact nit b u e
    · exact nit c _ z
theorem Inv.tok (I : Inv X pins σ H s) (t : Nat) : Inv X pins σ H { s with toks := t } := I.un (h' := s.heap) (t' := t) Un.refl I.hok
/-- all objects kept -/
theorem Inv.kept {t' : Nat} (I : Inv X pins σ H s) (k : ∀ b u, s.heap.get? b = some u → h'.get? b = some u) : Inv X pins σ H { s with heap := h', toks := t' } := I.un (Un.kept k) (I.hok.kept k)
/-- a new object laid and tracked -/
theorem Inv.laid {a : Addr} {o : HO} {t' : Nat} (I : Inv X pins σ H s) (k : ∀ b u, s.heap.get? b = some u → h'.get? b = some u) (hp : s.heap.objs.size ≤ a) (new : ObjOk X.prog X.w (upd H a o) h' a o) :
    Inv X pins σ (upd H a o) { s with heap := h', toks := t' } := I.un (Un.laid k hp (I.hok.fresh hp)) (I.hok.laid k hp new)
/-- an object written -/
theorem Inv.write {x e : Addr} {o : HO} {t' : Nat} (I : Inv X pins σ H s) (mu : Mut (H x)) (he : e = x ∨ H e = some (.own x)) (k : ∀ b u, b ≠ e → s.heap.get? b = some u → h'.get? b = some u) (heo : ∃ u, h'.get? e = some u)
    (new : ObjOk X.prog X.w (upd H x o) h' x o) : Inv X pins σ (upd H x o) { s with heap := h', toks := t' } := I.un (Un.write mu he k heo) (I.hok.write mu he k heo new)
theorem Inv.pins_of {pins' : List (Addr × Obj)} (I : Inv X pins σ H s) (h : ∀ p ∈ pins', s.heap.get? p.1 = some p.2 ∧ H p.1 = none ∧ p.1 ≠ X.env.locals ∧ p.1 ∉ X.fs ∧ ∀ v, p.2.data ≠ .cell v) : Inv X pins' σ H s :=
  ⟨I.ok, I.os, I.bare, I.base, I.loc, I.cell, I.free, I.freeC, fun p hp => (List.mem_append.mp hp).elim (fun z => I.pin p (List.mem_append_left _ z)) (h p), I.hok, I.len⟩

theorem nodup_ix {N : List Str} (hN : N.Nodup) {i j : Nat} {x : Str} (a : N[i]? = some x) (b : N[j]? = some x) : i = j := by
  obtain ⟨h1, e1⟩ := List.getElem?_eq_some_iff.mp a
  obtain ⟨h2, e2⟩ := List.getElem?_eq_some_iff.mp b
  exact (List.getElem_inj hN).mp (e1.trans e2.symm)

/-- a name is stored; what changed -/
theorem store_ok2 {M : Model} {A : Around} {E : Value → Shared → Prop} {i : Nat} {x : Str} {v : V} {u : Value} {Q : Unit → Shared → Prop} (I : Inv X pins σ H s) (hN : X.N.Nodup) (hi : X.N[i]? = some x) (hx : Loc X.env.scope x) (r : RelV v u)
    (h : ∀ s', Inv X pins (σ.set i (some v)) H s' → (∃ a, Heap.SameBut a s.heap s'.heap ∧ (a = X.env.locals ∨ X.env.cells.lookup x = some a)) → Q () s') (hf : X.fn x = true ∨ X.env.scope.names.lookup x = some .local := by first | exact .inl rfl | exact .inr rfl | assumption) : wpAny M A (storeName X.env x u) Q E s := by
  obtain ⟨m, hn, hl⟩ := id I.loc
  have hcls : (X.env.scope.kind == .class || (X.env.scope.kind == .module && X.env.locals != X.env.globals)) = false := by rw [I.ok.kind]; rfl
  have hiσ : i < σ.length := by rw [I.len]; exact (List.getElem?_eq_some_iff.mp hi).1
  have cne := I.cne
  have tracked : ∀ {a : Addr} {h' : Heap}, (∃ o, s.heap.get? a = some o ∧ H a = none) → Heap.SameBut a s.heap h' → HOk X.prog X.w H h' := fun {a h'} ha hs b ob e => by
    obtain ⟨_, _, hfree⟩ := ha
    refine (I.hok b ob e).stay (fun c w' hc q => (hs.2 c ?_).trans q) (fun _ q => q) fun _ _ q => q
    rintro rfl
    rcases hc with rfl | hc
    · rw [hfree] at e; cases e
    · rw [hfree] at hc; cases hc
  rcases hx with hk | hk
  · refine wpAny_storeName_local hk hn (fun h' hn' hs => ?_) hcls
    obtain ⟨oL, _, _, hoL, _⟩ := id hn
    refine h _ ⟨I.ok, I.os, I.bare, ⟨fun b o e n hb hx => ?_, fun b o e n hb hx => ?_, I.base.free, fun b o e hx => ?_, I.base.tups, I.base.frzs, I.base.tbls⟩, ⟨_, hn', fun j y v' e1 e2 e3 => ?_⟩, fun y c e => ?_, I.free, I.freeC, fun p hp => ?_, tracked ⟨oL, hoL, I.free⟩ hs, by simpa using I.len⟩ ⟨_, hs, .inl rfl⟩
    · exact (hs.2 b (Nat.ne_of_lt (Nat.lt_of_lt_of_le (Heap.lt_size e) I.ok.above))).trans (I.base.keep b o e n hb hx)
    · obtain ⟨sl, e1⟩ := I.base.slot b o e n hb hx
      exact ⟨sl, (hs.2 b (Nat.ne_of_lt (Nat.lt_of_lt_of_le (Heap.lt_size e) I.ok.above))).trans e1⟩
    · obtain ⟨o', e1⟩ := I.base.there b o e hx
      exact ⟨o', (hs.2 b (Nat.ne_of_lt (Nat.lt_of_lt_of_le (Heap.lt_size e) I.ok.above))).trans e1⟩
    · by_cases hj : j = i
      · subst hj
        rw [hi] at e1; cases e1
        rw [List.getElem?_set_self hiσ] at e2
        cases e2
        exact ⟨u, r, .inl ⟨hk, by simp⟩⟩
      · rw [List.getElem?_set_ne (Ne.symm hj)] at e2
        obtain ⟨u', r', q⟩ := hl j y v' e1 e2 e3
        refine ⟨u', r', ?_⟩
        rcases q with ⟨k, e⟩ | ⟨k, c, e, z⟩
        · refine .inl ⟨k, ?_⟩
          have : y ≠ x := fun e => hj (nodup_ix hN e1 (e ▸ hi))
          simp [this, e]
        · exact .inr ⟨k, c, e, z.sameBut hs (cne y c e)⟩
    · obtain ⟨w', z⟩ := I.cell y c e
      exact ⟨w', z.sameBut hs (cne y c e)⟩
    · obtain ⟨e, n, ne, nf, d⟩ := I.pin p hp
      exact ⟨(hs.2 p.1 ne).trans e, n, ne, nf, d⟩
  · have hfn : X.fn x = true := by
      rcases hf with z | z
      · exact z
      · rw [z] at hk; cases hk
    obtain ⟨c, hc⟩ := I.ok.has x (.inl hk)
    obtain ⟨w', z⟩ := I.cell x c hc
    refine wpAny_storeName_cell I.ok.kind hk hc z (fun h' hc' hs => ?_)
    obtain ⟨oc, hoc, hocd⟩ := id z
    refine h { s with heap := h' } ⟨I.ok, I.os, I.bare, ⟨fun b o e n hb hx => ?_, fun b o e n hb hx => ?_, I.base.free, fun b o e hx => ?_, I.base.tups, I.base.frzs, I.base.tbls⟩, ⟨m, hn.sameBut hs (Ne.symm (cne x c hc)), fun j y v' e1 e2 e3 => ?_⟩, fun y c' e => ?_, I.free, I.freeC, fun p hp => ?_, tracked ⟨oc, hoc, I.freeC x c hc⟩ hs, by simpa using I.len⟩ ⟨c, hs, .inr hc⟩
    · exact (hs.2 b (Nat.ne_of_lt (Nat.lt_of_lt_of_le (Heap.lt_size e) (I.ok.cab x c hfn hc)))).trans (I.base.keep b o e n hb hx)
    · obtain ⟨sl, e1⟩ := I.base.slot b o e n hb hx
      exact ⟨sl, (hs.2 b (Nat.ne_of_lt (Nat.lt_of_lt_of_le (Heap.lt_size e) (I.ok.cab x c hfn hc)))).trans e1⟩
    · obtain ⟨o', e1⟩ := I.base.there b o e hx
      exact ⟨o', (hs.2 b (Nat.ne_of_lt (Nat.lt_of_lt_of_le (Heap.lt_size e) (I.ok.cab x c hfn hc)))).trans e1⟩
    · by_cases hj : j = i
      · subst hj
        rw [hi] at e1; cases e1
        rw [List.getElem?_set_self hiσ] at e2
        cases e2
        exact ⟨u, r, .inr ⟨.inl hk, c, hc, hc'⟩⟩
      · rw [List.getElem?_set_ne (Ne.symm hj)] at e2
        obtain ⟨u', r', q⟩ := hl j y v' e1 e2 e3
        refine ⟨u', r', ?_⟩
        rcases q with q | ⟨k, c', e, z'⟩
        · exact .inl q
        · refine .inr ⟨k, c', e, z'.sameBut hs ?_⟩
          rintro rfl
          exact hj (nodup_ix hN e1 (I.ok.inj _ _ _ e hc ▸ hi))
    · by_cases hcc : c' = c
      · subst hcc; exact ⟨_, hc'⟩
      · obtain ⟨w2, z2⟩ := I.cell y c' e
        exact ⟨w2, z2.sameBut hs hcc⟩
    · obtain ⟨e, n, ne, nf, d⟩ := I.pin p hp
      refine ⟨(hs.2 p.1 ?_).trans e, n, ne, nf, d⟩
      intro q
      rw [q, hoc] at e
      have q' : oc = p.2 := Option.some.inj e
      exact d w' (by rw [← q']; exact hocd)
theorem store_ok {M : Model} {A : Around} {E : Value → Shared → Prop} {i : Nat} {x : Str} {v : V} {u : Value} {Q : Unit → Shared → Prop} (I : Inv X pins σ H s) (hN : X.N.Nodup) (hi : X.N[i]? = some x) (hx : Loc X.env.scope x) (r : RelV v u)
    (h : ∀ s', Inv X pins (σ.set i (some v)) H s' → Q () s') (hf : X.fn x = true ∨ X.env.scope.names.lookup x = some .local := by first | exact .inl rfl | exact .inr rfl | assumption) : wpAny M A (storeName X.env x u) Q E s :=
  store_ok2 I hN hi hx r (fun s' I' _ => h s' I') hf
/-- behind a call or a block, the state as it is -/
theorem Inv.call' {s' : Shared} {ch : List Addr} (I : Inv X pins σ H s) (ho : s'.os = s.os) (u : Un (frs X.stack) ch H H' s.heap s'.heap) (hok : HOk X.prog X.w H' s'.heap) (hg : AllBare s'.gens)
    (hch : ∀ b ∈ ch, (b ∈ X.ex ∨ X.s₀.heap.objs.size ≤ b) ∧ b ≠ X.env.locals ∧ (∀ x c, X.env.cells.lookup x = some c → c ≠ b) ∧ ∀ p ∈ X.pn ++ pins, p.1 ≠ b) : Inv X pins σ H' s' := by
  obtain ⟨h', g', d', t', o'⟩ := s'
  have e : o' = s.os := ho
  subst e
  exact I.call (g' := g') (t' := t') (d' := d') u hok hg hch
end

/-! ### the judgements -/
/-- an exception: its class, its own dict's address (where it has one), the abstract heap behind it -/
abbrev XK := Value → Option Addr → Hp → Prop
abbrev St := List (Option V)
abbrev VK := V → Hp → Prop
/-- an expression's reading; a test's; an argument list's -/
abbrev TE := St → Hp → VK → Prop
abbrev TT := St → Hp → (Bool → Hp → Prop) → Prop
abbrev TA := St → Hp → (List V → Hp → Prop) → Prop
/-- what is wanted behind a statement -/
structure Ends where
  nx : St → Hp → Prop
  rt : VK
  bk : St → Hp → Prop := fun _ _ => False
  ct : St → Hp → Prop := fun _ _ => False
abbrev TS := Ends → St → Hp → Prop

def EP (X : Cx) (pins : List (Addr × Obj)) (σ : St) (Q : VK) (u : Value) (s' : Shared) : Prop := ∃ v H', Inv X pins σ H' s' ∧ RelV v u ∧ Q v H'
def TP (X : Cx) (pins : List (Addr × Obj)) (σ : St) (Q : Bool → Hp → Prop) (b : Bool) (s' : Shared) : Prop := ∃ H', Inv X pins σ H' s' ∧ Q b H'
def AP (X : Cx) (pins : List (Addr × Obj)) (σ : St) (Q : List V → Hp → Prop) (us : List Value) (s' : Shared) : Prop := ∃ vs H', Inv X pins σ H' s' ∧ Vals vs us ∧ Q vs H'
def SP (X : Cx) (pins : List (Addr × Obj)) (D : Ends) (f : Flow) (s' : Shared) : Prop :=
  match f with
  | .next => ∃ σ' H', Inv X pins σ' H' s' ∧ D.nx σ' H'
  | .brk => ∃ σ' H', Inv X pins σ' H' s' ∧ D.bk σ' H'
  | .cont => ∃ σ' H', Inv X pins σ' H' s' ∧ D.ct σ' H'
  | .ret u => ∃ v σ' H', Inv X pins σ' H' s' ∧ RelV v u ∧ D.rt v H'

def PE (X : Cx) (e : Expr) (t : TE) : Prop :=
  ∀ (pins : List (Addr × Obj)) (s : Shared) (σ : St) (H : Hp) (Q : VK), Inv X pins σ H s → t σ H Q → wpAny (model X.prog X.w) X.A (eval e X.env) (EP X pins σ Q) X.xe s
def PT (X : Cx) (e : Expr) (t : TT) : Prop :=
  ∀ (pins : List (Addr × Obj)) (s : Shared) (σ : St) (H : Hp) (Q : Bool → Hp → Prop), Inv X pins σ H s → t σ H Q → wpAny (model X.prog X.w) X.A (isTrue e X.env (eval e X.env)) (TP X pins σ Q) X.xe s
/-- a test whatever its 'whole' is (and, or) -/
def PW (X : Cx) (e : Expr) (t : TT) : Prop :=
  ∀ (whole : Sem Value) (pins : List (Addr × Obj)) (s : Shared) (σ : St) (H : Hp) (Q : Bool → Hp → Prop), Inv X pins σ H s → t σ H Q → wpAny (model X.prog X.w) X.A (isTrue e X.env whole) (TP X pins σ Q) X.xe s
theorem PW.pt {X : Cx} {e : Expr} {t : TT} (h : PW X e t) : PT X e t := h _
/-- an argument list (no star), from the left -/
def PA (X : Cx) (es : List Expr) (t : TA) : Prop :=
  ∀ (pos : Pos) (pins : List (Addr × Obj)) (s : Shared) (σ : St) (H : Hp) (Q : List V → Hp → Prop), Inv X pins σ H s → t σ H Q → wpAny (model X.prog X.w) X.A (spliced (backTo pos (starEach es X.env))) (AP X pins σ Q) X.xe s
def PS (X : Cx) (st : Stmt) (t : TS) : Prop :=
  ∀ (pins : List (Addr × Obj)) (s : Shared) (σ : St) (H : Hp) (D : Ends), Inv X pins σ H s → t D σ H → wpAny (model X.prog X.w) X.A (exec st X.env) (SP X pins D) X.xe s
def PSs (X : Cx) (st : List Stmt) (t : TS) : Prop :=
  ∀ (pins : List (Addr × Obj)) (s : Shared) (σ : St) (H : Hp) (D : Ends), Inv X pins σ H s → t D σ H → wpAny (model X.prog X.w) X.A (execs st X.env) (SP X pins D) X.xe s
/-- weaken the end -/
theorem thn {α : Type} {t : Sem α} {Q Q' : α → Shared → Prop} {M : Model} {A : Around} {E : Value → Shared → Prop} {s : Shared} (h : wpAny M A t Q E s) (hQ : ∀ a s, Q a s → Q' a s) : wpAny M A t Q' E s := wpAny_mono h hQ fun _ _ x => x
end L2

namespace L2
open PySem PySem.Spec PyProof.Rows
section
variable {X : Cx}

/-- two expressions in a row -/
theorem bin {a b : Expr} {ta tb : TE} (ha : PE X a ta) (hb : PE X b tb) {pins : List (Addr × Obj)} {s : Shared} {σ : St} {H : Hp} {R : V → V → Hp → Prop} (I : Inv X pins σ H s) (h : ta σ H fun x H1 => tb σ H1 fun y H2 => R x y H2)
    {α : Type} {Q : α → Shared → Prop} {f : Value → Value → Sem α}
    (hf : ∀ v u s2 x y H2, Inv X pins σ H2 s2 → RelV x v → RelV y u → R x y H2 → wpAny (model X.prog X.w) X.A (f v u) Q X.xe s2) :
    wpAny (model X.prog X.w) X.A (eval a X.env) (fun v s₁ => wpAny (model X.prog X.w) X.A (eval b X.env) (fun u s₂ => wpAny (model X.prog X.w) X.A (f v u) Q X.xe s₂) X.xe s₁) X.xe s := by
  refine thn (ha pins s σ H _ I h) fun v s1 ⟨x, H1, I1, r1, q1⟩ => ?_
  refine thn (hb pins s1 σ H1 _ I1 q1) fun u s2 ⟨y, H2, I2, r2, q2⟩ => ?_
  exact hf v u s2 x y H2 I2 r1 r2 q2

/-! ### names and constants -/
def tVar (i : Nat) : TE := fun σ H Q => ∃ v, σ[i]? = some (some v) ∧ Q v H
def tC (v : V) : TE := fun _ H Q => Q v H
theorem pe_var {i : Nat} {x : Str} {pos : Pos} (hN : X.N[i]? = some x) (hv : Vis X.env.scope x) (hd : (x == ("__debug__" : Str)) = false := by decide) (hcd : (x == ("__classdict__" : Str)) = false := by decide) : PE X (.Name x pos) (tVar i) := by
  intro pins s σ H Q I h
  obtain ⟨v, e, h⟩ := h
  obtain ⟨m, hn, hl⟩ := I.loc
  obtain ⟨u, r, l⟩ := hl i x v hN e hv
  have fin : EP X pins σ Q u s := ⟨v, H, I, r, h⟩
  rcases l with ⟨hk, hm⟩ | ⟨hk, c, hc, hcell⟩
  · exact wpAny_Name (wpAny_loadName_local I.ok.kind hk hn hm fin) hd
  · rcases hk with hk | hk
    · exact wpAny_Name (wpAny_loadName_cell I.ok.kind hk hc hcell fin) hd
    · exact wpAny_Name (wpAny_loadName_free I.ok.kind hk hc hcell fin hcd) hd
theorem pe_int {i j pos} : PE X (.Constant (.int i) j pos) (tC (.int i)) := fun _ _ _ H _ I h => wpAny_Constant_int ⟨.int i, H, I.tok _, ⟨_, rfl⟩, h⟩
theorem pe_bl {b j pos} : PE X (.Constant (.bool b) j pos) (tC (.bl b)) := fun _ _ _ H _ I h => Constant_bool ⟨.bl b, H, I, rfl, h⟩
theorem pe_str {x j pos} : PE X (.Constant (.str x) j pos) (tC (.str x)) := fun _ _ _ H _ I h => Calls.Constant_str ⟨.str x, H, I.tok _, ⟨_, rfl⟩, h⟩

/-- a global name of the def -/
def Gl (X : Cx) (x : Str) : Prop := X.env.kindOf x = some .globalImplicit
theorem ld_glob {E : Value → Shared → Prop} {pins : List (Addr × Obj)} {s : Shared} {σ : St} {H : Hp} {x : Str} {u : Value} {pos : Pos} {Q : Value → Shared → Prop} (I : Inv X pins σ H s) (hg : Gl X x) (hm : X.mg x = some u) (h : Q u s)
    (hd : (x == ("__debug__" : Str)) = false := by decide) : wpAny (model X.prog X.w) X.A (eval (.Name x pos) X.env) Q E s :=
  Calls.Name_function_global I.ok.kind hg (Calls.loadGlobal_global (by rw [I.ok.glob]; exact I.mod.glob.keeps I.bk) hm h) hd
theorem ld_blt {E : Value → Shared → Prop} {pins : List (Addr × Obj)} {s : Shared} {σ : St} {H : Hp} {x : Str} {u : Value} {pos : Pos} {Q : Value → Shared → Prop} (I : Inv X pins σ H s) (hg : Gl X x) (hm : X.mg x = none) (hv : bootBuiltins x = some u) (h : Q u s)
    (hn : x ≠ "__name__" := by decide) (hd : (x == ("__debug__" : Str)) = false := by decide) : wpAny (model X.prog X.w) X.A (eval (.Name x pos) X.env) Q E s := by
  obtain ⟨mb, h1, h2⟩ := I.mod.blt
  exact Calls.Name_function_global I.ok.kind hg (Calls.loadGlobal_builtin (by rw [I.ok.glob]; exact I.mod.glob.keeps I.bk) hm (by rw [I.ok.blt]; exact h1.keeps I.bk) ((h2 x hn).trans hv) h) hd
theorem pe_bltn {x : Str} {v : V} {u : Value} {pos : Pos} (hg : Gl X x) (hm : X.mg x = none) (hv : bootBuiltins x = some u) (r : RelV v u) (hn : x ≠ "__name__" := by decide) (hd : (x == ("__debug__" : Str)) = false := by decide) : PE X (.Name x pos) (tC v) :=
  fun _ _ _ H _ I h => ld_blt I hg hm hv ⟨v, H, I, r, h⟩ hn hd

/-! ### arithmetic -/
/-- two ints -/
def t2I (ta tb : TE) (k : Int → Int → Hp → Prop) : St → Hp → Prop := fun σ H => ta σ H fun x H1 => tb σ H1 fun y H2 => ∃ i j, x = .int i ∧ y = .int j ∧ k i j H2
def tAdd (ta tb : TE) : TE := fun σ H Q => t2I ta tb (fun i j H2 => Q (.int (i + j)) H2) σ H
def tSub (ta tb : TE) : TE := fun σ H Q => t2I ta tb (fun i j H2 => Q (.int (i - j)) H2) σ H
/-- the left factor below 2^64 -/
def tMul (ta tb : TE) : TE := fun σ H Q => t2I ta tb (fun i j H2 => (-(2 ^ 64) < i ∧ i < 2 ^ 64) ∧ Q (.int (i * j)) H2) σ H
variable {a b : Expr} {ta tb : TE} {pos : Pos}

/-! ### comparisons -/
def PC (X : Cx) (op : CmpOp) (a b : Expr) (t : TE) : Prop :=
  ∀ (pins : List (Addr × Obj)) (s : Shared) (σ : St) (H : Hp) (Q : VK), Inv X pins σ H s → t σ H Q →
    wpAny (model X.prog X.w) X.A (eval a X.env) (fun v s₁ => wpAny (model X.prog X.w) X.A (eval b X.env) (fun u s₂ => wpAny (model X.prog X.w) X.A (compareOp op v u) (EP X pins σ Q) X.xe s₂) X.xe s₁) X.xe s
theorem nobehind (b : Expr) {op : CmpOp} (h : op ≠ .In) (h2 : op ≠ .NotIn) : behindInMarks op b = false := by
  have e1 : (op == CmpOp.In) = false := by cases op <;> first | rfl | exact absurd rfl h
  have e2 : (op == CmpOp.NotIn) = false := by cases op <;> first | rfl | exact absurd rfl h2
  cases b <;> simp [behindInMarks, e1, e2]
def tCmp (p : Int → Int → Bool) (ta tb : TE) : TE := fun σ H Q => t2I ta tb (fun i j H2 => Q (.bl (p i j)) H2) σ H
abbrev tLt : TE → TE → TE := tCmp fun i j => decide (i < j)
abbrev tLe : TE → TE → TE := tCmp fun i j => decide (i ≤ j)
abbrev tGt : TE → TE → TE := tCmp fun i j => decide (j < i)
abbrev tGe : TE → TE → TE := tCmp fun i j => decide (j ≤ i)
abbrev tEqI : TE → TE → TE := tCmp fun i j => decide (i = j)
abbrev tNeI : TE → TE → TE := tCmp fun i j => !decide (i = j)
/-- a comparison of two ints, by its rule -/
theorem pc_int {op : CmpOp} {p : Int → Int → Bool} (ha : PE X a ta) (hb : PE X b tb)
    (rule : ∀ (i j : Int) (t u : Tok) (Q : Value → Shared → Prop) (s : Shared), Q (.bool (p i j)) s → wpAny (model X.prog X.w) X.A (compareOp op (.int i t) (.int j u)) Q X.xe s) : PC X op a b (tCmp p ta tb) := by
  intro pins s σ H Q I h
  refine bin ha hb I h fun v u s2 x y H2 I2 rx ry q => ?_
  obtain ⟨i, j, rfl, rfl, q⟩ := q
  obtain ⟨t, rfl⟩ := rx
  obtain ⟨t', rfl⟩ := ry
  exact rule i j t t' _ s2 ⟨.bl _, H2, I2, rfl, q⟩
theorem pc_eqI (ha : PE X a ta) (hb : PE X b tb) : PC X .Eq a b (tEqI ta tb) := pc_int ha hb fun _ _ _ _ _ _ h => eq_int (by rw [Bool.beq_eq_decide_eq]; exact h)
/-- is None -/
def tIsN (ta : TE) : TE := fun σ H Q => ta σ H fun x H1 => Q (.bl (decide (x = .non))) H1
def tNotN (ta : TE) : TE := fun σ H Q => ta σ H fun x H1 => Q (.bl (!decide (x = .non))) H1
/-- a comparison as a value, as a test -/
def tB (t : TE) : TT := fun σ H Q => t σ H fun x H1 => ∃ c, x = .bl c ∧ Q c H1
theorem pe_cmp {op : CmpOp} {t : TE} (h : PC X op a b t) (h1 : behindInMarks op b = false := by first | exact nobehind _ (by decide) (by decide) | rfl) : PE X (.Compare a [op] [b] pos) t := fun pins s σ H Q I hw => wpAny_Compare1 (h pins s σ H Q I hw) h1
theorem pt_cmp {op : CmpOp} {t : TE} (h : PC X op a b t) (h1 : behindInMarks op b = false := by first | exact nobehind _ (by decide) (by decide) | rfl) : PT X (.Compare a [op] [b] pos) (tB t) := by
  intro pins s σ H Q I hw
  refine wpAny_isTrue_Compare1 (thn (h pins s σ H _ I hw) fun v s1 h1 => thn h1 fun u s2 h2 => thn h2 fun c s3 ⟨x, H1, I1, r1, q1⟩ => ?_) h1
  obtain ⟨d, rfl, q⟩ := q1
  cases r1
  exact wpAny_truthy_bool ⟨H1, I1, q⟩
/-- an expression whose value is a bool, as a test -/
theorem pt_val {e : Expr} {t : TE} (h : PE X e t) (he : ∀ whole, isTrue e X.env whole = (do let v ← whole; standAt e.pos; holding [v] (truthy v)) := by intro _; rfl) : PT X e (tB t) := by
  intro pins s σ H Q I hw
  refine isTrue_plain (thn (h pins s σ H _ I hw) fun v s1 ⟨x, H1, I1, r1, q1⟩ => ?_) (he _)
  obtain ⟨d, rfl, q⟩ := q1
  cases r1
  exact wpAny_truthy_bool ⟨H1, I1, q⟩

/-! ### and, or, not -/
variable {tA tB' : TT} {rest : List Expr}
def tAnd (t u : TT) : TT := fun σ H Q => t σ H fun c H1 => if c = true then u σ H1 Q else Q false H1
def tOr (t u : TT) : TT := fun σ H Q => t σ H fun c H1 => if c = true then Q true H1 else u σ H1 Q
def tNot (t : TT) : TT := fun σ H Q => t σ H fun c H1 => Q (!c) H1
theorem pw_or1 (ha : PT X a tA) : PW X (.BoolOp .Or [a] pos) tA := by
  intro wh pins s σ H Q I h
  refine isTrue_or (thn (ha pins s σ H Q I h) fun c s1 e => ?_)
  cases c with
  | false => exact isTrue_or_nil e
  | true => exact e
theorem pw_or (ha : PT X a tA) (hb : PW X (.BoolOp .Or (b :: rest) pos) tB') : PW X (.BoolOp .Or (a :: b :: rest) pos) (tOr tA tB') := by
  intro wh pins s σ H Q I h
  refine isTrue_or (thn (ha pins s σ H _ I h) fun c s1 ⟨H1, I1, q1⟩ => ?_)
  cases c with
  | true => exact ⟨H1, I1, q1⟩
  | false => exact hb wh pins s1 σ H1 Q I1 q1
theorem pt_not (ha : PT X a tA) : PT X (.UnaryOp .Not a pos) (tNot tA) := by
  intro pins s σ H Q I h
  exact isTrue_not (ha pins s σ H (fun c H1 => Q (!c) H1) I h)
/-- .. as values (bools) -/
def tAndV (ta tb : TE) : TE := fun σ H Q => ta σ H fun x H1 => ∃ c, x = .bl c ∧ if c = true then tb σ H1 Q else Q (.bl false) H1
def tOrV (ta tb : TE) : TE := fun σ H Q => ta σ H fun x H1 => ∃ c, x = .bl c ∧ if c = true then Q (.bl true) H1 else tb σ H1 Q
def tNotV (ta : TE) : TE := fun σ H Q => ta σ H fun x H1 => ∃ c, x = .bl c ∧ Q (.bl (!c)) H1
theorem pe_one {op} {t : TE} (h : PE X a t) : PE X (.BoolOp op [a] pos) t := fun pins s σ H Q I hw => BoolOp_one (h pins s σ H Q I hw)
theorem pe_and (ha : PE X a ta) (hb : PE X (.BoolOp .And (b :: rest) pos) tb) : PE X (.BoolOp .And (a :: b :: rest) pos) (tAndV ta tb) := by
  intro pins s σ H Q I h
  refine BoolOp_and (thn (ha pins s σ H _ I h) fun v s1 ⟨x, H1, I1, r1, q1⟩ => ?_)
  obtain ⟨c, rfl, q1⟩ := q1
  cases r1
  refine wpAny_truthy_bool ?_
  cases c with
  | true => exact hb pins s1 σ H1 Q I1 q1
  | false => exact ⟨.bl false, H1, I1, rfl, q1⟩
/-- a if t else b -/
def tIf (t : TT) (ta tb : TE) : TE := fun σ H Q => t σ H fun c H1 => if c = true then ta σ H1 Q else tb σ H1 Q
end
end L2

namespace L2
open PySem PySem.Spec PyProof.Rows

/-! ### a list, a tuple that is read: tracked, frozen, or an object of the module -/
def SqL (K : PySem.W.Frag) (H : Hp) (a : Addr) (xs : List V) : Prop :=
  Rd H a (.lst xs) ∨
    ∃ (o : Obj) (its : Array Value) (n : Nat), K.lookup a = some o ∧ o.cls = .type "list" ∧ o.dict = none ∧ o.data = .seq its n ∧ its.size ≤ sizeLine ∧ Vals xs its.toList
def SqT (K : PySem.W.Frag) (H : Hp) (a : Addr) (xs : List V) : Prop :=
  Rd H a (.tup xs) ∨
    ∃ (o : Obj) (its : Array Value) (n : Nat), K.lookup a = some o ∧ o.cls = .type "tuple" ∧ o.data = .seq its n ∧ its.size ≤ sizeLine ∧ Vals xs its.toList
def absV : Value → Option V
  | .none => some .non
  | .bool b => some (.bl b)
  | .int i _ => some (.int i)
  | .str x _ => some (.str x)
  | .bytes b _ => some (.byt b)
  | .float b _ => some (.flt b)
  | .ref a => some (.ref a)
  | .type n => some (.ty n)
  | _ => none
theorem RelV.abs {x : V} {u : Value} (r : RelV x u) : absV u = some x := by
  cases x with
  | non => cases r; rfl
  | bl _ => cases r; rfl
  | int _ => obtain ⟨t, rfl⟩ := r; rfl
  | str _ => obtain ⟨t, rfl⟩ := r; rfl
  | byt _ => obtain ⟨t, rfl⟩ := r; rfl
  | flt _ => obtain ⟨t, rfl⟩ := r; rfl
  | ref _ => cases r; rfl
  | ty _ => cases r; rfl
theorem RelV.inj {x y : V} {u : Value} (r : RelV x u) (q : RelV y u) : x = y := Option.some.inj (r.abs.symm.trans q.abs)
theorem Vals.inj : ∀ {xs ys : List V} {us : List Value}, Vals xs us → Vals ys us → xs = ys
  | _, _, _, .nil, .nil => rfl
  | _, _, _, .cons r t, .cons r' t' => by rw [r.inj r', Vals.inj t t']
section
variable {X : Cx} {pins : List (Addr × Obj)} {σ : St} {H : Hp} {s : Shared} {a : Addr} {xs ys : List V}
theorem SqL.of {K : PySem.W.Frag} (h : H a = some (.lst xs)) : SqL K H a xs := .inl (.inl h)
theorem SqT.of {K : PySem.W.Frag} (h : H a = some (.tup xs)) : SqT K H a xs := .inl (.inl h)
theorem Inv.list (I : Inv X pins σ H s) (h : SqL X.K H a xs) : ∃ its : List Value, Vals xs its ∧ PlainL s.heap a its.toArray ∧ xs.length ≤ sizeLine := by
  rcases h with h | ⟨o, its, n, hk, hc, hd, hs, hz, r⟩
  · obtain ⟨z, its, n, r, e⟩ := h.ok I.hok
    exact ⟨its, r, ⟨_, n, e, rfl, rfl, rfl⟩, z⟩
  · refine ⟨its.toList, r, ⟨o, n, I.kIn a o hk, hc, hd, by simpa using hs⟩, ?_⟩
    have e := r.length
    simp only [Array.length_toList] at e
    omega
theorem Inv.tuple (I : Inv X pins σ H s) (h : SqT X.K H a xs) : ∃ its : List Value, Vals xs its ∧ IsTup s.heap a its.toArray ∧ xs.length ≤ sizeLine := by
  rcases h with h | ⟨o, its, n, hk, hc, hs, hz, r⟩
  · obtain ⟨z, its, r, p⟩ := h.ok I.hok
    exact ⟨its, r, p, z⟩
  · refine ⟨its.toList, r, ⟨o, I.kIn a o hk, hc, n, by simpa using hs⟩, ?_⟩
    have e := r.length
    simp only [Array.length_toList] at e
    omega
theorem Inv.list_inj (I : Inv X pins σ H s) (h : SqL X.K H a xs) (h' : SqL X.K H a ys) : xs = ys := by
  obtain ⟨its, r, ⟨o, n, e, _, _, d⟩, _⟩ := I.list h
  obtain ⟨its', r', ⟨o', n', e', _, _, d'⟩, _⟩ := I.list h'
  rw [e] at e'; cases e'
  rw [d] at d'
  injection d' with d1 _
  have : its = its' := by simpa using congrArg Array.toList d1
  subst this
  exact r.inj r'
theorem Inv.tuple_inj (I : Inv X pins σ H s) (h : SqT X.K H a xs) (h' : SqT X.K H a ys) : xs = ys := by
  obtain ⟨its, r, ⟨o, e, _, n, d⟩, _⟩ := I.tuple h
  obtain ⟨its', r', ⟨o', e', _, n', d'⟩, _⟩ := I.tuple h'
  rw [e] at e'; cases e'
  rw [d] at d'
  injection d' with d1 _
  have : its = its' := by simpa using congrArg Array.toList d1
  subst this
  exact r.inj r'
end

/-! ### another wish about exceptions -/
abbrev Cx.wish (X : Cx) (E : Value → Shared → Prop) : Cx := { X with xe := E }
/-- no exception leaves -/
abbrev Cx.nox (X : Cx) : Cx := X.wish fun _ _ => False
theorem Cx.Ok.wish {X : Cx} (ok : X.Ok) (E : Value → Shared → Prop) : (X.wish E).Ok :=
  ⟨ok.mod, ok.kind, ok.glob, ok.blt, ok.above, ok.inj, ok.has, ok.cab, ok.hd, ok.frames, ok.stk, ok.exf, ok.bs, ok.bsz, ok.noex, ok.exfs, ok.funs, ok.frf⟩
theorem Cx.Ok.unwish {X : Cx} {E : Value → Shared → Prop} (ok : (X.wish E).Ok) : X.Ok :=
  ⟨ok.mod, ok.kind, ok.glob, ok.blt, ok.above, ok.inj, ok.has, ok.cab, ok.hd, ok.frames, ok.stk, ok.exf, ok.bs, ok.bsz, ok.noex, ok.exfs, ok.funs, ok.frf⟩
section
variable {X : Cx} {pins : List (Addr × Obj)} {σ : St} {H : Hp} {s : Shared} {E : Value → Shared → Prop}
theorem Inv.wish (I : Inv X pins σ H s) (E : Value → Shared → Prop) : Inv (X.wish E) pins σ H s := ⟨I.ok.wish E, I.os, I.bare, I.base, I.loc, I.cell, I.free, I.freeC, I.pin, I.hok, I.len⟩
theorem Inv.unwish (I : Inv (X.wish E) pins σ H s) : Inv X pins σ H s := ⟨I.ok.unwish, I.os, I.bare, I.base, I.loc, I.cell, I.free, I.freeC, I.pin, I.hok, I.len⟩
theorem SP.unwish {D : Ends} {f : Flow} {s' : Shared} (h : SP (X.wish E) pins D f s') : SP X pins D f s' := by
  cases f with
  | next => obtain ⟨σ', H', I, q⟩ := h; exact ⟨σ', H', I.unwish, q⟩
  | brk => obtain ⟨σ', H', I, q⟩ := h; exact ⟨σ', H', I.unwish, q⟩
  | cont => obtain ⟨σ', H', I, q⟩ := h; exact ⟨σ', H', I.unwish, q⟩
  | ret u => obtain ⟨v, σ', H', I, r, q⟩ := h; exact ⟨v, σ', H', I.unwish, r, q⟩
theorem PSs.nox {st : List Stmt} {t : TS} (h : PSs X.nox st t) : PSs X st t := fun pins s σ H D I hw =>
  wpAny_mono (h pins s σ H D (I.wish _) hw) (fun _ _ q => q.unwish) fun _ _ z => False.elim z
end

/-! ### blocks and small statements -/
section
variable {X : Cx} {st : Stmt} {rest : List Stmt} {t u : TS} {e : Expr} {te : TE} {pos : Pos}
def tNext : TS := fun D σ H => D.nx σ H
def tSeq (t u : TS) : TS := fun D σ H => t { D with nx := u D } σ H
theorem pss_nil : PSs X [] tNext := fun _ _ σ H _ I h => wpAny_execs_nil ⟨σ, H, I, h⟩
theorem pss_cons (h1 : PS X st t) (h2 : PSs X rest u) : PSs X (st :: rest) (tSeq t u) := by
  intro pins s σ H D I h
  refine wpAny_execs_cons (thn (h1 pins s σ H { D with nx := u D } I h) fun f s1 q => ?_)
  cases f with
  | next =>
    obtain ⟨σ', H', I', q⟩ := q
    exact h2 pins s1 σ' H' D I' q
  | ret v => exact q
  | brk => exact q
  | cont => exact q
theorem pss_one (h1 : PS X st t) : PSs X [st] t := by
  intro pins s σ H D I h
  refine wpAny_execs_cons (thn (h1 pins s σ H D I h) fun f s1 q => ?_)
  cases f with
  | next => exact wpAny_execs_nil q
  | ret v => exact q
  | brk => exact q
  | cont => exact q
def tBreak : TS := fun D σ H => D.bk σ H
def tCont : TS := fun D σ H => D.ct σ H
/-- in a def's body nothing is shown -/
theorem Inv.quiet {pins : List (Addr × Obj)} {σ : St} {H : Hp} {s : Shared} (I : Inv X pins σ H s) : interactive X.env = false := by simp [interactive, I.ok.kind]
/-- an expression whose value is dropped -/
def tDrop (te : TE) : TS := fun D σ H => te σ H fun _ H1 => D.nx σ H1
theorem ps_expr (he : PE X e te) (hs : swapsWith e none pos.line X.env = pure false := by rfl) : PS X (.Expr e pos) (tDrop te) := by
  intro pins s σ H D I h
  exact wpAny_Expr_any (thn (he pins s σ H _ I h) fun v s1 ⟨x, H1, I1, r1, q1⟩ => ⟨σ, H1, I1, q1⟩) I.quiet hs
def tRet (te : TE) : TS := fun D σ H => te σ H D.rt
theorem ps_ret (he : PE X e te) : PS X (.Return (some e) pos) (tRet te) := by
  intro pins s σ H D I h
  exact wpAny_Return_some (thn (he pins s σ H _ I h) fun v s1 ⟨x, H1, I1, r1, q1⟩ => ⟨x, σ, H1, I1, r1, q1⟩)
def tRetN : TS := fun D _ H => D.rt .non H
def tIfS (c : TT) (t u : TS) : TS := fun D σ H => c σ H fun b H1 => if b = true then t D σ H1 else u D σ H1
theorem ps_if {c : Expr} {a b : List Stmt} {tc : TT} (hc : PT X c tc) (ha : PSs X a t) (hb : PSs X b u) : PS X (.If c a b pos) (tIfS tc t u) := by
  intro pins s σ H D I h
  refine wpAny_If (thn (hc pins s σ H _ I h) fun d s1 ⟨H1, I1, q1⟩ => ?_)
  cases d with
  | true => exact ha pins s1 σ H1 D I1 q1
  | false => exact hb pins s1 σ H1 D I1 q1
/-- code that the proof never comes to -/
def tNever : TS := fun _ _ _ => False
end

/-! ### targets -/
abbrev TG := V → St → Hp → (St → Hp → Prop) → Prop
abbrev TGs := List V → St → Hp → (St → Hp → Prop) → Prop
def PG (X : Cx) (target : Expr) (t : TG) : Prop :=
  ∀ (pins : List (Addr × Obj)) (s : Shared) (σ : St) (H : Hp) (v : V) (u : Value) (Q : St → Hp → Prop), Inv X pins σ H s → RelV v u → t v σ H Q →
    wpAny (model X.prog X.w) X.A (assign target X.env u) (fun _ s' => ∃ σ' H', Inv X pins σ' H' s' ∧ Q σ' H') X.xe s
/-- several targets, one after another -/
def PGs (X : Cx) (ts : List Expr) (t : TGs) : Prop :=
  ∀ (pins : List (Addr × Obj)) (s : Shared) (σ : St) (H : Hp) (vs : List V) (us : List Value) (Q : St → Hp → Prop), Inv X pins σ H s → Vals vs us → t vs σ H Q →
    wpAny (model X.prog X.w) X.A (assignInOrder ((assignEach ts X.env).map (·.2)) us) (fun _ s' => ∃ σ' H', Inv X pins σ' H' s' ∧ Q σ' H') X.xe s
/-- o[i] = v, by values -/
abbrev TSet := V → V → V → Hp → (Hp → Prop) → Prop
def PSet (X : Cx) (t : TSet) : Prop :=
  ∀ (pins : List (Addr × Obj)) (s : Shared) (σ : St) (H : Hp) (o i v : V) (ov iv u : Value) (Q : Hp → Prop), Inv X pins σ H s → RelV o ov → RelV i iv → RelV v u → t o i v H Q →
    wpAny (model X.prog X.w) X.A (setItem ov iv u) (fun _ s' => ∃ H', Inv X pins σ H' s' ∧ Q H') X.xe s
/-- a op= b, by values -/
abbrev TIp := V → V → Hp → VK → Prop
def PIp (X : Cx) (op : Operator) (t : TIp) : Prop :=
  ∀ (pins : List (Addr × Obj)) (s : Shared) (σ : St) (H : Hp) (x y : V) (v u : Value) (Q : VK), Inv X pins σ H s → RelV x v → RelV y u → t x y H Q →
    wpAny (model X.prog X.w) X.A (inplaceOp op v u) (EP X pins σ Q) X.xe s
section
variable {X : Cx} {pos : Pos}
def gName (i : Nat) : TG := fun v σ H Q => Q (σ.set i (some v)) H
theorem pg_name {i : Nat} {x : Str} (hN : X.N.Nodup) (hi : X.N[i]? = some x) (hx : Loc X.env.scope x) (hf : X.fn x = true ∨ X.env.scope.names.lookup x = some .local := by first | exact .inl rfl | exact .inr rfl | assumption) : PG X (.Name x pos) (gName i) := by
  intro pins s σ H v u Q I r h
  exact wpAny_assign_Name (store_ok I hN hi hx r (fun s' I' => ⟨_, H, I', h⟩) hf)
def gNil : TGs := fun vs σ H Q => vs = [] ∧ Q σ H
def gCons (t : TG) (u : TGs) : TGs := fun vs σ H Q => ∃ v r, vs = v :: r ∧ t v σ H fun σ' H' => u r σ' H' Q
/-- (a, b, ..) = a tuple of that length -/
def gTup (K : PySem.W.Frag) (n : Nat) (t : TGs) : TG := fun v σ H Q => ∃ a xs, v = .ref a ∧ SqT K H a xs ∧ xs.length = n ∧ t xs σ H Q
/-- o[i] = .. -/
def gSub (to ti : TE) (t : TSet) : TG := fun v σ H Q => to σ H fun o H1 => ti σ H1 fun i H2 => t o i v H2 fun H3 => Q σ H3
/-- target = value -/
def tAsg (te : TE) (g : TG) : TS := fun D σ H => te σ H fun x H1 => g x σ H1 D.nx
/-- name = value -/
theorem ps_set {i : Nat} {x : Str} {e : Expr} {te : TE} {pos' : Pos} (hN : X.N.Nodup) (hi : X.N[i]? = some x) (hx : Loc X.env.scope x) (he : PE X e te) (hs : swapsWith e (some (.Name x pos')) pos.line X.env = pure false := by rfl) (hf : X.fn x = true ∨ X.env.scope.names.lookup x = some .local := by first | exact .inl rfl | exact .inr rfl | assumption) :
    PS X (.Assign [.Name x pos'] e pos) (tAsg te (gName i)) := by
  intro pins s σ H D I h
  refine wpAny_Assign_Name (thn (he pins s σ H _ I h) fun v s1 ⟨y, H1, I1, r1, q1⟩ => ?_) hs
  exact store_ok I1 hN hi hx r1 (fun s2 I2 => ⟨_, H1, I2, q1⟩) hf
/-- a, b = x, y with plain local names: stored from the right; the pair itself is not tracked (the opening rows as in PyProof/Rows/TupAssign.lean:23) -/
def tPar (i j : Nat) (ta : TA) : TS := fun D σ H => ta σ H fun vs H1 => ∃ v w, vs = [v, w] ∧ D.nx ((σ.set i (some v)).set j (some w)) H1
/-- name op= e -/
def tAug (i : Nat) (te : TE) (ti : TIp) : TS := fun D σ H => ∃ x, σ[i]? = some (some x) ∧ te σ H fun y H1 => ti x y H1 fun z H2 => D.nx (σ.set i (some z)) H2
/-- o[i] op= e -/
def tAugS (to ti te : TE) (tget : V → V → Hp → VK → Prop) (tip : TIp) (tset : TSet) : TS := fun D σ H => to σ H fun o H1 => ti σ H1 fun i H2 => tget o i H2 fun x H3 => te σ H3 fun y H4 => tip x y H4 fun z H5 => tset o i z H5 fun H6 => D.nx σ H6
/-- o[i], by values -/
def PGet (X : Cx) (t : V → V → Hp → VK → Prop) : Prop :=
  ∀ (pins : List (Addr × Obj)) (s : Shared) (σ : St) (H : Hp) (o i : V) (ov iv : Value) (Q : VK), Inv X pins σ H s → RelV o ov → RelV i iv → t o i H Q →
    wpAny (model X.prog X.w) X.A (getItem ov iv) (EP X pins σ Q) X.xe s
/-- ints -/
def ipI (f : Int → Int → Int) : TIp := fun x y H Q => ∃ i j, x = .int i ∧ y = .int j ∧ Q (.int (f i j)) H
end

/-! ### while -/
section
variable {X : Cx} {pos : Pos}
/-- the invariant W with its measure -/
def tWhile (c : TT) (tb : TS) : TS := fun D σ H => ∃ W : Nat → St → Hp → Prop, (∃ m, W m σ H) ∧ ∀ m σ H, W m σ H →
  c σ H fun b H1 => if b = true then ∃ N : St → Hp → Prop, (∀ σ' H', N σ' H' → ∃ m', m' < m ∧ W m' σ' H') ∧ tb { D with nx := N, ct := N, bk := D.nx } σ H1 else D.nx σ H1
theorem ps_while {c : Expr} {body : List Stmt} {tc : TT} {tb : TS} (hp : PassesOwn (model X.prog X.w) X.A X.env X.xe) (hc : PT X c tc) (hb : PSs X body tb) : PS X (.While c body [] pos) (tWhile tc tb) := by
  intro pins s σ H D I h
  obtain ⟨W, ⟨m0, w0⟩, turn⟩ := h
  refine wpAny_While (codeAny_whileLoop (fun n s' => ∃ σ' H', Inv X pins σ' H' s' ∧ W n σ' H') ?_ m0 ⟨σ, H, I, w0⟩)
  rintro n s1 ⟨σ1, H1, I1, w1⟩
  refine wpAny_passesOwn hp (thn (hc pins s1 σ1 H1 _ I1 (turn n σ1 H1 w1)) fun b s2 ⟨H2, I2, q2⟩ => ?_)
  cases b with
  | true =>
    obtain ⟨N, hN, q2⟩ := q2
    rw [if_pos rfl]
    refine wpAny_passesOwn hp (thn (hb pins s2 σ1 H2 _ I2 q2) fun f s3 q3 => ?_)
    cases f with
    | next =>
      obtain ⟨σ3, H3, I3, n3⟩ := q3
      obtain ⟨m', hm, w3⟩ := hN σ3 H3 n3
      exact ⟨m', hm, σ3, H3, I3, w3⟩
    | cont =>
      obtain ⟨σ3, H3, I3, n3⟩ := q3
      obtain ⟨m', hm, w3⟩ := hN σ3 H3 n3
      exact ⟨m', hm, σ3, H3, I3, w3⟩
    | brk => exact q3
    | ret v => exact q3
  | false =>
    rw [if_neg Bool.false_ne_true]
    exact wpAny_execs_nil ⟨σ1, H2, I2, q2⟩
end

/-! ### what a loop or a comprehension walks -/
/-- at turn i: it yields x (the heap may grow), or it stops -/
structure It where
  go : Nat → Hp → Prop
  yld : Nat → Hp → V → Hp → Prop
  stop : Nat → Hp → Prop
/-- the iterator's own objects may turn: they are not the frame's, not pinned, younger than the entry (or a comprehension's own) -/
def FpOk (X : Cx) (pins : List (Addr × Obj)) (H : Hp) (b : Addr) : Prop :=
  H b = none ∧ b ≠ X.env.locals ∧ b ∉ X.fs ∧ (b ∈ X.ex ∨ X.s₀.heap.objs.size ≤ b) ∧ (∀ x c, X.env.cells.lookup x = some c → c ≠ b) ∧ ∀ p ∈ X.pn ++ pins, p.1 ≠ b
theorem Inv.fpOk {X : Cx} {pins : List (Addr × Obj)} {σ : St} {H H' : Hp} {s : Shared} {b : Addr} (I : Inv X pins σ H s) (hb : s.heap.objs.size ≤ b) (hn : H' b = none) : FpOk X pins H' b := by
  refine ⟨hn, Nat.ne_of_gt (Nat.lt_of_lt_of_le I.lt hb), I.nofs hb, .inr (Nat.le_trans I.sz hb), fun x c e z => ?_, fun p hp z => ?_⟩
  · obtain ⟨v, q⟩ := I.cell x c e
    exact absurd (Nat.lt_of_lt_of_le q.lt (by rw [z]; exact hb)) (Nat.lt_irrefl _)
  · exact absurd (Nat.lt_of_lt_of_le (Heap.lt_size (I.pin p hp).1) (by rw [z]; exact hb)) (Nat.lt_irrefl _)
structure Turn (P : Program) (w : World) (K : PySem.W.Frag) (tg : Expr) (J : It) (fp : List Addr) (it : Addr) (tn : Nat → Heap → Prop) : Prop where
  mem : it ∈ fp
  obj : ∀ i h, tn i h → ∀ b ∈ fp, ∃ o, h.get? b = some o ∧ ∀ v, o.data ≠ .cell v
  keep : ∀ i h h', tn i h → (∀ b ∈ fp, ∀ o, h.get? b = some o → h'.get? b = some o) → tn i h'
  item : ∀ (X : Cx), X.prog = P → X.w = w → X.K = K → X.calm = true → ∀ (i : Nat) (pins : List (Addr × Obj)) (s : Shared) (σ : St) (H : Hp) (E : Value → Shared → Prop), Inv X pins σ H s → (∀ b ∈ fp, FpOk X pins H b) → tn i s.heap → J.go i H →
    wpAny (model P w) X.A (pyNext (.ref it)) (fun r s1 => ∃ u, r = some u ∧
      wpAny (model P w) X.A (letOwnedTupleGo tg (.ref it) u) (fun _ s2 => ∃ x H', Inv X pins σ H' s2 ∧ RelV x u ∧ J.yld i H x H' ∧ tn (i + 1) s2.heap ∧ ∀ b ∈ fp, H' b = none) E s1) E s
  done : ∀ (X : Cx), X.prog = P → X.w = w → X.K = K → X.calm = true → ∀ (i : Nat) (pins : List (Addr × Obj)) (s : Shared) (σ : St) (H : Hp) (E : Value → Shared → Prop), Inv X pins σ H s → (∀ b ∈ fp, FpOk X pins H b) → tn i s.heap → J.stop i H →
    wpAny (model P w) X.A (pyNext (.ref it)) (fun r s1 => r = none ∧ Inv X pins σ H s1) E s
  self : ∀ (A : Around) (i : Nat) (s : Shared) (Q : Value → Shared → Prop) (E : Value → Shared → Prop), tn i s.heap → Q (.ref it) s → wpAny (model P w) A (pyIter (.ref it)) Q E s
abbrev TI := St → Hp → (It → Hp → Prop) → Prop
/-- an iterator has come -/
def PIE (X : Cx) (pins : List (Addr × Obj)) (σ : St) (tg : Expr) (R : It → Hp → Prop) (itv : Value) (s2 : Shared) : Prop :=
  ∃ (it : Addr) (fp : List Addr) (tn : Nat → Heap → Prop) (J : It) (H' : Hp), itv = .ref it ∧ Inv X pins σ H' s2 ∧ Turn X.prog X.w X.K tg J fp it tn ∧ tn 0 s2.heap ∧ (∀ b ∈ fp, FpOk X pins H' b) ∧ R J H'
def PI (X : Cx) (tg iter : Expr) (wi : TI) : Prop :=
  ∀ (pins : List (Addr × Obj)) (s : Shared) (σ : St) (H : Hp) (R : It → Hp → Prop), Inv X pins σ H s → wi σ H R →
    wpAny (model X.prog X.w) X.A (eval iter X.env) (fun v s1 => wpAny (model X.prog X.w) X.A (pyIter v) (PIE X pins σ tg R) X.xe s1) X.xe s

/-- the step ahead of the store is nothing for an iterator that keeps no tuple -/
theorem go_of {M : Model} {A : Around} {E : Value → Shared → Prop} {s : Shared} {tg : Expr} {it : Addr} {u : Value} {o : Obj} {n : String} {vs : Array Value} {Q : Unit → Shared → Prop} (ho : s.heap.get? it = some o) (hc : o.cls = .type n) (hd : o.data = .fields vs)
    (hn : ["enumerate", "zip", "dict_itemiterator", "dict_reverseitemiterator", "odict_iterator", "itertools.zip_longest", "itertools.pairwise"].contains n = false) (hQ : Q () s) : wpAny M A (letOwnedTupleGo tg (.ref it) u) Q E s := by
  unfold letOwnedTupleGo
  cases tg <;> first
    | exact wpAny_pure hQ
    | (cases u <;> first
        | exact wpAny_pure hQ
        | (refine wpAny_bind (wpAny_load ho ?_)
           rw [hc, hd]
           show wpAny M A (if (["enumerate", "zip", "dict_itemiterator", "dict_reverseitemiterator", "odict_iterator", "itertools.zip_longest", "itertools.pairwise"].contains n && vs[0]? == some (rawInt _)) = true then _ else _) Q E s
           rw [if_neg (by intro h; rw [hn, Bool.false_and] at h; cases h)]
           exact wpAny_pure hQ))

/-- the list at a, as it stands at each turn (a loop may append to it) -/
def Itl (K : PySem.W.Frag) (a : Addr) : It :=
  ⟨fun i H => ∃ xs x, SqL K H a xs ∧ xs[i]? = some x, fun i H x H' => H' = H ∧ ∀ xs, SqL K H a xs → xs[i]? = some x, fun i H => ∃ xs, SqL K H a xs ∧ xs.length ≤ i⟩
def Itt (K : PySem.W.Frag) (a : Addr) : It :=
  ⟨fun i H => ∃ xs x, SqT K H a xs ∧ xs[i]? = some x, fun i H x H' => H' = H ∧ ∀ xs, SqT K H a xs → xs[i]? = some x, fun i H => ∃ xs, SqT K H a xs ∧ xs.length ≤ i⟩
/-- lo, lo + 1, .. (n of them) -/
def Itr (lo : Int) (n : Nat) : It := ⟨fun i _ => i < n, fun i H x H' => H' = H ∧ x = .int (lo + i), fun i _ => n ≤ i⟩
theorem turn_list {P : Program} {w : World} {K : PySem.W.Frag} {tg : Expr} (a it : Addr) : Turn P w K tg (Itl K a) [it] it (fun i h => h.IsListIter it a i) where
  mem := by simp
  obj := fun i h st b hb => by
    have e : b = it := by simpa using hb
    subst e
    obtain ⟨o, e, c, d⟩ := st
    exact ⟨o, e, fun v z => by rw [d] at z; cases z⟩
  keep := fun i h h' st k => st.at fun o e => k it (by simp) o e
  item := by
    intro X hP hw hK hc i pins s σ H E I hf st hg
    subst hP hw hK
    obtain ⟨xs, x, hq, hx⟩ := hg
    obtain ⟨its, rv, p, hz⟩ := I.list hq
    obtain ⟨u, hu, ru⟩ := rv.get hx
    obtain ⟨f0, f1, f2, f3, f4, f5⟩ := hf it (by simp)
    refine wpAny_pyNext_list_item st p.isList (x := u) (by simpa using hu) fun h' st' sb => ?_
    have I1 : Inv X pins σ H { s with heap := h' } := I.turned (t' := s.toks) (fun b o hb e => (sb.2 b hb).trans e) f0 f1 f3 f4 f5
    obtain ⟨o, e, c, d⟩ := id st'
    exact ⟨u, rfl, go_of (s := { s with heap := h' }) e c d (by decide) ⟨x, H, I1, ru, ⟨rfl, fun ys hy => by rw [I.list_inj hy hq]; exact hx⟩, st', fun b hb => (hf b hb).1⟩⟩
  done := by
    intro X hP hw hK hc i pins s σ H E I hf st hg
    subst hP hw hK
    obtain ⟨xs, hq, hx⟩ := hg
    obtain ⟨its, rv, p, hz⟩ := I.list hq
    obtain ⟨f0, f1, f2, f3, f4, f5⟩ := hf it (by simp)
    have hl := rv.length
    exact wpAny_pyNext_list_end (I.ok.hd hc) st p.isList (by simp; omega) fun h' eb => ⟨rfl, I.turned (t' := s.toks) (fun b o hb e => eb b o hb e) f0 f1 f3 f4 f5⟩
  self := fun _ _ _ _ _ st h => wpAny_pyIter_listiter st h
theorem turn_tuple {P : Program} {w : World} {K : PySem.W.Frag} {tg : Expr} (a it : Addr) : Turn P w K tg (Itt K a) [it] it (fun i h => h.IsTupleIter it a i) where
  mem := by simp
  obj := fun i h st b hb => by
    have e : b = it := by simpa using hb
    subst e
    obtain ⟨o, e, c, d⟩ := st
    exact ⟨o, e, fun v z => by rw [d] at z; cases z⟩
  keep := fun i h h' st k => st.at fun o e => k it (by simp) o e
  item := by
    intro X hP hw hK hc i pins s σ H E I hf st hg
    subst hP hw hK
    obtain ⟨xs, x, hq, hx⟩ := hg
    obtain ⟨its, rv, p, hz⟩ := I.tuple hq
    obtain ⟨u, hu, ru⟩ := rv.get hx
    obtain ⟨f0, f1, f2, f3, f4, f5⟩ := hf it (by simp)
    refine wpAny_pyNext_tuple_item st (show s.heap.IsTuple a its.toArray from p) (x := u) (by simpa using hu) fun h' st' sb => ?_
    have I1 : Inv X pins σ H { s with heap := h' } := I.turned (t' := s.toks) (fun b o hb e => (sb.2 b hb).trans e) f0 f1 f3 f4 f5
    obtain ⟨o, e, c, d⟩ := id st'
    exact ⟨u, rfl, go_of (s := { s with heap := h' }) e c d (by decide) ⟨x, H, I1, ru, ⟨rfl, fun ys hy => by rw [I.tuple_inj hy hq]; exact hx⟩, st', fun b hb => (hf b hb).1⟩⟩
  done := by
    intro X hP hw hK hc i pins s σ H E I hf st hg
    subst hP hw hK
    obtain ⟨xs, hq, hx⟩ := hg
    obtain ⟨its, rv, p, hz⟩ := I.tuple hq
    obtain ⟨f0, f1, f2, f3, f4, f5⟩ := hf it (by simp)
    have hl := rv.length
    exact wpAny_pyNext_tuple_end (I.ok.hd hc) st (show s.heap.IsTuple a its.toArray from p) (by simp; omega) fun h' eb => ⟨rfl, I.turned (t' := s.toks) (fun b o hb e => eb b o hb e) f0 f1 f3 f4 f5⟩
  self := fun _ _ _ _ _ st h => wpAny_pyIter_tupleiter st h
theorem turn_range {P : Program} {w : World} {K : PySem.W.Frag} {tg : Expr} (it : Addr) (lo : Int) (n : Nat) : Turn P w K tg (Itr lo n) [it] it (fun i h => IsRangeIter h it (lo + (i : Nat) * 1) ((n : Int) - (i : Nat)) 1) where
  mem := by simp
  obj := fun i h st b hb => by
    have e : b = it := by simpa using hb
    subst e
    exact ⟨_, st, fun v z => by
      have z' : Data.fields _ = Data.cell v := z
      cases z'⟩
  keep := fun i h h' st k => k it (by simp) _ st
  item := by
    intro X hP hw hK hc i pins s σ H E I hf st hg
    subst hP hw hK
    obtain ⟨f0, f1, f2, f3, f4, f5⟩ := hf it (by simp)
    have W := Walks.range (prog := X.prog) (w := X.w) (I.ok.hd hc) it lo 1 n
    refine W.item i s _ _ hg st fun v h' tk hv st' kk => ?_
    obtain ⟨t, rfl⟩ := hv
    have I1 : Inv X pins σ H { s with heap := h', toks := tk } := I.turned (fun b o hb e => kk b o (by simpa using hb) e) f0 f1 f3 f4 f5
    refine ⟨_, rfl, go_of (s := { s with heap := h', toks := tk }) (n := "range_iterator") st' rfl rfl (by decide) ⟨.int (lo + i), H, I1, ⟨t, ?_⟩, ⟨rfl, rfl⟩, st', fun b hb => (hf b hb).1⟩⟩
    rw [Int.mul_one]
  done := by
    intro X hP hw hK hc i pins s σ H E I hf st hg
    subst hP hw hK
    obtain ⟨f0, f1, f2, f3, f4, f5⟩ := hf it (by simp)
    exact wpAny_pyNext_range_end (I.ok.hd hc) st (by have : n ≤ i := hg; omega) fun h' eb => ⟨rfl, I.turned (t' := s.toks) (fun b o hb e => eb b o hb e) f0 f1 f3 f4 f5⟩
  self := fun _ _ _ _ _ st h => wpAny_pyIter_rangeiter st h
end L2

namespace L2
open PySem PySem.Spec PyProof.Rows
section
variable {X : Cx} {tg : Expr}
def iList (K : PySem.W.Frag) (tl : TE) : TI := fun σ H R => tl σ H fun x H1 => ∃ a, x = .ref a ∧ (∃ xs, SqL K H1 a xs) ∧ R (Itl K a) H1
def iTup (K : PySem.W.Frag) (tl : TE) : TI := fun σ H R => tl σ H fun x H1 => ∃ a, x = .ref a ∧ (∃ xs, SqT K H1 a xs) ∧ R (Itt K a) H1
theorem pi_list {l : Expr} {tl : TE} (hl : PE X l tl) : PI X tg l (iList X.K tl) := by
  intro pins s σ H R I h
  refine thn (hl pins s σ H _ I h) fun v s1 ⟨x, H1, I1, r1, q1⟩ => ?_
  obtain ⟨a, e, ⟨xs, hq⟩, q⟩ := q1
  subst e
  cases r1
  obtain ⟨its, rv, p, hz⟩ := I1.list hq
  refine wpAny_pyIter_list p.isList ?_
  refine ⟨s1.heap.objs.size, [s1.heap.objs.size], _, _, H1, rfl, I1.kept (t' := s1.toks) fun b o e => Heap.get?_push_of_some _ e, turn_list a _, ⟨_, Heap.get?_push_size _ rfl, rfl, rfl⟩, fun b hb => ?_, q⟩
  have e : b = s1.heap.objs.size := by simpa using hb
  subst e
  exact I1.fpOk (Nat.le_refl _) (I1.hok.fresh (Nat.le_refl _))
theorem pi_tup {l : Expr} {tl : TE} (hl : PE X l tl) : PI X tg l (iTup X.K tl) := by
  intro pins s σ H R I h
  refine thn (hl pins s σ H _ I h) fun v s1 ⟨x, H1, I1, r1, q1⟩ => ?_
  obtain ⟨a, e, ⟨xs, hq⟩, q⟩ := q1
  subst e
  cases r1
  obtain ⟨its, rv, p, hz⟩ := I1.tuple hq
  refine wpAny_pyIter_tuple (show s1.heap.IsTuple a its.toArray from p) ?_
  refine ⟨s1.heap.objs.size, [s1.heap.objs.size], _, _, H1, rfl, I1.kept (t' := s1.toks) fun b o e => Heap.get?_push_of_some _ e, turn_tuple a _, ⟨_, Heap.get?_push_size _ rfl, rfl, rfl⟩, fun b hb => ?_, q⟩
  have e : b = s1.heap.objs.size := by simpa using hb
  subst e
  exact I1.fpOk (Nat.le_refl _) (I1.hok.fresh (Nat.le_refl _))
/-- a range object just made, walked -/
theorem range_it {pins : List (Addr × Obj)} {σ : St} {H : Hp} {s : Shared} {R : It → Hp → Prop} {E : Value → Shared → Prop} {lo hi : Int} {t u v : Tok} {tk : Nat} (I : Inv X pins σ H s) (h1 : -(2 ^ 62) ≤ lo) (h2 : lo < 2 ^ 62) (h3 : -(2 ^ 62) ≤ hi) (h4 : hi < 2 ^ 62)
    (q : R (Itr lo (hi - lo).toNat) H) : wpAny (model X.prog X.w) X.A (pyIter (.ref s.heap.objs.size)) (PIE X pins σ tg R) E { s with heap := s.heap.push { cls := .type "range", data := .fields #[.int lo t, .int hi u, .int 1 v] }, toks := tk } := by
  refine wpAny_pyIter_range (IsRange.new ..) (small_one h1 h2 h3 h4) ?_
  have I1 : Inv X pins σ H { s with heap := s.heap.push { cls := .type "range", data := .fields #[.int lo t, .int hi u, .int 1 v] }, toks := tk } := I.kept fun b o e => Heap.get?_push_of_some _ e
  refine ⟨(s.heap.push { cls := .type "range", data := .fields #[.int lo t, .int hi u, .int 1 v] }).objs.size, [(s.heap.push { cls := .type "range", data := .fields #[.int lo t, .int hi u, .int 1 v] }).objs.size], _, _, H, rfl,
    I1.kept (t' := tk) fun b o e => Heap.get?_push_of_some _ e, turn_range _ lo (hi - lo).toNat, ?_, fun b hb => ?_, q⟩
  · have e1 : lo + ((0 : Nat) : Int) * 1 = lo := by simp
    have e2 : (((hi - lo).toNat : Nat) : Int) - ((0 : Nat) : Int) = Builtin.Range.rangeSize lo hi 1 := by rw [rangeSize_one]; split <;> omega
    show IsRangeIter _ _ (lo + ((0 : Nat) : Int) * 1) ((((hi - lo).toNat : Nat) : Int) - ((0 : Nat) : Int)) 1
    rw [e1, e2]
    exact Heap.get?_push_size _ rfl
  · have e : b = (s.heap.push { cls := .type "range", data := .fields #[.int lo t, .int hi u, .int 1 v] }).objs.size := by simpa using hb
    subst e
    exact I1.fpOk (Nat.le_refl _) (I1.hok.fresh (Nat.le_refl _))
def iRng1 (ta : TA) : TI := fun σ H R => ta σ H fun vs H1 => ∃ j : Int, vs = [.int j] ∧ -(2 ^ 62) ≤ j ∧ j < 2 ^ 62 ∧ R (Itr 0 j.toNat) H1
def iRng2 (ta : TA) : TI := fun σ H R => ta σ H fun vs H1 => ∃ i j : Int, vs = [.int i, .int j] ∧ (-(2 ^ 62) ≤ i ∧ i < 2 ^ 62 ∧ -(2 ^ 62) ≤ j ∧ j < 2 ^ 62) ∧ R (Itr i (j - i).toNat) H1
theorem pi_range1 {a : Expr} {ta : TA} {p pos : Pos} (hg : Gl X "range") (hm : X.mg "range" = none) (ha : PA X [a] ta) (hs : starEach [a] X.env = [(false, eval a X.env)] := by rfl) : PI X tg (.Call (.Name "range" p) [a] [] pos) (iRng1 ta) := by
  intro pins s σ H R I h
  refine Call_ (ld_blt I hg hm boot_range (PyProof.Rows.callWith_type1 (thn (ha pos pins s σ H _ I h) fun us s1 ⟨vs, H1, I1, r1, q1⟩ => ?_) hs rfl))
  obtain ⟨j, e, q1, q2, q⟩ := q1
  subst e
  cases r1 with
  | cons r rr =>
    cases rr
    obtain ⟨t, rfl⟩ := r
    exact call_range_1 (range_it I1 (by omega) (by omega) q1 q2 (by simpa using q))

/-! ### for -/
/-- W: the invariant by the turn and a measure; N: what the body is to reach -/
def tFor (wi : TI) (g : TG) (tb : TS) : TS := fun D σ H => wi σ H fun J H1 => ∃ W : Nat → Nat → St → Hp → Prop, (∃ m, W 0 m σ H1) ∧ ∀ i m σ H, W i m σ H →
  (J.stop i H ∧ D.nx σ H) ∨ (J.go i H ∧ ∃ N : St → Hp → Prop, (∀ σ' H', N σ' H' → ∃ m', m' < m ∧ W (i + 1) m' σ' H') ∧ ∀ x H', J.yld i H x H' → g x σ H' fun σ2 H2 => tb { D with nx := N, ct := N, bk := D.nx } σ2 H2)
/-- the records at fp as they stand -/
def pinsAt (fp : List Addr) (h : Heap) : List (Addr × Obj) := fp.filterMap fun b => (h.get? b).map fun o => (b, o)
theorem mem_pinsAt {fp : List Addr} {h : Heap} {b : Addr} {o : Obj} (hb : b ∈ fp) (e : h.get? b = some o) : (b, o) ∈ pinsAt fp h := List.mem_filterMap.mpr ⟨b, hb, by rw [e]; rfl⟩
theorem of_pinsAt {fp : List Addr} {h : Heap} {p : Addr × Obj} (hp : p ∈ pinsAt fp h) : p.1 ∈ fp ∧ h.get? p.1 = some p.2 := by
  obtain ⟨b, hb, e⟩ := List.mem_filterMap.mp hp
  cases q : h.get? b with
  | none => rw [q] at e; cases e
  | some o =>
    rw [q] at e
    have e' : (b, o) = p := Option.some.inj e
    subst e'
    exact ⟨hb, q⟩
theorem Inv.pinned {pins : List (Addr × Obj)} {σ : St} {H : Hp} {s : Shared} {fp : List Addr} (I : Inv X pins σ H s) (hf : ∀ b ∈ fp, FpOk X pins H b) (ho : ∀ b ∈ fp, ∃ o, s.heap.get? b = some o ∧ ∀ v, o.data ≠ .cell v) : Inv X (pins ++ pinsAt fp s.heap) σ H s :=
  I.pins_of fun p hp => (List.mem_append.mp hp).elim (fun z => I.pin p (List.mem_append_right _ z)) fun z => by
    obtain ⟨hb, e⟩ := of_pinsAt z
    obtain ⟨f0, f1, f2, _⟩ := hf p.1 hb
    obtain ⟨o, e', d⟩ := ho p.1 hb
    rw [e] at e'; cases e'
    exact ⟨e, f0, f1, f2, d⟩
theorem Inv.unpinned {pins pl : List (Addr × Obj)} {σ : St} {H : Hp} {s : Shared} (I : Inv X (pins ++ pl) σ H s) : Inv X pins σ H s := I.pins_of fun p hp => I.pin p (List.mem_append_right _ (List.mem_append_left _ hp))
theorem ps_for {iter : Expr} {body : List Stmt} {wi : TI} {g : TG} {tb : TS} {pos : Pos} (hp : PassesOwn (model X.prog X.w) X.A X.env X.xe) (hc : X.calm = true) (hi : PI X tg iter wi) (hg : PG X tg g) (hb : PSs X body tb)
    (hs : ∀ x, foldedSetIterable iter X.env x = pure x := by intro _; rfl) : PS X (.For tg iter body [] pos) (tFor wi g tb) := by
  intro pins s σ H D I h
  refine wpAny_For (thn (hi pins s σ H _ I h) fun v s1 h1 => thn h1 fun itv s2 h2 => ?_) hs
  obtain ⟨it, fp, tn, J, H2, e, I2, T, st2, f2, W, ⟨m0, w0⟩, turn⟩ := h2
  subst e
  -- what stays true of the iterator's objects through the loop
  have stat : ∀ {H' : Hp}, (∀ b ∈ fp, H' b = none) → ∀ b ∈ fp, FpOk X pins H' b := fun hn b hb => ⟨hn b hb, (f2 b hb).2⟩
  refine codeAny_forLoop_any (fun n s' => ∃ i σ' H', Inv X pins σ' H' s' ∧ tn i s'.heap ∧ (∀ b ∈ fp, H' b = none) ∧ W i n σ' H') ?_ m0 ⟨0, σ, H2, I2, st2, fun b hb => (f2 b hb).1, w0⟩
  rintro n s3 ⟨i, σ3, H3, I3, st3, fr3, w3⟩
  rcases turn i n σ3 H3 w3 with ⟨stop, qn⟩ | ⟨go, N, hN, step⟩
  · refine wpAny_passesOwn hp (thn (T.done X rfl rfl rfl hc i pins s3 σ3 H3 X.xe I3 (stat fr3) st3 stop) fun r s4 ⟨hr, I4⟩ => ?_)
    subst hr
    exact wpAny_execs_nil ⟨σ3, H3, I4, qn⟩
  · refine wpAny_passesOwn hp (thn (T.item X rfl rfl rfl hc i pins s3 σ3 H3 X.xe I3 (stat fr3) st3 go) fun r s4 ⟨u, hr, h4⟩ => ?_)
    subst hr
    refine wpAny_passesOwn hp (thn h4 fun _ s5 ⟨x, H5, I5, r5, y5, st5, fr5⟩ => ?_)
    have I5' := I5.pinned (stat fr5) (T.obj _ _ st5)
    refine wpAny_passesOwn hp (thn (hg _ s5 σ3 H5 x u _ I5' r5 (step x H5 y5)) fun _ s6 ⟨σ6, H6, I6, q6⟩ => ?_)
    refine wpAny_passesOwn hp (thn (hb _ s6 σ6 H6 _ I6 q6) fun f s7 q7 => ?_)
    have again : ∀ {σ7 : St} {H7 : Hp}, Inv X (pins ++ pinsAt fp s5.heap) σ7 H7 s7 → N σ7 H7 → ∃ m, m < n ∧ ∃ i σ' H', Inv X pins σ' H' s7 ∧ tn i s7.heap ∧ (∀ b ∈ fp, H' b = none) ∧ W i m σ' H' := fun {σ7 H7} I7 n7 => by
      obtain ⟨m', hm, w7⟩ := hN σ7 H7 n7
      refine ⟨m', hm, i + 1, σ7, H7, I7.unpinned, T.keep _ _ _ st5 fun b hb o e => (I7.pin (b, o) (List.mem_append_right _ (List.mem_append_right _ (mem_pinsAt hb e)))).1, fun b hb => ?_, w7⟩
      obtain ⟨o, e, d⟩ := T.obj _ _ st5 b hb
      exact (I7.pin (b, o) (List.mem_append_right _ (List.mem_append_right _ (mem_pinsAt hb e)))).2.1
    cases f with
    | next => obtain ⟨σ7, H7, I7, n7⟩ := q7; exact again I7 n7
    | cont => obtain ⟨σ7, H7, I7, n7⟩ := q7; exact again I7 n7
    | brk => obtain ⟨σ7, H7, I7, q7⟩ := q7; exact ⟨σ7, H7, I7.unpinned, q7⟩
    | ret v => obtain ⟨x7, σ7, H7, I7, r7, q7⟩ := q7; exact ⟨x7, σ7, H7, I7.unpinned, r7, q7⟩
end

/-! ### the forms one uses -/
/-- over a list that the body leaves as it is -/
theorem for_list {K : PySem.W.Frag} {a : Addr} {xs : List V} {g : TG} {tb : TS} {D : Ends} {σ : St} {H : Hp} (Pv : Nat → St → Hp → Prop) (h0 : Pv 0 σ H) (hl : ∀ i σ H, i ≤ xs.length → Pv i σ H → SqL K H a xs)
    (hs : ∀ i x σ H, xs[i]? = some x → Pv i σ H → g x σ H fun σ2 H2 => tb { D with nx := Pv (i + 1), ct := Pv (i + 1), bk := D.nx } σ2 H2) (hd : ∀ σ H, Pv xs.length σ H → D.nx σ H) :
    ∃ W : Nat → Nat → St → Hp → Prop, (∃ m, W 0 m σ H) ∧ ∀ i m σ H, W i m σ H →
      ((Itl K a).stop i H ∧ D.nx σ H) ∨ ((Itl K a).go i H ∧ ∃ N : St → Hp → Prop, (∀ σ' H', N σ' H' → ∃ m', m' < m ∧ W (i + 1) m' σ' H') ∧ ∀ x H', (Itl K a).yld i H x H' → g x σ H' fun σ2 H2 => tb { D with nx := N, ct := N, bk := D.nx } σ2 H2) := by
  refine ⟨fun i m σ H => m = xs.length - i ∧ i ≤ xs.length ∧ Pv i σ H, ⟨xs.length, by simp, Nat.zero_le _, h0⟩, ?_⟩
  rintro i m σ H ⟨rfl, hi, p⟩
  have q := hl i σ H hi p
  by_cases hlt : i < xs.length
  · refine .inr ⟨⟨xs, xs[i], q, by simp [hlt]⟩, Pv (i + 1), fun σ' H' p' => ⟨xs.length - (i + 1), by omega, rfl, hlt, p'⟩, fun x H' y => ?_⟩
    obtain ⟨e, y⟩ := y
    subst e
    exact hs i x σ _ (y xs q) p
  · have e : i = xs.length := by omega
    subst e
    exact .inl ⟨⟨xs, q, Nat.le_refl _⟩, hd σ H p⟩
theorem for_tup {K : PySem.W.Frag} {a : Addr} {xs : List V} {g : TG} {tb : TS} {D : Ends} {σ : St} {H : Hp} (Pv : Nat → St → Hp → Prop) (h0 : Pv 0 σ H) (hl : ∀ i σ H, i ≤ xs.length → Pv i σ H → SqT K H a xs)
    (hs : ∀ i x σ H, xs[i]? = some x → Pv i σ H → g x σ H fun σ2 H2 => tb { D with nx := Pv (i + 1), ct := Pv (i + 1), bk := D.nx } σ2 H2) (hd : ∀ σ H, Pv xs.length σ H → D.nx σ H) :
    ∃ W : Nat → Nat → St → Hp → Prop, (∃ m, W 0 m σ H) ∧ ∀ i m σ H, W i m σ H →
      ((Itt K a).stop i H ∧ D.nx σ H) ∨ ((Itt K a).go i H ∧ ∃ N : St → Hp → Prop, (∀ σ' H', N σ' H' → ∃ m', m' < m ∧ W (i + 1) m' σ' H') ∧ ∀ x H', (Itt K a).yld i H x H' → g x σ H' fun σ2 H2 => tb { D with nx := N, ct := N, bk := D.nx } σ2 H2) := by
  refine ⟨fun i m σ H => m = xs.length - i ∧ i ≤ xs.length ∧ Pv i σ H, ⟨xs.length, by simp, Nat.zero_le _, h0⟩, ?_⟩
  rintro i m σ H ⟨rfl, hi, p⟩
  have q := hl i σ H hi p
  by_cases hlt : i < xs.length
  · refine .inr ⟨⟨xs, xs[i], q, by simp [hlt]⟩, Pv (i + 1), fun σ' H' p' => ⟨xs.length - (i + 1), by omega, rfl, hlt, p'⟩, fun x H' y => ?_⟩
    obtain ⟨e, y⟩ := y
    subst e
    exact hs i x σ _ (y xs q) p
  · have e : i = xs.length := by omega
    subst e
    exact .inl ⟨⟨xs, q, Nat.le_refl _⟩, hd σ H p⟩
theorem for_range {lo : Int} {n : Nat} {g : TG} {tb : TS} {D : Ends} {σ : St} {H : Hp} (Pv : Nat → St → Hp → Prop) (h0 : Pv 0 σ H)
    (hs : ∀ i σ H, i < n → Pv i σ H → g (.int (lo + i)) σ H fun σ2 H2 => tb { D with nx := Pv (i + 1), ct := Pv (i + 1), bk := D.nx } σ2 H2) (hd : ∀ σ H, Pv n σ H → D.nx σ H) :
    ∃ W : Nat → Nat → St → Hp → Prop, (∃ m, W 0 m σ H) ∧ ∀ i m σ H, W i m σ H →
      ((Itr lo n).stop i H ∧ D.nx σ H) ∨ ((Itr lo n).go i H ∧ ∃ N : St → Hp → Prop, (∀ σ' H', N σ' H' → ∃ m', m' < m ∧ W (i + 1) m' σ' H') ∧ ∀ x H', (Itr lo n).yld i H x H' → g x σ H' fun σ2 H2 => tb { D with nx := N, ct := N, bk := D.nx } σ2 H2) := by
  refine ⟨fun i m σ H => m = n - i ∧ i ≤ n ∧ Pv i σ H, ⟨n, by simp, Nat.zero_le _, h0⟩, ?_⟩
  rintro i m σ H ⟨rfl, hi, p⟩
  by_cases hlt : i < n
  · refine .inr ⟨hlt, Pv (i + 1), fun σ' H' p' => ⟨n - (i + 1), by omega, rfl, hlt, p'⟩, fun x H' y => ?_⟩
    obtain ⟨e, y⟩ := y
    subst e y
    exact hs i σ _ hlt p
  · have e : i = n := by omega
    subst e
    exact .inl ⟨Nat.le_refl _, hd σ H p⟩
end L2

namespace L2
open PySem PySem.Spec PyProof.Rows

abbrev R2 := V → V → Hp → VK → Prop
/-- a two-place operation on values: f is binaryOp op, inplaceOp op or compareOp op -/
def OpR (X : Cx) (f : Value → Value → Sem Value) (r : R2) : Prop :=
  ∀ (pins : List (Addr × Obj)) (s : Shared) (σ : St) (H : Hp) (x y : V) (v u : Value) (Q : VK), Inv X pins σ H s → RelV x v → RelV y u → r x y H Q →
    wpAny (model X.prog X.w) X.A (f v u) (EP X pins σ Q) X.xe s
/-- a one-place operation -/
def UnR (X : Cx) (f : Value → Sem Value) (r : V → Hp → VK → Prop) : Prop :=
  ∀ (pins : List (Addr × Obj)) (s : Shared) (σ : St) (H : Hp) (x : V) (v : Value) (Q : VK), Inv X pins σ H s → RelV x v → r x H Q →
    wpAny (model X.prog X.w) X.A (f v) (EP X pins σ Q) X.xe s
/-- a call of a value that is known (a builtin, a type) with values -/
def CallR (X : Cx) (f : Value) (r : List V → Hp → VK → Prop) : Prop :=
  ∀ (pins : List (Addr × Obj)) (s : Shared) (σ : St) (H : Hp) (xs : List V) (us : List Value) (Q : VK), Inv X pins σ H s → Vals xs us → r xs H Q →
    wpAny (model X.prog X.w) X.A (call f us) (EP X pins σ Q) X.xe s
/-- a value's truth -/
def TruR (X : Cx) (r : V → Hp → (Bool → Hp → Prop) → Prop) : Prop :=
  ∀ (pins : List (Addr × Obj)) (s : Shared) (σ : St) (H : Hp) (x : V) (v : Value) (Q : Bool → Hp → Prop), Inv X pins σ H s → RelV x v → r x H Q →
    wpAny (model X.prog X.w) X.A (truthy v) (TP X pins σ Q) X.xe s

def tOp (r : R2) (ta tb : TE) : TE := fun σ H Q => ta σ H fun x H1 => tb σ H1 fun y H2 => r x y H2 Q
def tUn (r : V → Hp → VK → Prop) (ta : TE) : TE := fun σ H Q => ta σ H fun x H1 => r x H1 Q
/-- ints in, under C, and a value out -/
def rI (C : Int → Int → Prop) (g : Int → Int → V) : R2 := fun x y H Q => ∃ i j, x = .int i ∧ y = .int j ∧ C i j ∧ Q (g i j) H
def rI0 (g : Int → Int → V) : R2 := fun x y H Q => ∃ i j, x = .int i ∧ y = .int j ∧ Q (g i j) H
def rU (g : Int → V) : V → Hp → VK → Prop := fun x H Q => ∃ i, x = .int i ∧ Q (g i) H

section
variable {X : Cx} {a b c : Expr} {ta tb tc : TE} {pos : Pos}

theorem binT (ha : PE X a ta) (hb : PE X b tb) {pins : List (Addr × Obj)} {s : Shared} {σ : St} {H : Hp} {R : V → V → Hp → Prop} (I : Inv X pins σ H s)
    (h : ta σ H fun x H1 => tb σ H1 fun y H2 => R x y H2) {Q : Value → Shared → Prop} {f : Value → Value → Sem Value}
    (hf : ∀ v u s2 x y H2, Inv X pins σ H2 s2 → RelV x v → RelV y u → R x y H2 → wpAny (model X.prog X.w) X.A (f v u) Q X.xe s2) :
    wpAny (model X.prog X.w) X.A (eval a X.env) (fun v s₁ => wpAny (model X.prog X.w) X.A (eval b X.env) (fun u s₂ => wpAny (model X.prog X.w) X.A (f v u) Q X.xe s₂) X.xe s₁) X.xe s := by
  refine thn (ha pins s σ H _ I h) fun v s1 ⟨x, H1, I1, r1, q1⟩ => ?_
  refine thn (hb pins s1 σ H1 _ I1 q1) fun u s2 ⟨y, H2, I2, r2, q2⟩ => ?_
  exact hf v u s2 x y H2 I2 r1 r2 q2

theorem pe_op {op : Operator} {r : R2} (ho : OpR X (binaryOp op) r) (ha : PE X a ta) (hb : PE X b tb) : PE X (.BinOp a op b pos) (tOp r ta tb) := by
  intro pins s σ H Q I h
  exact wpAny_BinOp (binT ha hb I h fun v u s2 x y H2 I2 rx ry q => ho pins s2 σ H2 x y v u Q I2 rx ry q)

/-! ### ints -/
theorem opI {f : Value → Value → Sem Value} {C : Int → Int → Prop} {g : Int → Int → Int}
    (rule : ∀ (i j : Int) (t u : Tok) (s : Shared) (Q : Value → Shared → Prop) (E : Value → Shared → Prop), C i j → Q (.int (g i j) s.toks) { s with toks := s.toks + 1 } → wpAny (model X.prog X.w) X.A (f (.int i t) (.int j u)) Q E s) :
    OpR X f (rI C fun i j => .int (g i j)) := by
  intro pins s σ H x y v u Q I rx ry h
  obtain ⟨i, j, rfl, rfl, hc, q⟩ := h
  obtain ⟨t, rfl⟩ := rx
  obtain ⟨t', rfl⟩ := ry
  exact rule i j t t' s _ _ hc ⟨.int (g i j), H, I.tok _, ⟨_, rfl⟩, q⟩
theorem opI0 {f : Value → Value → Sem Value} {g : Int → Int → Int}
    (rule : ∀ (i j : Int) (t u : Tok) (s : Shared) (Q : Value → Shared → Prop) (E : Value → Shared → Prop), Q (.int (g i j) s.toks) { s with toks := s.toks + 1 } → wpAny (model X.prog X.w) X.A (f (.int i t) (.int j u)) Q E s) :
    OpR X f (rI0 fun i j => .int (g i j)) := by
  intro pins s σ H x y v u Q I rx ry h
  obtain ⟨i, j, rfl, rfl, q⟩ := h
  obtain ⟨t, rfl⟩ := rx
  obtain ⟨t', rfl⟩ := ry
  exact rule i j t t' s _ _ ⟨.int (g i j), H, I.tok _, ⟨_, rfl⟩, q⟩
theorem opB0 {f : Value → Value → Sem Value} {g : Int → Int → Bool}
    (rule : ∀ (i j : Int) (t u : Tok) (s : Shared) (Q : Value → Shared → Prop) (E : Value → Shared → Prop), Q (.bool (g i j)) s → wpAny (model X.prog X.w) X.A (f (.int i t) (.int j u)) Q E s) :
    OpR X f (rI0 fun i j => .bl (g i j)) := by
  intro pins s σ H x y v u Q I rx ry h
  obtain ⟨i, j, rfl, rfl, q⟩ := h
  obtain ⟨t, rfl⟩ := rx
  obtain ⟨t', rfl⟩ := ry
  exact rule i j t t' s _ _ ⟨.bl (g i j), H, I, rfl, q⟩

def CDiv (i j : Int) : Prop := 0 < j ∧ j < 1073741824
def CDivN (i j : Int) : Prop := j ≠ 0 ∧ j.natAbs < 1073741824
def CPow (i j : Int) : Prop := 0 ≤ j ∧ j ≤ 1000000 ∧ i.natAbs < 2 ^ 64
def CMul (i j : Int) : Prop := (-(2 ^ 64) < i ∧ i < 2 ^ 64) ∨ (-(2 ^ 64) < j ∧ j < 2 ^ 64)
theorem CMul.ok {i j : Int} (h : CMul i j) : IntMulOk i j := by
  rcases h with ⟨h1, h2⟩ | ⟨h1, h2⟩
  · exact .of_left (intBits_le_64 h1 h2)
  · exact .of_right (intBits_le_64 h1 h2)

theorem op_add : OpR X (binaryOp .Add) (rI0 fun i j => .int (i + j)) := opI0 fun _ _ _ _ _ _ _ q => add_int q
theorem op_sub : OpR X (binaryOp .Sub) (rI0 fun i j => .int (i - j)) := opI0 fun _ _ _ _ _ _ _ q => sub_int q
theorem op_mul : OpR X (binaryOp .Mult) (rI CMul fun i j => .int (i * j)) := opI fun _ _ _ _ _ _ _ hc q => mul_int q hc.ok
/-- // by a positive divisor -/
theorem op_fdiv : OpR X (binaryOp .FloorDiv) (rI CDiv fun i j => .int (i / j)) := opI fun i j _ _ _ _ _ hc q => by
  have h1 : (0 : Int) < j := hc.1
  have h2 : j < 1073741824 := hc.2
  exact floordiv_int (by omega) (by rw [Int.fdiv_eq_ediv_of_nonneg i (by omega)]; exact q) (.inl (PyProof.noPylong_small (by omega)))
/-- % by a positive divisor of any size -/
theorem op_mod : OpR X (binaryOp .Mod) (rI (fun _ j => 0 < j) fun i j => .int (i % j)) := opI fun i j _ _ _ _ _ hc q => by
  have h1 : (0 : Int) < j := hc
  exact mod_int' (by omega) (by rw [Int.fmod_eq_emod_of_nonneg i (by omega)]; exact q)
theorem op_pow : OpR X (binaryOp .Pow) (rI CPow fun i j => .int (i ^ j.toNat)) := opI fun _ _ _ _ _ _ _ hc q => pow_int_small hc.1 hc.2.1 hc.2.2 q



/-! ### bools among ints: n += (a < b) -/
end

/-! ### comparisons -/
/-- the scalars that == tells apart as data does -/
def scal : V → V → Bool
  | .non, .non => true | .non, .int _ => true | .int _, .non => true | .non, .bl _ => true | .bl _, .non => true | .non, .str _ => true | .str _, .non => true
  | .int _, .int _ => true | .bl _, .bl _ => true | .str _, .str _ => true | .byt _, .byt _ => true
  | .int _, .str _ => true | .str _, .int _ => true | .bl _, .str _ => true | .str _, .bl _ => true
  | _, _ => false
def rEq : R2 := fun x y H Q => scal x y = true ∧ Q (.bl (decide (x = y))) H
def rNe : R2 := fun x y H Q => scal x y = true ∧ Q (.bl (!decide (x = y))) H

theorem dec_int {i j : Int} : decide (V.int i = V.int j) = (i == j) := by
  rw [Bool.eq_iff_iff]
  simp
theorem dec_bl {i j : Bool} : decide (V.bl i = V.bl j) = (i == j) := by
  rw [Bool.eq_iff_iff]
  simp
theorem dec_str {i j : Str} : decide (V.str i = V.str j) = (i == j) := by
  rw [Bool.eq_iff_iff]
  simp
theorem dec_byt {i j : Array UInt8} : decide (V.byt i = V.byt j) = (i.toList == j.toList) := by
  rw [Bool.eq_iff_iff]
  cases i
  cases j
  simp

section
variable {X : Cx} {a b c : Expr} {ta tb tc : TE} {pos : Pos}
theorem fin_bl {pins : List (Addr × Obj)} {σ : St} {H : Hp} {s : Shared} {Q : VK} {k k' : Bool} (I : Inv X pins σ H s) (q : Q (.bl k) H) (e : k = k') : EP X pins σ Q (.bool k') s := by
  subst e
  exact ⟨.bl k, H, I, rfl, q⟩
theorem op_eq : OpR X (compareOp .Eq) rEq := by
  intro pins s σ H x y v u Q I rx ry h
  obtain ⟨hs, q⟩ := h
  cases x with
  | non =>
    cases rx
    cases y with
    | non => cases ry; exact PySem.EqNone.eq_none_none (fin_bl I q (by simp))
    | bl j => cases ry; exact PySem.EqNone.eq_none_bool (fin_bl I q (by simp))
    | int j => obtain ⟨t', rfl⟩ := ry; exact PySem.EqNone.eq_none_int (fin_bl I q (by simp))
    | str j => obtain ⟨t', rfl⟩ := ry; exact PySem.EqNone.eq_none_str (fin_bl I q (by simp))
    | _ => exact absurd (show false = true from hs) Bool.false_ne_true
  | bl i =>
    cases rx
    cases y with
    | non => cases ry; exact PySem.EqNone.eq_bool_none (fin_bl I q (by simp))
    | bl j => cases ry; exact eq_bool (fin_bl I q dec_bl)
    | str j => obtain ⟨t', rfl⟩ := ry; exact PySem.EqMixed.eq_bool_str (fin_bl I q (by simp))
    | _ => exact absurd (show false = true from hs) Bool.false_ne_true
  | int i =>
    obtain ⟨t, rfl⟩ := rx
    cases y with
    | non => cases ry; exact PySem.EqNone.eq_int_none (fin_bl I q (by simp))
    | int j => obtain ⟨t', rfl⟩ := ry; exact eq_int (fin_bl I q dec_int)
    | str j => obtain ⟨t', rfl⟩ := ry; exact PySem.EqMixed.eq_int_str (fin_bl I q (by simp))
    | _ => exact absurd (show false = true from hs) Bool.false_ne_true
  | str i =>
    obtain ⟨t, rfl⟩ := rx
    cases y with
    | non => cases ry; exact PySem.EqNone.eq_str_none (fin_bl I q (by simp))
    | bl j => cases ry; exact PySem.EqMixed.eq_str_bool (fin_bl I q (by simp))
    | int j => obtain ⟨t', rfl⟩ := ry; exact PySem.EqMixed.eq_str_int (fin_bl I q (by simp))
    | str j => obtain ⟨t', rfl⟩ := ry; exact eq_str (fin_bl I q dec_str)
    | _ => exact absurd (show false = true from hs) Bool.false_ne_true
  | byt i =>
    obtain ⟨t, rfl⟩ := rx
    cases y with
    | byt j => obtain ⟨t', rfl⟩ := ry; exact PySem.W.eq_bytes (fin_bl I q dec_byt)
    | _ => exact absurd (show false = true from hs) Bool.false_ne_true
  | _ => cases y <;> exact absurd (show false = true from hs) Bool.false_ne_true
theorem op_ne : OpR X (compareOp .NotEq) rNe := by
  intro pins s σ H x y v u Q I rx ry h
  obtain ⟨hs, q⟩ := h
  cases x with
  | non =>
    cases rx
    cases y with
    | non => cases ry; exact PySem.EqNone.ne_none_none (fin_bl I q (by simp))
    | bl j => cases ry; exact PySem.EqNone.ne_none_bool (fin_bl I q (by simp))
    | int j => obtain ⟨t', rfl⟩ := ry; exact PySem.EqNone.ne_none_int (fin_bl I q (by simp))
    | str j => obtain ⟨t', rfl⟩ := ry; exact PySem.EqNone.ne_none_str (fin_bl I q (by simp))
    | _ => exact absurd (show false = true from hs) Bool.false_ne_true
  | bl i =>
    cases rx
    cases y with
    | non => cases ry; exact PySem.EqNone.ne_bool_none (fin_bl I q (by simp))
    | bl j => cases ry; exact ne_bool (fin_bl I q (congrArg not dec_bl))
    | str j => obtain ⟨t', rfl⟩ := ry; exact PySem.EqMixed.ne_bool_str (fin_bl I q (by simp))
    | _ => exact absurd (show false = true from hs) Bool.false_ne_true
  | int i =>
    obtain ⟨t, rfl⟩ := rx
    cases y with
    | non => cases ry; exact PySem.EqNone.ne_int_none (fin_bl I q (by simp))
    | int j => obtain ⟨t', rfl⟩ := ry; exact ne_int (fin_bl I q (congrArg not dec_int))
    | str j => obtain ⟨t', rfl⟩ := ry; exact PySem.EqMixed.ne_int_str (fin_bl I q (by simp))
    | _ => exact absurd (show false = true from hs) Bool.false_ne_true
  | str i =>
    obtain ⟨t, rfl⟩ := rx
    cases y with
    | non => cases ry; exact PySem.EqNone.ne_str_none (fin_bl I q (by simp))
    | bl j => cases ry; exact PySem.EqMixed.ne_str_bool (fin_bl I q (by simp))
    | int j => obtain ⟨t', rfl⟩ := ry; exact PySem.EqMixed.ne_str_int (fin_bl I q (by simp))
    | str j => obtain ⟨t', rfl⟩ := ry; exact ne_str (fin_bl I q (congrArg not dec_str))
    | _ => exact absurd (show false = true from hs) Bool.false_ne_true
  | byt i =>
    obtain ⟨t, rfl⟩ := rx
    cases y with
    | byt j => obtain ⟨t', rfl⟩ := ry; exact PySem.W.ne_bytes (fin_bl I q (congrArg not dec_byt))
    | _ => exact absurd (show false = true from hs) Bool.false_ne_true
  | _ => cases y <;> exact absurd (show false = true from hs) Bool.false_ne_true

theorem op_lt : OpR X (compareOp .Lt) (rI0 fun i j => .bl (decide (i < j))) := opB0 fun _ _ _ _ _ _ _ q => lt_int q
theorem op_gt : OpR X (compareOp .Gt) (rI0 fun i j => .bl (decide (j < i))) := opB0 fun _ _ _ _ _ _ _ q => gt_int q


/-- is, is not of two objects that are tracked lists or instances -/
def isObj : HO → Bool
  | .lst _ => true
  | .ins _ _ _ => true
  | _ => false


theorem nomark (b : Expr) {op : CmpOp} (h : op ≠ .In := by decide) (h2 : op ≠ .NotIn := by decide) : behindInMarks op b = false := by
  have e1 : (op == CmpOp.In) = false := by cases op <;> first | rfl | exact absurd rfl h
  have e2 : (op == CmpOp.NotIn) = false := by cases op <;> first | rfl | exact absurd rfl h2
  cases b <;> simp [behindInMarks, e1, e2]
/-- a comparison as a value; hm: nomark b, or (for in, not in) by with_unfolding_all rfl -/
theorem pe_cmpR {op : CmpOp} {r : R2} (ho : OpR X (compareOp op) r) (ha : PE X a ta) (hb : PE X b tb) (hm : behindInMarks op b = false) : PE X (.Compare a [op] [b] pos) (tOp r ta tb) := by
  intro pins s σ H Q I h
  exact wpAny_Compare1 (binT ha hb I h fun v u s2 x y H2 I2 rx ry q => ho pins s2 σ H2 x y v u Q I2 rx ry q) hm
/-- a reading of a value as a test -/
def tTest (t : TE) : TT := fun σ H Q => t σ H fun x H' => ∃ k, x = .bl k ∧ Q k H'
theorem pt_cmpR {op : CmpOp} {r : R2} (ho : OpR X (compareOp op) r) (ha : PE X a ta) (hb : PE X b tb) (hm : behindInMarks op b = false) : PT X (.Compare a [op] [b] pos) (tTest (tOp r ta tb)) := by
  intro pins s σ H Q I h
  refine wpAny_isTrue_Compare1 (thn (ha pins s σ H _ I h) fun v s1 ⟨x, H1, I1, r1, q1⟩ => thn (hb pins s1 σ H1 _ I1 q1) fun u s2 ⟨y, H2, I2, r2, q2⟩ =>
    thn (ho pins s2 σ H2 x y v u _ I2 r1 r2 q2) fun c s3 ⟨z, H3, I3, r3, k, e, q3⟩ => ?_) hm
  subst e
  cases r3
  exact wpAny_truthy_bool ⟨H3, I3, q3⟩
/-- a op1 b op2 c -/
def tChain (r r' : R2) (ta tb tc : TE) : TE := fun σ H Q => ta σ H fun x H1 => tb σ H1 fun y H2 => r x y H2 fun z H3 => ∃ k, z = .bl k ∧
  (if k = true then tc σ H3 fun w' H4 => r' y w' H4 Q else Q (.bl false) H3)

/-! ### truth -/
/-- a value's truth by the abstract heap -/
def TruV (K : PySem.W.Frag) (x : V) (H : Hp) (k : Bool) : Prop :=
  match x with
  | .non => k = false
  | .bl b => k = b
  | .int i => k = (i != 0)
  | .str y => y.length ≤ sizeLine ∧ k = ((y.length : Int) != 0)
  | .byt y => y.size ≤ sizeLine ∧ k = ((y.size : Int) != 0)
  | .ref p => (∃ xs, SqL K H p xs ∧ k = !xs.isEmpty) ∨ (∃ xs, SqT K H p xs ∧ k = !xs.isEmpty) ∨ ∃ kvs, H p = some (.dK kvs) ∧ k = !kvs.isEmpty
  | _ => False
theorem line63 : (sizeLine : Nat) < 2 ^ 63 := by rw [sizeLine_eq]; decide

/-! ### strs and bytes -/

def PlainIxT (b : Expr) : Prop := ∀ o i, subscripted b false o i = operate [o, i] (getItem o i)

/-! ### scalar builtins, by CallR -/
theorem vals1 {x : V} {us : List Value} (r : Vals [x] us) : ∃ u, us = [u] ∧ RelV x u := by
  cases r with
  | cons r1 r2 => cases r2; exact ⟨_, rfl, r1⟩
/-- len of a str, a bytes, a list, a tuple -/
def LenV (K : PySem.W.Frag) (x : V) (H : Hp) (n : Nat) : Prop :=
  match x with
  | .str y => y.length ≤ sizeLine ∧ n = y.length
  | .byt y => y.size ≤ sizeLine ∧ n = y.size
  | .ref p => (∃ xs, SqL K H p xs ∧ n = xs.length) ∨ ∃ xs, SqT K H p xs ∧ n = xs.length
  | _ => False
end
end L2

namespace L2
open PySem PySem.Spec PyProof.Rows

/-! ### an instance, its attributes a map -/
structure ObjM (h : Heap) (x dx C : Addr) (mA : Str → Option Value) : Prop where
  obj : h.get? x = some (PySem.W.instObj C dx)
  ns : h.Ns1 dx mA
  ne : dx ≠ x

theorem lookIn_ns {h : Heap} {dx : Addr} {mA : Str → Option Value} (n : h.Ns1 dx mA) : ∃ od, h.get? dx = some od ∧ ∀ name, PySem.W.lookIn name od = some (mA name) := by
  obtain ⟨o, es, ep, ho, hd, hk, _, hm⟩ := n
  refine ⟨o, ho, fun name => ?_⟩
  have e := hm name
  unfold nsFind findBy at e
  rw [← Array.find?_toList] at e
  unfold PySem.W.lookIn
  rw [hd]
  dsimp only
  split
  · rename_i y q
    rw [q] at e
    exact congrArg some e
  · rename_i q
    rw [q] at e
    have a : es.toList.any (·.refKey) = false := by
      rw [List.any_eq_false]
      intro y hy
      obtain ⟨z, t, hkey⟩ := hk y (Array.mem_toList_iff.mp hy)
      simp [DictEntry.refKey, hkey]
    have a' : ¬ es.toList.any (·.refKey) = true := by rw [a]; exact Bool.false_ne_true
    rw [if_neg a']
    exact congrArg some e

theorem ObjM.look {h : Heap} {x dx C : Addr} {mA : Str → Option Value} (I : ObjM h x dx C mA) : ∃ od, PySem.W.InstAt h x (PySem.W.instObj C dx) C (some od) ∧ ∀ name, PySem.W.lookIn name od = some (mA name) :=
  let ⟨od, ho, hl⟩ := lookIn_ns I.ns
  ⟨od, ⟨I.obj, rfl, rfl, ho⟩, hl⟩

section
variable {prog : Program} {w : World} {A : Around} {E : Value → Shared → Prop} {s : Shared} {K : PySem.W.Frag} {x dx C f : Addr} {mA : Str → Option Value} {name : Str} {v : Value}

theorem get_map {expr : Bool} {Q : Value → Shared → Prop} (X : K.In s.heap) (I : ObjM s.heap x dx C mA) (hg : PySem.W.plainGet K C name = true) (hh : PySem.W.hasDictIn K C = true)
    (ha : PySem.W.findIn K (.ref C) name = some none) (hv : mA name = some v) (hv' : PySem.W.handedIn v = true) (h : Q v { s with toks := s.toks + 1 }) :
    wpAny (model prog w) A (getAttr (.ref x) name expr) Q E s := by
  obtain ⟨od, J, hl⟩ := I.look
  exact PySem.W.get_value X J (PySem.W.plainGet_of hg).1 (PySem.W.findObj_own hh ha rfl (by rw [hl, hv])) hv' h


theorem get_meth {pl : Sem Bool} {Q : Value × List Value → Shared → Prop} (X : K.In s.heap) (I : ObjM s.heap x dx C mA) (hg : PySem.W.plainGet K C name = true)
    (hf : PySem.W.findIn K (.ref C) name = some (some (.ref f))) (ht : PySem.W.isFn K (.ref f) = true) (hv : mA name = none) (h : Q (.ref f, [.ref x]) s) :
    wpAny (model prog w) A (getMethod (.ref x) name pl) Q E s := by
  obtain ⟨od, J, hl⟩ := I.look
  exact PySem.W.method_fn X J (PySem.W.plainGet_of hg).1 (PySem.W.plainGet_of hg).2 hf (beq_iff_eq.mp ht) (by show (PySem.W.lookIn name od).map (·.isSome) = some false; rw [hl, hv]; rfl) h

theorem set_map {ns : List Str} {Q : Unit → Shared → Prop} (X : K.In s.heap) (I : ObjM s.heap x dx C mA)
    (hs : PySem.W.findIn K (.ref C) "__setattr__" = some (some (.builtin "object.__setattr__"))) (hp : PySem.W.plainOver K C = true) (ht : PySem.W.takerIn K C name = some none) (hh : PySem.W.hasDictIn K C = true)
    (hw : PySem.Within mA ns) (hsz : ns.length ≤ sizeLine)
    (h : ∀ h', ObjM h' x dx C (fun y => if y = name then some v else mA y) → Heap.SameBut dx s.heap h' → Q () { s with heap := h', toks := s.toks + 2 }) :
    wpAny (model prog w) A (setAttr (.ref x) name v) Q E s := by
  obtain ⟨od, J, hl⟩ := I.look
  refine PySem.W.set_plain X J hs (PySem.W.osa_open (s := { s with toks := s.toks + 1 }) (r := none) X J hp ht fun b => ?_)
  obtain ⟨cd, hc, hd'⟩ := PySem.W.any_some hh
  have hx : s.heap.get? x = some ⟨.ref C, some dx, .plain, #[]⟩ := I.obj
  refine wpAny_bind (wpAny_pure (wpAny_bind (wpAny_bind (wpAny_loadPart hx (wpAny_bind (PySem.W.Looks.here (s := { s with toks := s.toks + 1 }) (PySem.W.looks_clsIn X hc) ?_))))))
  rw [hd']
  refine wpAny_pure (a := some dx) (wpAny_bind (wpAny_pure (wpAny_bind ?_)))
  refine wpAny_nsSet1 (s := { s with toks := s.toks + 1 }) I.ns fun h' hn2 hs2 => ?_
  obtain ⟨oD, esD, epD, hoD, hdD, hcD⟩ := hn2.count (PySem.Within.cons name v hw)
  refine wpAny_bind (wpAny_lookBehind hoD (by rw [hdD]; exact pastItsLine_dict (Nat.le_trans hcD (by rw [List.length_cons]; omega))) ?_)
  exact wpAny_pure (h _ ⟨(hs2.2 _ (Ne.symm I.ne)).trans I.obj, hn2, I.ne⟩ hs2)

/-- C(..): the dict at the heap's end, the instance behind it; then its __init__ -/
theorem make_map {R : Result → Shared → Prop} {vs : List Value} {kw : List (Str × Value)} (X : K.In s.heap) (hm : PySem.W.makesIn K C = true)
    (hi : PySem.W.findIn K (.ref C) "__init__" = some (some (.ref f))) (hf : PySem.W.typeIn K (.ref f) = some (.type "function"))
    (h : codeAny (model prog w) (A.under (.builtin "type.__call__" ⟨.ref C :: vs, kw⟩)) (.call (.ref f) ⟨.ref (s.heap.objs.size + 1) :: vs, kw⟩) (PySem.W.InitBack (s.heap.objs.size + 1) R)
      { s with heap := (s.heap.push PySem.W.emptyDict).push (PySem.W.instObj C s.heap.objs.size) }) :
    codeAny (model prog w) A (.call (.ref C) ⟨vs, kw⟩) R s := by
  obtain ⟨hh, g, d, t, os⟩ := s
  exact PySem.W.make_core (PySem.W.makes_of X hm) (PySem.W.looks_findIn X hi) (fun self => PySem.W.bind_fn X self hf) (.inl rfl) h
end

/-! ### the attributes as a list of pairs -/
def putF (f : Str) (v : V) : List (Str × V) → List (Str × V)
  | [] => [(f, v)]
  | (g, x) :: r => if g = f then (g, v) :: r else (g, x) :: putF f v r
theorem lookup_putF (f g : Str) (v : V) : ∀ fs : List (Str × V), (putF f v fs).lookup g = if g = f then some v else fs.lookup g
  | [] => by
    show List.lookup g [(f, v)] = _
    by_cases h : g = f
    · have hb : (g == f) = true := beq_iff_eq.mpr h
      simp only [List.lookup, hb, if_pos h]
    · have hb : (g == f) = false := beq_eq_false_iff_ne.mpr h
      simp only [List.lookup, hb, if_neg h]
  | (k, x) :: r => by
    have ih := lookup_putF f g v r
    rw [show putF f v ((k, x) :: r) = (if k = f then (k, v) :: r else (k, x) :: putF f v r) from rfl]
    by_cases hk : k = f
    · rw [if_pos hk]
      by_cases h : g = k
      · have hb : (g == k) = true := beq_iff_eq.mpr h
        simp only [List.lookup, hb, if_pos (h.trans hk)]
      · have hb : (g == k) = false := beq_eq_false_iff_ne.mpr h
        simp only [List.lookup, hb, if_neg (fun e : g = f => h (e.trans hk.symm))]
    · rw [if_neg hk]
      by_cases h : g = k
      · have hb : (g == k) = true := beq_iff_eq.mpr h
        simp only [List.lookup, hb, if_neg (fun e : g = f => hk (h.symm.trans e))]
      · have hb : (g == k) = false := beq_eq_false_iff_ne.mpr h
        simp only [List.lookup, hb]
        exact ih
theorem keys_putF (f : Str) (v : V) : ∀ fs : List (Str × V), f ∈ (putF f v fs).map (·.1) ∧ ∀ g, g ∈ fs.map (·.1) → g ∈ (putF f v fs).map (·.1)
  | [] => ⟨by simp [putF], fun g h => by simp at h⟩
  | (k, x) :: r => by
    obtain ⟨i1, i2⟩ := keys_putF f v r
    rw [show putF f v ((k, x) :: r) = (if k = f then (k, v) :: r else (k, x) :: putF f v r) from rfl]
    by_cases hk : k = f
    · rw [if_pos hk]
      subst hk
      exact ⟨by simp, fun g h => by simpa using h⟩
    · rw [if_neg hk]
      refine ⟨?_, fun g h => ?_⟩
      · rw [List.map_cons]
        exact List.mem_cons_of_mem _ i1
      · rw [List.map_cons] at h ⊢
        rcases List.mem_cons.mp h with e | e
        · exact List.mem_cons.mpr (.inl e)
        · exact List.mem_cons_of_mem _ (i2 g e)
theorem length_putF (f : Str) (v : V) : ∀ fs : List (Str × V), (putF f v fs).length ≤ fs.length + 1
  | [] => by simp [putF]
  | (k, x) :: r => by
    have ih := length_putF f v r
    rw [show putF f v ((k, x) :: r) = (if k = f then (k, v) :: r else (k, x) :: putF f v r) from rfl]
    by_cases hk : k = f
    · rw [if_pos hk, List.length_cons, List.length_cons]; omega
    · rw [if_neg hk, List.length_cons, List.length_cons]; omega

theorem RelO.some_of {v : V} {o : Option Value} (r : RelO (some v) o) : ∃ u, o = some u ∧ RelV v u := by
  cases o with
  | none => exact (show False from r).elim
  | some u => exact ⟨u, rfl, r⟩
theorem RelO.none_of {o : Option Value} (r : RelO none o) : o = none := by
  cases o with
  | none => rfl
  | some u => exact (show False from r).elim
theorem handed_of {v : V} {u : Value} (r : RelV v u) : PySem.W.handedIn u = true := by
  cases v with
  | non => cases (show u = Value.none from r); rfl
  | bl b => cases (show u = Value.bool b from r); rfl
  | int i => obtain ⟨t, e⟩ := (show ∃ t, u = Value.int i t from r); cases e; rfl
  | str x => obtain ⟨t, e⟩ := (show ∃ t, u = Value.str x t from r); cases e; rfl
  | byt b => obtain ⟨t, e⟩ := (show ∃ t, u = Value.bytes b t from r); cases e; rfl
  | flt b => obtain ⟨t, e⟩ := (show ∃ t, u = Value.float b t from r); cases e; rfl
  | ref a => cases (show u = Value.ref a from r); rfl
  | ty n => cases (show u = Value.type n from r); rfl

section
variable {P : Program} {w : World} {H H' : Hp} {h h' : Heap} {a C dx : Addr} {fs fs' : List (Str × V)}
theorem ins_get (hok : HOk P w H h) (e : H a = some (.ins C dx fs)) : ∃ mA, ObjM h a dx C mA ∧ (∀ f, RelO (fs.lookup f) (mA f)) ∧ PySem.Within mA (fs.map (·.1)) ∧ fs.length ≤ 1000 ∧ H dx = some (.own a) := by
  obtain ⟨d, z, ne, ob, mA, n, r, q⟩ := (show ObjOk P w H h a (.ins C dx fs) from hok a _ e)
  exact ⟨mA, ⟨ob, n, ne⟩, r, q, z, d⟩
end

/-! ### what of the text a class must have -/
structure Cls (K : PySem.W.Frag) (C : Addr) : Prop where
  pg : PySem.W.plainGet K C Str.empty = true
  hd : PySem.W.hasDictIn K C = true
  po : PySem.W.plainOver K C = true
  sa : PySem.W.findIn K (.ref C) "__setattr__" = some (some (.builtin "object.__setattr__"))
theorem Cls.get {K : PySem.W.Frag} {C : Addr} (c : Cls K C) (f : Str) : PySem.W.plainGet K C f = true := c.pg
/-- no class of it has the name -/
def NoAttr (K : PySem.W.Frag) (C : Addr) (f : Str) : Prop := PySem.W.findIn K (.ref C) f = some none
theorem NoAttr.taker {K : PySem.W.Frag} {C : Addr} {f : Str} (n : NoAttr K C f) : PySem.W.takerIn K C f = some none := by
  unfold PySem.W.takerIn
  rw [show PySem.W.findIn K (.ref C) f = some none from n]
  rfl
/-- a constant of the class -/
structure Con (K : PySem.W.Frag) (C : Addr) (f : Str) (v : V) (u : Value) : Prop where
  at_ : PySem.W.findIn K (.ref C) f = some (some u)
  rel : RelV v u
  get : PySem.W.specialIn K u "__get__" = some none
  cp : PySem.W.copiedNames.contains f = false
/-- a method: a plain def of the class or of one above it -/
structure Meth (K : PySem.W.Frag) (C : Addr) (m : Str) (f : Addr) : Prop where
  at_ : PySem.W.findIn K (.ref C) m = some (some (.ref f))
  fn : PySem.W.isFn K (.ref f) = true
  kp : PySem.W.keepIn K (.ref f) = true

section
variable {X : Cx} {pins : List (Addr × Obj)} {σ : St} {H : Hp} {s : Shared} {a C dx : Addr} {fs : List (Str × V)} {f : Str} {v : V} {A : Around} {E : Value → Shared → Prop}

theorem getattr_ok {b : Bool} {Q : Value → Shared → Prop} (I : Inv X pins σ H s) (e : H a = some (.ins C dx fs)) (c : Cls X.K C) (n : NoAttr X.K C f) (l : fs.lookup f = some v)
    (h : ∀ u s', Inv X pins σ H s' → RelV v u → Q u s') : wpAny (model X.prog X.w) A (getAttr (.ref a) f b) Q E s := by
  obtain ⟨mA, O, r, _, _, _⟩ := ins_get I.hok e
  obtain ⟨u, hu, ru⟩ := RelO.some_of (v := v) (o := mA f) (by rw [← l]; exact r f)
  exact get_map I.kIn O (c.get f) c.hd n hu (handed_of ru) (h u _ (I.tok _) ru)


theorem getmeth_ok {m : Str} {g : Addr} {pl : Sem Bool} {Q : Value × List Value → Shared → Prop} (I : Inv X pins σ H s) (e : H a = some (.ins C dx fs)) (c : Cls X.K C) (k : Meth X.K C m g) (l : fs.lookup m = none)
    (h : Q (.ref g, [.ref a]) s) : wpAny (model X.prog X.w) A (getMethod (.ref a) m pl) Q E s := by
  obtain ⟨mA, O, r, _, _, _⟩ := ins_get I.hok e
  have hn : mA m = none := RelO.none_of (by rw [← l]; exact r m)
  exact get_meth I.kIn O (c.get m) k.at_ k.fn hn h

theorem setattr_ok {y : V} {u : Value} {Q : Unit → Shared → Prop} (I : Inv X pins σ H s) (e : H a = some (.ins C dx fs)) (c : Cls X.K C) (n : NoAttr X.K C f) (hl : fs.length < 1000) (ry : RelV y u)
    (h : ∀ s', Inv X pins σ (upd H a (.ins C dx (putF f y fs))) s' → Q () s') : wpAny (model X.prog X.w) A (setAttr (.ref a) f u) Q E s := by
  obtain ⟨mA, O, r, wi, _, ho⟩ := ins_get I.hok e
  have hz : (fs.map (·.1)).length ≤ sizeLine := by rw [List.length_map, sizeLine_eq]; omega
  refine set_map I.kIn O c.sa c.po n.taker c.hd wi hz fun h' O' sb => h _ ?_
  have hd : ∃ o, h'.get? dx = some o := let ⟨o, _, _, e', _⟩ := O'.ns; ⟨o, e'⟩
  refine I.write (x := a) (e := dx) (by rw [e]; exact True.intro) (.inr ho) (fun b q hb z => (sb.2 b hb).trans z) hd ?_
  refine ⟨by rw [upd_ne O.ne]; exact ho, ?_, O.ne, O'.obj, _, O'.ns, fun g => ?_, fun g hg => ?_⟩
  · have := length_putF f y fs; omega
  · show RelO ((putF f y fs).lookup g) (if g = f then some u else mA g)
    rw [lookup_putF]
    by_cases q : g = f
    · rw [if_pos q, if_pos q]; exact ry
    · rw [if_neg q, if_neg q]; exact r g
  · by_cases q : g = f
    · rw [q]; exact (keys_putF f y fs).1
    · refine (keys_putF f y fs).2 g (wi g fun z => hg ?_)
      show (if g = f then some u else mA g) = none
      rw [if_neg q]; exact z

/-- a new instance, tracked, without attributes -/
theorem Inv.made (I : Inv X pins σ H s) : Inv X pins σ (upd (upd H s.heap.objs.size (.own (s.heap.objs.size + 1))) (s.heap.objs.size + 1) (.ins C s.heap.objs.size []))
    { s with heap := (s.heap.push PySem.W.emptyDict).push (PySem.W.instObj C s.heap.objs.size) } := by
  have e1 : (s.heap.push PySem.W.emptyDict).get? s.heap.objs.size = some PySem.W.emptyDict := Heap.get?_push_size s.heap rfl
  have e2 : ((s.heap.push PySem.W.emptyDict).push (PySem.W.instObj C s.heap.objs.size)).get? (s.heap.objs.size + 1) = some (PySem.W.instObj C s.heap.objs.size) := by
    have := Heap.get?_push_size (s.heap.push PySem.W.emptyDict) (o := PySem.W.instObj C s.heap.objs.size) rfl
    rwa [Heap.size_push] at this
  have e3 : (s.heap.push PySem.W.emptyDict).Ns s.heap.objs.size (fun _ => none) := ⟨PySem.W.emptyDict, #[], _, e1, rfl, (fun e he => absurd he (by simp)), fun _ => rfl⟩
  have I1 := I.laid (a := s.heap.objs.size) (o := .own (s.heap.objs.size + 1)) (h' := s.heap.push PySem.W.emptyDict) (t' := s.toks) (fun b u q => Heap.get?_push_of_some _ q) (Nat.le_refl _) ⟨_, e1⟩
  refine I1.laid (a := s.heap.objs.size + 1) (o := .ins C s.heap.objs.size []) (t' := s.toks) (fun b u q => Heap.get?_push_of_some _ q) (Nat.le_of_eq (Heap.size_push _ _)) ?_
  have ne : s.heap.objs.size ≠ s.heap.objs.size + 1 := Nat.ne_of_lt (Nat.lt_succ_self _)
  refine ⟨by rw [upd_ne ne, upd_same], Nat.zero_le _, ne, e2, fun _ => none, (Heap.Ns1.of_empty e3).at fun o q => Heap.get?_push_of_some _ q, fun _ => True.intro, fun y hy => absurd rfl hy⟩

/-- e.f where nothing but the object is asked: through attributeBase (super) and the last hold -/
theorem attr_of {prog : Program} {w : World} {env : Env} {e : Expr} {f : Str} {pos : Pos} {s : Shared} {Q : Value → Shared → Prop} (hb : attributeBase e f env (eval e env) = eval e env)
    (h : wpAny (model prog w) A (eval e env) (fun o s₁ => wpAny (model prog w) A (getAttr o f true) Q E s₁) E s) : wpAny (model prog w) A (eval (.Attribute e f pos) env) Q E s :=
  Attribute_any_ h (by rw [arm_eval_Attribute, hb])
end

/-! ### readings and rules -/
/-- e.f, an attribute of the instance -/
def tFld (K : PySem.W.Frag) (ta : TE) (f : Str) : TE := fun σ H Q => ta σ H fun x H1 => ∃ a C dx fs v, x = .ref a ∧ H1 a = some (.ins C dx fs) ∧ Cls K C ∧ NoAttr K C f ∧ fs.lookup f = some v ∧ Q v H1
/-- e.f, a constant of the class -/
def tCon (K : PySem.W.Frag) (ta : TE) (f : Str) : TE := fun σ H Q => ta σ H fun x H1 => ∃ a C dx fs v u, x = .ref a ∧ H1 a = some (.ins C dx fs) ∧ Cls K C ∧ Con K C f v u ∧ fs.lookup f = none ∧ Q v H1
/-- e.f = value -/
def sFld (K : PySem.W.Frag) (ta tv : TE) (f : Str) : TS := fun D σ H => tv σ H fun y H1 => ta σ H1 fun x H2 => ∃ a C dx fs, x = .ref a ∧ H2 a = some (.ins C dx fs) ∧ Cls K C ∧ NoAttr K C f ∧ fs.length < 1000 ∧
  D.nx σ (upd H2 a (.ins C dx (putF f y fs)))
/-- an augmented operator on two values -/
def InOp (X : Cx) (op : Operator) (rd : V → V → Hp → VK → Prop) : Prop :=
  ∀ (pins : List (Addr × Obj)) (s : Shared) (σ : St) (H : Hp) (x y : V) (u v : Value) (Q : VK), Inv X pins σ H s → RelV x u → RelV y v → rd x y H Q → wpAny (model X.prog X.w) X.A (inplaceOp op u v) (EP X pins σ Q) X.xe s
/-- e.f op= value -/
def sFldAug (K : PySem.W.Frag) (ta tv : TE) (rd : V → V → Hp → VK → Prop) (f : Str) : TS := fun D σ H => ta σ H fun x H1 => ∃ a C dx fs v, x = .ref a ∧ H1 a = some (.ins C dx fs) ∧ Cls K C ∧ NoAttr K C f ∧ fs.lookup f = some v ∧
  tv σ H1 fun y H2 => rd v y H2 fun z H3 => ∃ dx' fs', H3 a = some (.ins C dx' fs') ∧ fs'.length < 1000 ∧ D.nx σ (upd H3 a (.ins C dx' (putF f z fs')))

section
variable {X : Cx} {o e value : Expr} {f : Str} {pos pos' tpos : Pos} {ta tv : TE}
theorem pe_fld (he : PE X e ta) (hb : attributeBase e f X.env (eval e X.env) = eval e X.env) : PE X (.Attribute e f pos) (tFld X.K ta f) := by
  intro pins s σ H Q I h
  refine attr_of hb (thn (he pins s σ H _ I h) fun u s1 ⟨x, H1, I1, rx, a, C, dx, fs, v, ex, ea, c, n, l, q⟩ => ?_)
  subst ex
  obtain rfl : u = Value.ref a := rx
  exact getattr_ok I1 ea c n l fun u' s2 I2 ru => ⟨v, H1, I2, ru, q⟩
theorem ps_fld (ha : PE X o ta) (hv : PE X value tv) (hs : swapsWith value (some (.Attribute o f pos')) pos.line X.env = pure false) : PS X (.Assign [.Attribute o f pos'] value pos) (sFld X.K ta tv f) := by
  intro pins s σ H D I h
  refine plainObj_wpAny_Assign_Attribute (thn (hv pins s σ H _ I h) fun u s1 ⟨y, H1, I1, ry, q⟩ => thn (ha pins s1 σ H1 _ I1 q) fun ov s2 ⟨x, H2, I2, rx, a, C, dx, fs, ex, ea, c, n, l, q2⟩ => ?_) hs
  subst ex
  obtain rfl : ov = Value.ref a := rx
  exact setattr_ok I2 ea c n l ry fun s3 I3 => ⟨σ, _, I3, q2⟩
theorem ps_fldaug {op : Operator} {rd : V → V → Hp → VK → Prop} (ha : PE X o ta) (hv : PE X value tv) (hop : InOp X op rd) : PS X (.AugAssign (.Attribute o f tpos) op value pos) (sFldAug X.K ta tv rd f) := by
  intro pins s σ H D I h
  refine wpAny_AugAssign_AttributeAny (thn (ha pins s σ H _ I h) fun ov s1 ⟨x, H1, I1, rx, a, C, dx, fs, v, ex, ea, c, n, l, q⟩ => ?_)
  subst ex
  obtain rfl : ov = Value.ref a := rx
  refine getattr_ok I1 ea c n l fun u s2 I2 ru => thn (hv pins s2 σ H1 _ I2 q) fun w3 s3 ⟨y, H2, I3, ry, q3⟩ => thn (hop pins s3 σ H2 v y u w3 _ I3 ru ry q3) fun w4 s4 ⟨z, H3, I4, rz, dx', fs', ea', l', q4⟩ => ?_
  exact setattr_ok I4 ea' c n l' rz fun s5 I5 => ⟨σ, _, I5, q4⟩
def rAdd : V → V → Hp → VK → Prop := fun x y H Q => ∃ i j, x = .int i ∧ y = .int j ∧ Q (.int (i + j)) H
def rSub : V → V → Hp → VK → Prop := fun x y H Q => ∃ i j, x = .int i ∧ y = .int j ∧ Q (.int (i - j)) H
theorem in_add : InOp X .Add rAdd := by
  rintro pins s σ H x y u v Q I rx ry ⟨i, j, rfl, rfl, q⟩
  obtain ⟨t, rfl⟩ := (show ∃ t, u = Value.int i t from rx)
  obtain ⟨t', rfl⟩ := (show ∃ t', v = Value.int j t' from ry)
  exact PyProof.Rows.iadd_int ⟨.int (i + j), H, I.tok _, ⟨_, rfl⟩, q⟩
theorem in_sub : InOp X .Sub rSub := by
  rintro pins s σ H x y u v Q I rx ry ⟨i, j, rfl, rfl, q⟩
  obtain ⟨t, rfl⟩ := (show ∃ t, u = Value.int i t from rx)
  obtain ⟨t', rfl⟩ := (show ∃ t', v = Value.int j t' from ry)
  exact PyProof.Rows.isub_int ⟨.int (i - j), H, I.tok _, ⟨_, rfl⟩, q⟩

end

/-! ### isinstance -/
section
variable {X : Cx} {pins : List (Addr × Obj)} {σ : St} {H : Hp} {s : Shared} {A : Around} {E : Value → Shared → Prop} {Q : Value → Shared → Prop} {c : Value} {b : Bool}
/-- the type of a value, as the fragment's deciders take it; for an instance its class -/
inductive TyOf (K : PySem.W.Frag) (H : Hp) : V → Value → Prop where
  | non : TyOf K H .non (.type "NoneType")
  | bl (x : Bool) : TyOf K H (.bl x) (.type "bool")
  | int (i : Int) : TyOf K H (.int i) (.type "int")
  | str (x : Str) : TyOf K H (.str x) (.type "str")
  | flt (x : UInt64) : TyOf K H (.flt x) (.type "float")
  | lst {a : Addr} {xs : List V} (e : H a = some (.lst xs)) : TyOf K H (.ref a) (.type "list")
  | frz {a : Addr} {o : Obj} {xs : List V} (e : H a = some (.frz o (.lst xs))) : TyOf K H (.ref a) (.type "list")
  | tup {a : Addr} {xs : List V} (e : H a = some (.tup xs)) : TyOf K H (.ref a) (.type "tuple")
  | dK {a : Addr} {kvs : List (Key × V)} (e : H a = some (.dK kvs)) : TyOf K H (.ref a) (.type "dict")
  | dT {a : Addr} {kvs : List (List Key × V)} (e : H a = some (.dT kvs)) : TyOf K H (.ref a) (.type "dict")
  | ins {a C dx : Addr} {fs : List (Str × V)} (e : H a = some (.ins C dx fs)) (cl : Cls K C) (ha : PySem.W.findIn K (.ref C) "__class__" = some (some (.builtin "object.__class__")))
      (hn : PySem.W.specialIn K (.builtin "object.__class__") "__get__" = some (some (.builtin "getset_descriptor.__get__"))) (htk : PySem.W.takesIn K (.builtin "object.__class__") = some true)
      (hm : PySem.W.mroIn K C (.type "object") = some true) : TyOf K H (.ref a) (.ref C)
/-- isinstance(x, c) for one class c, a built-in or an own one: kitOne's answer -/
theorem isinst_ok {x : V} {u t : Value} (I : Inv X pins σ H s) (rx : RelV x u) (ty : TyOf X.K H x t) (e : PySem.W.kitOne X.K t c = some b) (h : ∀ tk, Q (.bool b) { s with toks := tk }) :
    wpAny (model X.prog X.w) A (call (.builtin "isinstance") [u, c]) Q E s := by
  cases ty with
  | non => cases (show u = Value.none from rx); exact PySem.W.kia_one PySem.W.kitx_none I.kIn True.intro e (fun z => nomatch z) h
  | bl y => cases (show u = Value.bool y from rx); exact PySem.W.kia_one PySem.W.kitx_bool I.kIn True.intro e (fun z => nomatch z) h
  | int i => obtain ⟨t, q⟩ := (show ∃ t, u = Value.int i t from rx); cases q; exact PySem.W.kia_one PySem.W.kitx_int I.kIn True.intro e (fun z => nomatch z) h
  | str y => obtain ⟨t, q⟩ := (show ∃ t, u = Value.str y t from rx); cases q; exact PySem.W.kia_one PySem.W.kitx_str I.kIn True.intro e (fun z => nomatch z) h
  | flt y => obtain ⟨t, q⟩ := (show ∃ t, u = Value.float y t from rx); cases q; exact PySem.W.kia_one PySem.W.kitx_float I.kIn True.intro e (fun z => nomatch z) h
  | @lst a xs ea =>
    cases (show u = Value.ref a from rx)
    obtain ⟨_, _, n, _, h1⟩ := (show ObjOk X.prog X.w H s.heap a (.lst xs) from I.hok a _ ea)
    exact PySem.W.kia_one PySem.W.kitx_list I.kIn ⟨_, h1, rfl⟩ e (fun z => nomatch z) h
  | @frz a ob xs ea =>
    cases (show u = Value.ref a from rx)
    obtain ⟨_, _, _, n, _, h1⟩ := (show ObjOk X.prog X.w H s.heap a (.frz ob (.lst xs)) from I.hok a _ ea)
    exact PySem.W.kia_one PySem.W.kitx_list I.kIn ⟨_, h1, rfl⟩ e (fun z => nomatch z) h
  | @tup a xs ea =>
    cases (show u = Value.ref a from rx)
    obtain ⟨_, _, _, p⟩ := (show ObjOk X.prog X.w H s.heap a (.tup xs) from I.hok a _ ea)
    obtain ⟨o, h1, h2, _⟩ := p
    exact PySem.W.kia_one PySem.W.kitx_tuple I.kIn ⟨o, h1, h2⟩ e (fun z => nomatch z) h
  | @dK a kvs ea =>
    cases (show u = Value.ref a from rx)
    obtain ⟨_, _, vs, _, p⟩ := (show ObjOk X.prog X.w H s.heap a (.dK kvs) from I.hok a _ ea)
    obtain ⟨o, es, ep, h1, h2, _⟩ := p
    exact PySem.W.kia_one PySem.W.kitx_dict I.kIn ⟨o, h1, h2.1⟩ e (fun z => nomatch z) h
  | @dT a kvs ea =>
    cases (show u = Value.ref a from rx)
    obtain ⟨_, _, xs, _, o, es, ep, h1, h2, _⟩ := (show ObjOk X.prog X.w H s.heap a (.dT kvs) from I.hok a _ ea)
    exact PySem.W.kia_one PySem.W.kitx_dict I.kIn ⟨o, h1, h2.1⟩ e (fun z => nomatch z) h
  | @ins a C dx fs ea cl ha hn htk hm =>
    cases (show u = Value.ref a from rx)
    obtain ⟨mA, O, _⟩ := ins_get I.hok ea
    obtain ⟨od, J, _⟩ := O.look
    exact PySem.W.kia_one (PySem.W.kitx_own (cl.get _) cl.hd ha hn htk hm) I.kIn J e (fun z => nomatch z) h
end
end L2

namespace L2
open PySem PySem.Spec PyProof.Rows

/-! ### room -/
structure Room (k : Nat) (A : Around) : Prop where
  hd : A.handled = none
  dp : A.depth + 3 * k + 5 < recursionLimit
  un : A.units + 16 * k + 200 < cLine
theorem Room.mono {j k : Nat} {A : Around} (r : Room k A) (h : j ≤ k) : Room j A := ⟨r.hd, by have := r.dp; omega, by have := r.un; omega⟩
theorem Room.deeper {k : Nat} {A : Around} (r : Room (k + 1) A) (env : Env) : Room k (A.deeper env) :=
  ⟨r.hd, by have := r.dp; show A.depth + 1 + 3 * k + 5 < _; omega, by have := r.un; show A.units + 3 + 16 * k + 200 < _; omega⟩
theorem make_depth {A : Around} {C : Addr} {us : List Value} {kw : List (Str × Value)} : (A.under (.builtin "type.__call__" ⟨.ref C :: us, kw⟩)).depth = A.depth + 1 := by
  first | rfl | simp [Around.under, Code.weight, Code.isCreation, Code.isGuard, Code.isCaller, Code.frames, Code.isFrame, guardIds]
theorem make_units {A : Around} {C : Addr} {us : List Value} {kw : List (Str × Value)} : (A.under (.builtin "type.__call__" ⟨.ref C :: us, kw⟩)).units = A.units + 1 := by
  first | rfl | simp [Around.under, Code.cUnits, Code.frames, Code.isFrame]
theorem Room.make {k : Nat} {A : Around} (r : Room (k + 1) A) (C : Addr) (us : List Value) (kw : List (Str × Value)) : Room k (A.under (.builtin "type.__call__" ⟨.ref C :: us, kw⟩)) :=
  ⟨r.hd, by have := r.dp; rw [make_depth]; omega, by have := r.un; rw [make_units]; omega⟩
theorem Room.depth {k : Nat} {A : Around} (r : Room k A) : A.depth < recursionLimit := by have := r.dp; omega
theorem Room.units {k : Nat} {A : Around} (r : Room k A) : A.units + 64 < cLine := by have := r.un; omega

/-! ### argument lists and displays -/
def tNil : TA := fun _ H Q => Q [] H
def tCons (ta : TE) (tr : TA) : TA := fun σ H Q => ta σ H fun x H1 => tr σ H1 fun xs H2 => Q (x :: xs) H2
section
variable {X : Cx} {e : Expr} {es : List Expr} {te : TE} {t : TA} {pos : Pos}
theorem pa_nil : PA X [] tNil := fun _ _ _ _ H Q I h => Calls.spliced_nil ⟨[], H, I, .nil, h⟩
theorem pa_cons (ha : PE X e te) (hr : PA X es t) (hs : starEach (e :: es) X.env = (false, eval e X.env) :: starEach es X.env := by rfl) : PA X (e :: es) (tCons te t) := by
  intro pos pins s σ H Q I h
  rw [hs]
  show wpAny _ _ (spliced ((false, eval e X.env) :: backTo pos (starEach es X.env))) _ _ s
  refine Calls.spliced_cons (thn (ha pins s σ H _ I h) fun u s1 ⟨x, H1, I1, r1, q1⟩ => ?_)
  exact thn (hr pos pins s1 σ H1 _ I1 q1) fun us s2 ⟨xs, H2, I2, r2, q2⟩ => ⟨x :: xs, H2, I2, .cons r1 r2, q2⟩

/-- a tuple, a list of written items -/
def tTup (t : TA) : TE := fun σ H Q => t σ H fun xs H1 => xs.length ≤ sizeLine ∧ ∀ p, H1 p = none → Q (.ref p) (upd H1 p (.tup xs))
def tLst (t : TA) : TE := fun σ H Q => t σ H fun xs H1 => xs.length ≤ sizeLine ∧ ∀ p, H1 p = none → Q (.ref p) (upd H1 p (.lst xs))
theorem pe_tup {x1} (h : PA X es t) : PE X (.Tuple es x1 pos) (tTup t) := by
  intro pins s σ H Q I hq
  refine wpAny_Tuple_spliced (thn (h pos pins s σ H _ I hq) fun us s1 ⟨xs, H1, I1, r, z, q⟩ => ⟨by rw [← r.length]; exact z, ?_⟩)
  have hf : H1 s1.heap.objs.size = none := I1.hok.fresh (Nat.le_refl _)
  refine ⟨.ref s1.heap.objs.size, upd H1 s1.heap.objs.size (.tup xs), I1.laid (t' := s1.toks) (fun b u e => Heap.get?_push_of_some _ e) (Nat.le_refl _) ?_, rfl, q _ hf⟩
  exact ⟨z, us, r, ⟨_, Heap.get?_push_size _ rfl, rfl, _, rfl⟩⟩
theorem pe_lst (h : PA X es t) : PE X (.List es pos) (tLst t) := by
  intro pins s σ H Q I hq
  refine wpAny_List_spliced (thn (h pos pins s σ H _ I hq) fun us s1 ⟨xs, H1, I1, r, z, q⟩ => ⟨by rw [← r.length]; exact z, ?_⟩)
  have hf : H1 s1.heap.objs.size = none := I1.hok.fresh (Nat.le_refl _)
  refine ⟨.ref s1.heap.objs.size, upd H1 s1.heap.objs.size (.lst xs), I1.laid (t' := s1.toks) (fun b u e => Heap.get?_push_of_some _ e) (Nat.le_refl _) ?_, rfl, q _ hf⟩
  exact ⟨z, us, 0, r, Heap.get?_push_size _ rfl⟩
end

/-! ### what a def promises -/
/-- a def's promise: the bound arguments in the parameters' order, the heap, the wanted end, the wanted exception -/
abbrev Sp := List V → Hp → VK → XK → Prop
/-- how an exception lies behind a call (file 08 gives it): the callers' frames, abstract heap and state ahead of the call, the wish, the exception, the state -/
abbrev CXT := List Env → Hp → Shared → XK → Value → Shared → Prop

/-- the state at a call -/
structure Env0 (P : Program) (w : World) (K : PySem.W.Frag) (mg : Str → Option Value) (base : Heap) (A : Around) (outer : List Env) (s : Shared) (H : Hp) : Prop where
  frames : A.frames = some outer
  mod : Mod K mg base
  bs : ∀ b o, base.get? b = some o → s.heap.get? b = some o ∧ H b = none
  bsz : base.objs.size ≤ s.heap.objs.size
  funs : s.heap.FunFrames base outer
  frf : ∀ b ∈ frs outer, H b = none
  hok : HOk P w H s.heap
  bare : AllBare s.gens
/-- a call's end -/
def CE (outer : List Env) (P : Program) (w : World) (H : Hp) (s : Shared) (Q : VK) (u : Value) (s' : Shared) : Prop :=
  ∃ v H', s'.os = s.os ∧ AllBare s'.gens ∧ Un (frs outer) [] H H' s.heap s'.heap ∧ HOk P w H' s'.heap ∧ RelV v u ∧ Q v H'
def CR (CX : CXT) (outer : List Env) (P : Program) (w : World) (H : Hp) (s : Shared) (Q : VK) (E : XK) (r : Result) (s' : Shared) : Prop :=
  match r with
  | .ok (.ret u) => CE outer P w H s Q u s'
  | .ok _ => False
  | .error e => CX outer H s E e s'
structure FnOk (P : Program) (w : World) (K : PySem.W.Frag) (mg : Str → Option Value) (base : Heap) (CX : CXT) (k : Nat) (f : Addr) (fd : FuncData) (ps : List Str) (sp : Sp) : Prop where
  len : ∀ vs H Q E, sp vs H Q E → vs.length = ps.length
  run : ∀ (A : Around) (outer : List Env) (s : Shared) (H : Hp) (args : Args) (us : List Value) (vs : List V) (Q : VK) (E : XK), Room k A → Env0 P w K mg base A outer s H → BindsTo s fd args (ps.zip us) → Vals vs us → sp vs H Q E →
    codeAny (model P w) A (.call (.ref f) args) (CR CX outer P w H s Q E) s

theorem Env0.make {P : Program} {w : World} {K : PySem.W.Frag} {mg : Str → Option Value} {base : Heap} {A : Around} {outer : List Env} {s : Shared} {H : Hp} (e : Env0 P w K mg base A outer s H) (C : Addr) (us : List Value) (kw : List (Str × Value)) :
    Env0 P w K mg base (A.under (.builtin "type.__call__" ⟨.ref C :: us, kw⟩)) outer s H := ⟨by first | exact e.frames | (simpa [Around.under, Code.envs, Code.isFrame, pushEnvs] using e.frames), e.mod, e.bs, e.bsz, e.funs, e.frf, e.hok, e.bare⟩

section
variable {X : Cx} {pins : List (Addr × Obj)} {σ : St} {H : Hp} {s s' : Shared}
/-- from a body: what a callee wants -/
theorem Inv.env0 (I : Inv X pins σ H s) : Env0 X.prog X.w X.K X.mg X.base X.A X.stack s H :=
  ⟨I.ok.frames, I.ok.mod, I.bs, Nat.le_trans I.ok.bsz I.sz, I.stack, I.stkFree, I.hok, I.bare⟩
/-- behind a call -/
theorem Inv.after {Q : VK} {u : Value} (I : Inv X pins σ H s) (h : CE X.stack X.prog X.w H s Q u s') : EP X pins σ Q u s' := by
  obtain ⟨v, H', os, bare, un, hok, r, q⟩ := h
  obtain ⟨hh, g, d, t, os'⟩ := s'
  obtain rfl : os' = s.os := os
  exact ⟨v, H', I.call (h' := hh) (g' := g) (d' := d) (t' := t) (ch := []) un hok bare (fun b z => absurd z (by simp)), r, q⟩
end

/-! ### calls -/
/-- f(..): the written arguments, then the defaults dvs; E: what is wanted of an exception -/
def tCall (sp : Sp) (dvs : List V) (E : XK) (t : TA) : TE := fun σ H Q => t σ H fun vs H1 => sp (vs ++ dvs) H1 Q E
/-- o.m(..) of an instance of the class at C -/
def tMeth (C : Addr) (m : Str) (sp : Sp) (dvs : List V) (E : XK) (ta : TE) (t : TA) : TE := fun σ H Q => ta σ H fun x H1 => ∃ a dx fs, x = .ref a ∧ H1 a = some (.ins C dx fs) ∧ fs.lookup m = none ∧
  t σ H1 fun vs H2 => sp (x :: (vs ++ dvs)) H2 Q E
/-- C(..): a new instance and its dict, then __init__ -/
def tMake (C : Addr) (sp : Sp) (dvs : List V) (E : XK) (t : TA) : TE := fun σ H Q => t σ H fun vs H1 => ∀ x dx, H1 x = none → H1 dx = none → dx ≠ x →
  sp (.ref x :: (vs ++ dvs)) (upd (upd H1 dx (.own x)) x (.ins C dx [])) (fun v H2 => v = .non ∧ Q (.ref x) H2) E

/-- how the parameters are bound: us the positional arguments, kw the keywords' values by name, ds the defaults that fill up -/
def Binds (K : PySem.W.Frag) (fd : FuncData) (ps : List Str) (ds : List Value) : Prop :=
  ∀ (s : Shared) (us : List Value), K.In s.heap → (us ++ ds).length = ps.length → BindsTo s fd ⟨us, []⟩ (ps.zip (us ++ ds))
/-- every parameter is given -/
theorem Binds.all {K : PySem.W.Frag} {fd : FuncData} {ps : List Str} (h : ∀ us : List Value, us.length = ps.length → bindArgs fd ⟨us, []⟩ = pure (ps.zip us)) : Binds K fd ps [] := fun s us _ hl => by
  rw [List.append_nil] at hl ⊢
  exact .of_eq (h us hl)

/-- an exception of a callee reaches what this body wants of exceptions -/
def Passes (CX : CXT) (X : Cx) (E : XK) : Prop := ∀ (pins : List (Addr × Obj)) (σ : St) (H : Hp) (s : Shared) (e : Value) (s' : Shared), Inv X pins σ H s → CX X.stack H s E e s' → X.xe e s'

section
variable {X : Cx} {CX : CXT} {k : Nat} {f C : Addr} {fd : FuncData} {ps : List Str} {sp : Sp} {dvs : List V} {ds : List Value} {E : XK} {x m : Str} {p pos apos : Pos} {e o : Expr} {es : List Expr} {ta : TE} {t : TA}

/-- the callee runs -/
theorem run_fn {pins : List (Addr × Obj)} {σ : St} {H : Hp} {s : Shared} {Q : VK} {us : List Value} {vs : List V} (F : FnOk X.prog X.w X.K X.mg X.base CX k f fd ps sp) (hr : Room k X.A) (hb : Binds X.K fd ps ds) (hd : Vals dvs ds) (hx : Passes CX X E)
    (I : Inv X pins σ H s) (r : Vals vs us) (h : sp (vs ++ dvs) H Q E) : wpAny (model X.prog X.w) X.A (call (.ref f) us) (EP X pins σ Q) X.xe s := by
  have r2 : Vals (vs ++ dvs) (us ++ ds) := r.append hd
  have hl : (us ++ ds).length = ps.length := by rw [← r2.length]; exact F.len _ _ _ _ h
  refine wpAny_call (codeAny_mono (F.run X.A X.stack s H ⟨us, []⟩ (us ++ ds) (vs ++ dvs) Q E hr I.env0 (hb s us I.kIn hl) r2 h) fun r s' hq => ?_)
  cases r with
  | error e => exact hx pins σ H s e s' I hq
  | ok fl =>
    cases fl with
    | ret u => exact I.after hq
    | next => exact False.elim hq
    | brk => exact False.elim hq
    | cont => exact False.elim hq

theorem pe_call (F : FnOk X.prog X.w X.K X.mg X.base CX k f fd ps sp) (hr : Room k X.A) (hg : Gl X x) (hm : X.mg x = some (.ref f)) (hk : PySem.W.keepIn X.K (.ref f) = true) (hb : Binds X.K fd ps ds) (hd : Vals dvs ds) (hx : Passes CX X E)
    (ha : PA X (e :: es) t) (hdb : (x == ("__debug__" : Str)) = false := by decide) (he : starEach (e :: es) X.env = (false, eval e X.env) :: starEach es X.env := by rfl) (hpl : (backTo pos (starEach es X.env)).any (·.1) = false := by rfl) :
    PE X (.Call (.Name x p) (e :: es) [] pos) (tCall sp dvs E t) := by
  intro pins s σ H Q I h
  refine wpAny_Call_Name_kw (ld_glob I hg hm ?_ hdb)
  refine PySem.W.callWith_K (h₀ := X.base) I.ok.mod.kin hk (thn (ha pos pins s σ H _ I h) fun us s1 ⟨vs, H1, I1, r, q⟩ => ⟨I1.kIn, ?_⟩) he hpl
  exact run_fn F hr hb hd hx I1 r q

/-- o.m(e, ..) -/
theorem pe_meth {pl : Sem Bool} (he : PE X o ta) (c : Cls X.K C) (hm : Meth X.K C m f) (F : FnOk X.prog X.w X.K X.mg X.base CX k f fd ps sp) (hr : Room k X.A) (hb : Binds X.K fd ps ds) (hd : Vals dvs ds) (hx : Passes CX X E) (ha : PA X (e :: es) t)
    (hst : starEach (e :: es) X.env = (false, eval e X.env) :: starEach es X.env := by rfl) (hpl : (backTo pos (starEach es X.env)).any (·.1) = false := by rfl)
    (ht : eval (.Call (.Attribute o m apos) (e :: es) [] pos) X.env = (do
      let ov ← eval o X.env
      standAt apos.atName
      let (f, first) ← holding [ov] (getMethod ov m pl)
      callWith pos f first (backTo pos (starEach (e :: es) X.env)) (backToKw pos (keywordEach [] X.env))) := by rfl) :
    PE X (.Call (.Attribute o m apos) (e :: es) [] pos) (tMeth C m sp dvs E ta t) := by
  intro pins s σ H Q I h
  refine PySem.W.methodCall_KW (pl := pl) (thn (he pins s σ H _ I h) fun u s1 ⟨x, H1, I1, rx, a, dx, fs, ex, ea, l, q⟩ => ?_) ht
  subst ex
  obtain rfl : u = Value.ref a := rx
  refine getmeth_ok I1 ea c hm l ?_
  refine PySem.W.callWith_K (first := [.ref a]) (h₀ := X.base) I.ok.mod.kin hm.kp (thn (ha pos pins s1 σ H1 _ I1 q) fun us s2 ⟨vs, H2, I2, r, q2⟩ => ⟨I2.kIn, ?_⟩) hst hpl
  exact run_fn (us := .ref a :: us) (vs := .ref a :: vs) F hr hb hd hx I2 (.cons rfl r) q2
/-- o.m() -/
theorem pe_meth0 {pl : Sem Bool} (he : PE X o ta) (c : Cls X.K C) (hm : Meth X.K C m f) (F : FnOk X.prog X.w X.K X.mg X.base CX k f fd ps sp) (hr : Room k X.A) (hb : Binds X.K fd ps ds) (hd : Vals dvs ds) (hx : Passes CX X E)
    (ht : eval (.Call (.Attribute o m apos) [] [] pos) X.env = (do
      let ov ← eval o X.env
      standAt apos.atName
      let (f, first) ← holding [ov] (getMethod ov m pl)
      callWith pos f first (backTo pos (starEach [] X.env)) (backToKw pos (keywordEach [] X.env))) := by rfl) :
    PE X (.Call (.Attribute o m apos) [] [] pos) (tMeth C m sp dvs E ta tNil) := by
  intro pins s σ H Q I h
  refine PySem.W.methodCall_KW (pl := pl) (thn (he pins s σ H _ I h) fun u s1 ⟨x, H1, I1, rx, a, dx, fs, ex, ea, l, q⟩ => ?_) ht
  subst ex
  obtain rfl : u = Value.ref a := rx
  refine getmeth_ok I1 ea c hm l ?_
  exact PySem.W.callWith_K0 (first := [.ref a]) I1.kIn hm.kp (run_fn (us := [.ref a]) (vs := [.ref a]) F hr hb hd hx I1 (.cons rfl .nil) q)

/-- what a class must have to be made -/
structure Mk (K : PySem.W.Frag) (C f : Addr) : Prop where
  makes : PySem.W.makesIn K C = true
  init : PySem.W.findIn K (.ref C) "__init__" = some (some (.ref f))
  fn : PySem.W.isFn K (.ref f) = true
  kp : PySem.W.keepIn K (.ref C) = true

theorem run_make {pins : List (Addr × Obj)} {σ : St} {H : Hp} {s : Shared} {Q : VK} {us : List Value} {vs : List V} (M : Mk X.K C f) (F : FnOk X.prog X.w X.K X.mg X.base CX k f fd ps sp) (hr : Room (k + 1) X.A) (hb : Binds X.K fd ps ds) (hd : Vals dvs ds)
    (hx : Passes CX X E) (I : Inv X pins σ H s) (r : Vals vs us)
    (h : ∀ x dx, H x = none → H dx = none → dx ≠ x → sp (.ref x :: (vs ++ dvs)) (upd (upd H dx (.own x)) x (.ins C dx [])) (fun v H2 => v = .non ∧ Q (.ref x) H2) E) :
    wpAny (model X.prog X.w) X.A (call (.ref C) us) (EP X pins σ Q) X.xe s := by
  have hq := h (s.heap.objs.size + 1) s.heap.objs.size (I.hok.fresh (Nat.le_succ _)) (I.hok.fresh (Nat.le_refl _)) (Nat.ne_of_lt (Nat.lt_succ_self _))
  have I2 := Inv.made (C := C) I
  have r2 : Vals (V.ref (s.heap.objs.size + 1) :: (vs ++ dvs)) (Value.ref (s.heap.objs.size + 1) :: (us ++ ds)) := .cons rfl (r.append hd)
  have hl : (Value.ref (s.heap.objs.size + 1) :: us ++ ds).length = ps.length := by
    have e := r2.length
    rw [F.len _ _ _ _ hq] at e
    exact e.symm
  refine wpAny_call (make_map (f := f) I.kIn M.makes M.init (beq_iff_eq.mp M.fn) (codeAny_mono (F.run _ X.stack _ _ ⟨Value.ref (s.heap.objs.size + 1) :: us, []⟩ (Value.ref (s.heap.objs.size + 1) :: (us ++ ds)) _ _ E (hr.make C us [])
    (I2.env0.make C us []) (hb _ (Value.ref (s.heap.objs.size + 1) :: us) I2.kIn hl) r2 hq) fun r s' hq' => ?_))
  cases r with
  | error e => exact hx pins σ _ _ e s' I2 hq'
  | ok fl =>
    cases fl with
    | ret u =>
      obtain ⟨v, H', I3, rv, ev, q3⟩ := I2.after hq'
      subst ev
      exact ⟨rv, ⟨V.ref (s.heap.objs.size + 1), H', I3, rfl, q3⟩⟩
    | next => exact False.elim hq'
    | brk => exact False.elim hq'
    | cont => exact False.elim hq'
theorem pe_make (M : Mk X.K C f) (F : FnOk X.prog X.w X.K X.mg X.base CX k f fd ps sp) (hr : Room (k + 1) X.A) (hg : Gl X x) (hm : X.mg x = some (.ref C)) (hb : Binds X.K fd ps ds) (hd : Vals dvs ds) (hx : Passes CX X E)
    (ha : PA X (e :: es) t) (hdb : (x == ("__debug__" : Str)) = false := by decide) (he : starEach (e :: es) X.env = (false, eval e X.env) :: starEach es X.env := by rfl) (hpl : (backTo pos (starEach es X.env)).any (·.1) = false := by rfl) :
    PE X (.Call (.Name x p) (e :: es) [] pos) (tMake C sp dvs E t) := by
  intro pins s σ H Q I h
  refine wpAny_Call_Name_kw (ld_glob I hg hm ?_ hdb)
  refine PySem.W.callWith_K (h₀ := X.base) I.ok.mod.kin M.kp (thn (ha pos pins s σ H _ I h) fun us s1 ⟨vs, H1, I1, r, q⟩ => ⟨I1.kIn, ?_⟩) he hpl
  exact run_make M F hr hb hd hx I1 r q
end

/-! ### keywords -/
/-- the values of the keywords, from the left -/
def PK (X : Cx) (kws : List Keyword) (t : TA) : Prop :=
  ∀ (pos : Pos) (pins : List (Addr × Obj)) (s : Shared) (σ : St) (H : Hp) (Q : List V → Hp → Prop), Inv X pins σ H s → t σ H Q → wpAny (model X.prog X.w) X.A (evalAll ((backToKw pos (keywordEach kws X.env)).map (·.2))) (AP X pins σ Q) X.xe s
section
variable {X : Cx} {CX : CXT} {k : Nat} {f C : Addr} {fd : FuncData} {ps ks : List Str} {sp : Sp} {E : XK} {x m : Str} {p pos apos kpos : Pos} {e o : Expr} {es : List Expr} {kws : List Keyword} {te ta : TE} {t tk : TA} {nm : Option Str}

/-- how a call with keywords binds: g puts the positional values us and the keywords' values ws (names ks) in the parameters' order, defaults among them -/
structure KBinds (K : PySem.W.Frag) (fd : FuncData) (ps ks : List Str) (g : List Value → List Value → List Value) (gV : List V → List V → List V) : Prop where
  to : ∀ (s : Shared) (us ws : List Value), K.In s.heap → (g us ws).length = ps.length → BindsTo s fd ⟨us, ks.zip ws⟩ (ps.zip (g us ws))
  rel : ∀ {vs : List V} {us : List Value} {zs : List V} {ws : List Value}, Vals vs us → Vals zs ws → Vals (gV vs zs) (g us ws)
def tCallK (sp : Sp) (gV : List V → List V → List V) (E : XK) (t tk : TA) : TE := fun σ H Q => t σ H fun vs H1 => tk σ H1 fun zs H2 => sp (gV vs zs) H2 Q E
variable {g : List Value → List Value → List Value} {gV : List V → List V → List V}
end

/-! ### a def's body keeps its promise -/
/-- names: the parameters first -/
structure FnScope (N P : List Str) (sc : Scope) : Prop where
  kind : sc.kind = .function
  co : sc.isCoroutine = false
  gen : sc.isGenerator = false
  nd : N.Nodup
  pre : N.take P.length = P
  par : ∀ x ∈ P, sc.names.lookup x = some .local ∨ sc.names.lookup x = some .cell
  nofree : ∀ y ∈ sc.names, y.2 ≠ .free

theorem bindL_out {kindOf : Str → Option NameKind} {x : Str} : ∀ {binds : List (Str × Value)} {m : Str → Option Value}, (∀ v, (x, v) ∉ binds) → bindL kindOf binds m x = m x
  | [], _, _ => rfl
  | (n, v) :: r, m, h => by
    unfold bindL
    rw [bindL_out fun w hw => h w (List.mem_cons_of_mem _ hw)]
    split
    · have : x ≠ n := by rintro rfl; exact h v List.mem_cons_self
      simp [this]
    · rfl
theorem bindC_out {kindOf : Str → Option NameKind} {x : Str} : ∀ {binds : List (Str × Value)} {m : Str → Option Value}, (∀ v, (x, v) ∉ binds) → bindC kindOf binds m x = m x
  | [], _, _ => rfl
  | (n, v) :: r, m, h => by
    unfold bindC
    rw [bindC_out fun w hw => h w (List.mem_cons_of_mem _ hw)]
    split
    · rfl
    · have : x ≠ n := by rintro rfl; exact h v List.mem_cons_self
      simp [this]
theorem bindL_get {kindOf : Str → Option NameKind} {x : Str} {v : Value} : ∀ {P : List Str} {vs : List Value} {i : Nat} {m : Str → Option Value}, P.Nodup → P[i]? = some x → vs[i]? = some v → kindOf x = some .local →
    bindL kindOf (P.zip vs) m x = some v
  | [], _, _, _, _, h, _, _ => by simp at h
  | _ :: _, [], _, _, _, _, h, _ => by simp at h
  | p :: P, w :: vs, 0, m, nd, h1, h2, hk => by
    simp at h1 h2; subst h1; subst h2
    show bindL kindOf ((p, w) :: P.zip vs) m p = _
    unfold bindL
    rw [bindL_out fun v hv => (List.nodup_cons.mp nd).1 (List.of_mem_zip hv).1, if_pos hk]
    simp
  | p :: P, w :: vs, i + 1, m, nd, h1, h2, hk => by
    show bindL kindOf ((p, w) :: P.zip vs) m x = _
    unfold bindL
    exact bindL_get (i := i) (List.nodup_cons.mp nd).2 (by simpa using h1) (by simpa using h2) hk
theorem bindC_get {kindOf : Str → Option NameKind} {x : Str} {v : Value} : ∀ {P : List Str} {vs : List Value} {i : Nat} {m : Str → Option Value}, P.Nodup → P[i]? = some x → vs[i]? = some v → kindOf x ≠ some .local →
    bindC kindOf (P.zip vs) m x = some v
  | [], _, _, _, _, h, _, _ => by simp at h
  | _ :: _, [], _, _, _, _, h, _ => by simp at h
  | p :: P, w :: vs, 0, m, nd, h1, h2, hk => by
    simp at h1 h2; subst h1; subst h2
    show bindC kindOf ((p, w) :: P.zip vs) m p = _
    unfold bindC
    rw [bindC_out fun v hv => (List.nodup_cons.mp nd).1 (List.of_mem_zip hv).1, if_neg hk]
    simp
  | p :: P, w :: vs, i + 1, m, nd, h1, h2, hk => by
    show bindC kindOf ((p, w) :: P.zip vs) m x = _
    unfold bindC
    exact bindC_get (i := i) (List.nodup_cons.mp nd).2 (by simpa using h1) (by simpa using h2) hk

/-- the names' values at the entry -/
def start (N : List Str) (vs : List V) : St := vs.map some ++ List.replicate (N.length - vs.length) none

/-- the context of a def's body, at its entry; an exception leaves the frame, then lies as CX says -/
def cxOf (CX : CXT) (P : Program) (w : World) (K : PySem.W.Frag) (mg : Str → Option Value) (base : Heap) (N : List Str) (qual : Str) (scope : Scope) (f : Addr) (cd : Value) (A : Around) (outer : List Env) (s : Shared) (H : Hp) (E : XK) : Cx where
  prog := P
  w := w
  K := K
  mg := mg
  base := base
  A := A.deeper (envOfC qual scope s.heap.objs.size f cd)
  N := N
  s₀ := s
  H₀ := H
  env := envOfC qual scope s.heap.objs.size f cd
  outer := outer
  stack := envOfC qual scope s.heap.objs.size f cd :: outer
  ex := []
  calm := true
  fn := fun _ => true
  pn := []
  xe := fun e s' => wpAny (model P w) (A.deeper (envOfC qual scope s.heap.objs.size f cd)) (leaving (envOfC qual scope s.heap.objs.size f cd) e) (fun _ s'' => CX outer H s E e s'') (fun e' s'' => CX outer H s E e' s'') s'

theorem cell_has {sc : Scope} {n : Nat} {x : Str} (h : sc.names.lookup x = some .cell) : ∃ c, (cellsFrom n sc.names []).lookup x = some c := by
  have q := PySem.W.cellsFrom_some sc.names n [] (.inl h)
  exact Option.isSome_iff_exists.mp q

theorem inv_start {CX : CXT} {P : Program} {w : World} {K : PySem.W.Frag} {mg : Str → Option Value} {base : Heap} {N ps : List Str} {qual : Str} {scope : Scope} {f : Addr} {cd : Value} {A : Around} {outer : List Env} {s s1 : Shared} {H : Hp} {E : XK} {us : List Value} {vs : List V}
    (S : FnScope N ps scope) (hd : A.handled = none) (e0 : Env0 P w K mg base A outer s H) (hl : vs.length = ps.length) (r : Vals vs us)
    (x : InCallC s s.heap.objs.size (bindL (envOfC qual scope s.heap.objs.size f cd).kindOf (ps.zip us) fun _ => none) (cellsFrom (s.heap.objs.size + 1) scope.names []) (bindC (envOfC qual scope s.heap.objs.size f cd).kindOf (ps.zip us) fun _ => none) s1) :
    Inv (cxOf CX P w K mg base N qual scope f cd A outer s H E) [] (start N vs) H s1 := by
  have hpl : ps.length ≤ N.length := by have := congrArg List.length S.pre; rw [List.length_take] at this; omega
  obtain ⟨h1, tk, rfl, hk⟩ := x.done
  have noA : ∀ b : Addr, b ∉ (cxOf CX P w K mg base N qual scope f cd A outer s H E).ex := fun b z => absurd (show b ∈ ([] : List Addr) from z) (by simp)
  refine ⟨⟨e0.mod, S.kind, rfl, rfl, Nat.le_refl _, fun y z c h1 h2 => ?_, fun y hy => ?_, fun y c _ h => ?_, fun _ => hd, Around.frames_deeper e0.frames, .inr ⟨rfl, rfl⟩, fun b z => absurd z (noA b), e0.bs, e0.bsz, fun b _ _ => noA b, fun b z => absurd z (noA b), e0.funs, e0.frf⟩,
    rfl, e0.bare, Un.kept hk, ⟨_, x.toInCall.ns, fun i y v h1 h2 h3 => ?_⟩, fun y c h => ⟨_, x.cell y c h⟩, e0.hok.fresh (Nat.le_refl _), fun y c h => ?_, fun p hp => absurd (show p ∈ ([] : List (Addr × Obj)) from hp) (by simp), e0.hok.kept hk, ?_⟩
  · exact name_of_addr x.apart (PySem.mem_of_lookup h1) (PySem.mem_of_lookup h2)
  · have hy : scope.names.lookup y = some .cell ∨ scope.names.lookup y = some .free := hy
    rcases hy with hy | hy
    · exact cell_has hy
    · exact absurd rfl (S.nofree _ (PySem.mem_of_lookup hy))
  · exact Nat.le_of_lt (x.above y c (PySem.mem_of_lookup h))
  · have hi : i < vs.length := by
      unfold start at h2
      by_cases hi : i < vs.length
      · exact hi
      · rw [List.getElem?_append_right (by simpa using hi)] at h2
        rw [List.getElem?_replicate] at h2
        split at h2 <;> cases h2
    have ha : vs[i]? = some v := by
      unfold start at h2
      rw [List.getElem?_append_left (by simpa using hi), List.getElem?_map] at h2
      cases e : vs[i]? with
      | none => rw [e] at h2; cases h2
      | some a => rw [e] at h2; cases h2; rfl
    obtain ⟨u, hu, rv⟩ := r.get ha
    have hp : ps[i]? = some y := by
      rw [← S.pre, List.getElem?_take_of_lt (by omega)]; exact h1
    have ndP : ps.Nodup := by rw [← S.pre]; exact S.nd.sublist (List.take_sublist _ _)
    refine ⟨u, rv, ?_⟩
    rcases S.par y (List.mem_of_getElem? hp) with k | k
    · exact .inl ⟨k, bindL_get ndP hp hu k⟩
    · obtain ⟨c, e⟩ := cell_has (n := s.heap.objs.size + 1) k
      refine .inr ⟨.inl k, c, e, ?_⟩
      have q := x.cell y c e
      rw [bindC_get ndP hp hu (by show scope.names.lookup y ≠ _; rw [k]; decide)] at q
      exact q
  · exact e0.hok.fresh (Nat.le_of_lt (x.above y c (PySem.mem_of_lookup h)))
  · unfold start
    show _ = N.length
    rw [List.length_append, List.length_map, List.length_replicate]
    omega

/-- THE RULE: a def (or a method) of the text, by its body. The body's reading t is chosen for each entry; it is run at the parameters' values -/
theorem fn_of {CX : CXT} {P : Program} {w : World} {K : PySem.W.Frag} {mg : Str → Option Value} {base : Heap} {k : Nat} {f : Addr} {name qual : Str} {params : Arguments} {body : List Stmt} {scope : Scope} {dV kV doc pm cdv ct oc : Value} {an od : Option Addr}
    {osl : Array (Option Value)} {N ps : List Str} {sp : Sp} (lk : K.lookup f = some ⟨oc, od, .func (PySem.W.fnOf name qual params body scope dV kV doc pm an cdv ct), osl⟩) (hcd : PySem.W.codeIn K cdv qual = true) (S : FnScope N ps scope)
    (len : ∀ vs H Q E, sp vs H Q E → vs.length = ps.length)
    (hbody : ∀ (A : Around) (outer : List Env) (s : Shared) (H : Hp) (vs : List V) (Q : VK) (E : XK), Room k (A.deeper (envOfC qual scope s.heap.objs.size f cdv)) → sp vs H Q E →
      ∃ t, PSs (cxOf CX P w K mg base N qual scope f cdv A outer s H E) body t ∧ t { nx := fun _ H' => Q .non H', rt := Q } (start N vs) H) :
    FnOk P w K mg base CX (k + 1) f (PySem.W.fnOf name qual params body scope dV kV doc pm an cdv ct) ps sp := by
  refine ⟨len, fun A outer s H args us vs Q E hr e0 hb r hsp => ?_⟩
  have hl := len _ _ _ _ hsp
  have KX : K.In s.heap := e0.mod.kin.keeps fun b o e => (e0.bs b o e).1
  have lim : s.heap.NoLimit := e0.mod.nolimit.keeps fun b o e => (e0.bs b o e).1
  have hkind : ∀ y ∈ ps.zip us, scope.names.lookup y.1 = some .local ∨ (scope.names.lookup y.1 = some .cell ∧ ((cellsFrom (s.heap.objs.size + 1) scope.names []).lookup y.1).isSome = true) := fun ⟨n, v⟩ hy => by
    rcases S.par n (List.of_mem_zip hy).1 with q | q
    · exact .inl q
    · exact .inr ⟨q, PySem.W.cellsFrom_some _ _ _ (.inl q)⟩
  refine codeAny_call_function hr.depth (KX _ _ lk) rfl S.co S.gen rfl (PySem.W.codeRec_of KX hcd) (hb _ _ _ _ ?_)
  refine wpAny_newFunctionEnv_cells S.kind hkind fun env he s1 x => ?_
  subst he
  refine ⟨lim.keeps x.toInCall.keep, codeAny_func ?_⟩
  obtain ⟨t, ht, hq⟩ := hbody A outer s H vs Q E (hr.deeper _) hsp
  have I : Inv (cxOf CX P w K mg base N qual scope f cdv A outer s H E) [] (start N vs) H s1 := inv_start S hr.hd e0 hl r x
  refine wpAny_mono (ht [] s1 (start N vs) H _ I hq) (fun fl s' hs => ?_) fun e s' hs => hs
  have fin : ∀ {σ' : St} {H' : Hp} {v : V} {u : Value}, Inv (cxOf CX P w K mg base N qual scope f cdv A outer s H E) [] σ' H' s' → RelV v u → Q v H' → CE outer P w H s Q u s' :=
    fun {σ' H' v u} J rv q => ⟨v, H', J.os, J.bare, J.base, J.hok, rv, q⟩
  cases fl with
  | ret u =>
    obtain ⟨v, σ', H', J, rv, q⟩ := hs
    exact fin J rv q
  | next =>
    obtain ⟨σ', H', J, q⟩ := hs
    exact fin (v := V.non) (u := Value.none) J rfl q
  | brk =>
    obtain ⟨_, _, _, q⟩ := hs
    exact False.elim q
  | cont =>
    obtain ⟨_, _, _, q⟩ := hs
    exact False.elim q
end L2

namespace L2
open PySem PySem.Spec PyProof.Rows
section
variable {X : Cx} {x : Str} {p pos : Pos} {e : Expr} {es : List Expr} {t : TA} {id T : String} {r : List V → Hp → VK → Prop}

def tCB (r : List V → Hp → VK → Prop) (t : TA) : TE := fun σ H Q => t σ H fun vs H1 => r vs H1 Q
/-- f(e, ..), f a built-in function -/
theorem pe_callB (hc : CallR X (.builtin id) r) (hg : Gl X x) (hm : X.mg x = none) (hv : bootBuiltins x = some (.builtin id)) (ha : PA X (e :: es) t) (hn : x ≠ "__name__" := by decide) (hdb : (x == ("__debug__" : Str)) = false := by decide)
    (he : starEach (e :: es) X.env = (false, eval e X.env) :: starEach es X.env := by rfl) (hpl : (backTo pos (starEach es X.env)).any (·.1) = false := by rfl) : PE X (.Call (.Name x p) (e :: es) [] pos) (tCB r t) := by
  intro pins s σ H Q I h
  refine wpAny_Call_Name_kw (ld_blt I hg hm hv ?_ hn hdb)
  exact PyProof.Rows.callWith_builtin1 (thn (ha pos pins s σ H _ I h) fun us s1 ⟨vs, H1, I1, r1, q1⟩ => hc pins s1 σ H1 vs us Q I1 r1 q1) he hpl
/-- T(e, ..), T a built-in type -/
theorem pe_callTy (hc : CallR X (.type T) r) (hg : Gl X x) (hm : X.mg x = none) (hv : bootBuiltins x = some (.type T)) (ha : PA X (e :: es) t) (hn : x ≠ "__name__" := by decide) (hdb : (x == ("__debug__" : Str)) = false := by decide)
    (he : starEach (e :: es) X.env = (false, eval e X.env) :: starEach es X.env := by rfl) (hpl : (backTo pos (starEach es X.env)).any (·.1) = false := by rfl) : PE X (.Call (.Name x p) (e :: es) [] pos) (tCB r t) := by
  intro pins s σ H Q I h
  refine wpAny_Call_Name_kw (ld_blt I hg hm hv ?_ hn hdb)
  exact PyProof.Rows.callWith_type1 (thn (ha pos pins s σ H _ I h) fun us s1 ⟨vs, H1, I1, r1, q1⟩ => hc pins s1 σ H1 vs us Q I1 r1 q1) he hpl
end
end L2

namespace L2
open PySem PySem.Spec PyProof.Rows

/-! ### lists of pairs as tables -/
section
variable {κ : Type} [DecidableEq κ]
def valV (kvs : List (κ × V)) (k : κ) : Option V := (kvs.find? fun kv => decide (kv.1 = k)).map (·.2)
/-- in its place, or at the end -/
def putK (kvs : List (κ × V)) (k : κ) (v : V) : List (κ × V) :=
  if (kvs.any fun kv => decide (kv.1 = k)) = true then kvs.map (fun kv => if kv.1 = k then (kv.1, v) else kv) else kvs ++ [(k, v)]
def dropK (kvs : List (κ × V)) (k : κ) : List (κ × V) := kvs.filter fun kv => decide (kv.1 ≠ k)

theorem valV_nil {k : κ} : valV ([] : List (κ × V)) k = none := rfl
theorem valV_pos {p : κ × V} {r : List (κ × V)} {k : κ} (e : p.1 = k) : valV (p :: r) k = some p.2 := by simp [valV, List.find?_cons, e]
theorem valV_neg {p : κ × V} {r : List (κ × V)} {k : κ} (e : ¬ p.1 = k) : valV (p :: r) k = valV r k := by simp [valV, List.find?_cons, e]
theorem valV_any (k : κ) : ∀ kvs : List (κ × V), (kvs.any fun kv => decide (kv.1 = k)) = (valV kvs k).isSome
  | [] => rfl
  | p :: r => by
    rw [List.any_cons]
    by_cases e : p.1 = k
    · simp only [valV_pos e, decide_eq_true e, Bool.true_or, Option.isSome_some]
    · rw [valV_neg e, decide_eq_false e, Bool.false_or]; exact valV_any k r
theorem length_putK (kvs : List (κ × V)) (k : κ) (v : V) : (putK kvs k v).length ≤ kvs.length + 1 := by
  unfold putK
  split
  · rw [List.length_map]; omega
  · rw [List.length_append, List.length_cons, List.length_nil]; omega
theorem putK_new {kvs : List (κ × V)} {k : κ} (v : V) (h : valV kvs k = none) : putK kvs k v = kvs ++ [(k, v)] := by
  unfold putK
  rw [valV_any, h]
  exact if_neg (by decide)

theorem RelO.isSome_eq {o : Option V} {u : Option Value} (r : RelO o u) : o.isSome = u.isSome := by
  cases o with
  | none => cases u with
    | none => rfl
    | some _ => exact (show False from r).elim
  | some _ => cases u with
    | none => exact (show False from r).elim
    | some _ => rfl
theorem RelO.getD {o : Option V} {u : Option Value} {d : V} {d' : Value} (r : RelO o u) (rd : RelV d d') : RelV (o.getD d) (u.getD d') := by
  cases o with
  | none => cases u with
    | none => exact rd
    | some _ => exact (show False from r).elim
  | some _ => cases u with
    | none => exact (show False from r).elim
    | some _ => exact r

/-- raw tables of the same keys -/
theorem KV.val {kvs : List (κ × V)} {vs : List (κ × Value)} (r : KV kvs vs) (k : κ) : RelO (valV kvs k) (valueAt vs k) := by
  unfold KV at r
  induction r with
  | nil => exact True.intro
  | @cons p q ps qs h t ih =>
    obtain ⟨h1, h2⟩ := h
    by_cases e : p.1 = k
    · have e' : q.1 = k := h1.symm.trans e
      have b : valueAt (q :: qs) k = some q.2 := by simp [valueAt, List.find?_cons, e']
      rw [valV_pos e, b]; exact h2
    · have e' : ¬ q.1 = k := fun z => e (h1.trans z)
      have b : valueAt (q :: qs) k = valueAt qs k := by simp [valueAt, List.find?_cons, e']
      rw [valV_neg e, b]; exact ih
theorem KV.any {kvs : List (κ × V)} {vs : List (κ × Value)} (r : KV kvs vs) (k : κ) : (kvs.any fun kv => decide (kv.1 = k)) = vs.any fun kv => decide (kv.1 = k) := by
  unfold KV at r
  induction r with
  | nil => rfl
  | cons h t ih => rw [List.any_cons, List.any_cons, ih, h.1]
theorem KV.repl {kvs : List (κ × V)} {vs : List (κ × Value)} (r : KV kvs vs) (k : κ) {y : V} {u : Value} (ry : RelV y u) :
    KV (kvs.map fun kv => if kv.1 = k then (kv.1, y) else kv) (vs.map fun kv => if kv.1 = k then (kv.1, u) else kv) := by
  unfold KV at r ⊢
  induction r with
  | nil => exact .nil
  | @cons p q ps qs h t ih =>
    rw [List.map_cons, List.map_cons]
    refine .cons ?_ ih
    obtain ⟨h1, h2⟩ := h
    by_cases e : p.1 = k
    · rw [if_pos e, if_pos (h1.symm.trans e)]; exact ⟨h1, ry⟩
    · rw [if_neg e, if_neg (fun z => e (h1.trans z))]; exact ⟨h1, h2⟩
theorem KV.put {kvs : List (κ × V)} {vs : List (κ × Value)} (r : KV kvs vs) (k : κ) {y : V} {u : Value} (ry : RelV y u) : KV (putK kvs k y) (stored vs k u) := by
  unfold putK stored
  rw [r.any k]
  by_cases e : (vs.any fun kv => decide (kv.1 = k)) = true
  · rw [if_pos e, if_pos e]; exact r.repl k ry
  · rw [if_neg e, if_neg e]; exact Paired.snoc r ⟨rfl, ry⟩
theorem KV.length {kvs : List (κ × V)} {vs : List (κ × Value)} (r : KV kvs vs) : kvs.length = vs.length := Paired.length r
end


/-! ### a tracked dict, its keys ints and texts or tuples of these -/
theorem kV_is {P : Program} {w : World} {k : Key} {u : Value} (r : RelV (kV k) u) : (mixKind P w).is k u = true := by
  cases k with
  | inl i => obtain ⟨t, e⟩ := (show ∃ t, u = Value.int i t from r); subst e; exact mixKind_int P w i t
  | inr x => obtain ⟨t, e⟩ := (show ∃ t, u = Value.str x t from r); subst e; exact mixKind_str P w x t
theorem items_are {P : Program} {w : World} : ∀ {ks : List Key} {us : List Value}, Vals (ks.map kV) us → ItemsAre (mixKind P w) ks us
  | [], _, r => by rw [List.map_nil] at r; cases r; exact .nil
  | k :: ks, _, r => by
    rw [List.map_cons] at r
    cases r with
    | cons h t => exact .cons (kV_is h) (items_are t)

/-- raw entries of a dict with tuple keys -/
abbrev KT (H : Hp) : List (List Key × V) → List (List Key × Addr × Value) → Prop := Paired fun p q => p.1 = q.1 ∧ H q.2.1 = some (.tup (p.1.map kV)) ∧ RelV p.2 q.2.2
theorem KT.val {H : Hp} {kvs : List (List Key × V)} {xs : List (List Key × Addr × Value)} (r : KT H kvs xs) (k : List Key) : RelO (valV kvs k) ((atKey xs k).map (·.2)) := by
  induction r with
  | nil => exact True.intro
  | @cons p q ps qs h t ih =>
    obtain ⟨h1, _, h2⟩ := h
    by_cases e : p.1 = k
    · have e' : q.1 = k := h1.symm.trans e
      have b : atKey (q :: qs) k = some q.2 := by simp [atKey, List.find?_cons, e']
      rw [valV_pos e, b]; exact h2
    · have e' : ¬ q.1 = k := fun z => e (h1.trans z)
      have b : atKey (q :: qs) k = atKey qs k := by simp [atKey, List.find?_cons, e']
      rw [valV_neg e, b]; exact ih
theorem KT.repl {H : Hp} {kvs : List (List Key × V)} {xs : List (List Key × Addr × Value)} (r : KT H kvs xs) (k : List Key) {y : V} {u : Value} (ry : RelV y u) :
    KT H (kvs.map fun kv => if kv.1 = k then (kv.1, y) else kv) (xs.map (putAt k u)) := by
  induction r with
  | nil => exact .nil
  | @cons p q ps qs h t ih =>
    rw [List.map_cons, List.map_cons]
    refine .cons ?_ ih
    obtain ⟨h1, h2, h3⟩ := h
    unfold putAt
    by_cases e : p.1 = k
    · rw [if_pos e, if_pos (h1.symm.trans e)]; exact ⟨h1, h2, ry⟩
    · rw [if_neg e, if_neg (fun z => e (h1.trans z))]; exact ⟨h1, h2, h3⟩
theorem KT.put {H : Hp} {kvs : List (List Key × V)} {xs : List (List Key × Addr × Value)} (r : KT H kvs xs) (k : List Key) {b : Addr} {y : V} {u : Value} (hb : H b = some (.tup (k.map kV))) (ry : RelV y u) :
    KT H (putK kvs k y) (storedH xs k b u) := by
  have e : (kvs.any fun kv => decide (kv.1 = k)) = (atKey xs k).isSome := by
    rw [valV_any, (r.val k).isSome_eq, Option.isSome_map]
  unfold putK storedH
  rw [e]
  by_cases q : (atKey xs k).isSome = true
  · rw [if_pos q, if_pos q]; exact r.repl k ry
  · rw [if_neg q, if_neg q]; exact Paired.snoc r ⟨rfl, hb, ry⟩
theorem KT.keeps {H H' : Hp} {kvs : List (List Key × V)} {xs : List (List Key × Addr × Value)} (r : KT H kvs xs) (ht : ∀ b ys, H b = some (.tup ys) → H' b = some (.tup ys)) : KT H' kvs xs :=
  Paired.mapP r fun _ _ z => ⟨z.1, ht _ _ z.2.1, z.2.2⟩

section
variable {P : Program} {w : World} {H : Hp} {h : Heap} {a : Addr}
theorem rd_of {u : HO} (ok : HOk P w H h) (e : Rd H a u) : ObjOk P w H h a u := e.ok ok
theorem dk_rd {kvs : List (Key × V)} (ok : HOk P w H h) (e : Rd H a (.dK kvs)) : kvs.length ≤ sizeLine ∧ (a == sysModules) = false ∧ ∃ vs, KV kvs vs ∧ h.DictOf (mixKind P w) a vs :=
  show ObjOk P w H h a (.dK kvs) from rd_of ok e
theorem dk_of {kvs : List (Key × V)} (ok : HOk P w H h) (e : H a = some (.dK kvs)) : kvs.length ≤ sizeLine ∧ (a == sysModules) = false ∧ ∃ vs, KV kvs vs ∧ h.DictOf (mixKind P w) a vs := dk_rd ok (.inl e)
/-- a tracked tuple of ints and texts is a key -/
theorem key_of {ks : List Key} (ok : HOk P w H h) (e : H a = some (.tup (ks.map kV))) : (tupleKind (mixKind P w)).is h ks a := by
  obtain ⟨_, its, r, o, h1, h2, n, h3⟩ := (show ObjOk P w H h a (.tup (ks.map kV)) from ok a _ e)
  exact ⟨o, its.toArray, n, h1, h2, h3, by simpa using items_are r⟩
theorem dt_rd {kvs : List (List Key × V)} (ok : HOk P w H h) (e : Rd H a (.dT kvs)) : kvs.length ≤ sizeLine ∧ (a == sysModules) = false ∧
    ∃ xs, KT H kvs xs ∧ h.DictOfH (tupleKind (mixKind P w)) a xs := by
  obtain ⟨z, y, xs, r, o, es, ep, h1, h2, h3, h4, h5⟩ := (show ObjOk P w H h a (.dT kvs) from rd_of ok e)
  refine ⟨z, y, xs, r, o, es, ep, h1, h2, h3, h4, fun x hx => ?_, h5⟩
  have all : ∀ {l : List (List Key × V)} {m : List (List Key × Addr × Value)}, KT H l m → ∀ x ∈ m, (tupleKind (mixKind P w)).is h x.1 x.2.1 := by
    intro l m q
    induction q with
    | nil => intro x hx; exact nomatch hx
    | @cons p q ps qs hq t ih =>
      intro x hx
      rcases List.mem_cons.mp hx with e | hx
      · subst e
        exact key_of ok (by rw [← hq.1]; exact hq.2.1)
      · exact ih x hx
  exact all r x hx
theorem dt_of {kvs : List (List Key × V)} (ok : HOk P w H h) (e : H a = some (.dT kvs)) : kvs.length ≤ sizeLine ∧ (a == sysModules) = false ∧
    ∃ xs, KT H kvs xs ∧ h.DictOfH (tupleKind (mixKind P w)) a xs := dt_rd ok (.inl e)
end

/-- what the dict at a holds at the key y -/
def DGet (H : Hp) (a : Addr) (y : V) (r : Option V) : Prop :=
  (∃ kvs k, Rd H a (.dK kvs) ∧ y = kV k ∧ r = valV kvs k) ∨ ∃ kvs k b, Rd H a (.dT kvs) ∧ y = .ref b ∧ H b = some (.tup (k.map kV)) ∧ r = valV kvs k
/-- the heap behind a[y] = v -/
def DPut (H : Hp) (a : Addr) (y v : V) (H' : Hp) : Prop :=
  (∃ kvs k, H a = some (.dK kvs) ∧ y = kV k ∧ kvs.length < sizeLine ∧ H' = upd H a (.dK (putK kvs k v))) ∨
  ∃ kvs k b, H a = some (.dT kvs) ∧ y = .ref b ∧ H b = some (.tup (k.map kV)) ∧ kvs.length < sizeLine ∧ H' = upd H a (.dT (putK kvs k v))
theorem DGet.k {H : Hp} {a : Addr} {kvs : List (Key × V)} {k : Key} (e : H a = some (.dK kvs)) : DGet H a (kV k) (valV kvs k) := .inl ⟨kvs, k, .inl e, rfl, rfl⟩
theorem DGet.t {H : Hp} {a b : Addr} {kvs : List (List Key × V)} {k : List Key} (e : H a = some (.dT kvs)) (eb : H b = some (.tup (k.map kV))) : DGet H a (.ref b) (valV kvs k) := .inr ⟨kvs, k, b, .inl e, rfl, eb, rfl⟩
theorem DPut.k {H : Hp} {a : Addr} {kvs : List (Key × V)} {k : Key} {v : V} (e : H a = some (.dK kvs)) (hl : kvs.length < sizeLine) : DPut H a (kV k) v (upd H a (.dK (putK kvs k v))) := .inl ⟨kvs, k, e, rfl, hl, rfl⟩
theorem DPut.t {H : Hp} {a b : Addr} {kvs : List (List Key × V)} {k : List Key} {v : V} (e : H a = some (.dT kvs)) (eb : H b = some (.tup (k.map kV))) (hl : kvs.length < sizeLine) :
    DPut H a (.ref b) v (upd H a (.dT (putK kvs k v))) := .inr ⟨kvs, k, b, e, rfl, eb, hl, rfl⟩


section
variable {X : Cx} {pins : List (Addr × Obj)} {σ : St} {H : Hp} {s : Shared} {a : Addr} {y v : V} {u r : Value} {o : Option V} {A : Around} {E : Value → Shared → Prop}

theorem Inv.big (I : Inv X pins σ H s) : sysModules < s.heap.objs.size := by
  have h : mainGlobals < s.heap.objs.size := (I.mod.glob.keeps I.bk).lt
  exact Nat.lt_trans (by decide) h

/-- d[y], there -/
theorem d_getItem {Q : Value → Shared → Prop} (hu : A.units + 1 < cLine) (I : Inv X pins σ H s) (g : DGet H a y (some v)) (ry : RelV y u) (h : ∀ w' s', Inv X pins σ H s' → RelV v w' → Q w' s') :
    wpAny (model X.prog X.w) A (getItem (.ref a) u) Q E s := by
  rcases g with ⟨kvs, k, e, ey, l⟩ | ⟨kvs, k, b, e, ey, eb, l⟩
  · subst ey
    obtain ⟨z, hd, vs, rel, dd⟩ := dk_rd I.hok e
    obtain ⟨w', hw, rw'⟩ := RelO.some_of (v := v) (o := valueAt vs k) (by rw [l]; exact rel.val k)
    exact wpAny_getItem_of (kV_is ry) dd.mapOf hw (h w' _ (I.tok _) rw')
  · subst ey
    cases (show u = Value.ref b from ry)
    obtain ⟨z, hd, xs, rel, dd⟩ := dt_rd I.hok e
    obtain ⟨w', hw, rw'⟩ := RelO.some_of (v := v) (o := (atKey xs k).map (·.2)) (by rw [l]; exact rel.val k)
    obtain ⟨p, hp, hp2⟩ := Option.map_eq_some_iff.mp hw
    refine wpAny_getItem_heap (tupleKind_room_in1 hu) (key_of I.hok eb) dd hp ?_
    rw [hp2]
    exact h w' _ (I.tok _) rw'
/-- y in d -/
theorem d_in {Q : Value → Shared → Prop} (hu : A.units + 1 < cLine) (I : Inv X pins σ H s) (g : DGet H a y o) (ry : RelV y u) (h : ∀ s', Inv X pins σ H s' → Q (.bool o.isSome) s') :
    wpAny (model X.prog X.w) A (compareOp .In u (.ref a)) Q E s := by
  rcases g with ⟨kvs, k, e, ey, l⟩ | ⟨kvs, k, b, e, ey, eb, l⟩
  · subst ey
    obtain ⟨z, hd, vs, rel, dd⟩ := dk_rd I.hok e
    refine wpAny_in_of (kV_is ry) hd dd.mapOf ?_
    rw [← (rel.val k).isSome_eq, ← l]
    exact h _ (I.tok _)
  · subst ey
    cases (show u = Value.ref b from ry)
    obtain ⟨z, hd, xs, rel, dd⟩ := dt_rd I.hok e
    refine wpAny_in_heap (tupleKind_room_in1 hu) (key_of I.hok eb) hd dd ?_
    have q := (rel.val k).isSome_eq
    rw [Option.isSome_map] at q
    rw [← q, ← l]
    exact h _ (I.tok _)
theorem d_notIn {Q : Value → Shared → Prop} (hu : A.units + 1 < cLine) (I : Inv X pins σ H s) (g : DGet H a y o) (ry : RelV y u) (h : ∀ s', Inv X pins σ H s' → Q (.bool (!o.isSome)) s') :
    wpAny (model X.prog X.w) A (compareOp .NotIn u (.ref a)) Q E s := by
  rcases g with ⟨kvs, k, e, ey, l⟩ | ⟨kvs, k, b, e, ey, eb, l⟩
  · subst ey
    obtain ⟨z, hd, vs, rel, dd⟩ := dk_rd I.hok e
    refine wpAny_notIn_of (kV_is ry) hd dd.mapOf ?_
    rw [← (rel.val k).isSome_eq, ← l]
    exact h _ (I.tok _)
  · subst ey
    cases (show u = Value.ref b from ry)
    obtain ⟨z, hd, xs, rel, dd⟩ := dt_rd I.hok e
    refine wpAny_notIn_heap (tupleKind_room_in1 hu) (key_of I.hok eb) hd dd ?_
    have q := (rel.val k).isSome_eq
    rw [Option.isSome_map] at q
    rw [← q, ← l]
    exact h _ (I.tok _)
/-- a dict's object is replaced -/
theorem d_write {h' : Heap} {t' : Nat} {ob : HO} (I : Inv X pins σ H s) (mu : Mut (H a)) (hs : Heap.SameBut a s.heap h') (he : ∃ q, h'.get? a = some q) (new : ObjOk X.prog X.w (upd H a ob) h' a ob) :
    Inv X pins σ (upd H a ob) { s with heap := h', toks := t' } :=
  I.write (x := a) (e := a) mu (.inl rfl) (fun b q hb z => (hs.2 b hb).trans z) he new
theorem dk_new {P : Program} {w : World} {H' : Hp} {h' : Heap} {kvs : List (Key × V)} {vs : List (Key × Value)} (z : kvs.length ≤ sizeLine) (hd : (a == sysModules) = false) (rel : KV kvs vs) (dd : h'.DictOf (mixKind P w) a vs) :
    ObjOk P w H' h' a (.dK kvs) := ⟨z, hd, vs, rel, dd⟩
/-- d[y] = v -/
theorem d_setItem {H' : Hp} {Q : Unit → Shared → Prop} (hu : A.units + 1 < cLine) (I : Inv X pins σ H s) (g : DPut H a y v H') (ry : RelV y u) (rv : RelV v r) (h : ∀ s', Inv X pins σ H' s' → Q () s') :
    wpAny (model X.prog X.w) A (setItem (.ref a) u r) Q E s := by
  rcases g with ⟨kvs, k, e, ey, l, eH⟩ | ⟨kvs, k, b, e, ey, eb, l, eH⟩
  · subst ey eH
    obtain ⟨z, hd, vs, rel, dd⟩ := dk_of I.hok e
    have hz : vs.length ≤ sizeLine := by rw [← rel.length]; exact z
    have hl : (putK kvs k v).length ≤ sizeLine := by have := length_putK kvs k v; omega
    refine wpAny_setItem_pairs (hsz := hz) (kV_is ry) dd fun h' dd' hs => h _ ?_
    have he : ∃ q, h'.get? a = some q := let ⟨q, _, _, hq, _⟩ := dd'; ⟨q, hq⟩
    exact d_write I (by rw [e]; exact True.intro) hs he (dk_new hl hd (rel.put k rv) dd')
  · subst ey eH
    cases (show u = Value.ref b from ry)
    obtain ⟨z, hd, xs, rel, dd⟩ := dt_of I.hok e
    have hz : xs.length ≤ sizeLine := by rw [← Paired.length rel]; exact z
    have hl : (putK kvs k v).length ≤ sizeLine := by have := length_putK kvs k v; omega
    refine wpAny_setItem_heap (hsz := hz) (tupleKind_room_in1 hu) (key_of I.hok eb) dd fun h' dd' hs => h _ ?_
    obtain ⟨q, es, ep, hq, h2, h3, h4, _, h5⟩ := dd'
    refine d_write I (by rw [e]; exact True.intro) hs ⟨q, hq⟩ ⟨hl, hd, _, (rel.put k eb rv).keeps fun c ys ec => ?_, q, es, ep, hq, h2, h3, h4, h5⟩
    rw [upd_ne (ne_of ec e (fun z => nomatch z))]
    exact ec
end

section
variable {X : Cx} {pins : List (Addr × Obj)} {σ : St} {H : Hp} {s : Shared} {a : Addr} {kvs : List (Key × V)} {k : Key} {u : Value} {A : Around} {E : Value → Shared → Prop}
end


/-! ### readings and rules -/
/-- the element of a subscription, not a slice -/
def NoSl (i : Expr) : Prop := ∀ ov iv, subscripted i false ov iv = operate [ov, iv] (getItem ov iv)
theorem subD_of {prog : Program} {w : World} {A : Around} {E : Value → Shared → Prop} {s : Shared} {env : Env} {value slice : Expr} {pos : Pos} {T id : String} {Q : Value → Shared → Prop}
    (hl : typeLookup (.type T) "__getitem__" = pure (some (.builtin id))) (hs : NoSl slice)
    (h : wpAny (model prog w) A (eval value env) (fun o s₁ => wpAny (model prog w) A (eval slice env) (fun i s₂ => s₂.TypeIs o T ∧ wpAny (model prog w) A (getItem o i) Q E s₂) E s₁) E s) :
    wpAny (model prog w) A (eval (.Subscript value slice pos) env) Q E s := by
  refine Subscript_ (wpAny_mono h (fun o s₁ h₁ => wpAny_mono h₁ (fun i s₂ h₂ => ?_) fun _ _ x => x) fun _ _ x => x)
  obtain ⟨hT, h₂⟩ := h₂
  unfold subscriptTail
  refine wpAny_bind ?_
  rw [getitemInPython_of_ne hT.not_modules]
  refine wpAny_bind (wpAny_specialOf hT hl ?_)
  have fin : wpAny (model prog w) A (subscripted slice false o i) (fun r s₃ => wpAny (model prog w) A (letTemporaryGo value o r >>= fun _ => pure r) Q E s₃) E s₂ := by
    rw [hs o i]
    exact wpAny_operating (wpAny_mono h₂ (fun r s₃ h₃ => wpAny_bind (wpAny_letTemporaryGo (wpAny_pure h₃))) fun _ _ x => x)
  first
    | exact wpAny_pure (wpAny_bind fin)
    | exact wpAny_bind (wpAny_pure (wpAny_bind fin))
    | exact wpAny_bind fin

theorem dict_typeIs {X : Cx} {pins : List (Addr × Obj)} {σ : St} {H : Hp} {s : Shared} {a : Addr} {y : V} {o : Option V} (I : Inv X pins σ H s) (g : DGet H a y o) : s.TypeIs (.ref a) "dict" := by
  rcases g with ⟨kvs, k, e, _, _⟩ | ⟨kvs, k, b, e, _, _, _⟩
  · obtain ⟨_, _, vs, _, dd⟩ := dk_rd I.hok e
    exact dd.typeIs
  · obtain ⟨_, _, xs, _, dd⟩ := dt_rd I.hok e
    exact dd.typeIs

/-- d[y] -/
def tDGet (td ty : TE) : TE := fun σ H Q => td σ H fun x H1 => ty σ H1 fun y H2 => ∃ a v, x = .ref a ∧ DGet H2 a y (some v) ∧ Q v H2
/-- y in d, y not in d -/
def tDIn (ty td : TE) : TE := fun σ H Q => ty σ H fun y H1 => td σ H1 fun x H2 => ∃ a o, x = .ref a ∧ DGet H2 a y o ∧ Q (.bl o.isSome) H2
def tDNotIn (ty td : TE) : TE := fun σ H Q => ty σ H fun y H1 => td σ H1 fun x H2 => ∃ a o, x = .ref a ∧ DGet H2 a y o ∧ Q (.bl (!o.isSome)) H2
/-- d[y] = v -/
def sDPut (td ty tv : TE) : TS := fun D σ H => tv σ H fun v H1 => td σ H1 fun x H2 => ty σ H2 fun y H3 => ∃ a H4, x = .ref a ∧ DPut H3 a y v H4 ∧ D.nx σ H4
/-- d[y] op= v -/
def sDAug (td ty tv : TE) (rd : V → V → Hp → VK → Prop) : TS := fun D σ H => td σ H fun x H1 => ty σ H1 fun y H2 => ∃ a v, x = .ref a ∧ DGet H2 a y (some v) ∧
  tv σ H2 fun y2 H3 => rd v y2 H3 fun z H4 => ∃ H5, DPut H4 a y z H5 ∧ D.nx σ H5
/-- del d[y] -/
def sDDel (td ty : TE) : TS := fun D σ H => td σ H fun x H1 => ty σ H1 fun y H2 => ∃ a kvs k, x = .ref a ∧ H2 a = some (.dK kvs) ∧ y = kV k ∧ (valV kvs k).isSome = true ∧ D.nx σ (upd H2 a (.dK (dropK kvs k)))

section
variable {X : Cx} {o i e value : Expr} {pos pos' tpos : Pos} {td ty tv : TE}
theorem pe_dget (hu : X.A.units + 1 < cLine) (ho : PE X o td) (hi : PE X i ty) (hs : NoSl i) : PE X (.Subscript o i pos) (tDGet td ty) := by
  intro pins s σ H Q I h
  refine subD_of PySem.F.slot_dict_getitem.lookup hs (thn (ho pins s σ H _ I h) fun u s1 ⟨x, H1, I1, rx, q1⟩ => thn (hi pins s1 σ H1 _ I1 q1) fun iv s2 ⟨y, H2, I2, ry, a, v, ex, g, q2⟩ => ?_)
  subst ex
  obtain rfl : u = Value.ref a := rx
  exact ⟨dict_typeIs I2 g, d_getItem hu I2 g ry fun w' s3 I3 rw' => ⟨v, H2, I3, rw', q2⟩⟩
theorem pc_din (hu : X.A.units + 1 < cLine) (hi : PE X i ty) (ho : PE X o td) : PC X .In i o (tDIn ty td) := by
  intro pins s σ H Q I h
  refine thn (hi pins s σ H _ I h) fun iv s1 ⟨y, H1, I1, ry, q1⟩ => thn (ho pins s1 σ H1 _ I1 q1) fun u s2 ⟨x, H2, I2, rx, a, ov, ex, g, q2⟩ => ?_
  subst ex
  obtain rfl : u = Value.ref a := rx
  exact d_in hu I2 g ry fun s3 I3 => ⟨.bl ov.isSome, H2, I3, rfl, q2⟩
theorem pc_dnotin (hu : X.A.units + 1 < cLine) (hi : PE X i ty) (ho : PE X o td) : PC X .NotIn i o (tDNotIn ty td) := by
  intro pins s σ H Q I h
  refine thn (hi pins s σ H _ I h) fun iv s1 ⟨y, H1, I1, ry, q1⟩ => thn (ho pins s1 σ H1 _ I1 q1) fun u s2 ⟨x, H2, I2, rx, a, ov, ex, g, q2⟩ => ?_
  subst ex
  obtain rfl : u = Value.ref a := rx
  exact d_notIn hu I2 g ry fun s3 I3 => ⟨.bl (!ov.isSome), H2, I3, rfl, q2⟩
theorem ps_dput (hu : X.A.units + 1 < cLine) (ho : PE X o td) (hi : PE X i ty) (hv : PE X value tv) (hs : swapsWith value (some (.Subscript o i pos')) pos.line X.env = pure false) :
    PS X (.Assign [.Subscript o i pos'] value pos) (sDPut td ty tv) := by
  intro pins s σ H D I h
  refine wpAny_Assign_Subscript (thn (hv pins s σ H _ I h) fun r s1 ⟨v, H1, I1, rv, q1⟩ => thn (ho pins s1 σ H1 _ I1 q1) fun u s2 ⟨x, H2, I2, rx, q2⟩ => thn (hi pins s2 σ H2 _ I2 q2) fun iv s3 ⟨y, H3, I3, ry, a, H4, ex, g, q3⟩ => ?_) hs
  subst ex
  obtain rfl : u = Value.ref a := rx
  exact d_setItem hu I3 g ry rv fun s4 I4 => ⟨σ, H4, I4, q3⟩
theorem ps_daug {op : Operator} {rd : V → V → Hp → VK → Prop} (hu : X.A.units + 1 < cLine) (ho : PE X o td) (hi : PE X i ty) (hv : PE X value tv) (hop : InOp X op rd)
    (ha : ∀ ov iv new, augStore i ov iv new = (do holding [new, ov, iv] (setItem ov iv new); release [new, ov, iv] []; pure .next)) : PS X (.AugAssign (.Subscript o i tpos) op value pos) (sDAug td ty tv rd) := by
  intro pins s σ H D I h
  refine wpAny_AugAssign_SubscriptAny (thn (ho pins s σ H _ I h) fun u s1 ⟨x, H1, I1, rx, q1⟩ => thn (hi pins s1 σ H1 _ I1 q1) fun iv s2 ⟨y, H2, I2, ry, a, v, ex, g, q2⟩ => ?_) ha
  subst ex
  obtain rfl : u = Value.ref a := rx
  refine d_getItem hu I2 g ry fun w' s3 I3 rw' => thn (hv pins s3 σ H2 _ I3 q2) fun w2 s4 ⟨y2, H3, I4, ry2, q3⟩ => thn (hop pins s4 σ H3 v y2 w' w2 _ I4 rw' ry2 q3) fun w3 s5 ⟨z, H4, I5, rz, H5, g5, q4⟩ => ?_
  exact d_setItem hu I5 g5 ry rz fun s6 I6 => ⟨σ, H5, I6, q4⟩
end


/-! ### displays -/
theorem dk_empty {P : Program} {w : World} {H : Hp} (h : Heap) (hb : sysModules < h.objs.size) : ObjOk P w H (h.push { cls := .type "dict", data := .dict #[] }) h.objs.size (.dK []) :=
  ⟨Nat.zero_le _, beq_eq_false_iff_ne.mpr (Ne.symm (Nat.ne_of_lt hb)), [], .nil, Heap.DictOf.new h⟩
theorem dt_empty {P : Program} {w : World} {H : Hp} (h : Heap) (hb : sysModules < h.objs.size) : ObjOk P w H (h.push { cls := .type "dict", data := .dict #[] }) h.objs.size (.dT []) :=
  ⟨Nat.zero_le _, beq_eq_false_iff_ne.mpr (Ne.symm (Nat.ne_of_lt hb)), [], .nil, _, #[], 0, Heap.get?_push_size _ rfl, ⟨rfl, rfl, rfl⟩, rfl, rfl, List.nodup_nil⟩
/-- {}, to be a dict of the kind that is wanted -/
def tDNewK : TE := fun _ H Q => ∀ p, H p = none → Q (.ref p) (upd H p (.dK []))
def tDNewT : TE := fun _ H Q => ∀ p, H p = none → Q (.ref p) (upd H p (.dT []))
section
variable {X : Cx} {pos : Pos}
theorem pe_dnewT : PE X (.Dict [] [] pos) tDNewT := fun pins s σ H Q I h =>
  wpAny_Dict_empty ⟨.ref s.heap.objs.size, _, I.laid (a := s.heap.objs.size) (o := .dT []) (t' := s.toks) (fun _ _ q => Heap.get?_push_of_some _ q) (Nat.le_refl _) (dt_empty s.heap I.big), rfl, h _ (I.hok.fresh (Nat.le_refl _))⟩
end

/-- the pairs of a display, from the left -/
def tPairs : List (TE × TE) → St → Hp → (List (V × V) → Hp → Prop) → Prop
  | [], _, H, Q => Q [] H
  | (tk, tv) :: r, σ, H, Q => tk σ H fun x H1 => tv σ H1 fun y H2 => tPairs r σ H2 fun ps H3 => Q ((x, y) :: ps) H3
abbrev VV : List (V × V) → List (Value × Value) → Prop := Paired fun p q => RelV p.1 q.1 ∧ RelV p.2 q.2
def PPs (X : Cx) (pos : Pos) (keys : List (Option Expr)) (values : List Expr) (trs : List (TE × TE)) : Prop :=
  ∀ (pins : List (Addr × Obj)) (s : Shared) (σ : St) (H : Hp) (Q : List (V × V) → Hp → Prop), Inv X pins σ H s → tPairs trs σ H Q →
    wpAny (model X.prog X.w) X.A (evalPairs (pairTrees keys values X.env pos)) (fun vs s' => ∃ ps H', Inv X pins σ H' s' ∧ VV ps vs ∧ Q ps H') X.xe s
theorem pps_nil {X : Cx} {pos : Pos} : PPs X pos [] [] [] := fun pins s σ H Q I h => pairTrees_nil_walk ⟨[], H, I, .nil, h⟩
theorem pps_cons {X : Cx} {pos : Pos} {k v : Expr} {ks : List (Option Expr)} {vs : List Expr} {tk tv : TE} {trs : List (TE × TE)} (hk : PE X k tk) (hv : PE X v tv) (hr : PPs X pos ks vs trs) :
    PPs X pos (some k :: ks) (v :: vs) ((tk, tv) :: trs) := fun pins s σ H Q I h =>
  pairTrees_cons_walk (thn (hk pins s σ H _ I h) fun u s1 ⟨x, H1, I1, rx, q1⟩ => thn (hv pins s1 σ H1 _ I1 q1) fun w2 s2 ⟨y, H2, I2, ry, q2⟩ =>
    thn (hr pins s2 σ H2 _ I2 q2) fun ws s3 ⟨ps, H3, I3, rel, q3⟩ => ⟨(x, y) :: ps, H3, I3, .cons ⟨rx, ry⟩ rel, q3⟩)

def mergeK (kvs more : List (Key × V)) : List (Key × V) := more.foldl (fun acc kv => putK acc kv.1 kv.2) kvs
theorem KV.merge : ∀ {more : List (Key × V)} {rs : List (Key × Value)} {kvs : List (Key × V)} {vs : List (Key × Value)}, KV more rs → KV kvs vs → KV (mergeK kvs more) (merged vs rs) := by
  intro more rs kvs vs r
  unfold KV at r
  induction r generalizing kvs vs with
  | nil => intro q; exact q
  | @cons p q ps qs h t ih =>
    intro r0
    have e : KV (putK kvs p.1 p.2) (stored vs q.1 q.2) := by
      have := r0.put p.1 h.2
      rw [← h.1]; exact this
    exact ih e
theorem length_mergeK : ∀ (more kvs : List (Key × V)), (mergeK kvs more).length ≤ kvs.length + more.length
  | [], kvs => by show kvs.length ≤ kvs.length + 0; omega
  | p :: r, kvs => by
    have h1 := length_mergeK r (putK kvs p.1 p.2)
    have h2 := length_putK kvs p.1 p.2
    show (mergeK (putK kvs p.1 p.2) r).length ≤ _
    rw [List.length_cons]; omega
theorem carries_of {P : Program} {w : World} : ∀ {kvs : List (Key × V)} {ws : List (Value × Value)}, VV (kvs.map fun kv => (kV kv.1, kv.2)) ws → ∃ rs, Carries (mixKind P w) ws rs ∧ KV kvs rs
  | [], _, r => by rw [List.map_nil] at r; cases r; exact ⟨[], True.intro, .nil⟩
  | p :: kvs, _, r => by
    rw [List.map_cons] at r
    cases r with
    | @cons a b as bs h t =>
      obtain ⟨rs, c, q⟩ := carries_of (P := P) (w := w) t
      obtain ⟨b1, b2⟩ := b
      exact ⟨(p.1, b2) :: rs, ⟨kV_is h.1, rfl, c⟩, .cons ⟨rfl, h.2⟩ q⟩
/-- {k: v, ..} with keys ints and texts; the new dict stands empty while the pairs are made -/
def tDisp (trs : List (TE × TE)) : TE := fun σ H Q => ∀ p, H p = none → tPairs trs σ (upd H p (.dK [])) fun ps H2 => H2 p = some (.dK []) ∧ ∃ kvs : List (Key × V), ps = kvs.map (fun kv => (kV kv.1, kv.2)) ∧ kvs.length ≤ 15 ∧ Q (.ref p) (upd H2 p (.dK (mergeK [] kvs)))
theorem pe_disp {X : Cx} {pos : Pos} {keys : List (Option Expr)} {values : List Expr} {trs : List (TE × TE)} (h : PPs X pos keys values trs) (hall : keys.all (·.isSome) = true) (hl : keys.length = values.length) (h0 : keys ≠ [])
    (h15 : keys.length ≤ 15) : PE X (.Dict keys values pos) (tDisp trs) := by
  intro pins s σ H Q I q
  have hn := I.hok.fresh (Nat.le_refl s.heap.objs.size)
  have I1 := I.laid (a := s.heap.objs.size) (o := .dK []) (h' := s.heap.push { cls := .type "dict", data := .dict #[] }) (t' := s.toks) (fun _ _ q => Heap.get?_push_of_some _ q) (Nat.le_refl _) (dk_empty s.heap I.big)
  refine wpAny_Dict_walk (knd := mixKind X.prog X.w) hall hl h0 h15 (thn (h pins _ σ _ _ I1 (q _ hn)) fun ws s2 ⟨ps, H2, I2, rel, e, kvs, ep, lk, q2⟩ => ?_)
  subst ep
  obtain ⟨rs, c, rk⟩ := carries_of (P := X.prog) (w := X.w) rel
  obtain ⟨z, hd, vs0, r0, dd⟩ := dk_of I2.hok e
  cases r0
  refine ⟨rs, c, dd, fun h' dd' hs => ⟨.ref s.heap.objs.size, _, ?_, rfl, q2⟩⟩
  have hz : (mergeK [] kvs).length ≤ sizeLine := by
    have h1 := length_mergeK kvs []
    rw [List.length_nil] at h1
    rw [sizeLine_eq]; omega
  have he : ∃ q, h'.get? s.heap.objs.size = some q := let ⟨q, _, _, hq, _⟩ := dd'; ⟨q, hq⟩
  exact d_write I2 (by rw [e]; exact True.intro) hs he (dk_new hz hd (rk.merge .nil) dd')


/-! ### methods -/
/-- a method call o.m(e) of a built-in, with one argument: what must be seen of the text -/
structure M1 (X : Cx) (o : Expr) (m : Str) (apos : Pos) (e : Expr) (cpos : Pos) : Prop where
  base : attributeBase o m X.env (eval o X.env) = eval o X.env
  few : ((backTo cpos (starEach [e] X.env)).all (fun x => !x.1) && (backToKw cpos (keywordEach [] X.env)).all (fun x => x.1.isSome)
    && decide (([e] : List Expr).length + ([] : List Keyword).length + (if ([] : List Keyword).isEmpty then 0 else 1) < 30)) = true
  line : (apos.endLine == cpos.line) = true
  trees : backTo cpos (starEach [e] X.env) = [(false, eval e X.env)]
structure M2 (X : Cx) (o : Expr) (m : Str) (apos : Pos) (e f : Expr) (cpos : Pos) : Prop where
  base : attributeBase o m X.env (eval o X.env) = eval o X.env
  few : ((backTo cpos (starEach [e, f] X.env)).all (fun x => !x.1) && (backToKw cpos (keywordEach [] X.env)).all (fun x => x.1.isSome)
    && decide (([e, f] : List Expr).length + ([] : List Keyword).length + (if ([] : List Keyword).isEmpty then 0 else 1) < 30)) = true
  line : (apos.endLine == cpos.line) = true
  trees : backTo cpos (starEach [e, f] X.env) = [(false, eval e X.env), (false, eval f X.env)]

/-- a is a dict, whatever its keys -/
def IsD (H : Hp) (a : Addr) : Prop := (∃ kvs, Rd H a (.dK kvs)) ∨ ∃ kvs, Rd H a (.dT kvs)
theorem isD_at {X : Cx} {pins : List (Addr × Obj)} {σ : St} {H : Hp} {s : Shared} {a : Addr} (I : Inv X pins σ H s) (d : IsD H a) :
    s.TypeIs (.ref a) "dict" ∧ (∀ b, Value.ref a = .ref b → ∃ ob, s.heap.get? b = some ob ∧ ob.dict = none) ∧ (a == sysModules) = false := by
  rcases d with ⟨kvs, e⟩ | ⟨kvs, e⟩
  · obtain ⟨_, hd, vs, _, dd⟩ := dk_rd I.hok e
    refine ⟨dd.typeIs, fun b q => ?_, hd⟩
    cases q
    obtain ⟨ob, _, _, h1, h2, _⟩ := dd
    exact ⟨ob, h1, h2.2.1⟩
  · obtain ⟨_, hd, xs, _, dd⟩ := dt_rd I.hok e
    refine ⟨dd.typeIs, fun b q => ?_, hd⟩
    cases q
    obtain ⟨ob, _, _, h1, h2, _⟩ := dd
    exact ⟨ob, h1, h2.2.1⟩

section
variable {X : Cx} {pins : List (Addr × Obj)} {σ : St} {H : Hp} {s : Shared} {a : Addr} {y d : V} {u r : Value} {o : Option V} {A : Around} {E : Value → Shared → Prop}
/-- d.get(y, x) -/
theorem d_get2 {Q : Value → Shared → Prop} (hu : A.units + 1 < cLine) (I : Inv X pins σ H s) (g : DGet H a y o) (ry : RelV y u) (rd : RelV d r) (h : ∀ w' s', Inv X pins σ H s' → RelV (o.getD d) w' → Q w' s') :
    wpAny (model X.prog X.w) A (call (.builtin "dict.get") [.ref a, u, r]) Q E s := by
  rcases g with ⟨kvs, k, e, ey, l⟩ | ⟨kvs, k, b, e, ey, eb, l⟩
  · subst ey
    obtain ⟨z, hd, vs, rel, dd⟩ := dk_rd I.hok e
    refine call_meetsIn PySem.F.slot_dict_get dd.typeIs PySem.F.entry_dict_get (PySem.F.args_dict_get_3 _ _ _) (meets_dict_get_default (mixKind X.prog X.w) a (kV_is ry) hd r) ⟨_, dd.mapOf, h _ _ (I.tok _) ?_⟩
    rw [l]
    exact (rel.val k).getD rd
  · subst ey
    cases (show u = Value.ref b from ry)
    obtain ⟨z, hd, xs, rel, dd⟩ := dt_rd I.hok e
    refine call_meetsIn PySem.F.slot_dict_get dd.typeIs PySem.F.entry_dict_get (PySem.F.args_dict_get_3 _ _ _) (meetsH_dict_get_default (tupleKind (mixKind X.prog X.w)) a b hd r) ⟨tupleKind_room_in1 hu, k, xs, key_of I.hok eb, dd, h _ _ (I.tok _) ?_⟩
    rw [l]
    exact (rel.val k).getD rd
end

def tDGet1 (td ty : TE) : TE := fun σ H Q => td σ H fun x H1 => ∃ a, x = .ref a ∧ IsD H1 a ∧ ty σ H1 fun y H2 => ∃ o, DGet H2 a y o ∧ Q (o.getD .non) H2
def tDGet2 (td ty tx : TE) : TE := fun σ H Q => td σ H fun x H1 => ∃ a, x = .ref a ∧ IsD H1 a ∧ ty σ H1 fun y H2 => tx σ H2 fun z H3 => ∃ o, DGet H3 a y o ∧ Q (o.getD z) H3
/-- d.pop(k): there; d.pop(k, x): there or not -/
def tDPop1 (td ty : TE) : TE := fun σ H Q => td σ H fun x H1 => ∃ a, x = .ref a ∧ IsD H1 a ∧ ty σ H1 fun y H2 => ∃ kvs k v, H2 a = some (.dK kvs) ∧ y = kV k ∧ valV kvs k = some v ∧ Q v (upd H2 a (.dK (dropK kvs k)))
def tDPop2 (td ty tx : TE) : TE := fun σ H Q => td σ H fun x H1 => ∃ a, x = .ref a ∧ IsD H1 a ∧ ty σ H1 fun y H2 => tx σ H2 fun z H3 => ∃ kvs k, H3 a = some (.dK kvs) ∧ y = kV k ∧
  (∀ v, valV kvs k = some v → Q v (upd H3 a (.dK (dropK kvs k)))) ∧ (valV kvs k = none → Q z H3)
section
variable {X : Cx} {o e f : Expr} {apos cpos : Pos} {td ty tx : TE}
theorem pe_dget2 (hu : X.A.units + 1 < cLine) (ho : PE X o td) (he : PE X e ty) (hf : PE X f tx) (m : M2 X o "get" apos e f cpos) : PE X (.Call (.Attribute o "get" apos) [e, f] [] cpos) (tDGet2 td ty tx) := by
  intro pins s σ H Q I h
  refine wpAny_Call_method m.base m.few m.line PySem.F.plainAttrs_dict PySem.F.slot_dict_get PySem.F.type_dict_get (thn (ho pins s σ H _ I h) fun u s1 ⟨x, H1, I1, rx, a, ex, d, q1⟩ => ?_)
  subst ex
  obtain rfl : u = Value.ref a := rx
  obtain ⟨t1, t2, _⟩ := isD_at I1 d
  refine ⟨t1, t2, ?_⟩
  rw [m.trees]
  refine Calls.callWith_builtin rfl (Calls.evalArgs_plain (Calls.spliced_cons (thn (he pins s1 σ H1 _ I1 q1) fun iv s2 ⟨y, H2, I2, ry, q2⟩ =>
    Calls.spliced_cons (thn (hf pins s2 σ H2 _ I2 q2) fun fv s3 ⟨z, H3, I3, rz, ov, g, q3⟩ => Calls.spliced_nil ?_))))
  exact d_get2 hu I3 g ry rz fun w' s4 I4 rw' => ⟨_, H3, I4, rw', q3⟩
end

/-! ### dict(d): a copy -/
section
variable {X : Cx} {pins : List (Addr × Obj)} {σ : St} {H : Hp} {s : Shared} {a : Addr} {kvs : List (Key × V)} {A : Around} {E : Value → Shared → Prop}
end


section
variable {X : Cx} {pins : List (Addr × Obj)} {σ : St} {H : Hp} {s : Shared} {a : Addr} {y : V} {u : Value} {A : Around} {E : Value → Shared → Prop}
end
end L2


namespace HT
open PySem PyProof.Rows

/-- t < u of tuples of ints -/
def lexLt : List Int → List Int → Bool
  | [], [] => false
  | [], _ :: _ => true
  | _ :: _, [] => false
  | x :: xs, y :: ys => if x = y then lexLt xs ys else decide (x < y)
theorem lexLt_cons (x y : Int) (xs ys : List Int) : lexLt (x :: xs) (y :: ys) = if x = y then lexLt xs ys else decide (x < y) := rfl
theorem lexLt_nil_nil : lexLt [] [] = false := rfl
theorem lexLt_nil_cons (y : Int) (ys : List Int) : lexLt [] (y :: ys) = true := rfl
theorem lexLt_cons_nil (x : Int) (xs : List Int) : lexLt (x :: xs) [] = false := rfl

theorem eqAt_int (A : Around) (s : Shared) (a : Int) (t : Tok) (c : Int) (u : Tok) : ∃ e, SeqAt.EqAt A s (.int a t) (.int c u) e ∧ (e = true ↔ a = c) :=
  ⟨(a == c), SeqAt.EqAt.int_int a t c u, by simp⟩
theorem rcLt_int (A : Around) (s : Shared) (a : Int) (t : Tok) (c : Int) (u : Tok) (prog : Program) (w : World) (E : Value → Shared → Prop) (Q : Value → Shared → Prop) (h : Q (.bool (decide (a < c))) s) :
    wpAny (model prog w) A (richCompare .Lt (.int a t) (.int c u)) Q E s :=
  (PyProof.Rows.lt_int h : wpAny (model prog w) A (compareOp .Lt (.int a t) (.int c u)) Q E s)

section
open PySem.SeqAt
open PySem.AutoSeq1 (wpAny_loadPart')
open PySem.MeetsSeq PySem.MeetsSeq2 PySem.MeetsSeq3

theorem tuple_lt_ints (l b : Addr) (items items2 : Array Value) (n n2 : Nat) (dd dd2 : Option Addr) (sl sl2 : Array (Option Value)) (ns ms : List Int) (hi : IntsAre items.toList ns) (hj : IntsAre items2.toList ms) :
    Meets (Builtin.«tuple.__lt__» ⟨[.ref l, .ref b], []⟩)
      (fun _ R s => s.heap.get? l = some { cls := .type "tuple", dict := dd, data := .seq items n, slots := sl } ∧ s.heap.get? b = some { cls := .type "tuple", dict := dd2, data := .seq items2 n2, slots := sl2 } ∧
        R (.ok (.ret (.bool (lexLt ns ms)))) s) :=
  .of_wp fun prog w A R s h => by
    obtain ⟨hp, g, d, tk, os⟩ := s; obtain ⟨hl, hb, h⟩ := h
    have f2 := AutoSeq1.sub_tuple_tuple
    have z1 : items.size = ns.length := by rw [← hi.length]; simp
    have z2 : items2.size = ms.length := by rw [← hj.length]; simp
    wp_walk using wpAny_loadPart' hl, wpAny_loadPart' hb, wpAny_forIn_list _ (fun rest b s' => b.1 = none ∧ s' = ⟨hp, g, d, tk, os⟩ ∧ ∃ (vs ws : List Value) (ns' ms' : List Int), rest = vs.zip ws ∧
      IntsAre vs ns' ∧ IntsAre ws ms' ∧ ns'.length + items2.size = ms'.length + items.size ∧ R (.ok (.ret (.bool (lexLt ns' ms')))) ⟨hp, g, d, tk, os⟩) _
    case turn =>
      rintro ⟨y, x⟩ rest b s' ⟨hb', rfl, vs, ws, ns', ms', hz, hvi, hwi, hlen, hR⟩
      cases hvi with
      | nil => rw [List.zip_nil_left] at hz; cases hz
      | cons a t hvi' =>
        cases hwi with
        | nil => rw [List.zip_nil_right] at hz; cases hz
        | cons c u hwi' =>
          rw [List.zip_cons_cons] at hz
          injection hz with hyx hrest
          injection hyx with hy hx
          subst hy hx
          rw [lexLt_cons] at hR
          simp only [List.length_cons] at hlen
          obtain ⟨e, he, hiff⟩ := eqAt_int A.in1 ⟨hp, g, d, tk, os⟩ a t c u
          refine wpAny_bind (he prog w _ _ ?_)
          cases e with
          | true =>
            rw [if_pos (hiff.mp rfl)] at hR
            wp_walk
            exact ⟨rfl, rfl, _, _, _, _, hrest, hvi', hwi', by omega, hR⟩
          | false =>
            rw [if_neg (fun q => absurd (hiff.mpr q) Bool.false_ne_true)] at hR
            have hri := rcLt_int A.in1 ⟨hp, g, d, tk, os⟩ a t c u prog w
            wp_walk using hri
            exact ⟨_, rfl, by simpa using hR⟩
    case fin =>
      rintro ⟨b1, b2⟩ s' ⟨hb', rfl, vs, ws, ns', ms', hz, hvi, hwi, hlen, hR⟩
      simp only at hb'
      subst hb'
      have hv : lexLt ns' ms' = decide (items.size < items2.size) := by
        cases hvi with
        | nil =>
          cases hwi with
          | nil =>
            simp only [List.length_nil] at hlen
            rw [lexLt_nil_nil]
            exact (decide_eq_false (by omega)).symm
          | cons c u hw =>
            simp only [List.length_nil, List.length_cons] at hlen
            rw [lexLt_nil_cons]
            exact (decide_eq_true (by omega)).symm
        | cons a t hv =>
          cases hwi with
          | nil =>
            simp only [List.length_nil, List.length_cons] at hlen
            rw [lexLt_cons_nil]
            exact (decide_eq_false (by omega)).symm
          | cons c u hw =>
            rw [List.zip_cons_cons] at hz
            cases hz
      rw [hv] at hR
      wp_walk
      exact ⟨_, rfl, by simpa [Builtin.Tuple.tupleCompareSizes] using hR⟩
    case h =>
      exact ⟨rfl, rfl, items.toList, items2.toList, ns, ms, rfl, hi, hj, by omega, h⟩
end

section
variable {prog : Program} {w : World} {A : Around} {E : Value → Shared → Prop} {s : Shared}

theorem lt_tupInts {l b : Addr} {items items2 : Array Value} {ns ms : List Int} {Q : Value → Shared → Prop} (hl : IsTup s.heap l items) (hb : IsTup s.heap b items2) (hi : IntsAre items.toList ns) (hj : IntsAre items2.toList ms)
    (hu : A.units < cLine) (h : Q (.bool (lexLt ns ms)) s) : wpAny (model prog w) A (compareOp .Lt (.ref l) (.ref b)) Q E s := by
  obtain ⟨⟨cls, dd, data, sl⟩, ho, hc, n, hd⟩ := id hl
  obtain ⟨⟨cls2, dd2, data2, sl2⟩, ho2, hc2, n2, hd2⟩ := id hb
  simp only at hc hd hc2 hd2
  subst hc hd hc2 hd2
  exact richCompare_meets_room (op := .Lt) ⟨_, ho, rfl⟩ ⟨_, ho2, rfl⟩ PySem.F.slot_tuple_lt PySem.F.entry_tuple_lt (PySem.F.args_tuple_lt_2 _ _) (tuple_lt_ints l b items items2 n n2 dd dd2 sl sl2 ns ms hi hj)
    ⟨ho, ho2, show Value.bool (lexLt ns ms) ≠ Value.notImplemented ∧ Q (.bool (lexLt ns ms)) s from ⟨(fun x => nomatch x), h⟩⟩ hu


/-! ### t[a:b], not the whole -/
/-- a slice's bound as a place among n (d where it is left out) -/
def sIx (n d : Nat) : Option Int → Nat
  | none => d
  | some v => if v < 0 then (v + (n : Int)).toNat else min v.toNat n
theorem sIx_none (n d : Nat) : sIx n d none = d := rfl
theorem sIx_nat (n d k : Nat) : sIx n d (some (k : Int)) = min k n := by
  show (if (k : Int) < 0 then ((k : Int) + (n : Int)).toNat else min (k : Int).toNat n) = min k n
  rw [if_neg (by omega), Int.toNat_natCast]

end
end HT

namespace L2
open PySem PySem.Spec PyProof.Rows

/-! ### the parts of a slice -/
abbrev TO := St → Hp → (Option Int → Hp → Prop) → Prop
/-- a slice's part (left out, or an int) -/
def PO (X : Cx) (e : Option Expr) (t : TO) : Prop :=
  ∀ (pins : List (Addr × Obj)) (s : Shared) (σ : St) (H : Hp) (Q : Option Int → Hp → Prop), Inv X pins σ H s → t σ H Q →
    wpAny (model X.prog X.w) X.A (evalPart e X.env) (fun u s' => ∃ o H', Inv X pins σ H' s' ∧ IsPart u o ∧ Q o H') X.xe s
def tNoPart : TO := fun _ H Q => Q none H
def tPart (t : TE) : TO := fun σ H Q => t σ H fun x H1 => ∃ i, x = .int i ∧ Q (some i) H1

theorem intsAre_of {ns : List Int} : ∀ {us : List Value}, Vals (ns.map V.int) us → IntsAre us ns := by
  induction ns with
  | nil => intro us r; rw [List.map_nil] at r; cases r; exact .nil
  | cons n ns ih =>
    intro us r
    rw [List.map_cons] at r
    cases r with
    | cons r1 r2 =>
      obtain ⟨t, e⟩ := r1
      subst e
      exact .cons n t (ih r2)

section
variable {X : Cx} {e : Expr} {te : TE} {lo hi : Option Expr} {tl th : TO} {pos p2 : Pos}

theorem po_none : PO X none tNoPart := by
  intro pins s σ H Q I h
  rw [evalPart_none]
  exact wpAny_pure ⟨none, H, I, .none, h⟩
theorem po_some (h : PE X e te) : PO X (some e) (tPart te) := by
  intro pins s σ H Q I hw
  rw [evalPart_some]
  refine thn (h pins s σ H _ I hw) fun u s1 ⟨x, H1, I1, r1, q1⟩ => ?_
  obtain ⟨i, rfl, q⟩ := q1
  obtain ⟨t, rfl⟩ := r1
  exact ⟨some i, H1, I1, .int i t, q⟩

/-- what a slice of a value is, by values: the slice object stands at sl -/
def SlR (X : Cx) (r : V → Option Int → Option Int → Hp → VK → Prop) : Prop :=
  ∀ (pins : List (Addr × Obj)) (s : Shared) (σ : St) (H : Hp) (x : V) (v vl vu : Value) (lo hi : Option Int) (sl : Addr) (Q : VK), Inv X pins σ H s → RelV x v → s.heap.IsSliceOf sl vl vu .none → IsPart vl lo → IsPart vu hi → r x lo hi H Q →
    ∃ T id, typeLookup (.type T) "__getitem__" = pure (some (.builtin id)) ∧ s.TypeIs v T ∧ wpAny (model X.prog X.w) X.A (getItem v (.ref sl)) (EP X pins σ Q) X.xe s
def tSl (r : V → Option Int → Option Int → Hp → VK → Prop) (te : TE) (tl th : TO) : TE := fun σ H Q => te σ H fun x H1 => tl σ H1 fun l H2 => th σ H2 fun u H3 => r x l u H3 Q
/-- a[lo:hi], any a -/
theorem pe_slice {r : V → Option Int → Option Int → Hp → VK → Prop} (hr : SlR X r) (he : PE X e te) (hl : PO X lo tl) (hu : PO X hi th) : PE X (.Subscript e (.Slice lo hi none p2) pos) (tSl r te tl th) := by
  intro pins s σ H Q I h
  refine Subscript_ (thn (he pins s σ H _ I h) fun v s1 ⟨x, H1, I1, r1, q1⟩ => ?_)
  refine wpAny_Slice (thn (hl pins s1 σ H1 _ I1 q1) fun vl s2 ⟨l, H2, I2, pl, q2⟩ => thn (hu pins s2 σ H2 _ I2 q2) fun vu s3 ⟨u, H3, I3, pu, q3⟩ => ?_)
  rw [evalPart_none]
  refine wpAny_pure ?_
  have I4 : Inv X pins σ H3 { s3 with heap := s3.heap.push { cls := .type "slice", data := .fields #[vl, vu, .none] } } := I3.kept (t' := s3.toks) fun b ob q => Heap.get?_push_of_some _ q
  obtain ⟨T, id, hT, ht, hg⟩ := hr pins { s3 with heap := s3.heap.push { cls := .type "slice", data := .fields #[vl, vu, .none] } } σ H3 x v vl vu l u s3.heap.objs.size Q I4 r1 (Heap.IsSliceOf.new ..) pl pu q3
  show wpAny (model X.prog X.w) X.A (subscriptTail e (.Slice lo hi none p2) v (.ref s3.heap.objs.size)) (EP X pins σ Q) X.xe { s3 with heap := s3.heap.push { cls := .type "slice", data := .fields #[vl, vu, .none] } }
  exact tail_any (ops := [.ref s3.heap.objs.size, v]) ht hT hg (by with_unfolding_all rfl)

/-- the items of xs[lo:hi] -/
def cutV (xs : List V) (lo hi : Option Int) : List V := (xs.drop (HT.sIx xs.length 0 lo)).take (HT.sIx xs.length xs.length hi - HT.sIx xs.length 0 lo)
theorem cutV_length (xs : List V) (lo hi : Option Int) : (cutV xs lo hi).length ≤ xs.length := by
  unfold cutV
  rw [List.length_take, List.length_drop]
  omega
/-- t[lo:hi], not the whole of it (the whole would be t itself) -/
def rSlT (K : PySem.W.Frag) : V → Option Int → Option Int → Hp → VK → Prop := fun x lo hi H Q => ∃ a xs, x = .ref a ∧ SqT K H a xs ∧
  ¬ (HT.sIx xs.length 0 lo = 0 ∧ HT.sIx xs.length xs.length hi = xs.length) ∧ ∀ p, H p = none → Q (.ref p) (upd H p (.tup (cutV xs lo hi)))

/-! ### t < u, t + u -/
def rLtT (K : PySem.W.Frag) : R2 := fun x y H Q => ∃ a b ns ms, x = .ref a ∧ y = .ref b ∧ SqT K H a (ns.map V.int) ∧ SqT K H b (ms.map V.int) ∧ Q (.bl (HT.lexLt ns ms)) H
/-- t + u, t not empty: u empty gives t itself -/
def rCatT (K : PySem.W.Frag) : R2 := fun x y H Q => ∃ a b xs ys, x = .ref a ∧ y = .ref b ∧ SqT K H a xs ∧ SqT K H b ys ∧ xs ≠ [] ∧ xs.length + ys.length ≤ sizeLine ∧
  (ys = [] → Q (.ref a) H) ∧ (ys ≠ [] → ∀ p, H p = none → Q (.ref p) (upd H p (.tup (xs ++ ys))))
end
end L2

namespace L2
open PySem PySem.Spec PyProof.Rows

/-! ### places -/
/-- the place that an index of any sign means -/
def ixN (n : Nat) (i : Int) : Option Nat := if 0 ≤ i then (if i < n then some i.toNat else none) else if -(n : Int) ≤ i then some (i + n).toNat else none
def atI {α : Type} (xs : List α) (i : Int) : Option α := (ixN xs.length i).bind fun j => xs[j]?
theorem ixN_seq {n : Nat} {i : Int} {j : Nat} (h : ixN n i = some j) : seqIndex? i n = some j ∧ j < n ∧ -(n : Int) ≤ i ∧ i < n := by
  unfold ixN at h
  by_cases h0 : 0 ≤ i
  · rw [if_pos h0] at h
    by_cases h1 : i < n
    · rw [if_pos h1] at h
      have e : i.toNat = j := Option.some.inj h
      exact ⟨by rw [seqIndex_of h0 h1, e], by omega, by omega, h1⟩
    · rw [if_neg h1] at h; cases h
  · rw [if_neg h0] at h
    by_cases h1 : -(n : Int) ≤ i
    · rw [if_pos h1] at h
      have e : (i + n).toNat = j := Option.some.inj h
      exact ⟨by rw [seqIndex_neg (by omega) h1, e], by omega, h1, by omega⟩
    · rw [if_neg h1] at h; cases h
theorem atI_get {α : Type} {xs : List α} {i : Int} {v : α} (h : atI xs i = some v) : ∃ j, seqIndex? i xs.length = some j ∧ xs[j]? = some v ∧ j < xs.length ∧ -(xs.length : Int) ≤ i ∧ i < xs.length := by
  unfold atI at h
  cases e : ixN xs.length i with
  | none => rw [e] at h; cases h
  | some j =>
    rw [e] at h
    obtain ⟨h1, h2, h3, h4⟩ := ixN_seq e
    exact ⟨j, h1, h, h2, h3, h4⟩
theorem atI_nat {α : Type} {xs : List α} {j : Nat} {v : α} (h : xs[j]? = some v) : atI xs (j : Int) = some v := by
  have hj : j < xs.length := (List.getElem?_eq_some_iff.mp h).1
  have e : ixN xs.length (j : Int) = some j := by
    unfold ixN
    rw [if_pos (by omega), if_pos (by omega)]; simp
  unfold atI; rw [e]; exact h

/-! ### what may be subscripted -/
/-- what stands as an index of a plain subscript -/
def PlainIx (b : Expr) : Prop := ∀ o i, subscripted b false o i = operate [o, i] (getItem o i)
/-- a subscript by values -/
def IxR (X : Cx) (r : R2) : Prop :=
  ∀ (value slice : Expr) (pins : List (Addr × Obj)) (s : Shared) (σ : St) (H : Hp) (x y : V) (v u : Value) (Q : VK), Inv X pins σ H s → RelV x v → RelV y u → r x y H Q →
    subscripted slice false v u = operate [v, u] (getItem v u) → wpAny (model X.prog X.w) X.A (subscriptTail value slice v u) (EP X pins σ Q) X.xe s
/-- a call of a builtin's method by values: the receiver, the arguments -/
def MtR (X : Cx) (id : String) (r : V → List V → Hp → VK → Prop) : Prop :=
  ∀ (pins : List (Addr × Obj)) (s : Shared) (σ : St) (H : Hp) (x : V) (xs : List V) (v : Value) (us : List Value) (Q : VK), Inv X pins σ H s → RelV x v → Vals xs us → r x xs H Q →
    wpAny (model X.prog X.w) X.A (call (.builtin id) (v :: us)) (EP X pins σ Q) X.xe s
section
variable {X : Cx} {a b : Expr} {ta tb : TE} {pos : Pos}
/-- a[b] -/
theorem pe_ix {r : R2} (hr : IxR X r) (ha : PE X a ta) (hb : PE X b tb) (hs : PlainIx b) : PE X (.Subscript a b pos) (tOp r ta tb) := by
  intro pins s σ H Q I h
  exact Subscript_ (binT ha hb I h fun v u s2 x y H2 I2 rx ry q => hr a b pins s2 σ H2 x y v u Q I2 rx ry q (hs _ _))

def rIxL (K : PySem.W.Frag) : R2 := fun x y H Q => ∃ p xs i v, x = .ref p ∧ y = .int i ∧ SqL K H p xs ∧ atI xs i = some v ∧ Q v H
def rIxT (K : PySem.W.Frag) : R2 := fun x y H Q => ∃ p xs i v, x = .ref p ∧ y = .int i ∧ SqT K H p xs ∧ atI xs i = some v ∧ Q v H
def rIxS : R2 := fun x y H Q => ∃ z i c, x = .str z ∧ y = .int i ∧ z.length ≤ sizeLine ∧ atI z.cps.toList i = some c ∧ Q (.str ⟨#[c]⟩) H
theorem ix_list : IxR X (rIxL X.K) := by
  intro value slice pins s σ H x y v u Q I rx ry h hs
  obtain ⟨p, xs, i, z, rfl, rfl, hq, he, q⟩ := h
  cases rx
  obtain ⟨t, rfl⟩ := ry
  obtain ⟨its, r, pl, hz⟩ := I.list hq
  obtain ⟨j, h1, h2, h3, h4, h5⟩ := atI_get he
  obtain ⟨w, ew, rw'⟩ := r.get h2
  have hl := r.length
  have hn := line63
  have fin : EP X pins σ Q w s := ⟨z, H, I, rw', q⟩
  by_cases h0 : 0 ≤ i
  · have hj : i.toNat = j := by
      rw [seqIndex_of h0 h5] at h1
      exact Option.some.inj h1
    exact item_listR pl.isList h0 (by omega) (by rw [hj]; simpa using ew) fin hs
  · have hj : (i + (its.toArray.size : Int)).toNat = j := by
      rw [seqIndex_neg (by omega) h4] at h1
      rw [List.size_toArray, ← hl]
      exact Option.some.inj h1
    exact subscriptTail_builtinR (x := w) pl.isList.typeIs slot_list_getitem.lookup
      (wpAny_getItem_list_neg (Q := fun r s' => r = w ∧ EP X pins σ Q r s') pl.isList (by omega) (by rw [List.size_toArray] <;> omega) (by omega) (by rw [hj]; simpa using ew) ⟨rfl, fin⟩) hs
theorem ix_tup : IxR X (rIxT X.K) := by
  intro value slice pins s σ H x y v u Q I rx ry h hs
  obtain ⟨p, xs, i, z, rfl, rfl, hq, he, q⟩ := h
  cases rx
  obtain ⟨t, rfl⟩ := ry
  obtain ⟨its, r, pl, hz⟩ := I.tuple hq
  obtain ⟨j, h1, h2, h3, h4, h5⟩ := atI_get he
  obtain ⟨w, ew, rw'⟩ := r.get h2
  have hl := r.length
  have hn := line63
  have fin : EP X pins σ Q w s := ⟨z, H, I, rw', q⟩
  exact subscriptTail_builtinR (x := w) pl.typeIs slot_tuple_getitem.lookup
    (getItem_tuple (j := j) (Q := fun r s' => r = w ∧ EP X pins σ Q r s') pl (by omega) (by omega) (by rw [List.size_toArray, ← hl]; exact h1) (by simpa using ew) ⟨rfl, fin⟩) hs
/-- list, tuple or str -/
def rIx (K : PySem.W.Frag) : R2 := fun x y H Q => rIxL K x y H Q ∨ rIxT K x y H Q ∨ rIxS x y H Q

/-! ### xs[i] = v, any sign -/
def rSetL : V → V → V → Hp → (Hp → Prop) → Prop := fun o i v H Q => ∃ p xs k j, o = .ref p ∧ i = .int k ∧ H p = some (.lst xs) ∧ ixN xs.length k = some j ∧ Q (upd H p (.lst (xs.set j v)))

/-! ### slices -/
theorem slice_bounds (lo hi : Option Int) (n : Nat) : (sliceBounds lo hi none n).1 = ((HT.sIx n 0 lo : Nat) : Int) ∧ (sliceBounds lo hi none n).2.1 = ((HT.sIx n n hi : Nat) : Int) ∧ (sliceBounds lo hi none n).2.2 = 1 := by
  refine ⟨?_, ?_, rfl⟩
  · cases lo with
    | none => simp [sliceBounds, HT.sIx]
    | some i =>
      simp only [sliceBounds, HT.sIx, Option.getD_none, show (1 : Int) > 0 by decide, if_true]
      by_cases h : i < 0
      · simp only [h, if_true] <;> omega
      · simp only [h, if_false] <;> omega
  · cases hi with
    | none => simp [sliceBounds, HT.sIx]
    | some i =>
      simp only [sliceBounds, HT.sIx, Option.getD_none, show (1 : Int) > 0 by decide, if_true]
      by_cases h : i < 0
      · simp only [h, if_true] <;> omega
      · simp only [h, if_false] <;> omega
theorem slicePick_cut (its : List Value) (lo hi : Option Int) : slicePick its.toArray lo hi none = ((its.drop (HT.sIx its.length 0 lo)).take (HT.sIx its.length its.length hi - HT.sIx its.length 0 lo)).toArray := by
  obtain ⟨h1, h2, h3⟩ := slice_bounds lo hi its.toArray.size
  unfold slicePick
  rw [h1, h2, h3]
  simp only [sliceRange_one, pick_run, List.size_toArray] <;> rfl
/-- xs[lo:hi] of a list: a new list -/
def rSlL (K : PySem.W.Frag) : V → Option Int → Option Int → Hp → VK → Prop := fun x lo hi H Q => ∃ a xs, x = .ref a ∧ SqL K H a xs ∧ ∀ p, H p = none → Q (.ref p) (upd H p (.lst (cutV xs lo hi)))
theorem sl_list : SlR X (rSlL X.K) := by
  intro pins s σ H x v vl vu lo hi sl Q I rx hs pl pu h
  obtain ⟨a, xs, rfl, hx, q⟩ := h
  cases rx
  obtain ⟨its, r, ht, hz⟩ := I.list hx
  have hlen := r.length
  refine ⟨"list", _, slot_list_getitem.lookup, ht.isList.typeIs, ?_⟩
  refine wpAny_getItem_list_slice ht.isList hs pl pu .none (by simp) ?_ (by rw [List.size_toArray] <;> omega)
  rw [slicePick_cut, ← hlen]
  refine ⟨.ref s.heap.objs.size, _, I.laid (t' := s.toks) (o := .lst (cutV xs lo hi)) (fun b ob q => Heap.get?_push_of_some _ q) (Nat.le_refl _) ?_, rfl, q _ (I.hok.fresh (Nat.le_refl _))⟩
  exact ⟨Nat.le_trans (cutV_length xs lo hi) hz, _, 0, (r.drop (HT.sIx xs.length 0 lo)).take (HT.sIx xs.length xs.length hi - HT.sIx xs.length 0 lo), Heap.get?_push_size _ rfl⟩

/-! ### in, not in: flat items -/
def flatV : V → Bool
  | .non => true
  | .bl _ => true
  | .int _ => true
  | .str _ => true
  | _ => false
/-- == of flat values -/
def eqV : V → V → Bool
  | .non, .non => true
  | .bl a, .bl b => a == b
  | .bl a, .int b => (if a then 1 else 0) == b
  | .int a, .bl b => a == (if b then 1 else 0)
  | .int a, .int b => a == b
  | .str a, .str b => a == b
  | _, _ => false
/-- the items' answers, read off the values (a value's own answer does not lean on its token) -/
def eqU (x : V) (u : Value) : Bool := match u with
  | .none => eqV .non x
  | .bool b => eqV (.bl b) x
  | .int i _ => eqV (.int i) x
  | .str z _ => eqV (.str z) x
  | _ => false
def inV (x : V) (xs : List V) : Bool := xs.any fun y => eqV y x
/-- x in a list or tuple of flat items -/
def rIn (K : PySem.W.Frag) (neg : Bool) : R2 := fun x y H Q => ∃ p xs, y = .ref p ∧ (SqL K H p xs ∨ SqT K H p xs) ∧ flatV x = true ∧ xs.all flatV = true ∧ Q (.bl (if neg then !inV x xs else inV x xs)) H

/-! ### len, list(x), tuple(x) of any list or tuple that is read -/
theorem call_len_seq : CallR X (.builtin "len") (fun xs H Q => ∃ p ys, xs = [.ref p] ∧ (SqL X.K H p ys ∨ SqT X.K H p ys) ∧ Q (.int ys.length) H) := by
  intro pins s σ H xs us Q I r h
  obtain ⟨p, ys, rfl, hq, q⟩ := h
  obtain ⟨u, rfl, rx⟩ := vals1 r
  cases rx
  have hn := line63
  rcases hq with hq | hq
  · obtain ⟨its, r', pl, hz⟩ := I.list hq
    have hlen := r'.length
    exact Calls.call_len_list pl.isList (by simp only [List.size_toArray] <;> omega) ⟨.int ys.length, H, I.tok _, ⟨s.toks + 1, by rw [List.size_toArray, hlen]⟩, q⟩
  · obtain ⟨its, r', pl, hz⟩ := I.tuple hq
    have hlen := r'.length
    exact len_tuple pl (by simp only [List.size_toArray] <;> omega) ⟨.int ys.length, H, I.tok _, ⟨s.toks + 1, by rw [List.size_toArray, hlen]⟩, q⟩
theorem call_list_of : CallR X (.type "list") (fun xs H Q => ∃ p ys, xs = [.ref p] ∧ (SqL X.K H p ys ∨ SqT X.K H p ys) ∧ ∀ l, H l = none → Q (.ref l) (upd H l (.lst ys))) := by
  intro pins s σ H xs us Q I r h
  obtain ⟨p, ys, rfl, hq, q⟩ := h
  obtain ⟨u, rfl, rx⟩ := vals1 r
  cases rx
  have fin : ∀ (its : List Value), Vals ys its → ys.length ≤ sizeLine → ∀ (h' : Heap) (c' : Nat), (∀ b o', s.heap.get? b = some o' → h'.get? b = some o') →
      h'.get? s.heap.objs.size = some { cls := .type "list", dict := none, data := .seq its.toArray c', slots := #[] } → EP X pins σ Q (.ref s.heap.objs.size) { s with heap := h' } := fun its r' hz h' c' kp e =>
    ⟨.ref s.heap.objs.size, _, I.laid (t' := s.toks) kp (Nat.le_refl _) (show ObjOk X.prog X.w _ h' _ (.lst ys) from ⟨hz, its, c', r', e⟩), rfl, q _ (I.hok.fresh (Nat.le_refl _))⟩
  rcases hq with hq | hq
  · obtain ⟨its, r', pl, hz⟩ := I.list hq
    have hlen := r'.length
    obtain ⟨o, ho, hc, n, hd⟩ := pl.isList
    exact call_list_seq p (.inl rfl) ho hc hd (fun h' c' kp e => fin its r' hz h' c' kp e) (by simp only [List.size_toArray] <;> omega)
  · obtain ⟨its, r', pl, hz⟩ := I.tuple hq
    have hlen := r'.length
    obtain ⟨o, ho, hc, n, hd⟩ := pl
    exact call_list_seq p (.inr rfl) ho hc hd (fun h' c' kp e => fin its r' hz h' c' kp e) (by simp only [List.size_toArray] <;> omega)
theorem call_tuple_of : CallR X (.type "tuple") (fun xs H Q => ∃ p ys, xs = [.ref p] ∧ ((SqL X.K H p ys ∧ ∀ l, H l = none → Q (.ref l) (upd H l (.tup ys))) ∨ (SqT X.K H p ys ∧ Q (.ref p) H))) := by
  intro pins s σ H xs us Q I r h
  obtain ⟨p, ys, rfl, h⟩ := h
  obtain ⟨u, rfl, rx⟩ := vals1 r
  cases rx
  rcases h with ⟨hq, q⟩ | ⟨hq, q⟩
  · obtain ⟨its, r', pl, hz⟩ := I.list hq
    have hlen := r'.length
    refine call_tuple_list pl.isList (fun h' kp => ?_) (by simp only [List.size_toArray] <;> omega)
    have I1 : Inv X pins σ H { s with heap := h' } := I.kept (t' := s.toks) kp
    have I2 : Inv X pins σ (upd H h'.objs.size (.tup ys)) { s with heap := h'.push { cls := .type "tuple", data := .seq its.toArray } } :=
      I1.laid (t' := s.toks) (fun b o e => Heap.get?_push_of_some _ e) (Nat.le_refl _) (show ObjOk X.prog X.w _ _ _ (.tup ys) from ⟨hz, its, r', IsTup.new _ _⟩)
    exact ⟨.ref h'.objs.size, _, I2, rfl, q _ (I1.hok.fresh (Nat.le_refl _))⟩
  · obtain ⟨its, r', pl, hz⟩ := I.tuple hq
    exact call_tuple_same pl ⟨.ref p, H, I, rfl, q⟩

/-! ### the call of a builtin's method: o.m(..) -/
/-- the value is of that builtin type -/
def tyV (K : PySem.W.Frag) (T : String) (x : V) (H : Hp) : Prop := match x with
  | .str _ => T = "str"
  | .int _ => T = "int"
  | .ref p => (T = "list" ∧ ∃ xs, SqL K H p xs) ∨ (T = "tuple" ∧ ∃ o, K.lookup p = some o ∧ o.cls = .type "tuple" ∧ o.dict = none) ∨
      (T = "dict" ∧ ((∃ kvs, H p = some (.dK kvs)) ∨ ∃ kvs, H p = some (.dT kvs))) ∨ (T = "set" ∧ ∃ S n, H p = some (.set S n))
  | _ => False
theorem tyV_is {pins : List (Addr × Obj)} {σ : St} {H : Hp} {s : Shared} {T : String} {x : V} {v : Value} (I : Inv X pins σ H s) (r : RelV x v) (ty : tyV X.K T x H) :
    s.TypeIs v T ∧ ∀ a, v = .ref a → ∃ ob, s.heap.get? a = some ob ∧ ob.dict = none := by
  cases x with
  | str z =>
    obtain ⟨t, rfl⟩ := r
    cases (show T = "str" from ty)
    exact ⟨typeIs_str s z t, fun _ e => nomatch e⟩
  | int i =>
    obtain ⟨t, rfl⟩ := r
    cases (show T = "int" from ty)
    exact ⟨typeIs_int s i t, fun _ e => nomatch e⟩
  | ref p =>
    cases r
    rcases ty with ⟨rfl, xs, hq⟩ | ⟨rfl, o, hk, hc, hd⟩ | ⟨rfl, hk⟩ | ⟨rfl, S, n, hk⟩
    · obtain ⟨its, _, pl, _⟩ := I.list hq
      refine ⟨pl.isList.typeIs, fun a e => ?_⟩
      cases e
      obtain ⟨o, n, e, c, hd, _⟩ := pl
      exact ⟨o, e, hd⟩
    · refine ⟨⟨o, I.kIn p o hk, hc⟩, fun a e => ?_⟩
      cases e
      exact ⟨o, I.kIn _ o hk, hd⟩
    · have z : ∃ o, s.heap.get? p = some o ∧ o.ExactDict := by
        rcases hk with ⟨kvs, hk⟩ | ⟨kvs, hk⟩
        · obtain ⟨_, _, _, _, o, _, _, e, ex, _⟩ := I.hok p _ hk
          exact ⟨o, e, ex⟩
        · obtain ⟨_, _, _, _, o, _, _, e, ex, _⟩ := I.hok p _ hk
          exact ⟨o, e, ex⟩
      obtain ⟨o, e, ex⟩ := z
      refine ⟨⟨o, e, ex.1⟩, fun a e2 => ?_⟩
      cases e2
      exact ⟨o, e, ex.2.1⟩
    · obtain ⟨o, _, _, _, e, ex, _⟩ := I.hok p _ hk
      refine ⟨⟨o, e, ex.1⟩, fun a e2 => ?_⟩
      cases e2
      exact ⟨o, e, ex.2.1⟩
  | _ => exact False.elim ty
def tBM0 (K : PySem.W.Frag) (T : String) (r : V → List V → Hp → VK → Prop) (to : TE) : TE := fun σ H Q => to σ H fun x H1 => tyV K T x H1 ∧ r x [] H1 Q
def tBM (K : PySem.W.Frag) (T : String) (r : V → List V → Hp → VK → Prop) (to : TE) (t : TA) : TE := fun σ H Q => to σ H fun x H1 => tyV K T x H1 ∧ t σ H1 fun xs H2 => r x xs H2 Q
variable {o e : Expr} {es : List Expr} {to : TE} {t : TA} {name : Str} {apos cpos : Pos} {T id : String} {r : V → List V → Hp → VK → Prop}
theorem pe_bm0 (pa : PlainAttrs T) (slot : Slot T name id) (hty : typeOf (.builtin id) = pure (.type "method_descriptor")) (hm : MtR X id r) (ho : PE X o to)
    (hbase : attributeBase o name X.env (eval o X.env) = eval o X.env := by rfl) (hline : (apos.endLine == cpos.line) = true := by rfl) : PE X (.Call (.Attribute o name apos) [] [] cpos) (tBM0 X.K T r to) := by
  intro pins s σ H Q I h
  refine wpAny_Call_method0_late hbase hline (thn (ho pins s σ H _ I h) fun v s1 ⟨x, H1, I1, r1, ty, q1⟩ => ?_)
  obtain ⟨h1, h2⟩ := tyV_is I1 r1 ty
  exact ⟨T, id, pa, slot, hty, h1, h2, Calls.callWith_builtin rfl (PySem.evalArgs_none (hm pins s1 σ H1 x [] v [] Q I1 r1 .nil q1))⟩
theorem pe_bm (pa : PlainAttrs T) (slot : Slot T name id) (hty : typeOf (.builtin id) = pure (.type "method_descriptor")) (hm : MtR X id r) (ho : PE X o to) (ha : PA X (e :: es) t)
    (hbase : attributeBase o name X.env (eval o X.env) = eval o X.env := by rfl)
    (hfew : ((backTo cpos (starEach (e :: es) X.env)).all (fun x => !x.1) && (backToKw cpos (keywordEach [] X.env)).all (fun x => x.1.isSome)
      && decide ((e :: es).length + ([] : List Keyword).length + (if ([] : List Keyword).isEmpty then 0 else 1) < 30)) = true := by rfl)
    (hline : (apos.endLine == cpos.line) = true := by rfl) (hs : starEach (e :: es) X.env = (false, eval e X.env) :: starEach es X.env := by rfl) (hplain : (backTo cpos (starEach es X.env)).any (·.1) = false := by rfl) :
    PE X (.Call (.Attribute o name apos) (e :: es) [] cpos) (tBM X.K T r to t) := by
  intro pins s σ H Q I h
  refine wpAny_Call_method_late hbase hfew hline rfl (thn (ho pins s σ H _ I h) fun v s1 ⟨x, H1, I1, r1, ty, q1⟩ => ?_)
  obtain ⟨h1, h2⟩ := tyV_is I1 r1 ty
  refine ⟨T, id, pa, slot, hty, h1, h2, ?_⟩
  have hA := ha cpos pins s1 σ H1 _ I1 q1
  rw [hs] at hA ⊢
  refine Calls.callWith_builtin (by show (false || (backTo cpos (starEach es X.env)).any (·.1)) = false; rw [hplain] <;> rfl) (Calls.evalArgs_plain ?_)
  exact thn hA fun us s2 ⟨vs, H2, I2, r2, q2⟩ => hm pins s2 σ H2 x vs v us Q I2 r1 r2 q2
/- xs.append(e), list.index on a module's tuple .. are MtR facts of 06m -/
end
end L2

namespace L2
open PySem PySem.Spec PyProof.Rows

def MtM (X : Cx) (id : String) (r : V → List V → Hp → VK → Prop) : Prop :=
  ∀ (pins : List (Addr × Obj)) (s : Shared) (σ : St) (H : Hp) (x : V) (xs : List V) (v : Value) (us : List Value) (Q : VK), Inv X pins σ H s → RelV x v → Vals xs us → r x xs H Q →
    wpAny (model X.prog X.w) X.A (call (.builtin id) (v :: us)) (EP X pins σ Q) X.xe s

/-! ### lists of values -/
theorem Vals.one : ∀ {x : V} {us : List Value}, Vals [x] us → ∃ u, us = [u] ∧ RelV x u
  | _, _, .cons r .nil => ⟨_, rfl, r⟩
theorem Vals.zero : ∀ {us : List Value}, Vals [] us → us = []
  | _, .nil => rfl
theorem Vals.dropLast {xs : List V} {us : List Value} (h : Vals xs us) : Vals xs.dropLast us.dropLast := by
  induction h with
  | nil => exact .nil
  | cons r t ih =>
    cases t with
    | nil => exact .nil
    | cons q t' => exact .cons r ih
theorem erase_last {α : Type} (l : List α) : l.eraseIdx (l.length - 1) = l.dropLast := by
  induction l with
  | nil => rfl
  | cons a r ih =>
    cases r with
    | nil => rfl
    | cons b r =>
      have e : (a :: b :: r).length - 1 = ((b :: r).length - 1) + 1 := by
        have h1 : (a :: b :: r).length = r.length + 2 := rfl
        have h2 : (b :: r).length = r.length + 1 := rfl
        omega
      rw [e, List.eraseIdx_cons_succ, ih]
      all_goals rfl

section
variable {X : Cx} {pins : List (Addr × Obj)} {σ : St} {H : Hp} {s : Shared} {l b : Addr} {xs ys zs : List V}

/-! ### the two steps: a tracked list is rewritten, a new list is laid -/
theorem Inv.lset {its its' : List Value} {n : Nat} {f : Array Value → Array Value} {t' : Nat} (I : Inv X pins σ H s) (hH : H l = some (.lst xs))
    (e : s.heap.get? l = some { cls := .type "list", data := .seq its.toArray n }) (hf : f its.toArray = its'.toArray) (hv : Vals ys its') (hz : ys.length ≤ sizeLine) :
    Inv X pins σ (upd H l (.lst ys)) { s with heap := s.heap.update l (Obj.mapSeq f), toks := t' } := by
  have q := PySem.IsL.update e f
  rw [hf] at q
  refine I.write (x := l) (e := l) (by rw [hH]; exact trivial) (.inl rfl) (fun b' u hb hu => (Heap.get?_update_other s.heap (Obj.mapSeq f) (Ne.symm hb)).trans hu) ⟨_, q⟩ ?_
  exact ⟨hz, its', _, hv, q⟩
theorem Inv.lnew {its : List Value} {t' : Nat} (I : Inv X pins σ H s) (hv : Vals ys its) (hz : ys.length ≤ sizeLine) :
    Inv X pins σ (upd H s.heap.objs.size (.lst ys)) { s with heap := s.heap.push { cls := .type "list", data := .seq its.toArray }, toks := t' } :=
  I.laid (fun _ _ q => Heap.get?_push_of_some _ q) (Nat.le_refl _) ⟨hz, its, 0, hv, Heap.get?_push_size _ rfl⟩
theorem Inv.fresh (I : Inv X pins σ H s) : H s.heap.objs.size = none := I.hok.fresh (Nat.le_refl _)
theorem Inv.lstM (I : Inv X pins σ H s) (hH : H l = some (.lst xs)) : xs.length ≤ sizeLine ∧ ∃ (its : List Value) (n : Nat), Vals xs its ∧ xs.length = its.length ∧ s.heap.get? l = some { cls := .type "list", data := .seq its.toArray n } := by
  obtain ⟨z, its, n, r, e⟩ := I.hok l _ hH
  exact ⟨z, its, n, r, r.length, e⟩

theorem notLongL {n : Nat} (h : n ≤ sizeLine) : Builtin.List.listTooLong n = false := by
  unfold Builtin.List.listTooLong
  exact decide_eq_false (by omega)
end

section
variable {X : Cx}

/-! ### methods -/
def rAppend : V → List V → Hp → VK → Prop := fun x vs H Q => ∃ l xs y, x = .ref l ∧ vs = [y] ∧ H l = some (.lst xs) ∧ xs.length < sizeLine ∧ Q .non (upd H l (.lst (xs ++ [y])))
theorem mt_append : MtM X "list.append" rAppend := by
  intro pins s σ H x vs v us Q I rx rv h
  obtain ⟨l, xs, y, rfl, rfl, hH, hz, q⟩ := h
  cases rx
  obtain ⟨u, rfl, ru⟩ := rv.one
  obtain ⟨z, its, n, r, hl, e⟩ := I.lstM hH
  refine call_meets F.slot_list_append ⟨_, e, rfl⟩ F.entry_list_append (F.args_list_append_2 _ _) (PySem.list_append l its.toArray n u (by rw [List.size_toArray]; omega)) ⟨e, ?_⟩
  refine ⟨.non, _, I.lset (its' := its ++ [u]) hH e (by simp) (r.append (.cons ru .nil)) ?_, rfl, q⟩
  rw [List.length_append, List.length_singleton]
  omega

def rExtend : V → List V → Hp → VK → Prop := fun x vs H Q => ∃ l b xs zs, x = .ref l ∧ vs = [.ref b] ∧ H l = some (.lst xs) ∧ H b = some (.lst zs) ∧ xs.length + zs.length ≤ sizeLine ∧ Q .non (upd H l (.lst (xs ++ zs)))
theorem mt_extend : MtM X "list.extend" rExtend := by
  intro pins s σ H x vs v us Q I rx rv h
  obtain ⟨l, b, xs, zs, rfl, rfl, hH, hB, hz, q⟩ := h
  cases rx
  obtain ⟨u, rfl, ru⟩ := rv.one
  cases ru
  obtain ⟨z, its, n, r, hl, e⟩ := I.lstM hH
  obtain ⟨z2, its2, n2, r2, hl2, e2⟩ := I.lstM hB
  have hsz : its.toArray.size + its2.toArray.size ≤ sizeLine := by rw [List.size_toArray, List.size_toArray]; omega
  have hlong : ¬ (!its.toArray.isEmpty && Builtin.List.listTooLong (its.toArray.size + its2.toArray.size)) = true := by
    rw [notLongL hsz, Bool.and_false]
    exact Bool.false_ne_true
  refine call_meets F.slot_list_extend ⟨_, e, rfl⟩ F.entry_list_extend (F.args_list_extend_2 _ _)
    (AutoSeq1.list_extend_list_list_0 l its.toArray n b its2.toArray n2 hlong (by rw [List.size_toArray]; omega) (by omega)) ⟨e, e2, ?_⟩
  refine ⟨.non, _, I.lset (its' := its ++ its2) hH e (by simp) (r.append r2) ?_, rfl, q⟩
  rw [List.length_append]
  omega

def rPop : V → List V → Hp → VK → Prop := fun x vs H Q => ∃ l xs y, x = .ref l ∧ vs = [] ∧ H l = some (.lst xs) ∧ xs[xs.length - 1]? = some y ∧ Q y (upd H l (.lst xs.dropLast))
theorem mt_pop : MtM X "list.pop" rPop := by
  intro pins s σ H x vs v us Q I rx rv h
  obtain ⟨l, xs, y, rfl, rfl, hH, hy, q⟩ := h
  cases rx
  have hus := rv.zero
  subst hus
  obtain ⟨z, its, n, r, hl, e⟩ := I.lstM hH
  obtain ⟨u, hu, ru⟩ := r.get hy
  have hy' : its.toArray[its.toArray.size - 1]? = some u := by
    show its.toArray[its.length - 1]? = some u
    rw [← Array.getElem?_toList, ← hl]
    exact hu
  refine call_meets F.slot_list_pop ⟨_, e, rfl⟩ F.entry_list_pop (F.args_list_pop_1 _) (MeetsSeq.list_pop_last l its.toArray n u hy' (by rw [List.size_toArray]; omega)) ⟨e, ?_⟩
  refine ⟨y, _, I.lset (its' := its.dropLast) hH e ?_ r.dropLast ?_, ru, q⟩
  · show its.toArray.eraseIdxIfInBounds (its.toArray.size - 1) = its.dropLast.toArray
    rw [List.size_toArray, List.eraseIdxIfInBounds_toArray, erase_last]
  · rw [List.length_dropLast]
    omega

def rPopAt : V → List V → Hp → VK → Prop := fun x vs H Q => ∃ l xs i k y, x = .ref l ∧ vs = [.int i] ∧ H l = some (.lst xs) ∧ -(2 ^ 63) ≤ i ∧ i < 2 ^ 63 ∧ seqIndex? i xs.length = some k ∧ xs[k]? = some y ∧ Q y (upd H l (.lst (xs.eraseIdx k)))

def rReverse : V → List V → Hp → VK → Prop := fun x vs H Q => ∃ l xs, x = .ref l ∧ vs = [] ∧ H l = some (.lst xs) ∧ Q .non (upd H l (.lst xs.reverse))

def rClear : V → List V → Hp → VK → Prop := fun x vs H Q => ∃ l xs, x = .ref l ∧ vs = [] ∧ H l = some (.lst xs) ∧ Q .non (upd H l (.lst []))

/-! ### list + list, list += list, list * int -/
def rCat : R2 := fun x y H Q => ∃ l b xs zs, x = .ref l ∧ y = .ref b ∧ H l = some (.lst xs) ∧ H b = some (.lst zs) ∧ xs.length + zs.length ≤ sizeLine ∧ ∀ p, H p = none → Q (.ref p) (upd H p (.lst (xs ++ zs)))
theorem op_cat : OpR X (binaryOp .Add) rCat := by
  intro pins s σ H x y v u Q I rx ry h
  obtain ⟨l, b, xs, zs, rfl, rfl, hH, hB, hz, q⟩ := h
  cases rx
  cases ry
  obtain ⟨z, its, n, r, hl, e⟩ := I.lstM hH
  obtain ⟨z2, its2, n2, r2, hl2, e2⟩ := I.lstM hB
  refine PySem.P.add_list e e2 ?_ (by rw [List.size_toArray, List.size_toArray]; omega)
  have ea : its.toArray ++ its2.toArray = (its ++ its2).toArray := by simp
  rw [ea]
  exact ⟨.ref _, _, I.lnew (t' := s.toks) (r.append r2) (by rw [List.length_append]; omega), rfl, q _ I.fresh⟩
/-- a list times an int (a negative one is nothing) -/
def rRep : R2 := fun x y H Q => ∃ l k xs, x = .ref l ∧ y = .int k ∧ H l = some (.lst xs) ∧ -(2 ^ 63) ≤ k ∧ k < 2 ^ 63 ∧ xs.length * k.toNat ≤ sizeLine ∧
  ∀ p, H p = none → Q (.ref p) (upd H p (.lst (List.replicate k.toNat xs).flatten))

/-! ### del xs[i] -/
end

/-! ### xs[a:b] = ys -/
section
variable {prog : Program} {w : World} {A : Around} {E : Value → Shared → Prop} {s : Shared}
end

section
variable {X : Cx}
end
end L2

namespace Att
open PySem PySem.W PySem.Calls PyProof.Rows

/-! ### the script -/
theorem ints_of_wellAll {P : Params} {h : Heap} : ∀ (ns : List Int) (vs : List Value), WellAll P h vs (ns.map WData.int) → IntsAre vs ns := by
  intro ns
  induction ns with
  | nil =>
    intro vs w
    rw [List.map_nil] at w
    cases w
    exact .nil
  | cons n ns ih =>
    intro vs w
    rw [List.map_cons] at w
    cases w with
    | cons a b =>
      cases a
      exact .cons _ _ (ih _ b)

theorem script_of {l : OpenLaw} {n : Nat} (hn : l.most = some n) {P : Params} {h : Heap} {args : List WData} {vals : List Value}
    (hpre : l.row.toRowW.claim.pre args = true) (hwl : WellAll P h vals args) :
    ∃ a vs ns, vals = [Value.ref a] ∧ args = [WData.list (ns.map WData.int)] ∧ h.get? a = some { cls := .type "list", data := .seq vs.toArray } ∧ IntsAre vs ns ∧ ns.length ≤ n := by
  have hsh : WShape.hasAll [] args [.list .int] = true := (pre_splitW hpre).1
  have hc : l.pre.holds [] { args := args } = true := (pre_splitW hpre).2
  obtain ⟨d, r, rfl, h1, h2⟩ := hasAllW_cons hsh
  obtain rfl := hasAllW_nil h2
  obtain ⟨xs, rfl, h3⟩ := hasW_list h1
  obtain ⟨ns, rfl⟩ := items_int h3
  have hlen : ns.length ≤ n := by
    unfold OpenLaw.pre at hc
    have h4 : (WTm.not (.lt (.lit (.int (n : Int))) (.len (.arg 0)))).holds [] { args := [.list (ns.map .int)] } = true := by
      have h4 := (holds_andW hc).1
      rw [hn] at h4
      exact h4
    have h5 := condW_of h4 (w_not (w_lt w_lit (w_len_list (w_arg rfl))))
    rw [List.length_map] at h5
    refine Nat.le_of_not_lt fun q => ?_
    have q' : (n : Int) < ((ns.length : Nat) : Int) := by omega
    first
      | (rw [decide_eq_true q'] at h5; exact absurd h5 (by decide))
      | (simp at h5; omega)
  cases hwl with
  | cons w1 w2 =>
    cases w2
    cases w1 with
    | list ho hall => exact ⟨_, _, ns, rfl, rfl, ho, ints_of_wellAll ns _ hall, hlen⟩

theorem post_true (l : OpenLaw) (args : List WData) : l.row.toRowW.claim.post args (.bool true) args = true :=
  postW_of (r := l.row.toRowW) (X := (true == true))
    (show WShape.has [] (.bool true) .bool = true by first | rfl | decide | simp [WShape.has, WShape.arms, WShape.armsAll])
    (show (WTm.eq .res (.lit (.bool true))).value [] { args := args, res := some (.bool true), after := args } = some (.bool (true == true)) from w_eq_bool (w_res rfl) w_lit) rfl

/-! ### the attachment: holds_open's last premise (the goal 'hc' behind k_head) from a wpAny of the law's body -/

/-- the same from a codeAny of the CALL (for a layer whose function contracts speak of calls) -/
theorem attach_call {l : OpenLaw} {n : Nat} {q : Program} {loose : List Str} {XP : (Str → Option Value) → Heap → Prop} {YP : World → Heap → Prop} {d : DefRec}
    (hn : l.most = some n) (hdf : d.params.defaults = [])
    (call : ∀ (w : World) (s₀ s₁ : Shared) (mg mb : Str → Option Value) (fa : Addr) (o : Obj) (pm cd doc : Value) (a : Addr) (vs : List Value) (ns : List Int),
      Ground q loose [] XP w s₀ mg mb s₁.heap → YP w s₁.heap →
      s₁.heap.get? fa = some o → o.data = .func (docDef d.name d.params d.body d.scope pm cd doc) → s₁.heap.CodeRec cd d.name → mg d.name = some (.ref fa) →
      s₁.heap.get? a = some { cls := .type "list", data := .seq vs.toArray } → IntsAre vs ns → ns.length ≤ n → s₁.gens = #[] →
      codeAny (model l.prog w) callerA (.call (.ref fa) ⟨[.ref a], []⟩) (fun r s' => r = .ok (.ret (.bool true)) ∧ OldK s₁.heap s'.heap ∧ s'.os = s₁.os ∧ AllBare s'.gens) s₁) :
    WalkO q loose XP YP l.row.toRowW d [] (fun f vs => PySem.call f vs) := by
  intro w s₀ s₁ mg mb G Y fa o pm cd doc dV kV ho hd hcd hD hmg hg args vals as hpre hlay hrd hwl hlo
  obtain rfl : dV = .none := Dflts.none hD hdf
  obtain rfl : kV = .none := Dflts.noKw hD
  obtain ⟨a, vs, ns, rfl, rfl, hobj, hints, hlen⟩ := script_of hn hpre hwl
  refine enter_call (codeAny_mono (call w s₀ s₁ mg mb fa o pm cd doc a vs ns G Y ho (fd_plain hd) hcd hmg hobj hints hlen hg) fun r s' hq => ?_)
  obtain ⟨rfl, h2, h3, h4⟩ := hq
  exact ⟨.inl ⟨.bool true, .bool true, [], rfl, fun _ => rfl, .bool true, post_true l _, fun _ => ⟨List.Pairwise.nil, fun _ hm => (nomatch hm)⟩⟩, h2, h3, h4⟩


/-! ### rules over ANY heap (no ledger) from facts about the written part K: the library's own take a ledger (News) for what they write -/
section
variable {prog : Program} {w : World} {A : Around} {E : Value → Shared → Prop} {s : Shared} {K : Frag}





/-! the whole heap as the ledger: makes every rule that writes through a ledger a rule over any heap -/
def noObjs (h : Heap) : Heap := { h with objs := #[] }
def ledger (h : Heap) (L d : Addr) : List (Addr × Obj) := (List.range h.objs.size).filterMap fun a => if a = L ∨ a = d then none else (h.get? a).map fun o => (a, o)

end
end Att

namespace L2
open PySem PySem.Spec PyProof.Rows

theorem vals_ints : ∀ {vs : List Value} {ns : List Int}, IntsAre vs ns → Vals (ns.map V.int) vs
  | _, _, .nil => .nil
  | _, _, .cons n t h => .cons ⟨t, rfl⟩ (vals_ints h)

/-- nothing is tracked but the script, known to the object (or it is an object of the module) -/
def Only (H : Hp) : Prop := ∀ b, H b = none ∨ ∃ o xs, H b = some (.frz o (.lst xs))

/-- THE HEAD: the law's promise, at the heap behind the top. F, the promise of the law's def, may use that base is part of the heap (so K.In base, base.Ns mainGlobals mg stand in Mod) -/
theorem law_call {P : Program} {w : World} {K : PySem.W.Frag} {mg mb : Str → Option Value} {CX : CXT} {k : Nat} {fa a : Addr} {fd : FuncData} {x : Str} {sp : Sp} {s₁ : Shared} {vs : List Value} {ns : List Int}
    (KX : K.In s₁.heap) (hns : s₁.heap.Ns mainGlobals mg) (hb : s₁.heap.Ns builtinsNs mb) (hbb : ∀ x : Str, x ≠ "__name__" → mb x = bootBuiltins x) (hlim : s₁.heap.NoLimit) (hg : s₁.gens = #[])
    (ha : s₁.heap.get? a = some { cls := .type "list", data := .seq vs.toArray }) (hi : IntsAre vs ns) (hl : ns.length ≤ sizeLine) (hr : Room k callerA)
    (F : ∀ base : Heap, K.In base → base.Ns mainGlobals mg → FnOk P w K mg base CX k fa fd [x] sp) (hbind : ∀ (s : Shared) (u : Value), BindsTo s fd ⟨[u], []⟩ [(x, u)])
    (hsp : ∀ H : Hp, Only H → SqL K H a (ns.map V.int) → sp [.ref a] H (fun v _ => v = .bl true) fun _ _ _ => False)
    (hCX : ∀ H e s', CX [] H s₁ (fun _ _ _ => False) e s' → False) :
    codeAny (model P w) callerA (.call (.ref fa) ⟨[.ref a], []⟩) (fun r s' => r = .ok (.ret (.bool true)) ∧ OldK s₁.heap s'.heap ∧ s'.os = s₁.os ∧ AllBare s'.gens) s₁ := by
  have rv := vals_ints hi
  have lenV := hi.length
  -- from an abstract heap in which nothing but the script may be tracked
  have core : ∀ H : Hp, Only H → SqL K H a (ns.map V.int) → HOk P w H s₁.heap → (∀ b, H b ≠ none → b = a) → (H a ≠ none → K.lookup a = none) →
      codeAny (model P w) callerA (.call (.ref fa) ⟨[.ref a], []⟩) (fun r s' => r = .ok (.ret (.bool true)) ∧ OldK s₁.heap s'.heap ∧ s'.os = s₁.os ∧ AllBare s'.gens) s₁ := by
    intro H hO hS hok hA hK
    have base_of : ∀ {b : Addr} {o : Obj}, s₁.heap.get? b = some o → H b = none → (hidT s₁.heap H).get? b = some o := fun e n => hidT_get e n
    have noA : ∀ {b : Addr} {o : Obj} {es : Array DictEntry} {ep : Nat}, s₁.heap.get? b = some o → o.data = .dict es ep → H b = none := fun {b o es ep} e d => by
      cases q : H b with
      | none => rfl
      | some u =>
        have e' : b = a := hA b (by rw [q]; simp)
        subst e'
        rw [ha] at e; cases e
        have d' : Data.seq vs.toArray _ = Data.dict es ep := d
        cases d'
    have nsK : ∀ {b : Addr} {m : Str → Option Value}, s₁.heap.Ns b m → (hidT s₁.heap H).Ns b m := fun {b m} ⟨o, es, ep, e, d, r⟩ => ⟨o, es, ep, base_of e (noA e d), d, r⟩
    have hKb : K.In (hidT s₁.heap H) := fun b o e => base_of (KX b o e) (by
      cases q : H b with
      | none => rfl
      | some u =>
        have e' : b = a := hA b (by rw [q]; simp)
        subst e'
        rw [hK (by rw [q]; simp)] at e; cases e)
    have hM : Mod K mg (hidT s₁.heap H) := ⟨hKb, nsK hns, ⟨mb, nsK hb, hbb⟩, let ⟨mc, h1, h2⟩ := hlim; ⟨mc, nsK h1, h2⟩⟩
    have e0 : Env0 P w K mg (hidT s₁.heap H) callerA [] s₁ H := ⟨rfl, hM, fun b o e => of_hidT e, Nat.le_of_eq (hidT_size _ _), trivial, fun b hb => absurd (show b ∈ ([] : List Addr) from hb) (by simp), hok, .of_eq hg⟩
    refine codeAny_mono ((F _ hKb (nsK hns)).run callerA [] s₁ H ⟨[.ref a], []⟩ [.ref a] [.ref a] _ _ hr e0 (hbind s₁ (.ref a)) (.cons rfl .nil) (hsp H hO hS)) fun r s' h => ?_
    cases r with
    | error e => exact (hCX H e s' h).elim
    | ok fl =>
      cases fl with
      | next => exact False.elim h
      | brk => exact False.elim h
      | cont => exact False.elim h
      | ret u =>
        obtain ⟨v, H', os, bare, un, hok', r', q⟩ := h
        have q' : v = .bl true := q
        subst q'
        obtain rfl : u = Value.bool true := r'
        refine ⟨rfl, OldK.of_keep fun b o e => ?_, os, bare⟩
        cases q : H b with
        | none => exact un.keep b o e q (by intro z; exact absurd (show b ∈ ([] : List Addr) from z) (by simp)) (by simp)
        | some u =>
          rcases hO b with z | ⟨ob, xs, z⟩
          · rw [q] at z; cases z
          · have z2 := un.frzs b ob _ z
            obtain ⟨e1, _⟩ := hok b _ z
            obtain ⟨e2, _⟩ := hok' b _ z2
            rw [e] at e1; cases e1
            exact e2
  cases hk : K.lookup a with
  | some o =>
    -- the script is one of the module's own objects
    have e := KX a o hk
    rw [ha] at e
    cases e
    refine core (fun _ => none) (fun _ => .inl rfl) (.inr ⟨_, vs.toArray, _, hk, rfl, rfl, rfl, by rw [List.size_toArray, lenV]; exact hl, by simpa using rv⟩) (fun b u z => by have z' : (none : Option HO) = some u := z; cases z') (fun b z => absurd rfl z) fun z => absurd rfl z
  | none =>
    refine core (fun b => if b = a then some (.frz { cls := .type "list", data := .seq vs.toArray } (.lst (ns.map V.int))) else none) (fun b => ?_) (.inl (.inr ⟨{ cls := .type "list", data := .seq vs.toArray }, if_pos rfl⟩)) (fun b u z => ?_) (fun b z => ?_) fun _ => hk
    · by_cases hb : b = a
      · exact .inr ⟨_, _, if_pos hb⟩
      · exact .inl (if_neg hb)
    · by_cases hb : b = a
      · have z' := (if_pos hb).symm.trans z
        cases z'
        subst hb
        exact ⟨ha, by rw [List.length_map]; exact hl, vs, _, rv, ha⟩
      · have z' := (if_neg hb).symm.trans z
        cases z'
    · by_cases hb : b = a
      · exact hb
      · exact absurd (if_neg hb) z
end L2

namespace L2
open PySem PySem.Spec PyProof.Rows

abbrev KOf {K : PySem.W.Frag} {h : Heap} (_ : K.In h) : PySem.W.Frag := K

/-- the goal that k_head leaves (case hc), from the law's promise. F gives the function object fd (K's own) once, then the promise over every base -/
theorem walk_of {l : PySem.W.OpenLaw} {n k : Nat} {q : Program} {loose : List Str} {XP : (Str → Option Value) → Heap → Prop} {YP : World → Heap → Prop} {d : DefRec} {K : Params → PySem.W.Frag} {CX : World → CXT} {sp : World → Sp} {x : Str}
    (hn : l.most = some n) (hn2 : n ≤ sizeLine) (hdf : d.params.defaults = []) (hr : Room k callerA)
    (hY : ∀ (w : World) (h : Heap), YP w h → (K w.params).In h)
    (F : ∀ (w : World) (mg : Str → Option Value) (fa : Addr) (h : Heap), (K w.params).In h → h.Ns mainGlobals mg → mg d.name = some (.ref fa) →
      ∃ fd : FuncData, (∀ (s : Shared) (u : Value), BindsTo s fd ⟨[u], []⟩ [(x, u)]) ∧
        ∀ base : Heap, (K w.params).In base → base.Ns mainGlobals mg → FnOk l.prog w (K w.params) mg base (CX w) k fa fd [x] (sp w))
    (hsp : ∀ (w : World) (H : Hp) (a : Addr) (ns : List Int), ns.length ≤ n → Only H → SqL (K w.params) H a (ns.map V.int) → sp w [.ref a] H (fun v _ => v = .bl true) fun _ _ _ => False)
    (hCX : ∀ (w : World) (H : Hp) (s : Shared) (e : Value) (s' : Shared), CX w [] H s (fun _ _ _ => False) e s' → False) :
    PySem.W.WalkO q loose XP YP l.row.toRowW d [] (fun f vs => PySem.call f vs) := by
  refine Att.attach_call hn hdf fun w s₀ s₁ mg mb fa o pm cd doc a vs ns G Y ho hd hcd hmg hobj hints hlen hg => ?_
  have KX := hY w _ Y
  obtain ⟨fd, hb, hF⟩ := F w mg fa _ KX G.T.g hmg
  exact law_call KX G.T.g G.T.b G.T.builtins G.T.nolimit hg hobj hints (Nat.le_trans hlen hn2) hr hF hb (fun H hO hS => hsp w H a ns hlen hO hS) fun H e s' => hCX w H s₁ e s'
end L2

/- THE LAST THEOREM (shape; LID, My.* are yours):
   My.Adr: a structure of the addresses that your layer names (classes, functions); My.Txt K t: a structure (Prop) of the equations over K;
   My.txt_mk : {K} {implicit addresses ..} (e1 : nsIn K mainGlobals "law" = some (some (.ref f))) (e2 : K.lookup f = some ⟨oc, od, .func (fnOf "law" "law" params body scope dV kV doc pm an cdv ct), sl⟩) (e3 : codeIn K cdv "law" = true) .. : ∃ t, My.Txt K t

set_option maxRecDepth 100000 in
set_option maxHeartbeats 0 in
theorem PySem.Challenge.cw_LID_holds : PySem.Challenge.rw_LID.Holds := by
  w_on; o_law; k_head; (case hw => w_witness2)
  k_fill
  refine L2.walk_of (l := PySem.Challenge.rw_LID) (n := 63) (k := 40) (x := "script") (CX := fun w => ..) (sp := fun _ => My.sp_law) rfl (by decide) rfl ⟨rfl, by decide, by decide⟩ (fun w h Y => PySem.W.kIn_of Y) ?F ?S ?C
  case F =>
    intro w mg fa h KX G hmg
    have T : ∃ t, My.Txt (L2.KOf KX) t := by
      dsimp only [L2.KOf]                          -- K must stand as «<heap const> w.params» for k_is
      refine' My.txt_mk ?e1 ?e2 ?e3 ..
      (case e1 => PySem.W.k_is)                    -- in the order: a name -> its address -> its object -> its parts
      (case e2 => PySem.W.k_is)
      ..
    obtain ⟨t, T⟩ := T
    have e0 := hmg.symm.trans (PySem.W.mg_of KX G T.law)
    cases e0                                       -- fa is the law's own address
    exact ⟨_, fun s u => .of_eq rfl, fun base kb nb => My.law_fn T kb nb⟩     -- if «.of_eq rfl» comes too early: refine' ⟨_, ?b, fun base kb nb => My.law_fn T kb nb⟩; exact fun s u => .of_eq rfl
  case S => exact fun w H a ns hl hO hS => ..
  case C => exact ..
(the tactic k_is has no namespace: write k_is) -/

/-! SHORT WORDS over the layer: a def of the text, its body, what a loop and a test want. -/
namespace L2
open PySem PySem.Spec PyProof.Rows

/-! ### the text by places -/
/-- the j-th statement of a class's body -/
def inClass (s : Stmt) (j : Nat) : Stmt := match s with
  | .ClassDef _ _ _ body _ _ _ _ _ _ _ => body.getD j (.Pass ⟨0, 0, 0, 0⟩)
  | _ => .Pass ⟨0, 0, 0, 0⟩
def defArgs (s : Stmt) : Arguments := match s with
  | .FunctionDef _ a _ _ _ _ _ _ _ _ => a
  | _ => { posonlyargs := [], args := [], vararg := none, kwonlyargs := [], kw_defaults := [], kwarg := none, defaults := [] }
def defBody (s : Stmt) : List Stmt := match s with
  | .FunctionDef _ _ b _ _ _ _ _ _ _ => b
  | _ => []
def defScope (s : Stmt) : Scope := match s with
  | .FunctionDef _ _ _ _ _ _ sc _ _ _ => sc
  | _ => { kind := .function, names := [], isGenerator := false, isCoroutine := false }

/-! ### no exception leaves a def -/
abbrev CX0 : CXT := fun _ _ _ _ _ _ => False
abbrev E0 : XK := fun _ _ _ => False
theorem pass0 {X : Cx} : Passes CX0 X E0 := fun _ _ _ _ _ _ _ h => h.elim

/-! ### a def (or method) of the text as it stands behind the top -/
structure Fun (K : PySem.W.Frag) (x qual : Str) (st : Stmt) (f : Addr) (fd : FuncData) : Prop where
  ex : ∃ (oc : Value) (od : Option Addr) (kV doc pm : Value) (an : Option Addr) (cdv ct : Value) (osl : Array (Option Value)),
    fd = PySem.W.fnOf x qual (defArgs st) (defBody st) (defScope st) .none kV doc pm an cdv ct ∧ K.lookup f = some ⟨oc, od, .func fd, osl⟩ ∧ PySem.W.codeIn K cdv qual = true
  kp : PySem.W.keepIn K (.ref f) = true
section
variable {P : Program} {w : World} {K : PySem.W.Frag} {mg : Str → Option Value} {base : Heap}
/-- THE RULE for a def: its body as a term of rules, and the reading of that term -/
theorem Fun.ok {x qual : Str} {st : Stmt} {f : Addr} {fd : FuncData} {N ps : List Str} {k : Nat} {sp : Sp} (F : Fun K x qual st f fd) (S : FnScope N ps (defScope st)) (len : ∀ vs H Q E, sp vs H Q E → vs.length = ps.length)
    (hbody : ∀ (cdv : Value) (A : Around) (outer : List Env) (s : Shared) (H : Hp) (vs : List V) (Q : VK) (E : XK), Room k (A.deeper (envOfC qual (defScope st) s.heap.objs.size f cdv)) → sp vs H Q E →
      ∃ t, PSs (cxOf CX0 P w K mg base N qual (defScope st) f cdv A outer s H E).nox (defBody st) t ∧ t { nx := fun _ H' => Q .non H', rt := Q } (start N vs) H) : FnOk P w K mg base CX0 (k + 1) f fd ps sp := by
  obtain ⟨oc, od, kV, doc, pm, an, cdv, ct, osl, rfl, lk, hcd⟩ := F.ex
  refine fn_of lk hcd S len fun A outer s H vs Q E hr hsp => ?_
  obtain ⟨t, h, q⟩ := hbody cdv A outer s H vs Q E hr hsp
  exact ⟨t, h.nox, q⟩
/-- how its arguments bind (no defaults): h is «fun _ _ _ _ _ _ us hl => match us, hl with | [_, _], _ => rfl», one _ a parameter -/
theorem Fun.binds {x qual : Str} {st : Stmt} {f : Addr} {fd : FuncData} {ps : List Str} (F : Fun K x qual st f fd)
    (h : ∀ (kV doc pm : Value) (an : Option Addr) (cdv ct : Value) (us : List Value), us.length = ps.length → bindArgs (PySem.W.fnOf x qual (defArgs st) (defBody st) (defScope st) .none kV doc pm an cdv ct) ⟨us, []⟩ = pure (ps.zip us)) : Binds K fd ps [] := by
  obtain ⟨oc, od, kV, doc, pm, an, cdv, ct, osl, rfl, lk, hcd⟩ := F.ex
  exact .all (h kV doc pm an cdv ct)
theorem fun_mk {x qual : Str} {st : Stmt} {f : Addr} {oc : Value} {od an : Option Addr} {osl : Array (Option Value)} {kV doc pm cdv ct : Value} (l : K.lookup f = some ⟨oc, od, .func (PySem.W.fnOf x qual (defArgs st) (defBody st) (defScope st) .none kV doc pm an cdv ct), osl⟩)
    (c : PySem.W.codeIn K cdv qual = true) (k : PySem.W.keepIn K (.ref f) = true) : Fun K x qual st f (PySem.W.fnOf x qual (defArgs st) (defBody st) (defScope st) .none kV doc pm an cdv ct) := ⟨⟨oc, od, kV, doc, pm, an, cdv, ct, osl, rfl, l, c⟩, k⟩
end
theorem hu_of {A : Around} {k : Nat} (hr : Room k A) : A.units + 1 < cLine := Nat.lt_of_le_of_lt (Nat.add_le_add_left (by decide : 1 ≤ 64) _) hr.units
theorem small1000 {n : Nat} (h : n ≤ 1000) : n < sizeLine := Nat.lt_of_le_of_lt h (by decide)

/-! ### expressions in short: the name that stands in the i-th slot -/
section
variable {X : Cx}
theorem pv (i : Nat) {x : Str} {pos : Pos} (hN : X.N[i]? = some x := by rfl) (hv : Vis X.env.scope x := by first | exact Or.inl rfl | exact Or.inr (Or.inl rfl) | exact Or.inr (Or.inr rfl)) (hd : (x == ("__debug__" : Str)) = false := by decide)
    (hcd : (x == ("__classdict__" : Str)) = false := by decide) : PE X (.Name x pos) (tVar i) := pe_var hN hv hd hcd
end

/-! ### tests -/
theorem iteF {A B : Prop} (h : B) : if false = true then A else B := by
  rw [if_neg Bool.false_ne_true]
  exact h
theorem iteT {A B : Prop} (h : A) : if true = true then A else B := by
  rw [if_pos rfl]
  exact h
theorem ite2 {c A B : Prop} [Decidable c] (h1 : c → A) (h2 : ¬ c → B) : if c then A else B := by
  by_cases h : c
  · rw [if_pos h]
    exact h1 h
  · rw [if_neg h]
    exact h2 h

/-! ### heaps -/
/-- all that was tracked is as it was -/
def Same (H H' : Hp) : Prop := ∀ b o, H b = some o → H' b = some o

/-! ### a dict's pairs: keys that differ -/
section
variable {κ : Type} [DecidableEq κ]
theorem nd_snoc : ∀ {l : List κ} {k : κ}, l.Nodup → ¬ k ∈ l → (l ++ [k]).Nodup
  | [], k, _, _ => by simp
  | a :: r, k, h, hk => by
    obtain ⟨h1, h2⟩ := List.nodup_cons.mp h
    show (a :: (r ++ [k])).Nodup
    refine List.nodup_cons.mpr ⟨fun m => ?_, nd_snoc h2 fun m => hk (List.mem_cons.mpr (Or.inr m))⟩
    rcases List.mem_append.mp m with q | q
    · exact h1 q
    · exact hk (List.mem_cons.mpr (Or.inl (List.mem_singleton.mp q).symm))
theorem dropK_pos {p : κ × V} {r : List (κ × V)} {k : κ} (e : p.1 = k) : dropK (p :: r) k = dropK r k := by
  unfold dropK
  rw [List.filter_cons, if_neg (by simp [e])]
theorem dropK_neg {p : κ × V} {r : List (κ × V)} {k : κ} (e : ¬ p.1 = k) : dropK (p :: r) k = p :: dropK r k := by
  unfold dropK
  rw [List.filter_cons, if_pos (by simp [e])]
theorem dropK_no : ∀ {kvs : List (κ × V)} {k : κ}, ¬ k ∈ kvs.map (·.1) → dropK kvs k = kvs
  | [], _, _ => rfl
  | p :: r, k, h => by
    have h' : ¬ k ∈ r.map (·.1) := fun m => by
      obtain ⟨q, hq, e⟩ := List.mem_map.mp m
      exact h (List.mem_map.mpr ⟨q, List.mem_cons.mpr (Or.inr hq), e⟩)
    rw [dropK_neg fun e => h (List.mem_map.mpr ⟨p, List.mem_cons.mpr (Or.inl rfl), e⟩), dropK_no h']
end
end L2

set_option maxHeartbeats 4000000
/-! ## Farhold: more rules over the layer. A: data and its equality; list(d.values()) -/
namespace FX
open PySem PySem.Spec PyProof.Rows L2
set_option linter.all false

/-- a value that stands for data: plain values, and tuples of such -/
inductive RepT (K : PySem.W.Frag) (H : Hp) : V → PyData → Prop
  | non : RepT K H .non .none
  | bl (b : Bool) : RepT K H (.bl b) (.bool b)
  | int (i : Int) : RepT K H (.int i) (.int i)
  | str (x : Str) : RepT K H (.str x) (.str x)
  | tup {a : Addr} {xs : List V} {ds : List PyData} : SqT K H a xs → xs.length = ds.length → (∀ (j : Nat) (x : V) (d : PyData), xs[j]? = some x → ds[j]? = some d → RepT K H x d) → RepT K H (.ref a) (.tuple ds)
/-- .. or a list of such -/
inductive Rep (K : PySem.W.Frag) (H : Hp) : V → PyData → Prop
  | one {x : V} {d : PyData} : RepT K H x d → Rep K H x d
  | lst {a : Addr} {xs : List V} {ds : List PyData} : SqL K H a xs → Paired (RepT K H) xs ds → Rep K H (.ref a) (.list ds)

theorem paired_get {α β : Type} {R : α → β → Prop} : ∀ {xs : List α} {ys : List β}, Paired R xs ys → ∀ (j : Nat) (x : α) (y : β), xs[j]? = some x → ys[j]? = some y → R x y
  | _, _, .nil, j, x, y, h, _ => by simp at h
  | _, _, .cons r t, 0, x, y, h, h' => by simp at h h'; subst h; subst h'; exact r
  | _, _, .cons r t, j + 1, x, y, h, h' => paired_get t j x y (by simpa using h) (by simpa using h')
theorem paired_of {α β : Type} {R : α → β → Prop} : ∀ {xs : List α} {ys : List β}, xs.length = ys.length → (∀ (j : Nat) (x : α) (y : β), xs[j]? = some x → ys[j]? = some y → R x y) → Paired R xs ys
  | [], [], _, _ => .nil
  | x :: xs, y :: ys, hl, h => .cons (h 0 x y rfl rfl) (paired_of (by simpa using hl) fun j a b e1 e2 => h (j + 1) a b (by simpa using e1) (by simpa using e2))
  | [], _ :: _, hl, _ => by simp at hl
  | _ :: _, [], hl, _ => by simp at hl
theorem RepT.tupP {K : PySem.W.Frag} {H : Hp} {a : Addr} {xs : List V} {ds : List PyData} (h : SqT K H a xs) (r : Paired (RepT K H) xs ds) : RepT K H (.ref a) (.tuple ds) :=
  .tup h (Paired.length r) fun j x d e1 e2 => paired_get r j x d e1 e2

/-- tuples and known things are as they were -/
structure KeepT (H H' : Hp) : Prop where
  tup : ∀ a xs, H a = some (.tup xs) → H' a = some (.tup xs)
  frz : ∀ a o u, H a = some (.frz o u) → H' a = some (.frz o u)
theorem KeepT.of_same {H H' : Hp} (s : Same H H') : KeepT H H' := ⟨fun a xs e => s a _ e, fun a o u e => s a _ e⟩
theorem KeepT.sq {K : PySem.W.Frag} {H H' : Hp} (k : KeepT H H') {a : Addr} {xs : List V} (h : SqT K H a xs) : SqT K H' a xs := by
  rcases h with (e | ⟨o, e⟩) | z
  · exact .inl (.inl (k.tup a xs e))
  · exact .inl (.inr ⟨o, k.frz a o _ e⟩)
  · exact .inr z
theorem KeepT.upd {H : Hp} {p : Addr} {o : HO} (h : ∀ o', H p = some o' → (∀ xs, o' ≠ .tup xs) ∧ ∀ b u, o' ≠ .frz b u) : KeepT H (upd H p o) :=
  ⟨fun a xs e => by
    have : a ≠ p := fun z => by subst z; exact (h _ e).1 xs rfl
    rw [upd_ne this]; exact e,
   fun a b u e => by
    have : a ≠ p := fun z => by subst z; exact (h _ e).2 b u rfl
    rw [upd_ne this]; exact e⟩
theorem RepT.keep {K : PySem.W.Frag} {H H' : Hp} (k : KeepT H H') {v : V} {d : PyData} (r : RepT K H v d) : RepT K H' v d := by
  induction r with
  | non => exact .non
  | bl b => exact .bl b
  | int i => exact .int i
  | str x => exact .str x
  | tup h hl _ ih => exact .tup (k.sq h) hl fun j x d e1 e2 => ih j x d e1 e2

section
variable {X : Cx} {pins : List (Addr × Obj)} {σ : L2.St} {H : Hp} {s : Shared}
theorem readsAll_of {h : Heap} : ∀ {xs : List V} {us : List Value} {ds : List PyData}, Vals xs us → xs.length = ds.length →
    (∀ (j : Nat) (x : V) (d : PyData), xs[j]? = some x → ds[j]? = some d → ∀ u, RelV x u → ∃ as, Reads h u d as) → ∃ as, ReadsAll h us ds as
  | _, _, [], .nil, _, _ => ⟨[], .nil⟩
  | _, _, d :: ds, .cons (a := x) (b := u) r t, hl, f => by
    obtain ⟨as, r1⟩ := f 0 x d rfl rfl u r
    obtain ⟨bs, r2⟩ := readsAll_of t (by simpa using hl) fun j y e h1 h2 => f (j + 1) y e (by simpa using h1) (by simpa using h2)
    exact ⟨as ++ bs, .cons r1 r2⟩
  | _, _, _ :: _, .nil, hl, _ => by simp at hl
  | _, _, [], .cons _ _, hl, _ => by simp at hl
theorem RepT.reads (I : Inv X pins σ H s) {v : V} {d : PyData} (r : RepT X.K H v d) : ∀ u, RelV v u → ∃ as, Reads s.heap u d as := by
  induction r with
  | non => intro u e; cases e; exact ⟨_, .none⟩
  | bl b => intro u e; cases e; exact ⟨_, .bool b⟩
  | int i => intro u e; obtain ⟨t, rfl⟩ := e; exact ⟨_, .int i t⟩
  | str x => intro u e; obtain ⟨t, rfl⟩ := e; exact ⟨_, .str x t⟩
  | tup h hl _ ih =>
    intro u e
    cases e
    obtain ⟨its, rv, ⟨o, ho, hc, n, hd⟩, _⟩ := I.tuple h
    obtain ⟨as, ra⟩ := readsAll_of rv hl fun j x d e1 e2 => ih j x d e1 e2
    exact ⟨as, .tuple ho hc hd (by simpa using ra)⟩
theorem Rep.reads (I : Inv X pins σ H s) {v : V} {d : PyData} (r : Rep X.K H v d) {u : Value} (e : RelV v u) : ∃ as, Reads s.heap u d as := by
  cases r with
  | one r => exact r.reads I u e
  | lst h p =>
    cases e
    obtain ⟨its, rv, pl, _⟩ := I.list h
    obtain ⟨o, ho, hc, n, hd⟩ := pl.isList
    obtain ⟨as, ra⟩ := readsAll_of rv (Paired.length p) fun j x d e1 e2 => (paired_get p j x d e1 e2).reads I
    exact ⟨_, .list ho hc hd (by simpa using ra)⟩
/-- data that == takes apart as it lies: no dicts, not deep -/
def Okd (d : PyData) : Prop := d.canLay0 = true ∧ d.depth ≤ 40
def rEqD (K : PySem.W.Frag) : R2 := fun x y H Q => ∃ d e, Rep K H x d ∧ Rep K H y e ∧ Okd d ∧ Okd e ∧ Q (.bl (PyData.eqv d e)) H
def rNeD (K : PySem.W.Frag) : R2 := fun x y H Q => ∃ d e, Rep K H x d ∧ Rep K H y e ∧ Okd d ∧ Okd e ∧ Q (.bl (!PyData.eqv d e)) H
theorem op_eqD (hu : X.A.units + 64 < cLine) : OpR X (compareOp .Eq) (rEqD X.K) := by
  intro pins s σ H x y v u Q I rx ry h
  obtain ⟨d, e, r1, r2, o1, o2, q⟩ := h
  obtain ⟨as, g1⟩ := r1.reads I rx
  obtain ⟨bs, g2⟩ := r2.reads I ry
  exact PySem.SeqAt.compareEq_reads g1 g2 o1.1 o2.1 (by have := o1.2; omega) ⟨.bl _, H, I, rfl, q⟩
theorem op_neD (hu : X.A.units + 64 < cLine) : OpR X (compareOp .NotEq) (rNeD X.K) := by
  intro pins s σ H x y v u Q I rx ry h
  obtain ⟨d, e, r1, r2, o1, o2, q⟩ := h
  obtain ⟨as, g1⟩ := r1.reads I rx
  obtain ⟨bs, g2⟩ := r2.reads I ry
  exact PySem.SeqAt.compareNe_reads g1 g2 o1.1 o2.1 (by have := o1.2; omega) ⟨.bl _, H, I, rfl, q⟩
/-- of data that is the same: == is True -/
theorem eqv_same {d : PyData} (h : Okd d) : PyData.eqv d d = true := PySem.SeqAt.eqv_refl d h.1
theorem hu64 {A : Around} {k : Nat} (r : Room k A) : A.units + 64 < cLine := r.units
end

/-! ### a def's promise, with what holds behind every call -/

/-! ### d.values(), list(d.values()) -/
/-- the view that d.values() gives -/
def viewO (p d : Addr) : HO := .ext fun h => h.IsValuesView p d
section
variable {X : Cx}
end
end FX

/-! ## B: cuts, and small things about lists -/
namespace FX
open PySem PySem.Spec PyProof.Rows L2
section
variable {X : Cx}
/-- at this very state: the end is R -/
def tAt (σ0 : L2.St) (H0 : Hp) (R : Bool → Hp → Prop) : TT := fun σ H Q => σ = σ0 ∧ H = H0 ∧ ∀ b H1, R b H1 → Q b H1
def tEAt (σ0 : L2.St) (H0 : Hp) (R : VK) : TE := fun σ H Q => σ = σ0 ∧ H = H0 ∧ ∀ v H1, R v H1 → Q v H1
end
/-- a fresh address is none of those that stand -/
theorem same_new {H : Hp} {p : Addr} {o : HO} (hp : H p = none) : Same H (upd H p o) := fun b u e => by rw [upd_ne (ne_of_none e hp)]; exact e
theorem same_trans {H H1 H2 : Hp} (a : Same H H1) (b : Same H1 H2) : Same H H2 := fun c o h => b c o (a c o h)
theorem same_free {H H' : Hp} (e : Same H H') {l : Addr} (h : H' l = none) : H l = none := by
  cases q : H l with
  | none => rfl
  | some o => rw [e l o q] at h; cases h
theorem paired_erase {α β : Type} {R : α → β → Prop} : ∀ {xs : List α} {ys : List β} (j : Nat), Paired R xs ys → Paired R (xs.eraseIdx j) (ys.eraseIdx j)
  | _, _, _, .nil => .nil
  | _, _, 0, .cons _ t => t
  | _, _, j + 1, .cons r t => .cons r (paired_erase j t)
theorem paired_snoc {α β : Type} {R : α → β → Prop} {x : α} {y : β} (r : R x y) : ∀ {xs : List α} {ys : List β}, Paired R xs ys → Paired R (xs ++ [x]) (ys ++ [y])
  | _, _, .nil => .cons r .nil
  | _, _, .cons q t => .cons q (paired_snoc r t)
theorem paired_mono {α β : Type} {R S : α → β → Prop} (f : ∀ a b, R a b → S a b) : ∀ {xs : List α} {ys : List β}, Paired R xs ys → Paired S xs ys
  | _, _, .nil => .nil
  | _, _, .cons q t => .cons (f _ _ q) (paired_mono f t)
theorem atI_at {α : Type} {xs : List α} {i : Int} {v : α} (h0 : 0 ≤ i) (h : xs[i.toNat]? = some v) : atI xs i = some v := by
  have := atI_nat h
  rwa [Int.toNat_of_nonneg h0] at this
theorem get_of_lt {α : Type} {xs : List α} {j : Nat} (h : j < xs.length) : ∃ x, xs[j]? = some x := ⟨xs[j], List.getElem?_eq_some_iff.mpr ⟨h, rfl⟩⟩
/-- data of letters and of lists of them -/
theorem okAll {ds : List PyData} (h : ∀ d ∈ ds, d.canLay0 = true ∧ d.depth ≤ 20) : PyData.canLayAll0 ds = true ∧ PyData.depthAll ds ≤ 20 := by
  induction ds with
  | nil => exact ⟨by simp [PyData.canLayAll0], by simp [PyData.depthAll]⟩
  | cons d ds ih =>
    obtain ⟨a, b⟩ := ih fun e he => h e (List.mem_cons_of_mem _ he)
    obtain ⟨c, g⟩ := h d (List.mem_cons_self ..)
    exact ⟨by simp [PyData.canLayAll0, a, c], by simp only [PyData.depthAll]; omega⟩
theorem okd_list {ds : List PyData} (h : ∀ d ∈ ds, d.canLay0 = true ∧ d.depth ≤ 20) : Okd (.list ds) := by
  obtain ⟨a, b⟩ := okAll h
  exact ⟨by simp only [PyData.canLay0]; exact a, by simp only [PyData.depth]; omega⟩
theorem eqv_nil (ds : List PyData) : PyData.eqv (.list ds) (.list []) = ds.isEmpty := by
  cases ds <;> simp [PyData.eqv, PyData.eqvAll]
end FX
/-! ### a statement by what holds ahead of it and behind it, over letters of one's own -/
namespace FX
open PySem PySem.Spec PyProof.Rows L2
section
variable {X : Cx} {γ : Type}
def tG (Pre : γ → L2.St → Hp → Prop) (Post : γ → L2.St → Hp → Prop) (R : VK) : TS := fun D σ H => ∃ g, Pre g σ H ∧ (∀ σ' H', Post g σ' H' → D.nx σ' H') ∧ ∀ v H', R v H' → D.rt v H'
end
end FX
/-! ### the script, through the whole law -/
namespace FX
open PySem PySem.Spec PyProof.Rows L2
def Scr (K : PySem.W.Frag) (H : Hp) (a : Addr) (xs : List V) : Prop := (∃ o, H a = some (.frz o (.lst xs))) ∨ ∀ H' : Hp, SqL K H' a xs
theorem Scr.sq {K : PySem.W.Frag} {H : Hp} {a : Addr} {xs : List V} (h : Scr K H a xs) : SqL K H a xs := h.elim (fun ⟨o, e⟩ => .inl (.inr ⟨o, e⟩)) fun z => z H
theorem Scr.keep {K : PySem.W.Frag} {H H' : Hp} {a : Addr} {xs : List V} (h : Scr K H a xs) (kt : KeepT H H') : Scr K H' a xs := h.elim (fun ⟨o, e⟩ => .inl ⟨o, kt.frz _ _ _ e⟩) fun z => .inr z
theorem Scr.of {K : PySem.W.Frag} {H : Hp} {a : Addr} {xs : List V} (hO : Only H) (h : SqL K H a xs) : Scr K H a xs := by
  rcases h with (e | ⟨o, e⟩) | z
  · rcases hO a with q | ⟨o, ys, q⟩
    · rw [q] at e; cases e
    · rw [q] at e; cases e
  · exact .inl ⟨o, e⟩
  · exact .inr fun H' => .inr z
end FX

/-! ## C: list comprehensions -/
namespace FX
open PySem PySem.Spec PyProof.Rows L2
/-- the loop of a comprehension, the step ahead of the store told -/
theorem comp_loop {prog : Program} {w : World} {A : Around} {R : Result → Shared → Prop} {s : Shared} {elt target iter : Expr} {ifs : List Expr} {scope : Scope} {pos : Pos} {it acc : Value} {env : Env} (J : Nat → Shared → Prop)
    (turn : ∀ k s0, J k s0 → wpAny (model prog w) A (pyNext it) (fun r s1 => match r with
      | none => R (.ok .next) s1
      | some v => wpAny (model prog w) A (letOwnedTupleGo target it v) (fun _ sg => wpAny (model prog w) A (assign target env v) (fun _ s2 =>
          wpAny (model prog w) A (forIn ifs true fun c r => if r = true then do let ok ← isTrue c env (eval c env); pure (ForInStep.yield ok) else pure (ForInStep.yield r)) (fun ok s3 =>
            if ok = true then wpAny (model prog w) A (eval elt env) (fun x s4 =>
              wpAny (model prog w) A (call (.builtin "list.append") [acc, x]) (fun _ s5 => ∃ m, m < k ∧ J m s5) (fun _ _ => False) s4) (fun _ _ => False) s3
            else ∃ m, m < k ∧ J m s3) (fun _ _ => False) s2) (fun _ _ => False) sg) (fun _ _ => False) s1) (fun _ _ => False) s0)
    (k : Nat) (h : J k s) : codeAny (model prog w) A (.compLoop (.ListComp elt [⟨target, iter, ifs, 0⟩] scope pos) 0 it acc env) R s := by
  refine codeAny_loop rfl J (fun k s0 hI => ?_) k h
  show wpAny _ A ((compTurn (.ListComp elt [⟨target, iter, ifs, 0⟩] scope pos) 0 it acc env).onRaise (fun x => do noteFrame x env; theTreesLotGoes x)) _ _ s0
  have no : ∀ {E : Value → Shared → Prop} (e : Value) (s' : Shared), False → notedBy (model prog w) A env E e s' := fun _ _ z => z.elim
  refine wpAny_noted ?_
  rw [compTurn_list]
  refine wpAny_bind (wpAny_standAt (wpAny_bind (wpAny_mono (turn k s0 hI) (fun r s1 h1 => ?_) no)))
  cases r with
  | none => exact wpAny_pure h1
  | some v =>
    refine wpAny_bind (wpAny_mono h1 (fun _ sg hg => wpAny_bind (wpAny_mono hg (fun _ s2 h2 => wpAny_bind (wpAny_mono h2 (fun ok s3 h3 => ?_) no)) no)) no)
    cases ok with
    | false =>
      simp only [Bool.false_eq_true, if_false] at h3 ⊢
      exact wpAny_pure ⟨rfl, h3⟩
    | true =>
      simp only [if_true] at h3 ⊢
      exact wpAny_bind (wpAny_bind (wpAny_mono h3 (fun x s4 h4 => wpAny_bind (wpAny_mono h4 (fun _ s5 h5 => wpAny_pure (wpAny_pure ⟨rfl, h5⟩)) no)) no))

/-- the block's own world -/
def blk (X : Cx) (sc : Scope) (cl : List (Str × Addr)) (C : Addr) (N : List Str) (s1 : Shared) (H1 : Hp) (fp : List Addr) (pins : List (Addr × Obj)) : Cx where
  prog := X.prog
  w := X.w
  K := X.K
  mg := X.mg
  base := X.base
  A := X.A
  N := N
  s₀ := s1
  H₀ := H1
  env := compEnvC sc cl C X.env
  outer := X.stack
  stack := X.stack
  ex := fp
  fn := fun _ => false
  calm := X.calm
  pn := X.pn ++ pins
  xe := fun _ _ => False
/-- the cells that the block sees are the def's -/
def InCells (cells : List (Str × Addr)) : List (Str × Addr) → Prop
  | [] => True
  | (x, c) :: r => cells.lookup x = some c ∧ InCells cells r
theorem InCells.look {cells : List (Str × Addr)} : ∀ {cl : List (Str × Addr)} {x : Str} {c : Addr}, InCells cells cl → cl.lookup x = some c → cells.lookup x = some c
  | [], _, _, _, e => by simp at e
  | (y, d) :: r, x, c, h, e => by
    rw [List.lookup_cons] at e
    cases q : x == y with
    | true =>
      rw [q] at e
      have e1 : x = y := eq_of_beq q
      cases e
      rw [e1]; exact h.1
    | false =>
      rw [q] at e
      exact InCells.look h.2 e
/-- a name of the def that the block uses: its slot -/
structure CapOk (X : Cx) (sc : Scope) (cl : List (Str × Addr)) (p : Str × Nat) : Prop where
  n : X.N[p.2]? = some p.1
  k : X.env.scope.names.lookup p.1 = some .cell
  l : cl.lookup p.1 = X.env.cells.lookup p.1
  f : (relabel sc X.env).names.lookup p.1 = some .cell
def CapsOk (X : Cx) (sc : Scope) (cl : List (Str × Addr)) : List (Str × Nat) → Prop
  | [] => True
  | p :: r => CapOk X sc cl p ∧ CapsOk X sc cl r
theorem CapsOk.at {X : Cx} {sc : Scope} {cl : List (Str × Addr)} : ∀ {caps : List (Str × Nat)} {j : Nat} {p : Str × Nat}, CapsOk X sc cl caps → caps[j]? = some p → CapOk X sc cl p
  | [], _, _, _, e => by simp at e
  | q :: r, 0, p, h, e => by simp at e; subst e; exact h.1
  | q :: r, j + 1, p, h, e => CapsOk.at h.2 (by simpa using e)
/-- their names -/
abbrev capn (caps : List (Str × Nat)) : List Str := caps.map fun p => p.1
/-- their values -/
def capv (σ : L2.St) (caps : List (Str × Nat)) : L2.St := caps.map fun p => (σ[p.2]?).join
section
variable {X : Cx} {sc : Scope} {cl : List (Str × Addr)} {pins : List (Addr × Obj)} {σ : L2.St} {H1 : Hp} {s1 : Shared} {fp : List Addr} {N : List Str}
theorem blk_ok (I : Inv X pins σ H1 s1) (hf : ∀ b ∈ fp, FpOk X pins H1 b) (ho : ∀ b ∈ fp, ∃ o, s1.heap.get? b = some o) (hk : sc.kind = .function) (hin : InCells X.env.cells cl)
    (has : ∀ x, ((relabel sc X.env).names.lookup x = some .cell ∨ (relabel sc X.env).names.lookup x = some .free) → ∃ c, cl.lookup x = some c) : (blk X sc cl s1.heap.objs.size N s1 H1 fp pins).Ok where
  mod := I.ok.mod
  kind := hk
  glob := I.ok.glob
  blt := I.ok.blt
  above := Nat.le_refl _
  inj := fun x y c e1 e2 => I.ok.inj x y c (hin.look e1) (hin.look e2)
  has := has
  cab := fun x c e _ => by cases e
  hd := I.ok.hd
  frames := I.ok.frames
  stk := .inl rfl
  exf := fun b hb => ⟨fun z => by
    obtain ⟨o, e⟩ := ho b hb
    exact Nat.ne_of_lt (Heap.lt_size e) z, fun x c e => (hf b hb).2.2.2.2.1 x c (hin.look e)⟩
  bs := fun b o e => I.bs b o e
  bsz := Nat.le_trans I.ok.bsz I.sz
  noex := fun b o e hb => by
    rcases (hf b hb).2.2.2.1 with z | z
    · exact I.ok.noex b o e z
    · exact absurd (Nat.lt_of_lt_of_le (Nat.lt_of_lt_of_le (Heap.lt_size e) I.ok.bsz) z) (Nat.lt_irrefl _)
  exfs := fun b hb z => by
    rcases List.mem_cons.mp (I.stkSub b z) with q | q
    · exact (hf b hb).2.1 q
    · exact (hf b hb).2.2.1 q
  funs := I.stack
  frf := fun b hb => I.stkFree b hb
/-- into the block -/
theorem blk_in {x : Str} {caps : List (Str × Nat)} {h' : Heap} {m : Str → Option Value} {t' : Nat} {o : Obj} (I : Inv X pins σ H1 s1) (ok : (blk X sc cl s1.heap.objs.size (x :: capn caps) s1 H1 fp pins).Ok) (hin : InCells X.env.cells cl) (hcap : CapsOk X sc cl caps)
    (hx : (relabel sc X.env).names.lookup x = some .local) (hn : h'.Ns s1.heap.objs.size m) (hs : Heap.SameBut s1.heap.objs.size (s1.heap.push o) h') :
    Inv (blk X sc cl s1.heap.objs.size (x :: capn caps) s1 H1 fp pins) [] (none :: capv σ caps) H1 { s1 with heap := h', toks := t' } := by
  have kp : ∀ b u, s1.heap.get? b = some u → h'.get? b = some u := fun b u e => (hs.2 b (Nat.ne_of_lt (Heap.lt_size e))).trans (Heap.get?_push_of_some _ e)
  have hfree : H1 s1.heap.objs.size = none := I.hok.fresh (Nat.le_refl _)
  refine ⟨ok, rfl, I.bare, Un.kept kp, ⟨m, hn, fun i y v e1 e2 e3 => ?_⟩, fun y c e => ?_, hfree, fun y c e => I.freeC y c (hin.look e), fun p hp => ?_, I.hok.kept kp, ?_⟩
  · cases i with
    | zero => simp at e2
    | succ j =>
      have e1' : (x :: capn caps)[j + 1]? = some y := e1
      rw [List.getElem?_cons_succ] at e1'
      have e2' : (capv σ caps)[j]? = some (some v) := by simpa using e2
      rw [List.getElem?_map] at e1'
      unfold capv at e2'
      rw [List.getElem?_map] at e2'
      cases q : caps[j]? with
      | none => rw [q] at e1'; cases e1'
      | some p =>
        rw [q] at e1' e2'
        have e4 : p.1 = y := Option.some.inj e1'
        have e5 : (σ[p.2]?).join = some v := Option.some.inj e2'
        have hc := hcap.at q
        have e6 : σ[p.2]? = some (some v) := by
          cases z : σ[p.2]? with
          | none => rw [z] at e5; cases e5
          | some w' =>
            rw [z] at e5
            have : w' = some v := e5
            rw [this]
        obtain ⟨mm, hnn, hl⟩ := I.loc
        obtain ⟨u, r, lk⟩ := hl p.2 p.1 v hc.n e6 (.inr (.inl hc.k))
        refine ⟨u, r, .inr ⟨.inl (by rw [← e4]; exact hc.f), ?_⟩⟩
        rcases lk with ⟨k1, _⟩ | ⟨_, c, hcl, ce⟩
        · have : X.env.scope.names.lookup p.1 = some .local := k1
          rw [hc.k] at this; cases this
        · obtain ⟨oc, hoc, hd⟩ := ce
          exact ⟨c, by rw [← e4]; exact hc.l.trans hcl, oc, kp _ _ hoc, hd⟩
  · obtain ⟨v, oc, hoc, hd⟩ := I.cell y c (hin.look e)
    exact ⟨v, oc, kp _ _ hoc, hd⟩
  · have hp' : p ∈ (X.pn ++ pins) ++ [] := hp
    rw [List.append_nil] at hp'
    obtain ⟨a1, a2, a3, a4, a5⟩ := I.pin p hp'
    refine ⟨kp _ _ a1, a2, Nat.ne_of_lt (Heap.lt_size a1), fun z => ?_, a5⟩
    rcases List.mem_cons.mp (I.stkSub _ z) with q | q
    · exact a3 q
    · exact a4 q
  · simp [capv, blk]
/-- out of it -/
theorem blk_out {pins' : List (Addr × Obj)} {σ' : L2.St} {H' : Hp} {s' : Shared} (I : Inv X pins σ H1 s1) (hf : ∀ b ∈ fp, FpOk X pins H1 b) (I' : Inv (blk X sc cl s1.heap.objs.size N s1 H1 fp pins) pins' σ' H' s') : Inv X pins σ H' s' :=
  I.call' (ch := fp) I'.os I'.base I'.hok I'.bare fun b hb => ⟨(hf b hb).2.2.2.1, (hf b hb).2.1, (hf b hb).2.2.2.2.1, (hf b hb).2.2.2.2.2⟩
/-- the block's own dict may change behind it -/
theorem blk_let {H' : Hp} {s' : Shared} {h' : Heap} {σ2 : L2.St} {sA : Shared} (I : Inv X pins σ H1 s1) (I2 : Inv X pins σ2 H' sA) (hn : H' s1.heap.objs.size = none) (hs : Heap.SameBut s1.heap.objs.size sA.heap h') : Inv X pins σ2 H' { sA with heap := h' } :=
  I2.turned (it := s1.heap.objs.size) (t' := sA.toks) (fun b o hb e => (hs.2 b hb).trans e) hn (Nat.ne_of_gt I.lt) (.inr I.sz) (fun x c e z => by
    obtain ⟨v, q⟩ := I.cell x c e
    exact absurd q.lt (by rw [z]; exact Nat.lt_irrefl _)) fun p hp z => by
    have := Heap.lt_size (I.pin p hp).1
    rw [z] at this
    exact absurd this (Nat.lt_irrefl _)
end

/-- the tests of a clause -/
def PTs (X : Cx) (ifs : List Expr) (t : TT) : Prop :=
  ∀ (pins : List (Addr × Obj)) (s : Shared) (σ : L2.St) (H : Hp) (Q : Bool → Hp → Prop), Inv X pins σ H s → t σ H Q →
    wpAny (model X.prog X.w) X.A (forIn ifs true fun c r => if r = true then do let ok ← isTrue c X.env (eval c X.env); pure (ForInStep.yield ok) else pure (ForInStep.yield r)) (TP X pins σ Q) X.xe s
theorem pts_nil {X : Cx} : PTs X [] (fun _ H Q => Q true H) := fun pins s σ H Q I h => wpAny_tests_nil ⟨H, I, h⟩
theorem pts_one {X : Cx} {c : Expr} {t : TT} (h : PT X c t) : PTs X [c] t := fun pins s σ H Q I hw => wpAny_tests_one (h pins s σ H Q I hw)

/-- [elt for x in .. if test]: W says, by the turn and a measure, what holds of the new list's items and the heap -/
def tComp (wi : TI) (caps : List (Str × Nat)) (tt : TT) (te : TE) : TE := fun σ H Q => wi σ H fun J H1 => ∀ p, H1 p = none → ∃ W : Nat → Nat → List V → Hp → Prop, (∃ m, W 0 m [] (upd H1 p (.lst []))) ∧ ∀ i m ys H2, W i m ys H2 → H2 p = some (.lst ys) ∧
  ((J.stop i H2 ∧ Q (.ref p) H2) ∨ (J.go i H2 ∧ ∀ x H3, J.yld i H2 x H3 → tt (some x :: capv σ caps) H3 fun b H4 =>
    if b = true then te (some x :: capv σ caps) H4 fun v H5 => H5 p = some (.lst ys) ∧ ys.length < sizeLine ∧ ∃ m', m' < m ∧ W (i + 1) m' (ys ++ [v]) (upd H5 p (.lst (ys ++ [v])))
    else ∃ m', m' < m ∧ W (i + 1) m' ys H4))
section
variable {X : Cx} {elt iter : Expr} {x : Str} {px pos : Pos} {ifs : List Expr} {sc : Scope} {cl : List (Str × Addr)} {caps : List (Str × Nat)} {wi : TI} {tt : TT} {te : TE}
/-- the walk of the block, to a list at acc -/
theorem comp_core {pins : List (Addr × Obj)} {σ : L2.St} {H : Hp} {s : Shared} {Q : VK} {use : Option (Value → Sem Unit)} {RQ : Value → Shared → Prop} (hc : X.calm = true) (hi : PI X (.Name x px) iter wi) (hclos : closureFor sc X.env = pure cl) (hcell : ∀ y ∈ sc.names, y.2 ≠ .cell) (hkind : sc.kind = .function)
    (hnames : ∀ y ∈ sc.names, y.2 = .local → sc.names.lookup y.1 = some .local) (hx : sc.names.lookup x = some .local) (hin : InCells X.env.cells cl)
    (has : ∀ y, ((relabel sc X.env).names.lookup y = some .cell ∨ (relabel sc X.env).names.lookup y = some .free) → ∃ c, cl.lookup y = some c) (hcap : CapsOk X sc cl caps) (hN : (x :: capn caps).Nodup)
    (ht : ∀ C s1 H1 fp pins, PTs (blk X sc cl C (x :: capn caps) s1 H1 fp pins) ifs tt) (he : ∀ C s1 H1 fp pins, PE (blk X sc cl C (x :: capn caps) s1 H1 fp pins) elt te)
    (I : Inv X pins σ H s) (h : tComp wi caps tt te σ H Q)
    (fin : ∀ (C D : Addr) (H' : Hp) (s1 s' : Shared) (H1 : Hp), C = s1.heap.objs.size → Inv X pins σ H1 s1 → Inv X pins σ H' s' → H' C = none → (∃ m, s'.heap.Ns C m) → Q (.ref D) H' → compPost (model X.prog X.w) X.A X.xe use RQ (.ref D) C (.ok .next) s')
    (hs : ∀ v, foldedSetIterable iter X.env v = pure v) :
    wpAny (model X.prog X.w) X.A (comprehension (.ListComp elt [⟨.Name x px, iter, ifs, 0⟩] sc pos) sc X.env (firstIterPos [⟨.Name x px, iter, ifs, 0⟩] pos) (newList []) false (eval iter X.env) use) RQ X.xe s := by
  refine wpAny_comprehension_free rfl hs hclos hkind hnames (thn (hi pins s σ H _ I h) fun v s1 h1 => thn h1 fun itv s2 h2 => ?_)
  obtain ⟨it, fp, tn, J, H2, e, I2, T, st2, f2, hW⟩ := h2
  subst e
  refine wpAny_newObj_type ?_
  have hfresh : H2 s2.heap.objs.size = none := I2.hok.fresh (Nat.le_refl _)
  have I3 : Inv X pins σ (upd H2 s2.heap.objs.size (.lst [])) { s2 with heap := s2.heap.push { cls := .type "list", dict := none, data := .seq ([] : List Value).toArray } } := I2.lnew (t' := s2.toks) (its := []) .nil (Nat.zero_le _)
  obtain ⟨W, ⟨m0, w0⟩, turn⟩ := hW s2.heap.objs.size hfresh
  have fpn : ∀ b ∈ fp, b ≠ s2.heap.objs.size := fun b hb z => by
    obtain ⟨o, e, _⟩ := T.obj 0 _ st2 b hb
    exact absurd (Heap.lt_size e) (by rw [z]; exact Nat.lt_irrefl _)
  have f3 : ∀ b ∈ fp, FpOk X pins (upd H2 s2.heap.objs.size (.lst [])) b := fun b hb => ⟨by rw [upd_ne (fpn b hb)]; exact (f2 b hb).1, (f2 b hb).2⟩
  have st3 : tn 0 (s2.heap.push { cls := .type "list", dict := none, data := .seq ([] : List Value).toArray }) := T.keep 0 _ _ st2 fun b hb o e => Heap.get?_push_of_some _ e
  obtain ⟨D, hD⟩ : ∃ D, D = s2.heap.objs.size := ⟨_, rfl⟩
  obtain ⟨H3, hH3⟩ : ∃ H3, H3 = upd H2 s2.heap.objs.size (.lst []) := ⟨_, rfl⟩
  obtain ⟨s3, hs3⟩ : ∃ s3 : Shared, s3 = { s2 with heap := s2.heap.push { cls := .type "list", dict := none, data := .seq ([] : List Value).toArray } } := ⟨_, rfl⟩
  have st3' : tn 0 s3.heap := by rw [hs3]; exact st3
  rw [← hH3] at I3 f3 w0
  rw [← hs3] at I3
  rw [← hD] at turn
  show wpAny _ _ _ _ _ ({ s2 with heap := s2.heap.push { cls := .type "list", dict := none, data := .seq ([] : List Value).toArray } } : Shared)
  rw [← hs3, ← hD]
  refine wpAny_newFunctionEnv hcell (by intro y hy; simp at hy) (fun h1 hn1 hs1 => ?_) hkind
  have ok := blk_ok (N := x :: capn caps) I3 f3 (fun b hb => let ⟨o, e, _⟩ := T.obj 0 _ st3' b hb; ⟨o, e⟩) hkind hin has
  have hx' : (relabel sc X.env).names.lookup x = some .local := lookup_relabel_local hx
  have J4 := blk_in (t' := s3.toks + ([] : List (Str × Value)).length) I3 ok hin hcap hx' hn1 hs1
  have st4 : tn 0 h1 := T.keep 0 _ _ st3' fun b hb o e => (hs1.2 b (Nat.ne_of_lt (Heap.lt_size e))).trans (Heap.get?_push_of_some _ e)
  have stat : ∀ {H' : Hp}, (∀ b ∈ fp, H' b = none) → ∀ b ∈ fp, FpOk (blk X sc cl s3.heap.objs.size (x :: capn caps) s3 H3 fp pins) [] H' b := fun hn b hb => by
    refine ⟨hn b hb, ?_, fun z => ok.exfs b hb z, .inl hb, fun y c e => (f3 b hb).2.2.2.2.1 y c (hin.look e), fun p hp => ?_⟩
    · exact (ok.exf b hb).1
    · have hp' : p ∈ (X.pn ++ pins) ++ [] := hp
      rw [List.append_nil] at hp'
      exact (f3 b hb).2.2.2.2.2 p hp'
  have loop : ∀ s4 : Shared, s4 = { s3 with heap := h1, toks := s3.toks + ([] : List (Str × Value)).length } →
      codeAny (model X.prog X.w) X.A (.compLoop (.ListComp elt [⟨.Name x px, iter, ifs, 0⟩] sc pos) 0 (.ref it) (.ref D) (compEnvC sc cl s3.heap.objs.size X.env)) (compPost (model X.prog X.w) X.A X.xe use RQ (.ref D) s3.heap.objs.size) s4 := by
    rintro s4 rfl
    refine comp_loop (fun k s' => ∃ i v0 ys H', Inv (blk X sc cl s3.heap.objs.size (x :: capn caps) s3 H3 fp pins) [] (v0 :: capv σ caps) H' s' ∧ tn i s'.heap ∧ (∀ b ∈ fp, H' b = none) ∧ W i k ys H') ?_ m0
      ⟨0, none, [], H3, J4, st4, fun b hb => (f3 b hb).1, w0⟩
    rintro k s5 ⟨i, v0, ys, H5, I5, st5, fr5, w5⟩
    obtain ⟨hD5, stop | ⟨go, step⟩⟩ := turn i k ys H5 w5
    · obtain ⟨stop, q⟩ := stop
      refine thn (T.done (blk X sc cl s3.heap.objs.size (x :: capn caps) s3 H3 fp pins) rfl rfl rfl hc i [] s5 _ H5 (fun _ _ => False) I5 (stat fr5) st5 stop) fun r s6 ⟨hr, I6⟩ => ?_
      subst hr
      obtain ⟨mm, hnn, _⟩ := I6.loc
      exact fin _ D H5 s3 s6 H3 rfl I3 (blk_out I3 f3 I6) I6.free ⟨mm, hnn⟩ q
    · refine thn (T.item (blk X sc cl s3.heap.objs.size (x :: capn caps) s3 H3 fp pins) rfl rfl rfl hc i [] s5 _ H5 (fun _ _ => False) I5 (stat fr5) st5 go) fun r s6 ⟨u, hr, h6⟩ => ?_
      subst hr
      refine thn h6 fun _ s7 ⟨y, H7, I7, r7, y7, st7, fr7⟩ => ?_
      have I7' := I7.pinned (stat fr7) (T.obj _ _ st7)
      refine thn (pg_name (X := blk X sc cl s3.heap.objs.size (x :: capn caps) s3 H3 fp pins) (i := 0) hN rfl (.inl hx') (.inr hx') _ s7 (v0 :: capv σ caps) H7 y u (fun σ' H' => σ' = some y :: capv σ caps ∧ H' = H7) I7' r7 ⟨rfl, rfl⟩) fun _ s8 ⟨σ8, H8, I8, e8, e8'⟩ => ?_
      subst e8
      subst e8'
      have back : ∀ {σ9 : L2.St} {H9 : Hp} {s9 : Shared}, Inv (blk X sc cl s3.heap.objs.size (x :: capn caps) s3 H3 fp pins) ([] ++ pinsAt fp s7.heap) σ9 H9 s9 → tn (i + 1) s9.heap ∧ ∀ b ∈ fp, H9 b = none := fun {σ9 H9 s9} I9 => by
        refine ⟨T.keep _ _ _ st7 fun b hb o e => (I9.pin (b, o) (List.mem_append_right _ (List.mem_append_right _ (mem_pinsAt hb e)))).1, fun b hb => ?_⟩
        obtain ⟨o, e, d⟩ := T.obj _ _ st7 b hb
        exact (I9.pin (b, o) (List.mem_append_right _ (List.mem_append_right _ (mem_pinsAt hb e)))).2.1
      refine thn (ht _ _ _ _ _ _ s8 _ _ _ I8 (step y _ y7)) fun ok s9 ⟨H9, I9, q9⟩ => ?_
      cases ok with
      | false =>
        simp only [Bool.false_eq_true, if_false] at q9 ⊢
        obtain ⟨m', hm, w9⟩ := q9
        exact ⟨m', hm, i + 1, some y, ys, H9, I9.unpinned, (back I9).1, (back I9).2, w9⟩
      | true =>
        simp only [if_true] at q9 ⊢
        refine thn (he _ _ _ _ _ _ s9 _ _ _ I9 q9) fun xv s10 ⟨v, H10, I10, r10, hD10, hlt, m', hm, w10⟩ => ?_
        refine thn (mt_append (X := blk X sc cl s3.heap.objs.size (x :: capn caps) s3 H3 fp pins) _ s10 _ H10 (.ref D) [v] (.ref D) [xv] (fun _ H' => H' = upd H10 D (.lst (ys ++ [v]))) I10 rfl (.cons r10 .nil) ⟨D, ys, v, rfl, rfl, hD10, hlt, rfl⟩) fun _ s11 ⟨_, H11, I11, _, e11⟩ => ?_
        subst e11
        exact ⟨m', hm, i + 1, some y, ys ++ [v], _, I11.unpinned, (back I11).1, (back I11).2, w10⟩
  exact codeAny_compStart_list (loop _ rfl) (T.self _ 0 _ _ _ st4 (loop _ rfl))
/-- a comprehension as a value -/
theorem pe_comp (hc : X.calm = true) (hi : PI X (.Name x px) iter wi) (hclos : closureFor sc X.env = pure cl) (hcell : ∀ y ∈ sc.names, y.2 ≠ .cell) (hkind : sc.kind = .function)
    (hnames : ∀ y ∈ sc.names, y.2 = .local → sc.names.lookup y.1 = some .local) (hx : sc.names.lookup x = some .local) (hin : InCells X.env.cells cl)
    (has : ∀ y, ((relabel sc X.env).names.lookup y = some .cell ∨ (relabel sc X.env).names.lookup y = some .free) → ∃ c, cl.lookup y = some c) (hcap : CapsOk X sc cl caps) (hN : (x :: capn caps).Nodup)
    (ht : ∀ C s1 H1 fp pins, PTs (blk X sc cl C (x :: capn caps) s1 H1 fp pins) ifs tt) (he : ∀ C s1 H1 fp pins, PE (blk X sc cl C (x :: capn caps) s1 H1 fp pins) elt te)
    (hs : ∀ v, foldedSetIterable iter X.env v = pure v := by intro _; rfl) : PE X (.ListComp elt [⟨.Name x px, iter, ifs, 0⟩] sc pos) (tComp wi caps tt te) := by
  intro pins s σ H Q I h
  rw [eval_ListComp]
  refine comp_core (use := none) hc hi hclos hcell hkind hnames hx hin has hcap hN ht he I h (fun C D H' s1 s' H1 hC I1 I' hn ⟨m, hm⟩ q => ?_) hs
  subst hC
  exact ⟨m, hm, fun h' hs' => ⟨.ref D, H', blk_let (s' := s') I1 I' hn hs', rfl, q⟩⟩
/-- y = [..], y a local name: stored ahead of the end of the block -/
theorem ps_comp {i : Nat} {y : Str} {py spos : Pos} (hN' : X.N.Nodup) (hi' : X.N[i]? = some y) (hy : X.env.scope.names.lookup y = some .local)
    (hsw : swapsWith (.ListComp elt [⟨.Name x px, iter, ifs, 0⟩] sc pos) (some (.Name y py)) spos.line X.env = pure true)
    (hc : X.calm = true) (hi : PI X (.Name x px) iter wi) (hclos : closureFor sc X.env = pure cl) (hcell : ∀ y ∈ sc.names, y.2 ≠ .cell) (hkind : sc.kind = .function)
    (hnames : ∀ y ∈ sc.names, y.2 = .local → sc.names.lookup y.1 = some .local) (hx : sc.names.lookup x = some .local) (hin : InCells X.env.cells cl)
    (has : ∀ y, ((relabel sc X.env).names.lookup y = some .cell ∨ (relabel sc X.env).names.lookup y = some .free) → ∃ c, cl.lookup y = some c) (hcap : CapsOk X sc cl caps) (hN : (x :: capn caps).Nodup)
    (ht : ∀ C s1 H1 fp pins, PTs (blk X sc cl C (x :: capn caps) s1 H1 fp pins) ifs tt) (he : ∀ C s1 H1 fp pins, PE (blk X sc cl C (x :: capn caps) s1 H1 fp pins) elt te)
    (hs : ∀ v, foldedSetIterable iter X.env v = pure v := by intro _; rfl) :
    PS X (.Assign [.Name y py] (.ListComp elt [⟨.Name x px, iter, ifs, 0⟩] sc pos) spos) (fun D σ H => tComp wi caps tt te σ H fun v H' => D.nx (σ.set i (some v)) H') := by
  intro pins s σ H D I h
  rw [exec_Assign_Name_used _ _ _ _ hsw]
  refine wpAny_bind (wpAny_standAt (wpAny_bind ?_))
  show wpAny _ X.A (do let _ ← comprehension (.ListComp elt [⟨.Name x px, iter, ifs, 0⟩] sc pos) sc X.env _ (newList []) false (eval iter X.env) (some (assign (.Name y py) X.env))) _ _ s
  refine wpAny_bind (wpAny_mono (comp_core (use := some (assign (.Name y py) X.env)) (RQ := fun _ s' => SP X pins D .next s') hc hi hclos hcell hkind hnames hx hin has hcap hN ht he I h (fun C Dd H' s1 s' H1 hC I1 I' hn ⟨m, hm⟩ q => ?_) hs) (fun _ s' hq => wpAny_pure (wpAny_pure hq)) fun _ _ e => e)
  subst hC
  show wpAny _ _ (assign (.Name y py) X.env (.ref Dd)) _ _ _
  refine wpAny_assign_Name (store_ok2 I' hN' hi' (.inl hy) (show RelV (.ref Dd) (.ref Dd) from rfl) (fun s2 I2 ⟨a, hs2, ha⟩ => ?_) (.inr hy))
  have hCa : s1.heap.objs.size ≠ a := by
    rcases ha with z | z
    · rw [z]; exact Nat.ne_of_gt I1.lt
    · intro z2
      obtain ⟨v, qc⟩ := I1.cell y a z
      exact absurd qc.lt (by rw [← z2]; exact Nat.lt_irrefl _)
  exact ⟨m, hm.sameBut hs2 hCa, fun h' hs' => ⟨_, H', blk_let (s' := s') I1 I2 hn hs', q⟩⟩
end
end FX

/-! ## D: walking a dict whose keys are tuples -/
namespace FX
open PySem PySem.Spec PyProof.Rows L2
/-- the dict's entries as they lie -/
def RawD (h : Heap) (d : Addr) (es : Array DictEntry) (ep : Nat) : Prop := ∃ o, h.get? d = some o ∧ o.ExactDict ∧ o.data = .dict es ep
theorem RawD.at {h h' : Heap} {d : Addr} {es : Array DictEntry} {ep : Nat} (x : RawD h d es ep) (k : ∀ o, h.get? d = some o → h'.get? d = some o) : RawD h' d es ep := let ⟨o, e, r⟩ := x; ⟨o, k o e, r⟩
section
variable {prog : Program} {w : World} {A : Around} {E : Value → Shared → Prop} {s : Shared} {d it : Addr} {es : Array DictEntry} {ep i : Nat}
theorem raw_iter {Q : Value → Shared → Prop} (nos : (d == sysModules) = false) (hm : RawD s.heap d es ep)
    (hQ : Q (.ref s.heap.objs.size) { s with heap := s.heap.push { cls := .type "dict_keyiterator", data := .fields #[.ref d, .int 0 0, .int es.size 0, .int ep 0] } }) : wpAny (model prog w) A (pyIter (.ref d)) Q E s := by
  obtain ⟨ob, g1, g2, g3⟩ := id hm
  have tD : s.TypeIs (.ref d) "dict" := ⟨ob, g1, g2.1⟩
  refine wpAny_pyIter_slot tD F.slot_dict_iter (wpAny_call_entry F.slot_dict_iter tD F.entry_dict_iter ?_ (F.args_dict_iter_1 _))
  unfold Builtin.«dict.__iter__»
  refine wpAny_bind ?_
  unfold Builtin.Dict.dictSlotNone
  refine wpAny_bind (wpAny_notOrdered_dict tD ?_)
  show wpAny _ _ (pure (Value.ref d)) _ _ s
  refine wpAny_pure ?_
  show wpAny _ _ (Builtin.Dict.showsAll d >>= _) _ _ s
  unfold Builtin.Dict.showsAll
  rw [if_neg (by rw [nos]; exact Bool.false_ne_true)]
  refine wpAny_bind (wpAny_pure ?_)
  refine wpAny_bind (wpAny_dictEntries g1 g3 (wpAny_bind (wpAny_dictEpoch g1 g3 ?_)))
  refine wpAny_bind (wpAny_newObj_type (wpAny_pure ⟨_, rfl, "dict_keyiterator", _, ⟨_, Heap.get?_push_size _ rfl, rfl⟩, F.slot_dict_keyiterator_next.lookup, by simpa [rawInt] using hQ⟩))
theorem raw_next {e : DictEntry} {Q : Option Value → Shared → Prop} (hit : s.heap.IsKeyIter it d i es.size ep) (hm : RawD s.heap d es ep) (hx : es[i]? = some e)
    (hQ : ∀ h', h'.IsKeyIter it d (i + 1) es.size ep → Heap.SameBut it s.heap h' → Q (some e.key) { s with heap := h' }) : wpAny (model prog w) A (pyNext (.ref it)) Q E s := by
  obtain ⟨oi, i1, i2, i3⟩ := id hit
  obtain ⟨ob, g1, g2, g3⟩ := id hm
  have tI := hit.typeIs
  unfold pyNext
  refine wpAny_bind (wpAny_attempt (wpAny_callSpecial?_slot (name := Str.ofString "__next__") tI F.slot_dict_keyiterator_next (wpAny_call_entry F.slot_dict_keyiterator_next tI F.entry_dict_keyiterator_next ?_ (F.args_dict_keyiterator_next_1 _))))
  refine wpAny_bind (wpAny_pure (wpAny_bind (wpAny_bind ?_)))
  first | refine wpAny_bind (wpAny_typeNameOfWhole_keyiter tI (wpAny_pure ?_)) | refine wpAny_bind (wpAny_typeNameOf_keyiter tI (wpAny_pure ?_))
  refine wpAny_bind (wpAny_fieldsOf i1 i3 ?_)
  have notOwn : Builtin.Dict_items.ownsTuple "dict_keyiterator" = false := by decide
  simp only [notOwn, Bool.false_eq_true, if_false]
  show wpAny _ _ (if (Value.ref d == Value.none) = true then _ else _) _ _ s
  rw [if_neg (show ¬ ((Value.ref d == Value.none) = true) from Bool.false_ne_true)]
  refine wpAny_bind (wpAny_pure (wpAny_bind (wpAny_dictEntries g1 g3 ?_)))
  rw [if_neg (by simp)]
  refine wpAny_bind (wpAny_pure (wpAny_bind (wpAny_dictEpoch g1 g3 ?_)))
  rw [if_neg (by simp)]
  refine wpAny_pure ?_
  have lt : i < es.size := (Array.getElem?_eq_some_iff.mp hx).1
  have ee : es[i] = e := (Array.getElem?_eq_some_iff.mp hx).2
  simp only [show ¬ ((i : Int) < 0) from by omega, if_false, Int.toNat_natCast, Array.getElem?_eq_getElem lt]
  refine wpAny_bind ?_
  first | refine wpAny_bind (wpAny_typeNameOfWhole_keyiter tI (wpAny_pure ?_)) | refine wpAny_bind (wpAny_typeNameOf_keyiter tI (wpAny_pure ?_))
  refine wpAny_bind (wpAny_isOneOf_keyiter tI ?_)
  show wpAny _ _ (setField (.ref it) 1 (rawInt ((i : Int) + 1)) >>= _) _ _ s
  refine wpAny_bind (wpAny_setField i1 i3 (by simp) ?_)
  have hit' : (s.heap.update it (Obj.mapFields (·.setIfInBounds 1 (rawInt ((i : Int) + 1))))).IsKeyIter it d (i + 1) es.size ep :=
    ⟨_, Heap.get?_update_self _ i1 (Obj.isFreed_of_fields (Obj.data_mapFields i3 _)), (Obj.cls_mapFields ..).trans i2, by rw [Obj.data_mapFields i3]; simp [rawInt]⟩
  refine wpAny_bind (wpAny_holding ?_)
  refine wpAny_bind (wpAny_isOneOf_keyiter (s := { s with heap := s.heap.update it (Obj.mapFields (·.setIfInBounds 1 (rawInt ((i : Int) + 1)))) }) hit'.typeIs ?_)
  show wpAny _ _ (pure es[i].key) _ _ _
  rw [ee]
  exact wpAny_pure (wpAny_pure ⟨_, rfl, wpAny_pure (hQ _ hit' (Heap.SameBut.update ..))⟩)
theorem raw_end {Q : Option Value → Shared → Prop} (hh : A.handled = none) (hit : s.heap.IsKeyIter it d i es.size ep) (hm : RawD s.heap d es ep) (hx : es.size ≤ i)
    (hQ : ∀ h', Heap.ExtBut it s.heap h' → Q none { s with heap := h' }) : wpAny (model prog w) A (pyNext (.ref it)) Q E s := by
  obtain ⟨oi, i1, i2, i3⟩ := id hit
  obtain ⟨ob, g1, g2, g3⟩ := id hm
  have tI := hit.typeIs
  unfold pyNext
  refine wpAny_bind (wpAny_attempt (wpAny_callSpecial?_slot (name := Str.ofString "__next__") tI F.slot_dict_keyiterator_next (wpAny_call_entry F.slot_dict_keyiterator_next tI F.entry_dict_keyiterator_next ?_ (F.args_dict_keyiterator_next_1 _))))
  refine wpAny_bind (wpAny_pure (wpAny_bind (wpAny_bind ?_)))
  first | refine wpAny_bind (wpAny_typeNameOfWhole_keyiter tI (wpAny_pure ?_)) | refine wpAny_bind (wpAny_typeNameOf_keyiter tI (wpAny_pure ?_))
  refine wpAny_bind (wpAny_fieldsOf i1 i3 ?_)
  have notOwn : Builtin.Dict_items.ownsTuple "dict_keyiterator" = false := by decide
  simp only [notOwn, Bool.false_eq_true, if_false]
  show wpAny _ _ (if (Value.ref d == Value.none) = true then _ else _) _ _ s
  rw [if_neg (show ¬ ((Value.ref d == Value.none) = true) from Bool.false_ne_true)]
  refine wpAny_bind (wpAny_pure (wpAny_bind (wpAny_dictEntries g1 g3 ?_)))
  rw [if_neg (by simp)]
  refine wpAny_bind (wpAny_pure (wpAny_bind (wpAny_dictEpoch g1 g3 ?_)))
  rw [if_neg (by simp)]
  refine wpAny_pure ?_
  simp only [show ¬ ((i : Int) < 0) from by omega, if_false, Int.toNat_natCast, Array.getElem?_eq_none hx]
  refine wpAny_bind ?_
  first | refine wpAny_bind (wpAny_typeNameOfWhole_keyiter tI (wpAny_pure ?_)) | refine wpAny_bind (wpAny_typeNameOf_keyiter tI (wpAny_pure ?_))
  show wpAny _ _ (setField (.ref it) 0 .none >>= _) _ _ s
  refine wpAny_bind (wpAny_setField i1 i3 (by simp) ?_)
  show wpAny _ _ (newExc (.type "StopIteration") [] >>= _) _ _ _
  refine wpAny_bind ?_
  simp only [newExc, newTuple]
  refine wpAny_bind (wpAny_newObj_type ?_ (by size_fits))
  refine wpAny_bind (m := firstArgMember _ _) (wpAny_of_eq (a := Value.none) (by first | rfl | (simp only [firstArgMember]; rfl)) ?_)
  refine wpAny_newObj_type ?_ (by size_fits)
  simp only [raiseNew]
  refine wpAny_bind (wpAny_handled ?_)
  rw [show A.in1.handled = none from hh]
  refine wpAny_bind (wpAny_pure (wpAny_throw ?_))
  refine wpAny_bind (wpAny_isInstance (T := "StopIteration") (b := true) ⟨_, Heap.get?_push_size _ rfl, rfl⟩ isSubtype_stop ?_)
  exact wpAny_pure (hQ _ (((Heap.SameBut.update ..).extBut.push _).push _))
end
/-- keys of a dict with tuple keys: the tuples that stand there -/
def Kys (H : Hp) (kvs : List (List Key × V)) (as : List Addr) : Prop := Paired (fun (p : List Key × V) (a : Addr) => H a = some (.tup (p.1.map kV))) kvs as
section
variable {X : Cx} {pins : List (Addr × Obj)} {σ : L2.St} {H : Hp} {s : Shared} {d : Addr} {kvs : List (List Key × V)}
theorem kt_keys : ∀ {kvs : List (List Key × V)} {xs : List (List Key × Addr × Value)}, KT H kvs xs → Kys H kvs (xs.map (·.2.1))
  | _, _, .nil => .nil
  | _, _, .cons r t => .cons r.2.1 (kt_keys t)
/-- the raw entries of a tracked dict -/
theorem dt_raw (I : Inv X pins σ H s) (e : Rd H d (.dT kvs)) : kvs.length ≤ sizeLine ∧ (d == sysModules) = false ∧ ∃ (es : Array DictEntry) (ep : Nat) (as : List Addr), RawD s.heap d es ep ∧ es.size = kvs.length ∧ Kys H kvs as ∧ ∀ j (h : j < es.size), ∃ a, as[j]? = some a ∧ es[j].key = .ref a := by
  obtain ⟨z, lo, xs, rel, o, es, ep, g1, g2, g3, g4, g5⟩ := (show ObjOk X.prog X.w H s.heap d (.dT kvs) from e.ok I.hok)
  have hl : es.size = xs.length := by
    have := congrArg List.length g4
    simpa using this
  refine ⟨z, lo, es, ep, xs.map (·.2.1), ⟨o, g1, g2, g3⟩, by rw [hl]; exact (Paired.length rel).symm, kt_keys rel, fun j h => ?_⟩
  have hj : j < xs.length := by omega
  have e1 : es.toList[j]? = some es[j] := by simp [h]
  rw [g4, List.getElem?_map] at e1
  have e2 : xs[j]? = some xs[j] := by simp [hj]
  rw [e2] at e1
  refine ⟨xs[j].2.1, by rw [List.getElem?_map, e2]; rfl, ?_⟩
  have e3 : entryOfKey (tupleKind (mixKind X.prog X.w)) xs[j] = es[j] := Option.some.inj e1
  rw [← e3]; rfl
end
/-! ### a dict while it is walked is known to the object -/
section
variable {X : Cx} {pins : List (Addr × Obj)} {σ : L2.St} {H : Hp} {s : Shared} {d : Addr}
/-- nothing but the way in which one object is told has changed -/
theorem inv_retold {u : HO} (I : Inv X pins σ H s) (hd : ∃ o, H d = some o) (nt : ∀ xs, H d ≠ some (.tup xs)) (no : ∀ y, H d ≠ some (.own y)) (nf : ∀ o v, X.H₀ d ≠ some (.frz o v)) (ntb : ∀ ps, H d ≠ some (.tbl ps))
    (new : ObjOk X.prog X.w (upd H d u) s.heap d u) : Inv X pins σ (upd H d u) s := by
  obtain ⟨o, hd⟩ := hd
  have fr : ∀ b, H b = none → (upd H d u) b = none := fun b n => by
    rw [upd_ne fun z => by rw [z, hd] at n; cases n]; exact n
  refine ⟨I.ok, I.os, I.bare, ⟨I.base.keep, I.base.slot, fun b ob e n hx => fr b (I.base.free b ob e n hx), I.base.there, fun b xs e => ?_, fun b ob v e => ?_, fun b ps e => ?_⟩, I.loc, I.cell, fr _ I.free, fun y c e => fr _ (I.freeC y c e), fun p hp => ?_, fun b v e => ?_, I.len⟩
  · have := I.base.tups b xs e
    rw [upd_ne fun z => nt xs (by rw [← z]; exact this)]; exact this
  · have := I.base.frzs b ob v e
    rw [upd_ne fun z => nf ob v (by rw [← z]; exact e)]; exact this
  · obtain ⟨more, q⟩ := I.base.tbls b ps e
    exact ⟨more, by rw [upd_ne fun z => ntb _ (by rw [← z]; exact q)]; exact q⟩
  · obtain ⟨a1, a2, a3⟩ := I.pin p hp
    exact ⟨a1, fr _ a2, a3⟩
  · by_cases hb : b = d
    · subst hb
      rw [upd_same] at e
      cases e
      exact new
    · rw [upd_ne hb] at e
      refine (I.hok b v e).stay (fun c w' _ q => q) (fun c q => ?_) fun c xs q => ?_
      · rw [upd_ne fun z => no _ (by rw [← z]; exact q)]; exact q
      · rw [upd_ne fun z => nt _ (by rw [← z]; exact q)]; exact q
theorem inv_freeze {kvs : List (List Key × V)} (I : Inv X pins σ H s) (e : H d = some (.dT kvs)) : ∃ o, s.heap.get? d = some o ∧ Inv X pins σ (upd H d (.frz o (.dT kvs))) s := by
  have ok := I.hok d _ e
  obtain ⟨_, _, xs, _, o, es, ep, g, _⟩ := id ok
  refine ⟨o, g, inv_retold I ⟨_, e⟩ (fun xs z => by rw [e] at z; cases z) (fun y z => by rw [e] at z; cases z) (fun ob v z => by have := I.base.frzs d ob v z; rw [e] at this; cases this) (fun ps z => by rw [e] at z; cases z) ⟨g, ?_⟩⟩
  refine ok.stay (fun c w' _ q => q) (fun c q => ?_) fun c xs q => ?_
  · rw [upd_ne fun z => by rw [z, e] at q; cases q]; exact q
  · rw [upd_ne fun z => by rw [z, e] at q; cases q]; exact q
theorem inv_thaw {o : Obj} {u : HO} (I : Inv X pins σ H s) (e : H d = some (.frz o u)) (nf : ∀ o v, X.H₀ d ≠ some (.frz o v)) : Inv X pins σ (upd H d u) s := by
  obtain ⟨g, ok⟩ := (show ObjOk X.prog X.w H s.heap d (.frz o u) from I.hok d _ e)
  refine inv_retold I ⟨_, e⟩ (fun xs z => by rw [e] at z; cases z) (fun y z => by rw [e] at z; cases z) nf (fun ps z => by rw [e] at z; cases z) ?_
  refine ok.stay (fun c w' _ q => q) (fun c q => ?_) fun c xs q => ?_
  · rw [upd_ne fun z => by rw [z, e] at q; cases q]; exact q
  · rw [upd_ne fun z => by rw [z, e] at q; cases q]; exact q
/-- behind an expression, a statement: what was frozen within is thawed -/
def Thaw (H₀ H H' : Hp) : Prop := ∃ d o u, H d = some (.frz o u) ∧ (∀ o v, H₀ d ≠ some (.frz o v)) ∧ H' = upd H d u
theorem PSs.thaw {sts : List Stmt} {t : TS} (h : PSs X sts t) : PSs X sts (fun D σ H => ∃ H2, Thaw X.H₀ H H2 ∧ t D σ H2) := fun pins s σ H D I ⟨H2, ⟨d, o, w', e1, e2, e3⟩, q⟩ => by
  subst e3
  exact h pins s σ _ D (inv_thaw I e1 e2) q
end
/-- walking the keys -/
def ItD (d : Addr) (kvs : List (List Key × V)) (o : Obj) : It :=
  ⟨fun i H => H d = some (.frz o (.dT kvs)) ∧ i < kvs.length, fun i H x H' => H' = H ∧ ∃ a k v, x = .ref a ∧ kvs[i]? = some (k, v) ∧ H a = some (.tup (k.map kV)), fun i H => H d = some (.frz o (.dT kvs)) ∧ kvs.length ≤ i⟩
theorem turn_dict {P : Program} {w : World} {K : PySem.W.Frag} {tg : Expr} (d it : Addr) (kvs : List (List Key × V)) (o : Obj) (es : Array DictEntry) (ep : Nat) (ho : o.ExactDict) (hd : o.data = .dict es ep) (hz : es.size = kvs.length) : Turn P w K tg (ItD d kvs o) [it] it (fun i h => h.IsKeyIter it d i es.size ep) where
  mem := by simp
  obj := fun i h st b hb => by
    have e : b = it := by simpa using hb
    subst e
    obtain ⟨oi, e, c, q⟩ := st
    exact ⟨oi, e, fun v z => by rw [q] at z; cases z⟩
  keep := fun i h h' ⟨oi, e, r⟩ k => ⟨oi, k it (by simp) oi e, r⟩
  item := by
    intro X hP hw hK hc i pins s σ H E I hf st ⟨hg, hi⟩
    subst hP hw hK
    obtain ⟨f0, f1, f2, f3, f4, f5⟩ := hf it (by simp)
    have g : s.heap.get? d = some o := (show ObjOk X.prog X.w H s.heap d (.frz o (.dT kvs)) from I.hok d _ hg).1
    obtain ⟨_, _, es', ep', as, ⟨o', g', q1, q2⟩, z', ks, at_⟩ := dt_raw I (.inr ⟨o, hg⟩)
    rw [g] at g'; cases g'
    rw [hd] at q2
    injection q2 with q2 q3
    subst q2; subst q3
    have lt : i < es.size := by omega
    obtain ⟨a, ha, hk⟩ := at_ i lt
    have hx : kvs[i]? = some kvs[i] := by simp [hi]
    refine raw_next st ⟨o, g, ho, hd⟩ (e := es[i]) (by simp [lt]) fun h' st' sb => ?_
    have I1 : Inv X pins σ H { s with heap := h' } := I.turned (t' := s.toks) (fun b ob hb e => (sb.2 b hb).trans e) f0 f1 f3 f4 f5
    obtain ⟨oi, e, c, q⟩ := id st'
    refine ⟨_, rfl, go_of (s := { s with heap := h' }) e c q (by decide) ⟨.ref a, H, I1, hk, ⟨rfl, a, kvs[i].1, kvs[i].2, rfl, hx, paired_get ks i kvs[i] a hx ha⟩, st', fun b hb => (hf b hb).1⟩⟩
  done := by
    intro X hP hw hK hc i pins s σ H E I hf st ⟨hg, hi⟩
    subst hP hw hK
    obtain ⟨f0, f1, f2, f3, f4, f5⟩ := hf it (by simp)
    have g : s.heap.get? d = some o := (show ObjOk X.prog X.w H s.heap d (.frz o (.dT kvs)) from I.hok d _ hg).1
    exact raw_end (I.ok.hd hc) st ⟨o, g, ho, hd⟩ (by omega) fun h' eb => ⟨rfl, I.turned (t' := s.toks) (fun b ob hb e => eb b ob hb e) f0 f1 f3 f4 f5⟩
  self := fun _ _ _ _ _ st h => wpAny_pyIter_keyiter st h
section
variable {X : Cx} {tg : Expr}
def iDict (td : TE) : TI := fun σ H R => td σ H fun x H1 => ∃ d kvs, x = .ref d ∧ H1 d = some (.dT kvs) ∧ ∀ o, R (ItD d kvs o) (upd H1 d (.frz o (.dT kvs)))
theorem pi_dict {l : Expr} {td : TE} (hl : PE X l td) : PI X tg l (iDict td) := by
  intro pins s σ H R I h
  refine thn (hl pins s σ H _ I h) fun v s1 ⟨x, H1, I1, r1, d, kvs, ex, hd, hR⟩ => ?_
  subst ex
  cases r1
  obtain ⟨o, g, I2⟩ := inv_freeze I1 hd
  obtain ⟨_, lo, es, ep, as, ⟨o', g', q1, q2⟩, z, ks, at_⟩ := dt_raw I1 (.inl hd)
  rw [g] at g'; cases g'
  refine raw_iter lo ⟨o, g, q1, q2⟩ ?_
  have fresh := I2.hok.fresh (Nat.le_refl _)
  have I3 : Inv X pins σ (upd H1 d (.frz o (.dT kvs))) { s1 with heap := s1.heap.push { cls := .type "dict_keyiterator", data := .fields #[.ref d, .int 0 0, .int es.size 0, .int ep 0] } } := I2.kept (t' := s1.toks) fun b ob e => Heap.get?_push_of_some _ e
  refine ⟨s1.heap.objs.size, [s1.heap.objs.size], _, ItD d kvs o, _, rfl, I3, turn_dict d _ kvs o es ep q1 q2 z, ⟨_, Heap.get?_push_size _ rfl, rfl, rfl⟩, fun b hb => ?_, hR o⟩
  have e : b = s1.heap.objs.size := by simpa using hb
  subst e
  exact I2.fpOk (Nat.le_refl _) fresh
end
end FX

/-! ### the sort's questions, answered by a strict total order: what comes out is in order -/
namespace FhS
open PySem PyProof.Rows PySem.W

/-- the questions below n are answered by lt, and nothing is changed by them -/
def Asks (cmp : Nat → Nat → (Bool → Shared → Prop) → Shared → Prop) (lt : Nat → Nat → Bool) (n : Nat) (s : Shared) : Prop :=
  ∀ i j, i < n → j < n → ∀ C : Bool → Shared → Prop, C (lt i j) s → cmp i j C s

structure Ordr (lt : Nat → Nat → Bool) (n : Nat) : Prop where
  tr : ∀ i j k, i < n → j < n → k < n → lt i j = true → lt j k = true → lt i k = true
  tot : ∀ i j, i < n → j < n → i ≠ j → lt i j = false → lt j i = true

/-- p holds the numbers below n, each once -/
structure Pm (p : Array Nat) (n : Nat) : Prop where
  pm : p.toList.Perm (List.range n)
theorem Pm.size {p : Array Nat} {n : Nat} (h : Pm p n) : p.size = n := by
  have := h.pm.length_eq
  simpa using this
theorem Pm.lt {p : Array Nat} {n i : Nat} (h : Pm p n) (hi : i < n) : p.getD i 0 < n := by
  have hs := h.size
  have hi' : i < p.size := by lia
  have e : p.getD i 0 = p[i] := by simp [Array.getD, hi']
  rw [e]
  have : p[i] ∈ List.range n := h.pm.mem_iff.mp (by simp)
  exact List.mem_range.mp this
theorem Pm.inj {p : Array Nat} {n i j : Nat} (h : Pm p n) (hi : i < n) (hj : j < n) (e : p.getD i 0 = p.getD j 0) : i = j := by
  have hs := h.size
  have hi' : i < p.size := by lia
  have hj' : j < p.size := by lia
  have nd : p.toList.Nodup := h.pm.nodup_iff.mpr List.nodup_range
  have e1 : p.getD i 0 = p[i] := by simp [Array.getD, hi']
  have e2 : p.getD j 0 = p[j] := by simp [Array.getD, hj']
  rw [e1, e2] at e
  have := (List.getElem_inj (xs := p.toList) (i := i) (j := j) (h₀ := by simpa using hi') (h₁ := by simpa using hj') nd).mp (by simpa using e)
  exact this
theorem Pm.of_perm {p q : Array Nat} {n : Nat} (h : Pm p n) (hq : q.Perm p) : Pm q n := ⟨(Array.perm_iff_toList_perm.mp hq).trans h.pm⟩
theorem pm_range (n : Nat) : Pm (List.toArray (List.range n)) n := ⟨by simp⟩

def Up (lt : Nat → Nat → Bool) (p : Array Nat) (m : Nat) : Prop := ∀ i j, i < j → j < m → lt (p.getD i 0) (p.getD j 0) = true
def Dn (lt : Nat → Nat → Bool) (p : Array Nat) (m : Nat) : Prop := ∀ i j, i < j → j < m → lt (p.getD j 0) (p.getD i 0) = true

section
variable {lt : Nat → Nat → Bool} {n : Nat} (O : Ordr lt n)
include O
theorem other {p : Array Nat} (h : Pm p n) {i j : Nat} (hi : i < n) (hj : j < n) (hij : i ≠ j) (e : lt (p.getD i 0) (p.getD j 0) = false) : lt (p.getD j 0) (p.getD i 0) = true :=
  O.tot _ _ (h.lt hi) (h.lt hj) (fun z => hij (h.inj hi hj z)) e
theorem Up.snoc {p : Array Nat} (h : Pm p n) {a : Nat} (h1 : 1 ≤ a) (ha : a < n) (u : Up lt p a) (e : lt (p.getD (a - 1) 0) (p.getD a 0) = true) : Up lt p (a + 1) := by
  intro i j hij hj
  by_cases hja : j = a
  · subst hja
    by_cases hi : i = j - 1
    · rw [hi]; exact e
    · exact O.tr _ _ _ (h.lt (by lia)) (h.lt (by lia)) (h.lt ha) (u i (j - 1) (by lia) (by lia)) e
  · exact u i j hij (by lia)
theorem Dn.snoc {p : Array Nat} (h : Pm p n) {a : Nat} (h1 : 1 ≤ a) (ha : a < n) (u : Dn lt p a) (e : lt (p.getD a 0) (p.getD (a - 1) 0) = true) : Dn lt p (a + 1) := by
  intro i j hij hj
  by_cases hja : j = a
  · subst hja
    by_cases hi : i = j - 1
    · rw [hi]; exact e
    · exact O.tr _ _ _ (h.lt ha) (h.lt (by lia)) (h.lt (by lia)) e (u i (j - 1) (by lia) (by lia))
  · exact u i j hij (by lia)
theorem asc_wp {cmp : Nat → Nat → (Bool → Shared → Prop) → Shared → Prop} {s : Shared} (K : Asks cmp lt n s) {p : Array Nat} (h : Pm p n) : ∀ (f a : Nat) (G : Nat → Shared → Prop), 1 ≤ a → a + f ≤ n → Up lt p a →
    (∀ m, a ≤ m → m ≤ a + f → Up lt p m → (m = a + f ∨ lt (p.getD m 0) (p.getD (m - 1) 0) = true) → G m s) → (kas_asc p f a).kasWp cmp G s
  | 0, a, G, _, _, u, k => k a (Nat.le_refl _) (Nat.le_refl _) u (.inl rfl)
  | f + 1, a, G, h1, hn, u, k => by
    unfold kas_asc
    refine K _ _ (h.lt (by lia)) (h.lt (by lia)) _ ?_
    cases e : lt (p.getD a 0) (p.getD (a - 1) 0) with
    | true =>
      simp only [if_true]
      exact k a (Nat.le_refl _) (by lia) u (.inr e)
    | false =>
      simp only [Bool.false_eq_true, if_false]
      exact asc_wp K h f (a + 1) G (by lia) (by lia) (Up.snoc O h h1 (by lia) u (other O h (by lia) (by lia) (by lia) e)) fun m a1 a2 a3 a4 => k m (by lia) (by lia) a3 (a4.imp (fun z => by lia) fun z => z)
theorem desc_wp {cmp : Nat → Nat → (Bool → Shared → Prop) → Shared → Prop} {s : Shared} (K : Asks cmp lt n s) {p : Array Nat} (h : Pm p n) : ∀ (f a : Nat) (G : Array Nat × Nat × Nat → Shared → Prop), 1 ≤ a → a + f ≤ n → Dn lt p a →
    (∀ m, a ≤ m → m ≤ a + f → Dn lt p m → G (p, m, 0) s) → (kas_desc f p a 0).kasWp cmp G s
  | 0, a, G, _, _, u, k => k a (Nat.le_refl _) (Nat.le_refl _) u
  | f + 1, a, G, h1, hn, u, k => by
    unfold kas_desc
    refine K _ _ (h.lt (by lia)) (h.lt (by lia)) _ ?_
    cases e : lt (p.getD a 0) (p.getD (a - 1) 0) with
    | true =>
      simp only [if_true, Nat.lt_irrefl, gt_iff_lt, if_false]
      exact desc_wp K h f (a + 1) G (by lia) (by lia) (Dn.snoc O h h1 (by lia) u e) fun m a1 a2 a3 => k m (by lia) (by lia) a3
    | false =>
      simp only [Bool.false_eq_true, if_false]
      refine K _ _ (h.lt (by lia)) (h.lt (by lia)) _ ?_
      simp only [other O h (by lia) (by lia) (by lia) e, if_true]
      exact k a (Nat.le_refl _) (by lia) u
omit O in
theorem getD_of {p q : Array Nat} {i j : Nat} (e : p[i]? = q[j]?) : p.getD i 0 = q.getD j 0 := by
  rw [Array.getD_eq_getD_getElem?, Array.getD_eq_getD_getElem?, e]
omit O in
theorem rev_up {p : Array Nat} {m : Nat} (hm : m ≤ p.size) (d : Dn lt p m) : Up lt (kas_rev p 0 m) m := by
  intro i j hij hj
  have g : ∀ k, k < m → (kas_rev p 0 m).getD k 0 = p.getD (m - 1 - k) 0 := fun k hk => by
    refine getD_of ?_
    unfold kas_rev
    rw [getElem?_mirror_all hm, if_pos ⟨Nat.zero_le _, hk⟩]
    congr 1; lia
  rw [g i (by lia), g j hj]
  exact d _ _ (by lia) (by lia)
theorem count_wp {cmp : Nat → Nat → (Bool → Shared → Prop) → Shared → Prop} {s : Shared} (K : Asks cmp lt n s) (hn : 1 ≤ n) {p : Array Nat} (h : Pm p n) (G : Nat × Array Nat → Shared → Prop)
    (k : ∀ m q, 1 ≤ m → m ≤ n → Pm q n → Up lt q m → G (m, q) s) : (kas_count n p).kasWp cmp G s := by
  unfold kas_count
  rw [KasT.kasWp_bind]
  have up1 : Up lt p 1 := fun i j h1 h2 => by lia
  refine asc_wp O K h (n - 1) 1 _ (Nat.le_refl _) (by lia) up1 fun a a1 a2 a3 a4 => ?_
  by_cases ha : (a == n) = true
  · rw [if_pos ha]
    exact k a p a1 (by lia) h a3
  · rw [if_neg ha]
    have ha' : a ≠ n := by simpa using ha
    by_cases h1 : a > 1
    · rw [if_pos h1]
      refine K _ _ (h.lt (by lia)) (h.lt (by lia)) _ ?_
      simp only [a3 0 (a - 1) (by lia) (by lia), if_true]
      exact k a p a1 (by lia) h a3
    · rw [if_neg h1]
      have e1 : a = 1 := by lia
      subst e1
      unfold kas_descPart
      rw [KasT.kasWp_bind]
      have e2 : lt (p.getD 1 0) (p.getD 0 0) = true := a4.elim (fun z => by lia) fun z => z
      have d2 : Dn lt p (1 + 1) := by
        intro i j hij hj
        have e3 : i = 0 := by lia
        have e4 : j = 1 := by lia
        rw [e3, e4]; exact e2
      refine desc_wp O K h (n - (1 + 1)) (1 + 1) _ (by lia) (by lia) d2 fun m q2 q3 q4 => ?_
      simp only [gt_iff_lt, Nat.lt_irrefl, if_false]
      unfold kas_tail3
      rw [KasT.kasWp_bind]
      have hr : Pm (kas_rev p 0 m) n := h.of_perm (mirror_perm _ _ _ _)
      refine asc_wp O K hr (n - m) m _ (by lia) (by lia) (rev_up (by rw [h.size]; lia) q4) fun b b1 b2 b3 _ => ?_
      exact k b _ (by lia) (by lia) hr b3
theorem place_wp {cmp : Nat → Nat → (Bool → Shared → Prop) → Shared → Prop} {s : Shared} (K : Asks cmp lt n s) {p : Array Nat} (h : Pm p n) {k : Nat} (hk : k < n) (u : Up lt p k) : ∀ (f l r : Nat) (G : Nat → Shared → Prop), l ≤ r → r ≤ k → r - l ≤ f → (∀ i, i < l → lt (p.getD i 0) (p.getD k 0) = true) → (∀ i, r ≤ i → i < k → lt (p.getD k 0) (p.getD i 0) = true) →
    (∀ m, m ≤ k → (∀ i, i < m → lt (p.getD i 0) (p.getD k 0) = true) → (∀ i, m ≤ i → i < k → lt (p.getD k 0) (p.getD i 0) = true) → G m s) → (kas_place p k f l r).kasWp cmp G s
  | 0, l, r, G, h1, h2, h3, lo, hi, g => g l (by lia) lo fun i a b => hi i (by lia) b
  | f + 1, l, r, G, h1, h2, h3, lo, hi, g => by
    unfold kas_place
    by_cases q : l ≥ r
    · rw [if_pos q]
      exact g l (by lia) lo fun i a b => hi i (by lia) b
    · rw [if_neg q]
      refine K _ _ (h.lt hk) (h.lt (by lia)) _ ?_
      cases e : lt (p.getD k 0) (p.getD ((l + r) / 2) 0) with
      | true =>
        simp only [if_true]
        refine place_wp K h hk u f l ((l + r) / 2) G (by lia) (by lia) (by lia) lo (fun i a b => ?_) g
        by_cases z : i = (l + r) / 2
        · rw [z]; exact e
        · exact O.tr _ _ _ (h.lt hk) (h.lt (by lia)) (h.lt (by lia)) e (u _ _ (by lia) b)
      | false =>
        simp only [Bool.false_eq_true, if_false]
        have e' := other O h hk (by lia) (by lia) e
        refine place_wp K h hk u f ((l + r) / 2 + 1) r G (by lia) h2 (by lia) (fun i a => ?_) hi g
        by_cases z : i = (l + r) / 2
        · rw [z]; exact e'
        · exact O.tr _ _ _ (h.lt (by lia)) (h.lt (by lia)) (h.lt hk) (u _ _ (by lia) (by lia)) e'
omit O in
theorem bub_up {p : Array Nat} (h : Pm p n) {k l : Nat} (hk : k < n) (hl : l ≤ k) (u : Up lt p k) (lo : ∀ i, i < l → lt (p.getD i 0) (p.getD k 0) = true) (hi : ∀ i, l ≤ i → i < k → lt (p.getD k 0) (p.getD i 0) = true) :
    Up lt (bubble p k (k - l)) (k + 1) := by
  have g : ∀ j, j < k + 1 → (bubble p k (k - l)).getD j 0 = if j = l then p.getD k 0 else if l < j then p.getD (j - 1) 0 else p.getD j 0 := fun j hj => by
    have e := getElem?_bubble (xs := p) (src := k) (by rw [h.size]; exact hk) (k - l) (by lia) j
    rw [show k - (k - l) = l by lia] at e
    by_cases c1 : j = l
    · rw [if_pos c1] at e ⊢; exact getD_of e
    · rw [if_neg c1] at e ⊢
      by_cases c2 : l < j
      · rw [if_pos ⟨c2, by lia⟩] at e; rw [if_pos c2]; exact getD_of e
      · rw [if_neg (by lia)] at e; rw [if_neg c2]; exact getD_of e
  intro i j hij hj
  rw [g i (by lia), g j hj]
  repeat' split
  all_goals first
    | (exfalso; lia)
    | exact lo _ (by lia)
    | exact hi _ (by lia) (by lia)
    | exact u _ _ (by lia) (by lia)
theorem bin_wp {cmp : Nat → Nat → (Bool → Shared → Prop) → Shared → Prop} {s : Shared} (K : Asks cmp lt n s) : ∀ (f : Nat) (p : Array Nat) (k : Nat) (G : Array Nat → Shared → Prop), Pm p n → k + f = n → Up lt p k → (∀ q, Pm q n → Up lt q n → G q s) → (kas_bin f p k).kasWp cmp G s
  | 0, p, k, G, h, hk, u, g => by
    have e : k = n := by lia
    subst e; exact g p h u
  | f + 1, p, k, G, h, hk, u, g => by
    unfold kas_bin
    rw [KasT.kasWp_bind]
    exact place_wp O K h (k := k) (by lia) u k 0 k _ (Nat.zero_le _) (Nat.le_refl _) (by lia) (fun i a => by lia) (fun i a b => by lia) fun m c1 c2 c3 =>
      bin_wp K f _ (k + 1) G (h.of_perm (bubble_perm _ _ _)) (by lia) (bub_up h (by lia) c1 u c2 c3) g
theorem sort_wp {cmp : Nat → Nat → (Bool → Shared → Prop) → Shared → Prop} {s : Shared} (K : Asks cmp lt n s) (hn : 1 ≤ n) (G : Array Nat → Shared → Prop) (g : ∀ q, Pm q n → Up lt q n → G q s) : (kas_sort n).kasWp cmp G s := by
  unfold kas_sort
  rw [KasT.kasWp_bind]
  refine count_wp O K hn (pm_range n) _ fun m q h1 h2 h3 h4 => ?_
  by_cases c : m < n
  · rw [if_pos c]
    have e2 : max m 1 = m := by lia
    show (kas_bin (n - max m 1) q (max m 1)).kasWp cmp G s
    rw [e2]
    exact bin_wp O K _ q m G h3 (by lia) h4 g
  · rw [if_neg c]
    have e2 : m = n := by lia
    subst e2; exact g q h3 h4
end
end FhS

/-! ## E: list(d), sorted(..) of things that are tuples of ints -/
namespace FX
open PySem PySem.Spec PyProof.Rows L2
section
variable {prog : Program} {w : World} {A : Around} {E : Value → Shared → Prop} {s : Shared} {d : Addr} {es : Array DictEntry} {ep : Nat}
theorem raw_walks (hh : A.handled = none) (I d : Addr) (hne : d ≠ I) (es : Array DictEntry) (ep : Nat) : Walks prog w A I [I, d] [I] es.size (fun i v => ∃ e, es[i]? = some e ∧ v = e.key) (fun i h => h.IsKeyIter I d i es.size ep ∧ RawD h d es ep) where
  sub := fun b hb => by simp at hb; simp [hb]
  frame := fun _ _ _ st hk => ⟨let ⟨o, e, r⟩ := st.1; ⟨o, hk I (by simp) o e, r⟩, st.2.at fun o e => hk d (by simp) o e⟩
  item := fun i s0 Q E0 hi st hQ => raw_next st.1 st.2 (e := es[i]) (by simp [hi]) fun h' it' sb =>
    hQ _ h' s0.toks ⟨es[i], by simp [hi], rfl⟩ ⟨it', st.2.at fun o e => (sb.2 d hne).trans e⟩ fun b o hb e => (sb.2 b fun z => hb (by simp [z])).trans e
  done := fun s0 Q E0 st hQ => raw_end hh st.1 st.2 (Nat.le_refl _) fun h' eb => hQ h' s0.toks fun b o hb e => eb b o (fun z => hb (by simp [z])) e
  self := fun _ _ _ _ st hQ => wpAny_pyIter_keyiter st.1 hQ
theorem raw_src (lo : (d == sysModules) = false) : PySem.W.KdlSrc prog w "dict" d d es.size (fun i v => ∃ e, es[i]? = some e ∧ v = e.key) (fun h => RawD h d es ep) where
  type := fun _ ⟨o, e, x, _⟩ => ⟨o, e, x.1⟩
  there := fun _ ⟨o, e, _⟩ => ⟨Heap.lt_size e, Heap.lt_size e⟩
  keep := fun _ _ hm hk => hm.at fun o e => hk d (.inl rfl) o e
  notList := by decide
  notTuple := by decide
  hint := fun _ _ _ _ ⟨o, e, x, _⟩ hq => PySem.W.kdl_hint_dict ⟨o, e, x.1⟩ hq
  iter := fun _ s0 hh hm => ⟨_, _, (fun _ _ hq => raw_iter lo hm hq), raw_walks hh _ d (let ⟨o, e, _⟩ := hm; Nat.ne_of_lt (Heap.lt_size e)) es ep, ⟨⟨_, Heap.get?_push_size _ rfl, rfl, rfl⟩, hm.at fun o e => Heap.get?_push_of_some _ e⟩⟩
end
theorem refs_vals : ∀ as : List Addr, Vals (as.map V.ref) (as.map Value.ref)
  | [] => .nil
  | _ :: as => .cons rfl (refs_vals as)
theorem acc_refs {es : Array DictEntry} {acc : Array Value} {as : List Addr} (ha : ItemsOf (fun i v => ∃ e, es[i]? = some e ∧ v = e.key) acc es.size) (hla : as.length = es.size) (at_ : ∀ j (h : j < es.size), ∃ a, as[j]? = some a ∧ es[j].key = .ref a) : acc.toList = as.map Value.ref := by
  refine List.ext_getElem? fun j => ?_
  by_cases hj : j < es.size
  · have h1 : j < acc.size := by rw [ha.1]; exact hj
    obtain ⟨e2, e3, e4⟩ := ha.2 j acc[j] (by simp [h1])
    obtain ⟨a, e5, e6⟩ := at_ j hj
    have e7 : e2 = es[j] := by
      have : es[j]? = some es[j] := by simp [hj]
      rw [this] at e3; exact (Option.some.inj e3).symm
    rw [List.getElem?_map, e5]
    have : acc.toList[j]? = some acc[j] := by simp [h1]
    rw [this, e4, e7, e6]
    rfl
  · have h1 : acc.toList.length ≤ j := by rw [Array.length_toList, ha.1]; lia
    have h2 : (as.map Value.ref).length ≤ j := by rw [List.length_map]; lia
    rw [List.getElem?_eq_none h1, List.getElem?_eq_none h2]
section
variable {X : Cx}
/-- list(d) of a dict with tuple keys: its keys, in their order -/
theorem call_list_dict (hc : X.calm = true) : CallR X (.type "list") (fun xs H Q => ∃ d kvs, xs = [.ref d] ∧ Rd H d (.dT kvs) ∧ ∀ l as, H l = none → Kys H kvs as → Q (.ref l) (upd H l (.lst (as.map V.ref)))) := by
  intro pins s σ H xs us Q I r h
  obtain ⟨d, kvs, rfl, hd, q⟩ := h
  obtain ⟨u, rfl, rx⟩ := vals1 r
  cases rx
  obtain ⟨z, lo, es, ep, as, raw, hz, ks, at_⟩ := dt_raw I hd
  refine PySem.W.kdl_call (raw_src lo (es := es) (ep := ep)) (I.ok.hd hc) raw (by rw [hz]; exact z) fun h' tk acc c kp e ha => ?_
  have hn : H s.heap.objs.size = none := I.hok.fresh (Nat.le_refl _)
  have hla : as.length = kvs.length := (Paired.length ks).symm
  have e1 : acc.toList = as.map Value.ref := acc_refs ha (by lia) at_
  refine ⟨.ref s.heap.objs.size, _, I.laid (t' := tk) kp (Nat.le_refl _) (show ObjOk X.prog X.w _ h' _ (.lst (as.map V.ref)) from ⟨by rw [List.length_map]; lia, acc.toList, c, ?_, by simpa using e⟩), rfl, q _ as hn ks⟩
  rw [e1]
  exact refs_vals as
end
/-! ### the order of tuples of ints -/
theorem lex_irr : ∀ xs : List Int, HT.lexLt xs xs = false
  | [] => rfl
  | x :: xs => by rw [HT.lexLt_cons, if_pos rfl]; exact lex_irr xs
theorem lex_tr : ∀ {xs ys zs : List Int}, HT.lexLt xs ys = true → HT.lexLt ys zs = true → HT.lexLt xs zs = true
  | [], [], _, h, _ => by cases h
  | [], _ :: _, [], _, h => by cases h
  | [], _ :: _, _ :: _, _, _ => rfl
  | _ :: _, [], _, h, _ => by cases h
  | _ :: _, _ :: _, [], _, h => by cases h
  | x :: xs, y :: ys, z :: zs, h1, h2 => by
    rw [HT.lexLt_cons] at h1 h2 ⊢
    by_cases e1 : x = y
    · rw [if_pos e1] at h1
      by_cases e2 : y = z
      · rw [if_pos e2] at h2
        rw [if_pos (e1.trans e2)]; exact lex_tr h1 h2
      · rw [if_neg e2] at h2
        rw [if_neg (by rw [e1]; exact e2), e1]; exact h2
    · rw [if_neg e1] at h1
      have h1 := of_decide_eq_true h1
      by_cases e2 : y = z
      · rw [if_neg (by rw [← e2]; exact e1), ← e2]; exact decide_eq_true h1
      · rw [if_neg e2] at h2
        have h2 := of_decide_eq_true h2
        rw [if_neg (by lia)]; exact decide_eq_true (by lia)
theorem lex_tot : ∀ {xs ys : List Int}, xs ≠ ys → HT.lexLt xs ys = false → HT.lexLt ys xs = true
  | [], [], h, _ => absurd rfl h
  | [], _ :: _, _, h => by cases h
  | _ :: _, [], _, _ => rfl
  | x :: xs, y :: ys, hne, h => by
    rw [HT.lexLt_cons] at h ⊢
    by_cases e : x = y
    · rw [if_pos e] at h
      rw [if_pos e.symm]
      exact lex_tot (fun z => hne (by rw [e, z])) h
    · rw [if_neg e] at h
      have h := of_decide_eq_false h
      rw [if_neg (Ne.symm e)]; exact decide_eq_true (by lia)
/-- two lists in order that hold the same are one -/
theorem sorted_one {α : Type} {lt : α → α → Prop} (irr : ∀ a, ¬ lt a a) (asym : ∀ a b, lt a b → ¬ lt b a) : ∀ {l₁ l₂ : List α}, l₁.Perm l₂ → l₁.Pairwise lt → l₂.Pairwise lt → l₁ = l₂
  | [], l₂, p, _, _ => (List.Perm.nil_eq p)
  | a :: l₁, [], p, _, _ => by have := p.length_eq; simp at this
  | a :: l₁, b :: l₂, p, h1, h2 => by
    have h1' := List.pairwise_cons.mp h1
    have h2' := List.pairwise_cons.mp h2
    have e : a = b := by
      have ha : a ∈ b :: l₂ := p.mem_iff.mp (List.mem_cons_self ..)
      have hb : b ∈ a :: l₁ := p.mem_iff.mpr (List.mem_cons_self ..)
      rcases List.mem_cons.mp ha with e | ha
      · exact e
      · rcases List.mem_cons.mp hb with e | hb
        · exact e.symm
        · exact absurd (h2'.1 a ha) (asym _ _ (h1'.1 b hb))
    subst e
    rw [sorted_one irr asym (List.Perm.cons_inv p) h1'.2 h2'.2]
section
variable {prog : Program} {w : World} {A : Around} {E : Value → Shared → Prop} {s : Shared}
/-- list.sort of a list at a whose items' questions are answered by lt -/
theorem lsort_raw {a : Addr} {vs : List Value} {n : Nat} {lt : Nat → Nat → Bool} {P : PySem.Fin → Shared → Prop} (ho : s.heap.get? a = some (seqObj "list" vs.toArray n)) (h64 : vs.length < 64) (O : FhS.Ordr lt vs.length)
    (K : 2 ≤ vs.length → ∀ h', (∀ b o, b ≠ a → s.heap.get? b = some o → h'.get? b = some o) → ∀ Q : SortKind → Shared → Prop, (∀ κ, FhS.Asks (PySem.W.kas_ask prog w A κ vs) lt vs.length { s with heap := h' } → Q κ { s with heap := h' }) → wpAny (model prog w) A (keyKind' vs.toArray) Q E { s with heap := h' })
    (h : ∀ q : List Nat, q.Perm (List.range vs.length) → q.Pairwise (fun i j => lt i j = true) → ∀ h' c, (∀ b o, b ≠ a → s.heap.get? b = some o → h'.get? b = some o) → h'.get? a = some (seqObj "list" (q.map fun i => vs.getD i .none).toArray c) → P (.done (.ret .none)) { s with heap := h' }) :
    wpAny (model prog w) A (Builtin.«list.sort» ⟨[.ref a], []⟩) P E s := by
  rw [list_sort_plain]
  have al : a < s.heap.objs.size := Heap.lt_size ho
  have small : ∀ {k : Nat}, k ≤ 63 → k ≤ sizeLine := fun hk => by rw [sizeLine_eq]; lia
  refine wpAny_bind (listItems_at ho rfl (wpAny_bind (listUpdate_at ho rfl ?_ (by rw [List.size_toArray]; exact small (by lia)) (Nat.zero_le _))))
  obtain ⟨e1, g1⟩ : ∃ e1, (s.heap.update a (Obj.mapSeq fun _ => (#[] : Array Value))).get? a = some (seqObj "list" #[] e1) := ⟨_, get?_update_seq ho fun _ => #[]⟩
  refine wpAny_bind (seqEpoch_at g1 rfl (wpAny_bind (wpAny_newTuple (wpAny_bind (wpAny_newList (wpAny_holding ?_) (Nat.zero_le _))) (by show vs.length ≤ _; exact small (by lia)))))
  have g2 : (((s.heap.update a (Obj.mapSeq fun _ => (#[] : Array Value))).push (seqObj "tuple" vs.toArray 0)).push (seqObj "list" #[] 0)).get? a = some (seqObj "list" #[] e1) := Heap.get?_push_of_some _ (Heap.get?_push_of_some _ g1)
  have kp : ∀ b o, b ≠ a → s.heap.get? b = some o → (((s.heap.update a (Obj.mapSeq fun _ => (#[] : Array Value))).push (seqObj "tuple" vs.toArray 0)).push (seqObj "list" #[] 0)).get? b = some o := fun b o hb e =>
    Heap.get?_push_of_some _ (Heap.get?_push_of_some _ ((Heap.get?_update_other _ _ (Ne.symm hb)).trans e))
  show wpAny (model prog w) A _ P E { s with heap := ((s.heap.update a (Obj.mapSeq fun _ => (#[] : Array Value))).push (seqObj "tuple" vs.toArray 0)).push (seqObj "list" #[] 0) }
  generalize ((s.heap.update a (Obj.mapSeq fun _ => (#[] : Array Value))).push (seqObj "tuple" vs.toArray 0)).push (seqObj "list" #[] 0) = hh at g2 kp
  dsimp only
  -- the end: what the state's array says is written back
  have fin : ∀ (st : SortSt) (q : List Nat), (arrOf st).map (·.2) = (q.map fun i => vs.getD i .none).toArray → failedOf st = none → q.Perm (List.range vs.length) → q.Pairwise (fun i j => lt i j = true) →
      wpAny (model prog w) A (do
        let touched := (← seqEpoch a) != e1
        Builtin.List.listUpdate (.ref a) fun _ => (arrOf st).map (·.2)
        if let some e := failedOf st then rule "list.sort.comparison-raised"; throw e
        if touched then rule "list.sort.modified"; raiseError "ValueError" "list modified during sort"
        ret .none) P E { s with heap := hh } := fun st q ea ef qp qo => by
    have hl : q.length = vs.length := by rw [qp.length_eq, List.length_range]
    refine wpAny_bind (seqEpoch_at g2 rfl ?_)
    rw [ea]
    refine wpAny_bind (listUpdate_at g2 rfl ?_ (Nat.zero_le _) (by show (q.map fun i => vs.getD i Value.none).toArray.size ≤ sizeLine + 1; rw [List.size_toArray, List.length_map, hl]; exact Nat.le_succ_of_le (small (by lia))))
    rw [ef]
    simp only [bne_self_eq_false, Bool.false_eq_true, if_false]
    refine wpAny_pure (h q qp qo _ _ (fun b o hb e => (Heap.get?_update_other _ _ (Ne.symm hb)).trans (kp b o hb e)) (get?_update_seq g2 _))
  by_cases h2 : vs.toArray.size < 2
  · rw [if_pos h2, if_pos h2]
    refine wpAny_bind (wpAny_pure ?_)
    rw [StateT.run_pure]
    refine wpAny_bind (wpAny_pure ?_)
    have h2' : vs.length < 2 := by simpa using h2
    refine fin (SortSt.mk' general' (vs.toArray.zip vs.toArray) #[] 7 none) (List.range vs.length) ?_ rfl (List.Perm.refl _) ?_
    · show (vs.toArray.zip vs.toArray).map (·.2) = _
      match vs, h2' with
      | [], _ => simp
      | [v], _ => simp
    · match vs, h2' with
      | [], _ => exact List.Pairwise.nil
      | [v], _ => exact List.pairwise_singleton _ _
  · rw [if_neg h2, if_neg h2]
    have h2' : 2 ≤ vs.length := by simpa using h2
    refine wpAny_bind (K h2' hh kp _ fun κ ask => ?_)
    refine wpAny_bind (wpAny_mono (PySem.W.kat_run (E := E) (vs := vs) (ks := vs) (κ := κ) (s := { s with heap := hh }) (Q := fun st' s' => s' = { s with heap := hh } ∧ ∃ q : List Nat, (arrOf st').map (·.2) = (q.map fun i => vs.getD i .none).toArray ∧ failedOf st' = none ∧ q.Perm (List.range vs.length) ∧ q.Pairwise (fun i j => lt i j = true))
      (G := fun p s' => s' = { s with heap := hh } ∧ FhS.Pm p vs.length ∧ FhS.Up lt p vs.length) rfl h2' h64 (fun p st' s' hp ha hf ⟨e, pm, up⟩ => ?_) (FhS.sort_wp O ask (by lia) _ fun q pm up => ⟨rfl, pm, up⟩)) (fun r s' hr => ?_) fun _ _ e => e)
    · refine ⟨e, p.toList, PySem.W.kat_snds rfl ha, hf, pm.pm, ?_⟩
      rw [List.pairwise_iff_getElem]
      intro i j hi hj hij
      have hs := pm.size
      have := up i j hij (by rw [← hs]; simpa using hj)
      have gi : p.getD i 0 = p.toList[i] := by simp [Array.getD, show i < p.size by simpa using hi]
      have gj : p.getD j 0 = p.toList[j] := by simp [Array.getD, show j < p.size by simpa using hj]
      rw [gi, gj] at this
      exact this
    · obtain ⟨u, st'⟩ := r
      obtain ⟨e, q, q1, q2, q3, q4⟩ := hr
      dsimp only at e q1 q2 ⊢
      subst e
      exact fin st' q q1 q2 q3 q4
end
section
variable {prog : Program} {w : World} {A : Around} {E : Value → Shared → Prop}
/-- the questions of tuples of ints, item by item -/
theorem kat_ints {b fin : Bool} {Q : Bool → Shared → Prop} : ∀ {us ws : List Value} {ns ms : List Int} (i : Nat) (s : Shared), IntsAre us ns → IntsAre ws ms → fin = decide (ns.length < ms.length) → Q (HT.lexLt ns ms) s → PySem.W.KatLex prog w A b fin Q (us.zip ws) i s
  | _, _, _, _, i, s, .nil, .nil, hf, h => by
    rw [List.zip_nil_left]
    refine PySem.W.kat_nil ?_
    rw [hf]; exact h
  | _, _, _, _, i, s, .nil, .cons (ns := ms) m t r, hf, h => by
    rw [List.zip_nil_left]
    refine PySem.W.kat_nil ?_
    rw [hf]
    have : decide (([] : List Int).length < (m :: ms).length) = true := by simp
    rw [this]; exact h
  | _, _, _, _, i, s, .cons (ns := ns) n t r, .nil, hf, h => by
    rw [List.zip_nil_right]
    refine PySem.W.kat_nil ?_
    rw [hf]
    have : decide ((n :: ns).length < ([] : List Int).length) = false := by simp
    rw [this]; exact h
  | _, _, _, _, i, s, .cons (ns := ns) n t r, .cons (ns := ms) m u q, hf, h => by
    rw [List.zip_cons_cons]
    refine PySem.W.kat_cons (wpAny_eqBool_int (PySem.W.kat_go (fun e => PySem.W.kat_yes ?_) fun e => PySem.W.kat_no ?_))
    · have e : n = m := by simpa using e
      rw [HT.lexLt_cons, if_pos e] at h
      exact kat_ints (i + 1) s r q (by rw [hf]; simp) h
    · have e : n ≠ m := by simpa using e
      rw [HT.lexLt_cons, if_neg e] at h
      cases hb : (b && i == 0) with
      | true => exact oneLt_int h
      | false => exact PySem.W.kat_one _ _ (lt_int h)
/-- what stands at each address: a tuple of these ints -/
def TupsAt (h : Heap) : List Addr → List (List Int) → Prop := Paired fun a ns => ns ≠ [] ∧ ∃ its, IsTup h a its ∧ IntsAre its.toList ns
theorem tups_firsts {h : Heap} : ∀ {as : List Addr} {nss : List (List Int)}, TupsAt h as nss → ∃ fs : List Value, PySem.W.KatTups h (as.map Value.ref) fs ∧ fs.length = as.length ∧ ∀ v ∈ fs, ∃ n t, v = Value.int n t
  | _, _, .nil => ⟨[], trivial, rfl, fun v hv => by simp at hv⟩
  | _, _, .cons (a := a) (b := ns) r t => by
    obtain ⟨fs, a1, a2, a3⟩ := tups_firsts t
    obtain ⟨hne, its, ⟨o, ho, hc, n, hd⟩, hi⟩ := r
    cases hL : its.toList with
    | nil => rw [hL] at hi; cases hi; exact absurd rfl hne
    | cons f fr =>
      rw [hL] at hi
      cases hi with
      | cons n0 t0 hr =>
        refine ⟨Value.int n0 t0 :: fs, PySem.W.KatTups.cons ho hc hd ?_ a1, by simp [a2], fun v hv => ?_⟩
        · have : its[0]? = its.toList[0]? := by simp
          rw [this, hL]; rfl
        · rcases List.mem_cons.mp hv with rfl | hv
          · exact ⟨_, _, rfl⟩
          · exact a3 v hv
theorem TupsAt.keep {h h' : Heap} (k : ∀ b o, h.get? b = some o → (∃ ts n, o.data = .seq ts n ∧ o.cls = .type "tuple") → h'.get? b = some o) {as : List Addr} {nss : List (List Int)} (t : TupsAt h as nss) : TupsAt h' as nss :=
  paired_mono (fun a ns ⟨h1, its, ⟨o, ho, hc, n, hd⟩, hi⟩ => ⟨h1, its, ⟨o, k a o ho ⟨_, _, hd, hc⟩, hc, n, hd⟩, hi⟩) t
theorem tups_asks {s : Shared} {κ : SortKind} (hκ : ∃ b, κ = tuples' b) {as : List Addr} {nss : List (List Int)} (t : TupsAt s.heap as nss) :
    FhS.Asks (PySem.W.kas_ask prog w A κ (as.map Value.ref)) (fun i j => HT.lexLt (nss.getD i []) (nss.getD j [])) (as.map Value.ref).length s := by
  obtain ⟨b, rfl⟩ := hκ
  intro i j hi hj C hC
  rw [List.length_map] at hi hj
  have get : ∀ k, k < as.length → ∃ a ns its, (as.map Value.ref).getD k .none = .ref a ∧ nss.getD k [] = ns ∧ IsTup s.heap a its ∧ IntsAre its.toList ns := fun k hk => by
    have hl := Paired.length t
    have h1 : as[k]? = some as[k] := by simp [hk]
    have h2 : nss[k]? = some (nss[k]'(by lia)) := by simp [show k < nss.length by lia]
    obtain ⟨_, its, q1, q2⟩ := paired_get t k _ _ h1 h2
    exact ⟨as[k], _, its, by simp [hk], by simp [show k < nss.length by lia], q1, q2⟩
  obtain ⟨a, ns, its, e1, e2, ⟨o, ho, hc, n, hd⟩, hi1⟩ := get i hi
  obtain ⟨a', ns', its', e1', e2', ⟨o', ho', hc', n', hd'⟩, hi1'⟩ := get j hj
  unfold PySem.W.kas_ask
  rw [e1, e1']
  refine PySem.W.kat_lt ho hd ho' hd' (kat_ints 0 s hi1 hi1' ?_ (by dsimp only at hC; rw [e2, e2'] at hC; exact hC))
  have l1 := hi1.length
  have l2 := hi1'.length
  simp only [Array.length_toList] at l1 l2
  rw [l1, l2]
/-- list.sort of a list of such tuples, all unlike -/
theorem lsort_tups {s : Shared} {a : Addr} {as : List Addr} {nss : List (List Int)} {n : Nat} {P : PySem.Fin → Shared → Prop} (ho : s.heap.get? a = some (seqObj "list" (as.map Value.ref).toArray n)) (h64 : as.length < 64) (t : TupsAt s.heap as nss) (nd : nss.Nodup)
    (h : ∀ q : List Nat, q.Perm (List.range as.length) → q.Pairwise (fun i j => HT.lexLt (nss.getD i []) (nss.getD j []) = true) → ∀ h' c, (∀ b o, b ≠ a → s.heap.get? b = some o → h'.get? b = some o) → h'.get? a = some (seqObj "list" (q.map fun i => (as.map Value.ref).getD i .none).toArray c) → P (.done (.ret .none)) { s with heap := h' }) :
    wpAny (model prog w) A (Builtin.«list.sort» ⟨[.ref a], []⟩) P E s := by
  have hl := Paired.length t
  have hml : (as.map Value.ref).length = as.length := List.length_map ..
  refine lsort_raw (lt := fun i j => HT.lexLt (nss.getD i []) (nss.getD j [])) ho (by rw [hml]; exact h64) ⟨fun i j k _ _ _ => lex_tr, fun i j hi hj hij e => lex_tot (fun z => hij ?_) e⟩ (fun h2 h' kp Q hQ => ?_) (by rw [hml]; exact h)
  · have hi' : i < nss.length := by lia
    have hj' : j < nss.length := by lia
    have e1 : nss[i] = nss[j] := by simpa [hi', hj'] using z
    exact (List.getElem_inj nd).mp e1
  · have t' : TupsAt h' as nss := t.keep fun b o e ⟨ts, k, q, qc⟩ => kp b o (fun z => by rw [z, ho] at e; cases e; have qc : Value.type "list" = Value.type "tuple" := qc; injection qc with qc; exact absurd qc (by decide)) e
    obtain ⟨fs, f1, f2, f3⟩ := tups_firsts t'
    refine PySem.W.kat_kind (s := { s with heap := h' }) (T := .type "int") f1 (by rw [f2]; rw [hml] at h2; lia) (fun v hv => ?_) rfl (hQ _ (tups_asks ⟨_, rfl⟩ t'))
    obtain ⟨m, tk, rfl⟩ := f3 v hv
    exact PySem.W.Looks.of_pure rfl
end
theorem refs_vals2 {α : Type} (g : α → V) (f : α → Addr) (h : ∀ x, g x = V.ref (f x)) : ∀ as : List α, Vals (as.map g) ((as.map f).map Value.ref)
  | [] => .nil
  | a :: as => .cons (by rw [h a]; exact rfl) (refs_vals2 g f h as)
section
variable {X : Cx}
/-- sorted(d): the keys, tuples of ints, in order -/
theorem call_sorted_dict (hc : X.calm = true) : CallR X (.builtin "sorted") (fun xs H Q => ∃ d, ∃ L : List (List Int × V), xs = [.ref d] ∧ Rd H d (.dT (L.map fun p => (p.1.map Sum.inl, p.2))) ∧ L.length < 64 ∧ (L.map (·.1)).Nodup ∧ (∀ p ∈ L, p.1 ≠ []) ∧
    ∀ (l : Addr) (M : List (List Int × Addr)), H l = none → (M.map (·.1)).Perm (L.map (·.1)) → M.Pairwise (fun p q => HT.lexLt p.1 q.1 = true) → (∀ p ∈ M, H p.2 = some (.tup (p.1.map V.int))) → Q (.ref l) (upd H l (.lst (M.map fun p => V.ref p.2)))) := by
  intro pins s σ H xs us Q I r h
  obtain ⟨d, L, rfl, hd, h64, nd, hne, q⟩ := h
  obtain ⟨u, rfl, rx⟩ := vals1 r
  cases rx
  obtain ⟨z, lo, es, ep, as, raw, hz, ks, at_⟩ := dt_raw I hd
  have hlL : (L.map fun p => ((p.1.map Sum.inl : List Key), p.2)).length = L.length := List.length_map ..
  have hla : as.length = L.length := by rw [← hlL]; exact (Paired.length ks).symm
  have key : ∀ (j : Nat) (p : List Int × V), L[j]? = some p → ∃ a, as[j]? = some a ∧ H a = some (.tup (p.1.map V.int)) := fun j p hp => by
    have hj : j < L.length := (List.getElem?_eq_some_iff.mp hp).1
    obtain ⟨a, ha⟩ := get_of_lt (xs := as) (j := j) (by lia)
    have := paired_get ks j ((p.1.map Sum.inl : List Key), p.2) a (by rw [List.getElem?_map, hp]; rfl) ha
    refine ⟨a, ha, ?_⟩
    rw [this, List.map_map]
    rfl
  have t0 : TupsAt s.heap as (L.map (·.1)) := paired_of (by rw [List.length_map, hla]) fun j a ns e1 e2 => by
    rw [List.getElem?_map] at e2
    cases hp : L[j]? with
    | none => rw [hp] at e2; cases e2
    | some p =>
      rw [hp] at e2
      have e3 : p.1 = ns := Option.some.inj e2
      obtain ⟨a', h1, h2⟩ := key j p hp
      rw [e1] at h1; cases h1
      obtain ⟨its, rv, it, _⟩ := I.tuple (SqT.of (K := X.K) h2)
      exact ⟨by rw [← e3]; exact hne p (List.mem_of_getElem? hp), its.toArray, it, by rw [← e3]; simpa using intsAre_of rv⟩
  refine Calls.call_function_entry kind_sorted plain_sorted entry_sorted (args_sorted1 _) (by
    unfold Builtin.«sorted»
    refine wpAny_bind (m := checkCount "sorted" 1 1 _) (wpAny_pure (wpAny_bind (PySem.W.kdu_collect (raw_src lo (es := es) (ep := ep)) (show _ from I.ok.hd hc) raw (by rw [hz]; exact z) fun h1 tk acc kp ha => ?_)))
    have e1 : acc.toList = as.map Value.ref := acc_refs ha (by lia) at_
    rw [e1]
    have I1 : Inv X pins σ H { s with heap := h1, toks := tk } := I.kept kp
    refine wpAny_bind (wpAny_newList ?_ (by rw [List.length_map, sizeLine_eq]; lia))
    have g1 : (h1.push (seqObj "list" (as.map Value.ref).toArray 0)).get? h1.objs.size = some (seqObj "list" (as.map Value.ref).toArray 0) := Heap.get?_push_size _ rfl
    have t1 : TupsAt (h1.push (seqObj "list" (as.map Value.ref).toArray 0)) as (L.map (·.1)) := t0.keep fun b o e _ => Heap.get?_push_of_some _ (kp b o e)
    refine wpAny_bind (wpAny_holding (wpAny_call_entry slot_list_sort ⟨_, g1, rfl⟩ entry_list_sort (lsort_tups g1 (by lia) t1 nd fun p pp po h2 c kp2 e => ⟨_, rfl, ?_⟩) (args_list_sort _)))
    have hn : H h1.objs.size = none := I1.hok.fresh (Nat.le_refl _)
    have inr : ∀ i ∈ p, i < as.length := fun i hi => List.mem_range.mp (pp.mem_iff.mp hi)
    have eM : (p.map fun i => (as.map Value.ref).getD i .none) = (p.map fun i => as.getD i 0).map Value.ref := by
      rw [List.map_map]
      refine List.map_congr_left fun i hi => ?_
      have := inr i hi
      simp [this]
    refine wpAny_pure ⟨_, rfl, .ref h1.objs.size, _, I1.laid (a := h1.objs.size) (o := .lst ((p.map fun i => ((L.map (·.1)).getD i [], as.getD i 0)).map fun q => V.ref q.2)) (t' := tk) (fun b o hb => kp2 b o (Nat.ne_of_lt (Heap.lt_size hb)) (Heap.get?_push_of_some _ hb)) (Nat.le_refl _) ⟨?_, (p.map fun i => as.getD i 0).map Value.ref, c, ?_, ?_⟩, rfl, q _ _ hn ?_ ?_ ?_⟩
    · rw [List.length_map, List.length_map, pp.length_eq, List.length_range, sizeLine_eq]; lia
    · rw [List.map_map]
      exact refs_vals2 _ (fun i => as.getD i 0) (fun _ => rfl) p
    · rw [← eM]; exact e
    · rw [List.map_map]
      have e2 : (List.range as.length).map (fun i => (L.map (·.1)).getD i []) = L.map (·.1) := by
        refine List.ext_getElem? fun j => ?_
        rw [List.getElem?_map]
        by_cases hj : j < L.length
        · have h3 : (List.range as.length)[j]? = some j := by simp [hla, hj]
          rw [h3]
          simp [hj]
        · have h3 : (List.range as.length)[j]? = none := by simp [hla]; lia
          rw [h3, List.getElem?_eq_none (by rw [List.length_map]; lia)]
          rfl
      have e7 := pp.map fun i => (L.map (·.1)).getD i []
      rw [e2] at e7
      exact e7
    · rw [List.pairwise_map]
      exact po
    · intro r hr
      obtain ⟨i, hi, e3⟩ := List.mem_map.mp hr
      have hlt := inr i hi
      obtain ⟨p0, hp0⟩ := get_of_lt (xs := L) (j := i) (by lia)
      obtain ⟨a, h3, h4⟩ := key i p0 hp0
      rw [← e3]
      have e5 : as.getD i 0 = a := by rw [List.getD_eq_getElem?_getD, h3]; rfl
      have e6 : (L.map (·.1)).getD i [] = p0.1 := by rw [List.getD_eq_getElem?_getD, List.getElem?_map, hp0]; rfl
      show H (as.getD i 0) = some (.tup (((L.map (·.1)).getD i []).map V.int))
      rw [e5, e6]; exact h4)
end
end FX

/-! ## Farhold: more rules over the layer. F: isinstance with a built-in class -/
namespace FX
open PySem PySem.Spec PyProof.Rows L2
set_option linter.all false
section
variable {X : Cx}
def rIsi (K : PySem.W.Frag) : List V → Hp → VK → Prop := fun xs H Q => ∃ x n t b, xs = [x, .ty n] ∧ TyOf K H x t ∧ PySem.W.kitOne K t (.type n) = some b ∧ Q (.bl b) H
theorem call_isi : CallR X (.builtin "isinstance") (rIsi X.K) := by
  intro pins s σ H xs us Q I r h
  obtain ⟨x, n, t, b, rfl, ty, e, q⟩ := h
  obtain ⟨u1, u2, rfl, r1, r2⟩ : ∃ u1 u2, us = [u1, u2] ∧ RelV x u1 ∧ RelV (.ty n) u2 := by
    cases r with
    | cons r1 t1 => cases t1 with
      | cons r2 t2 => cases t2; exact ⟨_, _, rfl, r1, r2⟩
  cases (show u2 = Value.type n from r2)
  exact isinst_ok I r1 ty e fun tk => ⟨.bl b, H, I.tok tk, rfl, q⟩
theorem kit_same {K : PySem.W.Frag} {n : String} : PySem.W.kitOne K (.type n) (.type n) = some true := by
  unfold PySem.W.kitOne
  rw [if_pos (by simp)]
end
end FX

/-! ## G: d.items() of a dict of things; sorted(..) of those of an empty one -/
namespace FX
open PySem PySem.Spec PyProof.Rows L2
set_option linter.all false
/-- the view that d.items() gives -/
def itemsO (p d : Addr) : HO := .ext fun h => h.IsItemsView p d
theorem meets_items_raw {prog : Program} {w : World} (d : Addr) (hd : (d == sysModules) = false) :
    MeetsIn prog w (Builtin.«dict.items» ⟨[.ref d], []⟩) (fun _ R s => s.TypeIs (.ref d) "dict" ∧ R (.ok (.ret (.ref s.heap.objs.size))) { s with heap := s.heap.push { cls := .type "dict_items", data := .fields #[.ref d] } }) :=
  .of_wp fun A R s ⟨ht, h⟩ => by
    unfold Builtin.«dict.items»
    refine wpAny_bind ?_
    unfold Builtin.Dict.noArgs
    refine wpAny_bind (wpAny_notOrdered_dict ht ?_)
    show wpAny _ _ (pure d) _ _ s
    refine wpAny_pure ?_
    show wpAny _ _ (Builtin.Dict.showsAll d >>= _) _ _ s
    unfold Builtin.Dict.showsAll
    rw [if_neg (by rw [hd]; exact Bool.false_ne_true)]
    refine wpAny_bind (wpAny_pure ?_)
    exact wpAny_bind (wpAny_newObj_type (wpAny_pure ⟨_, rfl, h⟩))
section
variable {X : Cx}
theorem mt_items : MtR X "dict.items" (fun x xs H Q => ∃ d kvs, x = .ref d ∧ xs = [] ∧ H d = some (.dT kvs) ∧ ∀ p, H p = none → Q (.ref p) (upd H p (itemsO p d))) := by
  intro pins s σ H x xs v us Q I rx rs h
  obtain ⟨d, kvs, rfl, rfl, hd, q⟩ := h
  cases rx
  cases rs
  obtain ⟨z, lo, ys, rel, o, es, ep, g1, g2, g3, g4, g5⟩ := (show ObjOk X.prog X.w H s.heap d (.dT kvs) from I.hok d _ hd)
  refine PySem.call_meetsIn PySem.F.slot_dict_items ⟨o, g1, g2.1⟩ PySem.F.entry_dict_items (PySem.F.args_dict_items_1 _) (meets_items_raw d lo) ⟨⟨o, g1, g2.1⟩, ?_⟩
  have hn : H s.heap.objs.size = none := I.hok.fresh (Nat.le_refl _)
  refine ⟨.ref s.heap.objs.size, _, I.laid (a := s.heap.objs.size) (o := itemsO s.heap.objs.size d) (t' := s.toks) (fun b o e => Heap.get?_push_of_some _ e) (Nat.le_refl _) ?_, rfl, q _ hn⟩
  have g : (s.heap.push { cls := .type "dict_items", data := .fields #[.ref d] }).get? s.heap.objs.size = some { cls := .type "dict_items", data := .fields #[.ref d] } := Heap.get?_push_size _ rfl
  exact ⟨⟨_, g, rfl, rfl⟩, ⟨_, g⟩, fun h1 h2 ⟨o, e, r⟩ k => ⟨o, k o e, r⟩⟩
end
end FX

/-! ## Farhold: a house as it lies -/
namespace FX
open PySem PySem.Spec PyProof.Rows L2
set_option linter.all false
/-- a thing -/
abbrev T2 := Int × Int
def tk (t : T2) : List Key := [.inl t.1, .inl t.2]
def tv (t : T2) : List V := [.int t.1, .int t.2]
theorem tk_kV (t : T2) : (tk t).map kV = tv t := rfl
theorem tk_inj {a b : T2} (h : tk a = tk b) : a = b := by
  obtain ⟨a1, a2⟩ := a
  obtain ⟨b1, b2⟩ := b
  unfold tk at h
  simp only [List.cons.injEq, Sum.inl.injEq, and_true] at h
  rw [h.1, h.2]
/-- the letters of a house -/
structure HGh where
  num : Int
  made : Int
  ticks : Int
  h : Addr
  o : Addr
  l : Addr
  r : Addr
  hand : List T2
  outs : List (T2 × Int)
  holds : List (T2 × Addr × List T2)
  recs : List (T2 × Int)
/-! ### attributes -/
theorem lk_hd {k : Str} {v : V} {r : List (Str × V)} : List.lookup k ((k, v) :: r) = some v := by
  rw [List.lookup_cons]
  have : (k == k) = true := beq_self_eq_true k
  rw [this]
theorem lk_tl {k j : Str} {v : V} {r : List (Str × V)} (h : ¬ k = j) : List.lookup k ((j, v) :: r) = List.lookup k r := by
  rw [List.lookup_cons]
  have : (k == j) = false := beq_eq_false_iff_ne.mpr h
  rw [this]
theorem pf_nil {f : Str} {v : V} : putF f v [] = [(f, v)] := rfl
theorem pf_hd {f : Str} {v x : V} {r : List (Str × V)} : putF f v ((f, x) :: r) = (f, v) :: r := by
  show (if f = f then (f, v) :: r else (f, x) :: putF f v r) = _
  rw [if_pos rfl]
theorem pf_tl {f k : Str} {v x : V} {r : List (Str × V)} (h : ¬ k = f) : putF f v ((k, x) :: r) = (k, x) :: putF f v r := by
  show (if k = f then (k, v) :: r else (k, x) :: putF f v r) = _
  rw [if_neg h]
theorem n_number_made : ¬ (("number" : Str) = "made") := by decide +kernel
theorem n_number_ticks : ¬ (("number" : Str) = "ticks") := by decide +kernel
theorem n_number_hand : ¬ (("number" : Str) = "hand") := by decide +kernel
theorem n_number_outs : ¬ (("number" : Str) = "outs") := by decide +kernel
theorem n_number_holds : ¬ (("number" : Str) = "holds") := by decide +kernel
theorem n_number_records : ¬ (("number" : Str) = "records") := by decide +kernel
theorem n_made_number : ¬ (("made" : Str) = "number") := by decide +kernel
theorem n_made_ticks : ¬ (("made" : Str) = "ticks") := by decide +kernel
theorem n_made_hand : ¬ (("made" : Str) = "hand") := by decide +kernel
theorem n_made_outs : ¬ (("made" : Str) = "outs") := by decide +kernel
theorem n_made_holds : ¬ (("made" : Str) = "holds") := by decide +kernel
theorem n_made_records : ¬ (("made" : Str) = "records") := by decide +kernel
theorem n_ticks_number : ¬ (("ticks" : Str) = "number") := by decide +kernel
theorem n_ticks_made : ¬ (("ticks" : Str) = "made") := by decide +kernel
theorem n_ticks_hand : ¬ (("ticks" : Str) = "hand") := by decide +kernel
theorem n_ticks_outs : ¬ (("ticks" : Str) = "outs") := by decide +kernel
theorem n_ticks_holds : ¬ (("ticks" : Str) = "holds") := by decide +kernel
theorem n_ticks_records : ¬ (("ticks" : Str) = "records") := by decide +kernel
theorem n_hand_number : ¬ (("hand" : Str) = "number") := by decide +kernel
theorem n_hand_made : ¬ (("hand" : Str) = "made") := by decide +kernel
theorem n_hand_ticks : ¬ (("hand" : Str) = "ticks") := by decide +kernel
theorem n_hand_outs : ¬ (("hand" : Str) = "outs") := by decide +kernel
theorem n_hand_holds : ¬ (("hand" : Str) = "holds") := by decide +kernel
theorem n_hand_records : ¬ (("hand" : Str) = "records") := by decide +kernel
theorem n_outs_number : ¬ (("outs" : Str) = "number") := by decide +kernel
theorem n_outs_made : ¬ (("outs" : Str) = "made") := by decide +kernel
theorem n_outs_ticks : ¬ (("outs" : Str) = "ticks") := by decide +kernel
theorem n_outs_hand : ¬ (("outs" : Str) = "hand") := by decide +kernel
theorem n_outs_holds : ¬ (("outs" : Str) = "holds") := by decide +kernel
theorem n_outs_records : ¬ (("outs" : Str) = "records") := by decide +kernel
theorem n_holds_number : ¬ (("holds" : Str) = "number") := by decide +kernel
theorem n_holds_made : ¬ (("holds" : Str) = "made") := by decide +kernel
theorem n_holds_ticks : ¬ (("holds" : Str) = "ticks") := by decide +kernel
theorem n_holds_hand : ¬ (("holds" : Str) = "hand") := by decide +kernel
theorem n_holds_outs : ¬ (("holds" : Str) = "outs") := by decide +kernel
theorem n_holds_records : ¬ (("holds" : Str) = "records") := by decide +kernel
theorem n_records_number : ¬ (("records" : Str) = "number") := by decide +kernel
theorem n_records_made : ¬ (("records" : Str) = "made") := by decide +kernel
theorem n_records_ticks : ¬ (("records" : Str) = "ticks") := by decide +kernel
theorem n_records_hand : ¬ (("records" : Str) = "hand") := by decide +kernel
theorem n_records_outs : ¬ (("records" : Str) = "outs") := by decide +kernel
theorem n_records_holds : ¬ (("records" : Str) = "holds") := by decide +kernel
def hflds (G : HGh) : List (Str × V) := [("number", .int G.num), ("made", .int G.made), ("ticks", .int G.ticks), ("hand", .ref G.h), ("outs", .ref G.o), ("holds", .ref G.l), ("records", .ref G.r)]
theorem hf_number (G : HGh) : (hflds G).lookup ("number" : Str) = some (.int G.num) := by
  unfold hflds
  rw [lk_hd]
theorem hf_made (G : HGh) : (hflds G).lookup ("made" : Str) = some (.int G.made) := by
  unfold hflds
  rw [lk_tl n_made_number, lk_hd]
theorem hf_ticks (G : HGh) : (hflds G).lookup ("ticks" : Str) = some (.int G.ticks) := by
  unfold hflds
  rw [lk_tl n_ticks_number, lk_tl n_ticks_made, lk_hd]
theorem hf_hand (G : HGh) : (hflds G).lookup ("hand" : Str) = some (.ref G.h) := by
  unfold hflds
  rw [lk_tl n_hand_number, lk_tl n_hand_made, lk_tl n_hand_ticks, lk_hd]
theorem hf_outs (G : HGh) : (hflds G).lookup ("outs" : Str) = some (.ref G.o) := by
  unfold hflds
  rw [lk_tl n_outs_number, lk_tl n_outs_made, lk_tl n_outs_ticks, lk_tl n_outs_hand, lk_hd]
theorem hf_holds (G : HGh) : (hflds G).lookup ("holds" : Str) = some (.ref G.l) := by
  unfold hflds
  rw [lk_tl n_holds_number, lk_tl n_holds_made, lk_tl n_holds_ticks, lk_tl n_holds_hand, lk_tl n_holds_outs, lk_hd]
theorem hf_records (G : HGh) : (hflds G).lookup ("records" : Str) = some (.ref G.r) := by
  unfold hflds
  rw [lk_tl n_records_number, lk_tl n_records_made, lk_tl n_records_ticks, lk_tl n_records_hand, lk_tl n_records_outs, lk_tl n_records_holds, lk_hd]
theorem hf_put_made (G : HGh) (y : Int) : putF "made" (.int y) (hflds G) = hflds { G with made := y } := by
  unfold hflds
  rw [pf_tl n_number_made, pf_hd]
theorem hf_put_ticks (G : HGh) (y : Int) : putF "ticks" (.int y) (hflds G) = hflds { G with ticks := y } := by
  unfold hflds
  rw [pf_tl n_number_ticks, pf_tl n_made_ticks, pf_hd]
theorem hf_all (G : HGh) : putF "records" (.ref G.r) (putF "holds" (.ref G.l) (putF "outs" (.ref G.o) (putF "hand" (.ref G.h) (putF "ticks" (.int G.ticks) (putF "made" (.int G.made) (putF "number" (.int G.num) [])))))) = hflds G := by
  unfold hflds
  rw [pf_nil]
  rw [pf_tl n_number_made, pf_nil]
  rw [pf_tl n_number_ticks, pf_tl n_made_ticks, pf_nil]
  rw [pf_tl n_number_hand, pf_tl n_made_hand, pf_tl n_ticks_hand, pf_nil]
  rw [pf_tl n_number_outs, pf_tl n_made_outs, pf_tl n_ticks_outs, pf_tl n_hand_outs, pf_nil]
  rw [pf_tl n_number_holds, pf_tl n_made_holds, pf_tl n_ticks_holds, pf_tl n_hand_holds, pf_tl n_outs_holds, pf_nil]
  rw [pf_tl n_number_records, pf_tl n_made_records, pf_tl n_ticks_records, pf_tl n_hand_records, pf_tl n_outs_records, pf_tl n_holds_records, pf_nil]
theorem hf_no (G : HGh) {m : Str} (h : (["number", "made", "ticks", "hand", "outs", "holds", "records"] : List Str).contains m = false) : (hflds G).lookup m = none := by
  simp only [List.contains_cons, Bool.or_eq_false_iff, beq_eq_false_iff_ne] at h
  obtain ⟨h1, h2, h3, h4, h5, h6, h7, _⟩ := h
  unfold hflds
  rw [lk_tl h1, lk_tl h2, lk_tl h3, lk_tl h4, lk_tl h5, lk_tl h6, lk_tl h7]
  rfl
theorem hf_len (G : HGh) : (hflds G).length < 1000 := by show 7 < 1000; decide
/-! ### the dicts -/
def dHand (l : List T2) : HO := .dT (l.map fun t => (tk t, V.bl true))
def dInt (l : List (T2 × Int)) : HO := .dT (l.map fun q => (tk q.1, V.int q.2))
def dRef (l : List (T2 × Addr × List T2)) : HO := .dT (l.map fun q => (tk q.1, V.ref q.2.1))
theorem valV_tk {α : Type} (l : List α) (k : α → T2) (f : α → V) (t : T2) : valV (l.map fun q => (tk (k q), f q)) (tk t) = (l.find? fun q => decide (k q = t)).map f := by
  unfold valV
  rw [List.find?_map, Option.map_map]
  congr 1
  congr 1
  funext q
  show decide (tk (k q) = tk t) = decide (k q = t)
  by_cases e : k q = t
  · rw [e]; simp
  · rw [decide_eq_false e, decide_eq_false fun z => e (tk_inj z)]
theorem valV_tk_none {α : Type} {l : List α} {k : α → T2} {f : α → V} {t : T2} (h : ∀ q ∈ l, k q ≠ t) : valV (l.map fun q => (tk (k q), f q)) (tk t) = none := by
  rw [valV_tk, List.find?_eq_none.mpr fun q hq => by simpa using h q hq]
  rfl
theorem putK_tk {α : Type} {l : List α} {k : α → T2} {f : α → V} {t : T2} (v : V) (h : ∀ q ∈ l, k q ≠ t) : putK (l.map fun q => (tk (k q), f q)) (tk t) v = (l.map fun q => (tk (k q), f q)) ++ [(tk t, v)] := putK_new v (valV_tk_none h)
/-! ### a house -/
def foot (G : HGh) : List Addr := G.h :: G.o :: G.l :: G.r :: G.holds.map (·.2.1)
structure HouseAt (C : Addr) (H : Hp) (p : Addr) (G : HGh) : Prop where
  ob : ∃ dx, H p = some (.ins C dx (hflds G))
  dh : H G.h = some (dHand G.hand)
  dO : H G.o = some (dInt G.outs)
  dl : H G.l = some (dRef G.holds)
  dr : H G.r = some (dInt G.recs)
  hl : ∀ q ∈ G.holds, H q.2.1 = some (dHand q.2.2)
  nd : (foot G).Nodup
/-- nothing but the house has changed -/
def HFr (p : Addr) (G : HGh) (H H' : Hp) : Prop := ∀ b o, H b = some o → b ≠ p → b ∉ foot G → H' b = some o
section
variable {C p : Addr} {H H' : Hp} {G : HGh}
theorem HouseAt.keep (x : HouseAt C H p G) (k : ∀ b o, (b = p ∨ b ∈ foot G) → H b = some o → H' b = some o) : HouseAt C H' p G := by
  have m0 : G.h ∈ foot G := by simp [foot]
  have m1 : G.o ∈ foot G := by simp [foot]
  have m2 : G.l ∈ foot G := by simp [foot]
  have m3 : G.r ∈ foot G := by simp [foot]
  refine ⟨let ⟨dx, e⟩ := x.ob; ⟨dx, k _ _ (.inl rfl) e⟩, k _ _ (.inr m0) x.dh, k _ _ (.inr m1) x.dO, k _ _ (.inr m2) x.dl, k _ _ (.inr m3) x.dr, fun q hq => k _ _ (.inr ?_) (x.hl q hq), x.nd⟩
  unfold foot
  exact List.mem_cons_of_mem _ (List.mem_cons_of_mem _ (List.mem_cons_of_mem _ (List.mem_cons_of_mem _ (List.mem_map_of_mem hq))))
theorem HouseAt.same (x : HouseAt C H p G) (s : Same H H') : HouseAt C H' p G := x.keep fun b o _ e => s b o e
theorem HouseAt.foot_dT (x : HouseAt C H p G) {b : Addr} (hb : b ∈ foot G) : ∃ kvs, H b = some (.dT kvs) := by
  unfold foot at hb
  rcases List.mem_cons.mp hb with rfl | hb
  · exact ⟨_, x.dh⟩
  rcases List.mem_cons.mp hb with rfl | hb
  · exact ⟨_, x.dO⟩
  rcases List.mem_cons.mp hb with rfl | hb
  · exact ⟨_, x.dl⟩
  rcases List.mem_cons.mp hb with rfl | hb
  · exact ⟨_, x.dr⟩
  obtain ⟨q, hq, e⟩ := List.mem_map.mp hb
  rw [← e]
  exact ⟨_, x.hl q hq⟩
theorem HouseAt.p_ne (x : HouseAt C H p G) {b : Addr} (hb : b ∈ foot G) : b ≠ p := by
  obtain ⟨kvs, e⟩ := x.foot_dT hb
  obtain ⟨dx, e'⟩ := x.ob
  exact ne_of e e' (by intro z; cases z)
theorem HouseAt.tup_ne (x : HouseAt C H p G) {b : Addr} {xs : List V} (hb : H b = some (.tup xs)) : b ≠ p ∧ b ∉ foot G := by
  obtain ⟨dx, e'⟩ := x.ob
  refine ⟨ne_of hb e' (by intro z; cases z), fun m => ?_⟩
  obtain ⟨kvs, e⟩ := x.foot_dT m
  rw [hb] at e; cases e
theorem HouseAt.lst_ne (x : HouseAt C H p G) {b : Addr} {xs : List V} (hb : H b = some (.lst xs)) : b ≠ p ∧ b ∉ foot G := by
  obtain ⟨dx, e'⟩ := x.ob
  refine ⟨ne_of hb e' (by intro z; cases z), fun m => ?_⟩
  obtain ⟨kvs, e⟩ := x.foot_dT m
  rw [hb] at e; cases e
theorem HouseAt.frz_ne (x : HouseAt C H p G) {b : Addr} {ob : Obj} {u : HO} (hb : H b = some (.frz ob u)) : b ≠ p ∧ b ∉ foot G := by
  obtain ⟨dx, e'⟩ := x.ob
  refine ⟨ne_of hb e' (by intro z; cases z), fun m => ?_⟩
  obtain ⟨kvs, e⟩ := x.foot_dT m
  rw [hb] at e; cases e
theorem HFr.keepT (x : HouseAt C H p G) (f : HFr p G H H') : KeepT H H' :=
  ⟨fun a xs e => f a _ e (x.tup_ne e).1 (x.tup_ne e).2, fun a ob u e => f a _ e (x.frz_ne e).1 (x.frz_ne e).2⟩
theorem HouseAt.nds (x : HouseAt C H p G) : (G.h ≠ G.o ∧ G.h ≠ G.l ∧ G.h ≠ G.r) ∧ (G.o ≠ G.l ∧ G.o ≠ G.r) ∧ G.l ≠ G.r ∧ ∀ q ∈ G.holds, q.2.1 ≠ G.h ∧ q.2.1 ≠ G.o ∧ q.2.1 ≠ G.l ∧ q.2.1 ≠ G.r := by
  have nd := x.nd
  unfold foot at nd
  simp only [List.nodup_cons, List.mem_cons, not_or] at nd
  obtain ⟨⟨a1, a2, a3, a4⟩, ⟨b1, b2, b3⟩, ⟨c1, c2⟩, d1, _⟩ := nd
  refine ⟨⟨a1, a2, a3⟩, ⟨b1, b2⟩, c1, fun q hq => ?_⟩
  have m : q.2.1 ∈ G.holds.map (·.2.1) := List.mem_map_of_mem hq
  exact ⟨fun z => a4 (z ▸ m), fun z => b3 (z ▸ m), fun z => c2 (z ▸ m), fun z => d1 (z ▸ m)⟩
/-- made, ticks -/
theorem HouseAt.fld (x : HouseAt C H p G) (dx : Addr) (m t : Int) : HouseAt C (upd H p (.ins C dx (hflds { G with made := m, ticks := t }))) p { G with made := m, ticks := t } := by
  have n : ∀ {b}, b ∈ foot G → b ≠ p := fun hb => x.p_ne hb
  have m0 : G.h ∈ foot G := by simp [foot]
  have m1 : G.o ∈ foot G := by simp [foot]
  have m2 : G.l ∈ foot G := by simp [foot]
  have m3 : G.r ∈ foot G := by simp [foot]
  refine ⟨⟨dx, upd_same⟩, by rw [upd_ne (n m0)]; exact x.dh, by rw [upd_ne (n m1)]; exact x.dO, by rw [upd_ne (n m2)]; exact x.dl, by rw [upd_ne (n m3)]; exact x.dr, fun q hq => ?_, x.nd⟩
  rw [upd_ne (n (by unfold foot; exact List.mem_cons_of_mem _ (List.mem_cons_of_mem _ (List.mem_cons_of_mem _ (List.mem_cons_of_mem _ (List.mem_map_of_mem hq))))))]
  exact x.hl q hq
theorem HouseAt.setOuts (x : HouseAt C H p G) (l : List (T2 × Int)) : HouseAt C (upd H G.o (dInt l)) p { G with outs := l } := by
  obtain ⟨⟨a1, a2, a3⟩, ⟨b1, b2⟩, c1, d1⟩ := x.nds
  have np := x.p_ne (b := G.o) (by simp [foot])
  obtain ⟨dx, e⟩ := x.ob
  exact ⟨⟨dx, by rw [upd_ne np.symm]; exact e⟩, by rw [upd_ne a1]; exact x.dh, upd_same, by rw [upd_ne b1.symm]; exact x.dl, by rw [upd_ne b2.symm]; exact x.dr, fun q hq => by rw [upd_ne (d1 q hq).2.1]; exact x.hl q hq, x.nd⟩
theorem HouseAt.setHand (x : HouseAt C H p G) (l : List T2) : HouseAt C (upd H G.h (dHand l)) p { G with hand := l } := by
  obtain ⟨⟨a1, a2, a3⟩, ⟨b1, b2⟩, c1, d1⟩ := x.nds
  have np := x.p_ne (b := G.h) (by simp [foot])
  obtain ⟨dx, e⟩ := x.ob
  exact ⟨⟨dx, by rw [upd_ne np.symm]; exact e⟩, upd_same, by rw [upd_ne a1.symm]; exact x.dO, by rw [upd_ne a2.symm]; exact x.dl, by rw [upd_ne a3.symm]; exact x.dr, fun q hq => by rw [upd_ne (d1 q hq).1]; exact x.hl q hq, x.nd⟩
theorem HouseAt.setRecs (x : HouseAt C H p G) (l : List (T2 × Int)) : HouseAt C (upd H G.r (dInt l)) p { G with recs := l } := by
  obtain ⟨⟨a1, a2, a3⟩, ⟨b1, b2⟩, c1, d1⟩ := x.nds
  have np := x.p_ne (b := G.r) (by simp [foot])
  obtain ⟨dx, e⟩ := x.ob
  exact ⟨⟨dx, by rw [upd_ne np.symm]; exact e⟩, by rw [upd_ne a3]; exact x.dh, by rw [upd_ne b2]; exact x.dO, by rw [upd_ne c1]; exact x.dl, upd_same, fun q hq => by rw [upd_ne (d1 q hq).2.2.2]; exact x.hl q hq, x.nd⟩
theorem HouseAt.addHold (x : HouseAt C H p G) (t : T2) {a : Addr} (ha : H a = some (dHand [])) (hf : a ∉ foot G) : HouseAt C (upd H G.l (dRef (G.holds ++ [(t, a, [])]))) p { G with holds := G.holds ++ [(t, a, [])] } := by
  obtain ⟨⟨a1, a2, a3⟩, ⟨b1, b2⟩, c1, d1⟩ := x.nds
  have np := x.p_ne (b := G.l) (by simp [foot])
  obtain ⟨dx, e⟩ := x.ob
  refine ⟨⟨dx, by rw [upd_ne np.symm]; exact e⟩, by rw [upd_ne a2]; exact x.dh, by rw [upd_ne b1]; exact x.dO, upd_same, by rw [upd_ne c1.symm]; exact x.dr, fun q hq => ?_, ?_⟩
  · rcases List.mem_append.mp hq with hq | hq
    · rw [upd_ne (d1 q hq).2.2.1]; exact x.hl q hq
    · have e2 : q = (t, a, []) := by simpa using hq
      subst e2
      have : a ≠ G.l := fun z => hf (by rw [z]; simp [foot])
      rw [upd_ne this]; exact ha
  · have e2 : foot { G with holds := G.holds ++ [(t, a, [])] } = foot G ++ [a] := by simp [foot]
    rw [e2]
    exact nd_snoc x.nd hf
end
/-! ### data of a house -/
def thD (t : T2) : PyData := .tuple [.int t.1, .int t.2]
def rowD (q : T2 × Int × List T2) : PyData := .tuple [thD q.1, .int q.2.1, .tuple (q.2.2.map thD)]
def recD (q : T2 × Int) : PyData := .tuple [thD q.1, .int q.2]
def stD (hs : List T2) (os : List (T2 × Int × List T2)) (rs : List (T2 × Int)) : PyData := .tuple [.tuple (hs.map thD), .tuple (os.map rowD), .tuple (rs.map recD)]
theorem thD_ok (t : T2) : (thD t).canLay0 = true ∧ (thD t).depth ≤ 2 := by
  unfold thD
  constructor
  · simp [PyData.canLay0, PyData.canLayAll0]
  · simp [PyData.depth, PyData.depthAll]
theorem ok_map {α : Type} {f : α → PyData} {n : Nat} (h : ∀ x, (f x).canLay0 = true ∧ (f x).depth ≤ n) : ∀ l : List α, PyData.canLayAll0 (l.map f) = true ∧ PyData.depthAll (l.map f) ≤ n
  | [] => ⟨by simp [PyData.canLayAll0], by simp [PyData.depthAll]⟩
  | x :: l => by
    obtain ⟨a, b⟩ := ok_map h l
    obtain ⟨c, d⟩ := h x
    exact ⟨by simp [PyData.canLayAll0, a, c], by simp only [List.map_cons, PyData.depthAll]; lia⟩
theorem tup_ok {α : Type} {f : α → PyData} {n : Nat} (h : ∀ x, (f x).canLay0 = true ∧ (f x).depth ≤ n) (l : List α) : (PyData.tuple (l.map f)).canLay0 = true ∧ (PyData.tuple (l.map f)).depth ≤ n + 1 := by
  obtain ⟨a, b⟩ := ok_map h l
  exact ⟨by simp only [PyData.canLay0]; exact a, by simp only [PyData.depth]; lia⟩
theorem rowD_ok (q : T2 × Int × List T2) : (rowD q).canLay0 = true ∧ (rowD q).depth ≤ 5 := by
  obtain ⟨a, b⟩ := thD_ok q.1
  obtain ⟨c, d⟩ := tup_ok thD_ok q.2.2
  unfold rowD
  exact ⟨by simp [PyData.canLay0, PyData.canLayAll0, a, c] at *; simp [a, c], by simp only [PyData.depth, PyData.depthAll] at *; lia⟩
theorem recD_ok (q : T2 × Int) : (recD q).canLay0 = true ∧ (recD q).depth ≤ 5 := by
  obtain ⟨a, b⟩ := thD_ok q.1
  unfold recD
  exact ⟨by simp [PyData.canLay0, PyData.canLayAll0, a], by simp only [PyData.depth, PyData.depthAll] at *; lia⟩
theorem stD_ok (hs : List T2) (os : List (T2 × Int × List T2)) (rs : List (T2 × Int)) : (stD hs os rs).canLay0 = true ∧ (stD hs os rs).depth ≤ 20 := by
  obtain ⟨a, b⟩ := tup_ok thD_ok hs
  obtain ⟨c, d⟩ := tup_ok rowD_ok os
  obtain ⟨e, f⟩ := tup_ok recD_ok rs
  unfold stD
  refine ⟨?_, ?_⟩
  · rw [PyData.canLay0, PyData.canLayAll0, PyData.canLayAll0, PyData.canLayAll0, PyData.canLayAll0, a, c, e]; rfl
  · rw [PyData.depth, PyData.depthAll, PyData.depthAll, PyData.depthAll, PyData.depthAll]; lia
theorem stD_okd (hs : List T2) (os : List (T2 × Int × List T2)) (rs : List (T2 × Int)) : Okd (stD hs os rs) := ⟨(stD_ok hs os rs).1, Nat.le_trans (stD_ok hs os rs).2 (by decide)⟩
/-- things that stand at these addresses -/
def ThsAt (H : Hp) : List Addr → List T2 → Prop := Paired fun a t => H a = some (.tup (tv t))
theorem th_rep {K : PySem.W.Frag} {H : Hp} {a : Addr} {t : T2} (e : H a = some (.tup (tv t))) : RepT K H (.ref a) (thD t) := .tupP (SqT.of e) (.cons (.int _) (.cons (.int _) .nil))
theorem ths_rep {K : PySem.W.Frag} {H : Hp} : ∀ {as : List Addr} {ts : List T2}, ThsAt H as ts → Paired (RepT K H) (as.map V.ref) (ts.map thD)
  | _, _, .nil => .nil
  | _, _, .cons e t => .cons (th_rep e) (ths_rep t)
/-- the order of things -/
def lt2 (a b : T2) : Prop := HT.lexLt [a.1, a.2] [b.1, b.2] = true
theorem lt2_iff (a b : T2) : lt2 a b ↔ (a.1 < b.1 ∨ (a.1 = b.1 ∧ a.2 < b.2)) := by
  unfold lt2
  rw [HT.lexLt_cons, HT.lexLt_cons]
  by_cases h1 : a.1 = b.1
  · rw [if_pos h1]
    by_cases h2 : a.2 = b.2
    · rw [if_pos h2, HT.lexLt_nil_nil]
      constructor
      · intro z; cases z
      · intro z; lia
    · rw [if_neg h2]
      constructor
      · intro z; exact .inr ⟨h1, of_decide_eq_true z⟩
      · intro z; exact decide_eq_true (by lia)
  · rw [if_neg h1]
    constructor
    · intro z; exact .inl (of_decide_eq_true z)
    · intro z; exact decide_eq_true (by lia)
section
variable {X : Cx}
/-- sorted(d), d a dict of things -/
theorem call_sorted_things (hc : X.calm = true) : CallR X (.builtin "sorted") (fun xs H Q => ∃ d, ∃ l : List (T2 × V), ∃ ss : List T2, xs = [.ref d] ∧ Rd H d (.dT (l.map fun q => (tk q.1, q.2))) ∧ l.length < 64 ∧ ss.Perm (l.map (·.1)) ∧ ss.Pairwise lt2 ∧
    ∀ (r : Addr) (as : List Addr), H r = none → ThsAt H as ss → Q (.ref r) (upd H r (.lst (as.map V.ref)))) := by
  intro pins s σ H xs us Q I rv h
  obtain ⟨d, l, ss, rfl, hd, h64, pm, pw, q⟩ := h
  refine call_sorted_dict hc pins s σ H _ us Q I rv ⟨d, l.map fun q => ([q.1.1, q.1.2], q.2), rfl, ?_, by rw [List.length_map]; exact h64, ?_, ?_, fun r M hr mp mw ma => ?_⟩
  · have e : ((l.map fun q => (([q.1.1, q.1.2] : List Int), q.2)).map fun p => ((p.1.map Sum.inl : List Key), p.2)) = l.map fun q => (tk q.1, q.2) := by
      rw [List.map_map]; rfl
    rw [e]; exact hd
  · have nd : ss.Nodup := pw.imp fun {a b} h z => by
      rw [lt2_iff, z] at h; lia
    have nd2 : (l.map (·.1)).Nodup := pm.nodup_iff.mp nd
    have e : (l.map fun q => (([q.1.1, q.1.2] : List Int), q.2)).map (·.1) = (l.map (·.1)).map fun t => [t.1, t.2] := by
      rw [List.map_map, List.map_map]; rfl
    rw [e]
    exact List.Pairwise.map _ (fun a b h z => h (by obtain ⟨a1, a2⟩ := a; obtain ⟨b1, b2⟩ := b; simp at z; rw [z.1, z.2])) nd2
  · intro p hp
    obtain ⟨q, _, e⟩ := List.mem_map.mp hp
    rw [← e]; simp
  · have e : (l.map fun q => (([q.1.1, q.1.2] : List Int), q.2)).map (·.1) = (l.map (·.1)).map fun t => [t.1, t.2] := by
      rw [List.map_map, List.map_map]; rfl
    rw [e] at mp
    have e2 : M.map (·.1) = ss.map fun t => [t.1, t.2] := by
      refine sorted_one (lt := fun a b => HT.lexLt a b = true) (fun a z => by rw [lex_irr] at z; cases z) (fun a b h1 h2 => by have := lex_tr h1 h2; rw [lex_irr] at this; cases this) (mp.trans (pm.symm.map _)) ?_ ?_
      · rw [List.pairwise_map]; exact mw
      · rw [List.pairwise_map]; exact pw
    have hl : M.length = ss.length := by have := congrArg List.length e2; simpa using this
    have e3 : (M.map fun p => V.ref p.2) = (M.map (·.2)).map V.ref := by rw [List.map_map]; rfl
    rw [e3]
    refine q r _ hr (paired_of (by rw [List.length_map]; exact hl) fun j a t e4 e5 => ?_)
    rw [List.getElem?_map] at e4
    cases hm : M[j]? with
    | none => rw [hm] at e4; cases e4
    | some m =>
      rw [hm] at e4
      cases e4
      have e6 : (M.map (·.1))[j]? = some m.1 := by rw [List.getElem?_map, hm]; rfl
      rw [e2, List.getElem?_map, e5] at e6
      have e7 : [t.1, t.2] = m.1 := Option.some.inj e6
      have := ma m (List.mem_of_getElem? hm)
      rw [← e7] at this
      exact this
end
theorem hand_rd {H : Hp} {d : Addr} {l : List T2} (h : H d = some (dHand l)) : Rd H d (.dT ((l.map fun t => (t, V.bl true)).map fun q => (tk q.1, q.2))) := by
  have e : ((l.map fun t => (t, V.bl true)).map fun q => (tk q.1, q.2)) = l.map fun t => (tk t, V.bl true) := by rw [List.map_map]; rfl
  rw [e]; exact .inl h
theorem int_rd {H : Hp} {d : Addr} {l : List (T2 × Int)} (h : H d = some (dInt l)) : Rd H d (.dT ((l.map fun q => (q.1, V.int q.2)).map fun q => (tk q.1, q.2))) := by
  have e : ((l.map fun q => (q.1, V.int q.2)).map fun q => (tk q.1, q.2)) = l.map fun q => (tk q.1, V.int q.2) := by rw [List.map_map]; rfl
  rw [e]; exact .inl h
/-! ### comprehensions: the forms one uses -/
theorem comp_list {K : PySem.W.Frag} {a p : Addr} {xs : List V} {tt : TT} {te : TE} {caps : List (Str × Nat)} {σ : L2.St} {H : Hp} {Q : Hp → Prop} (Pv : Nat → List V → Hp → Prop) (h0 : Pv 0 [] (upd H p (.lst [])))
    (hl : ∀ i ys H2, i ≤ xs.length → Pv i ys H2 → SqL K H2 a xs ∧ H2 p = some (.lst ys))
    (hs : ∀ i x ys H2 (N : List V → Hp → Prop), xs[i]? = some x → Pv i ys H2 → (∀ ys H, Pv (i + 1) ys H → N ys H) → tt (some x :: capv σ caps) H2 fun b H4 =>
      if b = true then te (some x :: capv σ caps) H4 fun v H5 => H5 p = some (.lst ys) ∧ ys.length < sizeLine ∧ N (ys ++ [v]) (upd H5 p (.lst (ys ++ [v]))) else N ys H4)
    (hd : ∀ ys H2, Pv xs.length ys H2 → Q H2) :
    ∃ W : Nat → Nat → List V → Hp → Prop, (∃ m, W 0 m [] (upd H p (.lst []))) ∧ ∀ i m ys H2, W i m ys H2 → H2 p = some (.lst ys) ∧
      (((Itl K a).stop i H2 ∧ Q H2) ∨ ((Itl K a).go i H2 ∧ ∀ x H3, (Itl K a).yld i H2 x H3 → tt (some x :: capv σ caps) H3 fun b H4 =>
        if b = true then te (some x :: capv σ caps) H4 fun v H5 => H5 p = some (.lst ys) ∧ ys.length < sizeLine ∧ ∃ m', m' < m ∧ W (i + 1) m' (ys ++ [v]) (upd H5 p (.lst (ys ++ [v])))
        else ∃ m', m' < m ∧ W (i + 1) m' ys H4)) := by
  refine ⟨fun i m ys H => m = xs.length - i ∧ i ≤ xs.length ∧ Pv i ys H, ⟨xs.length, by simp, Nat.zero_le _, h0⟩, ?_⟩
  rintro i m ys H2 ⟨rfl, hi, pv⟩
  obtain ⟨q1, q2⟩ := hl i ys H2 hi pv
  refine ⟨q2, ?_⟩
  by_cases hlt : i < xs.length
  · refine .inr ⟨⟨xs, xs[i], q1, by simp [hlt]⟩, fun x H3 y => ?_⟩
    obtain ⟨e, y⟩ := y
    subst e
    exact hs i x ys _ (fun zs H' => ∃ m', m' < xs.length - i ∧ (m' = xs.length - (i + 1) ∧ i + 1 ≤ xs.length ∧ Pv (i + 1) zs H')) (y xs q1) pv fun zs H' pz => ⟨_, by lia, rfl, hlt, pz⟩
  · have e : i = xs.length := by lia
    subst e
    exact .inl ⟨⟨xs, q1, Nat.le_refl _⟩, hd ys H2 pv⟩
end FX

/-! ## H: refusals: a def that may raise -/
namespace FX
open PySem PySem.Spec PyProof.Rows L2
set_option linter.all false
/-- an exception as it lies: of the class cls, its record and its last trace are of those that g takes -/
def XAt (h : Heap) (g : Addr → Prop) (e : Addr) (cls : Value) : Prop := g e ∧ ∃ oe vs a0, h.get? e = some oe ∧ oe.cls = cls ∧ oe.data = .fields vs ∧ vs[0]? = some a0 ∧
  (vs[1]? = some .none ∨ ∃ T oT ts, vs[1]? = some (.ref T) ∧ g T ∧ T ≠ e ∧ h.get? T = some oT ∧ oT.data = .fields ts ∧ ts[3]? = some .none)
theorem XAt.mono {h : Heap} {g g' : Addr → Prop} {e : Addr} {cls : Value} (x : XAt h g e cls) (k : ∀ b, g b → g' b) : XAt h g' e cls := by
  obtain ⟨g1, oe, vs, a0, h1, h2, h4, h5, h6⟩ := x
  refine ⟨k _ g1, oe, vs, a0, h1, h2, h4, h5, h6.imp (fun z => z) ?_⟩
  rintro ⟨T, oT, ts, t1, t2, t3⟩
  exact ⟨T, oT, ts, t1, k _ t2, t3⟩
/-- .. that has left a frame -/
def XTr (h : Heap) (g : Addr → Prop) (e : Addr) (cls : Value) : Prop := g e ∧ ∃ oe vs a0 T oT ts, h.get? e = some oe ∧ oe.cls = cls ∧ oe.data = .fields vs ∧ vs[0]? = some a0 ∧ vs[1]? = some (.ref T) ∧ g T ∧ T ≠ e ∧ h.get? T = some oT ∧ oT.data = .fields ts ∧ ts[3]? = some .none
theorem XTr.at {h : Heap} {g : Addr → Prop} {e : Addr} {cls : Value} (x : XTr h g e cls) : XAt h g e cls := by
  obtain ⟨g1, oe, vs, a0, T, oT, ts, h1, h2, h3, h4, h5⟩ := x
  exact ⟨g1, oe, vs, a0, h1, h2, h3, h4, .inr ⟨T, oT, ts, h5⟩⟩
/-- how an exception lies behind a call -/
def CX1 (P : Program) (w : World) : CXT := fun outer H s E e s' => ∃ ex cls H', e = .ref ex ∧ XTr s'.heap (fun b => s.heap.get? b = none ∧ H' b = none) ex cls ∧ E cls none H' ∧ s'.os = s.os ∧ AllBare s'.gens ∧ Un (frs outer) [] H H' s.heap s'.heap ∧ HOk P w H' s'.heap
theorem hok_there {P : Program} {w : World} {H : Hp} {h : Heap} (ok : HOk P w H h) {a : Addr} {o : HO} (e : H a = some o) : ∃ ob, h.get? a = some ob := by
  have x := ok a o e
  cases o with
  | lst xs => obtain ⟨_, _, _, _, e⟩ := x; exact ⟨_, e⟩
  | tup xs => obtain ⟨_, _, _, o, e, _⟩ := x; exact ⟨_, e⟩
  | dK kvs => obtain ⟨_, _, _, _, o, _, _, e, _⟩ := x; exact ⟨_, e⟩
  | dT kvs => obtain ⟨_, _, _, _, o, _, _, e, _⟩ := x; exact ⟨_, e⟩
  | set S n => obtain ⟨o, _, _, _, e, _⟩ := x; exact ⟨_, e⟩
  | ins C dx fs => obtain ⟨_, _, _, e, _⟩ := x; exact ⟨_, e⟩
  | own y => obtain ⟨_, e⟩ := x; exact ⟨_, e⟩
  | xd fs => obtain ⟨_, ⟨_, _, _, e, _⟩, _⟩ := x; exact ⟨_, e⟩
  | rng lo hi => obtain ⟨_, _, _, e⟩ := x; exact ⟨_, e⟩
  | frz ob u => obtain ⟨e, _⟩ := x; exact ⟨_, e⟩
  | tbl ps => exact ⟨_, (show h.get? a = some _ from x)⟩
  | met f y => exact ⟨_, (show h.get? a = some _ from x)⟩
  | ext φ => obtain ⟨_, ⟨_, e⟩, _⟩ := x; exact ⟨_, e⟩
/-- the frames, the exception and its trace set aside: all else is kept -/
structure Aside (fr : List Addr) (g : Addr → Prop) (h h' : Heap) : Prop where
  keep : ∀ b o, h.get? b = some o → b ∉ fr → ¬ g b → h'.get? b = some o
  slot : ∀ b o, h.get? b = some o → b ∈ fr → ∃ sl, h'.get? b = some { o with slots := sl }
section
variable {M : Model} {A : Around} {E : Value → Shared → Prop} {s : Shared} {base : Heap} {env : Env} {outer : List Env} {L e : Addr} {cls : Value} {g : Addr → Prop}
/-- what the library's words say of the heap behind a look at the trace -/
theorem aside_of {h h' : Heap} {Hd : List Addr} (hl : h.FunFrames base (env :: outer)) (hd : ∀ b ∈ Hd, b ∈ frs (env :: outer) ∨ g b) (k1 : (PySem.W.hideAll h Hd).StaysIn h') (k4 : ∀ b o, h.get? b = some o → (∀ vs, o.data ≠ .fields vs) → ∃ sl, h'.get? b = some { o with slots := sl }) : Aside (frs (env :: outer)) g h h' := by
  refine ⟨fun b o e n1 n2 => k1 b o (PySem.W.hideAll_get _ e fun m => ?_), fun b o e m => ?_⟩
  · rcases hd b m with z | z
    · exact n1 z
    · exact n2 z
  · obtain ⟨_, o', e', hn⟩ := hl.mem m
    rw [e] at e'; cases e'
    exact k4 b o e hn
theorem new_trace {h h' : Heap} {Hd : List Addr} {T : Addr} {oT : Obj} {ts : Array Value} (hl : h.FunFrames base (env :: outer)) (hd : ∀ b ∈ Hd, b ∈ frs (env :: outer) ∨ g b) (k4 : ∀ b o, h.get? b = some o → (∀ vs, o.data ≠ .fields vs) → ∃ sl, h'.get? b = some { o with slots := sl })
    (hT : (PySem.W.hideAll h Hd).get? T = none) (eT : h'.get? T = some oT) (dT : oT.data = .fields ts) (fresh : ∀ b, h.get? b = none → g b) : g T := by
  cases q : h.get? T with
  | none => exact fresh T q
  | some o =>
    have m : T ∈ Hd := by
      apply Classical.byContradiction
      intro n
      rw [PySem.W.hideAll_get _ q n] at hT
      cases hT
    rcases hd T m with z | z
    · exfalso
      obtain ⟨_, o', e', hn⟩ := hl.mem z
      rw [q] at e'; cases e'
      obtain ⟨sl, e2⟩ := k4 T o q hn
      rw [eT] at e2
      cases e2
      exact hn ts dT
    · exact z
theorem frames_in {l : List Env} : ∀ en ∈ l, ∀ a, en.frame = some a → a ∈ frs l := fun en he a ha => List.mem_filterMap.mpr ⟨en, he, ha⟩
/-- leaving a frame by an exception -/
theorem leave_x {Q : Unit → Shared → Prop} (hfr : A.frames = some (env :: outer)) (hl : s.heap.FunFrames base (env :: outer)) (hf : env.frame = some L) (x : XAt s.heap g e cls) (fresh : ∀ b, s.heap.get? b = none → g b)
    (h : ∀ h', XTr h' g e cls → Aside (frs (env :: outer)) g s.heap h' → Q () { s with heap := h' }) : wpAny M A (leaving env (.ref e)) Q E s := by
  obtain ⟨ge, oe, vs, a0, h1, h2, h3, h4, h5⟩ := x
  subst h2
  rcases h5 with h5 | ⟨T, oT, ts, t1, t2, t3, t4, t5, t6⟩
  · have hd : ∀ b ∈ frs (env :: outer) ++ [e], b ∈ frs (env :: outer) ∨ g b := fun b hb => by
      rcases List.mem_append.mp hb with z | z
      · exact .inl z
      · have : b = e := by simpa using z
        rw [this]; exact .inr ge
    refine wpAny_leaving_firstW (base := PySem.W.hideAll s.heap (frs (env :: outer) ++ [e])) (a0 := a0) hfr (PySem.W.funFrames_hide hl fun en he a ha => List.mem_append_left _ (frames_in en he a ha)) hf h1 (fun b o q => PySem.W.of_hideAll _ q) (PySem.W.hideAll_none _ (by simp)) h3 h5 h4 fun h' hL => ?_
    obtain ⟨k1, k2, ⟨oe', vs', T', oT', ts', b1, ⟨b2, b3⟩, b4, b5, b6, b7, b8, b9, b10⟩, k4⟩ := hL
    exact h h' ⟨ge, oe', vs', a0, T', oT', ts', b1, b2, b4, b3, b5, new_trace hl hd k4 b6 b8 b9 fresh, b7, b8, b9, b10⟩ (aside_of hl hd k1 k4)
  · have hd : ∀ b ∈ frs (env :: outer) ++ [e, T], b ∈ frs (env :: outer) ∨ g b := fun b hb => by
      rcases List.mem_append.mp hb with z | z
      · exact .inl z
      · have : b = e ∨ b = T := by simpa using z
        rcases this with rfl | rfl
        · exact .inr ge
        · exact .inr t2
    refine wpAny_leaving_nextW (base := PySem.W.hideAll s.heap (frs (env :: outer) ++ [e, T])) (cls := oe.cls) (a0 := a0) hfr (PySem.W.funFrames_hide hl fun en he a ha => List.mem_append_left _ (frames_in en he a ha)) hf ⟨oe, vs, T, oT, ts, h1, ⟨rfl, h4⟩, h3, t1, PySem.W.hideAll_none _ (by simp), t3, t4, t5, t6⟩
      (fun b o q => PySem.W.of_hideAll _ q) (PySem.W.hideAll_none _ (by simp)) fun h' hL => ?_
    obtain ⟨k1, k2, ⟨oe', vs', T', oT', ts', b1, ⟨b2, b3⟩, b4, b5, b6, b7, b8, b9, b10⟩, k4⟩ := hL
    exact h h' ⟨ge, oe', vs', a0, T', oT', ts', b1, b2, b4, b3, b5, new_trace hl hd k4 b6 b8 b9 fresh, b7, b8, b9, b10⟩ (aside_of hl hd k1 k4)
end
end FX

/-! ## I: raise, calls of defs that may raise -/
namespace FX
open PySem PySem.Spec PyProof.Rows L2
set_option linter.all false
section
variable {X : Cx} {pins : List (Addr × Obj)} {σ : L2.St} {H H1 : Hp} {s s1 : Shared} {h' : Heap} {g : Addr → Prop} {ex : Addr} {cls : Value}
/-- the abstract heap is held behind a look at a trace -/
theorem hok_aside {P : Program} {w : World} {fr : List Addr} {h : Heap} (ok : HOk P w H1 h) (a : Aside fr g h h') (hf : ∀ b ∈ fr, H1 b = none) (hg : ∀ b, g b → H1 b = none) : HOk P w H1 h' := fun b o e =>
  (ok b o e).stay (fun c u hc q => a.keep c u q (fun m => by
    have := hf c m
    rcases hc with rfl | hc
    · rw [this] at e; cases e
    · rw [this] at hc; cases hc) (fun m => by
    have := hg c m
    rcases hc with rfl | hc
    · rw [this] at e; cases e
    · rw [this] at hc; cases hc)) (fun _ q => q) fun _ _ q => q
/-- behind a call that raised, and behind looks at the trace -/
theorem un_aside {fr : List Addr} {h : Heap} {s0 : Heap} {H0 : Hp} {fs : List Addr} (u : Un fs [] H0 H1 s0 h) (a : Aside fr g h h') (hg : ∀ b o, s0.get? b = some o → ¬ g b) (hfr : ∀ b o, s0.get? b = some o → b ∈ fr → b ∈ fs) (hH : ∀ b ∈ fr, H1 b = none) : Un fs [] H0 H1 s0 h' where
  keep := fun b o e n1 n2 n3 => a.keep b o (u.keep b o e n1 n2 n3) (fun m => n2 (hfr b o e m)) (hg b o e)
  slot := fun b o e n1 m n3 => by
    obtain ⟨sl, q⟩ := u.slot b o e n1 m n3
    by_cases hm : b ∈ fr
    · obtain ⟨sl2, q2⟩ := a.slot b _ q hm
      exact ⟨sl2, q2⟩
    · exact ⟨sl, a.keep b _ q hm (hg b o e)⟩
  free := u.free
  there := fun b o e n => by
    obtain ⟨o', q⟩ := u.there b o e n
    by_cases hm : b ∈ fr
    · obtain ⟨sl2, q2⟩ := a.slot b _ q hm
      exact ⟨_, q2⟩
    · exact ⟨_, a.keep b _ q hm (hg b o e)⟩
  tups := u.tups
  frzs := u.frzs
  tbls := u.tbls
end
/-- what is wanted of an exception raised here -/
def Raises (X : Cx) (E : XK) : Prop := ∀ (pins : List (Addr × Obj)) (σ : L2.St) (H1 : Hp) (s1 : Shared) (ex : Addr) (cls : Value), Inv X pins σ H1 s1 → XAt s1.heap (fun b => X.s₀.heap.get? b = none ∧ H1 b = none) ex cls → E cls none H1 → X.xe (.ref ex) s1
section
variable {P : Program} {w : World} {K : PySem.W.Frag} {mg : Str → Option Value} {base : Heap} {N : List Str} {qual : Str} {scope : Scope} {f : Addr} {cd : Value} {A : Around} {outer : List Env} {s : Shared} {H : Hp} {E : XK}
theorem raises1 : Raises (cxOf (CX1 P w) P w K mg base N qual scope f cd A outer s H E) E := by
  intro pins σ H1 s1 ex cls I x hE
  have hs0 : ∀ b o, s.heap.get? b = some o → ∃ o', s1.heap.get? b = some o' := fun b o e => I.base.there b o e (by simp [cxOf])
  refine leave_x (base := base) (L := s.heap.objs.size) I.ok.frames I.stack rfl x (fun b q => ?_) fun h' x' as => ?_
  · constructor
    · cases q2 : s.heap.get? b with
      | none => exact q2
      | some o =>
        obtain ⟨o', e⟩ := hs0 b o q2
        rw [q] at e; cases e
    · cases q2 : H1 b with
      | none => rfl
      | some o =>
        obtain ⟨ob, e⟩ := hok_there I.hok q2
        rw [q] at e; cases e
  · have hfree : ∀ b ∈ frs (envOfC qual scope s.heap.objs.size f cd :: outer), H1 b = none := fun b hb => I.stkFree b hb
    refine ⟨ex, cls, H1, rfl, x', hE, I.os, I.bare, un_aside (fs := frs outer) I.base as (fun b o e z => ?_) (fun b o e m => ?_) hfree, hok_aside I.hok as hfree fun b z => z.2⟩
    · have := z.1
      have e' : s.heap.get? b = some o := e
      rw [show (cxOf (CX1 P w) P w K mg base N qual scope f cd A outer s H E).s₀.heap.get? b = s.heap.get? b from rfl, e'] at this
      cases this
    · rcases List.mem_cons.mp (show b ∈ s.heap.objs.size :: frs outer from m) with z | z
      · have := Heap.lt_size (show s.heap.get? b = some o from e)
        rw [z] at this
        exact absurd this (Nat.lt_irrefl _)
      · exact z
/-- an exception of a callee goes on -/
theorem pass1 : Passes (CX1 P w) (cxOf (CX1 P w) P w K mg base N qual scope f cd A outer s H E) E := by
  intro pins σ H0 s0 e s' I ⟨ex, cls, H', he, x, hE, ho, hg, u, ok⟩
  subst he
  have I' : Inv (cxOf (CX1 P w) P w K mg base N qual scope f cd A outer s H E) pins σ H' s' := I.call' (ch := []) ho u ok hg (fun b hb => by simp at hb)
  refine raises1 pins σ H' s' ex cls I' (x.at.mono fun b z => ⟨?_, z.2⟩) hE
  cases q : s.heap.get? b with
  | none => exact q
  | some o =>
    obtain ⟨o', e⟩ := I.base.there b o q (by simp [cxOf])
    rw [z.1] at e; cases e
end
section
variable {P : Program} {w : World} {K : PySem.W.Frag} {mg : Str → Option Value} {base : Heap}
/-- THE RULE for a def that may raise -/
theorem ok1 {x qual : Str} {st : Stmt} {f : Addr} {fd : FuncData} {N ps : List Str} {k : Nat} {sp : Sp} (F : Fun K x qual st f fd) (S : FnScope N ps (defScope st)) (len : ∀ vs H Q E, sp vs H Q E → vs.length = ps.length)
    (hbody : ∀ (cdv : Value) (A : Around) (outer : List Env) (s : Shared) (H : Hp) (vs : List V) (Q : VK) (E : XK), Room k (A.deeper (envOfC qual (defScope st) s.heap.objs.size f cdv)) → sp vs H Q E →
      ∃ t, PSs (cxOf (CX1 P w) P w K mg base N qual (defScope st) f cdv A outer s H E) (defBody st) t ∧ t { nx := fun _ H' => Q .non H', rt := Q } (start N vs) H) : FnOk P w K mg base (CX1 P w) (k + 1) f fd ps sp := by
  obtain ⟨oc, od, kV, doc, pm, an, cdv, ct, osl, rfl, lk, hcd⟩ := F.ex
  exact fn_of lk hcd S len fun A outer s H vs Q E hr hsp => hbody cdv A outer s H vs Q E hr hsp
/-- a def that never raises, among those that may -/
theorem FnOk.to1 {k : Nat} {f : Addr} {fd : FuncData} {ps : List Str} {sp : Sp} (F : FnOk P w K mg base CX0 k f fd ps sp) : FnOk P w K mg base (CX1 P w) k f fd ps sp :=
  ⟨F.len, fun A outer s H args us vs Q E hr he hb hv hs => codeAny_mono (F.run A outer s H args us vs Q E hr he hb hv hs) fun r s' h => by
    cases r with
    | ok fl => cases fl <;> exact h
    | error e => exact False.elim h⟩
end
/-! ### raise C("..") -/
def bmVE : List Value := [.type "ValueError", .type "Exception", .type "BaseException", .type "object"]
/-- an own class of refusals -/
structure XCls (K : PySem.W.Frag) (mg : Str → Option Value) (x : Str) (C : Addr) : Prop where
  mg : mg x = some (.ref C)
  ex : PySem.W.excIn K C bmVE "ValueError.__new__" = true
section
variable {X : Cx} {x : Str} {C : Addr} {E : XK} {np cpos pos p1 : Pos} {msg : Str} {j : Nat}
theorem exc_obj {K : PySem.W.Frag} {h : Heap} {C : Addr} (XK : K.In h) (q : PySem.W.excIn K C bmVE "ValueError.__new__" = true) : ∃ nm q N bs bm hdct sn sub ab col dd k0 k1 k2 k3 k5 mN, h.get? C = some (excClassObj nm q C N bs bm hdct sn sub ab col dd k0 k1 k2 k3 k5 "ValueError.__new__") ∧ h.Ns N mN ∧ mN "__init__" = none ∧ OwnTail h bmVE bm := by
  unfold PySem.W.excIn at q
  split at q
  · rename_i dd cd sl ho
    split at q
    · rename_i C' bm k0 k1 k2 k3 n k5 hm hs
      simp only [Bool.and_eq_true, beq_iff_eq, Bool.not_eq_true'] at q
      obtain ⟨⟨⟨⟨⟨rfl, rfl⟩, hdel⟩, ht⟩, hok⟩, hni⟩ := q
      obtain ⟨nm, bs, mro, ns, qn, hd, sn, sub, ab, col, del⟩ := cd
      dsimp only at hm hdel hok hni
      subst hm hdel
      have hsl : sl = #[k0, k1, k2, k3, some (.builtin "ValueError.__new__"), k5] := by
        obtain ⟨l⟩ := sl
        simp only at hs
        rw [hs]
      subst hsl
      exact ⟨nm, qn, ns, bs, bm, hd, sn, sub, ab, col, dd, k0, k1, k2, k3, k5, _, XK _ _ ho, .of_isNs (PySem.W.isNs_of_in XK hok), PySem.W.nsMap_none_of_in XK hok hni, PySem.W.tail_of_in XK ht⟩
    · cases q
  · cases q
theorem xcls_obj {h : Heap} {mg : Str → Option Value} (XK : X.K.In h) (c : XCls X.K mg x C) : ∃ nm q N bs bm hdct sn sub ab col dd k0 k1 k2 k3 k5 mN, h.get? C = some (excClassObj nm q C N bs bm hdct sn sub ab col dd k0 k1 k2 k3 k5 "ValueError.__new__") ∧ h.Ns N mN ∧ mN "__init__" = none ∧ OwnTail h bmVE bm := exc_obj XK c.ex
theorem ps_raise (hc : X.calm = true) (hg : Gl X x) (c : XCls X.K X.mg x C) (hx : Raises X E) (hex : X.ex = [] := by rfl) (hd : (x == ("__debug__" : Str)) = false := by decide)
    (hplain : (backTo cpos (starEach [.Constant (.str msg) j p1] X.env)).any (·.1) = false := by rfl) (hs : starEach [.Constant (.str msg) j p1] X.env = [(false, eval (.Constant (.str msg) j p1) X.env)] := by rfl) :
    PS X (.Raise (some (.Call (.Name x np) [.Constant (.str msg) j p1] [] cpos)) none pos) (fun _ _ H => E (.ref C) none H) := by
  intro pins s σ H D I h
  obtain ⟨nm, q, N, bs, bm, hdct, sn, sub, ab, col, dd, k0, k1, k2, k3, k5, mN, hC, hN, hni, tl⟩ := xcls_obj (X := X) I.mod.kin c
  refine wpAny_Raise_call_subU (C := C) (nm := nm) (q := q) (N := N) (bs := bs) (bm := bm) (hdct := hdct) (sn := sn) (sub := sub) (ab := ab) (col := col) (dd := dd) (k0 := k0) (k1 := k1) (k2 := k2) (k3 := k3) (k5 := k5) F.excBase_ValueError (bmB := bmVE) (by decide +kernel) F.excBase_ValueError (tl.hasType (by decide +kernel)) (I.ok.hd hc) hplain hni ?_
  refine ld_glob I hg c.mg ⟨rfl, ?_⟩ hd
  have ha : PA X [.Constant (.str msg) j p1] (tCons (tC (.str msg)) tNil) := pa_cons pe_str pa_nil hs
  have hA := ha cpos pins s σ H (fun vs H1 => vs = [.str msg] ∧ H1 = H) I ⟨rfl, rfl⟩
  rw [hs] at hA ⊢
  refine Calls.evalArgs_plain (thn hA fun us s2 ⟨vs, H2, I2, r2, e1, e2⟩ => ?_)
  subst e1 e2
  refine ⟨rfl, by show us.length ≤ sizeLine; rw [← r2.length]; show 1 ≤ sizeLine; decide, I2.bk _ _ hC, (let ⟨o, es, ep, e, r⟩ := hN; ⟨o, es, ep, I2.bk _ _ e, r⟩), tl.keeps I2.bk, fun h' e hm => ?_⟩
  obtain ⟨t, ht, _⟩ := hm.there
  have none_ : ∀ b, s2.heap.get? b = none → X.s₀.heap.get? b = none ∧ H2 b = none := fun b q => by
    constructor
    · cases q2 : X.s₀.heap.get? b with
      | none => rfl
      | some o =>
        obtain ⟨o', e'⟩ := I2.base.there b o q2 (by rw [hex]; simp)
        rw [q] at e'; cases e'
    · cases q2 : H2 b with
      | none => rfl
      | some o =>
        obtain ⟨ob, e'⟩ := hok_there I2.hok q2
        rw [q] at e'; cases e'
  have I3 : Inv X pins σ H2 { s2 with heap := h' } := I2.kept (t' := s2.toks) hm.keeps
  exact hx pins σ H2 _ e (.ref C) I3 ⟨none_ e hm.new, _, _, _, ht, rfl, rfl, rfl, .inl rfl⟩ h
end
end FX

/-! ## J: try, except as -/
namespace FX
open PySem PySem.Spec PyProof.Rows L2
set_option linter.all false
section
variable {X : Cx} {pins : List (Addr × Obj)} {σ : L2.St} {H : Hp} {s : Shared}
end
/-- the body of a try -/
def inTry (X : Cx) (pins : List (Addr × Obj)) (E : Value → Shared → Prop) : Cx := { X with pn := X.pn ++ pins, xe := E }
/-- an except suite -/
def inX (X : Cx) (ex : Addr) : Cx := { X with A := X.A.mark (some (.ref ex)), calm := false, xe := fun _ _ => False }
section
variable {X : Cx} {pins pins' : List (Addr × Obj)} {σ : L2.St} {H : Hp} {s : Shared} {E : Value → Shared → Prop} {ex : Addr}
/-- an object that stands there, new behind the entry, is tracked from now on -/
theorem inv_track {a : Addr} {o : HO} (I : Inv X pins σ H s) (hn : H a = none) (h0 : X.s₀.heap.get? a = none) (h1 : a ≠ X.env.locals) (h2 : ∀ x c, X.env.cells.lookup x = some c → c ≠ a) (h3 : ∀ p ∈ X.pn ++ pins, p.1 ≠ a) (ok : ObjOk X.prog X.w (upd H a o) s.heap a o) : Inv X pins σ (upd H a o) s := by
  have ne : ∀ {b : Addr} {u : HO}, H b = some u → b ≠ a := fun e => ne_of_none e hn
  refine ⟨I.ok, I.os, I.bare, ⟨I.base.keep, I.base.slot, fun b ob e n hx => ?_, I.base.there, fun b xs e => ?_, fun b ob u e => ?_, fun b ps e => ?_⟩, I.loc, I.cell, by rw [upd_ne (Ne.symm h1)]; exact I.free, fun x c e => by rw [upd_ne (h2 x c e)]; exact I.freeC x c e, fun p hp => ?_, fun b u e => ?_, I.len⟩
  · rw [upd_ne (fun z => by rw [z, h0] at e; cases e)]; exact I.base.free b ob e n hx
  · have := I.base.tups b xs e
    rw [upd_ne (ne this)]; exact this
  · have := I.base.frzs b ob u e
    rw [upd_ne (ne this)]; exact this
  · obtain ⟨more, q⟩ := I.base.tbls b ps e
    exact ⟨more, by rw [upd_ne (ne q)]; exact q⟩
  · obtain ⟨a1, a2, a3⟩ := I.pin p hp
    exact ⟨a1, by rw [upd_ne (h3 p hp)]; exact a2, a3⟩
  · by_cases hb : b = a
    · subst hb; rw [upd_same] at e; cases e; exact ok
    · rw [upd_ne hb] at e
      exact (I.hok b u e).stay (fun c w' _ q => q) (fun c q => by rw [upd_ne (ne q)]; exact q) fun c xs q => by rw [upd_ne (ne q)]; exact q
end
/-- a refusal that was caught: an object of the class at C -/
def excO (a C : Addr) : HO := .ext fun h => ∃ o vs, h.get? a = some o ∧ o.cls = .ref C ∧ o.data = .fields vs
/-- what is wanted of an exception of a call within a try, by the names as they stand then -/
def PassesS (X : Cx) (ES : L2.St → XK) : Prop := ∀ (pins : List (Addr × Obj)) (σ : L2.St) (H : Hp) (s : Shared) (e : Value) (s' : Shared), Inv X pins σ H s → CX1 X.prog X.w X.stack H s (ES σ) e s' → X.xe e s'
section
variable {X : Cx} {k : Nat} {f C : Addr} {fd : FuncData} {ps : List Str} {sp : Sp} {ES : L2.St → XK} {x m : Str} {p pos apos : Pos} {e o : Expr} {es : List Expr} {ta : TE} {t : TA}
def tCallS (sp : Sp) (ES : L2.St → XK) (t : TA) : TE := fun σ H Q => t σ H fun vs H1 => sp vs H1 Q (ES σ)
def tMethS (C : Addr) (m : Str) (sp : Sp) (ES : L2.St → XK) (ta : TE) (t : TA) : TE := fun σ H Q => ta σ H fun x H1 => ∃ a dx fs, x = .ref a ∧ H1 a = some (.ins C dx fs) ∧ fs.lookup m = none ∧ t σ H1 fun vs H2 => sp (x :: vs) H2 Q (ES σ)
end
end FX

/-! ## K: try .. except C as n, try .. except C -/
namespace FX
open PySem PySem.Spec PyProof.Rows L2
set_option linter.all false
/-- behind an except suite the name is gone -/
def gone (D : Ends) (i : Nat) : Ends := { nx := fun σ H => D.nx (σ.set i none) H, bk := fun σ H => D.bk (σ.set i none) H, ct := fun σ H => D.ct (σ.set i none) H, rt := D.rt }
/-- caught by the class at D -/
def Caught (K : PySem.W.Frag) (D : Addr) (cls : Value) (C : Addr) : Prop := cls = .ref C ∧ PySem.W.mroIn K C (.ref D) = some true
def tTryAs (K : PySem.W.Frag) (D : Addr) (i : Nat) (tb : (L2.St → XK) → TS) (ts : Addr → TS) : TS := fun E σ H =>
  tb (fun σ' cls _ H' => ∃ C, Caught K D cls C ∧ ∀ ex, H' ex = none → ts ex (gone E i) (σ'.set i (some (.ref ex))) (upd H' ex (excO ex C))) E σ H
section
variable {X : Cx} {body suite : List Stmt} {b₀ : Stmt} {n x : Str} {D : Addr} {i : Nat} {np hpos pos : Pos} {tb : (L2.St → XK) → TS} {ts : Addr → TS}
end
end FX

/-! ## L: isinstance of a refusal -/
namespace FX
open PySem PySem.Spec PySem.Calls PyProof.Rows L2 Builtin Builtin.ObjectAttr Builtin.Getset_descriptor
set_option linter.all false
set_option maxHeartbeats 400000
/-- what of the text a class of refusals must have -/
structure XIsi (K : PySem.W.Frag) (C : Addr) : Prop where
  ga : PySem.W.findIn K (.ref C) "__getattribute__" = some (some (.builtin "BaseException.__getattribute__"))
  gb : PySem.W.findIn K (.ref C) "__getattr__" = some none
  ha : PySem.W.findIn K (.ref C) "__class__" = some (some (.builtin "object.__class__"))
  hn : PySem.W.specialIn K (.builtin "object.__class__") "__get__" = some (some (.builtin "getset_descriptor.__get__"))
  ht : PySem.W.takesIn K (.builtin "object.__class__") = some true
  hm : PySem.W.mroIn K C (.type "object") = some true
  hb : PySem.W.mroIn K C (.type "BaseException") = some true
  hc : (PySem.W.clsIn K C).isSome = true
section
variable {prog : Program} {w : World} {A : Around} {E : Value → Shared → Prop} {s : Shared} {K : PySem.W.Frag} {x C : Addr}
end
theorem vals_refs : ∀ {ds : List Addr} {its : List Value}, Vals (ds.map V.ref) its → its = ds.map Value.ref
  | [], _, .nil => rfl
  | d :: ds, _, .cons h1 h2 => by
    cases h1
    rw [vals_refs h2]; rfl
section
variable {X : Cx}
end
end FX

/-! ## M: small things about refusals -/
namespace FX
open PySem PySem.Spec PyProof.Rows L2
set_option linter.all false
/-- a def that may raise, called where it does not -/
theorem FnOk.no {P : Program} {w : World} {K : PySem.W.Frag} {mg : Str → Option Value} {base : Heap} {k : Nat} {f : Addr} {fd : FuncData} {ps : List Str} {sp : Sp} (F : FnOk P w K mg base (CX1 P w) k f fd ps sp) : FnOk P w K mg base CX0 k f fd ps (fun vs H Q _ => sp vs H Q E0) :=
  ⟨fun vs H Q E q => F.len vs H Q E0 q, fun A outer s H args us vs Q E hr he hb hv hs => codeAny_mono (F.run A outer s H args us vs Q E0 hr he hb hv hs) fun r s' h => by
    cases r with
    | ok fl => cases fl <;> exact h
    | error e => obtain ⟨_, _, _, _, _, z, _⟩ := h; exact z.elim⟩
end FX
namespace FX
open PySem L2
end FX

/-! ## N: walking d.items() of a dict whose keys are tuples -/
namespace FX
open PySem PySem.Spec PyProof.Rows L2
set_option linter.all false
/-- the walk at place i of n; what the walk keeps of its last pair is not asked -/
def ItW (h : Heap) (it d : Addr) (i n ep : Nat) : Prop :=
  ∃ (own ok ov : Value) (f : Bool), (own = .none ∨ ∃ a : Nat, own = rawInt a) ∧ h.get? it = some { cls := .type "dict_itemiterator", dict := none, data := .fields #[own, .bool f, .ref d, .int i 0, .int n 0, .int ep 0, ok, ov], slots := #[] }
/-- a pair as it lies -/
def PrAt (h : Heap) (a : Addr) (k v : Value) : Prop := h.get? a = some { cls := .type "tuple", data := .seq #[k, v] }
section
variable {prog : Program} {w : World} {A : Around} {E : Value → Shared → Prop} {s : Shared} {it d : Addr} {i n ep : Nat}
theorem ItW.ty (x : ItW s.heap it d i n ep) : s.TypeIs (.ref it) "dict_itemiterator" := let ⟨_, _, _, _, _, e⟩ := x; ⟨_, e, rfl⟩
theorem ItW.to {h h' : Heap} (x : ItW h it d i n ep) (k : ∀ o, h.get? it = some o → h'.get? it = some o) : ItW h' it d i n ep := let ⟨a, b, c, f, g, e⟩ := x; ⟨a, b, c, f, g, k _ e⟩
theorem alive_q {a : Addr} {Q : Option Obj → Shared → Prop} (h : Q (s.heap.get? a) s) : wpAny (model prog w) A (loadIfAlive a) Q E s := fun _ _ _ => h
/-- an exception that ends a walk -/
theorem stop_new {Q : Value → Shared → Prop} (h : ∀ h' e, Shared.TypeIs { s with heap := h' } (.ref e) "StopIteration" → (∀ b o, s.heap.get? b = some o → h'.get? b = some o) → Q (.ref e) { s with heap := h' }) : wpAny (model prog w) A (newExc (.type "StopIteration") []) Q E s := by
  have first : firstArgMember (.type "StopIteration") [] = pure .none := by
    unfold firstArgMember
    cases (Manifest.find? "StopIteration").elim false fun t => t.mro.contains "StopIteration" || t.mro.contains "SystemExit" <;> rfl
  unfold newExc newTuple
  rw [first]
  refine wpAny_bind (wpAny_newObj_type (wpAny_bind (wpAny_pure (wpAny_newObj_type (h _ _ ⟨_, Heap.get?_push_size _ rfl, rfl⟩ fun b o e => Heap.get?_push_of_some _ (Heap.get?_push_of_some _ e)) (by size_fits)))) (by size_fits))
/-- the pair is laid anew, and nothing but the walk's own record is touched -/
theorem pair_new {k v : Value} {Q : Value → Shared → Prop} (hw : ItW s.heap it d i n ep)
    (hQ : ∀ h', ItW h' it d i n ep → PrAt h' s.heap.objs.size k v → (∀ b o, b ≠ it → s.heap.get? b = some o → h'.get? b = some o) → Q (.ref s.heap.objs.size) { s with heap := h' }) :
    wpAny (model prog w) A (Builtin.Dict_items.pairFromOwner (.ref it) 6 k v) Q E s := by
  obtain ⟨own, ok, ov, f, ho, e0⟩ := hw
  have il : it < s.heap.objs.size := Heap.lt_size e0
  have inew : s.heap.objs.size ≠ it := Nat.ne_of_gt il
  -- the heap with the pair
  obtain ⟨h1, eh⟩ : ∃ h1, h1 = s.heap.push { cls := .type "tuple", data := .seq ([k, v] : List Value).toArray } := ⟨_, rfl⟩
  have p1 : PrAt h1 s.heap.objs.size k v := by rw [eh]; exact Heap.get?_push_size _ rfl
  have k1 : ∀ b o, s.heap.get? b = some o → h1.get? b = some o := fun b o e => by rw [eh]; exact Heap.get?_push_of_some _ e
  have e1 := k1 it _ e0
  -- what is left once the record alone has been written
  have fin : ∀ h2, ItW h2 it d i n ep → Heap.SameBut it h1 h2 → Q (.ref s.heap.objs.size) { s with heap := h2 } := fun h2 x y =>
    hQ h2 x ((y.2 _ inew).trans p1) fun b o hb e => (y.2 b hb).trans (k1 b o e)
  -- the record's own pair is free: it is the new one
  have free : wpAny (model prog w) A (do
      let old := [← field (.ref it) 6, ← field (.ref it) (6 + 1)]
      setField (.ref it) 6 k; setField (.ref it) (6 + 1) v
      setField (.ref it) 0 (rawInt s.heap.objs.size); setField (.ref it) 1 (.bool false)
      letGo old [.ref s.heap.objs.size]
      return .ref s.heap.objs.size) Q E { s with heap := h1 } := by
    refine wpAny_bind (wpAny_field (x := ok) e1 rfl rfl (wpAny_bind (wpAny_field (x := ov) e1 rfl rfl ?_)))
    refine wpAny_bind (wpAny_setField_rec e1 (by simp) fun g2 q2 b2 => wpAny_bind (wpAny_setField_rec q2 (by simp) fun g3 q3 b3 => wpAny_bind (wpAny_setField_rec q3 (by simp) fun g4 q4 b4 => wpAny_bind (wpAny_setField_rec q4 (by simp) fun g5 q5 b5 => ?_))))
    refine wpAny_bind (wpAny_letGo (wpAny_pure (fin g5 ⟨_, _, _, _, .inr ⟨s.heap.objs.size, rfl⟩, q5⟩ ⟨?_, fun b hb => ?_⟩)))
    · rw [b5.1, b4.1, b3.1, b2.1]
    · rw [b5.2 b hb, b4.2 b hb, b3.2 b hb, b2.2 b hb]
  unfold Builtin.Dict_items.pairFromOwner
  refine wpAny_bind (wpAny_newTuple ?_)
  rw [← eh]
  refine wpAny_bind ?_
  unfold Builtin.Dict_items.ownedTupleIsFree
  refine wpAny_bind (wpAny_field (x := own) e1 rfl rfl ?_)
  rcases ho with rfl | ⟨a, rfl⟩
  · exact wpAny_pure free
  · show wpAny _ _ (loadIfAlive ((a : Int).toNat) >>= _) _ _ _
    refine wpAny_bind (alive_q ?_)
    cases ha : h1.get? (a : Int).toNat with
    | none => exact wpAny_pure free
    | some oa =>
      refine wpAny_bind (wpAny_field (x := .bool f) e1 rfl rfl ?_)
      cases f with
      | true => exact wpAny_pure (wpAny_pure (fin h1 ⟨_, _, _, _, .inr ⟨a, rfl⟩, e1⟩ (Heap.SameBut.refl _ _)))
      | false => exact wpAny_bind (wpAny_setField_rec e1 (by simp) fun g2 q2 b2 => wpAny_pure (wpAny_pure (fin g2 ⟨_, _, _, _, .inr ⟨a, rfl⟩, q2⟩ b2)))
/-- the walk's view of a dict: its iterator -/
theorem items_iter {v : Addr} {es : Array DictEntry} {Q : Value → Shared → Prop} (hv : s.heap.IsItemsView v d) (hm : RawD s.heap d es ep)
    (hQ : ∀ h', ItW h' s.heap.objs.size d 0 es.size ep → (∀ b o, s.heap.get? b = some o → h'.get? b = some o) → Q (.ref s.heap.objs.size) { s with heap := h' }) : wpAny (model prog w) A (pyIter (.ref v)) Q E s := by
  obtain ⟨o1, e1, c1, f1⟩ := id hv
  obtain ⟨o2, e2, c2, f2⟩ := hm
  refine wpAny_pyIter_slot hv.typeIs F.slot_dict_items_iter (wpAny_call_entry F.slot_dict_items_iter hv.typeIs F.entry_dict_items_iter ?_ (F.args_dict_items_iter_1 _))
  unfold Builtin.«dict_items.__iter__» Builtin.Dict_items.dictOf Builtin.Dict_items.newIterator
  refine wpAny_bind (wpAny_pure (wpAny_bind (wpAny_bind (wpAny_field (x := .ref d) e1 f1 rfl (wpAny_pure (wpAny_bind (wpAny_bind (wpAny_dictEntries e2 f2 (wpAny_bind (wpAny_dictEpoch e2 f2 ?_))))))))))
  have own : Builtin.Dict_items.ownsTuple "dict_itemiterator" = true := by decide
  simp only [own, if_true, Bool.false_eq_true, if_false]
  refine wpAny_newObj_type (wpAny_pure ⟨_, rfl, "dict_itemiterator", _, ⟨_, Heap.get?_push_size _ rfl, rfl⟩, F.slot_dict_itemiterator_next.lookup, ?_⟩) (by simp [sizeOk, Builtin.Dict_items.ownedTupleFields, sizeLine_eq])
  exact hQ _ ⟨.none, .none, .none, false, .inl rfl, (Heap.get?_push_size _ rfl).trans (by simp [rawInt, Builtin.Dict_items.ownedTupleFields])⟩ fun b o e => Heap.get?_push_of_some _ e
/-- what a step of the walk asks first: it stands at place i of these entries -/
theorem items_next {es : Array DictEntry} {Q : Option Value → Shared → Prop} (hw : ItW s.heap it d i es.size ep) (hm : RawD s.heap d es ep) (hi : i < es.size)
    (hQ : ∀ h', ItW h' it d (i + 1) es.size ep → PrAt h' s.heap.objs.size es[i].key es[i].val → (∀ b o, b ≠ it → s.heap.get? b = some o → h'.get? b = some o) → Q (some (.ref s.heap.objs.size)) { s with heap := h' }) : wpAny (model prog w) A (pyNext (.ref it)) Q E s := by
  have ty := hw.ty
  obtain ⟨own, ok, ov, f, ho, e0⟩ := hw
  obtain ⟨o2, e2, c2, f2⟩ := hm
  have owns : Builtin.Dict_items.ownsTuple "dict_itemiterator" = true := by decide
  unfold pyNext
  refine wpAny_bind (wpAny_attempt (wpAny_callSpecial?_slot (name := Str.ofString "__next__") ty F.slot_dict_itemiterator_next (wpAny_call_entry F.slot_dict_itemiterator_next ty F.entry_dict_itemiterator_next (wpAny_bind (wpAny_pure (wpAny_bind ?_))) (F.args_dict_itemiterator_next_1 _))))
  refine wpAny_bind (wpAny_bind (wpAny_typeNameOfWhole_itemiter ty (wpAny_pure (wpAny_bind (wpAny_fieldsOf e0 rfl ?_)))))
  simp only [owns, if_true]
  refine (show wpAny (model prog w) _ (if (Value.ref d == Value.none) = true then _ else _) _ _ s from ?_)
  rw [if_neg (show ¬ ((Value.ref d == Value.none) = true) from Bool.false_ne_true)]
  refine wpAny_bind (wpAny_pure (wpAny_bind (wpAny_dictEntries e2 f2 ?_)))
  rw [if_neg (by simp)]
  refine wpAny_bind (wpAny_pure (wpAny_bind (wpAny_dictEpoch e2 f2 ?_)))
  rw [if_neg (by simp)]
  refine wpAny_pure ?_
  simp only [show ¬ ((i : Int) < 0) by lia, if_false, Int.toNat_natCast, Array.getElem?_eq_getElem hi]
  refine wpAny_bind (wpAny_bind (wpAny_typeNameOfWhole_itemiter ty (wpAny_pure (wpAny_bind (wpAny_isOneOf_itemiter ty ?_)))))
  refine (show wpAny (model prog w) _ (setField (.ref it) 3 (rawInt ((i : Int) + 1)) >>= _) _ _ s from ?_)
  refine wpAny_bind (wpAny_setField_rec e0 (by simp) fun h1 q1 b1 => ?_)
  have w1 : ItW h1 it d (i + 1) es.size ep := ⟨own, ok, ov, f, ho, by rw [show ((i + 1 : Nat) : Int) = (i : Int) + 1 by lia]; simpa [rawInt] using q1⟩
  have ty1 : Shared.TypeIs { s with heap := h1 } (.ref it) "dict_itemiterator" := ItW.ty (s := { s with heap := h1 }) w1
  refine wpAny_bind (wpAny_holding (wpAny_bind (wpAny_isOneOf_itemiter ty1 (wpAny_bind (wpAny_isOneOf_itemiter ty1 ?_)))))
  refine pair_new (s := { s with heap := h1 }) w1 fun h2 w2 p2 k2 => ?_
  have z1 : h1.objs.size = s.heap.objs.size := b1.1
  dsimp only at p2 k2 ⊢
  rw [z1] at p2 ⊢
  exact wpAny_pure ⟨_, rfl, wpAny_pure (hQ h2 w2 p2 fun b o hb e => k2 b o hb ((b1.2 b hb).trans e))⟩
theorem items_end {es : Array DictEntry} {Q : Option Value → Shared → Prop} (hh : A.handled = none) (hw : ItW s.heap it d i es.size ep) (hm : RawD s.heap d es ep) (hi : es.size ≤ i)
    (hQ : ∀ h', (∀ b o, b ≠ it → s.heap.get? b = some o → h'.get? b = some o) → Q none { s with heap := h' }) : wpAny (model prog w) A (pyNext (.ref it)) Q E s := by
  have ty := hw.ty
  obtain ⟨own, ok, ov, f, ho, e0⟩ := hw
  obtain ⟨o2, e2, c2, f2⟩ := hm
  have owns : Builtin.Dict_items.ownsTuple "dict_itemiterator" = true := by decide
  unfold pyNext
  refine wpAny_bind (wpAny_attempt (wpAny_callSpecial?_slot (name := Str.ofString "__next__") ty F.slot_dict_itemiterator_next (wpAny_call_entry F.slot_dict_itemiterator_next ty F.entry_dict_itemiterator_next (wpAny_bind (wpAny_pure (wpAny_bind ?_))) (F.args_dict_itemiterator_next_1 _))))
  refine wpAny_bind (wpAny_bind (wpAny_typeNameOfWhole_itemiter ty (wpAny_pure (wpAny_bind (wpAny_fieldsOf e0 rfl ?_)))))
  simp only [owns, if_true]
  refine (show wpAny (model prog w) _ (if (Value.ref d == Value.none) = true then _ else _) _ _ s from ?_)
  rw [if_neg (show ¬ ((Value.ref d == Value.none) = true) from Bool.false_ne_true)]
  refine wpAny_bind (wpAny_pure (wpAny_bind (wpAny_dictEntries e2 f2 ?_)))
  rw [if_neg (by simp)]
  refine wpAny_bind (wpAny_pure (wpAny_bind (wpAny_dictEpoch e2 f2 ?_)))
  rw [if_neg (by simp)]
  refine wpAny_pure ?_
  simp only [show ¬ ((i : Int) < 0) by lia, if_false, Int.toNat_natCast, Array.getElem?_eq_none hi]
  refine wpAny_bind (wpAny_bind (wpAny_typeNameOfWhole_itemiter ty (wpAny_pure ?_)))
  refine wpAny_bind (wpAny_setField_rec (k := 2) e0 (by simp) fun h1 q1 b1 => ?_)
  refine wpAny_bind (stop_new fun h2 x t2 k2 => wpAny_raiseNew_none hh (wpAny_bind (wpAny_isInstance t2 isSubtype_stop (wpAny_pure (hQ h2 fun b o hb e => k2 b o ((b1.2 b hb).trans e))))))
end
/-- the pairs of the entries from the first on, at these places, behind the walk's own -/
def Prs (h : Heap) (it : Addr) (es : Array DictEntry) (as : List Addr) : Prop := ∀ (j : Nat) (a : Addr), as[j]? = some a → it < a ∧ ∃ e : DictEntry, es[j]? = some e ∧ PrAt h a e.key e.val
theorem Prs.to {h h' : Heap} {it : Addr} {es : Array DictEntry} {as : List Addr} (x : Prs h it es as) (k : ∀ b o, it < b → h.get? b = some o → h'.get? b = some o) : Prs h' it es as :=
  fun j a e => let ⟨l, d, e1, e2⟩ := x j a e; ⟨l, d, e1, k a _ l e2⟩
theorem Prs.more {h : Heap} {it a : Addr} {es : Array DictEntry} {as : List Addr} (x : Prs h it es as) (hi : as.length < es.size) (l : it < a) (p : PrAt h a es[as.length].key es[as.length].val) : Prs h it es (as ++ [a]) := fun j b e => by
  rcases Nat.lt_trichotomy j as.length with hj | hj | hj
  · rw [List.getElem?_append_left hj] at e; exact x j b e
  · subst hj
    have e' : a = b := by simpa using e
    subst e'
    exact ⟨l, _, by simp [hi], p⟩
  · rw [List.getElem?_eq_none (by simp; lia)] at e; cases e
section
variable {prog : Program} {w : World} {A : Around} {R : Result → Shared → Prop} {S it d : Addr} {ep : Nat} {es : Array DictEntry}
/-- the list at S takes pair by pair -/
theorem items_loop (hh : A.handled = none) (l1 : S < it) (n1 : d ≠ S) (n2 : d ≠ it) (hz : es.size ≤ sizeLine) (res : Value) :
    ∀ (k : Nat) (s : Shared) (as : List Addr) (c : Nat), as.length + k = es.size → ItW s.heap it d as.length es.size ep → RawD s.heap d es ep → s.heap.get? S = some (seqObj "list" (as.map Value.ref).toArray c) → Prs s.heap it es as → as.Nodup →
      (∀ h' as' c', as'.length = es.size → as'.Nodup → (∀ b o, b ≠ S → b ≠ it → s.heap.get? b = some o → h'.get? b = some o) → h'.get? S = some (seqObj "list" (as'.map Value.ref).toArray c') → Prs h' it es as' → R (.ok (.ret res)) { s with heap := h' }) →
      codeAny (model prog w) A (.builtin "list.extend.loop" ⟨[.ref S, .ref it, res], []⟩) R s
  | 0, s, as, c, hk, iw, rd, hS, ps, nd, q => by
    refine codeAny_builtin PySem.F.entry_extend_loop ?_
    rw [Around.under_plainId PySem.F.plain_extend_loop _]
    refine (wpAny_bind (m := pyNext (.ref it)) (items_end hh iw rd (by lia) fun h' kp => wpAny_pure (q h' as c (by lia) nd (fun b o _ hb e => kp b o hb e) (kp S _ (Nat.ne_of_lt l1) hS) (ps.to fun b o hb e => kp b o (Nat.ne_of_gt hb) e))))
  | k + 1, s, as, c, hk, iw, rd, hS, ps, nd, q => by
    have hi : as.length < es.size := by lia
    have al : it < s.heap.objs.size := let ⟨_, _, _, _, _, e⟩ := iw; Heap.lt_size e
    refine codeAny_builtin PySem.F.entry_extend_loop ?_
    rw [Around.under_plainId PySem.F.plain_extend_loop _]
    refine wpAny_bind (m := pyNext (.ref it)) (items_next iw rd hi fun h1 iw1 p1 k1 => ?_)
    have hS1 := k1 S _ (Nat.ne_of_lt l1) hS
    have sz : (as.map Value.ref).toArray.size = as.length := by simp
    refine wpAny_bind (m := updateSeq S (·.push (Value.ref s.heap.objs.size))) (wpAny_updateSeq hS1 rfl (wpAny_pure ⟨plainId_quiet PySem.F.plain_extend_loop _, ?_⟩) (by rw [sz]; lia) (by rw [Array.size_push, sz]; lia))
    have up : ∀ b o, b ≠ S → h1.get? b = some o → (h1.update S (Obj.mapSeq (·.push (Value.ref s.heap.objs.size)))).get? b = some o := fun b o hb e => (Heap.get?_update_other _ _ (Ne.symm hb)).trans e
    refine items_loop hh l1 n1 n2 hz res k { s with heap := h1.update S (Obj.mapSeq (·.push (Value.ref s.heap.objs.size))) } (as ++ [s.heap.objs.size]) (c + 1) (by simp; lia) (by rw [List.length_append]; exact iw1.to fun o e => up it o (Nat.ne_of_gt l1) e) (rd.at fun o e => up d o n1 (k1 d o n2 e)) ?_ ?_ ?_ fun h' as' c' a1 a0 a2 a3 a4 => q h' as' c' a1 a0 (fun b o hb hc e => a2 b o hb hc (up b o hb (k1 b o hc e))) a3 a4
    · refine (get?_update_seq hS1 _).trans ?_
      simp [seqObj]
    · exact Prs.more (ps.to fun b o hb e => up b o (Nat.ne_of_gt (Nat.lt_trans l1 hb)) (k1 b o (Nat.ne_of_gt hb) e)) hi al (up _ _ (Nat.ne_of_gt (Nat.lt_trans l1 al)) p1)
    · refine List.nodup_append.mpr ⟨nd, by simp, fun a ha b hb z => ?_⟩
      have e : b = s.heap.objs.size := by simpa using hb
      obtain ⟨j, hj⟩ := List.mem_iff_getElem?.mp ha
      obtain ⟨_, _, _, e2⟩ := ps j a hj
      exact absurd (Heap.lt_size e2) (by rw [z, e]; exact Nat.lt_irrefl _)
end
section
variable {prog : Program} {w : World} {A : Around} {E : Value → Shared → Prop} {s : Shared} {v d : Addr} {ep : Nat} {es : Array DictEntry}
/-- all pairs of the view, in a new list -/
theorem items_collect {R : List Value → Shared → Prop} (hh : A.handled = none) (hv : s.heap.IsItemsView v d) (hm : RawD s.heap d es ep) (hz : es.size ≤ sizeLine)
    (h : ∀ h' as it, as.length = es.size → as.Nodup → s.heap.objs.size ≤ it → (∀ b o, s.heap.get? b = some o → h'.get? b = some o) → Prs h' it es as → R (as.map Value.ref) { s with heap := h' }) :
    wpAny (model prog w) A (collect (.ref v)) R E s := by
  have lv : v < s.heap.objs.size := let ⟨_, e, _⟩ := hv; Heap.lt_size e
  have ld : d < s.heap.objs.size := let ⟨_, e, _⟩ := hm; Heap.lt_size e
  unfold collect
  refine wpAny_bind (wpAny_runValue (codeAny_builtin PySem.F.entry_proto_collect ?_))
  rw [Around.under_plainId PySem.F.plain_proto_collect _]
  refine wpAny_bind (m := newList []) (wpAny_newObj_type (wpAny_pure ⟨plainId_quiet PySem.F.plain_list_iadd _, codeAny_builtin PySem.F.entry_list_iadd ?_⟩) (by size_fits))
  rw [Around.under_plainId PySem.F.plain_list_iadd _]
  -- the new list lies at S
  generalize hS0 : s.heap.push { cls := .type "list", data := .seq ([] : List Value).toArray } = h0
  have gS : h0.get? s.heap.objs.size = some (seqObj "list" #[] 0) := by rw [← hS0]; exact Heap.get?_push_size _ rfl
  have k0 : ∀ b o, s.heap.get? b = some o → h0.get? b = some o := fun b o e => by rw [← hS0]; exact Heap.get?_push_of_some _ e
  have hv0 : h0.IsItemsView v d := let ⟨o, e, r⟩ := hv; ⟨o, k0 v o e, r⟩
  have hm0 : RawD h0 d es ep := hm.at fun o e => k0 d o e
  have z0 : h0.objs.size = s.heap.objs.size + 1 := by rw [← hS0, Heap.size_push]
  have low : ∀ b o, s.heap.get? b = some o → b < s.heap.objs.size := fun b o e => Heap.lt_size e
  obtain ⟨S, hS⟩ : ∃ S : Addr, S = s.heap.objs.size := ⟨_, rfl⟩
  rw [← hS] at gS z0 lv ld low ⊢
  have lS : S < h0.objs.size := by rw [z0]; exact Nat.lt_succ_self _
  refine (show wpAny (model prog w) _ (Builtin.List.listExtendWith (.ref S) (.ref v) (.ref S)) _ _ { s with heap := h0 } from ?_)
  have fin : ∀ (R' : Result → Shared → Prop), (∀ h' as' c', as'.length = es.size → as'.Nodup → (∀ b o, s.heap.get? b = some o → h'.get? b = some o) → h'.get? S = some (seqObj "list" (as'.map Value.ref).toArray c') → Prs h' h0.objs.size es as' → R' (.ok (.ret (.ref S))) { s with heap := h' }) →
      ∀ h1 c1, ItW h1 h0.objs.size d 0 es.size ep → RawD h1 d es ep → h1.get? S = some (seqObj "list" #[] c1) → (∀ b o, s.heap.get? b = some o → h1.get? b = some o) → codeAny (model prog w) A (.builtin "list.extend.loop" ⟨[.ref S, .ref h0.objs.size, .ref S], []⟩) R' { s with heap := h1 } := fun R' q h1 c1 a1 a2 a3 a4 =>
    items_loop hh lS (Nat.ne_of_lt ld) (Nat.ne_of_lt (Nat.lt_trans ld lS)) hz _ es.size { s with heap := h1 } [] c1 (by simp) a1 a2 (by simpa using a3) (fun j a e => by simp at e) List.nodup_nil fun h' as' c' q1 q0 q2 q3 q4 => q h' as' c' q1 q0 (fun b o e => q2 b o (Nat.ne_of_lt (low b o e)) (Nat.ne_of_lt (Nat.lt_trans (low b o e) lS)) (a4 b o e)) q3 q4
  unfold Builtin.List.listExtendWith
  refine wpAny_bind (wpAny_typeOf (T := "dict_items") (Heap.IsItemsView.typeIs (s := { s with heap := h0 }) hv0) ?_)
  have n1 : Builtin.List.listSameRef (.ref S) (.ref v) = false := by simp [Builtin.List.listSameRef, Nat.ne_of_gt lv]
  have n2 : (Value.type "dict_items" == Value.type "list") = false := by decide
  have n3 : (Value.type "dict_items" == Value.type "tuple") = false := by decide
  simp only [n1, n2, n3, Bool.or_false, Bool.false_eq_true, if_false]
  refine wpAny_bind (items_iter (s := { s with heap := h0 }) hv0 hm0 fun h1 iw k1 => ?_)
  refine wpAny_bind (wpAny_holding (PySem.W.kdx_hint (s := { s with heap := h1 }) (let ⟨o, e, c, _⟩ := hv0; ⟨o, k1 v o e, c⟩) ?_))
  have gS1 := k1 _ _ gS
  have loop : ∀ h2 c2, (∀ b o, b ≠ S → h1.get? b = some o → h2.get? b = some o) → h2.get? S = some (seqObj "list" #[] c2) →
      codeAny (model prog w) A (.builtin "list.extend.loop" ⟨[.ref S, .ref h0.objs.size, .ref S], []⟩) (fun q s' => ∃ h' as' c', q = .ok (.ret (.ref S)) ∧ s' = { s with heap := h' } ∧ as'.length = es.size ∧ as'.Nodup ∧ (∀ b o, s.heap.get? b = some o → h'.get? b = some o) ∧ h'.get? S = some (seqObj "list" (as'.map Value.ref).toArray c') ∧ Prs h' h0.objs.size es as') { s with heap := h2 } := fun h2 c2 k2 g2 =>
    fin _ (fun h' as' c' a1 a0 a2 a3 a4 => ⟨h', as', c', rfl, rfl, a1, a0, a2, a3, a4⟩) h2 c2 (iw.to fun o e => k2 _ o (Nat.ne_of_gt lS) e) (hm0.at fun o e => k2 d o (Nat.ne_of_lt ld) (k1 d o e)) g2 fun b o e => k2 b o (Nat.ne_of_lt (low b o e)) (k1 b o (k0 b o e))
  refine wpAny_ite_split (fun _ => ?_) (fun _ => wpAny_pure ⟨plainId_quiet PySem.F.plain_extend_loop _, ?_⟩)
  · refine wpAny_bind (wpAny_rule (wpAny_bind (m := updateSeq S (·.push .none) >>= fun _ => updateSeq S (·.pop)) (wpAny_bind (wpAny_updateSeq gS1 rfl (wpAny_updateSeq (get?_update_seq gS1 _) rfl (wpAny_pure ⟨plainId_quiet PySem.F.plain_extend_loop _, ?_⟩) ?_ ?_) ?_ ?_))))
    · refine codeAny_mono (loop _ _ (fun b o hb e => (Heap.get?_update_other _ _ (Ne.symm hb)).trans ((Heap.get?_update_other _ _ (Ne.symm hb)).trans e)) (get?_update_seq (get?_update_seq gS1 _) _)) fun q s' y => ?_
      obtain ⟨h', as', c', rfl, rfl, a1, a0, a2, a3, a4⟩ := y
      refine wpAny_bind (m := load S) (wpAny_load a3 (wpAny_pure ?_))
      exact h h' as' _ a1 a0 (by rw [← hS]; exact Nat.le_of_lt lS) a2 a4
    all_goals (simp [seqObj, sizeLine_eq])
  · refine codeAny_mono (loop h1 0 (fun b o _ e => e) gS1) fun q s' y => ?_
    obtain ⟨h', as', c', rfl, rfl, a1, a0, a2, a3, a4⟩ := y
    refine wpAny_bind (m := load S) (wpAny_load a3 (wpAny_pure ?_))
    exact h h' as' _ a1 a0 (by rw [← hS]; exact Nat.le_of_lt lS) a2 a4
end
end FX

/-! ## O: sorted(..) of pairs of a tuple of ints and an int -/
namespace FX
open PySem PySem.Spec PyProof.Rows L2
set_option linter.all false
section
variable {prog : Program} {w : World} {A : Around} {E : Value → Shared → Prop} {s : Shared}
theorem ints_items : ∀ {vs : List Value} {ns : List Int}, IntsAre vs ns → ItemsAre (intKind prog w) ns vs
  | _, _, .nil => .nil
  | _, _, .cons n t r => .cons (intKind_is prog w n t) (ints_items r)
theorem tup_key {h : Heap} {a : Addr} {its : Array Value} {ns : List Int} (x : IsTup h a its) (y : IntsAre its.toList ns) : IsTupleKey (intKind prog w) h ns a :=
  let ⟨o, ho, hc, n, hd⟩ := x; ⟨o, its, n, ho, hc, hd, ints_items y⟩
/-- how a pair lies: its key a tuple of these ints, its value this int -/
def PairAt (h : Heap) (a : Addr) (q : List Int × Int) : Prop := ∃ ka its t, PrAt h a (.ref ka) (.int q.2 t) ∧ IsTup h ka its ∧ IntsAre its.toList q.1
theorem PairAt.to {h h' : Heap} {a : Addr} {q : List Int × Int} (k : ∀ b o, h.get? b = some o → o.cls = .type "tuple" → h'.get? b = some o) (x : PairAt h a q) : PairAt h' a q :=
  let ⟨ka, its, t, e1, ⟨o, ho, hc, r⟩, e3⟩ := x; ⟨ka, its, t, k _ _ e1 rfl, ⟨o, k ka o ho hc, hc, r⟩, e3⟩
/-- the question of two pairs -/
theorem pair_lt {a b : Addr} {p q : List Int × Int} {C : Bool → Shared → Prop} (hu : A.units < cLine) (x : PairAt s.heap a p) (y : PairAt s.heap b q) (same : p.1 = q.1 → p.2 = q.2) (h : C (HT.lexLt p.1 q.1) s) :
    wpAny (model prog w) A (keyLt' (tuples' false) (.ref a) (.ref b)) C (fun _ _ => False) s := by
  obtain ⟨ka, its, t, e1, e2, e3⟩ := x
  obtain ⟨kb, jts, u, f1, f2, f3⟩ := y
  refine PySem.W.kat_lt e1 rfl f1 rfl (PySem.W.kat_cons (wpAny_eqBool_tuple hu (tup_key e2 e3) (tup_key f2 f3) (PySem.W.kat_go (fun e => PySem.W.kat_yes (PySem.W.kat_cons (wpAny_eqBool_int (PySem.W.kat_go (fun _ => PySem.W.kat_yes (PySem.W.kat_nil ?_)) fun z => ?_)))) fun e => PySem.W.kat_no (PySem.W.kat_one _ _ (HT.lt_tupInts e2 f2 e3 f3 hu h)))))
  · have e := of_decide_eq_true e
    rw [e, lex_irr] at h
    exact h
  · rw [same (of_decide_eq_true e)] at z
    simp at z
/-- what lies at each place: such a pair -/
def PairsAt (h : Heap) : List Addr → List (List Int × Int) → Prop := Paired (PairAt h)
theorem pairs_firsts {h : Heap} : ∀ {as : List Addr} {L : List (List Int × Int)}, PairsAt h as L → ∃ fs : List Value, PySem.W.KatTups h (as.map Value.ref) fs ∧ fs.length = as.length ∧ ∀ v ∈ fs, ∃ ka its, v = Value.ref ka ∧ IsTup h ka its
  | _, _, .nil => ⟨[], trivial, rfl, fun v hv => by simp at hv⟩
  | _, _, .cons ⟨ka, its, t, e1, e2, e3⟩ r => by
    obtain ⟨fs, a1, a2, a3⟩ := pairs_firsts r
    refine ⟨.ref ka :: fs, PySem.W.KatTups.cons e1 rfl rfl rfl a1, by simp [a2], fun v hv => ?_⟩
    rcases List.mem_cons.mp hv with rfl | hv
    · exact ⟨ka, its, rfl, e2⟩
    · exact a3 v hv
theorem pairs_get {h : Heap} {as : List Addr} {L : List (List Int × Int)} (x : PairsAt h as L) {i : Nat} (hi : i < as.length) : ∃ a q, as[i]? = some a ∧ L[i]? = some q ∧ (as.map Value.ref).getD i .none = .ref a ∧ (L.map (·.1)).getD i [] = q.1 ∧ PairAt h a q := by
  have hl := Paired.length x
  obtain ⟨a, ha⟩ := get_of_lt (xs := as) (j := i) hi
  obtain ⟨q, hq⟩ := get_of_lt (xs := L) (j := i) (by lia)
  refine ⟨a, q, ha, hq, ?_, ?_, paired_get x i a q ha hq⟩
  · rw [List.getD_eq_getElem?_getD, List.getElem?_map, ha]; rfl
  · rw [List.getD_eq_getElem?_getD, List.getElem?_map, hq]; rfl
/-- list.sort of a list of such pairs, no key twice -/
theorem lsort_pairs {a : Addr} {as : List Addr} {L : List (List Int × Int)} {n : Nat} {P : PySem.Fin → Shared → Prop} (hu : A.units < cLine) (ho : s.heap.get? a = some (seqObj "list" (as.map Value.ref).toArray n)) (h64 : as.length < 64) (x : PairsAt s.heap as L) (nd : (L.map (·.1)).Nodup)
    (h : ∀ q : List Nat, q.Perm (List.range as.length) → q.Pairwise (fun i j => HT.lexLt ((L.map (·.1)).getD i []) ((L.map (·.1)).getD j []) = true) → ∀ h' c, (∀ b o, b ≠ a → s.heap.get? b = some o → h'.get? b = some o) → h'.get? a = some (seqObj "list" (q.map fun i => (as.map Value.ref).getD i .none).toArray c) → P (.done (.ret .none)) { s with heap := h' }) :
    wpAny (model prog w) A (Builtin.«list.sort» ⟨[.ref a], []⟩) P E s := by
  have hl := Paired.length x
  have hml : (as.map Value.ref).length = as.length := List.length_map ..
  have key : ∀ i, i < as.length → ∃ h : i < (L.map (·.1)).length, (L.map (·.1)).getD i [] = (L.map (·.1))[i] := fun i hi => ⟨by rw [List.length_map]; lia, by simp [show i < L.length by lia]⟩
  have one : ∀ i j, i < as.length → j < as.length → (L.map (·.1)).getD i [] = (L.map (·.1)).getD j [] → i = j := fun i j hi hj e => by
    obtain ⟨l1, e1⟩ := key i hi
    obtain ⟨l2, e2⟩ := key j hj
    rw [e1, e2] at e
    exact (List.getElem_inj nd).mp e
  refine lsort_raw (lt := fun i j => HT.lexLt ((L.map (·.1)).getD i []) ((L.map (·.1)).getD j [])) ho (by rw [hml]; exact h64) ⟨fun i j k _ _ _ => lex_tr, fun i j hi hj hij e => lex_tot (fun z => hij (one i j (by lia) (by lia) z)) e⟩ (fun h2 h' kp Q hQ => ?_) (by rw [hml]; exact h)
  have x' : PairsAt h' as L := paired_mono (fun b q y => y.to fun b o e c => kp b o (fun z => by rw [z, ho] at e; cases e; exact absurd (show Value.type "list" = Value.type "tuple" from c) (by decide)) e) x
  obtain ⟨fs, f1, f2, f3⟩ := pairs_firsts x'
  refine PySem.W.kat_kind (s := { s with heap := h' }) (T := .type "tuple") f1 (by rw [f2]; lia) (fun v hv => ?_) rfl (hQ _ fun i j hi hj C hC => ?_)
  · obtain ⟨ka, its, rfl, o, e, c, _⟩ := f3 v hv
    have z : PySem.W.Looks (model prog w) h' (typeOf (.ref ka)) o.cls := (PySem.W.Looks.ld e).andThen .now
    rw [c] at z; exact z
  · rw [hml] at hi hj
    obtain ⟨a1, q1, g1, g2, g3, g4, g5⟩ := pairs_get x' hi
    obtain ⟨a2, q2, k1, k2, k3, k4, k5⟩ := pairs_get x' hj
    unfold PySem.W.kas_ask
    rw [g3, k3]
    dsimp only at hC
    rw [g4, k4] at hC
    refine pair_lt (s := { s with heap := h' }) hu g5 k5 (fun z => ?_) hC
    have e := one i j hi hj (by rw [g4, k4, z])
    subst e
    rw [g2] at k2; cases k2; rfl
end
end FX

/-! ## P: sorted(d.items()) of a dict of things with ints -/
namespace FX
open PySem PySem.Spec PyProof.Rows L2
set_option linter.all false
/-- tuples laid, one by one -/
def lay (H : Hp) : List (Addr × List V) → Hp
  | [] => H
  | p :: r => upd (lay H r) p.1 (.tup p.2)
theorem lay_old {H : Hp} {b : Addr} : ∀ {ps : List (Addr × List V)}, b ∉ ps.map (·.1) → lay H ps b = H b
  | [], _ => rfl
  | p :: r, h => by
    have h1 : b ≠ p.1 := fun z => h (by rw [z]; exact List.mem_cons_self ..)
    show (upd (lay H r) p.1 (.tup p.2)) b = _
    rw [upd_ne h1]
    exact lay_old fun z => h (List.mem_cons_of_mem _ z)
theorem lay_new {H : Hp} : ∀ {ps : List (Addr × List V)}, (ps.map (·.1)).Nodup → ∀ p ∈ ps, lay H ps p.1 = some (.tup p.2)
  | [], _, p, hp => by cases hp
  | q :: r, nd, p, hp => by
    have nd' := List.nodup_cons.mp nd
    rcases List.mem_cons.mp hp with rfl | hp
    · exact upd_same
    · have ne : p.1 ≠ q.1 := fun z => nd'.1 (List.mem_map.mpr ⟨p, hp, z⟩)
      show (upd (lay H r) q.1 (.tup q.2)) p.1 = _
      rw [upd_ne ne]
      exact lay_new nd'.2 p hp
section
variable {X : Cx} {pins : List (Addr × Obj)} {σ : L2.St} {H : Hp} {s : Shared}
/-- an address that nothing of the frame lies at -/
def NewA (X : Cx) (pins : List (Addr × Obj)) (a : Addr) : Prop := X.s₀.heap.get? a = none ∧ a ≠ X.env.locals ∧ (∀ x c, X.env.cells.lookup x = some c → c ≠ a) ∧ ∀ p ∈ X.pn ++ pins, p.1 ≠ a
theorem Inv.newA {a : Addr} (I : Inv X pins σ H s) (h : s.heap.objs.size ≤ a) : NewA X pins a :=
  let x := I.fpOk (H' := fun _ => none) h rfl
  ⟨Heap.get?_none_of_le (Nat.le_trans I.sz h), x.2.1, x.2.2.2.2.1, x.2.2.2.2.2⟩
theorem inv_lay : ∀ {ps : List (Addr × List V)}, Inv X pins σ H s → (ps.map (·.1)).Nodup → (∀ p ∈ ps, NewA X pins p.1 ∧ H p.1 = none ∧ ∀ H', ObjOk X.prog X.w H' s.heap p.1 (.tup p.2)) → Inv X pins σ (lay H ps) s
  | [], I, _, _ => I
  | p :: r, I, nd, h => by
    have nd' := List.nodup_cons.mp nd
    obtain ⟨⟨a1, a2, a3, a4⟩, a5, a6⟩ := h p (List.mem_cons_self ..)
    exact inv_track (inv_lay I nd'.2 fun q hq => h q (List.mem_cons_of_mem _ hq)) (by rw [lay_old nd'.1]; exact a5) a1 a2 a3 a4 (a6 _)
end
/-- a pair of a thing and an int, as told -/
def RecAt (H : Hp) (a : Addr) (q : T2 × Int) : Prop := ∃ ka, H a = some (.tup [.ref ka, .int q.2]) ∧ H ka = some (.tup (tv q.1))
/-- the tuples that a list of pairs asks for -/
theorem lay_of {P : Program} {w : World} {H : Hp} {h1 : Heap} {n : Nat} : ∀ {as : List Addr} {L : List (T2 × Int)}, Paired (fun a q => n ≤ a ∧ ∃ ka t, PrAt h1 a (.ref ka) (.int q.2 t) ∧ H ka = some (.tup (tv q.1))) as L →
    ∃ ps : List (Addr × List V), ps.map (·.1) = as ∧ (∀ p ∈ ps, n ≤ p.1 ∧ ∀ H', ObjOk P w H' h1 p.1 (.tup p.2)) ∧ Paired (fun p q => ∃ ka, p.2 = [.ref ka, .int q.2] ∧ H ka = some (.tup (tv q.1))) ps L
  | _, _, .nil => ⟨[], rfl, fun p hp => by (cases hp), .nil⟩
  | a :: _, q :: _, .cons ⟨la, ka, t, e1, e2⟩ r => by
    obtain ⟨ps, b1, b2, b3⟩ := lay_of (P := P) (w := w) r
    refine ⟨(a, [.ref ka, .int q.2]) :: ps, by rw [List.map_cons, b1], fun p hp => ?_, .cons ⟨ka, rfl, e2⟩ b3⟩
    rcases List.mem_cons.mp hp with rfl | hp
    · exact ⟨la, fun H' => ⟨by show 2 ≤ sizeLine; rw [sizeLine_eq]; lia, [.ref ka, .int q.2 t], .cons rfl (.cons ⟨t, rfl⟩ .nil), ⟨_, e1, rfl, _, rfl⟩⟩⟩
    · exact b2 p hp
section
variable {X : Cx}
/-- sorted(d.items()), d a dict of things with ints -/
theorem call_sorted_items (hc : X.calm = true) (hu : X.A.units + 64 < cLine) : CallR X (.builtin "sorted") (fun xs H Q => ∃ v d, ∃ L rs : List (T2 × Int), xs = [.ref v] ∧ H v = some (itemsO v d) ∧ H d = some (dInt L) ∧ L.length < 64 ∧ rs.Perm L ∧ (rs.map (·.1)).Pairwise lt2 ∧
    ∀ (r : Addr) (as : List Addr) (H' : Hp), Same H H' → H r = none → H' r = some (.lst (as.map V.ref)) → Paired (RecAt H') as rs → Q (.ref r) H') := by
  intro pins s σ H xs us Q I rv h
  obtain ⟨v, d, L, rs, rfl, hv, hd, h64, pm, pw, q⟩ := h
  obtain ⟨u, rfl, rx⟩ := vals1 rv
  cases rx
  obtain ⟨z, lo, ys, rel, o, es, ep, g1, g2, g3, g4, g5⟩ := (show ObjOk X.prog X.w H s.heap d (dInt L) from I.hok d _ hd)
  have vw : s.heap.IsItemsView v d := (I.hok v _ hv).1
  have hes : es.size = ys.length := size_of_entries g4
  have hyl : ys.length = L.length := by have := Paired.length rel; rw [List.length_map] at this; exact this.symm
  -- what an entry tells
  have ent : ∀ (j : Nat) (e : DictEntry) (q : T2 × Int), es[j]? = some e → L[j]? = some q → ∃ ka t, e.key = .ref ka ∧ e.val = .int q.2 t ∧ H ka = some (.tup (tv q.1)) := fun j e q h1 h2 => by
    rw [entry_at g4 j] at h1
    cases hy : ys[j]? with
    | none => rw [hy] at h1; cases h1
    | some y =>
      rw [hy] at h1
      cases h1
      obtain ⟨r1, r2, r3⟩ := paired_get rel j (tk q.1, V.int q.2) y (by rw [List.getElem?_map, h2]; rfl) hy
      obtain ⟨t, r3⟩ := r3
      exact ⟨y.2.1, t, rfl, r3, r2⟩
  have ndL : (L.map (·.1)).Nodup := (pm.map (·.1)).nodup_iff.mp (List.Pairwise.imp (fun {a b} (h : lt2 a b) (z : a = b) => by rw [lt2_iff, z] at h; lia) pw)
  refine Calls.call_function_entry kind_sorted plain_sorted entry_sorted (args_sorted1 _) (by
    unfold Builtin.«sorted»
    refine wpAny_bind (m := checkCount "sorted" 1 1 _) (wpAny_pure (wpAny_bind (items_collect (show _ from I.ok.hd hc) vw ⟨o, g1, g2, g3⟩ (by rw [hes, hyl, sizeLine_eq]; lia) fun h1 as it hl nda hit kp prs => ?_)))
    have I1 : Inv X pins σ H { s with heap := h1, toks := s.toks } := I.kept kp
    have hasL : as.length = L.length := by lia
    -- the pairs as they lie
    have fct : Paired (fun a q => s.heap.objs.size ≤ a ∧ ∃ ka t, PrAt h1 a (.ref ka) (.int q.2 t) ∧ H ka = some (.tup (tv q.1))) as L := paired_of hasL fun j a q e1 e2 => by
      obtain ⟨la, e, e3, e4⟩ := prs j a e1
      obtain ⟨ka, t, k1, k2, k3⟩ := ent j e q e3 e2
      rw [k1, k2] at e4
      exact ⟨Nat.le_of_lt (Nat.lt_of_le_of_lt hit la), ka, t, e4, k3⟩
    obtain ⟨ps, b1, b2, b3⟩ := lay_of (P := X.prog) (w := X.w) fct
    have hno : ∀ a, s.heap.objs.size ≤ a → H a = none := fun a ha => I.hok.fresh ha
    have I2 : Inv X pins σ (lay H ps) { s with heap := h1, toks := s.toks } := inv_lay I1 (by rw [b1]; exact nda) fun p hp => ⟨Inv.newA I (b2 p hp).1, hno _ (b2 p hp).1, (b2 p hp).2⟩
    have sm : Same H (lay H ps) := fun b ob e => by
      rw [lay_old (fun z => ?_)]
      · exact e
      · obtain ⟨p, hp, rfl⟩ := List.mem_map.mp z
        rw [hno _ (b2 p hp).1] at e; cases e
    have rec0 : Paired (RecAt (lay H ps)) as L := by
      rw [← b1]
      refine paired_of (by rw [List.length_map]; exact Paired.length b3) fun j a q e1 e2 => ?_
      rw [List.getElem?_map] at e1
      cases hp : ps[j]? with
      | none => rw [hp] at e1; cases e1
      | some p =>
        rw [hp] at e1
        cases e1
        obtain ⟨ka, k1, k2⟩ := paired_get b3 j p q hp e2
        exact ⟨ka, by rw [lay_new (by rw [b1]; exact nda) p (List.mem_of_getElem? hp), k1], sm _ _ k2⟩
    have prs2 : PairsAt h1 as (L.map fun q => (([q.1.1, q.1.2] : List Int), q.2)) := paired_of (by rw [List.length_map]; exact hasL) fun j a q e1 e2 => by
      rw [List.getElem?_map] at e2
      cases hq : L[j]? with
      | none => rw [hq] at e2; cases e2
      | some q0 =>
        rw [hq] at e2
        cases e2
        obtain ⟨_, ka, t, k1, k2⟩ := paired_get fct j a q0 e1 hq
        obtain ⟨its, rv, it2, _⟩ := I1.tuple (SqT.of (K := X.K) k2)
        exact ⟨ka, its.toArray, t, k1, it2, by simpa using intsAre_of (ns := [q0.1.1, q0.1.2]) rv⟩
    have eK : (L.map fun q => (([q.1.1, q.1.2] : List Int), q.2)).map (·.1) = L.map fun q => [q.1.1, q.1.2] := by rw [List.map_map]; rfl
    have ndK : ((L.map fun q => (([q.1.1, q.1.2] : List Int), q.2)).map (·.1)).Nodup := by
      have e : (L.map fun q => ([q.1.1, q.1.2] : List Int)) = (L.map (·.1)).map fun t => [t.1, t.2] := by rw [List.map_map]; rfl
      rw [eK, e]
      exact List.Pairwise.map _ (fun a b h z => h (by obtain ⟨a1, a2⟩ := a; obtain ⟨c1, c2⟩ := b; simp at z; rw [z.1, z.2])) ndL
    refine wpAny_bind (wpAny_newList ?_ (by rw [List.length_map, sizeLine_eq]; lia))
    have g1 : (h1.push (seqObj "list" (as.map Value.ref).toArray 0)).get? h1.objs.size = some (seqObj "list" (as.map Value.ref).toArray 0) := Heap.get?_push_size _ rfl
    have prs3 : PairsAt (h1.push (seqObj "list" (as.map Value.ref).toArray 0)) as (L.map fun q => (([q.1.1, q.1.2] : List Int), q.2)) := paired_mono (fun a q y => y.to fun b o e _ => Heap.get?_push_of_some _ e) prs2
    refine wpAny_bind (wpAny_holding (wpAny_call_entry slot_list_sort ⟨_, g1, rfl⟩ entry_list_sort (lsort_pairs (by show X.A.units + 1 + 1 < cLine; lia) g1 (by lia) prs3 ndK fun p pp po h2 c kp2 e => ⟨_, rfl, ?_⟩) (args_list_sort _)))
    have hn : H h1.objs.size = none := I1.hok.fresh (Nat.le_refl _)
    have hn2 : lay H ps h1.objs.size = none := I2.hok.fresh (Nat.le_refl _)
    have inr : ∀ i ∈ p, i < as.length := fun i hi => List.mem_range.mp (pp.mem_iff.mp hi)
    -- who stands where
    have eR : p.map (fun i => L.getD i ((0, 0), 0)) = rs := by
      refine sorted_one (lt := fun a b : T2 × Int => lt2 a.1 b.1) (fun a z => by rw [lt2_iff] at z; lia) (fun a b h1 h2 => by rw [lt2_iff] at h1 h2; lia) ?_ ?_ (by rw [← List.pairwise_map (f := fun q : T2 × Int => q.1) (R := lt2)]; exact pw)
      · have e2 : (List.range as.length).map (fun i => L.getD i ((0, 0), 0)) = L := by
          refine List.ext_getElem? fun j => ?_
          rw [List.getElem?_map]
          by_cases hj : j < L.length
          · rw [show (List.range as.length)[j]? = some j by simp [hasL, hj]]; simp [hj]
          · rw [show (List.range as.length)[j]? = none by simp [hasL]; lia, List.getElem?_eq_none (by lia)]; rfl
        have e7 := pp.map fun i => L.getD i ((0, 0), 0)
        rw [e2] at e7
        exact e7.trans pm.symm
      · rw [List.pairwise_map]
        refine List.Pairwise.imp_of_mem (fun {i j} hi hj z => ?_) po
        have li := inr i hi
        have lj := inr j hj
        rw [eK] at z
        simpa [lt2, show i < L.length by lia, show j < L.length by lia] using z
    have eV : (p.map fun i => (as.map Value.ref).getD i .none) = (p.map fun i => as.getD i 0).map Value.ref := by
      rw [List.map_map]
      refine List.map_congr_left fun i hi => ?_
      have := inr i hi
      simp [this]
    have rec1 : Paired (RecAt (upd (lay H ps) h1.objs.size (.lst ((p.map fun i => as.getD i 0).map V.ref)))) (p.map fun i => as.getD i 0) rs := by
      rw [← eR]
      refine paired_of (by rw [List.length_map, List.length_map]) fun j a q e1 e2 => ?_
      rw [List.getElem?_map] at e1 e2
      cases hp : p[j]? with
      | none => rw [hp] at e1; cases e1
      | some i =>
        rw [hp] at e1 e2
        cases e1
        cases e2
        have li := inr i (List.mem_of_getElem? hp)
        obtain ⟨ka, k1, k2⟩ := paired_get rec0 i (as.getD i 0) (L.getD i ((0, 0), 0)) (by simp [li]) (by simp [show i < L.length by lia])
        exact ⟨ka, same_new hn2 _ _ k1, same_new hn2 _ _ k2⟩
    refine wpAny_pure ⟨_, rfl, .ref h1.objs.size, _, I2.laid (a := h1.objs.size) (o := .lst ((p.map fun i => as.getD i 0).map V.ref)) (t' := s.toks) (fun b o hb => kp2 b o (Nat.ne_of_lt (Heap.lt_size hb)) (Heap.get?_push_of_some _ hb)) (Nat.le_refl _) ⟨?_, (p.map fun i => as.getD i 0).map Value.ref, c, refs_vals _, ?_⟩, rfl, q _ (p.map fun i => as.getD i 0) _ (same_trans sm (same_new hn2)) hn upd_same rec1⟩
    · rw [List.length_map, List.length_map, pp.length_eq, List.length_range, sizeLine_eq]; lia
    · rw [← eV]; exact e)
end
end FX

/-! ## Q: d.pop(t), t a tuple that is there -/
namespace FX
open PySem PySem.Spec PyProof.Rows L2
set_option linter.all false
theorem mapErase {α β : Type} (f : α → β) : ∀ (xs : List α) (j : Nat), (xs.map f).eraseIdx j = (xs.eraseIdx j).map f
  | [], _ => rfl
  | _ :: _, 0 => rfl
  | x :: xs, j + 1 => congrArg (f x :: ·) (mapErase f xs j)
section
variable {prog : Program} {w : World} {K : Type} [DecidableEq K] {knd : HeapKind prog w K} {A : Around} {E : Value → Shared → Prop} {s : Shared}
theorem takeOut_heap {d a : Addr} {xs : List (K × Addr × Value)} {k : K} {p : Addr × Value} {j : Nat} {Q : Option DictEntry → Shared → Prop} (hu : knd.room A) (hkey : knd.is s.heap k a) (hm : s.heap.DictOfH knd d xs) (hz : xs.length ≤ sizeLine) (hj : xs[j]? = some (k, p))
    (hQ : ∀ h' o es ep, h'.get? d = some o → o.ExactDict → o.data = .dict es ep → es.toList = (xs.eraseIdx j).map (entryOfKey knd) → Heap.SameBut d s.heap h' → Q (some (entryOfKey knd (k, p))) { s with heap := h', toks := s.toks + knd.draws k }) :
    wpAny (model prog w) A (Builtin.Dict.takeOut d (.ref a)) Q E s := by
  obtain ⟨o, es, ep, ho, hc, hd, he, his, hn⟩ := hm
  unfold Builtin.Dict.takeOut
  refine wpAny_holding (wpAny_bind (knd.pyHash hu hkey (wpAny_bind (wpAny_dictFind_heap (s := { s with toks := s.toks + knd.draws k }) hu hkey ho hd he his hn (fun no => absurd hj (no j p)) fun i q hi => ?_))))
  obtain rfl := idxH_unique hn hi hj
  rw [hj] at hi; cases hi
  refine wpAny_bind (wpAny_dictEntries (s := { s with toks := s.toks + knd.draws k }) ho hd ?_)
  rw [entry_at he i, hj]
  refine wpAny_bind (wpAny_updateDictKeys (hz := by rw [size_of_entries he]; exact hz) (s := { s with toks := s.toks + knd.draws k }) ho hd (wpAny_pure (hQ _ _ _ _ (Heap.get?_update_self _ ho (Obj.isFreed_of_dict (Obj.data_mapDictKeys hd _))) (hc.mapDictKeys _) (Obj.data_mapDictKeys hd _) ?_ (Heap.SameBut.update ..))))
  have e1 : (es.eraseIdxIfInBounds i).toList = es.toList.eraseIdx i := by simp
  rw [e1, he]; exact mapErase _ _ _
/-- dict.pop of a key that is there -/
theorem pop_heap {d a : Addr} {xs : List (K × Addr × Value)} {k : K} {p : Addr × Value} {j : Nat} {Q : PySem.Fin → Shared → Prop} (hu : knd.room A) (hkey : knd.is s.heap k a) (hm : s.heap.DictOfH knd d xs) (hz : xs.length ≤ sizeLine) (hj : xs[j]? = some (k, p))
    (hQ : ∀ h' o es ep, h'.get? d = some o → o.ExactDict → o.data = .dict es ep → es.toList = (xs.eraseIdx j).map (entryOfKey knd) → Heap.SameBut d s.heap h' → Q (.done (.ret p.2)) { s with heap := h', toks := s.toks + knd.draws k }) :
    wpAny (model prog w) A (Builtin.«dict.pop» ⟨[.ref d, .ref a], []⟩) Q E s := by
  have ty := hm.typeIs
  obtain ⟨o, es, ep, ho, hc, hd, he, his, hn⟩ := id hm
  have ne : es.isEmpty = false := by
    have h1 := size_of_entries he
    have h2 : j < xs.length := (List.getElem?_eq_some_iff.mp hj).1
    cases h3 : es.isEmpty with
    | false => rfl
    | true => rw [Array.isEmpty_iff_size_eq_zero] at h3; omega
  unfold Builtin.«dict.pop» Builtin.Dict.keyAndDefault
  refine wpAny_bind (wpAny_bind (wpAny_notOrdered_dict ty (wpAny_pure ?_)))
  dsimp only
  rw [if_neg (show ¬ (keyPart (Value.ref a)).isSome = true from Bool.false_ne_true)]
  refine wpAny_bind (wpAny_dictEntries ho hd (wpAny_bind (wpAny_pure ?_)))
  rw [if_neg (by rw [ne]; exact Bool.false_ne_true)]
  refine wpAny_bind (takeOut_heap hu hkey hm hz hj fun h' o' es' ep' a1 a2 a3 a4 a5 => ?_)
  exact wpAny_bind (wpAny_letGo (wpAny_pure (hQ h' o' es' ep' a1 a2 a3 a4 a5)))
end
section
variable {κ : Type} [DecidableEq κ]
theorem drop_erase : ∀ {kvs : List (κ × V)} {k : κ} {v : V} {j : Nat}, (kvs.map (·.1)).Nodup → kvs[j]? = some (k, v) → dropK kvs k = kvs.eraseIdx j
  | [], _, _, j, _, h => by simp at h
  | p :: r, k, v, 0, nd, h => by
    have h : p = (k, v) := by simpa using h
    have nd' := List.nodup_cons.mp nd
    rw [dropK_pos (by rw [h]), dropK_no (by rw [h] at nd'; exact nd'.1)]
    rfl
  | p :: r, k, v, j + 1, nd, h => by
    have h : r[j]? = some (k, v) := by simpa using h
    have nd' := List.nodup_cons.mp nd
    have ne : ¬ p.1 = k := fun z => nd'.1 (List.mem_map.mpr ⟨(k, v), List.mem_of_getElem? h, z.symm⟩)
    rw [dropK_neg ne, drop_erase nd'.2 h]
    rfl
theorem valV_at : ∀ {kvs : List (κ × V)} {k : κ} {v : V}, valV kvs k = some v → ∃ j : Nat, kvs[j]? = some (k, v)
  | [], k, v, h => by cases h
  | p :: r, k, v, h => by
    by_cases e : p.1 = k
    · rw [valV_pos e] at h
      exact ⟨0, by rw [← e, ← Option.some.inj h]; rfl⟩
    · rw [valV_neg e] at h
      obtain ⟨j, hj⟩ := valV_at h
      exact ⟨j + 1, by simpa using hj⟩
end
section
variable {X : Cx} {pins : List (Addr × Obj)} {σ : L2.St} {H : Hp} {s : Shared} {A : Around} {E : Value → Shared → Prop} {a b : Addr}
theorem kt_names : ∀ {kvs : List (List Key × V)} {xs : List (List Key × Addr × Value)}, KT H kvs xs → xs.map (·.1) = kvs.map (·.1)
  | _, _, .nil => rfl
  | _, _, .cons r t => by rw [List.map_cons, List.map_cons, kt_names t, r.1]
theorem d_popT {kvs : List (List Key × V)} {k : List Key} {v : V} {Q : Value → Shared → Prop} (hu : A.units + 1 < cLine) (I : Inv X pins σ H s) (e : H a = some (.dT kvs)) (eb : H b = some (.tup (k.map kV))) (l : valV kvs k = some v)
    (h : ∀ w' s', Inv X pins σ (upd H a (.dT (dropK kvs k))) s' → RelV v w' → Q w' s') : wpAny (model X.prog X.w) A (call (.builtin "dict.pop") [.ref a, .ref b]) Q E s := by
  obtain ⟨z, hd, xs, rel, dd⟩ := dt_of I.hok e
  have hz : xs.length ≤ sizeLine := by rw [← Paired.length rel]; exact z
  obtain ⟨j, hj⟩ := valV_at l
  have hjx : j < xs.length := by rw [← Paired.length rel]; exact (List.getElem?_eq_some_iff.mp hj).1
  obtain ⟨x, hx⟩ := get_of_lt hjx
  obtain ⟨r1, r2, r3⟩ := paired_get rel j _ _ hj hx
  obtain ⟨k', p⟩ := x
  have r1 : k = k' := r1
  subst r1
  have nd : (kvs.map (·.1)).Nodup := by
    obtain ⟨_, _, _, _, _, _, _, _, nd⟩ := id dd
    rw [← kt_names rel]; exact nd
  have ndx : ((xs.eraseIdx j).map (·.1)).Nodup := by
    rw [← mapErase, kt_names rel]; exact nd.sublist (List.eraseIdx_sublist _ _)
  refine wpAny_call_entry PySem.F.slot_dict_pop dd.typeIs PySem.F.entry_dict_pop (pop_heap (tupleKind_room_in1 hu) (key_of I.hok eb) dd hz hx fun h' o es ep a1 a2 a3 a4 a5 => ⟨_, rfl, h _ _ ?_ r3⟩) (PySem.F.args_dict_pop_2 _ _)
  rw [drop_erase nd hj]
  refine d_write I (by rw [e]; exact True.intro) a5 ⟨o, a1⟩ ⟨?_, hd, xs.eraseIdx j, KT.keeps (paired_erase j rel) fun c ys ec => ?_, o, es, ep, a1, a2, a3, a4, ndx⟩
  · exact Nat.le_trans (by rw [List.length_eraseIdx]; split <;> omega) z
  · rw [upd_ne (ne_of ec e (fun z => nomatch z))]
    exact ec
/-- d.pop(t), t a tuple that is there -/
def tDPopT (td ty : TE) : TE := fun σ H Q => td σ H fun x H1 => ∃ a, x = .ref a ∧ IsD H1 a ∧ ty σ H1 fun y H2 => ∃ kvs k v b, H2 a = some (.dT kvs) ∧ y = .ref b ∧ H2 b = some (.tup (k.map kV)) ∧ valV kvs k = some v ∧ Q v (upd H2 a (.dT (dropK kvs k)))
theorem pe_dpopT {o e : Expr} {apos cpos : Pos} {td ty : TE} (hu : X.A.units + 1 < cLine) (ho : PE X o td) (he : PE X e ty) (m : M1 X o "pop" apos e cpos) : PE X (.Call (.Attribute o "pop" apos) [e] [] cpos) (tDPopT td ty) := by
  intro pins s σ H Q I h
  refine wpAny_Call_method m.base m.few m.line PySem.F.plainAttrs_dict PySem.F.slot_dict_pop PySem.F.type_dict_pop (thn (ho pins s σ H _ I h) fun u s1 ⟨x, H1, I1, rx, a, ex, d, q1⟩ => ?_)
  subst ex
  obtain rfl : u = Value.ref a := rx
  obtain ⟨t1, t2, _⟩ := isD_at I1 d
  refine ⟨t1, t2, ?_⟩
  rw [m.trees]
  refine Calls.callWith_builtin rfl (Calls.evalArgs_plain (Calls.spliced_cons (thn (he pins s1 σ H1 _ I1 q1) fun iv s2 ⟨y, H2, I2, ry, kvs, k, v, b, ea, ey, eb, l, q2⟩ => Calls.spliced_nil ?_)))
  subst ey
  obtain rfl : iv = Value.ref b := ry
  exact d_popT hu I2 ea eb l fun w' s3 I3 rw' => ⟨v, _, I3, rw', q2⟩
end
end FX

/-! ## Farhold: what deeds do to a house's dicts -/
namespace FX
open PySem PySem.Spec PyProof.Rows L2
set_option linter.all false
/-- what one holder holds is set anew -/
def setL (l : List (T2 × Addr × List T2)) (a : Addr) (h : List T2) : List (T2 × Addr × List T2) := l.map fun q => if q.2.1 = a then (q.1, a, h) else q
theorem setL_adr (l : List (T2 × Addr × List T2)) (a : Addr) (h : List T2) : (setL l a h).map (·.2.1) = l.map (·.2.1) := by
  unfold setL
  rw [List.map_map]
  refine List.map_congr_left fun q _ => ?_
  show (if q.2.1 = a then (q.1, a, h) else q).2.1 = q.2.1
  by_cases e : q.2.1 = a
  · rw [if_pos e]; exact e.symm
  · rw [if_neg e]
theorem setL_key (l : List (T2 × Addr × List T2)) (a : Addr) (h : List T2) : (setL l a h).map (fun q => (tk q.1, V.ref q.2.1)) = l.map fun q => (tk q.1, V.ref q.2.1) := by
  unfold setL
  rw [List.map_map]
  refine List.map_congr_left fun q _ => ?_
  show (tk (if q.2.1 = a then (q.1, a, h) else q).1, V.ref (if q.2.1 = a then (q.1, a, h) else q).2.1) = _
  by_cases e : q.2.1 = a
  · rw [if_pos e, ← e]
  · rw [if_neg e]
theorem mem_setL {l : List (T2 × Addr × List T2)} {a : Addr} {h : List T2} {q : T2 × Addr × List T2} (m : q ∈ setL l a h) : (∃ q0 ∈ l, q0.2.1 = a ∧ q = (q0.1, a, h)) ∨ (q ∈ l ∧ q.2.1 ≠ a) := by
  unfold setL at m
  obtain ⟨q0, h0, e⟩ := List.mem_map.mp m
  by_cases e1 : q0.2.1 = a
  · rw [if_pos e1] at e; exact .inl ⟨q0, h0, e1, e.symm⟩
  · rw [if_neg e1] at e; rw [← e]; exact .inr ⟨h0, e1⟩
section
variable {C p : Addr} {H H' : Hp} {G : HGh}
theorem HouseAt.setHold (x : HouseAt C H p G) {q : T2 × Addr × List T2} (hq : q ∈ G.holds) (l : List T2) : HouseAt C (upd H q.2.1 (dHand l)) p { G with holds := setL G.holds q.2.1 l } := by
  obtain ⟨_, _, _, d1⟩ := x.nds
  obtain ⟨n1, n2, n3, n4⟩ := d1 q hq
  have mem : q.2.1 ∈ foot G := by
    unfold foot
    exact List.mem_cons_of_mem _ (List.mem_cons_of_mem _ (List.mem_cons_of_mem _ (List.mem_cons_of_mem _ (List.mem_map_of_mem hq))))
  have np := x.p_ne mem
  obtain ⟨dx, e⟩ := x.ob
  refine ⟨⟨dx, by rw [upd_ne np.symm]; exact e⟩, by rw [upd_ne n1.symm]; exact x.dh, by rw [upd_ne n2.symm]; exact x.dO, ?_, by rw [upd_ne n4.symm]; exact x.dr, fun r hr => ?_, ?_⟩
  · rw [upd_ne n3.symm]
    show H G.l = some (.dT ((setL G.holds q.2.1 l).map fun q => (tk q.1, V.ref q.2.1)))
    rw [setL_key]; exact x.dl
  · rcases mem_setL hr with ⟨q0, _, e1, e2⟩ | ⟨h1, h2⟩
    · rw [e2]; exact upd_same
    · rw [upd_ne h2]; exact x.hl r h1
  · have e2 : foot { G with holds := setL G.holds q.2.1 l } = foot G := by
      unfold foot
      rw [setL_adr]
    rw [e2]; exact x.nd
end
/-! ### the hand, a holder's holds -/
def addT (l : List T2) (t : T2) : List T2 := if t ∈ l then l else l ++ [t]
def delT (l : List T2) (t : T2) : List T2 := l.filter fun u => decide (u ≠ t)
theorem hand_find (l : List T2) (t : T2) : l.find? (fun q => decide (q = t)) = if t ∈ l then some t else none := by
  by_cases h : t ∈ l
  · rw [if_pos h]
    cases e : l.find? fun q => decide (q = t) with
    | none => exact absurd (List.find?_eq_none.mp e t h) (by simp)
    | some u =>
      have := List.find?_some e
      have : u = t := by simpa using this
      rw [this]
  · rw [if_neg h]
    exact List.find?_eq_none.mpr fun u hu => by
      have : ¬ u = t := fun z => h (z ▸ hu)
      simpa using this
theorem valV_hand (l : List T2) (t : T2) : valV (l.map fun q => (tk q, V.bl true)) (tk t) = if t ∈ l then some (V.bl true) else none := by
  rw [valV_tk (k := fun q : T2 => q) (f := fun _ => V.bl true), hand_find]
  by_cases h : t ∈ l
  · rw [if_pos h, if_pos h]; rfl
  · rw [if_neg h, if_neg h]; rfl
theorem putK_hand (l : List T2) (t : T2) : putK (l.map fun q => (tk q, V.bl true)) (tk t) (V.bl true) = (addT l t).map fun q => (tk q, V.bl true) := by
  unfold addT
  by_cases h : t ∈ l
  · rw [if_pos h]
    unfold putK
    rw [valV_any, valV_hand, if_pos h, if_pos (show (some (V.bl true)).isSome = true from rfl), List.map_map]
    refine List.map_congr_left fun q _ => ?_
    show (if tk q = tk t then (tk q, V.bl true) else (tk q, V.bl true)) = _
    by_cases e : tk q = tk t
    · rw [if_pos e]
    · rw [if_neg e]
  · rw [if_neg h, putK_tk (k := fun q : T2 => q) (f := fun _ => V.bl true) _ (fun q hq z => h (by rw [← z]; exact hq)), List.map_append]
    rfl
theorem dropK_tk {α : Type} (l : List α) (k : α → T2) (f : α → V) (t : T2) : dropK (l.map fun q => (tk (k q), f q)) (tk t) = (l.filter fun q => decide (k q ≠ t)).map fun q => (tk (k q), f q) := by
  unfold dropK
  rw [List.filter_map]
  congr 1
  refine List.filter_congr fun q _ => ?_
  show decide (tk (k q) ≠ tk t) = decide (k q ≠ t)
  by_cases e : k q = t
  · rw [e]; simp
  · have e2 : ¬ tk (k q) = tk t := fun z => e (tk_inj z)
    simp [e, e2]
/-! ### outs, records -/
def putI (l : List (T2 × Int)) (t : T2) (v : Int) : List (T2 × Int) := if t ∈ l.map (·.1) then l.map fun q => if q.1 = t then (q.1, v) else q else l ++ [(t, v)]
theorem putK_int (l : List (T2 × Int)) (t : T2) (v : Int) : putK (l.map fun q => (tk q.1, V.int q.2)) (tk t) (V.int v) = (putI l t v).map fun q => (tk q.1, V.int q.2) := by
  unfold putI
  by_cases h : t ∈ l.map (·.1)
  · rw [if_pos h]
    unfold putK
    have e1 : ((l.map fun q => (tk q.1, V.int q.2)).any fun kv => decide (kv.1 = tk t)) = true := by
      obtain ⟨q, hq, e⟩ := List.mem_map.mp h
      exact List.any_eq_true.mpr ⟨(tk q.1, V.int q.2), List.mem_map_of_mem hq, by simp [e]⟩
    rw [e1, if_pos rfl, List.map_map, List.map_map]
    refine List.map_congr_left fun q _ => ?_
    show (if tk q.1 = tk t then (tk q.1, V.int v) else (tk q.1, V.int q.2)) = (tk (if q.1 = t then (q.1, v) else q).1, V.int (if q.1 = t then (q.1, v) else q).2)
    by_cases e : q.1 = t
    · rw [if_pos e, if_pos (by rw [e])]
    · rw [if_neg e, if_neg fun z => e (tk_inj z)]
  · rw [if_neg h, putK_tk (k := fun q : T2 × Int => q.1) (f := fun q => V.int q.2) _ fun q hq z => h (List.mem_map.mpr ⟨q, hq, z⟩), List.map_append]
    rfl
end FX

/-! ## R: sorted(l), l a list of things, all unlike -/
namespace FX
open PySem PySem.Spec PyProof.Rows L2
set_option linter.all false
section
variable {X : Cx}
theorem call_sorted_list (hc : X.calm = true) : CallR X (.builtin "sorted") (fun xs H Q => ∃ (l : Addr) (as : List Addr) (ts ss : List T2), xs = [.ref l] ∧ H l = some (.lst (as.map V.ref)) ∧ ThsAt H as ts ∧ ts.length < 64 ∧ ss.Perm ts ∧ ss.Pairwise lt2 ∧
    ∀ (r : Addr) (as' : List Addr), H r = none → ThsAt H as' ss → Q (.ref r) (upd H r (.lst (as'.map V.ref)))) := by
  intro pins s σ H xs us Q I rv h
  obtain ⟨l, as, ts, ss, rfl, hl, th, h64, pm, pw, q⟩ := h
  obtain ⟨u, rfl, rx⟩ := vals1 rv
  cases rx
  obtain ⟨z, its, n, vl, gl⟩ := (show ObjOk X.prog X.w H s.heap l (.lst (as.map V.ref)) from I.hok l _ hl)
  have ei := vals_refs vl
  subst ei
  have hal := Paired.length th
  have nd : ts.Nodup := pm.nodup_iff.mp (List.Pairwise.imp (fun {a b} (h : lt2 a b) (z : a = b) => by rw [lt2_iff, z] at h; lia) pw)
  have ndK : (ts.map fun t => ([t.1, t.2] : List Int)).Nodup := List.Pairwise.map _ (fun a b h z => h (by obtain ⟨a1, a2⟩ := a; obtain ⟨c1, c2⟩ := b; simp at z; rw [z.1, z.2])) nd
  have t0 : TupsAt s.heap as (ts.map fun t => [t.1, t.2]) := paired_of (by rw [List.length_map]; exact hal) fun j a ns e1 e2 => by
    rw [List.getElem?_map] at e2
    cases ht : ts[j]? with
    | none => rw [ht] at e2; cases e2
    | some t =>
      rw [ht] at e2
      cases e2
      obtain ⟨its, rv, it, _⟩ := I.tuple (SqT.of (K := X.K) (paired_get th j a t e1 ht))
      exact ⟨by simp, its.toArray, it, by simpa using intsAre_of (ns := [t.1, t.2]) rv⟩
  refine Calls.call_function_entry kind_sorted plain_sorted entry_sorted (args_sorted1 _) (by
    unfold Builtin.«sorted»
    refine wpAny_bind (m := checkCount "sorted" 1 1 _) (wpAny_pure (wpAny_bind (collect_list ⟨_, gl, rfl, _, rfl⟩ ?_ (by rw [List.length_map, sizeLine_eq]; lia))))
    have kp : ∀ b o, s.heap.get? b = some o → ((s.heap.push (seqObj "list" #[] 0)).update s.heap.objs.size (Obj.mapSeq (· ++ (as.map Value.ref).toArray))).get? b = some o := fun b o e =>
      (Heap.get?_update_other _ _ (Nat.ne_of_gt (Heap.lt_size e))).trans (Heap.get?_push_of_some _ e)
    generalize (s.heap.push (seqObj "list" #[] 0)).update s.heap.objs.size (Obj.mapSeq (· ++ (as.map Value.ref).toArray)) = h1 at kp
    have I1 : Inv X pins σ H { s with heap := h1, toks := s.toks } := I.kept kp
    refine wpAny_bind (wpAny_newList ?_ (by rw [List.length_map, sizeLine_eq]; lia))
    have g1 : (h1.push (seqObj "list" (as.map Value.ref).toArray 0)).get? h1.objs.size = some (seqObj "list" (as.map Value.ref).toArray 0) := Heap.get?_push_size _ rfl
    have t1 : TupsAt (h1.push (seqObj "list" (as.map Value.ref).toArray 0)) as (ts.map fun t => [t.1, t.2]) := t0.keep fun b o e _ => Heap.get?_push_of_some _ (kp b o e)
    refine wpAny_bind (wpAny_holding (wpAny_call_entry slot_list_sort ⟨_, g1, rfl⟩ entry_list_sort (lsort_tups g1 (by lia) t1 ndK fun p pp po h2 c kp2 e => ⟨_, rfl, ?_⟩) (args_list_sort _)))
    have hn : H h1.objs.size = none := I1.hok.fresh (Nat.le_refl _)
    have inr : ∀ i ∈ p, i < as.length := fun i hi => List.mem_range.mp (pp.mem_iff.mp hi)
    have eR : p.map (fun i => ts.getD i (0, 0)) = ss := by
      refine sorted_one (lt := lt2) (fun a z => by rw [lt2_iff] at z; lia) (fun a b h1 h2 => by rw [lt2_iff] at h1 h2; lia) ?_ ?_ pw
      · have e2 : (List.range as.length).map (fun i => ts.getD i (0, 0)) = ts := by
          refine List.ext_getElem? fun j => ?_
          rw [List.getElem?_map]
          by_cases hj : j < ts.length
          · rw [show (List.range as.length)[j]? = some j by simp [hal, hj]]; simp [hj]
          · rw [show (List.range as.length)[j]? = none by simp [hal]; lia, List.getElem?_eq_none (by lia)]; rfl
        have e7 := pp.map fun i => ts.getD i (0, 0)
        rw [e2] at e7
        exact e7.trans pm.symm
      · rw [List.pairwise_map]
        refine List.Pairwise.imp_of_mem (fun {i j} hi hj z => ?_) po
        have li := inr i hi
        have lj := inr j hj
        simpa [lt2, show i < ts.length by lia, show j < ts.length by lia] using z
    have eV : (p.map fun i => (as.map Value.ref).getD i .none) = (p.map fun i => as.getD i 0).map Value.ref := by
      rw [List.map_map]
      refine List.map_congr_left fun i hi => ?_
      have := inr i hi
      simp [this]
    have th2 : ThsAt H (p.map fun i => as.getD i 0) ss := by
      rw [← eR]
      refine paired_of (by rw [List.length_map, List.length_map]) fun j a t e1 e2 => ?_
      rw [List.getElem?_map] at e1 e2
      cases hp : p[j]? with
      | none => rw [hp] at e1; cases e1
      | some i =>
        rw [hp] at e1 e2
        cases e1
        cases e2
        have li := inr i (List.mem_of_getElem? hp)
        exact paired_get th i (as.getD i 0) (ts.getD i (0, 0)) (by simp [li]) (by simp [show i < ts.length by lia])
    refine wpAny_pure ⟨_, rfl, .ref h1.objs.size, _, I1.laid (a := h1.objs.size) (o := .lst ((p.map fun i => as.getD i 0).map V.ref)) (t' := s.toks) (fun b o hb => kp2 b o (Nat.ne_of_lt (Heap.lt_size hb)) (Heap.get?_push_of_some _ hb)) (Nat.le_refl _) ⟨?_, (p.map fun i => as.getD i 0).map Value.ref, c, refs_vals _, ?_⟩, rfl, q _ (p.map fun i => as.getD i 0) hn th2⟩
    · rw [List.length_map, List.length_map, pp.length_eq, List.length_range, sizeLine_eq]; lia
    · rw [← eV]; exact e)
end
end FX

/-! ## S: t in l, t not in l, l a list of things -/
namespace FX
open PySem PySem.Spec PyProof.Rows L2
set_option linter.all false
/-- whether the thing lies at a value's place -/
noncomputable def isT (H : Hp) (tb : T2) : Value → Bool
  | .ref a => @decide (H a = some (.tup (tv tb))) (Classical.propDecidable _)
  | _ => false
theorem isT_at {H : Hp} {a : Addr} {t tb : T2} (h : H a = some (.tup (tv t))) : isT H tb (.ref a) = decide (t = tb) := by
  show @decide (H a = some (.tup (tv tb))) (Classical.propDecidable _) = _
  by_cases e : t = tb
  · rw [decide_eq_true e]
    exact @decide_eq_true _ (Classical.propDecidable _) (by rw [h, e])
  · rw [decide_eq_false e]
    refine @decide_eq_false _ (Classical.propDecidable _) fun z => e ?_
    rw [h] at z
    have z : tv t = tv tb := HO.tup.inj (Option.some.inj z)
    unfold tv at z
    simp only [List.cons.injEq, V.int.injEq, and_true] at z
    exact Prod.ext z.1 z.2
theorem any_isT {H : Hp} {tb : T2} : ∀ {as : List Addr} {ts : List T2}, ThsAt H as ts → (as.map Value.ref).any (isT H tb) = decide (tb ∈ ts)
  | _, _, .nil => by simp
  | _, t :: ts, .cons r q => by
    rw [List.map_cons, List.any_cons, isT_at r, any_isT q]
    by_cases e : t = tb
    · rw [e]; simp
    · have : ¬ tb = t := fun z => e z.symm
      simp [e, this]
section
variable {X : Cx} {pins : List (Addr × Obj)} {σ : L2.St} {H : Hp} {s : Shared} {A : Around}
theorem eqAt_th {a b : Addr} {t tb : T2} (hu : A.units < cLine) (I : Inv X pins σ H s) (ha : H a = some (.tup (tv t))) (hb : H b = some (.tup (tv tb))) : SeqAt.EqAt A s (.ref a) (.ref b) (isT H tb (.ref a)) := by
  intro prog w E Q q
  obtain ⟨its, rv, it, _⟩ := I.tuple (SqT.of (K := X.K) ha)
  obtain ⟨jts, rw', jt, _⟩ := I.tuple (SqT.of (K := X.K) hb)
  have i1 : IntsAre its [t.1, t.2] := intsAre_of (ns := [t.1, t.2]) rv
  have i2 : IntsAre jts [tb.1, tb.2] := intsAre_of (ns := [tb.1, tb.2]) rw'
  refine wpAny_eqBool_tuple hu (tup_key it (by simpa using i1)) (tup_key jt (by simpa using i2)) ?_
  rw [isT_at ha] at q
  have e : decide (([t.1, t.2] : List Int) = [tb.1, tb.2]) = decide (t = tb) := by
    by_cases e : t = tb
    · rw [e]; simp
    · have : ¬ ([t.1, t.2] : List Int) = [tb.1, tb.2] := fun z => e (by simp at z; exact Prod.ext z.1 z.2)
      rw [decide_eq_false e, decide_eq_false this]
  rw [e]; exact q
/-- t in l -/
def rInT (neg : Bool) : R2 := fun x y H Q => ∃ (b l : Addr) (tb : T2) (as : List Addr) (ts : List T2), x = .ref b ∧ y = .ref l ∧ H b = some (.tup (tv tb)) ∧ H l = some (.lst (as.map V.ref)) ∧ ThsAt H as ts ∧ Q (.bl (if neg then !decide (tb ∈ ts) else decide (tb ∈ ts))) H
theorem things_at (hu : X.A.units + 64 < cLine) {l b : Addr} {tb : T2} {as : List Addr} {ts : List T2} (I : Inv X pins σ H s) (hb : H b = some (.tup (tv tb))) (hl : H l = some (.lst (as.map V.ref))) (th : ThsAt H as ts) :
    s.heap.IsList l (as.map Value.ref).toArray ∧ ∀ y, y ∈ (as.map Value.ref).toArray → SeqAt.EqAt X.A.in1 s y (.ref b) (isT H tb y) := by
  obtain ⟨z, its, n, vl, gl⟩ := (show ObjOk X.prog X.w H s.heap l (.lst (as.map V.ref)) from I.hok l _ hl)
  have ei := vals_refs vl
  subst ei
  refine ⟨⟨_, gl, rfl, _, rfl⟩, fun y hy => ?_⟩
  have hy : y ∈ as.map Value.ref := by simpa using hy
  obtain ⟨a, ha, rfl⟩ := List.mem_map.mp hy
  obtain ⟨j, hj⟩ := List.mem_iff_getElem?.mp ha
  obtain ⟨t, ht⟩ := get_of_lt (xs := ts) (j := j) (by rw [← Paired.length th]; exact (List.getElem?_eq_some_iff.mp hj).1)
  exact eqAt_th (by show X.A.units + 1 < cLine; omega) I (paired_get th j a t hj ht) hb
theorem op_notIn_things (hu : X.A.units + 64 < cLine) : OpR X (compareOp .NotIn) (rInT true) := by
  intro pins s σ H x y v u Q I rx ry h
  obtain ⟨b, l, tb, as, ts, rfl, rfl, hb, hl, th, q⟩ := h
  cases rx
  cases ry
  obtain ⟨a1, a2⟩ := things_at hu I hb hl th
  refine SeqAt.notIn_listAt (isT H tb) a1 a2 ⟨.bl _, H, I, rfl, ?_⟩
  rw [show (as.map Value.ref).toArray.any (isT H tb) = (as.map Value.ref).any (isT H tb) by simp, any_isT th]
  exact q
end
end FX

/-! ## T: l.remove(t), l a list of things -/
namespace FX
open PySem PySem.Spec PyProof.Rows L2
set_option linter.all false
section
variable {prog : Program} {w : World} {A : Around} {R : Result → Shared → Prop} {s : Shared} {l : Addr} {items : Array Value} {n : Nat} {x : Value}
end
section
variable {X : Cx}
/-- l.remove(t), t at j and nowhere ahead -/
def rRemoveT : V → List V → Hp → VK → Prop := fun x vs H Q => ∃ (l b : Addr) (tb : T2) (as : List Addr) (ts : List T2) (j : Nat), x = .ref l ∧ vs = [.ref b] ∧ H b = some (.tup (tv tb)) ∧ H l = some (.lst (as.map V.ref)) ∧ ThsAt H as ts ∧ ts[j]? = some tb ∧ (∀ m t, m < j → ts[m]? = some t → t ≠ tb) ∧
  Q .non (upd H l (.lst ((as.eraseIdx j).map V.ref)))
end
end FX

/-! ## Farhold: the rows that a law keeps of a house, as they lie: a dict of texts, lists of things -/
namespace FX
open PySem PySem.Spec PyProof.Rows L2
set_option linter.all false
theorem kne {a b : Str} (h : ¬ a = b) : ¬ ((Sum.inr a : Key) = Sum.inr b) := fun z => h (Sum.inr.inj z)
theorem n_house_hand : ¬ (("house" : Str) = "hand") := by decide +kernel
theorem n_house_holds : ¬ (("house" : Str) = "holds") := by decide +kernel
theorem n_house_outs : ¬ (("house" : Str) = "outs") := by decide +kernel
theorem n_house_records : ¬ (("house" : Str) = "records") := by decide +kernel
theorem n_house_made : ¬ (("house" : Str) = "made") := by decide +kernel
theorem n_house_ticks : ¬ (("house" : Str) = "ticks") := by decide +kernel
def mflds (G : HGh) : List (Key × V) := [(.inr "house", .int G.num), (.inr "hand", .ref G.h), (.inr "holds", .ref G.l), (.inr "outs", .ref G.o), (.inr "records", .ref G.r), (.inr "made", .int G.made), (.inr "ticks", .int G.ticks)]
theorem mf_house (G : HGh) : valV (mflds G) (.inr "house") = some (.int G.num) := by
  unfold mflds
  rw [valV_pos rfl]
theorem mf_hand (G : HGh) : valV (mflds G) (.inr "hand") = some (.ref G.h) := by
  unfold mflds
  rw [valV_neg (kne n_house_hand), valV_pos rfl]
theorem mf_holds (G : HGh) : valV (mflds G) (.inr "holds") = some (.ref G.l) := by
  unfold mflds
  rw [valV_neg (kne n_house_holds), valV_neg (kne n_hand_holds), valV_pos rfl]
theorem mf_outs (G : HGh) : valV (mflds G) (.inr "outs") = some (.ref G.o) := by
  unfold mflds
  rw [valV_neg (kne n_house_outs), valV_neg (kne n_hand_outs), valV_neg (kne n_holds_outs), valV_pos rfl]
theorem mf_records (G : HGh) : valV (mflds G) (.inr "records") = some (.ref G.r) := by
  unfold mflds
  rw [valV_neg (kne n_house_records), valV_neg (kne n_hand_records), valV_neg (kne n_holds_records), valV_neg (kne n_outs_records), valV_pos rfl]
theorem mf_made (G : HGh) : valV (mflds G) (.inr "made") = some (.int G.made) := by
  unfold mflds
  rw [valV_neg (kne n_house_made), valV_neg (kne n_hand_made), valV_neg (kne n_holds_made), valV_neg (kne n_outs_made), valV_neg (kne n_records_made), valV_pos rfl]
theorem mf_put_made (G : HGh) (y : Int) : putK (mflds G) (.inr "made") (.int y) = mflds { G with made := y } := by
  have h : ((mflds G).any fun kv => decide (kv.1 = .inr "made")) = true := by rw [valV_any, mf_made]; rfl
  unfold putK
  rw [if_pos h]
  unfold mflds
  simp only [List.map_cons, List.map_nil, if_neg (kne n_house_made), if_neg (kne n_hand_made), if_neg (kne n_holds_made), if_neg (kne n_outs_made), if_neg (kne n_records_made), if_neg (kne n_ticks_made), if_true]
theorem mf_all (G : HGh) : mergeK [] (mflds G) = mflds G := by
  have e0 : putK ([] : List (Key × V)) (.inr "house") (.int G.num) = [(.inr "house", .int G.num)] := putK_new _ valV_nil
  have e1 : putK ([(.inr "house", .int G.num)] : List (Key × V)) (.inr "hand") (.ref G.h) = [(.inr "house", .int G.num), (.inr "hand", .ref G.h)] := putK_new _ (by rw [valV_neg (kne n_house_hand)]; rfl)
  have e2 : putK ([(.inr "house", .int G.num), (.inr "hand", .ref G.h)] : List (Key × V)) (.inr "holds") (.ref G.l) = [(.inr "house", .int G.num), (.inr "hand", .ref G.h), (.inr "holds", .ref G.l)] := putK_new _ (by rw [valV_neg (kne n_house_holds), valV_neg (kne n_hand_holds)]; rfl)
  have e3 : putK ([(.inr "house", .int G.num), (.inr "hand", .ref G.h), (.inr "holds", .ref G.l)] : List (Key × V)) (.inr "outs") (.ref G.o) = [(.inr "house", .int G.num), (.inr "hand", .ref G.h), (.inr "holds", .ref G.l), (.inr "outs", .ref G.o)] := putK_new _ (by rw [valV_neg (kne n_house_outs), valV_neg (kne n_hand_outs), valV_neg (kne n_holds_outs)]; rfl)
  have e4 : putK ([(.inr "house", .int G.num), (.inr "hand", .ref G.h), (.inr "holds", .ref G.l), (.inr "outs", .ref G.o)] : List (Key × V)) (.inr "records") (.ref G.r) = [(.inr "house", .int G.num), (.inr "hand", .ref G.h), (.inr "holds", .ref G.l), (.inr "outs", .ref G.o), (.inr "records", .ref G.r)] := putK_new _ (by rw [valV_neg (kne n_house_records), valV_neg (kne n_hand_records), valV_neg (kne n_holds_records), valV_neg (kne n_outs_records)]; rfl)
  have e5 : putK ([(.inr "house", .int G.num), (.inr "hand", .ref G.h), (.inr "holds", .ref G.l), (.inr "outs", .ref G.o), (.inr "records", .ref G.r)] : List (Key × V)) (.inr "made") (.int G.made) = [(.inr "house", .int G.num), (.inr "hand", .ref G.h), (.inr "holds", .ref G.l), (.inr "outs", .ref G.o), (.inr "records", .ref G.r), (.inr "made", .int G.made)] := putK_new _ (by rw [valV_neg (kne n_house_made), valV_neg (kne n_hand_made), valV_neg (kne n_holds_made), valV_neg (kne n_outs_made), valV_neg (kne n_records_made)]; rfl)
  have e6 : putK ([(.inr "house", .int G.num), (.inr "hand", .ref G.h), (.inr "holds", .ref G.l), (.inr "outs", .ref G.o), (.inr "records", .ref G.r), (.inr "made", .int G.made)] : List (Key × V)) (.inr "ticks") (.int G.ticks) = [(.inr "house", .int G.num), (.inr "hand", .ref G.h), (.inr "holds", .ref G.l), (.inr "outs", .ref G.o), (.inr "records", .ref G.r), (.inr "made", .int G.made), (.inr "ticks", .int G.ticks)] := putK_new _ (by rw [valV_neg (kne n_house_ticks), valV_neg (kne n_hand_ticks), valV_neg (kne n_holds_ticks), valV_neg (kne n_outs_ticks), valV_neg (kne n_records_ticks), valV_neg (kne n_made_ticks)]; rfl)
  unfold mergeK mflds
  simp only [List.foldl_cons, List.foldl_nil]
  rw [e0, e1, e2, e3, e4, e5, e6]
theorem mf_len (G : HGh) : (mflds G).length < sizeLine := by show 7 < sizeLine; decide
/-- a list of things -/
def LstAt (H : Hp) (b : Addr) (ts : List T2) : Prop := ∃ as : List Addr, H b = some (.lst (as.map V.ref)) ∧ ThsAt H as ts
theorem ThsAt.keep {H H' : Hp} (k : KeepT H H') {as : List Addr} {ts : List T2} (x : ThsAt H as ts) : ThsAt H' as ts := paired_mono (fun _ _ e => k.tup _ _ e) x
structure ModelAt (H : Hp) (p : Addr) (G : HGh) : Prop where
  ob : H p = some (.dK (mflds G))
  dh : LstAt H G.h G.hand
  dO : H G.o = some (dInt G.outs)
  dl : H G.l = some (dRef G.holds)
  dr : H G.r = some (dInt G.recs)
  hl : ∀ q ∈ G.holds, LstAt H q.2.1 q.2.2
  nd : (p :: foot G).Nodup
theorem mem_foot_hold {G : HGh} {q : T2 × Addr × List T2} (h : q ∈ G.holds) : q.2.1 ∈ foot G := by
  unfold foot
  exact List.mem_cons_of_mem _ (List.mem_cons_of_mem _ (List.mem_cons_of_mem _ (List.mem_cons_of_mem _ (List.mem_map_of_mem h))))
section
variable {p : Addr} {H H' : Hp} {G : HGh}
theorem ModelAt.keep (x : ModelAt H p G) (k : ∀ b o, (b = p ∨ b ∈ foot G) → H b = some o → H' b = some o) (kt : KeepT H H') : ModelAt H' p G := by
  have m0 : G.h ∈ foot G := by simp [foot]
  have m1 : G.o ∈ foot G := by simp [foot]
  have m2 : G.l ∈ foot G := by simp [foot]
  have m3 : G.r ∈ foot G := by simp [foot]
  refine ⟨k _ _ (.inl rfl) x.ob, let ⟨as, e, t⟩ := x.dh; ⟨as, k _ _ (.inr m0) e, t.keep kt⟩, k _ _ (.inr m1) x.dO, k _ _ (.inr m2) x.dl, k _ _ (.inr m3) x.dr, fun q hq => ?_, x.nd⟩
  obtain ⟨as, e, t⟩ := x.hl q hq
  exact ⟨as, k _ _ (.inr (mem_foot_hold hq)) e, t.keep kt⟩
theorem ModelAt.same (x : ModelAt H p G) (s : Same H H') : ModelAt H' p G := x.keep (fun b o _ e => s b o e) (KeepT.of_same s)
theorem ModelAt.foot_some (x : ModelAt H p G) {b : Addr} (hb : b ∈ foot G) : (∃ kvs, H b = some (.dT kvs)) ∨ ∃ xs, H b = some (.lst xs) := by
  unfold foot at hb
  rcases List.mem_cons.mp hb with rfl | hb
  · obtain ⟨as, e, _⟩ := x.dh; exact .inr ⟨_, e⟩
  rcases List.mem_cons.mp hb with rfl | hb
  · exact .inl ⟨_, x.dO⟩
  rcases List.mem_cons.mp hb with rfl | hb
  · exact .inl ⟨_, x.dl⟩
  rcases List.mem_cons.mp hb with rfl | hb
  · exact .inl ⟨_, x.dr⟩
  obtain ⟨q, hq, e⟩ := List.mem_map.mp hb
  rw [← e]
  obtain ⟨as, e, _⟩ := x.hl q hq
  exact .inr ⟨_, e⟩
theorem ModelAt.p_ne (x : ModelAt H p G) {b : Addr} (hb : b ∈ foot G) : b ≠ p := fun z => (List.nodup_cons.mp x.nd).1 (z ▸ hb)
theorem ModelAt.tup_ne (x : ModelAt H p G) {b : Addr} {xs : List V} (hb : H b = some (.tup xs)) : b ≠ p ∧ b ∉ foot G := by
  refine ⟨ne_of hb x.ob (by intro z; cases z), fun m => ?_⟩
  rcases x.foot_some m with ⟨_, e⟩ | ⟨_, e⟩ <;> (rw [hb] at e; cases e)
theorem ModelAt.frz_ne (x : ModelAt H p G) {b : Addr} {ob : Obj} {u : HO} (hb : H b = some (.frz ob u)) : b ≠ p ∧ b ∉ foot G := by
  refine ⟨ne_of hb x.ob (by intro z; cases z), fun m => ?_⟩
  rcases x.foot_some m with ⟨_, e⟩ | ⟨_, e⟩ <;> (rw [hb] at e; cases e)
theorem ModelAt.new_ne (x : ModelAt H p G) {b : Addr} (hb : H b = none) : b ≠ p ∧ b ∉ foot G := by
  refine ⟨fun z => (by rw [z, x.ob] at hb; cases hb), fun m => ?_⟩
  rcases x.foot_some m with ⟨_, e⟩ | ⟨_, e⟩ <;> (rw [hb] at e; cases e)
theorem ModelAt.keepT (x : ModelAt H p G) (f : HFr p G H H') : KeepT H H' :=
  ⟨fun a xs e => f a _ e (x.tup_ne e).1 (x.tup_ne e).2, fun a ob u e => f a _ e (x.frz_ne e).1 (x.frz_ne e).2⟩
theorem ModelAt.nds (x : ModelAt H p G) : (G.h ≠ G.o ∧ G.h ≠ G.l ∧ G.h ≠ G.r) ∧ (G.o ≠ G.l ∧ G.o ≠ G.r) ∧ G.l ≠ G.r ∧ ∀ q ∈ G.holds, q.2.1 ≠ G.h ∧ q.2.1 ≠ G.o ∧ q.2.1 ≠ G.l ∧ q.2.1 ≠ G.r := by
  have nd := (List.nodup_cons.mp x.nd).2
  unfold foot at nd
  simp only [List.nodup_cons, List.mem_cons, not_or] at nd
  obtain ⟨⟨a1, a2, a3, a4⟩, ⟨b1, b2, b3⟩, ⟨c1, c2⟩, d1, _⟩ := nd
  refine ⟨⟨a1, a2, a3⟩, ⟨b1, b2⟩, c1, fun q hq => ?_⟩
  have m : q.2.1 ∈ G.holds.map (·.2.1) := List.mem_map_of_mem hq
  exact ⟨fun z => a4 (z ▸ m), fun z => b3 (z ▸ m), fun z => c2 (z ▸ m), fun z => d1 (z ▸ m)⟩
/-- what stands at a place of the rows is no tuple, so tuples stay when it is written -/
theorem ModelAt.kw (x : ModelAt H p G) {b : Addr} (hb : b = p ∨ b ∈ foot G) (o : HO) : KeepT H (upd H b o) := KeepT.upd fun o' e => by
  rcases hb with rfl | hb
  · rw [x.ob] at e; cases e; exact ⟨fun _ z => (by cases z), fun _ _ z => (by cases z)⟩
  · rcases x.foot_some hb with ⟨_, e'⟩ | ⟨_, e'⟩ <;> (rw [e'] at e; cases e; exact ⟨fun _ z => (by cases z), fun _ _ z => (by cases z)⟩)
theorem LstAt.up {ts : List T2} (x : LstAt H p ts) {b : Addr} {o : HO} (hb : p ≠ b) (kt : KeepT H (upd H b o)) : LstAt (upd H b o) p ts := by
  obtain ⟨as, e, t⟩ := x
  exact ⟨as, by rw [upd_ne hb]; exact e, t.keep kt⟩
theorem ModelAt.fld (x : ModelAt H p G) (m t : Int) : ModelAt (upd H p (.dK (mflds { G with made := m, ticks := t }))) p { G with made := m, ticks := t } := by
  have n : ∀ {b}, b ∈ foot G → b ≠ p := fun hb => x.p_ne hb
  have m0 : G.h ∈ foot G := by simp [foot]
  have m1 : G.o ∈ foot G := by simp [foot]
  have m2 : G.l ∈ foot G := by simp [foot]
  have m3 : G.r ∈ foot G := by simp [foot]
  have kt := x.kw (b := p) (.inl rfl) (.dK (mflds { G with made := m, ticks := t }))
  exact ⟨upd_same, x.dh.up (n m0) kt, by rw [upd_ne (n m1)]; exact x.dO, by rw [upd_ne (n m2)]; exact x.dl, by rw [upd_ne (n m3)]; exact x.dr, fun q hq => (x.hl q hq).up (n (mem_foot_hold hq)) kt, x.nd⟩
theorem ModelAt.setOuts (x : ModelAt H p G) (l : List (T2 × Int)) : ModelAt (upd H G.o (dInt l)) p { G with outs := l } := by
  obtain ⟨⟨a1, a2, a3⟩, ⟨b1, b2⟩, c1, d1⟩ := x.nds
  have m1 : G.o ∈ foot G := by simp [foot]
  have np := x.p_ne m1
  have kt := x.kw (.inr m1) (dInt l)
  exact ⟨by rw [upd_ne np.symm]; exact x.ob, x.dh.up a1 kt, upd_same, by rw [upd_ne b1.symm]; exact x.dl, by rw [upd_ne b2.symm]; exact x.dr, fun q hq => (x.hl q hq).up (d1 q hq).2.1 kt, x.nd⟩
theorem ModelAt.setRecs (x : ModelAt H p G) (l : List (T2 × Int)) : ModelAt (upd H G.r (dInt l)) p { G with recs := l } := by
  obtain ⟨⟨a1, a2, a3⟩, ⟨b1, b2⟩, c1, d1⟩ := x.nds
  have m1 : G.r ∈ foot G := by simp [foot]
  have np := x.p_ne m1
  have kt := x.kw (.inr m1) (dInt l)
  exact ⟨by rw [upd_ne np.symm]; exact x.ob, x.dh.up a3 kt, by rw [upd_ne b2]; exact x.dO, by rw [upd_ne c1]; exact x.dl, upd_same, fun q hq => (x.hl q hq).up (d1 q hq).2.2.2 kt, x.nd⟩
theorem ModelAt.setHand (x : ModelAt H p G) {as : List Addr} {ts : List T2} (th : ThsAt H as ts) : ModelAt (upd H G.h (.lst (as.map V.ref))) p { G with hand := ts } := by
  obtain ⟨⟨a1, a2, a3⟩, ⟨b1, b2⟩, c1, d1⟩ := x.nds
  have m1 : G.h ∈ foot G := by simp [foot]
  have np := x.p_ne m1
  have kt := x.kw (.inr m1) (.lst (as.map V.ref))
  exact ⟨by rw [upd_ne np.symm]; exact x.ob, ⟨as, upd_same, th.keep kt⟩, by rw [upd_ne a1.symm]; exact x.dO, by rw [upd_ne a2.symm]; exact x.dl, by rw [upd_ne a3.symm]; exact x.dr, fun q hq => (x.hl q hq).up (d1 q hq).1 kt, x.nd⟩
theorem nd_map_inj {α β : Type} {f : α → β} : ∀ {l : List α}, (l.map f).Nodup → ∀ {a b : α}, a ∈ l → b ∈ l → f a = f b → a = b
  | [], _, _, _, ha, _, _ => by cases ha
  | x :: l, nd, a, b, ha, hb, e => by
    have nd := List.nodup_cons.mp nd
    rcases List.mem_cons.mp ha with ha | ha <;> rcases List.mem_cons.mp hb with hb | hb
    · rw [ha, hb]
    · exact absurd (List.mem_map.mpr ⟨b, hb, by rw [← e, ha]⟩) nd.1
    · exact absurd (List.mem_map.mpr ⟨a, ha, by rw [e, hb]⟩) nd.1
    · exact nd_map_inj nd.2 ha hb e
theorem ModelAt.setHold (x : ModelAt H p G) {q : T2 × Addr × List T2} (hq : q ∈ G.holds) {as : List Addr} {ts : List T2} (th : ThsAt H as ts) : ModelAt (upd H q.2.1 (.lst (as.map V.ref))) p { G with holds := setL G.holds q.2.1 ts } := by
  obtain ⟨_, _, _, d1⟩ := x.nds
  obtain ⟨e1, e2, e3, e4⟩ := d1 q hq
  have m1 := mem_foot_hold hq
  have np := x.p_ne m1
  have kt := x.kw (.inr m1) (.lst (as.map V.ref))
  refine ⟨by rw [upd_ne np.symm]; exact x.ob, x.dh.up e1.symm kt, by rw [upd_ne e2.symm]; exact x.dO, ?_, by rw [upd_ne e4.symm]; exact x.dr, fun r hr => ?_, ?_⟩
  · rw [upd_ne e3.symm]
    show H G.l = some (dRef (setL G.holds q.2.1 ts))
    unfold dRef
    rw [setL_key]
    exact x.dl
  · rcases mem_setL hr with ⟨r0, h0, e0, rfl⟩ | ⟨h0, ne⟩
    · exact ⟨as, upd_same, th.keep kt⟩
    · exact (x.hl r h0).up ne kt
  · have e : foot { G with holds := setL G.holds q.2.1 ts } = foot G := by
      unfold foot
      rw [setL_adr]
    rw [e]; exact x.nd
theorem ModelAt.addHold (x : ModelAt H p G) (t : T2) {a : Addr} (ha : H a = some (.lst [])) (hf : a ∉ foot G) : ModelAt (upd H G.l (dRef (G.holds ++ [(t, a, [])]))) p { G with holds := G.holds ++ [(t, a, [])] } := by
  obtain ⟨⟨a1, a2, a3⟩, ⟨b1, b2⟩, c1, d1⟩ := x.nds
  have m1 : G.l ∈ foot G := by simp [foot]
  have np := x.p_ne m1
  have kt := x.kw (.inr m1) (dRef (G.holds ++ [(t, a, [])]))
  have hap : a ≠ p := fun z => by rw [z, x.ob] at ha; cases ha
  refine ⟨by rw [upd_ne np.symm]; exact x.ob, x.dh.up a2 kt, by rw [upd_ne b1]; exact x.dO, upd_same, by rw [upd_ne c1.symm]; exact x.dr, fun q hq => ?_, ?_⟩
  · rcases List.mem_append.mp hq with hq | hq
    · exact (x.hl q hq).up (d1 q hq).2.2.1 kt
    · have e2 : q = (t, a, []) := by simpa using hq
      subst e2
      have : a ≠ G.l := fun z => hf (by rw [z]; exact m1)
      exact ⟨[], by rw [upd_ne this]; exact ha, .nil⟩
  · have e2 : p :: foot { G with holds := G.holds ++ [(t, a, [])] } = (p :: foot G) ++ [a] := by simp [foot]
    rw [e2]
    exact nd_snoc x.nd (fun m => by
      rcases List.mem_cons.mp m with m | m
      · exact hap m
      · exact hf m)
theorem ModelAt.gHouse (x : ModelAt H p G) : DGet H p (.str "house") (some (.int G.num)) := by have := DGet.k (k := .inr "house") x.ob; rw [mf_house] at this; exact this
theorem ModelAt.gHand (x : ModelAt H p G) : DGet H p (.str "hand") (some (.ref G.h)) := by have := DGet.k (k := .inr "hand") x.ob; rw [mf_hand] at this; exact this
theorem ModelAt.gHolds (x : ModelAt H p G) : DGet H p (.str "holds") (some (.ref G.l)) := by have := DGet.k (k := .inr "holds") x.ob; rw [mf_holds] at this; exact this
theorem ModelAt.gOuts (x : ModelAt H p G) : DGet H p (.str "outs") (some (.ref G.o)) := by have := DGet.k (k := .inr "outs") x.ob; rw [mf_outs] at this; exact this
theorem ModelAt.gRecs (x : ModelAt H p G) : DGet H p (.str "records") (some (.ref G.r)) := by have := DGet.k (k := .inr "records") x.ob; rw [mf_records] at this; exact this
theorem ModelAt.gMade (x : ModelAt H p G) : DGet H p (.str "made") (some (.int G.made)) := by have := DGet.k (k := .inr "made") x.ob; rw [mf_made] at this; exact this
theorem ModelAt.pMade (x : ModelAt H p G) (y : Int) : DPut H p (.str "made") (.int y) (upd H p (.dK (mflds { G with made := y }))) := by have := DPut.k (k := .inr "made") (v := .int y) x.ob (mf_len G); rw [mf_put_made] at this; exact this
end
/-! ### removal of one -/
end FX

/-! ## Farhold: deeds, as they change what lies in a house -/
namespace FX
open PySem PySem.Spec PyProof.Rows L2
set_option linter.all false
abbrev HL := List (T2 × Addr × List T2)
def hs0 (l : HL) : List (T2 × List T2) := l.map fun q => (q.1, q.2.2)
def setH (l : HL) (t : T2) (h : List T2) : HL := l.map fun q => if q.1 = t then (q.1, q.2.1, h) else q
def getH (l : HL) (t : T2) : List T2 := ((l.find? fun q => decide (q.1 = t)).map (·.2.2)).getD []
theorem hs0_find (l : HL) (t : T2) : (hs0 l).find? (fun q => decide (q.1 = t)) = (l.find? fun q => decide (q.1 = t)).map fun q => (q.1, q.2.2) := by
  unfold hs0
  rw [List.find?_map]
  rfl
theorem getH_hs0 (l : HL) (t : T2) : getH l t = (((hs0 l).find? fun q => decide (q.1 = t)).map (·.2)).getD [] := by
  unfold getH
  rw [hs0_find, Option.map_map]
  rfl
theorem setH_hs0 (l : HL) (t : T2) (h : List T2) : hs0 (setH l t h) = (hs0 l).map fun q => if q.1 = t then (q.1, h) else q := by
  unfold hs0 setH
  rw [List.map_map, List.map_map]
  refine List.map_congr_left fun q _ => ?_
  show ((if q.1 = t then (q.1, q.2.1, h) else q).1, (if q.1 = t then (q.1, q.2.1, h) else q).2.2) = if q.1 = t then (q.1, h) else (q.1, q.2.2)
  by_cases e : q.1 = t
  · rw [if_pos e, if_pos e]
  · rw [if_neg e, if_neg e]
theorem setH_adr (l : HL) (t : T2) (h : List T2) : (setH l t h).map (·.2.1) = l.map (·.2.1) := by
  unfold setH
  rw [List.map_map]
  refine List.map_congr_left fun q _ => ?_
  show (if q.1 = t then (q.1, q.2.1, h) else q).2.1 = q.2.1
  by_cases e : q.1 = t
  · rw [if_pos e]
  · rw [if_neg e]
theorem setH_fst (l : HL) (t : T2) (h : List T2) : (setH l t h).map (·.1) = l.map (·.1) := by
  unfold setH
  rw [List.map_map]
  refine List.map_congr_left fun q _ => ?_
  show (if q.1 = t then (q.1, q.2.1, h) else q).1 = q.1
  by_cases e : q.1 = t
  · rw [if_pos e]
  · rw [if_neg e]
theorem mem_setH {l : HL} {t : T2} {h : List T2} {q : T2 × Addr × List T2} (m : q ∈ setH l t h) : (q.1 = t ∧ q.2.2 = h) ∨ q ∈ l := by
  obtain ⟨q0, h0, e⟩ := List.mem_map.mp m
  by_cases c : q0.1 = t
  · rw [if_pos c] at e; subst e; exact .inl ⟨c, rfl⟩
  · rw [if_neg c] at e; subst e; exact .inr h0
theorem find_of {l : HL} {t : T2} (h : t ∈ l.map (·.1)) : ∃ a, l.find? (fun q => decide (q.1 = t)) = some (t, a, getH l t) := by
  cases e : l.find? fun q => decide (q.1 = t) with
  | none =>
    obtain ⟨q, hq, e2⟩ := List.mem_map.mp h
    have := List.find?_eq_none.mp e q hq
    exact absurd e2 (by simpa using this)
  | some q =>
    have h1 : q.1 = t := by have := List.find?_some e; simpa using this
    refine ⟨q.2.1, ?_⟩
    have : getH l t = q.2.2 := by unfold getH; rw [e]; rfl
    rw [this, ← h1]
/-- by its place, or by its thing -/
theorem setL_setH {l : HL} (ka : (l.map (·.2.1)).Nodup) (kt : (l.map (·.1)).Nodup) {t : T2} {a : Addr} {hl : List T2} (f : l.find? (fun q => decide (q.1 = t)) = some (t, a, hl)) (h : List T2) : setL l a h = setH l t h := by
  have m := List.mem_of_find?_eq_some f
  unfold setL setH
  refine List.map_congr_left fun q hq => ?_
  by_cases e : q.1 = t
  · have := nd_map_inj kt hq m e
    rw [this, if_pos rfl, if_pos rfl]
  · have : ¬ q.2.1 = a := fun z => e (by rw [nd_map_inj ka hq m z])
    rw [if_neg this, if_neg e]
/-- alike but for the places -/
structure Like (M G : HGh) : Prop where
  num : M.num = G.num
  made : M.made = G.made
  ticks : M.ticks = G.ticks
  hand : M.hand = G.hand
  outs : M.outs = G.outs
  recs : M.recs = G.recs
  holds : hs0 M.holds = hs0 G.holds
theorem Like.getH {M G : HGh} (x : Like M G) (t : T2) : FX.getH M.holds t = FX.getH G.holds t := by rw [getH_hs0, getH_hs0, x.holds]
/-! ### what holds of a house in these laws; n bounds what there is -/
structure Ok (G : HGh) (n : Nat) : Prop where
  hn : G.hand.Nodup
  hz : G.hand.length ≤ n
  on : (G.outs.map (·.1)).Nodup
  oz : G.outs.length ≤ n
  ke : G.holds.map (·.1) = G.outs.map (·.1)
  rn : (G.recs.map (·.1)).Nodup
  rz : G.recs.length ≤ n
  ln : ∀ q ∈ G.holds, q.2.2.Nodup ∧ q.2.2.length ≤ n
  new : ∀ t ∈ G.outs.map (·.1), t.1 = G.num ∧ t.2 < G.made
  hk : ∀ t ∈ G.hand, t.1 = G.num → t ∈ G.outs.map (·.1)
  lk : ∀ q ∈ G.holds, ∀ t ∈ q.2.2, t.1 = G.num → t ∈ G.outs.map (·.1)
  rk : ∀ t ∈ G.recs.map (·.1), t.1 ≠ G.num
theorem Ok.mono {G : HGh} {n m : Nat} (x : Ok G n) (h : n ≤ m) : Ok G m :=
  ⟨x.hn, Nat.le_trans x.hz h, x.on, Nat.le_trans x.oz h, x.ke, x.rn, Nat.le_trans x.rz h, fun q hq => ⟨(x.ln q hq).1, Nat.le_trans (x.ln q hq).2 h⟩, x.new, x.hk, x.lk, x.rk⟩
theorem Like.ok {M G : HGh} (x : Like M G) {n : Nat} (k : Ok G n) : Ok M n := by
  have e1 : M.holds.map (·.1) = G.holds.map (·.1) := by
    have := congrArg (List.map (·.1)) x.holds
    unfold hs0 at this
    rw [List.map_map, List.map_map] at this
    exact this
  have mm : ∀ q ∈ M.holds, ∃ r ∈ G.holds, r.1 = q.1 ∧ r.2.2 = q.2.2 := fun q hq => by
    have m : (q.1, q.2.2) ∈ hs0 M.holds := List.mem_map.mpr ⟨q, hq, rfl⟩
    rw [x.holds] at m
    obtain ⟨r, hr, e⟩ := List.mem_map.mp m
    exact ⟨r, hr, (Prod.mk.inj e).1, (Prod.mk.inj e).2⟩
  refine ⟨by rw [x.hand]; exact k.hn, by rw [x.hand]; exact k.hz, by rw [x.outs]; exact k.on, by rw [x.outs]; exact k.oz, by rw [e1, x.outs]; exact k.ke, by rw [x.recs]; exact k.rn, by rw [x.recs]; exact k.rz, fun q hq => ?_, by rw [x.outs, x.num, x.made]; exact k.new, by rw [x.hand, x.outs, x.num]; exact k.hk, fun q hq => ?_, by rw [x.recs, x.num]; exact k.rk⟩
  · obtain ⟨r, hr, _, e⟩ := mm q hq
    rw [← e]; exact k.ln r hr
  · obtain ⟨r, hr, _, e⟩ := mm q hq
    rw [← e, x.outs, x.num]; exact k.lk r hr
/-! ### deeds -/
def tk1 (G : HGh) : HGh := { G with ticks := G.ticks + 1 }
def mkG (G : HGh) (a : Addr) : HGh := { G with made := G.made + 1, hand := G.hand ++ [(G.num, G.made)], outs := G.outs ++ [((G.num, G.made), 0)], holds := G.holds ++ [((G.num, G.made), a, [])] }
def dHeld (G : HGh) (word : Str) (ta tb : T2) : Str × HGh :=
  if ta ∉ G.hand ∨ (word = "hold" ∧ tb ∉ G.hand) then ("NotHeld", G)
  else if ta.1 ≠ G.num then ("NotNear", G)
  else if word ≠ "hold" ∧ tb ∉ getH G.holds ta then ("Missing", G)
  else ("told", if word = "hold" then { G with holds := setH G.holds ta (addT (getH G.holds ta) tb) } else if word = "drop" then { G with holds := setH G.holds ta (delT (getH G.holds ta) tb) } else { G with hand := addT G.hand tb })
def dFree (G : HGh) (tb : T2) : Str × HGh := if tb ∉ G.hand then ("NotHeld", G) else ("told", { G with hand := delT G.hand tb })
def dDeed (G : HGh) (word : Str) (ta tb : T2) : Str × HGh := if word = "free" then dFree G tb else dHeld G word ta tb
def tkIf (r : Str × HGh) : HGh := if r.1 = "told" then tk1 r.2 else r.2
theorem mem_addT' {l : List T2} {t u : T2} : u ∈ addT l t ↔ u ∈ l ∨ u = t := by
  unfold addT
  by_cases h : t ∈ l
  · rw [if_pos h]
    exact ⟨.inl, fun z => z.elim id fun z => by rw [z]; exact h⟩
  · rw [if_neg h]; simp
theorem mem_delT' {l : List T2} {t u : T2} : u ∈ delT l t ↔ u ∈ l ∧ u ≠ t := by
  unfold delT
  rw [List.mem_filter]; simp
theorem nd_addT' {l : List T2} (t : T2) (h : l.Nodup) : (addT l t).Nodup := by
  unfold addT
  by_cases e : t ∈ l
  · rw [if_pos e]; exact h
  · rw [if_neg e]; exact nd_snoc h e
theorem len_addT' (l : List T2) (t : T2) : (addT l t).length ≤ l.length + 1 := by
  unfold addT
  by_cases e : t ∈ l
  · rw [if_pos e]; lia
  · rw [if_neg e]; simp
section
variable {M G : HGh} {n : Nat}
theorem Ok.tk1 (x : Ok G n) : Ok (tk1 G) n := ⟨x.hn, x.hz, x.on, x.oz, x.ke, x.rn, x.rz, x.ln, x.new, x.hk, x.lk, x.rk⟩
theorem Ok.hand (x : Ok G n) {l : List T2} (h1 : l.Nodup) (h2 : l.length ≤ n) (h3 : ∀ t ∈ l, t.1 = G.num → t ∈ G.outs.map (·.1)) : Ok { G with hand := l } n := ⟨h1, h2, x.on, x.oz, x.ke, x.rn, x.rz, x.ln, x.new, h3, x.lk, x.rk⟩
theorem Ok.holds (x : Ok G n) {t : T2} {l : List T2} (h1 : l.Nodup) (h2 : l.length ≤ n) (h3 : ∀ t ∈ l, t.1 = G.num → t ∈ G.outs.map (·.1)) : Ok { G with holds := setH G.holds t l } n := by
  refine ⟨x.hn, x.hz, x.on, x.oz, (setH_fst ..).trans x.ke, x.rn, x.rz, fun q hq => ?_, x.new, x.hk, fun q hq => ?_, x.rk⟩
  · rcases mem_setH hq with ⟨_, e⟩ | hq
    · rw [e]; exact ⟨h1, h2⟩
    · exact x.ln q hq
  · rcases mem_setH hq with ⟨_, e⟩ | hq
    · rw [e]; exact h3
    · exact x.lk q hq
theorem Ok.mkG (x : Ok G n) (a : Addr) : Ok (mkG G a) (n + 1) := by
  have nw : (G.num, G.made) ∉ G.outs.map (·.1) := fun m => by have := (x.new _ m).2; exact absurd this (by show ¬ G.made < G.made; lia)
  have eo : (G.outs ++ [((G.num, G.made), (0 : Int))]).map (·.1) = G.outs.map (·.1) ++ [(G.num, G.made)] := by rw [List.map_append]; rfl
  refine ⟨?_, ?_, ?_, ?_, ?_, x.rn, by have := x.rz; show G.recs.length ≤ n + 1; lia, fun q hq => ?_, ?_, ?_, ?_, x.rk⟩
  · exact nd_snoc x.hn fun m => nw (x.hk _ m rfl)
  · show (G.hand ++ [(G.num, G.made)]).length ≤ n + 1
    rw [List.length_append]; have := x.hz; show G.hand.length + 1 ≤ n + 1; lia
  · show ((G.outs ++ [((G.num, G.made), (0 : Int))]).map (·.1)).Nodup
    rw [eo]; exact nd_snoc x.on nw
  · show (G.outs ++ [((G.num, G.made), (0 : Int))]).length ≤ n + 1
    rw [List.length_append]; have := x.oz; show G.outs.length + 1 ≤ n + 1; lia
  · show (G.holds ++ [((G.num, G.made), a, ([] : List T2))]).map (fun (q : T2 × Addr × List T2) => q.1) = (G.outs ++ [((G.num, G.made), (0 : Int))]).map (·.1)
    rw [eo, List.map_append, x.ke]; rfl
  · rcases List.mem_append.mp hq with hq | hq
    · exact ⟨(x.ln q hq).1, Nat.le_succ_of_le (x.ln q hq).2⟩
    · have : q = ((G.num, G.made), a, []) := by simpa using hq
      rw [this]; exact ⟨List.nodup_nil, Nat.zero_le _⟩
  · intro t ht
    have ht : t ∈ (G.outs ++ [((G.num, G.made), (0 : Int))]).map (·.1) := ht
    show t.1 = G.num ∧ t.2 < G.made + 1
    rw [eo] at ht
    rcases List.mem_append.mp ht with ht | ht
    · have := x.new t ht; exact ⟨this.1, by have := this.2; lia⟩
    · have : t = (G.num, G.made) := by simpa using ht
      rw [this]; exact ⟨rfl, by show G.made < G.made + 1; lia⟩
  · intro t ht e
    show t ∈ (G.outs ++ [((G.num, G.made), (0 : Int))]).map (·.1)
    rw [eo]
    rcases List.mem_append.mp ht with ht | ht
    · exact List.mem_append_left _ (x.hk t ht e)
    · exact List.mem_append_right _ ht
  · intro q hq t ht e
    show t ∈ (G.outs ++ [((G.num, G.made), (0 : Int))]).map (·.1)
    rw [eo]
    rcases List.mem_append.mp hq with hq | hq
    · exact List.mem_append_left _ (x.lk q hq t ht e)
    · have : q = ((G.num, G.made), a, []) := by simpa using hq
      rw [this] at ht; cases ht
theorem Ok.fresh (x : Ok G n) : (∀ t ∈ G.hand, t ≠ (G.num, G.made)) ∧ (∀ q ∈ G.outs, q.1 ≠ (G.num, G.made)) ∧ ∀ q ∈ G.holds, q.1 ≠ (G.num, G.made) := by
  have nw : (G.num, G.made) ∉ G.outs.map (·.1) := fun m => by have := (x.new _ m).2; exact absurd this (by show ¬ G.made < G.made; lia)
  refine ⟨fun t ht e => nw (by rw [← e]; exact x.hk t ht (by rw [e])), fun q hq e => nw (by rw [← e]; exact List.mem_map_of_mem hq), fun q hq e => nw (by rw [← e, ← x.ke]; exact List.mem_map_of_mem hq)⟩
theorem Ok.lens (x : Ok G n) : G.holds.length ≤ n := by
  have := congrArg List.length x.ke
  rw [List.length_map, List.length_map] at this
  rw [this]; exact x.oz
theorem Ok.get (x : Ok G n) (t : T2) : (getH G.holds t).Nodup ∧ (getH G.holds t).length ≤ n ∧ ∀ u ∈ getH G.holds t, u.1 = G.num → u ∈ G.outs.map (·.1) := by
  unfold getH
  cases e : G.holds.find? fun q => decide (q.1 = t) with
  | none => exact ⟨List.nodup_nil, Nat.zero_le _, fun u hu => by cases hu⟩
  | some q =>
    have m := List.mem_of_find?_eq_some e
    exact ⟨(x.ln q m).1, (x.ln q m).2, x.lk q m⟩
theorem Ok.find (x : Ok G n) {t : T2} (h1 : t ∈ G.hand) (h2 : t.1 = G.num) : ∃ a, G.holds.find? (fun q => decide (q.1 = t)) = some (t, a, getH G.holds t) := find_of (by rw [x.ke]; exact x.hk t h1 h2)
theorem Like.mk2 (x : Like M G) (a b : Addr) : Like (tk1 (mkG M a)) (tk1 (mkG G b)) := by
  refine ⟨x.num, ?_, ?_, ?_, ?_, x.recs, ?_⟩
  · show M.made + 1 = G.made + 1; rw [x.made]
  · show M.ticks + 1 = G.ticks + 1; rw [x.ticks]
  · show M.hand ++ _ = G.hand ++ _; rw [x.hand, x.num, x.made]
  · show M.outs ++ _ = G.outs ++ _; rw [x.outs, x.num, x.made]
  · show hs0 (M.holds ++ [((M.num, M.made), a, [])]) = hs0 (G.holds ++ [((G.num, G.made), b, [])])
    unfold hs0
    rw [List.map_append, List.map_append, show M.holds.map (fun q => (q.1, q.2.2)) = G.holds.map fun q => (q.1, q.2.2) from x.holds, x.num, x.made]; rfl
end
/-! ### a house and the law's own rows of it, side by side -/
def getI' (l : List (T2 × Int)) (t : T2) : Int := ((l.find? fun q => decide (q.1 = t)).map (·.2)).getD 0
theorem putI_keys (l : List (T2 × Int)) (t : T2) (v : Int) : (putI l t v).map (·.1) = if t ∈ l.map (·.1) then l.map (·.1) else l.map (·.1) ++ [t] := by
  unfold putI
  by_cases h : t ∈ l.map (·.1)
  · rw [if_pos h, if_pos h, List.map_map]
    refine List.map_congr_left fun q _ => ?_
    show (if q.1 = t then (q.1, v) else q).1 = q.1
    by_cases e : q.1 = t
    · rw [if_pos e]
    · rw [if_neg e]
  · rw [if_neg h, if_neg h, List.map_append]; rfl
theorem Ok.came {G : HGh} {n : Nat} (x : Ok G n) {tb : T2} (hf : tb.1 ≠ G.num) (v : Int) : Ok { G with hand := addT G.hand tb, recs := putI G.recs tb v } (n + 1) := by
  have x1 := x.mono (Nat.le_succ n)
  refine ⟨nd_addT' _ x.hn, by have := len_addT' G.hand tb; have := x.hz; show (addT G.hand tb).length ≤ n + 1; lia, x1.on, x1.oz, x1.ke, ?_, ?_, x1.ln, x1.new, fun t ht e => ?_, x1.lk, ?_⟩
  · show ((putI G.recs tb v).map (·.1)).Nodup
    rw [putI_keys]
    by_cases h : tb ∈ G.recs.map (·.1)
    · rw [if_pos h]; exact x.rn
    · rw [if_neg h]; exact nd_snoc x.rn h
  · have h0 := congrArg List.length (putI_keys G.recs tb v)
    have := x.rz
    show (putI G.recs tb v).length ≤ n + 1
    rw [List.length_map] at h0
    rw [h0]
    by_cases h : tb ∈ G.recs.map (·.1)
    · rw [if_pos h, List.length_map]; lia
    · rw [if_neg h, List.length_append, List.length_map]; show G.recs.length + 1 ≤ n + 1; lia
  · rcases mem_addT'.mp ht with ht | ht
    · exact x.hk t ht e
    · exact absurd (by rw [← ht]; exact e) hf
  · show ∀ t ∈ (putI G.recs tb v).map (·.1), t.1 ≠ G.num
    rw [putI_keys]
    intro t ht
    by_cases h : tb ∈ G.recs.map (·.1)
    · rw [if_pos h] at ht; exact x.rk t ht
    · rw [if_neg h] at ht
      rcases List.mem_append.mp ht with ht | ht
      · exact x.rk t ht
      · have : t = tb := by simpa using ht
        rw [this]; exact hf
def Dj (p m : Addr) (G M : HGh) : Prop := ∀ b, (b = m ∨ b ∈ foot M) → b ≠ p ∧ b ∉ foot G
structure Two (C p m : Addr) (H : Hp) (G M : HGh) (n : Nat) : Prop where
  hs : HouseAt C H p G
  md : ModelAt H m M
  lk : Like M G
  ok : Ok G n
  dj : Dj p m G M
  mz : 0 ≤ G.made ∧ G.made ≤ n
section
variable {C p m : Addr} {H H' : Hp} {G M : HGh} {n : Nat}
theorem Dj.model (d : Dj p m G M) (S : HouseAt C H p G) (fr : HFr m M H H') : HouseAt C H' p G := S.keep fun b o hb e => by
  refine fr b o e (fun z => ?_) (fun z => ?_)
  · have := d b (.inl z)
    rcases hb with hb | hb
    · exact this.1 hb
    · exact this.2 hb
  · have := d b (.inr z)
    rcases hb with hb | hb
    · exact this.1 hb
    · exact this.2 hb
theorem Dj.house (d : Dj p m G M) (S : HouseAt C H p G) (N : ModelAt H m M) (fr : HFr p G H H') : ModelAt H' m M := N.keep (fun b o hb e => fr b o e (d b hb).1 (d b hb).2) (HFr.keepT S fr)
theorem foot_mkG (G : HGh) (a : Addr) : foot (tk1 (mkG G a)) = foot G ++ [a] := by unfold foot mkG tk1; simp
theorem Dj.mkM (d : Dj p m G M) (S : HouseAt C H p G) {a : Addr} (ha : H a = none) : Dj p m G (tk1 (mkG M a)) := fun b hb => by
  rcases hb with hb | hb
  · exact d b (.inl hb)
  · rw [foot_mkG] at hb
    rcases List.mem_append.mp hb with hb | hb
    · exact d b (.inr hb)
    · have e : b = a := by simpa using hb
      subst e
      refine ⟨fun z => ?_, fun z => ?_⟩
      · obtain ⟨dx, e⟩ := S.ob
        rw [z, e] at ha; cases ha
      · obtain ⟨kvs, e⟩ := S.foot_dT z
        rw [e] at ha; cases ha
theorem Dj.mkH (d : Dj p m G M) (N : ModelAt H m M) {a : Addr} (ha : H a = none) : Dj p m (tk1 (mkG G a)) M := fun b hb => by
  refine ⟨(d b hb).1, fun z => ?_⟩
  rw [foot_mkG] at z
  rcases List.mem_append.mp z with z | z
  · exact (d b hb).2 z
  · have e : b = a := by simpa using z
    subst e
    have := N.new_ne ha
    rcases hb with hb | hb
    · exact this.1 hb
    · exact this.2 hb
theorem Dj.of {G' M' : HGh} (d : Dj p m G M) (e1 : foot G' = foot G) (e2 : foot M' = foot M) : Dj p m G' M' := fun b hb => by
  rw [e2] at hb; rw [e1]; exact d b hb
end
end FX

/-! ## Farhold: weights parted, as they change what lies in a house -/
namespace FX
open PySem PySem.Spec PyProof.Rows L2
set_option linter.all false
def goesW (n : Int) : Int := if n = 1 then 1 else n / 2
def optD : Option Int → PyData
  | none => .none
  | some v => .int v
def optV : Option Int → V
  | none => .non
  | some v => .int v
theorem find_int {l : List (T2 × Int)} {t : T2} (h : t ∈ l.map (·.1)) : l.find? (fun q => decide (q.1 = t)) = some (t, getI' l t) := by
  cases e : l.find? fun q => decide (q.1 = t) with
  | none =>
    obtain ⟨q, hq, e2⟩ := List.mem_map.mp h
    have := List.find?_eq_none.mp e q hq
    exact absurd e2 (by simpa using this)
  | some q =>
    have h1 : q.1 = t := by have := List.find?_some e; simpa using this
    have : getI' l t = q.2 := by unfold getI'; rw [e]; rfl
    rw [this, ← h1]
theorem putI_in {l : List (T2 × Int)} {t : T2} (h : t ∈ l.map (·.1)) (v : Int) : (putI l t v).map (·.1) = l.map (·.1) := by rw [putI_keys, if_pos h]
theorem putI_len {l : List (T2 × Int)} {t : T2} (h : t ∈ l.map (·.1)) (v : Int) : (putI l t v).length = l.length := by
  have := congrArg List.length (putI_in h v)
  rw [List.length_map, List.length_map] at this
  exact this
/-- what weighs: records are not below nought, what is held far has one -/
structure Wk (G : HGh) : Prop where
  nn : ∀ q ∈ G.recs, 0 ≤ q.2
  hr : ∀ t ∈ G.hand, t.1 ≠ G.num → t ∈ G.recs.map (·.1)
def dPart (G : HGh) (tb : T2) (sh : Int) : Str × Option Int × HGh :=
  if tb ∉ G.hand then ("NotHeld", none, G)
  else if tb.1 = G.num then ("told", some sh, { G with outs := putI G.outs tb (getI' G.outs tb + sh) })
  else if getI' G.recs tb = 0 then ("NoWeight", none, G)
  else ("told", some (goesW (getI' G.recs tb)), { G with recs := putI G.recs tb (getI' G.recs tb - goesW (getI' G.recs tb)) })
def tk3 (r : Str × Option Int × HGh) : HGh := if r.1 = "told" then tk1 r.2.2 else r.2.2
section
variable {G M : HGh} {n : Nat}
theorem Ok.outs (x : Ok G n) {tb : T2} (h : tb ∈ G.outs.map (·.1)) (v : Int) : Ok { G with outs := putI G.outs tb v } n := by
  have e := putI_in h v
  refine ⟨x.hn, x.hz, by show ((putI G.outs tb v).map (·.1)).Nodup; rw [e]; exact x.on, by show (putI G.outs tb v).length ≤ n; rw [putI_len h]; exact x.oz, by show G.holds.map (·.1) = (putI G.outs tb v).map (·.1); rw [e]; exact x.ke, x.rn, x.rz, x.ln, ?_, ?_, ?_, x.rk⟩
  · show ∀ t ∈ (putI G.outs tb v).map (·.1), _; rw [e]; exact x.new
  · show ∀ t ∈ G.hand, t.1 = G.num → t ∈ (putI G.outs tb v).map (·.1); rw [e]; exact x.hk
  · show ∀ q ∈ G.holds, ∀ t ∈ q.2.2, t.1 = G.num → t ∈ (putI G.outs tb v).map (·.1); rw [e]; exact x.lk
/-- alike but for the places and the ticks -/
def LikeW (M G : HGh) : Prop := Like { M with ticks := G.ticks } G
theorem LikeW.ok {M G : HGh} (x : LikeW M G) {n : Nat} (k : Ok G n) : Ok M n := by
  have y := Like.ok x k
  exact ⟨y.hn, y.hz, y.on, y.oz, y.ke, y.rn, y.rz, y.ln, y.new, y.hk, y.lk, y.rk⟩
end
end FX

/-! ## U: len(d), d a dict with tuple keys -/
namespace FX
open PySem PySem.Spec PyProof.Rows L2
set_option linter.all false
section
variable {prog : Program} {w : World}
end
section
variable {X : Cx}
end
end FX

/-! ## V: dict(d), d.update(e) of dicts whose keys are tuples -/
namespace FX
open PySem PySem.Spec PyProof.Rows L2
set_option linter.all false
theorem filter_one {α : Type} (f : α → Int) : ∀ {l : List α} (x : Int), (l.map f).Nodup → (l.filter fun e => f e == x).length ≤ 1
  | [], _, _ => Nat.zero_le _
  | a :: l, x, nd => by
    have nd := List.nodup_cons.mp nd
    rw [List.filter_cons]
    by_cases e : f a = x
    · have no : (l.filter fun e => f e == x) = [] := List.filter_eq_nil_iff.mpr fun b hb z => nd.1 (List.mem_map.mpr ⟨b, hb, by rw [e]; simpa using z⟩)
      rw [if_pos (by simpa using e), no]; exact Nat.le_refl _
    · rw [if_neg (by simpa using e)]; exact filter_one f x nd.2
section
variable {prog : Program} {w : World} {K : Type} [DecidableEq K] {knd : HeapKind prog w K} {A : Around} {E : Value → Shared → Prop} {s : Shared}
/-- a key's own == may speak, but the table asks it quietly -/
def Tame (knd : HeapKind prog w K) : Prop := ∀ {A : Around} {E : Value → Shared → Prop} {s : Shared} {k : K} {a : Addr} {Q : Bool → Shared → Prop}, knd.is s.heap k a → (∀ b, Q b s) → wpAny (model prog w) A (Builtin.Dict.quietEq (.ref a)) Q E s
theorem empty_heap {id : String} {d : Addr} {ob : Obj} {es : Array DictEntry} {ep : Nat} {xs : List (K × Addr × Value)} {Q : Array DictEntry → Shared → Prop} (tm : Tame knd) (g : s.heap.get? d = some ob) (dat : ob.data = .dict es ep) (ent : es.toList = xs.map (entryOfKey knd))
    (keys : ∀ x ∈ xs, knd.is s.heap x.1 x.2.1) (hh : (xs.map fun x => knd.hash x.1).Nodup) (q : Q es s) : wpAny (model prog w) A (Builtin.Dict.entriesForEmpty id d) Q E s := by
  have hn : (es.toList.map fun e => e.hash).Nodup := by rw [ent, List.map_map]; exact hh
  unfold Builtin.Dict.entriesForEmpty
  refine wpAny_bind (wpAny_dictEntries g dat (wpAny_bind ?_))
  rw [← Array.forIn_toList]
  refine wpAny_forIn_list _ (fun rest _ s' => s' = s ∧ ∀ e ∈ rest, e ∈ es.toList) _ ?_ ?_ _ _ ⟨rfl, fun e he => he⟩
  · rintro e rest b s' ⟨rfl, sub⟩
    have me := sub e (List.mem_cons_self ..)
    rw [ent] at me
    obtain ⟨x, hx, ex⟩ := List.mem_map.mp me
    have ek : e.key = .ref x.2.1 := by rw [← ex]; rfl
    rw [ek]
    refine wpAny_bind (tm (keys x hx) fun bq => ?_)
    have small : ¬ (es.filter fun z => z.hash == e.hash).size > 1 := by
      have h1 := filter_one (fun z : DictEntry => z.hash) e.hash hn
      have h2 : (es.filter fun z => z.hash == e.hash).size = (es.toList.filter fun z => z.hash == e.hash).length := by rw [← Array.length_toList, Array.toList_filter]
      rw [h2]; exact Nat.not_lt.mpr h1
    cases bq with
    | true =>
      simp only [Bool.not_true, Bool.false_eq_true, if_false]
      exact wpAny_pure ⟨rfl, fun e he => sub e (List.mem_cons_of_mem _ he)⟩
    | false =>
      simp only [Bool.not_false, if_true]
      rw [if_neg small]
      exact wpAny_pure ⟨rfl, fun e he => sub e (List.mem_cons_of_mem _ he)⟩
  · rintro b s' ⟨rfl, _⟩
    exact wpAny_pure q
theorem set_hashed {d a : Addr} {xs : List (K × Addr × Value)} {k : K} {v : Value} {Q : Unit → Shared → Prop} (room : knd.room A) (key : knd.is s.heap k a) (m : s.heap.DictOfH knd d xs) (z : xs.length ≤ sizeLine)
    (q : ∀ h', h'.DictOfH knd d (storedH xs k a v) → Heap.SameBut d s.heap h' → Q () { s with heap := h' }) : wpAny (model prog w) A (dictSetHashed d (.ref a) (knd.hash k) v) Q E s := by
  obtain ⟨ob, es, ep, g, ex, dat, ent, keys, nd⟩ := m
  have sz := size_of_entries ent
  unfold dictSetHashed
  refine wpAny_holding (wpAny_bind (wpAny_dictFind_heap room key g dat ent keys nd (fun no => ?_) fun j p hj => ?_))
  · refine wpAny_bind (wpAny_rule (wpAny_updateDictKeys (hz := by rw [sz]; exact z) g dat (q _ ⟨_, _, ep + 1, Heap.get?_update_self _ g (Obj.isFreed_of_dict (Obj.data_mapDictKeys dat _)), ex.mapDictKeys _, Obj.data_mapDictKeys dat _, ?_, fun x hx => ?_, ?_⟩ (Heap.SameBut.update ..))))
    · rw [storedH_new (atKey_none_of_get no), List.map_append, ← ent]
      simp [entryOfKey]
    · rw [storedH_new (atKey_none_of_get no)] at hx
      rcases List.mem_append.mp hx with hx | hx
      · exact knd.keeps (keys x hx) g dat (Heap.SameBut.update ..)
      · have e : x = (k, a, v) := by simpa using hx
        rw [e]; exact knd.keeps key g dat (Heap.SameBut.update ..)
    · rw [storedH_new (atKey_none_of_get no), List.map_append]
      exact nd_snoc nd (not_mem_keys_of_get no)
  · refine wpAny_bind (wpAny_rule (wpAny_bind (wpAny_updateDict g dat (wpAny_point (q _ ⟨_, _, ep, Heap.get?_update_self _ g (Obj.isFreed_of_dict (Obj.data_mapDict dat _)), ex.mapDict _, Obj.data_mapDict dat _, ?_, fun x hx => ?_, ?_⟩ (Heap.SameBut.update ..))))))
    · rw [storedH_old (atKey_of_get nd hj)]
      have e := modify_map_putAt (entryOfKey knd) (fun e : DictEntry => { e with val := v }) k v (fun _ _ => rfl) nd hj
      rw [← ent] at e
      rw [← e]
      simp
    · rw [storedH_old (atKey_of_get nd hj)] at hx
      obtain ⟨y, hy, e⟩ := List.mem_map.mp hx
      have e1 : x.1 = y.1 ∧ x.2.1 = y.2.1 := by
        rw [← e]; unfold putAt
        by_cases c : y.1 = k
        · rw [if_pos c]; exact ⟨rfl, rfl⟩
        · rw [if_neg c]; exact ⟨rfl, rfl⟩
      rw [e1.1, e1.2]
      exact knd.keeps (keys y hy) g dat (Heap.SameBut.update ..)
    · rw [storedH_old (atKey_of_get nd hj), keys_map_putAt]; exact nd
/-- one entry behind another -/
def mergeH (xs more : List (K × Addr × Value)) : List (K × Addr × Value) := more.foldl (fun acc x => storedH acc x.1 x.2.1 x.2.2) xs
theorem mergeH_succ (xs more : List (K × Addr × Value)) {i : Nat} {x : K × Addr × Value} (h : more[i]? = some x) : mergeH xs (more.take (i + 1)) = storedH (mergeH xs (more.take i)) x.1 x.2.1 x.2.2 := by
  unfold mergeH
  rw [List.take_succ, h, List.foldl_append]
  rfl
theorem storedH_len (xs : List (K × Addr × Value)) (k : K) (a : Addr) (v : Value) : (storedH xs k a v).length ≤ xs.length + 1 := by
  cases e : atKey xs k with
  | none => rw [storedH_new e, List.length_append]; exact Nat.le_refl _
  | some p => rw [storedH_old e, List.length_map]; exact Nat.le_succ _
theorem mergeH_len : ∀ (more xs : List (K × Addr × Value)), (mergeH xs more).length ≤ xs.length + more.length
  | [], xs => Nat.le_refl _
  | x :: r, xs => by
    have h1 : (mergeH (storedH xs x.1 x.2.1 x.2.2) r).length ≤ _ := mergeH_len r _
    have h2 := storedH_len xs x.1 x.2.1 x.2.2
    show (mergeH (storedH xs x.1 x.2.1 x.2.2) r).length ≤ xs.length + (r.length + 1)
    lia
theorem mergeH_new : ∀ (more xs : List (K × Addr × Value)), ((xs ++ more).map (·.1)).Nodup → mergeH xs more = xs ++ more
  | [], xs, _ => (List.append_nil xs).symm
  | x :: r, xs, nd => by
    have e : atKey xs x.1 = none := by
      cases c : atKey xs x.1 with
      | none => rfl
      | some p =>
        exfalso
        unfold atKey at c
        cases f : xs.find? (fun y => decide (y.1 = x.1)) with
        | none => rw [f] at c; cases c
        | some y =>
          have h1 : y.1 = x.1 := by simpa using List.find?_some f
          have h2 := List.mem_of_find?_eq_some f
          rw [List.map_append, List.nodup_append] at nd
          exact nd.2.2 _ (List.mem_map_of_mem h2) _ (List.mem_map_of_mem (List.mem_cons_self ..)) h1
    show mergeH (storedH xs x.1 x.2.1 x.2.2) r = xs ++ x :: r
    rw [storedH_new e]
    have e2 : xs ++ [(x.1, x.2.1, x.2.2)] ++ r = xs ++ x :: r := by rw [List.append_assoc]; rfl
    rw [mergeH_new r _ (by rw [e2]; exact nd), e2]
/-- the table of o goes into that of d -/
theorem merge_heap {id : String} {d o : Addr} {xs more : List (K × Addr × Value)} {Q : Unit → Shared → Prop} (tm : Tame knd) (room : knd.room A) (ne : d ≠ o) (lo : (o == sysModules) = false) (hd : s.heap.DictOfH knd d xs) (ho : s.heap.DictOfH knd o more) (z : xs.length + more.length ≤ sizeLine)
    (hh : xs = [] → (more.map fun x => knd.hash x.1).Nodup) (q : ∀ h', h'.DictOfH knd d (mergeH xs more) → Heap.SameBut d s.heap h' → Q () { s with heap := h' }) : wpAny (model prog w) A (Builtin.Dict.mergeDict id d o) Q E s := by
  obtain ⟨od, esd, epd, gd, exd, datd, entd, keysd, ndd⟩ := _root_.id hd
  obtain ⟨oo, eso, epo, go, exo, dato, ento, keyso, ndo⟩ := _root_.id ho
  have so := size_of_entries ento
  unfold Builtin.Dict.mergeDict Builtin.Dict.showsAll
  rw [if_neg (by simpa using ne), if_neg (by rw [lo]; exact Bool.false_ne_true)]
  refine wpAny_bind (wpAny_pure (wpAny_bind (wpAny_dictEntries go dato ?_)))
  dsimp only
  split
  · refine wpAny_bind (wpAny_dictEntries gd datd ?_)
    split
    · rename_i em
      have ex : xs = [] := by
        have h1 := size_of_entries entd
        rw [Array.isEmpty_iff_size_eq_zero.mp em] at h1
        exact List.length_eq_zero_iff.mp h1.symm
      subst ex
      have em' : mergeH [] more = more := mergeH_new more [] ndo
      rw [em'] at q
      refine wpAny_bind (empty_heap tm go dato ento keyso (hh rfl) ?_)
      split
      · have zz : eso.size ≤ sizeLine + 1 := by rw [so]; have : 0 + more.length ≤ sizeLine := z; lia
        refine wpAny_bind (wpAny_updateDictKeysTo gd datd (wpAny_pure (q _ ⟨_, _, epd + 1, Heap.get?_update_self _ gd (Obj.isFreed_of_dict (Obj.data_mapDictKeys datd _)), exd.mapDictKeys _, Obj.data_mapDictKeys datd _, ento, fun x hx => ?_, ndo⟩ (Heap.SameBut.update ..))) zz)
        exact knd.keeps (keyso x hx) gd datd (Heap.SameBut.update ..)
      · rename_i nz
        have e0 : more = [] := by
          have : eso.size = 0 := Array.isEmpty_iff_size_eq_zero.mp (by simpa using nz)
          rw [so] at this; exact List.length_eq_zero_iff.mp this
        subst e0
        exact wpAny_pure (q _ hd (Heap.SameBut.refl _ _))
    · refine wpAny_bind (wpAny_dictEpoch go dato (wpAny_bind (wpAny_dictEntries go dato (wpAny_bind ?_))))
      rw [Std.Legacy.Range.forIn_eq_forIn_range']
      simp only [Std.Legacy.Range.size, Nat.sub_zero, Nat.add_sub_cancel, Nat.div_one]
      refine wpAny_forIn_list _ (fun rest _ s' => ∃ h' j, s' = { s with heap := h' } ∧ rest = List.range' j (eso.size - j) ∧ j ≤ eso.size ∧ h'.DictOfH knd d (mergeH xs (more.take j)) ∧ Heap.SameBut d s.heap h') _ ?_ ?_ _ _ ⟨s.heap, 0, rfl, by simp, Nat.zero_le _, hd, Heap.SameBut.refl _ _⟩
      · rintro i rest b s' ⟨h', j, rfl, hr, hj, hd', sb⟩
        have lt : j < eso.size := by
          by_cases c : j < eso.size
          · exact c
          · rw [Nat.sub_eq_zero_of_le (Nat.not_lt.mp c)] at hr; cases hr
        have er : i = j ∧ rest = List.range' (j + 1) (eso.size - (j + 1)) := by
          rw [show eso.size - j = (eso.size - (j + 1)) + 1 by lia, List.range'_succ] at hr
          exact List.cons.inj hr
        obtain ⟨rfl, er⟩ := er
        have go' : h'.get? o = some oo := (sb.2 o ne.symm).trans go
        obtain ⟨x, hx⟩ := get_of_lt (xs := more) (j := i) (by lia)
        refine wpAny_bind (wpAny_dictEntries (s := { s with heap := h' }) go' dato ?_)
        rw [entry_at ento i, hx]
        have kx := knd.keeps (keyso x (List.mem_of_getElem? hx)) gd datd sb
        have zl : (mergeH xs (more.take i)).length ≤ sizeLine := by
          have h1 := mergeH_len (more.take i) xs
          have h2 : (more.take i).length ≤ more.length := by rw [List.length_take]; lia
          lia
        refine wpAny_bind (wpAny_holding (set_hashed (s := { s with heap := h' }) room kx hd' zl fun h2 hd2 sb2 => ?_))
        have go2 : h2.get? o = some oo := (sb2.2 o ne.symm).trans go'
        refine wpAny_bind (wpAny_dictEpoch (s := { s with heap := h2 }) go2 dato ?_)
        rw [if_neg (by simp)]
        exact wpAny_pure ⟨h2, i + 1, rfl, er, lt, by rw [mergeH_succ xs more hx]; exact hd2, sb.trans sb2⟩
      · rintro b s' ⟨h', j, rfl, hr, hj, hd', sb⟩
        have ej : j = eso.size := by
          by_cases c : j < eso.size
          · rw [show eso.size - j = (eso.size - (j + 1)) + 1 by lia, List.range'_succ] at hr; cases hr
          · lia
        rw [ej, so, List.take_length] at hd'
        exact wpAny_pure (q h' hd' sb)
  · refine wpAny_bind (wpAny_dictEpoch go dato (wpAny_bind (wpAny_dictEntries go dato (wpAny_bind ?_))))
    rw [Std.Legacy.Range.forIn_eq_forIn_range']
    simp only [Std.Legacy.Range.size, Nat.sub_zero, Nat.add_sub_cancel, Nat.div_one]
    refine wpAny_forIn_list _ (fun rest _ s' => ∃ h' j, s' = { s with heap := h' } ∧ rest = List.range' j (eso.size - j) ∧ j ≤ eso.size ∧ h'.DictOfH knd d (mergeH xs (more.take j)) ∧ Heap.SameBut d s.heap h') _ ?_ ?_ _ _ ⟨s.heap, 0, rfl, by simp, Nat.zero_le _, hd, Heap.SameBut.refl _ _⟩
    · rintro i rest b s' ⟨h', j, rfl, hr, hj, hd', sb⟩
      have lt : j < eso.size := by
        by_cases c : j < eso.size
        · exact c
        · rw [Nat.sub_eq_zero_of_le (Nat.not_lt.mp c)] at hr; cases hr
      have er : i = j ∧ rest = List.range' (j + 1) (eso.size - (j + 1)) := by
        rw [show eso.size - j = (eso.size - (j + 1)) + 1 by lia, List.range'_succ] at hr
        exact List.cons.inj hr
      obtain ⟨rfl, er⟩ := er
      have go' : h'.get? o = some oo := (sb.2 o ne.symm).trans go
      obtain ⟨x, hx⟩ := get_of_lt (xs := more) (j := i) (by lia)
      refine wpAny_bind (wpAny_dictEntries (s := { s with heap := h' }) go' dato ?_)
      rw [entry_at ento i, hx]
      have kx := knd.keeps (keyso x (List.mem_of_getElem? hx)) gd datd sb
      have zl : (mergeH xs (more.take i)).length ≤ sizeLine := by
        have h1 := mergeH_len (more.take i) xs
        have h2 : (more.take i).length ≤ more.length := by rw [List.length_take]; lia
        lia
      refine wpAny_bind (wpAny_holding (set_hashed (s := { s with heap := h' }) room kx hd' zl fun h2 hd2 sb2 => ?_))
      have go2 : h2.get? o = some oo := (sb2.2 o ne.symm).trans go'
      refine wpAny_bind (wpAny_dictEpoch (s := { s with heap := h2 }) go2 dato ?_)
      rw [if_neg (by simp)]
      exact wpAny_pure ⟨h2, i + 1, rfl, er, lt, by rw [mergeH_succ xs more hx]; exact hd2, sb.trans sb2⟩
    · rintro b s' ⟨h', j, rfl, hr, hj, hd', sb⟩
      have ej : j = eso.size := by
        by_cases c : j < eso.size
        · rw [show eso.size - j = (eso.size - (j + 1)) + 1 by lia, List.range'_succ] at hr; cases hr
        · lia
      rw [ej, so, List.take_length] at hd'
      exact wpAny_pure (q h' hd' sb)
end
end FX

/-! ## W: dict(d) and d.update(e) of dicts whose keys are tuples, as they lie -/
namespace FX
open PySem PySem.Spec PyProof.Rows L2
set_option linter.all false
theorem tame_tuple {prog : Program} {w : World} {K : Type} [DecidableEq K] (knd : KeyKind prog w K) : Tame (tupleKind knd) := fun hk q => by
  unfold Builtin.Dict.quietEq
  exact wpAny_bind (wpAny_specialOf (IsTupleKey.typeIs hk) F.slot_tuple_eq.lookup (wpAny_pure (q _)))
/-- a key's hash -/
def hashT (w : World) (k : List Key) : Int := reduceHash (Builtin.Tuple.tupleHashOf (k.map (keyH w)))
def mergeT (kvs more : List (List Key × V)) : List (List Key × V) := more.foldl (fun acc kv => putK acc kv.1 kv.2) kvs
theorem kt_merge {H : Hp} : ∀ {more : List (List Key × V)} {ms : List (List Key × Addr × Value)} {kvs : List (List Key × V)} {xs : List (List Key × Addr × Value)}, KT H more ms → KT H kvs xs → KT H (mergeT kvs more) (mergeH xs ms)
  | _, _, _, _, .nil, r => r
  | _, _, kvs, xs, .cons (a := p) (b := q) h t, r => by
    have e : q.1 = p.1 := h.1.symm
    have r1 := KT.put r p.1 h.2.1 h.2.2
    show KT H (mergeT (putK kvs p.1 p.2) _) (mergeH (storedH xs q.1 q.2.1 q.2.2) _)
    rw [e]
    exact kt_merge t r1
theorem kt_hash {P : Program} {w : World} {H : Hp} : ∀ {kvs : List (List Key × V)} {xs : List (List Key × Addr × Value)}, KT H kvs xs → (xs.map fun x => (tupleKind (mixKind P w)).hash x.1) = kvs.map fun q => hashT w q.1
  | _, _, .nil => rfl
  | _, _, .cons r t => by rw [List.map_cons, List.map_cons, kt_hash t, r.1]; rfl
theorem mergeT_len : ∀ (more kvs : List (List Key × V)), (mergeT kvs more).length ≤ kvs.length + more.length
  | [], _ => Nat.le_refl _
  | q :: r, kvs => by
    have h1 : (mergeT (putK kvs q.1 q.2) r).length ≤ _ := mergeT_len r _
    have h2 := length_putK kvs q.1 q.2
    show (mergeT (putK kvs q.1 q.2) r).length ≤ kvs.length + (r.length + 1)
    lia
section
variable {X : Cx} {pins : List (Addr × Obj)} {σ : L2.St} {H : Hp} {s : Shared} {A : Around} {E : Value → Shared → Prop}
theorem from_dict {id : String} {d o : Addr} {kvs more : List (List Key × V)} {Q : PySem.Fin → Shared → Prop} (hu : A.units < cLine) (I : Inv X pins σ H s) (ed : H d = some (.dT kvs)) (eo : Rd H o (.dT more)) (ne : d ≠ o) (z : kvs.length + more.length ≤ sizeLine) (hh : kvs = [] → (more.map fun q => hashT X.w q.1).Nodup)
    (q : ∀ s', Inv X pins σ (upd H d (.dT (mergeT kvs more))) s' → Q (.done (.ret .none)) s') : wpAny (model X.prog X.w) A (Builtin.Dict.updateFrom id d (.ref o) [] .none) Q E s := by
  obtain ⟨zd, ld, xs, rd, dd⟩ := dt_of I.hok ed
  obtain ⟨zo, lo, ms, ro, dO⟩ := dt_rd I.hok eo
  have l1 := Paired.length rd
  have l2 := Paired.length ro
  unfold Builtin.Dict.updateFrom
  refine wpAny_bind (wpAny_typeOf dO.typeIs ?_)
  rw [if_neg (by decide)]
  refine wpAny_bind ?_
  unfold Builtin.Dict.merge Builtin.Dict.readDirectly
  refine wpAny_bind (wpAny_bind (wpAny_isInstance dO.typeIs isSubtype_dict_dict ?_))
  simp only [Bool.not_true, Bool.false_eq_true, if_false]
  refine wpAny_bind (wpAny_specialOf dO.typeIs F.slot_dict_iter.lookup (wpAny_pure ?_))
  simp only [beq_self_eq_true, if_true]
  refine wpAny_bind (wpAny_pure (merge_heap (tame_tuple _) hu ne lo dd dO (by lia) (fun e => ?_) fun h' dd' sb => ?_))
  · rw [kt_hash ro]
    refine hh ?_
    rw [e] at l1
    exact List.length_eq_zero_iff.mp l1
  · obtain ⟨ob, es, ep, g, h2, h3, h4, _, h5⟩ := dd'
    have I' : Inv X pins σ (upd H d (.dT (mergeT kvs more))) { s with heap := h' } := by
      refine d_write (t' := s.toks) I (by rw [ed]; exact True.intro) sb ⟨ob, g⟩ ⟨?_, ld, _, (kt_merge ro rd).keeps fun c ys ec => ?_, ob, es, ep, g, h2, h3, h4, h5⟩
      · have := mergeT_len more kvs; lia
      · rw [upd_ne (ne_of ec ed (fun z => nomatch z))]; exact ec
    show wpAny _ _ (Builtin.Dict.addKeywords d [] >>= _) _ _ _
    exact wpAny_bind (wpAny_pure (wpAny_pure (q _ I')))
end
section
variable {X : Cx}
/-- d.update(e) -/
def rUpdT (w : World) : V → List V → Hp → VK → Prop := fun x vs H Q => ∃ (d o : Addr) (kvs more : List (List Key × V)), x = .ref d ∧ vs = [.ref o] ∧ H d = some (.dT kvs) ∧ Rd H o (.dT more) ∧ d ≠ o ∧ kvs.length + more.length ≤ sizeLine ∧ (kvs = [] → (more.map fun q => hashT w q.1).Nodup) ∧ Q .non (upd H d (.dT (mergeT kvs more)))
theorem mt_updT (hu : X.A.units + 1 < cLine) : MtM X "dict.update" (rUpdT X.w) := by
  intro pins s σ H x vs v us Q I rx rv h
  obtain ⟨d, o, kvs, more, rfl, rfl, ed, eo, ne, z, hh, q⟩ := h
  cases rx
  obtain ⟨u, rfl, ru⟩ := rv.one
  cases ru
  obtain ⟨_, _, xs, rd, dd⟩ := dt_of I.hok ed
  refine wpAny_call_entry PySem.F.slot_dict_update dd.typeIs PySem.F.entry_dict_update ?_ (PySem.F.args_dict_update_2 _ _)
  unfold Builtin.«dict.update» Builtin.Dict.selfAndRest
  refine wpAny_bind (wpAny_bind (wpAny_notOrdered_dict dd.typeIs (wpAny_pure ?_)))
  exact from_dict (id := "dict.update") (show X.A.in1.units < cLine from tupleKind_room_in1 (knd := mixKind X.prog X.w) hu) I ed eo ne z hh fun s' I' => ⟨_, rfl, .non, _, I', rfl, q⟩
/-- dict(d) -/
theorem call_dictT (hu : X.A.units + 64 < cLine) : CallR X (.type "dict") (fun xs H Q => ∃ (o : Addr) (more : List (List Key × V)), xs = [.ref o] ∧ H o = some (.dT more) ∧ (more.map fun q => hashT X.w q.1).Nodup ∧ ∀ p, H p = none → Q (.ref p) (upd H p (.dT (mergeT [] more)))) := by
  intro pins s σ H xs us Q I r h
  obtain ⟨o, more, rfl, eo, hh, q⟩ := h
  obtain ⟨u, rfl, rx⟩ := vals1 r
  cases rx
  refine callType_codes (Q₁ := fun obj s₁ => obj = .ref s.heap.objs.size ∧ s₁ = { s with heap := s.heap.push { cls := .type "dict", data := .dict #[] } }) F.kt_called_dict (F.kt_typeCall_dict_1 _) F.entry_dict_init (kt_code_dict_new _ ⟨rfl, rfl⟩) ?_
  rintro obj s₁ ⟨rfl, rfl⟩
  have hn : H s.heap.objs.size = none := I.hok.fresh (Nat.le_refl _)
  have I1 := I.laid (a := s.heap.objs.size) (o := .dT []) (t' := s.toks) (fun _ _ z => Heap.get?_push_of_some _ z) (Nat.le_refl _) (dt_empty s.heap I.big)
  have e1 : (upd H s.heap.objs.size (.dT [])) s.heap.objs.size = some (.dT []) := upd_same
  obtain ⟨_, _, xs, rd, dd⟩ := dt_of I1.hok e1
  refine ⟨dd.typeIs, F.args_dict_init_2 _ _, ?_⟩
  unfold Builtin.«dict.__init__» Builtin.Dict.selfAndRest
  refine wpAny_bind (wpAny_bind (wpAny_notOrdered_dict dd.typeIs (wpAny_pure ?_)))
  have ne : s.heap.objs.size ≠ o := fun z => by rw [← z, hn] at eo; cases eo
  have eo1 : (upd H s.heap.objs.size (.dT [])) o = some (.dT more) := by rw [upd_ne ne.symm]; exact eo
  obtain ⟨zo, _⟩ := dt_of I.hok eo
  have hu2 : X.A.in1.in1.units < cLine := by
    have h1 : X.A.in1.in1.units = X.A.units + 1 + 1 := by first | rfl | simp [units_in1]
    lia
  exact from_dict (id := "dict.__init__") hu2 I1 e1 (.inl eo1) ne (by rw [List.length_nil]; lia) (fun _ => hh) fun s' I' => ⟨rfl, .ref s.heap.objs.size, _, by rw [upd_upd] at I'; exact I', rfl, q _ hn⟩
end
end FX

/-! ## X: the hashes of things differ -/
namespace FX
open PySem PySem.Spec PyProof.Rows L2
set_option linter.all false
def hN (a b : Nat) : Int := reduceHash (Builtin.Tuple.tupleHashOf [hashInt (a : Int), hashInt (b : Int)])
theorem hN_all : ((List.range 12).all fun a => (List.range 10).all fun b => (List.range 12).all fun c => (List.range 10).all fun d => decide (hN a b = hN c d) == (decide (a = c) && decide (b = d))) = true := by decide +kernel
end FX

/-! ## Y: comprehensions that choose: [x for x in .. if ..] -/
namespace FX
open PySem PySem.Spec PyProof.Rows L2
set_option linter.all false
theorem paired_snoc' {α β : Type} {R : α → β → Prop} : ∀ {as : List α} {bs : List β}, Paired R as bs → ∀ {a : α} {b : β}, R a b → Paired R (as ++ [a]) (bs ++ [b])
  | _, _, .nil, _, _, h => .cons h .nil
  | _, _, .cons h t, _, _, h' => .cons h (paired_snoc' t h')
theorem filter_take {α : Type} (b : α → Bool) {ts : List α} {i : Nat} {t : α} (h : ts[i]? = some t) : (ts.take (i + 1)).filter b = (ts.take i).filter b ++ (if b t = true then [t] else []) := by
  rw [List.take_succ, h, List.filter_append]
  cases e : b t <;> simp [e]
theorem len_filter_take {α : Type} (b : α → Bool) (ts : List α) (i : Nat) : ((ts.take i).filter b).length ≤ ts.length := by
  have h1 := List.length_filter_le b (ts.take i)
  have h2 : (ts.take i).length ≤ ts.length := by rw [List.length_take]; lia
  lia
/-- what stands of the new list behind i turns -/
def Chosen (p : Addr) (b : T2 → Bool) (ts : List T2) (H : Hp) (i : Nat) (ys : List V) (H2 : Hp) : Prop :=
  ∃ bs : List Addr, ys = bs.map V.ref ∧ Same H H2 ∧ H2 p = some (.lst ys) ∧ ThsAt H2 bs ((ts.take i).filter b)
section
variable {p : Addr} {b : T2 → Bool} {ts : List T2} {H : Hp} {tt : TT} {caps : List (Str × Nat)} {σ : L2.St} {Q : Hp → Prop}
theorem Chosen.start (hp : H p = none) : Chosen p b ts H 0 [] (upd H p (.lst [])) := ⟨[], rfl, same_new hp, upd_same, .nil⟩
/-- one turn -/
theorem Chosen.turn (hp : H p = none) (hz : ts.length ≤ 900) (ht : ∀ (H2 : Hp) (a : Addr) (t : T2) (Q' : Bool → Hp → Prop), Same H H2 → H2 a = some (.tup (tv t)) → t ∈ ts → Q' (b t) H2 → tt (some (.ref a) :: capv σ caps) H2 Q')
    {i : Nat} {ys : List V} {H2 : Hp} {a : Addr} {t : T2} {N : List V → Hp → Prop} (pv : Chosen p b ts H i ys H2) (hi : ts[i]? = some t) (ha : H2 a = some (.tup (tv t))) (n : ∀ ys H', Chosen p b ts H (i + 1) ys H' → N ys H') :
    tt (some (.ref a) :: capv σ caps) H2 fun c H4 => if c = true then tVar 0 (some (.ref a) :: capv σ caps) H4 fun v H5 => H5 p = some (.lst ys) ∧ ys.length < sizeLine ∧ N (ys ++ [v]) (upd H5 p (.lst (ys ++ [v]))) else N ys H4 := by
  obtain ⟨bs, ey, sm, hp2, th⟩ := pv
  have e1 := filter_take b hi
  have ln : ys.length ≤ ts.length := by rw [ey, List.length_map, Paired.length th]; exact len_filter_take b ts i
  refine ht H2 a t _ sm ha (List.mem_of_getElem? hi) ?_
  cases c : b t with
  | false =>
    rw [c] at e1
    rw [if_neg (by decide)]
    exact n ys H2 ⟨bs, ey, sm, hp2, by rw [e1]; simpa using th⟩
  | true =>
    rw [c, if_pos rfl] at e1
    rw [if_pos rfl]
    have s2 : Same H (upd H2 p (.lst (ys ++ [V.ref a]))) := fun d o e => by
      rw [upd_ne (ne_of_none e hp)]; exact sm d o e
    have kt : KeepT H2 (upd H2 p (.lst (ys ++ [V.ref a]))) := KeepT.upd fun o' e => by
      rw [hp2] at e; cases e; exact ⟨fun _ z => (by cases z), fun _ _ z => (by cases z)⟩
    refine ⟨_, rfl, hp2, small1000 (by lia), n _ _ ⟨bs ++ [a], by rw [ey, List.map_append]; rfl, s2, upd_same, ?_⟩⟩
    rw [e1]
    exact paired_snoc' (ThsAt.keep kt th) (kt.tup _ _ ha)
/-- over a list of things -/
theorem filt_list {K : PySem.W.Frag} {l : Addr} {as : List Addr} (hp : H p = none) (hz : ts.length ≤ 900) (hl : H l = some (.lst (as.map V.ref))) (th : ThsAt H as ts)
    (ht : ∀ (H2 : Hp) (a : Addr) (t : T2) (Q' : Bool → Hp → Prop), Same H H2 → H2 a = some (.tup (tv t)) → t ∈ ts → Q' (b t) H2 → tt (some (.ref a) :: capv σ caps) H2 Q')
    (k : ∀ (H2 : Hp) (bs : List Addr), Same H H2 → H2 p = some (.lst (bs.map V.ref)) → ThsAt H2 bs (ts.filter b) → Q H2) :
    ∃ W : Nat → Nat → List V → Hp → Prop, (∃ m, W 0 m [] (upd H p (.lst []))) ∧ ∀ i m ys H2, W i m ys H2 → H2 p = some (.lst ys) ∧
      (((Itl K l).stop i H2 ∧ Q H2) ∨ ((Itl K l).go i H2 ∧ ∀ x H3, (Itl K l).yld i H2 x H3 → tt (some x :: capv σ caps) H3 fun b H4 =>
        if b = true then tVar 0 (some x :: capv σ caps) H4 fun v H5 => H5 p = some (.lst ys) ∧ ys.length < sizeLine ∧ ∃ m', m' < m ∧ W (i + 1) m' (ys ++ [v]) (upd H5 p (.lst (ys ++ [v])))
        else ∃ m', m' < m ∧ W (i + 1) m' ys H4)) := by
  have lt := Paired.length th
  refine comp_list (K := K) (a := l) (p := p) (xs := as.map V.ref) (caps := caps) (fun i ys H2 => Chosen p b ts H i ys H2) (Chosen.start hp) (fun i ys H2 _ pv => ?_) (fun i x ys H2 N hx pv n => ?_) fun ys H2 pv => ?_
  · obtain ⟨bs, _, sm, hp2, _⟩ := pv
    exact ⟨SqL.of (sm _ _ hl), hp2⟩
  · rw [List.getElem?_map] at hx
    cases ea : as[i]? with
    | none => rw [ea] at hx; cases hx
    | some a =>
      rw [ea] at hx
      have hx : V.ref a = x := Option.some.inj hx
      subst hx
      obtain ⟨t, et⟩ := get_of_lt (xs := ts) (j := i) (by have := (List.getElem?_eq_some_iff.mp ea).1; lia)
      have ha := paired_get th i a t ea et
      obtain ⟨bs, e0, sm, hp2, th2⟩ := id pv
      exact Chosen.turn hp hz ht pv et (sm _ _ ha) n
  · obtain ⟨bs, ey, sm, hp2, th2⟩ := pv
    rw [List.length_map, lt, List.take_length] at th2
    exact k H2 bs sm (by rw [← ey]; exact hp2) th2
end
end FX

/-! ## Farhold: what is reached, what is lost, what is given back -/
namespace FX
open PySem PySem.Spec PyProof.Rows L2
set_option linter.all false
/-- n turns of the walk: what is ahead, what is found, what it comes to -/
def Rch (nx : T2 → List T2) : Nat → List T2 → List T2 → List T2 → Prop
  | 0, ahead, found, R => ahead = [] ∧ R = found
  | n + 1, ahead, found, R => ∃ a t, ahead = a ++ [t] ∧ ((t ∈ found ∧ Rch nx n a found R) ∨ (t ∉ found ∧ Rch nx n (a ++ nx t) (found ++ [t]) R))
theorem Rch.len {nx : T2 → List T2} : ∀ {n : Nat} {ahead found R : List T2}, Rch nx n ahead found R → ahead.length ≤ n
  | 0, _, _, _, h => by rw [h.1]; exact Nat.le_refl _
  | n + 1, _, _, _, ⟨a, t, e, h⟩ => by
    rw [e, List.length_append]
    rcases h with ⟨_, h⟩ | ⟨_, h⟩
    · have := h.len; show a.length + 1 ≤ n + 1; lia
    · have := h.len; rw [List.length_append] at this; show a.length + 1 ≤ n + 1; lia
theorem Rch.sub {nx : T2 → List T2} : ∀ {n : Nat} {ahead found R : List T2}, Rch nx n ahead found R → (∀ t ∈ found, t ∈ R) ∧ ∀ t ∈ ahead, t ∈ R
  | 0, _, _, _, h => by rw [h.1, h.2]; exact ⟨fun _ z => z, fun _ z => by cases z⟩
  | n + 1, _, _, _, ⟨a, t, e, h⟩ => by
    rw [e]
    rcases h with ⟨ht, h⟩ | ⟨_, h⟩
    · refine ⟨h.sub.1, fun u hu => ?_⟩
      rcases List.mem_append.mp hu with hu | hu
      · exact h.sub.2 u hu
      · have : u = t := by simpa using hu
        rw [this]; exact h.sub.1 t ht
    · refine ⟨fun u hu => h.sub.1 u (List.mem_append_left _ hu), fun u hu => ?_⟩
      rcases List.mem_append.mp hu with hu | hu
      · exact h.sub.2 u (List.mem_append_left _ hu)
      · exact h.sub.1 u (List.mem_append_right _ hu)
theorem Rch.closed {nx : T2 → List T2} : ∀ {n : Nat} {ahead found R : List T2}, Rch nx n ahead found R → (∀ t ∈ found, ∀ u ∈ nx t, u ∈ found ∨ u ∈ ahead) → ∀ t ∈ R, ∀ u ∈ nx t, u ∈ R
  | 0, _, _, _, h, c => by
    rw [h.2]; rw [h.1] at c
    exact fun t ht u hu => (c t ht u hu).elim id fun z => by cases z
  | n + 1, _, found, _, ⟨a, t, e, h⟩, c => by
    rw [e] at c
    rcases h with ⟨ht, h⟩ | ⟨_, h⟩
    · refine h.closed fun s hs u hu => ?_
      rcases c s hs u hu with z | z
      · exact .inl z
      · rcases List.mem_append.mp z with z | z
        · exact .inr z
        · have : u = t := by simpa using z
          rw [this]; exact .inl ht
    · refine h.closed fun s hs u hu => ?_
      rcases List.mem_append.mp hs with hs | hs
      · rcases c s hs u hu with z | z
        · exact .inl (List.mem_append_left _ z)
        · rcases List.mem_append.mp z with z | z
          · exact .inr (List.mem_append_left _ z)
          · exact .inl (List.mem_append_right _ z)
      · have : s = t := by simpa using hs
        rw [this] at hu
        exact .inr (List.mem_append_right _ hu)
theorem split_last {α : Type} : ∀ {l : List α}, l ≠ [] → ∃ a t, l = a ++ [t]
  | [], h => absurd rfl h
  | [x], _ => ⟨[], x, rfl⟩
  | x :: y :: l, _ => by
    obtain ⟨a, t, e⟩ := split_last (l := y :: l) (by simp)
    exact ⟨x :: a, t, by rw [e]; rfl⟩
/-- the walk comes to an end -/
theorem Rch.ex {nx : T2 → List T2} {keys : List T2} {B : Nat} (sub : ∀ t, ∀ u ∈ nx t, u ∈ keys) (sz : ∀ t, (nx t).length ≤ B) : ∀ (m : Nat) (ahead found : List T2), (∀ t ∈ ahead, t ∈ keys) → (keys.filter fun t => decide (t ∉ found)).length * (B + 1) + ahead.length ≤ m → ∃ n R, n ≤ m ∧ Rch nx n ahead found R
  | m, ahead, found, ha, hm => by
    by_cases e : ahead = []
    · exact ⟨0, found, Nat.zero_le _, e, rfl⟩
    obtain ⟨a, t, ea⟩ := split_last e
    have l1 : ahead.length = a.length + 1 := by rw [ea, List.length_append]; rfl
    have ha' : ∀ u ∈ a, u ∈ keys := fun u hu => ha u (by rw [ea]; exact List.mem_append_left _ hu)
    have ht : t ∈ keys := ha t (by rw [ea]; exact List.mem_append_right _ (by simp))
    match m, hm with
    | 0, hm => exact absurd hm (by lia)
    | m + 1, hm =>
      by_cases hf : t ∈ found
      · obtain ⟨n, R, h1, h2⟩ := Rch.ex sub sz m a found ha' (by lia)
        exact ⟨n + 1, R, by lia, a, t, ea, .inl ⟨hf, h2⟩⟩
      · have lt : (keys.filter fun u => decide (u ∉ found ++ [t])).length < (keys.filter fun u => decide (u ∉ found)).length := by
          have e1 : (keys.filter fun u => decide (u ∉ found ++ [t])) = (keys.filter fun u => decide (u ∉ found)).filter fun u => decide (u ≠ t) := by
            rw [List.filter_filter]
            refine List.filter_congr fun u _ => ?_
            by_cases c1 : u ∈ found <;> by_cases c2 : u = t <;> simp [c1, c2]
          rw [e1]
          refine List.length_filter_lt_length_iff_exists.mpr ⟨t, List.mem_filter.mpr ⟨ht, by simpa using hf⟩, by simp⟩
        have l2 := sz t
        have key : (keys.filter fun u => decide (u ∉ found ++ [t])).length * (B + 1) + (a ++ nx t).length ≤ m := by
          rw [List.length_append]
          have : ((keys.filter fun u => decide (u ∉ found ++ [t])).length + 1) * (B + 1) ≤ (keys.filter fun u => decide (u ∉ found)).length * (B + 1) := Nat.mul_le_mul_right _ lt
          rw [Nat.add_mul, Nat.one_mul] at this
          lia
        obtain ⟨n, R, h1, h2⟩ := Rch.ex sub sz m (a ++ nx t) (found ++ [t]) (fun u hu => (List.mem_append.mp hu).elim (ha' u) (sub t u)) key
        exact ⟨n + 1, R, by lia, a, t, ea, .inr ⟨hf, h2⟩⟩
/-! ### hashes -/
theorem mem_range_all {n : Nat} {f : Nat → Bool} (h : (List.range n).all f = true) {a : Nat} (ha : a < n) : f a = true := List.all_eq_true.mp h a (List.mem_range.mpr ha)
theorem hash_inj {w : World} {t u : T2} (ht : 0 ≤ t.1 ∧ t.1 < 12 ∧ 0 ≤ t.2 ∧ t.2 < 10) (hu : 0 ≤ u.1 ∧ u.1 < 12 ∧ 0 ≤ u.2 ∧ u.2 < 10) (e : hashT w (tk t) = hashT w (tk u)) : t = u := by
  have hN' : ∀ v : T2, 0 ≤ v.1 → 0 ≤ v.2 → hashT w (tk v) = hN v.1.toNat v.2.toNat := fun v h1 h2 => by
    show reduceHash (Builtin.Tuple.tupleHashOf [hashInt v.1, hashInt v.2]) = reduceHash (Builtin.Tuple.tupleHashOf [hashInt (v.1.toNat : Int), hashInt (v.2.toNat : Int)])
    rw [Int.toNat_of_nonneg h1, Int.toNat_of_nonneg h2]
  rw [hN' t ht.1 ht.2.2.1, hN' u hu.1 hu.2.2.1] at e
  have h := mem_range_all (mem_range_all (mem_range_all (mem_range_all hN_all (a := t.1.toNat) (by lia)) (a := t.2.toNat) (by lia)) (a := u.1.toNat) (by lia)) (a := u.2.toNat) (by lia)
  rw [decide_eq_true e] at h
  simp only [beq_iff_eq, Bool.true_eq, Bool.and_eq_true, decide_eq_true_eq] at h
  exact Prod.ext (by lia) (by lia)
theorem hash_nd {w : World} : ∀ {ts : List T2}, ts.Nodup → (∀ t ∈ ts, 0 ≤ t.1 ∧ t.1 < 12 ∧ 0 ≤ t.2 ∧ t.2 < 10) → (ts.map fun t => hashT w (tk t)).Nodup
  | [], _, _ => List.nodup_nil
  | t :: ts, nd, hr => by
    have nd := List.nodup_cons.mp nd
    refine List.nodup_cons.mpr ⟨fun m => ?_, hash_nd nd.2 fun u hu => hr u (List.mem_cons_of_mem _ hu)⟩
    obtain ⟨u, hu, e⟩ := List.mem_map.mp m
    exact nd.1 ((hash_inj (hr t (List.mem_cons_self ..)) (hr u (List.mem_cons_of_mem _ hu)) e.symm) ▸ hu)
/-! ### the house -/
def nxT (hl : HL) (t : T2) : List T2 := (getH hl t).filter fun u => decide (u ∈ hl.map (·.1))
def lentT (G : HGh) : List T2 := (G.outs.map (·.1)).filter fun t => decide (0 < getI' G.outs t)
def startT (G : HGh) : List T2 := (G.hand ++ lentT G).filter fun t => decide (t ∈ G.holds.map (·.1))
def keepR (G : HGh) (R : List T2) : HGh := { G with outs := G.outs.filter (fun q => decide (q.1 ∈ R)), holds := G.holds.filter (fun q => decide (q.1 ∈ R)) }
def heldB (G : HGh) (t : T2) : Bool := decide (t ∈ G.hand) || G.holds.any fun q => decide (t ∈ q.2.2)
def keepB (G : HGh) : HGh := { G with recs := G.recs.filter fun q => heldB G q.1 }
end FX

/-! ## Farhold: a house of which things go -/
namespace FX
open PySem PySem.Spec PyProof.Rows L2
set_option linter.all false
section
variable {C p m : Addr} {H H' : Hp} {G M : HGh} {n : Nat}
theorem foot_sub {hl : HL} (s : hl.Sublist G.holds) : (foot { G with holds := hl }).Sublist (foot G) := by
  unfold foot
  exact ((((s.map _).cons₂ _).cons₂ _).cons₂ _).cons₂ _
theorem HouseAt.subHolds (x : HouseAt C H p G) {hl : HL} (s : hl.Sublist G.holds) : HouseAt C (upd H G.l (dRef hl)) p { G with holds := hl } := by
  obtain ⟨⟨a1, a2, a3⟩, ⟨b1, b2⟩, c1, d1⟩ := x.nds
  have np := x.p_ne (b := G.l) (by simp [foot])
  obtain ⟨dx, e⟩ := x.ob
  exact ⟨⟨dx, by rw [upd_ne np.symm]; exact e⟩, by rw [upd_ne a2]; exact x.dh, by rw [upd_ne b1]; exact x.dO, upd_same, by rw [upd_ne c1.symm]; exact x.dr, fun q hq => by rw [upd_ne (d1 q (s.subset hq)).2.2.1]; exact x.hl q (s.subset hq), x.nd.sublist (foot_sub s)⟩
theorem ModelAt.subHolds (x : ModelAt H p G) {hl : HL} (s : hl.Sublist G.holds) : ModelAt (upd H G.l (dRef hl)) p { G with holds := hl } := by
  obtain ⟨⟨a1, a2, a3⟩, ⟨b1, b2⟩, c1, d1⟩ := x.nds
  have m1 : G.l ∈ foot G := by simp [foot]
  have np := x.p_ne m1
  have kt := x.kw (.inr m1) (dRef hl)
  exact ⟨by rw [upd_ne np.symm]; exact x.ob, x.dh.up a2 kt, by rw [upd_ne b1]; exact x.dO, upd_same, by rw [upd_ne c1.symm]; exact x.dr, fun q hq => (x.hl q (s.subset hq)).up (d1 q (s.subset hq)).2.2.1 kt, x.nd.sublist ((foot_sub s).cons₂ _)⟩
theorem Dj.sub {G' M' : HGh} (d : Dj p m G M) (e1 : ∀ b ∈ foot G', b ∈ foot G) (e2 : ∀ b ∈ foot M', b ∈ foot M) : Dj p m G' M' := fun b hb => by
  have := d b (hb.imp id (e2 b))
  exact ⟨this.1, fun z => this.2 (e1 b z)⟩
end
/-- walking the keys of a dict, which is frozen meanwhile -/
theorem for_dict {d : Addr} {kvs : List (List Key × V)} {ob : Obj} {g : TG} {tb : TS} {D : Ends} {σ : L2.St} {H : Hp} (Pv : Nat → L2.St → Hp → Prop) (h0 : Pv 0 σ H) (hf : ∀ i σ H, i ≤ kvs.length → Pv i σ H → H d = some (.frz ob (.dT kvs)))
    (hs : ∀ i a k v σ H, kvs[i]? = some (k, v) → H a = some (.tup (k.map kV)) → Pv i σ H → g (.ref a) σ H fun σ2 H2 => tb { D with nx := Pv (i + 1), ct := Pv (i + 1), bk := D.nx } σ2 H2) (hd : ∀ σ H, Pv kvs.length σ H → D.nx σ H) :
    ∃ W : Nat → Nat → L2.St → Hp → Prop, (∃ m, W 0 m σ H) ∧ ∀ i m σ H, W i m σ H →
      ((ItD d kvs ob).stop i H ∧ D.nx σ H) ∨ ((ItD d kvs ob).go i H ∧ ∃ N : L2.St → Hp → Prop, (∀ σ' H', N σ' H' → ∃ m', m' < m ∧ W (i + 1) m' σ' H') ∧ ∀ x H', (ItD d kvs ob).yld i H x H' → g x σ H' fun σ2 H2 => tb { D with nx := N, ct := N, bk := D.nx } σ2 H2) := by
  refine ⟨fun i m σ H => m = kvs.length - i ∧ i ≤ kvs.length ∧ Pv i σ H, ⟨kvs.length, by simp, Nat.zero_le _, h0⟩, ?_⟩
  rintro i m σ H ⟨rfl, hi, pv⟩
  have fz := hf i σ H hi pv
  by_cases hlt : i < kvs.length
  · refine .inr ⟨⟨fz, hlt⟩, Pv (i + 1), fun σ' H' p' => ⟨kvs.length - (i + 1), by lia, rfl, hlt, p'⟩, fun x H' y => ?_⟩
    obtain ⟨e, a, k, v, ex, ek, ha⟩ := y
    subst e ex
    exact hs i a k v σ _ ek ha pv
  · have e : i = kvs.length := by lia
    subst e
    exact .inl ⟨⟨fz, Nat.le_refl _⟩, hd σ H pv⟩
/-! ### things put together -/
def addAll (l m : List T2) : List T2 := m.foldl addT l
theorem mem_addAll : ∀ {m l : List T2} {t : T2}, t ∈ addAll l m ↔ t ∈ l ∨ t ∈ m
  | [], l, t => by simp [addAll]
  | u :: m, l, t => by
    show t ∈ addAll (addT l u) m ↔ _
    rw [mem_addAll, mem_addT', List.mem_cons, or_assoc]
theorem addAll_len : ∀ (m l : List T2), (addAll l m).length ≤ l.length + m.length
  | [], l => Nat.le_refl _
  | u :: m, l => by
    have h1 : (addAll (addT l u) m).length ≤ _ := addAll_len m (addT l u)
    have h2 := len_addT' l u
    show (addAll (addT l u) m).length ≤ l.length + (m.length + 1)
    lia
theorem addAll_new : ∀ (m l : List T2), (l ++ m).Nodup → addAll l m = l ++ m
  | [], l, _ => (List.append_nil l).symm
  | u :: m, l, nd => by
    have nu : u ∉ l := fun z => by
      rw [List.nodup_append] at nd
      exact nd.2.2 u z u (List.mem_cons_self ..) rfl
    have e2 : l ++ [u] ++ m = l ++ u :: m := by rw [List.append_assoc]; rfl
    show addAll (addT l u) m = _
    have e3 : addT l u = l ++ [u] := by unfold addT; rw [if_neg nu]
    rw [e3, addAll_new m _ (by rw [e2]; exact nd), e2]
theorem mergeT_hand : ∀ (m l : List T2), mergeT (l.map fun q => (tk q, V.bl true)) (m.map fun q => (tk q, V.bl true)) = (addAll l m).map fun q => (tk q, V.bl true)
  | [], l => rfl
  | u :: m, l => by
    show mergeT (putK (l.map fun q => (tk q, V.bl true)) (tk u) (V.bl true)) (m.map fun q => (tk q, V.bl true)) = _
    rw [putK_hand]
    exact mergeT_hand m (addT l u)
/-- in the range in which hashes differ -/
def InR (t : T2) : Prop := 0 ≤ t.1 ∧ t.1 < 12 ∧ 0 ≤ t.2 ∧ t.2 < 10
theorem hand_hash {w : World} {l : List T2} (nd : l.Nodup) (hr : ∀ t ∈ l, InR t) : ((l.map fun q => (tk q, V.bl true)).map fun q => hashT w q.1).Nodup := by
  rw [List.map_map]
  exact hash_nd nd hr
end FX

namespace FX
open PySem PySem.Spec PyProof.Rows L2
set_option linter.all false
theorem isSome_find {α : Type} {l : List α} {k : α → T2} {f : α → V} {t : T2} : ((l.find? fun q => decide (k q = t)).map f).isSome = decide (t ∈ l.map k) := by
  rw [Option.isSome_map]
  cases e : l.find? fun q => decide (k q = t) with
  | none =>
    have : t ∉ l.map k := fun m => by
      obtain ⟨q, hq, e2⟩ := List.mem_map.mp m
      have := List.find?_eq_none.mp e q hq
      exact absurd e2 (by simpa using this)
    simp [this]
  | some q =>
    have h1 : k q = t := by simpa using List.find?_some e
    have h2 : t ∈ l.map k := List.mem_map.mpr ⟨q, List.mem_of_find?_eq_some e, h1⟩
    simp [h2]
/-- is it there? -/
theorem key_in {H : Hp} {d a : Addr} {α : Type} {l : List α} {k : α → T2} {f : α → V} {t : T2} (hd : Rd H d (.dT (l.map fun q => (tk (k q), f q)))) (ha : H a = some (.tup (tv t))) : ∃ o, DGet H d (.ref a) o ∧ o.isSome = decide (t ∈ l.map k) :=
  ⟨_, .inr ⟨_, tk t, a, hd, rfl, ha, rfl⟩, by rw [valV_tk]; exact isSome_find⟩
theorem last_at {α : Type} (a : List α) (t : α) : (a ++ [t])[(a ++ [t]).length - 1]? = some t := by
  rw [List.length_append]; simp
theorem ths_last {H : Hp} {as : List Addr} {a : List T2} {t : T2} (th : ThsAt H as (a ++ [t])) : ∃ (bs : List Addr) (c : Addr), as = bs ++ [c] ∧ ThsAt H bs a ∧ H c = some (.tup (tv t)) := by
  have hl := Paired.length th
  have ne : as ≠ [] := fun z => by rw [z] at hl; simp at hl
  obtain ⟨bs, c, e⟩ := split_last ne
  subst e
  have l2 : bs.length = a.length := by rw [List.length_append, List.length_append] at hl; simpa using hl
  refine ⟨bs, c, rfl, ?_, ?_⟩
  · have go : ∀ {xs : List Addr} {ys : List T2} {x : Addr} {y : T2}, xs.length = ys.length → ThsAt H (xs ++ [x]) (ys ++ [y]) → ThsAt H xs ys := by
      intro xs
      induction xs with
      | nil => intro ys x y h _; cases ys with
        | nil => exact .nil
        | cons _ _ => simp at h
      | cons x0 xs ih => intro ys x y h q; cases ys with
        | nil => simp at h
        | cons y0 ys =>
          cases q with
          | cons h1 q => exact .cons h1 (ih (by simpa using h) q)
    exact go l2 th
  · exact paired_get th bs.length c t (by simp) (by rw [l2]; simp)
theorem ths_app {H : Hp} : ∀ {as : List Addr} {ts : List T2} {bs : List Addr} {us : List T2}, ThsAt H as ts → ThsAt H bs us → ThsAt H (as ++ bs) (ts ++ us)
  | _, _, _, _, .nil, r => r
  | _, _, _, _, .cons h t, r => .cons h (ths_app t r)
end FX

namespace FX
open PySem PySem.Spec PyProof.Rows L2
set_option linter.all false
theorem filter_step {α : Type} (k : α → T2) (l : List α) {ts : List T2} {i : Nat} {t : T2} (h : ts[i]? = some t) : (l.filter fun q => decide (k q ∉ ts.take (i + 1))) = (l.filter fun q => decide (k q ∉ ts.take i)).filter fun q => decide (k q ≠ t) := by
  rw [List.filter_filter, List.take_succ, h]
  refine List.filter_congr fun q _ => ?_
  by_cases c1 : k q ∈ ts.take i <;> by_cases c2 : k q = t <;> simp [c1, c2]
theorem filter_keys {α : Type} (k : α → T2) (l : List α) (f : T2 → Bool) : (l.filter fun q => f (k q)).map k = (l.map k).filter f := by
  rw [List.filter_map]; rfl
theorem val_there {α : Type} {l : List α} {k : α → T2} {f : α → V} {t : T2} (h : t ∈ l.map k) : ∃ v, valV (l.map fun q => (tk (k q), f q)) (tk t) = some v := by
  rw [valV_tk]
  have := isSome_find (l := l) (k := k) (f := f) (t := t)
  rw [decide_eq_true h] at this
  exact Option.isSome_iff_exists.mp this
/-- without these things -/
def dropTs (G : HGh) (ts : List T2) : HGh := { G with outs := G.outs.filter (fun q => decide (q.1 ∉ ts)), holds := G.holds.filter (fun q => decide (q.1 ∉ ts)) }
theorem dropTs_nil (G : HGh) : dropTs G [] = G := by
  have a1 : G.outs.filter (fun q => decide (q.1 ∉ ([] : List T2))) = G.outs := List.filter_eq_self.mpr fun q _ => by simp
  have a2 : G.holds.filter (fun q => decide (q.1 ∉ ([] : List T2))) = G.holds := List.filter_eq_self.mpr fun q _ => by simp
  unfold dropTs
  rw [a1, a2]
end FX

namespace FX
open PySem PySem.Spec PyProof.Rows L2
set_option linter.all false
theorem find_self {α : Type} {k : α → T2} {l : List α} (nd : (l.map k).Nodup) {q : α} (hq : q ∈ l) : l.find? (fun r => decide (k r = k q)) = some q := by
  cases e : l.find? fun r => decide (k r = k q) with
  | none => have := List.find?_eq_none.mp e q hq; simp at this
  | some r =>
    have h1 : k r = k q := by simpa using List.find?_some e
    rw [nd_map_inj nd (List.mem_of_find?_eq_some e) hq h1]
/-- the hand and what these things hold -/
def handAll (hand : List T2) (qs : HL) : List T2 := qs.foldl (fun l q => addAll l q.2.2) hand
theorem mem_handAll : ∀ {qs : HL} {hand : List T2} {t : T2}, t ∈ handAll hand qs ↔ t ∈ hand ∨ ∃ q ∈ qs, t ∈ q.2.2
  | [], hand, t => by simp [handAll]
  | q :: qs, hand, t => by
    show t ∈ handAll (addAll hand q.2.2) qs ↔ _
    rw [mem_handAll, mem_addAll, or_assoc]
    simp
theorem handAll_len {B : Nat} : ∀ {qs : HL} {hand : List T2}, (∀ q ∈ qs, q.2.2.length ≤ B) → (handAll hand qs).length ≤ hand.length + qs.length * B
  | [], hand, _ => by simp [handAll]
  | q :: qs, hand, h => by
    have h1 : (handAll (addAll hand q.2.2) qs).length ≤ _ := handAll_len fun r hr => h r (List.mem_cons_of_mem _ hr)
    have h2 := addAll_len q.2.2 hand
    have h3 := h q (List.mem_cons_self ..)
    show (handAll (addAll hand q.2.2) qs).length ≤ hand.length + (qs.length + 1) * B
    rw [Nat.add_mul, Nat.one_mul]
    lia
theorem handAll_succ (hand : List T2) {qs : HL} {i : Nat} {q : T2 × Addr × List T2} (h : qs[i]? = some q) : handAll hand (qs.take (i + 1)) = addAll (handAll hand (qs.take i)) q.2.2 := by
  unfold handAll
  rw [List.take_succ, h, List.foldl_append]
  rfl
theorem heldB_mem (G : HGh) (t : T2) : (decide (t ∈ handAll G.hand G.holds)) = heldB G t := by
  unfold heldB
  by_cases h : t ∈ handAll G.hand G.holds
  · rw [decide_eq_true h]
    rcases mem_handAll.mp h with h | ⟨q, hq, h⟩
    · simp [h]
    · have : (G.holds.any fun q => decide (t ∈ q.2.2)) = true := List.any_eq_true.mpr ⟨q, hq, by simpa using h⟩
      rw [this]; simp
  · rw [decide_eq_false h]
    have h1 : t ∉ G.hand := fun z => h (mem_handAll.mpr (.inl z))
    have h2 : (G.holds.any fun q => decide (t ∈ q.2.2)) = false := by
      rw [List.any_eq_false]
      intro q hq z
      exact h (mem_handAll.mpr (.inr ⟨q, hq, by simpa using z⟩))
    simp [h1, h2]
theorem filter_take' {α : Type} {b : α → Bool} {ts : List α} {i : Nat} {t : α} (h : ts[i]? = some t) : (ts.take (i + 1)).filter b = (ts.take i).filter b ++ (if b t = true then [t] else []) := filter_take b h
theorem len_filter_take' {α : Type} (b : α → Bool) (ts : List α) (i : Nat) : ((ts.take i).filter b).length ≤ ts.length := len_filter_take b ts i
theorem not_in_take {α : Type} : ∀ {l : List α} {i : Nat} {t : α}, l.Nodup → l[i]? = some t → t ∉ l.take i
  | [], _, _, _, h => by simp at h
  | x :: l, 0, t, _, _ => by simp
  | x :: l, i + 1, t, nd, h => by
    have nd := List.nodup_cons.mp nd
    have h : l[i]? = some t := by simpa using h
    rw [List.take_succ_cons]
    intro z
    rcases List.mem_cons.mp z with z | z
    · exact nd.1 (by rw [← z]; exact List.mem_of_getElem? h)
    · exact not_in_take nd.2 h z
/-- tuples of a thing and a weight -/
def BackAt (H : Hp) : List Addr → List (T2 × Int) → Prop := Paired fun a q => ∃ c, H a = some (.tup [.ref c, .int q.2]) ∧ H c = some (.tup (tv q.1))
theorem BackAt.keep {H H' : Hp} (k : KeepT H H') {as : List Addr} {bs : List (T2 × Int)} (x : BackAt H as bs) : BackAt H' as bs := paired_mono (fun _ _ ⟨c, e1, e2⟩ => ⟨c, k.tup _ _ e1, k.tup _ _ e2⟩) x
end FX

namespace FX
open PySem PySem.Spec PyProof.Rows L2
set_option linter.all false
theorem filter_in {α : Type} (k : α → T2) {l : List α} {ks R : List T2} (h : ∀ q ∈ l, k q ∈ ks) : (l.filter fun q => decide (k q ∉ ks.filter fun t => decide (t ∉ R))) = l.filter fun q => decide (k q ∈ R) := List.filter_congr fun q hq => by
  by_cases c : k q ∈ R
  · have : k q ∉ ks.filter fun t => decide (t ∉ R) := fun z => by have := (List.mem_filter.mp z).2; simp [c] at this
    simp [c]
  · have : k q ∈ ks.filter fun t => decide (t ∉ R) := List.mem_filter.mpr ⟨h q hq, by simpa using c⟩
    simp [c, h q hq]
theorem dropTs_keepR {G : HGh} {R : List T2} (ke : G.holds.map (·.1) = G.outs.map (·.1)) : dropTs G ((G.outs.map (·.1)).filter fun t => decide (t ∉ R)) = keepR G R := by
  have h1 := filter_in (fun q : T2 × Int => q.1) (l := G.outs) (ks := G.outs.map (·.1)) (R := R) fun q hq => List.mem_map_of_mem hq
  have h2 := filter_in (fun q : T2 × Addr × List T2 => q.1) (l := G.holds) (ks := G.outs.map (·.1)) (R := R) fun q hq => by rw [← ke]; exact List.mem_map_of_mem hq
  unfold dropTs keepR
  rw [h1, h2]
end FX

namespace FX
open PySem PySem.Spec PyProof.Rows L2
set_option linter.all false
theorem lst_ok {α : Type} {f : α → PyData} (h : ∀ x, (f x).canLay0 = true ∧ (f x).depth ≤ 5) (xs : List α) : Okd (.list (xs.map f)) := okd_list fun d hd => by
  obtain ⟨x, _, e⟩ := List.mem_map.mp hd
  rw [← e]
  exact ⟨(h x).1, Nat.le_trans (h x).2 (by decide)⟩
theorem thD_ok5 (t : T2) : (thD t).canLay0 = true ∧ (thD t).depth ≤ 5 := ⟨(thD_ok t).1, Nat.le_trans (thD_ok t).2 (by decide)⟩
theorem nil_ok : Okd (.list []) := okd_list fun _ h => by cases h
theorem eqv_nilT {α : Type} (f : α → PyData) (xs : List α) : PyData.eqv (.list (xs.map f)) (.list []) = xs.isEmpty := by
  rw [eqv_nil]; cases xs <;> rfl
end FX

namespace FX
open PySem PySem.Spec PyProof.Rows L2
set_option linter.all false
theorem kys_thsK {H : Hp} {α : Type} {k : α → T2} {f : α → V} : ∀ {l : List α} {as : List Addr}, Kys H (l.map fun q => (tk (k q), f q)) as → ThsAt H as (l.map k)
  | [], as, h => by cases h; exact .nil
  | t :: l, as, h => by
    cases h with
    | cons h1 h2 => exact .cons (by rw [← tk_kV]; exact h1) (kys_thsK h2)
theorem filter_snoc {α : Type} (k : α → T2) (l : List α) (ts : List T2) (t : T2) : (l.filter fun q => decide (k q ∉ ts ++ [t])) = (l.filter fun q => decide (k q ∉ ts)).filter fun q => decide (k q ≠ t) := by
  rw [List.filter_filter]
  refine List.filter_congr fun q _ => ?_
  by_cases c1 : k q ∈ ts <;> by_cases c2 : k q = t <;> simp [c1, c2]
/-- a list of its own is none of the rows' -/
theorem ModelAt.lst_ne {H : Hp} {p : Addr} {G : HGh} (x : ModelAt H p G) {b : Addr} {xs : List V} (hb : H b = some (.lst xs)) : b ≠ p := ne_of hb x.ob (by intro z; cases z)
theorem ModelAt.foot_dropTs {G : HGh} (ts : List T2) {b : Addr} (h : b ∈ foot (dropTs G ts)) : b ∈ foot G := by
  have : (foot (dropTs G ts)).Sublist (foot G) := foot_sub (G := { G with outs := (dropTs G ts).outs }) List.filter_sublist
  exact this.subset h
end FX

namespace FX
open PySem PySem.Spec PyProof.Rows L2
set_option linter.all false
def heldL (M : HGh) (i : Nat) : List T2 := M.hand ++ (M.holds.take i).flatMap (·.2.2)
theorem heldL_succ (M : HGh) {i : Nat} {q : T2 × Addr × List T2} (h : M.holds[i]? = some q) : heldL M (i + 1) = heldL M i ++ q.2.2 := by
  unfold heldL
  rw [List.take_succ, h, List.flatMap_append, List.append_assoc]
  simp
theorem heldL_len {n : Nat} (M : HGh) (h : ∀ q ∈ M.holds, q.2.2.length ≤ n) : ∀ i, (heldL M i).length ≤ M.hand.length + i * n := by
  have go : ∀ (l : HL), (∀ q ∈ l, q.2.2.length ≤ n) → (l.flatMap (·.2.2)).length ≤ l.length * n := by
    intro l
    induction l with
    | nil => intro _; simp
    | cons q l ih =>
      intro hl
      have h1 := ih fun r hr => hl r (List.mem_cons_of_mem _ hr)
      have h2 := hl q (List.mem_cons_self ..)
      rw [List.flatMap_cons, List.length_append, List.length_cons, Nat.add_mul, Nat.one_mul]
      lia
  intro i
  have h1 := go (M.holds.take i) fun q hq => h q (List.mem_of_mem_take hq)
  have h2 : (M.holds.take i).length * n ≤ i * n := Nat.mul_le_mul_right _ (List.length_take_le _ _)
  unfold heldL
  rw [List.length_append]
  lia
theorem heldL_mem (M : HGh) (t : T2) : decide (t ∈ heldL M M.holds.length) = heldB M t := by
  rw [← heldB_mem]
  have : t ∈ heldL M M.holds.length ↔ t ∈ handAll M.hand M.holds := by
    unfold heldL
    rw [List.take_length, mem_handAll, List.mem_append, List.mem_flatMap]
  by_cases c : t ∈ heldL M M.holds.length
  · rw [decide_eq_true c, decide_eq_true (this.mp c)]
  · rw [decide_eq_false c, decide_eq_false fun z => c (this.mpr z)]
end FX

namespace FX
open PySem PySem.Spec PyProof.Rows L2
set_option linter.all false
structure TwoW (C p m : Addr) (H : Hp) (G M : HGh) (n : Nat) : Prop where
  hs : HouseAt C H p G
  md : ModelAt H m M
  lk : LikeW M G
  ok : Ok G n
  wk : Wk G
  dj : Dj p m G M
section
variable {C p m : Addr} {H H' : Hp} {G M : HGh} {n : Nat}
theorem TwoW.same (t : TwoW C p m H G M n) (s : Same H H') : TwoW C p m H' G M n := ⟨t.hs.same s, t.md.same s, t.lk, t.ok, t.wk, t.dj⟩
theorem LikeW.mk2 (x : LikeW M G) (a b : Addr) : LikeW (mkG M a) (tk1 (mkG G b)) := by
  have y := Like.mk2 x a b
  exact ⟨y.num, y.made, rfl, y.hand, y.outs, y.recs, y.holds⟩
theorem Wk.mkG (x : Wk G) (a : Addr) : Wk (tk1 (mkG G a)) := by
  refine ⟨x.nn, fun t ht e => ?_⟩
  have ht : t ∈ G.hand ++ [(G.num, G.made)] := ht
  rcases List.mem_append.mp ht with ht | ht
  · exact x.hr t ht e
  · have : t = (G.num, G.made) := by simpa using ht
    exact absurd (by rw [this]; rfl) e
theorem Dj.mkM' (d : Dj p m G M) (S : HouseAt C H p G) {a : Addr} (ha : H a = none) : Dj p m G (mkG M a) := d.mkM S ha
theorem putI_new {l : List (T2 × Int)} {t : T2} (h : t ∉ l.map (·.1)) (v : Int) : putI l t v = l ++ [(t, v)] := by unfold putI; rw [if_neg h]
theorem getI_no {l : List (T2 × Int)} {t : T2} (h : t ∉ l.map (·.1)) : getI' l t = 0 := by
  unfold getI'
  rw [List.find?_eq_none.mpr fun q hq => by
    have : ¬ q.1 = t := fun z => h (List.mem_map.mpr ⟨q, hq, z⟩)
    simpa using this]
  rfl
theorem nd_len : ∀ {l m : List T2}, l.Nodup → (∀ x ∈ l, x ∈ m) → l.length ≤ m.length
  | [], _, _, _ => Nat.zero_le _
  | x :: l, m, nd, h => by
    have nd := List.nodup_cons.mp nd
    have hx := h x (List.mem_cons_self ..)
    have ih : l.length ≤ (m.erase x).length := nd_len nd.2 fun y hy => (List.mem_erase_of_ne (fun (z : y = x) => nd.1 (by rw [← z]; exact hy))).mpr (h y (List.mem_cons_of_mem _ hy))
    rw [List.length_erase_of_mem hx] at ih
    have : 0 < m.length := List.length_pos_of_mem hx
    show l.length + 1 ≤ m.length
    lia
/-- what is in the hand, and what is held, is of the few; what is held was in the hand -/
structure Few (G : HGh) : Prop where
  n0 : 0 ≤ G.num
  n1 : G.num < 12
  hd : ∀ t ∈ G.hand, InR t ∧ t.2 < 9
  hl : ∀ q ∈ G.holds, ∀ t ∈ q.2.2, InR t ∧ t.2 < 9
  rc : ∀ t ∈ G.recs.map (·.1), t.2 < 9
end
end FX

namespace FX
open PySem PySem.Spec PyProof.Rows L2
set_option linter.all false
theorem lw {M' G' : HGh} (n : M'.num = G'.num) (m : M'.made = G'.made) (h : M'.hand = G'.hand) (o : M'.outs = G'.outs) (r : M'.recs = G'.recs) (l : hs0 M'.holds = hs0 G'.holds) : LikeW M' G' := ⟨n, m, rfl, h, o, r, l⟩
/-- all that is held is in the hand -/
def Had (G : HGh) : Prop := ∀ q ∈ G.holds, ∀ t ∈ q.2.2, t ∈ G.hand
theorem adr_nd {p : Addr} {G : HGh} (h : (p :: foot G).Nodup) : (G.holds.map (·.2.1)).Nodup := by
  have := (List.nodup_cons.mp h).2
  unfold foot at this
  simp only [List.nodup_cons] at this
  exact this.2.2.2.2
theorem adr_ndH {G : HGh} (h : (foot G).Nodup) : (G.holds.map (·.2.1)).Nodup := by
  unfold foot at h
  simp only [List.nodup_cons] at h
  exact h.2.2.2.2
theorem upd_id {H : Hp} {a : Addr} {o : HO} (h : H a = some o) : upd H a o = H := by
  funext c
  by_cases z : c = a
  · rw [z, upd_same, h]
  · rw [upd_ne z]
end FX

namespace FX
open PySem PySem.Spec PyProof.Rows L2
set_option linter.all false
theorem mf_put_hand (G : HGh) (y : Addr) : putK (mflds G) (.inr "hand") (.ref y) = mflds { G with h := y } := by
  have h : ((mflds G).any fun kv => decide (kv.1 = .inr "hand")) = true := by rw [valV_any, mf_hand]; rfl
  unfold putK
  rw [if_pos h]
  unfold mflds
  simp only [List.map_cons, List.map_nil, if_neg (kne n_house_hand), if_neg (kne n_holds_hand), if_neg (kne n_outs_hand), if_neg (kne n_records_hand), if_neg (kne n_made_hand), if_neg (kne n_ticks_hand), if_true]
section
variable {p : Addr} {H H' : Hp} {G : HGh}
theorem ModelAt.pHand (x : ModelAt H p G) (y : Addr) : DPut H p (.str "hand") (.ref y) (upd H p (.dK (mflds { G with h := y }))) := by have := DPut.k (k := .inr "hand") (v := .ref y) x.ob (mf_len G); rw [mf_put_hand] at this; exact this
/-- another list for the hand -/
theorem ModelAt.newHand (x : ModelAt H p G) {y : Addr} {as : List Addr} {ts : List T2} (hy : H y = some (.lst (as.map V.ref))) (th : ThsAt H as ts) (nf : y ≠ p ∧ y ∉ foot G) : ModelAt (upd H p (.dK (mflds { G with h := y }))) p { G with h := y, hand := ts } := by
  have n : ∀ {b}, b ∈ foot G → b ≠ p := fun hb => x.p_ne hb
  have m1 : G.o ∈ foot G := by simp [foot]
  have m2 : G.l ∈ foot G := by simp [foot]
  have m3 : G.r ∈ foot G := by simp [foot]
  have kt := x.kw (b := p) (.inl rfl) (.dK (mflds { G with h := y }))
  refine ⟨upd_same, ⟨as, by rw [upd_ne nf.1]; exact hy, th.keep kt⟩, by rw [upd_ne (n m1)]; exact x.dO, by rw [upd_ne (n m2)]; exact x.dl, by rw [upd_ne (n m3)]; exact x.dr, fun q hq => (x.hl q hq).up (n (mem_foot_hold hq)) kt, ?_⟩
  have nd := x.nd
  have nf2 := nf.2
  unfold foot at nd nf2 ⊢
  simp only [List.nodup_cons, List.mem_cons, not_or] at nd nf2 ⊢
  obtain ⟨⟨a1, a2, a3, a4, a5⟩, ⟨b1, b2, b3, b4⟩, c, d, e, f⟩ := nd
  exact ⟨⟨nf.1.symm, a2, a3, a4, a5⟩, ⟨nf2.2.1, nf2.2.2.1, nf2.2.2.2.1, nf2.2.2.2.2⟩, c, d, e, f⟩
theorem foot_newHand {y b : Addr} {ts : List T2} (h : b ∈ foot { G with h := y, hand := ts }) : b = y ∨ b ∈ foot G := by
  unfold foot at h ⊢
  rcases List.mem_cons.mp h with h | h
  · exact .inl h
  · exact .inr (List.mem_cons_of_mem _ h)
end
theorem cut_tail (x : V) (xs : List V) : cutV (x :: xs) (some 1) none = xs := by
  unfold cutV
  rw [show HT.sIx (x :: xs).length 0 (some 1) = min 1 (x :: xs).length from HT.sIx_nat _ _ 1, HT.sIx_none]
  have : min 1 (x :: xs).length = 1 := by rw [List.length_cons]; lia
  rw [this]
  show (xs.take ((x :: xs).length - 1)) = xs
  rw [List.length_cons, Nat.add_sub_cancel, List.take_length]
theorem cut_head (x : V) (xs : List V) : cutV (x :: xs) none (some 1) = [x] := by
  unfold cutV
  rw [show HT.sIx (x :: xs).length (x :: xs).length (some 1) = min 1 (x :: xs).length from HT.sIx_nat _ _ 1, HT.sIx_none]
  have : min 1 (x :: xs).length = 1 := by rw [List.length_cons]; lia
  rw [this]
  rfl
theorem HouseAt.new_ne {C p : Addr} {H : Hp} {G : HGh} (x : HouseAt C H p G) {b : Addr} (hb : H b = none) : b ≠ p ∧ b ∉ foot G := by
  obtain ⟨dx, e⟩ := x.ob
  refine ⟨fun z => (by rw [z, e] at hb; cases hb), fun m => ?_⟩
  obtain ⟨kvs, e⟩ := x.foot_dT m
  rw [hb] at e; cases e
theorem delT_mid {a b : List T2} {t : T2} (h : (a ++ t :: b).Nodup) : delT (a ++ t :: b) t = a ++ b := by
  have n1 : t ∉ a := fun z => (List.nodup_append.mp h).2.2 t z t (List.mem_cons_self ..) rfl
  have n2 : t ∉ b := (List.nodup_cons.mp (List.nodup_append.mp h).2.1).1
  unfold delT
  rw [List.filter_append, List.filter_cons, if_neg (by simp)]
  rw [List.filter_eq_self.mpr fun y hy => by simp; exact fun z => n1 (z ▸ hy), List.filter_eq_self.mpr fun y hy => by simp; exact fun z => n2 (z ▸ hy)]
end FX

namespace FX
open PySem PySem.Spec PyProof.Rows L2
set_option linter.all false
theorem keys_hs0 (l : HL) : l.map (·.1) = (hs0 l).map (·.1) := by unfold hs0; rw [List.map_map]; rfl
theorem hs0_filter (l : HL) (R : List T2) : hs0 (l.filter fun q => decide (q.1 ∈ R)) = (hs0 l).filter fun q => decide (q.1 ∈ R) := by
  unfold hs0
  rw [List.filter_map]; rfl
section
variable {G M : HGh} {n : Nat} {R : List T2}
theorem LikeW.keys (x : LikeW M G) : M.holds.map (·.1) = G.holds.map (·.1) := by rw [keys_hs0, keys_hs0, show hs0 M.holds = hs0 G.holds from x.holds]
theorem LikeW.nx (x : LikeW M G) : nxT M.holds = nxT G.holds := by
  funext t
  unfold nxT
  rw [show getH M.holds t = getH G.holds t from Like.getH x t, x.keys]
theorem LikeW.keepR (x : LikeW M G) (R : List T2) : LikeW (FX.keepR M R) (FX.keepR G R) := by
  refine ⟨x.num, x.made, rfl, x.hand, ?_, x.recs, ?_⟩
  · show M.outs.filter _ = G.outs.filter _
    rw [show M.outs = G.outs from x.outs]
  · show hs0 (M.holds.filter fun q => decide (q.1 ∈ R)) = hs0 (G.holds.filter fun q => decide (q.1 ∈ R))
    rw [hs0_filter, hs0_filter, show hs0 M.holds = hs0 G.holds from x.holds]
theorem heldB_hs0 (G : HGh) (t : T2) : heldB G t = (decide (t ∈ G.hand) || (hs0 G.holds).any fun q => decide (t ∈ q.2)) := by
  unfold heldB hs0
  rw [List.any_map]; rfl
theorem LikeW.heldB (x : LikeW M G) (t : T2) : FX.heldB M t = FX.heldB G t := by
  rw [heldB_hs0, heldB_hs0, show M.hand = G.hand from x.hand, show hs0 M.holds = hs0 G.holds from x.holds]
theorem LikeW.keepB (x : LikeW M G) : LikeW (FX.keepB M) (FX.keepB G) := by
  refine ⟨x.num, x.made, rfl, x.hand, x.outs, ?_, x.holds⟩
  show M.recs.filter (fun q => FX.heldB M q.1) = G.recs.filter (fun q => FX.heldB G q.1)
  rw [show M.recs = G.recs from x.recs]
  exact List.filter_congr fun q _ => x.heldB q.1
theorem LikeW.tk1 (x : LikeW M G) : LikeW M (FX.tk1 G) := ⟨x.num, x.made, rfl, x.hand, x.outs, x.recs, x.holds⟩
theorem mem_nx (ok : Ok G n) {q : T2 × Addr × List T2} (hq : q ∈ G.holds) {t : T2} (ht : t ∈ q.2.2) (e : t ∈ G.holds.map (·.1)) : t ∈ nxT G.holds q.1 := by
  have nd : (G.holds.map (·.1)).Nodup := by rw [ok.ke]; exact ok.on
  have f := find_self (k := fun q : T2 × Addr × List T2 => q.1) nd hq
  have : getH G.holds q.1 = q.2.2 := by unfold getH; rw [f]; rfl
  unfold nxT
  rw [this]
  exact List.mem_filter.mpr ⟨ht, by simpa using e⟩
theorem Ok.keepB (ok : Ok G n) : Ok (FX.keepB G) n :=
  ⟨ok.hn, ok.hz, ok.on, ok.oz, ok.ke, ok.rn.sublist (List.filter_sublist.map _), Nat.le_trans (List.length_filter_le _ _) ok.rz, ok.ln, ok.new, ok.hk, ok.lk, fun t ht => ok.rk t ((List.filter_sublist.map _).subset ht)⟩
theorem Few.keepR (x : Few G) : Few (FX.keepR G R) := ⟨x.n0, x.n1, x.hd, fun q hq => x.hl q (List.mem_filter.mp hq).1, x.rc⟩
theorem Few.keepB (x : Few G) : Few (FX.keepB G) := ⟨x.n0, x.n1, x.hd, x.hl, fun t ht => x.rc t ((List.filter_sublist.map _).subset ht)⟩
theorem nx_sub (hl : HL) (t : T2) : ∀ u ∈ nxT hl t, u ∈ hl.map (·.1) := fun u hu => by
  have := (List.mem_filter.mp hu).2
  simpa using this
end
/-- a house that was cleaned -/
def done1 (G : HGh) (R : List T2) : HGh := tk1 (keepB (keepR G R))
section
variable {G M : HGh} {n : Nat} {R : List T2}
theorem recs_done {q : T2 × Int} (h : q ∈ (done1 G R).recs) : heldB (done1 G R) q.1 = true := (List.mem_filter.mp (show q ∈ G.recs.filter (fun q => heldB (keepR G R) q.1) from h)).2
theorem keepB_done : keepB (done1 G R) = done1 G R := by
  have a1 : (done1 G R).recs.filter (fun q => heldB (done1 G R) q.1) = (done1 G R).recs := List.filter_eq_self.mpr fun q hq => recs_done hq
  show { done1 G R with recs := (done1 G R).recs.filter (fun q => heldB (done1 G R) q.1) } = done1 G R
  rw [a1]
end
end FX

namespace FX
open PySem PySem.Spec PyProof.Rows L2
set_option linter.all false
section
variable {G M : HGh} {n : Nat} {R : List T2}
/-- what is reached from the hand, and perhaps from more, stays -/
theorem Ok.keepR' (ok : Ok G n) (st : ∀ t ∈ G.hand, t ∈ G.holds.map (·.1) → t ∈ R) (cl : ∀ t ∈ R, ∀ u ∈ nxT G.holds t, u ∈ R) : Ok (FX.keepR G R) n := by
  have mem : ∀ t, t ∈ G.outs.map (·.1) → t ∈ R → t ∈ (G.outs.filter fun q => decide (q.1 ∈ R)).map (·.1) := fun t h1 h2 => by
    rw [filter_keys (fun q : T2 × Int => q.1) G.outs (fun t => decide (t ∈ R))]
    exact List.mem_filter.mpr ⟨h1, by simpa using h2⟩
  have sub : ∀ t, t ∈ (G.outs.filter fun q => decide (q.1 ∈ R)).map (·.1) → t ∈ G.outs.map (·.1) := fun t h => (List.filter_sublist.map _).subset h
  refine ⟨ok.hn, ok.hz, ok.on.sublist (List.filter_sublist.map _), Nat.le_trans (List.length_filter_le _ _) ok.oz, ?_, ok.rn, ok.rz, fun q hq => ok.ln q (List.mem_filter.mp hq).1, fun t ht => ok.new t (sub t ht), fun t ht e => ?_, fun q hq t ht e => ?_, ok.rk⟩
  · show (G.holds.filter fun q => decide (q.1 ∈ R)).map (·.1) = (G.outs.filter fun q => decide (q.1 ∈ R)).map (·.1)
    rw [filter_keys (fun q : T2 × Addr × List T2 => q.1) G.holds (fun t => decide (t ∈ R)), filter_keys (fun q : T2 × Int => q.1) G.outs (fun t => decide (t ∈ R)), ok.ke]
  · have h1 := ok.hk t ht e
    exact mem t h1 (st t ht (by rw [ok.ke]; exact h1))
  · obtain ⟨hq1, hq2⟩ := List.mem_filter.mp hq
    have h1 := ok.lk q hq1 t ht e
    exact mem t h1 (cl q.1 (by simpa using hq2) t (mem_nx ok hq1 ht (by rw [ok.ke]; exact h1)))
theorem Rch.of' (ok : Ok G 14) (ol : G.outs.length ≤ 9) (ts : List T2) (hz : ts.length ≤ 30) : ∃ m R, m ≤ 400 ∧ Rch (nxT G.holds) m (ts.filter fun t => decide (t ∈ G.holds.map (·.1))) [] R := by
  have l1 : (G.holds.map (·.1)).length ≤ 9 := by rw [ok.ke, List.length_map]; exact ol
  have l2 : (ts.filter fun t => decide (t ∈ G.holds.map (·.1))).length ≤ 30 := Nat.le_trans (List.length_filter_le _ _) hz
  have l3 : ((G.holds.map (·.1)).filter fun t => decide (t ∉ ([] : List T2))).length ≤ 9 := Nat.le_trans (List.length_filter_le _ _) l1
  obtain ⟨m, R, h1, h2⟩ := Rch.ex (nx := nxT G.holds) (keys := G.holds.map (·.1)) (B := 14) (nx_sub G.holds) (fun t => Nat.le_trans (List.length_filter_le _ _) (ok.get t).2.1) 400 (ts.filter fun t => decide (t ∈ G.holds.map (·.1))) [] (fun t ht => by have := (List.mem_filter.mp ht).2; simpa using this) (by
    have : ((G.holds.map (·.1)).filter fun t => decide (t ∉ ([] : List T2))).length * (14 + 1) ≤ 9 * (14 + 1) := Nat.mul_le_mul_right _ l3
    lia)
  exact ⟨m, R, h1, h2⟩
/-- what goes is what does not stay, in any order, and one that is not there -/
theorem dropTs_goes (ok : Ok G n) {ks gs : List T2} (hm : ∀ t, t ∈ G.outs.map (·.1) → (t ∈ gs ↔ t ∉ R)) : dropTs G gs = FX.keepR G R := by
  have h1 : (G.outs.filter fun q => decide (q.1 ∉ gs)) = G.outs.filter fun q => decide (q.1 ∈ R) := List.filter_congr fun q hq => by
    have := hm q.1 (List.mem_map_of_mem hq)
    by_cases c : q.1 ∈ R <;> simp [c, this]
  have h2 : (G.holds.filter fun q => decide (q.1 ∉ gs)) = G.holds.filter fun q => decide (q.1 ∈ R) := List.filter_congr fun q hq => by
    have := hm q.1 (by rw [← ok.ke]; exact List.mem_map_of_mem hq)
    by_cases c : q.1 ∈ R <;> simp [c, this]
  unfold dropTs FX.keepR
  rw [h1, h2]
theorem dropTs_none (ok : Ok G n) {gs : List T2} (hm : ∀ t, t ∈ G.outs.map (·.1) → t ∉ gs) : dropTs G gs = G := by
  have h1 : (G.outs.filter fun q => decide (q.1 ∉ gs)) = G.outs := List.filter_eq_self.mpr fun q hq => by
    have := hm q.1 (List.mem_map_of_mem hq)
    simpa using this
  have h2 : (G.holds.filter fun q => decide (q.1 ∉ gs)) = G.holds := List.filter_eq_self.mpr fun q hq => by
    have := hm q.1 (by rw [← ok.ke]; exact List.mem_map_of_mem hq)
    simpa using this
  unfold dropTs
  rw [h1, h2]
end
end FX

namespace K15
open PySem L2 FX
set_option linter.all false
/-! ### the text by places -/
def top (i : Nat) : Stmt := PySem.Challenge.pw_farhold_k15_let.main.body.getD i (.Pass ⟨0, 0, 0, 0⟩)
abbrev sInit : Stmt := inClass (top 9) 0
abbrev sMake : Stmt := inClass (top 9) 1
abbrev sHold : Stmt := inClass (top 9) 2
abbrev sDrop : Stmt := inClass (top 9) 3
abbrev sTake : Stmt := inClass (top 9) 4
abbrev sFree : Stmt := inClass (top 9) 5
abbrev sPart : Stmt := inClass (top 9) 6
abbrev sCame : Stmt := inClass (top 9) 7
abbrev sAdded : Stmt := inClass (top 9) 8
abbrev sGiven : Stmt := inClass (top 9) 9
abbrev sPassed : Stmt := inClass (top 9) 10
abbrev sTick : Stmt := inClass (top 9) 13
abbrev sState : Stmt := inClass (top 9) 14
abbrev sTold : Stmt := inClass (top 9) 15
abbrev sNear : Stmt := inClass (top 9) 16
abbrev sNeedH : Stmt := inClass (top 9) 18
abbrev sNeedN : Stmt := inClass (top 9) 19
abbrev sNeedHo : Stmt := inClass (top 9) 20
abbrev sPartR : Stmt := inClass (top 9) 21
abbrev sAddR : Stmt := inClass (top 9) 22
abbrev sCell : Stmt := top 11
abbrev sParted : Stmt := top 7
abbrev sModel : Stmt := top 12
abbrev sMState : Stmt := top 13
abbrev sMMade : Stmt := top 14
abbrev sMNear : Stmt := top 15
abbrev sMBacks : Stmt := top 16
abbrev sMLeft : Stmt := top 17
abbrev sBegun : Stmt := top 18
abbrev sJoined : Stmt := top 19
abbrev sLaw : Stmt := top 20
abbrev sLet : Stmt := inClass (top 9) 12
abbrev sLose : Stmt := inClass (top 9) 23
abbrev sGive : Stmt := inClass (top 9) 24
structure Txt (K : PySem.W.Frag) (mg : Str → Option Value) (C NHd NNr MI NW : Addr) : Prop where
  cl : Cls K C
  nN : NoAttr K C "number"
  nM : NoAttr K C "made"
  nT : NoAttr K C "ticks"
  nH : NoAttr K C "hand"
  nO : NoAttr K C "outs"
  nL : NoAttr K C "holds"
  nR : NoAttr K C "records"
  mgC : mg "House" = some (.ref C)
  cNHd : XCls K mg "NotHeld" NHd
  cNNr : XCls K mg "NotNear" NNr
  cNW : XCls K mg "NoWeight" NW
  len : mg "len" = none
  range : mg "range" = none
  tuple : mg "tuple" = none
  sorted : mg "sorted" = none
  isi : mg "isinstance" = none
/-! ### what the methods promise -/
def spNear (C : Addr) : Sp := fun vs H Q _ => ∃ (p t : Addr) (G : HGh) (th : T2), vs = [.ref p, .ref t] ∧ HouseAt C H p G ∧ H t = some (.tup (tv th)) ∧ Q (.bl (decide (th.1 = G.num))) H
def spNeedH (C NHd : Addr) : Sp := fun vs H Q E => ∃ (p t : Addr) (G : HGh) (th : T2), vs = [.ref p, .ref t] ∧ HouseAt C H p G ∧ H t = some (.tup (tv th)) ∧ ((th ∈ G.hand ∧ Q .non H) ∨ (th ∉ G.hand ∧ E (.ref NHd) none H))
def spNeedN (C NNr : Addr) : Sp := fun vs H Q E => ∃ (p t : Addr) (G : HGh) (th : T2), vs = [.ref p, .ref t] ∧ HouseAt C H p G ∧ H t = some (.tup (tv th)) ∧ ((th.1 = G.num ∧ Q .non H) ∨ (th.1 ≠ G.num ∧ E (.ref NNr) none H))
/-- a holds b, or what is due -/
def Holding (G : HGh) (ta tb : T2) (good : Addr → List T2 → Prop) (nh nn mi : Prop) : Prop :=
  (ta ∉ G.hand ∧ nh) ∨ (ta ∈ G.hand ∧ ta.1 ≠ G.num ∧ nn) ∨ (ta ∈ G.hand ∧ ta.1 = G.num ∧ ∃ (a : Addr) (hl : List T2), G.holds.find? (fun q => decide (q.1 = ta)) = some (ta, a, hl) ∧ ((tb ∉ hl ∧ mi) ∨ (tb ∈ hl ∧ good a hl)))
def spNeedHo (C NHd NNr MI : Addr) : Sp := fun vs H Q E => ∃ (p a b : Addr) (G : HGh) (ta tb : T2), vs = [.ref p, .ref a, .ref b] ∧ HouseAt C H p G ∧ H a = some (.tup (tv ta)) ∧ H b = some (.tup (tv tb)) ∧
  Holding G ta tb (fun _ _ => Q .non H) (E (.ref NHd) none H) (E (.ref NNr) none H) (E (.ref MI) none H)
section
variable {P : Program} {w : World} {K : PySem.W.Frag} {mg : Str → Option Value} {base : Heap} {C NHd NNr MI NW : Addr}
theorem scN : FnScope ["self", "thing"] ["self", "thing"] (defScope sNear) := ⟨rfl, rfl, rfl, by decide +kernel, rfl, by decide +kernel, by decide +kernel⟩
theorem ok_near {f : Addr} {fd : FuncData} (F : Fun K "is_near" "House.is_near" sNear f fd) (T : Txt K mg C NHd NNr MI NW) : FnOk P w K mg base CX0 1 f fd ["self", "thing"] (spNear C) := by
  refine F.ok scN (fun vs H Q E h => ?_) (fun cdv A outer s H vs Q E hr h => ?_)
  · obtain ⟨p, t, G, th, rfl, _⟩ := h
    rfl
  · obtain ⟨p, t, G, th, rfl, S, ht, k⟩ := h
    obtain ⟨dx, hp⟩ := S.ob
    refine ⟨_, pss_one (ps_ret (pe_cmp (pc_eqI (pe_ix ix_tup (pv 1) pe_int (fun _ _ => rfl)) (pe_fld (pv 0) rfl)))), ?_⟩
    exact ⟨_, rfl, ⟨t, _, 0, _, rfl, rfl, SqT.of ht, rfl, _, rfl, p, C, dx, _, _, rfl, hp, T.cl, T.nN, hf_number G, _, _, rfl, rfl, k⟩⟩
theorem hand_in {H : Hp} {d t : Addr} {l : List T2} {th : T2} (hd : H d = some (dHand l)) (ht : H t = some (.tup (tv th))) : DGet H d (.ref t) (if th ∈ l then some (V.bl true) else none) := by
  have := DGet.t (k := tk th) hd ht
  rw [valV_hand] at this
  exact this
theorem scNH : FnScope ["self", "thing"] ["self", "thing"] (defScope sNeedH) := ⟨rfl, rfl, rfl, by decide +kernel, rfl, by decide +kernel, by decide +kernel⟩
theorem ok_needH {f : Addr} {fd : FuncData} (F : Fun K "need_in_hand" "House.need_in_hand" sNeedH f fd) (T : Txt K mg C NHd NNr MI NW) : FnOk P w K mg base (CX1 P w) 1 f fd ["self", "thing"] (spNeedH C NHd) := by
  refine ok1 F scNH (fun vs H Q E h => ?_) (fun cdv A outer s H vs Q E hr h => ?_)
  · obtain ⟨p, t, G, th, rfl, _⟩ := h
    rfl
  · obtain ⟨p, t, G, th, rfl, S, ht, k⟩ := h
    have hu := hu_of hr
    obtain ⟨dx, hp⟩ := S.ob
    refine ⟨_, pss_one (ps_if (pt_cmp (pc_dnotin hu (pv 1) (pe_fld (pv 0) rfl))) (pss_one (ps_raise rfl rfl T.cNHd raises1)) pss_nil), ?_⟩
    refine ⟨_, rfl, _, rfl, p, C, dx, _, _, rfl, hp, T.cl, T.nH, hf_hand G, G.h, _, rfl, hand_in S.dh ht, _, rfl, ?_⟩
    rcases k with ⟨h, k⟩ | ⟨h, k⟩
    · rw [if_pos h]; exact iteF k
    · rw [if_neg h]; exact iteT k
end
end K15

namespace K15
open PySem L2 FX
set_option linter.all false
/-- a method: its def, its binding, its place in the class -/
structure Mth (K : PySem.W.Frag) (C : Addr) (x qual : Str) (st : Stmt) (ps : List Str) (f : Addr) (fd : FuncData) : Prop where
  fn : Fun K x qual st f fd
  bd : Binds K fd ps []
  mt : Meth K C x f
section
variable {P : Program} {w : World} {K : PySem.W.Frag} {mg : Str → Option Value} {base : Heap} {C NHd NNr MI NW : Addr}
theorem scNN : FnScope ["self", "thing"] ["self", "thing"] (defScope sNeedN) := ⟨rfl, rfl, rfl, by decide +kernel, rfl, by decide +kernel, by decide +kernel⟩
theorem ok_needN {f f1 : Addr} {fd fd1 : FuncData} (F : Fun K "need_near" "House.need_near" sNeedN f fd) (T : Txt K mg C NHd NNr MI NW) (M1 : Mth K C "is_near" "House.is_near" sNear ["self", "thing"] f1 fd1) : FnOk P w K mg base (CX1 P w) 2 f fd ["self", "thing"] (spNeedN C NNr) := by
  have G1 : FnOk P w K mg base (CX1 P w) 1 f1 fd1 ["self", "thing"] (spNear C) := FX.FnOk.to1 (ok_near M1.fn T)
  refine ok1 F scNN (fun vs H Q E h => ?_) (fun cdv A outer s H vs Q E hr h => ?_)
  · obtain ⟨p, t, G, th, rfl, _⟩ := h
    rfl
  · obtain ⟨p, t, G, th, rfl, S, ht, k⟩ := h
    have hu := hu_of hr
    obtain ⟨dx, hp⟩ := S.ob
    refine ⟨_, pss_one (ps_if (pt_not (pt_val (pe_meth (pl := _) (pv 0) T.cl M1.mt G1 hr M1.bd .nil pass1 (pa_cons (pv 1) pa_nil)))) (pss_one (ps_raise rfl rfl T.cNNr raises1)) pss_nil), ?_⟩
    refine ⟨_, rfl, p, dx, _, rfl, hp, hf_no G (by decide +kernel), _, rfl, p, t, G, th, rfl, S, ht, _, rfl, ?_⟩
    rcases k with ⟨h, k⟩ | ⟨h, k⟩
    · rw [decide_eq_true h]; exact iteF k
    · rw [decide_eq_false h]; exact iteT k
theorem holds_get {H : Hp} {p t : Addr} {G : HGh} {th : T2} {a : Addr} {hl : List T2} (S : HouseAt C H p G) (ht : H t = some (.tup (tv th))) (f : G.holds.find? (fun q => decide (q.1 = th)) = some (th, a, hl)) : DGet H G.l (.ref t) (some (V.ref a)) ∧ H a = some (dHand hl) ∧ (th, a, hl) ∈ G.holds := by
  have := DGet.t (k := tk th) S.dl ht
  rw [valV_tk (k := fun q : T2 × Addr × List T2 => q.1) (f := fun q => V.ref q.2.1), f] at this
  exact ⟨this, S.hl _ (List.mem_of_find?_eq_some f), List.mem_of_find?_eq_some f⟩
end
end K15

namespace K15
open PySem L2 FX
set_option linter.all false
section
variable {P : Program} {w : World} {K : PySem.W.Frag} {mg : Str → Option Value} {base : Heap} {C NHd NNr MI NW : Addr}
/-- a deed that is done: the house as told, and nothing else touched -/
def Done (C : Addr) (p : Addr) (G : HGh) (H : Hp) (G' : HGh) (k : Hp → Prop) : Prop := ∀ H', HouseAt C H' p G' → HFr p G H H' → k H'
def spHold (C NHd NNr : Addr) : Sp := fun vs H Q E => ∃ (p a b : Addr) (G : HGh) (ta tb : T2), vs = [.ref p, .ref a, .ref b] ∧ HouseAt C H p G ∧ H a = some (.tup (tv ta)) ∧ H b = some (.tup (tv tb)) ∧
  ((¬ (ta ∈ G.hand ∧ tb ∈ G.hand) ∧ E (.ref NHd) none H) ∨ (ta ∈ G.hand ∧ tb ∈ G.hand ∧ ta.1 ≠ G.num ∧ E (.ref NNr) none H) ∨
   (ta ∈ G.hand ∧ tb ∈ G.hand ∧ ta.1 = G.num ∧ ∃ (ad : Addr) (hl : List T2), G.holds.find? (fun q => decide (q.1 = ta)) = some (ta, ad, hl) ∧ hl.length ≤ 500 ∧
      Done C p G H { G with ticks := G.ticks + 1, holds := setL G.holds ad (addT hl tb) } (Q .non)))
def spDrop (C NHd NNr MI : Addr) : Sp := fun vs H Q E => ∃ (p a b : Addr) (G : HGh) (ta tb : T2), vs = [.ref p, .ref a, .ref b] ∧ HouseAt C H p G ∧ H a = some (.tup (tv ta)) ∧ H b = some (.tup (tv tb)) ∧
  Holding G ta tb (fun ad hl => Done C p G H { G with ticks := G.ticks + 1, holds := setL G.holds ad (delT hl tb) } (Q .non)) (E (.ref NHd) none H) (E (.ref NNr) none H) (E (.ref MI) none H)
def spTake (C NHd NNr MI : Addr) : Sp := fun vs H Q E => ∃ (p a b : Addr) (G : HGh) (ta tb : T2), vs = [.ref p, .ref a, .ref b] ∧ HouseAt C H p G ∧ H a = some (.tup (tv ta)) ∧ H b = some (.tup (tv tb)) ∧ G.hand.length ≤ 500 ∧
  Holding G ta tb (fun _ _ => Done C p G H { G with ticks := G.ticks + 1, hand := addT G.hand tb } (Q .non)) (E (.ref NHd) none H) (E (.ref NNr) none H) (E (.ref MI) none H)
def spFree (C NHd : Addr) : Sp := fun vs H Q E => ∃ (p b : Addr) (G : HGh) (tb : T2), vs = [.ref p, .ref b] ∧ HouseAt C H p G ∧ H b = some (.tup (tv tb)) ∧
  ((tb ∉ G.hand ∧ E (.ref NHd) none H) ∨ (tb ∈ G.hand ∧ Done C p G H { G with ticks := G.ticks + 1, hand := delT G.hand tb } (Q .non)))
/-- the tick, behind what was written into one of the house's dicts -/
theorem tick_done {p d : Addr} {G G1 : HGh} {H H1 : Hp} {o : HO} {dx : Addr} {k : Hp → Prop} (hd : d ∈ foot G) (hf : foot G1 = foot G) (e : H1 = upd H d o) (S1 : HouseAt C H1 p G1) (D : Done C p G H { G1 with ticks := G1.ticks + 1 } k) :
    k (upd H1 p (.ins C dx (hflds { G1 with ticks := G1.ticks + 1 }))) := by
  refine D _ (S1.fld dx G1.made (G1.ticks + 1)) fun b o' e1 h1 h2 => ?_
  rw [upd_ne h1, e, upd_ne (fun z => h2 (by rw [z]; exact hd))]
  exact e1
theorem scH : FnScope ["self", "a", "b"] ["self", "a", "b"] (defScope sHold) := ⟨rfl, rfl, rfl, by decide +kernel, rfl, by decide +kernel, by decide +kernel⟩
theorem foot_hold {G : HGh} {q : T2 × Addr × List T2} (h : q ∈ G.holds) : q.2.1 ∈ foot G := by
  unfold foot
  exact List.mem_cons_of_mem _ (List.mem_cons_of_mem _ (List.mem_cons_of_mem _ (List.mem_cons_of_mem _ (List.mem_map_of_mem h))))
theorem ok_hold {f f1 f2 f3 : Addr} {fd fd1 fd2 fd3 : FuncData} (F : Fun K "hold" "House.hold" sHold f fd) (T : Txt K mg C NHd NNr MI NW) (M1 : Mth K C "is_near" "House.is_near" sNear ["self", "thing"] f1 fd1)
    (M2 : Mth K C "need_in_hand" "House.need_in_hand" sNeedH ["self", "thing"] f2 fd2) (M3 : Mth K C "need_near" "House.need_near" sNeedN ["self", "thing"] f3 fd3) : FnOk P w K mg base (CX1 P w) 3 f fd ["self", "a", "b"] (spHold C NHd NNr) := by
  have G2 : FnOk P w K mg base (CX1 P w) 1 f2 fd2 ["self", "thing"] (spNeedH C NHd) := ok_needH M2.fn T
  have G3 : FnOk P w K mg base (CX1 P w) 2 f3 fd3 ["self", "thing"] (spNeedN C NNr) := ok_needN M3.fn T M1
  refine ok1 F scH (fun vs H Q E h => ?_) (fun cdv A outer s H vs Q E hr h => ?_)
  · obtain ⟨p, a, b, G, ta, tb, rfl, _⟩ := h
    rfl
  · obtain ⟨p, a, b, G, ta, tb, rfl, S, ha, hb, k⟩ := h
    have hu := hu_of hr
    have hr1 : Room 1 _ := hr.mono (by decide)
    obtain ⟨dx, hp⟩ := S.ob
    refine ⟨_, pss_cons (ps_expr (pe_meth (pl := _) (pv 0) T.cl M2.mt G2 hr1 M2.bd .nil pass1 (pa_cons (pv 1) pa_nil))) (pss_cons (ps_expr (pe_meth (pl := _) (pv 0) T.cl M2.mt G2 hr1 M2.bd .nil pass1 (pa_cons (pv 2) pa_nil))) (pss_cons (ps_expr (pe_meth (pl := _) (pv 0) T.cl M3.mt G3 hr M3.bd .nil pass1 (pa_cons (pv 1) pa_nil)))
      (pss_cons (ps_dput hu (pe_dget hu (pe_fld (pv 0) rfl) (pv 1) (fun _ _ => rfl)) (pv 2) pe_bl rfl) (pss_one (ps_fldaug (pv 0) pe_int in_add))))), ?_⟩
    refine ⟨_, rfl, p, dx, _, rfl, hp, hf_no G (by decide +kernel), _, rfl, p, a, G, ta, rfl, S, ha, ?_⟩
    by_cases h1 : ta ∈ G.hand
    · refine .inl ⟨h1, _, rfl, p, dx, _, rfl, hp, hf_no G (by decide +kernel), _, rfl, p, b, G, tb, rfl, S, hb, ?_⟩
      by_cases h2 : tb ∈ G.hand
      · refine .inl ⟨h2, _, rfl, p, dx, _, rfl, hp, hf_no G (by decide +kernel), _, rfl, p, a, G, ta, rfl, S, ha, ?_⟩
        rcases k with ⟨h, k⟩ | ⟨_, _, h, k⟩ | ⟨_, _, h, ad, hl, fnd, z, k⟩
        · exact absurd ⟨h1, h2⟩ h
        · exact .inr ⟨h, k⟩
        · obtain ⟨g1, g2, g3⟩ := holds_get S ha fnd
          refine .inl ⟨h, _, rfl, p, C, dx, _, _, rfl, hp, T.cl, T.nL, hf_holds G, _, rfl, G.l, _, rfl, g1, _, rfl, ad, _, rfl, DPut.t (k := tk tb) g2 hb (by rw [List.length_map]; exact small1000 (by omega)), ?_⟩
          rw [putK_hand]
          have S1 : HouseAt C (upd H ad (dHand (addT hl tb))) p { G with holds := setL G.holds ad (addT hl tb) } := S.setHold g3 (addT hl tb)
          obtain ⟨dx1, hp1⟩ := S1.ob
          refine ⟨_, rfl, p, C, dx1, _, _, rfl, hp1, T.cl, T.nT, hf_ticks _, _, _, rfl, rfl, dx1, _, hp1, hf_len _, ?_⟩
          rw [hf_put_ticks]
          exact tick_done (G1 := { G with holds := setL G.holds ad (addT hl tb) }) (foot_hold g3) (by unfold foot; rw [setL_adr]) rfl S1 k
      · rcases k with ⟨h, k⟩ | ⟨_, h, _⟩ | ⟨_, h, _⟩
        · exact .inr ⟨h2, k⟩
        · exact absurd h h2
        · exact absurd h h2
    · rcases k with ⟨h, k⟩ | ⟨h, _⟩ | ⟨h, _⟩
      · exact .inr ⟨h1, k⟩
      · exact absurd h h1
      · exact absurd h h1
theorem scF : FnScope ["self", "b"] ["self", "b"] (defScope sFree) := ⟨rfl, rfl, rfl, by decide +kernel, rfl, by decide +kernel, by decide +kernel⟩
theorem ok_free {f f2 : Addr} {fd fd2 : FuncData} (F : Fun K "free" "House.free" sFree f fd) (T : Txt K mg C NHd NNr MI NW) (M2 : Mth K C "need_in_hand" "House.need_in_hand" sNeedH ["self", "thing"] f2 fd2) :
    FnOk P w K mg base (CX1 P w) 2 f fd ["self", "b"] (spFree C NHd) := by
  have G2 : FnOk P w K mg base (CX1 P w) 1 f2 fd2 ["self", "thing"] (spNeedH C NHd) := ok_needH M2.fn T
  refine ok1 F scF (fun vs H Q E h => ?_) (fun cdv A outer s H vs Q E hr h => ?_)
  · obtain ⟨p, b, G, tb, rfl, _⟩ := h
    rfl
  · obtain ⟨p, b, G, tb, rfl, S, hb, k⟩ := h
    have hu := hu_of hr
    obtain ⟨dx, hp⟩ := S.ob
    refine ⟨_, pss_cons (ps_expr (pe_meth (pl := _) (pv 0) T.cl M2.mt G2 hr M2.bd .nil pass1 (pa_cons (pv 1) pa_nil)))
      (pss_cons (ps_expr (pe_dpopT hu (pe_fld (pv 0) rfl) (pv 1) ⟨rfl, rfl, rfl, rfl⟩)) (pss_one (ps_fldaug (pv 0) pe_int in_add))), ?_⟩
    refine ⟨_, rfl, p, dx, _, rfl, hp, hf_no G (by decide +kernel), _, rfl, p, b, G, tb, rfl, S, hb, ?_⟩
    rcases k with k | ⟨h, k⟩
    · exact .inr k
    · refine .inl ⟨h, _, rfl, p, C, dx, _, _, rfl, hp, T.cl, T.nH, hf_hand G, G.h, rfl, .inr ⟨_, .inl S.dh⟩, _, rfl, _, tk tb, _, b, S.dh, rfl, hb, (by rw [valV_hand, if_pos h]), ?_⟩
      rw [dropK_tk (k := fun q : T2 => q) (f := fun _ => V.bl true)]
      have S1 : HouseAt C (upd H G.h (dHand (delT G.hand tb))) p { G with hand := delT G.hand tb } := S.setHand (delT G.hand tb)
      obtain ⟨dx1, hp1⟩ := S1.ob
      refine ⟨_, rfl, p, C, dx1, _, _, rfl, hp1, T.cl, T.nT, hf_ticks _, _, _, rfl, rfl, dx1, _, hp1, hf_len _, ?_⟩
      rw [hf_put_ticks]
      exact tick_done (G1 := { G with hand := delT G.hand tb }) (by simp [foot]) rfl rfl S1 k
end
end K15

namespace K15
open PySem L2 FX
set_option linter.all false
section
variable {P : Program} {w : World} {K : PySem.W.Frag} {mg : Str → Option Value} {base : Heap} {C NHd NNr MI NW : Addr}
def goes (n : Int) : Int := if n = 1 then 1 else n / 2
def spParted : Sp := fun vs H Q _ => ∃ n : Int, vs = [.int n] ∧ ∀ p, H p = none → Q (.ref p) (upd H p (.tup [.int (n - goes n), .int (goes n)]))
theorem scP : FnScope ["weight", "goes"] ["weight"] (defScope sParted) := ⟨rfl, rfl, rfl, by decide +kernel, rfl, by decide +kernel, by decide +kernel⟩
theorem ok_parted {f : Addr} {fd : FuncData} (F : Fun K "parted" "parted" sParted f fd) : FnOk P w K mg base CX0 1 f fd ["weight"] spParted := by
  refine F.ok scP (fun vs H Q E h => ?_) (fun cdv A outer s H vs Q E hr h => ?_)
  · obtain ⟨n, rfl, _⟩ := h
    rfl
  · obtain ⟨n, rfl, k⟩ := h
    refine ⟨_, pss_cons (ps_if (pt_cmpR op_eq (pv 0) pe_int (nomark _)) (pss_one (ps_ret (pe_tup (pa_cons pe_int (pa_cons pe_int pa_nil))))) pss_nil)
      (pss_cons (ps_set (i := 1) scP.nd rfl (Or.inl rfl) (pe_op op_fdiv (pv 0) pe_int))
      (pss_one (ps_ret (pe_tup (pa_cons (pe_op op_sub (pv 0) (pv 1)) (pa_cons (pv 1) pa_nil)))))), ?_⟩
    refine ⟨_, rfl, rfl, _, rfl, ?_⟩
    refine ite2 (fun c1 => ?_) (fun c1 => ?_)
    · have c1 : n = 1 := V.int.inj (of_decide_eq_true c1)
      subst c1
      exact ⟨show 2 ≤ sizeLine by decide, fun p hp => k p hp⟩
    · have c1 : ¬ n = 1 := fun z => by rw [z] at c1; simp at c1
      refine ⟨_, rfl, _, _, rfl, rfl, ⟨by decide, by decide⟩, ?_⟩
      refine ⟨_, rfl, _, rfl, _, _, rfl, rfl, _, rfl, (show 2 ≤ sizeLine by decide), fun p hp => ?_⟩
      have := k p hp
      unfold goes at this
      rw [if_neg c1] at this
      exact this
/-- a def of the module -/
structure Gdf (K : PySem.W.Frag) (mg : Str → Option Value) (x : Str) (st : Stmt) (ps : List Str) (f : Addr) (fd : FuncData) : Prop where
  fn : Fun K x x st f fd
  bd : Binds K fd ps []
  mg : mg x = some (.ref f)
def getI (l : List (T2 × Int)) (t : T2) : Int := ((l.find? fun q => decide (q.1 = t)).map (·.2)).getD 0
def spPartR (C NW : Addr) : Sp := fun vs H Q E => ∃ (p b : Addr) (G : HGh) (tb : T2) (wt : Int), vs = [.ref p, .ref b] ∧ HouseAt C H p G ∧ H b = some (.tup (tv tb)) ∧ G.recs.find? (fun q => decide (q.1 = tb)) = some (tb, wt) ∧ G.recs.length ≤ 500 ∧
  ((wt = 0 ∧ E (.ref NW) none H) ∨ (wt ≠ 0 ∧ Done C p G H { G with recs := putI G.recs tb (wt - goes wt) } (Q (.int (goes wt)))))
theorem int_get {H : Hp} {d t : Addr} {l : List (T2 × Int)} {th : T2} (hd : H d = some (dInt l)) (ht : H t = some (.tup (tv th))) : DGet H d (.ref t) ((l.find? fun q => decide (q.1 = th)).map fun q => V.int q.2) := by
  have := DGet.t (k := tk th) hd ht
  rw [valV_tk (k := fun q : T2 × Int => q.1) (f := fun q => V.int q.2)] at this
  exact this
theorem scPR : FnScope ["self", "b", "weight", "halves"] ["self", "b"] (defScope sPartR) := ⟨rfl, rfl, rfl, by decide +kernel, rfl, by decide +kernel, by decide +kernel⟩
theorem ok_partR {f fP : Addr} {fd fdP : FuncData} (F : Fun K "part_record" "House.part_record" sPartR f fd) (T : Txt K mg C NHd NNr MI NW) (MP : Gdf K mg "parted" sParted ["weight"] fP fdP) : FnOk P w K mg base (CX1 P w) 2 f fd ["self", "b"] (spPartR C NW) := by
  have GP : FnOk P w K mg base (CX1 P w) 1 fP fdP ["weight"] spParted := FX.FnOk.to1 (ok_parted MP.fn)
  refine ok1 F scPR (fun vs H Q E h => ?_) (fun cdv A outer s H vs Q E hr h => ?_)
  · obtain ⟨p, b, G, tb, wt, rfl, _⟩ := h
    rfl
  · obtain ⟨p, b, G, tb, wt, rfl, S, hb, fnd, z, k⟩ := h
    have hu := hu_of hr
    obtain ⟨dx, hp⟩ := S.ob
    have g1 : DGet H G.r (.ref b) (some (V.int wt)) := by
      have := int_get S.dr hb
      rw [fnd] at this; exact this
    refine ⟨_, pss_cons (ps_set (i := 2) scPR.nd rfl (Or.inl rfl) (pe_dget hu (pe_fld (pv 0) rfl) (pv 1) (fun _ _ => rfl)))
      (pss_cons (ps_if (pt_cmpR op_eq (pv 2) pe_int (nomark _)) (pss_one (ps_raise rfl rfl T.cNW raises1)) pss_nil)
      (pss_cons (ps_set (i := 3) scPR.nd rfl (Or.inl rfl) (pe_call GP hr (by rfl) MP.mg MP.fn.kp MP.bd .nil pass1 (pa_cons (pv 2) pa_nil)))
      (pss_cons (ps_dput hu (pe_fld (pv 0) rfl) (pv 1) (pe_ix ix_tup (pv 3) pe_int (fun _ _ => rfl)) rfl)
      (pss_one (ps_ret (pe_ix ix_tup (pv 3) pe_int (fun _ _ => rfl))))))), ?_⟩
    refine ⟨_, rfl, p, C, dx, _, _, rfl, hp, T.cl, T.nR, hf_records G, _, rfl, G.r, _, rfl, g1, ?_⟩
    refine ⟨_, rfl, rfl, _, rfl, ?_⟩
    rcases k with ⟨h, k⟩ | ⟨h, k⟩
    · rw [show decide (V.int wt = V.int 0) = true from decide_eq_true (by rw [h])]
      exact iteT k
    · rw [show decide (V.int wt = V.int 0) = false from decide_eq_false fun e => h (V.int.inj e)]
      refine iteF ?_
      refine ⟨_, rfl, wt, rfl, fun t ht => ?_⟩
      have s1 := same_new (o := .tup [V.int (wt - goes wt), V.int (goes wt)]) ht
      have S1 := S.same s1
      have t1 : (upd H t (.tup [V.int (wt - goes wt), V.int (goes wt)])) t = some (.tup [V.int (wt - goes wt), V.int (goes wt)]) := upd_same
      have b1 := s1 _ _ hb
      generalize upd H t (.tup [V.int (wt - goes wt), V.int (goes wt)]) = H1 at s1 S1 t1 b1
      obtain ⟨dx1, hp1⟩ := S1.ob
      refine ⟨_, rfl, t, _, 0, _, rfl, rfl, SqT.of t1, rfl, _, rfl, p, C, dx1, _, _, rfl, hp1, T.cl, T.nR, hf_records G, _, rfl, G.r, _, rfl, DPut.t (k := tk tb) S1.dr b1 (by rw [List.length_map]; exact small1000 (by omega)), ?_⟩
      rw [putK_int]
      have S2 : HouseAt C (upd H1 G.r (dInt (putI G.recs tb (wt - goes wt)))) p { G with recs := putI G.recs tb (wt - goes wt) } := S1.setRecs _
      have tr : t ≠ G.r := fun e => (S1.tup_ne t1).2 (by rw [e]; simp [foot])
      refine ⟨_, rfl, t, _, 1, _, rfl, rfl, SqT.of (by rw [upd_ne tr]; exact t1), rfl, ?_⟩
      refine k _ S2 fun b' o e h1 h2 => ?_
      rw [upd_ne fun e' => h2 (by rw [e']; simp [foot])]
      exact s1 _ _ e
end
end K15

namespace K15
open PySem L2 FX
set_option linter.all false
section
variable {P : Program} {w : World} {K : PySem.W.Frag} {mg : Str → Option Value} {base : Heap} {C NHd NNr MI NW : Addr}
def spAddR (C : Addr) : Sp := fun vs H Q _ => ∃ (p b : Addr) (G : HGh) (tb : T2) (wt : Int), vs = [.ref p, .ref b, .int wt] ∧ HouseAt C H p G ∧ H b = some (.tup (tv tb)) ∧ G.recs.length ≤ 500 ∧
  Done C p G H { G with recs := putI G.recs tb (getI G.recs tb + wt) } (Q .non)
theorem scAR : FnScope ["self", "b", "weight"] ["self", "b", "weight"] (defScope sAddR) := ⟨rfl, rfl, rfl, by decide +kernel, rfl, by decide +kernel, by decide +kernel⟩
theorem ok_addR {f : Addr} {fd : FuncData} (F : Fun K "add_to_record" "House.add_to_record" sAddR f fd) (T : Txt K mg C NHd NNr MI NW) : FnOk P w K mg base CX0 1 f fd ["self", "b", "weight"] (spAddR C) := by
  refine F.ok scAR (fun vs H Q E h => ?_) (fun cdv A outer s H vs Q E hr h => ?_)
  · obtain ⟨p, b, G, tb, wt, rfl, _⟩ := h
    rfl
  · obtain ⟨p, b, G, tb, wt, rfl, S, hb, z, k⟩ := h
    have hu := hu_of hr
    obtain ⟨dx, hp⟩ := S.ob
    refine ⟨_, pss_one (ps_dput hu (pe_fld (pv 0) rfl) (pv 1) (pe_op op_add (pe_dget2 hu (pe_fld (pv 0) rfl) (pv 1) pe_int ⟨rfl, rfl, rfl, rfl⟩) (pv 2)) rfl), ?_⟩
    have ei : ((G.recs.find? fun q => decide (q.1 = tb)).map fun q => V.int q.2).getD (V.int 0) = V.int (getI G.recs tb) := by
      unfold getI
      cases G.recs.find? fun q => decide (q.1 = tb) <;> rfl
    refine ⟨_, rfl, p, C, dx, _, _, rfl, hp, T.cl, T.nR, hf_records G, G.r, rfl, .inr ⟨_, .inl S.dr⟩, _, rfl, _, int_get S.dr hb, ?_⟩
    rw [ei]
    refine ⟨_, rfl, _, _, rfl, rfl, _, rfl, p, C, dx, _, _, rfl, hp, T.cl, T.nR, hf_records G, _, rfl, G.r, _, rfl, DPut.t (k := tk tb) S.dr hb (by rw [List.length_map]; exact small1000 (by omega)), ?_⟩
    rw [putK_int]
    refine k _ (S.setRecs _) fun b' o e h1 h2 => ?_
    rw [upd_ne fun e' => h2 (by rw [e']; simp [foot])]
    exact e
def spAdded (C : Addr) : Sp := fun vs H Q _ => ∃ (p b : Addr) (G : HGh) (tb : T2) (wt : Int), vs = [.ref p, .ref b, .int wt] ∧ HouseAt C H p G ∧ H b = some (.tup (tv tb)) ∧ G.recs.length ≤ 500 ∧
  Done C p G H { G with ticks := G.ticks + 1, recs := putI G.recs tb (getI G.recs tb + wt) } (Q .non)
theorem scAd : FnScope ["self", "b", "weight"] ["self", "b", "weight"] (defScope sAdded) := ⟨rfl, rfl, rfl, by decide +kernel, rfl, by decide +kernel, by decide +kernel⟩
theorem ok_added {f f5 : Addr} {fd fd5 : FuncData} (F : Fun K "added" "House.added" sAdded f fd) (T : Txt K mg C NHd NNr MI NW) (M5 : Mth K C "add_to_record" "House.add_to_record" sAddR ["self", "b", "weight"] f5 fd5) : FnOk P w K mg base CX0 2 f fd ["self", "b", "weight"] (spAdded C) := by
  have G5 : FnOk P w K mg base CX0 1 f5 fd5 ["self", "b", "weight"] (spAddR C) := ok_addR M5.fn T
  refine F.ok scAd (fun vs H Q E h => ?_) (fun cdv A outer s H vs Q E hr h => ?_)
  · obtain ⟨p, b, G, tb, wt, rfl, _⟩ := h
    rfl
  · obtain ⟨p, b, G, tb, wt, rfl, S, hb, z, k⟩ := h
    obtain ⟨dx, hp⟩ := S.ob
    refine ⟨_, pss_cons (ps_expr (pe_meth (pl := _) (pv 0) T.cl M5.mt G5 hr M5.bd .nil pass0 (pa_cons (pv 1) (pa_cons (pv 2) pa_nil)))) (pss_one (ps_fldaug (pv 0) pe_int in_add)), ?_⟩
    refine ⟨_, rfl, p, dx, _, rfl, hp, hf_no G (by decide +kernel), _, rfl, _, rfl, p, b, G, tb, wt, rfl, S, hb, z, fun H1 S1 fr1 => ?_⟩
    obtain ⟨dx1, hp1⟩ := S1.ob
    refine ⟨_, rfl, p, C, dx1, _, _, rfl, hp1, T.cl, T.nT, hf_ticks _, _, _, rfl, rfl, dx1, _, hp1, hf_len _, ?_⟩
    rw [hf_put_ticks]
    exact k _ (S1.fld dx1 G.made (G.ticks + 1)) fun b' o e h1 h2 => by rw [upd_ne h1]; exact fr1 _ _ e h1 h2
def spCame (C : Addr) : Sp := fun vs H Q _ => ∃ (p b : Addr) (G : HGh) (tb : T2) (wt : Int), vs = [.ref p, .ref b, .int wt] ∧ HouseAt C H p G ∧ H b = some (.tup (tv tb)) ∧ G.hand.length ≤ 500 ∧ G.outs.length ≤ 500 ∧ G.recs.length ≤ 500 ∧
  ((tb.1 = G.num ∧ ∃ o, G.outs.find? (fun q => decide (q.1 = tb)) = some (tb, o) ∧ Done C p G H { G with ticks := G.ticks + 1, hand := addT G.hand tb, outs := putI G.outs tb (o - wt) } (Q .non)) ∨
   (tb.1 ≠ G.num ∧ Done C p G H { G with ticks := G.ticks + 1, hand := addT G.hand tb, recs := putI G.recs tb (getI G.recs tb + wt) } (Q .non)))
theorem scC : FnScope ["self", "b", "weight"] ["self", "b", "weight"] (defScope sCame) := ⟨rfl, rfl, rfl, by decide +kernel, rfl, by decide +kernel, by decide +kernel⟩
theorem ok_came {f f1 f5 : Addr} {fd fd1 fd5 : FuncData} (F : Fun K "came" "House.came" sCame f fd) (T : Txt K mg C NHd NNr MI NW) (M1 : Mth K C "is_near" "House.is_near" sNear ["self", "thing"] f1 fd1) (M5 : Mth K C "add_to_record" "House.add_to_record" sAddR ["self", "b", "weight"] f5 fd5) :
    FnOk P w K mg base CX0 2 f fd ["self", "b", "weight"] (spCame C) := by
  have G1 : FnOk P w K mg base CX0 1 f1 fd1 ["self", "thing"] (spNear C) := ok_near M1.fn T
  have G5 : FnOk P w K mg base CX0 1 f5 fd5 ["self", "b", "weight"] (spAddR C) := ok_addR M5.fn T
  refine F.ok scC (fun vs H Q E h => ?_) (fun cdv A outer s H vs Q E hr h => ?_)
  · obtain ⟨p, b, G, tb, wt, rfl, _⟩ := h
    rfl
  · obtain ⟨p, b, G, tb, wt, rfl, S, hb, z1, z2, z3, k⟩ := h
    have hu := hu_of hr
    obtain ⟨dx, hp⟩ := S.ob
    refine ⟨_, pss_cons (ps_dput hu (pe_fld (pv 0) rfl) (pv 1) pe_bl rfl)
      (pss_cons (ps_if (pt_val (pe_meth (pl := _) (pv 0) T.cl M1.mt G1 hr M1.bd .nil pass0 (pa_cons (pv 1) pa_nil))) (pss_one (ps_daug hu (pe_fld (pv 0) rfl) (pv 1) (pv 2) in_sub (fun _ _ _ => rfl)))
        (pss_one (ps_expr (pe_meth (pl := _) (pv 0) T.cl M5.mt G5 hr M5.bd .nil pass0 (pa_cons (pv 1) (pa_cons (pv 2) pa_nil))))))
      (pss_one (ps_fldaug (pv 0) pe_int in_add))), ?_⟩
    refine ⟨_, rfl, p, C, dx, _, _, rfl, hp, T.cl, T.nH, hf_hand G, _, rfl, G.h, _, rfl, DPut.t (k := tk tb) S.dh hb (by rw [List.length_map]; exact small1000 (by omega)), ?_⟩
    rw [putK_hand]
    have S1 : HouseAt C (upd H G.h (dHand (addT G.hand tb))) p { G with hand := addT G.hand tb } := S.setHand (addT G.hand tb)
    have fr1 : HFr p G H (upd H G.h (dHand (addT G.hand tb))) := fun b' o e h1 h2 => by rw [upd_ne fun e' => h2 (by rw [e']; simp [foot])]; exact e
    have b1 := fr1 _ _ hb (S.tup_ne hb).1 (S.tup_ne hb).2
    rw [show (HO.dT ((addT G.hand tb).map fun q => (tk q, V.bl true))) = dHand (addT G.hand tb) from rfl]
    generalize (upd H G.h (dHand (addT G.hand tb))) = H1 at S1 fr1 b1
    obtain ⟨dx1, hp1⟩ := S1.ob
    refine ⟨_, rfl, p, dx1, _, rfl, hp1, hf_no _ (by decide +kernel), _, rfl, p, b, _, tb, rfl, S1, b1, _, rfl, ?_⟩
    rcases k with ⟨h, o, fnd, k⟩ | ⟨h, k⟩
    · rw [show decide (tb.1 = ({ G with hand := addT G.hand tb } : HGh).num) = true from decide_eq_true h]
      refine iteT ?_
      have g1 : DGet H1 G.o (.ref b) (some (V.int o)) := by
        have := int_get S1.dO b1
        rw [show ({ G with hand := addT G.hand tb } : HGh).outs = G.outs from rfl, fnd] at this
        exact this
      refine ⟨_, rfl, p, C, dx1, _, _, rfl, hp1, T.cl, T.nO, hf_outs _, _, rfl, G.o, _, rfl, g1, _, rfl, _, _, rfl, rfl, _, DPut.t (k := tk tb) S1.dO b1 (by rw [List.length_map]; exact small1000 (by show G.outs.length ≤ 1000; omega)), ?_⟩
      rw [putK_int]
      have S2 := S1.setOuts (putI G.outs tb (o - wt))
      have fr2 : HFr p G H (upd H1 G.o (dInt (putI G.outs tb (o - wt)))) := fun b' o' e h1 h2 => by rw [upd_ne fun e' => h2 (by rw [e']; simp [foot])]; exact fr1 _ _ e h1 h2
      obtain ⟨dx2, hp2⟩ := S2.ob
      refine ⟨_, rfl, p, C, dx2, _, _, rfl, hp2, T.cl, T.nT, hf_ticks _, _, _, rfl, rfl, dx2, _, hp2, hf_len _, ?_⟩
      rw [hf_put_ticks]
      exact k _ (S2.fld dx2 G.made (G.ticks + 1)) fun b' o e h1 h2 => by rw [upd_ne h1]; exact fr2 _ _ e h1 h2
    · rw [show decide (tb.1 = ({ G with hand := addT G.hand tb } : HGh).num) = false from decide_eq_false h]
      refine iteF ?_
      refine ⟨_, rfl, p, dx1, _, rfl, hp1, hf_no _ (by decide +kernel), _, rfl, _, rfl, p, b, _, tb, wt, rfl, S1, b1, z3, fun H2 S2 fr2 => ?_⟩
      obtain ⟨dx2, hp2⟩ := S2.ob
      refine ⟨_, rfl, p, C, dx2, _, _, rfl, hp2, T.cl, T.nT, hf_ticks _, _, _, rfl, rfl, dx2, _, hp2, hf_len _, ?_⟩
      rw [hf_put_ticks]
      exact k _ (S2.fld dx2 G.made (G.ticks + 1)) fun b' o e h1 h2 => by rw [upd_ne h1]; exact fr2 _ _ (fr1 _ _ e h1 h2) h1 h2
def spPart (C NHd NW : Addr) : Sp := fun vs H Q E => ∃ (p b : Addr) (G : HGh) (tb : T2) (sh : Int), vs = [.ref p, .ref b, .int sh] ∧ HouseAt C H p G ∧ H b = some (.tup (tv tb)) ∧ G.outs.length ≤ 500 ∧ G.recs.length ≤ 500 ∧
  ((tb ∉ G.hand ∧ E (.ref NHd) none H) ∨
   (tb ∈ G.hand ∧ tb.1 = G.num ∧ ∃ o, G.outs.find? (fun q => decide (q.1 = tb)) = some (tb, o) ∧ Done C p G H { G with ticks := G.ticks + 1, outs := putI G.outs tb (o + sh) } (Q (.int sh))) ∨
   (tb ∈ G.hand ∧ tb.1 ≠ G.num ∧ ∃ wt, G.recs.find? (fun q => decide (q.1 = tb)) = some (tb, wt) ∧ ((wt = 0 ∧ E (.ref NW) none H) ∨ (wt ≠ 0 ∧ Done C p G H { G with ticks := G.ticks + 1, recs := putI G.recs tb (wt - goes wt) } (Q (.int (goes wt)))))))
theorem scPa : FnScope ["self", "b", "share", "goes"] ["self", "b", "share"] (defScope sPart) := ⟨rfl, rfl, rfl, by decide +kernel, rfl, by decide +kernel, by decide +kernel⟩
theorem ok_part {f f1 f2 f6 fP : Addr} {fd fd1 fd2 fd6 fdP : FuncData} (F : Fun K "part" "House.part" sPart f fd) (T : Txt K mg C NHd NNr MI NW) (M1 : Mth K C "is_near" "House.is_near" sNear ["self", "thing"] f1 fd1)
    (M2 : Mth K C "need_in_hand" "House.need_in_hand" sNeedH ["self", "thing"] f2 fd2) (M6 : Mth K C "part_record" "House.part_record" sPartR ["self", "b"] f6 fd6) (MP : Gdf K mg "parted" sParted ["weight"] fP fdP) :
    FnOk P w K mg base (CX1 P w) 3 f fd ["self", "b", "share"] (spPart C NHd NW) := by
  have G1 : FnOk P w K mg base (CX1 P w) 1 f1 fd1 ["self", "thing"] (spNear C) := FX.FnOk.to1 (ok_near M1.fn T)
  have G2 : FnOk P w K mg base (CX1 P w) 1 f2 fd2 ["self", "thing"] (spNeedH C NHd) := ok_needH M2.fn T
  have G6 : FnOk P w K mg base (CX1 P w) 2 f6 fd6 ["self", "b"] (spPartR C NW) := ok_partR M6.fn T MP
  refine ok1 F scPa (fun vs H Q E h => ?_) (fun cdv A outer s H vs Q E hr h => ?_)
  · obtain ⟨p, b, G, tb, sh, rfl, _⟩ := h
    rfl
  · obtain ⟨p, b, G, tb, sh, rfl, S, hb, z1, z2, k⟩ := h
    have hu := hu_of hr
    have hr1 : Room 1 _ := hr.mono (by decide)
    obtain ⟨dx, hp⟩ := S.ob
    refine ⟨_, pss_cons (ps_expr (pe_meth (pl := _) (pv 0) T.cl M2.mt G2 hr1 M2.bd .nil pass1 (pa_cons (pv 1) pa_nil)))
      (pss_cons (ps_if (pt_val (pe_meth (pl := _) (pv 0) T.cl M1.mt G1 hr1 M1.bd .nil pass1 (pa_cons (pv 1) pa_nil)))
        (pss_cons (ps_daug hu (pe_fld (pv 0) rfl) (pv 1) (pv 2) in_add (fun _ _ _ => rfl)) (pss_one (ps_set (i := 3) scPa.nd rfl (Or.inl rfl) (pv 2))))
        (pss_one (ps_set (i := 3) scPa.nd rfl (Or.inl rfl) (pe_meth (pl := _) (pv 0) T.cl M6.mt G6 hr M6.bd .nil pass1 (pa_cons (pv 1) pa_nil)))))
      (pss_cons (ps_fldaug (pv 0) pe_int in_add) (pss_one (ps_ret (pv 3))))), ?_⟩
    refine ⟨_, rfl, p, dx, _, rfl, hp, hf_no G (by decide +kernel), _, rfl, p, b, G, tb, rfl, S, hb, ?_⟩
    rcases k with k | ⟨h1, h2, o, fnd, k⟩ | ⟨h1, h2, wt, fnd, k⟩
    · exact .inr k
    · refine .inl ⟨h1, _, rfl, p, dx, _, rfl, hp, hf_no G (by decide +kernel), _, rfl, p, b, G, tb, rfl, S, hb, _, rfl, ?_⟩
      rw [decide_eq_true h2]
      refine iteT ?_
      have g1 : DGet H G.o (.ref b) (some (V.int o)) := by
        have := int_get S.dO hb
        rw [fnd] at this; exact this
      refine ⟨_, rfl, p, C, dx, _, _, rfl, hp, T.cl, T.nO, hf_outs _, _, rfl, G.o, _, rfl, g1, _, rfl, _, _, rfl, rfl, _, DPut.t (k := tk tb) S.dO hb (by rw [List.length_map]; exact small1000 (by omega)), ?_⟩
      rw [putK_int]
      have S1 : HouseAt C (upd H G.o (dInt (putI G.outs tb (o + sh)))) p { G with outs := putI G.outs tb (o + sh) } := S.setOuts _
      obtain ⟨dx1, hp1⟩ := S1.ob
      refine ⟨_, rfl, _, rfl, p, C, dx1, _, _, rfl, hp1, T.cl, T.nT, hf_ticks _, _, _, rfl, rfl, dx1, _, hp1, hf_len _, ?_⟩
      rw [hf_put_ticks]
      refine ⟨_, rfl, ?_⟩
      exact tick_done (G1 := { G with outs := putI G.outs tb (o + sh) }) (by simp [foot]) rfl rfl S1 k
    · refine .inl ⟨h1, _, rfl, p, dx, _, rfl, hp, hf_no G (by decide +kernel), _, rfl, p, b, G, tb, rfl, S, hb, _, rfl, ?_⟩
      rw [decide_eq_false h2]
      refine iteF ?_
      refine ⟨_, rfl, p, dx, _, rfl, hp, hf_no G (by decide +kernel), _, rfl, p, b, G, tb, wt, rfl, S, hb, fnd, z2, ?_⟩
      rcases k with k | ⟨h3, k⟩
      · exact .inl k
      · refine .inr ⟨h3, fun H1 S1 fr1 => ?_⟩
        obtain ⟨dx1, hp1⟩ := S1.ob
        refine ⟨_, rfl, p, C, dx1, _, _, rfl, hp1, T.cl, T.nT, hf_ticks _, _, _, rfl, rfl, dx1, _, hp1, hf_len _, ?_⟩
        rw [hf_put_ticks]
        exact ⟨_, rfl, k _ (S1.fld dx1 G.made (G.ticks + 1)) fun b' o e h1 h2 => by rw [upd_ne h1]; exact fr1 _ _ e h1 h2⟩
end
end K15

namespace K15
open PySem L2 FX
set_option linter.all false
/-! ### what the methods promise -/
def spInit (C : Addr) : Sp := fun vs H Q _ => ∃ (p dx : Addr) (n : Int), vs = [.ref p, .int n] ∧ H p = some (.ins C dx []) ∧
  ∀ (h o l r : Addr) (H' : Hp), H h = none → H o = none → H l = none → H r = none → HouseAt C H' p ⟨n, 0, 0, h, o, l, r, [], [], [], []⟩ → (∀ b u, H b = some u → b ≠ p → H' b = some u) → Q .non H'
def spMake (C : Addr) : Sp := fun vs H Q _ => ∃ (p : Addr) (G : HGh), vs = [.ref p] ∧ HouseAt C H p G ∧ G.hand.length ≤ 500 ∧ G.outs.length ≤ 500 ∧ G.holds.length ≤ 500 ∧
  (∀ t ∈ G.hand, t ≠ (G.num, G.made)) ∧ (∀ q ∈ G.outs, q.1 ≠ (G.num, G.made)) ∧ (∀ q ∈ G.holds, q.1 ≠ (G.num, G.made)) ∧
  ∀ (t a : Addr) (H' : Hp), H t = none → H a = none → H' t = some (.tup (tv (G.num, G.made))) →
    HouseAt C H' p { G with made := G.made + 1, ticks := G.ticks + 1, hand := G.hand ++ [(G.num, G.made)], outs := G.outs ++ [((G.num, G.made), 0)], holds := G.holds ++ [((G.num, G.made), a, [])] } → HFr p G H H' → Q (.ref t) H'
def spTick (C : Addr) : Sp := fun vs H Q _ => ∃ (p : Addr) (G : HGh), vs = [.ref p] ∧ HouseAt C H p G ∧ Q (.int G.ticks) H
def spTold (C : Addr) (K : PySem.W.Frag) : Sp := fun vs H Q _ => ∃ (p t : Addr) (G : HGh) (th : T2) (w : Int) (a : Addr) (hl hs : List T2), vs = [.ref p, .ref t] ∧ HouseAt C H p G ∧ H t = some (.tup (tv th)) ∧
  G.outs.find? (fun q => decide (q.1 = th)) = some (th, w) ∧ G.holds.find? (fun q => decide (q.1 = th)) = some (th, a, hl) ∧ hl.length < 64 ∧ hs.Perm hl ∧ hs.Pairwise lt2 ∧
  ∀ (x : Addr) (H' : Hp), Same H H' → RepT K H' (.ref x) (rowD (th, w, hs)) → Q (.ref x) H'
/-- the rows of a house's things, sorted -/
structure Rows (G : HGh) (os : List (T2 × Int × List T2)) : Prop where
  pm : (os.map (·.1)).Perm (G.outs.map (·.1))
  pw : (os.map (·.1)).Pairwise lt2
  at_ : ∀ q ∈ os, G.outs.find? (fun z => decide (z.1 = q.1)) = some (q.1, q.2.1) ∧ ∃ a hl, G.holds.find? (fun z => decide (z.1 = q.1)) = some (q.1, a, hl) ∧ hl.length < 64 ∧ q.2.2.Perm hl ∧ q.2.2.Pairwise lt2
def spState (C : Addr) (K : PySem.W.Frag) : Sp := fun vs H Q _ => ∃ (p : Addr) (G : HGh) (hs : List T2) (os : List (T2 × Int × List T2)) (rs : List (T2 × Int)), vs = [.ref p] ∧ HouseAt C H p G ∧ G.hand.length < 64 ∧ G.outs.length < 64 ∧ G.recs.length < 64 ∧
  hs.Perm G.hand ∧ hs.Pairwise lt2 ∧ Rows G os ∧ rs.Perm G.recs ∧ (rs.map (·.1)).Pairwise lt2 ∧ ∀ (x : Addr) (H' : Hp), Same H H' → (∃ xs, H' x = some (.tup xs)) → RepT K H' (.ref x) (stD hs os rs) → Q (.ref x) H'
section
variable {P : Program} {w : World} {K : PySem.W.Frag} {mg : Str → Option Value} {base : Heap} {C NHd NNr MI NW : Addr}
theorem scI : FnScope ["self", "number"] ["self", "number"] (defScope sInit) := ⟨rfl, rfl, rfl, by decide +kernel, rfl, by decide +kernel, by decide +kernel⟩
theorem ok_init {f : Addr} {fd : FuncData} (F : Fun K "__init__" "House.__init__" sInit f fd) (T : Txt K mg C NHd NNr MI NW) : FnOk P w K mg base CX0 1 f fd ["self", "number"] (spInit C) := by
  refine F.ok scI (fun vs H Q E h => ?_) (fun cdv A outer s H vs Q E hr h => ?_)
  · obtain ⟨p, dx, n, rfl, _⟩ := h
    rfl
  · obtain ⟨p, dx, n, rfl, hp, k⟩ := h
    refine ⟨_, pss_cons (ps_fld (pv 0) (pv 1) rfl) (pss_cons (ps_fld (pv 0) pe_int rfl) (pss_cons (ps_fld (pv 0) pe_int rfl) (pss_cons (ps_fld (pv 0) pe_dnewT rfl) (pss_cons (ps_fld (pv 0) pe_dnewT rfl) (pss_cons (ps_fld (pv 0) pe_dnewT rfl) (pss_one (ps_fld (pv 0) pe_dnewT rfl))))))), ?_⟩
    refine ⟨_, rfl, _, rfl, p, C, dx, [], rfl, hp, T.cl, T.nN, (by show 0 < 1000; decide), ?_⟩
    refine ⟨_, rfl, p, C, dx, _, rfl, upd_same, T.cl, T.nM, (by show 1 < 1000; decide), ?_⟩
    rw [upd_upd]
    refine ⟨_, rfl, p, C, dx, _, rfl, upd_same, T.cl, T.nT, (by rw [pf_nil, pf_tl n_number_made, pf_nil]; show 2 < 1000; decide), ?_⟩
    rw [upd_upd]
    have step : ∀ {H1 : Hp} {d : Addr} {fs : List (Str × V)} {o : HO}, H1 p = some (.ins C dx fs) → (∀ b u, H b = some u → b ≠ p → H1 b = some u) → H1 d = none → (upd H1 d o) p = some (.ins C dx fs) ∧ (∀ b u, H b = some u → b ≠ p → (upd H1 d o) b = some u) ∧ d ≠ p ∧ H d = none := fun {H1 d fs o} e1 e2 e3 => by
      have ndp : p ≠ d := ne_of_none e1 e3
      refine ⟨by rw [upd_ne ndp]; exact e1, fun b u e hb => by rw [upd_ne (ne_of_none (e2 b u e hb) e3)]; exact e2 b u e hb, ndp.symm, ?_⟩
      cases q : H d with
      | none => rfl
      | some u => rw [e2 d u q ndp.symm] at e3; cases e3
    have a0 : ∀ b u, H b = some u → b ≠ p → (upd H p (.ins C dx (putF "ticks" (.int 0) (putF "made" (.int 0) (putF "number" (.int n) []))))) b = some u := fun b u e hb => by rw [upd_ne hb]; exact e
    intro d1 h1
    obtain ⟨b1, b2, b3, b4⟩ := step (o := .dT []) upd_same a0 h1
    refine ⟨_, rfl, p, C, dx, _, rfl, b1, T.cl, T.nH, ?_, ?_⟩
    · have := length_putF "ticks" (.int 0) (putF "made" (.int 0) (putF "number" (.int n) []))
      have := length_putF "made" (.int 0) (putF "number" (.int n) [])
      have := length_putF "number" (.int n) []
      simp only [List.length_nil] at *
      omega
    have c0 : ∀ {H1 : Hp} {fs : List (Str × V)}, (∀ b u, H b = some u → b ≠ p → H1 b = some u) → ∀ b u, H b = some u → b ≠ p → (upd H1 p (.ins C dx fs)) b = some u := fun e b u e1 hb => by rw [upd_ne hb]; exact e b u e1 hb
    intro d2 h2
    obtain ⟨b5, b6, b7, b8⟩ := step (o := .dT []) upd_same (c0 b2) h2
    refine ⟨_, rfl, p, C, dx, _, rfl, b5, T.cl, T.nO, ?_, ?_⟩
    · have := length_putF "hand" (.ref d1) (putF "ticks" (.int 0) (putF "made" (.int 0) (putF "number" (.int n) [])))
      have := length_putF "ticks" (.int 0) (putF "made" (.int 0) (putF "number" (.int n) []))
      have := length_putF "made" (.int 0) (putF "number" (.int n) [])
      have := length_putF "number" (.int n) []
      simp only [List.length_nil] at *
      omega
    intro d3 h3
    obtain ⟨b9, b10, b11, b12⟩ := step (o := .dT []) upd_same (c0 b6) h3
    refine ⟨_, rfl, p, C, dx, _, rfl, b9, T.cl, T.nL, ?_, ?_⟩
    · have := length_putF "outs" (.ref d2) (putF "hand" (.ref d1) (putF "ticks" (.int 0) (putF "made" (.int 0) (putF "number" (.int n) []))))
      have := length_putF "hand" (.ref d1) (putF "ticks" (.int 0) (putF "made" (.int 0) (putF "number" (.int n) [])))
      have := length_putF "ticks" (.int 0) (putF "made" (.int 0) (putF "number" (.int n) []))
      have := length_putF "made" (.int 0) (putF "number" (.int n) [])
      have := length_putF "number" (.int n) []
      simp only [List.length_nil] at *
      omega
    intro d4 h4
    obtain ⟨b13, b14, b15, b16⟩ := step (o := .dT []) upd_same (c0 b10) h4
    refine ⟨_, rfl, p, C, dx, _, rfl, b13, T.cl, T.nR, ?_, ?_⟩
    · have := length_putF "holds" (.ref d3) (putF "outs" (.ref d2) (putF "hand" (.ref d1) (putF "ticks" (.int 0) (putF "made" (.int 0) (putF "number" (.int n) [])))))
      have := length_putF "outs" (.ref d2) (putF "hand" (.ref d1) (putF "ticks" (.int 0) (putF "made" (.int 0) (putF "number" (.int n) []))))
      have := length_putF "hand" (.ref d1) (putF "ticks" (.int 0) (putF "made" (.int 0) (putF "number" (.int n) [])))
      have := length_putF "ticks" (.int 0) (putF "made" (.int 0) (putF "number" (.int n) []))
      have := length_putF "made" (.int 0) (putF "number" (.int n) [])
      have := length_putF "number" (.int n) []
      simp only [List.length_nil] at *
      omega
    -- the four dicts are unlike
    have n12 : d1 ≠ d2 := fun z => by rw [← z, upd_ne b3, upd_same] at h2; cases h2
    have n13 : d1 ≠ d3 := fun z => by rw [← z, upd_ne b3, upd_ne n12, upd_ne b3, upd_same] at h3; cases h3
    have n23 : d2 ≠ d3 := fun z => by rw [← z, upd_ne b7, upd_same] at h3; cases h3
    have n14 : d1 ≠ d4 := fun z => by rw [← z, upd_ne b3, upd_ne n13, upd_ne b3, upd_ne n12, upd_ne b3, upd_same] at h4; cases h4
    have n24 : d2 ≠ d4 := fun z => by rw [← z, upd_ne b7, upd_ne n23, upd_ne b7, upd_same] at h4; cases h4
    have n34 : d3 ≠ d4 := fun z => by rw [← z, upd_ne b11, upd_same] at h4; cases h4
    refine k d1 d2 d3 d4 _ b4 b8 b12 b16 ⟨⟨dx, ?_⟩, ?_, ?_, ?_, ?_, fun q hq => by simp at hq, ?_⟩ (c0 b14)
    · rw [upd_same, ← hf_all]
    · rw [upd_ne b3, upd_ne n14, upd_ne b3, upd_ne n13, upd_ne b3, upd_ne n12, upd_ne b3, upd_same]; rfl
    · rw [upd_ne b7, upd_ne n24, upd_ne b7, upd_ne n23, upd_ne b7, upd_same]; rfl
    · rw [upd_ne b11, upd_ne n34, upd_ne b11, upd_same]; rfl
    · rw [upd_ne b15, upd_same]; rfl
    · simp [foot, n12, n13, n14, n23, n24, n34]
theorem scM : FnScope ["self", "thing"] ["self"] (defScope sMake) := ⟨rfl, rfl, rfl, by decide +kernel, rfl, by decide +kernel, by decide +kernel⟩
theorem ok_make {f : Addr} {fd : FuncData} (F : Fun K "make" "House.make" sMake f fd) (T : Txt K mg C NHd NNr MI NW) : FnOk P w K mg base CX0 1 f fd ["self"] (spMake C) := by
  refine F.ok scM (fun vs H Q E h => ?_) (fun cdv A outer s H vs Q E hr h => ?_)
  · obtain ⟨p, G, rfl, _⟩ := h
    rfl
  · obtain ⟨p, G, rfl, S, z1, z2, z3, f1, f2, f3, k⟩ := h
    have hu := hu_of hr
    refine ⟨_, pss_cons (ps_set (i := 1) scM.nd rfl (Or.inl rfl) (pe_tup (pa_cons (pe_fld (pv 0) rfl) (pa_cons (pe_fld (pv 0) rfl) pa_nil))))
      (pss_cons (ps_fldaug (pv 0) pe_int in_add)
      (pss_cons (ps_dput hu (pe_fld (pv 0) rfl) (pv 1) pe_int rfl)
      (pss_cons (ps_dput hu (pe_fld (pv 0) rfl) (pv 1) pe_dnewT rfl)
      (pss_cons (ps_dput hu (pe_fld (pv 0) rfl) (pv 1) pe_bl rfl)
      (pss_cons (ps_fldaug (pv 0) pe_int in_add)
      (pss_one (ps_ret (pv 1)))))))), ?_⟩
    obtain ⟨dx, hp⟩ := S.ob
    refine ⟨_, rfl, p, C, dx, _, _, rfl, hp, T.cl, T.nN, hf_number G, _, rfl, p, C, dx, _, _, rfl, hp, T.cl, T.nM, hf_made G, (by show 2 ≤ sizeLine; decide), fun t ht => ?_⟩
    have s1 := same_new (o := .tup [V.int G.num, V.int G.made]) ht
    have S1 := S.same s1
    have t1 : (upd H t (.tup [V.int G.num, V.int G.made])) t = some (.tup (tv (G.num, G.made))) := upd_same
    generalize upd H t (.tup [V.int G.num, V.int G.made]) = H1 at s1 S1 t1
    -- self.made += 1
    obtain ⟨dx1, hp1⟩ := S1.ob
    refine ⟨_, rfl, p, C, dx1, _, _, rfl, hp1, T.cl, T.nM, hf_made G, _, _, rfl, rfl, dx1, _, hp1, hf_len G, ?_⟩
    rw [hf_put_made]
    have S2 := S1.fld dx1 (G.made + 1) G.ticks
    have fr2 : ∀ b o, H1 b = some o → b ≠ p → (upd H1 p (.ins C dx1 (hflds { G with made := G.made + 1 }))) b = some o := fun b o e hb => by rw [upd_ne hb]; exact e
    have tp := S1.tup_ne t1
    have t2 := fr2 _ _ t1 tp.1
    have S2 : HouseAt C (upd H1 p (.ins C dx1 (hflds { G with made := G.made + 1 }))) p { G with made := G.made + 1 } := S2
    generalize upd H1 p (.ins C dx1 (hflds { G with made := G.made + 1 })) = H2 at S2 fr2 t2
    -- self.outs[thing] = 0
    obtain ⟨dx2, hp2⟩ := S2.ob
    refine ⟨_, rfl, p, C, dx2, _, _, rfl, hp2, T.cl, T.nO, hf_outs _, _, rfl, G.o, _, rfl, DPut.t (k := tk (G.num, G.made)) S2.dO t2 (by rw [List.length_map]; exact small1000 (by show G.outs.length ≤ 1000; omega)), ?_⟩
    have e3 : putK (G.outs.map fun (q : T2 × Int) => (tk q.1, V.int q.2)) (tk (G.num, G.made)) (V.int 0) = (G.outs ++ [((G.num, G.made), 0)]).map fun (q : T2 × Int) => (tk q.1, V.int q.2) := by
      rw [putK_tk (k := fun q : T2 × Int => q.1) (f := fun q => V.int q.2) _ f2, List.map_append]; rfl
    have S3 := S2.setOuts (G.outs ++ [((G.num, G.made), 0)])
    unfold dInt at S3
    rw [← e3] at S3
    have tn2 := S2.tup_ne t2
    have fr3 : ∀ b o, H2 b = some o → b ∉ foot G → (upd H2 G.o (.dT (putK (G.outs.map fun (q : T2 × Int) => (tk q.1, V.int q.2)) (tk (G.num, G.made)) (V.int 0)))) b = some o := fun b o e hb => by rw [upd_ne (fun z => hb (by rw [z]; simp [foot]))]; exact e
    have t3 := fr3 _ _ t2 tn2.2
    generalize (upd H2 G.o (.dT (putK (G.outs.map fun (q : T2 × Int) => (tk q.1, V.int q.2)) (tk (G.num, G.made)) (V.int 0)))) = H3 at S3 fr3 t3
    -- self.holds[thing] = {}
    intro a ha
    have s4 := same_new (o := .dT []) ha
    have S4 := S3.same s4
    have a4 : (upd H3 a (.dT [])) a = some (dHand []) := upd_same
    have t4 := s4 _ _ t3
    have af : a ∉ foot G := fun m => by
      obtain ⟨kvs, e⟩ := S3.foot_dT (b := a) (by have : foot { G with made := G.made + 1, outs := G.outs ++ [((G.num, G.made), (0 : Int))] } = foot G := rfl
                                                 rw [this]; exact m)
      rw [ha] at e; cases e
    generalize upd H3 a (.dT []) = H4 at s4 S4 a4 t4
    obtain ⟨dx4, hp4⟩ := S4.ob
    refine ⟨_, rfl, p, C, dx4, _, _, rfl, hp4, T.cl, T.nL, hf_holds _, _, rfl, G.l, _, rfl, DPut.t (k := tk (G.num, G.made)) S4.dl t4 (by rw [List.length_map]; exact small1000 (by show G.holds.length ≤ 1000; omega)), ?_⟩
    have e5 : putK (G.holds.map fun (q : T2 × Addr × List T2) => (tk q.1, V.ref q.2.1)) (tk (G.num, G.made)) (V.ref a) = (G.holds ++ [((G.num, G.made), a, [])]).map fun (q : T2 × Addr × List T2) => (tk q.1, V.ref q.2.1) := by
      rw [putK_tk (k := fun q : T2 × Addr × List T2 => q.1) (f := fun q => V.ref q.2.1) _ f3, List.map_append]; rfl
    have S5 := S4.addHold (G.num, G.made) a4 af
    unfold dRef at S5
    rw [← e5] at S5
    have fr5 : ∀ b o, H4 b = some o → b ∉ foot G → (upd H4 G.l (.dT (putK (G.holds.map fun (q : T2 × Addr × List T2) => (tk q.1, V.ref q.2.1)) (tk (G.num, G.made)) (V.ref a)))) b = some o := fun b o e hb => by rw [upd_ne (fun z => hb (by rw [z]; simp [foot]))]; exact e
    have t5 := fr5 _ _ t4 tn2.2
    generalize (upd H4 G.l (.dT (putK (G.holds.map fun (q : T2 × Addr × List T2) => (tk q.1, V.ref q.2.1)) (tk (G.num, G.made)) (V.ref a)))) = H5 at S5 fr5 t5
    -- self.hand[thing] = True
    obtain ⟨dx5, hp5⟩ := S5.ob
    refine ⟨_, rfl, p, C, dx5, _, _, rfl, hp5, T.cl, T.nH, hf_hand _, _, rfl, G.h, _, rfl, DPut.t (k := tk (G.num, G.made)) S5.dh t5 (by rw [List.length_map]; exact small1000 (by show G.hand.length ≤ 1000; omega)), ?_⟩
    have e6 : putK (G.hand.map fun (q : T2) => (tk q, V.bl true)) (tk (G.num, G.made)) (V.bl true) = (G.hand ++ [(G.num, G.made)]).map fun (q : T2) => (tk q, V.bl true) := by
      rw [putK_tk (k := fun q : T2 => q) (f := fun _ => V.bl true) _ f1, List.map_append]; rfl
    have S6 := S5.setHand (G.hand ++ [(G.num, G.made)])
    unfold dHand at S6
    rw [← e6] at S6
    have fr6 : ∀ b o, H5 b = some o → b ∉ foot G → (upd H5 G.h (.dT (putK (G.hand.map fun (q : T2) => (tk q, V.bl true)) (tk (G.num, G.made)) (V.bl true)))) b = some o := fun b o e hb => by rw [upd_ne (fun z => hb (by rw [z]; simp [foot]))]; exact e
    have t6 := fr6 _ _ t5 tn2.2
    generalize (upd H5 G.h (.dT (putK (G.hand.map fun (q : T2) => (tk q, V.bl true)) (tk (G.num, G.made)) (V.bl true)))) = H6 at S6 fr6 t6
    -- self.ticks += 1
    obtain ⟨dx6, hp6⟩ := S6.ob
    refine ⟨_, rfl, p, C, dx6, _, _, rfl, hp6, T.cl, T.nT, hf_ticks _, _, _, rfl, rfl, dx6, _, hp6, hf_len _, ?_⟩
    rw [hf_put_ticks]
    have S7 := S6.fld dx6 (G.made + 1) (G.ticks + 1)
    have hfree : ∀ {b : Addr}, H1 b = none → H b = none := fun {b} e => same_free s1 e
    have fr7 : HFr p G H (upd H6 p (.ins C dx6 (hflds { G with made := G.made + 1, ticks := G.ticks + 1, outs := G.outs ++ [((G.num, G.made), 0)], holds := G.holds ++ [((G.num, G.made), a, [])], hand := G.hand ++ [(G.num, G.made)] }))) := fun b o e hb hf => by
      rw [upd_ne hb]
      exact fr6 _ _ (fr5 _ _ (s4 _ _ (fr3 _ _ (fr2 _ _ (s1 _ _ e) hb) hf)) hf) hf
    refine ⟨_, rfl, k t a _ ht ?_ (by rw [upd_ne tp.1]; exact t6) S7 fr7⟩
    cases q : H a with
    | none => rfl
    | some u =>
      exfalso
      have nap : a ≠ p := fun z => by rw [z, S3.ob.choose_spec] at ha; cases ha
      have : H3 a = some u := fr3 _ _ (fr2 _ _ (s1 _ _ q) nap) af
      rw [ha] at this; cases this
theorem scT : FnScope ["self"] ["self"] (defScope sTick) := ⟨rfl, rfl, rfl, by decide +kernel, rfl, by decide +kernel, by decide +kernel⟩
theorem ok_tick {f : Addr} {fd : FuncData} (F : Fun K "tick" "House.tick" sTick f fd) (T : Txt K mg C NHd NNr MI NW) : FnOk P w K mg base CX0 1 f fd ["self"] (spTick C) := by
  refine F.ok scT (fun vs H Q E h => ?_) (fun cdv A outer s H vs Q E hr h => ?_)
  · obtain ⟨p, G, rfl, _⟩ := h
    rfl
  · obtain ⟨p, G, rfl, S, k⟩ := h
    obtain ⟨dx, hp⟩ := S.ob
    exact ⟨_, pss_one (ps_ret (pe_fld (pv 0) rfl)), ⟨_, rfl, p, C, dx, _, _, rfl, hp, T.cl, T.nT, hf_ticks G, k⟩⟩
end
end K15

namespace K15
open PySem L2 FX
set_option linter.all false
theorem has3 {a b c : Str} {k : NameKind} {cl : List (Str × Addr)} {y : Str} (hc : ∃ z, cl.lookup c = some z)
    (h : ([(a, NameKind.local), (b, NameKind.local), (c, k)] : List (Str × NameKind)).lookup y = some .cell ∨ ([(a, NameKind.local), (b, NameKind.local), (c, k)] : List (Str × NameKind)).lookup y = some .free) : ∃ z, cl.lookup y = some z := by
  by_cases e3 : y = c
  · rw [e3]; exact hc
  · exfalso
    have q3 : (y == c) = false := beq_eq_false_iff_ne.mpr e3
    by_cases e1 : y = a
    · have q1 : (y == a) = true := by rw [e1]; exact beq_self_eq_true a
      simp only [List.lookup_cons, q1] at h
      rcases h with h | h <;> cases h
    · have q1 : (y == a) = false := beq_eq_false_iff_ne.mpr e1
      by_cases e2 : y = b
      · have q2 : (y == b) = true := by rw [e2]; exact beq_self_eq_true b
        simp only [List.lookup_cons, q1, q2] at h
        rcases h with h | h <;> cases h
      · have q2 : (y == b) = false := beq_eq_false_iff_ne.mpr e2
        simp only [List.lookup_cons, q1, q2, q3, List.lookup_nil] at h
        rcases h with h | h <;> cases h
/-- pairs as data -/
theorem recs_rep {K : PySem.W.Frag} {H : Hp} : ∀ {as : List Addr} {rs : List (T2 × Int)}, Paired (RecAt H) as rs → Paired (RepT K H) (as.map V.ref) (rs.map recD)
  | _, _, .nil => .nil
  | _, _, .cons ⟨ka, e1, e2⟩ t => .cons (.tupP (SqT.of e1) (.cons (th_rep e2) (.cons (.int _) .nil))) (recs_rep t)
theorem recs_same {H H' : Hp} (s : Same H H') {as : List Addr} {rs : List (T2 × Int)} (x : Paired (RecAt H) as rs) : Paired (RecAt H') as rs := paired_mono (fun _ _ ⟨ka, e1, e2⟩ => ⟨ka, s _ _ e1, s _ _ e2⟩) x
section
variable {P : Program} {w : World} {K : PySem.W.Frag} {mg : Str → Option Value} {base : Heap} {C NHd NNr MI NW : Addr}
theorem scTo : FnScope ["self", "thing"] ["self", "thing"] (defScope sTold) := ⟨rfl, rfl, rfl, by decide +kernel, rfl, by decide +kernel, by decide +kernel⟩
theorem map_fst_pair {α β : Type} (f : α → β) (l : List α) : (l.map fun t => (t, f t)).map (·.1) = l := by
  rw [List.map_map]; exact List.map_id' l
theorem ok_told {f : Addr} {fd : FuncData} (F : Fun K "told" "House.told" sTold f fd) (T : Txt K mg C NHd NNr MI NW) : FnOk P w K mg base CX0 1 f fd ["self", "thing"] (spTold C K) := by
  refine F.ok scTo (fun vs H Q E h => ?_) (fun cdv A outer s H vs Q E hr h => ?_)
  · obtain ⟨p, t, G, th, w, a, hl, hs, rfl, _⟩ := h
    rfl
  · obtain ⟨p, t, G, th, wt, a, hl, hs, rfl, S, ht, f1, f2, h64, pm, pw, k⟩ := h
    have hu := hu_of hr
    obtain ⟨dx, hp⟩ := S.ob
    have g1 : DGet H G.o (.ref t) (some (V.int wt)) := by
      have := DGet.t (k := tk th) S.dO ht
      rw [valV_tk (k := fun q : T2 × Int => q.1) (f := fun q => V.int q.2), f1] at this
      exact this
    have g2 : DGet H G.l (.ref t) (some (V.ref a)) := by
      have := DGet.t (k := tk th) S.dl ht
      rw [valV_tk (k := fun q : T2 × Addr × List T2 => q.1) (f := fun q => V.ref q.2.1), f2] at this
      exact this
    have g3 : H a = some (dHand hl) := S.hl _ (List.mem_of_find?_eq_some f2)
    refine ⟨_, pss_one (ps_ret (pe_tup (pa_cons (pv 1) (pa_cons (pe_dget hu (pe_fld (pv 0) rfl) (pv 1) (fun _ _ => rfl)) (pa_cons (pe_callTy call_tuple_of (by rfl) T.tuple PyProof.Rows.boot_tuple (pa_cons (pe_callB (call_sorted_things rfl) (by rfl) T.sorted PyProof.Rows.boot_sorted (pa_cons (pe_dget hu (pe_fld (pv 0) rfl) (pv 1) (fun _ _ => rfl)) pa_nil)) pa_nil)) pa_nil))))), ?_⟩
    refine ⟨_, rfl, _, rfl, p, C, dx, _, _, rfl, hp, T.cl, T.nO, hf_outs G, _, rfl, G.o, _, rfl, g1, _, rfl, p, C, dx, _, _, rfl, hp, T.cl, T.nL, hf_holds G, _, rfl, G.l, _, rfl, g2, a, _, hs, rfl, hand_rd g3, (by rw [List.length_map]; exact h64), (by rw [map_fst_pair]; exact pm), pw, fun r as hr ha => ?_⟩
    refine ⟨r, _, rfl, .inl ⟨SqL.of upd_same, fun x2 hx2 => ⟨(by show 3 ≤ sizeLine; decide), fun x hx => ?_⟩⟩⟩
    have s1 := same_new (o := .lst (as.map V.ref)) hr
    have s2 := same_new (o := .tup (as.map V.ref)) hx2
    have s3 := same_new (o := .tup [V.ref t, V.int wt, V.ref x2]) hx
    have ss := same_trans s1 (same_trans s2 s3)
    refine k x _ ss ?_
    refine .tupP (SqT.of upd_same) (.cons (th_rep (ss _ _ ht)) (.cons (.int _) (.cons (.tupP (SqT.of (s3 _ _ upd_same)) (ths_rep (paired_mono (fun _ _ e => ss _ _ e) ha))) .nil)))
theorem scS : FnScope ["self", "hand", "things", "records"] ["self"] (defScope sState) := ⟨rfl, rfl, rfl, by decide +kernel, rfl, by decide +kernel, by decide +kernel⟩
theorem ok_state {f fT : Addr} {fd fdT : FuncData} (F : Fun K "state" "House.state" sState f fd) (T : Txt K mg C NHd NNr MI NW) (FT : Fun K "told" "House.told" sTold fT fdT) (bT : Binds K fdT ["self", "thing"] []) (mT : Meth K C "told" fT) :
    FnOk P w K mg base CX0 2 f fd ["self"] (spState C K) := by
  have GT : FnOk P w K mg base CX0 1 fT fdT ["self", "thing"] (spTold C K) := ok_told FT T
  refine F.ok scS (fun vs H Q E h => ?_) (fun cdv A outer s H vs Q E hr h => ?_)
  · obtain ⟨p, G, hs, os, rs, rfl, _⟩ := h
    rfl
  · obtain ⟨p, G, hs, os, rs, rfl, S, z1, z2, z3, pm, pw, R, pmr, pwr, k⟩ := h
    have hr1 : Room 1 _ := hr.mono (by decide)
    obtain ⟨dx, hp⟩ := S.ob
    refine ⟨_, pss_cons (ps_set (i := 1) scS.nd rfl (Or.inl rfl) (pe_callTy call_tuple_of (by rfl) T.tuple PyProof.Rows.boot_tuple (pa_cons (pe_callB (call_sorted_things rfl) (by rfl) T.sorted PyProof.Rows.boot_sorted (pa_cons (pe_fld (pv 0) rfl) pa_nil)) pa_nil)))
      (pss_cons (ps_set (i := 2) scS.nd rfl (Or.inl rfl) (pe_callTy call_tuple_of (by rfl) T.tuple PyProof.Rows.boot_tuple (pa_cons (pe_comp (caps := [("self", 0)]) rfl (pi_list (pe_callB (call_sorted_things rfl) (by rfl) T.sorted PyProof.Rows.boot_sorted (pa_cons (pe_fld (pv 0) rfl) pa_nil)))
          rfl (by decide +kernel) rfl (by decide +kernel) rfl ⟨rfl, trivial⟩ (fun y h => has3 ⟨_, rfl⟩ h) ⟨⟨rfl, rfl, rfl, rfl⟩, trivial⟩ (by decide +kernel) (fun _ _ _ _ _ => pts_nil)
          (fun _ _ _ _ _ => pe_meth (pv 1) T.cl mT GT hr1 bT .nil pass0 (pa_cons (pv 0) pa_nil))) pa_nil)))
      (pss_cons (ps_set (i := 3) scS.nd rfl (Or.inl rfl) (pe_callTy call_tuple_of (by rfl) T.tuple PyProof.Rows.boot_tuple (pa_cons (pe_callB (call_sorted_items rfl (hu64 hr)) (by rfl) T.sorted PyProof.Rows.boot_sorted (pa_cons (pe_bm0 PySem.F.plainAttrs_dict PySem.F.slot_dict_items PySem.F.type_dict_items mt_items (pe_fld (pv 0) rfl)) pa_nil)) pa_nil)))
      (pss_one (ps_ret (pe_tup (pa_cons (pv 1) (pa_cons (pv 2) (pa_cons (pv 3) pa_nil)))))))), ?_⟩
    -- the hand
    refine ⟨_, rfl, p, C, dx, _, _, rfl, hp, T.cl, T.nH, hf_hand G, G.h, _, hs, rfl, hand_rd S.dh, (by rw [List.length_map]; exact z1), (by rw [map_fst_pair]; exact pm), pw, fun r1 as1 hr1' ha1 => ⟨r1, _, rfl, .inl ⟨SqL.of upd_same, fun x1 hx1 => ?_⟩⟩⟩
    have s1 := same_new (o := .lst (as1.map V.ref)) hr1'
    have s2 := same_new (o := .tup (as1.map V.ref)) hx1
    have ss1 := same_trans s1 s2
    have S1 := S.same ss1
    have q1 : (upd (upd H r1 (.lst (as1.map V.ref))) x1 (.tup (as1.map V.ref))) x1 = some (.tup (as1.map V.ref)) := upd_same
    have ha1' : ThsAt (upd (upd H r1 (.lst (as1.map V.ref))) x1 (.tup (as1.map V.ref))) as1 hs := paired_mono (fun _ _ e => ss1 _ _ e) ha1
    generalize upd (upd H r1 (.lst (as1.map V.ref))) x1 (.tup (as1.map V.ref)) = H1 at ss1 S1 q1 ha1'
    -- the things
    obtain ⟨dx1, hp1⟩ := S1.ob
    have e0 : ((G.outs.map fun q => (q.1, V.int q.2)).map (·.1)) = G.outs.map (·.1) := by rw [List.map_map]; rfl
    refine ⟨_, rfl, p, C, dx1, _, _, rfl, hp1, T.cl, T.nO, hf_outs G, G.o, _, os.map (·.1), rfl, int_rd S1.dO, (by rw [List.length_map]; exact z2), (by rw [e0]; exact R.pm), R.pw, fun r2 as2 hr2 ha2 => ⟨r2, rfl, ⟨_, SqL.of upd_same⟩, fun q hq => ?_⟩⟩
    have s3 := same_new (o := .lst (as2.map V.ref)) hr2
    have er2 : (upd H1 r2 (.lst (as2.map V.ref))) r2 = some (.lst (as2.map V.ref)) := upd_same
    have S2 := S1.same s3
    have ss2 := same_trans ss1 s3
    have ha2' : ThsAt (upd H1 r2 (.lst (as2.map V.ref))) as2 (os.map (·.1)) := paired_mono (fun _ _ e => s3 _ _ e) ha2
    have ha1b : ThsAt (upd H1 r2 (.lst (as2.map V.ref))) as1 hs := paired_mono (fun _ _ e => s3 _ _ e) ha1'
    have q1b := s3 _ _ q1
    generalize upd H1 r2 (.lst (as2.map V.ref)) = H2 at s3 er2 S2 ss2 ha2' ha1b q1b hq
    have hlen : as2.length = os.length := by have := Paired.length ha2; rw [List.length_map] at this; exact this
    have hos : os.length < 64 := by
      have h1 := R.pm.length_eq
      rw [List.length_map, List.length_map] at h1
      omega
    refine comp_list (K := K) (a := r2) (xs := as2.map V.ref) (tt := fun _ H Q => Q true H) (te := tMeth C "told" (spTold C K) [] E0 (tVar 1) (tCons (tVar 0) tNil)) (caps := [("self", 0)]) (σ := [some (.ref p), some (.ref x1), none, none]) (fun i ys H3 => H3 q = some (.lst ys) ∧ Same H2 H3 ∧ Paired (RepT K H3) ys ((os.take i).map rowD)) ⟨upd_same, same_new hq, by rw [List.take_zero]; exact .nil⟩ (fun i ys H3 _ h => ⟨SqL.of (h.2.1 _ _ er2), h.1⟩) ?_ ?_
    · rintro i x ys H3 N hx ⟨e3, s4, pr⟩ hN
      refine iteT ?_
      rw [List.getElem?_map] at hx
      cases hai : as2[i]? with
      | none => rw [hai] at hx; cases hx
      | some ai =>
        rw [hai] at hx
        cases hx
        have hio : i < os.length := by rw [← hlen]; exact (List.getElem?_eq_some_iff.mp hai).1
        obtain ⟨qo, hqo⟩ := get_of_lt hio
        have eth := paired_get ha2' i ai qo.1 hai (by rw [List.getElem?_map, hqo]; rfl)
        obtain ⟨f1, a, hl, f2, f3, f4, f5⟩ := R.at_ qo (List.mem_of_getElem? hqo)
        have S3 := S2.same s4
        obtain ⟨dx3, hp3⟩ := S3.ob
        refine ⟨_, rfl, p, dx3, _, rfl, hp3, hf_no G (by decide +kernel), _, rfl, p, ai, G, qo.1, qo.2.1, a, hl, qo.2.2, rfl, S3, s4 _ _ eth, f1, f2, f3, f4, f5, fun x2 H5 s5 rep => ⟨s5 _ _ e3, ?_, hN _ _ ⟨upd_same, fun b o e => ?_, ?_⟩⟩⟩
        · have := Paired.length pr
          rw [this, List.length_map]
          exact small1000 (Nat.le_trans (List.length_take_le _ _) (by omega))
        · have nb : b ≠ q := ne_of_none e hq
          rw [upd_ne nb]; exact s5 _ _ (s4 _ _ e)
        · have kq : KeepT H5 (upd H5 q (.lst (ys ++ [V.ref x2]))) := KeepT.upd fun o' e => by
            rw [s5 _ _ e3] at e; cases e; exact ⟨fun _ z => (by cases z), fun _ _ z => (by cases z)⟩
          have et : (os.take (i + 1)).map rowD = (os.take i).map rowD ++ [rowD qo] := by
            rw [List.take_add_one, hqo, List.map_append]; rfl
          rw [et]
          exact paired_snoc (rep.keep kq) (paired_mono (fun _ _ r => (r.keep (KeepT.of_same s5)).keep kq) pr)
    · rintro ys H3 ⟨e3, s4, pr⟩
      rw [List.length_map, hlen, List.take_length] at pr
      refine ⟨q, _, rfl, .inl ⟨SqL.of e3, fun x2 hx2 => ?_⟩⟩
      have s5 := same_new (o := .tup ys) hx2
      have ss3 := same_trans ss2 (same_trans s4 s5)
      have S4 := (S2.same s4).same s5
      have q2 : (upd H3 x2 (.tup ys)) x2 = some (.tup ys) := upd_same
      have q1c := s5 _ _ (s4 _ _ q1b)
      have ha1c : ThsAt (upd H3 x2 (.tup ys)) as1 hs := paired_mono (fun _ _ e => s5 _ _ (s4 _ _ e)) ha1b
      have pr' : Paired (RepT K (upd H3 x2 (.tup ys))) ys (os.map rowD) := paired_mono (fun _ _ r => r.keep (KeepT.of_same s5)) pr
      generalize upd H3 x2 (.tup ys) = H4 at s5 ss3 S4 q2 q1c ha1c pr'
      -- the records
      obtain ⟨dx4, hp4⟩ := S4.ob
      have dr4 := S4.dr
      refine ⟨_, rfl, p, C, dx4, _, _, rfl, hp4, T.cl, T.nR, hf_records G, (.inr (.inr (.inl ⟨rfl, .inr ⟨_, dr4⟩⟩))), G.r, _, rfl, rfl, dr4, fun v hv => ?_⟩
      have s6 := same_new (o := itemsO v G.r) hv
      refine ⟨v, G.r, G.recs, rs, rfl, upd_same, s6 _ _ dr4, z3, pmr, pwr, fun r3 as3 H7 s7 hr3 e7 pr7 => ⟨r3, _, rfl, .inl ⟨SqL.of e7, fun x3 hx3 => ?_⟩⟩⟩
      have s8 := same_new (o := .tup (as3.map V.ref)) hx3
      refine ⟨_, rfl, _, rfl, _, rfl, (by show 3 ≤ sizeLine; decide), fun x hx => ?_⟩
      have s9 := same_new (o := .tup [V.ref x1, V.ref x2, V.ref x3]) hx
      have ss4 := same_trans s6 (same_trans s7 (same_trans s8 s9))
      refine k x _ (same_trans ss3 ss4) ⟨_, upd_same⟩ ?_
      refine .tupP (SqT.of upd_same) (.cons (.tupP (SqT.of (ss4 _ _ q1c)) (ths_rep (paired_mono (fun _ _ e => ss4 _ _ e) ha1c))) (.cons (.tupP (SqT.of (ss4 _ _ q2)) (paired_mono (fun _ _ r => r.keep (KeepT.of_same ss4)) pr')) (.cons (.tupP (SqT.of (s9 _ _ upd_same)) (recs_rep (recs_same (same_trans s8 s9) pr7))) .nil)))
end
end K15

namespace K15
open PySem L2 FX
set_option linter.all false
section
variable {P : Program} {w : World} {K : PySem.W.Frag} {mg : Str → Option Value} {base : Heap} {C NHd NNr MI NW : Addr}
/-! ### a cell of the script -/
theorem scCe : FnScope ["_law_script", "_law_k", "_law_number"] ["_law_script", "_law_k"] (defScope sCell) := ⟨rfl, rfl, rfl, by decide +kernel, rfl, by decide +kernel, by decide +kernel⟩
def spCell (K : PySem.W.Frag) : Sp := fun vs H Q _ => ∃ (a : Addr) (ns : List Int) (k : Int), vs = [.ref a, .int k] ∧ SqL K H a (ns.map V.int) ∧ ns.length ≤ 63 ∧ 0 ≤ k ∧ k ≤ 1000 ∧ ∀ v : Int, Q (.int v) H
theorem ok_cell {f : Addr} {fd : FuncData} (F : Fun K "_law_cell" "_law_cell" sCell f fd) (hn : mg "len" = none) : FnOk P w K mg base CX0 1 f fd ["_law_script", "_law_k"] (spCell K) := by
  refine F.ok scCe (fun vs H Q E h => ?_) (fun cdv A outer s H vs Q E hr h => ?_)
  · obtain ⟨a, ns, k, rfl, _⟩ := h
    rfl
  · obtain ⟨a, ns, k, rfl, hS, hl, h0, h100, kk⟩ := h
    have hlen : (ns.map V.int).length = ns.length := List.length_map ..
    have item : ∀ i : Int, 0 ≤ i → i < ns.length → ∃ v, atI (ns.map V.int) i = some (.int v) := fun i a b => by
      obtain ⟨x, hx⟩ := get_of_lt (xs := ns) (j := i.toNat) (by omega)
      exact ⟨x, atI_at a (by rw [List.getElem?_map, hx]; rfl)⟩
    refine ⟨_, pss_cons (ps_if (pt_cmpR op_lt (pv 1) (pe_callB call_len_seq (by rfl) hn PySem.boot_len (pa_cons (pv 0) pa_nil)) (nomark _)) (pss_one (ps_ret (pe_ix ix_list (pv 0) (pv 1) (fun _ _ => rfl)))) pss_nil)
      (pss_cons (ps_set (i := 2) scCe.nd rfl (Or.inl rfl) (pe_op op_add (pe_op op_mul (pv 1) pe_int) pe_int))
      (pss_cons (ps_if (pt_cmpR op_gt (pe_callB call_len_seq (by rfl) hn PySem.boot_len (pa_cons (pv 0) pa_nil)) pe_int (nomark _))
        (pss_one (ps_set (i := 2) scCe.nd rfl (Or.inl rfl) (pe_op op_mod (pe_op op_add (pe_op op_mul (pe_ix ix_list (pv 0) (pe_op op_mod (pe_op op_mul (pv 1) pe_int) (pe_callB call_len_seq (by rfl) hn PySem.boot_len (pa_cons (pv 0) pa_nil))) (fun _ _ => rfl)) pe_int) (pe_op op_mul (pv 1) pe_int)) pe_int))) pss_nil)
      (pss_one (ps_ret (pe_op op_mod (pe_op op_mul (pv 2) (pv 2)) pe_int))))), ?_⟩
    refine ⟨_, rfl, _, rfl, a, _, rfl, .inl hS, _, _, rfl, rfl, _, rfl, ?_⟩
    refine ite2 (fun c1 => ?_) (fun _ => ?_)
    · have c1 := of_decide_eq_true c1
      obtain ⟨v, hv⟩ := item k h0 (by rw [hlen] at c1; exact c1)
      exact ⟨_, rfl, _, rfl, a, _, _, _, rfl, rfl, hS, hv, kk v⟩
    · refine ⟨_, rfl, _, _, rfl, rfl, .inr ⟨by decide, by decide⟩, _, _, rfl, rfl, ?_⟩
      refine ⟨_, rfl, a, _, rfl, .inl hS, _, _, rfl, rfl, _, rfl, ?_⟩
      refine ite2 (fun c2 => ?_) (fun _ => ?_)
      · have c2 := of_decide_eq_true c2
        have hpos : (0 : Int) < (ns.length : Int) := by rw [hlen] at c2; exact c2
        obtain ⟨v, hv⟩ := item (k * 7 % (ns.length : Int)) (Int.emod_nonneg _ (by omega)) (Int.emod_lt_of_pos _ hpos)
        refine ⟨_, rfl, _, rfl, _, _, rfl, rfl, .inr ⟨by decide, by decide⟩, _, rfl, a, _, rfl, .inl hS, _, _, rfl, rfl, (by rw [hlen]; exact hpos), a, _, _, _, rfl, rfl, hS, (by rw [hlen]; exact hv), _, _, rfl, rfl, .inr ⟨by decide, by decide⟩,
          _, rfl, _, _, rfl, rfl, .inr ⟨by decide, by decide⟩, _, _, rfl, rfl, _, _, rfl, rfl, (show (0 : Int) < 2147483647 by decide), ?_⟩
        refine ⟨_, rfl, _, rfl, _, _, rfl, rfl, .inl ⟨?_, ?_⟩, _, _, rfl, rfl, (show (0 : Int) < 2147483629 by decide), kk _⟩
        · have := Int.emod_nonneg (v * 48271 + k * 7919) (show (2147483647 : Int) ≠ 0 by decide)
          omega
        · have := Int.emod_lt_of_pos (v * 48271 + k * 7919) (show (0 : Int) < 2147483647 by decide)
          omega
      · exact ⟨_, rfl, _, rfl, _, _, rfl, rfl, .inl ⟨by omega, by omega⟩, _, _, rfl, rfl, (show (0 : Int) < 2147483629 by decide), kk _⟩
end
end K15

namespace K15
open PySem L2 FX
set_option linter.all false
/-! ### a house that can be told -/
theorem lt2_tr {a b c : T2} (h1 : lt2 a b) (h2 : lt2 b c) : lt2 a c := by
  rw [lt2_iff] at *; omega
theorem lt2_tot {a b : T2} (h : a ≠ b) (h1 : ¬ lt2 a b) : lt2 b a := by
  rw [lt2_iff] at *
  have : ¬ (a.1 = b.1 ∧ a.2 = b.2) := fun z => h (Prod.ext z.1 z.2)
  omega
theorem sort_in {α : Type} (key : α → T2) (x : α) : ∀ {s : List α}, (s.map key).Pairwise lt2 → (∀ y ∈ s, key x ≠ key y) → ∃ s' : List α, s'.Perm (x :: s) ∧ (s'.map key).Pairwise lt2
  | [], _, _ => ⟨[x], .refl _, by simp⟩
  | y :: s, h, ne => by
    have h' := List.pairwise_cons.mp h
    by_cases e : lt2 (key x) (key y)
    · refine ⟨x :: y :: s, .refl _, List.pairwise_cons.mpr ⟨fun z hz => ?_, h⟩⟩
      rcases List.mem_cons.mp hz with rfl | hz
      · exact e
      · exact lt2_tr e (h'.1 z hz)
    · obtain ⟨s', p, q⟩ := sort_in key x h'.2 fun z hz => ne z (List.mem_cons_of_mem _ hz)
      refine ⟨y :: s', (p.cons y).trans (List.Perm.swap x y s), List.pairwise_cons.mpr ⟨fun z hz => ?_, q⟩⟩
      obtain ⟨u, hu, rfl⟩ := List.mem_map.mp hz
      rcases List.mem_cons.mp (p.mem_iff.mp hu) with rfl | hu
      · exact lt2_tot (ne y (List.mem_cons_self ..)) e
      · exact h'.1 _ (List.mem_map_of_mem hu)
theorem sorts {α : Type} (key : α → T2) : ∀ {l : List α}, (l.map key).Nodup → ∃ s : List α, s.Perm l ∧ (s.map key).Pairwise lt2
  | [], _ => ⟨[], .refl _, by simp⟩
  | x :: l, nd => by
    have nd' := List.nodup_cons.mp nd
    obtain ⟨s, p, q⟩ := sorts key nd'.2
    obtain ⟨s', p', q'⟩ := sort_in key x q fun y hy e => nd'.1 (List.mem_map.mpr ⟨y, p.mem_iff.mp hy, e.symm⟩)
    exact ⟨s', p'.trans (p.cons x), q'⟩
structure Good (G : HGh) : Prop where
  h1 : G.hand.Nodup
  h2 : G.hand.length < 64
  o1 : (G.outs.map (·.1)).Nodup
  o2 : G.outs.length < 64
  r1 : (G.recs.map (·.1)).Nodup
  r2 : G.recs.length < 64
  at_ : ∀ q ∈ G.outs, ∃ a hl, G.holds.find? (fun z => decide (z.1 = q.1)) = some (q.1, a, hl) ∧ hl.Nodup ∧ hl.length < 64
structure Told (G : HGh) (hs : List T2) (os : List (T2 × Int × List T2)) (rs : List (T2 × Int)) : Prop where
  pm : hs.Perm G.hand
  pw : hs.Pairwise lt2
  rw_ : Rows G os
  pr : rs.Perm G.recs
  wr : (rs.map (·.1)).Pairwise lt2
theorem find_self {l : List (T2 × Int)} (nd : (l.map (·.1)).Nodup) {q : T2 × Int} (hq : q ∈ l) : l.find? (fun z => decide (z.1 = q.1)) = some q := by
  induction l with
  | nil => cases hq
  | cons x l ih =>
    have nd' := List.nodup_cons.mp nd
    rcases List.mem_cons.mp hq with rfl | hq
    · simp
    · have ne : ¬ x.1 = q.1 := fun z => nd'.1 (List.mem_map.mpr ⟨q, hq, z.symm⟩)
      rw [List.find?_cons, decide_eq_false ne]
      exact ih nd'.2 hq
theorem rows_of {G : HGh} (g : Good G) : ∀ {s : List (T2 × Int)}, (∀ q ∈ s, q ∈ G.outs) → ∃ os : List (T2 × Int × List T2), os.map (fun q => (q.1, q.2.1)) = s ∧ ∀ q ∈ os, G.outs.find? (fun z => decide (z.1 = q.1)) = some (q.1, q.2.1) ∧ ∃ a hl, G.holds.find? (fun z => decide (z.1 = q.1)) = some (q.1, a, hl) ∧ hl.length < 64 ∧ q.2.2.Perm hl ∧ q.2.2.Pairwise lt2
  | [], _ => ⟨[], rfl, fun q hq => by cases hq⟩
  | x :: s, h => by
    obtain ⟨os, e, k⟩ := rows_of g fun q hq => h q (List.mem_cons_of_mem _ hq)
    have hx := h x (List.mem_cons_self ..)
    obtain ⟨a, hl, f, nd, z⟩ := g.at_ x hx
    obtain ⟨hs, p, q⟩ := sorts (fun t : T2 => t) (l := hl) (by rw [List.map_id']; exact nd)
    rw [List.map_id'] at q
    refine ⟨(x.1, x.2, hs) :: os, by rw [List.map_cons, e], fun y hy => ?_⟩
    rcases List.mem_cons.mp hy with rfl | hy
    · exact ⟨find_self g.o1 hx, a, hl, f, z, p, q⟩
    · exact k y hy
theorem Good.told {G : HGh} (g : Good G) : ∃ hs os rs, Told G hs os rs := by
  obtain ⟨hs, p1, q1⟩ := sorts (fun t : T2 => t) (l := G.hand) (by rw [List.map_id']; exact g.h1)
  obtain ⟨so, p2, q2⟩ := sorts (fun q : T2 × Int => q.1) g.o1
  obtain ⟨rs, p3, q3⟩ := sorts (fun q : T2 × Int => q.1) g.r1
  obtain ⟨os, e, k⟩ := rows_of g fun q hq => p2.mem_iff.mp hq
  have e1 : os.map (·.1) = so.map (·.1) := by rw [← e, List.map_map]; rfl
  rw [List.map_id'] at q1
  exact ⟨hs, os, rs, p1, q1, ⟨by rw [e1]; exact p2.map _, by rw [e1]; exact q2, k⟩, p3, q3⟩
end K15

namespace K15
open PySem L2 FX
set_option linter.all false
theorem lookup_mem {y : Str} {k : NameKind} : ∀ {l : List (Str × NameKind)}, l.lookup y = some k → (y, k) ∈ l
  | [], h => by simp at h
  | (a, b) :: l, h => by
    rw [List.lookup_cons] at h
    by_cases e : y = a
    · have q1 : (y == a) = true := by rw [e]; exact beq_self_eq_true a
      rw [q1] at h
      have h : b = k := Option.some.inj h
      rw [e, h]; exact List.mem_cons_self ..
    · have q1 : (y == a) = false := beq_eq_false_iff_ne.mpr e
      rw [q1] at h
      exact List.mem_cons_of_mem _ (lookup_mem h)
theorem has5 {a b c d e : Str} {k : NameKind} {cl : List (Str × Addr)} {y : Str} (hc : ∃ z, cl.lookup e = some z)
    (h : ([(a, NameKind.local), (b, NameKind.local), (c, NameKind.globalImplicit), (d, NameKind.globalImplicit), (e, k)] : List (Str × NameKind)).lookup y = some .cell ∨ ([(a, NameKind.local), (b, NameKind.local), (c, NameKind.globalImplicit), (d, NameKind.globalImplicit), (e, k)] : List (Str × NameKind)).lookup y = some .free) : ∃ z, cl.lookup y = some z := by
  have : ∀ k', (k' = NameKind.cell ∨ k' = NameKind.free) → (y, k') ∈ ([(a, NameKind.local), (b, NameKind.local), (c, NameKind.globalImplicit), (d, NameKind.globalImplicit), (e, k)] : List (Str × NameKind)) → y = e := fun k' hk m => by
    simp only [List.mem_cons, Prod.mk.injEq, List.not_mem_nil, or_false] at m
    rcases m with ⟨_, m⟩ | ⟨_, m⟩ | ⟨_, m⟩ | ⟨_, m⟩ | ⟨m, _⟩
    · rw [m] at hk; rcases hk with hk | hk <;> cases hk
    · rw [m] at hk; rcases hk with hk | hk <;> cases hk
    · rw [m] at hk; rcases hk with hk | hk <;> cases hk
    · rw [m] at hk; rcases hk with hk | hk <;> cases hk
    · exact m
  rcases h with h | h
  · rw [this _ (.inl rfl) (lookup_mem h)]; exact hc
  · rw [this _ (.inr rfl) (lookup_mem h)]; exact hc
section
variable {P : Program} {w : World} {K : PySem.W.Frag} {mg : Str → Option Value} {base : Heap} {C NHd NNr MI NW : Addr}
/-! ### the law's own rows -/
def spModel : Sp := fun vs H Q _ => ∃ n : Int, vs = [.int n] ∧ ∀ (p h o l r : Addr) (H' : Hp), Same H H' → H p = none → H h = none → H o = none → H l = none → H r = none → ModelAt H' p ⟨n, 0, 0, h, o, l, r, [], [], [], []⟩ → Q (.ref p) H'
theorem scMo : FnScope ["_law_number"] ["_law_number"] (defScope sModel) := ⟨rfl, rfl, rfl, by decide +kernel, rfl, by decide +kernel, by decide +kernel⟩
theorem ok_model {f : Addr} {fd : FuncData} (F : Fun K "_law_model" "_law_model" sModel f fd) : FnOk P w K mg base CX0 1 f fd ["_law_number"] spModel := by
  refine F.ok scMo (fun vs H Q E h => ?_) (fun cdv A outer s H vs Q E hr h => ?_)
  · obtain ⟨n, rfl, _⟩ := h
    rfl
  · obtain ⟨n, rfl, k⟩ := h
    refine ⟨_, pss_one (ps_ret (pe_disp (pps_cons pe_str (pv 0) (pps_cons pe_str (pe_lst pa_nil) (pps_cons pe_str pe_dnewT (pps_cons pe_str pe_dnewT (pps_cons pe_str pe_dnewT (pps_cons pe_str pe_int (pps_cons pe_str pe_int pps_nil))))))) rfl rfl (by intro z; cases z) (by decide))), ?_⟩
    intro p hp
    refine ⟨_, rfl, Nat.zero_le _, fun h hh l hl o ho r hr' => ⟨?_, mflds ⟨n, 0, 0, h, o, l, r, [], [], [], []⟩, rfl, (by show 7 ≤ 15; decide), ?_⟩⟩
    · have n1 : p ≠ h := ne_of_none (H := upd H p (.dK [])) upd_same hh
      have n2 : p ≠ l := fun z => by rw [← z, upd_ne n1, upd_same] at hl; cases hl
      have n3 : p ≠ o := fun z => by rw [← z, upd_ne n2, upd_ne n1, upd_same] at ho; cases ho
      have n4 : p ≠ r := fun z => by rw [← z, upd_ne n3, upd_ne n2, upd_ne n1, upd_same] at hr'; cases hr'
      rw [upd_ne n4, upd_ne n3, upd_ne n2, upd_ne n1, upd_same]
    rw [mf_all]
    have n1 : p ≠ h := ne_of_none (H := upd H p (.dK [])) upd_same hh
    have n2 : p ≠ l := fun z => by rw [← z, upd_ne n1, upd_same] at hl; cases hl
    have n3 : p ≠ o := fun z => by rw [← z, upd_ne n2, upd_ne n1, upd_same] at ho; cases ho
    have n4 : p ≠ r := fun z => by rw [← z, upd_ne n3, upd_ne n2, upd_ne n1, upd_same] at hr'; cases hr'
    have n5 : h ≠ l := fun z => by rw [← z, upd_same] at hl; cases hl
    have n6 : h ≠ o := fun z => by rw [← z, upd_ne n5, upd_same] at ho; cases ho
    have n7 : h ≠ r := fun z => by rw [← z, upd_ne n6, upd_ne n5, upd_same] at hr'; cases hr'
    have n8 : l ≠ o := fun z => by rw [← z, upd_same] at ho; cases ho
    have n9 : l ≠ r := fun z => by rw [← z, upd_ne n8, upd_same] at hr'; cases hr'
    have na : o ≠ r := fun z => by rw [← z, upd_same] at hr'; cases hr'
    have s1 := same_new (o := .dK []) hp
    have s2 := same_trans s1 (same_new (o := .lst []) hh)
    have s3 := same_trans s2 (same_new (o := .dT []) hl)
    have s4 := same_trans s3 (same_new (o := .dT []) ho)
    have s5 := same_trans s4 (same_new (o := .dT []) hr')
    refine k p h o l r _ (fun b u e => ?_) hp (same_free s1 hh) (same_free s3 ho) (same_free s2 hl) (same_free s4 hr') ⟨upd_same, ⟨[], ?_, .nil⟩, ?_, ?_, ?_, fun q hq => (by cases hq), ?_⟩
    · rw [upd_ne (ne_of_none e hp)]; exact s5 _ _ e
    · show upd _ _ _ h = _
      rw [upd_ne n1.symm, upd_ne n7, upd_ne n6, upd_ne n5, upd_same]; rfl
    · show upd _ _ _ o = _
      rw [upd_ne n3.symm, upd_ne na, upd_same]; rfl
    · show upd _ _ _ l = _
      rw [upd_ne n2.symm, upd_ne n9, upd_ne n8, upd_same]; rfl
    · show upd _ _ _ r = _
      rw [upd_ne n4.symm, upd_same]; rfl
    · simp [foot, n1, n2, n3, n4, n5, n6, n7, n8, n9, na, n8.symm, n9.symm, n5.symm]
/-- the things' rows, the records' rows: one more -/
def spMState (K : PySem.W.Frag) : Sp := fun vs H Q _ => ∃ (p : Addr) (M : HGh) (hs : List T2) (os : List (T2 × Int × List T2)) (rs : List (T2 × Int)), vs = [.ref p] ∧ ModelAt H p M ∧ Good M ∧ Told M hs os rs ∧ M.holds.map (·.1) = M.outs.map (·.1) ∧
  ∀ (x : Addr) (H' : Hp), Same H H' → (∃ xs, H' x = some (.tup xs)) → RepT K H' (.ref x) (stD hs os rs) → Q (.ref x) H'
theorem ref_rd {H : Hp} {d : Addr} {l : List (T2 × Addr × List T2)} (h : H d = some (dRef l)) : Rd H d (.dT ((l.map fun q => (q.1, V.ref q.2.1)).map fun q => (tk q.1, q.2))) := by
  have e : ((l.map fun q => (q.1, V.ref q.2.1)).map fun q => (tk q.1, q.2)) = l.map fun q => (tk q.1, V.ref q.2.1) := by rw [List.map_map]; rfl
  rw [e]; exact .inl h
theorem ref_get {H : Hp} {d t : Addr} {l : List (T2 × Addr × List T2)} {th : T2} {a : Addr} {hl : List T2} (hd : H d = some (dRef l)) (ht : H t = some (.tup (tv th))) (f : l.find? (fun q => decide (q.1 = th)) = some (th, a, hl)) : DGet H d (.ref t) (some (V.ref a)) := by
  have := DGet.t (k := tk th) hd ht
  rw [valV_tk (k := fun q : T2 × Addr × List T2 => q.1) (f := fun q => V.ref q.2.1), f] at this
  exact this
theorem int_get1 {H : Hp} {d t : Addr} {l : List (T2 × Int)} {th : T2} {v : Int} (hd : H d = some (dInt l)) (ht : H t = some (.tup (tv th))) (f : l.find? (fun q => decide (q.1 = th)) = some (th, v)) : DGet H d (.ref t) (some (V.int v)) := by
  have := int_get hd ht
  rw [f] at this
  exact this
def rTupOf (K : PySem.W.Frag) : List V → Hp → VK → Prop := fun xs H Q => ∃ p ys, xs = [.ref p] ∧ ((SqL K H p ys ∧ ∀ l, H l = none → Q (.ref l) (upd H l (.tup ys))) ∨ (SqT K H p ys ∧ Q (.ref p) H))
def rSortL : List V → Hp → VK → Prop := fun xs H Q => ∃ (l : Addr) (as : List Addr) (ts ss : List T2), xs = [.ref l] ∧ H l = some (.lst (as.map V.ref)) ∧ ThsAt H as ts ∧ ts.length < 64 ∧ ss.Perm ts ∧ ss.Pairwise lt2 ∧
    ∀ (r : Addr) (as' : List Addr), H r = none → ThsAt H as' ss → Q (.ref r) (upd H r (.lst (as'.map V.ref)))
def teRow (K : PySem.W.Frag) : TE := tTup (tCons (tVar 0) (tCons (tDGet (tDGet (tVar 1) (tC (.str "outs"))) (tVar 0)) (tCons (tCB (rTupOf K) (tCons (tCB rSortL (tCons (tDGet (tDGet (tVar 1) (tC (.str "holds"))) (tVar 0)) tNil)) tNil)) tNil)))
def teRec : TE := tTup (tCons (tVar 0) (tCons (tDGet (tDGet (tVar 1) (tC (.str "records"))) (tVar 0)) tNil))
theorem scMS : FnScope ["_law_model_here", "_law_things", "_law_records"] ["_law_model_here"] (defScope sMState) := ⟨rfl, rfl, rfl, by decide +kernel, rfl, by decide +kernel, by decide +kernel⟩
theorem ok_mstate {f : Addr} {fd : FuncData} (F : Fun K "_law_state" "_law_state" sMState f fd) (T : Txt K mg C NHd NNr MI NW) : FnOk P w K mg base CX0 1 f fd ["_law_model_here"] (spMState K) := by
  refine F.ok scMS (fun vs H Q E h => ?_) (fun cdv A outer s H vs Q E hr h => ?_)
  · obtain ⟨p, M, hs, os, rs, rfl, _⟩ := h
    rfl
  · obtain ⟨p, M, hs, os, rs, rfl, S, g, tld, ke, k⟩ := h
    have hu := hu_of hr
    refine ⟨_, pss_cons (ps_comp (te := teRow K) (i := 1) (caps := [("_law_model_here", 0)]) scMS.nd rfl rfl rfl rfl (pi_list (pe_callB (call_sorted_things rfl) (by rfl) T.sorted PyProof.Rows.boot_sorted (pa_cons (pe_dget hu (pv 0) pe_str (fun _ _ => rfl)) pa_nil)))
          rfl (by decide +kernel) rfl (by decide +kernel) rfl ⟨rfl, trivial⟩ (fun y h => has5 ⟨_, rfl⟩ h) ⟨⟨rfl, rfl, rfl, rfl⟩, trivial⟩ (by decide +kernel) (fun _ _ _ _ _ => pts_nil)
          (fun _ _ _ _ _ => pe_tup (pa_cons (pv 0) (pa_cons (pe_dget hu (pe_dget hu (pv 1) pe_str (fun _ _ => rfl)) (pv 0) (fun _ _ => rfl)) (pa_cons (pe_callTy call_tuple_of (by rfl) T.tuple PyProof.Rows.boot_tuple (pa_cons (pe_callB (call_sorted_list rfl) (by rfl) T.sorted PyProof.Rows.boot_sorted (pa_cons (pe_dget hu (pe_dget hu (pv 1) pe_str (fun _ _ => rfl)) (pv 0) (fun _ _ => rfl)) pa_nil)) pa_nil)) pa_nil)))))
      (pss_cons (ps_comp (te := teRec) (i := 2) (caps := [("_law_model_here", 0)]) scMS.nd rfl rfl rfl rfl (pi_list (pe_callB (call_sorted_things rfl) (by rfl) T.sorted PyProof.Rows.boot_sorted (pa_cons (pe_dget hu (pv 0) pe_str (fun _ _ => rfl)) pa_nil)))
          rfl (by decide +kernel) rfl (by decide +kernel) rfl ⟨rfl, trivial⟩ (fun y h => has3 ⟨_, rfl⟩ h) ⟨⟨rfl, rfl, rfl, rfl⟩, trivial⟩ (by decide +kernel) (fun _ _ _ _ _ => pts_nil)
          (fun _ _ _ _ _ => pe_tup (pa_cons (pv 0) (pa_cons (pe_dget hu (pe_dget hu (pv 1) pe_str (fun _ _ => rfl)) (pv 0) (fun _ _ => rfl)) pa_nil))))
      (pss_one (ps_ret (pe_tup (pa_cons (pe_callTy call_tuple_of (by rfl) T.tuple PyProof.Rows.boot_tuple (pa_cons (pe_callB (call_sorted_list rfl) (by rfl) T.sorted PyProof.Rows.boot_sorted (pa_cons (pe_dget hu (pv 0) pe_str (fun _ _ => rfl)) pa_nil)) pa_nil))
        (pa_cons (pe_callTy call_tuple_of (by rfl) T.tuple PyProof.Rows.boot_tuple (pa_cons (pv 1) pa_nil)) (pa_cons (pe_callTy call_tuple_of (by rfl) T.tuple PyProof.Rows.boot_tuple (pa_cons (pv 2) pa_nil)) pa_nil))))))), ?_⟩
    have hos : os.length < 64 := by
      have h1 := tld.rw_.pm.length_eq
      rw [List.length_map, List.length_map] at h1
      have := g.o2
      lia
    have hrs : rs.length < 64 := by
      have h1 := tld.pr.length_eq
      have := g.r2
      lia
    have hhl : M.holds.length < 64 := by
      have := congrArg List.length ke
      rw [List.length_map, List.length_map] at this
      have := g.o2
      lia
    -- the things
    refine ⟨_, rfl, p, _, rfl, S.gHolds, M.l, _, os.map (·.1), rfl, ref_rd S.dl, (by rw [List.length_map]; exact hhl), ?_, tld.rw_.pw, fun r2 as2 hr2 ha2 => ⟨r2, rfl, ⟨_, SqL.of upd_same⟩, fun q hq => ?_⟩⟩
    · have e0 : ((M.holds.map fun q => (q.1, V.ref q.2.1)).map (·.1)) = M.holds.map (·.1) := by rw [List.map_map]; rfl
      rw [e0, ke]; exact tld.rw_.pm
    have s1 := same_new (o := .lst (as2.map V.ref)) hr2
    have er2 : (upd H r2 (.lst (as2.map V.ref))) r2 = some (.lst (as2.map V.ref)) := upd_same
    have ha2' : ThsAt (upd H r2 (.lst (as2.map V.ref))) as2 (os.map (·.1)) := paired_mono (fun _ _ e => s1 _ _ e) ha2
    have S1 := S.same s1
    generalize upd H r2 (.lst (as2.map V.ref)) = H1 at s1 er2 ha2' S1 hq
    have hlen : as2.length = os.length := by have := Paired.length ha2; rw [List.length_map] at this; exact this
    refine comp_list (K := K) (a := r2) (xs := as2.map V.ref) (tt := fun _ H Q => Q true H) (te := teRow K) (caps := [("_law_model_here", 0)]) (σ := [some (.ref p), none, none]) (fun i ys H3 => H3 q = some (.lst ys) ∧ Same H1 H3 ∧ Paired (RepT K H3) ys ((os.take i).map rowD)) ⟨upd_same, same_new hq, by rw [List.take_zero]; exact .nil⟩ (fun i ys H3 _ h => ⟨SqL.of (h.2.1 _ _ er2), h.1⟩) ?_ ?_
    · rintro i x ys H3 N hx ⟨e3, s4, pr⟩ hN
      refine iteT ?_
      rw [List.getElem?_map] at hx
      cases hai : as2[i]? with
      | none => rw [hai] at hx; cases hx
      | some ai =>
        rw [hai] at hx
        cases hx
        have hio : i < os.length := by rw [← hlen]; exact (List.getElem?_eq_some_iff.mp hai).1
        obtain ⟨qo, hqo⟩ := get_of_lt hio
        have eth := paired_get ha2' i ai qo.1 hai (by rw [List.getElem?_map, hqo]; rfl)
        obtain ⟨f1, a, hl, f2, f3, f4, f5⟩ := tld.rw_.at_ qo (List.mem_of_getElem? hqo)
        have S3 := S1.same s4
        have th3 := s4 _ _ eth
        obtain ⟨bs, eb, tb⟩ := S3.hl _ (List.mem_of_find?_eq_some f2)
        refine ⟨_, rfl, _, rfl, p, _, rfl, S3.gOuts, _, rfl, M.o, _, rfl, int_get1 S3.dO th3 f1, _, rfl, p, _, rfl, S3.gHolds, _, rfl, M.l, _, rfl, ref_get S3.dl th3 f2, a, bs, hl, qo.2.2, rfl, eb, tb, f3, f4, f5, fun r as hr ha => ?_⟩
        refine ⟨r, _, rfl, .inl ⟨SqL.of upd_same, fun x2 hx2 => ⟨(by show 3 ≤ sizeLine; decide), fun x hx => ?_⟩⟩⟩
        have t1 := same_new (o := .lst (as.map V.ref)) hr
        have t2 := same_new (o := .tup (as.map V.ref)) hx2
        have t3 := same_new (o := .tup [V.ref ai, V.int qo.2.1, V.ref x2]) hx
        have tt := same_trans t1 (same_trans t2 t3)
        have rep : RepT K (upd (upd (upd H3 r (.lst (as.map V.ref))) x2 (.tup (as.map V.ref))) x (.tup [V.ref ai, V.int qo.2.1, V.ref x2])) (.ref x) (rowD qo) :=
          .tupP (SqT.of upd_same) (.cons (th_rep (tt _ _ th3)) (.cons (.int _) (.cons (.tupP (SqT.of (t3 _ _ upd_same)) (ths_rep (paired_mono (fun _ _ e => tt _ _ e) ha))) .nil)))
        generalize upd (upd (upd H3 r (.lst (as.map V.ref))) x2 (.tup (as.map V.ref))) x (.tup [V.ref ai, V.int qo.2.1, V.ref x2]) = H5 at tt rep
        refine ⟨tt _ _ e3, ?_, hN _ _ ⟨upd_same, fun b o e => ?_, ?_⟩⟩
        · have := Paired.length pr
          rw [this, List.length_map]
          exact small1000 (Nat.le_trans (List.length_take_le _ _) (by lia))
        · rw [upd_ne (ne_of_none e hq)]; exact tt _ _ (s4 _ _ e)
        · have kq : KeepT H5 (upd H5 q (.lst (ys ++ [V.ref x]))) := KeepT.upd fun o' e => by
            rw [tt _ _ e3] at e; cases e; exact ⟨fun _ z => (by cases z), fun _ _ z => (by cases z)⟩
          have et : (os.take (i + 1)).map rowD = (os.take i).map rowD ++ [rowD qo] := by
            rw [List.take_add_one, hqo, List.map_append]; rfl
          rw [et]
          exact paired_snoc (rep.keep kq) (paired_mono (fun _ _ r => (r.keep (KeepT.of_same tt)).keep kq) pr)
    · rintro ys H3 ⟨e3, s4, pr⟩
      rw [List.length_map, hlen, List.take_length] at pr
      have S3 := S1.same s4
      have ss3 := same_trans s1 s4
      -- the records
      refine ⟨_, rfl, p, _, rfl, S3.gRecs, M.r, _, rs.map (·.1), rfl, int_rd S3.dr, (by rw [List.length_map]; exact g.r2), ?_, tld.wr, fun r4 as4 hr4 ha4 => ⟨r4, rfl, ⟨_, SqL.of upd_same⟩, fun q2 hq2 => ?_⟩⟩
      · have e0 : ((M.recs.map fun q => (q.1, V.int q.2)).map (·.1)) = M.recs.map (·.1) := by rw [List.map_map]; rfl
        rw [e0]; exact tld.pr.map _
      have s5 := same_new (o := .lst (as4.map V.ref)) hr4
      have er4 : (upd H3 r4 (.lst (as4.map V.ref))) r4 = some (.lst (as4.map V.ref)) := upd_same
      have ha4' : ThsAt (upd H3 r4 (.lst (as4.map V.ref))) as4 (rs.map (·.1)) := paired_mono (fun _ _ e => s5 _ _ e) ha4
      have S4 := S3.same s5
      have e4 := s5 _ _ e3
      have pr4 : Paired (RepT K (upd H3 r4 (.lst (as4.map V.ref)))) ys (os.map rowD) := paired_mono (fun _ _ r => r.keep (KeepT.of_same s5)) pr
      have ss4 := same_trans ss3 s5
      generalize upd H3 r4 (.lst (as4.map V.ref)) = H4 at s5 er4 ha4' S4 hq2 e4 pr4 ss4
      have hlen4 : as4.length = rs.length := by have := Paired.length ha4; rw [List.length_map] at this; exact this
      refine comp_list (K := K) (a := r4) (xs := as4.map V.ref) (tt := fun _ H Q => Q true H) (te := teRec) (caps := [("_law_model_here", 0)]) (σ := [some (.ref p), some (.ref q), none]) (fun i zs H5 => H5 q2 = some (.lst zs) ∧ Same H4 H5 ∧ Paired (RepT K H5) zs ((rs.take i).map recD)) ⟨upd_same, same_new hq2, by rw [List.take_zero]; exact .nil⟩ (fun i ys H3 _ h => ⟨SqL.of (h.2.1 _ _ er4), h.1⟩) ?_ ?_
      · rintro i x zs H5 N hx ⟨e5, s6, pz⟩ hN
        refine iteT ?_
        rw [List.getElem?_map] at hx
        cases hai : as4[i]? with
        | none => rw [hai] at hx; cases hx
        | some ai =>
          rw [hai] at hx
          cases hx
          have hio : i < rs.length := by rw [← hlen4]; exact (List.getElem?_eq_some_iff.mp hai).1
          obtain ⟨qo, hqo⟩ := get_of_lt hio
          have eth := paired_get ha4' i ai qo.1 hai (by rw [List.getElem?_map, hqo]; rfl)
          have fr : M.recs.find? (fun z => decide (z.1 = qo.1)) = some (qo.1, qo.2) := find_self g.r1 (tld.pr.mem_iff.mp (List.mem_of_getElem? hqo))
          have S5 := S4.same s6
          have th5 := s6 _ _ eth
          refine ⟨_, rfl, _, rfl, p, _, rfl, S5.gRecs, _, rfl, M.r, _, rfl, int_get1 S5.dr th5 fr, (by show 2 ≤ sizeLine; decide), fun x hx => ?_⟩
          have tt := same_new (o := .tup [V.ref ai, V.int qo.2]) hx
          have rep : RepT K (upd H5 x (.tup [V.ref ai, V.int qo.2])) (.ref x) (recD qo) := .tupP (SqT.of upd_same) (.cons (th_rep (tt _ _ th5)) (.cons (.int _) .nil))
          generalize upd H5 x (.tup [V.ref ai, V.int qo.2]) = H6 at tt rep
          refine ⟨tt _ _ e5, ?_, hN _ _ ⟨upd_same, fun b o e => ?_, ?_⟩⟩
          · have := Paired.length pz
            rw [this, List.length_map]
            exact small1000 (Nat.le_trans (List.length_take_le _ _) (by lia))
          · rw [upd_ne (ne_of_none e hq2)]; exact tt _ _ (s6 _ _ e)
          · have kq : KeepT H6 (upd H6 q2 (.lst (zs ++ [V.ref x]))) := KeepT.upd fun o' e => by
              rw [tt _ _ e5] at e; cases e; exact ⟨fun _ z => (by cases z), fun _ _ z => (by cases z)⟩
            have et : (rs.take (i + 1)).map recD = (rs.take i).map recD ++ [recD qo] := by
              rw [List.take_add_one, hqo, List.map_append]; rfl
            rw [et]
            exact paired_snoc (rep.keep kq) (paired_mono (fun _ _ r => (r.keep (KeepT.of_same tt)).keep kq) pz)
      · rintro zs H5 ⟨e5, s6, pz⟩
        rw [List.length_map, hlen4, List.take_length] at pz
        have S5 := S4.same s6
        obtain ⟨bs, eb, tb⟩ := S5.dh
        refine ⟨_, rfl, p, _, rfl, S5.gHand, M.h, bs, M.hand, hs, rfl, eb, tb, g.h2, tld.pm, tld.pw, fun r6 as6 hr6 ha6 => ?_⟩
        refine ⟨r6, _, rfl, .inl ⟨SqL.of upd_same, fun x1 hx1 => ?_⟩⟩
        have u1 := same_new (o := .lst (as6.map V.ref)) hr6
        have u2 := same_new (o := .tup (as6.map V.ref)) hx1
        have u12 := same_trans u1 u2
        refine ⟨_, rfl, q, _, rfl, .inl ⟨SqL.of (u12 _ _ (s6 _ _ e4)), fun x2 hx2 => ?_⟩⟩
        have u3 := same_new (o := .tup ys) hx2
        have u13 := same_trans u12 u3
        refine ⟨_, rfl, q2, _, rfl, .inl ⟨SqL.of (u13 _ _ e5), fun x3 hx3 => ⟨(by show 3 ≤ sizeLine; decide), fun x hx => ?_⟩⟩⟩
        have u4 := same_new (o := .tup zs) hx3
        have u5 := same_new (o := .tup [V.ref x1, V.ref x2, V.ref x3]) hx
        have u35 := same_trans u3 (same_trans u4 u5)
        have u15 := same_trans u12 u35
        refine k x _ (same_trans ss4 (same_trans s6 u15)) ⟨_, upd_same⟩ ?_
        exact .tupP (SqT.of upd_same) (.cons (.tupP (SqT.of (u35 _ _ upd_same)) (ths_rep (paired_mono (fun _ _ e => u15 _ _ e) ha6)))
          (.cons (.tupP (SqT.of ((same_trans u4 u5) _ _ upd_same)) (paired_mono (fun _ _ r => r.keep (KeepT.of_same (same_trans s6 u15))) pr4)) (.cons (.tupP (SqT.of (u5 _ _ upd_same)) (paired_mono (fun _ _ r => r.keep (KeepT.of_same u15)) pz)) .nil)))
end
end K15

namespace K15
open PySem L2 FX
set_option linter.all false
theorem notIn_go {Q : VK} {H : Hp} {b l : Addr} {tb : T2} {as : List Addr} {ts : List T2} (hb : H b = some (.tup (tv tb))) (hl : H l = some (.lst (as.map V.ref))) (th : ThsAt H as ts) (q : (tb ∉ ts → Q (.bl true) H) ∧ (tb ∈ ts → Q (.bl false) H)) : rInT true (.ref b) (.ref l) H Q := by
  refine ⟨b, l, tb, as, ts, rfl, rfl, hb, hl, th, ?_⟩
  by_cases h : tb ∈ ts
  · have := q.2 h
    simpa [h] using this
  · have := q.1 h
    simpa [h] using this
theorem ths_snoc {H : Hp} {as : List Addr} {ts : List T2} {a : Addr} {t : T2} (h : H a = some (.tup (tv t))) (x : ThsAt H as ts) : ThsAt H (as ++ [a]) (ts ++ [t]) := by
  exact paired_snoc (R := fun (a : Addr) (t : T2) => H a = some (.tup (tv t))) h x
section
variable {P : Program} {w : World} {K : PySem.W.Frag} {mg : Str → Option Value} {base : Heap} {C NHd NNr MI NW : Addr}
def spMMade : Sp := fun vs H Q _ => ∃ (p : Addr) (M : HGh) (n : Nat), vs = [.ref p] ∧ ModelAt H p M ∧ Ok M n ∧ n ≤ 500 ∧
  ∀ (x t a : Addr) (H' : Hp), H a = none → H' x = some (.tup [.str "told", .ref t]) → H' t = some (.tup (tv (M.num, M.made))) → ModelAt H' p (mkG M a) → HFr p M H H' → Q (.ref x) H'
theorem scMM : FnScope ["_law_model_here", "_law_thing"] ["_law_model_here"] (defScope sMMade) := ⟨rfl, rfl, rfl, by decide +kernel, rfl, by decide +kernel, by decide +kernel⟩
theorem ok_mmade {f : Addr} {fd : FuncData} (F : Fun K "_law_made" "_law_made" sMMade f fd) : FnOk P w K mg base CX0 1 f fd ["_law_model_here"] spMMade := by
  refine F.ok scMM (fun vs H Q E h => ?_) (fun cdv A outer s H vs Q E hr h => ?_)
  · obtain ⟨p, M, n, rfl, _⟩ := h
    rfl
  · obtain ⟨p, M, n, rfl, S, ok, hn, k⟩ := h
    have hu := hu_of hr
    have z1 := ok.hz
    have z2 := ok.oz
    have z3 := ok.lens
    obtain ⟨f1, f2, f3⟩ := ok.fresh
    refine ⟨_, pss_cons (ps_set (i := 1) scMM.nd rfl (Or.inl rfl) (pe_tup (pa_cons (pe_dget hu (pv 0) pe_str (fun _ _ => rfl)) (pa_cons (pe_dget hu (pv 0) pe_str (fun _ _ => rfl)) pa_nil))))
      (pss_cons (ps_dput hu (pv 0) pe_str (pe_op op_add (pe_dget hu (pv 0) pe_str (fun _ _ => rfl)) pe_int) rfl)
      (pss_cons (ps_dput hu (pe_dget hu (pv 0) pe_str (fun _ _ => rfl)) (pv 1) (pe_lst pa_nil) rfl)
      (pss_cons (ps_dput hu (pe_dget hu (pv 0) pe_str (fun _ _ => rfl)) (pv 1) pe_int rfl)
      (pss_cons (ps_expr (pe_bm PySem.F.plainAttrs_list PySem.F.slot_list_append PySem.F.type_list_append mt_append (pe_dget hu (pv 0) pe_str (fun _ _ => rfl)) (pa_cons (pv 1) pa_nil)))
      (pss_one (ps_ret (pe_tup (pa_cons pe_str (pa_cons (pv 1) pa_nil))))))))), ?_⟩
    refine ⟨_, rfl, p, _, rfl, S.gHouse, _, rfl, p, _, rfl, S.gMade, (by show 2 ≤ sizeLine; decide), fun t ht => ?_⟩
    have s1 := same_new (o := .tup [V.int M.num, V.int M.made]) ht
    have S1 := S.same s1
    have t1 : (upd H t (.tup [V.int M.num, V.int M.made])) t = some (.tup (tv (M.num, M.made))) := upd_same
    generalize upd H t (.tup [V.int M.num, V.int M.made]) = H1 at s1 S1 t1
    -- made
    refine ⟨_, rfl, p, _, rfl, S1.gMade, _, _, rfl, rfl, _, rfl, p, _, rfl, S1.pMade (M.made + 1), ?_⟩
    have S2 : ModelAt (upd H1 p (.dK (mflds { M with made := M.made + 1 }))) p { M with made := M.made + 1 } := S1.fld (M.made + 1) M.ticks
    have fr2 : ∀ b o, H1 b = some o → b ≠ p → (upd H1 p (.dK (mflds { M with made := M.made + 1 }))) b = some o := fun b o e hb => by rw [upd_ne hb]; exact e
    have tp := S1.tup_ne t1
    have t2 := fr2 _ _ t1 tp.1
    generalize upd H1 p (.dK (mflds { M with made := M.made + 1 })) = H2 at S2 fr2 t2
    -- holds
    refine ⟨Nat.zero_le _, fun a ha => ?_⟩
    have s3 := same_new (o := .lst []) ha
    have S3 := S2.same s3
    have a3 : (upd H2 a (.lst [])) a = some (.lst []) := upd_same
    have t3 := s3 _ _ t2
    have an := S2.new_ne ha
    generalize upd H2 a (.lst []) = H3 at s3 S3 a3 t3
    refine ⟨_, rfl, p, _, rfl, S3.gHolds, _, rfl, M.l, _, rfl, DPut.t (k := tk (M.num, M.made)) S3.dl t3 (by rw [List.length_map]; exact small1000 (by show M.holds.length ≤ 1000; lia)), ?_⟩
    have e5 : putK (M.holds.map fun (q : T2 × Addr × List T2) => (tk q.1, V.ref q.2.1)) (tk (M.num, M.made)) (V.ref a) = (M.holds ++ [((M.num, M.made), a, [])]).map fun (q : T2 × Addr × List T2) => (tk q.1, V.ref q.2.1) := by
      rw [putK_tk (k := fun q : T2 × Addr × List T2 => q.1) (f := fun q => V.ref q.2.1) _ f3, List.map_append]; rfl
    have S4 := S3.addHold (M.num, M.made) a3 an.2
    unfold dRef at S4
    rw [← e5] at S4
    have tn := S3.tup_ne t3
    have fr4 : ∀ b o, H3 b = some o → b ∉ foot M → (upd H3 M.l (.dT (putK (M.holds.map fun (q : T2 × Addr × List T2) => (tk q.1, V.ref q.2.1)) (tk (M.num, M.made)) (V.ref a)))) b = some o := fun b o e hb => by rw [upd_ne (fun z => hb (by rw [z]; simp [foot]))]; exact e
    have t4 := fr4 _ _ t3 tn.2
    generalize (upd H3 M.l (.dT (putK (M.holds.map fun (q : T2 × Addr × List T2) => (tk q.1, V.ref q.2.1)) (tk (M.num, M.made)) (V.ref a)))) = H4 at S4 fr4 t4
    -- outs
    refine ⟨_, rfl, p, _, rfl, S4.gOuts, _, rfl, M.o, _, rfl, DPut.t (k := tk (M.num, M.made)) S4.dO t4 (by rw [List.length_map]; exact small1000 (by show M.outs.length ≤ 1000; lia)), ?_⟩
    have e3 : putK (M.outs.map fun (q : T2 × Int) => (tk q.1, V.int q.2)) (tk (M.num, M.made)) (V.int 0) = (M.outs ++ [((M.num, M.made), 0)]).map fun (q : T2 × Int) => (tk q.1, V.int q.2) := by
      rw [putK_tk (k := fun q : T2 × Int => q.1) (f := fun q => V.int q.2) _ f2, List.map_append]; rfl
    have S5 := S4.setOuts (M.outs ++ [((M.num, M.made), 0)])
    unfold dInt at S5
    rw [← e3] at S5
    have fr5 : ∀ b o, H4 b = some o → b ∉ foot M → (upd H4 M.o (.dT (putK (M.outs.map fun (q : T2 × Int) => (tk q.1, V.int q.2)) (tk (M.num, M.made)) (V.int 0)))) b = some o := fun b o e hb => by rw [upd_ne (fun z => hb (by rw [z]; simp [foot]))]; exact e
    have t5 := fr5 _ _ t4 tn.2
    generalize (upd H4 M.o (.dT (putK (M.outs.map fun (q : T2 × Int) => (tk q.1, V.int q.2)) (tk (M.num, M.made)) (V.int 0)))) = H5 at S5 fr5 t5
    -- the hand
    obtain ⟨as, eh, th⟩ := S5.dh
    have th : ThsAt H5 as M.hand := th
    have hlen : as.length ≤ 500 := by have := Paired.length th; lia
    refine ⟨_, rfl, p, _, rfl, S5.gHand, .inl ⟨rfl, _, SqL.of eh⟩, _, rfl, M.h, _, _, rfl, rfl, eh, (by rw [List.length_map]; exact small1000 (by lia)), ?_⟩
    have e6 : as.map V.ref ++ [V.ref t] = (as ++ [t]).map V.ref := by rw [List.map_append]; rfl
    rw [e6]
    have S6 := S5.setHand (as := as ++ [t]) (ts := M.hand ++ [(M.num, M.made)]) (ths_snoc t5 th)
    have fr6 : ∀ b o, H5 b = some o → b ∉ foot M → (upd H5 M.h (.lst ((as ++ [t]).map V.ref))) b = some o := fun b o e hb => by rw [upd_ne (fun z => hb (by rw [z]; simp [foot]))]; exact e
    have t6 := fr6 _ _ t5 tn.2
    have S6 : ModelAt (upd H5 M.h (.lst ((as ++ [t]).map V.ref))) p (mkG M a) := S6
    generalize (upd H5 M.h (.lst ((as ++ [t]).map V.ref))) = H6 at S6 fr6 t6
    refine ⟨_, rfl, (by show 2 ≤ sizeLine; decide), fun x hx => ?_⟩
    have s7 := same_new (o := .tup [V.str "told", V.ref t]) hx
    refine k x t a _ ?_ upd_same (s7 _ _ t6) (S6.same s7) fun b o e hb hf => s7 _ _ (fr6 _ _ (fr5 _ _ (fr4 _ _ (s3 _ _ (fr2 _ _ (s1 _ _ e) hb)) hf) hf) hf)
    cases q : H a with
    | none => rfl
    | some u =>
      exfalso
      have : H2 a = some u := fr2 _ _ (s1 _ _ q) an.1
      rw [ha] at this; cases this
theorem hand_fr {p : Addr} {M : HGh} {H : Hp} {o : HO} {d : Addr} (hd : d ∈ foot M) : HFr p M H (upd H d o) := fun b u e _ h2 => by
  rw [upd_ne (fun z => h2 (by rw [z]; exact hd))]; exact e
end
end K15

namespace K15
open PySem L2 FX
set_option linter.all false
structure Txt2 (mg : Str → Option Value) : Prop where
  dict : mg "dict" = none
  list : mg "list" = none
section
variable {P : Program} {w : World} {K : PySem.W.Frag} {mg : Str → Option Value} {base : Heap} {C NHd NNr MI NW : Addr}
def spLose (C : Addr) : Sp := fun vs H Q _ => ∃ (p ta : Addr) (G : HGh) (as : List Addr) (ts : List T2), vs = [.ref p, .ref ta] ∧ HouseAt C H p G ∧ G.holds.map (·.1) = G.outs.map (·.1) ∧ H ta = some (.tup (as.map V.ref)) ∧ ThsAt H as ts ∧ Done C p G H (dropTs G ts) (Q .non)
theorem scLo : FnScope ["self", "things", "thing"] ["self", "things"] (defScope sLose) := ⟨rfl, rfl, rfl, by decide +kernel, rfl, by decide +kernel, by decide +kernel⟩
theorem ok_lose {f : Addr} {fd : FuncData} (F : Fun K "lose" "House.lose" sLose f fd) (T : Txt K mg C NHd NNr MI NW) : FnOk P w K mg base CX0 1 f fd ["self", "things"] (spLose C) := by
  refine F.ok scLo (fun vs H Q E h => ?_) (fun cdv A outer s H vs Q E hr h => ?_)
  · obtain ⟨p, ta, G, as, ts, rfl, _⟩ := h
    rfl
  · obtain ⟨p, ta, G, as, ts, rfl, S, ke, et, th, k⟩ := h
    have hu := hu_of hr
    have lt := Paired.length th
    refine ⟨_, pss_one (ps_for PassesOwn.never rfl (pi_tup (pv 1)) (pg_name (i := 2) scLo.nd rfl (Or.inl rfl))
      (pss_one (ps_if (pt_cmp (pc_din hu (pv 2) (pe_fld (pv 0) rfl))) (pss_cons (ps_expr (pe_dpopT hu (pe_fld (pv 0) rfl) (pv 2) ⟨rfl, rfl, rfl, rfl⟩)) (pss_one (ps_expr (pe_dpopT hu (pe_fld (pv 0) rfl) (pv 2) ⟨rfl, rfl, rfl, rfl⟩)))) pss_nil))), ?_⟩
    refine ⟨_, rfl, ta, rfl, ⟨_, SqT.of et⟩, ?_⟩
    refine for_tup (K := K) (a := ta) (xs := as.map V.ref) (fun i σ H2 => ∃ u2 : Option V, σ = [some (.ref p), some (.ref ta), u2] ∧ HouseAt C H2 p (dropTs G (ts.take i)) ∧ HFr p G H H2)
      ⟨_, rfl, by rw [List.take_zero, dropTs_nil]; exact S, fun b o e _ _ => e⟩ (fun i σ H2 _ h => let ⟨_, _, _, fr⟩ := h; SqT.of (fr _ _ et (S.tup_ne et).1 (S.tup_ne et).2)) ?_ ?_
    · rintro i x σ H2 hx ⟨u2, rfl, S2, fr2⟩
      rw [List.getElem?_map] at hx
      cases ea : as[i]? with
      | none => rw [ea] at hx; cases hx
      | some a =>
        rw [ea] at hx
        have hx : V.ref a = x := Option.some.inj hx
        subst hx
        obtain ⟨t, ht⟩ := get_of_lt (xs := ts) (j := i) (by have := (List.getElem?_eq_some_iff.mp ea).1; lia)
        have ha := paired_get th i a t ea ht
        have ha2 := fr2 _ _ ha (S.tup_ne ha).1 (S.tup_ne ha).2
        obtain ⟨dx2, hp2⟩ := S2.ob
        obtain ⟨o, g, eo⟩ := key_in (k := fun q : T2 × Int => q.1) (f := fun q => V.int q.2) (.inl S2.dO) ha2
        have f1 := filter_step (fun q : T2 × Int => q.1) G.outs ht
        have f2 := filter_step (fun q : T2 × Addr × List T2 => q.1) G.holds ht
        refine ⟨_, rfl, _, rfl, p, C, dx2, _, _, rfl, hp2, T.cl, T.nO, hf_outs _, G.o, o, rfl, g, _, rfl, ?_⟩
        rw [eo]
        have ks : (dropTs G (ts.take i)).holds.map (·.1) = (dropTs G (ts.take i)).outs.map (·.1) := by
          show (G.holds.filter fun q => decide (q.1 ∉ ts.take i)).map (·.1) = (G.outs.filter fun q => decide (q.1 ∉ ts.take i)).map (·.1)
          rw [filter_keys (fun q : T2 × Addr × List T2 => q.1) G.holds (fun t => decide (t ∉ ts.take i)), filter_keys (fun q : T2 × Int => q.1) G.outs (fun t => decide (t ∉ ts.take i)), ke]
        by_cases h : t ∈ (dropTs G (ts.take i)).outs.map (·.1)
        · rw [decide_eq_true h]
          obtain ⟨v1, hv1⟩ := val_there (l := (dropTs G (ts.take i)).outs) (k := fun q => q.1) (f := fun q => V.int q.2) h
          obtain ⟨v2, hv2⟩ := val_there (l := (dropTs G (ts.take i)).holds) (k := fun q => q.1) (f := fun q => V.ref q.2.1) (by rw [ks]; exact h)
          refine iteT ⟨_, rfl, p, C, dx2, _, _, rfl, hp2, T.cl, T.nO, hf_outs _, G.o, rfl, .inr ⟨_, .inl S2.dO⟩, _, rfl, _, tk t, _, a, S2.dO, rfl, ha2, hv1, ?_⟩
          rw [dropK_tk (k := fun q : T2 × Int => q.1) (f := fun q => V.int q.2)]
          have S3 := S2.setOuts ((dropTs G (ts.take i)).outs.filter fun q => decide (q.1 ≠ t))
          have fr3 : HFr p G H (upd H2 G.o (dInt ((dropTs G (ts.take i)).outs.filter fun q => decide (q.1 ≠ t)))) := fun b o e h1 h2 => by rw [upd_ne fun z => h2 (by rw [z]; simp [foot])]; exact fr2 _ _ e h1 h2
          have ha3 := fr3 _ _ ha (S.tup_ne ha).1 (S.tup_ne ha).2
          rw [show HO.dT (((dropTs G (ts.take i)).outs.filter fun q => decide (q.1 ≠ t)).map fun q => (tk q.1, V.int q.2)) = dInt ((dropTs G (ts.take i)).outs.filter fun q => decide (q.1 ≠ t)) from rfl]
          have S3 : HouseAt C (upd H2 G.o (dInt ((dropTs G (ts.take i)).outs.filter fun q => decide (q.1 ≠ t)))) p { dropTs G (ts.take i) with outs := (dropTs G (ts.take i)).outs.filter fun q => decide (q.1 ≠ t) } := S3
          generalize upd H2 G.o (dInt ((dropTs G (ts.take i)).outs.filter fun q => decide (q.1 ≠ t))) = H3 at S3 fr3 ha3
          obtain ⟨dx3, hp3⟩ := S3.ob
          refine ⟨_, rfl, p, C, dx3, _, _, rfl, hp3, T.cl, T.nL, hf_holds _, G.l, rfl, .inr ⟨_, .inl S3.dl⟩, _, rfl, _, tk t, _, a, S3.dl, rfl, ha3, hv2, ?_⟩
          have e3 : dropK (({ dropTs G (ts.take i) with outs := (dropTs G (ts.take i)).outs.filter fun q => decide (q.1 ≠ t) } : HGh).holds.map fun (q : T2 × Addr × List T2) => (tk q.1, V.ref q.2.1)) (tk t) = ((dropTs G (ts.take i)).holds.filter fun q => decide (q.1 ≠ t)).map fun (q : T2 × Addr × List T2) => (tk q.1, V.ref q.2.1) :=
            dropK_tk (k := fun q : T2 × Addr × List T2 => q.1) (f := fun q => V.ref q.2.1) _ t
          rw [e3]
          have S4 := S3.subHolds (hl := (dropTs G (ts.take i)).holds.filter fun q => decide (q.1 ≠ t)) List.filter_sublist
          have eG : dropTs G (ts.take (i + 1)) = { dropTs G (ts.take i) with outs := (dropTs G (ts.take i)).outs.filter (fun q => decide (q.1 ≠ t)), holds := (dropTs G (ts.take i)).holds.filter (fun q => decide (q.1 ≠ t)) } := by
            unfold dropTs
            rw [f1, f2]
          refine ⟨_, rfl, by rw [eG]; exact S4, fun b o e h1 h2 => ?_⟩
          rw [upd_ne fun z => h2 (by rw [z]; show G.l ∈ foot G; simp [foot])]; exact fr3 _ _ e h1 h2
        · rw [decide_eq_false h]
          have no1 : ∀ q ∈ (dropTs G (ts.take i)).outs, q.1 ≠ t := fun q hq z => h (List.mem_map.mpr ⟨q, hq, z⟩)
          have no2 : ∀ q ∈ (dropTs G (ts.take i)).holds, q.1 ≠ t := fun q hq z => h (by rw [← ks]; exact List.mem_map.mpr ⟨q, hq, z⟩)
          have eG : dropTs G (ts.take (i + 1)) = dropTs G (ts.take i) := by
            have a1 : (dropTs G (ts.take i)).outs.filter (fun q => decide (q.1 ≠ t)) = (dropTs G (ts.take i)).outs := List.filter_eq_self.mpr fun q hq => by simpa using no1 q hq
            have a2 : (dropTs G (ts.take i)).holds.filter (fun q => decide (q.1 ≠ t)) = (dropTs G (ts.take i)).holds := List.filter_eq_self.mpr fun q hq => by simpa using no2 q hq
            unfold dropTs at a1 a2 ⊢
            rw [f1, f2, a1, a2]
          exact iteF ⟨_, rfl, by rw [eG]; exact S2, fr2⟩
    · rintro σ H2 ⟨u2, rfl, S2, fr2⟩
      rw [List.length_map, lt, List.take_length] at S2
      exact k H2 S2 fr2
end
end K15

namespace K15
open PySem L2 FX
set_option linter.all false
section
variable {P : Program} {w : World} {K : PySem.W.Frag} {mg : Str → Option Value} {base : Heap} {C NHd NNr MI NW : Addr}
def backsOf (G : HGh) (rs : List (T2 × Int)) : List (T2 × Int) := (rs.filter fun q => !heldB G q.1).filter fun q => decide (0 < q.2)
def spGive (C : Addr) : Sp := fun vs H Q _ => ∃ (p : Addr) (G : HGh) (n : Nat) (rs : List (T2 × Int)), vs = [.ref p] ∧ HouseAt C H p G ∧ Ok G n ∧ n ≤ 20 ∧ (∀ t ∈ G.hand, InR t) ∧ (∀ q ∈ G.holds, ∀ t ∈ q.2.2, InR t) ∧ rs.Perm G.recs ∧ (rs.map (·.1)).Pairwise lt2 ∧
  ∀ (x : Addr) (as : List Addr) (H' : Hp), H x = none → H' x = some (.lst (as.map V.ref)) → BackAt H' as (backsOf G rs) → HouseAt C H' p (keepB G) → HFr p G H H' → Q (.ref x) H'
theorem scGB : FnScope ["self", "held", "holder", "thing", "unheld", "back"] ["self"] (defScope sGive) := ⟨rfl, rfl, rfl, by decide +kernel, rfl, by decide +kernel, by decide +kernel⟩
def teBk (K : PySem.W.Frag) : TE := tTup (tCons (tVar 0) (tCons (tDGet (tFld K (tVar 1) "records") (tVar 0)) tNil))
def ttBk (K : PySem.W.Frag) : TT := tTest (tOp (rI0 fun i j => .bl (decide (j < i))) (tDGet (tFld K (tVar 1) "records") (tVar 0)) (tC (.int 0)))
theorem ok_give {f : Addr} {fd : FuncData} (F : Fun K "give_back" "House.give_back" sGive f fd) (T : Txt K mg C NHd NNr MI NW) (Tx : Txt2 mg) : FnOk P w K mg base CX0 1 f fd ["self"] (spGive C) := by
  refine F.ok scGB (fun vs H Q E h => ?_) (fun cdv A outer s H vs Q E hr h => ?_)
  · obtain ⟨p, G, n, rs, rfl, _⟩ := h
    rfl
  · obtain ⟨p, G, n, rs, rfl, S, ok, zn, ir1, ir2, pm, pw, k⟩ := h
    have hu := hu_of hr
    obtain ⟨dx, hp⟩ := S.ob
    refine ⟨_, pss_cons (ps_set (i := 1) scGB.nd rfl (by first | exact Or.inl rfl | exact Or.inr rfl) (pe_callTy (call_dictT (hu64 hr)) (by rfl) Tx.dict PyProof.Rows.boot_dict (pa_cons (pe_fld (pv 0) rfl) pa_nil)))
      (pss_cons (ps_for PassesOwn.never rfl (pi_dict (pe_fld (pv 0) rfl)) (pg_name (i := 2) scGB.nd rfl (Or.inl rfl))
          (pss_one (ps_expr (pe_bm PySem.F.plainAttrs_dict PySem.F.slot_dict_update PySem.F.type_dict_update (mt_updT hu) (pv 1) (pa_cons (pe_dget hu (pe_fld (pv 0) rfl) (pv 2) (fun _ _ => rfl)) pa_nil)))))
      (PSs.thaw (pss_cons (ps_comp (te := tVar 0) (i := 4) (caps := [("held", 1)]) scGB.nd rfl rfl rfl rfl (pi_list (pe_callB (call_sorted_things rfl) (by rfl) T.sorted PyProof.Rows.boot_sorted (pa_cons (pe_fld (pv 0) rfl) pa_nil)))
          rfl (by decide +kernel) rfl (by decide +kernel) rfl ⟨rfl, trivial⟩ (fun y h => has3 ⟨_, rfl⟩ h) ⟨⟨rfl, rfl, rfl, rfl⟩, trivial⟩ (by decide +kernel) (fun _ _ _ _ _ => pts_one (pt_cmp (pc_dnotin hu (pv 0) (pv 1)))) (fun _ _ _ _ _ => pv 0))
      (pss_cons (ps_comp (te := teBk K) (tt := ttBk K) (i := 5) (caps := [("self", 0)]) scGB.nd rfl rfl rfl rfl (pi_list (pv 4))
          rfl (by decide +kernel) rfl (by decide +kernel) rfl ⟨rfl, trivial⟩ (fun y h => has3 ⟨_, rfl⟩ h) ⟨⟨rfl, rfl, rfl, rfl⟩, trivial⟩ (by decide +kernel) (fun _ _ _ _ _ => pts_one (pt_cmpR op_gt (pe_dget hu (pe_fld (pv 1) rfl) (pv 0) (fun _ _ => rfl)) pe_int (nomark _))) (fun _ _ _ _ _ => pe_tup (pa_cons (pv 0) (pa_cons (pe_dget hu (pe_fld (pv 1) rfl) (pv 0) (fun _ _ => rfl)) pa_nil))))
      (pss_cons (ps_for PassesOwn.never rfl (pi_list (pv 4)) (pg_name (i := 3) scGB.nd rfl (Or.inl rfl))
          (pss_one (ps_expr (pe_dpopT hu (pe_fld (pv 0) rfl) (pv 3) ⟨rfl, rfl, rfl, rfl⟩))))
      (pss_one (ps_ret (pv 5)))))))), ?_⟩
    have z1 := ok.hz
    have z2 := ok.lens
    have z3 := ok.rz
    -- held
    refine ⟨_, rfl, p, C, dx, _, _, rfl, hp, T.cl, T.nH, hf_hand G, G.h, _, rfl, S.dh, hand_hash ok.hn ir1, fun hd hhd => ?_⟩
    have e0 : mergeT [] (G.hand.map fun q => (tk q, V.bl true)) = G.hand.map fun q => (tk q, V.bl true) := by
      have := mergeT_hand G.hand []
      rw [addAll_new _ _ (by simpa using ok.hn)] at this
      simpa using this
    rw [e0]
    have s1 := same_new (o := dHand G.hand) hhd
    have e1 : (upd H hd (dHand G.hand)) hd = some (dHand G.hand) := upd_same
    rw [show HO.dT (G.hand.map fun q => (tk q, V.bl true)) = dHand G.hand from rfl]
    generalize upd H hd (dHand G.hand) = H1 at s1 e1
    have S1 := S.same s1
    obtain ⟨dx1, hp1⟩ := S1.ob
    have ndl : (G.holds.map (·.1)).Nodup := by rw [ok.ke]; exact ok.on
    have nhd : ∀ {b : Addr} {o : HO}, H b = some o → b ≠ hd := fun e => ne_of_none e hhd
    have npl : p ≠ G.l := fun z => S.p_ne (b := G.l) (by simp [foot]) z.symm
    -- what is held
    refine ⟨_, rfl, p, C, dx1, _, _, rfl, hp1, T.cl, T.nL, hf_holds G, G.l, _, rfl, S1.dl, fun ob => ?_⟩
    refine for_dict (d := G.l) (ob := ob) (fun i σ H2 => ∃ u2 : Option V, σ = [some (.ref p), some (.ref hd), u2, none, none, none] ∧ H2 hd = some (dHand (handAll G.hand (G.holds.take i))) ∧ ∀ b o, (upd H1 G.l (.frz ob (dRef G.holds))) b = some o → b ≠ hd → H2 b = some o)
      ⟨_, rfl, by rw [upd_ne (nhd S.dl).symm, e1]; rfl, fun b o e _ => e⟩ (fun i σ H2 _ h => let ⟨_, _, _, fr⟩ := h; fr _ _ upd_same (nhd S.dl)) ?_ ?_
    · rintro i a kk v σ H2 hx ha ⟨u2, rfl, eh, fr⟩
      rw [List.getElem?_map] at hx
      cases eq : G.holds[i]? with
      | none => rw [eq] at hx; cases hx
      | some q =>
        rw [eq] at hx
        have hx : (tk q.1, V.ref q.2.1) = (kk, v) := Option.some.inj hx
        have mq := List.mem_of_getElem? eq
        have e2 : kk = tk q.1 := (Prod.mk.inj hx).1.symm
        rw [e2, tk_kV] at ha
        have hpp : H2 p = some (.ins C dx1 (hflds G)) := fr _ _ (by rw [upd_ne npl]; exact hp1) (nhd hp)
        have hll : H2 G.l = some (.frz ob (dRef G.holds)) := fr _ _ upd_same (nhd S.dl)
        have hqq : H2 q.2.1 = some (dHand q.2.2) := by
          have h0 := S.hl q mq
          refine fr _ _ ?_ (nhd h0)
          rw [upd_ne (S.nds.2.2.2 q mq).2.2.1]; exact S1.hl q mq
        have gv : valV (G.holds.map fun (q : T2 × Addr × List T2) => (tk q.1, V.ref q.2.1)) (tk q.1) = some (V.ref q.2.1) := by
          rw [valV_tk (k := fun q : T2 × Addr × List T2 => q.1) (f := fun q => V.ref q.2.1), FX.find_self (k := fun q : T2 × Addr × List T2 => q.1) ndl mq]; rfl
        have l0 := ok.ln q mq
        have l1 : (handAll G.hand (G.holds.take i)).length ≤ 20 + 20 * 20 := by
          have h1 := handAll_len (B := 20) (qs := G.holds.take i) (hand := G.hand) (fun r hr => by have := (ok.ln r (List.mem_of_mem_take hr)).2; lia)
          have h2 : (G.holds.take i).length ≤ G.holds.length := by rw [List.length_take]; lia
          have h3 : (G.holds.take i).length * 20 ≤ 20 * 20 := Nat.mul_le_mul_right _ (by lia)
          lia
        refine ⟨_, rfl, .inr (.inr (.inl ⟨rfl, .inr ⟨_, eh⟩⟩)), _, rfl, p, C, dx1, _, _, rfl, hpp, T.cl, T.nL, hf_holds G, _, rfl, G.l, _, rfl, .inr ⟨_, tk q.1, a, .inr ⟨ob, hll⟩, rfl, ha, gv.symm⟩, hd, q.2.1, _, _, rfl, rfl, eh, .inl hqq, (nhd (S.hl q mq)).symm, ?_, fun _ => hand_hash l0.1 (ir2 q mq), ?_⟩
        · rw [List.length_map, List.length_map]
          exact Nat.le_of_lt (small1000 (by lia))
        · rw [mergeT_hand, ← handAll_succ G.hand eq]
          exact ⟨_, rfl, upd_same, fun b o e hb => by rw [upd_ne hb]; exact fr b o e hb⟩
    · rintro σ H2 ⟨u2, rfl, eh, fr⟩
      rw [List.length_map, List.take_length] at eh
      have hll : H2 G.l = some (.frz ob (dRef G.holds)) := fr _ _ upd_same (nhd S.dl)
      refine ⟨upd H2 G.l (dRef G.holds), ⟨G.l, ob, _, hll, fun o v z => ?_, rfl⟩, ?_⟩
      · have z : H G.l = some (.frz o v) := z
        rw [S.dl] at z; cases z
      have s3 : Same H (upd H2 G.l (dRef G.holds)) := fun b o e => by
        by_cases hb : b = G.l
        · subst hb
          rw [S.dl] at e
          rw [upd_same]; exact e
        · rw [upd_ne hb]
          exact fr _ _ (by rw [upd_ne hb]; exact s1 _ _ e) (nhd e)
      have e3 : (upd H2 G.l (dRef G.holds)) hd = some (dHand (handAll G.hand G.holds)) := by rw [upd_ne (nhd S.dl).symm]; exact eh
      generalize upd H2 G.l (dRef G.holds) = H3 at s3 e3
      have S3 := S.same s3
      obtain ⟨dx3, hp3⟩ := S3.ob
      -- unheld
      refine ⟨_, rfl, p, C, dx3, _, _, rfl, hp3, T.cl, T.nR, hf_records G, G.r, _, rs.map (·.1), rfl, int_rd S3.dr, (by rw [List.length_map]; lia), ?_, pw, fun sl asl hsl tsl => ⟨sl, rfl, ⟨_, SqL.of upd_same⟩, fun ul hul => ?_⟩⟩
      · have e4 : ((G.recs.map fun q => (q.1, V.int q.2)).map (·.1)) = G.recs.map (·.1) := by rw [List.map_map]; rfl
        rw [e4]; exact pm.map _
      have s4 := same_new (o := .lst (asl.map V.ref)) hsl
      have el4 : (upd H3 sl (.lst (asl.map V.ref))) sl = some (.lst (asl.map V.ref)) := upd_same
      have t4 : ThsAt (upd H3 sl (.lst (asl.map V.ref))) asl (rs.map (·.1)) := ThsAt.keep (KeepT.of_same s4) tsl
      generalize upd H3 sl (.lst (asl.map V.ref)) = H4 at s4 el4 t4 hul
      have lrs : rs.length ≤ 20 := by have := pm.length_eq; lia
      refine filt_list (b := fun t => !heldB G t) (caps := [("held", 1)]) hul (by rw [List.length_map]; lia) el4 t4 (fun H5 a t Q' sm ha ht q => ?_) fun H5 bs sm eu tu => ?_
      · refine ⟨_, rfl, _, rfl, hd, _, rfl, hand_in (sm _ _ (s4 _ _ e3)) ha, ?_⟩
        have e5 : (!(if t ∈ handAll G.hand G.holds then some (V.bl true) else none).isSome) = !heldB G t := by
          rw [← heldB_mem]
          by_cases c : t ∈ handAll G.hand G.holds
          · rw [if_pos c, decide_eq_true c]; rfl
          · rw [if_neg c, decide_eq_false c]; rfl
        rw [e5]
        exact ⟨_, rfl, q⟩
      have eU : (rs.map (·.1)).filter (fun t => !heldB G t) = (rs.filter fun q => !heldB G q.1).map (·.1) := (filter_keys (fun q : T2 × Int => q.1) rs fun t => !heldB G t).symm
      rw [eU] at tu
      have s5 : Same H H5 := same_trans s3 (same_trans s4 sm)
      have usub : ∀ q ∈ rs.filter (fun q => !heldB G q.1), q ∈ rs := fun q hq => (List.mem_filter.mp hq).1
      have usz : (rs.filter fun q => !heldB G q.1).length ≤ 20 := by have := List.length_filter_le (fun q => !heldB G q.1) rs; lia
      have hbk : backsOf G rs = (rs.filter fun q => !heldB G q.1).filter fun q => decide (0 < q.2) := rfl
      have und : ((rs.filter fun q => !heldB G q.1).map (·.1)).Nodup := by
        have h1 : (rs.map (·.1)).Nodup := (pm.map _).nodup_iff.mpr ok.rn
        exact h1.sublist (List.filter_sublist.map _)
      generalize hus : (rs.filter fun q => !heldB G q.1) = us at tu usub usz hbk und
      have S5 := S.same s5
      have lbs := Paired.length tu
      rw [List.length_map] at lbs
      have val : ∀ q ∈ us, G.recs.find? (fun r => decide (r.1 = q.1)) = some q := fun q hq => FX.find_self (k := fun q : T2 × Int => q.1) ok.rn (pm.subset (usub q hq))
      -- back
      refine ⟨_, rfl, ul, rfl, ⟨_, SqL.of eu⟩, fun bl hbl => ?_⟩
      refine comp_list (K := K) (a := ul) (p := bl) (xs := bs.map V.ref) (tt := ttBk K) (te := teBk K) (caps := [("self", 0)]) (fun i ys H6 => ∃ cs : List Addr, ys = cs.map V.ref ∧ H6 bl = some (.lst ys) ∧ Same H5 H6 ∧ BackAt H6 cs ((us.take i).filter fun q => decide (0 < q.2)))
        ⟨[], rfl, upd_same, same_new hbl, .nil⟩ (fun i ys H6 _ h => let ⟨_, _, e, sm, _⟩ := h; ⟨SqL.of (sm _ _ eu), e⟩) ?_ ?_
      · rintro i x ys H6 N hx ⟨cs, ey, e6, s6, ba⟩ hN
        rw [List.getElem?_map] at hx
        cases eb : bs[i]? with
        | none => rw [eb] at hx; cases hx
        | some b =>
          rw [eb] at hx
          have hx : V.ref b = x := Option.some.inj hx
          subst hx
          obtain ⟨q, hq⟩ := get_of_lt (xs := us) (j := i) (by have := (List.getElem?_eq_some_iff.mp eb).1; lia)
          have hb := paired_get tu i b q.1 eb (by rw [List.getElem?_map, hq]; rfl)
          have hb6 := s6 _ _ hb
          have S6 := S5.same s6
          obtain ⟨dx6, hp6⟩ := S6.ob
          have gv : DGet H6 G.r (.ref b) (some (V.int q.2)) := int_get1 S6.dr hb6 (val q (List.mem_of_getElem? hq))
          have ft := filter_take' (b := fun q : T2 × Int => decide (0 < q.2)) hq
          refine ⟨_, rfl, p, C, dx6, _, _, rfl, hp6, T.cl, T.nR, hf_records G, _, rfl, G.r, _, rfl, gv, _, _, rfl, rfl, _, rfl, ?_⟩
          by_cases c : 0 < q.2
          · rw [decide_eq_true c] at ft ⊢
            refine iteT ⟨_, rfl, _, rfl, p, C, dx6, _, _, rfl, hp6, T.cl, T.nR, hf_records G, _, rfl, G.r, _, rfl, gv, (by show 2 ≤ sizeLine; decide), fun x1 hx1 => ?_⟩
            have s7 := same_new (o := .tup [V.ref b, V.int q.2]) hx1
            have x7 : (upd H6 x1 (.tup [V.ref b, V.int q.2])) x1 = some (.tup [V.ref b, V.int q.2]) := upd_same
            have e7 := s7 _ _ e6
            generalize upd H6 x1 (.tup [V.ref b, V.int q.2]) = H7 at s7 x7 e7
            have kt8 : KeepT H7 (upd H7 bl (.lst (ys ++ [V.ref x1]))) := KeepT.upd fun o' e => by
              rw [e7] at e; cases e; exact ⟨fun _ z => (by cases z), fun _ _ z => (by cases z)⟩
            have lcs : cs.length ≤ us.length := by rw [Paired.length ba]; exact len_filter_take' _ us i
            refine ⟨e7, by rw [ey, List.length_map]; exact small1000 (by lia), hN _ _ ⟨cs ++ [x1], by rw [ey, List.map_append]; rfl, upd_same, fun d o e => ?_, ?_⟩⟩
            · rw [upd_ne (ne_of_none e hbl)]; exact s7 _ _ (s6 _ _ e)
            · rw [ft, if_pos rfl]
              exact paired_snoc' (BackAt.keep kt8 (BackAt.keep (KeepT.of_same s7) ba)) ⟨b, kt8.tup _ _ x7, kt8.tup _ _ (s7 _ _ hb6)⟩
          · rw [decide_eq_false c] at ft ⊢
            refine iteF (hN _ _ ⟨cs, ey, e6, s6, ?_⟩)
            rw [ft, if_neg (by decide), List.append_nil]; exact ba
      · rintro ys H6 ⟨cs, ey, e6, s6, ba⟩
        rw [List.length_map, lbs, List.take_length, ← hbk] at ba
        rw [ey] at e6
        have S6 := S5.same s6
        have eu6 := s6 _ _ eu
        have tu6 : ThsAt H6 bs (us.map (·.1)) := ThsAt.keep (KeepT.of_same s6) tu
        have nblr : bl ≠ G.r := fun z => by rw [z, S5.dr] at hbl; cases hbl
        have hbl0 : H bl = none := by
          cases c : H bl with
          | none => rfl
          | some o => rw [s5 _ _ c] at hbl; cases hbl
        -- they go
        refine ⟨_, rfl, ul, rfl, ⟨_, SqL.of eu6⟩, ?_⟩
        have dropR : ∀ j, ({ G with recs := G.recs.filter fun q => decide (q.1 ∉ (us.map (·.1)).take j) } : HGh).recs = G.recs.filter fun q => decide (q.1 ∉ (us.map (·.1)).take j) := fun _ => rfl
        refine for_list (K := K) (a := ul) (xs := bs.map V.ref) (fun i σ H7 => ∃ u3 : Option V, σ = [some (.ref p), some (.ref hd), u2, u3, some (.ref ul), some (.ref bl)] ∧ HouseAt C H7 p { G with recs := G.recs.filter fun q => decide (q.1 ∉ (us.map (·.1)).take i) } ∧ ∀ b o, H6 b = some o → b ≠ G.r → H7 b = some o)
          ⟨_, rfl, ?_, fun b o e _ => e⟩ (fun i σ H7 _ h => let ⟨_, _, _, fr⟩ := h; SqL.of (fr _ _ eu6 fun z => by rw [z, S6.dr] at eu6; cases eu6)) ?_ ?_
        · have e8 : (G.recs.filter fun q => decide (q.1 ∉ (us.map (·.1)).take 0)) = G.recs := List.filter_eq_self.mpr fun q _ => by simp
          rw [e8]; exact S6
        · rintro i x σ H7 hx ⟨u3, rfl, S7, fr7⟩
          rw [List.getElem?_map] at hx
          cases eb : bs[i]? with
          | none => rw [eb] at hx; cases hx
          | some b =>
            rw [eb] at hx
            have hx : V.ref b = x := Option.some.inj hx
            subst hx
            obtain ⟨q, hq⟩ := get_of_lt (xs := us) (j := i) (by have := (List.getElem?_eq_some_iff.mp eb).1; lia)
            have hqm : (us.map (·.1))[i]? = some q.1 := by rw [List.getElem?_map, hq]; rfl
            have hb := paired_get tu6 i b q.1 eb hqm
            have hb7 := fr7 _ _ hb fun z => by rw [z, S6.dr] at hb; cases hb
            obtain ⟨dx7, hp7⟩ := S7.ob
            have qin : q.1 ∈ (G.recs.filter fun r => decide (r.1 ∉ (us.map (·.1)).take i)).map (·.1) := by
              refine List.mem_map.mpr ⟨q, List.mem_filter.mpr ⟨pm.subset (usub q (List.mem_of_getElem? hq)), ?_⟩, rfl⟩
              have : q.1 ∉ (us.map (·.1)).take i := fun z => not_in_take und hqm z
              simpa using this
            obtain ⟨v, hv⟩ := val_there (l := G.recs.filter fun (r : T2 × Int) => decide (r.1 ∉ (us.map fun (z : T2 × Int) => z.1).take i)) (k := fun (q : T2 × Int) => q.1) (f := fun (q : T2 × Int) => V.int q.2) (t := q.1) qin
            refine ⟨_, rfl, p, C, dx7, _, _, rfl, hp7, T.cl, T.nR, hf_records _, G.r, rfl, .inr ⟨_, .inl S7.dr⟩, _, rfl, _, tk q.1, _, b, S7.dr, rfl, hb7, hv, ?_⟩
            have e9 : dropK ((({ G with recs := G.recs.filter fun q => decide (q.1 ∉ (us.map (·.1)).take i) } : HGh).recs).map fun q => (tk q.1, V.int q.2)) (tk q.1) = (G.recs.filter fun r => decide (r.1 ∉ (us.map (·.1)).take (i + 1))).map fun q => (tk q.1, V.int q.2) := by
              rw [filter_step (fun q : T2 × Int => q.1) G.recs hqm]
              exact dropK_tk (k := fun q : T2 × Int => q.1) (f := fun q => V.int q.2) _ _
            rw [e9]
            have S8 := S7.setRecs (G.recs.filter fun r => decide (r.1 ∉ (us.map (·.1)).take (i + 1)))
            exact ⟨_, rfl, S8, fun b o e hb => by rw [upd_ne hb]; exact fr7 _ _ e hb⟩
        · rintro σ H7 ⟨u3, rfl, S7, fr7⟩
          rw [List.length_map, lbs, ← List.length_map (f := fun q : T2 × Int => q.1), List.take_length] at S7
          have kt7 : KeepT H6 H7 := ⟨fun b xs e => fr7 _ _ e (fun z => by rw [z, S6.dr] at e; cases e), fun b o v e => fr7 _ _ e (fun z => by rw [z, S6.dr] at e; cases e)⟩
          refine ⟨_, rfl, k bl cs H7 hbl0 (fr7 _ _ e6 nblr) (BackAt.keep kt7 ba) ?_ fun b o e h1 h2 => fr7 _ _ (s6 _ _ (s5 _ _ e)) fun z => h2 (by rw [z]; simp [foot])⟩
          have eK : keepB G = { G with recs := G.recs.filter fun q => decide (q.1 ∉ us.map (·.1)) } := by
            unfold keepB
            have : (G.recs.filter fun q => heldB G q.1) = G.recs.filter fun q => decide (q.1 ∉ us.map (·.1)) := List.filter_congr fun q hq => by
              by_cases c : heldB G q.1 = true
              · have nm : q.1 ∉ us.map (·.1) := fun z => by
                  obtain ⟨r, hr, er⟩ := List.mem_map.mp z
                  rw [← hus] at hr
                  have := (List.mem_filter.mp hr).2
                  rw [er, c] at this; cases this
                rw [c, decide_eq_true nm]
              · have c : heldB G q.1 = false := by simpa using c
                have im : q.1 ∈ us.map (·.1) := by
                  rw [← hus]
                  exact List.mem_map.mpr ⟨q, List.mem_filter.mpr ⟨pm.symm.subset hq, by rw [c]; rfl⟩, rfl⟩
                rw [c]; simp only [im, not_true_eq_false, decide_false]
            rw [this]
          rw [eK]; exact S7
end
end K15

namespace K15
open PySem L2 FX
set_option linter.all false
section
variable {P : Program} {w : World} {K : PySem.W.Frag} {mg : Str → Option Value} {base : Heap} {C NHd NNr MI NW : Addr}
def spLet (C : Addr) : Sp := fun vs H Q _ => ∃ (p ta : Addr) (G : HGh) (n : Nat) (rs : List (T2 × Int)) (ts : List T2) (as : List Addr), vs = [.ref p, .ref ta] ∧ HouseAt C H p G ∧ Ok G n ∧ n ≤ 20 ∧ (∀ t ∈ G.hand, InR t) ∧ (∀ q ∈ G.holds, ∀ t ∈ q.2.2, InR t) ∧ rs.Perm G.recs ∧ (rs.map (·.1)).Pairwise lt2 ∧
  H ta = some (.tup (as.map V.ref)) ∧ ThsAt H as ts ∧ Ok (dropTs G ts) n ∧
  ∀ (x : Addr) (as : List Addr) (H' : Hp), (∀ b o, H b = some o → b ≠ p → b ∉ foot G → b ≠ x) → H' x = some (.lst (as.map V.ref)) → BackAt H' as (backsOf (dropTs G ts) rs) → HouseAt C H' p (tk1 (keepB (dropTs G ts))) → HFr p G H H' → Q (.ref x) H'
theorem scLt : FnScope ["self", "things"] ["self", "things"] (defScope sLet) := ⟨rfl, rfl, rfl, by decide +kernel, rfl, by decide +kernel, by decide +kernel⟩
theorem ok_let {f fL fG : Addr} {fd dL dG : FuncData} (F : Fun K "let" "House.let" sLet f fd) (T : Txt K mg C NHd NNr MI NW) (Tx : Txt2 mg) (ML : Mth K C "lose" "House.lose" sLose ["self", "things"] fL dL) (MG : Mth K C "give_back" "House.give_back" sGive ["self"] fG dG) :
    FnOk P w K mg base CX0 2 f fd ["self", "things"] (spLet C) := by
  have GL : FnOk P w K mg base CX0 1 fL dL ["self", "things"] (spLose C) := ok_lose ML.fn T
  have GG : FnOk P w K mg base CX0 1 fG dG ["self"] (spGive C) := ok_give MG.fn T Tx
  refine F.ok scLt (fun vs H Q E h => ?_) (fun cdv A outer s H vs Q E hr h => ?_)
  · obtain ⟨p, ta, G, n, rs, ts, as, rfl, _⟩ := h
    rfl
  · obtain ⟨p, ta, G, n, rs, ts, as, rfl, S, ok, zn, ir1, ir2, pm, pw, et, th, okR, k⟩ := h
    have hu := hu_of hr
    obtain ⟨dx, hp⟩ := S.ob
    refine ⟨_, pss_cons (ps_expr (pe_meth (pl := _) (pv 0) T.cl ML.mt GL hr ML.bd .nil pass0 (pa_cons (pv 1) pa_nil)))
      (pss_cons (ps_fldaug (pv 0) pe_int in_add)
      (pss_one (ps_ret (pe_meth0 (pv 0) T.cl MG.mt GG hr MG.bd .nil pass0)))), ?_⟩
    refine ⟨_, rfl, p, dx, _, rfl, hp, hf_no G (by decide +kernel), _, rfl, p, ta, G, as, ts, rfl, S, ok.ke, et, th, fun H9 S9 fr9 => ?_⟩
    obtain ⟨dx9, hp9⟩ := S9.ob
    refine ⟨_, rfl, p, C, dx9, _, _, rfl, hp9, T.cl, T.nT, hf_ticks _, _, _, rfl, rfl, dx9, _, hp9, hf_len _, ?_⟩
    rw [hf_put_ticks]
    have S10 := S9.fld dx9 (dropTs G ts).made ((dropTs G ts).ticks + 1)
    have fr10 : HFr p G H (upd H9 p (.ins C dx9 (hflds { dropTs G ts with ticks := (dropTs G ts).ticks + 1 }))) := fun b o e h1 h2 => by rw [upd_ne h1]; exact fr9 _ _ e h1 h2
    have S10 : HouseAt C (upd H9 p (.ins C dx9 (hflds { dropTs G ts with ticks := (dropTs G ts).ticks + 1 }))) p (tk1 (dropTs G ts)) := S10
    generalize upd H9 p (.ins C dx9 (hflds { dropTs G ts with ticks := (dropTs G ts).ticks + 1 })) = H10 at S10 fr10
    obtain ⟨dx10, hp10⟩ := S10.ob
    refine ⟨_, rfl, p, dx10, _, rfl, hp10, hf_no _ (by decide +kernel), p, tk1 (dropTs G ts), n, rs, rfl, S10, okR.tk1, zn, ir1, fun q hq => ir2 q (List.mem_filter.mp hq).1, pm, pw, fun x as H11 hx ex ba S11 fr11 => ?_⟩
    have hx0 : ∀ b o, H b = some o → b ≠ p → b ∉ foot G → b ≠ x := fun b o e h1 h2 => ne_of_none (fr10 _ _ e h1 h2) hx
    exact k x as H11 hx0 ex ba S11 fun b o e h1 h2 => fr11 _ _ (fr10 _ _ e h1 h2) h1 fun z => h2 (ModelAt.foot_dropTs ts z)
end
end K15

namespace K15
open PySem L2 FX
set_option linter.all false
section
variable {P : Program} {w : World} {K : PySem.W.Frag} {mg : Str → Option Value} {base : Heap} {C NHd NNr MI NW : Addr}
/-! ### what is near, by the law's own rows -/
def spMNear : Sp := fun vs H Q _ => ∃ (p sa : Addr) (M : HGh) (as : List Addr) (ts : List T2) (n : Nat) (R : List T2), vs = [.ref p, .ref sa] ∧ ModelAt H p M ∧ H sa = some (.lst (as.map V.ref)) ∧ ThsAt H as ts ∧ ts.length ≤ 400 ∧ (∀ q ∈ M.holds, q.2.2.length ≤ 400) ∧
  Rch (nxT M.holds) n (ts.filter fun t => decide (t ∈ M.holds.map (·.1))) [] R ∧ n ≤ 400 ∧ ∀ (x : Addr) (rs : List Addr) (H' : Hp), H x = none → Same H H' → H' x = some (.lst (rs.map V.ref)) → ThsAt H' rs R → Q (.ref x) H'
theorem scMN : FnScope ["_law_model_here", "_law_starts", "_law_near_here", "_law_thing", "_law_left_here"] ["_law_model_here", "_law_starts"] (defScope sMNear) := ⟨rfl, rfl, rfl, by decide +kernel, rfl, by decide +kernel, by decide +kernel⟩
theorem ok_mnear {f : Addr} {fd : FuncData} (F : Fun K "_law_near" "_law_near" sMNear f fd) : FnOk P w K mg base CX0 1 f fd ["_law_model_here", "_law_starts"] spMNear := by
  refine F.ok scMN (fun vs H Q E h => ?_) (fun cdv A outer s H vs Q E hr h => ?_)
  · obtain ⟨p, sa, M, as, ts, n, R, rfl, _⟩ := h
    rfl
  · obtain ⟨p, sa, M, as, ts, n, R, rfl, S, es, th, zt, zq, rch, zn, k⟩ := h
    have hu := hu_of hr
    refine ⟨_, pss_cons (ps_set (i := 2) scMN.nd rfl (Or.inl rfl) (pe_lst pa_nil))
      (pss_cons (ps_comp (te := tVar 0) (i := 4) (caps := [("_law_model_here", 0)]) scMN.nd rfl rfl rfl rfl (pi_list (pv 1))
          rfl (by decide +kernel) rfl (by decide +kernel) rfl ⟨rfl, trivial⟩ (fun y h => has3 ⟨_, rfl⟩ h) ⟨⟨rfl, rfl, rfl, rfl⟩, trivial⟩ (by decide +kernel) (fun _ _ _ _ _ => pts_one (pt_cmp (pc_din hu (pv 0) (pe_dget hu (pv 1) pe_str (fun _ _ => rfl))))) (fun _ _ _ _ _ => pv 0))
      (pss_cons (ps_while PassesOwn.never (pt_cmpR (op_neD (hu64 hr)) (pv 4) (pe_lst pa_nil) (nomark _))
          (pss_cons (ps_set (i := 3) scMN.nd rfl (Or.inl rfl) (pe_bm0 PySem.F.plainAttrs_list PySem.F.slot_list_pop PySem.F.type_list_pop mt_pop (pv 4)))
          (pss_one (ps_if (pt_cmpR (op_notIn_things (hu64 hr)) (pv 3) (pv 2) rfl)
            (pss_cons (ps_expr (pe_bm PySem.F.plainAttrs_list PySem.F.slot_list_append PySem.F.type_list_append mt_append (pv 2) (pa_cons (pv 3) pa_nil)))
            (pss_one (ps_expr (pe_bm PySem.F.plainAttrs_list PySem.F.slot_list_extend PySem.F.type_list_extend mt_extend (pv 4) (pa_cons (pe_comp (te := tVar 0) (caps := [("_law_model_here", 0)]) rfl (pi_list (pe_dget hu (pe_dget hu (pv 0) pe_str (fun _ _ => rfl)) (pv 3) (fun _ _ => rfl)))
              rfl (by decide +kernel) rfl (by decide +kernel) rfl ⟨rfl, trivial⟩ (fun y h => has3 ⟨_, rfl⟩ h) ⟨⟨rfl, rfl, rfl, rfl⟩, trivial⟩ (by decide +kernel) (fun _ _ _ _ _ => pts_one (pt_cmp (pc_din hu (pv 0) (pe_dget hu (pv 1) pe_str (fun _ _ => rfl))))) (fun _ _ _ _ _ => pv 0)) pa_nil))))) pss_nil))))
      (pss_one (ps_ret (pv 2))))), ?_⟩
    refine ⟨Nat.zero_le _, fun na hna => ?_⟩
    have s1 := same_new (o := .lst []) hna
    have e1 : (upd H na (.lst [])) na = some (.lst (([] : List Addr).map V.ref)) := upd_same
    generalize upd H na (.lst []) = H1 at s1 e1
    have th1 : ThsAt H1 as ts := ThsAt.keep (KeepT.of_same s1) th
    refine ⟨_, rfl, sa, rfl, ⟨_, SqL.of (s1 _ _ es)⟩, fun aa haa => ?_⟩
    refine filt_list (b := fun t => decide (t ∈ M.holds.map (·.1))) (caps := [("_law_model_here", 0)]) haa (by lia) (s1 _ _ es) th1 (fun H2 a t Q' sm ha ht q => ?_) fun H2 bs sm ea tb => ?_
    · have S2 := S.same (same_trans s1 sm)
      obtain ⟨o, g, eo⟩ := key_in (k := fun q : T2 × Addr × List T2 => q.1) (f := fun q => V.ref q.2.1) (.inl S2.dl) ha
      refine ⟨_, rfl, _, rfl, p, _, rfl, S2.gHolds, M.l, o, rfl, g, ?_⟩
      rw [eo]
      exact ⟨_, rfl, q⟩
    have naa : H aa = none := same_free s1 haa
    have nfa : na ≠ aa := fun z => by rw [← z, e1] at haa; cases haa
    refine ⟨fun m σ H' => ∃ (ahead found : List T2) (as' fs : List Addr) (u3 : Option V), σ = [some (.ref p), some (.ref sa), some (.ref na), u3, some (.ref aa)] ∧ Same H H' ∧ H' na = some (.lst (fs.map V.ref)) ∧ ThsAt H' fs found ∧ H' aa = some (.lst (as'.map V.ref)) ∧ ThsAt H' as' ahead ∧ Rch (nxT M.holds) m ahead found R ∧ found.length + m ≤ 400 ∧ ∀ t ∈ ahead, t ∈ M.holds.map (·.1),
      ⟨n, _, [], bs, [], _, rfl, same_trans s1 sm, sm _ _ e1, .nil, ea, tb, rch, by simpa using zn, fun t ht => by have := (List.mem_filter.mp ht).2; simpa using this⟩, ?_⟩
    rintro m σ H0 ⟨ahead, found, as', fs, u3, rfl, sh0, ef0, tf0, ea0', tha0, rc, zm, hk⟩
    refine ⟨_, rfl, Nat.zero_le _, fun nl hnl => ?_⟩
    have sn := same_new (o := .lst []) hnl
    have en : (upd H0 nl (.lst [])) nl = some (.lst []) := upd_same
    generalize upd H0 nl (.lst []) = H' at sn en
    have sh := same_trans sh0 sn
    have ef := sn _ _ ef0
    have ea' := sn _ _ ea0'
    have tf : ThsAt H' fs found := ThsAt.keep (KeepT.of_same sn) tf0
    have tha : ThsAt H' as' ahead := ThsAt.keep (KeepT.of_same sn) tha0
    refine ⟨_, _, .lst (SqL.of ea') (ths_rep tha), .lst (SqL.of en) .nil, lst_ok thD_ok5 _, nil_ok, _, rfl, ?_⟩
    rw [eqv_nilT]
    cases m with
    | zero =>
      obtain ⟨e0, eR⟩ := rc
      rw [e0]
      refine iteF ⟨_, rfl, k na fs H' hna sh ef ?_⟩
      rw [eR]; exact tf
    | succ m =>
      have zl1 := rc.len
      obtain ⟨a, t, ea0, rc⟩ := rc
      rw [ea0] at tha zl1 ⊢
      obtain ⟨bs', c, e2, thb, ec⟩ := ths_last tha
      subst e2
      have em : (bs' ++ [c]).map V.ref = bs'.map V.ref ++ [V.ref c] := by rw [List.map_append]; rfl
      rw [em] at ea'
      rw [show (!(a ++ [t]).isEmpty) = true by cases a <;> rfl]
      refine iteT ⟨_, fun σ' H' h => ⟨m, Nat.lt_succ_self m, h⟩, ?_⟩
      refine ⟨_, rfl, .inl ⟨rfl, _, SqL.of ea'⟩, aa, _, _, rfl, rfl, ea', last_at _ _, ?_⟩
      rw [show (bs'.map V.ref ++ [V.ref c]).dropLast = bs'.map V.ref by simp]
      have s3 : Same H (upd H' aa (.lst (bs'.map V.ref))) := fun b o e => by rw [upd_ne (ne_of_none e naa)]; exact sh _ _ e
      have kt3 : KeepT H' (upd H' aa (.lst (bs'.map V.ref))) := KeepT.upd fun o' e => by
        rw [ea'] at e; cases e; exact ⟨fun _ z => (by cases z), fun _ _ z => (by cases z)⟩
      have ef3 : (upd H' aa (.lst (bs'.map V.ref))) na = some (.lst (fs.map V.ref)) := by rw [upd_ne nfa]; exact ef
      have ea3 : (upd H' aa (.lst (bs'.map V.ref))) aa = some (.lst (bs'.map V.ref)) := upd_same
      have thb3 : ThsAt (upd H' aa (.lst (bs'.map V.ref))) bs' a := ThsAt.keep kt3 thb
      have tf3 : ThsAt (upd H' aa (.lst (bs'.map V.ref))) fs found := ThsAt.keep kt3 tf
      have ec3 := kt3.tup _ _ ec
      generalize upd H' aa (.lst (bs'.map V.ref)) = H3 at s3 kt3 ef3 ea3 thb3 tf3 ec3
      have hk' : ∀ u ∈ a, u ∈ M.holds.map (·.1) := fun u hu => hk u (by rw [ea0]; exact List.mem_append_left _ hu)
      refine ⟨_, rfl, _, rfl, notIn_go ec3 ef3 tf3 ⟨fun hf => ⟨_, rfl, iteT ?_⟩, fun hf => ⟨_, rfl, iteF ?_⟩⟩⟩
      · rcases rc with ⟨hf', rc⟩ | ⟨_, rc⟩
        · exact absurd hf' hf
        have lf := Paired.length tf3
        refine ⟨_, rfl, .inl ⟨rfl, _, SqL.of ef3⟩, _, rfl, na, _, _, rfl, rfl, ef3, (by rw [List.length_map]; exact small1000 (by lia)), ?_⟩
        have e6 : fs.map V.ref ++ [V.ref c] = (fs ++ [c]).map V.ref := by rw [List.map_append]; rfl
        rw [e6]
        have s4 : Same H (upd H3 na (.lst ((fs ++ [c]).map V.ref))) := fun b o e => by rw [upd_ne (ne_of_none e hna)]; exact s3 _ _ e
        have kt4 : KeepT H3 (upd H3 na (.lst ((fs ++ [c]).map V.ref))) := KeepT.upd fun o' e => by
          rw [ef3] at e; cases e; exact ⟨fun _ z => (by cases z), fun _ _ z => (by cases z)⟩
        have ef4 : (upd H3 na (.lst ((fs ++ [c]).map V.ref))) na = some (.lst ((fs ++ [c]).map V.ref)) := upd_same
        have ea4 : (upd H3 na (.lst ((fs ++ [c]).map V.ref))) aa = some (.lst (bs'.map V.ref)) := by rw [upd_ne nfa.symm]; exact ea3
        have thb4 : ThsAt (upd H3 na (.lst ((fs ++ [c]).map V.ref))) bs' a := ThsAt.keep kt4 thb3
        have tf4 : ThsAt (upd H3 na (.lst ((fs ++ [c]).map V.ref))) (fs ++ [c]) (found ++ [t]) := ths_snoc (kt4.tup _ _ ec3) (ThsAt.keep kt4 tf3)
        have ec4 := kt4.tup _ _ ec3
        generalize upd H3 na (.lst ((fs ++ [c]).map V.ref)) = H4 at s4 kt4 ef4 ea4 thb4 tf4 ec4
        have S4 := S.same s4
        have tin : t ∈ M.holds.map (·.1) := hk t (by rw [ea0]; exact List.mem_append_right _ (by simp))
        obtain ⟨ad, fd'⟩ := find_of tin
        have mq := List.mem_of_find?_eq_some fd'
        obtain ⟨qs, q1, q2⟩ := S4.hl _ mq
        have q1 : H4 ad = some (.lst (qs.map V.ref)) := q1
        have q2 : ThsAt H4 qs (getH M.holds t) := q2
        have q3 : (getH M.holds t).length ≤ 400 := zq _ mq
        refine ⟨_, rfl, .inl ⟨rfl, _, SqL.of ea4⟩, _, rfl, p, _, rfl, S4.gHolds, _, rfl, M.l, _, rfl, ref_get S4.dl ec4 fd', ad, rfl, ⟨_, SqL.of q1⟩, fun pl hpl => ?_⟩
        refine filt_list (b := fun u => decide (u ∈ M.holds.map (·.1))) (caps := [("_law_model_here", 0)]) hpl (by lia) q1 q2 (fun H2 a' u Q' sm' ha hu' q => ?_) fun H5 bs2 sm5 ep5 th5 => ?_
        · have S2 := S4.same sm'
          obtain ⟨o, g, eo⟩ := key_in (k := fun q : T2 × Addr × List T2 => q.1) (f := fun q => V.ref q.2.1) (.inl S2.dl) ha
          refine ⟨_, rfl, _, rfl, p, _, rfl, S2.gHolds, M.l, o, rfl, g, ?_⟩
          rw [eo]
          exact ⟨_, rfl, q⟩
        · have th5 : ThsAt H5 bs2 (nxT M.holds t) := th5
          have zz := rc.len
          rw [List.length_append] at zz
          have l1 := Paired.length thb4
          have l2 := Paired.length th5
          refine ⟨aa, pl, _, _, rfl, rfl, sm5 _ _ ea4, ep5, Nat.le_of_lt (small1000 (by rw [List.length_map, List.length_map]; lia)), ?_⟩
          rw [← List.map_append]
          have kt7 : KeepT H5 (upd H5 aa (.lst ((bs' ++ bs2).map V.ref))) := KeepT.upd fun o' e => by
            rw [sm5 _ _ ea4] at e; cases e; exact ⟨fun _ z => (by cases z), fun _ _ z => (by cases z)⟩
          refine ⟨a ++ nxT M.holds t, found ++ [t], bs' ++ bs2, fs ++ [c], _, rfl, fun b o e => ?_, ?_, ThsAt.keep kt7 (ThsAt.keep (KeepT.of_same sm5) tf4), upd_same, ThsAt.keep kt7 (ths_app (ThsAt.keep (KeepT.of_same sm5) thb4) th5), rc, ?_, fun u hu => ?_⟩
          · rw [upd_ne (ne_of_none e naa)]; exact sm5 _ _ (s4 _ _ e)
          · rw [upd_ne nfa]; exact sm5 _ _ ef4
          · rw [List.length_append]; show found.length + 1 + m ≤ 400; lia
          · rcases List.mem_append.mp hu with hu | hu
            · exact hk' u hu
            · have := (List.mem_filter.mp hu).2; simpa using this
      · rcases rc with ⟨_, rc⟩ | ⟨hf', rc⟩
        · exact ⟨a, found, bs', fs, _, rfl, s3, ef3, tf3, ea3, thb3, rc, by lia, hk'⟩
        · exact absurd hf hf'
end
end K15

namespace K15
open PySem L2 FX
set_option linter.all false
section
variable {P : Program} {w : World} {K : PySem.W.Frag} {mg : Str → Option Value} {base : Heap} {C NHd NNr MI NW : Addr}
/-! ### what is left, by the law's own rows -/
def spMLeft : Sp := fun vs H Q _ => ∃ (p na : Addr) (M : HGh) (rs : List Addr) (R : List T2), vs = [.ref p, .ref na] ∧ ModelAt H p M ∧ M.holds.map (·.1) = M.outs.map (·.1) ∧ (M.outs.map (·.1)).Nodup ∧ H na = some (.lst (rs.map V.ref)) ∧ na ∉ foot M ∧ ThsAt H rs R ∧
  ∀ H' : Hp, ModelAt H' p (keepR M R) → HFr p M H H' → Q .non H'
theorem scML : FnScope ["_law_model_here", "_law_near_here", "_law_thing"] ["_law_model_here", "_law_near_here"] (defScope sMLeft) := ⟨rfl, rfl, rfl, by decide +kernel, rfl, by decide +kernel, by decide +kernel⟩
theorem ok_mleft {f : Addr} {fd : FuncData} (F : Fun K "_law_left" "_law_left" sMLeft f fd) (Tx : Txt2 mg) : FnOk P w K mg base CX0 1 f fd ["_law_model_here", "_law_near_here"] spMLeft := by
  refine F.ok scML (fun vs H Q E h => ?_) (fun cdv A outer s H vs Q E hr h => ?_)
  · obtain ⟨p, na, M, rs, R, rfl, _⟩ := h
    rfl
  · obtain ⟨p, na, M, rs, R, rfl, S, ke, kn, en, nf, tr, k⟩ := h
    have hu := hu_of hr
    refine ⟨_, pss_one (ps_for PassesOwn.never rfl (pi_list (pe_callTy (call_list_dict rfl) (by rfl) Tx.list PyProof.Rows.boot_list (pa_cons (pe_dget hu (pv 0) pe_str (fun _ _ => rfl)) pa_nil))) (pg_name (i := 2) scML.nd rfl (Or.inl rfl))
      (pss_one (ps_if (pt_cmpR (op_notIn_things (hu64 hr)) (pv 2) (pv 1) rfl) (pss_cons (ps_expr (pe_dpopT hu (pe_dget hu (pv 0) pe_str (fun _ _ => rfl)) (pv 2) ⟨rfl, rfl, rfl, rfl⟩)) (pss_one (ps_expr (pe_dpopT hu (pe_dget hu (pv 0) pe_str (fun _ _ => rfl)) (pv 2) ⟨rfl, rfl, rfl, rfl⟩)))) pss_nil))), ?_⟩
    refine ⟨_, rfl, p, _, rfl, S.gHolds, M.l, _, rfl, .inl S.dl, fun ll as hll ky => ?_⟩
    have t0 : ThsAt H as (M.holds.map (·.1)) := kys_thsK (k := fun q : T2 × Addr × List T2 => q.1) (f := fun q => V.ref q.2.1) ky
    have s1 := same_new (o := .lst (as.map V.ref)) hll
    have e1 : (upd H ll (.lst (as.map V.ref))) ll = some (.lst (as.map V.ref)) := upd_same
    have th : ThsAt (upd H ll (.lst (as.map V.ref))) as (M.holds.map (·.1)) := ThsAt.keep (KeepT.of_same s1) t0
    generalize upd H ll (.lst (as.map V.ref)) = H1 at s1 e1 th
    have S1 := S.same s1
    have lln := S.new_ne hll
    have nnp := S.lst_ne en
    have en1 := s1 _ _ en
    have tr1 : ThsAt H1 rs R := ThsAt.keep (KeepT.of_same s1) tr
    have hkn : (M.holds.map (·.1)).Nodup := by rw [ke]; exact kn
    have ks : ∀ xs, (dropTs M xs).holds.map (·.1) = (dropTs M xs).outs.map (·.1) := fun xs => by
      show (M.holds.filter fun q => decide (q.1 ∉ xs)).map (·.1) = (M.outs.filter fun q => decide (q.1 ∉ xs)).map (·.1)
      rw [filter_keys (fun q : T2 × Addr × List T2 => q.1) M.holds (fun t => decide (t ∉ xs)), filter_keys (fun q : T2 × Int => q.1) M.outs (fun t => decide (t ∉ xs)), ke]
    have lt := Paired.length th
    generalize hts : M.holds.map (·.1) = ts at th lt hkn
    refine ⟨ll, rfl, ⟨_, SqL.of e1⟩, ?_⟩
    refine for_list (K := K) (a := ll) (xs := as.map V.ref) (fun i σ H2 => ∃ u2 : Option V, σ = [some (.ref p), some (.ref na), u2] ∧ ModelAt H2 p (dropTs M ((ts.take i).filter fun t => decide (t ∉ R))) ∧ HFr p M H1 H2)
      ⟨_, rfl, by rw [List.take_zero]; show ModelAt H1 p (dropTs M []); rw [dropTs_nil]; exact S1, fun b o e _ _ => e⟩ (fun i σ H2 _ h => let ⟨_, _, _, fr⟩ := h; SqL.of (fr _ _ e1 lln.1 lln.2)) ?_ ?_
    · rintro i x σ H2 hx ⟨u2, rfl, S2, fr2⟩
      rw [List.getElem?_map] at hx
      cases ea : as[i]? with
      | none => rw [ea] at hx; cases hx
      | some a =>
        rw [ea] at hx
        have hx : V.ref a = x := Option.some.inj hx
        subst hx
        obtain ⟨t, ht⟩ := get_of_lt (xs := ts) (j := i) (by have := (List.getElem?_eq_some_iff.mp ea).1; lia)
        have ha := paired_get th i a t ea ht
        have ha2 := fr2 _ _ ha (S1.tup_ne ha).1 (S1.tup_ne ha).2
        have tr2 : ThsAt H2 rs R := ThsAt.keep (S1.keepT fr2) tr1
        have ft := filter_take (fun t => decide (t ∉ R)) ht
        have nt : t ∉ (ts.take i).filter fun t => decide (t ∉ R) := fun z => not_in_take hkn ht (List.mem_filter.mp z).1
        refine ⟨_, rfl, _, rfl, notIn_go ha2 (fr2 _ _ en1 nnp nf) tr2 ⟨fun hR => ⟨_, rfl, iteT ?_⟩, fun hR => ⟨_, rfl, iteF ⟨_, rfl, ?_, fr2⟩⟩⟩⟩
        · rw [if_pos (by simpa using hR)] at ft
          have h : t ∈ (dropTs M ((ts.take i).filter fun t => decide (t ∉ R))).holds.map (·.1) := by
            show t ∈ (M.holds.filter fun q => decide (q.1 ∉ _)).map (·.1)
            rw [filter_keys (fun q : T2 × Addr × List T2 => q.1) M.holds (fun u => decide (u ∉ (ts.take i).filter fun t => decide (t ∉ R))), hts]
            exact List.mem_filter.mpr ⟨List.mem_of_getElem? ht, decide_eq_true nt⟩
          generalize (ts.take i).filter (fun t => decide (t ∉ R)) = xs at *
          obtain ⟨v1, hv1⟩ := val_there (l := (dropTs M xs).holds) (k := fun q => q.1) (f := fun q => V.ref q.2.1) h
          obtain ⟨v2, hv2⟩ := val_there (l := (dropTs M xs).outs) (k := fun q => q.1) (f := fun q => V.int q.2) (by rw [← ks]; exact h)
          refine ⟨_, rfl, p, _, rfl, S2.gHolds, M.l, rfl, .inr ⟨_, .inl S2.dl⟩, _, rfl, _, tk t, _, a, S2.dl, rfl, ha2, hv1, ?_⟩
          rw [dropK_tk (k := fun q : T2 × Addr × List T2 => q.1) (f := fun q => V.ref q.2.1)]
          have S3 := S2.subHolds (hl := (dropTs M xs).holds.filter fun q => decide (q.1 ≠ t)) List.filter_sublist
          have fr3 : HFr p M H1 (upd H2 M.l (dRef ((dropTs M xs).holds.filter fun q => decide (q.1 ≠ t)))) := fun b o e h1 h2 => by rw [upd_ne fun z => h2 (by rw [z]; simp [foot])]; exact fr2 _ _ e h1 h2
          have ha3 := fr3 _ _ ha (S1.tup_ne ha).1 (S1.tup_ne ha).2
          rw [show HO.dT (((dropTs M xs).holds.filter fun q => decide (q.1 ≠ t)).map fun q => (tk q.1, V.ref q.2.1)) = dRef ((dropTs M xs).holds.filter fun q => decide (q.1 ≠ t)) from rfl]
          have S3 : ModelAt (upd H2 M.l (dRef ((dropTs M xs).holds.filter fun q => decide (q.1 ≠ t)))) p { dropTs M xs with holds := (dropTs M xs).holds.filter fun q => decide (q.1 ≠ t) } := S3
          generalize upd H2 M.l (dRef ((dropTs M xs).holds.filter fun q => decide (q.1 ≠ t))) = H3 at S3 fr3 ha3
          refine ⟨_, rfl, p, _, rfl, S3.gOuts, M.o, rfl, .inr ⟨_, .inl S3.dO⟩, _, rfl, _, tk t, _, a, S3.dO, rfl, ha3, hv2, ?_⟩
          have e3 : dropK (({ dropTs M xs with holds := (dropTs M xs).holds.filter fun q => decide (q.1 ≠ t) } : HGh).outs.map fun (q : T2 × Int) => (tk q.1, V.int q.2)) (tk t) = ((dropTs M xs).outs.filter fun q => decide (q.1 ≠ t)).map fun (q : T2 × Int) => (tk q.1, V.int q.2) :=
            dropK_tk (k := fun q : T2 × Int => q.1) (f := fun q => V.int q.2) _ t
          rw [e3]
          have S4 := S3.setOuts ((dropTs M xs).outs.filter fun q => decide (q.1 ≠ t))
          have eG : dropTs M (xs ++ [t]) = { dropTs M xs with outs := (dropTs M xs).outs.filter (fun q => decide (q.1 ≠ t)), holds := (dropTs M xs).holds.filter (fun q => decide (q.1 ≠ t)) } := by
            unfold dropTs
            rw [filter_snoc (fun q : T2 × Int => q.1), filter_snoc (fun q : T2 × Addr × List T2 => q.1)]
          refine ⟨_, rfl, by rw [ft, eG]; exact S4, fun b o e h1 h2 => ?_⟩
          rw [upd_ne fun z => h2 (by rw [z]; show M.o ∈ foot M; simp [foot])]; exact fr3 _ _ e h1 h2
        · rw [if_neg (by simpa using hR), List.append_nil] at ft
          rw [ft]; exact S2
    · rintro σ H2 ⟨u2, rfl, S2, fr2⟩
      rw [List.length_map, lt, List.take_length] at S2
      have e4 : dropTs M (ts.filter fun t => decide (t ∉ R)) = keepR M R := by rw [← hts, ke]; exact dropTs_keepR ke
      rw [e4] at S2
      exact k H2 S2 fun b o e h1 h2 => fr2 _ _ (s1 _ _ e) h1 h2
end
end K15

namespace K15
open PySem L2 FX
set_option linter.all false
section
variable {P : Program} {w : World} {K : PySem.W.Frag} {mg : Str → Option Value} {base : Heap} {C NHd NNr MI NW : Addr}
/-! ### what goes back, by the law's own rows -/
def spMBacks : Sp := fun vs H Q _ => ∃ (p : Addr) (M : HGh) (n : Nat) (rs : List (T2 × Int)), vs = [.ref p] ∧ ModelAt H p M ∧ Ok M n ∧ n ≤ 20 ∧ rs.Perm M.recs ∧ (rs.map (·.1)).Pairwise lt2 ∧
  ∀ (x : Addr) (as : List Addr) (H' : Hp), H x = none → H' x = some (.lst (as.map V.ref)) → BackAt H' as (backsOf M rs) → ModelAt H' p (keepB M) → HFr p M H H' → Q (.ref x) H'
theorem scMB : FnScope ["_law_model_here", "_law_held", "_law_thing", "_law_backs_here", "_law_weight"] ["_law_model_here"] (defScope sMBacks) := ⟨rfl, rfl, rfl, by decide +kernel, rfl, by decide +kernel, by decide +kernel⟩
theorem ok_mbacks {f : Addr} {fd : FuncData} (F : Fun K "_law_backs" "_law_backs" sMBacks f fd) (T : Txt K mg C NHd NNr MI NW) (Tx : Txt2 mg) : FnOk P w K mg base CX0 1 f fd ["_law_model_here"] spMBacks := by
  refine F.ok scMB (fun vs H Q E h => ?_) (fun cdv A outer s H vs Q E hr h => ?_)
  · obtain ⟨p, M, n, rs, rfl, _⟩ := h
    rfl
  · obtain ⟨p, M, n, rs, rfl, S, ok, zn, pm, pw, k⟩ := h
    have hu := hu_of hr
    refine ⟨_, pss_cons (ps_set (i := 1) scMB.nd rfl (Or.inl rfl) (pe_callTy call_list_of (by rfl) Tx.list PyProof.Rows.boot_list (pa_cons (pe_dget hu (pv 0) pe_str (fun _ _ => rfl)) pa_nil)))
      (pss_cons (ps_for PassesOwn.never rfl (pi_dict (pe_dget hu (pv 0) pe_str (fun _ _ => rfl))) (pg_name (i := 2) scMB.nd rfl (Or.inl rfl))
          (pss_one (ps_expr (pe_bm PySem.F.plainAttrs_list PySem.F.slot_list_extend PySem.F.type_list_extend mt_extend (pv 1) (pa_cons (pe_dget hu (pe_dget hu (pv 0) pe_str (fun _ _ => rfl)) (pv 2) (fun _ _ => rfl)) pa_nil)))))
      (PSs.thaw (pss_cons (ps_set (i := 3) scMB.nd rfl (Or.inl rfl) (pe_lst pa_nil))
      (pss_cons (ps_for PassesOwn.never rfl (pi_list (pe_callB (call_sorted_things rfl) (by rfl) T.sorted PyProof.Rows.boot_sorted (pa_cons (pe_dget hu (pv 0) pe_str (fun _ _ => rfl)) pa_nil))) (pg_name (i := 2) scMB.nd rfl (Or.inl rfl))
          (pss_one (ps_if (pt_cmpR (op_notIn_things (hu64 hr)) (pv 2) (pv 1) rfl)
            (pss_cons (ps_set (i := 4) scMB.nd rfl (Or.inl rfl) (pe_dpopT hu (pe_dget hu (pv 0) pe_str (fun _ _ => rfl)) (pv 2) ⟨rfl, rfl, rfl, rfl⟩))
            (pss_one (ps_if (pt_cmpR op_gt (pv 4) pe_int (nomark _)) (pss_one (ps_expr (pe_bm PySem.F.plainAttrs_list PySem.F.slot_list_append PySem.F.type_list_append mt_append (pv 3) (pa_cons (pe_tup (pa_cons (pv 2) (pa_cons (pv 4) pa_nil))) pa_nil)))) pss_nil))) pss_nil)))
      (pss_one (ps_ret (pv 3)))))))
      , ?_⟩
    have z1 := ok.hz
    have z2 := ok.lens
    have z3 := ok.rz
    -- held
    obtain ⟨as, eh, th⟩ := S.dh
    refine ⟨_, rfl, p, _, rfl, S.gHand, M.h, _, rfl, .inl (SqL.of eh), fun hd hhd => ?_⟩
    have s1 := same_new (o := .lst (as.map V.ref)) hhd
    have e1 : (upd H hd (.lst (as.map V.ref))) hd = some (.lst (as.map V.ref)) := upd_same
    have t1 : ThsAt (upd H hd (.lst (as.map V.ref))) as M.hand := ThsAt.keep (KeepT.of_same s1) th
    generalize upd H hd (.lst (as.map V.ref)) = H1 at s1 e1 t1
    have S1 := S.same s1
    have ndl : (M.holds.map (·.1)).Nodup := by rw [ok.ke]; exact ok.on
    have nhd : ∀ {b : Addr} {o : HO}, H b = some o → b ≠ hd := fun e => ne_of_none e hhd
    have npl : p ≠ M.l := fun z => S.p_ne (b := M.l) (by simp [foot]) z.symm
    refine ⟨_, rfl, p, _, rfl, S1.gHolds, M.l, _, rfl, S1.dl, fun ob => ?_⟩
    have F0 : ∀ b o, H b = some o → b ≠ M.l → (upd H1 M.l (.frz ob (dRef M.holds))) b = some o := fun b o e hb => by rw [upd_ne hb]; exact s1 _ _ e
    have ktF : ∀ {H2 : Hp}, (∀ b o, (upd H1 M.l (.frz ob (dRef M.holds))) b = some o → b ≠ hd → H2 b = some o) → ∀ b xs, (upd H1 M.l (.frz ob (dRef M.holds))) b = some (.tup xs) → H2 b = some (.tup xs) := fun fr b xs e => fr _ _ e fun z => by
      rw [z, upd_ne (nhd S.dl).symm, e1] at e; cases e
    refine for_dict (d := M.l) (ob := ob) (fun i σ H2 => ∃ (u2 : Option V) (hs : List Addr), σ = [some (.ref p), some (.ref hd), u2, none, none] ∧ H2 hd = some (.lst (hs.map V.ref)) ∧ ThsAt H2 hs (heldL M i) ∧ ∀ b o, (upd H1 M.l (.frz ob (dRef M.holds))) b = some o → b ≠ hd → H2 b = some o)
      ⟨_, as, rfl, by rw [upd_ne (nhd S.dl).symm, e1], ?_, fun b o e _ => e⟩ (fun i σ H2 _ h => let ⟨_, _, _, _, _, fr⟩ := h; fr _ _ upd_same (nhd S.dl)) ?_ ?_
    · have : heldL M 0 = M.hand := by unfold heldL; simp
      rw [this]
      refine paired_mono (fun b u e => ?_) t1
      rw [upd_ne fun z => by rw [z, S1.dl] at e; cases e]; exact e
    · rintro i a kk v σ H2 hx ha ⟨u2, hs, rfl, eh2, t2, fr⟩
      rw [List.getElem?_map] at hx
      cases eq : M.holds[i]? with
      | none => rw [eq] at hx; cases hx
      | some q =>
        rw [eq] at hx
        have hx : (tk q.1, V.ref q.2.1) = (kk, v) := Option.some.inj hx
        have mq := List.mem_of_getElem? eq
        have e2 : kk = tk q.1 := (Prod.mk.inj hx).1.symm
        rw [e2, tk_kV] at ha
        have hpp : H2 p = some (.dK (mflds M)) := fr _ _ (F0 _ _ S.ob npl) (nhd S.ob)
        have hll : H2 M.l = some (.frz ob (dRef M.holds)) := fr _ _ upd_same (nhd S.dl)
        obtain ⟨qs, q1, q2⟩ := S.hl q mq
        have hqq : H2 q.2.1 = some (.lst (qs.map V.ref)) := fr _ _ (F0 _ _ q1 (S.nds.2.2.2 q mq).2.2.1) (nhd q1)
        have tqq : ThsAt H2 qs q.2.2 := paired_mono (fun b u e => fr _ _ (F0 _ _ e fun z => by rw [z, S.dl] at e; cases e) (nhd e)) q2
        have gv : valV (M.holds.map fun (q : T2 × Addr × List T2) => (tk q.1, V.ref q.2.1)) (tk q.1) = some (V.ref q.2.1) := by
          rw [valV_tk (k := fun q : T2 × Addr × List T2 => q.1) (f := fun q => V.ref q.2.1), FX.find_self (k := fun q : T2 × Addr × List T2 => q.1) ndl mq]; rfl
        have gh : DGet H2 p (.str "holds") (some (V.ref M.l)) := by have := DGet.k (k := .inr "holds") hpp; rw [mf_holds] at this; exact this
        have l0 := ok.ln q mq
        have hi : i < 20 := by have := (List.getElem?_eq_some_iff.mp eq).1; lia
        have l1 : (heldL M i).length ≤ 20 + 20 * 20 := by
          have h1 := heldL_len (n := 20) M (fun r hr => by have := (ok.ln r hr).2; lia) i
          have h3 : i * 20 ≤ 20 * 20 := Nat.mul_le_mul_right _ (by lia)
          lia
        have l2 := Paired.length t2
        have l3 := Paired.length tqq
        refine ⟨_, rfl, .inl ⟨rfl, _, SqL.of eh2⟩, _, rfl, p, _, rfl, gh, _, rfl, M.l, _, rfl, .inr ⟨_, tk q.1, a, .inr ⟨ob, hll⟩, rfl, ha, gv.symm⟩, hd, q.2.1, _, _, rfl, rfl, eh2, hqq, ?_, ?_⟩
        · rw [List.length_map, List.length_map]
          exact Nat.le_of_lt (small1000 (by lia))
        · rw [← List.map_append]
          have kt : KeepT H2 (upd H2 hd (.lst ((hs ++ qs).map V.ref))) := KeepT.upd fun o' e => by
            rw [eh2] at e; cases e; exact ⟨fun _ z => (by cases z), fun _ _ z => (by cases z)⟩
          refine ⟨_, hs ++ qs, rfl, upd_same, ?_, fun b o e hb => by rw [upd_ne hb]; exact fr b o e hb⟩
          rw [heldL_succ M eq]
          exact ths_app (ThsAt.keep kt t2) (ThsAt.keep kt tqq)
    · rintro σ H2 ⟨u2, hs, rfl, eh2, t2, fr⟩
      rw [List.length_map] at t2
      have hll : H2 M.l = some (.frz ob (dRef M.holds)) := fr _ _ upd_same (nhd S.dl)
      refine ⟨upd H2 M.l (dRef M.holds), ⟨M.l, ob, _, hll, fun o v z => ?_, rfl⟩, ?_⟩
      · have z : H M.l = some (.frz o v) := z
        rw [S.dl] at z; cases z
      have s3 : Same H (upd H2 M.l (dRef M.holds)) := fun b o e => by
        by_cases hb : b = M.l
        · subst hb
          rw [S.dl] at e
          rw [upd_same]; exact e
        · rw [upd_ne hb]
          exact fr _ _ (F0 _ _ e hb) (nhd e)
      have e3 : (upd H2 M.l (dRef M.holds)) hd = some (.lst (hs.map V.ref)) := by rw [upd_ne (nhd S.dl).symm]; exact eh2
      have t3 : ThsAt (upd H2 M.l (dRef M.holds)) hs (heldL M M.holds.length) := by
        refine paired_mono (fun b u e => ?_) t2
        rw [upd_ne fun z => by rw [z, hll] at e; cases e]; exact e
      generalize upd H2 M.l (dRef M.holds) = H3 at s3 e3 t3
      -- backs
      refine ⟨Nat.zero_le _, fun bl hbl => ?_⟩
      have s4 := same_new (o := .lst []) hbl
      have e4 : (upd H3 bl (.lst [])) bl = some (.lst (([] : List Addr).map V.ref)) := upd_same
      have nhb : hd ≠ bl := ne_of_none e3 hbl
      have e3' := s4 _ _ e3
      have t4 : ThsAt (upd H3 bl (.lst [])) hs (heldL M M.holds.length) := ThsAt.keep (KeepT.of_same s4) t3
      generalize upd H3 bl (.lst []) = H4 at s4 e4 e3' t4
      have s04 := same_trans s3 s4
      have S4 := S.same s04
      have hbl0 : H bl = none := same_free s3 hbl
      refine ⟨_, rfl, p, _, rfl, S4.gRecs, M.r, _, rs.map (·.1), rfl, int_rd S4.dr, (by rw [List.length_map]; lia), ?_, pw, fun sl asl hsl tsl => ?_⟩
      · have e4 : ((M.recs.map fun q => (q.1, V.int q.2)).map (·.1)) = M.recs.map (·.1) := by rw [List.map_map]; rfl
        rw [e4]; exact pm.map _
      have s5 := same_new (o := .lst (asl.map V.ref)) hsl
      have el5 : (upd H4 sl (.lst (asl.map V.ref))) sl = some (.lst (asl.map V.ref)) := upd_same
      have t5 : ThsAt (upd H4 sl (.lst (asl.map V.ref))) asl (rs.map (·.1)) := ThsAt.keep (KeepT.of_same s5) tsl
      have nsb : sl ≠ bl := (ne_of_none e4 hsl).symm
      have nsh : hd ≠ sl := ne_of_none e3' hsl
      have e4' := s5 _ _ e4
      have e3'' := s5 _ _ e3'
      have t4' : ThsAt (upd H4 sl (.lst (asl.map V.ref))) hs (heldL M M.holds.length) := ThsAt.keep (KeepT.of_same s5) t4
      have hsl0 : H sl = none := same_free s04 hsl
      generalize upd H4 sl (.lst (asl.map V.ref)) = H5 at s5 el5 t5 e4' e3'' t4'
      have s05 := same_trans s04 s5
      have S5 := S.same s05
      have lrs : rs.length ≤ 20 := by have := pm.length_eq; lia
      have lasl := Paired.length t5
      rw [List.length_map] at lasl
      have rnd : (rs.map (·.1)).Nodup := (pm.map _).nodup_iff.mpr ok.rn
      have hdn := S.new_ne hhd
      have sln := S.new_ne hsl0
      have bln := S.new_ne hbl0
      refine ⟨sl, rfl, ⟨_, SqL.of el5⟩, ?_⟩
      refine for_list (K := K) (a := sl) (xs := asl.map V.ref) (fun i σ H6 => ∃ (u2 u4 : Option V) (cs : List Addr), σ = [some (.ref p), some (.ref hd), u2, some (.ref bl), u4] ∧ H6 bl = some (.lst (cs.map V.ref)) ∧ BackAt H6 cs (backsOf M (rs.take i)) ∧
          ModelAt H6 p { M with recs := M.recs.filter fun q => decide (q.1 ∉ ((rs.take i).filter fun r => !heldB M r.1).map (·.1)) } ∧ ∀ b o, H5 b = some o → b ≠ bl → b ≠ M.r → H6 b = some o)
        ⟨_, _, [], rfl, e4', .nil, ?_, fun b o e _ _ => e⟩ (fun i σ H6 _ h => let ⟨_, _, _, _, _, _, _, fr⟩ := h; SqL.of (fr _ _ el5 nsb fun z => sln.2 (by rw [z]; simp [foot]))) ?_ ?_
      · have : (M.recs.filter fun q => decide (q.1 ∉ ((rs.take 0).filter fun r => !heldB M r.1).map (·.1))) = M.recs := List.filter_eq_self.mpr fun q _ => by simp
        rw [this]; exact S5
      · rintro i x σ H6 hx ⟨u2, u4, cs, rfl, eb6, ba, S6, fr6⟩
        rw [List.getElem?_map] at hx
        cases ea : asl[i]? with
        | none => rw [ea] at hx; cases hx
        | some a =>
          rw [ea] at hx
          have hx : V.ref a = x := Option.some.inj hx
          subst hx
          obtain ⟨q, hq⟩ := get_of_lt (xs := rs) (j := i) (by have := (List.getElem?_eq_some_iff.mp ea).1; lia)
          have ha := paired_get t5 i a q.1 ea (by rw [List.getElem?_map, hq]; rfl)
          have kt6 : ∀ b xs, H5 b = some (.tup xs) → H6 b = some (.tup xs) := fun b xs e => fr6 _ _ e (fun z => by rw [z, e4'] at e; cases e) fun z => by rw [z, S5.dr] at e; cases e
          have ha6 := kt6 _ _ ha
          have t6 : ThsAt H6 hs (heldL M M.holds.length) := paired_mono (fun b u e => kt6 _ _ e) t4'
          have eh6 := fr6 _ _ e3'' nhb fun z => hdn.2 (by rw [z]; simp [foot])
          have ft := filter_take' (b := fun r : T2 × Int => !heldB M r.1) hq
          have qm : q ∈ M.recs := pm.subset (List.mem_of_getElem? hq)
          have nin : q.1 ∉ ((rs.take i).filter fun r => !heldB M r.1).map (·.1) := fun z => by
            obtain ⟨r, hr, er⟩ := List.mem_map.mp z
            have h1 := not_in_take rnd (i := i) (t := q.1) (by rw [List.getElem?_map, hq]; rfl)
            exact h1 (by rw [← List.map_take]; exact List.mem_map.mpr ⟨r, (List.mem_filter.mp hr).1, er⟩)
          have hbk : ∀ j, backsOf M (rs.take j) = ((rs.take j).filter fun r => !heldB M r.1).filter fun r => decide (0 < r.2) := fun _ => rfl
          refine ⟨_, rfl, _, rfl, notIn_go ha6 eh6 t6 ⟨fun hR => ⟨_, rfl, iteT ?_⟩, fun hR => ⟨_, rfl, iteF ⟨_, _, cs, rfl, eb6, ?_, ?_, fr6⟩⟩⟩⟩
          · have hb : heldB M q.1 = false := by rw [← heldL_mem]; exact decide_eq_false hR
            rw [hb, if_pos (show (!false) = true from rfl)] at ft
            have hv : valV ((M.recs.filter fun r => decide (r.1 ∉ ((rs.take i).filter fun r => !heldB M r.1).map (·.1))).map fun q => (tk q.1, V.int q.2)) (tk q.1) = some (V.int q.2) := by
              have n0 : ((M.recs.filter fun r => decide (r.1 ∉ ((rs.take i).filter fun r => !heldB M r.1).map (·.1))).map (·.1)).Nodup := ok.rn.sublist (List.filter_sublist.map _)
              rw [valV_tk (k := fun q : T2 × Int => q.1) (f := fun q => V.int q.2), FX.find_self (k := fun q : T2 × Int => q.1) n0 (List.mem_filter.mpr ⟨qm, decide_eq_true nin⟩)]; rfl
            have e9 : ((rs.take (i + 1)).filter fun r => !heldB M r.1).map (·.1) = ((rs.take i).filter fun r => !heldB M r.1).map (·.1) ++ [q.1] := by rw [ft, List.map_append]; rfl
            have e10 := hbk (i + 1)
            rw [ft, List.filter_append, ← hbk i] at e10
            generalize ((rs.take i).filter fun r => !heldB M r.1).map (·.1) = ds at *
            refine ⟨_, rfl, p, _, rfl, S6.gRecs, M.r, rfl, .inr ⟨_, .inl S6.dr⟩, _, rfl, _, tk q.1, _, a, S6.dr, rfl, ha6, hv, ?_⟩
            have e11 : dropK ((M.recs.filter fun r => decide (r.1 ∉ ds)).map fun q => (tk q.1, V.int q.2)) (tk q.1) = (M.recs.filter fun r => decide (r.1 ∉ ds ++ [q.1])).map fun q => (tk q.1, V.int q.2) := by
              rw [filter_snoc (fun q : T2 × Int => q.1)]
              exact dropK_tk (k := fun q : T2 × Int => q.1) (f := fun q => V.int q.2) _ _
            rw [e11]
            have S7 : ModelAt (upd H6 M.r (dInt (M.recs.filter fun r => decide (r.1 ∉ ds ++ [q.1])))) p { M with recs := M.recs.filter fun r => decide (r.1 ∉ ds ++ [q.1]) } := S6.setRecs (M.recs.filter fun r => decide (r.1 ∉ ds ++ [q.1]))
            have fr7 : ∀ b o, H5 b = some o → b ≠ bl → b ≠ M.r → (upd H6 M.r (dInt (M.recs.filter fun r => decide (r.1 ∉ ds ++ [q.1])))) b = some o := fun b o e h1 h2 => by rw [upd_ne h2]; exact fr6 _ _ e h1 h2
            have kt7 : KeepT H6 (upd H6 M.r (dInt (M.recs.filter fun r => decide (r.1 ∉ ds ++ [q.1])))) := KeepT.upd fun o' e => by
              rw [S6.dr] at e; cases e; exact ⟨fun _ z => (by cases z), fun _ _ z => (by cases z)⟩
            have eb7 : (upd H6 M.r (dInt (M.recs.filter fun r => decide (r.1 ∉ ds ++ [q.1])))) bl = some (.lst (cs.map V.ref)) := by rw [upd_ne fun z => bln.2 (by rw [z]; simp [foot])]; exact eb6
            rw [show HO.dT ((M.recs.filter fun r => decide (r.1 ∉ ds ++ [q.1])).map fun q => (tk q.1, V.int q.2)) = dInt (M.recs.filter fun r => decide (r.1 ∉ ds ++ [q.1])) from rfl]
            generalize upd H6 M.r (dInt (M.recs.filter fun r => decide (r.1 ∉ ds ++ [q.1]))) = H7 at S7 fr7 kt7 eb7
            have ba7 := BackAt.keep kt7 ba
            have ha7 := kt7.tup _ _ ha6
            refine ⟨_, rfl, _, _, rfl, rfl, _, rfl, ?_⟩
            by_cases c : 0 < q.2
            · rw [decide_eq_true c]
              have lcs : cs.length ≤ rs.length := by
                rw [Paired.length ba]
                have h1 := List.length_filter_le (fun q : T2 × Int => decide (0 < q.2)) ((rs.take i).filter fun r => !heldB M r.1)
                have h2 := len_filter_take' (fun r : T2 × Int => !heldB M r.1) rs i
                rw [hbk]; lia
              refine iteT ⟨_, rfl, .inl ⟨rfl, _, SqL.of eb7⟩, _, rfl, _, rfl, (by show 2 ≤ sizeLine; decide), fun x1 hx1 => ?_⟩
              have s8 := same_new (o := .tup [V.ref a, V.int q.2]) hx1
              have x8 : (upd H7 x1 (.tup [V.ref a, V.int q.2])) x1 = some (.tup [V.ref a, V.int q.2]) := upd_same
              have e8 := s8 _ _ eb7
              generalize upd H7 x1 (.tup [V.ref a, V.int q.2]) = H8 at s8 x8 e8
              refine ⟨bl, _, _, rfl, rfl, e8, by rw [List.length_map]; exact small1000 (by lia), ?_⟩
              have kt9 : KeepT H8 (upd H8 bl (.lst (cs.map V.ref ++ [V.ref x1]))) := KeepT.upd fun o' e => by
                rw [e8] at e; cases e; exact ⟨fun _ z => (by cases z), fun _ _ z => (by cases z)⟩
              refine ⟨_, _, cs ++ [x1], rfl, by rw [List.map_append]; exact upd_same, ?_, ?_, fun b o e h1 h2 => by rw [upd_ne h1]; exact s8 _ _ (fr7 _ _ e h1 h2)⟩
              · rw [e10]
                have : ([q].filter fun r : T2 × Int => decide (0 < r.2)) = [q] := by rw [List.filter_cons, if_pos (by simpa using c)]; rfl
                rw [this]
                exact paired_snoc' (BackAt.keep kt9 (BackAt.keep (KeepT.of_same s8) ba7)) ⟨a, kt9.tup _ _ x8, kt9.tup _ _ (s8 _ _ ha7)⟩
              · rw [e9]
                exact (S7.same s8).keep (fun b o hb e => by
                  rw [upd_ne fun z => ?_]; exact e
                  rcases hb with hb | hb
                  · exact bln.1 (z ▸ hb)
                  · exact bln.2 (z ▸ hb)) kt9
            · rw [decide_eq_false c]
              refine iteF ⟨_, _, cs, rfl, eb7, ?_, by rw [e9]; exact S7, fr7⟩
              rw [e10]
              have : ([q].filter fun r : T2 × Int => decide (0 < r.2)) = [] := by rw [List.filter_cons, if_neg (by simpa using c)]; rfl
              rw [this, List.append_nil]
              exact ba7
          · have hb : heldB M q.1 = true := by rw [← heldL_mem]; exact decide_eq_true hR
            rw [hb, if_neg (by decide), List.append_nil] at ft
            rw [hbk, ft, ← hbk]; exact ba
          · have hb : heldB M q.1 = true := by rw [← heldL_mem]; exact decide_eq_true hR
            rw [hb, if_neg (by decide), List.append_nil] at ft
            rw [ft]; exact S6
      · rintro σ H6 ⟨u2, u4, cs, rfl, eb6, ba, S6, fr6⟩
        rw [List.length_map, lasl, List.take_length] at ba S6
        refine ⟨_, rfl, k bl cs H6 hbl0 eb6 ba ?_ fun b o e h1 h2 => fr6 _ _ (s05 _ _ e) (ne_of_none e hbl0) fun z => h2 (by rw [z]; simp [foot])⟩
        have : (M.recs.filter fun q => heldB M q.1) = M.recs.filter fun q => decide (q.1 ∉ (rs.filter fun r => !heldB M r.1).map (·.1)) := List.filter_congr fun q hq => by
          by_cases c : heldB M q.1 = true
          · have nm : q.1 ∉ (rs.filter fun r => !heldB M r.1).map (·.1) := fun z => by
              obtain ⟨r, hr, er⟩ := List.mem_map.mp z
              have := (List.mem_filter.mp hr).2
              rw [er, c] at this; cases this
            rw [c, decide_eq_true nm]
          · have c : heldB M q.1 = false := by simpa using c
            have im : q.1 ∈ (rs.filter fun r => !heldB M r.1).map (·.1) := List.mem_map.mpr ⟨q, List.mem_filter.mpr ⟨pm.symm.subset hq, by rw [c]; rfl⟩, rfl⟩
            rw [c]; simp only [im, not_true_eq_false, decide_false]
        unfold keepB
        rw [this]; exact S6
end
end K15

namespace K15
open PySem L2 FX
set_option linter.all false
theorem i_yes (x : Int) : decide (V.int x = V.int x) = true := by simp
/-- nothing is held, nothing is out -/
def Plain (G : HGh) : Prop := (∀ q ∈ G.holds, q.2.2 = []) ∧ ∀ q ∈ G.outs, q.2 = 0
/-- the far ones come from houses in turn -/
def FarTo (G : HGh) (j : Nat) : Prop := (∀ t ∈ G.hand, t.1 ≠ G.num → ∃ i : Nat, i < j ∧ t.1 = (G.num + 1 + i) % 12) ∧ ∀ t ∈ G.recs.map (·.1), ∃ i : Nat, i < j ∧ t.1 = (G.num + 1 + i) % 12
theorem far_more {G : HGh} {tb : T2} {i : Nat} (hi : i < 5) (hn0 : 0 ≤ G.num) (hn1 : G.num < 12) (e1 : tb.1 = (G.num + 1 + (i : Int)) % 12) (far : FarTo G i) :
    tb.1 ≠ G.num ∧ tb ∉ G.hand ∧ tb ∉ G.recs.map (·.1) := by
  have hf : tb.1 ≠ G.num := by rw [e1]; lia
  refine ⟨hf, fun z => ?_, fun z => ?_⟩
  · obtain ⟨j, hj, e⟩ := far.1 tb z hf
    rw [e1] at e; lia
  · obtain ⟨j, hj, e⟩ := far.2 tb z
    rw [e1] at e; lia
theorem far_end {G M1 : HGh} {tb : T2} {i : Nat} {w0 : Int} (lk : LikeW M1 G) (ok : Ok G (9 + i)) (wk : Wk G) (h0 : 0 ≤ w0) (hf : tb.1 ≠ G.num) (nh : tb ∉ G.hand) (nr : tb ∉ G.recs.map (·.1)) (e1 : tb.1 = (G.num + 1 + (i : Int)) % 12) (far : FarTo G i) :
    LikeW { M1 with hand := M1.hand ++ [tb], recs := putI M1.recs tb (1 + w0) } { G with ticks := G.ticks + 1, hand := addT G.hand tb, recs := putI G.recs tb (getI G.recs tb + (1 + w0)) } ∧
    Ok { G with ticks := G.ticks + 1, hand := addT G.hand tb, recs := putI G.recs tb (getI G.recs tb + (1 + w0)) } (9 + (i + 1)) ∧ Wk { G with ticks := G.ticks + 1, hand := addT G.hand tb, recs := putI G.recs tb (getI G.recs tb + (1 + w0)) } ∧
    FarTo { G with ticks := G.ticks + 1, hand := addT G.hand tb, recs := putI G.recs tb (getI G.recs tb + (1 + w0)) } (i + 1) := by
  have g0 : getI G.recs tb = 0 := getI_no nr
  have eh : addT G.hand tb = G.hand ++ [tb] := by unfold addT; rw [if_neg nh]
  have er : putI G.recs tb (getI G.recs tb + (1 + w0)) = G.recs ++ [(tb, 1 + w0)] := by rw [g0, Int.zero_add, putI_new nr]
  have ek : (putI G.recs tb (getI G.recs tb + (1 + w0))).map (·.1) = G.recs.map (·.1) ++ [tb] := by rw [er, List.map_append]; rfl
  have okc : Ok { G with hand := addT G.hand tb, recs := putI G.recs tb (getI G.recs tb + (1 + w0)) } (9 + i + 1) := ok.came hf (getI G.recs tb + (1 + w0))
  refine ⟨⟨lk.num, lk.made, rfl, ?_, lk.outs, ?_, lk.holds⟩, okc.tk1, ⟨fun q hq => ?_, fun t ht e => ?_⟩, ⟨fun t ht e => ?_, fun t ht => ?_⟩⟩
  · show M1.hand ++ [tb] = addT G.hand tb
    rw [eh, show M1.hand = G.hand from lk.hand]
  · show putI M1.recs tb (1 + w0) = putI G.recs tb (getI G.recs tb + (1 + w0))
    rw [show M1.recs = G.recs from lk.recs, g0, Int.zero_add]
  · have hq : q ∈ putI G.recs tb (getI G.recs tb + (1 + w0)) := hq
    rw [er] at hq
    rcases List.mem_append.mp hq with hq | hq
    · exact wk.nn q hq
    · have : q = (tb, 1 + w0) := by simpa using hq
      rw [this]; show 0 ≤ 1 + w0; lia
  · show t ∈ (putI G.recs tb (getI G.recs tb + (1 + w0))).map (·.1)
    rw [ek]
    rcases mem_addT'.mp ht with ht | ht
    · exact List.mem_append_left _ (wk.hr t ht e)
    · rw [ht]; simp
  · rcases mem_addT'.mp ht with ht | ht
    · obtain ⟨j, hj, ej⟩ := far.1 t ht e
      exact ⟨j, by lia, ej⟩
    · exact ⟨i, by lia, by rw [ht]; exact e1⟩
  · have ht : t ∈ (putI G.recs tb (getI G.recs tb + (1 + w0))).map (·.1) := ht
    rw [ek] at ht
    rcases List.mem_append.mp ht with ht | ht
    · obtain ⟨j, hj, ej⟩ := far.2 t ht
      exact ⟨j, by lia, ej⟩
    · have : t = tb := by simpa using ht
      exact ⟨i, by lia, by rw [this]; exact e1⟩
section
variable {P : Program} {w : World} {K : PySem.W.Frag} {mg : Str → Option Value} {base : Heap} {C NHd NNr MI NW HE : Addr}
def spBegun (C : Addr) (K : PySem.W.Frag) : Sp := fun vs H Q _ => ∃ (a p m : Addr) (ns : List Int) (G M : HGh), vs = [.ref a, .ref p, .ref m] ∧ Scr K H a (ns.map V.int) ∧ ns.length ≤ 63 ∧ TwoW C p m H G M 0 ∧ G.made = 0 ∧ G.recs = [] ∧ G.hand = [] ∧ G.holds = [] ∧ G.outs = [] ∧ 0 ≤ G.num ∧ G.num < 12 ∧
  ∀ (G' M' : HGh) (H' : Hp), TwoW C p m H' G' M' 14 → Few G' → Plain G' → G'.outs ≠ [] → G'.outs.length ≤ 9 → G'.made ≤ 9 → (∀ t ∈ G'.outs.map (·.1), t ∈ G'.hand) → Scr K H' a (ns.map V.int) → Q .non H'
theorem scBe : FnScope ["_law_script", "_law_house", "_law_model_here", "_law_k", "_law_far", "_law_weight"] ["_law_script", "_law_house", "_law_model_here"] (defScope sBegun) := ⟨rfl, rfl, rfl, by decide +kernel, rfl, by decide +kernel, by decide +kernel⟩
theorem ok_begun {f fC fM f1 f5 fc fMk : Addr} {fd dC dM d1 d5 dc dMk : FuncData} (F : Fun K "_law_begun" "_law_begun" sBegun f fd) (T : Txt K mg C NHd NNr MI NW) (MC : Gdf K mg "_law_cell" sCell ["_law_script", "_law_k"] fC dC)
    (MM : Gdf K mg "_law_made" sMMade ["_law_model_here"] fM dM) (M1 : Mth K C "is_near" "House.is_near" sNear ["self", "thing"] f1 d1) (M5 : Mth K C "add_to_record" "House.add_to_record" sAddR ["self", "b", "weight"] f5 d5) (Mc : Mth K C "came" "House.came" sCame ["self", "b", "weight"] fc dc)
    (MMk : Mth K C "make" "House.make" sMake ["self"] fMk dMk) : FnOk P w K mg base CX0 3 f fd ["_law_script", "_law_house", "_law_model_here"] (spBegun C K) := by
  have GC : FnOk P w K mg base CX0 1 fC dC ["_law_script", "_law_k"] (spCell K) := ok_cell MC.fn T.len
  have GM : FnOk P w K mg base CX0 1 fM dM ["_law_model_here"] spMMade := ok_mmade MM.fn
  have Gk : FnOk P w K mg base CX0 1 fMk dMk ["self"] (spMake C) := ok_make MMk.fn T
  have Gc : FnOk P w K mg base CX0 2 fc dc ["self", "b", "weight"] (spCame C) := ok_came Mc.fn T M1 M5
  refine F.ok scBe (fun vs H Q E h => ?_) (fun cdv A outer s H vs Q E hr h => ?_)
  · obtain ⟨a, p, m, ns, G, M, rfl, _⟩ := h
    rfl
  · obtain ⟨a, p, m, ns, G, M0, rfl, hS, hlen, tw, hm0, hr0, hh0, hl0, ho0, hn0, hn1, k⟩ := h
    have hu := hu_of hr
    have hr1 : Room 1 _ := hr.mono (by decide)
    have two : (2 : Nat) ≤ sizeLine := by decide
    refine ⟨_, pss_cons (ps_for PassesOwn.never rfl (pi_range1 rfl T.range (pa_cons (pe_op op_add pe_int (pe_op op_mod (pe_call GC hr1 (by rfl) MC.mg MC.fn.kp MC.bd .nil pass0 (pa_cons (pv 0) (pa_cons pe_int pa_nil))) pe_int)) pa_nil)) (pg_name (i := 3) scBe.nd rfl (Or.inl rfl))
        (pss_cons (ps_expr (pe_call GM hr1 (by rfl) MM.mg MM.fn.kp MM.bd .nil pass0 (pa_cons (pv 2) pa_nil)))
        (pss_one (ps_expr (pe_meth0 (pv 1) T.cl MMk.mt Gk hr1 MMk.bd .nil pass0)))))
      (pss_one (ps_for PassesOwn.never rfl (pi_range1 rfl T.range (pa_cons (pe_op op_mod (pe_call GC hr1 (by rfl) MC.mg MC.fn.kp MC.bd .nil pass0 (pa_cons (pv 0) (pa_cons pe_int pa_nil))) pe_int) pa_nil)) (pg_name (i := 3) scBe.nd rfl (Or.inl rfl))
        (pss_cons (ps_set (i := 4) scBe.nd rfl (Or.inl rfl) (pe_tup (pa_cons (pe_op op_mod (pe_op op_add (pe_op op_add (pe_dget hu (pv 2) pe_str (fun _ _ => rfl)) pe_int) (pv 3)) pe_int) (pa_cons (pe_op op_mod (pe_op op_fdiv (pe_call GC hr1 (by rfl) MC.mg MC.fn.kp MC.bd .nil pass0 (pa_cons (pv 0) (pa_cons pe_int pa_nil))) (pe_op op_add (pv 3) pe_int)) pe_int) pa_nil))))
        (pss_cons (ps_set (i := 5) scBe.nd rfl (Or.inl rfl) (pe_op op_add pe_int (pe_op op_mod (pe_call GC hr1 (by rfl) MC.mg MC.fn.kp MC.bd .nil pass0 (pa_cons (pv 0) (pa_cons (pe_op op_add pe_int (pv 3)) pa_nil))) (pe_op op_pow pe_int pe_int))))
        (pss_cons (ps_expr (pe_meth (pl := _) (pv 1) T.cl Mc.mt Gc hr Mc.bd .nil pass0 (pa_cons (pv 4) (pa_cons (pv 5) pa_nil))))
        (pss_cons (ps_expr (pe_bm PySem.F.plainAttrs_list PySem.F.slot_list_append PySem.F.type_list_append mt_append (pe_dget hu (pv 2) pe_str (fun _ _ => rfl)) (pa_cons (pv 4) pa_nil)))
        (pss_one (ps_dput hu (pe_dget hu (pv 2) pe_str (fun _ _ => rfl)) (pv 4) (pv 5) rfl)))))))), ?_⟩
    refine ⟨_, rfl, a, ns, 1, rfl, hS.sq, hlen, by decide, by decide, fun v1 => ⟨_, _, rfl, rfl, (show (0 : Int) < 9 by decide), _, _, rfl, rfl, 1 + v1 % 9, rfl, by lia, by lia, ?_⟩⟩
    refine for_range (fun i σ H2 => ∃ (G M : HGh) (u3 : Option V), σ = [some (.ref a), some (.ref p), some (.ref m), u3, none, none] ∧ TwoW C p m H2 G M i ∧ 0 ≤ G.num ∧ G.num < 12 ∧ G.made = i ∧ G.outs.length = i ∧ G.recs = [] ∧ (∀ t ∈ G.hand, t.1 = G.num ∧ 0 ≤ t.2 ∧ t.2 < i) ∧ Plain G ∧ (∀ t ∈ G.outs.map (·.1), t ∈ G.hand) ∧ Scr K H2 a (ns.map V.int))
      ⟨G, M0, _, rfl, tw, hn0, hn1, hm0, (by rw [ho0]; rfl), hr0, (fun t ht => by rw [hh0] at ht; cases ht), ⟨(fun t ht => by rw [hl0] at ht; cases ht), (fun t ht => by rw [ho0] at ht; cases ht)⟩, (fun t ht => by rw [ho0] at ht; cases ht), hS⟩ ?_ ?_
    · rintro i σ H2 hi ⟨G, M1, u3, rfl, tw, hn0, hn1, hm, hol, hrc, hh, em, kh, hS⟩
      have hi5 : i < 9 := by lia
      refine ⟨_, rfl, m, M1, i, rfl, tw.md, tw.lk.ok tw.ok, by lia, fun x t ad H3 had _ _ S3 fr3 => ?_⟩
      have hs3 := tw.dj.model tw.hs fr3
      have dj3 : Dj p m G (mkG M1 ad) := tw.dj.mkM' tw.hs had
      have kt3 := tw.md.keepT fr3
      obtain ⟨dx4, hp4⟩ := hs3.ob
      have z1 := tw.ok.hz
      have z2 := tw.ok.oz
      have z3 := tw.ok.lens
      obtain ⟨n1, n2, n3⟩ := tw.ok.fresh
      refine ⟨_, rfl, p, dx4, _, rfl, hp4, hf_no G (by decide +kernel), p, G, rfl, hs3, by lia, by lia, by lia, n1, n2, n3, fun t5 ad5 H5 _ had5 _ hs5 fr5 => ?_⟩
      have hs5 : HouseAt C H5 p (tk1 (mkG G ad5)) := hs5
      refine ⟨tk1 (mkG G ad5), mkG M1 ad, _, rfl, ⟨hs5, dj3.house hs3 S3 fr5, tw.lk.mk2 ad ad5, (tw.ok.mkG ad5).tk1, tw.wk.mkG ad5, dj3.mkH S3 had5⟩, hn0, hn1, ?_, ?_, hrc, ?_, ?_, ?_, (hS.keep kt3).keep (HFr.keepT hs3 fr5)⟩
      · show G.made + 1 = ((i + 1 : Nat) : Int); lia
      · show (G.outs ++ [((G.num, G.made), (0 : Int))]).length = i + 1
        rw [List.length_append, hol]; rfl
      · intro t ht
        have ht : t ∈ G.hand ++ [(G.num, G.made)] := ht
        rcases List.mem_append.mp ht with ht | ht
        · obtain ⟨a1, a2, a3⟩ := hh t ht
          exact ⟨a1, a2, by lia⟩
        · have : t = (G.num, G.made) := by simpa using ht
          rw [this]; exact ⟨rfl, (by show 0 ≤ G.made; lia), (by show G.made < ((i + 1 : Nat) : Int); lia)⟩
      · refine ⟨fun q hq => ?_, fun q hq => ?_⟩
        · have hq : q ∈ G.holds ++ [((G.num, G.made), ad5, [])] := hq
          rcases List.mem_append.mp hq with hq | hq
          · exact em.1 q hq
          · have : q = ((G.num, G.made), ad5, []) := by simpa using hq
            rw [this]
        · have hq : q ∈ G.outs ++ [((G.num, G.made), (0 : Int))] := hq
          rcases List.mem_append.mp hq with hq | hq
          · exact em.2 q hq
          · have : q = ((G.num, G.made), (0 : Int)) := by simpa using hq
            rw [this]
      · intro t ht
        have ht : t ∈ (G.outs ++ [((G.num, G.made), (0 : Int))]).map (·.1) := ht
        rw [List.map_append] at ht
        show t ∈ G.hand ++ [(G.num, G.made)]
        rcases List.mem_append.mp ht with ht | ht
        · exact List.mem_append_left _ (kh t ht)
        · exact List.mem_append_right _ (by simpa using ht)
    · rintro σ H2 ⟨G, M1, u3, rfl, tw, hn0, hn1, hm, hol, hrc, hh, em, kh, hS⟩
      have e6 : (1 + v1 % 9).toNat ≤ 9 := by lia
      have e7 : 0 < (1 + v1 % 9).toNat := by lia
      refine ⟨_, rfl, a, ns, 2, rfl, hS.sq, hlen, by decide, by decide, fun v2 => ⟨_, _, rfl, rfl, (show (0 : Int) < 6 by decide), v2 % 6, rfl, by lia, by lia, ?_⟩⟩
      refine for_range (fun i σ H2 => ∃ (G M : HGh) (u3 u4 u5 : Option V), σ = [some (.ref a), some (.ref p), some (.ref m), u3, u4, u5] ∧ TwoW C p m H2 G M (9 + i) ∧ Few G ∧ Plain G ∧ G.outs ≠ [] ∧ G.outs.length ≤ 9 ∧ G.made ≤ 9 ∧ (∀ t ∈ G.outs.map (·.1), t ∈ G.hand) ∧ FarTo G i ∧ Scr K H2 a (ns.map V.int))
        ⟨G, M1, _, _, _, rfl, ⟨tw.hs, tw.md, tw.lk, tw.ok.mono (by lia), tw.wk, tw.dj⟩, ⟨hn0, hn1, fun t ht => ?_, fun q hq t ht => ?_, fun t ht => by rw [hrc] at ht; cases ht⟩, em, fun z => ?_, by lia, by lia, kh, ⟨fun t ht e => absurd (hh t ht).1 e, fun t ht => by rw [hrc] at ht; cases ht⟩, hS⟩ ?_ ?_
      · obtain ⟨a1, a2, a3⟩ := hh t ht
        exact ⟨⟨by lia, by lia, a2, by lia⟩, by lia⟩
      · rw [em.1 q hq] at ht; cases ht
      · rw [z] at hol
        have hol : 0 = (1 + v1 % 9).toNat := hol
        lia
      · rintro i σ H2 hi ⟨G, M1, u3, u4, u5, rfl, tw, few, em, ne, ol, mz, kh, far, hS⟩
        have hi5 : i < 5 := by lia
        have eN : M1.num = G.num := tw.lk.num
        have eR : M1.recs = G.recs := tw.lk.recs
        have eH : M1.hand = G.hand := tw.lk.hand
        have z1 := tw.ok.hz
        have z2 := tw.ok.oz
        have z4 := tw.ok.rz
        refine ⟨_, rfl, m, _, rfl, tw.md.gHouse, _, _, rfl, rfl, _, rfl, _, _, rfl, rfl, _, _, rfl, rfl, (show (0 : Int) < 12 by decide), _, rfl, a, ns, 3, rfl, hS.sq, hlen, by decide, by decide, fun v3 => ⟨_, rfl, _, _, rfl, rfl, _, _, rfl, rfl, ⟨by lia, by lia⟩, _, _, rfl, rfl, (show (0 : Int) < 3 by decide), two, fun t ht => ?_⟩⟩
        obtain ⟨tb, htb⟩ : ∃ tb : T2, tb = ((M1.num + 1 + (0 + (i : Int))) % 12, v3 / (0 + (i : Int) + 1) % 3) := ⟨_, rfl⟩
        have e1 : [V.int ((M1.num + 1 + (0 + (i : Int))) % 12), V.int (v3 / (0 + (i : Int) + 1) % 3)] = tv tb := by rw [htb]; rfl
        have e1' : tb.1 = (G.num + 1 + (i : Int)) % 12 := by rw [htb, eN, Int.zero_add]
        have inr : InR tb ∧ tb.2 < 9 := by
          have b0 := Int.emod_nonneg (M1.num + 1 + (0 + (i : Int))) (show (12 : Int) ≠ 0 by decide)
          have b1 := Int.emod_lt_of_pos (M1.num + 1 + (0 + (i : Int))) (show (0 : Int) < 12 by decide)
          have b2 := Int.emod_nonneg (v3 / (0 + (i : Int) + 1)) (show (3 : Int) ≠ 0 by decide)
          have b3 := Int.emod_lt_of_pos (v3 / (0 + (i : Int) + 1)) (show (0 : Int) < 3 by decide)
          rw [htb]
          refine ⟨⟨b0, b1, b2, ?_⟩, ?_⟩
          · show v3 / (0 + (i : Int) + 1) % 3 < 10
            lia
          · show v3 / (0 + (i : Int) + 1) % 3 < 9
            lia
        have s3 := same_new (o := .tup [V.int ((M1.num + 1 + (0 + (i : Int))) % 12), V.int (v3 / (0 + (i : Int) + 1) % 3)]) ht
        have t3 : (upd H2 t (.tup [V.int ((M1.num + 1 + (0 + (i : Int))) % 12), V.int (v3 / (0 + (i : Int) + 1) % 3)])) t = some (.tup (tv tb)) := by rw [upd_same, e1]
        generalize upd H2 t (.tup [V.int ((M1.num + 1 + (0 + (i : Int))) % 12), V.int (v3 / (0 + (i : Int) + 1) % 3)]) = H3 at s3 t3
        have tw3 := tw.same s3
        have hS3 := hS.keep (KeepT.of_same s3)
        obtain ⟨hf, nh, nr⟩ := far_more hi5 few.n0 few.n1 e1' far
        refine ⟨_, rfl, _, rfl, _, _, rfl, rfl, a, ns, 4 + (0 + (i : Int)), rfl, hS3.sq, hlen, by lia, by lia, fun v4 => ⟨_, _, rfl, rfl, ⟨by decide, by decide, by decide⟩, _, _, rfl, rfl, (show (0 : Int) < 10 ^ 59 by decide), _, _, rfl, rfl, ?_⟩⟩
        have h0 : 0 ≤ v4 % 10 ^ (59 : Int).toNat := Int.emod_nonneg _ (by decide)
        generalize v4 % 10 ^ (59 : Int).toNat = w0 at h0 ⊢
        obtain ⟨lkF, okF, wkF, faF⟩ := far_end tw.lk tw.ok tw.wk h0 hf nh nr e1' far
        obtain ⟨dx3, hp3⟩ := tw3.hs.ob
        refine ⟨_, rfl, p, dx3, _, rfl, hp3, hf_no G (by decide +kernel), _, rfl, _, rfl, p, t, G, tb, 1 + w0, rfl, tw3.hs, t3, by lia, by lia, by lia, .inr ⟨hf, fun H4 hs4 fr4 => ?_⟩⟩
        have S4 := tw3.dj.house tw3.hs tw3.md fr4
        have kt4 := HFr.keepT tw3.hs fr4
        have t4 := kt4.tup _ _ t3
        have hS4 := hS3.keep kt4
        have dj4 : Dj p m { G with ticks := G.ticks + 1, hand := addT G.hand tb, recs := putI G.recs tb (getI G.recs tb + (1 + w0)) } M1 := tw3.dj.of rfl rfl
        obtain ⟨as, eh, th⟩ := S4.dh
        have hlen5 : as.length ≤ 500 := by
          have h6 := Paired.length th
          rw [eH] at h6
          lia
        refine ⟨_, rfl, m, _, rfl, S4.gHand, .inl ⟨rfl, _, SqL.of eh⟩, _, rfl, M1.h, _, _, rfl, rfl, eh, (by rw [List.length_map]; exact small1000 (by lia)), ?_⟩
        have e6 : as.map V.ref ++ [V.ref t] = (as ++ [t]).map V.ref := by rw [List.map_append]; rfl
        rw [e6]
        have S5 := S4.setHand (as := as ++ [t]) (ts := M1.hand ++ [tb]) (ths_snoc t4 th)
        have fr5 : HFr m M1 H4 (upd H4 M1.h (.lst ((as ++ [t]).map V.ref))) := hand_fr (by simp [foot])
        have hs5 := dj4.model hs4 fr5
        have kt5 := S4.keepT fr5
        have t5 := kt5.tup _ _ t4
        have hS5 := hS4.keep kt5
        have dj5 : Dj p m { G with ticks := G.ticks + 1, hand := addT G.hand tb, recs := putI G.recs tb (getI G.recs tb + (1 + w0)) } { M1 with hand := M1.hand ++ [tb] } := dj4.of rfl rfl
        generalize upd H4 M1.h (.lst ((as ++ [t]).map V.ref)) = H5 at S5 fr5 hs5 kt5 t5 hS5
        refine ⟨_, rfl, _, rfl, m, _, rfl, S5.gRecs, _, rfl, M1.r, _, rfl, DPut.t (k := tk tb) S5.dr t5 (by rw [List.length_map]; exact small1000 (by show M1.recs.length ≤ 1000; rw [eR]; lia)), ?_⟩
        rw [show ({ M1 with hand := M1.hand ++ [tb] } : HGh).recs = M1.recs from rfl, show ((fun (i j : Int) => V.int (i + j)) 1 w0) = V.int (1 + w0) from rfl, putK_int]
        have S6 := S5.setRecs (putI M1.recs tb (1 + w0))
        have fr6 : HFr m { M1 with hand := M1.hand ++ [tb] } H5 (upd H5 M1.r (dInt (putI M1.recs tb (1 + w0)))) := hand_fr (by simp [foot])
        have hs6 := dj5.model hs5 fr6
        have kt6 := S5.keepT fr6
        refine ⟨_, _, _, _, _, rfl, ⟨hs6, S6, lkF, okF, wkF, dj5.of rfl rfl⟩, ⟨few.n0, few.n1, fun u hu => ?_, few.hl, fun u hu => ?_⟩, em, ne, ol, mz, fun u hu => mem_addT'.mpr (.inl (kh u hu)), faF, hS5.keep kt6⟩
        · rcases mem_addT'.mp hu with hu | hu
          · exact few.hd u hu
          · rw [hu]; exact inr
        · have hu : u ∈ (putI G.recs tb (getI G.recs tb + (1 + w0))).map (·.1) := hu
          rw [putI_keys, if_neg nr] at hu
          rcases List.mem_append.mp hu with hu | hu
          · exact few.rc u hu
          · have : u = tb := by simpa using hu
            rw [this]; exact inr.2
      · rintro σ H3 ⟨G, M1, u3, u4, u5, rfl, tw, few, em, ne, ol, mz, kh, far, hS⟩
        exact k G M1 H3 ⟨tw.hs, tw.md, tw.lk, tw.ok.mono (by lia), tw.wk, tw.dj⟩ few em ne ol mz kh hS
end
end K15

namespace FX
open PySem PySem.Spec PyProof.Rows L2
set_option linter.all false
theorem mem_putI' {l : List (T2 × Int)} {t : T2} {v : Int} {q : T2 × Int} (h : q ∈ putI l t v) : q = (t, v) ∨ q ∈ l := by
  unfold putI at h
  by_cases c : t ∈ l.map (·.1)
  · rw [if_pos c] at h
    obtain ⟨r, hr, e⟩ := List.mem_map.mp h
    by_cases d : r.1 = t
    · rw [if_pos d] at e
      exact .inl (by rw [← e, d])
    · rw [if_neg d] at e
      exact .inr (by rw [← e]; exact hr)
  · rw [if_neg c] at h
    rcases List.mem_append.mp h with h | h
    · exact .inr h
    · exact .inl (by simpa using h)
end FX
namespace K15
open PySem L2 FX
set_option linter.all false
theorem Good.of {G : HGh} {n : Nat} (x : Ok G n) (h : n < 64) : Good G := by
  refine ⟨x.hn, by have := x.hz; lia, x.on, by have := x.oz; lia, x.rn, by have := x.rz; lia, fun q hq => ?_⟩
  obtain ⟨a, fd⟩ := find_of (l := G.holds) (t := q.1) (by rw [x.ke]; exact List.mem_map_of_mem hq)
  obtain ⟨g1, g2, _⟩ := x.get q.1
  exact ⟨a, _, fd, g1, by lia⟩
theorem Told.like {M G : HGh} (x : LikeW M G) {hs : List T2} {os : List (T2 × Int × List T2)} {rs : List (T2 × Int)} (t : Told G hs os rs) : Told M hs os rs := by
  have xh : M.hand = G.hand := x.hand
  have xo : M.outs = G.outs := x.outs
  have xr : M.recs = G.recs := x.recs
  have xl : hs0 M.holds = hs0 G.holds := x.holds
  refine ⟨by rw [xh]; exact t.pm, t.pw, ⟨by rw [xo]; exact t.rw_.pm, t.rw_.pw, fun q hq => ?_⟩, by rw [xr]; exact t.pr, t.wr⟩
  obtain ⟨f1, a, hl, f2, f3, f4, f5⟩ := t.rw_.at_ q hq
  have e : (hs0 M.holds).find? (fun z => decide (z.1 = q.1)) = some (q.1, hl) := by rw [xl, hs0_find, f2]; rfl
  rw [hs0_find] at e
  cases e2 : M.holds.find? fun z => decide (z.1 = q.1) with
  | none => rw [e2] at e; cases e
  | some r =>
    rw [e2] at e
    have e3 : (r.1, r.2.2) = (q.1, hl) := Option.some.inj e
    have e4 := (Prod.mk.inj e3).1
    have e5 := (Prod.mk.inj e3).2
    exact ⟨by rw [xo]; exact f1, r.2.1, hl, by rw [← e4, ← e5], f3, f4, f5⟩
/-- one more hold, of what is in the hand -/
theorem held_ok {G M : HGh} {n : Nat} {ta tb : T2} (ok : Ok G n) (wk : Wk G) (few : Few G) (had : Had G) (lk : LikeW M G) (hb : tb ∈ G.hand) :
    Ok (tk1 { G with holds := setH G.holds ta (addT (getH G.holds ta) tb) }) n ∧ Wk (tk1 { G with holds := setH G.holds ta (addT (getH G.holds ta) tb) }) ∧ Few (tk1 { G with holds := setH G.holds ta (addT (getH G.holds ta) tb) }) ∧ Had (tk1 { G with holds := setH G.holds ta (addT (getH G.holds ta) tb) }) ∧
    LikeW { M with holds := setH M.holds ta (addT (getH M.holds ta) tb) } (tk1 { G with holds := setH G.holds ta (addT (getH G.holds ta) tb) }) ∧ foot (tk1 { G with holds := setH G.holds ta (addT (getH G.holds ta) tb) }) = foot G ∧ foot { M with holds := setH M.holds ta (addT (getH M.holds ta) tb) } = foot M := by
  have gs : ∀ t ∈ getH G.holds ta, t ∈ G.hand ∧ (InR t ∧ t.2 < 9) := fun t ht => by
    unfold getH at ht
    cases e : G.holds.find? fun q => decide (q.1 = ta) with
    | none => rw [e] at ht; cases ht
    | some q =>
      rw [e] at ht
      have hq := List.mem_of_find?_eq_some e
      exact ⟨had q hq t ht, few.hl q hq t ht⟩
  have gs2 : ∀ t ∈ addT (getH G.holds ta) tb, t ∈ G.hand ∧ (InR t ∧ t.2 < 9) := fun t ht => by
    rcases mem_addT'.mp ht with ht | ht
    · exact gs t ht
    · rw [ht]; exact ⟨hb, few.hd tb hb⟩
  have nd := nd_addT' tb (ok.get ta).1
  have ln : (addT (getH G.holds ta) tb).length ≤ n := Nat.le_trans (nd_len nd fun t ht => (gs2 t ht).1) ok.hz
  refine ⟨(ok.holds nd ln fun t ht e => ok.hk t (gs2 t ht).1 e).tk1, ⟨wk.nn, wk.hr⟩, ⟨few.n0, few.n1, few.hd, fun q hq t ht => ?_, few.rc⟩, fun q hq t ht => ?_, lw lk.num lk.made lk.hand lk.outs lk.recs ?_, ?_, ?_⟩
  · rcases mem_setH hq with ⟨_, e⟩ | hq
    · rw [e] at ht; exact (gs2 t ht).2
    · exact few.hl q hq t ht
  · show t ∈ G.hand
    rcases mem_setH hq with ⟨_, e⟩ | hq
    · rw [e] at ht; exact (gs2 t ht).1
    · exact had q hq t ht
  · show hs0 (setH M.holds ta (addT (getH M.holds ta) tb)) = hs0 (setH G.holds ta (addT (getH G.holds ta) tb))
    have e1 : getH M.holds ta = getH G.holds ta := Like.getH lk ta
    have e2 : hs0 M.holds = hs0 G.holds := lk.holds
    rw [setH_hs0, setH_hs0, e1, e2]
  · show foot { G with holds := setH G.holds ta (addT (getH G.holds ta) tb) } = foot G
    unfold foot
    rw [setH_adr]
  · unfold foot
    rw [setH_adr]
section
variable {P : Program} {w : World} {K : PySem.W.Frag} {mg : Str → Option Value} {base : Heap} {C NHd NNr MI NW HE : Addr}
def spJoined (C : Addr) (K : PySem.W.Frag) : Sp := fun vs H Q _ => ∃ (a p m : Addr) (ns : List Int) (sh : Int) (G M : HGh), vs = [.ref a, .ref p, .ref m, .int sh] ∧ Scr K H a (ns.map V.int) ∧ ns.length ≤ 63 ∧ TwoW C p m H G M 14 ∧ Few G ∧ Plain G ∧ G.outs ≠ [] ∧ G.outs.length ≤ 9 ∧ (∀ t ∈ G.outs.map (·.1), t ∈ G.hand) ∧
  ∀ (G' M' : HGh) (H' : Hp), TwoW C p m H' G' M' 14 → Few G' → (G'.outs.map (·.1) = G.outs.map (·.1) ∧ G'.made = G.made) → Scr K H' a (ns.map V.int) → Q .non H'
theorem scJo : FnScope ["_law_script", "_law_house", "_law_model_here", "_law_share", "_law_near_here", "_law_k", "_law_cell_here", "_law_a", "_law_b"] ["_law_script", "_law_house", "_law_model_here", "_law_share"] (defScope sJoined) := ⟨rfl, rfl, rfl, by decide +kernel, rfl, by decide +kernel, by decide +kernel⟩
theorem ok_joined {f fC f1 f2 f3 f6 fh fb ff fP : Addr} {fd dC d1 d2 d3 d6 dh db df dP : FuncData} (F : Fun K "_law_joined" "_law_joined" sJoined f fd) (T : Txt K mg C NHd NNr MI NW) (MC : Gdf K mg "_law_cell" sCell ["_law_script", "_law_k"] fC dC)
    (M1 : Mth K C "is_near" "House.is_near" sNear ["self", "thing"] f1 d1) (M2 : Mth K C "need_in_hand" "House.need_in_hand" sNeedH ["self", "thing"] f2 d2) (M3 : Mth K C "need_near" "House.need_near" sNeedN ["self", "thing"] f3 d3) (M6 : Mth K C "part_record" "House.part_record" sPartR ["self", "b"] f6 d6) (Mh : Mth K C "hold" "House.hold" sHold ["self", "a", "b"] fh dh)
    (Mb : Mth K C "part" "House.part" sPart ["self", "b", "share"] fb db) (Mf : Mth K C "free" "House.free" sFree ["self", "b"] ff df) (MP : Gdf K mg "parted" sParted ["weight"] fP dP) :
    FnOk P w K mg base CX0 4 f fd ["_law_script", "_law_house", "_law_model_here", "_law_share"] (spJoined C K) := by
  have GC : FnOk P w K mg base CX0 1 fC dC ["_law_script", "_law_k"] (spCell K) := ok_cell MC.fn T.len
  have Gh : FnOk P w K mg base CX0 3 fh dh ["self", "a", "b"] (fun vs H Q _ => spHold C NHd NNr vs H Q E0) := FX.FnOk.no (ok_hold Mh.fn T M1 M2 M3)
  have Gb : FnOk P w K mg base CX0 3 fb db ["self", "b", "share"] (fun vs H Q _ => spPart C NHd NW vs H Q E0) := FX.FnOk.no (ok_part Mb.fn T M1 M2 M6 MP)
  have Gf : FnOk P w K mg base CX0 2 ff df ["self", "b"] (fun vs H Q _ => spFree C NHd vs H Q E0) := FX.FnOk.no (ok_free Mf.fn T M2)
  refine F.ok scJo (fun vs H Q E h => ?_) (fun cdv A outer s H vs Q E hr h => ?_)
  · obtain ⟨a, p, m, ns, sh, G, M, rfl, _⟩ := h
    rfl
  · obtain ⟨a, p, m, ns, sh, G, M0, rfl, hS, hlen, tw, few, pl, ne, ol, kh, k⟩ := h
    have hu := hu_of hr
    have hr1 : Room 1 _ := hr.mono (by decide)
    have hr2 : Room 2 _ := hr.mono (by decide)
    refine ⟨_, pss_cons (ps_set (i := 4) scJo.nd rfl (Or.inl rfl) (pe_callB (call_sorted_things rfl) (by rfl) T.sorted PyProof.Rows.boot_sorted (pa_cons (pe_dget hu (pv 2) pe_str (fun _ _ => rfl)) pa_nil)))
      (pss_cons (ps_for PassesOwn.never rfl (pi_range1 rfl T.range (pa_cons (pe_op op_mod (pe_call GC hr1 (by rfl) MC.mg MC.fn.kp MC.bd .nil pass0 (pa_cons (pv 0) (pa_cons pe_int pa_nil))) pe_int) pa_nil)) (pg_name (i := 5) scJo.nd rfl (Or.inl rfl))
        (pss_cons (ps_set (i := 6) scJo.nd rfl (Or.inl rfl) (pe_call GC hr1 (by rfl) MC.mg MC.fn.kp MC.bd .nil pass0 (pa_cons (pv 0) (pa_cons (pe_op op_add pe_int (pv 5)) pa_nil))))
        (pss_cons (ps_set (i := 7) scJo.nd rfl (Or.inl rfl) (pe_ix ix_list (pv 4) (pe_op op_mod (pv 6) (pe_callB call_len_seq (by rfl) T.len PySem.boot_len (pa_cons (pv 4) pa_nil))) (fun _ _ => rfl)))
        (pss_cons (ps_set (i := 8) scJo.nd rfl (Or.inl rfl) (pe_ix ix_list (pe_dget hu (pv 2) pe_str (fun _ _ => rfl)) (pe_op op_mod (pe_op op_fdiv (pv 6) (pe_callB call_len_seq (by rfl) T.len PySem.boot_len (pa_cons (pv 4) pa_nil))) (pe_callB call_len_seq (by rfl) T.len PySem.boot_len (pa_cons (pe_dget hu (pv 2) pe_str (fun _ _ => rfl)) pa_nil))) (fun _ _ => rfl)))
        (pss_cons (ps_expr (pe_meth (pl := _) (pv 1) T.cl Mh.mt Gh hr Mh.bd .nil pass0 (pa_cons (pv 7) (pa_cons (pv 8) pa_nil))))
        (pss_one (ps_if (pt_cmpR (op_notIn_things (hu64 hr)) (pv 8) (pe_dget hu (pe_dget hu (pv 2) pe_str (fun _ _ => rfl)) (pv 7) (fun _ _ => rfl)) rfl)
          (pss_one (ps_expr (pe_bm PySem.F.plainAttrs_list PySem.F.slot_list_append PySem.F.type_list_append mt_append (pe_dget hu (pe_dget hu (pv 2) pe_str (fun _ _ => rfl)) (pv 7) (fun _ _ => rfl)) (pa_cons (pv 8) pa_nil)))) pss_nil)))))))
      (pss_cons (ps_for PassesOwn.never rfl (pi_range1 rfl T.range (pa_cons (pe_callB call_len_seq (by rfl) T.len PySem.boot_len (pa_cons (pv 4) pa_nil)) pa_nil)) (pg_name (i := 5) scJo.nd rfl (Or.inl rfl))
        (pss_one (ps_if (pt_cmpR op_eq (pe_op op_mod (pe_call GC hr1 (by rfl) MC.mg MC.fn.kp MC.bd .nil pass0 (pa_cons (pv 0) (pa_cons (pe_op op_add pe_int (pv 5)) pa_nil))) pe_int) pe_int (nomark _))
          (pss_cons (ps_expr (pe_meth (pl := _) (pv 1) T.cl Mb.mt Gb hr Mb.bd .nil pass0 (pa_cons (pe_ix ix_list (pv 4) (pv 5) (fun _ _ => rfl)) (pa_cons (pv 3) pa_nil))))
          (pss_one (ps_dput hu (pe_dget hu (pv 2) pe_str (fun _ _ => rfl)) (pe_ix ix_list (pv 4) (pv 5) (fun _ _ => rfl)) (pv 3) rfl))) pss_nil)))
      (pss_one (ps_for PassesOwn.never rfl (pi_range1 rfl T.range (pa_cons (pe_callB call_len_seq (by rfl) T.len PySem.boot_len (pa_cons (pe_dget hu (pv 2) pe_str (fun _ _ => rfl)) pa_nil)) pa_nil)) (pg_name (i := 5) scJo.nd rfl (Or.inl rfl))
        (pss_one (ps_if (pt_cmpR op_gt (pe_op op_mod (pe_call GC hr1 (by rfl) MC.mg MC.fn.kp MC.bd .nil pass0 (pa_cons (pv 0) (pa_cons (pe_op op_add pe_int (pv 5)) pa_nil))) pe_int) pe_int (nomark _))
          (pss_cons (ps_expr (pe_meth (pl := _) (pv 1) T.cl Mf.mt Gf hr2 Mf.bd .nil pass0 (pa_cons (pe_ix ix_list (pe_dget hu (pv 2) pe_str (fun _ _ => rfl)) pe_int (fun _ _ => rfl)) pa_nil)))
          (pss_one (ps_dput hu (pv 2) pe_str (pe_slice sl_list (pe_dget hu (pv 2) pe_str (fun _ _ => rfl)) (po_some pe_int) po_none) rfl)))
          (pss_one (ps_dput hu (pv 2) pe_str (pe_op op_cat (pe_slice sl_list (pe_dget hu (pv 2) pe_str (fun _ _ => rfl)) (po_some pe_int) po_none) (pe_slice sl_list (pe_dget hu (pv 2) pe_str (fun _ _ => rfl)) po_none (po_some pe_int))) rfl)))))))), ?_⟩
    have gd := Good.of tw.ok (by decide)
    obtain ⟨hs, os, rs, tld⟩ := gd.told
    have eO : M0.outs = G.outs := tw.lk.outs
    have okM := tw.lk.ok tw.ok
    have z2 := okM.lens
    refine ⟨_, rfl, m, _, rfl, tw.md.gHolds, M0.l, _, os.map (·.1), rfl, ref_rd tw.md.dl, (by rw [List.length_map]; lia), ?_, tld.rw_.pw, fun nl asn hnl tn => ?_⟩
    · have e0 : ((M0.holds.map fun q => (q.1, V.ref q.2.1)).map (·.1)) = M0.holds.map (·.1) := by rw [List.map_map]; rfl
      rw [e0, okM.ke, eO]; exact tld.rw_.pm
    have kin : ∀ t ∈ os.map (·.1), t ∈ G.outs.map (·.1) := fun t ht => tld.rw_.pm.subset ht
    have knd : (os.map (·.1)).Nodup := tld.rw_.pm.nodup_iff.mpr tw.ok.on
    have knl : 0 < (os.map (·.1)).length := by
      rw [tld.rw_.pm.length_eq, List.length_map]
      exact List.length_pos_iff.mpr ne
    have kn9 : (os.map (·.1)).length ≤ 9 := by
      rw [tld.rw_.pm.length_eq, List.length_map]; exact ol
    generalize os.map (·.1) = ks at tn kin knl kn9 knd
    have s1 := same_new (o := .lst (asn.map V.ref)) hnl
    have e1 : (upd H nl (.lst (asn.map V.ref))) nl = some (.lst (asn.map V.ref)) := upd_same
    have tn1 : ThsAt (upd H nl (.lst (asn.map V.ref))) asn ks := ThsAt.keep (KeepT.of_same s1) tn
    have nln := tw.md.new_ne hnl
    generalize upd H nl (.lst (asn.map V.ref)) = H1 at s1 e1 tn1
    have hS1 := hS.keep (KeepT.of_same s1)
    have lnn := Paired.length tn1
    have had0 : Had G := fun q hq t ht => by rw [pl.1 q hq] at ht; cases ht
    obtain ⟨O, hO⟩ : ∃ O, G.outs.map (·.1) = O := ⟨_, rfl⟩
    obtain ⟨md, hmd⟩ : ∃ md, G.made = md := ⟨_, rfl⟩
    rw [hO, hmd] at k
    refine ⟨_, rfl, a, ns, 9, rfl, hS1.sq, hlen, by decide, by decide, fun v1 => ⟨_, _, rfl, rfl, (show (0 : Int) < 21 by decide), v1 % 21, rfl, by lia, by lia, ?_⟩⟩
    refine for_range (fun i σ H2 => ∃ (G M : HGh) (u5 u6 u7 u8 : Option V), σ = [some (.ref a), some (.ref p), some (.ref m), some (.int sh), some (.ref nl), u5, u6, u7, u8] ∧ TwoW C p m H2 G M 14 ∧ Few G ∧ Had G ∧ (G.outs.map (·.1) = O ∧ G.made = md) ∧ (∀ q ∈ G.outs, q.2 = 0) ∧ (∀ t ∈ ks, t ∈ G.outs.map (·.1)) ∧ (∀ t ∈ G.outs.map (·.1), t ∈ G.hand) ∧ H2 nl = some (.lst (asn.map V.ref)) ∧ ThsAt H2 asn ks ∧ nl ≠ m ∧ nl ∉ foot M ∧ Scr K H2 a (ns.map V.int))
      ⟨G, M0, _, _, _, _, rfl, tw.same s1, few, had0, ⟨hO, hmd⟩, pl.2, kin, kh, e1, tn1, nln.1, nln.2, hS1⟩ ?_ ?_
    · rintro i σ H2 hi ⟨G, M1, u5, u6, u7, u8, rfl, tw, few, had, kO, zo, kin, kh, e2, tn2, nm, nf, hS⟩
      have hi21 : i < 21 := by lia
      have eH : M1.hand = G.hand := tw.lk.hand
      refine ⟨_, rfl, _, rfl, _, _, rfl, rfl, a, ns, 10 + (0 + (i : Int)), rfl, hS.sq, hlen, by lia, by lia, fun v5 => ?_⟩
      -- a
      have b0 := Int.emod_nonneg v5 (show ((asn.map V.ref).length : Int) ≠ 0 by rw [List.length_map]; lia)
      have b1 := Int.emod_lt_of_pos v5 (show (0 : Int) < ((asn.map V.ref).length : Int) by rw [List.length_map]; lia)
      obtain ⟨ja, hja⟩ : ∃ ja : Int, ja = v5 % ((asn.map V.ref).length : Int) := ⟨_, rfl⟩
      rw [← hja] at b0 b1
      obtain ⟨aa, haa⟩ := get_of_lt (xs := asn) (j := ja.toNat) (by rw [List.length_map] at b1; lia)
      obtain ⟨ta, hta⟩ := get_of_lt (xs := ks) (j := ja.toNat) (by rw [List.length_map] at b1; lia)
      have hA := paired_get tn2 _ aa ta haa hta
      have inA := kin ta (List.mem_of_getElem? hta)
      have hdA := kh ta inA
      have nuA := (tw.ok.new ta inA).1
      refine ⟨_, rfl, _, rfl, _, rfl, nl, _, rfl, .inl (SqL.of e2), _, _, rfl, rfl, (by rw [List.length_map]; lia), nl, _, ja, V.ref aa, rfl, (by rw [hja]), SqL.of e2, atI_at b0 (by rw [List.getElem?_map, haa]; rfl), ?_⟩
      -- b
      obtain ⟨as, eh, th⟩ := tw.md.dh
      have lh := Paired.length th
      have ph : 0 < as.length := by rw [lh, eH]; exact List.length_pos_of_mem hdA
      have c0 := Int.emod_nonneg (v5 / ((asn.map V.ref).length : Int)) (show ((as.map V.ref).length : Int) ≠ 0 by rw [List.length_map]; lia)
      have c1 := Int.emod_lt_of_pos (v5 / ((asn.map V.ref).length : Int)) (show (0 : Int) < ((as.map V.ref).length : Int) by rw [List.length_map]; lia)
      obtain ⟨jb, hjb⟩ : ∃ jb : Int, jb = v5 / ((asn.map V.ref).length : Int) % ((as.map V.ref).length : Int) := ⟨_, rfl⟩
      rw [← hjb] at c0 c1
      obtain ⟨bb, hbb⟩ := get_of_lt (xs := as) (j := jb.toNat) (by rw [List.length_map] at c1; lia)
      obtain ⟨tb, htb⟩ := get_of_lt (xs := M1.hand) (j := jb.toNat) (by rw [List.length_map] at c1; lia)
      have hB := paired_get th _ bb tb hbb htb
      have hdB : tb ∈ G.hand := by rw [← eH]; exact List.mem_of_getElem? htb
      refine ⟨_, rfl, m, _, rfl, tw.md.gHand, _, rfl, _, rfl, nl, _, rfl, .inl (SqL.of e2), _, _, rfl, rfl, ⟨by rw [List.length_map]; lia, by rw [List.length_map]; lia⟩, _, rfl, m, _, rfl, tw.md.gHand, M1.h, _, rfl, .inl (SqL.of eh), _, _, rfl, rfl, (by rw [List.length_map]; lia), M1.h, _, jb, V.ref bb, rfl, (by rw [hjb]), SqL.of eh, atI_at c0 (by rw [List.getElem?_map, hbb]; rfl), ?_⟩
      -- the house
      obtain ⟨dx, hp⟩ := tw.hs.ob
      obtain ⟨ad, fd⟩ := tw.ok.find hdA nuA
      have lg := (tw.ok.get ta).2.1
      obtain ⟨okF, wkF, fewF, hadF, lkF, f1, f2⟩ := held_ok (ta := ta) tw.ok tw.wk few had tw.lk hdB
      have ktG : (G.holds.map (·.1)).Nodup := by rw [tw.ok.ke]; exact tw.ok.on
      refine ⟨_, rfl, p, dx, _, rfl, hp, hf_no G (by decide +kernel), _, rfl, _, rfl, p, aa, bb, G, ta, tb, rfl, tw.hs, hA, hB, .inr (.inr ⟨hdA, hdB, nuA, ad, _, fd, by lia, fun H3 S3 fr3 => ?_⟩)⟩
      have S3 : HouseAt C H3 p (tk1 { G with holds := setH G.holds ta (addT (getH G.holds ta) tb) }) := by
        have := setL_setH (adr_ndH tw.hs.nd) ktG fd (addT (getH G.holds ta) tb)
        rw [this] at S3; exact S3
      have N3 := tw.dj.house tw.hs tw.md fr3
      have kt3 := HFr.keepT tw.hs fr3
      have hA3 := kt3.tup _ _ hA
      have hB3 := kt3.tup _ _ hB
      have hS3 := hS.keep kt3
      have e3 := fr3 _ _ e2 (tw.hs.lst_ne e2).1 (tw.hs.lst_ne e2).2
      have tn3 : ThsAt H3 asn ks := ThsAt.keep kt3 tn2
      have dj3 : Dj p m (tk1 { G with holds := setH G.holds ta (addT (getH G.holds ta) tb) }) M1 := tw.dj.of f1 rfl
      -- the rows
      have okM := tw.lk.ok tw.ok
      have inM : ta ∈ M1.holds.map (·.1) := by rw [okM.ke, show M1.outs = G.outs from tw.lk.outs]; exact inA
      obtain ⟨am, fm⟩ := find_of inM
      have ktM : (M1.holds.map (·.1)).Nodup := by rw [okM.ke]; exact okM.on
      have mm := List.mem_of_find?_eq_some fm
      obtain ⟨qs, q1, q2⟩ := N3.hl _ mm
      have q1 : H3 am = some (.lst (qs.map V.ref)) := q1
      have q2 : ThsAt H3 qs (getH M1.holds ta) := q2
      have lq := Paired.length q2
      have lg2 := (okM.get ta).2.1
      refine ⟨_, rfl, _, rfl, m, _, rfl, N3.gHolds, _, rfl, M1.l, _, rfl, ref_get N3.dl hA3 fm, notIn_go hB3 q1 q2 ⟨fun h4 => ⟨_, rfl, iteT ?_⟩, fun h4 => ⟨_, rfl, iteF ?_⟩⟩⟩
      · refine ⟨_, rfl, m, _, rfl, N3.gHolds, _, rfl, M1.l, _, rfl, ref_get N3.dl hA3 fm, .inl ⟨rfl, _, SqL.of q1⟩, _, rfl, am, _, _, rfl, rfl, q1, (by rw [List.length_map]; exact small1000 (by lia)), ?_⟩
        have e6 : qs.map V.ref ++ [V.ref bb] = (qs ++ [bb]).map V.ref := by rw [List.map_append]; rfl
        rw [e6]
        have S4 := N3.setHold mm (as := qs ++ [bb]) (ts := getH M1.holds ta ++ [tb]) (ths_snoc hB3 q2)
        have S4 : ModelAt (upd H3 am (.lst ((qs ++ [bb]).map V.ref))) m { M1 with holds := setL M1.holds am (getH M1.holds ta ++ [tb]) } := S4
        have ea : addT (getH M1.holds ta) tb = getH M1.holds ta ++ [tb] := by unfold addT; rw [if_neg h4]
        rw [setL_setH (adr_nd N3.nd) ktM fm, ← ea] at S4
        have fr4 : HFr m M1 H3 (upd H3 am (.lst ((qs ++ [bb]).map V.ref))) := hand_fr (mem_foot_hold mm)
        have hs4 := dj3.model S3 fr4
        have kt4 := N3.keepT fr4
        exact ⟨_, _, _, _, _, _, rfl, ⟨hs4, S4, lkF, okF, wkF, tw.dj.of f1 f2⟩, fewF, hadF, kO, zo, kin, kh, fr4 _ _ e3 nm nf, ThsAt.keep kt4 tn3, nm, by rw [f2]; exact nf, hS3.keep kt4⟩
      · have S4 := N3.setHold mm (as := qs) (ts := getH M1.holds ta) q2
        have S4 : ModelAt (upd H3 am (.lst (qs.map V.ref))) m { M1 with holds := setL M1.holds am (getH M1.holds ta) } := S4
        have ea : addT (getH M1.holds ta) tb = getH M1.holds ta := by unfold addT; rw [if_pos h4]
        rw [setL_setH (adr_nd N3.nd) ktM fm, upd_id q1] at S4
        rw [ea] at lkF f2
        exact ⟨_, _, _, _, _, _, rfl, ⟨S3, S4, lkF, okF, wkF, tw.dj.of f1 f2⟩, fewF, hadF, kO, zo, kin, kh, e3, tn3, nm, by rw [f2]; exact nf, hS3⟩
    -- weight is parted
    · rintro σ H2 ⟨G, M1, u5, u6, u7, u8, rfl, tw, few, had, kO, zo, kin, kh, e2, tn2, nm, nf, hS⟩
      refine ⟨_, rfl, nl, _, rfl, .inl (SqL.of e2), ((asn.map V.ref).length : Int), rfl, by lia, by rw [List.length_map]; lia, ?_⟩
      rw [List.length_map]
      refine for_range (fun i σ H2 => ∃ (G M : HGh) (u5 u6 u7 u8 : Option V), σ = [some (.ref a), some (.ref p), some (.ref m), some (.int sh), some (.ref nl), u5, u6, u7, u8] ∧ TwoW C p m H2 G M 14 ∧ Few G ∧ (G.outs.map (·.1) = O ∧ G.made = md) ∧ (∀ q ∈ G.outs, q.1 ∉ ks.take i → q.2 = 0) ∧ (∀ t ∈ ks, t ∈ G.outs.map (·.1)) ∧ (∀ t ∈ G.outs.map (·.1), t ∈ G.hand) ∧ H2 nl = some (.lst (asn.map V.ref)) ∧ ThsAt H2 asn ks ∧ nl ≠ m ∧ nl ∉ foot M ∧ Scr K H2 a (ns.map V.int))
        ⟨G, M1, _, _, _, _, rfl, tw, few, kO, fun q hq _ => zo q hq, kin, kh, e2, tn2, nm, nf, hS⟩ ?_ ?_
      · rintro i σ H3 hi ⟨G2, M2, u5, u6, u7, u8, rfl, tw, few, kO, zo, kin, kh, e2, tn2, nm, nf, hS⟩
        have hi9 : i < asn.length := by lia
        refine ⟨_, rfl, _, rfl, _, _, rfl, rfl, a, ns, 31 + (0 + (i : Int)), rfl, hS.sq, hlen, by lia, by lia, fun v5 => ⟨_, _, rfl, rfl, (show (0 : Int) < 3 by decide), rfl, _, rfl, ?_⟩⟩
        refine ite2 (fun _ => ?_) (fun _ => ?_)
        · obtain ⟨bb, hbb⟩ := get_of_lt (xs := asn) (j := (0 + (i : Int)).toNat) (by lia)
          have ei : (0 + (i : Int)).toNat = i := by lia
          obtain ⟨tb, htb⟩ := get_of_lt (xs := ks) (j := i) (by lia)
          rw [ei] at hbb
          have hB := paired_get tn2 _ bb tb hbb htb
          have inA := kin tb (List.mem_of_getElem? htb)
          have hin := kh tb inA
          have nuA := (tw.ok.new tb inA).1
          have ix : atI (asn.map V.ref) (0 + (i : Int)) = some (V.ref bb) := atI_at (by lia) (by rw [List.getElem?_map, ei, hbb]; rfl)
          have fo := find_int inA
          have g0 : getI' G2.outs tb = 0 := zo _ (List.mem_of_find?_eq_some fo) (not_in_take knd htb)
          obtain ⟨dx, hp⟩ := tw.hs.ob
          have z1 := tw.ok.oz
          have z2 := tw.ok.rz
          refine ⟨_, rfl, p, dx, _, rfl, hp, hf_no G2 (by decide +kernel), _, rfl, _, rfl, nl, _, _, _, rfl, rfl, SqL.of e2, ix, _, rfl, p, bb, G2, tb, sh, rfl, tw.hs, hB, by lia, by lia, .inr (.inl ⟨hin, nuA, _, fo, fun H4 S4 fr4 => ?_⟩)⟩
          rw [g0, Int.zero_add] at S4
          have S4 : HouseAt C H4 p (tk1 { G2 with outs := putI G2.outs tb sh }) := S4
          have N4 := tw.dj.house tw.hs tw.md fr4
          have kt4 := HFr.keepT tw.hs fr4
          have hB4 := kt4.tup _ _ hB
          have hS4 := hS.keep kt4
          have e4 := fr4 _ _ e2 (tw.hs.lst_ne e2).1 (tw.hs.lst_ne e2).2
          have tn4 : ThsAt H4 asn ks := ThsAt.keep kt4 tn2
          have dj4 : Dj p m (tk1 { G2 with outs := putI G2.outs tb sh }) M2 := tw.dj.of rfl rfl
          have eO2 : M2.outs = G2.outs := tw.lk.outs
          refine ⟨_, rfl, _, rfl, m, _, rfl, N4.gOuts, _, rfl, _, rfl, nl, _, _, _, rfl, rfl, SqL.of e4, ix, M2.o, _, rfl, DPut.t (k := tk tb) N4.dO hB4 (by rw [List.length_map]; exact small1000 (by rw [eO2]; lia)), ?_⟩
          rw [putK_int]
          have S5 := N4.setOuts (putI M2.outs tb sh)
          have fr5 : HFr m M2 H4 (upd H4 M2.o (dInt (putI M2.outs tb sh))) := hand_fr (by simp [foot])
          have hs5 := dj4.model S4 fr5
          have kt5 := N4.keepT fr5
          rw [show (HO.dT ((putI M2.outs tb sh).map fun q => (FX.tk q.1, V.int q.2))) = dInt (putI M2.outs tb sh) from rfl]
          have ek := putI_in inA sh
          refine ⟨_, _, _, _, _, _, rfl, ⟨hs5, S5, lw tw.lk.num tw.lk.made tw.lk.hand ?_ tw.lk.recs tw.lk.holds, (tw.ok.outs inA _).tk1, ⟨tw.wk.nn, tw.wk.hr⟩, tw.dj.of rfl rfl⟩, ⟨few.n0, few.n1, few.hd, few.hl, few.rc⟩, ⟨by rw [← kO.1]; exact ek, kO.2⟩, fun q hq nq => ?_, ?_, ?_, fr5 _ _ e4 nm nf, ThsAt.keep kt5 tn4, nm, nf, hS4.keep kt5⟩
          · show putI M2.outs tb sh = putI G2.outs tb sh
            rw [eO2]
          · rw [List.take_succ, htb] at nq
            rcases mem_putI' hq with e | hq
            · exact absurd (by rw [e]; simp) nq
            · exact zo q hq fun z => nq (List.mem_append_left _ z)
          · show ∀ t ∈ ks, t ∈ (putI G2.outs tb sh).map (·.1)
            rw [ek]; exact kin
          · show ∀ t ∈ (putI G2.outs tb sh).map (·.1), t ∈ G2.hand
            rw [ek]; exact kh
        · exact ⟨_, _, _, _, _, _, rfl, tw, few, kO, fun q hq nq => zo q hq fun z => nq (by rw [List.take_succ]; exact List.mem_append_left _ z), kin, kh, e2, tn2, nm, nf, hS⟩
      -- things are freed
      · rintro σ H2 ⟨G1, M1, u5, u6, u7, u8, rfl, tw, few, kO, zo, kin, kh, e2, tn2, nm, nf, hS⟩
        obtain ⟨as1, eh1, th1⟩ := tw.md.dh
        have lh1 := Paired.length th1
        have eH1 : M1.hand = G1.hand := tw.lk.hand
        have ln1 : (as1.map V.ref).length = G1.hand.length := by rw [List.length_map, lh1, eH1]
        have zh1 := tw.ok.hz
        refine ⟨_, rfl, m, _, rfl, tw.md.gHand, M1.h, _, rfl, .inl (SqL.of eh1), ((as1.map V.ref).length : Int), rfl, by lia, by lia, ?_⟩
        rw [ln1]
        clear zo kin kh tn2 e2 nm nf
        generalize hL : G1.hand = L at *
        refine for_range (fun i σ H2 => ∃ (G' M : HGh) (kp : List T2) (u5 u6 u7 u8 : Option V), σ = [some (.ref a), some (.ref p), some (.ref m), some (.int sh), some (.ref nl), u5, u6, u7, u8] ∧ HouseAt C H2 p G' ∧ ModelAt H2 m M ∧ LikeW { M with hand := G'.hand } G' ∧ Ok G' 14 ∧ Wk G' ∧ Dj p m G' M ∧ Few G' ∧ (G'.outs.map (·.1) = O ∧ G'.made = md) ∧ G'.hand = kp ++ L.drop i ∧ M.hand = L.drop i ++ kp ∧ Scr K H2 a (ns.map V.int))
          ⟨G1, M1, [], _, _, _, _, rfl, tw.hs, tw.md, ?_, tw.ok, tw.wk, tw.dj, few, kO, by rw [hL]; rfl, by rw [eH1]; simp, hS⟩ ?_ ?_
        · exact lw tw.lk.num tw.lk.made rfl tw.lk.outs tw.lk.recs tw.lk.holds
        · rintro i σ H3 hi ⟨G2, M2, kp, u5, u6, u7, u8, rfl, hs, md, lk, ok, wk, dj, few, kO, hg, hm, hS⟩
          have hi14 : i < 14 := by lia
          obtain ⟨t, ht⟩ := get_of_lt (xs := L) (j := i) (by lia)
          have ed : L.drop i = t :: L.drop (i + 1) := by
            rw [List.drop_eq_getElem_cons hi]
            have : L[i] = t := by
              have := List.getElem?_eq_getElem hi
              rw [ht] at this; exact (Option.some.inj this).symm
            rw [this]
          rw [ed] at hg hm
          have hin : t ∈ G2.hand := by rw [hg]; exact List.mem_append_right _ (List.mem_cons_self ..)
          obtain ⟨as, eh, th⟩ := md.dh
          rw [hm] at th
          cases th with
          | cons hB thr =>
          rename_i bb as'
          have eh : H3 M2.h = some (.lst (V.ref bb :: as'.map V.ref)) := eh
          have lr : as'.length = (L.drop (i + 1) ++ kp).length := Paired.length thr
          have lhz := ok.hz
          rw [hg, List.length_append, List.length_cons] at lhz
          rw [List.length_append] at lr
          obtain ⟨dx, hp⟩ := hs.ob
          refine ⟨_, rfl, _, rfl, _, _, rfl, rfl, a, ns, 46 + (0 + (i : Int)), rfl, hS.sq, hlen, by lia, by lia, fun v5 => ⟨_, _, rfl, rfl, (show (0 : Int) < 4 by decide), _, _, rfl, rfl, _, rfl, ?_⟩⟩
          refine ite2 (fun _ => ?_) (fun _ => ?_)
          · -- freed
            refine ⟨_, rfl, p, dx, _, rfl, hp, hf_no G2 (by decide +kernel), _, rfl, m, _, rfl, md.gHand, M2.h, _, 0, V.ref bb, rfl, rfl, SqL.of eh, atI_at (Int.le_refl 0) rfl, p, bb, G2, t, rfl, hs, hB, .inr ⟨hin, fun H4 S4 fr4 => ?_⟩⟩
            have eD : delT G2.hand t = kp ++ L.drop (i + 1) := by rw [hg]; exact delT_mid (by rw [← hg]; exact ok.hn)
            have hsub : ∀ u ∈ delT G2.hand t, u ∈ G2.hand := fun u hu => (mem_delT'.mp hu).1
            have ndD : (delT G2.hand t).Nodup := ok.hn.sublist List.filter_sublist
            have lnD : (delT G2.hand t).length ≤ 14 := Nat.le_trans (List.length_filter_le _ _) ok.hz
            have okF : Ok (tk1 { G2 with hand := delT G2.hand t }) 14 := (ok.hand ndD lnD fun u hu e => ok.hk u (hsub u hu) e).tk1
            have wkF : Wk (tk1 { G2 with hand := delT G2.hand t }) := ⟨wk.nn, fun u hu e => wk.hr u (hsub u hu) e⟩
            have fewF : Few (tk1 { G2 with hand := delT G2.hand t }) := ⟨few.n0, few.n1, fun u hu => few.hd u (hsub u hu), few.hl, few.rc⟩
            have S4 : HouseAt C H4 p (tk1 { G2 with hand := delT G2.hand t }) := S4
            have N4 := dj.house hs md fr4
            have kt4 := HFr.keepT hs fr4
            have hS4 := hS.keep kt4
            have dj4 : Dj p m (tk1 { G2 with hand := delT G2.hand t }) M2 := dj.of rfl rfl
            have eh4 : H4 M2.h = some (.lst (V.ref bb :: as'.map V.ref)) := fr4 _ _ eh (dj M2.h (.inr (by simp [foot]))).1 (dj M2.h (.inr (by simp [foot]))).2
            have th4 : ThsAt H4 as' (L.drop (i + 1) ++ kp) := ThsAt.keep kt4 thr
            refine ⟨_, rfl, m, _, rfl, N4.gHand, _, rfl, M2.h, _, rfl, SqL.of eh4, fun y hy => ?_⟩
            rw [cut_tail]
            have s5 := same_new (o := .lst (as'.map V.ref)) hy
            have e5 : (upd H4 y (.lst (as'.map V.ref))) y = some (.lst (as'.map V.ref)) := upd_same
            have th5 : ThsAt (upd H4 y (.lst (as'.map V.ref))) as' (L.drop (i + 1) ++ kp) := ThsAt.keep (KeepT.of_same s5) th4
            have ym := N4.new_ne hy
            have yh := S4.new_ne hy
            generalize upd H4 y (.lst (as'.map V.ref)) = H5 at s5 e5 th5
            have N5 := N4.same s5
            have S5 := S4.same s5
            refine ⟨_, rfl, m, _, rfl, N5.pHand y, ?_⟩
            have N6 := N5.newHand e5 th5 ym
            have fr6 : HFr m M2 H5 (upd H5 m (.dK (mflds { M2 with h := y }))) := fun b o e h1 _ => by rw [upd_ne h1]; exact e
            have S6 := dj4.model S5 fr6
            have hS6 := (hS4.keep (KeepT.of_same s5)).keep (N5.keepT fr6)
            refine ⟨_, _, kp, _, _, _, _, rfl, S6, N6, lw lk.num lk.made rfl lk.outs lk.recs lk.holds, okF, wkF, fun b hb => ?_, fewF, kO, eD, rfl, hS6⟩
            rcases hb with hb | hb
            · exact dj4 b (.inl hb)
            · rcases foot_newHand hb with hb | hb
              · rw [hb]; exact yh
              · exact dj4 b (.inr hb)
          · -- kept
            refine ⟨_, rfl, m, _, rfl, md.gHand, _, rfl, M2.h, _, rfl, SqL.of eh, fun y1 hy1 => ?_⟩
            rw [cut_tail]
            have s4 := same_new (o := .lst (as'.map V.ref)) hy1
            have e4 : (upd H3 y1 (.lst (as'.map V.ref))) y1 = some (.lst (as'.map V.ref)) := upd_same
            generalize upd H3 y1 (.lst (as'.map V.ref)) = H4 at s4 e4
            have N4 := md.same s4
            refine ⟨_, rfl, m, _, rfl, N4.gHand, _, rfl, M2.h, _, rfl, SqL.of (s4 _ _ eh), fun y2 hy2 => ?_⟩
            rw [cut_head]
            have s5 := same_new (o := .lst [V.ref bb]) hy2
            have e5 : (upd H4 y2 (.lst [V.ref bb])) y2 = some (.lst [V.ref bb]) := upd_same
            generalize upd H4 y2 (.lst [V.ref bb]) = H5 at s5 e5
            refine ⟨y1, y2, _, _, rfl, rfl, s5 _ _ e4, e5, Nat.le_of_lt (small1000 (by rw [List.length_map]; show as'.length + 1 ≤ 1000; rw [List.length_drop] at lr lhz; lia)), fun y hy => ?_⟩
            have e6 : as'.map V.ref ++ [V.ref bb] = (as' ++ [bb]).map V.ref := by rw [List.map_append]; rfl
            rw [e6]
            have s6 := same_new (o := .lst ((as' ++ [bb]).map V.ref)) hy
            have e7 : (upd H5 y (.lst ((as' ++ [bb]).map V.ref))) y = some (.lst ((as' ++ [bb]).map V.ref)) := upd_same
            have s46 := same_trans s4 s5
            have hyN := (md.same s46).new_ne hy
            have hyS := (hs.same s46).new_ne hy
            have s36 := same_trans s46 s6
            have th6 : ThsAt (upd H5 y (.lst ((as' ++ [bb]).map V.ref))) (as' ++ [bb]) (L.drop (i + 1) ++ kp ++ [t]) := ths_snoc (s36 _ _ hB) (ThsAt.keep (KeepT.of_same s36) thr)
            generalize upd H5 y (.lst ((as' ++ [bb]).map V.ref)) = H6 at s6 e7 s36 th6
            have N6 := md.same s36
            have S6 := hs.same s36
            refine ⟨_, rfl, m, _, rfl, N6.pHand y, ?_⟩
            have N7 := N6.newHand e7 th6 hyN
            have fr7 : HFr m M2 H6 (upd H6 m (.dK (mflds { M2 with h := y }))) := fun b o e h1 _ => by rw [upd_ne h1]; exact e
            have S7 := dj.model S6 fr7
            have hS7 := (hS.keep (KeepT.of_same s36)).keep (N6.keepT fr7)
            refine ⟨G2, _, kp ++ [t], _, _, _, _, rfl, S7, N7, lw lk.num lk.made rfl lk.outs lk.recs lk.holds, ok, wk, fun b hb => ?_, few, kO, ?_, ?_, hS7⟩
            · rcases hb with hb | hb
              · exact dj b (.inl hb)
              · rcases foot_newHand hb with hb | hb
                · rw [hb]; exact hyS
                · exact dj b (.inr hb)
            · rw [hg]; simp
            · show L.drop (i + 1) ++ kp ++ [t] = _; rw [List.append_assoc]
        · rintro σ H3 ⟨G2, M2, kp, u5, u6, u7, u8, rfl, hs, md, lk, ok, wk, dj, few, kO, hg, hm, hS⟩
          rw [Int.toNat_natCast, List.drop_length, List.append_nil] at hg
          rw [Int.toNat_natCast, List.drop_length, List.nil_append] at hm
          exact k G2 M2 H3 ⟨hs, md, lw lk.num lk.made (by rw [hg, hm]) lk.outs lk.recs lk.holds, ok, wk, dj⟩ few kO hS
end
end K15

namespace FX
open PySem PySem.Spec PyProof.Rows L2
set_option linter.all false
theorem cut_drop (xs : List V) {k : Nat} (h : k ≤ xs.length) : cutV xs (some (k : Int)) none = xs.drop k := by
  unfold cutV
  rw [HT.sIx_nat, HT.sIx_none, Nat.min_eq_left h]
  rw [← List.length_drop, List.take_length]
theorem cut_take (xs : List V) {k : Nat} (h : k ≤ xs.length) : cutV xs none (some (k : Int)) = xs.take k := by
  unfold cutV
  rw [HT.sIx_nat, HT.sIx_none, Nat.min_eq_left h]
  rfl
theorem ths_drop {H : Hp} : ∀ {as : List Addr} {ts : List T2} (k : Nat), ThsAt H as ts → ThsAt H (as.drop k) (ts.drop k)
  | _, _, 0, t => t
  | _, _, _ + 1, .nil => .nil
  | _, _, k + 1, .cons _ t => ths_drop k t
theorem ths_take {H : Hp} : ∀ {as : List Addr} {ts : List T2} (k : Nat), ThsAt H as ts → ThsAt H (as.take k) (ts.take k)
  | _, _, 0, _ => .nil
  | _, _, _ + 1, .nil => .nil
  | _, _, k + 1, .cons h t => .cons h (ths_take k t)
end FX
namespace K15
open PySem L2 FX
set_option linter.all false
abbrev nL : List Str := ["_law_script", "_law_model_here", "_law_house", "_law_near_here", "_law_stays", "_law_goes", "_law_turn", "_law_ticks", "_law_due", "_law_backs_here", "_law_far", "_law_weight"]
theorem backs_like {M G : HGh} (x : LikeW M G) (rs : List (T2 × Int)) : backsOf M rs = backsOf G rs := by
  unfold backsOf
  congr 1
  exact List.filter_congr fun q _ => by rw [x.heldB]
theorem backs_done {G : HGh} {R : List T2} {rs : List (T2 × Int)} (pm : rs.Perm (done1 G R).recs) : backsOf (done1 G R) rs = [] := by
  unfold backsOf
  have : (rs.filter fun q => !heldB (done1 G R) q.1) = [] := List.filter_eq_nil_iff.mpr fun q hq => by rw [recs_done (pm.subset hq)]; simp
  rw [this]; rfl
/-- a record that nobody holds is given back -/
theorem one_back {G G2 : HGh} {rs : List (T2 × Int)} {tb : T2} {v : Int} (hd : G2.hand = G.hand) (hl : G2.holds = G.holds) (hr : G2.recs = G.recs ++ [(tb, v)]) (hh : ∀ q ∈ G.recs, heldB G q.1 = true) (hn : heldB G tb = false) (hv : 0 < v) (pm : rs.Perm G2.recs) : backsOf G2 rs = [(tb, v)] ∧ (keepB G2).recs = G.recs := by
  have eh : ∀ t, heldB G2 t = heldB G t := fun t => by unfold heldB; rw [hd, hl]
  have e1 : (G.recs.filter fun q => !heldB G q.1) = [] := List.filter_eq_nil_iff.mpr fun q hq => by rw [hh q hq]; simp
  have e2 : (G2.recs.filter fun q => !heldB G2 q.1) = [(tb, v)] := by
    have : (fun q : T2 × Int => !heldB G2 q.1) = fun q => !heldB G q.1 := by funext q; rw [eh]
    rw [this, hr, List.filter_append, e1, List.nil_append, List.filter_cons, if_pos (by rw [hn]; rfl)]; rfl
  have e3 : (rs.filter fun q => !heldB G2 q.1) = [(tb, v)] := by
    have := pm.filter fun q => !heldB G2 q.1
    rw [e2] at this
    exact List.perm_singleton.mp this
  refine ⟨?_, ?_⟩
  · unfold backsOf
    rw [e3, List.filter_cons, if_pos (by simpa using hv)]; rfl
  · show G2.recs.filter (fun q => heldB G2 q.1) = G.recs
    have : (fun q : T2 × Int => heldB G2 q.1) = fun q => heldB G q.1 := by funext q; rw [eh]
    rw [this, hr, List.filter_append, List.filter_cons, if_neg (by rw [hn]; decide), List.filter_nil, List.append_nil]
    exact List.filter_eq_self.mpr hh
section
variable {P : Program} {w : World} {K : PySem.W.Frag} {mg : Str → Option Value} {base : Heap} {C NHd NNr MI NW HE : Addr}
theorem scL : FnScope nL ["_law_script"] (defScope sLaw) := ⟨rfl, rfl, rfl, by decide +kernel, rfl, by decide +kernel, by decide +kernel⟩
/-- what is asked of both, in one -/
theorem told_both {G M : HGh} {n : Nat} (ok : Ok G n) (hn : n < 64) (lk : LikeW M G) : ∃ hs os rs, Good G ∧ Told G hs os rs ∧ Good M ∧ Told M hs os rs ∧ M.holds.map (·.1) = M.outs.map (·.1) := by
  have gd := Good.of ok hn
  obtain ⟨hs, os, rs, tld⟩ := gd.told
  exact ⟨hs, os, rs, gd, tld, Good.of (lk.ok ok) hn, Told.like lk tld, (lk.ok ok).ke⟩
theorem foot_done (G : HGh) (R : List T2) : ∀ b ∈ foot (done1 G R), b ∈ foot G := fun b hb => List.Sublist.subset (foot_sub (G := { G with outs := (keepR G R).outs }) List.filter_sublist) hb
theorem foot_keepR (G : HGh) (R : List T2) : ∀ b ∈ foot (keepR G R), b ∈ foot G := foot_done G R
/-! ### the end: a record that nobody holds -/
theorem end_ok {f fS fT fK fLt fLo fGi fad f5 fC fMS : Addr} {dS dT dK dLt dLo dGi dad d5 dC dMS : FuncData} (T : Txt K mg C NHd NNr MI NW) (Tx : Txt2 mg)
    (MS : Mth K C "state" "House.state" sState ["self"] fS dS) (MT : Mth K C "told" "House.told" sTold ["self", "thing"] fT dT) (MK : Mth K C "tick" "House.tick" sTick ["self"] fK dK) (MLt : Mth K C "let" "House.let" sLet ["self", "things"] fLt dLt)
    (MLo : Mth K C "lose" "House.lose" sLose ["self", "things"] fLo dLo) (MGi : Mth K C "give_back" "House.give_back" sGive ["self"] fGi dGi) (Mad : Mth K C "added" "House.added" sAdded ["self", "b", "weight"] fad dad) (M5 : Mth K C "add_to_record" "House.add_to_record" sAddR ["self", "b", "weight"] f5 d5)
    (MC : Gdf K mg "_law_cell" sCell ["_law_script", "_law_k"] fC dC) (MMS : Gdf K mg "_law_state" sMState ["_law_model_here"] fMS dMS)
    {cdv : Value} {A : Around} {outer : List Env} {s : Shared} {H : Hp} {Q : VK} {E : XK} (hr : Room 4 (A.deeper (PyProof.Rows.envOfC "law" (defScope sLaw) s.heap.objs.size f cdv))) :
    ∃ t, PSs (cxOf CX0 P w K mg base nL "law" (defScope sLaw) f cdv A outer s H E).nox ((defBody sLaw).drop 16) t ∧
      ∀ (a p m : Addr) (ns : List Int) (tk0 : Int) (u3 u4 u5 u6 u8 u9 : Option V) (G M : HGh) (H4 : Hp), Scr K H4 a (ns.map V.int) → ns.length ≤ 63 → HouseAt C H4 p G → ModelAt H4 m M → LikeW M G → Ok G 14 → Wk G → Dj p m G M → Few G → (∀ q ∈ G.recs, heldB G q.1 = true) → G.ticks = tk0 + 2 → (∀ H', Q (.bl true) H') →
        t { nx := fun _ H' => Q .non H', rt := Q } [some (.ref a), some (.ref m), some (.ref p), u3, u4, u5, u6, some (.int tk0), u8, u9, none, none] H4 := by
  have GS : FnOk P w K mg base CX0 2 fS dS ["self"] (spState C K) := ok_state MS.fn T MT.fn MT.bd MT.mt
  have GK : FnOk P w K mg base CX0 1 fK dK ["self"] (spTick C) := ok_tick MK.fn T
  have GMS : FnOk P w K mg base CX0 1 fMS dMS ["_law_model_here"] (spMState K) := ok_mstate MMS.fn T
  have GLt : FnOk P w K mg base CX0 2 fLt dLt ["self", "things"] (spLet C) := ok_let MLt.fn T Tx MLo MGi
  have Ga : FnOk P w K mg base CX0 2 fad dad ["self", "b", "weight"] (spAdded C) := ok_added Mad.fn T M5
  have GC : FnOk P w K mg base CX0 1 fC dC ["_law_script", "_law_k"] (spCell K) := ok_cell MC.fn T.len
  have hu := hu_of hr
  have hr1 : Room 1 _ := hr.mono (by decide)
  have hr2 : Room 2 _ := hr.mono (by decide)
  have two : (2 : Nat) ≤ sizeLine := by decide
  refine ⟨_, pss_cons (ps_set (i := 10) scL.nd rfl (Or.inl rfl) (pe_tup (pa_cons (pe_op op_mod (pe_op op_add (pe_op op_add (pe_dget hu (pv 1) pe_str (fun _ _ => rfl)) pe_int) (pe_op op_mod (pe_call GC hr1 (by rfl) MC.mg MC.fn.kp MC.bd .nil pass0 (pa_cons (pv 0) (pa_cons pe_int pa_nil))) pe_int)) pe_int) (pa_cons (pe_op op_add pe_int (pe_op op_mod (pe_call GC hr1 (by rfl) MC.mg MC.fn.kp MC.bd .nil pass0 (pa_cons (pv 0) (pa_cons pe_int pa_nil))) (pe_op op_pow pe_int pe_int))) pa_nil))))
    (pss_cons (ps_set (i := 11) scL.nd rfl (Or.inl rfl) (pe_op op_add pe_int (pe_op op_mod (pe_call GC hr1 (by rfl) MC.mg MC.fn.kp MC.bd .nil pass0 (pa_cons (pv 0) (pa_cons pe_int pa_nil))) (pe_op op_pow pe_int pe_int))))
    (pss_cons (ps_expr (pe_meth (pl := _) (pv 2) T.cl Mad.mt Ga hr2 Mad.bd .nil pass0 (pa_cons (pv 10) (pa_cons (pv 11) pa_nil))))
    (pss_one (ps_ret (pe_and (pe_cmpR (op_eqD (hu64 hr)) (pe_meth (pl := _) (pv 2) T.cl MLt.mt GLt hr2 MLt.bd .nil pass0 (pa_cons (pe_tup pa_nil) pa_nil)) (pe_lst (pa_cons (pe_tup (pa_cons (pv 10) (pa_cons (pv 11) pa_nil))) pa_nil)) (nomark _)) (pe_and (pe_cmpR (op_eqD (hu64 hr)) (pe_meth0 (pv 2) T.cl MS.mt GS hr2 MS.bd .nil pass0) (pe_call GMS hr1 (by rfl) MMS.mg MMS.fn.kp MMS.bd .nil pass0 (pa_cons (pv 1) pa_nil)) (nomark _))
      (pe_one (pe_cmpR op_eq (pe_meth0 (pv 2) T.cl MK.mt GK hr1 MK.bd .nil pass0) (pe_op op_add (pv 7) pe_int) (nomark _))))))))), ?_⟩
  intro a p m ns tk0 u3 u4 u5 u6 u8 u9 G M H4 hS hlen S N lk ok wk dj few hh htk k
  have eN : M.num = G.num := lk.num
  refine ⟨_, rfl, m, _, rfl, N.gHouse, _, _, rfl, rfl, _, rfl, a, ns, 43, rfl, hS.sq, hlen, by decide, by decide, fun v3 => ⟨_, _, rfl, rfl, (show (0 : Int) < 11 by decide), _, _, rfl, rfl, _, _, rfl, rfl, (show (0 : Int) < 12 by decide), _, rfl, a, ns, 44, rfl, hS.sq, hlen, by decide, by decide, fun v4 => ⟨_, _, rfl, rfl, ⟨by decide, by decide, by decide⟩, _, _, rfl, rfl, (show (0 : Int) < 10 ^ 59 by decide), _, _, rfl, rfl, two, fun t ht => ?_⟩⟩⟩
  have b2 : 0 ≤ v4 % 10 ^ (59 : Int).toNat := Int.emod_nonneg _ (by decide)
  generalize v4 % 10 ^ (59 : Int).toNat = w4 at b2 ht ⊢
  obtain ⟨tb, htb⟩ : ∃ tb : T2, tb = ((M.num + 1 + v3 % 11) % 12, 9 + w4) := ⟨_, rfl⟩
  have e1 : [V.int ((M.num + 1 + v3 % 11) % 12), V.int (9 + w4)] = tv tb := by rw [htb]; rfl
  have hf : tb.1 ≠ G.num := by
    rw [htb, eN]
    show (G.num + 1 + v3 % 11) % 12 ≠ G.num
    have b0 := Int.emod_nonneg v3 (show (11 : Int) ≠ 0 by decide)
    have b1 := Int.emod_lt_of_pos v3 (show (0 : Int) < 11 by decide)
    have b3 := few.n0
    have b4 := few.n1
    lia
  have h9 : ¬ tb.2 < 9 := by rw [htb]; show ¬ (9 + w4 < 9); lia
  have s5 := same_new (o := .tup [V.int ((M.num + 1 + v3 % 11) % 12), V.int (9 + w4)]) ht
  have t5 : (upd H4 t (.tup [V.int ((M.num + 1 + v3 % 11) % 12), V.int (9 + w4)])) t = some (.tup (tv tb)) := by rw [upd_same, e1]
  rw [show (fun (i j : Int) => V.int (i + j)) 9 w4 = V.int (9 + w4) from rfl]
  generalize upd H4 t (.tup [V.int ((M.num + 1 + v3 % 11) % 12), V.int (9 + w4)]) = H5 at s5 t5
  have S5 := S.same s5
  have N5 := N.same s5
  have hS5 := hS.keep (KeepT.of_same s5)
  refine ⟨_, rfl, a, ns, 45, rfl, hS5.sq, hlen, by decide, by decide, fun v5 => ⟨_, _, rfl, rfl, ⟨by decide, by decide, by decide⟩, _, _, rfl, rfl, (show (0 : Int) < 10 ^ 59 by decide), _, _, rfl, rfl, ?_⟩⟩
  have c0 : 0 ≤ v5 % 10 ^ (59 : Int).toNat := Int.emod_nonneg _ (by decide)
  generalize v5 % 10 ^ (59 : Int).toNat = w0 at c0 ⊢
  rw [show (fun (i j : Int) => V.int (i + j)) 1 w0 = V.int (1 + w0) from rfl]
  obtain ⟨dx5, hp5⟩ := S5.ob
  have zr := ok.rz
  have nr : tb ∉ G.recs.map (·.1) := fun z => h9 (few.rc tb z)
  have nh : heldB G tb = false := by
    unfold heldB
    have q1 : tb ∉ G.hand := fun z => h9 (few.hd tb z).2
    have q2 : (G.holds.any fun q => decide (tb ∈ q.2.2)) = false := by
      rw [List.any_eq_false]
      intro q hq z
      exact h9 (few.hl q hq tb (by simpa using z)).2
    rw [q2, decide_eq_false q1]; rfl
  refine ⟨_, rfl, p, dx5, _, rfl, hp5, hf_no _ (by decide +kernel), _, rfl, _, rfl, p, t, G, tb, 1 + w0, rfl, S5, t5, by lia, fun H6 S6 fr6 => ?_⟩
  have er : putI G.recs tb (getI G.recs tb + (1 + w0)) = G.recs ++ [(tb, 1 + w0)] := by rw [show getI G.recs tb = 0 from getI_no nr, Int.zero_add, putI_new nr]
  rw [er] at S6
  have N6 := dj.house S5 N5 fr6
  have t6 := (HFr.keepT S5 fr6).tup _ _ t5
  -- the house with one record more
  obtain ⟨G2, hG2⟩ : ∃ G2 : HGh, G2 = { G with ticks := G.ticks + 1, recs := G.recs ++ [(tb, 1 + w0)] } := ⟨_, rfl⟩
  rw [← hG2] at S6
  have ok2 : Ok G2 15 := by
    have o15 := ok.mono (show 14 ≤ 15 by decide)
    rw [hG2]
    refine ⟨o15.hn, o15.hz, o15.on, o15.oz, o15.ke, ?_, ?_, o15.ln, o15.new, o15.hk, o15.lk, fun u hu => ?_⟩
    · show ((G.recs ++ [(tb, 1 + w0)]).map (·.1)).Nodup
      rw [List.map_append]
      exact nd_snoc ok.rn nr
    · show (G.recs ++ [(tb, 1 + w0)]).length ≤ 15
      rw [List.length_append]; show G.recs.length + 1 ≤ 15; lia
    · have hu : u ∈ (G.recs ++ [(tb, 1 + w0)]).map (·.1) := hu
      rw [List.map_append] at hu
      rcases List.mem_append.mp hu with hu | hu
      · exact ok.rk u hu
      · have : u = tb := by simpa using hu
        rw [this]; exact hf
  obtain ⟨rs2, pm2, pw2⟩ : ∃ rs2 : List (T2 × Int), rs2.Perm G2.recs ∧ (rs2.map (·.1)).Pairwise lt2 := by
    obtain ⟨_, _, rs2, tld2⟩ := (Good.of ok2 (by decide)).told
    exact ⟨rs2, tld2.pr, tld2.wr⟩
  obtain ⟨eb2, ek2⟩ := one_back (G := G) (G2 := G2) (tb := tb) (v := 1 + w0) (by rw [hG2]) (by rw [hG2]) (by rw [hG2]) hh nh (by lia) pm2
  have hd2 : G2.hand = G.hand := by rw [hG2]
  have hl2 : G2.holds = G.holds := by rw [hG2]
  have dj2 : Dj p m G2 M := by rw [hG2]; exact dj.of rfl rfl
  have eK : tk1 (keepB G2) = { G with ticks := G.ticks + 2 } := by
    have : keepB G2 = { G2 with recs := G.recs } := by
      show { G2 with recs := (keepB G2).recs } = _
      rw [ek2]
    rw [this, hG2]
    show { G with ticks := G.ticks + 1 + 1 } = _
    rw [Int.add_assoc]; rfl
  obtain ⟨dx6, hp6⟩ := S6.ob
  refine ⟨_, rfl, p, dx6, _, rfl, hp6, hf_no _ (by decide +kernel), Nat.zero_le _, fun et het => ⟨p, et, G2, 15, rs2, [], [], rfl, S6.same (same_new het), ok2, by decide, by rw [hd2]; exact fun u hu => (few.hd u hu).1, by rw [hl2]; exact fun q hq u hu => (few.hl q hq u hu).1, pm2, pw2, upd_same, .nil, by rw [dropTs_nil]; exact ok2, fun x7 as7 H7 _ ex7 ba7 S7 fr7 => ?_⟩⟩
  rw [dropTs_nil, eb2] at ba7
  rw [dropTs_nil, eK] at S7
  have s6 := same_new (o := .tup []) het
  have N7 := dj2.house (S6.same s6) (N6.same s6) fr7
  have t7 := (HFr.keepT (S6.same s6) fr7).tup _ _ (s6 _ _ t6)
  refine ⟨_, rfl, _, rfl, two, fun x8 hx8 => ⟨(by show 1 ≤ sizeLine; decide), fun l8 hl8 => ?_⟩⟩
  have s8 := same_new (o := .tup [V.ref t, V.int (1 + w0)]) hx8
  have s8' := same_new (o := .lst [V.ref x8]) hl8
  have s78 := same_trans s8 s8'
  have rep8 : Rep K (upd (upd H7 x8 (.tup [V.ref t, V.int (1 + w0)])) l8 (.lst [V.ref x8])) (.ref l8) (.list [recD (tb, 1 + w0)]) :=
    .lst (SqL.of upd_same) (.cons (.tupP (SqT.of (s8' _ _ upd_same)) (.cons (th_rep (s78 _ _ t7)) (.cons (.int _) .nil))) .nil)
  have rep7 := recs_rep (K := K) (BackAt.keep (KeepT.of_same s78) ba7)
  have ex8 := s78 _ _ ex7
  generalize upd (upd H7 x8 (.tup [V.ref t, V.int (1 + w0)])) l8 (.lst [V.ref x8]) = H8 at s78 rep8 rep7 ex8
  have okB : Okd (.list [recD (tb, 1 + w0)]) := lst_ok recD_ok [(tb, 1 + w0)]
  refine ⟨_, _, .lst (SqL.of ex8) rep7, rep8, okB, okB, _, rfl, ?_⟩
  rw [show PyData.eqv (.list ([(tb, 1 + w0)].map recD)) (.list [recD (tb, 1 + w0)]) = true from eqv_same okB]
  have S8 := S7.same s78
  have N8 := N7.same s78
  have okE : Ok ({ G with ticks := G.ticks + 2 } : HGh) 14 := ⟨ok.hn, ok.hz, ok.on, ok.oz, ok.ke, ok.rn, ok.rz, ok.ln, ok.new, ok.hk, ok.lk, ok.rk⟩
  have lkE : LikeW M { G with ticks := G.ticks + 2 } := ⟨lk.num, lk.made, rfl, lk.hand, lk.outs, lk.recs, lk.holds⟩
  obtain ⟨hs3, os3, rs3, gd3, tld3, gdM3, tldM3, keM3⟩ := told_both okE (by decide) lkE
  obtain ⟨dx8, hp8⟩ := S8.ob
  refine iteT ⟨_, rfl, p, dx8, _, rfl, hp8, hf_no _ (by decide +kernel), p, _, hs3, os3, rs3, rfl, S8, gd3.h2, gd3.o2, gd3.r2, tld3.pm, tld3.pw, tld3.rw_, tld3.pr, tld3.wr, fun x16 H16 s16 _ rep16 => ?_⟩
  refine ⟨_, rfl, m, _, hs3, os3, rs3, rfl, N8.same s16, gdM3, tldM3, keM3, fun x17 H17 s17 _ rep17 => ?_⟩
  have okS3 := stD_okd hs3 os3 rs3
  refine ⟨_, _, .one (rep16.keep (KeepT.of_same s17)), .one rep17, okS3, okS3, _, rfl, ?_⟩
  rw [eqv_same okS3]
  have S17 := S8.same (same_trans s16 s17)
  obtain ⟨dx17, hp17⟩ := S17.ob
  refine iteT ⟨_, rfl, p, dx17, _, rfl, hp17, hf_no _ (by decide +kernel), p, _, rfl, S17, _, rfl, _, _, rfl, rfl, rfl, ?_⟩
  rw [show decide (V.int (G.ticks + 2) = V.int (tk0 + 4)) = true by
    rw [htk, Int.add_assoc]; exact i_yes _]
  exact k _
end
end K15

namespace FX
open PySem PySem.Spec PyProof.Rows L2
set_option linter.all false
theorem Wk.done {G : HGh} (x : Wk G) (R : List T2) : Wk (tk1 (done1 G R)) := by
  refine ⟨fun q hq => x.nn q (List.mem_filter.mp (show q ∈ G.recs.filter (fun q => heldB (keepR G R) q.1) from hq)).1, fun t ht e => ?_⟩
  have h1 := x.hr t ht e
  obtain ⟨q, hq, eq⟩ := List.mem_map.mp h1
  refine List.mem_map.mpr ⟨q, ?_, eq⟩
  show q ∈ G.recs.filter (fun q => heldB (keepR G R) q.1)
  refine List.mem_filter.mpr ⟨hq, ?_⟩
  have ht : t ∈ G.hand := ht
  show (decide (q.1 ∈ G.hand) || _) = true
  rw [eq, decide_eq_true ht]; rfl
theorem Few.tk {G : HGh} (x : Few G) : Few (tk1 G) := ⟨x.n0, x.n1, x.hd, x.hl, x.rc⟩
end FX
namespace K15
open PySem L2 FX
set_option linter.all false
theorem b_yes (x : Int) : (!decide (V.int x = V.int x)) = false := by simp
section
variable {P : Program} {w : World} {K : PySem.W.Frag} {mg : Str → Option Value} {base : Heap} {C NHd NNr MI NW HE : Addr}
theorem mid_ok {f fS fT fK fLt fLo fGi fad f5 fC fMS fML fMB : Addr} {dS dT dK dLt dLo dGi dad d5 dC dMS dML dMB : FuncData} (T : Txt K mg C NHd NNr MI NW) (Tx : Txt2 mg)
    (MS : Mth K C "state" "House.state" sState ["self"] fS dS) (MT : Mth K C "told" "House.told" sTold ["self", "thing"] fT dT) (MK : Mth K C "tick" "House.tick" sTick ["self"] fK dK) (MLt : Mth K C "let" "House.let" sLet ["self", "things"] fLt dLt)
    (MLo : Mth K C "lose" "House.lose" sLose ["self", "things"] fLo dLo) (MGi : Mth K C "give_back" "House.give_back" sGive ["self"] fGi dGi) (Mad : Mth K C "added" "House.added" sAdded ["self", "b", "weight"] fad dad) (M5 : Mth K C "add_to_record" "House.add_to_record" sAddR ["self", "b", "weight"] f5 d5)
    (MC : Gdf K mg "_law_cell" sCell ["_law_script", "_law_k"] fC dC) (MMS : Gdf K mg "_law_state" sMState ["_law_model_here"] fMS dMS) (MML : Gdf K mg "_law_left" sMLeft ["_law_model_here", "_law_near_here"] fML dML) (MMB : Gdf K mg "_law_backs" sMBacks ["_law_model_here"] fMB dMB)
    {cdv : Value} {A : Around} {outer : List Env} {s : Shared} {H : Hp} {Q : VK} {E : XK} (hr : Room 4 (A.deeper (PyProof.Rows.envOfC "law" (defScope sLaw) s.heap.objs.size f cdv))) :
    ∃ t, PSs (cxOf CX0 P w K mg base nL "law" (defScope sLaw) f cdv A outer s H E).nox ((defBody sLaw).drop 9) t ∧
      ∀ (a p m sa gg : Addr) (ns : List Int) (u3 u6 : Option V) (G M : HGh) (ra asg : List Addr) (R gs : List T2) (H4 : Hp), Scr K H4 a (ns.map V.int) → ns.length ≤ 63 → TwoW C p m H4 G M 14 → Few G → Ok (keepR G R) 14 →
        H4 sa = some (.lst (ra.map V.ref)) → ThsAt H4 ra R → sa ∉ foot M → H4 gg = some (.lst (asg.map V.ref)) → ThsAt H4 asg gs → gg ≠ m → gg ∉ foot M → (∀ t, t ∈ G.outs.map (·.1) → (t ∈ gs ↔ t ∉ R)) → (∀ H', Q (.bl true) H') →
        t { nx := fun _ H' => Q .non H', rt := Q } [some (.ref a), some (.ref m), some (.ref p), u3, some (.ref sa), some (.ref gg), u6, none, none, none, none, none] H4 := by
  have GS : FnOk P w K mg base CX0 2 fS dS ["self"] (spState C K) := ok_state MS.fn T MT.fn MT.bd MT.mt
  have GK : FnOk P w K mg base CX0 1 fK dK ["self"] (spTick C) := ok_tick MK.fn T
  have GMS : FnOk P w K mg base CX0 1 fMS dMS ["_law_model_here"] (spMState K) := ok_mstate MMS.fn T
  have GLt : FnOk P w K mg base CX0 2 fLt dLt ["self", "things"] (spLet C) := ok_let MLt.fn T Tx MLo MGi
  have GML : FnOk P w K mg base CX0 1 fML dML ["_law_model_here", "_law_near_here"] spMLeft := ok_mleft MML.fn Tx
  have GMB : FnOk P w K mg base CX0 1 fMB dMB ["_law_model_here"] spMBacks := ok_mbacks MMB.fn T Tx
  have hu := hu_of hr
  have hr1 : Room 1 _ := hr.mono (by decide)
  have hr2 : Room 2 _ := hr.mono (by decide)
  obtain ⟨te, hte, hend⟩ := end_ok (P := P) (w := w) (base := base) (outer := outer) (H := H) (Q := Q) (E := E) T Tx MS MT MK MLt MLo MGi Mad M5 MC MMS hr
  refine ⟨_, pss_cons (ps_set (i := 7) scL.nd rfl (Or.inl rfl) (pe_meth0 (pv 2) T.cl MK.mt GK hr1 MK.bd .nil pass0))
    (pss_cons (ps_expr (pe_call GML hr1 (by rfl) MML.mg MML.fn.kp MML.bd .nil pass0 (pa_cons (pv 1) (pa_cons (pv 4) pa_nil))))
    (pss_cons (ps_set (i := 8) scL.nd rfl (Or.inl rfl) (pe_call GMB hr1 (by rfl) MMB.mg MMB.fn.kp MMB.bd .nil pass0 (pa_cons (pv 1) pa_nil)))
    (pss_cons (ps_set (i := 9) scL.nd rfl (Or.inl rfl) (pe_meth (pl := _) (pv 2) T.cl MLt.mt GLt hr2 MLt.bd .nil pass0 (pa_cons (pe_callTy call_tuple_of (by rfl) T.tuple PyProof.Rows.boot_tuple (pa_cons (pv 5) pa_nil)) pa_nil)))
    (pss_cons (ps_if (pw_or (pt_not (pt_val (pe_callB call_isi (by rfl) T.isi PyProof.Rows.boot_isinstance (pa_cons (pv 9) (pa_cons (pe_bltn (v := .ty "list") (by rfl) Tx.list PyProof.Rows.boot_list rfl) pa_nil))))) (pw_or (pt_cmpR (op_neD (hu64 hr)) (pv 9) (pv 8) (nomark _)) (pw_or1 (pt_cmpR op_ne (pe_meth0 (pv 2) T.cl MK.mt GK hr1 MK.bd .nil pass0) (pe_op op_add (pv 7) pe_int) (nomark _))))).pt (pss_one (ps_ret pe_bl)) pss_nil)
    (pss_cons (ps_if (pt_cmpR (op_neD (hu64 hr)) (pe_meth0 (pv 2) T.cl MS.mt GS hr2 MS.bd .nil pass0) (pe_call GMS hr1 (by rfl) MMS.mg MMS.fn.kp MMS.bd .nil pass0 (pa_cons (pv 1) pa_nil)) (nomark _)) (pss_one (ps_ret pe_bl)) pss_nil)
    (pss_cons (ps_if (pw_or (pt_cmpR (op_neD (hu64 hr)) (pe_meth (pl := _) (pv 2) T.cl MLt.mt GLt hr2 MLt.bd .nil pass0 (pa_cons (pe_callTy call_tuple_of (by rfl) T.tuple PyProof.Rows.boot_tuple (pa_cons (pv 5) pa_nil)) pa_nil)) (pe_lst pa_nil) (nomark _))
      (pw_or (pt_cmpR (op_neD (hu64 hr)) (pe_meth0 (pv 2) T.cl MS.mt GS hr2 MS.bd .nil pass0) (pe_call GMS hr1 (by rfl) MMS.mg MMS.fn.kp MMS.bd .nil pass0 (pa_cons (pv 1) pa_nil)) (nomark _)) (pw_or1 (pt_cmpR op_ne (pe_meth0 (pv 2) T.cl MK.mt GK hr1 MK.bd .nil pass0) (pe_op op_add (pv 7) pe_int) (nomark _))))).pt (pss_one (ps_ret pe_bl)) pss_nil)
    hte)))))), ?_⟩
  intro a p m sa gg ns u3 u6 G M ra asg R gs H4 hS hlen tw few okR esa tra nsa egg tgg ngm ngf hm k
  obtain ⟨hs, os, rs, gd, tld, gdM, tldM, keM⟩ := told_both tw.ok (by decide) tw.lk
  obtain ⟨dx, hp⟩ := tw.hs.ob
  have okM := tw.lk.ok tw.ok
  have lkR := tw.lk.keepR R
  have okRM := lkR.ok okR
  have eR : M.recs = G.recs := tw.lk.recs
  have eD : dropTs G gs = keepR G R := dropTs_goes (ks := []) tw.ok hm
  -- the tick; what is left; what goes back
  refine ⟨_, rfl, p, dx, _, rfl, hp, hf_no _ (by decide +kernel), p, G, rfl, tw.hs, ?_⟩
  refine ⟨_, rfl, _, rfl, m, sa, M, ra, R, rfl, tw.md, okM.ke, okM.on, esa, nsa, tra, fun H5 N5 fr5 => ?_⟩
  have S5 := tw.dj.model tw.hs fr5
  have dj5 : Dj p m G (keepR M R) := tw.dj.sub (fun b h => h) (foot_keepR M R)
  have kt5 := tw.md.keepT fr5
  have egg5 := fr5 _ _ egg ngm ngf
  have tgg5 : ThsAt H5 asg gs := ThsAt.keep kt5 tgg
  have hS5 := hS.keep kt5
  refine ⟨_, rfl, m, keepR M R, 14, rs, rfl, N5, okRM, by decide, by show rs.Perm M.recs; rw [eR]; exact tld.pr, tld.wr, fun bl asb H6 hbl eb6 ba6 N6 fr6 => ?_⟩
  have S6 := dj5.model S5 fr6
  have dj6 : Dj p m G (keepB (keepR M R)) := tw.dj.sub (fun b h => h) (foot_done M R)
  have kt6 := N5.keepT fr6
  have egg6 := fr6 _ _ egg5 ngm fun z => ngf (foot_keepR M R _ z)
  have tgg6 : ThsAt H6 asg gs := ThsAt.keep kt6 tgg5
  have hS6 := hS5.keep kt6
  rw [backs_like lkR] at ba6
  obtain ⟨dx6, hp6⟩ := S6.ob
  -- they are let go
  refine ⟨_, rfl, p, dx6, _, rfl, hp6, hf_no _ (by decide +kernel), _, rfl, gg, _, rfl, .inl ⟨SqL.of egg6, fun tt htt => ?_⟩⟩
  have s7 := same_new (o := .tup (asg.map V.ref)) htt
  have ett : (upd H6 tt (.tup (asg.map V.ref))) tt = some (.tup (asg.map V.ref)) := upd_same
  generalize upd H6 tt (.tup (asg.map V.ref)) = H7 at s7 ett
  have S7 := S6.same s7
  have N7 := N6.same s7
  have tgg7 : ThsAt H7 asg gs := ThsAt.keep (KeepT.of_same s7) tgg6
  have egg7 := s7 _ _ egg6
  have eb7 := s7 _ _ eb6
  have hS7 := hS6.keep (KeepT.of_same s7)
  have ir1 : ∀ t ∈ G.hand, InR t := fun u hu => (few.hd u hu).1
  have ir2 : ∀ q ∈ G.holds, ∀ t ∈ q.2.2, InR t := fun q hq u hu => (few.hl q hq u hu).1
  refine ⟨p, tt, G, 14, rs, gs, asg, rfl, S7, tw.ok, by decide, ir1, ir2, tld.pr, tld.wr, ett, tgg7, by rw [eD]; exact okR, fun x8 as8 H8 nx8 ex8 ba8 S8 fr8 => ?_⟩
  rw [eD] at ba8 S8
  have N8 := dj6.house S7 N7 fr8
  have kt8 := HFr.keepT S7 fr8
  have eb8 := fr8 _ _ eb7 (S7.lst_ne eb7).1 (S7.lst_ne eb7).2
  have egg8 := fr8 _ _ egg7 (S7.lst_ne egg7).1 (S7.lst_ne egg7).2
  have tgg8 : ThsAt H8 asg gs := ThsAt.keep kt8 tgg7
  have hS8 := hS7.keep kt8
  have ba6' := BackAt.keep kt8 (BackAt.keep (KeepT.of_same s7) ba6)
  have S8 : HouseAt C H8 p (done1 G R) := S8
  have okD : Ok (done1 G R) 14 := okR.keepB.tk1
  have lkD : LikeW (keepB (keepR M R)) (done1 G R) := lkR.keepB.tk1
  have djD : Dj p m (done1 G R) (keepB (keepR M R)) := tw.dj.sub (foot_done G R) (foot_done M R)
  have tkD : (done1 G R).ticks = G.ticks + 1 := rfl
  obtain ⟨dx8, hp8⟩ := S8.ob
  have okB := lst_ok recD_ok (backsOf (keepR G R) rs)
  refine ⟨_, rfl, _, _, _, true, rfl, .lst ex8, kit_same, _, rfl, iteF ?_⟩
  refine ⟨_, rfl, _, rfl, .list _, .list _, .lst (SqL.of ex8) (recs_rep ba8), .lst (SqL.of eb8) (recs_rep ba6'), okB, okB, _, rfl, ?_⟩
  rw [eqv_same okB]
  refine iteF ⟨_, rfl, p, dx8, _, rfl, hp8, hf_no _ (by decide +kernel), p, done1 G R, rfl, S8, _, rfl, _, _, rfl, rfl, rfl, _, rfl, ?_⟩
  rw [show (!decide (V.int (done1 G R).ticks = V.int (G.ticks + 1))) = false by rw [tkD]; exact b_yes _]
  refine iteF ?_
  -- alike
  obtain ⟨hs2, os2, rs2, gd2, tld2, gdM2, tldM2, keM2⟩ := told_both okD (by decide) lkD
  refine ⟨_, rfl, p, dx8, _, rfl, hp8, hf_no _ (by decide +kernel), p, done1 G R, hs2, os2, rs2, rfl, S8, gd2.h2, gd2.o2, gd2.r2, tld2.pm, tld2.pw, tld2.rw_, tld2.pr, tld2.wr, fun x9 H9 s9 _ rep9 => ?_⟩
  refine ⟨_, rfl, m, _, hs2, os2, rs2, rfl, N8.same s9, gdM2, tldM2, keM2, fun x10 H10 s10 _ rep10 => ?_⟩
  have okS2 := stD_okd hs2 os2 rs2
  refine ⟨_, _, .one (rep9.keep (KeepT.of_same s10)), .one rep10, okS2, okS2, _, rfl, ?_⟩
  rw [eqv_same okS2]
  refine iteF ?_
  clear rep9 rep10
  have s810 := same_trans s9 s10
  have S10 := S8.same s810
  have N10 := N8.same s810
  have egg10 := s810 _ _ egg8
  have tgg10 : ThsAt H10 asg gs := ThsAt.keep (KeepT.of_same s810) tgg8
  have hS10 := hS8.keep (KeepT.of_same s810)
  -- once more
  have eN : dropTs (done1 G R) gs = done1 G R := dropTs_none okD fun t ht z => by
    have ht : t ∈ (G.outs.filter fun q => decide (q.1 ∈ R)).map (·.1) := ht
    rw [filter_keys (fun q : T2 × Int => q.1) G.outs (fun t => decide (t ∈ R))] at ht
    obtain ⟨h1, h2⟩ := List.mem_filter.mp ht
    exact (hm t h1).mp z (by simpa using h2)
  have eB : keepB (done1 G R) = done1 G R := keepB_done
  have eS := backs_done (R := R) (G := G) tld2.pr
  have fewD : Few (done1 G R) := (few.keepR (R := R)).keepB.tk
  obtain ⟨dx10, hp10⟩ := S10.ob
  refine ⟨_, rfl, p, dx10, _, rfl, hp10, hf_no _ (by decide +kernel), _, rfl, gg, _, rfl, .inl ⟨SqL.of egg10, fun t2 ht2 => ?_⟩⟩
  have s11 := same_new (o := .tup (asg.map V.ref)) ht2
  have et2 : (upd H10 t2 (.tup (asg.map V.ref))) t2 = some (.tup (asg.map V.ref)) := upd_same
  generalize upd H10 t2 (.tup (asg.map V.ref)) = H11 at s11 et2
  have S11 := S10.same s11
  have N11 := N10.same s11
  have tgg11 : ThsAt H11 asg gs := ThsAt.keep (KeepT.of_same s11) tgg10
  have hS11 := hS10.keep (KeepT.of_same s11)
  refine ⟨p, t2, done1 G R, 14, rs2, gs, asg, rfl, S11, okD, by decide, fun u hu => (fewD.hd u hu).1, fun q hq u hu => (fewD.hl q hq u hu).1, tld2.pr, tld2.wr, et2, tgg11, by rw [eN]; exact okD, fun x14 as14 H14 _ ex14 ba14 S14 fr14 => ?_⟩
  rw [eN, eS] at ba14
  rw [eN, eB] at S14
  have N14 := djD.house S11 N11 fr14
  have hS14 := hS11.keep (HFr.keepT S11 fr14)
  refine ⟨Nat.zero_le _, fun nl hnl => ?_⟩
  have s15 := same_new (o := .lst []) hnl
  have en15 : (upd H14 nl (.lst [])) nl = some (.lst []) := upd_same
  generalize upd H14 nl (.lst []) = H15 at s15 en15
  have S15 := S14.same s15
  have N15 := N14.same s15
  have ba15 := recs_rep (K := K) (BackAt.keep (KeepT.of_same s15) ba14)
  refine ⟨_, _, .lst (SqL.of (s15 _ _ ex14)) ba15, .lst (SqL.of en15) .nil, nil_ok, nil_ok, _, rfl, ?_⟩
  rw [show PyData.eqv (.list (([] : List (T2 × Int)).map recD)) (.list []) = true from eqv_same nil_ok]
  have okE : Ok (tk1 (done1 G R)) 14 := okD.tk1
  have lkE : LikeW (keepB (keepR M R)) (tk1 (done1 G R)) := lkD.tk1
  obtain ⟨hs3, os3, rs3, gd3, tld3, gdM3, tldM3, keM3⟩ := told_both okE (by decide) lkE
  obtain ⟨dx15, hp15⟩ := S15.ob
  refine iteF ⟨_, rfl, p, dx15, _, rfl, hp15, hf_no _ (by decide +kernel), p, tk1 (done1 G R), hs3, os3, rs3, rfl, S15, gd3.h2, gd3.o2, gd3.r2, tld3.pm, tld3.pw, tld3.rw_, tld3.pr, tld3.wr, fun x16 H16 s16 _ rep16 => ?_⟩
  refine ⟨_, rfl, m, _, hs3, os3, rs3, rfl, N15.same s16, gdM3, tldM3, keM3, fun x17 H17 s17 _ rep17 => ?_⟩
  have okS3 := stD_okd hs3 os3 rs3
  refine ⟨_, _, .one (rep16.keep (KeepT.of_same s17)), .one rep17, okS3, okS3, _, rfl, ?_⟩
  rw [eqv_same okS3]
  have s517 := same_trans s15 (same_trans s16 s17)
  have S17 := S14.same s517
  have N17 := N14.same s517
  have hS17 := hS14.keep (KeepT.of_same s517)
  have tkE : (tk1 (done1 G R)).ticks = G.ticks + 2 := by
    show G.ticks + 1 + 1 = G.ticks + 2
    rw [Int.add_assoc]; rfl
  obtain ⟨dx17, hp17⟩ := S17.ob
  refine iteF ⟨_, rfl, p, dx17, _, rfl, hp17, hf_no _ (by decide +kernel), p, tk1 (done1 G R), rfl, S17, _, rfl, _, _, rfl, rfl, rfl, _, rfl, ?_⟩
  rw [show (!decide (V.int (tk1 (done1 G R)).ticks = V.int (G.ticks + 2))) = false by rw [tkE]; exact b_yes _]
  refine iteF ?_
  exact hend a p m ns G.ticks _ _ _ _ _ _ (tk1 (done1 G R)) (keepB (keepR M R)) H17 hS17 hlen S17 N17 lkE okE (tw.wk.done R) (djD.of rfl rfl) fewD.tk (fun q hq => recs_done (G := G) (R := R) hq) tkE k
end
end K15

namespace K15
open PySem L2 FX
set_option linter.all false
section
variable {P : Program} {w : World} {K : PySem.W.Frag} {mg : Str → Option Value} {base : Heap} {C NHd NNr MI NW HE : Addr}
def ttSt (K : PySem.W.Frag) : TT := tTest (tOp (rInT true) (tVar 0) (tVar 1))
theorem first_ok {f fS fT fK fLt fLo fGi fad f5 fC fMS fMN fML fMB : Addr} {dS dT dK dLt dLo dGi dad d5 dC dMS dMN dML dMB : FuncData} (T : Txt K mg C NHd NNr MI NW) (Tx : Txt2 mg)
    (MS : Mth K C "state" "House.state" sState ["self"] fS dS) (MT : Mth K C "told" "House.told" sTold ["self", "thing"] fT dT) (MK : Mth K C "tick" "House.tick" sTick ["self"] fK dK) (MLt : Mth K C "let" "House.let" sLet ["self", "things"] fLt dLt)
    (MLo : Mth K C "lose" "House.lose" sLose ["self", "things"] fLo dLo) (MGi : Mth K C "give_back" "House.give_back" sGive ["self"] fGi dGi) (Mad : Mth K C "added" "House.added" sAdded ["self", "b", "weight"] fad dad) (M5 : Mth K C "add_to_record" "House.add_to_record" sAddR ["self", "b", "weight"] f5 d5)
    (MC : Gdf K mg "_law_cell" sCell ["_law_script", "_law_k"] fC dC) (MMS : Gdf K mg "_law_state" sMState ["_law_model_here"] fMS dMS) (MMN : Gdf K mg "_law_near" sMNear ["_law_model_here", "_law_starts"] fMN dMN) (MML : Gdf K mg "_law_left" sMLeft ["_law_model_here", "_law_near_here"] fML dML) (MMB : Gdf K mg "_law_backs" sMBacks ["_law_model_here"] fMB dMB)
    {cdv : Value} {A : Around} {outer : List Env} {s : Shared} {H : Hp} {Q : VK} {E : XK} (hr : Room 4 (A.deeper (PyProof.Rows.envOfC "law" (defScope sLaw) s.heap.objs.size f cdv))) :
    ∃ t, PSs (cxOf CX0 P w K mg base nL "law" (defScope sLaw) f cdv A outer s H E).nox ((defBody sLaw).drop 4) t ∧
      ∀ (a p m : Addr) (ns : List Int) (G M : HGh) (H4 : Hp), Scr K H4 a (ns.map V.int) → ns.length ≤ 63 → TwoW C p m H4 G M 14 → Few G → G.outs ≠ [] → G.outs.length ≤ 9 → G.made ≤ 9 → (∀ H', Q (.bl true) H') →
        t { nx := fun _ H' => Q .non H', rt := Q } [some (.ref a), some (.ref m), some (.ref p), none, none, none, none, none, none, none, none, none] H4 := by
  have GC : FnOk P w K mg base CX0 1 fC dC ["_law_script", "_law_k"] (spCell K) := ok_cell MC.fn T.len
  have GN : FnOk P w K mg base CX0 1 fMN dMN ["_law_model_here", "_law_starts"] spMNear := ok_mnear MMN.fn
  have hu := hu_of hr
  have hr1 : Room 1 _ := hr.mono (by decide)
  have two : (2 : Nat) ≤ sizeLine := by decide
  have one : (1 : Nat) ≤ sizeLine := by decide
  obtain ⟨te, hte, hmid⟩ := mid_ok (P := P) (w := w) (base := base) (outer := outer) (H := H) (Q := Q) (E := E) T Tx MS MT MK MLt MLo MGi Mad M5 MC MMS MML MMB hr
  refine ⟨_, pss_cons (ps_set (i := 3) scL.nd rfl (Or.inl rfl) (pe_callB (call_sorted_things rfl) (by rfl) T.sorted PyProof.Rows.boot_sorted (pa_cons (pe_dget hu (pv 1) pe_str (fun _ _ => rfl)) pa_nil)))
    (pss_cons (ps_set (i := 4) scL.nd rfl (by first | exact Or.inl rfl | exact Or.inr rfl) (pe_call GN hr1 (by rfl) MMN.mg MMN.fn.kp MMN.bd .nil pass0 (pa_cons (pv 1) (pa_cons (pe_op op_cat (pe_dget hu (pv 1) pe_str (fun _ _ => rfl)) (pe_lst (pa_cons (pe_ix ix_list (pv 3) (pe_op op_mod (pe_call GC hr1 (by rfl) MC.mg MC.fn.kp MC.bd .nil pass0 (pa_cons (pv 0) (pa_cons pe_int pa_nil))) (pe_callB call_len_seq (by rfl) T.len PySem.boot_len (pa_cons (pv 3) pa_nil))) (fun _ _ => rfl)) pa_nil))) pa_nil))))
    (pss_cons (ps_comp (te := tVar 0) (tt := ttSt K) (i := 5) (caps := [("_law_stays", 4)]) scL.nd rfl rfl rfl rfl (pi_list (pv 3))
          rfl (by decide +kernel) rfl (by decide +kernel) rfl ⟨rfl, trivial⟩ (fun y h => has3 ⟨_, rfl⟩ h) ⟨⟨rfl, rfl, rfl, rfl⟩, trivial⟩ (by decide +kernel) (fun _ _ _ _ _ => pts_one (pt_cmpR (op_notIn_things (hu64 hr)) (pv 0) (pv 1) rfl)) (fun _ _ _ _ _ => pv 0))
    (pss_cons (ps_set (i := 6) scL.nd rfl (Or.inl rfl) (pe_op op_mod (pe_call GC hr1 (by rfl) MC.mg MC.fn.kp MC.bd .nil pass0 (pa_cons (pv 0) (pa_cons pe_int pa_nil))) (pe_op op_add (pe_callB call_len_seq (by rfl) T.len PySem.boot_len (pa_cons (pv 5) pa_nil)) pe_int)))
    (pss_cons (ps_set (i := 5) scL.nd rfl (Or.inl rfl) (pe_op op_cat (pe_op op_cat (pe_slice sl_list (pv 5) (po_some (pv 6)) po_none) (pe_lst (pa_cons (pe_tup (pa_cons (pe_dget hu (pv 1) pe_str (fun _ _ => rfl)) (pa_cons (pe_op op_add pe_int (pe_op op_mod (pe_call GC hr1 (by rfl) MC.mg MC.fn.kp MC.bd .nil pass0 (pa_cons (pv 0) (pa_cons pe_int pa_nil))) (pe_op op_pow pe_int pe_int))) pa_nil))) pa_nil))) (pe_slice sl_list (pv 5) po_none (po_some (pv 6)))))
    hte)))), ?_⟩
  intro a p m ns G M H4 hS hlen tw few ne ol mz k
  obtain ⟨hs, os, rs, gd, tld, gdM, tldM, keM⟩ := told_both tw.ok (by decide) tw.lk
  have eO : M.outs = G.outs := tw.lk.outs
  have okM := tw.lk.ok tw.ok
  have z2 := okM.lens
  -- the near things
  refine ⟨_, rfl, m, _, rfl, tw.md.gHolds, M.l, _, os.map (·.1), rfl, ref_rd tw.md.dl, (by rw [List.length_map]; lia), ?_, tld.rw_.pw, fun nl asn hnl tn => ?_⟩
  · have e0 : ((M.holds.map fun q => (q.1, V.ref q.2.1)).map (·.1)) = M.holds.map (·.1) := by rw [List.map_map]; rfl
    rw [e0, okM.ke, eO]; exact tld.rw_.pm
  have kin : ∀ t, t ∈ os.map (·.1) ↔ t ∈ G.outs.map (·.1) := fun t => tld.rw_.pm.mem_iff
  have knl : 0 < (os.map (·.1)).length := by
    rw [tld.rw_.pm.length_eq, List.length_map]
    exact List.length_pos_iff.mpr ne
  have kn9 : (os.map (·.1)).length ≤ 9 := by
    rw [tld.rw_.pm.length_eq, List.length_map]; exact ol
  generalize os.map (·.1) = ks at tn kin knl kn9
  have s5 := same_new (o := .lst (asn.map V.ref)) hnl
  have e5 : (upd H4 nl (.lst (asn.map V.ref))) nl = some (.lst (asn.map V.ref)) := upd_same
  have tn5 : ThsAt (upd H4 nl (.lst (asn.map V.ref))) asn ks := ThsAt.keep (KeepT.of_same s5) tn
  generalize upd H4 nl (.lst (asn.map V.ref)) = H5 at s5 e5 tn5
  have tw5 := tw.same s5
  have hS5 := hS.keep (KeepT.of_same s5)
  have lnn := Paired.length tn5
  -- what stays
  obtain ⟨as1, eh, th⟩ := tw5.md.dh
  have lh := Paired.length th
  have eH : M.hand = G.hand := tw.lk.hand
  have zh := tw.ok.hz
  refine ⟨_, rfl, _, rfl, m, _, rfl, tw5.md.gHand, _, rfl, _, rfl, a, ns, 40, rfl, hS5.sq, hlen, by decide, by decide, fun v40 => ⟨_, rfl, nl, _, rfl, .inl (SqL.of e5), _, _, rfl, rfl, (by rw [List.length_map]; lia), ?_⟩⟩
  have b0 := Int.emod_nonneg v40 (show ((asn.map V.ref).length : Int) ≠ 0 by rw [List.length_map]; lia)
  have b1 := Int.emod_lt_of_pos v40 (show (0 : Int) < ((asn.map V.ref).length : Int) by rw [List.length_map]; lia)
  obtain ⟨ja, hja⟩ : ∃ ja : Int, ja = v40 % ((asn.map V.ref).length : Int) := ⟨_, rfl⟩
  rw [← hja] at b0 b1
  obtain ⟨aa, haa⟩ := get_of_lt (xs := asn) (j := ja.toNat) (by rw [List.length_map] at b1; lia)
  obtain ⟨ta, hta⟩ := get_of_lt (xs := ks) (j := ja.toNat) (by rw [List.length_map] at b1; lia)
  have hA := paired_get tn5 _ aa ta haa hta
  refine ⟨nl, _, ja, V.ref aa, rfl, (by rw [hja]), SqL.of e5, atI_at b0 (by rw [List.getElem?_map, haa]; rfl), one, fun l6 hl6 => ?_⟩
  have s6 := same_new (o := .lst [V.ref aa]) hl6
  have e6 : (upd H5 l6 (.lst [V.ref aa])) l6 = some (.lst [V.ref aa]) := upd_same
  generalize upd H5 l6 (.lst [V.ref aa]) = H6 at s6 e6
  refine ⟨M.h, l6, _, _, rfl, rfl, s6 _ _ eh, e6, Nat.le_of_lt (small1000 (by rw [List.length_map]; show as1.length + 1 ≤ 1000; rw [lh, eH]; lia)), fun cl hcl => ?_⟩
  have e7 : as1.map V.ref ++ [V.ref aa] = (as1 ++ [aa]).map V.ref := by rw [List.map_append]; rfl
  rw [e7]
  have s7 := same_new (o := .lst ((as1 ++ [aa]).map V.ref)) hcl
  have ec7 : (upd H6 cl (.lst ((as1 ++ [aa]).map V.ref))) cl = some (.lst ((as1 ++ [aa]).map V.ref)) := upd_same
  have s57 := same_trans s6 s7
  have tc7 : ThsAt (upd H6 cl (.lst ((as1 ++ [aa]).map V.ref))) (as1 ++ [aa]) (M.hand ++ [ta]) := ths_snoc (s57 _ _ hA) (ThsAt.keep (KeepT.of_same s57) th)
  generalize upd H6 cl (.lst ((as1 ++ [aa]).map V.ref)) = H7 at s7 ec7 s57 tc7
  have tw7 := tw5.same s57
  have lts : (M.hand ++ [ta]).length ≤ 30 := by rw [List.length_append, eH]; show G.hand.length + 1 ≤ 30; lia
  have olM : M.outs.length ≤ 9 := by rw [eO]; exact ol
  obtain ⟨m1, R, zm1, rc⟩ := Rch.of' okM olM (M.hand ++ [ta]) lts
  refine ⟨m, cl, M, as1 ++ [aa], M.hand ++ [ta], m1, R, rfl, tw7.md, ec7, tc7, by lia, fun q hq => by have := (okM.ln q hq).2; lia, rc, zm1, fun sa ra H8 hsa s8 esa tra => ?_⟩
  have nsa := (tw7.md.new_ne hsa).2
  have tw8 := tw7.same s8
  have s58 := same_trans s57 s8
  have e8 := s58 _ _ e5
  have tn8 : ThsAt H8 asn ks := ThsAt.keep (KeepT.of_same s58) tn5
  have hS8 := hS5.keep (KeepT.of_same s58)
  have cl1 := rc.closed (fun t ht => by cases ht)
  rw [tw.lk.nx] at cl1
  have okR : Ok (keepR G R) 14 := tw.ok.keepR' (fun t ht hk => rc.sub.2 t (List.mem_filter.mpr ⟨List.mem_append_left _ (by rw [eH]; exact ht), by rw [tw.lk.keys]; simpa using hk⟩)) cl1
  -- what goes
  refine ⟨_, rfl, nl, rfl, ⟨_, SqL.of e8⟩, fun gl hgl => ?_⟩
  refine filt_list (b := fun t => decide (t ∉ R)) (caps := [("_law_stays", 4)]) hgl (by lia) e8 tn8 (fun H2 b t Q' sm hb ht q => ?_) fun H9 gas sm9 eg9 tg9 => ?_
  · refine ⟨_, rfl, _, rfl, notIn_go hb (sm _ _ esa) (ThsAt.keep (KeepT.of_same sm) tra) ⟨fun h => ⟨_, rfl, ?_⟩, fun h => ⟨_, rfl, ?_⟩⟩⟩
    · rw [decide_eq_true h] at q; exact q
    · rw [decide_eq_false (fun z => z h)] at q; exact q
  have ngl := tw8.md.new_ne hgl
  have tw9 := tw8.same sm9
  have hS9 := hS8.keep (KeepT.of_same sm9)
  have lga := Paired.length tg9
  have lgl : (ks.filter fun t => decide (t ∉ R)).length ≤ 9 := Nat.le_trans (List.length_filter_le _ _) kn9
  have mem0 : ∀ t, t ∈ G.outs.map (·.1) → (t ∈ (ks.filter fun t => decide (t ∉ R)) ↔ t ∉ R) := fun t ht => by
    constructor
    · intro z
      have := (List.mem_filter.mp z).2
      simpa using this
    · intro z
      exact List.mem_filter.mpr ⟨(kin t).mpr ht, by simpa using z⟩
  generalize (ks.filter fun t => decide (t ∉ R)) = g0 at tg9 lga lgl mem0
  -- the turn
  refine ⟨_, rfl, a, ns, 41, rfl, hS9.sq, hlen, by decide, by decide, fun v41 => ⟨_, rfl, gl, _, rfl, .inl (SqL.of eg9), _, _, rfl, rfl, _, _, rfl, rfl, (by lia), ?_⟩⟩
  have c0 := Int.emod_nonneg v41 (show ((gas.map V.ref).length : Int) + 1 ≠ 0 by lia)
  have c1 := Int.emod_lt_of_pos v41 (show (0 : Int) < ((gas.map V.ref).length : Int) + 1 by lia)
  obtain ⟨kt, hkt⟩ : ∃ kt : Nat, v41 % (((gas.map V.ref).length : Int) + 1) = (kt : Int) := ⟨(v41 % (((gas.map V.ref).length : Int) + 1)).toNat, by lia⟩
  have ktl : kt ≤ (gas.map V.ref).length := by lia
  rw [show (fun (i j : Int) => V.int (i % j)) v41 (((gas.map V.ref).length : Int) + 1) = V.int (kt : Int) by show V.int _ = _; rw [hkt]]
  -- put together
  refine ⟨_, rfl, _, rfl, _, rfl, gl, _, rfl, SqL.of eg9, fun y1 hy1 => ?_⟩
  rw [cut_drop _ ktl, ← List.map_drop]
  have s10 := same_new (o := .lst ((gas.drop kt).map V.ref)) hy1
  have e10 : (upd H9 y1 (.lst ((gas.drop kt).map V.ref))) y1 = some (.lst ((gas.drop kt).map V.ref)) := upd_same
  generalize upd H9 y1 (.lst ((gas.drop kt).map V.ref)) = H10 at s10 e10
  have tw10 := tw9.same s10
  have hS10 := hS9.keep (KeepT.of_same s10)
  refine ⟨_, rfl, m, _, rfl, tw10.md.gHouse, _, rfl, a, ns, 42, rfl, hS10.sq, hlen, by decide, by decide, fun v42 => ⟨_, _, rfl, rfl, ⟨by decide, by decide, by decide⟩, _, _, rfl, rfl, (show (0 : Int) < 10 ^ 59 by decide), _, _, rfl, rfl, two, fun ut hut => ?_⟩⟩
  have d0 : 0 ≤ v42 % 10 ^ (59 : Int).toNat := Int.emod_nonneg _ (by decide)
  generalize v42 % 10 ^ (59 : Int).toNat = w2 at d0 ⊢
  have s11 := same_new (o := .tup [V.int M.num, V.int (9 + w2)]) hut
  have t11 : (upd H10 ut (.tup [V.int M.num, V.int (9 + w2)])) ut = some (.tup (tv (M.num, 9 + w2))) := upd_same
  rw [show (fun (i j : Int) => V.int (i + j)) 9 w2 = V.int (9 + w2) from rfl]
  generalize upd H10 ut (.tup [V.int M.num, V.int (9 + w2)]) = H11 at s11 t11
  refine ⟨one, fun y2 hy2 => ?_⟩
  have s12 := same_new (o := .lst [V.ref ut]) hy2
  have e12 : (upd H11 y2 (.lst [V.ref ut])) y2 = some (.lst [V.ref ut]) := upd_same
  generalize upd H11 y2 (.lst [V.ref ut]) = H12 at s12 e12
  have ldr : (gas.drop kt).length ≤ 9 := by rw [List.length_drop]; lia
  have ltk : (gas.take kt).length ≤ 9 := by rw [List.length_take]; lia
  have sz1 : ((gas.drop kt).map V.ref).length + [V.ref ut].length ≤ sizeLine := Nat.le_of_lt (small1000 (by rw [List.length_map]; show (gas.drop kt).length + 1 ≤ 1000; lia))
  refine ⟨y1, y2, _, _, rfl, rfl, s12 _ _ (s11 _ _ e10), e12, sz1, fun y3 hy3 => ?_⟩
  have e13' : (gas.drop kt).map V.ref ++ [V.ref ut] = (gas.drop kt ++ [ut]).map V.ref := by rw [List.map_append]; rfl
  rw [e13']
  have s13 := same_new (o := .lst ((gas.drop kt ++ [ut]).map V.ref)) hy3
  have e13 : (upd H12 y3 (.lst ((gas.drop kt ++ [ut]).map V.ref))) y3 = some (.lst ((gas.drop kt ++ [ut]).map V.ref)) := upd_same
  generalize upd H12 y3 (.lst ((gas.drop kt ++ [ut]).map V.ref)) = H13 at s13 e13
  have s913 := same_trans s10 (same_trans s11 (same_trans s12 s13))
  refine ⟨_, rfl, _, rfl, _, rfl, gl, _, rfl, SqL.of (s913 _ _ eg9), fun y4 hy4 => ?_⟩
  rw [cut_take _ ktl, ← List.map_take]
  have s14 := same_new (o := .lst ((gas.take kt).map V.ref)) hy4
  have e14 : (upd H13 y4 (.lst ((gas.take kt).map V.ref))) y4 = some (.lst ((gas.take kt).map V.ref)) := upd_same
  generalize upd H13 y4 (.lst ((gas.take kt).map V.ref)) = H14 at s14 e14
  have sz2 : ((gas.drop kt ++ [ut]).map V.ref).length + ((gas.take kt).map V.ref).length ≤ sizeLine := Nat.le_of_lt (small1000 (by rw [List.length_map, List.length_map, List.length_append]; show (gas.drop kt).length + 1 + (gas.take kt).length ≤ 1000; lia))
  refine ⟨y3, y4, _, _, rfl, rfl, s14 _ _ e13, e14, sz2, fun gg hgg => ?_⟩
  rw [← List.map_append]
  have s914 := same_trans s913 s14
  have tw14 := tw9.same s914
  have ngg := tw14.md.new_ne hgg
  have s15 := same_new (o := .lst ((gas.drop kt ++ [ut] ++ gas.take kt).map V.ref)) hgg
  have e15 : (upd H14 gg (.lst ((gas.drop kt ++ [ut] ++ gas.take kt).map V.ref))) gg = some (.lst ((gas.drop kt ++ [ut] ++ gas.take kt).map V.ref)) := upd_same
  have s915 := same_trans s914 s15
  have tg15 : ThsAt (upd H14 gg (.lst ((gas.drop kt ++ [ut] ++ gas.take kt).map V.ref))) (gas.drop kt ++ [ut] ++ gas.take kt) (g0.drop kt ++ [(M.num, 9 + w2)] ++ g0.take kt) :=
    ths_app (ths_snoc (s15 _ _ (s14 _ _ (s13 _ _ (s12 _ _ t11)))) (ThsAt.keep (KeepT.of_same s915) (ths_drop kt tg9))) (ThsAt.keep (KeepT.of_same s915) (ths_take kt tg9))
  generalize upd H14 gg (.lst ((gas.drop kt ++ [ut] ++ gas.take kt).map V.ref)) = H15 at s15 e15 s915 tg15
  have s815 := same_trans sm9 s915
  refine hmid a p m sa gg ns _ _ G M ra (gas.drop kt ++ [ut] ++ gas.take kt) R (g0.drop kt ++ [(M.num, 9 + w2)] ++ g0.take kt) H15 (hS9.keep (KeepT.of_same s915)) hlen (tw9.same s915) few okR (s815 _ _ esa) (ThsAt.keep (KeepT.of_same s815) tra) nsa e15 tg15 ngg.1 ngg.2 (fun t ht => ?_) k
  have nu : t ≠ (M.num, 9 + w2) := fun z => by
    have := (tw.ok.new t ht).2
    rw [z] at this
    have this : 9 + w2 < G.made := this
    lia
  rw [← mem0 t ht]
  constructor
  · intro z
    rcases List.mem_append.mp z with z | z
    · rcases List.mem_append.mp z with z | z
      · exact List.mem_of_mem_drop z
      · exact absurd (by simpa using z) nu
    · exact List.mem_of_mem_take z
  · intro z
    rw [← List.take_append_drop kt g0] at z
    rcases List.mem_append.mp z with z | z
    · exact List.mem_append_right _ z
    · exact List.mem_append_left _ (List.mem_append_left _ z)
def spLaw (K : PySem.W.Frag) : Sp := fun vs H Q _ => ∃ (a : Addr) (ns : List Int), vs = [.ref a] ∧ Scr K H a (ns.map V.int) ∧ ns.length ≤ 63 ∧ ∀ H', Q (.bl true) H'
theorem ok_law {f fI fM fS fT fK f1 f2 f3 f5 f6 fh fb fc fad ff fLt fLo fGi fP fC fMo fMS fMM fMN fML fMB fBe fJo : Addr} {fd dI dM dS dT dK d1 d2 d3 d5 d6 dh db dc dad df dLt dLo dGi dP dC dMo dMS dMM dMN dML dMB dBe dJo : FuncData} (F : Fun K "law" "law" sLaw f fd) (T : Txt K mg C NHd NNr MI NW) (Tx : Txt2 mg) (Mm : Mk K C fI)
    (FI : Fun K "__init__" "House.__init__" sInit fI dI) (bI : Binds K dI ["self", "number"] [])
    (MM : Mth K C "make" "House.make" sMake ["self"] fM dM) (MS : Mth K C "state" "House.state" sState ["self"] fS dS) (MT : Mth K C "told" "House.told" sTold ["self", "thing"] fT dT) (MK : Mth K C "tick" "House.tick" sTick ["self"] fK dK)
    (M1 : Mth K C "is_near" "House.is_near" sNear ["self", "thing"] f1 d1) (M2 : Mth K C "need_in_hand" "House.need_in_hand" sNeedH ["self", "thing"] f2 d2) (M3 : Mth K C "need_near" "House.need_near" sNeedN ["self", "thing"] f3 d3) (M5 : Mth K C "add_to_record" "House.add_to_record" sAddR ["self", "b", "weight"] f5 d5)
    (M6 : Mth K C "part_record" "House.part_record" sPartR ["self", "b"] f6 d6) (Mh : Mth K C "hold" "House.hold" sHold ["self", "a", "b"] fh dh) (Mb : Mth K C "part" "House.part" sPart ["self", "b", "share"] fb db) (Mc : Mth K C "came" "House.came" sCame ["self", "b", "weight"] fc dc) (Mad : Mth K C "added" "House.added" sAdded ["self", "b", "weight"] fad dad)
    (Mf : Mth K C "free" "House.free" sFree ["self", "b"] ff df) (MLt : Mth K C "let" "House.let" sLet ["self", "things"] fLt dLt) (MLo : Mth K C "lose" "House.lose" sLose ["self", "things"] fLo dLo) (MGi : Mth K C "give_back" "House.give_back" sGive ["self"] fGi dGi)
    (MP : Gdf K mg "parted" sParted ["weight"] fP dP) (MC : Gdf K mg "_law_cell" sCell ["_law_script", "_law_k"] fC dC) (MMo : Gdf K mg "_law_model" sModel ["_law_number"] fMo dMo) (MMS : Gdf K mg "_law_state" sMState ["_law_model_here"] fMS dMS) (MMM : Gdf K mg "_law_made" sMMade ["_law_model_here"] fMM dMM)
    (MMN : Gdf K mg "_law_near" sMNear ["_law_model_here", "_law_starts"] fMN dMN) (MMB : Gdf K mg "_law_backs" sMBacks ["_law_model_here"] fMB dMB) (MML : Gdf K mg "_law_left" sMLeft ["_law_model_here", "_law_near_here"] fML dML)
    (MBe : Gdf K mg "_law_begun" sBegun ["_law_script", "_law_house", "_law_model_here"] fBe dBe) (MJo : Gdf K mg "_law_joined" sJoined ["_law_script", "_law_house", "_law_model_here", "_law_share"] fJo dJo) :
    FnOk P w K mg base CX0 5 f fd ["_law_script"] (spLaw K) := by
  have GI : FnOk P w K mg base CX0 1 fI dI ["self", "number"] (spInit C) := ok_init FI T
  have GC : FnOk P w K mg base CX0 1 fC dC ["_law_script", "_law_k"] (spCell K) := ok_cell MC.fn T.len
  have GMo : FnOk P w K mg base CX0 1 fMo dMo ["_law_number"] spModel := ok_model MMo.fn
  have GBe : FnOk P w K mg base CX0 3 fBe dBe ["_law_script", "_law_house", "_law_model_here"] (spBegun C K) := ok_begun MBe.fn T MC MMM M1 M5 Mc MM
  have GJo : FnOk P w K mg base CX0 4 fJo dJo ["_law_script", "_law_house", "_law_model_here", "_law_share"] (spJoined C K) := ok_joined MJo.fn T MC M1 M2 M3 M6 Mh Mb Mf MP
  refine F.ok scL (fun vs H Q E h => ?_) (fun cdv A outer s H vs Q E hr h => ?_)
  · obtain ⟨a, ns, rfl, _⟩ := h
    rfl
  · obtain ⟨a, ns, rfl, hS, hlen, k⟩ := h
    have hu := hu_of hr
    have hr1 : Room 1 _ := hr.mono (by decide)
    have hr2 : Room 2 _ := hr.mono (by decide)
    have hr3 : Room 3 _ := hr.mono (by decide)
    obtain ⟨tl, htl, hsem⟩ := first_ok (P := P) (w := w) (base := base) (outer := outer) (H := H) (Q := Q) (E := E) T Tx MS MT MK MLt MLo MGi Mad M5 MC MMS MMN MML MMB hr
    refine ⟨_, pss_cons (ps_set (i := 1) scL.nd rfl (Or.inl rfl) (pe_call GMo hr1 (by rfl) MMo.mg MMo.fn.kp MMo.bd .nil pass0 (pa_cons (pe_op op_mod (pe_call GC hr1 (by rfl) MC.mg MC.fn.kp MC.bd .nil pass0 (pa_cons (pv 0) (pa_cons pe_int pa_nil))) pe_int) pa_nil)))
      (pss_cons (ps_set (i := 2) scL.nd rfl (Or.inl rfl) (pe_make Mm GI hr2 (by rfl) T.mgC bI .nil pass0 (pa_cons (pe_dget hu (pv 1) pe_str (fun _ _ => rfl)) pa_nil)))
      (pss_cons (ps_expr (pe_call GBe hr3 (by rfl) MBe.mg MBe.fn.kp MBe.bd .nil pass0 (pa_cons (pv 0) (pa_cons (pv 2) (pa_cons (pv 1) pa_nil)))))
      (pss_cons (ps_expr (pe_call GJo hr (by rfl) MJo.mg MJo.fn.kp MJo.bd .nil pass0 (pa_cons (pv 0) (pa_cons (pv 2) (pa_cons (pv 1) (pa_cons (pe_op op_add pe_int (pe_op op_mod (pe_call GC hr1 (by rfl) MC.mg MC.fn.kp MC.bd .nil pass0 (pa_cons (pv 0) (pa_cons pe_int pa_nil))) (pe_op op_pow pe_int pe_int))) pa_nil))))))
      htl))), ?_⟩
    -- the number
    refine ⟨_, rfl, a, ns, 0, rfl, hS.sq, hlen, by decide, by decide, fun v0 => ⟨_, _, rfl, rfl, (show (0 : Int) < 12 by decide), ?_⟩⟩
    have hn0 := Int.emod_nonneg v0 (show (12 : Int) ≠ 0 by decide)
    have hn1 := Int.emod_lt_of_pos v0 (show (0 : Int) < 12 by decide)
    obtain ⟨n, hn⟩ : ∃ n : Int, n = v0 % 12 := ⟨_, rfl⟩
    rw [← hn] at hn0 hn1
    refine ⟨n, (by rw [hn]; rfl), fun m h0 o0 l0 r0 H1 s1 nm nh no nl nr N1 => ?_⟩
    have hS1 := hS.keep (KeepT.of_same s1)
    -- the house
    refine ⟨_, rfl, m, _, rfl, N1.gHouse, fun p dx np ndx nex => ⟨p, dx, n, rfl, upd_same, fun hh oo ll rr H2 f1 f2 f3 f4 S2 kp2 => ⟨rfl, ?_⟩⟩⟩
    have s01 : Same H1 (upd (upd H1 dx (.own p)) p (.ins C dx [])) := fun b o e => by
      rw [upd_ne (ne_of_none e np), upd_ne (ne_of_none e ndx)]
      exact e
    have s2 : Same H1 H2 := fun b o e => kp2 b o (s01 b o e) (ne_of_none e np)
    have N2 := N1.same s2
    have hS2 := hS1.keep (KeepT.of_same s2)
    have tw2 : TwoW C p m H2 ⟨n, 0, 0, hh, oo, ll, rr, [], [], [], []⟩ ⟨n, 0, 0, h0, o0, l0, r0, [], [], [], []⟩ 0 := by
      refine ⟨S2, N2, ⟨rfl, rfl, rfl, rfl, rfl, rfl, rfl⟩, ⟨List.nodup_nil, Nat.le_refl _, List.nodup_nil, Nat.le_refl _, rfl, List.nodup_nil, Nat.le_refl _, fun q hq => (by cases hq), fun q hq => (by cases hq), fun q hq => (by cases hq), fun q hq => (by cases hq), fun q hq => (by cases hq)⟩, ⟨fun q hq => (by cases hq), fun q hq => (by cases hq)⟩, fun b hb => ?_⟩
      have hb1 : ∃ o, H1 b = some o := by
        rcases hb with hb | hb
        · rw [hb]; exact ⟨_, N1.ob⟩
        · rcases N1.foot_some hb with ⟨_, e⟩ | ⟨_, e⟩ <;> exact ⟨_, e⟩
      obtain ⟨o, e⟩ := hb1
      refine ⟨ne_of_none e np, fun z => ?_⟩
      have e2 := s01 _ _ e
      simp only [foot, List.map_nil, List.mem_cons, List.not_mem_nil, or_false] at z
      rcases z with z | z | z | z
      · rw [z, f1] at e2; cases e2
      · rw [z, f2] at e2; cases e2
      · rw [z, f3] at e2; cases e2
      · rw [z, f4] at e2; cases e2
    refine ⟨_, rfl, _, rfl, _, rfl, a, p, m, ns, _, _, rfl, hS2, hlen, tw2, rfl, rfl, rfl, rfl, rfl, hn0, hn1, fun G3 M3 H3 tw3 few3 pl3 ne3 ol3 mz3 kh3 hS3 => ?_⟩
    refine ⟨_, rfl, _, rfl, _, rfl, _, rfl, a, ns, 30, rfl, hS3.sq, hlen, by decide, by decide, fun v5 => ⟨_, _, rfl, rfl, ⟨by decide, by decide, by decide⟩, _, _, rfl, rfl, (show (0 : Int) < 10 ^ 59 by decide), _, _, rfl, rfl, ?_⟩⟩
    refine ⟨a, p, m, ns, _, G3, M3, rfl, hS3, hlen, tw3, few3, pl3, ne3, ol3, kh3, fun G4 M4 H4 tw4 few4 kO hS4 => ?_⟩
    have l4 : G4.outs.length = G3.outs.length := by
      have := congrArg List.length kO.1
      rwa [List.length_map, List.length_map] at this
    exact hsem a p m ns G4 M4 H4 hS4 hlen tw4 few4 (fun z => ne3 (List.length_eq_zero_iff.mp (by rw [← l4, z]; rfl))) (by rw [l4]; exact ol3) (by rw [kO.2]; exact mz3) k
end
end K15

def PySem.W.Fast.tw1285220563936606877 : Unit := ()
def PySem.W.Fast.tw2488505504372923940 : Unit := ()
def PySem.W.Fast.tw3484738726622082376 : Unit := ()
def PySem.W.Fast.tw14675941002704520529 : Unit := ()
def PySem.W.Fast.tw11393539689350081545 : Unit := ()
def PySem.W.Fast.tw6119492729667691084 : Unit := ()
def PySem.W.Fast.tw9376060845700058481 : Unit := ()
def PySem.W.Fast.tw13327900652767368693 : Unit := ()
def PySem.W.Fast.tw257026723256657107 : Unit := ()
def PySem.W.Fast.tw9457944549002748605 : Unit := ()
def PySem.W.Fast.tw8487968053634411090 : Unit := ()
def PySem.W.Fast.tw9208348847149937648 : Unit := ()
def PySem.W.Fast.tw3897533756293617473 : Unit := ()
def PySem.W.Fast.tw15984232175131674817 : Unit := ()
def PySem.W.Fast.tw698527797572314459 : Unit := ()
def PySem.W.Fast.tw191171034531378114 : Unit := ()
def PySem.W.Fast.tw6949995545127326369 : Unit := ()
def PySem.W.Fast.tw1381383415453548047 : Unit := ()
def PySem.W.Fast.tw15175460494855904232 : Unit := ()
def PySem.W.Fast.tw9933654889341938671 : Unit := ()
def PySem.W.Fast.tw14256348408554464052 : Unit := ()
def PySem.W.Fast.tw546792983016174398 : Unit := ()
def PySem.W.Fast.tw2572864324645979440 : Unit := ()
def PySem.W.Fast.tw10896341152467838558 : Unit := ()
def PySem.W.Fast.tw4110824859020660320 : Unit := ()
def PySem.W.Fast.tw2855215252886931489 : Unit := ()
def PySem.W.Fast.tw18216482920346008733 : Unit := ()
def PySem.W.Fast.tw14462396333152948260 : Unit := ()
def PySem.W.Fast.tw1154613274252011857 : Unit := ()
def PySem.W.Fast.tw9762508456101534016 : Unit := ()
def PySem.W.Fast.tw7818556196386762001 : Unit := ()
def PySem.W.Fast.tw155145872017242754 : Unit := ()
def PySem.W.Fast.tw17844429141236390656 : Unit := ()
def PySem.W.Fast.tw6629463048612351884 : Unit := ()
def PySem.W.Fast.tw9898895162379954597 : Unit := ()
def PySem.W.Fast.tw16652470942651953007 : Unit := ()
def PySem.W.Fast.tw8745658461103550583 : Unit := ()
def PySem.W.Fast.tw1092353319839891462 : Unit := ()
def PySem.W.Fast.tw12242393239992184975 : Unit := ()
def PySem.W.Fast.tw4635427781061249599 : Unit := ()
def PySem.W.Fast.tw1659662829224413684 : Unit := ()
def PySem.W.Fast.tw17864466539279169250 : Unit := ()
def PySem.W.Fast.tw14198233448658851137 : Unit := ()
def PySem.W.Fast.tw10374581451530235301 : Unit := ()
def PySem.W.Fast.tw9799480383320503596 : Unit := ()
def PySem.W.Fast.tw7265209048128695815 : Unit := ()
def PySem.W.Fast.tw812700232356744100 : Unit := ()
def PySem.W.Fast.tw17064720974754447781 : Unit := ()
def PySem.W.Fast.tw5439410460910766324 : Unit := ()
def PySem.W.Fast.tw13148431939288571732 : Unit := ()
def PySem.W.Fast.tw6405081501878388308 : Unit := ()
def PySem.W.Fast.tw9474686860268313330 : Unit := ()
def PySem.W.Fast.tw3060251082420493596 : Unit := ()
def PySem.W.Fast.tw12663174445581815952 : Unit := ()
def PySem.W.Fast.tw12792405424311708260 : Unit := ()
def PySem.W.Fast.tw7721966568937494332 : Unit := ()
def PySem.W.Fast.tw17138769398466383816 : Unit := ()
def PySem.W.Fast.tw17101909925720657800 : Unit := ()
def PySem.W.Fast.tw8967066030734402502 : Unit := ()
def PySem.W.Fast.tw10812709692410288831 : Unit := ()
def PySem.W.Fast.tw7160167345556984018 : Unit := ()
def PySem.W.Fast.tw18060273871134086899 : Unit := ()
def PySem.W.Fast.tw17849667740138178745 : Unit := ()
def PySem.W.Fast.tw13732290481997303655 : Unit := ()
def PySem.W.Fast.tw124504259262849731 : Unit := ()
def PySem.W.Fast.tw16015973418632946694 : Unit := ()
def PySem.W.Fast.tw1685407076415859540 : Unit := ()
def PySem.W.Fast.tw5627505990387414763 : Unit := ()
def PySem.W.Fast.tw7899400904748492185 : Unit := ()
def PySem.W.Fast.tw2733284197792797343 : Unit := ()
def PySem.W.Fast.tw11512963791998222027 : Unit := ()
def PySem.W.Fast.tw13892990277891709768 : Unit := ()
def PySem.W.Fast.tw14524314680508012185 : Unit := ()
def PySem.W.Fast.tw16073014803230081663 : Unit := ()
def PySem.W.Fast.tw377601062358574336 : Unit := ()
namespace K15
open PySem L2 FX
set_option linter.all false
/-! ### what the top has written, and the law's own head -/
theorem all_mk {l : PySem.W.OpenLaw} {w : World} {K : PySem.W.Frag} {h : Heap} {mg : Str → Option Value} {fa C XH XN XW fI fM fHo fFr fPa fCa fAd fLt fTi fSt fTo fNe fQH fQN fPR fAR fLo fGb fP1 fC1 fMo fMS fMM fMN fMB fML fBe fJo fW : Addr} (X : K.In h) (G : h.Ns mainGlobals mg) (hfa : mg "law" = some (.ref fa))
    {odI anI odM anM odHo anHo odFr anFr odPa anPa odCa anCa odAd anAd odLt anLt odTi anTi odSt anSt odTo anTo odNe anNe odQH anQH odQN anQN odPR anPR odAR anAR odLo anLo odGb anGb odP1 anP1 odC1 anC1 odMo anMo odMS anMS odMM anMM odMN anMN odMB anMB odML anML odBe anBe odJo anJo odW anW : Option Addr} {slI slM slHo slFr slPa slCa slAd slLt slTi slSt slTo slNe slQH slQN slPR slAR slLo slGb slP1 slC1 slMo slMS slMM slMN slMB slML slBe slJo slW : Array (Option Value)} {ocI kVI dcI pmI cdI ctI ocM kVM dcM pmM cdM ctM ocHo kVHo dcHo pmHo cdHo ctHo ocFr kVFr dcFr pmFr cdFr ctFr ocPa kVPa dcPa pmPa cdPa ctPa ocCa kVCa dcCa pmCa cdCa ctCa ocAd kVAd dcAd pmAd cdAd ctAd ocLt kVLt dcLt pmLt cdLt ctLt ocTi kVTi dcTi pmTi cdTi ctTi ocSt kVSt dcSt pmSt cdSt ctSt ocTo kVTo dcTo pmTo cdTo ctTo ocNe kVNe dcNe pmNe cdNe ctNe ocQH kVQH dcQH pmQH cdQH ctQH ocQN kVQN dcQN pmQN cdQN ctQN ocPR kVPR dcPR pmPR cdPR ctPR ocAR kVAR dcAR pmAR cdAR ctAR ocLo kVLo dcLo pmLo cdLo ctLo ocGb kVGb dcGb pmGb cdGb ctGb ocP1 kVP1 dcP1 pmP1 cdP1 ctP1 ocC1 kVC1 dcC1 pmC1 cdC1 ctC1 ocMo kVMo dcMo pmMo cdMo ctMo ocMS kVMS dcMS pmMS cdMS ctMS ocMM kVMM dcMM pmMM cdMM ctMM ocMN kVMN dcMN pmMN cdMN ctMN ocMB kVMB dcMB pmMB cdMB ctMB ocML kVML dcML pmML cdML ctML ocBe kVBe dcBe pmBe cdBe ctBe ocJo kVJo dcJo pmJo cdJo ctJo ocW kVW dcW pmW cdW ctW : Value}
    (aC : PySem.W.nsIn K mainGlobals "House" = some (some (.ref C)))
    (aXH : PySem.W.nsIn K mainGlobals "NotHeld" = some (some (.ref XH)))
    (aXN : PySem.W.nsIn K mainGlobals "NotNear" = some (some (.ref XN)))
    (aXW : PySem.W.nsIn K mainGlobals "NoWeight" = some (some (.ref XW)))
    (xXH : PySem.W.excIn K XH [.type "ValueError", .type "Exception", .type "BaseException", .type "object"] "ValueError.__new__" = true)
    (xXN : PySem.W.excIn K XN [.type "ValueError", .type "Exception", .type "BaseException", .type "object"] "ValueError.__new__" = true)
    (xXW : PySem.W.excIn K XW [.type "ValueError", .type "Exception", .type "BaseException", .type "object"] "ValueError.__new__" = true)
    (aI : PySem.W.findIn K (.ref C) "__init__" = some (some (.ref fI)))
    (iI : PySem.W.isFn K (.ref fI) = true)
    (lI : K.lookup fI = some ⟨ocI, odI, .func (PySem.W.fnOf "__init__" "House.__init__" (defArgs sInit) (defBody sInit) (defScope sInit) .none kVI dcI pmI anI cdI ctI), slI⟩)
    (cI : PySem.W.codeIn K cdI "House.__init__" = true)
    (kI : PySem.W.keepIn K (.ref fI) = true)
    (aM : PySem.W.findIn K (.ref C) "make" = some (some (.ref fM)))
    (iM : PySem.W.isFn K (.ref fM) = true)
    (lM : K.lookup fM = some ⟨ocM, odM, .func (PySem.W.fnOf "make" "House.make" (defArgs sMake) (defBody sMake) (defScope sMake) .none kVM dcM pmM anM cdM ctM), slM⟩)
    (cM : PySem.W.codeIn K cdM "House.make" = true)
    (kM : PySem.W.keepIn K (.ref fM) = true)
    (aHo : PySem.W.findIn K (.ref C) "hold" = some (some (.ref fHo)))
    (iHo : PySem.W.isFn K (.ref fHo) = true)
    (lHo : K.lookup fHo = some ⟨ocHo, odHo, .func (PySem.W.fnOf "hold" "House.hold" (defArgs sHold) (defBody sHold) (defScope sHold) .none kVHo dcHo pmHo anHo cdHo ctHo), slHo⟩)
    (cHo : PySem.W.codeIn K cdHo "House.hold" = true)
    (kHo : PySem.W.keepIn K (.ref fHo) = true)
    (aFr : PySem.W.findIn K (.ref C) "free" = some (some (.ref fFr)))
    (iFr : PySem.W.isFn K (.ref fFr) = true)
    (lFr : K.lookup fFr = some ⟨ocFr, odFr, .func (PySem.W.fnOf "free" "House.free" (defArgs sFree) (defBody sFree) (defScope sFree) .none kVFr dcFr pmFr anFr cdFr ctFr), slFr⟩)
    (cFr : PySem.W.codeIn K cdFr "House.free" = true)
    (kFr : PySem.W.keepIn K (.ref fFr) = true)
    (aPa : PySem.W.findIn K (.ref C) "part" = some (some (.ref fPa)))
    (iPa : PySem.W.isFn K (.ref fPa) = true)
    (lPa : K.lookup fPa = some ⟨ocPa, odPa, .func (PySem.W.fnOf "part" "House.part" (defArgs sPart) (defBody sPart) (defScope sPart) .none kVPa dcPa pmPa anPa cdPa ctPa), slPa⟩)
    (cPa : PySem.W.codeIn K cdPa "House.part" = true)
    (kPa : PySem.W.keepIn K (.ref fPa) = true)
    (aCa : PySem.W.findIn K (.ref C) "came" = some (some (.ref fCa)))
    (iCa : PySem.W.isFn K (.ref fCa) = true)
    (lCa : K.lookup fCa = some ⟨ocCa, odCa, .func (PySem.W.fnOf "came" "House.came" (defArgs sCame) (defBody sCame) (defScope sCame) .none kVCa dcCa pmCa anCa cdCa ctCa), slCa⟩)
    (cCa : PySem.W.codeIn K cdCa "House.came" = true)
    (kCa : PySem.W.keepIn K (.ref fCa) = true)
    (aAd : PySem.W.findIn K (.ref C) "added" = some (some (.ref fAd)))
    (iAd : PySem.W.isFn K (.ref fAd) = true)
    (lAd : K.lookup fAd = some ⟨ocAd, odAd, .func (PySem.W.fnOf "added" "House.added" (defArgs sAdded) (defBody sAdded) (defScope sAdded) .none kVAd dcAd pmAd anAd cdAd ctAd), slAd⟩)
    (cAd : PySem.W.codeIn K cdAd "House.added" = true)
    (kAd : PySem.W.keepIn K (.ref fAd) = true)
    (aLt : PySem.W.findIn K (.ref C) "let" = some (some (.ref fLt)))
    (iLt : PySem.W.isFn K (.ref fLt) = true)
    (lLt : K.lookup fLt = some ⟨ocLt, odLt, .func (PySem.W.fnOf "let" "House.let" (defArgs sLet) (defBody sLet) (defScope sLet) .none kVLt dcLt pmLt anLt cdLt ctLt), slLt⟩)
    (cLt : PySem.W.codeIn K cdLt "House.let" = true)
    (kLt : PySem.W.keepIn K (.ref fLt) = true)
    (aTi : PySem.W.findIn K (.ref C) "tick" = some (some (.ref fTi)))
    (iTi : PySem.W.isFn K (.ref fTi) = true)
    (lTi : K.lookup fTi = some ⟨ocTi, odTi, .func (PySem.W.fnOf "tick" "House.tick" (defArgs sTick) (defBody sTick) (defScope sTick) .none kVTi dcTi pmTi anTi cdTi ctTi), slTi⟩)
    (cTi : PySem.W.codeIn K cdTi "House.tick" = true)
    (kTi : PySem.W.keepIn K (.ref fTi) = true)
    (aSt : PySem.W.findIn K (.ref C) "state" = some (some (.ref fSt)))
    (iSt : PySem.W.isFn K (.ref fSt) = true)
    (lSt : K.lookup fSt = some ⟨ocSt, odSt, .func (PySem.W.fnOf "state" "House.state" (defArgs sState) (defBody sState) (defScope sState) .none kVSt dcSt pmSt anSt cdSt ctSt), slSt⟩)
    (cSt : PySem.W.codeIn K cdSt "House.state" = true)
    (kSt : PySem.W.keepIn K (.ref fSt) = true)
    (aTo : PySem.W.findIn K (.ref C) "told" = some (some (.ref fTo)))
    (iTo : PySem.W.isFn K (.ref fTo) = true)
    (lTo : K.lookup fTo = some ⟨ocTo, odTo, .func (PySem.W.fnOf "told" "House.told" (defArgs sTold) (defBody sTold) (defScope sTold) .none kVTo dcTo pmTo anTo cdTo ctTo), slTo⟩)
    (cTo : PySem.W.codeIn K cdTo "House.told" = true)
    (kTo : PySem.W.keepIn K (.ref fTo) = true)
    (aNe : PySem.W.findIn K (.ref C) "is_near" = some (some (.ref fNe)))
    (iNe : PySem.W.isFn K (.ref fNe) = true)
    (lNe : K.lookup fNe = some ⟨ocNe, odNe, .func (PySem.W.fnOf "is_near" "House.is_near" (defArgs sNear) (defBody sNear) (defScope sNear) .none kVNe dcNe pmNe anNe cdNe ctNe), slNe⟩)
    (cNe : PySem.W.codeIn K cdNe "House.is_near" = true)
    (kNe : PySem.W.keepIn K (.ref fNe) = true)
    (aQH : PySem.W.findIn K (.ref C) "need_in_hand" = some (some (.ref fQH)))
    (iQH : PySem.W.isFn K (.ref fQH) = true)
    (lQH : K.lookup fQH = some ⟨ocQH, odQH, .func (PySem.W.fnOf "need_in_hand" "House.need_in_hand" (defArgs sNeedH) (defBody sNeedH) (defScope sNeedH) .none kVQH dcQH pmQH anQH cdQH ctQH), slQH⟩)
    (cQH : PySem.W.codeIn K cdQH "House.need_in_hand" = true)
    (kQH : PySem.W.keepIn K (.ref fQH) = true)
    (aQN : PySem.W.findIn K (.ref C) "need_near" = some (some (.ref fQN)))
    (iQN : PySem.W.isFn K (.ref fQN) = true)
    (lQN : K.lookup fQN = some ⟨ocQN, odQN, .func (PySem.W.fnOf "need_near" "House.need_near" (defArgs sNeedN) (defBody sNeedN) (defScope sNeedN) .none kVQN dcQN pmQN anQN cdQN ctQN), slQN⟩)
    (cQN : PySem.W.codeIn K cdQN "House.need_near" = true)
    (kQN : PySem.W.keepIn K (.ref fQN) = true)
    (aPR : PySem.W.findIn K (.ref C) "part_record" = some (some (.ref fPR)))
    (iPR : PySem.W.isFn K (.ref fPR) = true)
    (lPR : K.lookup fPR = some ⟨ocPR, odPR, .func (PySem.W.fnOf "part_record" "House.part_record" (defArgs sPartR) (defBody sPartR) (defScope sPartR) .none kVPR dcPR pmPR anPR cdPR ctPR), slPR⟩)
    (cPR : PySem.W.codeIn K cdPR "House.part_record" = true)
    (kPR : PySem.W.keepIn K (.ref fPR) = true)
    (aAR : PySem.W.findIn K (.ref C) "add_to_record" = some (some (.ref fAR)))
    (iAR : PySem.W.isFn K (.ref fAR) = true)
    (lAR : K.lookup fAR = some ⟨ocAR, odAR, .func (PySem.W.fnOf "add_to_record" "House.add_to_record" (defArgs sAddR) (defBody sAddR) (defScope sAddR) .none kVAR dcAR pmAR anAR cdAR ctAR), slAR⟩)
    (cAR : PySem.W.codeIn K cdAR "House.add_to_record" = true)
    (kAR : PySem.W.keepIn K (.ref fAR) = true)
    (aLo : PySem.W.findIn K (.ref C) "lose" = some (some (.ref fLo)))
    (iLo : PySem.W.isFn K (.ref fLo) = true)
    (lLo : K.lookup fLo = some ⟨ocLo, odLo, .func (PySem.W.fnOf "lose" "House.lose" (defArgs sLose) (defBody sLose) (defScope sLose) .none kVLo dcLo pmLo anLo cdLo ctLo), slLo⟩)
    (cLo : PySem.W.codeIn K cdLo "House.lose" = true)
    (kLo : PySem.W.keepIn K (.ref fLo) = true)
    (aGb : PySem.W.findIn K (.ref C) "give_back" = some (some (.ref fGb)))
    (iGb : PySem.W.isFn K (.ref fGb) = true)
    (lGb : K.lookup fGb = some ⟨ocGb, odGb, .func (PySem.W.fnOf "give_back" "House.give_back" (defArgs sGive) (defBody sGive) (defScope sGive) .none kVGb dcGb pmGb anGb cdGb ctGb), slGb⟩)
    (cGb : PySem.W.codeIn K cdGb "House.give_back" = true)
    (kGb : PySem.W.keepIn K (.ref fGb) = true)
    (aP1 : PySem.W.nsIn K mainGlobals "parted" = some (some (.ref fP1)))
    (lP1 : K.lookup fP1 = some ⟨ocP1, odP1, .func (PySem.W.fnOf "parted" "parted" (defArgs sParted) (defBody sParted) (defScope sParted) .none kVP1 dcP1 pmP1 anP1 cdP1 ctP1), slP1⟩)
    (cP1 : PySem.W.codeIn K cdP1 "parted" = true)
    (kP1 : PySem.W.keepIn K (.ref fP1) = true)
    (aC1 : PySem.W.nsIn K mainGlobals "_law_cell" = some (some (.ref fC1)))
    (lC1 : K.lookup fC1 = some ⟨ocC1, odC1, .func (PySem.W.fnOf "_law_cell" "_law_cell" (defArgs sCell) (defBody sCell) (defScope sCell) .none kVC1 dcC1 pmC1 anC1 cdC1 ctC1), slC1⟩)
    (cC1 : PySem.W.codeIn K cdC1 "_law_cell" = true)
    (kC1 : PySem.W.keepIn K (.ref fC1) = true)
    (aMo : PySem.W.nsIn K mainGlobals "_law_model" = some (some (.ref fMo)))
    (lMo : K.lookup fMo = some ⟨ocMo, odMo, .func (PySem.W.fnOf "_law_model" "_law_model" (defArgs sModel) (defBody sModel) (defScope sModel) .none kVMo dcMo pmMo anMo cdMo ctMo), slMo⟩)
    (cMo : PySem.W.codeIn K cdMo "_law_model" = true)
    (kMo : PySem.W.keepIn K (.ref fMo) = true)
    (aMS : PySem.W.nsIn K mainGlobals "_law_state" = some (some (.ref fMS)))
    (lMS : K.lookup fMS = some ⟨ocMS, odMS, .func (PySem.W.fnOf "_law_state" "_law_state" (defArgs sMState) (defBody sMState) (defScope sMState) .none kVMS dcMS pmMS anMS cdMS ctMS), slMS⟩)
    (cMS : PySem.W.codeIn K cdMS "_law_state" = true)
    (kMS : PySem.W.keepIn K (.ref fMS) = true)
    (aMM : PySem.W.nsIn K mainGlobals "_law_made" = some (some (.ref fMM)))
    (lMM : K.lookup fMM = some ⟨ocMM, odMM, .func (PySem.W.fnOf "_law_made" "_law_made" (defArgs sMMade) (defBody sMMade) (defScope sMMade) .none kVMM dcMM pmMM anMM cdMM ctMM), slMM⟩)
    (cMM : PySem.W.codeIn K cdMM "_law_made" = true)
    (kMM : PySem.W.keepIn K (.ref fMM) = true)
    (aMN : PySem.W.nsIn K mainGlobals "_law_near" = some (some (.ref fMN)))
    (lMN : K.lookup fMN = some ⟨ocMN, odMN, .func (PySem.W.fnOf "_law_near" "_law_near" (defArgs sMNear) (defBody sMNear) (defScope sMNear) .none kVMN dcMN pmMN anMN cdMN ctMN), slMN⟩)
    (cMN : PySem.W.codeIn K cdMN "_law_near" = true)
    (kMN : PySem.W.keepIn K (.ref fMN) = true)
    (aMB : PySem.W.nsIn K mainGlobals "_law_backs" = some (some (.ref fMB)))
    (lMB : K.lookup fMB = some ⟨ocMB, odMB, .func (PySem.W.fnOf "_law_backs" "_law_backs" (defArgs sMBacks) (defBody sMBacks) (defScope sMBacks) .none kVMB dcMB pmMB anMB cdMB ctMB), slMB⟩)
    (cMB : PySem.W.codeIn K cdMB "_law_backs" = true)
    (kMB : PySem.W.keepIn K (.ref fMB) = true)
    (aML : PySem.W.nsIn K mainGlobals "_law_left" = some (some (.ref fML)))
    (lML : K.lookup fML = some ⟨ocML, odML, .func (PySem.W.fnOf "_law_left" "_law_left" (defArgs sMLeft) (defBody sMLeft) (defScope sMLeft) .none kVML dcML pmML anML cdML ctML), slML⟩)
    (cML : PySem.W.codeIn K cdML "_law_left" = true)
    (kML : PySem.W.keepIn K (.ref fML) = true)
    (aBe : PySem.W.nsIn K mainGlobals "_law_begun" = some (some (.ref fBe)))
    (lBe : K.lookup fBe = some ⟨ocBe, odBe, .func (PySem.W.fnOf "_law_begun" "_law_begun" (defArgs sBegun) (defBody sBegun) (defScope sBegun) .none kVBe dcBe pmBe anBe cdBe ctBe), slBe⟩)
    (cBe : PySem.W.codeIn K cdBe "_law_begun" = true)
    (kBe : PySem.W.keepIn K (.ref fBe) = true)
    (aJo : PySem.W.nsIn K mainGlobals "_law_joined" = some (some (.ref fJo)))
    (lJo : K.lookup fJo = some ⟨ocJo, odJo, .func (PySem.W.fnOf "_law_joined" "_law_joined" (defArgs sJoined) (defBody sJoined) (defScope sJoined) .none kVJo dcJo pmJo anJo cdJo ctJo), slJo⟩)
    (cJo : PySem.W.codeIn K cdJo "_law_joined" = true)
    (kJo : PySem.W.keepIn K (.ref fJo) = true)
    (aW : PySem.W.nsIn K mainGlobals "law" = some (some (.ref fW)))
    (lW : K.lookup fW = some ⟨ocW, odW, .func (PySem.W.fnOf "law" "law" (defArgs sLaw) (defBody sLaw) (defScope sLaw) .none kVW dcW pmW anW cdW ctW), slW⟩)
    (cW : PySem.W.codeIn K cdW "law" = true)
    (kW : PySem.W.keepIn K (.ref fW) = true)
    (pgC : PySem.W.plainGet K C Str.empty = true)
    (hdC : PySem.W.hasDictIn K C = true)
    (poC : PySem.W.plainOver K C = true)
    (saC : PySem.W.findIn K (.ref C) "__setattr__" = some (some (.builtin "object.__setattr__")))
    (mkC : PySem.W.makesIn K C = true)
    (kcC : PySem.W.keepIn K (.ref C) = true)
    (nC0 : PySem.W.findIn K (.ref C) "number" = some none)
    (nC1 : PySem.W.findIn K (.ref C) "made" = some none)
    (nC2 : PySem.W.findIn K (.ref C) "ticks" = some none)
    (nC3 : PySem.W.findIn K (.ref C) "hand" = some none)
    (nC4 : PySem.W.findIn K (.ref C) "outs" = some none)
    (nC5 : PySem.W.findIn K (.ref C) "holds" = some none)
    (nC6 : PySem.W.findIn K (.ref C) "records" = some none)
    (z0 : PySem.W.nsIn K mainGlobals "len" = some none)
    (z1 : PySem.W.nsIn K mainGlobals "range" = some none)
    (z2 : PySem.W.nsIn K mainGlobals "tuple" = some none)
    (z3 : PySem.W.nsIn K mainGlobals "sorted" = some none)
    (z4 : PySem.W.nsIn K mainGlobals "isinstance" = some none)
    (z5 : PySem.W.nsIn K mainGlobals "dict" = some none)
    (z6 : PySem.W.nsIn K mainGlobals "list" = some none)
    : ∃ fd : FuncData, (∀ (s : Shared) (v : Value), BindsTo s fd ⟨[v], []⟩ [("_law_script", v)]) ∧ ∀ base : Heap, K.In base → base.Ns mainGlobals mg → FnOk l.prog w K mg base CX0 5 fa fd ["_law_script"] (spLaw K) := by
  have e := hfa.symm.trans (PySem.W.mg_of X G aW)
  cases e
  have y0 := PySem.W.mg_none_of X G z0
  have y1 := PySem.W.mg_none_of X G z1
  have y2 := PySem.W.mg_none_of X G z2
  have y3 := PySem.W.mg_none_of X G z3
  have y4 := PySem.W.mg_none_of X G z4
  have y5 := PySem.W.mg_none_of X G z5
  have y6 := PySem.W.mg_none_of X G z6
  have gC := PySem.W.mg_of X G aC
  have gXH := PySem.W.mg_of X G aXH
  have gXN := PySem.W.mg_of X G aXN
  have gXW := PySem.W.mg_of X G aXW
  have FI := fun_mk (st := sInit) lI cI kI
  have bI := FI.binds (ps := ["self", "number"]) fun _ _ _ _ _ _ us hl => match us, hl with | [_, _], _ => rfl
  have FM := fun_mk (st := sMake) lM cM kM
  have bM := FM.binds (ps := ["self"]) fun _ _ _ _ _ _ us hl => match us, hl with | [_], _ => rfl
  have FHo := fun_mk (st := sHold) lHo cHo kHo
  have bHo := FHo.binds (ps := ["self", "a", "b"]) fun _ _ _ _ _ _ us hl => match us, hl with | [_, _, _], _ => rfl
  have FFr := fun_mk (st := sFree) lFr cFr kFr
  have bFr := FFr.binds (ps := ["self", "b"]) fun _ _ _ _ _ _ us hl => match us, hl with | [_, _], _ => rfl
  have FPa := fun_mk (st := sPart) lPa cPa kPa
  have bPa := FPa.binds (ps := ["self", "b", "share"]) fun _ _ _ _ _ _ us hl => match us, hl with | [_, _, _], _ => rfl
  have FCa := fun_mk (st := sCame) lCa cCa kCa
  have bCa := FCa.binds (ps := ["self", "b", "weight"]) fun _ _ _ _ _ _ us hl => match us, hl with | [_, _, _], _ => rfl
  have FAd := fun_mk (st := sAdded) lAd cAd kAd
  have bAd := FAd.binds (ps := ["self", "b", "weight"]) fun _ _ _ _ _ _ us hl => match us, hl with | [_, _, _], _ => rfl
  have FLt := fun_mk (st := sLet) lLt cLt kLt
  have bLt := FLt.binds (ps := ["self", "things"]) fun _ _ _ _ _ _ us hl => match us, hl with | [_, _], _ => rfl
  have FTi := fun_mk (st := sTick) lTi cTi kTi
  have bTi := FTi.binds (ps := ["self"]) fun _ _ _ _ _ _ us hl => match us, hl with | [_], _ => rfl
  have FSt := fun_mk (st := sState) lSt cSt kSt
  have bSt := FSt.binds (ps := ["self"]) fun _ _ _ _ _ _ us hl => match us, hl with | [_], _ => rfl
  have FTo := fun_mk (st := sTold) lTo cTo kTo
  have bTo := FTo.binds (ps := ["self", "thing"]) fun _ _ _ _ _ _ us hl => match us, hl with | [_, _], _ => rfl
  have FNe := fun_mk (st := sNear) lNe cNe kNe
  have bNe := FNe.binds (ps := ["self", "thing"]) fun _ _ _ _ _ _ us hl => match us, hl with | [_, _], _ => rfl
  have FQH := fun_mk (st := sNeedH) lQH cQH kQH
  have bQH := FQH.binds (ps := ["self", "thing"]) fun _ _ _ _ _ _ us hl => match us, hl with | [_, _], _ => rfl
  have FQN := fun_mk (st := sNeedN) lQN cQN kQN
  have bQN := FQN.binds (ps := ["self", "thing"]) fun _ _ _ _ _ _ us hl => match us, hl with | [_, _], _ => rfl
  have FPR := fun_mk (st := sPartR) lPR cPR kPR
  have bPR := FPR.binds (ps := ["self", "b"]) fun _ _ _ _ _ _ us hl => match us, hl with | [_, _], _ => rfl
  have FAR := fun_mk (st := sAddR) lAR cAR kAR
  have bAR := FAR.binds (ps := ["self", "b", "weight"]) fun _ _ _ _ _ _ us hl => match us, hl with | [_, _, _], _ => rfl
  have FLo := fun_mk (st := sLose) lLo cLo kLo
  have bLo := FLo.binds (ps := ["self", "things"]) fun _ _ _ _ _ _ us hl => match us, hl with | [_, _], _ => rfl
  have FGb := fun_mk (st := sGive) lGb cGb kGb
  have bGb := FGb.binds (ps := ["self"]) fun _ _ _ _ _ _ us hl => match us, hl with | [_], _ => rfl
  have FP1 := fun_mk (st := sParted) lP1 cP1 kP1
  have bP1 := FP1.binds (ps := ["weight"]) fun _ _ _ _ _ _ us hl => match us, hl with | [_], _ => rfl
  have gP1 := PySem.W.mg_of X G aP1
  have FC1 := fun_mk (st := sCell) lC1 cC1 kC1
  have bC1 := FC1.binds (ps := ["_law_script", "_law_k"]) fun _ _ _ _ _ _ us hl => match us, hl with | [_, _], _ => rfl
  have gC1 := PySem.W.mg_of X G aC1
  have FMo := fun_mk (st := sModel) lMo cMo kMo
  have bMo := FMo.binds (ps := ["_law_number"]) fun _ _ _ _ _ _ us hl => match us, hl with | [_], _ => rfl
  have gMo := PySem.W.mg_of X G aMo
  have FMS := fun_mk (st := sMState) lMS cMS kMS
  have bMS := FMS.binds (ps := ["_law_model_here"]) fun _ _ _ _ _ _ us hl => match us, hl with | [_], _ => rfl
  have gMS := PySem.W.mg_of X G aMS
  have FMM := fun_mk (st := sMMade) lMM cMM kMM
  have bMM := FMM.binds (ps := ["_law_model_here"]) fun _ _ _ _ _ _ us hl => match us, hl with | [_], _ => rfl
  have gMM := PySem.W.mg_of X G aMM
  have FMN := fun_mk (st := sMNear) lMN cMN kMN
  have bMN := FMN.binds (ps := ["_law_model_here", "_law_starts"]) fun _ _ _ _ _ _ us hl => match us, hl with | [_, _], _ => rfl
  have gMN := PySem.W.mg_of X G aMN
  have FMB := fun_mk (st := sMBacks) lMB cMB kMB
  have bMB := FMB.binds (ps := ["_law_model_here"]) fun _ _ _ _ _ _ us hl => match us, hl with | [_], _ => rfl
  have gMB := PySem.W.mg_of X G aMB
  have FML := fun_mk (st := sMLeft) lML cML kML
  have bML := FML.binds (ps := ["_law_model_here", "_law_near_here"]) fun _ _ _ _ _ _ us hl => match us, hl with | [_, _], _ => rfl
  have gML := PySem.W.mg_of X G aML
  have FBe := fun_mk (st := sBegun) lBe cBe kBe
  have bBe := FBe.binds (ps := ["_law_script", "_law_house", "_law_model_here"]) fun _ _ _ _ _ _ us hl => match us, hl with | [_, _, _], _ => rfl
  have gBe := PySem.W.mg_of X G aBe
  have FJo := fun_mk (st := sJoined) lJo cJo kJo
  have bJo := FJo.binds (ps := ["_law_script", "_law_house", "_law_model_here", "_law_share"]) fun _ _ _ _ _ _ us hl => match us, hl with | [_, _, _, _], _ => rfl
  have gJo := PySem.W.mg_of X G aJo
  have FW := fun_mk (st := sLaw) lW cW kW
  have T2 : Txt2 mg := ⟨y5, y6⟩
  have T : Txt K mg C XH XN XH XW := ⟨⟨pgC, hdC, poC, saC⟩, nC0, nC1, nC2, nC3, nC4, nC5, nC6, gC, ⟨gXH, xXH⟩, ⟨gXN, xXN⟩, ⟨gXW, xXW⟩, y0, y1, y2, y3, y4⟩
  exact ⟨PySem.W.fnOf "law" "law" (defArgs sLaw) (defBody sLaw) (defScope sLaw) .none kVW dcW pmW anW cdW ctW, fun s v => .of_eq rfl, fun base _ _ => ok_law FW T T2 ⟨mkC, aI, iI, kcC⟩ FI bI ⟨FM, bM, ⟨aM, iM, kM⟩⟩ ⟨FSt, bSt, ⟨aSt, iSt, kSt⟩⟩ ⟨FTo, bTo, ⟨aTo, iTo, kTo⟩⟩ ⟨FTi, bTi, ⟨aTi, iTi, kTi⟩⟩ ⟨FNe, bNe, ⟨aNe, iNe, kNe⟩⟩ ⟨FQH, bQH, ⟨aQH, iQH, kQH⟩⟩ ⟨FQN, bQN, ⟨aQN, iQN, kQN⟩⟩ ⟨FAR, bAR, ⟨aAR, iAR, kAR⟩⟩ ⟨FPR, bPR, ⟨aPR, iPR, kPR⟩⟩ ⟨FHo, bHo, ⟨aHo, iHo, kHo⟩⟩ ⟨FPa, bPa, ⟨aPa, iPa, kPa⟩⟩ ⟨FCa, bCa, ⟨aCa, iCa, kCa⟩⟩ ⟨FAd, bAd, ⟨aAd, iAd, kAd⟩⟩ ⟨FFr, bFr, ⟨aFr, iFr, kFr⟩⟩ ⟨FLt, bLt, ⟨aLt, iLt, kLt⟩⟩ ⟨FLo, bLo, ⟨aLo, iLo, kLo⟩⟩ ⟨FGb, bGb, ⟨aGb, iGb, kGb⟩⟩ ⟨FP1, bP1, gP1⟩ ⟨FC1, bC1, gC1⟩ ⟨FMo, bMo, gMo⟩ ⟨FMS, bMS, gMS⟩ ⟨FMM, bMM, gMM⟩ ⟨FMN, bMN, gMN⟩ ⟨FMB, bMB, gMB⟩ ⟨FML, bML, gML⟩ ⟨FBe, bBe, gBe⟩ ⟨FJo, bJo, gJo⟩⟩
theorem walk {l : PySem.W.OpenLaw} {q : Program} {loose : List Str} {XP : (Str → Option Value) → Heap → Prop} {YP : World → Heap → Prop} {d : DefRec} {K : Params → PySem.W.Frag} (hn : l.most = some 63) (hdf : d.params.defaults = [])
    (hY : ∀ (w : World) (h : Heap), YP w h → (K w.params).In h)
    (F : ∀ (w : World) (mg : Str → Option Value) (fa : Addr) (h : Heap), (K w.params).In h → h.Ns mainGlobals mg → mg d.name = some (.ref fa) →
      ∃ fd : FuncData, (∀ (s : Shared) (u : Value), BindsTo s fd ⟨[u], []⟩ [("_law_script", u)]) ∧ ∀ base : Heap, (K w.params).In base → base.Ns mainGlobals mg → FnOk l.prog w (K w.params) mg base CX0 5 fa fd ["_law_script"] (spLaw (K w.params))) :
    PySem.W.WalkO q loose XP YP l.row.toRowW d [] (fun f vs => PySem.call f vs) :=
  L2.walk_of (n := 63) (k := 5) (x := "_law_script") (CX := fun w => CX0) (sp := fun w => spLaw (K w.params)) hn (by decide) hdf ⟨rfl, by decide, by decide⟩ hY F (fun _ H a ns hl hO hS => ⟨a, ns, rfl, Scr.of hO hS, hl, fun _ => rfl⟩) fun _ _ _ _ _ z => z
end K15
open PySem PySem.W PyProof.Rows
set_option maxRecDepth 100000 in
set_option maxHeartbeats 0 in
theorem PySem.Challenge.cw_farhold_k15_let_holds : PySem.Challenge.rw_farhold_k15_let.Holds := by
  w_on; o_law; k_head; (case hw => w_witness2)
  k_fill
  refine K15.walk (l := PySem.Challenge.rw_farhold_k15_let) rfl rfl (fun w h Y => PySem.W.kIn_of Y) ?F
  case F =>
    intro w mg fa h KX G hmg
    refine' K15.all_mk KX G hmg ?aC ?aXH ?aXN ?aXW ?xXH ?xXN ?xXW ?aI ?iI ?lI ?cI ?kI ?aM ?iM ?lM ?cM ?kM ?aHo ?iHo ?lHo ?cHo ?kHo ?aFr ?iFr ?lFr ?cFr ?kFr ?aPa ?iPa ?lPa ?cPa ?kPa ?aCa ?iCa ?lCa ?cCa ?kCa ?aAd ?iAd ?lAd ?cAd ?kAd ?aLt ?iLt ?lLt ?cLt ?kLt ?aTi ?iTi ?lTi ?cTi ?kTi ?aSt ?iSt ?lSt ?cSt ?kSt ?aTo ?iTo ?lTo ?cTo ?kTo ?aNe ?iNe ?lNe ?cNe ?kNe ?aQH ?iQH ?lQH ?cQH ?kQH ?aQN ?iQN ?lQN ?cQN ?kQN ?aPR ?iPR ?lPR ?cPR ?kPR ?aAR ?iAR ?lAR ?cAR ?kAR ?aLo ?iLo ?lLo ?cLo ?kLo ?aGb ?iGb ?lGb ?cGb ?kGb ?aP1 ?lP1 ?cP1 ?kP1 ?aC1 ?lC1 ?cC1 ?kC1 ?aMo ?lMo ?cMo ?kMo ?aMS ?lMS ?cMS ?kMS ?aMM ?lMM ?cMM ?kMM ?aMN ?lMN ?cMN ?kMN ?aMB ?lMB ?cMB ?kMB ?aML ?lML ?cML ?kML ?aBe ?lBe ?cBe ?kBe ?aJo ?lJo ?cJo ?kJo ?aW ?lW ?cW ?kW ?pgC ?hdC ?poC ?saC ?mkC ?kcC ?nC0 ?nC1 ?nC2 ?nC3 ?nC4 ?nC5 ?nC6 ?z0 ?z1 ?z2 ?z3 ?z4 ?z5 ?z6
    (case aC => k_is); (case aXH => k_is); (case aXN => k_is); (case aXW => k_is); (case xXH => k_exc); (case xXN => k_exc)
    (case xXW => k_exc); (case aI => k_is); (case iI => k_is); (case lI => k_is); (case cI => k_is); (case kI => k_is)
    (case aM => k_is); (case iM => k_is); (case lM => k_is); (case cM => k_is); (case kM => k_is); (case aHo => k_is)
    (case iHo => k_is); (case lHo => k_is); (case cHo => k_is); (case kHo => k_is); (case aFr => k_is); (case iFr => k_is)
    (case lFr => k_is); (case cFr => k_is); (case kFr => k_is); (case aPa => k_is); (case iPa => k_is); (case lPa => k_is)
    (case cPa => k_is); (case kPa => k_is); (case aCa => k_is); (case iCa => k_is); (case lCa => k_is); (case cCa => k_is)
    (case kCa => k_is); (case aAd => k_is); (case iAd => k_is); (case lAd => k_is); (case cAd => k_is); (case kAd => k_is)
    (case aLt => k_is); (case iLt => k_is); (case lLt => k_is); (case cLt => k_is); (case kLt => k_is); (case aTi => k_is)
    (case iTi => k_is); (case lTi => k_is); (case cTi => k_is); (case kTi => k_is); (case aSt => k_is); (case iSt => k_is)
    (case lSt => k_is); (case cSt => k_is); (case kSt => k_is); (case aTo => k_is); (case iTo => k_is); (case lTo => k_is)
    (case cTo => k_is); (case kTo => k_is); (case aNe => k_is); (case iNe => k_is); (case lNe => k_is); (case cNe => k_is)
    (case kNe => k_is); (case aQH => k_is); (case iQH => k_is); (case lQH => k_is); (case cQH => k_is); (case kQH => k_is)
    (case aQN => k_is); (case iQN => k_is); (case lQN => k_is); (case cQN => k_is); (case kQN => k_is); (case aPR => k_is)
    (case iPR => k_is); (case lPR => k_is); (case cPR => k_is); (case kPR => k_is); (case aAR => k_is); (case iAR => k_is)
    (case lAR => k_is); (case cAR => k_is); (case kAR => k_is); (case aLo => k_is); (case iLo => k_is); (case lLo => k_is)
    (case cLo => k_is); (case kLo => k_is); (case aGb => k_is); (case iGb => k_is); (case lGb => k_is); (case cGb => k_is)
    (case kGb => k_is); (case aP1 => k_is); (case lP1 => k_is); (case cP1 => k_is); (case kP1 => k_is); (case aC1 => k_is)
    (case lC1 => k_is); (case cC1 => k_is); (case kC1 => k_is); (case aMo => k_is); (case lMo => k_is); (case cMo => k_is)
    (case kMo => k_is); (case aMS => k_is); (case lMS => k_is); (case cMS => k_is); (case kMS => k_is); (case aMM => k_is)
    (case lMM => k_is); (case cMM => k_is); (case kMM => k_is); (case aMN => k_is); (case lMN => k_is); (case cMN => k_is)
    (case kMN => k_is); (case aMB => k_is); (case lMB => k_is); (case cMB => k_is); (case kMB => k_is); (case aML => k_is)
    (case lML => k_is); (case cML => k_is); (case kML => k_is); (case aBe => k_is); (case lBe => k_is); (case cBe => k_is)
    (case kBe => k_is); (case aJo => k_is); (case lJo => k_is); (case cJo => k_is); (case kJo => k_is); (case aW => k_is)
    (case lW => k_is); (case cW => k_is); (case kW => k_is); (case pgC => k_is); (case hdC => k_is); (case poC => k_is)
    (case saC => k_is); (case mkC => k_is); (case kcC => k_is); (case nC0 => k_is); (case nC1 => k_is); (case nC2 => k_is)
    (case nC3 => k_is); (case nC4 => k_is); (case nC5 => k_is); (case nC6 => k_is); (case z0 => k_is); (case z1 => k_is)
    (case z2 => k_is); (case z3 => k_is); (case z4 => k_is); (case z5 => k_is); (case z6 => k_is)

