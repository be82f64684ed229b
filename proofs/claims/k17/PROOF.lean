import PyProof.Rows.All
import Wide.All
import OpenK.AllK
import Wide.FinOn
import Lean
import PyProof.EqAt
import PyProof.EqKinds
import PyProof.TupleCall
import PySem.Challenge.RW_tossbook_k17_refused
set_option Elab.async false
set_option linter.all false
set_option maxRecDepth 100000
namespace L2
open PySem PySem.Spec PyProof.Rows

/-- a key: an int or a str -/
abbrev Key := Sum Int Str
def keyIs : Key → Value → Bool
  | .inl k, v => Value.isInt k v
  | .inr x, v => Value.isStrOf x v
def keyH (w : World) : Key → Int
  | .inl k => hashInt k
  | .inr x => hashStr w x
theorem keyIs_shape : ∀ {k : Key} {v : Value}, keyIs k v = true → (∃ i t, k = Sum.inl i ∧ v = Value.int i t) ∨ (∃ x t, k = Sum.inr x ∧ v = Value.str x t)
  | .inl i, v, h => by
    obtain ⟨t, e⟩ := Value.isInt_shape (k := i) (v := v) h
    exact .inl ⟨i, t, rfl, e⟩
  | .inr x, v, h => by
    obtain ⟨t, e⟩ := Value.isStrOf_shape (x := x) (v := v) h
    exact .inr ⟨x, t, rfl, e⟩
theorem keyIs_int (i : Int) (t : Tok) : keyIs (.inl i) (.int i t) = true := by simp [keyIs, Value.isInt]
theorem keyIs_str (x : Str) (t : Tok) : keyIs (.inr x) (.str x t) = true := by simp [keyIs, Value.isStrOf]
theorem key_ll (a b : Int) : decide ((Sum.inl a : Key) = Sum.inl b) = (a == b) := by
  by_cases e : a = b
  · subst e; simp
  · have h : ¬ (Sum.inl a : Key) = Sum.inl b := fun q => e (Sum.inl.inj q)
    rw [decide_eq_false h]
    exact (beq_eq_false_iff_ne.mpr e).symm
theorem key_rr (a b : Str) : decide ((Sum.inr a : Key) = Sum.inr b) = decide (a = b) := by
  by_cases e : a = b
  · subst e; simp
  · have h : ¬ (Sum.inr a : Key) = Sum.inr b := fun q => e (Sum.inr.inj q)
    rw [decide_eq_false h, decide_eq_false e]
theorem key_lr (a : Int) (b : Str) : decide ((Sum.inl a : Key) = Sum.inr b) = false := decide_eq_false (fun q => nomatch q)
theorem key_rl (a : Str) (b : Int) : decide ((Sum.inr a : Key) = Sum.inl b) = false := decide_eq_false (fun q => nomatch q)

def mixKind (prog : Program) (w : World) : PySem.KeyKind prog w Key where
  is := keyIs
  hash := keyH w
  inj := fun v a b ha hb => by
    rcases keyIs_shape ha with ⟨i, t, rfl, rfl⟩ | ⟨x, t, rfl, rfl⟩
    · rcases keyIs_shape hb with ⟨j, u, rfl, e⟩ | ⟨y, u, rfl, e⟩
      · injection e with e1 _; rw [e1]
      · exact nomatch e
    · rcases keyIs_shape hb with ⟨j, u, rfl, e⟩ | ⟨y, u, rfl, e⟩
      · exact nomatch e
      · injection e with e1 _; rw [e1]
  byValue := fun k v h => by
    rcases keyIs_shape h with ⟨i, t, rfl, rfl⟩ | ⟨x, t, rfl, rfl⟩ <;> rfl
  pyHash := fun hv h => by
    rcases keyIs_shape hv with ⟨i, t, rfl, rfl⟩ | ⟨x, t, rfl, rfl⟩
    · exact wpAny_pyHash_int h
    · exact wpAny_pyHash_str h
  eqBool := fun hu hv h => by
    rcases keyIs_shape hu with ⟨i, t, rfl, rfl⟩ | ⟨x, t, rfl, rfl⟩
    · rcases keyIs_shape hv with ⟨j, u, rfl, rfl⟩ | ⟨y, u, rfl, rfl⟩
      · rw [key_ll] at h; exact wpAny_eqBool_int h
      · rw [key_lr] at h; exact SeqAt.EqAt.int_str i t y u _ _ _ _ h
    · rcases keyIs_shape hv with ⟨j, u, rfl, rfl⟩ | ⟨y, u, rfl, rfl⟩
      · rw [key_rl] at h; exact SeqAt.EqAt.str_int x t j u _ _ _ _ h
      · rw [key_rr] at h; exact wpAny_eqBool_str h
  «strs» := fun k x t v h => by
    rcases keyIs_shape h with ⟨i, u, rfl, e⟩ | ⟨y, u, rfl, e⟩
    · exact nomatch e
    · injection e with e1 _
      subst e1
      cases v <;> rfl

theorem mixKind_int (prog : Program) (w : World) (i : Int) (t : Tok) : (mixKind prog w).is (.inl i) (.int i t) = true := keyIs_int i t
theorem mixKind_str (prog : Program) (w : World) (x : Str) (t : Tok) : (mixKind prog w).is (.inr x) (.str x t) = true := keyIs_str x t
end L2

namespace L2
open PySem PySem.Spec PyProof.Rows

/-- a value, without the heap -/
inductive V where
  | non | bl (b : Bool) | int (i : Int) | str (x : Str) | byt (b : Array UInt8) | flt (b : UInt64) | ref (a : Addr) | ty (n : String)
  deriving DecidableEq

def RelV : V → Value → Prop
  | .non, u => u = Value.none
  | .bl b, u => u = Value.bool b
  | .int i, u => ∃ t, u = Value.int i t
  | .str x, u => ∃ t, u = Value.str x t
  | .byt b, u => ∃ t, u = Value.bytes b t
  | .flt b, u => ∃ t, u = Value.float b t
  | .ref a, u => u = Value.ref a
  | .ty n, u => u = Value.type n

abbrev Vals : List V → List Value → Prop := Paired RelV
theorem Vals.length {xs : List V} {us : List Value} (r : Vals xs us) : xs.length = us.length := Paired.length r
theorem Vals.get : ∀ {xs : List V} {us : List Value} {i : Nat} {x : V}, Vals xs us → xs[i]? = some x → ∃ u, us[i]? = some u ∧ RelV x u
  | _, _, _, _, .nil, e => by simp at e
  | _, _, 0, _, .cons r _, e => by simp at e; subst e; exact ⟨_, rfl, r⟩
  | _, _, i + 1, x, .cons _ t, e => by
    obtain ⟨u, h1, h2⟩ := Vals.get (i := i) (x := x) t (by simpa using e)
    exact ⟨u, by simpa using h1, h2⟩
theorem Vals.append : ∀ {xs ys : List V} {us ws : List Value}, Vals xs us → Vals ys ws → Vals (xs ++ ys) (us ++ ws)
  | _, _, _, _, .nil, s => s
  | _, _, _, _, .cons r t, s => .cons r (Vals.append t s)
def RelO : Option V → Option Value → Prop
  | some v, some u => RelV v u
  | none, none => True
  | _, _ => False
def KV {κ : Type} : List (κ × V) → List (κ × Value) → Prop := Paired fun (p : κ × V) (q : κ × Value) => p.1 = q.1 ∧ RelV p.2 q.2

/-- a key of a dict (00_mix): an int or a text -/
def kV : Key → V
  | .inl i => .int i
  | .inr x => .str x

/-- what stands at a tracked address -/
inductive HO where
  /-- a list -/
  | lst (xs : List V)
  /-- a tuple (never changes) -/
  | tup (xs : List V)
  /-- a dict whose keys are ints and texts; one whose keys are tuples of ints and texts (the empty one is both) -/
  | dK (kvs : List (Key × V)) | dT (kvs : List (List Key × V))
  /-- a set of ints: its members, its size -/
  | set (S : Int → Bool) (n : Nat)
  /-- an instance of the class at C, its dict at dx, its attributes -/
  | ins (C dx : Addr) (fs : List (Str × V))
  /-- the dict of the instance at x -/
  | own (x : Addr)
  /-- the dict of an exception -/
  | xd (fs : List (Str × V))
  /-- a bound method, f of x -/
  | met (f x : Addr)
  /-- a range object lo, lo + 1, .. below hi -/
  | rng (lo hi : Int)
  /-- a thing that is known to the object (the script; a dict while a loop walks it): read, never written while it is so -/
  | frz (o : Obj) (u : HO)
  /-- a code object's table -/
  | tbl (ps : Array Value)
  /-- any other thing, by what is true of its one object (a def of one's own: SetO a S n := HO.ext fun h => ..) -/
  | ext (φ : Heap → Prop)

abbrev Hp := Addr → Option HO
def upd (H : Hp) (a : Addr) (o : HO) : Hp := fun b => if b = a then some o else H b
theorem upd_same {H : Hp} {a : Addr} {o : HO} : upd H a o a = some o := by unfold upd; rw [if_pos rfl]
theorem upd_ne {H : Hp} {a b : Addr} {o : HO} (h : b ≠ a) : upd H a o b = H b := by unfold upd; rw [if_neg h]
/-- two objects of different content stand apart -/
theorem ne_of {H : Hp} {a b : Addr} {o u : HO} (h : H a = some o) (h' : H b = some u) (d : o ≠ u) : a ≠ b := by
  intro e; subst e; rw [h] at h'; exact d (Option.some.inj h')
theorem ne_of_none {H : Hp} {a b : Addr} {o : HO} (h : H a = some o) (h' : H b = none) : a ≠ b := by
  intro e; subst e; rw [h] at h'; cases h'

section
variable (P : Program) (w : World)
def ObjOk (H : Hp) (h : Heap) (a : Addr) : HO → Prop
  | .lst xs => xs.length ≤ sizeLine ∧ ∃ (its : List Value) (n : Nat), Vals xs its ∧ h.get? a = some { cls := .type "list", data := .seq its.toArray n }
  | .tup xs => xs.length ≤ sizeLine ∧ ∃ its : List Value, Vals xs its ∧ IsTup h a its.toArray
  | .dK kvs => kvs.length ≤ sizeLine ∧ (a == sysModules) = false ∧ ∃ vs, KV kvs vs ∧ h.DictOf (mixKind P w) a vs
  | .dT kvs => kvs.length ≤ sizeLine ∧ (a == sysModules) = false ∧ ∃ xs : List (List Key × Addr × Value),
      Paired (fun (p : List Key × V) (q : List Key × Addr × Value) => p.1 = q.1 ∧ H q.2.1 = some (.tup (p.1.map kV)) ∧ RelV p.2 q.2.2) kvs xs ∧
      ∃ o es ep, h.get? a = some o ∧ o.ExactDict ∧ o.data = .dict es ep ∧ es.toList = xs.map (entryOfKey (tupleKind (mixKind P w))) ∧ (xs.map (·.1)).Nodup
  | .set S n => h.SetOf (intKind P w) a S n
  | .ins C dx fs => H dx = some (.own a) ∧ fs.length ≤ 1000 ∧ dx ≠ a ∧ h.get? a = some (PySem.W.instObj C dx) ∧
      ∃ mA, h.Ns1 dx mA ∧ (∀ f, RelO (fs.lookup f) (mA f)) ∧ PySem.Within mA (fs.map (·.1))
  | .own _ => ∃ o, h.get? a = some o
  | .xd fs => ∃ mA, h.Ns1 a mA ∧ ∀ f, RelO (fs.lookup f) (mA f)
  | .rng lo hi => ∃ t u v, h.get? a = some { cls := .type "range", data := .fields #[.int lo t, .int hi u, .int 1 v] }
  | .frz o u => h.get? a = some o ∧ ObjOk H h a u
  | .tbl ps => h.get? a = some { cls := .none, data := .fields ps }
  | .met f x => h.get? a = some (PySem.W.methodObj (.ref f) (.ref x))
  | .ext φ => φ h ∧ (∃ o, h.get? a = some o) ∧ ∀ h1 h2 : Heap, φ h1 → (∀ o, h1.get? a = some o → h2.get? a = some o) → φ h2
/-- the abstract heap is held -/
def HOk (H : Hp) (h : Heap) : Prop := ∀ a o, H a = some o → ObjOk P w H h a o
end

section
variable {P : Program} {w : World} {H H' : Hp} {h h' : Heap} {a : Addr} {o : HO}
theorem ObjOk.lt (x : ObjOk P w H h a o) : a < h.objs.size := by
  cases o with
  | lst xs => obtain ⟨_, _, _, _, e⟩ := x; exact Heap.lt_size e
  | tup xs => obtain ⟨_, _, _, p⟩ := x; exact p.lt
  | dK kvs => obtain ⟨_, _, _, _, o, _, _, e, _⟩ := x; exact Heap.lt_size e
  | dT kvs => obtain ⟨_, _, _, _, o, _, _, e, _⟩ := x; exact Heap.lt_size e
  | set S n => obtain ⟨o, _, _, _, e, _⟩ := x; exact Heap.lt_size e
  | ins C dx fs => obtain ⟨_, _, _, e, _⟩ := x; exact Heap.lt_size e
  | own y => obtain ⟨_, e⟩ := x; exact Heap.lt_size e
  | xd fs => obtain ⟨_, ⟨_, _, _, e, _⟩, _⟩ := x; exact Heap.lt_size e
  | rng lo hi => obtain ⟨_, _, _, e⟩ := x; exact Heap.lt_size e
  | frz ob u => obtain ⟨e, _⟩ := x; exact Heap.lt_size e
  | tbl ps => exact Heap.lt_size (show h.get? a = some _ from x)
  | met f y => exact Heap.lt_size (show h.get? a = some _ from x)
  | ext φ => obtain ⟨_, ⟨_, e⟩, _⟩ := x; exact Heap.lt_size e
theorem Paired.mapP {α β : Type} {F G : α → β → Prop} : ∀ {l₁ : List α} {l₂ : List β}, Paired F l₁ l₂ → (∀ a b, F a b → G a b) → Paired G l₁ l₂
  | _, _, .nil, _ => .nil
  | _, _, .cons r t, f => .cons (f _ _ r) (Paired.mapP t f)
/-- what an object's description leans on: its own object, its own dict, the tuples -/
theorem ObjOk.stay (x : ObjOk P w H h a o) (k : ∀ b u, (b = a ∨ H b = some (.own a)) → h.get? b = some u → h'.get? b = some u)
    (ho : ∀ b, H b = some (.own a) → H' b = some (.own a)) (ht : ∀ b xs, H b = some (.tup xs) → H' b = some (.tup xs)) : ObjOk P w H' h' a o := by
  induction o with
  | lst xs => obtain ⟨z, its, n, r, e⟩ := x; exact ⟨z, its, n, r, k _ _ (.inl rfl) e⟩
  | tup xs => obtain ⟨z, its, r, ob, e, c⟩ := x; exact ⟨z, its, r, ob, k _ _ (.inl rfl) e, c⟩
  | dK kvs => obtain ⟨z, y, vs, r, ob, es, ep, e, c⟩ := x; exact ⟨z, y, vs, r, ob, es, ep, k _ _ (.inl rfl) e, c⟩
  | dT kvs =>
    obtain ⟨z, y, xs, r, ob, es, ep, e, c⟩ := x
    exact ⟨z, y, xs, Paired.mapP r fun p q z => ⟨z.1, ht _ _ z.2.1, z.2.2⟩, ob, es, ep, k _ _ (.inl rfl) e, c⟩
  | set S n => obtain ⟨ob, es, ep, t, e, c⟩ := x; exact ⟨ob, es, ep, t, k _ _ (.inl rfl) e, c⟩
  | ins C dx fs =>
    obtain ⟨d, z, ne, e, mA, ⟨od, es, ep, e2, c⟩, r⟩ := x
    exact ⟨ho _ d, z, ne, k _ _ (.inl rfl) e, mA, ⟨od, es, ep, k _ _ (.inr d) e2, c⟩, r⟩
  | own y => obtain ⟨ob, e⟩ := x; exact ⟨ob, k _ _ (.inl rfl) e⟩
  | xd fs => obtain ⟨mA, ⟨od, es, ep, e, c⟩, r⟩ := x; exact ⟨mA, ⟨od, es, ep, k _ _ (.inl rfl) e, c⟩, r⟩
  | rng lo hi => obtain ⟨t, u, v, e⟩ := x; exact ⟨t, u, v, k _ _ (.inl rfl) e⟩
  | frz ob u ih => obtain ⟨e, q⟩ := x; exact ⟨k _ _ (.inl rfl) e, ih q⟩
  | tbl ps =>
    have e : h.get? a = some { cls := .none, data := .fields ps } := x
    show h'.get? a = some { cls := .none, data := .fields ps }
    exact k a _ (.inl rfl) e
  | met f y =>
    have e : h.get? a = some (PySem.W.methodObj (.ref f) (.ref y)) := x
    show h'.get? a = some (PySem.W.methodObj (.ref f) (.ref y))
    exact k a _ (.inl rfl) e
  | ext φ => obtain ⟨p, ⟨o, e⟩, st⟩ := x; exact ⟨st _ _ p fun o q => k _ _ (.inl rfl) q, ⟨o, k _ _ (.inl rfl) e⟩, st⟩
theorem HOk.lt (x : HOk P w H h) (e : H a = some o) : a < h.objs.size := (x a o e).lt
theorem HOk.fresh (x : HOk P w H h) (e : h.objs.size ≤ a) : H a = none := by
  cases q : H a with
  | none => rfl
  | some u => exact absurd (Nat.lt_of_lt_of_le (x.lt q) e) (Nat.lt_irrefl _)
/-- every object of the heap is kept -/
theorem HOk.kept (x : HOk P w H h) (k : ∀ b u, h.get? b = some u → h'.get? b = some u) : HOk P w H h' := fun a o e =>
  (x a o e).stay (fun b u _ q => k b u q) (fun _ q => q) fun _ _ q => q
/-- a new object is laid and tracked -/
theorem HOk.laid (x : HOk P w H h) (k : ∀ b u, h.get? b = some u → h'.get? b = some u) (hp : h.objs.size ≤ a) (new : ObjOk P w (upd H a o) h' a o) : HOk P w (upd H a o) h' := fun b u e => by
  have hn := x.fresh hp
  by_cases hb : b = a
  · subst hb; rw [upd_same] at e; cases e; exact new
  · rw [upd_ne hb] at e
    exact (x b u e).stay (fun c v _ q => k c v q) (fun c q => by rw [upd_ne (ne_of_none q hn)]; exact q) fun c xs q => by rw [upd_ne (ne_of_none q hn)]; exact q
end

/-- what may be read as u: it is u, or a known u -/
def Rd (H : Hp) (a : Addr) (u : HO) : Prop := H a = some u ∨ ∃ o, H a = some (.frz o u)
theorem Rd.ok {P : Program} {w : World} {H : Hp} {h : Heap} {a : Addr} {u : HO} (r : Rd H a u) (x : HOk P w H h) : ObjOk P w H h a u := by
  rcases r with r | ⟨o, r⟩
  · exact x a u r
  · obtain ⟨_, q⟩ := x a _ r
    exact q
/-- what may be written -/
def Mut : Option HO → Prop
  | some (.lst _) => True
  | some (.dK _) => True
  | some (.dT _) => True
  | some (.set _ _) => True
  | some (.ins _ _ _) => True
  | some (.ext _) => True
  | _ => False
section
variable {P : Program} {w : World} {H : Hp} {h h' : Heap} {x e : Addr} {o' : HO}
/-- the object at e is changed: x itself, or the dict of the instance x -/
theorem HOk.write (ok : HOk P w H h) (mu : Mut (H x)) (he : e = x ∨ H e = some (.own x)) (k : ∀ b u, b ≠ e → h.get? b = some u → h'.get? b = some u) (heo : ∃ u, h'.get? e = some u)
    (new : ObjOk P w (upd H x o') h' x o') : HOk P w (upd H x o') h' := fun b u q => by
  have nown : ∀ c y, H c = some (.own y) → c ≠ x := fun c y r z => by subst z; rw [r] at mu; exact mu
  have ntup : ∀ c xs, H c = some (.tup xs) → c ≠ x := fun c xs r z => by subst z; rw [r] at mu; exact mu
  by_cases hb : b = x
  · subst hb; rw [upd_same] at q; cases q; exact new
  · rw [upd_ne hb] at q
    by_cases hbe : b = e
    · have q' : H b = some (.own x) := by
        rcases he with z | z
        · exact absurd (hbe.trans z) hb
        · rw [hbe]; exact z
      rw [q] at q'; cases q'
      obtain ⟨v, hv⟩ := heo
      exact ⟨v, by rw [hbe]; exact hv⟩
    · refine (ok b u q).stay (fun c v hc r => k c v ?_ r) (fun c r => by rw [upd_ne (nown c b r)]; exact r) fun c xs r => by rw [upd_ne (ntup c xs r)]; exact r
      rcases hc with rfl | hc
      · exact hbe
      · rintro rfl
        rcases he with z | z
        · exact nown c b hc z
        · rw [hc] at z; cases z; exact hb rfl
end

structure Un (fs ex : List Addr) (H H' : Hp) (h h' : Heap) : Prop where
  keep : ∀ b o, h.get? b = some o → H b = none → b ∉ fs → b ∉ ex → h'.get? b = some o
  slot : ∀ b o, h.get? b = some o → H b = none → b ∈ fs → b ∉ ex → ∃ sl, h'.get? b = some { o with slots := sl }
  free : ∀ b o, h.get? b = some o → H b = none → b ∉ ex → H' b = none
  there : ∀ b o, h.get? b = some o → b ∉ ex → ∃ o', h'.get? b = some o'
  tups : ∀ b xs, H b = some (.tup xs) → H' b = some (.tup xs)
  frzs : ∀ b o u, H b = some (.frz o u) → H' b = some (.frz o u)
  tbls : ∀ b ps, H b = some (.tbl ps) → ∃ more, H' b = some (.tbl (ps ++ more))
section
variable {fs fs' ex ex' : List Addr} {H H1 H2 : Hp} {h h1 h2 h' : Heap} {a x e : Addr} {o : HO}
theorem Un.any (u : Un fs ex H H1 h h1) {b : Addr} {ob : Obj} (q : h.get? b = some ob) (n : H b = none) (hx : b ∉ ex) : ∃ sl, h1.get? b = some { ob with slots := sl } := by
  by_cases hb : b ∈ fs
  · exact u.slot b ob q n hb hx
  · exact ⟨ob.slots, u.keep b ob q n hb hx⟩
theorem Un.kept (k : ∀ b u, h.get? b = some u → h'.get? b = some u) : Un fs ex H H h h' :=
  ⟨fun b ob q _ _ _ => k b ob q, fun b ob q _ _ _ => ⟨ob.slots, k b ob q⟩, fun _ _ _ n _ => n, fun b ob q _ => ⟨ob, k b ob q⟩, fun _ _ q => q, fun _ _ _ q => q, fun _ ps q => ⟨#[], by rw [q]; simp⟩⟩
theorem Un.refl : Un fs ex H H h h := Un.kept fun _ _ q => q
theorem Un.laid (k : ∀ b u, h.get? b = some u → h'.get? b = some u) (hp : h.objs.size ≤ a) (hn : H a = none) : Un fs ex H (upd H a o) h h' where
  keep := fun b u q _ _ _ => k b u q
  slot := fun b u q _ _ _ => ⟨u.slots, k b u q⟩
  free := fun b u q n _ => by rw [upd_ne (Nat.ne_of_lt (Nat.lt_of_lt_of_le (Heap.lt_size q) hp))]; exact n
  there := fun b u q _ => ⟨u, k b u q⟩
  tups := fun b xs q => by rw [upd_ne (ne_of_none q hn)]; exact q
  frzs := fun b u xs q => by rw [upd_ne (ne_of_none q hn)]; exact q
  tbls := fun b ps q => ⟨#[], by rw [upd_ne (ne_of_none q hn), q]; simp⟩
theorem Un.write (mu : Mut (H x)) (he : e = x ∨ H e = some (.own x)) (k : ∀ b u, b ≠ e → h.get? b = some u → h'.get? b = some u) (heo : ∃ u, h'.get? e = some u) : Un fs ex H (upd H x o) h h' := by
  have hx : ∀ b, H b = none → b ≠ x := fun b n z => by subst z; rw [n] at mu; exact mu
  have hb : ∀ b, H b = none → b ≠ e := fun b n z => by
    subst z
    rcases he with r | r
    · exact hx b n r
    · rw [n] at r; cases r
  have hm : ∀ b u, H b = some u → ¬ Mut (some u) → b ≠ x := fun b u q nm z => by subst z; rw [q] at mu; exact nm mu
  refine ⟨fun b u q n _ _ => k b u (hb b n) q, fun b u q n _ _ => ⟨u.slots, k b u (hb b n) q⟩, fun b u q n _ => by rw [upd_ne (hx b n)]; exact n, fun b u q _ => ?_,
    fun b xs q => by rw [upd_ne (hm b _ q fun z => z)]; exact q, fun b u xs q => by rw [upd_ne (hm b _ q fun z => z)]; exact q, fun b ps q => ⟨#[], by rw [upd_ne (hm b _ q fun z => z), q]; simp⟩⟩
  by_cases hbe : b = e
  · subst hbe; exact heo
  · exact ⟨u, k b u hbe q⟩
end

def trk (h : Heap) (H : Hp) : List Addr := (List.range h.objs.size).filter fun a => (H a).isSome
def hidT (h : Heap) (H : Hp) : Heap := PySem.W.hideAll h (trk h H)
theorem hidT_size (h : Heap) (H : Hp) : (hidT h H).objs.size = h.objs.size := PySem.W.hideAll_size _ _
theorem hidT_get {h : Heap} {H : Hp} {b : Addr} {o : Obj} (e : h.get? b = some o) (n : H b = none) : (hidT h H).get? b = some o :=
  PySem.W.hideAll_get _ e fun hm => by
    have q : (H b).isSome = true := (List.mem_filter.mp hm).2
    rw [n] at q; simp at q
theorem of_hidT {h : Heap} {H : Hp} {b : Addr} {o : Obj} (e : (hidT h H).get? b = some o) : h.get? b = some o ∧ H b = none := by
  have e' : h.get? b = some o := PySem.W.of_hideAll (trk h H) e
  refine ⟨e', ?_⟩
  cases q : H b with
  | none => rfl
  | some x =>
    have hm : b ∈ trk h H := List.mem_filter.mpr ⟨List.mem_range.mpr (Heap.lt_size e'), by simp [q]⟩
    have z : (hidT h H).get? b = none := PySem.W.hideAll_none (trk h H) hm
    rw [z] at e; cases e

def allNews (g h : Heap) (L : Addr) : List (Addr × Obj) := (List.range h.objs.size).filterMap fun a => if a = L ∨ (g.get? a).isSome = true then none else (h.get? a).map fun o => (a, o)
def rest (g h : Heap) (L d : Addr) : List (Addr × Obj) := (allNews g h L).filter fun p => decide (p.1 ≠ d)
end L2

namespace L2
open PySem PySem.Spec PyProof.Rows

/-- the module's facts, over the base: the heap at the law's entry without what is tracked there -/
structure Mod (K : PySem.W.Frag) (mg : Str → Option Value) (base : Heap) : Prop where
  kin : K.In base
  glob : base.Ns mainGlobals mg
  blt : ∃ mb, base.Ns builtinsNs mb ∧ ∀ x : Str, x ≠ "__name__" → mb x = bootBuiltins x
  nolimit : base.NoLimit

/-- the context: a def's body (or a comprehension's block) running. base: fixed through the whole law; s₀, H₀: the entry; outer: the frames whose slots others may change (a def's callers); stack: all frames that run;
   ex: iterators that were made ahead of the entry and are walked here (a comprehension's); fn: the names whose cells were made at the entry (a def: all; a comprehension's block: its own); calm: not within an except suite; pn: pins that every state bears; xe: what is wanted of an exception that leaves the code -/
structure Cx where
  prog : Program
  w : World
  K : PySem.W.Frag
  mg : Str → Option Value
  base : Heap
  A : Around
  N : List Str
  s₀ : Shared
  H₀ : Hp
  env : Env
  outer : List Env
  stack : List Env
  ex : List Addr
  fn : Str → Bool
  calm : Bool
  pn : List (Addr × Obj)
  xe : Value → Shared → Prop
/-- the callers' frames -/
def frs (l : List Env) : List Addr := l.filterMap (·.frame)
abbrev Cx.fs (X : Cx) : List Addr := frs X.outer

def Vis (sc : Scope) (x : Str) : Prop := sc.names.lookup x = some .local ∨ sc.names.lookup x = some .cell ∨ sc.names.lookup x = some .free
def Loc (sc : Scope) (x : Str) : Prop := sc.names.lookup x = some .local ∨ sc.names.lookup x = some .cell
def Look (env : Env) (h : Heap) (m : Str → Option Value) (x : Str) (u : Value) : Prop :=
  (env.kindOf x = some .local ∧ m x = some u) ∨ ((env.kindOf x = some .cell ∨ env.kindOf x = some .free) ∧ ∃ c, env.cells.lookup x = some c ∧ h.IsCell c (some u))

structure Cx.Ok (X : Cx) : Prop where
  mod : Mod X.K X.mg X.base
  kind : X.env.scope.kind = .function
  glob : X.env.globals = mainGlobals
  blt : X.env.builtins = builtinsNs
  above : X.s₀.heap.objs.size ≤ X.env.locals
  inj : ∀ x y c, X.env.cells.lookup x = some c → X.env.cells.lookup y = some c → x = y
  has : ∀ x, (X.env.kindOf x = some .cell ∨ X.env.kindOf x = some .free) → ∃ c, X.env.cells.lookup x = some c
  cab : ∀ x c, X.fn x = true → X.env.cells.lookup x = some c → X.s₀.heap.objs.size ≤ c
  hd : X.calm = true → X.A.handled = none
  frames : X.A.frames = some X.stack
  stk : X.stack = X.outer ∨ (X.stack = X.env :: X.outer ∧ X.env.frame = some X.env.locals)
  exf : ∀ b ∈ X.ex, b ≠ X.env.locals ∧ ∀ x c, X.env.cells.lookup x = some c → c ≠ b
  bs : ∀ b o, X.base.get? b = some o → X.s₀.heap.get? b = some o ∧ X.H₀ b = none
  bsz : X.base.objs.size ≤ X.s₀.heap.objs.size
  noex : ∀ b o, X.base.get? b = some o → b ∉ X.ex
  exfs : ∀ b ∈ X.ex, b ∉ X.fs
  funs : X.s₀.heap.FunFrames X.base X.outer
  frf : ∀ b ∈ X.fs, X.H₀ b = none

structure Inv (X : Cx) (pins : List (Addr × Obj)) (σ : List (Option V)) (H : Hp) (s : Shared) : Prop where
  ok : X.Ok
  os : s.os = X.s₀.os
  bare : AllBare s.gens
  base : Un X.fs X.ex X.H₀ H X.s₀.heap s.heap
  loc : ∃ m, s.heap.Ns X.env.locals m ∧ ∀ (i : Nat) (x : Str) (v : V), X.N[i]? = some x → σ[i]? = some (some v) → Vis X.env.scope x → ∃ u, RelV v u ∧ Look X.env s.heap m x u
  cell : ∀ x c, X.env.cells.lookup x = some c → ∃ v, s.heap.IsCell c v
  free : H X.env.locals = none
  freeC : ∀ x c, X.env.cells.lookup x = some c → H c = none
  pin : ∀ p ∈ X.pn ++ pins, s.heap.get? p.1 = some p.2 ∧ H p.1 = none ∧ p.1 ≠ X.env.locals ∧ p.1 ∉ X.fs ∧ ∀ v, p.2.data ≠ .cell v
  hok : HOk X.prog X.w H s.heap
  len : σ.length = X.N.length

section
variable {X : Cx} {pins : List (Addr × Obj)} {σ : List (Option V)} {H H' : Hp} {s : Shared} {h' : Heap}

theorem Cx.Ok.nofr (ok : X.Ok) {b : Addr} {o : Obj} (e : X.base.get? b = some o) : b ∉ X.fs := fun hb => by
  have := (ok.funs.mem hb).1
  rw [e] at this; cases this
theorem Inv.bs (I : Inv X pins σ H s) : ∀ b o, X.base.get? b = some o → s.heap.get? b = some o ∧ H b = none := fun b o e =>
  ⟨I.base.keep b o (I.ok.bs b o e).1 (I.ok.bs b o e).2 (I.ok.nofr e) (I.ok.noex b o e), I.base.free b o (I.ok.bs b o e).1 (I.ok.bs b o e).2 (I.ok.noex b o e)⟩
theorem Inv.bk (I : Inv X pins σ H s) : ∀ b o, X.base.get? b = some o → s.heap.get? b = some o := fun b o e => (I.bs b o e).1
theorem Inv.mod (I : Inv X pins σ H s) : Mod X.K X.mg X.base := I.ok.mod
theorem Inv.kIn (I : Inv X pins σ H s) : X.K.In s.heap := I.ok.mod.kin.keeps I.bk
theorem Inv.lt (I : Inv X pins σ H s) : X.env.locals < s.heap.objs.size := let ⟨_, hn, _⟩ := I.loc; hn.lt
theorem Inv.sz (I : Inv X pins σ H s) : X.s₀.heap.objs.size ≤ s.heap.objs.size := Nat.le_trans I.ok.above (Nat.le_of_lt I.lt)
theorem Inv.nofs (I : Inv X pins σ H s) {a : Addr} (h : s.heap.objs.size ≤ a) : a ∉ X.fs := fun hb => by
  obtain ⟨_, o, ho, _⟩ := I.ok.funs.mem hb
  exact absurd (Nat.lt_of_lt_of_le (Heap.lt_size ho) (Nat.le_trans I.sz h)) (Nat.lt_irrefl _)
theorem Inv.cne (I : Inv X pins σ H s) : ∀ x c, X.env.cells.lookup x = some c → c ≠ X.env.locals := fun x c e z => by
  obtain ⟨v, o, ho, hd⟩ := I.cell x c e
  obtain ⟨m, ⟨o', es, ep, ho', hd', _⟩, _⟩ := I.loc
  rw [z, ho'] at ho; cases ho; rw [hd'] at hd; cases hd
theorem Inv.funs (I : Inv X pins σ H s) : s.heap.FunFrames X.base X.outer := by
  have all : ∀ (l : List Env), (∀ b ∈ frs l, b ∈ X.fs) → X.s₀.heap.FunFrames X.base l → s.heap.FunFrames X.base l := by
    intro l
    induction l with
    | nil => intro _ _; trivial
    | cons env r ih =>
      intro hs hl
      obtain ⟨hk, ⟨L, o, hf, hn, ho, hd⟩, hr⟩ := hl
      have hL : L ∈ X.fs := hs L (by unfold frs; rw [List.filterMap_cons, hf]; exact List.mem_cons_self)
      obtain ⟨sl, e⟩ := I.base.slot L o ho (I.ok.frf L hL) hL fun z => I.ok.exfs L z hL
      exact ⟨hk, ⟨L, _, hf, hn, e, hd⟩, ih (fun b hb => hs b (by unfold frs; rw [List.filterMap_cons, hf]; exact List.mem_cons_of_mem _ hb)) hr⟩
  exact all X.outer (fun _ hb => hb) I.ok.funs

/-- the frames that run, for a call -/
theorem Inv.stack (I : Inv X pins σ H s) : s.heap.FunFrames X.base X.stack := by
  rcases I.ok.stk with e | ⟨e, hf⟩
  · rw [e]; exact I.funs
  · rw [e]
    obtain ⟨m, hn, _⟩ := I.loc
    refine .cons (by rw [I.ok.kind]; decide) hf hn ?_ I.funs
    exact Heap.get?_none_of_le (Nat.le_trans I.ok.bsz I.ok.above)
theorem Inv.stkSub (I : Inv X pins σ H s) : ∀ b ∈ frs X.stack, b ∈ X.env.locals :: X.fs := fun b hb => by
  rcases I.ok.stk with e | ⟨e, hf⟩
  · rw [e] at hb; exact List.mem_cons_of_mem _ hb
  · rw [e] at hb
    unfold frs at hb
    rw [List.filterMap_cons, hf] at hb
    exact hb
theorem Inv.stkFree (I : Inv X pins σ H s) : ∀ b ∈ frs X.stack, H b = none := fun b hb => by
  rcases List.mem_cons.mp (I.stkSub b hb) with e | hb
  · rw [e]; exact I.free
  · obtain ⟨_, o, ho, _⟩ := I.ok.funs.mem hb
    exact I.base.free b o ho (I.ok.frf b hb) fun z => I.ok.exfs b z hb

/-- THE STEP: the untracked objects but the frame and the records at ch are kept (the callers' frames up to slots), the frame's map is kept, the new abstract heap is held -/
theorem Inv.step {g' : Array GenState} {t' : Nat} {d' : Drawn} {ch : List Addr} (I : Inv X pins σ H s)
    (hch : ∀ b ∈ ch, (b ∈ X.ex ∨ X.s₀.heap.objs.size ≤ b) ∧ b ≠ X.env.locals ∧ (∀ x c, X.env.cells.lookup x = some c → c ≠ b) ∧ ∀ p ∈ X.pn ++ pins, p.1 ≠ b)
    (keep : ∀ b o, b ≠ X.env.locals → b ∉ X.fs → b ∉ ch → s.heap.get? b = some o → H b = none → h'.get? b = some o)
    (slot : ∀ b o, b ≠ X.env.locals → b ∈ X.fs → b ∉ ch → s.heap.get? b = some o → H b = none → ∃ sl, h'.get? b = some { o with slots := sl }) (free : ∀ b o, b ∉ ch → s.heap.get? b = some o → H b = none → H' b = none)
    (there : ∀ b o, b ∉ ch → s.heap.get? b = some o → ∃ o', h'.get? b = some o')
    (tups : ∀ b xs, H b = some (.tup xs) → H' b = some (.tup xs)) (frzs : ∀ b o u, H b = some (.frz o u) → H' b = some (.frz o u)) (tbls : ∀ b ps, H b = some (.tbl ps) → ∃ more, H' b = some (.tbl (ps ++ more)))
    (ns : ∀ m, s.heap.Ns X.env.locals m → h'.Ns X.env.locals m) (hok : HOk X.prog X.w H' h') (hg : AllBare g') :
    Inv X pins σ H' { s with heap := h', gens := g', drawn := d', toks := t' } := by
  have neL : ∀ b o, X.s₀.heap.get? b = some o → b ≠ X.env.locals := fun b o e => Nat.ne_of_lt (Nat.lt_of_lt_of_le (Heap.lt_size e) I.ok.above)
  have neC : ∀ b o, X.s₀.heap.get? b = some o → b ∉ X.ex → b ∉ ch := fun b o e hx hb => by
    rcases (hch b hb).1 with z | z
    · exact hx z
    · exact absurd (Nat.lt_of_lt_of_le (Heap.lt_size e) z) (Nat.lt_irrefl _)
  have cellK : ∀ x c, X.env.cells.lookup x = some c → ∀ v, s.heap.IsCell c v → h'.IsCell c v := fun x c e v ⟨o, ho, hd⟩ => by
    have nch : c ∉ ch := fun z => (hch c z).2.2.1 x c e rfl
    by_cases hc : c ∈ X.fs
    · obtain ⟨sl, q⟩ := slot c o (I.cne x c e) hc nch ho (I.freeC x c e)
      exact ⟨_, q, hd⟩
    · exact ⟨o, keep c o (I.cne x c e) hc nch ho (I.freeC x c e), hd⟩
  refine ⟨I.ok, I.os, hg, ⟨fun b o e n hb hx => ?_, fun b o e n hb hx => ?_, fun b o e n hx => ?_, fun b o e hx => ?_, fun b xs e => tups b xs (I.base.tups b xs e), fun b o xs e => frzs b o xs (I.base.frzs b o xs e), fun b ps e => ?_⟩, ?_, fun x c e => ?_, ?_, fun x c e => ?_, fun p hp => ?_, hok, I.len⟩
  · exact keep b o (neL b o e) hb (neC b o e hx) (I.base.keep b o e n hb hx) (I.base.free b o e n hx)
  · obtain ⟨sl, e1⟩ := I.base.slot b o e n hb hx
    obtain ⟨sl', e2⟩ := slot b _ (neL b o e) hb (neC b o e hx) e1 (I.base.free b o e n hx)
    exact ⟨sl', e2⟩
  · obtain ⟨o', e1⟩ := I.base.there b o e hx
    exact free b o' (neC b o e hx) e1 (I.base.free b o e n hx)
  · obtain ⟨o', e1⟩ := I.base.there b o e hx
    exact there b o' (neC b o e hx) e1
  · obtain ⟨m1, e1⟩ := I.base.tbls b ps e
    obtain ⟨m2, e2⟩ := tbls b _ e1
    exact ⟨m1 ++ m2, by rw [e2, Array.append_assoc]⟩
  · obtain ⟨m, hn, hl⟩ := I.loc
    refine ⟨m, ns m hn, fun i x v e1 e2 e3 => ?_⟩
    obtain ⟨u, r, l⟩ := hl i x v e1 e2 e3
    refine ⟨u, r, ?_⟩
    rcases l with l | ⟨k, c, e, z⟩
    · exact .inl l
    · exact .inr ⟨k, c, e, cellK x c e _ z⟩
  · obtain ⟨v, z⟩ := I.cell x c e
    exact ⟨v, cellK x c e v z⟩
  · obtain ⟨m, ⟨o, _, _, ho, _⟩, _⟩ := I.loc
    exact free _ o (fun z => (hch _ z).2.1 rfl) ho I.free
  · obtain ⟨v, o, ho, hd⟩ := I.cell x c e
    exact free c o (fun z => (hch c z).2.2.1 x c e rfl) ho (I.freeC x c e)
  · obtain ⟨e, n, ne, nf, d⟩ := I.pin p hp
    have nch : p.1 ∉ ch := fun z => (hch p.1 z).2.2.2 p hp rfl
    exact ⟨keep p.1 p.2 ne nf nch e n, free p.1 p.2 nch e n, ne, nf, d⟩
/-- .. where the frame's own object is kept too -/
theorem Inv.un {t' : Nat} (I : Inv X pins σ H s) (u : Un X.fs [] H H' s.heap h') (hok : HOk X.prog X.w H' h') : Inv X pins σ H' { s with heap := h', toks := t' } := by
  obtain ⟨m, ⟨o, es, ep, ho, r⟩, _⟩ := id I.loc
  obtain ⟨sl, hL⟩ := u.any ho I.free (by simp)
  exact I.step (g' := s.gens) (d' := s.drawn) (ch := []) (fun _ z => nomatch z) (fun b o _ hb _ e n => u.keep b o e n hb (by simp)) (fun b o _ hb _ e n => u.slot b o e n hb (by simp)) (fun b o _ e n => u.free b o e n (by simp)) (fun b o _ e => u.there b o e (by simp)) u.tups u.frzs u.tbls (fun m' hm => by
    obtain ⟨o', es', ep', ho', r'⟩ := hm
    rw [ho] at ho'; cases ho'
    exact ⟨_, es', ep', hL, r'⟩) hok I.bare
/-- behind a call (or a comprehension's block): the slots of this frame may have changed too, the records at ch may have turned -/
theorem Inv.call {g' : Array GenState} {t' : Nat} {d' : Drawn} {ch : List Addr} (I : Inv X pins σ H s) (u : Un (frs X.stack) ch H H' s.heap h') (hok : HOk X.prog X.w H' h') (hg : AllBare g')
    (hch : ∀ b ∈ ch, (b ∈ X.ex ∨ X.s₀.heap.objs.size ≤ b) ∧ b ≠ X.env.locals ∧ (∀ x c, X.env.cells.lookup x = some c → c ≠ b) ∧ ∀ p ∈ X.pn ++ pins, p.1 ≠ b) :
    Inv X pins σ H' { s with heap := h', gens := g', drawn := d', toks := t' } := by
  obtain ⟨m, ⟨o, es, ep, ho, r⟩, _⟩ := id I.loc
  obtain ⟨sl, hL⟩ := u.any ho I.free fun z => (hch _ z).2.1 rfl
  exact I.step (ch := ch) hch (fun b o hL hb hc e n => u.keep b o e n (fun z => (List.mem_cons.mp (I.stkSub b z)).elim hL hb) hc) (fun b o _ _ hc e n => u.any e n hc) (fun b o hc e n => u.free b o e n hc) (fun b o hc e => u.there b o e hc) u.tups u.frzs u.tbls (fun m' hm => by
    obtain ⟨o', es', ep', ho', r'⟩ := hm
    rw [ho] at ho'; cases ho'
    exact ⟨_, es', ep', hL, r'⟩) hok hg
/-- an untracked record of ours (an iterator) has turned -/
theorem Inv.turned {t' : Nat} {it : Addr} (I : Inv X pins σ H s) (k : ∀ b o, b ≠ it → s.heap.get? b = some o → h'.get? b = some o) (hn : H it = none) (hL : it ≠ X.env.locals)
    (h1 : it ∈ X.ex ∨ X.s₀.heap.objs.size ≤ it) (h2 : ∀ x c, X.env.cells.lookup x = some c → c ≠ it) (h3 : ∀ p ∈ X.pn ++ pins, p.1 ≠ it) : Inv X pins σ H { s with heap := h', toks := t' } := by
  have nit : ∀ b u, H b = some u → b ≠ it := fun b u e z => by rw [z, hn] at e; cases e
  refine I.step (g' := s.gens) (d' := s.drawn) (ch := [it]) (fun b hb => ?_) (fun b o _ _ hc e _ => k b o (fun z => hc (by simp [z])) e) (fun b o _ _ hc e _ => ⟨o.slots, k b o (fun z => hc (by simp [z])) e⟩) (fun _ _ _ _ n => n)
    (fun b o hc e => ⟨o, k b o (fun z => hc (by simp [z])) e⟩) (fun _ _ e => e) (fun _ _ _ e => e) (fun b ps e => ⟨#[], by rw [e]; simp⟩) (fun m hm => ?_) (fun b u e => ?_) I.bare
  · have e : b = it := by simpa using hb
    subst e
    exact ⟨h1, hL, h2, h3⟩
  · obtain ⟨o, es, ep, ho, r⟩ := hm
    exact ⟨o, es, ep, k _ o (Ne.symm hL) ho, r⟩
  · refine (I.hok b u e).stay (fun c v hc q => k c v ?_ q) (fun _ q => q) fun _ _ q => q
    rcases hc with z | z
    · rw [z]; exact nit b u e
    · exact nit c _ z
theorem Inv.tok (I : Inv X pins σ H s) (t : Nat) : Inv X pins σ H { s with toks := t } := I.un (h' := s.heap) (t' := t) Un.refl I.hok
/-- all objects kept -/
theorem Inv.kept {t' : Nat} (I : Inv X pins σ H s) (k : ∀ b u, s.heap.get? b = some u → h'.get? b = some u) : Inv X pins σ H { s with heap := h', toks := t' } := I.un (Un.kept k) (I.hok.kept k)
/-- a new object laid and tracked -/
theorem Inv.laid {a : Addr} {o : HO} {t' : Nat} (I : Inv X pins σ H s) (k : ∀ b u, s.heap.get? b = some u → h'.get? b = some u) (hp : s.heap.objs.size ≤ a) (new : ObjOk X.prog X.w (upd H a o) h' a o) :
    Inv X pins σ (upd H a o) { s with heap := h', toks := t' } := I.un (Un.laid k hp (I.hok.fresh hp)) (I.hok.laid k hp new)
/-- an object written -/
theorem Inv.write {x e : Addr} {o : HO} {t' : Nat} (I : Inv X pins σ H s) (mu : Mut (H x)) (he : e = x ∨ H e = some (.own x)) (k : ∀ b u, b ≠ e → s.heap.get? b = some u → h'.get? b = some u) (heo : ∃ u, h'.get? e = some u)
    (new : ObjOk X.prog X.w (upd H x o) h' x o) : Inv X pins σ (upd H x o) { s with heap := h', toks := t' } := I.un (Un.write mu he k heo) (I.hok.write mu he k heo new)
theorem Inv.pins_of {pins' : List (Addr × Obj)} (I : Inv X pins σ H s) (h : ∀ p ∈ pins', s.heap.get? p.1 = some p.2 ∧ H p.1 = none ∧ p.1 ≠ X.env.locals ∧ p.1 ∉ X.fs ∧ ∀ v, p.2.data ≠ .cell v) : Inv X pins' σ H s :=
  ⟨I.ok, I.os, I.bare, I.base, I.loc, I.cell, I.free, I.freeC, fun p hp => (List.mem_append.mp hp).elim (fun z => I.pin p (List.mem_append_left _ z)) (h p), I.hok, I.len⟩

theorem nodup_ix {N : List Str} (hN : N.Nodup) {i j : Nat} {x : Str} (a : N[i]? = some x) (b : N[j]? = some x) : i = j := by
  obtain ⟨h1, e1⟩ := List.getElem?_eq_some_iff.mp a
  obtain ⟨h2, e2⟩ := List.getElem?_eq_some_iff.mp b
  exact (List.getElem_inj hN).mp (e1.trans e2.symm)

/-- a name is stored; what changed -/
theorem store_ok2 {M : Model} {A : Around} {E : Value → Shared → Prop} {i : Nat} {x : Str} {v : V} {u : Value} {Q : Unit → Shared → Prop} (I : Inv X pins σ H s) (hN : X.N.Nodup) (hi : X.N[i]? = some x) (hx : Loc X.env.scope x) (r : RelV v u)
    (h : ∀ s', Inv X pins (σ.set i (some v)) H s' → (∃ a, Heap.SameBut a s.heap s'.heap ∧ (a = X.env.locals ∨ X.env.cells.lookup x = some a)) → Q () s') (hf : X.fn x = true ∨ X.env.scope.names.lookup x = some .local := by first | exact .inl rfl | exact .inr rfl | assumption) : wpAny M A (storeName X.env x u) Q E s := by
  obtain ⟨m, hn, hl⟩ := id I.loc
  have hcls : (X.env.scope.kind == .class || (X.env.scope.kind == .module && X.env.locals != X.env.globals)) = false := by rw [I.ok.kind]; rfl
  have hiσ : i < σ.length := by rw [I.len]; exact (List.getElem?_eq_some_iff.mp hi).1
  have cne := I.cne
  have tracked : ∀ {a : Addr} {h' : Heap}, (∃ o, s.heap.get? a = some o ∧ H a = none) → Heap.SameBut a s.heap h' → HOk X.prog X.w H h' := fun {a h'} ha hs b ob e => by
    obtain ⟨_, _, hfree⟩ := ha
    refine (I.hok b ob e).stay (fun c w' hc q => (hs.2 c ?_).trans q) (fun _ q => q) fun _ _ q => q
    rintro rfl
    rcases hc with rfl | hc
    · rw [hfree] at e; cases e
    · rw [hfree] at hc; cases hc
  rcases hx with hk | hk
  · refine wpAny_storeName_local hk hn (fun h' hn' hs => ?_) hcls
    obtain ⟨oL, _, _, hoL, _⟩ := id hn
    refine h _ ⟨I.ok, I.os, I.bare, ⟨fun b o e n hb hx => ?_, fun b o e n hb hx => ?_, I.base.free, fun b o e hx => ?_, I.base.tups, I.base.frzs, I.base.tbls⟩, ⟨_, hn', fun j y v' e1 e2 e3 => ?_⟩, fun y c e => ?_, I.free, I.freeC, fun p hp => ?_, tracked ⟨oL, hoL, I.free⟩ hs, by simpa using I.len⟩ ⟨_, hs, .inl rfl⟩
    · exact (hs.2 b (Nat.ne_of_lt (Nat.lt_of_lt_of_le (Heap.lt_size e) I.ok.above))).trans (I.base.keep b o e n hb hx)
    · obtain ⟨sl, e1⟩ := I.base.slot b o e n hb hx
      exact ⟨sl, (hs.2 b (Nat.ne_of_lt (Nat.lt_of_lt_of_le (Heap.lt_size e) I.ok.above))).trans e1⟩
    · obtain ⟨o', e1⟩ := I.base.there b o e hx
      exact ⟨o', (hs.2 b (Nat.ne_of_lt (Nat.lt_of_lt_of_le (Heap.lt_size e) I.ok.above))).trans e1⟩
    · by_cases hj : j = i
      · subst hj
        rw [hi] at e1; cases e1
        rw [List.getElem?_set_self hiσ] at e2
        cases e2
        exact ⟨u, r, .inl ⟨hk, by simp⟩⟩
      · rw [List.getElem?_set_ne (Ne.symm hj)] at e2
        obtain ⟨u', r', q⟩ := hl j y v' e1 e2 e3
        refine ⟨u', r', ?_⟩
        rcases q with ⟨k, e⟩ | ⟨k, c, e, z⟩
        · refine .inl ⟨k, ?_⟩
          have : y ≠ x := fun e => hj (nodup_ix hN e1 (e ▸ hi))
          simp [this, e]
        · exact .inr ⟨k, c, e, z.sameBut hs (cne y c e)⟩
    · obtain ⟨w', z⟩ := I.cell y c e
      exact ⟨w', z.sameBut hs (cne y c e)⟩
    · obtain ⟨e, n, ne, nf, d⟩ := I.pin p hp
      exact ⟨(hs.2 p.1 ne).trans e, n, ne, nf, d⟩
  · have hfn : X.fn x = true := by
      rcases hf with z | z
      · exact z
      · rw [z] at hk; cases hk
    obtain ⟨c, hc⟩ := I.ok.has x (.inl hk)
    obtain ⟨w', z⟩ := I.cell x c hc
    refine wpAny_storeName_cell I.ok.kind hk hc z (fun h' hc' hs => ?_)
    obtain ⟨oc, hoc, hocd⟩ := id z
    refine h { s with heap := h' } ⟨I.ok, I.os, I.bare, ⟨fun b o e n hb hx => ?_, fun b o e n hb hx => ?_, I.base.free, fun b o e hx => ?_, I.base.tups, I.base.frzs, I.base.tbls⟩, ⟨m, hn.sameBut hs (Ne.symm (cne x c hc)), fun j y v' e1 e2 e3 => ?_⟩, fun y c' e => ?_, I.free, I.freeC, fun p hp => ?_, tracked ⟨oc, hoc, I.freeC x c hc⟩ hs, by simpa using I.len⟩ ⟨c, hs, .inr hc⟩
    · exact (hs.2 b (Nat.ne_of_lt (Nat.lt_of_lt_of_le (Heap.lt_size e) (I.ok.cab x c hfn hc)))).trans (I.base.keep b o e n hb hx)
    · obtain ⟨sl, e1⟩ := I.base.slot b o e n hb hx
      exact ⟨sl, (hs.2 b (Nat.ne_of_lt (Nat.lt_of_lt_of_le (Heap.lt_size e) (I.ok.cab x c hfn hc)))).trans e1⟩
    · obtain ⟨o', e1⟩ := I.base.there b o e hx
      exact ⟨o', (hs.2 b (Nat.ne_of_lt (Nat.lt_of_lt_of_le (Heap.lt_size e) (I.ok.cab x c hfn hc)))).trans e1⟩
    · by_cases hj : j = i
      · subst hj
        rw [hi] at e1; cases e1
        rw [List.getElem?_set_self hiσ] at e2
        cases e2
        exact ⟨u, r, .inr ⟨.inl hk, c, hc, hc'⟩⟩
      · rw [List.getElem?_set_ne (Ne.symm hj)] at e2
        obtain ⟨u', r', q⟩ := hl j y v' e1 e2 e3
        refine ⟨u', r', ?_⟩
        rcases q with q | ⟨k, c', e, z'⟩
        · exact .inl q
        · refine .inr ⟨k, c', e, z'.sameBut hs ?_⟩
          rintro rfl
          exact hj (nodup_ix hN e1 (I.ok.inj _ _ _ e hc ▸ hi))
    · by_cases hcc : c' = c
      · subst hcc; exact ⟨_, hc'⟩
      · obtain ⟨w2, z2⟩ := I.cell y c' e
        exact ⟨w2, z2.sameBut hs hcc⟩
    · obtain ⟨e, n, ne, nf, d⟩ := I.pin p hp
      refine ⟨(hs.2 p.1 ?_).trans e, n, ne, nf, d⟩
      intro q
      rw [q, hoc] at e
      have q' : oc = p.2 := Option.some.inj e
      exact d w' (by rw [← q']; exact hocd)
theorem store_ok {M : Model} {A : Around} {E : Value → Shared → Prop} {i : Nat} {x : Str} {v : V} {u : Value} {Q : Unit → Shared → Prop} (I : Inv X pins σ H s) (hN : X.N.Nodup) (hi : X.N[i]? = some x) (hx : Loc X.env.scope x) (r : RelV v u)
    (h : ∀ s', Inv X pins (σ.set i (some v)) H s' → Q () s') (hf : X.fn x = true ∨ X.env.scope.names.lookup x = some .local := by first | exact .inl rfl | exact .inr rfl | assumption) : wpAny M A (storeName X.env x u) Q E s :=
  store_ok2 I hN hi hx r (fun s' I' _ => h s' I') hf
/-- behind a call or a block, the state as it is -/
theorem Inv.call' {s' : Shared} {ch : List Addr} (I : Inv X pins σ H s) (ho : s'.os = s.os) (u : Un (frs X.stack) ch H H' s.heap s'.heap) (hok : HOk X.prog X.w H' s'.heap) (hg : AllBare s'.gens)
    (hch : ∀ b ∈ ch, (b ∈ X.ex ∨ X.s₀.heap.objs.size ≤ b) ∧ b ≠ X.env.locals ∧ (∀ x c, X.env.cells.lookup x = some c → c ≠ b) ∧ ∀ p ∈ X.pn ++ pins, p.1 ≠ b) : Inv X pins σ H' s' := by
  obtain ⟨h', g', d', t', o'⟩ := s'
  have e : o' = s.os := ho
  subst e
  exact I.call (g' := g') (t' := t') (d' := d') u hok hg hch
end

/-- an exception: its class, its own dict's address (where it has one), the abstract heap behind it -/
abbrev XK := Value → Option Addr → Hp → Prop
abbrev St := List (Option V)
abbrev VK := V → Hp → Prop
/-- an expression's reading; a test's; an argument list's -/
abbrev TE := St → Hp → VK → Prop
abbrev TT := St → Hp → (Bool → Hp → Prop) → Prop
abbrev TA := St → Hp → (List V → Hp → Prop) → Prop
/-- what is wanted behind a statement -/
structure Ends where
  nx : St → Hp → Prop
  rt : VK
  bk : St → Hp → Prop := fun _ _ => False
  ct : St → Hp → Prop := fun _ _ => False
abbrev TS := Ends → St → Hp → Prop

def EP (X : Cx) (pins : List (Addr × Obj)) (σ : St) (Q : VK) (u : Value) (s' : Shared) : Prop := ∃ v H', Inv X pins σ H' s' ∧ RelV v u ∧ Q v H'
def TP (X : Cx) (pins : List (Addr × Obj)) (σ : St) (Q : Bool → Hp → Prop) (b : Bool) (s' : Shared) : Prop := ∃ H', Inv X pins σ H' s' ∧ Q b H'
def AP (X : Cx) (pins : List (Addr × Obj)) (σ : St) (Q : List V → Hp → Prop) (us : List Value) (s' : Shared) : Prop := ∃ vs H', Inv X pins σ H' s' ∧ Vals vs us ∧ Q vs H'
def SP (X : Cx) (pins : List (Addr × Obj)) (D : Ends) (f : Flow) (s' : Shared) : Prop :=
  match f with
  | .next => ∃ σ' H', Inv X pins σ' H' s' ∧ D.nx σ' H'
  | .brk => ∃ σ' H', Inv X pins σ' H' s' ∧ D.bk σ' H'
  | .cont => ∃ σ' H', Inv X pins σ' H' s' ∧ D.ct σ' H'
  | .ret u => ∃ v σ' H', Inv X pins σ' H' s' ∧ RelV v u ∧ D.rt v H'

def PE (X : Cx) (e : Expr) (t : TE) : Prop :=
  ∀ (pins : List (Addr × Obj)) (s : Shared) (σ : St) (H : Hp) (Q : VK), Inv X pins σ H s → t σ H Q → wpAny (model X.prog X.w) X.A (eval e X.env) (EP X pins σ Q) X.xe s
def PT (X : Cx) (e : Expr) (t : TT) : Prop :=
  ∀ (pins : List (Addr × Obj)) (s : Shared) (σ : St) (H : Hp) (Q : Bool → Hp → Prop), Inv X pins σ H s → t σ H Q → wpAny (model X.prog X.w) X.A (isTrue e X.env (eval e X.env)) (TP X pins σ Q) X.xe s
/-- a test whatever its 'whole' is (and, or) -/
def PW (X : Cx) (e : Expr) (t : TT) : Prop :=
  ∀ (whole : Sem Value) (pins : List (Addr × Obj)) (s : Shared) (σ : St) (H : Hp) (Q : Bool → Hp → Prop), Inv X pins σ H s → t σ H Q → wpAny (model X.prog X.w) X.A (isTrue e X.env whole) (TP X pins σ Q) X.xe s
theorem PW.pt {X : Cx} {e : Expr} {t : TT} (h : PW X e t) : PT X e t := h _
/-- an argument list (no star), from the left -/
def PA (X : Cx) (es : List Expr) (t : TA) : Prop :=
  ∀ (pos : Pos) (pins : List (Addr × Obj)) (s : Shared) (σ : St) (H : Hp) (Q : List V → Hp → Prop), Inv X pins σ H s → t σ H Q → wpAny (model X.prog X.w) X.A (spliced (backTo pos (starEach es X.env))) (AP X pins σ Q) X.xe s
def PS (X : Cx) (st : Stmt) (t : TS) : Prop :=
  ∀ (pins : List (Addr × Obj)) (s : Shared) (σ : St) (H : Hp) (D : Ends), Inv X pins σ H s → t D σ H → wpAny (model X.prog X.w) X.A (exec st X.env) (SP X pins D) X.xe s
def PSs (X : Cx) (st : List Stmt) (t : TS) : Prop :=
  ∀ (pins : List (Addr × Obj)) (s : Shared) (σ : St) (H : Hp) (D : Ends), Inv X pins σ H s → t D σ H → wpAny (model X.prog X.w) X.A (execs st X.env) (SP X pins D) X.xe s
/-- weaken the end -/
theorem thn {α : Type} {t : Sem α} {Q Q' : α → Shared → Prop} {M : Model} {A : Around} {E : Value → Shared → Prop} {s : Shared} (h : wpAny M A t Q E s) (hQ : ∀ a s, Q a s → Q' a s) : wpAny M A t Q' E s := wpAny_mono h hQ fun _ _ x => x
end L2

namespace L2
open PySem PySem.Spec PyProof.Rows
section
variable {X : Cx}

def tVar (i : Nat) : TE := fun σ H Q => ∃ v, σ[i]? = some (some v) ∧ Q v H
def tC (v : V) : TE := fun _ H Q => Q v H
theorem pe_var {i : Nat} {x : Str} {pos : Pos} (hN : X.N[i]? = some x) (hv : Vis X.env.scope x) (hd : (x == ("__debug__" : Str)) = false := by decide) (hcd : (x == ("__classdict__" : Str)) = false := by decide) : PE X (.Name x pos) (tVar i) := by
  intro pins s σ H Q I h
  obtain ⟨v, e, h⟩ := h
  obtain ⟨m, hn, hl⟩ := I.loc
  obtain ⟨u, r, l⟩ := hl i x v hN e hv
  have fin : EP X pins σ Q u s := ⟨v, H, I, r, h⟩
  rcases l with ⟨hk, hm⟩ | ⟨hk, c, hc, hcell⟩
  · exact wpAny_Name (wpAny_loadName_local I.ok.kind hk hn hm fin) hd
  · rcases hk with hk | hk
    · exact wpAny_Name (wpAny_loadName_cell I.ok.kind hk hc hcell fin) hd
    · exact wpAny_Name (wpAny_loadName_free I.ok.kind hk hc hcell fin hcd) hd
theorem pe_int {i j pos} : PE X (.Constant (.int i) j pos) (tC (.int i)) := fun _ _ _ H _ I h => wpAny_Constant_int ⟨.int i, H, I.tok _, ⟨_, rfl⟩, h⟩
theorem pe_bl {b j pos} : PE X (.Constant (.bool b) j pos) (tC (.bl b)) := fun _ _ _ H _ I h => Constant_bool ⟨.bl b, H, I, rfl, h⟩
theorem pe_non {j pos} : PE X (.Constant .none j pos) (tC .non) := fun _ _ _ H _ I h => Constant_none ⟨.non, H, I, rfl, h⟩
theorem pe_str {x j pos} : PE X (.Constant (.str x) j pos) (tC (.str x)) := fun _ _ _ H _ I h => Calls.Constant_str ⟨.str x, H, I.tok _, ⟨_, rfl⟩, h⟩

/-- a global name of the def -/
def Gl (X : Cx) (x : Str) : Prop := X.env.kindOf x = some .globalImplicit
theorem ld_glob {E : Value → Shared → Prop} {pins : List (Addr × Obj)} {s : Shared} {σ : St} {H : Hp} {x : Str} {u : Value} {pos : Pos} {Q : Value → Shared → Prop} (I : Inv X pins σ H s) (hg : Gl X x) (hm : X.mg x = some u) (h : Q u s)
    (hd : (x == ("__debug__" : Str)) = false := by decide) : wpAny (model X.prog X.w) X.A (eval (.Name x pos) X.env) Q E s :=
  Calls.Name_function_global I.ok.kind hg (Calls.loadGlobal_global (by rw [I.ok.glob]; exact I.mod.glob.keeps I.bk) hm h) hd
theorem ld_blt {E : Value → Shared → Prop} {pins : List (Addr × Obj)} {s : Shared} {σ : St} {H : Hp} {x : Str} {u : Value} {pos : Pos} {Q : Value → Shared → Prop} (I : Inv X pins σ H s) (hg : Gl X x) (hm : X.mg x = none) (hv : bootBuiltins x = some u) (h : Q u s)
    (hn : x ≠ "__name__" := by decide) (hd : (x == ("__debug__" : Str)) = false := by decide) : wpAny (model X.prog X.w) X.A (eval (.Name x pos) X.env) Q E s := by
  obtain ⟨mb, h1, h2⟩ := I.mod.blt
  exact Calls.Name_function_global I.ok.kind hg (Calls.loadGlobal_builtin (by rw [I.ok.glob]; exact I.mod.glob.keeps I.bk) hm (by rw [I.ok.blt]; exact h1.keeps I.bk) ((h2 x hn).trans hv) h) hd
/-- a module's constant, a class, a function, as a value -/
theorem pe_glob {x : Str} {v : V} {u : Value} {pos : Pos} (hg : Gl X x) (hm : X.mg x = some u) (r : RelV v u) (hd : (x == ("__debug__" : Str)) = false := by decide) : PE X (.Name x pos) (tC v) :=
  fun _ _ _ H _ I h => ld_glob I hg hm ⟨v, H, I, r, h⟩ hd
theorem pe_bltn {x : Str} {v : V} {u : Value} {pos : Pos} (hg : Gl X x) (hm : X.mg x = none) (hv : bootBuiltins x = some u) (r : RelV v u) (hn : x ≠ "__name__" := by decide) (hd : (x == ("__debug__" : Str)) = false := by decide) : PE X (.Name x pos) (tC v) :=
  fun _ _ _ H _ I h => ld_blt I hg hm hv ⟨v, H, I, r, h⟩ hn hd

variable {a b : Expr} {ta tb : TE} {pos : Pos}
def PC (X : Cx) (op : CmpOp) (a b : Expr) (t : TE) : Prop :=
  ∀ (pins : List (Addr × Obj)) (s : Shared) (σ : St) (H : Hp) (Q : VK), Inv X pins σ H s → t σ H Q →
    wpAny (model X.prog X.w) X.A (eval a X.env) (fun v s₁ => wpAny (model X.prog X.w) X.A (eval b X.env) (fun u s₂ => wpAny (model X.prog X.w) X.A (compareOp op v u) (EP X pins σ Q) X.xe s₂) X.xe s₁) X.xe s
theorem nobehind (b : Expr) {op : CmpOp} (h : op ≠ .In) (h2 : op ≠ .NotIn) : behindInMarks op b = false := by
  have e1 : (op == CmpOp.In) = false := by cases op <;> first | rfl | exact absurd rfl h
  have e2 : (op == CmpOp.NotIn) = false := by cases op <;> first | rfl | exact absurd rfl h2
  cases b <;> simp [behindInMarks, e1, e2]
/-- is None -/
def tIsN (ta : TE) : TE := fun σ H Q => ta σ H fun x H1 => Q (.bl (decide (x = .non))) H1
def tNotN (ta : TE) : TE := fun σ H Q => ta σ H fun x H1 => Q (.bl (!decide (x = .non))) H1
theorem RelV.none_iff {x : V} {v : Value} (r : RelV x v) : (v == Value.none) = decide (x = .non) := by
  cases x with
  | non => cases r; rfl
  | bl _ => cases r; rfl
  | int _ => obtain ⟨t, rfl⟩ := r; rfl
  | str _ => obtain ⟨t, rfl⟩ := r; rfl
  | byt _ => obtain ⟨t, rfl⟩ := r; rfl
  | flt _ => obtain ⟨t, rfl⟩ := r; rfl
  | ref _ => cases r; rfl
  | ty _ => cases r; rfl
theorem pc_notN {j pos'} (ha : PE X a ta) : PC X .IsNot a (.Constant .none j pos') (tNotN ta) := by
  intro pins s σ H Q I h
  refine thn (ha pins s σ H _ I h) fun v s1 ⟨x, H1, I1, r1, q1⟩ => ?_
  exact Constant_none (isnot_none_gen ⟨.bl _, H1, I1, by rw [r1.none_iff]; rfl, q1⟩)
/-- a comparison as a value, as a test -/
def tB (t : TE) : TT := fun σ H Q => t σ H fun x H1 => ∃ c, x = .bl c ∧ Q c H1
theorem pt_cmp {op : CmpOp} {t : TE} (h : PC X op a b t) (h1 : behindInMarks op b = false := by first | exact nobehind _ (by decide) (by decide) | rfl) : PT X (.Compare a [op] [b] pos) (tB t) := by
  intro pins s σ H Q I hw
  refine wpAny_isTrue_Compare1 (thn (h pins s σ H _ I hw) fun v s1 h1 => thn h1 fun u s2 h2 => thn h2 fun c s3 ⟨x, H1, I1, r1, q1⟩ => ?_) h1
  obtain ⟨d, rfl, q⟩ := q1
  cases r1
  exact wpAny_truthy_bool ⟨H1, I1, q⟩
/-- an expression whose value is a bool, as a test -/
theorem pt_val {e : Expr} {t : TE} (h : PE X e t) (he : ∀ whole, isTrue e X.env whole = (do let v ← whole; standAt e.pos; holding [v] (truthy v)) := by intro _; rfl) : PT X e (tB t) := by
  intro pins s σ H Q I hw
  refine isTrue_plain (thn (h pins s σ H _ I hw) fun v s1 ⟨x, H1, I1, r1, q1⟩ => ?_) (he _)
  obtain ⟨d, rfl, q⟩ := q1
  cases r1
  exact wpAny_truthy_bool ⟨H1, I1, q⟩

variable {tA tB' : TT} {rest : List Expr}
def tAnd (t u : TT) : TT := fun σ H Q => t σ H fun c H1 => if c = true then u σ H1 Q else Q false H1
def tOr (t u : TT) : TT := fun σ H Q => t σ H fun c H1 => if c = true then Q true H1 else u σ H1 Q
def tNot (t : TT) : TT := fun σ H Q => t σ H fun c H1 => Q (!c) H1
theorem pw_and1 (ha : PT X a tA) : PW X (.BoolOp .And [a] pos) tA := by
  intro wh pins s σ H Q I h
  refine isTrue_and (thn (ha pins s σ H Q I h) fun c s1 e => ?_)
  cases c with
  | true => exact isTrue_and_nil e
  | false => exact e
theorem pw_or1 (ha : PT X a tA) : PW X (.BoolOp .Or [a] pos) tA := by
  intro wh pins s σ H Q I h
  refine isTrue_or (thn (ha pins s σ H Q I h) fun c s1 e => ?_)
  cases c with
  | false => exact isTrue_or_nil e
  | true => exact e
theorem pw_and (ha : PT X a tA) (hb : PW X (.BoolOp .And (b :: rest) pos) tB') : PW X (.BoolOp .And (a :: b :: rest) pos) (tAnd tA tB') := by
  intro wh pins s σ H Q I h
  refine isTrue_and (thn (ha pins s σ H _ I h) fun c s1 ⟨H1, I1, q1⟩ => ?_)
  cases c with
  | true => exact hb wh pins s1 σ H1 Q I1 q1
  | false => exact ⟨H1, I1, q1⟩
theorem pw_or (ha : PT X a tA) (hb : PW X (.BoolOp .Or (b :: rest) pos) tB') : PW X (.BoolOp .Or (a :: b :: rest) pos) (tOr tA tB') := by
  intro wh pins s σ H Q I h
  refine isTrue_or (thn (ha pins s σ H _ I h) fun c s1 ⟨H1, I1, q1⟩ => ?_)
  cases c with
  | true => exact ⟨H1, I1, q1⟩
  | false => exact hb wh pins s1 σ H1 Q I1 q1
theorem pt_not (ha : PT X a tA) : PT X (.UnaryOp .Not a pos) (tNot tA) := by
  intro pins s σ H Q I h
  exact isTrue_not (ha pins s σ H (fun c H1 => Q (!c) H1) I h)
/-- .. as values (bools) -/
def tAndV (ta tb : TE) : TE := fun σ H Q => ta σ H fun x H1 => ∃ c, x = .bl c ∧ if c = true then tb σ H1 Q else Q (.bl false) H1
def tOrV (ta tb : TE) : TE := fun σ H Q => ta σ H fun x H1 => ∃ c, x = .bl c ∧ if c = true then Q (.bl true) H1 else tb σ H1 Q
def tNotV (ta : TE) : TE := fun σ H Q => ta σ H fun x H1 => ∃ c, x = .bl c ∧ Q (.bl (!c)) H1
theorem pe_one {op} {t : TE} (h : PE X a t) : PE X (.BoolOp op [a] pos) t := fun pins s σ H Q I hw => BoolOp_one (h pins s σ H Q I hw)
theorem pe_and (ha : PE X a ta) (hb : PE X (.BoolOp .And (b :: rest) pos) tb) : PE X (.BoolOp .And (a :: b :: rest) pos) (tAndV ta tb) := by
  intro pins s σ H Q I h
  refine BoolOp_and (thn (ha pins s σ H _ I h) fun v s1 ⟨x, H1, I1, r1, q1⟩ => ?_)
  obtain ⟨c, rfl, q1⟩ := q1
  cases r1
  refine wpAny_truthy_bool ?_
  cases c with
  | true => exact hb pins s1 σ H1 Q I1 q1
  | false => exact ⟨.bl false, H1, I1, rfl, q1⟩
theorem pe_not (ha : PE X a ta) : PE X (.UnaryOp .Not a pos) (tNotV ta) := by
  intro pins s σ H Q I h
  refine UnaryOp_ (thn (ha pins s σ H _ I h) fun v s1 ⟨x, H1, I1, r1, q1⟩ => ?_)
  obtain ⟨c, rfl, q1⟩ := q1
  cases r1
  exact not_of (wpAny_truthy_bool ⟨.bl (!c), H1, I1, rfl, q1⟩)
/-- a if t else b -/
def tIf (t : TT) (ta tb : TE) : TE := fun σ H Q => t σ H fun c H1 => if c = true then ta σ H1 Q else tb σ H1 Q
end
end L2

namespace L2
open PySem PySem.Spec PyProof.Rows

def SqL (K : PySem.W.Frag) (H : Hp) (a : Addr) (xs : List V) : Prop :=
  Rd H a (.lst xs) ∨
    ∃ (o : Obj) (its : Array Value) (n : Nat), K.lookup a = some o ∧ o.cls = .type "list" ∧ o.dict = none ∧ o.data = .seq its n ∧ its.size ≤ sizeLine ∧ Vals xs its.toList
def SqT (K : PySem.W.Frag) (H : Hp) (a : Addr) (xs : List V) : Prop :=
  Rd H a (.tup xs) ∨
    ∃ (o : Obj) (its : Array Value) (n : Nat), K.lookup a = some o ∧ o.cls = .type "tuple" ∧ o.data = .seq its n ∧ its.size ≤ sizeLine ∧ Vals xs its.toList
def absV : Value → Option V
  | .none => some .non
  | .bool b => some (.bl b)
  | .int i _ => some (.int i)
  | .str x _ => some (.str x)
  | .bytes b _ => some (.byt b)
  | .float b _ => some (.flt b)
  | .ref a => some (.ref a)
  | .type n => some (.ty n)
  | _ => none
theorem RelV.abs {x : V} {u : Value} (r : RelV x u) : absV u = some x := by
  cases x with
  | non => cases r; rfl
  | bl _ => cases r; rfl
  | int _ => obtain ⟨t, rfl⟩ := r; rfl
  | str _ => obtain ⟨t, rfl⟩ := r; rfl
  | byt _ => obtain ⟨t, rfl⟩ := r; rfl
  | flt _ => obtain ⟨t, rfl⟩ := r; rfl
  | ref _ => cases r; rfl
  | ty _ => cases r; rfl
theorem RelV.inj {x y : V} {u : Value} (r : RelV x u) (q : RelV y u) : x = y := Option.some.inj (r.abs.symm.trans q.abs)
theorem Vals.inj : ∀ {xs ys : List V} {us : List Value}, Vals xs us → Vals ys us → xs = ys
  | _, _, _, .nil, .nil => rfl
  | _, _, _, .cons r t, .cons r' t' => by rw [r.inj r', Vals.inj t t']
section
variable {X : Cx} {pins : List (Addr × Obj)} {σ : St} {H : Hp} {s : Shared} {a : Addr} {xs ys : List V}
theorem SqL.of {K : PySem.W.Frag} (h : H a = some (.lst xs)) : SqL K H a xs := .inl (.inl h)
theorem SqT.of {K : PySem.W.Frag} (h : H a = some (.tup xs)) : SqT K H a xs := .inl (.inl h)
theorem Inv.list (I : Inv X pins σ H s) (h : SqL X.K H a xs) : ∃ its : List Value, Vals xs its ∧ PlainL s.heap a its.toArray ∧ xs.length ≤ sizeLine := by
  rcases h with h | ⟨o, its, n, hk, hc, hd, hs, hz, r⟩
  · obtain ⟨z, its, n, r, e⟩ := h.ok I.hok
    exact ⟨its, r, ⟨_, n, e, rfl, rfl, rfl⟩, z⟩
  · refine ⟨its.toList, r, ⟨o, n, I.kIn a o hk, hc, hd, by simpa using hs⟩, ?_⟩
    have e := r.length
    simp only [Array.length_toList] at e
    omega
theorem Inv.tuple (I : Inv X pins σ H s) (h : SqT X.K H a xs) : ∃ its : List Value, Vals xs its ∧ IsTup s.heap a its.toArray ∧ xs.length ≤ sizeLine := by
  rcases h with h | ⟨o, its, n, hk, hc, hs, hz, r⟩
  · obtain ⟨z, its, r, p⟩ := h.ok I.hok
    exact ⟨its, r, p, z⟩
  · refine ⟨its.toList, r, ⟨o, I.kIn a o hk, hc, n, by simpa using hs⟩, ?_⟩
    have e := r.length
    simp only [Array.length_toList] at e
    omega
theorem Inv.list_inj (I : Inv X pins σ H s) (h : SqL X.K H a xs) (h' : SqL X.K H a ys) : xs = ys := by
  obtain ⟨its, r, ⟨o, n, e, _, _, d⟩, _⟩ := I.list h
  obtain ⟨its', r', ⟨o', n', e', _, _, d'⟩, _⟩ := I.list h'
  rw [e] at e'; cases e'
  rw [d] at d'
  injection d' with d1 _
  have : its = its' := by simpa using congrArg Array.toList d1
  subst this
  exact r.inj r'
end

abbrev Cx.wish (X : Cx) (E : Value → Shared → Prop) : Cx := { X with xe := E }
/-- no exception leaves -/
abbrev Cx.nox (X : Cx) : Cx := X.wish fun _ _ => False
theorem Cx.Ok.wish {X : Cx} (ok : X.Ok) (E : Value → Shared → Prop) : (X.wish E).Ok :=
  ⟨ok.mod, ok.kind, ok.glob, ok.blt, ok.above, ok.inj, ok.has, ok.cab, ok.hd, ok.frames, ok.stk, ok.exf, ok.bs, ok.bsz, ok.noex, ok.exfs, ok.funs, ok.frf⟩
theorem Cx.Ok.unwish {X : Cx} {E : Value → Shared → Prop} (ok : (X.wish E).Ok) : X.Ok :=
  ⟨ok.mod, ok.kind, ok.glob, ok.blt, ok.above, ok.inj, ok.has, ok.cab, ok.hd, ok.frames, ok.stk, ok.exf, ok.bs, ok.bsz, ok.noex, ok.exfs, ok.funs, ok.frf⟩
section
variable {X : Cx} {pins : List (Addr × Obj)} {σ : St} {H : Hp} {s : Shared} {E : Value → Shared → Prop}
theorem Inv.wish (I : Inv X pins σ H s) (E : Value → Shared → Prop) : Inv (X.wish E) pins σ H s := ⟨I.ok.wish E, I.os, I.bare, I.base, I.loc, I.cell, I.free, I.freeC, I.pin, I.hok, I.len⟩
theorem Inv.unwish (I : Inv (X.wish E) pins σ H s) : Inv X pins σ H s := ⟨I.ok.unwish, I.os, I.bare, I.base, I.loc, I.cell, I.free, I.freeC, I.pin, I.hok, I.len⟩
theorem SP.unwish {D : Ends} {f : Flow} {s' : Shared} (h : SP (X.wish E) pins D f s') : SP X pins D f s' := by
  cases f with
  | next => obtain ⟨σ', H', I, q⟩ := h; exact ⟨σ', H', I.unwish, q⟩
  | brk => obtain ⟨σ', H', I, q⟩ := h; exact ⟨σ', H', I.unwish, q⟩
  | cont => obtain ⟨σ', H', I, q⟩ := h; exact ⟨σ', H', I.unwish, q⟩
  | ret u => obtain ⟨v, σ', H', I, r, q⟩ := h; exact ⟨v, σ', H', I.unwish, r, q⟩
end

section
variable {X : Cx} {st : Stmt} {rest : List Stmt} {t u : TS} {e : Expr} {te : TE} {pos : Pos}
def tNext : TS := fun D σ H => D.nx σ H
def tSeq (t u : TS) : TS := fun D σ H => t { D with nx := u D } σ H
theorem pss_nil : PSs X [] tNext := fun _ _ σ H _ I h => wpAny_execs_nil ⟨σ, H, I, h⟩
theorem pss_cons (h1 : PS X st t) (h2 : PSs X rest u) : PSs X (st :: rest) (tSeq t u) := by
  intro pins s σ H D I h
  refine wpAny_execs_cons (thn (h1 pins s σ H { D with nx := u D } I h) fun f s1 q => ?_)
  cases f with
  | next =>
    obtain ⟨σ', H', I', q⟩ := q
    exact h2 pins s1 σ' H' D I' q
  | ret v => exact q
  | brk => exact q
  | cont => exact q
theorem pss_one (h1 : PS X st t) : PSs X [st] t := by
  intro pins s σ H D I h
  refine wpAny_execs_cons (thn (h1 pins s σ H D I h) fun f s1 q => ?_)
  cases f with
  | next => exact wpAny_execs_nil q
  | ret v => exact q
  | brk => exact q
  | cont => exact q
/-- in a def's body nothing is shown -/
theorem Inv.quiet {pins : List (Addr × Obj)} {σ : St} {H : Hp} {s : Shared} (I : Inv X pins σ H s) : interactive X.env = false := by simp [interactive, I.ok.kind]
/-- an expression whose value is dropped -/
def tDrop (te : TE) : TS := fun D σ H => te σ H fun _ H1 => D.nx σ H1
theorem ps_expr (he : PE X e te) (hs : swapsWith e none pos.line X.env = pure false := by rfl) : PS X (.Expr e pos) (tDrop te) := by
  intro pins s σ H D I h
  exact wpAny_Expr_any (thn (he pins s σ H _ I h) fun v s1 ⟨x, H1, I1, r1, q1⟩ => ⟨σ, H1, I1, q1⟩) I.quiet hs
def tRet (te : TE) : TS := fun D σ H => te σ H D.rt
theorem ps_ret (he : PE X e te) : PS X (.Return (some e) pos) (tRet te) := by
  intro pins s σ H D I h
  exact wpAny_Return_some (thn (he pins s σ H _ I h) fun v s1 ⟨x, H1, I1, r1, q1⟩ => ⟨x, σ, H1, I1, r1, q1⟩)
def tRetN : TS := fun D _ H => D.rt .non H
def tIfS (c : TT) (t u : TS) : TS := fun D σ H => c σ H fun b H1 => if b = true then t D σ H1 else u D σ H1
theorem ps_if {c : Expr} {a b : List Stmt} {tc : TT} (hc : PT X c tc) (ha : PSs X a t) (hb : PSs X b u) : PS X (.If c a b pos) (tIfS tc t u) := by
  intro pins s σ H D I h
  refine wpAny_If (thn (hc pins s σ H _ I h) fun d s1 ⟨H1, I1, q1⟩ => ?_)
  cases d with
  | true => exact ha pins s1 σ H1 D I1 q1
  | false => exact hb pins s1 σ H1 D I1 q1
/-- code that the proof never comes to -/
def tNever : TS := fun _ _ _ => False
theorem pss_never {sts : List Stmt} : PSs X sts tNever := fun _ _ _ _ _ _ h => h.elim
end

abbrev TG := V → St → Hp → (St → Hp → Prop) → Prop
abbrev TGs := List V → St → Hp → (St → Hp → Prop) → Prop
def PG (X : Cx) (target : Expr) (t : TG) : Prop :=
  ∀ (pins : List (Addr × Obj)) (s : Shared) (σ : St) (H : Hp) (v : V) (u : Value) (Q : St → Hp → Prop), Inv X pins σ H s → RelV v u → t v σ H Q →
    wpAny (model X.prog X.w) X.A (assign target X.env u) (fun _ s' => ∃ σ' H', Inv X pins σ' H' s' ∧ Q σ' H') X.xe s
/-- several targets, one after another -/
def PGs (X : Cx) (ts : List Expr) (t : TGs) : Prop :=
  ∀ (pins : List (Addr × Obj)) (s : Shared) (σ : St) (H : Hp) (vs : List V) (us : List Value) (Q : St → Hp → Prop), Inv X pins σ H s → Vals vs us → t vs σ H Q →
    wpAny (model X.prog X.w) X.A (assignInOrder ((assignEach ts X.env).map (·.2)) us) (fun _ s' => ∃ σ' H', Inv X pins σ' H' s' ∧ Q σ' H') X.xe s
/-- o[i] = v, by values -/
abbrev TSet := V → V → V → Hp → (Hp → Prop) → Prop
/-- a op= b, by values -/
abbrev TIp := V → V → Hp → VK → Prop
section
variable {X : Cx} {pos : Pos}
def gName (i : Nat) : TG := fun v σ H Q => Q (σ.set i (some v)) H
theorem pg_name {i : Nat} {x : Str} (hN : X.N.Nodup) (hi : X.N[i]? = some x) (hx : Loc X.env.scope x) (hf : X.fn x = true ∨ X.env.scope.names.lookup x = some .local := by first | exact .inl rfl | exact .inr rfl | assumption) : PG X (.Name x pos) (gName i) := by
  intro pins s σ H v u Q I r h
  exact wpAny_assign_Name (store_ok I hN hi hx r (fun s' I' => ⟨_, H, I', h⟩) hf)
def gNil : TGs := fun vs σ H Q => vs = [] ∧ Q σ H
def gCons (t : TG) (u : TGs) : TGs := fun vs σ H Q => ∃ v r, vs = v :: r ∧ t v σ H fun σ' H' => u r σ' H' Q
theorem pgs_nil : PGs X [] gNil := by
  intro pins s σ H vs us Q I r h
  obtain ⟨e, h⟩ := h
  subst e
  cases r
  exact assignInOrder_nil ⟨σ, H, I, h⟩
theorem pgs_cons {e : Expr} {es : List Expr} {t : TG} {u : TGs} (h1 : PG X e t) (h2 : PGs X es u)
    (hs : (assignEach (e :: es) X.env).map (·.2) = assign e X.env :: (assignEach es X.env).map (·.2) := by rfl) : PGs X (e :: es) (gCons t u) := by
  intro pins s σ H vs us Q I r h
  obtain ⟨v, vr, e1, h⟩ := h
  subst e1
  cases r with
  | cons r rr =>
    rw [hs]
    refine assignInOrder_cons (thn (h1 pins s σ H _ _ _ I r h) fun _ s1 ⟨σ1, H1, I1, q1⟩ => ?_)
    exact h2 pins s1 σ1 H1 _ _ Q I1 rr q1
/-- (a, b, ..) = a tuple of that length -/
def gTup (K : PySem.W.Frag) (n : Nat) (t : TGs) : TG := fun v σ H Q => ∃ a xs, v = .ref a ∧ SqT K H a xs ∧ xs.length = n ∧ t xs σ H Q
theorem pg_tup {es : List Expr} {k : Nat} {t : TGs} {n : Nat} (hc : X.calm = true) (h : PGs X es t)
    (hn : (assignEach es X.env).length = n := by rfl) (hst : (assignEach es X.env).findIdx? (·.1) = none := by rfl) : PG X (.Tuple es k pos) (gTup X.K n t) := by
  intro pins s σ H v u Q I r hw
  obtain ⟨a, xs, e1, hq, hl, hw⟩ := hw
  subst e1
  cases r
  obtain ⟨its, rv, ht, hz⟩ := I.tuple hq
  refine assign_Tuple_tuple (I.ok.hd hc) ht (by simp [hn, ← hl, rv.length]) hst fun h' hx => ?_
  have I1 : Inv X pins σ H { s with heap := h' } := I.kept (t' := s.toks) fun b o e => hx b o (Nat.ne_of_lt (Heap.lt_size e)) e
  exact h pins _ σ H xs _ Q I1 (by simpa using rv) hw
/-- o[i] = .. -/
def gSub (to ti : TE) (t : TSet) : TG := fun v σ H Q => to σ H fun o H1 => ti σ H1 fun i H2 => t o i v H2 fun H3 => Q σ H3
/-- target = value -/
def tAsg (te : TE) (g : TG) : TS := fun D σ H => te σ H fun x H1 => g x σ H1 D.nx
/-- name = value -/
theorem ps_set {i : Nat} {x : Str} {e : Expr} {te : TE} {pos' : Pos} (hN : X.N.Nodup) (hi : X.N[i]? = some x) (hx : Loc X.env.scope x) (he : PE X e te) (hs : swapsWith e (some (.Name x pos')) pos.line X.env = pure false := by rfl) (hf : X.fn x = true ∨ X.env.scope.names.lookup x = some .local := by first | exact .inl rfl | exact .inr rfl | assumption) :
    PS X (.Assign [.Name x pos'] e pos) (tAsg te (gName i)) := by
  intro pins s σ H D I h
  refine wpAny_Assign_Name (thn (he pins s σ H _ I h) fun v s1 ⟨y, H1, I1, r1, q1⟩ => ?_) hs
  exact store_ok I1 hN hi hx r1 (fun s2 I2 => ⟨_, H1, I2, q1⟩) hf
/-- name op= e -/
def tAug (i : Nat) (te : TE) (ti : TIp) : TS := fun D σ H => ∃ x, σ[i]? = some (some x) ∧ te σ H fun y H1 => ti x y H1 fun z H2 => D.nx (σ.set i (some z)) H2
/-- ints -/
def ipI (f : Int → Int → Int) : TIp := fun x y H Q => ∃ i j, x = .int i ∧ y = .int j ∧ Q (.int (f i j)) H
end

section
variable {X : Cx} {pos : Pos}
end

/-- at turn i: it yields x (the heap may grow), or it stops -/
structure It where
  go : Nat → Hp → Prop
  yld : Nat → Hp → V → Hp → Prop
  stop : Nat → Hp → Prop
/-- the iterator's own objects may turn: they are not the frame's, not pinned, younger than the entry (or a comprehension's own) -/
def FpOk (X : Cx) (pins : List (Addr × Obj)) (H : Hp) (b : Addr) : Prop :=
  H b = none ∧ b ≠ X.env.locals ∧ b ∉ X.fs ∧ (b ∈ X.ex ∨ X.s₀.heap.objs.size ≤ b) ∧ (∀ x c, X.env.cells.lookup x = some c → c ≠ b) ∧ ∀ p ∈ X.pn ++ pins, p.1 ≠ b
theorem Inv.fpOk {X : Cx} {pins : List (Addr × Obj)} {σ : St} {H H' : Hp} {s : Shared} {b : Addr} (I : Inv X pins σ H s) (hb : s.heap.objs.size ≤ b) (hn : H' b = none) : FpOk X pins H' b := by
  refine ⟨hn, Nat.ne_of_gt (Nat.lt_of_lt_of_le I.lt hb), I.nofs hb, .inr (Nat.le_trans I.sz hb), fun x c e z => ?_, fun p hp z => ?_⟩
  · obtain ⟨v, q⟩ := I.cell x c e
    exact absurd (Nat.lt_of_lt_of_le q.lt (by rw [z]; exact hb)) (Nat.lt_irrefl _)
  · exact absurd (Nat.lt_of_lt_of_le (Heap.lt_size (I.pin p hp).1) (by rw [z]; exact hb)) (Nat.lt_irrefl _)
structure Turn (P : Program) (w : World) (K : PySem.W.Frag) (tg : Expr) (J : It) (fp : List Addr) (it : Addr) (tn : Nat → Heap → Prop) : Prop where
  mem : it ∈ fp
  obj : ∀ i h, tn i h → ∀ b ∈ fp, ∃ o, h.get? b = some o ∧ ∀ v, o.data ≠ .cell v
  keep : ∀ i h h', tn i h → (∀ b ∈ fp, ∀ o, h.get? b = some o → h'.get? b = some o) → tn i h'
  item : ∀ (X : Cx), X.prog = P → X.w = w → X.K = K → X.calm = true → ∀ (i : Nat) (pins : List (Addr × Obj)) (s : Shared) (σ : St) (H : Hp) (E : Value → Shared → Prop), Inv X pins σ H s → (∀ b ∈ fp, FpOk X pins H b) → tn i s.heap → J.go i H →
    wpAny (model P w) X.A (pyNext (.ref it)) (fun r s1 => ∃ u, r = some u ∧
      wpAny (model P w) X.A (letOwnedTupleGo tg (.ref it) u) (fun _ s2 => ∃ x H', Inv X pins σ H' s2 ∧ RelV x u ∧ J.yld i H x H' ∧ tn (i + 1) s2.heap ∧ ∀ b ∈ fp, H' b = none) E s1) E s
  done : ∀ (X : Cx), X.prog = P → X.w = w → X.K = K → X.calm = true → ∀ (i : Nat) (pins : List (Addr × Obj)) (s : Shared) (σ : St) (H : Hp) (E : Value → Shared → Prop), Inv X pins σ H s → (∀ b ∈ fp, FpOk X pins H b) → tn i s.heap → J.stop i H →
    wpAny (model P w) X.A (pyNext (.ref it)) (fun r s1 => r = none ∧ Inv X pins σ H s1) E s
  self : ∀ (A : Around) (i : Nat) (s : Shared) (Q : Value → Shared → Prop) (E : Value → Shared → Prop), tn i s.heap → Q (.ref it) s → wpAny (model P w) A (pyIter (.ref it)) Q E s
abbrev TI := St → Hp → (It → Hp → Prop) → Prop
/-- an iterator has come -/
def PIE (X : Cx) (pins : List (Addr × Obj)) (σ : St) (tg : Expr) (R : It → Hp → Prop) (itv : Value) (s2 : Shared) : Prop :=
  ∃ (it : Addr) (fp : List Addr) (tn : Nat → Heap → Prop) (J : It) (H' : Hp), itv = .ref it ∧ Inv X pins σ H' s2 ∧ Turn X.prog X.w X.K tg J fp it tn ∧ tn 0 s2.heap ∧ (∀ b ∈ fp, FpOk X pins H' b) ∧ R J H'
def PI (X : Cx) (tg iter : Expr) (wi : TI) : Prop :=
  ∀ (pins : List (Addr × Obj)) (s : Shared) (σ : St) (H : Hp) (R : It → Hp → Prop), Inv X pins σ H s → wi σ H R →
    wpAny (model X.prog X.w) X.A (eval iter X.env) (fun v s1 => wpAny (model X.prog X.w) X.A (pyIter v) (PIE X pins σ tg R) X.xe s1) X.xe s

/-- the step ahead of the store is nothing for an iterator that keeps no tuple -/
theorem go_of {M : Model} {A : Around} {E : Value → Shared → Prop} {s : Shared} {tg : Expr} {it : Addr} {u : Value} {o : Obj} {n : String} {vs : Array Value} {Q : Unit → Shared → Prop} (ho : s.heap.get? it = some o) (hc : o.cls = .type n) (hd : o.data = .fields vs)
    (hn : ["enumerate", "zip", "dict_itemiterator", "dict_reverseitemiterator", "odict_iterator", "itertools.zip_longest", "itertools.pairwise"].contains n = false) (hQ : Q () s) : wpAny M A (letOwnedTupleGo tg (.ref it) u) Q E s := by
  unfold letOwnedTupleGo
  cases tg <;> first
    | exact wpAny_pure hQ
    | (cases u <;> first
        | exact wpAny_pure hQ
        | (refine wpAny_bind (wpAny_load ho ?_)
           rw [hc, hd]
           show wpAny M A (if (["enumerate", "zip", "dict_itemiterator", "dict_reverseitemiterator", "odict_iterator", "itertools.zip_longest", "itertools.pairwise"].contains n && vs[0]? == some (rawInt _)) = true then _ else _) Q E s
           rw [if_neg (by intro h; rw [hn, Bool.false_and] at h; cases h)]
           exact wpAny_pure hQ))

/-- the list at a, as it stands at each turn (a loop may append to it) -/
def Itl (K : PySem.W.Frag) (a : Addr) : It :=
  ⟨fun i H => ∃ xs x, SqL K H a xs ∧ xs[i]? = some x, fun i H x H' => H' = H ∧ ∀ xs, SqL K H a xs → xs[i]? = some x, fun i H => ∃ xs, SqL K H a xs ∧ xs.length ≤ i⟩
def Itt (K : PySem.W.Frag) (a : Addr) : It :=
  ⟨fun i H => ∃ xs x, SqT K H a xs ∧ xs[i]? = some x, fun i H x H' => H' = H ∧ ∀ xs, SqT K H a xs → xs[i]? = some x, fun i H => ∃ xs, SqT K H a xs ∧ xs.length ≤ i⟩
/-- lo, lo + 1, .. (n of them) -/
def Itr (lo : Int) (n : Nat) : It := ⟨fun i _ => i < n, fun i H x H' => H' = H ∧ x = .int (lo + i), fun i _ => n ≤ i⟩
theorem turn_list {P : Program} {w : World} {K : PySem.W.Frag} {tg : Expr} (a it : Addr) : Turn P w K tg (Itl K a) [it] it (fun i h => h.IsListIter it a i) where
  mem := by simp
  obj := fun i h st b hb => by
    have e : b = it := by simpa using hb
    subst e
    obtain ⟨o, e, c, d⟩ := st
    exact ⟨o, e, fun v z => by rw [d] at z; cases z⟩
  keep := fun i h h' st k => st.at fun o e => k it (by simp) o e
  item := by
    intro X hP hw hK hc i pins s σ H E I hf st hg
    subst hP hw hK
    obtain ⟨xs, x, hq, hx⟩ := hg
    obtain ⟨its, rv, p, hz⟩ := I.list hq
    obtain ⟨u, hu, ru⟩ := rv.get hx
    obtain ⟨f0, f1, f2, f3, f4, f5⟩ := hf it (by simp)
    refine wpAny_pyNext_list_item st p.isList (x := u) (by simpa using hu) fun h' st' sb => ?_
    have I1 : Inv X pins σ H { s with heap := h' } := I.turned (t' := s.toks) (fun b o hb e => (sb.2 b hb).trans e) f0 f1 f3 f4 f5
    obtain ⟨o, e, c, d⟩ := id st'
    exact ⟨u, rfl, go_of (s := { s with heap := h' }) e c d (by decide) ⟨x, H, I1, ru, ⟨rfl, fun ys hy => by rw [I.list_inj hy hq]; exact hx⟩, st', fun b hb => (hf b hb).1⟩⟩
  done := by
    intro X hP hw hK hc i pins s σ H E I hf st hg
    subst hP hw hK
    obtain ⟨xs, hq, hx⟩ := hg
    obtain ⟨its, rv, p, hz⟩ := I.list hq
    obtain ⟨f0, f1, f2, f3, f4, f5⟩ := hf it (by simp)
    have hl := rv.length
    exact wpAny_pyNext_list_end (I.ok.hd hc) st p.isList (by simp; omega) fun h' eb => ⟨rfl, I.turned (t' := s.toks) (fun b o hb e => eb b o hb e) f0 f1 f3 f4 f5⟩
  self := fun _ _ _ _ _ st h => wpAny_pyIter_listiter st h
theorem turn_range {P : Program} {w : World} {K : PySem.W.Frag} {tg : Expr} (it : Addr) (lo : Int) (n : Nat) : Turn P w K tg (Itr lo n) [it] it (fun i h => IsRangeIter h it (lo + (i : Nat) * 1) ((n : Int) - (i : Nat)) 1) where
  mem := by simp
  obj := fun i h st b hb => by
    have e : b = it := by simpa using hb
    subst e
    exact ⟨_, st, fun v z => by
      have z' : Data.fields _ = Data.cell v := z
      cases z'⟩
  keep := fun i h h' st k => k it (by simp) _ st
  item := by
    intro X hP hw hK hc i pins s σ H E I hf st hg
    subst hP hw hK
    obtain ⟨f0, f1, f2, f3, f4, f5⟩ := hf it (by simp)
    have W := Walks.range (prog := X.prog) (w := X.w) (I.ok.hd hc) it lo 1 n
    refine W.item i s _ _ hg st fun v h' tk hv st' kk => ?_
    obtain ⟨t, rfl⟩ := hv
    have I1 : Inv X pins σ H { s with heap := h', toks := tk } := I.turned (fun b o hb e => kk b o (by simpa using hb) e) f0 f1 f3 f4 f5
    refine ⟨_, rfl, go_of (s := { s with heap := h', toks := tk }) (n := "range_iterator") st' rfl rfl (by decide) ⟨.int (lo + i), H, I1, ⟨t, ?_⟩, ⟨rfl, rfl⟩, st', fun b hb => (hf b hb).1⟩⟩
    rw [Int.mul_one]
  done := by
    intro X hP hw hK hc i pins s σ H E I hf st hg
    subst hP hw hK
    obtain ⟨f0, f1, f2, f3, f4, f5⟩ := hf it (by simp)
    exact wpAny_pyNext_range_end (I.ok.hd hc) st (by have : n ≤ i := hg; omega) fun h' eb => ⟨rfl, I.turned (t' := s.toks) (fun b o hb e => eb b o hb e) f0 f1 f3 f4 f5⟩
  self := fun _ _ _ _ _ st h => wpAny_pyIter_rangeiter st h
end L2

namespace L2
open PySem PySem.Spec PyProof.Rows
section
variable {X : Cx} {tg : Expr}
def iList (K : PySem.W.Frag) (tl : TE) : TI := fun σ H R => tl σ H fun x H1 => ∃ a, x = .ref a ∧ (∃ xs, SqL K H1 a xs) ∧ R (Itl K a) H1
def iTup (K : PySem.W.Frag) (tl : TE) : TI := fun σ H R => tl σ H fun x H1 => ∃ a, x = .ref a ∧ (∃ xs, SqT K H1 a xs) ∧ R (Itt K a) H1
theorem pi_list {l : Expr} {tl : TE} (hl : PE X l tl) : PI X tg l (iList X.K tl) := by
  intro pins s σ H R I h
  refine thn (hl pins s σ H _ I h) fun v s1 ⟨x, H1, I1, r1, q1⟩ => ?_
  obtain ⟨a, e, ⟨xs, hq⟩, q⟩ := q1
  subst e
  cases r1
  obtain ⟨its, rv, p, hz⟩ := I1.list hq
  refine wpAny_pyIter_list p.isList ?_
  refine ⟨s1.heap.objs.size, [s1.heap.objs.size], _, _, H1, rfl, I1.kept (t' := s1.toks) fun b o e => Heap.get?_push_of_some _ e, turn_list a _, ⟨_, Heap.get?_push_size _ rfl, rfl, rfl⟩, fun b hb => ?_, q⟩
  have e : b = s1.heap.objs.size := by simpa using hb
  subst e
  exact I1.fpOk (Nat.le_refl _) (I1.hok.fresh (Nat.le_refl _))
/-- a range object just made, walked -/
theorem range_it {pins : List (Addr × Obj)} {σ : St} {H : Hp} {s : Shared} {R : It → Hp → Prop} {E : Value → Shared → Prop} {lo hi : Int} {t u v : Tok} {tk : Nat} (I : Inv X pins σ H s) (h1 : -(2 ^ 62) ≤ lo) (h2 : lo < 2 ^ 62) (h3 : -(2 ^ 62) ≤ hi) (h4 : hi < 2 ^ 62)
    (q : R (Itr lo (hi - lo).toNat) H) : wpAny (model X.prog X.w) X.A (pyIter (.ref s.heap.objs.size)) (PIE X pins σ tg R) E { s with heap := s.heap.push { cls := .type "range", data := .fields #[.int lo t, .int hi u, .int 1 v] }, toks := tk } := by
  refine wpAny_pyIter_range (IsRange.new ..) (small_one h1 h2 h3 h4) ?_
  have I1 : Inv X pins σ H { s with heap := s.heap.push { cls := .type "range", data := .fields #[.int lo t, .int hi u, .int 1 v] }, toks := tk } := I.kept fun b o e => Heap.get?_push_of_some _ e
  refine ⟨(s.heap.push { cls := .type "range", data := .fields #[.int lo t, .int hi u, .int 1 v] }).objs.size, [(s.heap.push { cls := .type "range", data := .fields #[.int lo t, .int hi u, .int 1 v] }).objs.size], _, _, H, rfl,
    I1.kept (t' := tk) fun b o e => Heap.get?_push_of_some _ e, turn_range _ lo (hi - lo).toNat, ?_, fun b hb => ?_, q⟩
  · have e1 : lo + ((0 : Nat) : Int) * 1 = lo := by simp
    have e2 : (((hi - lo).toNat : Nat) : Int) - ((0 : Nat) : Int) = Builtin.Range.rangeSize lo hi 1 := by rw [rangeSize_one]; split <;> omega
    show IsRangeIter _ _ (lo + ((0 : Nat) : Int) * 1) ((((hi - lo).toNat : Nat) : Int) - ((0 : Nat) : Int)) 1
    rw [e1, e2]
    exact Heap.get?_push_size _ rfl
  · have e : b = (s.heap.push { cls := .type "range", data := .fields #[.int lo t, .int hi u, .int 1 v] }).objs.size := by simpa using hb
    subst e
    exact I1.fpOk (Nat.le_refl _) (I1.hok.fresh (Nat.le_refl _))
def iRng1 (ta : TA) : TI := fun σ H R => ta σ H fun vs H1 => ∃ j : Int, vs = [.int j] ∧ -(2 ^ 62) ≤ j ∧ j < 2 ^ 62 ∧ R (Itr 0 j.toNat) H1
def iRng2 (ta : TA) : TI := fun σ H R => ta σ H fun vs H1 => ∃ i j : Int, vs = [.int i, .int j] ∧ (-(2 ^ 62) ≤ i ∧ i < 2 ^ 62 ∧ -(2 ^ 62) ≤ j ∧ j < 2 ^ 62) ∧ R (Itr i (j - i).toNat) H1
theorem pi_range1 {a : Expr} {ta : TA} {p pos : Pos} (hg : Gl X "range") (hm : X.mg "range" = none) (ha : PA X [a] ta) (hs : starEach [a] X.env = [(false, eval a X.env)] := by rfl) : PI X tg (.Call (.Name "range" p) [a] [] pos) (iRng1 ta) := by
  intro pins s σ H R I h
  refine Call_ (ld_blt I hg hm boot_range (PyProof.Rows.callWith_type1 (thn (ha pos pins s σ H _ I h) fun us s1 ⟨vs, H1, I1, r1, q1⟩ => ?_) hs rfl))
  obtain ⟨j, e, q1, q2, q⟩ := q1
  subst e
  cases r1 with
  | cons r rr =>
    cases rr
    obtain ⟨t, rfl⟩ := r
    exact call_range_1 (range_it I1 (by omega) (by omega) q1 q2 (by simpa using q))
/-- W: the invariant by the turn and a measure; N: what the body is to reach -/
def tFor (wi : TI) (g : TG) (tb : TS) : TS := fun D σ H => wi σ H fun J H1 => ∃ W : Nat → Nat → St → Hp → Prop, (∃ m, W 0 m σ H1) ∧ ∀ i m σ H, W i m σ H →
  (J.stop i H ∧ D.nx σ H) ∨ (J.go i H ∧ ∃ N : St → Hp → Prop, (∀ σ' H', N σ' H' → ∃ m', m' < m ∧ W (i + 1) m' σ' H') ∧ ∀ x H', J.yld i H x H' → g x σ H' fun σ2 H2 => tb { D with nx := N, ct := N, bk := D.nx } σ2 H2)
/-- the records at fp as they stand -/
def pinsAt (fp : List Addr) (h : Heap) : List (Addr × Obj) := fp.filterMap fun b => (h.get? b).map fun o => (b, o)
theorem mem_pinsAt {fp : List Addr} {h : Heap} {b : Addr} {o : Obj} (hb : b ∈ fp) (e : h.get? b = some o) : (b, o) ∈ pinsAt fp h := List.mem_filterMap.mpr ⟨b, hb, by rw [e]; rfl⟩
theorem of_pinsAt {fp : List Addr} {h : Heap} {p : Addr × Obj} (hp : p ∈ pinsAt fp h) : p.1 ∈ fp ∧ h.get? p.1 = some p.2 := by
  obtain ⟨b, hb, e⟩ := List.mem_filterMap.mp hp
  cases q : h.get? b with
  | none => rw [q] at e; cases e
  | some o =>
    rw [q] at e
    have e' : (b, o) = p := Option.some.inj e
    subst e'
    exact ⟨hb, q⟩
theorem Inv.pinned {pins : List (Addr × Obj)} {σ : St} {H : Hp} {s : Shared} {fp : List Addr} (I : Inv X pins σ H s) (hf : ∀ b ∈ fp, FpOk X pins H b) (ho : ∀ b ∈ fp, ∃ o, s.heap.get? b = some o ∧ ∀ v, o.data ≠ .cell v) : Inv X (pins ++ pinsAt fp s.heap) σ H s :=
  I.pins_of fun p hp => (List.mem_append.mp hp).elim (fun z => I.pin p (List.mem_append_right _ z)) fun z => by
    obtain ⟨hb, e⟩ := of_pinsAt z
    obtain ⟨f0, f1, f2, _⟩ := hf p.1 hb
    obtain ⟨o, e', d⟩ := ho p.1 hb
    rw [e] at e'; cases e'
    exact ⟨e, f0, f1, f2, d⟩
theorem Inv.unpinned {pins pl : List (Addr × Obj)} {σ : St} {H : Hp} {s : Shared} (I : Inv X (pins ++ pl) σ H s) : Inv X pins σ H s := I.pins_of fun p hp => I.pin p (List.mem_append_right _ (List.mem_append_left _ hp))
theorem ps_for {iter : Expr} {body : List Stmt} {wi : TI} {g : TG} {tb : TS} {pos : Pos} (hp : PassesOwn (model X.prog X.w) X.A X.env X.xe) (hc : X.calm = true) (hi : PI X tg iter wi) (hg : PG X tg g) (hb : PSs X body tb)
    (hs : ∀ x, foldedSetIterable iter X.env x = pure x := by intro _; rfl) : PS X (.For tg iter body [] pos) (tFor wi g tb) := by
  intro pins s σ H D I h
  refine wpAny_For (thn (hi pins s σ H _ I h) fun v s1 h1 => thn h1 fun itv s2 h2 => ?_) hs
  obtain ⟨it, fp, tn, J, H2, e, I2, T, st2, f2, W, ⟨m0, w0⟩, turn⟩ := h2
  subst e
  -- what stays true of the iterator's objects through the loop
  have stat : ∀ {H' : Hp}, (∀ b ∈ fp, H' b = none) → ∀ b ∈ fp, FpOk X pins H' b := fun hn b hb => ⟨hn b hb, (f2 b hb).2⟩
  refine codeAny_forLoop_any (fun n s' => ∃ i σ' H', Inv X pins σ' H' s' ∧ tn i s'.heap ∧ (∀ b ∈ fp, H' b = none) ∧ W i n σ' H') ?_ m0 ⟨0, σ, H2, I2, st2, fun b hb => (f2 b hb).1, w0⟩
  rintro n s3 ⟨i, σ3, H3, I3, st3, fr3, w3⟩
  rcases turn i n σ3 H3 w3 with ⟨stop, qn⟩ | ⟨go, N, hN, step⟩
  · refine wpAny_passesOwn hp (thn (T.done X rfl rfl rfl hc i pins s3 σ3 H3 X.xe I3 (stat fr3) st3 stop) fun r s4 ⟨hr, I4⟩ => ?_)
    subst hr
    exact wpAny_execs_nil ⟨σ3, H3, I4, qn⟩
  · refine wpAny_passesOwn hp (thn (T.item X rfl rfl rfl hc i pins s3 σ3 H3 X.xe I3 (stat fr3) st3 go) fun r s4 ⟨u, hr, h4⟩ => ?_)
    subst hr
    refine wpAny_passesOwn hp (thn h4 fun _ s5 ⟨x, H5, I5, r5, y5, st5, fr5⟩ => ?_)
    have I5' := I5.pinned (stat fr5) (T.obj _ _ st5)
    refine wpAny_passesOwn hp (thn (hg _ s5 σ3 H5 x u _ I5' r5 (step x H5 y5)) fun _ s6 ⟨σ6, H6, I6, q6⟩ => ?_)
    refine wpAny_passesOwn hp (thn (hb _ s6 σ6 H6 _ I6 q6) fun f s7 q7 => ?_)
    have again : ∀ {σ7 : St} {H7 : Hp}, Inv X (pins ++ pinsAt fp s5.heap) σ7 H7 s7 → N σ7 H7 → ∃ m, m < n ∧ ∃ i σ' H', Inv X pins σ' H' s7 ∧ tn i s7.heap ∧ (∀ b ∈ fp, H' b = none) ∧ W i m σ' H' := fun {σ7 H7} I7 n7 => by
      obtain ⟨m', hm, w7⟩ := hN σ7 H7 n7
      refine ⟨m', hm, i + 1, σ7, H7, I7.unpinned, T.keep _ _ _ st5 fun b hb o e => (I7.pin (b, o) (List.mem_append_right _ (List.mem_append_right _ (mem_pinsAt hb e)))).1, fun b hb => ?_, w7⟩
      obtain ⟨o, e, d⟩ := T.obj _ _ st5 b hb
      exact (I7.pin (b, o) (List.mem_append_right _ (List.mem_append_right _ (mem_pinsAt hb e)))).2.1
    cases f with
    | next => obtain ⟨σ7, H7, I7, n7⟩ := q7; exact again I7 n7
    | cont => obtain ⟨σ7, H7, I7, n7⟩ := q7; exact again I7 n7
    | brk => obtain ⟨σ7, H7, I7, q7⟩ := q7; exact ⟨σ7, H7, I7.unpinned, q7⟩
    | ret v => obtain ⟨x7, σ7, H7, I7, r7, q7⟩ := q7; exact ⟨x7, σ7, H7, I7.unpinned, r7, q7⟩
end

/-- over a list that the body leaves as it is -/
theorem for_list {K : PySem.W.Frag} {a : Addr} {xs : List V} {g : TG} {tb : TS} {D : Ends} {σ : St} {H : Hp} (Pv : Nat → St → Hp → Prop) (h0 : Pv 0 σ H) (hl : ∀ i σ H, i ≤ xs.length → Pv i σ H → SqL K H a xs)
    (hs : ∀ i x σ H, xs[i]? = some x → Pv i σ H → g x σ H fun σ2 H2 => tb { D with nx := Pv (i + 1), ct := Pv (i + 1), bk := D.nx } σ2 H2) (hd : ∀ σ H, Pv xs.length σ H → D.nx σ H) :
    ∃ W : Nat → Nat → St → Hp → Prop, (∃ m, W 0 m σ H) ∧ ∀ i m σ H, W i m σ H →
      ((Itl K a).stop i H ∧ D.nx σ H) ∨ ((Itl K a).go i H ∧ ∃ N : St → Hp → Prop, (∀ σ' H', N σ' H' → ∃ m', m' < m ∧ W (i + 1) m' σ' H') ∧ ∀ x H', (Itl K a).yld i H x H' → g x σ H' fun σ2 H2 => tb { D with nx := N, ct := N, bk := D.nx } σ2 H2) := by
  refine ⟨fun i m σ H => m = xs.length - i ∧ i ≤ xs.length ∧ Pv i σ H, ⟨xs.length, by simp, Nat.zero_le _, h0⟩, ?_⟩
  rintro i m σ H ⟨rfl, hi, p⟩
  have q := hl i σ H hi p
  by_cases hlt : i < xs.length
  · refine .inr ⟨⟨xs, xs[i], q, by simp [hlt]⟩, Pv (i + 1), fun σ' H' p' => ⟨xs.length - (i + 1), by omega, rfl, hlt, p'⟩, fun x H' y => ?_⟩
    obtain ⟨e, y⟩ := y
    subst e
    exact hs i x σ _ (y xs q) p
  · have e : i = xs.length := by omega
    subst e
    exact .inl ⟨⟨xs, q, Nat.le_refl _⟩, hd σ H p⟩
theorem for_range {lo : Int} {n : Nat} {g : TG} {tb : TS} {D : Ends} {σ : St} {H : Hp} (Pv : Nat → St → Hp → Prop) (h0 : Pv 0 σ H)
    (hs : ∀ i σ H, i < n → Pv i σ H → g (.int (lo + i)) σ H fun σ2 H2 => tb { D with nx := Pv (i + 1), ct := Pv (i + 1), bk := D.nx } σ2 H2) (hd : ∀ σ H, Pv n σ H → D.nx σ H) :
    ∃ W : Nat → Nat → St → Hp → Prop, (∃ m, W 0 m σ H) ∧ ∀ i m σ H, W i m σ H →
      ((Itr lo n).stop i H ∧ D.nx σ H) ∨ ((Itr lo n).go i H ∧ ∃ N : St → Hp → Prop, (∀ σ' H', N σ' H' → ∃ m', m' < m ∧ W (i + 1) m' σ' H') ∧ ∀ x H', (Itr lo n).yld i H x H' → g x σ H' fun σ2 H2 => tb { D with nx := N, ct := N, bk := D.nx } σ2 H2) := by
  refine ⟨fun i m σ H => m = n - i ∧ i ≤ n ∧ Pv i σ H, ⟨n, by simp, Nat.zero_le _, h0⟩, ?_⟩
  rintro i m σ H ⟨rfl, hi, p⟩
  by_cases hlt : i < n
  · refine .inr ⟨hlt, Pv (i + 1), fun σ' H' p' => ⟨n - (i + 1), by omega, rfl, hlt, p'⟩, fun x H' y => ?_⟩
    obtain ⟨e, y⟩ := y
    subst e y
    exact hs i σ _ hlt p
  · have e : i = n := by omega
    subst e
    exact .inl ⟨Nat.le_refl _, hd σ H p⟩
end L2

namespace L2
open PySem PySem.Spec PyProof.Rows

abbrev R2 := V → V → Hp → VK → Prop
/-- a two-place operation on values: f is binaryOp op, inplaceOp op or compareOp op -/
def OpR (X : Cx) (f : Value → Value → Sem Value) (r : R2) : Prop :=
  ∀ (pins : List (Addr × Obj)) (s : Shared) (σ : St) (H : Hp) (x y : V) (v u : Value) (Q : VK), Inv X pins σ H s → RelV x v → RelV y u → r x y H Q →
    wpAny (model X.prog X.w) X.A (f v u) (EP X pins σ Q) X.xe s
/-- a one-place operation -/
def UnR (X : Cx) (f : Value → Sem Value) (r : V → Hp → VK → Prop) : Prop :=
  ∀ (pins : List (Addr × Obj)) (s : Shared) (σ : St) (H : Hp) (x : V) (v : Value) (Q : VK), Inv X pins σ H s → RelV x v → r x H Q →
    wpAny (model X.prog X.w) X.A (f v) (EP X pins σ Q) X.xe s
/-- a call of a value that is known (a builtin, a type) with values -/
def CallR (X : Cx) (f : Value) (r : List V → Hp → VK → Prop) : Prop :=
  ∀ (pins : List (Addr × Obj)) (s : Shared) (σ : St) (H : Hp) (xs : List V) (us : List Value) (Q : VK), Inv X pins σ H s → Vals xs us → r xs H Q →
    wpAny (model X.prog X.w) X.A (call f us) (EP X pins σ Q) X.xe s
def tOp (r : R2) (ta tb : TE) : TE := fun σ H Q => ta σ H fun x H1 => tb σ H1 fun y H2 => r x y H2 Q
def tUn (r : V → Hp → VK → Prop) (ta : TE) : TE := fun σ H Q => ta σ H fun x H1 => r x H1 Q
/-- ints in, under C, and a value out -/
def rI (C : Int → Int → Prop) (g : Int → Int → V) : R2 := fun x y H Q => ∃ i j, x = .int i ∧ y = .int j ∧ C i j ∧ Q (g i j) H
def rI0 (g : Int → Int → V) : R2 := fun x y H Q => ∃ i j, x = .int i ∧ y = .int j ∧ Q (g i j) H
def rU (g : Int → V) : V → Hp → VK → Prop := fun x H Q => ∃ i, x = .int i ∧ Q (g i) H

section
variable {X : Cx} {a b c : Expr} {ta tb tc : TE} {pos : Pos}

theorem binT (ha : PE X a ta) (hb : PE X b tb) {pins : List (Addr × Obj)} {s : Shared} {σ : St} {H : Hp} {R : V → V → Hp → Prop} (I : Inv X pins σ H s)
    (h : ta σ H fun x H1 => tb σ H1 fun y H2 => R x y H2) {Q : Value → Shared → Prop} {f : Value → Value → Sem Value}
    (hf : ∀ v u s2 x y H2, Inv X pins σ H2 s2 → RelV x v → RelV y u → R x y H2 → wpAny (model X.prog X.w) X.A (f v u) Q X.xe s2) :
    wpAny (model X.prog X.w) X.A (eval a X.env) (fun v s₁ => wpAny (model X.prog X.w) X.A (eval b X.env) (fun u s₂ => wpAny (model X.prog X.w) X.A (f v u) Q X.xe s₂) X.xe s₁) X.xe s := by
  refine thn (ha pins s σ H _ I h) fun v s1 ⟨x, H1, I1, r1, q1⟩ => ?_
  refine thn (hb pins s1 σ H1 _ I1 q1) fun u s2 ⟨y, H2, I2, r2, q2⟩ => ?_
  exact hf v u s2 x y H2 I2 r1 r2 q2

theorem pe_op {op : Operator} {r : R2} (ho : OpR X (binaryOp op) r) (ha : PE X a ta) (hb : PE X b tb) : PE X (.BinOp a op b pos) (tOp r ta tb) := by
  intro pins s σ H Q I h
  exact wpAny_BinOp (binT ha hb I h fun v u s2 x y H2 I2 rx ry q => ho pins s2 σ H2 x y v u Q I2 rx ry q)
theorem pe_un {op : UnaryOp} {r : V → Hp → VK → Prop} (ho : UnR X (unaryOp op) r) (ha : PE X a ta) : PE X (.UnaryOp op a pos) (tUn r ta) := by
  intro pins s σ H Q I h
  exact UnaryOp_ (thn (ha pins s σ H _ I h) fun v s1 ⟨x, H1, I1, r1, q1⟩ => ho pins s1 σ H1 x v Q I1 r1 q1)
theorem opI {f : Value → Value → Sem Value} {C : Int → Int → Prop} {g : Int → Int → Int}
    (rule : ∀ (i j : Int) (t u : Tok) (s : Shared) (Q : Value → Shared → Prop) (E : Value → Shared → Prop), C i j → Q (.int (g i j) s.toks) { s with toks := s.toks + 1 } → wpAny (model X.prog X.w) X.A (f (.int i t) (.int j u)) Q E s) :
    OpR X f (rI C fun i j => .int (g i j)) := by
  intro pins s σ H x y v u Q I rx ry h
  obtain ⟨i, j, rfl, rfl, hc, q⟩ := h
  obtain ⟨t, rfl⟩ := rx
  obtain ⟨t', rfl⟩ := ry
  exact rule i j t t' s _ _ hc ⟨.int (g i j), H, I.tok _, ⟨_, rfl⟩, q⟩
theorem opI0 {f : Value → Value → Sem Value} {g : Int → Int → Int}
    (rule : ∀ (i j : Int) (t u : Tok) (s : Shared) (Q : Value → Shared → Prop) (E : Value → Shared → Prop), Q (.int (g i j) s.toks) { s with toks := s.toks + 1 } → wpAny (model X.prog X.w) X.A (f (.int i t) (.int j u)) Q E s) :
    OpR X f (rI0 fun i j => .int (g i j)) := by
  intro pins s σ H x y v u Q I rx ry h
  obtain ⟨i, j, rfl, rfl, q⟩ := h
  obtain ⟨t, rfl⟩ := rx
  obtain ⟨t', rfl⟩ := ry
  exact rule i j t t' s _ _ ⟨.int (g i j), H, I.tok _, ⟨_, rfl⟩, q⟩
theorem opB0 {f : Value → Value → Sem Value} {g : Int → Int → Bool}
    (rule : ∀ (i j : Int) (t u : Tok) (s : Shared) (Q : Value → Shared → Prop) (E : Value → Shared → Prop), Q (.bool (g i j)) s → wpAny (model X.prog X.w) X.A (f (.int i t) (.int j u)) Q E s) :
    OpR X f (rI0 fun i j => .bl (g i j)) := by
  intro pins s σ H x y v u Q I rx ry h
  obtain ⟨i, j, rfl, rfl, q⟩ := h
  obtain ⟨t, rfl⟩ := rx
  obtain ⟨t', rfl⟩ := ry
  exact rule i j t t' s _ _ ⟨.bl (g i j), H, I, rfl, q⟩

def CDiv (i j : Int) : Prop := 0 < j ∧ j < 1073741824
def CPow (i j : Int) : Prop := 0 ≤ j ∧ j ≤ 1000000 ∧ i.natAbs < 2 ^ 64
def CMul (i j : Int) : Prop := (-(2 ^ 64) < i ∧ i < 2 ^ 64) ∨ (-(2 ^ 64) < j ∧ j < 2 ^ 64)
theorem CMul.ok {i j : Int} (h : CMul i j) : IntMulOk i j := by
  rcases h with ⟨h1, h2⟩ | ⟨h1, h2⟩
  · exact .of_left (intBits_le_64 h1 h2)
  · exact .of_right (intBits_le_64 h1 h2)
theorem op_add : OpR X (binaryOp .Add) (rI0 fun i j => .int (i + j)) := opI0 fun _ _ _ _ _ _ _ q => add_int q
theorem op_sub : OpR X (binaryOp .Sub) (rI0 fun i j => .int (i - j)) := opI0 fun _ _ _ _ _ _ _ q => sub_int q
theorem op_mul : OpR X (binaryOp .Mult) (rI CMul fun i j => .int (i * j)) := opI fun _ _ _ _ _ _ _ hc q => mul_int q hc.ok
/-- // by a positive divisor -/
theorem op_fdiv : OpR X (binaryOp .FloorDiv) (rI CDiv fun i j => .int (i / j)) := opI fun i j _ _ _ _ _ hc q => by
  have h1 : (0 : Int) < j := hc.1
  have h2 : j < 1073741824 := hc.2
  exact floordiv_int (by omega) (by rw [Int.fdiv_eq_ediv_of_nonneg i (by omega)]; exact q) (.inl (PyProof.noPylong_small (by omega)))
/-- % by a positive divisor of any size -/
theorem op_mod : OpR X (binaryOp .Mod) (rI (fun _ j => 0 < j) fun i j => .int (i % j)) := opI fun i j _ _ _ _ _ hc q => by
  have h1 : (0 : Int) < j := hc
  exact mod_int' (by omega) (by rw [Int.fmod_eq_emod_of_nonneg i (by omega)]; exact q)
theorem op_pow : OpR X (binaryOp .Pow) (rI CPow fun i j => .int (i ^ j.toNat)) := opI fun _ _ _ _ _ _ _ hc q => pow_int_small hc.1 hc.2.1 hc.2.2 q
theorem op_shl : OpR X (binaryOp .LShift) (rI CPow fun i j => .int (i * 2 ^ j.toNat)) := opI fun _ _ _ _ _ _ _ hc q => lshift_int_small hc.1 hc.2.1 hc.2.2 q
theorem unI {f : Value → Sem Value} {g : Int → Int}
    (rule : ∀ (i : Int) (t : Tok) (s : Shared) (Q : Value → Shared → Prop) (E : Value → Shared → Prop), Q (.int (g i) s.toks) { s with toks := s.toks + 1 } → wpAny (model X.prog X.w) X.A (f (.int i t)) Q E s) :
    UnR X f (rU fun i => .int (g i)) := by
  intro pins s σ H x v Q I rx h
  obtain ⟨i, rfl, q⟩ := h
  obtain ⟨t, rfl⟩ := rx
  exact rule i t s _ _ ⟨.int (g i), H, I.tok _, ⟨_, rfl⟩, q⟩
theorem un_neg : UnR X (unaryOp .USub) (rU fun i => .int (-i)) := unI fun _ _ _ _ _ q => neg_int q
end

/-- the scalars that == tells apart as data does -/
def scal : V → V → Bool
  | .non, .non => true | .non, .int _ => true | .int _, .non => true | .non, .bl _ => true | .bl _, .non => true | .non, .str _ => true | .str _, .non => true
  | .int _, .int _ => true | .bl _, .bl _ => true | .str _, .str _ => true | .byt _, .byt _ => true
  | .int _, .str _ => true | .str _, .int _ => true | .bl _, .str _ => true | .str _, .bl _ => true
  | _, _ => false
def rEq : R2 := fun x y H Q => scal x y = true ∧ Q (.bl (decide (x = y))) H
def rNe : R2 := fun x y H Q => scal x y = true ∧ Q (.bl (!decide (x = y))) H

theorem dec_int {i j : Int} : decide (V.int i = V.int j) = (i == j) := by
  rw [Bool.eq_iff_iff]
  simp
theorem dec_bl {i j : Bool} : decide (V.bl i = V.bl j) = (i == j) := by
  rw [Bool.eq_iff_iff]
  simp
theorem dec_str {i j : Str} : decide (V.str i = V.str j) = (i == j) := by
  rw [Bool.eq_iff_iff]
  simp
theorem dec_byt {i j : Array UInt8} : decide (V.byt i = V.byt j) = (i.toList == j.toList) := by
  rw [Bool.eq_iff_iff]
  cases i
  cases j
  simp

section
variable {X : Cx} {a b c : Expr} {ta tb tc : TE} {pos : Pos}
theorem fin_bl {pins : List (Addr × Obj)} {σ : St} {H : Hp} {s : Shared} {Q : VK} {k k' : Bool} (I : Inv X pins σ H s) (q : Q (.bl k) H) (e : k = k') : EP X pins σ Q (.bool k') s := by
  subst e
  exact ⟨.bl k, H, I, rfl, q⟩
theorem op_eq : OpR X (compareOp .Eq) rEq := by
  intro pins s σ H x y v u Q I rx ry h
  obtain ⟨hs, q⟩ := h
  cases x with
  | non =>
    cases rx
    cases y with
    | non => cases ry; exact PySem.EqNone.eq_none_none (fin_bl I q (by simp))
    | bl j => cases ry; exact PySem.EqNone.eq_none_bool (fin_bl I q (by simp))
    | int j => obtain ⟨t', rfl⟩ := ry; exact PySem.EqNone.eq_none_int (fin_bl I q (by simp))
    | str j => obtain ⟨t', rfl⟩ := ry; exact PySem.EqNone.eq_none_str (fin_bl I q (by simp))
    | _ => exact absurd (show false = true from hs) Bool.false_ne_true
  | bl i =>
    cases rx
    cases y with
    | non => cases ry; exact PySem.EqNone.eq_bool_none (fin_bl I q (by simp))
    | bl j => cases ry; exact eq_bool (fin_bl I q dec_bl)
    | str j => obtain ⟨t', rfl⟩ := ry; exact PySem.EqMixed.eq_bool_str (fin_bl I q (by simp))
    | _ => exact absurd (show false = true from hs) Bool.false_ne_true
  | int i =>
    obtain ⟨t, rfl⟩ := rx
    cases y with
    | non => cases ry; exact PySem.EqNone.eq_int_none (fin_bl I q (by simp))
    | int j => obtain ⟨t', rfl⟩ := ry; exact eq_int (fin_bl I q dec_int)
    | str j => obtain ⟨t', rfl⟩ := ry; exact PySem.EqMixed.eq_int_str (fin_bl I q (by simp))
    | _ => exact absurd (show false = true from hs) Bool.false_ne_true
  | str i =>
    obtain ⟨t, rfl⟩ := rx
    cases y with
    | non => cases ry; exact PySem.EqNone.eq_str_none (fin_bl I q (by simp))
    | bl j => cases ry; exact PySem.EqMixed.eq_str_bool (fin_bl I q (by simp))
    | int j => obtain ⟨t', rfl⟩ := ry; exact PySem.EqMixed.eq_str_int (fin_bl I q (by simp))
    | str j => obtain ⟨t', rfl⟩ := ry; exact eq_str (fin_bl I q dec_str)
    | _ => exact absurd (show false = true from hs) Bool.false_ne_true
  | byt i =>
    obtain ⟨t, rfl⟩ := rx
    cases y with
    | byt j => obtain ⟨t', rfl⟩ := ry; exact PySem.W.eq_bytes (fin_bl I q dec_byt)
    | _ => exact absurd (show false = true from hs) Bool.false_ne_true
  | _ => cases y <;> exact absurd (show false = true from hs) Bool.false_ne_true
theorem op_ne : OpR X (compareOp .NotEq) rNe := by
  intro pins s σ H x y v u Q I rx ry h
  obtain ⟨hs, q⟩ := h
  cases x with
  | non =>
    cases rx
    cases y with
    | non => cases ry; exact PySem.EqNone.ne_none_none (fin_bl I q (by simp))
    | bl j => cases ry; exact PySem.EqNone.ne_none_bool (fin_bl I q (by simp))
    | int j => obtain ⟨t', rfl⟩ := ry; exact PySem.EqNone.ne_none_int (fin_bl I q (by simp))
    | str j => obtain ⟨t', rfl⟩ := ry; exact PySem.EqNone.ne_none_str (fin_bl I q (by simp))
    | _ => exact absurd (show false = true from hs) Bool.false_ne_true
  | bl i =>
    cases rx
    cases y with
    | non => cases ry; exact PySem.EqNone.ne_bool_none (fin_bl I q (by simp))
    | bl j => cases ry; exact ne_bool (fin_bl I q (congrArg not dec_bl))
    | str j => obtain ⟨t', rfl⟩ := ry; exact PySem.EqMixed.ne_bool_str (fin_bl I q (by simp))
    | _ => exact absurd (show false = true from hs) Bool.false_ne_true
  | int i =>
    obtain ⟨t, rfl⟩ := rx
    cases y with
    | non => cases ry; exact PySem.EqNone.ne_int_none (fin_bl I q (by simp))
    | int j => obtain ⟨t', rfl⟩ := ry; exact ne_int (fin_bl I q (congrArg not dec_int))
    | str j => obtain ⟨t', rfl⟩ := ry; exact PySem.EqMixed.ne_int_str (fin_bl I q (by simp))
    | _ => exact absurd (show false = true from hs) Bool.false_ne_true
  | str i =>
    obtain ⟨t, rfl⟩ := rx
    cases y with
    | non => cases ry; exact PySem.EqNone.ne_str_none (fin_bl I q (by simp))
    | bl j => cases ry; exact PySem.EqMixed.ne_str_bool (fin_bl I q (by simp))
    | int j => obtain ⟨t', rfl⟩ := ry; exact PySem.EqMixed.ne_str_int (fin_bl I q (by simp))
    | str j => obtain ⟨t', rfl⟩ := ry; exact ne_str (fin_bl I q (congrArg not dec_str))
    | _ => exact absurd (show false = true from hs) Bool.false_ne_true
  | byt i =>
    obtain ⟨t, rfl⟩ := rx
    cases y with
    | byt j => obtain ⟨t', rfl⟩ := ry; exact PySem.W.ne_bytes (fin_bl I q (congrArg not dec_byt))
    | _ => exact absurd (show false = true from hs) Bool.false_ne_true
  | _ => cases y <;> exact absurd (show false = true from hs) Bool.false_ne_true

theorem op_lt : OpR X (compareOp .Lt) (rI0 fun i j => .bl (decide (i < j))) := opB0 fun _ _ _ _ _ _ _ q => lt_int q
theorem op_le : OpR X (compareOp .LtE) (rI0 fun i j => .bl (decide (i ≤ j))) := opB0 fun _ _ _ _ _ _ _ q => le_int q
theorem op_gt : OpR X (compareOp .Gt) (rI0 fun i j => .bl (decide (j < i))) := opB0 fun _ _ _ _ _ _ _ q => gt_int q
theorem op_ge : OpR X (compareOp .GtE) (rI0 fun i j => .bl (decide (j ≤ i))) := opB0 fun _ _ _ _ _ _ _ q => ge_int q
theorem nomark (b : Expr) {op : CmpOp} (h : op ≠ .In := by decide) (h2 : op ≠ .NotIn := by decide) : behindInMarks op b = false := by
  have e1 : (op == CmpOp.In) = false := by cases op <;> first | rfl | exact absurd rfl h
  have e2 : (op == CmpOp.NotIn) = false := by cases op <;> first | rfl | exact absurd rfl h2
  cases b <;> simp [behindInMarks, e1, e2]
/-- a comparison as a value; hm: nomark b, or (for in, not in) by with_unfolding_all rfl -/
theorem pe_cmpR {op : CmpOp} {r : R2} (ho : OpR X (compareOp op) r) (ha : PE X a ta) (hb : PE X b tb) (hm : behindInMarks op b = false) : PE X (.Compare a [op] [b] pos) (tOp r ta tb) := by
  intro pins s σ H Q I h
  exact wpAny_Compare1 (binT ha hb I h fun v u s2 x y H2 I2 rx ry q => ho pins s2 σ H2 x y v u Q I2 rx ry q) hm
/-- a reading of a value as a test -/
def tTest (t : TE) : TT := fun σ H Q => t σ H fun x H' => ∃ k, x = .bl k ∧ Q k H'
theorem pt_cmpR {op : CmpOp} {r : R2} (ho : OpR X (compareOp op) r) (ha : PE X a ta) (hb : PE X b tb) (hm : behindInMarks op b = false) : PT X (.Compare a [op] [b] pos) (tTest (tOp r ta tb)) := by
  intro pins s σ H Q I h
  refine wpAny_isTrue_Compare1 (thn (ha pins s σ H _ I h) fun v s1 ⟨x, H1, I1, r1, q1⟩ => thn (hb pins s1 σ H1 _ I1 q1) fun u s2 ⟨y, H2, I2, r2, q2⟩ =>
    thn (ho pins s2 σ H2 x y v u _ I2 r1 r2 q2) fun c s3 ⟨z, H3, I3, r3, k, e, q3⟩ => ?_) hm
  subst e
  cases r3
  exact wpAny_truthy_bool ⟨H3, I3, q3⟩
/-- a op1 b op2 c -/
def tChain (r r' : R2) (ta tb tc : TE) : TE := fun σ H Q => ta σ H fun x H1 => tb σ H1 fun y H2 => r x y H2 fun z H3 => ∃ k, z = .bl k ∧
  (if k = true then tc σ H3 fun w' H4 => r' y w' H4 Q else Q (.bl false) H3)
theorem pe_chain {op op' : CmpOp} {r r' : R2} (ho : OpR X (compareOp op) r) (ho' : OpR X (compareOp op') r') (ha : PE X a ta) (hb : PE X b tb) (hc : PE X c tc)
    (hm : lastMarks [op, op'] [b, c] = false := by with_unfolding_all rfl) : PE X (.Compare a [op, op'] [b, c] pos) (tChain r r' ta tb tc) := by
  intro pins s σ H Q I h
  refine Compare_chain (thn (ha pins s σ H _ I h) fun v s1 ⟨x, H1, I1, r1, q1⟩ => chain_link (thn (hb pins s1 σ H1 _ I1 q1) fun u s2 ⟨y, H2, I2, r2, q2⟩ =>
    thn (ho pins s2 σ H2 x y v u _ I2 r1 r2 q2) fun d s3 ⟨z, H3, I3, r3, k, e, q3⟩ => ?_)) hm
  subst e
  cases r3
  refine wpAny_truthy_bool ?_
  cases k with
  | false => exact ite_ff ⟨.bl false, H3, I3, rfl, q3⟩
  | true => exact ite_tt (chain_last (thn (hc pins s3 σ H3 _ I3 q3) fun w' s4 ⟨z', H4, I4, r4, q4⟩ => ho' pins s4 σ H4 y z' u w' Q I4 r2 r4 q4))
theorem pt_chain {op op' : CmpOp} {r r' : R2} (ho : OpR X (compareOp op) r) (ho' : OpR X (compareOp op') r') (ha : PE X a ta) (hb : PE X b tb) (hc : PE X c tc)
    (hm : lastMarks [op, op'] [b, c] = false := by with_unfolding_all rfl) : PT X (.Compare a [op, op'] [b, c] pos) (tTest (tChain r r' ta tb tc)) := by
  intro pins s σ H Q I h
  refine isTrue_chain (thn (ha pins s σ H _ I h) fun v s1 ⟨x, H1, I1, r1, q1⟩ => test_link (thn (hb pins s1 σ H1 _ I1 q1) fun u s2 ⟨y, H2, I2, r2, q2⟩ =>
    thn (ho pins s2 σ H2 x y v u _ I2 r1 r2 q2) fun d s3 ⟨z, H3, I3, r3, k, e, q3⟩ => ?_)) hm
  subst e
  cases r3
  refine wpAny_truthy_bool ?_
  cases k with
  | false =>
    obtain ⟨k', e', q'⟩ := q3
    cases e'
    exact ite_ff ⟨H3, I3, q'⟩
  | true =>
    refine ite_tt (test_last (thn (hc pins s3 σ H3 _ I3 q3) fun w' s4 ⟨z', H4, I4, r4, q4⟩ => thn (ho' pins s4 σ H4 y z' u w' _ I4 r2 r4 q4) fun d' s5 ⟨z2, H5, I5, r5, k2, e2, q5⟩ => ?_))
    subst e2
    cases r5
    exact wpAny_truthy_bool ⟨H5, I5, q5⟩

theorem line63 : (sizeLine : Nat) < 2 ^ 63 := by rw [sizeLine_eq]; decide
theorem vals1 {x : V} {us : List Value} (r : Vals [x] us) : ∃ u, us = [u] ∧ RelV x u := by
  cases r with
  | cons r1 r2 => cases r2; exact ⟨_, rfl, r1⟩
theorem vals2 {x y : V} {us : List Value} (r : Vals [x, y] us) : ∃ u w', us = [u, w'] ∧ RelV x u ∧ RelV y w' := by
  cases r with
  | cons r1 r2 =>
    cases r2 with
    | cons r3 r4 => cases r4; exact ⟨_, _, rfl, r1, r3⟩
end
end L2

namespace L2
open PySem PySem.Spec PyProof.Rows

structure ObjM (h : Heap) (x dx C : Addr) (mA : Str → Option Value) : Prop where
  obj : h.get? x = some (PySem.W.instObj C dx)
  ns : h.Ns1 dx mA
  ne : dx ≠ x

theorem lookIn_ns {h : Heap} {dx : Addr} {mA : Str → Option Value} (n : h.Ns1 dx mA) : ∃ od, h.get? dx = some od ∧ ∀ name, PySem.W.lookIn name od = some (mA name) := by
  obtain ⟨o, es, ep, ho, hd, hk, _, hm⟩ := n
  refine ⟨o, ho, fun name => ?_⟩
  have e := hm name
  unfold nsFind findBy at e
  rw [← Array.find?_toList] at e
  unfold PySem.W.lookIn
  rw [hd]
  dsimp only
  split
  · rename_i y q
    rw [q] at e
    exact congrArg some e
  · rename_i q
    rw [q] at e
    have a : es.toList.any (·.refKey) = false := by
      rw [List.any_eq_false]
      intro y hy
      obtain ⟨z, t, hkey⟩ := hk y (Array.mem_toList_iff.mp hy)
      simp [DictEntry.refKey, hkey]
    have a' : ¬ es.toList.any (·.refKey) = true := by rw [a]; exact Bool.false_ne_true
    rw [if_neg a']
    exact congrArg some e

theorem ObjM.look {h : Heap} {x dx C : Addr} {mA : Str → Option Value} (I : ObjM h x dx C mA) : ∃ od, PySem.W.InstAt h x (PySem.W.instObj C dx) C (some od) ∧ ∀ name, PySem.W.lookIn name od = some (mA name) :=
  let ⟨od, ho, hl⟩ := lookIn_ns I.ns
  ⟨od, ⟨I.obj, rfl, rfl, ho⟩, hl⟩

section
variable {prog : Program} {w : World} {A : Around} {E : Value → Shared → Prop} {s : Shared} {K : PySem.W.Frag} {x dx C f : Addr} {mA : Str → Option Value} {name : Str} {v : Value}

theorem get_map {expr : Bool} {Q : Value → Shared → Prop} (X : K.In s.heap) (I : ObjM s.heap x dx C mA) (hg : PySem.W.plainGet K C name = true) (hh : PySem.W.hasDictIn K C = true)
    (ha : PySem.W.findIn K (.ref C) name = some none) (hv : mA name = some v) (hv' : PySem.W.handedIn v = true) (h : Q v { s with toks := s.toks + 1 }) :
    wpAny (model prog w) A (getAttr (.ref x) name expr) Q E s := by
  obtain ⟨od, J, hl⟩ := I.look
  exact PySem.W.get_value X J (PySem.W.plainGet_of hg).1 (PySem.W.findObj_own hh ha rfl (by rw [hl, hv])) hv' h

theorem get_meth {pl : Sem Bool} {Q : Value × List Value → Shared → Prop} (X : K.In s.heap) (I : ObjM s.heap x dx C mA) (hg : PySem.W.plainGet K C name = true)
    (hf : PySem.W.findIn K (.ref C) name = some (some (.ref f))) (ht : PySem.W.isFn K (.ref f) = true) (hv : mA name = none) (h : Q (.ref f, [.ref x]) s) :
    wpAny (model prog w) A (getMethod (.ref x) name pl) Q E s := by
  obtain ⟨od, J, hl⟩ := I.look
  exact PySem.W.method_fn X J (PySem.W.plainGet_of hg).1 (PySem.W.plainGet_of hg).2 hf (beq_iff_eq.mp ht) (by show (PySem.W.lookIn name od).map (·.isSome) = some false; rw [hl, hv]; rfl) h

theorem set_map {ns : List Str} {Q : Unit → Shared → Prop} (X : K.In s.heap) (I : ObjM s.heap x dx C mA)
    (hs : PySem.W.findIn K (.ref C) "__setattr__" = some (some (.builtin "object.__setattr__"))) (hp : PySem.W.plainOver K C = true) (ht : PySem.W.takerIn K C name = some none) (hh : PySem.W.hasDictIn K C = true)
    (hw : PySem.Within mA ns) (hsz : ns.length ≤ sizeLine)
    (h : ∀ h', ObjM h' x dx C (fun y => if y = name then some v else mA y) → Heap.SameBut dx s.heap h' → Q () { s with heap := h', toks := s.toks + 2 }) :
    wpAny (model prog w) A (setAttr (.ref x) name v) Q E s := by
  obtain ⟨od, J, hl⟩ := I.look
  refine PySem.W.set_plain X J hs (PySem.W.osa_open (s := { s with toks := s.toks + 1 }) (r := none) X J hp ht fun b => ?_)
  obtain ⟨cd, hc, hd'⟩ := PySem.W.any_some hh
  have hx : s.heap.get? x = some ⟨.ref C, some dx, .plain, #[]⟩ := I.obj
  refine wpAny_bind (wpAny_pure (wpAny_bind (wpAny_bind (wpAny_loadPart hx (wpAny_bind (PySem.W.Looks.here (s := { s with toks := s.toks + 1 }) (PySem.W.looks_clsIn X hc) ?_))))))
  rw [hd']
  refine wpAny_pure (a := some dx) (wpAny_bind (wpAny_pure (wpAny_bind ?_)))
  refine wpAny_nsSet1 (s := { s with toks := s.toks + 1 }) I.ns fun h' hn2 hs2 => ?_
  obtain ⟨oD, esD, epD, hoD, hdD, hcD⟩ := hn2.count (PySem.Within.cons name v hw)
  refine wpAny_bind (wpAny_lookBehind hoD (by rw [hdD]; exact pastItsLine_dict (Nat.le_trans hcD (by rw [List.length_cons]; omega))) ?_)
  exact wpAny_pure (h _ ⟨(hs2.2 _ (Ne.symm I.ne)).trans I.obj, hn2, I.ne⟩ hs2)

/-- C(..): the dict at the heap's end, the instance behind it; then its __init__ -/
theorem make_map {R : Result → Shared → Prop} {vs : List Value} {kw : List (Str × Value)} (X : K.In s.heap) (hm : PySem.W.makesIn K C = true)
    (hi : PySem.W.findIn K (.ref C) "__init__" = some (some (.ref f))) (hf : PySem.W.typeIn K (.ref f) = some (.type "function"))
    (h : codeAny (model prog w) (A.under (.builtin "type.__call__" ⟨.ref C :: vs, kw⟩)) (.call (.ref f) ⟨.ref (s.heap.objs.size + 1) :: vs, kw⟩) (PySem.W.InitBack (s.heap.objs.size + 1) R)
      { s with heap := (s.heap.push PySem.W.emptyDict).push (PySem.W.instObj C s.heap.objs.size) }) :
    codeAny (model prog w) A (.call (.ref C) ⟨vs, kw⟩) R s := by
  obtain ⟨hh, g, d, t, os⟩ := s
  exact PySem.W.make_core (PySem.W.makes_of X hm) (PySem.W.looks_findIn X hi) (fun self => PySem.W.bind_fn X self hf) (.inl rfl) h
/-- C() where there is no __init__ but object's -/
theorem make_map0 {R : Result → Shared → Prop} (X : K.In s.heap) (hm : PySem.W.makesIn K C = true)
    (hi : PySem.W.findIn K (.ref C) "__init__" = some (some (.builtin "object.__init__")))
    (hb : ∀ self, PySem.W.Looks (model prog w) s.heap (bindSpecial (.builtin "object.__init__") self) (.builtin "object.__init__", [self]))
    (h : codeAny (model prog w) (A.under (.builtin "type.__call__" ⟨[.ref C], []⟩)) (.call (.builtin "object.__init__") ⟨[.ref (s.heap.objs.size + 1)], []⟩) (PySem.W.InitBack (s.heap.objs.size + 1) R)
      { s with heap := (s.heap.push PySem.W.emptyDict).push (PySem.W.instObj C s.heap.objs.size) }) :
    codeAny (model prog w) A (.call (.ref C) ⟨[], []⟩) R s := by
  obtain ⟨hh, g, d, t, os⟩ := s
  exact PySem.W.make_core (PySem.W.makes_of X hm) (PySem.W.looks_findIn X hi) hb (.inr ⟨rfl, rfl⟩) h
end

def putF (f : Str) (v : V) : List (Str × V) → List (Str × V)
  | [] => [(f, v)]
  | (g, x) :: r => if g = f then (g, v) :: r else (g, x) :: putF f v r
theorem lookup_putF (f g : Str) (v : V) : ∀ fs : List (Str × V), (putF f v fs).lookup g = if g = f then some v else fs.lookup g
  | [] => by
    show List.lookup g [(f, v)] = _
    by_cases h : g = f
    · have hb : (g == f) = true := beq_iff_eq.mpr h
      simp only [List.lookup, hb, if_pos h]
    · have hb : (g == f) = false := beq_eq_false_iff_ne.mpr h
      simp only [List.lookup, hb, if_neg h]
  | (k, x) :: r => by
    have ih := lookup_putF f g v r
    rw [show putF f v ((k, x) :: r) = (if k = f then (k, v) :: r else (k, x) :: putF f v r) from rfl]
    by_cases hk : k = f
    · rw [if_pos hk]
      by_cases h : g = k
      · have hb : (g == k) = true := beq_iff_eq.mpr h
        simp only [List.lookup, hb, if_pos (h.trans hk)]
      · have hb : (g == k) = false := beq_eq_false_iff_ne.mpr h
        simp only [List.lookup, hb, if_neg (fun e : g = f => h (e.trans hk.symm))]
    · rw [if_neg hk]
      by_cases h : g = k
      · have hb : (g == k) = true := beq_iff_eq.mpr h
        simp only [List.lookup, hb, if_neg (fun e : g = f => hk (h.symm.trans e))]
      · have hb : (g == k) = false := beq_eq_false_iff_ne.mpr h
        simp only [List.lookup, hb]
        exact ih
theorem keys_putF (f : Str) (v : V) : ∀ fs : List (Str × V), f ∈ (putF f v fs).map (·.1) ∧ ∀ g, g ∈ fs.map (·.1) → g ∈ (putF f v fs).map (·.1)
  | [] => ⟨by simp [putF], fun g h => by simp at h⟩
  | (k, x) :: r => by
    obtain ⟨i1, i2⟩ := keys_putF f v r
    rw [show putF f v ((k, x) :: r) = (if k = f then (k, v) :: r else (k, x) :: putF f v r) from rfl]
    by_cases hk : k = f
    · rw [if_pos hk]
      subst hk
      exact ⟨by simp, fun g h => by simpa using h⟩
    · rw [if_neg hk]
      refine ⟨?_, fun g h => ?_⟩
      · rw [List.map_cons]
        exact List.mem_cons_of_mem _ i1
      · rw [List.map_cons] at h ⊢
        rcases List.mem_cons.mp h with e | e
        · exact List.mem_cons.mpr (.inl e)
        · exact List.mem_cons_of_mem _ (i2 g e)
theorem length_putF (f : Str) (v : V) : ∀ fs : List (Str × V), (putF f v fs).length ≤ fs.length + 1
  | [] => by simp [putF]
  | (k, x) :: r => by
    have ih := length_putF f v r
    rw [show putF f v ((k, x) :: r) = (if k = f then (k, v) :: r else (k, x) :: putF f v r) from rfl]
    by_cases hk : k = f
    · rw [if_pos hk, List.length_cons, List.length_cons]; omega
    · rw [if_neg hk, List.length_cons, List.length_cons]; omega

theorem RelO.some_of {v : V} {o : Option Value} (r : RelO (some v) o) : ∃ u, o = some u ∧ RelV v u := by
  cases o with
  | none => exact (show False from r).elim
  | some u => exact ⟨u, rfl, r⟩
theorem RelO.none_of {o : Option Value} (r : RelO none o) : o = none := by
  cases o with
  | none => rfl
  | some u => exact (show False from r).elim
theorem handed_of {v : V} {u : Value} (r : RelV v u) : PySem.W.handedIn u = true := by
  cases v with
  | non => cases (show u = Value.none from r); rfl
  | bl b => cases (show u = Value.bool b from r); rfl
  | int i => obtain ⟨t, e⟩ := (show ∃ t, u = Value.int i t from r); cases e; rfl
  | str x => obtain ⟨t, e⟩ := (show ∃ t, u = Value.str x t from r); cases e; rfl
  | byt b => obtain ⟨t, e⟩ := (show ∃ t, u = Value.bytes b t from r); cases e; rfl
  | flt b => obtain ⟨t, e⟩ := (show ∃ t, u = Value.float b t from r); cases e; rfl
  | ref a => cases (show u = Value.ref a from r); rfl
  | ty n => cases (show u = Value.type n from r); rfl

section
variable {P : Program} {w : World} {H H' : Hp} {h h' : Heap} {a C dx : Addr} {fs fs' : List (Str × V)}
theorem ins_get (hok : HOk P w H h) (e : H a = some (.ins C dx fs)) : ∃ mA, ObjM h a dx C mA ∧ (∀ f, RelO (fs.lookup f) (mA f)) ∧ PySem.Within mA (fs.map (·.1)) ∧ fs.length ≤ 1000 ∧ H dx = some (.own a) := by
  obtain ⟨d, z, ne, ob, mA, n, r, q⟩ := (show ObjOk P w H h a (.ins C dx fs) from hok a _ e)
  exact ⟨mA, ⟨ob, n, ne⟩, r, q, z, d⟩
end

structure Cls (K : PySem.W.Frag) (C : Addr) : Prop where
  pg : PySem.W.plainGet K C Str.empty = true
  hd : PySem.W.hasDictIn K C = true
  po : PySem.W.plainOver K C = true
  sa : PySem.W.findIn K (.ref C) "__setattr__" = some (some (.builtin "object.__setattr__"))
theorem Cls.get {K : PySem.W.Frag} {C : Addr} (c : Cls K C) (f : Str) : PySem.W.plainGet K C f = true := c.pg
/-- no class of it has the name -/
def NoAttr (K : PySem.W.Frag) (C : Addr) (f : Str) : Prop := PySem.W.findIn K (.ref C) f = some none
theorem NoAttr.taker {K : PySem.W.Frag} {C : Addr} {f : Str} (n : NoAttr K C f) : PySem.W.takerIn K C f = some none := by
  unfold PySem.W.takerIn
  rw [show PySem.W.findIn K (.ref C) f = some none from n]
  rfl
/-- a constant of the class -/
structure Con (K : PySem.W.Frag) (C : Addr) (f : Str) (v : V) (u : Value) : Prop where
  at_ : PySem.W.findIn K (.ref C) f = some (some u)
  rel : RelV v u
  get : PySem.W.specialIn K u "__get__" = some none
  cp : PySem.W.copiedNames.contains f = false
/-- a method: a plain def of the class or of one above it -/
structure Meth (K : PySem.W.Frag) (C : Addr) (m : Str) (f : Addr) : Prop where
  at_ : PySem.W.findIn K (.ref C) m = some (some (.ref f))
  fn : PySem.W.isFn K (.ref f) = true
  kp : PySem.W.keepIn K (.ref f) = true

section
variable {X : Cx} {pins : List (Addr × Obj)} {σ : St} {H : Hp} {s : Shared} {a C dx : Addr} {fs : List (Str × V)} {f : Str} {v : V} {A : Around} {E : Value → Shared → Prop}

theorem getattr_ok {b : Bool} {Q : Value → Shared → Prop} (I : Inv X pins σ H s) (e : H a = some (.ins C dx fs)) (c : Cls X.K C) (n : NoAttr X.K C f) (l : fs.lookup f = some v)
    (h : ∀ u s', Inv X pins σ H s' → RelV v u → Q u s') : wpAny (model X.prog X.w) A (getAttr (.ref a) f b) Q E s := by
  obtain ⟨mA, O, r, _, _, _⟩ := ins_get I.hok e
  obtain ⟨u, hu, ru⟩ := RelO.some_of (v := v) (o := mA f) (by rw [← l]; exact r f)
  exact get_map I.kIn O (c.get f) c.hd n hu (handed_of ru) (h u _ (I.tok _) ru)

theorem getmeth_ok {m : Str} {g : Addr} {pl : Sem Bool} {Q : Value × List Value → Shared → Prop} (I : Inv X pins σ H s) (e : H a = some (.ins C dx fs)) (c : Cls X.K C) (k : Meth X.K C m g) (l : fs.lookup m = none)
    (h : Q (.ref g, [.ref a]) s) : wpAny (model X.prog X.w) A (getMethod (.ref a) m pl) Q E s := by
  obtain ⟨mA, O, r, _, _, _⟩ := ins_get I.hok e
  have hn : mA m = none := RelO.none_of (by rw [← l]; exact r m)
  exact get_meth I.kIn O (c.get m) k.at_ k.fn hn h

theorem setattr_ok {y : V} {u : Value} {Q : Unit → Shared → Prop} (I : Inv X pins σ H s) (e : H a = some (.ins C dx fs)) (c : Cls X.K C) (n : NoAttr X.K C f) (hl : fs.length < 1000) (ry : RelV y u)
    (h : ∀ s', Inv X pins σ (upd H a (.ins C dx (putF f y fs))) s' → Q () s') : wpAny (model X.prog X.w) A (setAttr (.ref a) f u) Q E s := by
  obtain ⟨mA, O, r, wi, _, ho⟩ := ins_get I.hok e
  have hz : (fs.map (·.1)).length ≤ sizeLine := by rw [List.length_map, sizeLine_eq]; omega
  refine set_map I.kIn O c.sa c.po n.taker c.hd wi hz fun h' O' sb => h _ ?_
  have hd : ∃ o, h'.get? dx = some o := let ⟨o, _, _, e', _⟩ := O'.ns; ⟨o, e'⟩
  refine I.write (x := a) (e := dx) (by rw [e]; exact True.intro) (.inr ho) (fun b q hb z => (sb.2 b hb).trans z) hd ?_
  refine ⟨by rw [upd_ne O.ne]; exact ho, ?_, O.ne, O'.obj, _, O'.ns, fun g => ?_, fun g hg => ?_⟩
  · have := length_putF f y fs; omega
  · show RelO ((putF f y fs).lookup g) (if g = f then some u else mA g)
    rw [lookup_putF]
    by_cases q : g = f
    · rw [if_pos q, if_pos q]; exact ry
    · rw [if_neg q, if_neg q]; exact r g
  · by_cases q : g = f
    · rw [q]; exact (keys_putF f y fs).1
    · refine (keys_putF f y fs).2 g (wi g fun z => hg ?_)
      show (if g = f then some u else mA g) = none
      rw [if_neg q]; exact z

/-- a new instance, tracked, without attributes -/
theorem Inv.made (I : Inv X pins σ H s) : Inv X pins σ (upd (upd H s.heap.objs.size (.own (s.heap.objs.size + 1))) (s.heap.objs.size + 1) (.ins C s.heap.objs.size []))
    { s with heap := (s.heap.push PySem.W.emptyDict).push (PySem.W.instObj C s.heap.objs.size) } := by
  have e1 : (s.heap.push PySem.W.emptyDict).get? s.heap.objs.size = some PySem.W.emptyDict := Heap.get?_push_size s.heap rfl
  have e2 : ((s.heap.push PySem.W.emptyDict).push (PySem.W.instObj C s.heap.objs.size)).get? (s.heap.objs.size + 1) = some (PySem.W.instObj C s.heap.objs.size) := by
    have := Heap.get?_push_size (s.heap.push PySem.W.emptyDict) (o := PySem.W.instObj C s.heap.objs.size) rfl
    rwa [Heap.size_push] at this
  have e3 : (s.heap.push PySem.W.emptyDict).Ns s.heap.objs.size (fun _ => none) := ⟨PySem.W.emptyDict, #[], _, e1, rfl, (fun e he => absurd he (by simp)), fun _ => rfl⟩
  have I1 := I.laid (a := s.heap.objs.size) (o := .own (s.heap.objs.size + 1)) (h' := s.heap.push PySem.W.emptyDict) (t' := s.toks) (fun b u q => Heap.get?_push_of_some _ q) (Nat.le_refl _) ⟨_, e1⟩
  refine I1.laid (a := s.heap.objs.size + 1) (o := .ins C s.heap.objs.size []) (t' := s.toks) (fun b u q => Heap.get?_push_of_some _ q) (Nat.le_of_eq (Heap.size_push _ _)) ?_
  have ne : s.heap.objs.size ≠ s.heap.objs.size + 1 := Nat.ne_of_lt (Nat.lt_succ_self _)
  refine ⟨by rw [upd_ne ne, upd_same], Nat.zero_le _, ne, e2, fun _ => none, (Heap.Ns1.of_empty e3).at fun o q => Heap.get?_push_of_some _ q, fun _ => True.intro, fun y hy => absurd rfl hy⟩

/-- e.f where nothing but the object is asked: through attributeBase (super) and the last hold -/
theorem attr_of {prog : Program} {w : World} {env : Env} {e : Expr} {f : Str} {pos : Pos} {s : Shared} {Q : Value → Shared → Prop} (hb : attributeBase e f env (eval e env) = eval e env)
    (h : wpAny (model prog w) A (eval e env) (fun o s₁ => wpAny (model prog w) A (getAttr o f true) Q E s₁) E s) : wpAny (model prog w) A (eval (.Attribute e f pos) env) Q E s :=
  Attribute_any_ h (by rw [arm_eval_Attribute, hb])
end

/-- e.f, an attribute of the instance -/
def tFld (K : PySem.W.Frag) (ta : TE) (f : Str) : TE := fun σ H Q => ta σ H fun x H1 => ∃ a C dx fs v, x = .ref a ∧ H1 a = some (.ins C dx fs) ∧ Cls K C ∧ NoAttr K C f ∧ fs.lookup f = some v ∧ Q v H1
/-- e.f = value -/
def sFld (K : PySem.W.Frag) (ta tv : TE) (f : Str) : TS := fun D σ H => tv σ H fun y H1 => ta σ H1 fun x H2 => ∃ a C dx fs, x = .ref a ∧ H2 a = some (.ins C dx fs) ∧ Cls K C ∧ NoAttr K C f ∧ fs.length < 1000 ∧
  D.nx σ (upd H2 a (.ins C dx (putF f y fs)))
section
variable {X : Cx} {o e value : Expr} {f : Str} {pos pos' tpos : Pos} {ta tv : TE}
theorem pe_fld (he : PE X e ta) (hb : attributeBase e f X.env (eval e X.env) = eval e X.env) : PE X (.Attribute e f pos) (tFld X.K ta f) := by
  intro pins s σ H Q I h
  refine attr_of hb (thn (he pins s σ H _ I h) fun u s1 ⟨x, H1, I1, rx, a, C, dx, fs, v, ex, ea, c, n, l, q⟩ => ?_)
  subst ex
  obtain rfl : u = Value.ref a := rx
  exact getattr_ok I1 ea c n l fun u' s2 I2 ru => ⟨v, H1, I2, ru, q⟩
theorem ps_fld (ha : PE X o ta) (hv : PE X value tv) (hs : swapsWith value (some (.Attribute o f pos')) pos.line X.env = pure false) : PS X (.Assign [.Attribute o f pos'] value pos) (sFld X.K ta tv f) := by
  intro pins s σ H D I h
  refine plainObj_wpAny_Assign_Attribute (thn (hv pins s σ H _ I h) fun u s1 ⟨y, H1, I1, ry, q⟩ => thn (ha pins s1 σ H1 _ I1 q) fun ov s2 ⟨x, H2, I2, rx, a, C, dx, fs, ex, ea, c, n, l, q2⟩ => ?_) hs
  subst ex
  obtain rfl : ov = Value.ref a := rx
  exact setattr_ok I2 ea c n l ry fun s3 I3 => ⟨σ, _, I3, q2⟩
end

section
variable {X : Cx} {pins : List (Addr × Obj)} {σ : St} {H : Hp} {s : Shared} {A : Around} {E : Value → Shared → Prop} {Q : Value → Shared → Prop} {c : Value} {b : Bool}
/-- the type of a value, as the fragment's deciders take it; for an instance its class -/
inductive TyOf (K : PySem.W.Frag) (H : Hp) : V → Value → Prop where
  | non : TyOf K H .non (.type "NoneType")
  | bl (x : Bool) : TyOf K H (.bl x) (.type "bool")
  | int (i : Int) : TyOf K H (.int i) (.type "int")
  | str (x : Str) : TyOf K H (.str x) (.type "str")
  | flt (x : UInt64) : TyOf K H (.flt x) (.type "float")
  | lst {a : Addr} {xs : List V} (e : H a = some (.lst xs)) : TyOf K H (.ref a) (.type "list")
  | frz {a : Addr} {o : Obj} {xs : List V} (e : H a = some (.frz o (.lst xs))) : TyOf K H (.ref a) (.type "list")
  | tup {a : Addr} {xs : List V} (e : H a = some (.tup xs)) : TyOf K H (.ref a) (.type "tuple")
  | dK {a : Addr} {kvs : List (Key × V)} (e : H a = some (.dK kvs)) : TyOf K H (.ref a) (.type "dict")
  | dT {a : Addr} {kvs : List (List Key × V)} (e : H a = some (.dT kvs)) : TyOf K H (.ref a) (.type "dict")
  | ins {a C dx : Addr} {fs : List (Str × V)} (e : H a = some (.ins C dx fs)) (cl : Cls K C) (ha : PySem.W.findIn K (.ref C) "__class__" = some (some (.builtin "object.__class__")))
      (hn : PySem.W.specialIn K (.builtin "object.__class__") "__get__" = some (some (.builtin "getset_descriptor.__get__"))) (htk : PySem.W.takesIn K (.builtin "object.__class__") = some true)
      (hm : PySem.W.mroIn K C (.type "object") = some true) : TyOf K H (.ref a) (.ref C)
/-- isinstance(x, c) for one class c, a built-in or an own one: kitOne's answer -/
theorem isinst_ok {x : V} {u t : Value} (I : Inv X pins σ H s) (rx : RelV x u) (ty : TyOf X.K H x t) (e : PySem.W.kitOne X.K t c = some b) (h : ∀ tk, Q (.bool b) { s with toks := tk }) :
    wpAny (model X.prog X.w) A (call (.builtin "isinstance") [u, c]) Q E s := by
  cases ty with
  | non => cases (show u = Value.none from rx); exact PySem.W.kia_one PySem.W.kitx_none I.kIn True.intro e (fun z => nomatch z) h
  | bl y => cases (show u = Value.bool y from rx); exact PySem.W.kia_one PySem.W.kitx_bool I.kIn True.intro e (fun z => nomatch z) h
  | int i => obtain ⟨t, q⟩ := (show ∃ t, u = Value.int i t from rx); cases q; exact PySem.W.kia_one PySem.W.kitx_int I.kIn True.intro e (fun z => nomatch z) h
  | str y => obtain ⟨t, q⟩ := (show ∃ t, u = Value.str y t from rx); cases q; exact PySem.W.kia_one PySem.W.kitx_str I.kIn True.intro e (fun z => nomatch z) h
  | flt y => obtain ⟨t, q⟩ := (show ∃ t, u = Value.float y t from rx); cases q; exact PySem.W.kia_one PySem.W.kitx_float I.kIn True.intro e (fun z => nomatch z) h
  | @lst a xs ea =>
    cases (show u = Value.ref a from rx)
    obtain ⟨_, _, n, _, h1⟩ := (show ObjOk X.prog X.w H s.heap a (.lst xs) from I.hok a _ ea)
    exact PySem.W.kia_one PySem.W.kitx_list I.kIn ⟨_, h1, rfl⟩ e (fun z => nomatch z) h
  | @frz a ob xs ea =>
    cases (show u = Value.ref a from rx)
    obtain ⟨_, _, _, n, _, h1⟩ := (show ObjOk X.prog X.w H s.heap a (.frz ob (.lst xs)) from I.hok a _ ea)
    exact PySem.W.kia_one PySem.W.kitx_list I.kIn ⟨_, h1, rfl⟩ e (fun z => nomatch z) h
  | @tup a xs ea =>
    cases (show u = Value.ref a from rx)
    obtain ⟨_, _, _, p⟩ := (show ObjOk X.prog X.w H s.heap a (.tup xs) from I.hok a _ ea)
    obtain ⟨o, h1, h2, _⟩ := p
    exact PySem.W.kia_one PySem.W.kitx_tuple I.kIn ⟨o, h1, h2⟩ e (fun z => nomatch z) h
  | @dK a kvs ea =>
    cases (show u = Value.ref a from rx)
    obtain ⟨_, _, vs, _, p⟩ := (show ObjOk X.prog X.w H s.heap a (.dK kvs) from I.hok a _ ea)
    obtain ⟨o, es, ep, h1, h2, _⟩ := p
    exact PySem.W.kia_one PySem.W.kitx_dict I.kIn ⟨o, h1, h2.1⟩ e (fun z => nomatch z) h
  | @dT a kvs ea =>
    cases (show u = Value.ref a from rx)
    obtain ⟨_, _, xs, _, o, es, ep, h1, h2, _⟩ := (show ObjOk X.prog X.w H s.heap a (.dT kvs) from I.hok a _ ea)
    exact PySem.W.kia_one PySem.W.kitx_dict I.kIn ⟨o, h1, h2.1⟩ e (fun z => nomatch z) h
  | @ins a C dx fs ea cl ha hn htk hm =>
    cases (show u = Value.ref a from rx)
    obtain ⟨mA, O, _⟩ := ins_get I.hok ea
    obtain ⟨od, J, _⟩ := O.look
    exact PySem.W.kia_one (PySem.W.kitx_own (cl.get _) cl.hd ha hn htk hm) I.kIn J e (fun z => nomatch z) h
end
end L2

namespace L2
open PySem PySem.Spec PyProof.Rows

structure Room (k : Nat) (A : Around) : Prop where
  hd : A.handled = none
  dp : A.depth + 3 * k + 5 < recursionLimit
  un : A.units + 16 * k + 200 < cLine
theorem Room.mono {j k : Nat} {A : Around} (r : Room k A) (h : j ≤ k) : Room j A := ⟨r.hd, by have := r.dp; omega, by have := r.un; omega⟩
theorem Room.deeper {k : Nat} {A : Around} (r : Room (k + 1) A) (env : Env) : Room k (A.deeper env) :=
  ⟨r.hd, by have := r.dp; show A.depth + 1 + 3 * k + 5 < _; omega, by have := r.un; show A.units + 3 + 16 * k + 200 < _; omega⟩
theorem make_depth {A : Around} {C : Addr} {us : List Value} {kw : List (Str × Value)} : (A.under (.builtin "type.__call__" ⟨.ref C :: us, kw⟩)).depth = A.depth + 1 := by
  first | rfl | simp [Around.under, Code.weight, Code.isCreation, Code.isGuard, Code.isCaller, Code.frames, Code.isFrame, guardIds]
theorem make_units {A : Around} {C : Addr} {us : List Value} {kw : List (Str × Value)} : (A.under (.builtin "type.__call__" ⟨.ref C :: us, kw⟩)).units = A.units + 1 := by
  first | rfl | simp [Around.under, Code.cUnits, Code.frames, Code.isFrame]
theorem Room.make {k : Nat} {A : Around} (r : Room (k + 1) A) (C : Addr) (us : List Value) (kw : List (Str × Value)) : Room k (A.under (.builtin "type.__call__" ⟨.ref C :: us, kw⟩)) :=
  ⟨r.hd, by have := r.dp; rw [make_depth]; omega, by have := r.un; rw [make_units]; omega⟩
theorem Room.depth {k : Nat} {A : Around} (r : Room k A) : A.depth < recursionLimit := by have := r.dp; omega
theorem Room.units {k : Nat} {A : Around} (r : Room k A) : A.units + 64 < cLine := by have := r.un; omega
def tNil : TA := fun _ H Q => Q [] H
def tCons (ta : TE) (tr : TA) : TA := fun σ H Q => ta σ H fun x H1 => tr σ H1 fun xs H2 => Q (x :: xs) H2
section
variable {X : Cx} {e : Expr} {es : List Expr} {te : TE} {t : TA} {pos : Pos}
theorem pa_nil : PA X [] tNil := fun _ _ _ _ H Q I h => Calls.spliced_nil ⟨[], H, I, .nil, h⟩
theorem pa_cons (ha : PE X e te) (hr : PA X es t) (hs : starEach (e :: es) X.env = (false, eval e X.env) :: starEach es X.env := by rfl) : PA X (e :: es) (tCons te t) := by
  intro pos pins s σ H Q I h
  rw [hs]
  show wpAny _ _ (spliced ((false, eval e X.env) :: backTo pos (starEach es X.env))) _ _ s
  refine Calls.spliced_cons (thn (ha pins s σ H _ I h) fun u s1 ⟨x, H1, I1, r1, q1⟩ => ?_)
  exact thn (hr pos pins s1 σ H1 _ I1 q1) fun us s2 ⟨xs, H2, I2, r2, q2⟩ => ⟨x :: xs, H2, I2, .cons r1 r2, q2⟩

/-- a tuple, a list of written items -/
def tTup (t : TA) : TE := fun σ H Q => t σ H fun xs H1 => xs.length ≤ sizeLine ∧ ∀ p, H1 p = none → Q (.ref p) (upd H1 p (.tup xs))
def tLst (t : TA) : TE := fun σ H Q => t σ H fun xs H1 => xs.length ≤ sizeLine ∧ ∀ p, H1 p = none → Q (.ref p) (upd H1 p (.lst xs))
theorem pe_tup {x1} (h : PA X es t) : PE X (.Tuple es x1 pos) (tTup t) := by
  intro pins s σ H Q I hq
  refine wpAny_Tuple_spliced (thn (h pos pins s σ H _ I hq) fun us s1 ⟨xs, H1, I1, r, z, q⟩ => ⟨by rw [← r.length]; exact z, ?_⟩)
  have hf : H1 s1.heap.objs.size = none := I1.hok.fresh (Nat.le_refl _)
  refine ⟨.ref s1.heap.objs.size, upd H1 s1.heap.objs.size (.tup xs), I1.laid (t' := s1.toks) (fun b u e => Heap.get?_push_of_some _ e) (Nat.le_refl _) ?_, rfl, q _ hf⟩
  exact ⟨z, us, r, ⟨_, Heap.get?_push_size _ rfl, rfl, _, rfl⟩⟩
theorem pe_lst (h : PA X es t) : PE X (.List es pos) (tLst t) := by
  intro pins s σ H Q I hq
  refine wpAny_List_spliced (thn (h pos pins s σ H _ I hq) fun us s1 ⟨xs, H1, I1, r, z, q⟩ => ⟨by rw [← r.length]; exact z, ?_⟩)
  have hf : H1 s1.heap.objs.size = none := I1.hok.fresh (Nat.le_refl _)
  refine ⟨.ref s1.heap.objs.size, upd H1 s1.heap.objs.size (.lst xs), I1.laid (t' := s1.toks) (fun b u e => Heap.get?_push_of_some _ e) (Nat.le_refl _) ?_, rfl, q _ hf⟩
  exact ⟨z, us, 0, r, Heap.get?_push_size _ rfl⟩
end

/-- a def's promise: the bound arguments in the parameters' order, the heap, the wanted end, the wanted exception -/
abbrev Sp := List V → Hp → VK → XK → Prop
/-- how an exception lies behind a call (file 08 gives it): the callers' frames, abstract heap and state ahead of the call, the wish, the exception, the state -/
abbrev CXT := List Env → Hp → Shared → XK → Value → Shared → Prop

/-- the state at a call -/
structure Env0 (P : Program) (w : World) (K : PySem.W.Frag) (mg : Str → Option Value) (base : Heap) (A : Around) (outer : List Env) (s : Shared) (H : Hp) : Prop where
  frames : A.frames = some outer
  mod : Mod K mg base
  bs : ∀ b o, base.get? b = some o → s.heap.get? b = some o ∧ H b = none
  bsz : base.objs.size ≤ s.heap.objs.size
  funs : s.heap.FunFrames base outer
  frf : ∀ b ∈ frs outer, H b = none
  hok : HOk P w H s.heap
  bare : AllBare s.gens
/-- a call's end -/
def CE (outer : List Env) (P : Program) (w : World) (H : Hp) (s : Shared) (Q : VK) (u : Value) (s' : Shared) : Prop :=
  ∃ v H', s'.os = s.os ∧ AllBare s'.gens ∧ Un (frs outer) [] H H' s.heap s'.heap ∧ HOk P w H' s'.heap ∧ RelV v u ∧ Q v H'
def CR (CX : CXT) (outer : List Env) (P : Program) (w : World) (H : Hp) (s : Shared) (Q : VK) (E : XK) (r : Result) (s' : Shared) : Prop :=
  match r with
  | .ok (.ret u) => CE outer P w H s Q u s'
  | .ok _ => False
  | .error e => CX outer H s E e s'
structure FnOk (P : Program) (w : World) (K : PySem.W.Frag) (mg : Str → Option Value) (base : Heap) (CX : CXT) (k : Nat) (f : Addr) (fd : FuncData) (ps : List Str) (sp : Sp) : Prop where
  len : ∀ vs H Q E, sp vs H Q E → vs.length = ps.length
  run : ∀ (A : Around) (outer : List Env) (s : Shared) (H : Hp) (args : Args) (us : List Value) (vs : List V) (Q : VK) (E : XK), Room k A → Env0 P w K mg base A outer s H → BindsTo s fd args (ps.zip us) → Vals vs us → sp vs H Q E →
    codeAny (model P w) A (.call (.ref f) args) (CR CX outer P w H s Q E) s
theorem Env0.make {P : Program} {w : World} {K : PySem.W.Frag} {mg : Str → Option Value} {base : Heap} {A : Around} {outer : List Env} {s : Shared} {H : Hp} (e : Env0 P w K mg base A outer s H) (C : Addr) (us : List Value) (kw : List (Str × Value)) :
    Env0 P w K mg base (A.under (.builtin "type.__call__" ⟨.ref C :: us, kw⟩)) outer s H := ⟨by first | exact e.frames | (simpa [Around.under, Code.envs, Code.isFrame, pushEnvs] using e.frames), e.mod, e.bs, e.bsz, e.funs, e.frf, e.hok, e.bare⟩
section
variable {X : Cx} {pins : List (Addr × Obj)} {σ : St} {H : Hp} {s s' : Shared}
/-- from a body: what a callee wants -/
theorem Inv.env0 (I : Inv X pins σ H s) : Env0 X.prog X.w X.K X.mg X.base X.A X.stack s H :=
  ⟨I.ok.frames, I.ok.mod, I.bs, Nat.le_trans I.ok.bsz I.sz, I.stack, I.stkFree, I.hok, I.bare⟩
/-- behind a call -/
theorem Inv.after {Q : VK} {u : Value} (I : Inv X pins σ H s) (h : CE X.stack X.prog X.w H s Q u s') : EP X pins σ Q u s' := by
  obtain ⟨v, H', os, bare, un, hok, r, q⟩ := h
  obtain ⟨hh, g, d, t, os'⟩ := s'
  obtain rfl : os' = s.os := os
  exact ⟨v, H', I.call (h' := hh) (g' := g) (d' := d) (t' := t) (ch := []) un hok bare (fun b z => absurd z (by simp)), r, q⟩
end

/-- f(..): the written arguments, then the defaults dvs; E: what is wanted of an exception -/
def tCall (sp : Sp) (dvs : List V) (E : XK) (t : TA) : TE := fun σ H Q => t σ H fun vs H1 => sp (vs ++ dvs) H1 Q E
/-- C(..): a new instance and its dict, then __init__ -/
def tMake (C : Addr) (sp : Sp) (dvs : List V) (E : XK) (t : TA) : TE := fun σ H Q => t σ H fun vs H1 => ∀ x dx, H1 x = none → H1 dx = none → dx ≠ x →
  sp (.ref x :: (vs ++ dvs)) (upd (upd H1 dx (.own x)) x (.ins C dx [])) (fun v H2 => v = .non ∧ Q (.ref x) H2) E

/-- how the parameters are bound: us the positional arguments, kw the keywords' values by name, ds the defaults that fill up -/
def Binds (K : PySem.W.Frag) (fd : FuncData) (ps : List Str) (ds : List Value) : Prop :=
  ∀ (s : Shared) (us : List Value), K.In s.heap → (us ++ ds).length = ps.length → BindsTo s fd ⟨us, []⟩ (ps.zip (us ++ ds))
/-- every parameter is given -/
theorem Binds.all {K : PySem.W.Frag} {fd : FuncData} {ps : List Str} (h : ∀ us : List Value, us.length = ps.length → bindArgs fd ⟨us, []⟩ = pure (ps.zip us)) : Binds K fd ps [] := fun s us _ hl => by
  rw [List.append_nil] at hl ⊢
  exact .of_eq (h us hl)

/-- an exception of a callee reaches what this body wants of exceptions -/
def Passes (CX : CXT) (X : Cx) (E : XK) : Prop := ∀ (pins : List (Addr × Obj)) (σ : St) (H : Hp) (s : Shared) (e : Value) (s' : Shared), Inv X pins σ H s → CX X.stack H s E e s' → X.xe e s'

section
variable {X : Cx} {CX : CXT} {k : Nat} {f C : Addr} {fd : FuncData} {ps : List Str} {sp : Sp} {dvs : List V} {ds : List Value} {E : XK} {x m : Str} {p pos apos : Pos} {e o : Expr} {es : List Expr} {ta : TE} {t : TA}

/-- the callee runs -/
theorem run_fn {pins : List (Addr × Obj)} {σ : St} {H : Hp} {s : Shared} {Q : VK} {us : List Value} {vs : List V} (F : FnOk X.prog X.w X.K X.mg X.base CX k f fd ps sp) (hr : Room k X.A) (hb : Binds X.K fd ps ds) (hd : Vals dvs ds) (hx : Passes CX X E)
    (I : Inv X pins σ H s) (r : Vals vs us) (h : sp (vs ++ dvs) H Q E) : wpAny (model X.prog X.w) X.A (call (.ref f) us) (EP X pins σ Q) X.xe s := by
  have r2 : Vals (vs ++ dvs) (us ++ ds) := r.append hd
  have hl : (us ++ ds).length = ps.length := by rw [← r2.length]; exact F.len _ _ _ _ h
  refine wpAny_call (codeAny_mono (F.run X.A X.stack s H ⟨us, []⟩ (us ++ ds) (vs ++ dvs) Q E hr I.env0 (hb s us I.kIn hl) r2 h) fun r s' hq => ?_)
  cases r with
  | error e => exact hx pins σ H s e s' I hq
  | ok fl =>
    cases fl with
    | ret u => exact I.after hq
    | next => exact False.elim hq
    | brk => exact False.elim hq
    | cont => exact False.elim hq

theorem pe_call (F : FnOk X.prog X.w X.K X.mg X.base CX k f fd ps sp) (hr : Room k X.A) (hg : Gl X x) (hm : X.mg x = some (.ref f)) (hk : PySem.W.keepIn X.K (.ref f) = true) (hb : Binds X.K fd ps ds) (hd : Vals dvs ds) (hx : Passes CX X E)
    (ha : PA X (e :: es) t) (hdb : (x == ("__debug__" : Str)) = false := by decide) (he : starEach (e :: es) X.env = (false, eval e X.env) :: starEach es X.env := by rfl) (hpl : (backTo pos (starEach es X.env)).any (·.1) = false := by rfl) :
    PE X (.Call (.Name x p) (e :: es) [] pos) (tCall sp dvs E t) := by
  intro pins s σ H Q I h
  refine wpAny_Call_Name_kw (ld_glob I hg hm ?_ hdb)
  refine PySem.W.callWith_K (h₀ := X.base) I.ok.mod.kin hk (thn (ha pos pins s σ H _ I h) fun us s1 ⟨vs, H1, I1, r, q⟩ => ⟨I1.kIn, ?_⟩) he hpl
  exact run_fn F hr hb hd hx I1 r q
/-- what a class must have to be made -/
structure Mk (K : PySem.W.Frag) (C f : Addr) : Prop where
  makes : PySem.W.makesIn K C = true
  init : PySem.W.findIn K (.ref C) "__init__" = some (some (.ref f))
  fn : PySem.W.isFn K (.ref f) = true
  kp : PySem.W.keepIn K (.ref C) = true

theorem run_make {pins : List (Addr × Obj)} {σ : St} {H : Hp} {s : Shared} {Q : VK} {us : List Value} {vs : List V} (M : Mk X.K C f) (F : FnOk X.prog X.w X.K X.mg X.base CX k f fd ps sp) (hr : Room (k + 1) X.A) (hb : Binds X.K fd ps ds) (hd : Vals dvs ds)
    (hx : Passes CX X E) (I : Inv X pins σ H s) (r : Vals vs us)
    (h : ∀ x dx, H x = none → H dx = none → dx ≠ x → sp (.ref x :: (vs ++ dvs)) (upd (upd H dx (.own x)) x (.ins C dx [])) (fun v H2 => v = .non ∧ Q (.ref x) H2) E) :
    wpAny (model X.prog X.w) X.A (call (.ref C) us) (EP X pins σ Q) X.xe s := by
  have hq := h (s.heap.objs.size + 1) s.heap.objs.size (I.hok.fresh (Nat.le_succ _)) (I.hok.fresh (Nat.le_refl _)) (Nat.ne_of_lt (Nat.lt_succ_self _))
  have I2 := Inv.made (C := C) I
  have r2 : Vals (V.ref (s.heap.objs.size + 1) :: (vs ++ dvs)) (Value.ref (s.heap.objs.size + 1) :: (us ++ ds)) := .cons rfl (r.append hd)
  have hl : (Value.ref (s.heap.objs.size + 1) :: us ++ ds).length = ps.length := by
    have e := r2.length
    rw [F.len _ _ _ _ hq] at e
    exact e.symm
  refine wpAny_call (make_map (f := f) I.kIn M.makes M.init (beq_iff_eq.mp M.fn) (codeAny_mono (F.run _ X.stack _ _ ⟨Value.ref (s.heap.objs.size + 1) :: us, []⟩ (Value.ref (s.heap.objs.size + 1) :: (us ++ ds)) _ _ E (hr.make C us [])
    (I2.env0.make C us []) (hb _ (Value.ref (s.heap.objs.size + 1) :: us) I2.kIn hl) r2 hq) fun r s' hq' => ?_))
  cases r with
  | error e => exact hx pins σ _ _ e s' I2 hq'
  | ok fl =>
    cases fl with
    | ret u =>
      obtain ⟨v, H', I3, rv, ev, q3⟩ := I2.after hq'
      subst ev
      exact ⟨rv, ⟨V.ref (s.heap.objs.size + 1), H', I3, rfl, q3⟩⟩
    | next => exact False.elim hq'
    | brk => exact False.elim hq'
    | cont => exact False.elim hq'
theorem pe_make (M : Mk X.K C f) (F : FnOk X.prog X.w X.K X.mg X.base CX k f fd ps sp) (hr : Room (k + 1) X.A) (hg : Gl X x) (hm : X.mg x = some (.ref C)) (hb : Binds X.K fd ps ds) (hd : Vals dvs ds) (hx : Passes CX X E)
    (ha : PA X (e :: es) t) (hdb : (x == ("__debug__" : Str)) = false := by decide) (he : starEach (e :: es) X.env = (false, eval e X.env) :: starEach es X.env := by rfl) (hpl : (backTo pos (starEach es X.env)).any (·.1) = false := by rfl) :
    PE X (.Call (.Name x p) (e :: es) [] pos) (tMake C sp dvs E t) := by
  intro pins s σ H Q I h
  refine wpAny_Call_Name_kw (ld_glob I hg hm ?_ hdb)
  refine PySem.W.callWith_K (h₀ := X.base) I.ok.mod.kin M.kp (thn (ha pos pins s σ H _ I h) fun us s1 ⟨vs, H1, I1, r, q⟩ => ⟨I1.kIn, ?_⟩) he hpl
  exact run_make M F hr hb hd hx I1 r q
end

section
variable {X : Cx} {CX : CXT} {k : Nat} {f C : Addr} {fd : FuncData} {ps ks : List Str} {sp : Sp} {E : XK} {x m : Str} {p pos apos kpos : Pos} {e o : Expr} {es : List Expr} {kws : List Keyword} {te ta : TE} {t tk : TA} {nm : Option Str}
/-- how a call with keywords binds: g puts the positional values us and the keywords' values ws (names ks) in the parameters' order, defaults among them -/
structure KBinds (K : PySem.W.Frag) (fd : FuncData) (ps ks : List Str) (g : List Value → List Value → List Value) (gV : List V → List V → List V) : Prop where
  to : ∀ (s : Shared) (us ws : List Value), K.In s.heap → (g us ws).length = ps.length → BindsTo s fd ⟨us, ks.zip ws⟩ (ps.zip (g us ws))
  rel : ∀ {vs : List V} {us : List Value} {zs : List V} {ws : List Value}, Vals vs us → Vals zs ws → Vals (gV vs zs) (g us ws)
variable {g : List Value → List Value → List Value} {gV : List V → List V → List V}
end

/-- names: the parameters first -/
structure FnScope (N P : List Str) (sc : Scope) : Prop where
  kind : sc.kind = .function
  co : sc.isCoroutine = false
  gen : sc.isGenerator = false
  nd : N.Nodup
  pre : N.take P.length = P
  par : ∀ x ∈ P, sc.names.lookup x = some .local ∨ sc.names.lookup x = some .cell
  nofree : ∀ y ∈ sc.names, y.2 ≠ .free

theorem bindL_out {kindOf : Str → Option NameKind} {x : Str} : ∀ {binds : List (Str × Value)} {m : Str → Option Value}, (∀ v, (x, v) ∉ binds) → bindL kindOf binds m x = m x
  | [], _, _ => rfl
  | (n, v) :: r, m, h => by
    unfold bindL
    rw [bindL_out fun w hw => h w (List.mem_cons_of_mem _ hw)]
    split
    · have : x ≠ n := by rintro rfl; exact h v List.mem_cons_self
      simp [this]
    · rfl
theorem bindC_out {kindOf : Str → Option NameKind} {x : Str} : ∀ {binds : List (Str × Value)} {m : Str → Option Value}, (∀ v, (x, v) ∉ binds) → bindC kindOf binds m x = m x
  | [], _, _ => rfl
  | (n, v) :: r, m, h => by
    unfold bindC
    rw [bindC_out fun w hw => h w (List.mem_cons_of_mem _ hw)]
    split
    · rfl
    · have : x ≠ n := by rintro rfl; exact h v List.mem_cons_self
      simp [this]
theorem bindL_get {kindOf : Str → Option NameKind} {x : Str} {v : Value} : ∀ {P : List Str} {vs : List Value} {i : Nat} {m : Str → Option Value}, P.Nodup → P[i]? = some x → vs[i]? = some v → kindOf x = some .local →
    bindL kindOf (P.zip vs) m x = some v
  | [], _, _, _, _, h, _, _ => by simp at h
  | _ :: _, [], _, _, _, _, h, _ => by simp at h
  | p :: P, w :: vs, 0, m, nd, h1, h2, hk => by
    simp at h1 h2; subst h1; subst h2
    show bindL kindOf ((p, w) :: P.zip vs) m p = _
    unfold bindL
    rw [bindL_out fun v hv => (List.nodup_cons.mp nd).1 (List.of_mem_zip hv).1, if_pos hk]
    simp
  | p :: P, w :: vs, i + 1, m, nd, h1, h2, hk => by
    show bindL kindOf ((p, w) :: P.zip vs) m x = _
    unfold bindL
    exact bindL_get (i := i) (List.nodup_cons.mp nd).2 (by simpa using h1) (by simpa using h2) hk
theorem bindC_get {kindOf : Str → Option NameKind} {x : Str} {v : Value} : ∀ {P : List Str} {vs : List Value} {i : Nat} {m : Str → Option Value}, P.Nodup → P[i]? = some x → vs[i]? = some v → kindOf x ≠ some .local →
    bindC kindOf (P.zip vs) m x = some v
  | [], _, _, _, _, h, _, _ => by simp at h
  | _ :: _, [], _, _, _, _, h, _ => by simp at h
  | p :: P, w :: vs, 0, m, nd, h1, h2, hk => by
    simp at h1 h2; subst h1; subst h2
    show bindC kindOf ((p, w) :: P.zip vs) m p = _
    unfold bindC
    rw [bindC_out fun v hv => (List.nodup_cons.mp nd).1 (List.of_mem_zip hv).1, if_neg hk]
    simp
  | p :: P, w :: vs, i + 1, m, nd, h1, h2, hk => by
    show bindC kindOf ((p, w) :: P.zip vs) m x = _
    unfold bindC
    exact bindC_get (i := i) (List.nodup_cons.mp nd).2 (by simpa using h1) (by simpa using h2) hk

/-- the names' values at the entry -/
def start (N : List Str) (vs : List V) : St := vs.map some ++ List.replicate (N.length - vs.length) none

/-- the context of a def's body, at its entry; an exception leaves the frame, then lies as CX says -/
def cxOf (CX : CXT) (P : Program) (w : World) (K : PySem.W.Frag) (mg : Str → Option Value) (base : Heap) (N : List Str) (qual : Str) (scope : Scope) (f : Addr) (cd : Value) (A : Around) (outer : List Env) (s : Shared) (H : Hp) (E : XK) : Cx where
  prog := P
  w := w
  K := K
  mg := mg
  base := base
  A := A.deeper (envOfC qual scope s.heap.objs.size f cd)
  N := N
  s₀ := s
  H₀ := H
  env := envOfC qual scope s.heap.objs.size f cd
  outer := outer
  stack := envOfC qual scope s.heap.objs.size f cd :: outer
  ex := []
  calm := true
  fn := fun _ => true
  pn := []
  xe := fun e s' => wpAny (model P w) (A.deeper (envOfC qual scope s.heap.objs.size f cd)) (leaving (envOfC qual scope s.heap.objs.size f cd) e) (fun _ s'' => CX outer H s E e s'') (fun e' s'' => CX outer H s E e' s'') s'

theorem cell_has {sc : Scope} {n : Nat} {x : Str} (h : sc.names.lookup x = some .cell) : ∃ c, (cellsFrom n sc.names []).lookup x = some c := by
  have q := PySem.W.cellsFrom_some sc.names n [] (.inl h)
  exact Option.isSome_iff_exists.mp q

theorem inv_start {CX : CXT} {P : Program} {w : World} {K : PySem.W.Frag} {mg : Str → Option Value} {base : Heap} {N ps : List Str} {qual : Str} {scope : Scope} {f : Addr} {cd : Value} {A : Around} {outer : List Env} {s s1 : Shared} {H : Hp} {E : XK} {us : List Value} {vs : List V}
    (S : FnScope N ps scope) (hd : A.handled = none) (e0 : Env0 P w K mg base A outer s H) (hl : vs.length = ps.length) (r : Vals vs us)
    (x : InCallC s s.heap.objs.size (bindL (envOfC qual scope s.heap.objs.size f cd).kindOf (ps.zip us) fun _ => none) (cellsFrom (s.heap.objs.size + 1) scope.names []) (bindC (envOfC qual scope s.heap.objs.size f cd).kindOf (ps.zip us) fun _ => none) s1) :
    Inv (cxOf CX P w K mg base N qual scope f cd A outer s H E) [] (start N vs) H s1 := by
  have hpl : ps.length ≤ N.length := by have := congrArg List.length S.pre; rw [List.length_take] at this; omega
  obtain ⟨h1, tk, rfl, hk⟩ := x.done
  have noA : ∀ b : Addr, b ∉ (cxOf CX P w K mg base N qual scope f cd A outer s H E).ex := fun b z => absurd (show b ∈ ([] : List Addr) from z) (by simp)
  refine ⟨⟨e0.mod, S.kind, rfl, rfl, Nat.le_refl _, fun y z c h1 h2 => ?_, fun y hy => ?_, fun y c _ h => ?_, fun _ => hd, Around.frames_deeper e0.frames, .inr ⟨rfl, rfl⟩, fun b z => absurd z (noA b), e0.bs, e0.bsz, fun b _ _ => noA b, fun b z => absurd z (noA b), e0.funs, e0.frf⟩,
    rfl, e0.bare, Un.kept hk, ⟨_, x.toInCall.ns, fun i y v h1 h2 h3 => ?_⟩, fun y c h => ⟨_, x.cell y c h⟩, e0.hok.fresh (Nat.le_refl _), fun y c h => ?_, fun p hp => absurd (show p ∈ ([] : List (Addr × Obj)) from hp) (by simp), e0.hok.kept hk, ?_⟩
  · exact name_of_addr x.apart (PySem.mem_of_lookup h1) (PySem.mem_of_lookup h2)
  · have hy : scope.names.lookup y = some .cell ∨ scope.names.lookup y = some .free := hy
    rcases hy with hy | hy
    · exact cell_has hy
    · exact absurd rfl (S.nofree _ (PySem.mem_of_lookup hy))
  · exact Nat.le_of_lt (x.above y c (PySem.mem_of_lookup h))
  · have hi : i < vs.length := by
      unfold start at h2
      by_cases hi : i < vs.length
      · exact hi
      · rw [List.getElem?_append_right (by simpa using hi)] at h2
        rw [List.getElem?_replicate] at h2
        split at h2 <;> cases h2
    have ha : vs[i]? = some v := by
      unfold start at h2
      rw [List.getElem?_append_left (by simpa using hi), List.getElem?_map] at h2
      cases e : vs[i]? with
      | none => rw [e] at h2; cases h2
      | some a => rw [e] at h2; cases h2; rfl
    obtain ⟨u, hu, rv⟩ := r.get ha
    have hp : ps[i]? = some y := by
      rw [← S.pre, List.getElem?_take_of_lt (by omega)]; exact h1
    have ndP : ps.Nodup := by rw [← S.pre]; exact S.nd.sublist (List.take_sublist _ _)
    refine ⟨u, rv, ?_⟩
    rcases S.par y (List.mem_of_getElem? hp) with k | k
    · exact .inl ⟨k, bindL_get ndP hp hu k⟩
    · obtain ⟨c, e⟩ := cell_has (n := s.heap.objs.size + 1) k
      refine .inr ⟨.inl k, c, e, ?_⟩
      have q := x.cell y c e
      rw [bindC_get ndP hp hu (by show scope.names.lookup y ≠ _; rw [k]; decide)] at q
      exact q
  · exact e0.hok.fresh (Nat.le_of_lt (x.above y c (PySem.mem_of_lookup h)))
  · unfold start
    show _ = N.length
    rw [List.length_append, List.length_map, List.length_replicate]
    omega

/-- THE RULE: a def (or a method) of the text, by its body. The body's reading t is chosen for each entry; it is run at the parameters' values -/
theorem fn_of {CX : CXT} {P : Program} {w : World} {K : PySem.W.Frag} {mg : Str → Option Value} {base : Heap} {k : Nat} {f : Addr} {name qual : Str} {params : Arguments} {body : List Stmt} {scope : Scope} {dV kV doc pm cdv ct oc : Value} {an od : Option Addr}
    {osl : Array (Option Value)} {N ps : List Str} {sp : Sp} (lk : K.lookup f = some ⟨oc, od, .func (PySem.W.fnOf name qual params body scope dV kV doc pm an cdv ct), osl⟩) (hcd : PySem.W.codeIn K cdv qual = true) (S : FnScope N ps scope)
    (len : ∀ vs H Q E, sp vs H Q E → vs.length = ps.length)
    (hbody : ∀ (A : Around) (outer : List Env) (s : Shared) (H : Hp) (vs : List V) (Q : VK) (E : XK), Room k (A.deeper (envOfC qual scope s.heap.objs.size f cdv)) → sp vs H Q E →
      ∃ t, PSs (cxOf CX P w K mg base N qual scope f cdv A outer s H E) body t ∧ t { nx := fun _ H' => Q .non H', rt := Q } (start N vs) H) :
    FnOk P w K mg base CX (k + 1) f (PySem.W.fnOf name qual params body scope dV kV doc pm an cdv ct) ps sp := by
  refine ⟨len, fun A outer s H args us vs Q E hr e0 hb r hsp => ?_⟩
  have hl := len _ _ _ _ hsp
  have KX : K.In s.heap := e0.mod.kin.keeps fun b o e => (e0.bs b o e).1
  have lim : s.heap.NoLimit := e0.mod.nolimit.keeps fun b o e => (e0.bs b o e).1
  have hkind : ∀ y ∈ ps.zip us, scope.names.lookup y.1 = some .local ∨ (scope.names.lookup y.1 = some .cell ∧ ((cellsFrom (s.heap.objs.size + 1) scope.names []).lookup y.1).isSome = true) := fun ⟨n, v⟩ hy => by
    rcases S.par n (List.of_mem_zip hy).1 with q | q
    · exact .inl q
    · exact .inr ⟨q, PySem.W.cellsFrom_some _ _ _ (.inl q)⟩
  refine codeAny_call_function hr.depth (KX _ _ lk) rfl S.co S.gen rfl (PySem.W.codeRec_of KX hcd) (hb _ _ _ _ ?_)
  refine wpAny_newFunctionEnv_cells S.kind hkind fun env he s1 x => ?_
  subst he
  refine ⟨lim.keeps x.toInCall.keep, codeAny_func ?_⟩
  obtain ⟨t, ht, hq⟩ := hbody A outer s H vs Q E (hr.deeper _) hsp
  have I : Inv (cxOf CX P w K mg base N qual scope f cdv A outer s H E) [] (start N vs) H s1 := inv_start S hr.hd e0 hl r x
  refine wpAny_mono (ht [] s1 (start N vs) H _ I hq) (fun fl s' hs => ?_) fun e s' hs => hs
  have fin : ∀ {σ' : St} {H' : Hp} {v : V} {u : Value}, Inv (cxOf CX P w K mg base N qual scope f cdv A outer s H E) [] σ' H' s' → RelV v u → Q v H' → CE outer P w H s Q u s' :=
    fun {σ' H' v u} J rv q => ⟨v, H', J.os, J.bare, J.base, J.hok, rv, q⟩
  cases fl with
  | ret u =>
    obtain ⟨v, σ', H', J, rv, q⟩ := hs
    exact fin J rv q
  | next =>
    obtain ⟨σ', H', J, q⟩ := hs
    exact fin (v := V.non) (u := Value.none) J rfl q
  | brk =>
    obtain ⟨_, _, _, q⟩ := hs
    exact False.elim q
  | cont =>
    obtain ⟨_, _, _, q⟩ := hs
    exact False.elim q
end L2

namespace L2
open PySem PySem.Spec PyProof.Rows
section
variable {X : Cx} {x : Str} {p pos : Pos} {e : Expr} {es : List Expr} {t : TA} {id T : String} {r : List V → Hp → VK → Prop}

def tCB (r : List V → Hp → VK → Prop) (t : TA) : TE := fun σ H Q => t σ H fun vs H1 => r vs H1 Q
/-- f(e, ..), f a built-in function -/
theorem pe_callB (hc : CallR X (.builtin id) r) (hg : Gl X x) (hm : X.mg x = none) (hv : bootBuiltins x = some (.builtin id)) (ha : PA X (e :: es) t) (hn : x ≠ "__name__" := by decide) (hdb : (x == ("__debug__" : Str)) = false := by decide)
    (he : starEach (e :: es) X.env = (false, eval e X.env) :: starEach es X.env := by rfl) (hpl : (backTo pos (starEach es X.env)).any (·.1) = false := by rfl) : PE X (.Call (.Name x p) (e :: es) [] pos) (tCB r t) := by
  intro pins s σ H Q I h
  refine wpAny_Call_Name_kw (ld_blt I hg hm hv ?_ hn hdb)
  exact PyProof.Rows.callWith_builtin1 (thn (ha pos pins s σ H _ I h) fun us s1 ⟨vs, H1, I1, r1, q1⟩ => hc pins s1 σ H1 vs us Q I1 r1 q1) he hpl
/-- T(e, ..), T a built-in type -/
theorem pe_callTy (hc : CallR X (.type T) r) (hg : Gl X x) (hm : X.mg x = none) (hv : bootBuiltins x = some (.type T)) (ha : PA X (e :: es) t) (hn : x ≠ "__name__" := by decide) (hdb : (x == ("__debug__" : Str)) = false := by decide)
    (he : starEach (e :: es) X.env = (false, eval e X.env) :: starEach es X.env := by rfl) (hpl : (backTo pos (starEach es X.env)).any (·.1) = false := by rfl) : PE X (.Call (.Name x p) (e :: es) [] pos) (tCB r t) := by
  intro pins s σ H Q I h
  refine wpAny_Call_Name_kw (ld_blt I hg hm hv ?_ hn hdb)
  exact PyProof.Rows.callWith_type1 (thn (ha pos pins s σ H _ I h) fun us s1 ⟨vs, H1, I1, r1, q1⟩ => hc pins s1 σ H1 vs us Q I1 r1 q1) he hpl
end
end L2

namespace HT
open PySem PyProof.Rows

section
open PySem.SeqAt
open PySem.AutoSeq1 (wpAny_loadPart')
open PySem.MeetsSeq PySem.MeetsSeq2 PySem.MeetsSeq3

end

section
variable {prog : Program} {w : World} {A : Around} {E : Value → Shared → Prop} {s : Shared}

/-- a slice's bound as a place among n (d where it is left out) -/
def sIx (n d : Nat) : Option Int → Nat
  | none => d
  | some v => if v < 0 then (v + (n : Int)).toNat else min v.toNat n
end
end HT

namespace L2
open PySem PySem.Spec PyProof.Rows

abbrev TO := St → Hp → (Option Int → Hp → Prop) → Prop
def tNoPart : TO := fun _ H Q => Q none H
def tPart (t : TE) : TO := fun σ H Q => t σ H fun x H1 => ∃ i, x = .int i ∧ Q (some i) H1

theorem intsAre_of {ns : List Int} : ∀ {us : List Value}, Vals (ns.map V.int) us → IntsAre us ns := by
  induction ns with
  | nil => intro us r; rw [List.map_nil] at r; cases r; exact .nil
  | cons n ns ih =>
    intro us r
    rw [List.map_cons] at r
    cases r with
    | cons r1 r2 =>
      obtain ⟨t, e⟩ := r1
      subst e
      exact .cons n t (ih r2)

section
variable {X : Cx} {e : Expr} {te : TE} {lo hi : Option Expr} {tl th : TO} {pos p2 : Pos}

def tSl (r : V → Option Int → Option Int → Hp → VK → Prop) (te : TE) (tl th : TO) : TE := fun σ H Q => te σ H fun x H1 => tl σ H1 fun l H2 => th σ H2 fun u H3 => r x l u H3 Q
/-- the items of xs[lo:hi] -/
def cutV (xs : List V) (lo hi : Option Int) : List V := (xs.drop (HT.sIx xs.length 0 lo)).take (HT.sIx xs.length xs.length hi - HT.sIx xs.length 0 lo)
end
end L2

namespace L2
open PySem PySem.Spec PyProof.Rows

/-- the place that an index of any sign means -/
def ixN (n : Nat) (i : Int) : Option Nat := if 0 ≤ i then (if i < n then some i.toNat else none) else if -(n : Int) ≤ i then some (i + n).toNat else none
def atI {α : Type} (xs : List α) (i : Int) : Option α := (ixN xs.length i).bind fun j => xs[j]?
theorem ixN_seq {n : Nat} {i : Int} {j : Nat} (h : ixN n i = some j) : seqIndex? i n = some j ∧ j < n ∧ -(n : Int) ≤ i ∧ i < n := by
  unfold ixN at h
  by_cases h0 : 0 ≤ i
  · rw [if_pos h0] at h
    by_cases h1 : i < n
    · rw [if_pos h1] at h
      have e : i.toNat = j := Option.some.inj h
      exact ⟨by rw [seqIndex_of h0 h1, e], by omega, by omega, h1⟩
    · rw [if_neg h1] at h; cases h
  · rw [if_neg h0] at h
    by_cases h1 : -(n : Int) ≤ i
    · rw [if_pos h1] at h
      have e : (i + n).toNat = j := Option.some.inj h
      exact ⟨by rw [seqIndex_neg (by omega) h1, e], by omega, h1, by omega⟩
    · rw [if_neg h1] at h; cases h
theorem atI_get {α : Type} {xs : List α} {i : Int} {v : α} (h : atI xs i = some v) : ∃ j, seqIndex? i xs.length = some j ∧ xs[j]? = some v ∧ j < xs.length ∧ -(xs.length : Int) ≤ i ∧ i < xs.length := by
  unfold atI at h
  cases e : ixN xs.length i with
  | none => rw [e] at h; cases h
  | some j =>
    rw [e] at h
    obtain ⟨h1, h2, h3, h4⟩ := ixN_seq e
    exact ⟨j, h1, h, h2, h3, h4⟩
theorem atI_nat {α : Type} {xs : List α} {j : Nat} {v : α} (h : xs[j]? = some v) : atI xs (j : Int) = some v := by
  have hj : j < xs.length := (List.getElem?_eq_some_iff.mp h).1
  have e : ixN xs.length (j : Int) = some j := by
    unfold ixN
    rw [if_pos (by omega), if_pos (by omega)]; simp
  unfold atI; rw [e]; exact h
/-- what stands as an index of a plain subscript -/
def PlainIx (b : Expr) : Prop := ∀ o i, subscripted b false o i = operate [o, i] (getItem o i)
/-- a subscript by values -/
def IxR (X : Cx) (r : R2) : Prop :=
  ∀ (value slice : Expr) (pins : List (Addr × Obj)) (s : Shared) (σ : St) (H : Hp) (x y : V) (v u : Value) (Q : VK), Inv X pins σ H s → RelV x v → RelV y u → r x y H Q →
    subscripted slice false v u = operate [v, u] (getItem v u) → wpAny (model X.prog X.w) X.A (subscriptTail value slice v u) (EP X pins σ Q) X.xe s
/-- a call of a builtin's method by values: the receiver, the arguments -/
def MtR (X : Cx) (id : String) (r : V → List V → Hp → VK → Prop) : Prop :=
  ∀ (pins : List (Addr × Obj)) (s : Shared) (σ : St) (H : Hp) (x : V) (xs : List V) (v : Value) (us : List Value) (Q : VK), Inv X pins σ H s → RelV x v → Vals xs us → r x xs H Q →
    wpAny (model X.prog X.w) X.A (call (.builtin id) (v :: us)) (EP X pins σ Q) X.xe s
section
variable {X : Cx} {a b : Expr} {ta tb : TE} {pos : Pos}
/-- a[b] -/
theorem pe_ix {r : R2} (hr : IxR X r) (ha : PE X a ta) (hb : PE X b tb) (hs : PlainIx b) : PE X (.Subscript a b pos) (tOp r ta tb) := by
  intro pins s σ H Q I h
  exact Subscript_ (binT ha hb I h fun v u s2 x y H2 I2 rx ry q => hr a b pins s2 σ H2 x y v u Q I2 rx ry q (hs _ _))

def rIxL (K : PySem.W.Frag) : R2 := fun x y H Q => ∃ p xs i v, x = .ref p ∧ y = .int i ∧ SqL K H p xs ∧ atI xs i = some v ∧ Q v H
def rIxT (K : PySem.W.Frag) : R2 := fun x y H Q => ∃ p xs i v, x = .ref p ∧ y = .int i ∧ SqT K H p xs ∧ atI xs i = some v ∧ Q v H
theorem ix_list : IxR X (rIxL X.K) := by
  intro value slice pins s σ H x y v u Q I rx ry h hs
  obtain ⟨p, xs, i, z, rfl, rfl, hq, he, q⟩ := h
  cases rx
  obtain ⟨t, rfl⟩ := ry
  obtain ⟨its, r, pl, hz⟩ := I.list hq
  obtain ⟨j, h1, h2, h3, h4, h5⟩ := atI_get he
  obtain ⟨w, ew, rw'⟩ := r.get h2
  have hl := r.length
  have hn := line63
  have fin : EP X pins σ Q w s := ⟨z, H, I, rw', q⟩
  by_cases h0 : 0 ≤ i
  · have hj : i.toNat = j := by
      rw [seqIndex_of h0 h5] at h1
      exact Option.some.inj h1
    exact item_listR pl.isList h0 (by omega) (by rw [hj]; simpa using ew) fin hs
  · have hj : (i + (its.toArray.size : Int)).toNat = j := by
      rw [seqIndex_neg (by omega) h4] at h1
      rw [List.size_toArray, ← hl]
      exact Option.some.inj h1
    exact subscriptTail_builtinR (x := w) pl.isList.typeIs slot_list_getitem.lookup
      (wpAny_getItem_list_neg (Q := fun r s' => r = w ∧ EP X pins σ Q r s') pl.isList (by omega) (by rw [List.size_toArray] <;> omega) (by omega) (by rw [hj]; simpa using ew) ⟨rfl, fin⟩) hs
theorem ix_tup : IxR X (rIxT X.K) := by
  intro value slice pins s σ H x y v u Q I rx ry h hs
  obtain ⟨p, xs, i, z, rfl, rfl, hq, he, q⟩ := h
  cases rx
  obtain ⟨t, rfl⟩ := ry
  obtain ⟨its, r, pl, hz⟩ := I.tuple hq
  obtain ⟨j, h1, h2, h3, h4, h5⟩ := atI_get he
  obtain ⟨w, ew, rw'⟩ := r.get h2
  have hl := r.length
  have hn := line63
  have fin : EP X pins σ Q w s := ⟨z, H, I, rw', q⟩
  exact subscriptTail_builtinR (x := w) pl.typeIs slot_tuple_getitem.lookup
    (getItem_tuple (j := j) (Q := fun r s' => r = w ∧ EP X pins σ Q r s') pl (by omega) (by omega) (by rw [List.size_toArray, ← hl]; exact h1) (by simpa using ew) ⟨rfl, fin⟩) hs
def rSetL : V → V → V → Hp → (Hp → Prop) → Prop := fun o i v H Q => ∃ p xs k j, o = .ref p ∧ i = .int k ∧ H p = some (.lst xs) ∧ ixN xs.length k = some j ∧ Q (upd H p (.lst (xs.set j v)))
/-- xs[lo:hi] of a list: a new list -/
def rSlL (K : PySem.W.Frag) : V → Option Int → Option Int → Hp → VK → Prop := fun x lo hi H Q => ∃ a xs, x = .ref a ∧ SqL K H a xs ∧ ∀ p, H p = none → Q (.ref p) (upd H p (.lst (cutV xs lo hi)))
def flatV : V → Bool
  | .non => true
  | .bl _ => true
  | .int _ => true
  | .str _ => true
  | _ => false
/-- == of flat values -/
def eqV : V → V → Bool
  | .non, .non => true
  | .bl a, .bl b => a == b
  | .bl a, .int b => (if a then 1 else 0) == b
  | .int a, .bl b => a == (if b then 1 else 0)
  | .int a, .int b => a == b
  | .str a, .str b => a == b
  | _, _ => false
def inV (x : V) (xs : List V) : Bool := xs.any fun y => eqV y x
/-- x in a list or tuple of flat items -/
def rIn (K : PySem.W.Frag) (neg : Bool) : R2 := fun x y H Q => ∃ p xs, y = .ref p ∧ (SqL K H p xs ∨ SqT K H p xs) ∧ flatV x = true ∧ xs.all flatV = true ∧ Q (.bl (if neg then !inV x xs else inV x xs)) H
theorem call_len_seq : CallR X (.builtin "len") (fun xs H Q => ∃ p ys, xs = [.ref p] ∧ (SqL X.K H p ys ∨ SqT X.K H p ys) ∧ Q (.int ys.length) H) := by
  intro pins s σ H xs us Q I r h
  obtain ⟨p, ys, rfl, hq, q⟩ := h
  obtain ⟨u, rfl, rx⟩ := vals1 r
  cases rx
  have hn := line63
  rcases hq with hq | hq
  · obtain ⟨its, r', pl, hz⟩ := I.list hq
    have hlen := r'.length
    exact Calls.call_len_list pl.isList (by simp only [List.size_toArray] <;> omega) ⟨.int ys.length, H, I.tok _, ⟨s.toks + 1, by rw [List.size_toArray, hlen]⟩, q⟩
  · obtain ⟨its, r', pl, hz⟩ := I.tuple hq
    have hlen := r'.length
    exact len_tuple pl (by simp only [List.size_toArray] <;> omega) ⟨.int ys.length, H, I.tok _, ⟨s.toks + 1, by rw [List.size_toArray, hlen]⟩, q⟩
theorem call_tuple_of : CallR X (.type "tuple") (fun xs H Q => ∃ p ys, xs = [.ref p] ∧ ((SqL X.K H p ys ∧ ∀ l, H l = none → Q (.ref l) (upd H l (.tup ys))) ∨ (SqT X.K H p ys ∧ Q (.ref p) H))) := by
  intro pins s σ H xs us Q I r h
  obtain ⟨p, ys, rfl, h⟩ := h
  obtain ⟨u, rfl, rx⟩ := vals1 r
  cases rx
  rcases h with ⟨hq, q⟩ | ⟨hq, q⟩
  · obtain ⟨its, r', pl, hz⟩ := I.list hq
    have hlen := r'.length
    refine call_tuple_list pl.isList (fun h' kp => ?_) (by simp only [List.size_toArray] <;> omega)
    have I1 : Inv X pins σ H { s with heap := h' } := I.kept (t' := s.toks) kp
    have I2 : Inv X pins σ (upd H h'.objs.size (.tup ys)) { s with heap := h'.push { cls := .type "tuple", data := .seq its.toArray } } :=
      I1.laid (t' := s.toks) (fun b o e => Heap.get?_push_of_some _ e) (Nat.le_refl _) (show ObjOk X.prog X.w _ _ _ (.tup ys) from ⟨hz, its, r', IsTup.new _ _⟩)
    exact ⟨.ref h'.objs.size, _, I2, rfl, q _ (I1.hok.fresh (Nat.le_refl _))⟩
  · obtain ⟨its, r', pl, hz⟩ := I.tuple hq
    exact call_tuple_same pl ⟨.ref p, H, I, rfl, q⟩

/-- the value is of that builtin type -/
def tyV (K : PySem.W.Frag) (T : String) (x : V) (H : Hp) : Prop := match x with
  | .str _ => T = "str"
  | .int _ => T = "int"
  | .ref p => (T = "list" ∧ ∃ xs, SqL K H p xs) ∨ (T = "tuple" ∧ ∃ o, K.lookup p = some o ∧ o.cls = .type "tuple" ∧ o.dict = none) ∨
      (T = "dict" ∧ ((∃ kvs, H p = some (.dK kvs)) ∨ ∃ kvs, H p = some (.dT kvs))) ∨ (T = "set" ∧ ∃ S n, H p = some (.set S n))
  | _ => False
theorem tyV_is {pins : List (Addr × Obj)} {σ : St} {H : Hp} {s : Shared} {T : String} {x : V} {v : Value} (I : Inv X pins σ H s) (r : RelV x v) (ty : tyV X.K T x H) :
    s.TypeIs v T ∧ ∀ a, v = .ref a → ∃ ob, s.heap.get? a = some ob ∧ ob.dict = none := by
  cases x with
  | str z =>
    obtain ⟨t, rfl⟩ := r
    cases (show T = "str" from ty)
    exact ⟨typeIs_str s z t, fun _ e => nomatch e⟩
  | int i =>
    obtain ⟨t, rfl⟩ := r
    cases (show T = "int" from ty)
    exact ⟨typeIs_int s i t, fun _ e => nomatch e⟩
  | ref p =>
    cases r
    rcases ty with ⟨rfl, xs, hq⟩ | ⟨rfl, o, hk, hc, hd⟩ | ⟨rfl, hk⟩ | ⟨rfl, S, n, hk⟩
    · obtain ⟨its, _, pl, _⟩ := I.list hq
      refine ⟨pl.isList.typeIs, fun a e => ?_⟩
      cases e
      obtain ⟨o, n, e, c, hd, _⟩ := pl
      exact ⟨o, e, hd⟩
    · refine ⟨⟨o, I.kIn p o hk, hc⟩, fun a e => ?_⟩
      cases e
      exact ⟨o, I.kIn _ o hk, hd⟩
    · have z : ∃ o, s.heap.get? p = some o ∧ o.ExactDict := by
        rcases hk with ⟨kvs, hk⟩ | ⟨kvs, hk⟩
        · obtain ⟨_, _, _, _, o, _, _, e, ex, _⟩ := I.hok p _ hk
          exact ⟨o, e, ex⟩
        · obtain ⟨_, _, _, _, o, _, _, e, ex, _⟩ := I.hok p _ hk
          exact ⟨o, e, ex⟩
      obtain ⟨o, e, ex⟩ := z
      refine ⟨⟨o, e, ex.1⟩, fun a e2 => ?_⟩
      cases e2
      exact ⟨o, e, ex.2.1⟩
    · obtain ⟨o, _, _, _, e, ex, _⟩ := I.hok p _ hk
      refine ⟨⟨o, e, ex.1⟩, fun a e2 => ?_⟩
      cases e2
      exact ⟨o, e, ex.2.1⟩
  | _ => exact False.elim ty
def tBM0 (K : PySem.W.Frag) (T : String) (r : V → List V → Hp → VK → Prop) (to : TE) : TE := fun σ H Q => to σ H fun x H1 => tyV K T x H1 ∧ r x [] H1 Q
def tBM (K : PySem.W.Frag) (T : String) (r : V → List V → Hp → VK → Prop) (to : TE) (t : TA) : TE := fun σ H Q => to σ H fun x H1 => tyV K T x H1 ∧ t σ H1 fun xs H2 => r x xs H2 Q
variable {o e : Expr} {es : List Expr} {to : TE} {t : TA} {name : Str} {apos cpos : Pos} {T id : String} {r : V → List V → Hp → VK → Prop}
theorem pe_bm (pa : PlainAttrs T) (slot : Slot T name id) (hty : typeOf (.builtin id) = pure (.type "method_descriptor")) (hm : MtR X id r) (ho : PE X o to) (ha : PA X (e :: es) t)
    (hbase : attributeBase o name X.env (eval o X.env) = eval o X.env := by rfl)
    (hfew : ((backTo cpos (starEach (e :: es) X.env)).all (fun x => !x.1) && (backToKw cpos (keywordEach [] X.env)).all (fun x => x.1.isSome)
      && decide ((e :: es).length + ([] : List Keyword).length + (if ([] : List Keyword).isEmpty then 0 else 1) < 30)) = true := by rfl)
    (hline : (apos.endLine == cpos.line) = true := by rfl) (hs : starEach (e :: es) X.env = (false, eval e X.env) :: starEach es X.env := by rfl) (hplain : (backTo cpos (starEach es X.env)).any (·.1) = false := by rfl) :
    PE X (.Call (.Attribute o name apos) (e :: es) [] cpos) (tBM X.K T r to t) := by
  intro pins s σ H Q I h
  refine wpAny_Call_method_late hbase hfew hline rfl (thn (ho pins s σ H _ I h) fun v s1 ⟨x, H1, I1, r1, ty, q1⟩ => ?_)
  obtain ⟨h1, h2⟩ := tyV_is I1 r1 ty
  refine ⟨T, id, pa, slot, hty, h1, h2, ?_⟩
  have hA := ha cpos pins s1 σ H1 _ I1 q1
  rw [hs] at hA ⊢
  refine Calls.callWith_builtin (by show (false || (backTo cpos (starEach es X.env)).any (·.1)) = false; rw [hplain] <;> rfl) (Calls.evalArgs_plain ?_)
  exact thn hA fun us s2 ⟨vs, H2, I2, r2, q2⟩ => hm pins s2 σ H2 x vs v us Q I2 r1 r2 q2
/- xs.append(e), list.index on a module's tuple .. are MtR facts of 06m -/
end
end L2

namespace L2
open PySem PySem.Spec PyProof.Rows

def MtM (X : Cx) (id : String) (r : V → List V → Hp → VK → Prop) : Prop :=
  ∀ (pins : List (Addr × Obj)) (s : Shared) (σ : St) (H : Hp) (x : V) (xs : List V) (v : Value) (us : List Value) (Q : VK), Inv X pins σ H s → RelV x v → Vals xs us → r x xs H Q →
    wpAny (model X.prog X.w) X.A (call (.builtin id) (v :: us)) (EP X pins σ Q) X.xe s

theorem Vals.one : ∀ {x : V} {us : List Value}, Vals [x] us → ∃ u, us = [u] ∧ RelV x u
  | _, _, .cons r .nil => ⟨_, rfl, r⟩
theorem Vals.rep {xs : List V} {us : List Value} (h : Vals xs us) : ∀ k : Nat, Vals (List.replicate k xs).flatten (List.replicate k us).flatten
  | 0 => .nil
  | k + 1 => by
    rw [List.replicate_succ, List.replicate_succ, List.flatten_cons, List.flatten_cons]
    exact Vals.append h (Vals.rep h k)
theorem foldl_rep (its : List Value) : ∀ (k : Nat) (acc : List Value),
    List.foldl (fun x1 x2 => x1 ++ x2) acc.toArray (List.replicate k its.toArray) = (acc ++ (List.replicate k its).flatten).toArray
  | 0, acc => by simp
  | k + 1, acc => by
    have e : acc.toArray ++ its.toArray = (acc ++ its).toArray := by simp
    have e2 : (acc ++ its) ++ (List.replicate k its).flatten = acc ++ (List.replicate (k + 1) its).flatten := by
      rw [List.replicate_succ, List.flatten_cons, List.append_assoc]
    rw [← e2, ← foldl_rep its k (acc ++ its), ← e, List.replicate_succ, List.foldl_cons]

section
variable {X : Cx} {pins : List (Addr × Obj)} {σ : St} {H : Hp} {s : Shared} {l b : Addr} {xs ys zs : List V}

theorem Inv.lset {its its' : List Value} {n : Nat} {f : Array Value → Array Value} {t' : Nat} (I : Inv X pins σ H s) (hH : H l = some (.lst xs))
    (e : s.heap.get? l = some { cls := .type "list", data := .seq its.toArray n }) (hf : f its.toArray = its'.toArray) (hv : Vals ys its') (hz : ys.length ≤ sizeLine) :
    Inv X pins σ (upd H l (.lst ys)) { s with heap := s.heap.update l (Obj.mapSeq f), toks := t' } := by
  have q := PySem.IsL.update e f
  rw [hf] at q
  refine I.write (x := l) (e := l) (by rw [hH]; exact trivial) (.inl rfl) (fun b' u hb hu => (Heap.get?_update_other s.heap (Obj.mapSeq f) (Ne.symm hb)).trans hu) ⟨_, q⟩ ?_
  exact ⟨hz, its', _, hv, q⟩
theorem Inv.lnew {its : List Value} {t' : Nat} (I : Inv X pins σ H s) (hv : Vals ys its) (hz : ys.length ≤ sizeLine) :
    Inv X pins σ (upd H s.heap.objs.size (.lst ys)) { s with heap := s.heap.push { cls := .type "list", data := .seq its.toArray }, toks := t' } :=
  I.laid (fun _ _ q => Heap.get?_push_of_some _ q) (Nat.le_refl _) ⟨hz, its, 0, hv, Heap.get?_push_size _ rfl⟩
theorem Inv.fresh (I : Inv X pins σ H s) : H s.heap.objs.size = none := I.hok.fresh (Nat.le_refl _)
theorem Inv.lstM (I : Inv X pins σ H s) (hH : H l = some (.lst xs)) : xs.length ≤ sizeLine ∧ ∃ (its : List Value) (n : Nat), Vals xs its ∧ xs.length = its.length ∧ s.heap.get? l = some { cls := .type "list", data := .seq its.toArray n } := by
  obtain ⟨z, its, n, r, e⟩ := I.hok l _ hH
  exact ⟨z, its, n, r, r.length, e⟩

theorem notLongL {n : Nat} (h : n ≤ sizeLine) : Builtin.List.listTooLong n = false := by
  unfold Builtin.List.listTooLong
  exact decide_eq_false (by omega)
end

section
variable {X : Cx}

def rAppend : V → List V → Hp → VK → Prop := fun x vs H Q => ∃ l xs y, x = .ref l ∧ vs = [y] ∧ H l = some (.lst xs) ∧ xs.length < sizeLine ∧ Q .non (upd H l (.lst (xs ++ [y])))
theorem mt_append : MtM X "list.append" rAppend := by
  intro pins s σ H x vs v us Q I rx rv h
  obtain ⟨l, xs, y, rfl, rfl, hH, hz, q⟩ := h
  cases rx
  obtain ⟨u, rfl, ru⟩ := rv.one
  obtain ⟨z, its, n, r, hl, e⟩ := I.lstM hH
  refine call_meets F.slot_list_append ⟨_, e, rfl⟩ F.entry_list_append (F.args_list_append_2 _ _) (PySem.list_append l its.toArray n u (by rw [List.size_toArray]; omega)) ⟨e, ?_⟩
  refine ⟨.non, _, I.lset (its' := its ++ [u]) hH e (by simp) (r.append (.cons ru .nil)) ?_, rfl, q⟩
  rw [List.length_append, List.length_singleton]
  omega

def rExtend : V → List V → Hp → VK → Prop := fun x vs H Q => ∃ l b xs zs, x = .ref l ∧ vs = [.ref b] ∧ H l = some (.lst xs) ∧ H b = some (.lst zs) ∧ xs.length + zs.length ≤ sizeLine ∧ Q .non (upd H l (.lst (xs ++ zs)))
def rClear : V → List V → Hp → VK → Prop := fun x vs H Q => ∃ l xs, x = .ref l ∧ vs = [] ∧ H l = some (.lst xs) ∧ Q .non (upd H l (.lst []))
def rCat : R2 := fun x y H Q => ∃ l b xs zs, x = .ref l ∧ y = .ref b ∧ H l = some (.lst xs) ∧ H b = some (.lst zs) ∧ xs.length + zs.length ≤ sizeLine ∧ ∀ p, H p = none → Q (.ref p) (upd H p (.lst (xs ++ zs)))
theorem op_cat : OpR X (binaryOp .Add) rCat := by
  intro pins s σ H x y v u Q I rx ry h
  obtain ⟨l, b, xs, zs, rfl, rfl, hH, hB, hz, q⟩ := h
  cases rx
  cases ry
  obtain ⟨z, its, n, r, hl, e⟩ := I.lstM hH
  obtain ⟨z2, its2, n2, r2, hl2, e2⟩ := I.lstM hB
  refine PySem.P.add_list e e2 ?_ (by rw [List.size_toArray, List.size_toArray]; omega)
  have ea : its.toArray ++ its2.toArray = (its ++ its2).toArray := by simp
  rw [ea]
  exact ⟨.ref _, _, I.lnew (t' := s.toks) (r.append r2) (by rw [List.length_append]; omega), rfl, q _ I.fresh⟩
/-- a list times an int (a negative one is nothing) -/
def rRep : R2 := fun x y H Q => ∃ l k xs, x = .ref l ∧ y = .int k ∧ H l = some (.lst xs) ∧ -(2 ^ 63) ≤ k ∧ k < 2 ^ 63 ∧ xs.length * k.toNat ≤ sizeLine ∧
  ∀ p, H p = none → Q (.ref p) (upd H p (.lst (List.replicate k.toNat xs).flatten))
theorem len_rep {α : Type} (xs : List α) (k : Nat) : (List.replicate k xs).flatten.length = k * xs.length := by
  induction k with
  | zero => simp
  | succ k ih => rw [List.replicate_succ, List.flatten_cons, List.length_append, ih, Nat.succ_mul, Nat.add_comm]
theorem op_rep : OpR X (binaryOp .Mult) rRep := by
  intro pins s σ H x y v u Q I rx ry h
  obtain ⟨l, k, xs, rfl, rfl, hH, h1, h2, hz, q⟩ := h
  cases rx
  obtain ⟨t, rfl⟩ := ry
  obtain ⟨z, its, n, r, hl, e⟩ := I.lstM hH
  have hlen : its.toArray.size * k.toNat ≤ sizeLine := by rw [List.size_toArray, ← hl]; exact hz
  have hcap : ¬ its.toArray.size * k.toNat > (2 ^ 63 - 1) / 8 := by
    have : (sizeLine : Nat) ≤ (2 ^ 63 - 1) / 8 := by decide
    omega
  have hfit : ¬ (!Builtin.List.listFitsIndex k) = true := by
    rw [fitsIndex_both h1 h2]
    exact Bool.false_ne_true
  have hlong : ¬ Builtin.List.listTooLong (its.toArray.size * k.toNat) = true := by
    rw [notLongL hlen]
    exact Bool.false_ne_true
  have hnew : List.foldl (fun x1 x2 => x1 ++ x2) #[] (List.replicate (if its.toArray.isEmpty = true then 0 else k.toNat) its.toArray) = (List.replicate k.toNat its).flatten.toArray := by
    have f0 : ∀ m : Nat, List.foldl (fun x1 x2 => x1 ++ x2) #[] (List.replicate m its.toArray) = (List.replicate m its).flatten.toArray := fun m => by
      have := foldl_rep its m []
      rw [List.nil_append] at this
      exact this
    rw [f0]
    cases its with
    | nil => simp
    | cons a r' => rw [if_neg (by simp)]
  refine wpAny_binaryOp_repeat_ref (T := "list") (U := "int") (by decide) ⟨_, e, rfl⟩ (fun s' => typeIs_int s' k t) noFill_list_mul F.fills_int_mul F.slot_int_rmul repeat_list F.slot_int_index.lookup
    (call_meets F.slot_int_rmul (typeIs_int s k t) F.entry_int_rmul (F.args_int_rmul_2 _ _) (int___rmul___int_list k t l its.toArray n)
      ⟨e, rfl, ⟨_, e, rfl⟩, call_meets F.slot_list_mul ⟨_, e, rfl⟩ F.entry_list_mul (F.args_list_mul_2 _ _) (AutoListH.list___mul___list_int_3 l its.toArray n k t hfit hcap hlong) ⟨e, ?_⟩⟩)
  rw [hnew]
  exact ⟨.ref _, _, I.lnew (t' := s.toks) (r.rep k.toNat) (by rw [len_rep, Nat.mul_comm]; exact hz), rfl, q _ I.fresh⟩

end

section
variable {prog : Program} {w : World} {A : Around} {E : Value → Shared → Prop} {s : Shared}
set_option maxRecDepth 100000 in
end

section
variable {X : Cx}
end
end L2

namespace L2
open PySem PySem.Spec PyProof.Rows

section
variable {κ : Type} [DecidableEq κ]
def valV (kvs : List (κ × V)) (k : κ) : Option V := (kvs.find? fun kv => decide (kv.1 = k)).map (·.2)
/-- in its place, or at the end -/
def putK (kvs : List (κ × V)) (k : κ) (v : V) : List (κ × V) :=
  if (kvs.any fun kv => decide (kv.1 = k)) = true then kvs.map (fun kv => if kv.1 = k then (kv.1, v) else kv) else kvs ++ [(k, v)]
def dropK (kvs : List (κ × V)) (k : κ) : List (κ × V) := kvs.filter fun kv => decide (kv.1 ≠ k)

theorem valV_pos {p : κ × V} {r : List (κ × V)} {k : κ} (e : p.1 = k) : valV (p :: r) k = some p.2 := by simp [valV, List.find?_cons, e]
theorem valV_neg {p : κ × V} {r : List (κ × V)} {k : κ} (e : ¬ p.1 = k) : valV (p :: r) k = valV r k := by simp [valV, List.find?_cons, e]
theorem valV_any (k : κ) : ∀ kvs : List (κ × V), (kvs.any fun kv => decide (kv.1 = k)) = (valV kvs k).isSome
  | [] => rfl
  | p :: r => by
    rw [List.any_cons]
    by_cases e : p.1 = k
    · simp only [valV_pos e, decide_eq_true e, Bool.true_or, Option.isSome_some]
    · rw [valV_neg e, decide_eq_false e, Bool.false_or]; exact valV_any k r
theorem length_putK (kvs : List (κ × V)) (k : κ) (v : V) : (putK kvs k v).length ≤ kvs.length + 1 := by
  unfold putK
  split
  · rw [List.length_map]; omega
  · rw [List.length_append, List.length_cons, List.length_nil]; omega
theorem putK_new {kvs : List (κ × V)} {k : κ} (v : V) (h : valV kvs k = none) : putK kvs k v = kvs ++ [(k, v)] := by
  unfold putK
  rw [valV_any, h]
  exact if_neg (by decide)

theorem RelO.isSome_eq {o : Option V} {u : Option Value} (r : RelO o u) : o.isSome = u.isSome := by
  cases o with
  | none => cases u with
    | none => rfl
    | some _ => exact (show False from r).elim
  | some _ => cases u with
    | none => exact (show False from r).elim
    | some _ => rfl
/-- raw tables of the same keys -/
theorem KV.val {kvs : List (κ × V)} {vs : List (κ × Value)} (r : KV kvs vs) (k : κ) : RelO (valV kvs k) (valueAt vs k) := by
  unfold KV at r
  induction r with
  | nil => exact True.intro
  | @cons p q ps qs h t ih =>
    obtain ⟨h1, h2⟩ := h
    by_cases e : p.1 = k
    · have e' : q.1 = k := h1.symm.trans e
      have b : valueAt (q :: qs) k = some q.2 := by simp [valueAt, List.find?_cons, e']
      rw [valV_pos e, b]; exact h2
    · have e' : ¬ q.1 = k := fun z => e (h1.trans z)
      have b : valueAt (q :: qs) k = valueAt qs k := by simp [valueAt, List.find?_cons, e']
      rw [valV_neg e, b]; exact ih
theorem KV.any {kvs : List (κ × V)} {vs : List (κ × Value)} (r : KV kvs vs) (k : κ) : (kvs.any fun kv => decide (kv.1 = k)) = vs.any fun kv => decide (kv.1 = k) := by
  unfold KV at r
  induction r with
  | nil => rfl
  | cons h t ih => rw [List.any_cons, List.any_cons, ih, h.1]
theorem KV.repl {kvs : List (κ × V)} {vs : List (κ × Value)} (r : KV kvs vs) (k : κ) {y : V} {u : Value} (ry : RelV y u) :
    KV (kvs.map fun kv => if kv.1 = k then (kv.1, y) else kv) (vs.map fun kv => if kv.1 = k then (kv.1, u) else kv) := by
  unfold KV at r ⊢
  induction r with
  | nil => exact .nil
  | @cons p q ps qs h t ih =>
    rw [List.map_cons, List.map_cons]
    refine .cons ?_ ih
    obtain ⟨h1, h2⟩ := h
    by_cases e : p.1 = k
    · rw [if_pos e, if_pos (h1.symm.trans e)]; exact ⟨h1, ry⟩
    · rw [if_neg e, if_neg (fun z => e (h1.trans z))]; exact ⟨h1, h2⟩
theorem KV.put {kvs : List (κ × V)} {vs : List (κ × Value)} (r : KV kvs vs) (k : κ) {y : V} {u : Value} (ry : RelV y u) : KV (putK kvs k y) (stored vs k u) := by
  unfold putK stored
  rw [r.any k]
  by_cases e : (vs.any fun kv => decide (kv.1 = k)) = true
  · rw [if_pos e, if_pos e]; exact r.repl k ry
  · rw [if_neg e, if_neg e]; exact Paired.snoc r ⟨rfl, ry⟩
theorem KV.length {kvs : List (κ × V)} {vs : List (κ × Value)} (r : KV kvs vs) : kvs.length = vs.length := Paired.length r
end


theorem kV_is {P : Program} {w : World} {k : Key} {u : Value} (r : RelV (kV k) u) : (mixKind P w).is k u = true := by
  cases k with
  | inl i => obtain ⟨t, e⟩ := (show ∃ t, u = Value.int i t from r); subst e; exact mixKind_int P w i t
  | inr x => obtain ⟨t, e⟩ := (show ∃ t, u = Value.str x t from r); subst e; exact mixKind_str P w x t
theorem items_are {P : Program} {w : World} : ∀ {ks : List Key} {us : List Value}, Vals (ks.map kV) us → ItemsAre (mixKind P w) ks us
  | [], _, r => by rw [List.map_nil] at r; cases r; exact .nil
  | k :: ks, _, r => by
    rw [List.map_cons] at r
    cases r with
    | cons h t => exact .cons (kV_is h) (items_are t)

/-- raw entries of a dict with tuple keys -/
abbrev KT (H : Hp) : List (List Key × V) → List (List Key × Addr × Value) → Prop := Paired fun p q => p.1 = q.1 ∧ H q.2.1 = some (.tup (p.1.map kV)) ∧ RelV p.2 q.2.2
theorem KT.val {H : Hp} {kvs : List (List Key × V)} {xs : List (List Key × Addr × Value)} (r : KT H kvs xs) (k : List Key) : RelO (valV kvs k) ((atKey xs k).map (·.2)) := by
  induction r with
  | nil => exact True.intro
  | @cons p q ps qs h t ih =>
    obtain ⟨h1, _, h2⟩ := h
    by_cases e : p.1 = k
    · have e' : q.1 = k := h1.symm.trans e
      have b : atKey (q :: qs) k = some q.2 := by simp [atKey, List.find?_cons, e']
      rw [valV_pos e, b]; exact h2
    · have e' : ¬ q.1 = k := fun z => e (h1.trans z)
      have b : atKey (q :: qs) k = atKey qs k := by simp [atKey, List.find?_cons, e']
      rw [valV_neg e, b]; exact ih
theorem KT.repl {H : Hp} {kvs : List (List Key × V)} {xs : List (List Key × Addr × Value)} (r : KT H kvs xs) (k : List Key) {y : V} {u : Value} (ry : RelV y u) :
    KT H (kvs.map fun kv => if kv.1 = k then (kv.1, y) else kv) (xs.map (putAt k u)) := by
  induction r with
  | nil => exact .nil
  | @cons p q ps qs h t ih =>
    rw [List.map_cons, List.map_cons]
    refine .cons ?_ ih
    obtain ⟨h1, h2, h3⟩ := h
    unfold putAt
    by_cases e : p.1 = k
    · rw [if_pos e, if_pos (h1.symm.trans e)]; exact ⟨h1, h2, ry⟩
    · rw [if_neg e, if_neg (fun z => e (h1.trans z))]; exact ⟨h1, h2, h3⟩
theorem KT.put {H : Hp} {kvs : List (List Key × V)} {xs : List (List Key × Addr × Value)} (r : KT H kvs xs) (k : List Key) {b : Addr} {y : V} {u : Value} (hb : H b = some (.tup (k.map kV))) (ry : RelV y u) :
    KT H (putK kvs k y) (storedH xs k b u) := by
  have e : (kvs.any fun kv => decide (kv.1 = k)) = (atKey xs k).isSome := by
    rw [valV_any, (r.val k).isSome_eq, Option.isSome_map]
  unfold putK storedH
  rw [e]
  by_cases q : (atKey xs k).isSome = true
  · rw [if_pos q, if_pos q]; exact r.repl k ry
  · rw [if_neg q, if_neg q]; exact Paired.snoc r ⟨rfl, hb, ry⟩
theorem KT.keeps {H H' : Hp} {kvs : List (List Key × V)} {xs : List (List Key × Addr × Value)} (r : KT H kvs xs) (ht : ∀ b ys, H b = some (.tup ys) → H' b = some (.tup ys)) : KT H' kvs xs :=
  Paired.mapP r fun _ _ z => ⟨z.1, ht _ _ z.2.1, z.2.2⟩

section
variable {P : Program} {w : World} {H : Hp} {h : Heap} {a : Addr}
theorem rd_of {u : HO} (ok : HOk P w H h) (e : Rd H a u) : ObjOk P w H h a u := e.ok ok
theorem dk_rd {kvs : List (Key × V)} (ok : HOk P w H h) (e : Rd H a (.dK kvs)) : kvs.length ≤ sizeLine ∧ (a == sysModules) = false ∧ ∃ vs, KV kvs vs ∧ h.DictOf (mixKind P w) a vs :=
  show ObjOk P w H h a (.dK kvs) from rd_of ok e
theorem dk_of {kvs : List (Key × V)} (ok : HOk P w H h) (e : H a = some (.dK kvs)) : kvs.length ≤ sizeLine ∧ (a == sysModules) = false ∧ ∃ vs, KV kvs vs ∧ h.DictOf (mixKind P w) a vs := dk_rd ok (.inl e)
/-- a tracked tuple of ints and texts is a key -/
theorem key_of {ks : List Key} (ok : HOk P w H h) (e : H a = some (.tup (ks.map kV))) : (tupleKind (mixKind P w)).is h ks a := by
  obtain ⟨_, its, r, o, h1, h2, n, h3⟩ := (show ObjOk P w H h a (.tup (ks.map kV)) from ok a _ e)
  exact ⟨o, its.toArray, n, h1, h2, h3, by simpa using items_are r⟩
theorem dt_rd {kvs : List (List Key × V)} (ok : HOk P w H h) (e : Rd H a (.dT kvs)) : kvs.length ≤ sizeLine ∧ (a == sysModules) = false ∧
    ∃ xs, KT H kvs xs ∧ h.DictOfH (tupleKind (mixKind P w)) a xs := by
  obtain ⟨z, y, xs, r, o, es, ep, h1, h2, h3, h4, h5⟩ := (show ObjOk P w H h a (.dT kvs) from rd_of ok e)
  refine ⟨z, y, xs, r, o, es, ep, h1, h2, h3, h4, fun x hx => ?_, h5⟩
  have all : ∀ {l : List (List Key × V)} {m : List (List Key × Addr × Value)}, KT H l m → ∀ x ∈ m, (tupleKind (mixKind P w)).is h x.1 x.2.1 := by
    intro l m q
    induction q with
    | nil => intro x hx; exact nomatch hx
    | @cons p q ps qs hq t ih =>
      intro x hx
      rcases List.mem_cons.mp hx with e | hx
      · subst e
        exact key_of ok (by rw [← hq.1]; exact hq.2.1)
      · exact ih x hx
  exact all r x hx
theorem dt_of {kvs : List (List Key × V)} (ok : HOk P w H h) (e : H a = some (.dT kvs)) : kvs.length ≤ sizeLine ∧ (a == sysModules) = false ∧
    ∃ xs, KT H kvs xs ∧ h.DictOfH (tupleKind (mixKind P w)) a xs := dt_rd ok (.inl e)
end

/-- what the dict at a holds at the key y -/
def DGet (H : Hp) (a : Addr) (y : V) (r : Option V) : Prop :=
  (∃ kvs k, Rd H a (.dK kvs) ∧ y = kV k ∧ r = valV kvs k) ∨ ∃ kvs k b, Rd H a (.dT kvs) ∧ y = .ref b ∧ H b = some (.tup (k.map kV)) ∧ r = valV kvs k
/-- the heap behind a[y] = v -/
def DPut (H : Hp) (a : Addr) (y v : V) (H' : Hp) : Prop :=
  (∃ kvs k, H a = some (.dK kvs) ∧ y = kV k ∧ kvs.length < sizeLine ∧ H' = upd H a (.dK (putK kvs k v))) ∨
  ∃ kvs k b, H a = some (.dT kvs) ∧ y = .ref b ∧ H b = some (.tup (k.map kV)) ∧ kvs.length < sizeLine ∧ H' = upd H a (.dT (putK kvs k v))
theorem DGet.k {H : Hp} {a : Addr} {kvs : List (Key × V)} {k : Key} (e : H a = some (.dK kvs)) : DGet H a (kV k) (valV kvs k) := .inl ⟨kvs, k, .inl e, rfl, rfl⟩
theorem DPut.k {H : Hp} {a : Addr} {kvs : List (Key × V)} {k : Key} {v : V} (e : H a = some (.dK kvs)) (hl : kvs.length < sizeLine) : DPut H a (kV k) v (upd H a (.dK (putK kvs k v))) := .inl ⟨kvs, k, e, rfl, hl, rfl⟩
section
variable {X : Cx} {pins : List (Addr × Obj)} {σ : St} {H : Hp} {s : Shared} {a : Addr} {y v : V} {u r : Value} {o : Option V} {A : Around} {E : Value → Shared → Prop}

theorem Inv.big (I : Inv X pins σ H s) : sysModules < s.heap.objs.size := by
  have h : mainGlobals < s.heap.objs.size := (I.mod.glob.keeps I.bk).lt
  exact Nat.lt_trans (by decide) h

/-- d[y], there -/
theorem d_getItem {Q : Value → Shared → Prop} (hu : A.units + 1 < cLine) (I : Inv X pins σ H s) (g : DGet H a y (some v)) (ry : RelV y u) (h : ∀ w' s', Inv X pins σ H s' → RelV v w' → Q w' s') :
    wpAny (model X.prog X.w) A (getItem (.ref a) u) Q E s := by
  rcases g with ⟨kvs, k, e, ey, l⟩ | ⟨kvs, k, b, e, ey, eb, l⟩
  · subst ey
    obtain ⟨z, hd, vs, rel, dd⟩ := dk_rd I.hok e
    obtain ⟨w', hw, rw'⟩ := RelO.some_of (v := v) (o := valueAt vs k) (by rw [l]; exact rel.val k)
    exact wpAny_getItem_of (kV_is ry) dd.mapOf hw (h w' _ (I.tok _) rw')
  · subst ey
    cases (show u = Value.ref b from ry)
    obtain ⟨z, hd, xs, rel, dd⟩ := dt_rd I.hok e
    obtain ⟨w', hw, rw'⟩ := RelO.some_of (v := v) (o := (atKey xs k).map (·.2)) (by rw [l]; exact rel.val k)
    obtain ⟨p, hp, hp2⟩ := Option.map_eq_some_iff.mp hw
    refine wpAny_getItem_heap (tupleKind_room_in1 hu) (key_of I.hok eb) dd hp ?_
    rw [hp2]
    exact h w' _ (I.tok _) rw'
/-- y in d -/
theorem d_in {Q : Value → Shared → Prop} (hu : A.units + 1 < cLine) (I : Inv X pins σ H s) (g : DGet H a y o) (ry : RelV y u) (h : ∀ s', Inv X pins σ H s' → Q (.bool o.isSome) s') :
    wpAny (model X.prog X.w) A (compareOp .In u (.ref a)) Q E s := by
  rcases g with ⟨kvs, k, e, ey, l⟩ | ⟨kvs, k, b, e, ey, eb, l⟩
  · subst ey
    obtain ⟨z, hd, vs, rel, dd⟩ := dk_rd I.hok e
    refine wpAny_in_of (kV_is ry) hd dd.mapOf ?_
    rw [← (rel.val k).isSome_eq, ← l]
    exact h _ (I.tok _)
  · subst ey
    cases (show u = Value.ref b from ry)
    obtain ⟨z, hd, xs, rel, dd⟩ := dt_rd I.hok e
    refine wpAny_in_heap (tupleKind_room_in1 hu) (key_of I.hok eb) hd dd ?_
    have q := (rel.val k).isSome_eq
    rw [Option.isSome_map] at q
    rw [← q, ← l]
    exact h _ (I.tok _)
/-- a dict's object is replaced -/
theorem d_write {h' : Heap} {t' : Nat} {ob : HO} (I : Inv X pins σ H s) (mu : Mut (H a)) (hs : Heap.SameBut a s.heap h') (he : ∃ q, h'.get? a = some q) (new : ObjOk X.prog X.w (upd H a ob) h' a ob) :
    Inv X pins σ (upd H a ob) { s with heap := h', toks := t' } :=
  I.write (x := a) (e := a) mu (.inl rfl) (fun b q hb z => (hs.2 b hb).trans z) he new
theorem dk_new {P : Program} {w : World} {H' : Hp} {h' : Heap} {kvs : List (Key × V)} {vs : List (Key × Value)} (z : kvs.length ≤ sizeLine) (hd : (a == sysModules) = false) (rel : KV kvs vs) (dd : h'.DictOf (mixKind P w) a vs) :
    ObjOk P w H' h' a (.dK kvs) := ⟨z, hd, vs, rel, dd⟩
/-- d[y] = v -/
theorem d_setItem {H' : Hp} {Q : Unit → Shared → Prop} (hu : A.units + 1 < cLine) (I : Inv X pins σ H s) (g : DPut H a y v H') (ry : RelV y u) (rv : RelV v r) (h : ∀ s', Inv X pins σ H' s' → Q () s') :
    wpAny (model X.prog X.w) A (setItem (.ref a) u r) Q E s := by
  rcases g with ⟨kvs, k, e, ey, l, eH⟩ | ⟨kvs, k, b, e, ey, eb, l, eH⟩
  · subst ey eH
    obtain ⟨z, hd, vs, rel, dd⟩ := dk_of I.hok e
    have hz : vs.length ≤ sizeLine := by rw [← rel.length]; exact z
    have hl : (putK kvs k v).length ≤ sizeLine := by have := length_putK kvs k v; omega
    refine wpAny_setItem_pairs (hsz := hz) (kV_is ry) dd fun h' dd' hs => h _ ?_
    have he : ∃ q, h'.get? a = some q := let ⟨q, _, _, hq, _⟩ := dd'; ⟨q, hq⟩
    exact d_write I (by rw [e]; exact True.intro) hs he (dk_new hl hd (rel.put k rv) dd')
  · subst ey eH
    cases (show u = Value.ref b from ry)
    obtain ⟨z, hd, xs, rel, dd⟩ := dt_of I.hok e
    have hz : xs.length ≤ sizeLine := by rw [← Paired.length rel]; exact z
    have hl : (putK kvs k v).length ≤ sizeLine := by have := length_putK kvs k v; omega
    refine wpAny_setItem_heap (hsz := hz) (tupleKind_room_in1 hu) (key_of I.hok eb) dd fun h' dd' hs => h _ ?_
    obtain ⟨q, es, ep, hq, h2, h3, h4, _, h5⟩ := dd'
    refine d_write I (by rw [e]; exact True.intro) hs ⟨q, hq⟩ ⟨hl, hd, _, (rel.put k eb rv).keeps fun c ys ec => ?_, q, es, ep, hq, h2, h3, h4, h5⟩
    rw [upd_ne (ne_of ec e (fun z => nomatch z))]
    exact ec
end

section
variable {X : Cx} {pins : List (Addr × Obj)} {σ : St} {H : Hp} {s : Shared} {a : Addr} {kvs : List (Key × V)} {k : Key} {u : Value} {A : Around} {E : Value → Shared → Prop}
end


/-- the element of a subscription, not a slice -/
def NoSl (i : Expr) : Prop := ∀ ov iv, subscripted i false ov iv = operate [ov, iv] (getItem ov iv)
theorem subD_of {prog : Program} {w : World} {A : Around} {E : Value → Shared → Prop} {s : Shared} {env : Env} {value slice : Expr} {pos : Pos} {T id : String} {Q : Value → Shared → Prop}
    (hl : typeLookup (.type T) "__getitem__" = pure (some (.builtin id))) (hs : NoSl slice)
    (h : wpAny (model prog w) A (eval value env) (fun o s₁ => wpAny (model prog w) A (eval slice env) (fun i s₂ => s₂.TypeIs o T ∧ wpAny (model prog w) A (getItem o i) Q E s₂) E s₁) E s) :
    wpAny (model prog w) A (eval (.Subscript value slice pos) env) Q E s := by
  refine Subscript_ (wpAny_mono h (fun o s₁ h₁ => wpAny_mono h₁ (fun i s₂ h₂ => ?_) fun _ _ x => x) fun _ _ x => x)
  obtain ⟨hT, h₂⟩ := h₂
  unfold subscriptTail
  refine wpAny_bind ?_
  rw [getitemInPython_of_ne hT.not_modules]
  refine wpAny_bind (wpAny_specialOf hT hl ?_)
  have fin : wpAny (model prog w) A (subscripted slice false o i) (fun r s₃ => wpAny (model prog w) A (letTemporaryGo value o r >>= fun _ => pure r) Q E s₃) E s₂ := by
    rw [hs o i]
    exact wpAny_operating (wpAny_mono h₂ (fun r s₃ h₃ => wpAny_bind (wpAny_letTemporaryGo (wpAny_pure h₃))) fun _ _ x => x)
  first
    | exact wpAny_pure (wpAny_bind fin)
    | exact wpAny_bind (wpAny_pure (wpAny_bind fin))
    | exact wpAny_bind fin

theorem dict_typeIs {X : Cx} {pins : List (Addr × Obj)} {σ : St} {H : Hp} {s : Shared} {a : Addr} {y : V} {o : Option V} (I : Inv X pins σ H s) (g : DGet H a y o) : s.TypeIs (.ref a) "dict" := by
  rcases g with ⟨kvs, k, e, _, _⟩ | ⟨kvs, k, b, e, _, _, _⟩
  · obtain ⟨_, _, vs, _, dd⟩ := dk_rd I.hok e
    exact dd.typeIs
  · obtain ⟨_, _, xs, _, dd⟩ := dt_rd I.hok e
    exact dd.typeIs
/-- d[y] -/
def tDGet (td ty : TE) : TE := fun σ H Q => td σ H fun x H1 => ty σ H1 fun y H2 => ∃ a v, x = .ref a ∧ DGet H2 a y (some v) ∧ Q v H2
/-- y in d, y not in d -/
def tDIn (ty td : TE) : TE := fun σ H Q => ty σ H fun y H1 => td σ H1 fun x H2 => ∃ a o, x = .ref a ∧ DGet H2 a y o ∧ Q (.bl o.isSome) H2
def tDNotIn (ty td : TE) : TE := fun σ H Q => ty σ H fun y H1 => td σ H1 fun x H2 => ∃ a o, x = .ref a ∧ DGet H2 a y o ∧ Q (.bl (!o.isSome)) H2
/-- d[y] = v -/
def sDPut (td ty tv : TE) : TS := fun D σ H => tv σ H fun v H1 => td σ H1 fun x H2 => ty σ H2 fun y H3 => ∃ a H4, x = .ref a ∧ DPut H3 a y v H4 ∧ D.nx σ H4
section
variable {X : Cx} {o i e value : Expr} {pos pos' tpos : Pos} {td ty tv : TE}
theorem pe_dget (hu : X.A.units + 1 < cLine) (ho : PE X o td) (hi : PE X i ty) (hs : NoSl i) : PE X (.Subscript o i pos) (tDGet td ty) := by
  intro pins s σ H Q I h
  refine subD_of PySem.F.slot_dict_getitem.lookup hs (thn (ho pins s σ H _ I h) fun u s1 ⟨x, H1, I1, rx, q1⟩ => thn (hi pins s1 σ H1 _ I1 q1) fun iv s2 ⟨y, H2, I2, ry, a, v, ex, g, q2⟩ => ?_)
  subst ex
  obtain rfl : u = Value.ref a := rx
  exact ⟨dict_typeIs I2 g, d_getItem hu I2 g ry fun w' s3 I3 rw' => ⟨v, H2, I3, rw', q2⟩⟩
theorem pc_din (hu : X.A.units + 1 < cLine) (hi : PE X i ty) (ho : PE X o td) : PC X .In i o (tDIn ty td) := by
  intro pins s σ H Q I h
  refine thn (hi pins s σ H _ I h) fun iv s1 ⟨y, H1, I1, ry, q1⟩ => thn (ho pins s1 σ H1 _ I1 q1) fun u s2 ⟨x, H2, I2, rx, a, ov, ex, g, q2⟩ => ?_
  subst ex
  obtain rfl : u = Value.ref a := rx
  exact d_in hu I2 g ry fun s3 I3 => ⟨.bl ov.isSome, H2, I3, rfl, q2⟩
theorem ps_dput (hu : X.A.units + 1 < cLine) (ho : PE X o td) (hi : PE X i ty) (hv : PE X value tv) (hs : swapsWith value (some (.Subscript o i pos')) pos.line X.env = pure false) :
    PS X (.Assign [.Subscript o i pos'] value pos) (sDPut td ty tv) := by
  intro pins s σ H D I h
  refine wpAny_Assign_Subscript (thn (hv pins s σ H _ I h) fun r s1 ⟨v, H1, I1, rv, q1⟩ => thn (ho pins s1 σ H1 _ I1 q1) fun u s2 ⟨x, H2, I2, rx, q2⟩ => thn (hi pins s2 σ H2 _ I2 q2) fun iv s3 ⟨y, H3, I3, ry, a, H4, ex, g, q3⟩ => ?_) hs
  subst ex
  obtain rfl : u = Value.ref a := rx
  exact d_setItem hu I3 g ry rv fun s4 I4 => ⟨σ, H4, I4, q3⟩
end


theorem dk_empty {P : Program} {w : World} {H : Hp} (h : Heap) (hb : sysModules < h.objs.size) : ObjOk P w H (h.push { cls := .type "dict", data := .dict #[] }) h.objs.size (.dK []) :=
  ⟨Nat.zero_le _, beq_eq_false_iff_ne.mpr (Ne.symm (Nat.ne_of_lt hb)), [], .nil, Heap.DictOf.new h⟩
/-- {}, to be a dict of the kind that is wanted -/
def tDNewK : TE := fun _ H Q => ∀ p, H p = none → Q (.ref p) (upd H p (.dK []))
section
variable {X : Cx} {pos : Pos}
theorem pe_dnewK : PE X (.Dict [] [] pos) tDNewK := fun pins s σ H Q I h =>
  wpAny_Dict_empty ⟨.ref s.heap.objs.size, _, I.laid (a := s.heap.objs.size) (o := .dK []) (t' := s.toks) (fun _ _ q => Heap.get?_push_of_some _ q) (Nat.le_refl _) (dk_empty s.heap I.big), rfl, h _ (I.hok.fresh (Nat.le_refl _))⟩
end

/-- the pairs of a display, from the left -/
def tPairs : List (TE × TE) → St → Hp → (List (V × V) → Hp → Prop) → Prop
  | [], _, H, Q => Q [] H
  | (tk, tv) :: r, σ, H, Q => tk σ H fun x H1 => tv σ H1 fun y H2 => tPairs r σ H2 fun ps H3 => Q ((x, y) :: ps) H3
def mergeK (kvs more : List (Key × V)) : List (Key × V) := more.foldl (fun acc kv => putK acc kv.1 kv.2) kvs
/-- {k: v, ..} with keys ints and texts; the new dict stands empty while the pairs are made -/
def tDisp (trs : List (TE × TE)) : TE := fun σ H Q => ∀ p, H p = none → tPairs trs σ (upd H p (.dK [])) fun ps H2 => H2 p = some (.dK []) ∧ ∃ kvs : List (Key × V), ps = kvs.map (fun kv => (kV kv.1, kv.2)) ∧ kvs.length ≤ 15 ∧ Q (.ref p) (upd H2 p (.dK (mergeK [] kvs)))
/-- a method call o.m(e) of a built-in, with one argument: what must be seen of the text -/
structure M1 (X : Cx) (o : Expr) (m : Str) (apos : Pos) (e : Expr) (cpos : Pos) : Prop where
  base : attributeBase o m X.env (eval o X.env) = eval o X.env
  few : ((backTo cpos (starEach [e] X.env)).all (fun x => !x.1) && (backToKw cpos (keywordEach [] X.env)).all (fun x => x.1.isSome)
    && decide (([e] : List Expr).length + ([] : List Keyword).length + (if ([] : List Keyword).isEmpty then 0 else 1) < 30)) = true
  line : (apos.endLine == cpos.line) = true
  trees : backTo cpos (starEach [e] X.env) = [(false, eval e X.env)]
structure M2 (X : Cx) (o : Expr) (m : Str) (apos : Pos) (e f : Expr) (cpos : Pos) : Prop where
  base : attributeBase o m X.env (eval o X.env) = eval o X.env
  few : ((backTo cpos (starEach [e, f] X.env)).all (fun x => !x.1) && (backToKw cpos (keywordEach [] X.env)).all (fun x => x.1.isSome)
    && decide (([e, f] : List Expr).length + ([] : List Keyword).length + (if ([] : List Keyword).isEmpty then 0 else 1) < 30)) = true
  line : (apos.endLine == cpos.line) = true
  trees : backTo cpos (starEach [e, f] X.env) = [(false, eval e X.env), (false, eval f X.env)]

section
variable {X : Cx} {pins : List (Addr × Obj)} {σ : St} {H : Hp} {s : Shared} {a : Addr} {y d : V} {u r : Value} {o : Option V} {A : Around} {E : Value → Shared → Prop}
end

section
variable {X : Cx} {o e f : Expr} {apos cpos : Pos} {td ty tx : TE}
end

section
variable {X : Cx} {pins : List (Addr × Obj)} {σ : St} {H : Hp} {s : Shared} {a : Addr} {kvs : List (Key × V)} {A : Around} {E : Value → Shared → Prop}
end


section
variable {X : Cx} {pins : List (Addr × Obj)} {σ : St} {H : Hp} {s : Shared} {a : Addr} {y : V} {u : Value} {A : Around} {E : Value → Shared → Prop}
end
end L2

namespace Att
open PySem PySem.W PySem.Calls PyProof.Rows

theorem ints_of_wellAll {P : Params} {h : Heap} : ∀ (ns : List Int) (vs : List Value), WellAll P h vs (ns.map WData.int) → IntsAre vs ns := by
  intro ns
  induction ns with
  | nil =>
    intro vs w
    rw [List.map_nil] at w
    cases w
    exact .nil
  | cons n ns ih =>
    intro vs w
    rw [List.map_cons] at w
    cases w with
    | cons a b =>
      cases a
      exact .cons _ _ (ih _ b)

theorem script_of {l : OpenLaw} {n : Nat} (hn : l.most = some n) {P : Params} {h : Heap} {args : List WData} {vals : List Value}
    (hpre : l.row.toRowW.claim.pre args = true) (hwl : WellAll P h vals args) :
    ∃ a vs ns, vals = [Value.ref a] ∧ args = [WData.list (ns.map WData.int)] ∧ h.get? a = some { cls := .type "list", data := .seq vs.toArray } ∧ IntsAre vs ns ∧ ns.length ≤ n := by
  have hsh : WShape.hasAll [] args [.list .int] = true := (pre_splitW hpre).1
  have hc : l.pre.holds [] { args := args } = true := (pre_splitW hpre).2
  obtain ⟨d, r, rfl, h1, h2⟩ := hasAllW_cons hsh
  obtain rfl := hasAllW_nil h2
  obtain ⟨xs, rfl, h3⟩ := hasW_list h1
  obtain ⟨ns, rfl⟩ := items_int h3
  have hlen : ns.length ≤ n := by
    unfold OpenLaw.pre at hc
    have h4 : (WTm.not (.lt (.lit (.int (n : Int))) (.len (.arg 0)))).holds [] { args := [.list (ns.map .int)] } = true := by
      have h4 := (holds_andW hc).1
      rw [hn] at h4
      exact h4
    have h5 := condW_of h4 (w_not (w_lt w_lit (w_len_list (w_arg rfl))))
    rw [List.length_map] at h5
    refine Nat.le_of_not_lt fun q => ?_
    have q' : (n : Int) < ((ns.length : Nat) : Int) := by omega
    first
      | (rw [decide_eq_true q'] at h5; exact absurd h5 (by decide))
      | (simp at h5; omega)
  cases hwl with
  | cons w1 w2 =>
    cases w2
    cases w1 with
    | list ho hall => exact ⟨_, _, ns, rfl, rfl, ho, ints_of_wellAll ns _ hall, hlen⟩

theorem post_true (l : OpenLaw) (args : List WData) : l.row.toRowW.claim.post args (.bool true) args = true :=
  postW_of (r := l.row.toRowW) (X := (true == true))
    (show WShape.has [] (.bool true) .bool = true by first | rfl | decide | simp [WShape.has, WShape.arms, WShape.armsAll])
    (show (WTm.eq .res (.lit (.bool true))).value [] { args := args, res := some (.bool true), after := args } = some (.bool (true == true)) from w_eq_bool (w_res rfl) w_lit) rfl

/-- the same from a codeAny of the CALL (for a layer whose function contracts speak of calls) -/
theorem attach_call {l : OpenLaw} {n : Nat} {q : Program} {loose : List Str} {XP : (Str → Option Value) → Heap → Prop} {YP : World → Heap → Prop} {d : DefRec}
    (hn : l.most = some n) (hdf : d.params.defaults = [])
    (call : ∀ (w : World) (s₀ s₁ : Shared) (mg mb : Str → Option Value) (fa : Addr) (o : Obj) (pm cd doc : Value) (a : Addr) (vs : List Value) (ns : List Int),
      Ground q loose [] XP w s₀ mg mb s₁.heap → YP w s₁.heap →
      s₁.heap.get? fa = some o → o.data = .func (docDef d.name d.params d.body d.scope pm cd doc) → s₁.heap.CodeRec cd d.name → mg d.name = some (.ref fa) →
      s₁.heap.get? a = some { cls := .type "list", data := .seq vs.toArray } → IntsAre vs ns → ns.length ≤ n → s₁.gens = #[] →
      codeAny (model l.prog w) callerA (.call (.ref fa) ⟨[.ref a], []⟩) (fun r s' => r = .ok (.ret (.bool true)) ∧ OldK s₁.heap s'.heap ∧ s'.os = s₁.os ∧ AllBare s'.gens) s₁) :
    WalkO q loose XP YP l.row.toRowW d [] (fun f vs => PySem.call f vs) := by
  intro w s₀ s₁ mg mb G Y fa o pm cd doc dV kV ho hd hcd hD hmg hg args vals as hpre hlay hrd hwl hlo
  obtain rfl : dV = .none := Dflts.none hD hdf
  obtain rfl : kV = .none := Dflts.noKw hD
  obtain ⟨a, vs, ns, rfl, rfl, hobj, hints, hlen⟩ := script_of hn hpre hwl
  refine enter_call (codeAny_mono (call w s₀ s₁ mg mb fa o pm cd doc a vs ns G Y ho (fd_plain hd) hcd hmg hobj hints hlen hg) fun r s' hq => ?_)
  obtain ⟨rfl, h2, h3, h4⟩ := hq
  exact ⟨.inl ⟨.bool true, .bool true, [], rfl, fun _ => rfl, .bool true, post_true l _, fun _ => ⟨List.Pairwise.nil, fun _ hm => (nomatch hm)⟩⟩, h2, h3, h4⟩

section
variable {prog : Program} {w : World} {A : Around} {E : Value → Shared → Prop} {s : Shared} {K : Frag}

end
end Att

namespace L2
open PySem PySem.Spec PyProof.Rows

theorem vals_ints : ∀ {vs : List Value} {ns : List Int}, IntsAre vs ns → Vals (ns.map V.int) vs
  | _, _, .nil => .nil
  | _, _, .cons n t h => .cons ⟨t, rfl⟩ (vals_ints h)

/-- nothing is tracked but the script, known to the object (or it is an object of the module) -/
def Only (H : Hp) : Prop := ∀ b, H b = none ∨ ∃ o xs, H b = some (.frz o (.lst xs))

/-- THE HEAD: the law's promise, at the heap behind the top. F, the promise of the law's def, may use that base is part of the heap (so K.In base, base.Ns mainGlobals mg stand in Mod) -/
theorem law_call {P : Program} {w : World} {K : PySem.W.Frag} {mg mb : Str → Option Value} {CX : CXT} {k : Nat} {fa a : Addr} {fd : FuncData} {x : Str} {sp : Sp} {s₁ : Shared} {vs : List Value} {ns : List Int}
    (KX : K.In s₁.heap) (hns : s₁.heap.Ns mainGlobals mg) (hb : s₁.heap.Ns builtinsNs mb) (hbb : ∀ x : Str, x ≠ "__name__" → mb x = bootBuiltins x) (hlim : s₁.heap.NoLimit) (hg : s₁.gens = #[])
    (ha : s₁.heap.get? a = some { cls := .type "list", data := .seq vs.toArray }) (hi : IntsAre vs ns) (hl : ns.length ≤ sizeLine) (hr : Room k callerA)
    (F : ∀ base : Heap, K.In base → base.Ns mainGlobals mg → FnOk P w K mg base CX k fa fd [x] sp) (hbind : ∀ (s : Shared) (u : Value), BindsTo s fd ⟨[u], []⟩ [(x, u)])
    (hsp : ∀ H : Hp, Only H → SqL K H a (ns.map V.int) → sp [.ref a] H (fun v _ => v = .bl true) fun _ _ _ => False)
    (hCX : ∀ H e s', CX [] H s₁ (fun _ _ _ => False) e s' → False) :
    codeAny (model P w) callerA (.call (.ref fa) ⟨[.ref a], []⟩) (fun r s' => r = .ok (.ret (.bool true)) ∧ OldK s₁.heap s'.heap ∧ s'.os = s₁.os ∧ AllBare s'.gens) s₁ := by
  have rv := vals_ints hi
  have lenV := hi.length
  -- from an abstract heap in which nothing but the script may be tracked
  have core : ∀ H : Hp, Only H → SqL K H a (ns.map V.int) → HOk P w H s₁.heap → (∀ b, H b ≠ none → b = a) → (H a ≠ none → K.lookup a = none) →
      codeAny (model P w) callerA (.call (.ref fa) ⟨[.ref a], []⟩) (fun r s' => r = .ok (.ret (.bool true)) ∧ OldK s₁.heap s'.heap ∧ s'.os = s₁.os ∧ AllBare s'.gens) s₁ := by
    intro H hO hS hok hA hK
    have base_of : ∀ {b : Addr} {o : Obj}, s₁.heap.get? b = some o → H b = none → (hidT s₁.heap H).get? b = some o := fun e n => hidT_get e n
    have noA : ∀ {b : Addr} {o : Obj} {es : Array DictEntry} {ep : Nat}, s₁.heap.get? b = some o → o.data = .dict es ep → H b = none := fun {b o es ep} e d => by
      cases q : H b with
      | none => rfl
      | some u =>
        have e' : b = a := hA b (by rw [q]; simp)
        subst e'
        rw [ha] at e; cases e
        have d' : Data.seq vs.toArray _ = Data.dict es ep := d
        cases d'
    have nsK : ∀ {b : Addr} {m : Str → Option Value}, s₁.heap.Ns b m → (hidT s₁.heap H).Ns b m := fun {b m} ⟨o, es, ep, e, d, r⟩ => ⟨o, es, ep, base_of e (noA e d), d, r⟩
    have hKb : K.In (hidT s₁.heap H) := fun b o e => base_of (KX b o e) (by
      cases q : H b with
      | none => rfl
      | some u =>
        have e' : b = a := hA b (by rw [q]; simp)
        subst e'
        rw [hK (by rw [q]; simp)] at e; cases e)
    have hM : Mod K mg (hidT s₁.heap H) := ⟨hKb, nsK hns, ⟨mb, nsK hb, hbb⟩, let ⟨mc, h1, h2⟩ := hlim; ⟨mc, nsK h1, h2⟩⟩
    have e0 : Env0 P w K mg (hidT s₁.heap H) callerA [] s₁ H := ⟨rfl, hM, fun b o e => of_hidT e, Nat.le_of_eq (hidT_size _ _), trivial, fun b hb => absurd (show b ∈ ([] : List Addr) from hb) (by simp), hok, .of_eq hg⟩
    refine codeAny_mono ((F _ hKb (nsK hns)).run callerA [] s₁ H ⟨[.ref a], []⟩ [.ref a] [.ref a] _ _ hr e0 (hbind s₁ (.ref a)) (.cons rfl .nil) (hsp H hO hS)) fun r s' h => ?_
    cases r with
    | error e => exact (hCX H e s' h).elim
    | ok fl =>
      cases fl with
      | next => exact False.elim h
      | brk => exact False.elim h
      | cont => exact False.elim h
      | ret u =>
        obtain ⟨v, H', os, bare, un, hok', r', q⟩ := h
        have q' : v = .bl true := q
        subst q'
        obtain rfl : u = Value.bool true := r'
        refine ⟨rfl, OldK.of_keep fun b o e => ?_, os, bare⟩
        cases q : H b with
        | none => exact un.keep b o e q (by intro z; exact absurd (show b ∈ ([] : List Addr) from z) (by simp)) (by simp)
        | some u =>
          rcases hO b with z | ⟨ob, xs, z⟩
          · rw [q] at z; cases z
          · have z2 := un.frzs b ob _ z
            obtain ⟨e1, _⟩ := hok b _ z
            obtain ⟨e2, _⟩ := hok' b _ z2
            rw [e] at e1; cases e1
            exact e2
  cases hk : K.lookup a with
  | some o =>
    -- the script is one of the module's own objects
    have e := KX a o hk
    rw [ha] at e
    cases e
    refine core (fun _ => none) (fun _ => .inl rfl) (.inr ⟨_, vs.toArray, _, hk, rfl, rfl, rfl, by rw [List.size_toArray, lenV]; exact hl, by simpa using rv⟩) (fun b u z => by have z' : (none : Option HO) = some u := z; cases z') (fun b z => absurd rfl z) fun z => absurd rfl z
  | none =>
    refine core (fun b => if b = a then some (.frz { cls := .type "list", data := .seq vs.toArray } (.lst (ns.map V.int))) else none) (fun b => ?_) (.inl (.inr ⟨{ cls := .type "list", data := .seq vs.toArray }, if_pos rfl⟩)) (fun b u z => ?_) (fun b z => ?_) fun _ => hk
    · by_cases hb : b = a
      · exact .inr ⟨_, _, if_pos hb⟩
      · exact .inl (if_neg hb)
    · by_cases hb : b = a
      · have z' := (if_pos hb).symm.trans z
        cases z'
        subst hb
        exact ⟨ha, by rw [List.length_map]; exact hl, vs, _, rv, ha⟩
      · have z' := (if_neg hb).symm.trans z
        cases z'
    · by_cases hb : b = a
      · exact hb
      · exact absurd (if_neg hb) z
end L2

namespace L2
open PySem PySem.Spec PyProof.Rows

abbrev KOf {K : PySem.W.Frag} {h : Heap} (_ : K.In h) : PySem.W.Frag := K

/-- the goal that k_head leaves (case hc), from the law's promise. F gives the function object fd (K's own) once, then the promise over every base -/
theorem walk_of {l : PySem.W.OpenLaw} {n k : Nat} {q : Program} {loose : List Str} {XP : (Str → Option Value) → Heap → Prop} {YP : World → Heap → Prop} {d : DefRec} {K : Params → PySem.W.Frag} {CX : World → CXT} {sp : World → Sp} {x : Str}
    (hn : l.most = some n) (hn2 : n ≤ sizeLine) (hdf : d.params.defaults = []) (hr : Room k callerA)
    (hY : ∀ (w : World) (h : Heap), YP w h → (K w.params).In h)
    (F : ∀ (w : World) (mg : Str → Option Value) (fa : Addr) (h : Heap), (K w.params).In h → h.Ns mainGlobals mg → mg d.name = some (.ref fa) →
      ∃ fd : FuncData, (∀ (s : Shared) (u : Value), BindsTo s fd ⟨[u], []⟩ [(x, u)]) ∧
        ∀ base : Heap, (K w.params).In base → base.Ns mainGlobals mg → FnOk l.prog w (K w.params) mg base (CX w) k fa fd [x] (sp w))
    (hsp : ∀ (w : World) (H : Hp) (a : Addr) (ns : List Int), ns.length ≤ n → Only H → SqL (K w.params) H a (ns.map V.int) → sp w [.ref a] H (fun v _ => v = .bl true) fun _ _ _ => False)
    (hCX : ∀ (w : World) (H : Hp) (s : Shared) (e : Value) (s' : Shared), CX w [] H s (fun _ _ _ => False) e s' → False) :
    PySem.W.WalkO q loose XP YP l.row.toRowW d [] (fun f vs => PySem.call f vs) := by
  refine Att.attach_call hn hdf fun w s₀ s₁ mg mb fa o pm cd doc a vs ns G Y ho hd hcd hmg hobj hints hlen hg => ?_
  have KX := hY w _ Y
  obtain ⟨fd, hb, hF⟩ := F w mg fa _ KX G.T.g hmg
  exact law_call KX G.T.g G.T.b G.T.builtins G.T.nolimit hg hobj hints (Nat.le_trans hlen hn2) hr hF hb (fun H hO hS => hsp w H a ns hlen hO hS) fun H e s' => hCX w H s₁ e s'
end L2


namespace L2
open PySem PySem.Spec PyProof.Rows

/-- the j-th statement of a class's body -/
def inClass (s : Stmt) (j : Nat) : Stmt := match s with
  | .ClassDef _ _ _ body _ _ _ _ _ _ _ => body.getD j (.Pass ⟨0, 0, 0, 0⟩)
  | _ => .Pass ⟨0, 0, 0, 0⟩
def defArgs (s : Stmt) : Arguments := match s with
  | .FunctionDef _ a _ _ _ _ _ _ _ _ => a
  | _ => { posonlyargs := [], args := [], vararg := none, kwonlyargs := [], kw_defaults := [], kwarg := none, defaults := [] }
def defBody (s : Stmt) : List Stmt := match s with
  | .FunctionDef _ _ b _ _ _ _ _ _ _ => b
  | _ => []
def defScope (s : Stmt) : Scope := match s with
  | .FunctionDef _ _ _ _ _ _ sc _ _ _ => sc
  | _ => { kind := .function, names := [], isGenerator := false, isCoroutine := false }

abbrev CX0 : CXT := fun _ _ _ _ _ _ => False
abbrev E0 : XK := fun _ _ _ => False
structure Fun (K : PySem.W.Frag) (x qual : Str) (st : Stmt) (f : Addr) (fd : FuncData) : Prop where
  ex : ∃ (oc : Value) (od : Option Addr) (kV doc pm : Value) (an : Option Addr) (cdv ct : Value) (osl : Array (Option Value)),
    fd = PySem.W.fnOf x qual (defArgs st) (defBody st) (defScope st) .none kV doc pm an cdv ct ∧ K.lookup f = some ⟨oc, od, .func fd, osl⟩ ∧ PySem.W.codeIn K cdv qual = true
  kp : PySem.W.keepIn K (.ref f) = true
section
variable {P : Program} {w : World} {K : PySem.W.Frag} {mg : Str → Option Value} {base : Heap}
/-- how its arguments bind (no defaults): h is «fun _ _ _ _ _ _ us hl => match us, hl with | [_, _], _ => rfl», one _ a parameter -/
theorem Fun.binds {x qual : Str} {st : Stmt} {f : Addr} {fd : FuncData} {ps : List Str} (F : Fun K x qual st f fd)
    (h : ∀ (kV doc pm : Value) (an : Option Addr) (cdv ct : Value) (us : List Value), us.length = ps.length → bindArgs (PySem.W.fnOf x qual (defArgs st) (defBody st) (defScope st) .none kV doc pm an cdv ct) ⟨us, []⟩ = pure (ps.zip us)) : Binds K fd ps [] := by
  obtain ⟨oc, od, kV, doc, pm, an, cdv, ct, osl, rfl, lk, hcd⟩ := F.ex
  exact .all (h kV doc pm an cdv ct)
theorem fun_mk {x qual : Str} {st : Stmt} {f : Addr} {oc : Value} {od an : Option Addr} {osl : Array (Option Value)} {kV doc pm cdv ct : Value} (l : K.lookup f = some ⟨oc, od, .func (PySem.W.fnOf x qual (defArgs st) (defBody st) (defScope st) .none kV doc pm an cdv ct), osl⟩)
    (c : PySem.W.codeIn K cdv qual = true) (k : PySem.W.keepIn K (.ref f) = true) : Fun K x qual st f (PySem.W.fnOf x qual (defArgs st) (defBody st) (defScope st) .none kV doc pm an cdv ct) := ⟨⟨oc, od, kV, doc, pm, an, cdv, ct, osl, rfl, l, c⟩, k⟩
end
theorem hu_of {A : Around} {k : Nat} (hr : Room k A) : A.units + 1 < cLine := Nat.lt_of_le_of_lt (Nat.add_le_add_left (by decide : 1 ≤ 64) _) hr.units
theorem small1000 {n : Nat} (h : n ≤ 1000) : n < sizeLine := Nat.lt_of_le_of_lt h (by decide)

section
variable {X : Cx}
theorem pv (i : Nat) {x : Str} {pos : Pos} (hN : X.N[i]? = some x := by rfl) (hv : Vis X.env.scope x := by first | exact Or.inl rfl | exact Or.inr (Or.inl rfl) | exact Or.inr (Or.inr rfl)) (hd : (x == ("__debug__" : Str)) = false := by decide)
    (hcd : (x == ("__classdict__" : Str)) = false := by decide) : PE X (.Name x pos) (tVar i) := pe_var hN hv hd hcd
end

theorem ite2 {c A B : Prop} [Decidable c] (h1 : c → A) (h2 : ¬ c → B) : if c then A else B := by
  by_cases h : c
  · rw [if_pos h]
    exact h1 h
  · rw [if_neg h]
    exact h2 h
/-- all that was tracked is as it was -/
def Same (H H' : Hp) : Prop := ∀ b o, H b = some o → H' b = some o
theorem Same.refl (H : Hp) : Same H H := fun _ _ h => h
theorem Same.trans {H H1 H2 : Hp} (a : Same H H1) (b : Same H1 H2) : Same H H2 := fun c o h => b c o (a c o h)
theorem Same.free {H H' : Hp} (e : Same H H') {l : Addr} (h : H' l = Option.none) : H l = Option.none := by
  cases q : H l with
  | none => rfl
  | some o =>
    rw [e l o q] at h
    cases h
section
variable {κ : Type} [DecidableEq κ]
end
end L2


namespace L2
open PySem PySem.Spec PyProof.Rows

/-- the cells that a block takes along -/
def closOf (cells : List (Str × Addr)) : List (Str × NameKind) → List (Str × Addr) → List (Str × Addr)
  | [], acc => acc
  | y :: r, acc => closOf cells r (if y.2 == .free then (y.1, (cells.lookup y.1).getD 0) :: acc else acc)

theorem closOf_cons {cells : List (Str × Addr)} {y : Str × NameKind} {r : List (Str × NameKind)} {acc : List (Str × Addr)} : closOf cells (y :: r) acc = closOf cells r (if y.2 == .free then (y.1, (cells.lookup y.1).getD 0) :: acc else acc) := rfl
theorem clos_run {env : Env} (F : Str × NameKind → List (Str × Addr) → Sem (ForInStep (List (Str × Addr))))
    (hF : ∀ y c, F y c = if (y.2 == NameKind.free) = true then (cellOf env y.1 >>= fun a => pure (ForInStep.yield ((y.1, a) :: c))) else pure (ForInStep.yield c)) :
    ∀ (ns : List (Str × NameKind)) (acc : List (Str × Addr)), (∀ y ∈ ns, y.2 = .free → ∃ c, env.cells.lookup y.1 = some c) → forIn ns acc F = (pure (closOf env.cells ns acc) : Sem (List (Str × Addr)))
  | [], acc, _ => rfl
  | y :: r, acc, h => by
    rw [List.forIn_cons, hF]
    by_cases k : y.2 = NameKind.free
    · obtain ⟨c, hc⟩ := h y List.mem_cons_self k
      have hk : (y.2 == NameKind.free) = true := by rw [k]; rfl
      have e : cellOf env y.1 = pure c := by unfold cellOf; rw [hc]
      rw [if_pos hk, e]
      simp only [pure_bind]
      rw [clos_run F hF r _ fun z hz => h z (List.mem_cons_of_mem _ hz)]
      rw [closOf_cons, if_pos hk, hc]
      rfl
    · have hk : ¬ (y.2 == NameKind.free) = true := by simpa using k
      rw [if_neg hk]
      simp only [pure_bind]
      rw [clos_run F hF r _ fun z hz => h z (List.mem_cons_of_mem _ hz)]
      rw [closOf_cons, if_neg hk]

theorem clos_is {scope : Scope} {env : Env} (h : ∀ y ∈ scope.names, y.2 = .free → ∃ c, env.cells.lookup y.1 = some c) : closureFor scope env = pure (closOf env.cells scope.names []) := by
  unfold closureFor
  have q := clos_run (env := env) _ (fun y c => rfl) scope.names [] h
  simp only [bind_pure]
  exact q

theorem closOf_sub {cells : List (Str × Addr)} : ∀ {ns : List (Str × NameKind)} {acc : List (Str × Addr)}, (∀ y ∈ ns, y.2 = .free → ∃ c, cells.lookup y.1 = some c) →
    (∀ p ∈ acc, cells.lookup p.1 = some p.2) → ∀ p ∈ closOf cells ns acc, cells.lookup p.1 = some p.2
  | [], _, _, ha => ha
  | y :: r, acc, h, ha => by
    rw [closOf_cons]
    refine closOf_sub (fun z hz => h z (List.mem_cons_of_mem _ hz)) ?_
    split
    · rename_i k
      intro p hp
      rcases List.mem_cons.mp hp with rfl | hp
      · obtain ⟨c, hc⟩ := h y List.mem_cons_self (by simpa using k)
        show cells.lookup y.1 = some ((cells.lookup y.1).getD 0)
        rw [hc]; rfl
      · exact ha p hp
    · exact ha

theorem closOf_mono {cells : List (Str × Addr)} {p : Str × Addr} : ∀ {ns : List (Str × NameKind)} {acc : List (Str × Addr)}, p ∈ acc → p ∈ closOf cells ns acc
  | [], _, h => h
  | y :: r, acc, h => by
    rw [closOf_cons]
    refine closOf_mono ?_
    split
    · exact List.mem_cons_of_mem _ h
    · exact h

theorem closOf_has {cells : List (Str × Addr)} {x : Str} {c : Addr} (hc : cells.lookup x = some c) : ∀ {ns : List (Str × NameKind)} {acc : List (Str × Addr)}, (x, NameKind.free) ∈ ns → (x, c) ∈ closOf cells ns acc
  | y :: r, acc, h => by
    rw [closOf_cons]
    rcases List.mem_cons.mp h with e | h
    · subst e
      refine closOf_mono ?_
      rw [if_pos (show ((x, NameKind.free).2 == NameKind.free) = true from rfl)]
      show (x, c) ∈ (x, (cells.lookup x).getD 0) :: acc
      rw [hc]
      exact List.mem_cons_self
    · exact closOf_has hc h

theorem lookup_mem_some {x : Str} {c : Addr} : ∀ {l : List (Str × Addr)}, (x, c) ∈ l → ∃ d, l.lookup x = some d
  | p :: r, h => by
    rw [List.lookup_cons]
    cases e : x == p.1 with
    | true => exact ⟨_, rfl⟩
    | false =>
      rcases List.mem_cons.mp h with q | q
      · subst q; simp at e
      · exact lookup_mem_some q

/-- the block's scope against the def's: N' the block's names, π where a captured one stands among the def's -/
structure CompScope (osc : Scope) (N : List Str) (scope : Scope) (N' : List Str) (π : List (Option Nat)) : Prop where
  ok : osc.kind = .function
  kind : scope.kind = .function
  nocell : ∀ y ∈ scope.names, y.2 ≠ .cell
  loc : ∀ y ∈ scope.names, y.2 = .local → scope.names.lookup y.1 = some .local
  fr : ∀ y ∈ scope.names, y.2 = .free → osc.names.lookup y.1 = some .cell
  nd : N'.Nodup
  len : π.length = N'.length
  cap : ∀ (i j : Nat) (x : Str), N'[i]? = some x → π[i]? = some (some j) → N[j]? = some x ∧ scope.names.lookup x = some .free

def capt (π : List (Option Nat)) (σ : St) : St := π.map fun o => o.bind fun j => (σ[j]?).join

/-- the block's context -/
def cxComp (X : Cx) (N' : List Str) (scope : Scope) (s : Shared) (H : Hp) (C : Addr) (fp : List Addr) (pn : List (Addr × Obj)) : Cx where
  prog := X.prog
  w := X.w
  K := X.K
  mg := X.mg
  base := X.base
  A := X.A
  N := N'
  s₀ := s
  H₀ := H
  env := compEnvC scope (closOf X.env.cells scope.names []) C X.env
  outer := X.stack
  stack := X.stack
  ex := fp
  fn := fun _ => false
  calm := X.calm
  pn := X.pn ++ pn
  xe := fun _ _ => False

theorem relabel_free {env : Env} {x : Str} (hf : env.scope.kind = .function) (hx : env.scope.names.lookup x = some .cell) : ∀ {ns : List (Str × NameKind)}, ns.lookup x = some .free →
    (ns.map fun y => if (y.2 == NameKind.free && env.scope.kind == .function && env.kindOf y.1 == some .cell) then (y.1, NameKind.cell) else (y.1, y.2)).lookup x = some .cell
  | [], h => by simp at h
  | y :: r, h => by
    rw [List.lookup_cons] at h
    rw [List.map_cons, List.lookup_cons]
    have hx' : env.kindOf x = some .cell := hx
    cases e : x == y.1 with
    | true =>
      rw [e] at h
      have en : x = y.1 := by simpa using e
      have hk : y.2 = .free := by simpa using h
      rw [hk, hf, ← en, hx']
      simp
    | false =>
      rw [e] at h
      have ih := relabel_free hf hx h
      by_cases q : (y.2 == NameKind.free && env.scope.kind == .function && env.kindOf y.1 == some .cell) = true
      · rw [if_pos q]
        simp only [e]
        exact ih
      · rw [if_neg q]
        simp only [e]
        exact ih

section
variable {X : Cx} {scope : Scope} {N' : List Str} {π : List (Option Nat)} {pins : List (Addr × Obj)} {σ : St} {H : Hp} {s : Shared} {fp : List Addr}

theorem capt_get {π : List (Option Nat)} {σ : St} {i : Nat} {v : V} (h : (capt π σ)[i]? = some (some v)) : ∃ j, π[i]? = some (some j) ∧ σ[j]? = some (some v) := by
  unfold capt at h
  rw [List.getElem?_map] at h
  cases e : π[i]? with
  | none => rw [e] at h; cases h
  | some o =>
    rw [e] at h
    cases o with
    | none => cases h
    | some j =>
      refine ⟨j, rfl, ?_⟩
      have h' : (σ[j]?).join = some v := Option.some.inj h
      cases q : σ[j]? with
      | none => rw [q] at h'; cases h'
      | some u => rw [q] at h'; exact congrArg some h'

/-- the block begins -/
theorem comp_start (S : CompScope X.env.scope X.N scope N' π) (hX : X.calm = true) (I : Inv X pins σ H s) (hf : ∀ b ∈ fp, FpOk X pins H b) (hfo : ∀ b ∈ fp, ∃ o, s.heap.get? b = some o) {h1 : Heap} {tk : Nat} {C : Addr} {m : Str → Option Value}
    (hk : ∀ b o, s.heap.get? b = some o → h1.get? b = some o) (hC : s.heap.objs.size ≤ C) (hn : h1.Ns C m) : Inv (cxComp X N' scope s H C fp pins) [] (capt π σ) H { s with heap := h1, toks := tk } := by
  have hfr : ∀ y ∈ scope.names, y.2 = .free → ∃ c, X.env.cells.lookup y.1 = some c := fun y hy k => I.ok.has y.1 (.inl (S.fr y hy k))
  have sub : ∀ x c, (closOf X.env.cells scope.names []).lookup x = some c → X.env.cells.lookup x = some c := fun x c e =>
    closOf_sub hfr (fun p hp => absurd hp (by simp)) _ (PySem.mem_of_lookup e)
  have stk := I.stkSub
  have nC : ∀ b o, s.heap.get? b = some o → b ≠ C := fun b o e => Nat.ne_of_lt (Nat.lt_of_lt_of_le (Heap.lt_size e) hC)
  have nofr : ∀ b, b ∈ fp → b ∉ frs X.stack := fun b hb z => by
    rcases List.mem_cons.mp (stk b z) with e | e
    · exact (hf b hb).2.1 e
    · exact (hf b hb).2.2.1 e
  refine ⟨⟨I.ok.mod, S.kind, I.ok.glob, I.ok.blt, hC, fun x y c e1 e2 => I.ok.inj x y c (sub _ _ e1) (sub _ _ e2), fun x hx => ?_, fun x c z => absurd z Bool.false_ne_true, fun _ => I.ok.hd hX, I.ok.frames, .inl rfl,
    fun b hb => ⟨fun e => ?_, fun x c e q => (hf b hb).2.2.2.2.1 x c (sub _ _ e) q⟩, fun b o e => I.bs b o e, Nat.le_trans I.ok.bsz I.sz, fun b o e hb => ?_, fun b hb => nofr b hb, I.stack, I.stkFree⟩, rfl, I.bare, Un.kept hk, ⟨m, hn, fun i x v e1 e2 e3 => ?_⟩, fun x c e => ?_, I.hok.fresh hC, fun x c e => I.freeC x c (sub _ _ e), fun p hp => ?_, I.hok.kept hk, ?_⟩
  · -- the cells are there
    have hx : (relabel scope X.env).names.lookup x = some .cell ∨ (relabel scope X.env).names.lookup x = some .free := hx
    have hmem : ∀ k, (relabel scope X.env).names.lookup x = some k → ∃ k', (x, k') ∈ scope.names ∧ (k = k' ∨ (k = .cell ∧ k' = .free)) := fun k e => by
      have := PySem.mem_of_lookup e
      obtain ⟨⟨n, k'⟩, hm, q⟩ := List.mem_map.mp this
      dsimp only at q
      split at q
      · rename_i z
        injection q with q1 q2
        subst q1
        refine ⟨k', hm, .inr ⟨q2.symm, ?_⟩⟩
        simp only [Bool.and_eq_true, beq_iff_eq] at z
        exact z.1.1
      · injection q with q1 q2
        subst q1
        exact ⟨k', hm, .inl q2.symm⟩
    have hfree : (x, NameKind.free) ∈ scope.names := by
      rcases hx with e | e
      · obtain ⟨k', hm, q | ⟨_, q⟩⟩ := hmem _ e
        · subst q; exact absurd rfl (S.nocell _ hm)
        · subst q; exact hm
      · obtain ⟨k', hm, q | ⟨q, _⟩⟩ := hmem _ e
        · subst q; exact hm
        · cases q
    obtain ⟨c, hc⟩ := hfr _ hfree rfl
    exact lookup_mem_some (closOf_has hc hfree)
  · obtain ⟨o, e'⟩ := hfo b hb
    exact nC b o e' e
  · rcases (hf b hb).2.2.2.1 with z | z
    · exact I.ok.noex b o e z
    · exact absurd (Heap.lt_size (I.ok.bs b o e).1) (Nat.not_lt.mpr z)
  · obtain ⟨j, e4, e5⟩ := capt_get e2
    obtain ⟨hN, hfree⟩ := S.cap i j x e1 e4
    have hcell := S.fr _ (PySem.mem_of_lookup hfree) rfl
    obtain ⟨m0, hn0, hl0⟩ := I.loc
    obtain ⟨u, ru, q⟩ := hl0 j x v hN e5 (.inr (.inl hcell))
    refine ⟨u, ru, ?_⟩
    rcases q with ⟨k, _⟩ | ⟨_, c, hc, z⟩
    · have k' : X.env.scope.names.lookup x = some .local := k
      rw [hcell] at k'
      cases k'
    · obtain ⟨d, hd⟩ := lookup_mem_some (closOf_has hc (PySem.mem_of_lookup hfree) (acc := []))
      have e6 := sub _ _ hd
      rw [hc] at e6
      cases e6
      exact .inr ⟨.inl (relabel_free S.ok hcell hfree), c, hd, z.keeps hk⟩
  · obtain ⟨v, z⟩ := I.cell x c (sub _ _ e)
    exact ⟨v, z.keeps hk⟩
  · have hp' : p ∈ X.pn ++ pins := by
      rcases List.mem_append.mp hp with z | z
      · exact z
      · cases z
    obtain ⟨e, n, ne, nf, d⟩ := I.pin p hp'
    refine ⟨hk _ _ e, n, nC _ _ e, fun z => ?_, d⟩
    rcases List.mem_cons.mp (stk _ z) with q | q
    · exact ne q
    · exact nf q
  · show (capt π σ).length = N'.length
    unfold capt
    rw [List.length_map, S.len]

/-- a list that no one tracked is tracked -/
theorem hok_lst {P : Program} {w : World} {h : Heap} {D : Addr} {ys : List V} {its : List Value} {n : Nat} (ok : HOk P w H h) (hD : H D = none) (ho : h.get? D = some { cls := .type "list", data := .seq its.toArray n })
    (r : Vals ys its) (hz : ys.length ≤ sizeLine) : HOk P w (upd H D (.lst ys)) h := by
  intro b ob e
  have ne : ∀ c u, H c = some u → c ≠ D := fun c u q z => by rw [z, hD] at q; cases q
  by_cases hb : b = D
  · subst hb
    rw [upd_same] at e
    cases e
    exact ⟨hz, its, n, r, ho⟩
  · rw [upd_ne hb] at e
    exact (ok b ob e).stay (fun _ _ _ q => q) (fun c q => by rw [upd_ne (ne _ _ q)]; exact q) fun c xs q => by rw [upd_ne (ne _ _ q)]; exact q

/-- the block's end, its list tracked -/
theorem comp_end (I : Inv X pins σ H s) (hf : ∀ b ∈ fp, FpOk X pins H b) {C D : Addr} {pins' : List (Addr × Obj)} {σ' : St} {H' : Hp} {s' : Shared} (J : Inv (cxComp X N' scope s H C fp pins) pins' σ' H' s')
    (hD : H' D = none) (hDs : s.heap.objs.size ≤ D) {ys : List V} {its : List Value} {n : Nat} (ho : s'.heap.get? D = some { cls := .type "list", data := .seq its.toArray n }) (r : Vals ys its) (hz : ys.length ≤ sizeLine) :
    Inv X pins σ (upd H' D (.lst ys)) s' := by
  have nD : ∀ b o, s.heap.get? b = some o → b ≠ D := fun b o e => Nat.ne_of_lt (Nat.lt_of_lt_of_le (Heap.lt_size e) hDs)
  have ne : ∀ c u, H' c = some u → c ≠ D := fun c u q z => by rw [z, hD] at q; cases q
  have u : Un (frs X.stack) fp H H' s.heap s'.heap := J.base
  refine I.call' (ch := fp) J.os ⟨u.keep, u.slot, fun b o e h1 h2 => ?_, u.there, fun b xs q => ?_, fun b o v q => ?_, fun b ps q => ?_⟩ (hok_lst J.hok hD ho r hz) J.bare fun b hb => ⟨(hf b hb).2.2.2.1, (hf b hb).2.1, (hf b hb).2.2.2.2.1, (hf b hb).2.2.2.2.2⟩
  · rw [upd_ne (nD b o e)]
    exact u.free b o e h1 h2
  · have z := u.tups b xs q
    rw [upd_ne (ne _ _ z)]; exact z
  · have z := u.frzs b o v q
    rw [upd_ne (ne _ _ z)]; exact z
  · obtain ⟨more, z⟩ := u.tbls b ps q
    exact ⟨more, by rw [upd_ne (ne _ _ z)]; exact z⟩
end

/-- the tests of a clause -/
def PIfs (X : Cx) (ifs : List Expr) (t : TT) : Prop :=
  ∀ (pins : List (Addr × Obj)) (s : Shared) (σ : St) (H : Hp) (Q : Bool → Hp → Prop), Inv X pins σ H s → t σ H Q →
    wpAny (model X.prog X.w) X.A (forIn ifs true fun c r => if r = true then do let ok ← isTrue c X.env (eval c X.env); pure (ForInStep.yield ok) else pure (ForInStep.yield r)) (TP X pins σ Q) X.xe s
def tNoIf : TT := fun _ H Q => Q true H
theorem pifs_nil {X : Cx} : PIfs X [] tNoIf := fun _ _ _ H _ I h => wpAny_tests_nil ⟨H, I, h⟩
theorem comp_turns {prog : Program} {w : World} {A : Around} {R : Result → Shared → Prop} {s : Shared} {elt tg iter : Expr} {ifs : List Expr} {scope : Scope} {pos : Pos} {it acc : Value} {env : Env} (I : Nat → Shared → Prop)
    (turn : ∀ n s, I n s → wpAny (model prog w) A (pyNext it) (fun r s1 => match r with
      | none => R (.ok .next) s1
      | some v => wpAny (model prog w) A (letOwnedTupleGo tg it v) (fun _ s2 => wpAny (model prog w) A (assign tg env v) (fun _ s3 =>
          wpAny (model prog w) A (forIn ifs true fun c r => if r = true then do let ok ← isTrue c env (eval c env); pure (ForInStep.yield ok) else pure (ForInStep.yield r)) (fun ok s4 =>
            if ok = true then wpAny (model prog w) A (eval elt env) (fun x s5 => wpAny (model prog w) A (call (.builtin "list.append") [acc, x]) (fun _ s6 => ∃ m, m < n ∧ I m s6) (fun _ _ => False) s5) (fun _ _ => False) s4
            else ∃ m, m < n ∧ I m s4) (fun _ _ => False) s3) (fun _ _ => False) s2) (fun _ _ => False) s1) (fun _ _ => False) s)
    (n : Nat) (h : I n s) : codeAny (model prog w) A (.compLoop (.ListComp elt [⟨tg, iter, ifs, 0⟩] scope pos) 0 it acc env) R s := by
  refine codeAny_loop rfl I (fun n s hI => ?_) n h
  refine wpAny_noted (m := compTurn (.ListComp elt [⟨tg, iter, ifs, 0⟩] scope pos) 0 it acc env) ?_
  rw [compTurn_list]
  have no : ∀ {E : Value → Shared → Prop} (x : Value) (s : Shared), False → E x s := fun _ _ f => f.elim
  refine wpAny_bind (wpAny_standAt (wpAny_bind (wpAny_mono (turn n s hI) (fun r s1 h1 => ?_) no)))
  cases r with
  | none => exact wpAny_pure h1
  | some v =>
    refine wpAny_bind (wpAny_mono h1 (fun _ s2 h2 => ?_) no)
    refine wpAny_bind (wpAny_mono h2 (fun _ s3 h3 => ?_) no)
    refine wpAny_bind (wpAny_mono h3 (fun ok s4 h4 => ?_) no)
    cases ok with
    | false => exact wpAny_pure ⟨rfl, h4⟩
    | true =>
      refine wpAny_bind (wpAny_bind (wpAny_mono h4 (fun x s5 h5 => ?_) no))
      exact wpAny_bind (wpAny_mono h5 (fun _ s6 h6 => wpAny_pure (wpAny_pure ⟨rfl, h6⟩)) no)

/-- W: the turn, a measure, what is gathered, the block's names, the heap -/
def tComp (wi : TI) (π : List (Option Nat)) (g : TG) (tt : TT) (te : TE) : TE := fun σ H Q => wi σ H fun J H1 =>
  ∃ W : Nat → Nat → List V → St → Hp → Prop, (∃ m, W 0 m [] (capt π σ) H1) ∧ ∀ i m ys σ' H', W i m ys σ' H' →
    (J.stop i H' ∧ ∀ D, H' D = none → Q (.ref D) (upd H' D (.lst ys))) ∨
    (J.go i H' ∧ ys.length < sizeLine ∧ ∃ N : List V → St → Hp → Prop, (∀ ys' σ2 H2, N ys' σ2 H2 → ∃ m', m' < m ∧ W (i + 1) m' ys' σ2 H2) ∧ ∀ x H2, J.yld i H' x H2 → g x σ' H2 fun σ2 H3 => tt σ2 H3 fun c H4 =>
      if c = true then te σ2 H4 fun y H5 => N (ys ++ [y]) σ2 H5 else N ys σ2 H4)

section
variable {X : Cx} {scope : Scope} {N' : List Str} {π : List (Option Nat)} {tg iter elt : Expr} {ifs : List Expr} {pos : Pos} {wi : TI} {g : TG} {tt : TT} {te : TE}

/-- the block, from its iterator on: D its list, C its frame -/
theorem comp_block (S : CompScope X.env.scope X.N scope N' π) (hc : X.calm = true) {pins : List (Addr × Obj)} {σ : St} {Q : VK} {itv : Value} {s : Shared} {E : Value → Shared → Prop} {RR : Value → Addr → Result → Shared → Prop}
    (hg : ∀ s H C fp pn, PG (cxComp X N' scope s H C fp pn) tg g) (ht : ∀ s H C fp pn, PIfs (cxComp X N' scope s H C fp pn) ifs tt) (he : ∀ s H C fp pn, PE (cxComp X N' scope s H C fp pn) elt te)
    (h : PIE X pins σ tg (fun J H1 => ∃ W : Nat → Nat → List V → St → Hp → Prop, (∃ m, W 0 m [] (capt π σ) H1) ∧ ∀ i m ys σ' H', W i m ys σ' H' →
      (J.stop i H' ∧ ∀ D, H' D = none → Q (.ref D) (upd H' D (.lst ys))) ∨
      (J.go i H' ∧ ys.length < sizeLine ∧ ∃ N : List V → St → Hp → Prop, (∀ ys' σ2 H2, N ys' σ2 H2 → ∃ m', m' < m ∧ W (i + 1) m' ys' σ2 H2) ∧ ∀ x H2, J.yld i H' x H2 → g x σ' H2 fun σ2 H3 => tt σ2 H3 fun c H4 =>
        if c = true then te σ2 H4 fun y H5 => N (ys ++ [y]) σ2 H5 else N ys σ2 H4)) itv s)
    (hRR : ∀ D C s' H', Inv X pins σ H' s' → Q (.ref D) H' → (∃ m, s'.heap.Ns C m) → FpOk X pins H' C → RR (.ref D) C (.ok .next) s') :
    wpAny (model X.prog X.w) X.A (newList []) (fun acc s3 => wpAny (model X.prog X.w) X.A (newFunctionEnv scope X.env.globals (closOf X.env.cells scope.names []) [] X.env.qual none .none (some X.env)) (fun cenv s4 =>
      codeAny (model X.prog X.w) X.A (.compStart (.ListComp elt [⟨tg, iter, ifs, 0⟩] scope pos) 0 itv acc { cenv with scope := relabel scope X.env }) (RR acc cenv.locals) s4) E s3) E s := by
  obtain ⟨it, fp, tn, J, H2, e, I2, T, st2, f2, W, ⟨m0, w0⟩, turn⟩ := h
  subst e
  have fo := T.obj _ _ st2
  refine wpAny_newObj_type (wpAny_newFunctionEnv S.nocell (by intro y hy; cases hy) (fun h1 hns1 hsb1 => ?_) S.kind)
  dsimp only at hns1 hsb1 ⊢
  generalize hG : s.heap.push { cls := .type "list", dict := none, data := .seq ([] : List Value).toArray } = G at hns1 hsb1 ⊢
  have hGs : G.objs.size = s.heap.objs.size + 1 := by rw [← hG, Heap.size_push]
  have hDC : s.heap.objs.size ≠ G.objs.size := by rw [hGs]; exact Nat.ne_of_lt (Nat.lt_succ_self _)
  have ltG : ∀ b o, s.heap.get? b = some o → b ≠ G.objs.size := fun b o e => by rw [hGs]; exact Nat.ne_of_lt (Nat.lt_succ_of_lt (Heap.lt_size e))
  have leG : s.heap.objs.size ≤ G.objs.size := by rw [hGs]; exact Nat.le_succ _
  have old : ∀ b o, s.heap.get? b = some o → h1.get? b = some o := fun b o e =>
    (hsb1.2 b (ltG b o e)).trans (Heap.get?_push_of_some _ (hG ▸ Heap.get?_push_of_some _ e))
  have hacc : h1.get? s.heap.objs.size = some { cls := .type "list", data := .seq ([] : List Value).toArray } :=
    (hsb1.2 _ hDC).trans (Heap.get?_push_of_some _ (hG ▸ Heap.get?_push_size _ rfl))
  have I3 : Inv (cxComp X N' scope s H2 G.objs.size fp pins) [] (capt π σ) H2 { s with heap := h1, toks := s.toks + ([] : List (Str × Value)).length } :=
    comp_start S hc I2 f2 (fun b hb => let ⟨o, e, _⟩ := fo b hb; ⟨o, e⟩) old leG hns1
  have st3 : tn 0 h1 := T.keep _ _ _ st2 fun b _ o e => old b o e
  have dlt : ∀ b o, s.heap.get? b = some o → b ≠ s.heap.objs.size := fun b o e => Nat.ne_of_lt (Heap.lt_size e)
  have fpD : ∀ b ∈ fp, b ≠ s.heap.objs.size := fun b hb => let ⟨o, e, _⟩ := fo b hb; dlt b o e
  have celD : ∀ x c, (closOf X.env.cells scope.names []).lookup x = some c → c ≠ s.heap.objs.size ∧ ∀ b ∈ fp, c ≠ b := fun x c e => by
    have e1 := closOf_sub (fun y hy k => I2.ok.has y.1 (.inl (S.fr y hy k))) (fun p hp => absurd hp (by simp)) _ (PySem.mem_of_lookup e)
    obtain ⟨v, o, z, _⟩ := I2.cell x c e1
    exact ⟨dlt c o z, fun b hb => (f2 b hb).2.2.2.2.1 x c e1⟩
  have pnD : ∀ p ∈ X.pn ++ pins, p.1 ≠ s.heap.objs.size := fun p hp => dlt _ _ (I2.pin p hp).1
  have stkD : s.heap.objs.size ∉ frs X.stack := fun z => by
    obtain ⟨_, o, ho, _⟩ := I2.stack.mem z
    exact dlt _ _ ho rfl
  have fpS : ∀ b ∈ fp, b ∉ frs X.stack := fun b hb z => by
    rcases List.mem_cons.mp (I2.stkSub b z) with e | e
    · exact (f2 b hb).2.1 e
    · exact (f2 b hb).2.2.1 e
  have fpC : ∀ b ∈ fp, b ≠ G.objs.size := fun b hb => by
    obtain ⟨o, e, _⟩ := fo b hb
    exact ltG b o e
  -- the block's iterator, its list pinned
  have fpk : ∀ (ob : Obj) {H' : Hp}, (∀ b ∈ fp, H' b = none) → ∀ b ∈ fp, FpOk (cxComp X N' scope s H2 G.objs.size fp pins) [(s.heap.objs.size, ob)] H' b := fun ob H' hn b hb =>
    ⟨hn b hb, fpC b hb, fpS b hb, .inl hb, fun x c e => (celD x c e).2 b hb, fun p hp => by
      rcases List.mem_append.mp hp with z | z
      · exact (f2 b hb).2.2.2.2.2 p z
      · rw [List.mem_singleton.mp z]; exact (fpD b hb).symm⟩
  have pinD : ∀ {σ' : St} {H' : Hp} {s' : Shared} {its : List Value} {k : Nat}, Inv (cxComp X N' scope s H2 G.objs.size fp pins) [] σ' H' s' → H' s.heap.objs.size = none →
      s'.heap.get? s.heap.objs.size = some { cls := .type "list", data := .seq its.toArray k } → Inv (cxComp X N' scope s H2 G.objs.size fp pins) [(s.heap.objs.size, { cls := .type "list", data := .seq its.toArray k })] σ' H' s' :=
    fun {σ' H' s' its k} J hD ho => J.pins_of fun p hp => by
      rw [List.mem_singleton.mp hp]
      exact ⟨ho, hD, hDC, stkD, fun v z => by cases z⟩
  have main : codeAny (model X.prog X.w) X.A (.compLoop (.ListComp elt [⟨tg, iter, ifs, 0⟩] scope pos) 0 (.ref it) (.ref s.heap.objs.size) (compEnvC scope (closOf X.env.cells scope.names []) G.objs.size X.env)) (RR (.ref s.heap.objs.size) G.objs.size)
      { s with heap := h1, toks := s.toks + ([] : List (Str × Value)).length } := by
    refine comp_turns (fun n s' => ∃ i ys its k σ' H', Inv (cxComp X N' scope s H2 G.objs.size fp pins) [] σ' H' s' ∧ tn i s'.heap ∧ (∀ b ∈ fp, H' b = none) ∧ s'.heap.get? s.heap.objs.size = some { cls := .type "list", data := .seq its.toArray k } ∧ H' s.heap.objs.size = none ∧ Vals ys its ∧ ys.length ≤ sizeLine ∧ W i n ys σ' H') ?_ m0
      ⟨0, [], [], 0, capt π σ, H2, I3, st3, fun b hb => (f2 b hb).1, hacc, I2.hok.fresh (Nat.le_refl _), .nil, Nat.zero_le _, w0⟩
    rintro n s4 ⟨i, ys, its, k, σ4, H4, I4, st4, fr4, ho4, hD4, r4, z4, w4⟩
    have I4' := pinD I4 hD4 ho4
    rcases turn i n ys σ4 H4 w4 with ⟨stop, qn⟩ | ⟨go, hlen, N, hN, step⟩
    · refine thn (T.done (cxComp X N' scope s H2 G.objs.size fp pins) rfl rfl rfl hc i _ s4 σ4 H4 (fun _ _ => False) I4' (fpk _ fr4) st4 stop) fun r s5 ⟨hr, I5⟩ => ?_
      subst hr
      have p5 := I5.pin _ (List.mem_append_right _ (List.mem_singleton.mpr rfl))
      have I6 := comp_end I2 f2 I5 hD4 (Nat.le_refl _) p5.1 r4 z4
      refine hRR _ _ s5 _ I6 (qn _ hD4) (let ⟨m, hn, _⟩ := I5.loc; ⟨m, hn⟩) (I2.fpOk leG ?_)
      rw [upd_ne (Ne.symm hDC)]
      exact I5.free
    · refine thn (T.item (cxComp X N' scope s H2 G.objs.size fp pins) rfl rfl rfl hc i _ s4 σ4 H4 (fun _ _ => False) I4' (fpk _ fr4) st4 go) fun r s5 ⟨u, hr, h5⟩ => ?_
      subst hr
      refine thn h5 fun _ s6 ⟨x, H6, I6, r6, y6, st6, fr6⟩ => ?_
      have I6' := I6.pinned (fpk _ fr6) (T.obj _ _ st6)
      refine thn (hg _ _ _ _ _ _ s6 σ4 H6 x u _ I6' r6 (step x H6 y6)) fun _ s7 ⟨σ7, H7, I7, q7⟩ => ?_
      refine thn (ht _ _ _ _ _ _ s7 σ7 H7 _ I7 q7) fun ok s8 ⟨H8, I8, q8⟩ => ?_
      -- what stands behind the turn's code
      have rest : ∀ {s9 : Shared} {H9 : Hp}, Inv (cxComp X N' scope s H2 G.objs.size fp pins) ([(s.heap.objs.size, { cls := .type "list", data := .seq its.toArray k })] ++ pinsAt fp s6.heap) σ7 H9 s9 →
          s9.heap.get? s.heap.objs.size = some { cls := .type "list", data := .seq its.toArray k } ∧ H9 s.heap.objs.size = none ∧ (∀ b ∈ fp, ∀ o, s6.heap.get? b = some o → s9.heap.get? b = some o) ∧ ∀ b ∈ fp, H9 b = none := fun {s9 H9} I9 => by
        have p9 := I9.pin _ (List.mem_append_right _ (List.mem_append_left _ (List.mem_singleton.mpr rfl)))
        refine ⟨p9.1, p9.2.1, fun b hb o e => (I9.pin (b, o) (List.mem_append_right _ (List.mem_append_right _ (mem_pinsAt hb e)))).1, fun b hb => ?_⟩
        obtain ⟨o, e, _⟩ := T.obj _ _ st6 b hb
        exact (I9.pin (b, o) (List.mem_append_right _ (List.mem_append_right _ (mem_pinsAt hb e)))).2.1
      cases ok with
      | false =>
        obtain ⟨m', hm, w8⟩ := hN _ _ _ (show N ys σ7 H8 from q8)
        obtain ⟨a1, a2, a3, a4⟩ := rest I8
        exact ⟨m', hm, i + 1, ys, its, k, σ7, H8, I8.pins_of (fun p hp => by cases hp), T.keep _ _ _ st6 a3, a4, a1, a2, r4, z4, w8⟩
      | true =>
        refine thn (he _ _ _ _ _ _ s8 σ7 H8 _ I8 q8) fun y s9 ⟨v, H9, I9, r9, q9⟩ => ?_
        obtain ⟨m', hm, w9⟩ := hN _ _ _ q9
        obtain ⟨a1, a2, a3, a4⟩ := rest I9
        have hl : its.length = ys.length := r4.length.symm
        refine wpAny_list_append_plain (items := its.toArray) ⟨k, a1⟩ (fun h' hl' hs' => ?_) (by rw [List.size_toArray]; omega)
        obtain ⟨k', ho'⟩ := hl'
        have I10 : Inv (cxComp X N' scope s H2 G.objs.size fp pins) [] σ7 H9 { s9 with heap := h' } := (I9.pins_of (pins' := []) fun p hp => by cases hp).turned (t' := s9.toks) (it := s.heap.objs.size) (fun b o hb e => (hs'.2 b hb).trans e) a2 hDC (.inr (Nat.le_refl _))
          (fun x c e => (celD x c e).1) fun p hp => by
            rcases List.mem_append.mp hp with z | z
            · exact pnD p z
            · cases z
        refine ⟨m', hm, i + 1, ys ++ [v], its ++ [y], k', σ7, H9, I10, T.keep _ _ _ st6 fun b hb o e => (hs'.2 b (fpD b hb)).trans (a3 b hb o e), a4, ?_, a2, r4.append (.cons r9 .nil), by rw [List.length_append, List.length_singleton]; omega, w9⟩
        rw [show (its ++ [y]).toArray = its.toArray.push y by simp]
        exact ho'
  exact codeAny_compStart_list main (T.self _ 0 _ _ _ st3 main)

variable {spos pos' : Pos} {x : Str} {i : Nat}

theorem pe_comp (S : CompScope X.env.scope X.N scope N' π) (hc : X.calm = true) (hi : PI X tg iter wi) (hg : ∀ s H C fp pn, PG (cxComp X N' scope s H C fp pn) tg g) (ht : ∀ s H C fp pn, PIfs (cxComp X N' scope s H C fp pn) ifs tt)
    (he : ∀ s H C fp pn, PE (cxComp X N' scope s H C fp pn) elt te) (hs : ∀ x, foldedSetIterable iter X.env x = pure x := by intro _; rfl) : PE X (.ListComp elt [⟨tg, iter, ifs, 0⟩] scope pos) (tComp wi π g tt te) := by
  intro pins s σ H Q I h
  rw [eval_ListComp]
  refine wpAny_comprehension_free (use := none) rfl hs (clos_is fun y hy k => I.ok.has y.1 (.inl (S.fr y hy k))) S.kind S.loc (thn (hi pins s σ H _ I h) fun v s1 h1 => thn h1 fun itv s2 h2 => ?_)
  refine comp_block (RR := fun acc C => compPost (model X.prog X.w) X.A X.xe none (EP X pins σ Q) acc C) S hc hg ht he h2 fun D C s' H' I' q hn f => ?_
  obtain ⟨m, hn⟩ := hn
  exact ⟨m, hn, fun h' hs' => ⟨.ref D, H', I'.turned (t' := s'.toks) (it := C) (fun b o hb e => (hs'.2 b hb).trans e) f.1 f.2.1 f.2.2.2.1 f.2.2.2.2.1 f.2.2.2.2.2, rfl, q⟩⟩

end
end L2

namespace L2
open PySem PySem.Spec PyProof.Rows

section
variable {X : Cx} {pins : List (Addr × Obj)} {σ : St} {H : Hp} {s : Shared} {h' : Heap} {ch : List Addr}

/-- records of ours have turned, and a tuple is laid behind the heap's end -/
theorem Inv.drew {T : Addr} {xs : List V} {its : List Value} {t' : Nat} (I : Inv X pins σ H s) (hf : ∀ b ∈ ch, FpOk X pins H b) (k : ∀ b o, b ∉ ch → s.heap.get? b = some o → h'.get? b = some o)
    (hT : s.heap.objs.size ≤ T) (r : Vals xs its) (ho : IsTup h' T its.toArray) (hz : xs.length ≤ sizeLine) : Inv X pins σ (upd H T (.tup xs)) { s with heap := h', toks := t' } := by
  have nT : ∀ b o, s.heap.get? b = some o → b ≠ T := fun b o e => Nat.ne_of_lt (Nat.lt_of_lt_of_le (Heap.lt_size e) hT)
  have hHT : H T = none := I.hok.fresh hT
  have ne : ∀ c u, H c = some u → c ≠ T := fun c u q z => by rw [z, hHT] at q; cases q
  have nch : ∀ c u, H c = some u → c ∉ ch := fun c u q z => by rw [(hf c z).1] at q; cases q
  refine I.step (g' := s.gens) (d' := s.drawn) (ch := ch) (fun b hb => ⟨(hf b hb).2.2.2.1, (hf b hb).2.1, (hf b hb).2.2.2.2.1, (hf b hb).2.2.2.2.2⟩) (fun b o _ _ hb e _ => k b o hb e) (fun b o _ _ hb e _ => ⟨o.slots, k b o hb e⟩)
    (fun b o hb e n => by rw [upd_ne (nT b o e)]; exact n) (fun b o hb e => ⟨o, k b o hb e⟩) (fun b ys q => by rw [upd_ne (ne _ _ q)]; exact q) (fun b o u q => by rw [upd_ne (ne _ _ q)]; exact q)
    (fun b ps q => ⟨#[], by rw [upd_ne (ne _ _ q)]; simpa using q⟩) (fun m hn => hn.at fun o e => k _ o (fun z => (hf _ z).2.1 rfl) e) ?_ I.bare
  intro b ob e
  by_cases hb : b = T
  · subst hb
    rw [upd_same] at e
    cases e
    exact ⟨hz, its, r, ho⟩
  · rw [upd_ne hb] at e
    refine (I.hok b ob e).stay (fun c u hc q => k c u ?_ q) (fun c q => by rw [upd_ne (ne _ _ q)]; exact q) fun c ys q => by rw [upd_ne (ne _ _ q)]; exact q
    rcases hc with rfl | hc
    · exact nch _ _ e
    · exact nch _ _ hc

/-- records of ours have turned -/
theorem Inv.turnedL {t' : Nat} (I : Inv X pins σ H s) (hf : ∀ b ∈ ch, FpOk X pins H b) (k : ∀ b o, b ∉ ch → s.heap.get? b = some o → h'.get? b = some o) : Inv X pins σ H { s with heap := h', toks := t' } := by
  have nch : ∀ c u, H c = some u → c ∉ ch := fun c u q z => by rw [(hf c z).1] at q; cases q
  refine I.step (g' := s.gens) (d' := s.drawn) (ch := ch) (fun b hb => ⟨(hf b hb).2.2.2.1, (hf b hb).2.1, (hf b hb).2.2.2.2.1, (hf b hb).2.2.2.2.2⟩) (fun b o _ _ hb e _ => k b o hb e) (fun b o _ _ hb e _ => ⟨o.slots, k b o hb e⟩)
    (fun b o hb e n => n) (fun b o hb e => ⟨o, k b o hb e⟩) (fun b ys q => q) (fun b o u q => q) (fun b ps q => ⟨#[], by simpa using q⟩) (fun m hn => hn.at fun o e => k _ o (fun z => (hf _ z).2.1 rfl) e) ?_ I.bare
  intro b ob e
  refine (I.hok b ob e).stay (fun c u hc q => k c u ?_ q) (fun c q => q) fun c ys q => q
  rcases hc with rfl | hc
  · exact nch _ _ e
  · exact nch _ _ hc
end

/-- the pairs of a list with their places -/
def Ite (K : PySem.W.Frag) (a : Addr) : It :=
  ⟨fun i H => ∃ xs x, SqL K H a xs ∧ xs[i]? = some x, fun i H x H' => ∃ T v, x = .ref T ∧ H T = none ∧ H' = upd H T (.tup [.int i, v]) ∧ ∀ xs, SqL K H a xs → xs[i]? = some v, fun i H => ∃ xs, SqL K H a xs ∧ xs.length ≤ i⟩

theorem turn_enum {P : Program} {w : World} {K : PySem.W.Frag} {elts : List Expr} {x1 : Nat} {tp : Pos} (a e it : Addr) (hei : e ≠ it) :
    Turn P w K (.Tuple elts x1 tp) (Ite K a) [e, it] e (fun i h => (∃ old, IsEnum h e it i old) ∧ h.IsListIter it a i) where
  mem := by simp
  obj := fun i h st b hb => by
    obtain ⟨⟨old, he⟩, o, ho, _, hd⟩ := st
    rcases List.mem_cons.mp hb with q | q
    · subst q
      exact ⟨_, he, fun v z => by cases z⟩
    · rw [List.mem_singleton.mp q]
      exact ⟨o, ho, fun v z => by rw [hd] at z; cases z⟩
  keep := fun i h h' st k => by
    obtain ⟨⟨old, he⟩, hit⟩ := st
    exact ⟨⟨old, k e (by simp) _ he⟩, hit.at fun o q => k it (by simp) o q⟩
  item := by
    intro X hP hw hK hc i pins s σ H E I hf st hg
    subst hP hw hK
    obtain ⟨⟨old, he⟩, hit⟩ := st
    obtain ⟨xs, x, hq, hx⟩ := hg
    obtain ⟨its, rv, p, hz⟩ := I.list hq
    obtain ⟨u, hu, ru⟩ := rv.get hx
    refine wpAny_pyNext_enum_item he hit p.isList (x := u) (by simpa using hu) hei fun h1 ho hit1 hT hsz hk => ?_
    have I1 : Inv X pins σ (upd H s.heap.objs.size (.tup [.int i, x])) { s with heap := h1, toks := s.toks + 1 } :=
      I.drew (ch := [e, it]) hf (fun b o hb q => hk b o (fun z => hb (by simp [z])) (fun z => hb (by simp [z])) q) (Nat.le_refl _) (its := [.int i s.toks, u]) (.cons ⟨_, rfl⟩ (.cons ru .nil)) ⟨_, hT, rfl, _, rfl⟩ (by show 2 ≤ sizeLine; decide)
    have hTn : H s.heap.objs.size = none := I.hok.fresh (Nat.le_refl _)
    have heT : e ≠ s.heap.objs.size := Nat.ne_of_lt (Heap.lt_size he)
    have hiT : it ≠ s.heap.objs.size := by obtain ⟨o, q, _⟩ := hit; exact Nat.ne_of_lt (Heap.lt_size q)
    refine ⟨_, rfl, wpAny_letOwnedTupleGo_enum ho fun h2 he2 hs2 => ?_⟩
    have f1 := hf e (by simp)
    have I2 : Inv X pins σ (upd H s.heap.objs.size (.tup [.int i, x])) { s with heap := h2, toks := s.toks + 1 } :=
      Inv.turned (s := { s with heap := h1, toks := s.toks + 1 }) I1 (t' := s.toks + 1) (it := e) (fun b o hb q => (hs2.2 b hb).trans q) (by rw [upd_ne heT]; exact f1.1) f1.2.1 f1.2.2.2.1 f1.2.2.2.2.1 f1.2.2.2.2.2
    refine ⟨.ref s.heap.objs.size, _, I2, rfl, ⟨_, x, rfl, hTn, rfl, fun ys hy => by rw [I.list_inj hy hq]; exact hx⟩, ⟨⟨_, by simpa using he2⟩, hit1.at fun o q => (hs2.2 it hei.symm).trans q⟩, fun b hb => ?_⟩
    rcases List.mem_cons.mp hb with q | q
    · rw [q, upd_ne heT]; exact f1.1
    · rw [List.mem_singleton.mp q, upd_ne hiT]; exact (hf it (by simp)).1
  done := by
    intro X hP hw hK hc i pins s σ H E I hf st hg
    subst hP hw hK
    obtain ⟨⟨old, he⟩, hit⟩ := st
    obtain ⟨xs, hq, hx⟩ := hg
    obtain ⟨its, rv, p, hz⟩ := I.list hq
    have hl := rv.length
    obtain ⟨f0, f1, f2, f3, f4, f5⟩ := hf it (by simp)
    exact wpAny_pyNext_enum_end (I.ok.hd hc) he hit p.isList (by simp; omega) fun h1 eb => ⟨rfl, I.turned (t' := s.toks) (fun b o hb q => eb b o hb q) f0 f1 f3 f4 f5⟩
  self := fun _ _ _ _ _ st h => by
    obtain ⟨⟨old, he⟩, _⟩ := st
    exact wpAny_pyIter_enum he h

/-- the pairs of two lists -/
def Itz (K : PySem.W.Frag) (a b : Addr) : It :=
  ⟨fun i H => ∃ xs ys x y, SqL K H a xs ∧ SqL K H b ys ∧ xs[i]? = some x ∧ ys[i]? = some y,
   fun i H x H' => ∃ T v w, x = .ref T ∧ H T = none ∧ H' = upd H T (.tup [v, w]) ∧ (∀ xs, SqL K H a xs → xs[i]? = some v) ∧ ∀ ys, SqL K H b ys → ys[i]? = some w,
   fun i H => ∃ xs ys, SqL K H a xs ∧ SqL K H b ys ∧ (xs.length ≤ i ∨ ys.length ≤ i)⟩

section
variable {X : Cx}
def iEnum (K : PySem.W.Frag) (ta : TA) : TI := fun σ H R => ta σ H fun vs H1 => ∃ a, vs = [.ref a] ∧ (∃ xs, SqL K H1 a xs) ∧ R (Ite K a) H1
theorem pi_enum {a : Expr} {ta : TA} {p pos tp : Pos} {elts : List Expr} {x1 : Nat} (hg : Gl X "enumerate") (hm : X.mg "enumerate" = none) (ha : PA X [a] ta) (hs : starEach [a] X.env = [(false, eval a X.env)] := by rfl) :
    PI X (.Tuple elts x1 tp) (.Call (.Name "enumerate" p) [a] [] pos) (iEnum X.K ta) := by
  intro pins s σ H R I h
  refine Call_ (ld_blt I hg hm boot_enumerate (PyProof.Rows.callWith_type1 (thn (ha pos pins s σ H _ I h) fun us s1 ⟨vs, H1, I1, r1, q1⟩ => ?_) hs rfl))
  obtain ⟨l, ev, ⟨xs, hq⟩, q⟩ := q1
  subst ev
  obtain ⟨u, rfl, ru⟩ := vals1 r1
  cases ru
  obtain ⟨its, rv, pl, hz⟩ := I1.list hq
  refine call_enumerate_list pl.isList fun h1 he hit hsz hk => ?_
  refine wpAny_pyIter_enum he ?_
  have I2 : Inv X pins σ H1 { s1 with heap := h1 } := I1.kept (t' := s1.toks) hk
  refine ⟨s1.heap.objs.size + 1, [s1.heap.objs.size + 1, s1.heap.objs.size], _, _, H1, rfl, I2, turn_enum l _ _ (Nat.succ_ne_self _), ⟨⟨_, he⟩, hit⟩, fun b hb => ?_, q⟩
  rcases List.mem_cons.mp hb with e | e
  · subst e
    exact I1.fpOk (Nat.le_succ _) (I1.hok.fresh (Nat.le_succ _))
  · rw [List.mem_singleton.mp e]
    exact I1.fpOk (Nat.le_refl _) (I1.hok.fresh (Nat.le_refl _))
end

theorem nolist (T : String) (h : T ≠ "list") : Value.type T = .type "list" → False := fun e => h (by injection e)
theorem nA {a b : Nat} (h : a < b ∨ b < a) : a ≠ b := by omega
theorem turn_zip {P : Program} {w : World} {K : PySem.W.Frag} {elts : List Expr} {x1 : Nat} {tp : Pos} (a b : Addr) (n : Nat) :
    Turn P w K (.Tuple elts x1 tp) (Itz K a b) [n + 4, n + 2, n + 3, n, n + 1] (n + 4)
      (fun i h => IsZip h (n + 4) (n + 2) (n + 3) .none ∧ IsPair h (n + 2) (.ref n) (.ref (n + 1)) ∧ (∃ u v, IsPair h (n + 3) u v) ∧ h.IsListIter n a i ∧ h.IsListIter (n + 1) b i) where
  mem := by simp
  obj := fun i h st c hc => by
    obtain ⟨h1, h2, ⟨u, v, h3⟩, ⟨o4, h4, _, d4⟩, ⟨o5, h5, _, d5⟩⟩ := st
    simp only [List.mem_cons, List.not_mem_nil, or_false] at hc
    rcases hc with q | q | q | q | q
    · rw [q]; exact ⟨_, h1, fun v z => by cases z⟩
    · rw [q]; exact ⟨_, h2, fun v z => by cases z⟩
    · rw [q]; exact ⟨_, h3, fun v z => by cases z⟩
    · rw [q]; exact ⟨_, h4, fun v z => by rw [d4] at z; cases z⟩
    · rw [q]; exact ⟨_, h5, fun v z => by rw [d5] at z; cases z⟩
  keep := fun i h h' st k => by
    obtain ⟨h1, h2, ⟨u, v, h3⟩, h4, h5⟩ := st
    exact ⟨k _ (by simp) _ h1, k _ (by simp) _ h2, ⟨u, v, k _ (by simp) _ h3⟩, h4.at fun o q => k _ (by simp) o q, h5.at fun o q => k _ (by simp) o q⟩
  item := by
    intro X hP hw hK hc i pins s σ H E I hf st hg
    subst hP hw hK
    obtain ⟨z1, z2, ⟨u0, v0, z3⟩, z4, z5⟩ := st
    obtain ⟨xs, ys, x, y, hq, hq', hx, hy⟩ := hg
    obtain ⟨its, rv, p, hz⟩ := I.list hq
    obtain ⟨its', rv', p', hz'⟩ := I.list hq'
    obtain ⟨u, hu, ru⟩ := rv.get hx
    obtain ⟨v, hv, rv2⟩ := rv'.get hy
    have apart : ∀ {l : Addr} {jts : List Value}, s.heap.IsList l jts.toArray → l ≠ n + 4 ∧ l ≠ n + 3 ∧ l ≠ n ∧ l ≠ n + 1 := fun {l jts} hl => by
      obtain ⟨o, ho, hcl, _⟩ := hl
      obtain ⟨o4, h4, c4, _⟩ := z4
      obtain ⟨o5, h5, c5, _⟩ := z5
      refine ⟨fun q => ?_, fun q => ?_, fun q => ?_, fun q => ?_⟩
      · rw [q, z1] at ho; cases ho; exact nolist _ (by decide) hcl
      · rw [q, z3] at ho; cases ho; exact nolist _ (by decide) hcl
      · rw [q, h4] at ho; cases ho; rw [c4] at hcl; exact nolist _ (by decide) hcl
      · rw [q, h5] at ho; cases ho; rw [c5] at hcl; exact nolist _ (by decide) hcl
    obtain ⟨a1, a2, a3, a4⟩ := apart p.isList
    obtain ⟨b1, b2, b3, b4⟩ := apart p'.isList
    have D : ZipApart (n + 4) (n + 2) (n + 3) n (n + 1) a b := ⟨nA (by omega), nA (by omega), nA (by omega), nA (by omega), nA (by omega), nA (by omega), nA (by omega), nA (by omega), nA (by omega), nA (by omega), a1, a2, a3, a4, b1, b2, b3, b4⟩
    refine wpAny_pyNext_zip_item D z1 z2 z3 z4 z5 p.isList p'.isList (x := u) (y := v) (by simpa using hu) (by simpa using hv) fun h1 ho hp h4' h5' hT hsz hk => ?_
    have I1 : Inv X pins σ (upd H s.heap.objs.size (.tup [x, y])) { s with heap := h1 } :=
      I.drew (t' := s.toks) (ch := [n + 4, n + 2, n + 3, n, n + 1]) hf (fun b o hb q => hk b o (fun z => hb (by simp [z])) (fun z => hb (by simp [z])) (fun z => hb (by simp [z])) (fun z => hb (by simp [z])) q) (Nat.le_refl _) (its := [u, v]) (.cons ru (.cons rv2 .nil)) ⟨_, hT, rfl, _, rfl⟩ (by show 2 ≤ sizeLine; decide)
    have hTn : H s.heap.objs.size = none := I.hok.fresh (Nat.le_refl _)
    have lt4 : n + 4 < s.heap.objs.size := Heap.lt_size z1
    refine ⟨_, rfl, wpAny_letOwnedTupleGo_zip ho fun h2 he2 hs2 => ?_⟩
    have f1 := hf (n + 4) (by simp)
    have I2 : Inv X pins σ (upd H s.heap.objs.size (.tup [x, y])) { s with heap := h2 } :=
      Inv.turned (s := { s with heap := h1 }) I1 (t' := s.toks) (it := n + 4) (fun b o hb q => (hs2.2 b hb).trans q) (by rw [upd_ne (Nat.ne_of_lt lt4)]; exact f1.1) f1.2.1 f1.2.2.2.1 f1.2.2.2.2.1 f1.2.2.2.2.2
    refine ⟨.ref s.heap.objs.size, _, I2, rfl, ⟨_, x, y, rfl, hTn, rfl, fun ys hy => by rw [I.list_inj hy hq]; exact hx, fun ys2 hy2 => by rw [I.list_inj hy2 hq']; exact hy⟩,
      ⟨he2, ?_, ⟨u, v, ?_⟩, h4'.at fun o q => (hs2.2 n (nA (by omega))).trans q, h5'.at fun o q => (hs2.2 (n + 1) (nA (by omega))).trans q⟩, fun b hb => ?_⟩
    · exact (hs2.2 (n + 2) (nA (by omega))).trans (hk _ _ (nA (by omega)) (nA (by omega)) (nA (by omega)) (nA (by omega)) z2)
    · exact (hs2.2 (n + 3) (nA (by omega))).trans hp
    · rw [upd_ne]
      · exact (hf b hb).1
      · simp only [List.mem_cons, List.not_mem_nil, or_false] at hb
        have lt4' : (n : Nat) + 4 < s.heap.objs.size := lt4
        rcases hb with q | q | q | q | q <;> rw [q] <;> exact nA (by omega)
  done := by
    intro X hP hw hK hc i pins s σ H E I hf st hg
    subst hP hw hK
    obtain ⟨z1, z2, ⟨u0, v0, z3⟩, z4, z5⟩ := st
    obtain ⟨xs, ys, hq, hq', hx⟩ := hg
    obtain ⟨its, rv, p, hz⟩ := I.list hq
    obtain ⟨its', rv', p', hz'⟩ := I.list hq'
    have hl := rv.length
    have hl' := rv'.length
    have apart : ∀ {l : Addr} {jts : List Value}, s.heap.IsList l jts.toArray → l ≠ n + 4 ∧ l ≠ n + 3 ∧ l ≠ n ∧ l ≠ n + 1 := fun {l jts} hl => by
      obtain ⟨o, ho, hcl, _⟩ := hl
      obtain ⟨o4, h4, c4, _⟩ := z4
      obtain ⟨o5, h5, c5, _⟩ := z5
      refine ⟨fun q => ?_, fun q => ?_, fun q => ?_, fun q => ?_⟩
      · rw [q, z1] at ho; cases ho; exact nolist _ (by decide) hcl
      · rw [q, z3] at ho; cases ho; exact nolist _ (by decide) hcl
      · rw [q, h4] at ho; cases ho; rw [c4] at hcl; exact nolist _ (by decide) hcl
      · rw [q, h5] at ho; cases ho; rw [c5] at hcl; exact nolist _ (by decide) hcl
    obtain ⟨a1, a2, a3, a4⟩ := apart p.isList
    obtain ⟨b1, b2, b3, b4⟩ := apart p'.isList
    have D : ZipApart (n + 4) (n + 2) (n + 3) n (n + 1) a b := ⟨nA (by omega), nA (by omega), nA (by omega), nA (by omega), nA (by omega), nA (by omega), nA (by omega), nA (by omega), nA (by omega), nA (by omega), a1, a2, a3, a4, b1, b2, b3, b4⟩
    refine wpAny_pyNext_zip_end (I.ok.hd hc) D z1 z2 z3 z4 z5 p.isList p'.isList ?_ fun h1 hk => ⟨rfl, I.turnedL (t' := s.toks) (ch := [n + 4, n + 2, n + 3, n, n + 1]) hf fun b o hb q => hk b o (fun z => hb (by simp [z])) (fun z => hb (by simp [z])) (fun z => hb (by simp [z])) (fun z => hb (by simp [z])) q⟩
    rcases hx with hx | hx
    · exact .inl (by simp; omega)
    · exact .inr (by simp; omega)
  self := fun _ _ _ _ _ st h => wpAny_pyIter_zip st.1 h

theorem boot_zip2 : bootBuiltins "zip" = some (.type "zip") := by decide +kernel
section
variable {X : Cx}
def iZip (K : PySem.W.Frag) (ta : TA) : TI := fun σ H R => ta σ H fun vs H1 => ∃ a b, vs = [.ref a, .ref b] ∧ (∃ xs, SqL K H1 a xs) ∧ (∃ ys, SqL K H1 b ys) ∧ R (Itz K a b) H1
theorem pi_zip {a b : Expr} {ta : TA} {p pos tp : Pos} {elts : List Expr} {x1 : Nat} (hg : Gl X "zip") (hm : X.mg "zip" = none) (ha : PA X [a, b] ta) (hs : starEach [a, b] X.env = [(false, eval a X.env), (false, eval b X.env)] := by rfl) (hs2 : starEach [b] X.env = [(false, eval b X.env)] := by rfl) :
    PI X (.Tuple elts x1 tp) (.Call (.Name "zip" p) [a, b] [] pos) (iZip X.K ta) := by
  intro pins s σ H R I h
  refine Call_ (ld_blt I hg hm boot_zip2 (PyProof.Rows.callWith_type1 (thn (ha pos pins s σ H _ I h) fun us s1 ⟨vs, H1, I1, r1, q1⟩ => ?_) (by rw [hs, hs2]) (by rw [hs2]; rfl)))
  obtain ⟨l, l', ev, ⟨xs, hq⟩, ⟨ys, hq'⟩, q⟩ := q1
  subst ev
  obtain ⟨u, u', rfl, ru, ru'⟩ := vals2 r1
  cases ru
  cases ru'
  obtain ⟨its, rv, pl, hz⟩ := I1.list hq
  obtain ⟨its', rv', pl', hz'⟩ := I1.list hq'
  refine call_zip_2 pl.isList pl'.isList fun h1 z1 z2 z3 z4 z5 hsz hk => ?_
  refine wpAny_pyIter_zip z1 ?_
  have I2 : Inv X pins σ H1 { s1 with heap := h1 } := I1.kept (t' := s1.toks) hk
  refine ⟨s1.heap.objs.size + 4, _, _, _, H1, rfl, I2, turn_zip l l' s1.heap.objs.size, ⟨z1, z2, ⟨_, _, z3⟩, z4, z5⟩, fun b hb => ?_, q⟩
  have hle : s1.heap.objs.size ≤ b := by
    simp only [List.mem_cons, List.not_mem_nil, or_false] at hb
    rcases hb with q | q | q | q | q <;> rw [q] <;> first | exact Nat.le_add_right _ _ | exact Nat.le_refl _
  exact I1.fpOk hle (I1.hok.fresh hle)
end

/-- what a loop's reading asks -/
abbrev ForW (J : It) (g : TG) (tb : TS) (D : Ends) (σ : St) (H : Hp) : Prop := ∃ W : Nat → Nat → St → Hp → Prop, (∃ m, W 0 m σ H) ∧ ∀ i m σ H, W i m σ H →
  (J.stop i H ∧ D.nx σ H) ∨ (J.go i H ∧ ∃ N : St → Hp → Prop, (∀ σ' H', N σ' H' → ∃ m', m' < m ∧ W (i + 1) m' σ' H') ∧ ∀ x H', J.yld i H x H' → g x σ H' fun σ2 H2 => tb { D with nx := N, ct := N, bk := D.nx } σ2 H2)
theorem for_enum {K : PySem.W.Frag} {a : Addr} {xs : List V} {g : TG} {tb : TS} {D : Ends} {σ : St} {H : Hp} (Pv : Nat → St → Hp → Prop) (h0 : Pv 0 σ H) (hl : ∀ i σ H, i ≤ xs.length → Pv i σ H → SqL K H a xs)
    (hs : ∀ i x σ H T, xs[i]? = some x → Pv i σ H → H T = none → g (.ref T) σ (upd H T (.tup [.int i, x])) fun σ2 H2 => tb { D with nx := Pv (i + 1), ct := Pv (i + 1), bk := D.nx } σ2 H2) (hd : ∀ σ H, Pv xs.length σ H → D.nx σ H) :
    ForW (Ite K a) g tb D σ H := by
  refine ⟨fun i m σ H => m = xs.length - i ∧ i ≤ xs.length ∧ Pv i σ H, ⟨xs.length, by simp, Nat.zero_le _, h0⟩, ?_⟩
  rintro i m σ H ⟨rfl, hi, p⟩
  have q := hl i σ H hi p
  by_cases hlt : i < xs.length
  · refine .inr ⟨⟨xs, xs[i], q, by simp [hlt]⟩, Pv (i + 1), fun σ' H' p' => ⟨xs.length - (i + 1), by omega, rfl, hlt, p'⟩, fun x H' y => ?_⟩
    obtain ⟨T, v, e, hT, e2, hv⟩ := y
    subst e e2
    exact hs i v σ H T (hv xs q) p hT
  · obtain rfl : i = xs.length := by omega
    exact .inl ⟨⟨xs, q, Nat.le_refl _⟩, hd σ H p⟩
/-- what a comprehension's reading asks -/
abbrev CompW (J : It) (g : TG) (tt : TT) (te : TE) (Q : VK) (σ : St) (H : Hp) : Prop := ∃ W : Nat → Nat → List V → St → Hp → Prop, (∃ m, W 0 m [] σ H) ∧ ∀ i m ys σ' H', W i m ys σ' H' →
    (J.stop i H' ∧ ∀ D, H' D = none → Q (.ref D) (upd H' D (.lst ys))) ∨
    (J.go i H' ∧ ys.length < sizeLine ∧ ∃ N : List V → St → Hp → Prop, (∀ ys' σ2 H2, N ys' σ2 H2 → ∃ m', m' < m ∧ W (i + 1) m' ys' σ2 H2) ∧ ∀ x H2, J.yld i H' x H2 → g x σ' H2 fun σ2 H3 => tt σ2 H3 fun c H4 =>
      if c = true then te σ2 H4 fun y H5 => N (ys ++ [y]) σ2 H5 else N ys σ2 H4)
/-- a comprehension without a test of n turns: over a list, a range, places -/
theorem comp_by {J : It} {n : Nat} {g : TG} {te : TE} {Q : VK} {σ : St} {H : Hp} (hn : n ≤ 1000000) (Pv : Nat → List V → St → Hp → Prop) (h0 : Pv 0 [] σ H) (hlen : ∀ i ys σ H, Pv i ys σ H → ys.length = i)
    (hgo : ∀ i ys σ H, i < n → Pv i ys σ H → J.go i H) (hstop : ∀ ys σ H, Pv n ys σ H → J.stop n H)
    (hs : ∀ i ys σ H x H2, i < n → Pv i ys σ H → J.yld i H x H2 → g x σ H2 fun σ2 H3 => te σ2 H3 fun y H5 => Pv (i + 1) (ys ++ [y]) σ2 H5)
    (hd : ∀ ys σ H D, Pv n ys σ H → H D = none → Q (.ref D) (upd H D (.lst ys))) : CompW J g tNoIf te Q σ H := by
  refine ⟨fun i m ys σ H => m = n - i ∧ i ≤ n ∧ Pv i ys σ H, ⟨n, by simp, Nat.zero_le _, h0⟩, ?_⟩
  rintro i m ys σ H ⟨rfl, hi, p⟩
  by_cases hlt : i < n
  · exact .inr ⟨hgo i ys σ H hlt p, by rw [hlen _ _ _ _ p]; exact Nat.lt_of_lt_of_le hlt (Nat.le_trans hn (by decide)), fun ys' σ' H' => Pv (i + 1) ys' σ' H', fun ys' σ' H' p' => ⟨n - (i + 1), by omega, rfl, hlt, p'⟩, fun x H2 y => hs i ys σ H x H2 hlt p y⟩
  · obtain rfl : i = n := by omega
    exact .inl ⟨hstop ys σ H p, fun D hD => hd ys σ H D p hD⟩
/-- over range(n) -/
theorem comp_range {lo : Int} {n : Nat} {g : TG} {te : TE} {Q : VK} {σ : St} {H : Hp} (hn : n ≤ 1000000) (Pv : Nat → List V → St → Hp → Prop) (h0 : Pv 0 [] σ H) (hlen : ∀ i ys σ H, Pv i ys σ H → ys.length = i)
    (hs : ∀ i ys σ H, i < n → Pv i ys σ H → g (.int (lo + i)) σ H fun σ2 H3 => te σ2 H3 fun y H5 => Pv (i + 1) (ys ++ [y]) σ2 H5)
    (hd : ∀ ys σ H D, Pv n ys σ H → H D = none → Q (.ref D) (upd H D (.lst ys))) : CompW (Itr lo n) g tNoIf te Q σ H :=
  comp_by hn Pv h0 hlen (fun i _ _ _ h _ => h) (fun _ _ _ _ => Nat.le_refl n) (fun i ys σ H x H2 h p y => by obtain ⟨e, e2⟩ := y; subst e e2; exact hs i ys σ _ h p) hd
/-- over a list that stays -/
theorem comp_list {K : PySem.W.Frag} {a : Addr} {xs : List V} {g : TG} {te : TE} {Q : VK} {σ : St} {H : Hp} (hn : xs.length ≤ 1000000) (Pv : Nat → List V → St → Hp → Prop) (h0 : Pv 0 [] σ H) (hlen : ∀ i ys σ H, Pv i ys σ H → ys.length = i)
    (hl : ∀ i ys σ H, i ≤ xs.length → Pv i ys σ H → SqL K H a xs)
    (hs : ∀ i ys σ H x, xs[i]? = some x → Pv i ys σ H → g x σ H fun σ2 H3 => te σ2 H3 fun y H5 => Pv (i + 1) (ys ++ [y]) σ2 H5)
    (hd : ∀ ys σ H D, Pv xs.length ys σ H → H D = none → Q (.ref D) (upd H D (.lst ys))) : CompW (Itl K a) g tNoIf te Q σ H :=
  comp_by hn Pv h0 hlen (fun i ys σ H h p => ⟨xs, xs[i], hl i ys σ H (Nat.le_of_lt h) p, by simp [h]⟩) (fun ys σ H p => ⟨xs, hl _ ys σ H (Nat.le_refl _) p, Nat.le_refl _⟩)
    (fun i ys σ H x H2 h p y => by obtain ⟨e, y⟩ := y; subst e; exact hs i ys σ _ x (y xs (hl i ys σ _ (Nat.le_of_lt h) p)) p) hd
/-- over enumerate(list) -/
theorem comp_enum {K : PySem.W.Frag} {a : Addr} {xs : List V} {g : TG} {te : TE} {Q : VK} {σ : St} {H : Hp} (hn : xs.length ≤ 1000000) (Pv : Nat → List V → St → Hp → Prop) (h0 : Pv 0 [] σ H) (hlen : ∀ i ys σ H, Pv i ys σ H → ys.length = i)
    (hl : ∀ i ys σ H, i ≤ xs.length → Pv i ys σ H → SqL K H a xs)
    (hs : ∀ i ys σ H x T, xs[i]? = some x → Pv i ys σ H → H T = none → g (.ref T) σ (upd H T (.tup [.int i, x])) fun σ2 H3 => te σ2 H3 fun y H5 => Pv (i + 1) (ys ++ [y]) σ2 H5)
    (hd : ∀ ys σ H D, Pv xs.length ys σ H → H D = none → Q (.ref D) (upd H D (.lst ys))) : CompW (Ite K a) g tNoIf te Q σ H :=
  comp_by hn Pv h0 hlen (fun i ys σ H h p => ⟨xs, xs[i], hl i ys σ H (Nat.le_of_lt h) p, by simp [h]⟩) (fun ys σ H p => ⟨xs, hl _ ys σ H (Nat.le_refl _) p, Nat.le_refl _⟩)
    (fun i ys σ H x H2 h p y => by obtain ⟨T, v, e, hT, e2, hv⟩ := y; subst e e2; exact hs i ys σ _ v T (hv xs (hl i ys σ _ (Nat.le_of_lt h) p)) p hT) hd
end L2

namespace L2
open PySem PySem.Spec PyProof.Rows
/-- writes no dict of an object, frees nothing, calls nothing -/
def Kd {α : Type} : Sem α → Prop
  | .pure _ => True
  | .raise _ => True
  | .unsupported _ => True
  | .finish _ => True
  | .rule _ k => Kd (k ())
  | .at _ k => Kd (k ())
  | .load _ _ k => ∀ o, Kd (k o)
  | .update _ _ f k => (∀ o, (f o).dict = o.dict ∧ (f o).isFreed = o.isFreed) ∧ Kd (k ())
  | .alloc _ k => ∀ a, Kd (k a)
  | .loadIfAlive _ k => ∀ o, Kd (k o)
  | .point _ k => Kd (k ())
  | .register _ _ => False
  | .fresh k => ∀ t, Kd (k t)
  | .ask k => ∀ x, Kd (k x)
  | .choose _ _ k => ∀ x, Kd (k x)
  | .os _ _ _ => False
  | .call _ _ _ _ _ => False
  | .handled _ k => ∀ x, Kd (k x)
  | .newGen _ _ => False
  | .genState _ _ => False
  | .resume _ _ _ _ => False
  | .yield _ _ _ _ => False
  | .stack k => ∀ x, Kd (k x)
  | .fork _ _ => False
  | .thread k => ∀ x, Kd (k x)
  | .await _ _ _ _ _ => False
theorem Kd.bind {α β : Type} {m : Sem α} {f : α → Sem β} (hm : Kd m) (hf : ∀ a, Kd (f a)) : Kd (m >>= f) := by
  show Kd (m.bind f)
  induction m with
  | pure a => exact hf a
  | raise e => trivial
  | unsupported w => trivial
  | finish e => trivial
  | rule t k ih => exact ih () hm
  | «at» p k ih => exact ih () hm
  | load a p k ih => exact fun o => ih o (hm o)
  | update a p g k ih => exact ⟨hm.1, ih () hm.2⟩
  | alloc o k ih => exact fun a => ih a (hm a)
  | loadIfAlive a k ih => exact fun o => ih o (hm o)
  | point l k ih => exact ih () hm
  | register a k ih => exact hm
  | fresh k ih => exact fun t => ih t (hm t)
  | ask k ih => exact fun x => ih x (hm x)
  | choose s n k ih => exact fun x => ih x (hm x)
  | os q l k ih => exact hm
  | call c h g l k ih => exact hm
  | handled o k ih => exact fun x => ih x (hm x)
  | newGen c k ih => exact hm
  | genState g k ih => exact hm
  | resume g r l k ih => exact hm
  | yield v g l k ih => exact hm
  | stack k ih => exact fun x => ih x (hm x)
  | fork c k ih => exact hm
  | thread k ih => exact fun x => ih x (hm x)
  | await a t d l k ih => exact hm
/-- the object at e has the dict d -/
def DictIs (e : Addr) (d : Option Addr) (s : Shared) : Prop := ∃ o, s.heap.get? e = some o ∧ o.dict = d
theorem DictIs.push {e : Addr} {d : Option Addr} {s : Shared} (o : Obj) (h : DictIs e d s) : DictIs e d { s with heap := s.heap.push o } := by
  obtain ⟨u, hu, hd⟩ := h
  exact ⟨u, Heap.get?_push_of_some _ hu, hd⟩
theorem get_notFreed {h : Heap} {a : Addr} {o : Obj} (e : h.get? a = some o) : o.isFreed = false := by
  unfold Heap.get? at e
  split at e
  · cases e
  · rename_i x hx
    obtain ⟨c, d, dt, sl⟩ := o
    cases dt <;> first | rfl | skip
    exact (hx c d sl e).elim
theorem DictIs.update {e a : Addr} {d : Option Addr} {s : Shared} {f : Obj → Obj} (hf : ∀ o, (f o).dict = o.dict ∧ (f o).isFreed = o.isFreed) (h : DictIs e d s) : DictIs e d { s with heap := s.heap.update a f } := by
  obtain ⟨u, hu, hd⟩ := h
  by_cases ea : a = e
  · subst ea
    exact ⟨f u, Heap.get?_update_self f hu (by rw [(hf u).2]; exact get_notFreed hu), (hf u).1.trans hd⟩
  · exact ⟨u, (Heap.get?_update_other _ f ea).trans hu, hd⟩
theorem wp_kd {α : Type} {M : Model} {Γ : PySem.Ctx} {Q : α → Pos → Shared → Prop} {E : Value → Pos → Shared → Prop} {e : Addr} {d : Option Addr} (t : Sem α) : ∀ {p : Pos} {s : Shared}, Kd t → Sem.wp M Γ t Q E p s → DictIs e d s →
    Sem.wp M Γ t (fun a p s' => Q a p s' ∧ DictIs e d s') (fun x p s' => E x p s' ∧ DictIs e d s') p s := by
  induction t with
  | pure a => intro p s _ h i; rw [Sem.wp] at h ⊢; exact ⟨h, i⟩
  | raise x => intro p s _ h i; rw [Sem.wp] at h ⊢; exact ⟨h, i⟩
  | unsupported w => intro p s _ h i; rw [Sem.wp] at h; exact h.elim
  | finish x => intro p s _ h i; rw [Sem.wp] at h; exact h.elim
  | rule t k ih => intro p s hk h i; rw [Sem.wp] at h ⊢; exact ih () hk h i
  | «at» q k ih => intro p s hk h i; rw [Sem.wp] at h ⊢; exact ih () hk h i
  | load a q k ih => intro p s hk h i; rw [Sem.wp] at h ⊢; obtain ⟨o, e1, h⟩ := h; exact ⟨o, e1, ih o (hk o) h i⟩
  | update a q g k ih => intro p s hk h i; rw [Sem.wp] at h ⊢; exact ⟨h.1, ih () hk.2 h.2 (i.update hk.1)⟩
  | alloc o k ih => intro p s hk h i; rw [Sem.wp] at h ⊢; exact ih _ (hk _) h (i.push o)
  | loadIfAlive a k ih => intro p s hk h i; rw [Sem.wp] at h ⊢; exact ih _ (hk _) h i
  | point l k ih => intro p s hk h i; rw [Sem.wp] at h ⊢; exact ih () hk h i
  | register a k ih => intro p s hk; exact hk.elim
  | fresh k ih => intro p s hk h i; rw [Sem.wp] at h ⊢; exact ih _ (hk _) h i
  | ask k ih => intro p s hk h i; rw [Sem.wp] at h ⊢; exact ih _ (hk _) h i
  | choose q n k ih => intro p s hk h i; rw [Sem.wp] at h ⊢; exact ⟨h.1, ih _ (hk _) h.2 i⟩
  | os q l k ih => intro p s hk; exact hk.elim
  | call c h g l k ih => intro p s hk; exact hk.elim
  | handled o k ih => intro p s hk h i; rw [Sem.wp] at h ⊢; exact ih _ (hk _) h i
  | newGen c k ih => intro p s hk; exact hk.elim
  | genState g k ih => intro p s hk; exact hk.elim
  | resume g r l k ih => intro p s hk; exact hk.elim
  | yield v g l k ih => intro p s hk; exact hk.elim
  | stack k ih => intro p s hk h i; rw [Sem.wp] at h ⊢; exact ih _ (hk _) h i
  | fork c k ih => intro p s hk; exact hk.elim
  | thread k ih => intro p s hk h i; rw [Sem.wp] at h ⊢; exact ih _ (hk _) h i
  | await a t d l k ih => intro p s hk; exact hk.elim
theorem wpAny_kd {α : Type} {M : Model} {A : Around} {t : Sem α} {Q : α → Shared → Prop} {E : Value → Shared → Prop} {e : Addr} {d : Option Addr} {s : Shared} (hk : Kd t) (i : DictIs e d s) (h : wpAny M A t Q E s) :
    wpAny M A t (fun a s' => Q a s' ∧ DictIs e d s') (fun x s' => E x s' ∧ DictIs e d s') s := fun Γ p hΓ => wp_kd t hk (h Γ p hΓ) i
theorem kd_load (a : Addr) : Kd (load a) := fun _ => trivial
theorem kd_field (v : Value) (i : Nat) : Kd (field v i) := by
  unfold field fieldsOf
  refine Kd.bind ?_ fun vs => ?_
  · cases v <;> first | trivial | skip
    refine Kd.bind (kd_load _) fun o => ?_
    split <;> trivial
  · split <;> trivial
theorem mapFields_kd (f : Array Value → Array Value) (o : Obj) : (Obj.mapFields f o).dict = o.dict ∧ (Obj.mapFields f o).isFreed = o.isFreed := by
  obtain ⟨c, d, dt, sl⟩ := o
  cases dt <;> exact ⟨rfl, rfl⟩
theorem kd_setField (v : Value) (i : Nat) (x : Value) : Kd (setField v i x) := by
  unfold setField updateField
  cases v <;> first | trivial | skip
  refine Kd.bind (kd_load _) fun o => ?_
  split
  · split
    · exact ⟨mapFields_kd _, trivial⟩
    · trivial
  · trivial
theorem kd_setFlight (e : Value) (x : Option Addr) : Kd (setFlight e x) := by
  unfold setFlight
  refine Kd.bind (kd_field _ _) fun tb => ?_
  split
  · exact kd_setField _ _ _
  · trivial
theorem kd_stack : Kd (stack : Sem (List (Code × Pos))) := fun _ => trivial
theorem kd_readyFrames : ∀ l : List Env, Kd (readyFrames l)
  | [] => trivial
  | env :: outer => by
    unfold readyFrames
    split
    · refine Kd.bind (kd_load _) fun o => ?_
      split
      · trivial
      · refine Kd.bind ?_ fun _ => Kd.bind ?_ fun _ => Kd.bind ?_ fun _ => kd_readyFrames outer
        · unfold behindIsImport
          split
          · trivial
          · split
            · trivial
            · exact Kd.bind (kd_field _ _) fun _ => trivial
        · unfold keptBack
          split
          · split
            · trivial
            · exact Kd.bind (Kd.bind kd_stack fun _ => trivial) fun _ => trivial
          · trivial
        · exact ⟨fun o => ⟨rfl, by obtain ⟨c, d, dt, sl⟩ := o; cases dt <;> rfl⟩, trivial⟩
    · trivial
theorem kd_frameOf (env : Env) : Kd (PySem.frameOf env) := by
  unfold PySem.frameOf
  refine Kd.bind (Kd.bind kd_stack fun _ => trivial) fun l => Kd.bind ?_ fun o => ?_
  · unfold frameObject
    split
    · trivial
    · exact Kd.bind (kd_readyFrames _) fun _ => trivial
  · split <;> trivial
theorem kd_entryPlaceOf (f : Addr) (b : Bool) : Kd (entryPlaceOf f b) := by
  unfold entryPlaceOf
  refine Kd.bind kd_stack fun l => ?_
  split <;> trivial
theorem kd_made (x : String) (d : Data) : Kd (newObjAsIs (.type x) d none) := fun _ => trivial
theorem kd_newEntry (a b c d e : Value) (l : List Value) : Kd (EntryCells.newEntry a b c d e l) := by
  unfold EntryCells.newEntry newFields newObj
  dsimp only
  split <;> split <;> first | exact True.intro | exact kd_made _ _
theorem kd_noteFrame (e : Value) (env : Env) : Kd (noteFrame e env) := by
  unfold noteFrame
  split
  · refine Kd.bind (kd_field _ _) fun head => ?_
    have fin : ∀ (f : Addr) (b : Bool), Kd (do let a ← PySem.frameOf env; let pl ← entryPlaceOf f b; let x ← EntryCells.newEntry head a .none (rawInt f) .none pl; setField e 1 x) := fun f b =>
      Kd.bind (kd_frameOf env) fun _ => Kd.bind (kd_entryPlaceOf _ _) fun _ => Kd.bind (kd_newEntry _ _ _ _ _ _) fun _ => kd_setField _ _ _
    split
    · refine Kd.bind (kd_field _ _) fun x => ?_
      split
      · trivial
      · exact Kd.bind (kd_setField _ _ _) fun _ => fin _ _
    · exact fin _ _
  · trivial
theorem kd_leaving (env : Env) (e : Value) : Kd (leaving env e) := Kd.bind (kd_noteFrame e env) fun _ => kd_setFlight _ _
end L2

namespace L2
open PySem PySem.Spec PyProof.Rows

/-- an exception of the class cls stands at a, its traceback behind it; neither was there in h₀ -/
def Flies (h₀ : Heap) (H : Hp) (a : Addr) (cls : Value) (da : Option Addr) (h : Heap) : Prop :=
  ∃ oe vs T oT ts a0, h.get? a = some oe ∧ oe.cls = cls ∧ oe.data = .fields vs ∧ vs[0]? = some a0 ∧ vs[1]? = some (.ref T) ∧ T ≠ a ∧ h.get? T = some oT ∧ oT.data = .fields ts ∧ ts[3]? = some .none ∧
    h₀.get? a = none ∧ h₀.get? T = none ∧ H a = none ∧ H T = none ∧ oe.dict = da
/-- how an exception lies behind a call -/
def CXf (P : Program) (w : World) : CXT := fun outer H s E e s' => ∃ a cls da H', e = .ref a ∧ E cls da H' ∧ s'.os = s.os ∧ AllBare s'.gens ∧ Un (frs outer) [] H H' s.heap s'.heap ∧ HOk P w H' s'.heap ∧ Flies s.heap H' a cls da s'.heap
theorem passE0 {P : Program} {w : World} {X : Cx} : Passes (CXf P w) X E0 := fun _ _ _ _ _ _ _ ⟨_, _, _, _, _, f, _⟩ => f.elim

/-- the context of a def's body -/
structure IsDef (X : Cx) : Prop where
  st : X.stack = X.env :: X.outer
  fr : X.env.frame = some X.env.locals
  ex : X.ex = []

/-- a record of the exception: no one else's -/
def FlyOk (X : Cx) (pins : List (Addr × Obj)) (H : Hp) (b : Addr) : Prop :=
  H b = none ∧ X.s₀.heap.get? b = none ∧ b ≠ X.env.locals ∧ (∀ x c, X.env.cells.lookup x = some c → c ≠ b) ∧ ∀ p ∈ X.pn ++ pins, p.1 ≠ b

section
variable {X : Cx} {pins : List (Addr × Obj)} {σ : St} {H : Hp} {s : Shared} {h' : Heap} {bad : List Addr}

theorem ns_slots {h h' : Heap} {a : Addr} {m : Str → Option Value} (hn : h.Ns a m) (k : ∀ o, h.get? a = some o → ∃ q, h'.get? a = some { o with slots := q }) : h'.Ns a m := by
  obtain ⟨o, es, ep, e, r⟩ := hn
  obtain ⟨q, e'⟩ := k o e
  exact ⟨_, es, ep, e', r⟩
theorem cell_slots {h h' : Heap} {c : Addr} {v : Option Value} (z : h.IsCell c v) (k : ∀ o, h.get? c = some o → ∃ q, h'.get? c = some { o with slots := q }) : h'.IsCell c v := by
  obtain ⟨o, e, d⟩ := z
  obtain ⟨q, e'⟩ := k o e
  exact ⟨_, e', d⟩

/-- an exception has passed: the frames' slots and the records at bad may have changed -/
theorem Inv.fly (I : Inv X pins σ H s) (k : ∀ b o, s.heap.get? b = some o → b ∉ bad → b ∉ frs X.stack → h'.get? b = some o) (sl : ∀ b o, s.heap.get? b = some o → b ∈ frs X.stack → ∃ q, h'.get? b = some { o with slots := q })
    (hb : ∀ b ∈ bad, FlyOk X pins H b) : Inv X pins σ H { s with heap := h' } := by
  have any : ∀ b o, s.heap.get? b = some o → b ∉ bad → ∃ q, h'.get? b = some { o with slots := q } := fun b o e nb => by
    by_cases hf : b ∈ frs X.stack
    · exact sl b o e hf
    · exact ⟨o.slots, k b o e nb hf⟩
  have fsub : ∀ b, b ∈ X.fs → b ∈ frs X.stack := fun b hb => by
    rcases I.ok.stk with e | ⟨e, _⟩
    · rw [e]; exact hb
    · rw [e]
      obtain ⟨env, he, hf⟩ := List.mem_filterMap.mp hb
      exact List.mem_filterMap.mpr ⟨env, List.mem_cons_of_mem _ he, hf⟩
  have old : ∀ b o, X.s₀.heap.get? b = some o → b ∉ bad := fun b o e z => by rw [(hb b z).2.1] at e; cases e
  have nst : ∀ b o, X.s₀.heap.get? b = some o → b ∉ X.fs → b ∉ frs X.stack := fun b o e nf z => by
    rcases List.mem_cons.mp (I.stkSub b z) with q | q
    · exact Nat.ne_of_lt (Nat.lt_of_lt_of_le (Heap.lt_size e) I.ok.above) q
    · exact nf q
  obtain ⟨m, hn, hl⟩ := I.loc
  have hL : X.env.locals ∉ bad := fun z => (hb _ z).2.2.1 rfl
  have hC : ∀ x c, X.env.cells.lookup x = some c → c ∉ bad := fun x c e z => (hb _ z).2.2.2.1 x c e rfl
  refine ⟨I.ok, I.os, I.bare, ⟨fun b o e n nf nx => k b o (I.base.keep b o e n nf nx) (old b o e) (nst b o e nf), fun b o e n hf nx => ?_, I.base.free, fun b o e nx => ?_, I.base.tups, I.base.frzs, I.base.tbls⟩,
    ⟨m, ns_slots hn fun o e => any _ o e hL, fun i x v e1 e2 e3 => ?_⟩, fun x c e => ?_, I.free, I.freeC, fun p hp => ?_, ?_, I.len⟩
  · obtain ⟨q, e1⟩ := I.base.slot b o e n hf nx
    obtain ⟨q2, e2⟩ := sl b _ e1 (fsub b hf)
    exact ⟨q2, e2⟩
  · obtain ⟨o1, e1⟩ := I.base.there b o e nx
    obtain ⟨q, e2⟩ := any b o1 e1 (old b o e)
    exact ⟨_, e2⟩
  · obtain ⟨u, ru, q⟩ := hl i x v e1 e2 e3
    refine ⟨u, ru, ?_⟩
    rcases q with q | ⟨kk, c, e, z⟩
    · exact .inl q
    · exact .inr ⟨kk, c, e, cell_slots z fun o e' => any c o e' (hC x c e)⟩
  · obtain ⟨v, z⟩ := I.cell x c e
    exact ⟨v, cell_slots z fun o e' => any c o e' (hC x c e)⟩
  · obtain ⟨e, n, ne, nf, d⟩ := I.pin p hp
    refine ⟨k _ _ e (fun z => (hb _ z).2.2.2.2 p hp rfl) fun z => ?_, n, ne, nf, d⟩
    rcases List.mem_cons.mp (I.stkSub _ z) with q | q
    · exact ne q
    · exact nf q
  · intro b ob e
    have good : ∀ c u, H c = some u → c ∉ bad ∧ c ∉ frs X.stack := fun c u q => ⟨fun z => (by rw [(hb c z).1] at q; cases q), fun z => (by rw [I.stkFree c z] at q; cases q)⟩
    refine (I.hok b ob e).stay (fun c u hc q => ?_) (fun _ q => q) fun _ _ q => q
    rcases hc with rfl | hc
    · exact k _ u q (good _ _ e).1 (good _ _ e).2
    · exact k _ u q (good _ _ hc).1 (good _ _ hc).2

/-- the hidden base: all but the frames and the exception's records -/
abbrev bareOf (h : Heap) (l : List Addr) : Heap := PySem.W.hideAll h l

/-- an exception that stands at a in X's frame: its records are no one's -/
structure XIn (X : Cx) (pins : List (Addr × Obj)) (σ : St) (H : Hp) (a : Addr) (cls : Value) (da : Option Addr) (s : Shared) : Prop where
  inv : Inv X pins σ H s
  fl : ∃ oe vs T oT ts a0, s.heap.get? a = some oe ∧ oe.cls = cls ∧ oe.data = .fields vs ∧ vs[0]? = some a0 ∧ vs[1]? = some (.ref T) ∧ T ≠ a ∧ s.heap.get? T = some oT ∧ oT.data = .fields ts ∧ ts[3]? = some .none ∧
    FlyOk X pins H a ∧ FlyOk X pins H T ∧ oe.dict = da

theorem objOk_there {P : Program} {w : World} {h : Heap} {a : Addr} {o : HO} (x : ObjOk P w H h a o) : ∃ ob, h.get? a = some ob := by
  cases o with
  | lst _ => exact let ⟨_, _, _, _, e⟩ := x; ⟨_, e⟩
  | tup _ => exact let ⟨_, _, _, _, e, _⟩ := x; ⟨_, e⟩
  | dK _ => exact let ⟨_, _, _, _, _, _, _, e, _⟩ := x; ⟨_, e⟩
  | dT _ => exact let ⟨_, _, _, _, _, _, _, e, _⟩ := x; ⟨_, e⟩
  | set _ _ => exact let ⟨_, _, _, _, e, _⟩ := x; ⟨_, e⟩
  | ins _ _ _ => exact let ⟨_, _, _, e, _⟩ := x; ⟨_, e⟩
  | own _ => exact x
  | xd _ => exact let ⟨_, ⟨_, _, _, e, _⟩, _⟩ := x; ⟨_, e⟩
  | rng _ _ => exact let ⟨_, _, _, e⟩ := x; ⟨_, e⟩
  | frz _ _ => exact ⟨_, x.1⟩
  | tbl _ => exact ⟨_, x⟩
  | met _ _ => exact ⟨_, x⟩
  | ext _ => exact x.2.1
theorem untracked_of {P : Program} {w : World} {h : Heap} {b : Addr} (ok : HOk P w H h) (e : h.get? b = none) : H b = none := by
  cases q : H b with
  | none => rfl
  | some u =>
    obtain ⟨ob, z⟩ := objOk_there (ok b u q)
    rw [e] at z
    cases z

theorem none_old (I : Inv X pins σ H s) (d : IsDef X) {b : Addr} (e : s.heap.get? b = none) : X.s₀.heap.get? b = none := by
  cases q : X.s₀.heap.get? b with
  | none => rfl
  | some o =>
    obtain ⟨o', e'⟩ := I.base.there b o q (by rw [d.ex]; simp)
    rw [e] at e'; cases e'

/-- what is new behind a state of the body is no one's there -/
theorem flyOk_new (I : Inv X pins σ H s) (d : IsDef X) {H' : Hp} {b : Addr} (e : s.heap.get? b = none) (hn : H' b = none) : FlyOk X pins H' b := by
  refine ⟨hn, none_old I d e, fun q => ?_, fun x c hc q => ?_, fun p hp q => ?_⟩
  · obtain ⟨m, ⟨o, _, _, ho, _⟩, _⟩ := I.loc
    rw [← q, e] at ho; cases ho
  · obtain ⟨v, o, ho, _⟩ := I.cell x c hc
    rw [q, e] at ho; cases ho
  · have := (I.pin p hp).1
    rw [q, e] at this; cases this

/-- an exception has come out of a call -/
theorem XIn.ofCall {E : XK} {e : Value} {s' : Shared} (d : IsDef X) (I : Inv X pins σ H s) (h : CXf X.prog X.w X.stack H s E e s') : ∃ a cls da H', e = .ref a ∧ E cls da H' ∧ XIn X pins σ H' a cls da s' := by
  obtain ⟨a, cls, da, H', ee, hE, hos, hg, un, hok, oe, vs, T, oT, ts, a0, f1, f2, f3, f4, f5, f6, f7, f8, f9, n1, n2, n3, n4, n5⟩ := h
  exact ⟨a, cls, da, H', ee, hE, I.call' (ch := []) hos un hok hg (fun b z => absurd z (by simp)), oe, vs, T, oT, ts, a0, f1, f2, f3, f4, f5, f6, f7, f8, f9, flyOk_new I d n1 n3, flyOk_new I d n2 n4, n5⟩

theorem frames_hide {h base : Heap} {l : List Env} {as : List Addr} (hl : h.FunFrames base l) (hin : ∀ b ∈ frs l, b ∈ as) : h.FunFrames (bareOf h as) l :=
  PySem.W.funFrames_hide hl fun env he b hb => hin b (List.mem_filterMap.mpr ⟨env, he, hb⟩)

/-- its records, hidden -/
theorem XIn.flying {a : Addr} {cls : Value} {da : Option Addr} (x : XIn X pins σ H a cls da s) : ∃ T a0, (∀ b ∈ [a, T], FlyOk X pins H b) ∧ DictIs a da s ∧ Heap.FlyingW (bareOf s.heap ([a, T] ++ frs X.stack)) X.stack a cls a0 s.heap := by
  obtain ⟨I, oe, vs, T, oT, ts, a0, f1, f2, f3, f4, f5, f6, f7, f8, f9, n1, n2, n3⟩ := x
  refine ⟨T, a0, fun b hb => ?_, ⟨oe, f1, n3⟩, fun b o q => PySem.W.of_hideAll _ q, PySem.W.hideAll_none _ (by simp), frames_hide I.stack (fun b hb => by simp [hb]), oe, vs, T, oT, ts, f1, ⟨f2, f4⟩, f3, f5, PySem.W.hideAll_none _ (by simp), f6, f7, f8, f9⟩
  simp only [List.mem_cons, List.not_mem_nil, or_false] at hb
  rcases hb with rfl | rfl
  · exact n1
  · exact n2

/-- the record that a traceback begins with -/
theorem traceback_ok {T' : Addr} {ts : Array Value} {oT : Obj} {bad : List Addr} (I : Inv X pins σ H s) (d : IsDef X) (hb : ∀ b ∈ bad, FlyOk X pins H b) (slot : ∀ b o, s.heap.get? b = some o → b ∈ frs X.stack → ∃ q, h'.get? b = some { o with slots := q })
    (bT : (bareOf s.heap (bad ++ frs X.stack)).get? T' = none) (f7 : h'.get? T' = some oT) (f8 : oT.data = .fields ts) : FlyOk X pins H T' := by
  cases e : s.heap.get? T' with
  | none => exact flyOk_new I d e (untracked_of I.hok e)
  | some o =>
    have hm : T' ∈ bad ++ frs X.stack := by
      refine Classical.byContradiction fun hn => ?_
      rw [PySem.W.hideAll_get _ e hn] at bT
      cases bT
    rcases List.mem_append.mp hm with hm | hm
    · exact hb _ hm
    · obtain ⟨_, o', e', nf⟩ := I.stack.mem hm
      obtain ⟨q, e2⟩ := slot T' o' e' hm
      rw [f7] at e2
      cases e2
      exact absurd f8 (nf ts)

theorem slot_of (I : Inv X pins σ H s) (up : s.heap.UpToSlots h') : ∀ b o, s.heap.get? b = some o → b ∈ frs X.stack → ∃ q, h'.get? b = some { o with slots := q } := fun b o e hb => by
  obtain ⟨_, o', e', nf⟩ := I.stack.mem hb
  rw [e] at e'; cases e'
  exact up b o e nf

/-- behind a step of the exception's way: the body's state, the exception's place again -/
theorem XIn.on {a : Addr} {cls a0 : Value} {da : Option Addr} {l : List Env} {bad : List Addr} (x : Inv X pins σ H s) (d : IsDef X) (hb : ∀ b ∈ bad, FlyOk X pins H b) (ha : a ∈ bad)
    (hf : Heap.FlyingW (bareOf s.heap (bad ++ frs X.stack)) l a cls a0 h') (up : s.heap.UpToSlots h') (hd : DictIs a da { s with heap := h' }) : XIn X pins σ H a cls da { s with heap := h' } := by
  obtain ⟨st, _, fr, oe, vs, T', oT, ts, f1, ⟨f2, f4⟩, f3, f5, bT, f6, f7, f8, f9⟩ := hf
  have slot := slot_of x up
  have keep : ∀ b o, s.heap.get? b = some o → b ∉ bad → b ∉ frs X.stack → h'.get? b = some o := fun b o e nb nf => st b o (PySem.W.hideAll_get _ e (by
    rw [List.mem_append, not_or]
    exact ⟨nb, nf⟩))
  obtain ⟨o2, e2, hd2⟩ := hd
  have e3 : some oe = some o2 := f1.symm.trans e2
  cases e3
  exact ⟨x.fly (bad := bad) keep slot hb, oe, vs, T', oT, ts, a0, f1, f2, f3, f4, f5, f6, f7, f8, f9, hb a ha, traceback_ok (bad := bad) x d hb slot bT f7 f8, hd2⟩

/-- .. and the frame -/
theorem XIn.leave {E : XK} {a : Addr} {cls : Value} {da : Option Addr} (d : IsDef X) (x : XIn X pins σ H a cls da s) (hE : E cls da H) : CXf X.prog X.w X.outer X.H₀ X.s₀ E (.ref a) s := by
  obtain ⟨I, oe, vs, T, oT, ts, a0, f1, f2, f3, f4, f5, f6, f7, f8, f9, n1, n2, n3⟩ := x
  refine ⟨a, cls, da, H, rfl, hE, I.os, I.bare, ?_, I.hok, oe, vs, T, oT, ts, a0, f1, f2, f3, f4, f5, f6, f7, f8, f9, n1.2.1, n2.2.1, n1.1, n2.1, n3⟩
  have u := I.base
  rw [d.ex] at u
  exact u
end

/-- a new exception meets the body's wish -/
def Lands (X : Cx) (E : XK) : Prop := ∀ (pins : List (Addr × Obj)) (σ : St) (H : Hp) (s : Shared) (a : Addr) (cls : Value) (da : Option Addr) (oe : Obj) (vs : Array Value) (a0 : Value), Inv X pins σ H s → s.heap.get? a = some oe → oe.cls = cls → oe.data = .fields vs → vs[1]? = some .none → vs[0]? = some a0 → oe.dict = da →
  FlyOk X pins H a → E cls da H → X.xe (.ref a) s

section
variable {P : Program} {w : World} {K : PySem.W.Frag} {mg : Str → Option Value} {base : Heap} {N : List Str} {qual : Str} {scope : Scope} {f : Addr} {cd : Value} {A : Around} {outer : List Env} {s : Shared} {H : Hp} {E : XK}
theorem isDef_cxOf : IsDef (cxOf (CXf P w) P w K mg base N qual scope f cd A outer s H E) := ⟨rfl, rfl, rfl⟩
theorem passX : Passes (CXf P w) (cxOf (CXf P w) P w K mg base N qual scope f cd A outer s H E) E := by
  intro pins σ H1 s1 e s' I h
  obtain ⟨a, cls, da, H', rfl, hE, x⟩ := XIn.ofCall isDef_cxOf I h
  obtain ⟨T, a0, hb, hd, fl⟩ := x.flying
  have z := wpAny_kd (M := model P w) (E := fun _ _ => False) (kd_leaving _ (.ref a)) hd (wpAny_leaves_onW (Q := fun _ s2 => ∃ h', s2 = { s' with heap := h' } ∧ Heap.FlyingW (bareOf s'.heap ([a, T] ++ frs (cxOf (CXf P w) P w K mg base N qual scope f cd A outer s H E).stack)) outer a cls a0 h' ∧ s'.heap.UpToSlots h') x.inv.ok.frames rfl fl fun h' f2 up => ⟨h', rfl, f2, up⟩)
  refine wpAny_mono z (fun _ s2 q => ?_) (fun _ _ q => q.1.elim)
  obtain ⟨⟨h', rfl, f2, up⟩, hd2⟩ := q
  exact XIn.leave isDef_cxOf (XIn.on x.inv isDef_cxOf hb (by simp) f2 up hd2) hE
theorem landX : Lands (cxOf (CXf P w) P w K mg base N qual scope f cd A outer s H E) E := by
  intro pins σ H1 s1 a cls da oe vs a0 I he hc hd h1 h0 hda na hE
  subst hc
  have hb : ∀ b ∈ [a], FlyOk (cxOf (CXf P w) P w K mg base N qual scope f cd A outer s H E) pins H1 b := fun b z => by rw [List.mem_singleton.mp z]; exact na
  have hen : (bareOf s1.heap ([a] ++ frs (cxOf (CXf P w) P w K mg base N qual scope f cd A outer s H E).stack)).get? a = none := PySem.W.hideAll_none _ (by simp)
  have z := wpAny_kd (M := model P w) (E := fun _ _ => False) (kd_leaving _ (.ref a)) (show DictIs a da s1 from ⟨oe, he, hda⟩) (wpAny_leaving_firstW (base := bareOf s1.heap ([a] ++ frs (cxOf (CXf P w) P w K mg base N qual scope f cd A outer s H E).stack)) (Q := fun _ s2 => ∃ h', s2 = { s1 with heap := h' } ∧ Heap.FlyingW (bareOf s1.heap ([a] ++ frs (cxOf (CXf P w) P w K mg base N qual scope f cd A outer s H E).stack)) outer a oe.cls a0 h' ∧ s1.heap.UpToSlots h') I.ok.frames (frames_hide I.stack fun b hb => List.mem_append_right _ hb) rfl he (fun b o q => PySem.W.of_hideAll _ q) hen hd h1 h0
    fun h' ⟨k1, ⟨_, _, k2⟩, k3, k4⟩ => ⟨h', rfl, ⟨k1, hen, k2, k3⟩, k4⟩)
  refine wpAny_mono z (fun _ s2 q => ?_) (fun _ _ q => q.1.elim)
  obtain ⟨⟨h', rfl, f2, up⟩, hd2⟩ := q
  exact XIn.leave isDef_cxOf (XIn.on I isDef_cxOf hb (by simp) f2 up hd2) hE
theorem ownX : PassesOwn (model P w) (cxOf (CXf P w) P w K mg base N qual scope f cd A outer s H E).A (cxOf (CXf P w) P w K mg base N qual scope f cd A outer s H E).env (cxOf (CXf P w) P w K mg base N qual scope f cd A outer s H E).xe := PassesOwn.leaving
end

/-- an own class of exceptions under ValueError, without an __init__ -/
def ExcCls (K : PySem.W.Frag) (C : Addr) : Prop := PySem.W.excIn K C [.type "ValueError", .type "Exception", .type "BaseException", .type "object"] "ValueError.__new__" = true

theorem excObj {K : PySem.W.Frag} {h : Heap} {C : Addr} (X : K.In h) (q : ExcCls K C) : ∃ bm N nm qn bs hdct sn sub ab col dd k0 k1 k2 k3 k5 mN, h.get? C = some (excClassObj nm qn C N bs bm hdct sn sub ab col dd k0 k1 k2 k3 k5 "ValueError.__new__") ∧ h.Ns N mN ∧ mN "__init__" = none ∧
    OwnTail h [.type "ValueError", .type "Exception", .type "BaseException", .type "object"] bm := by
  unfold ExcCls PySem.W.excIn at q
  split at q
  · rename_i dd cd sl ho
    split at q
    · rename_i C' bm k0 k1 k2 k3 n k5 hm hs
      simp only [Bool.and_eq_true, beq_iff_eq, Bool.not_eq_true'] at q
      obtain ⟨⟨⟨⟨⟨rfl, rfl⟩, hdel⟩, ht⟩, hok⟩, hni⟩ := q
      obtain ⟨nm, bs, mro, ns, qn, hd, sn, sub, ab, col, del⟩ := cd
      dsimp only at hm hdel hok hni
      subst hm hdel
      have hsl : sl = #[k0, k1, k2, k3, some (.builtin "ValueError.__new__"), k5] := by
        obtain ⟨l⟩ := sl
        simp only at hs
        rw [hs]
      subst hsl
      exact ⟨bm, ns, nm, qn, bs, hd, sn, sub, ab, col, dd, k0, k1, k2, k3, k5, _, X _ _ ho, .of_isNs (PySem.W.isNs_of_in X hok), PySem.W.nsMap_none_of_in X hok hni, PySem.W.tail_of_in X ht⟩
    · cases q
  · cases q

def tRaise (t : TA) (C : Addr) (E : XK) : TS := fun _ σ H => t σ H fun vs H1 => vs.length ≤ 10 ∧ E (.ref C) none H1
section
variable {X : Cx}
theorem ps_raise (d : IsDef X) {x : Str} {np cpos pos : Pos} {e : Expr} {es : List Expr} {t : TA} {C : Addr} {E : XK} (O : ExcCls X.K C) (hc : X.calm = true) (hE : Lands X E) (hg : Gl X x) (hm : X.mg x = some (.ref C)) (ha : PA X (e :: es) t)
    (he : starEach (e :: es) X.env = (false, eval e X.env) :: starEach es X.env := by rfl) (hpl : (backTo cpos (starEach es X.env)).any (·.1) = false := by rfl) (hdb : (x == ("__debug__" : Str)) = false := by decide) :
    PS X (.Raise (some (.Call (.Name x np) (e :: es) [] cpos)) none pos) (tRaise t C E) := by
  intro pins s σ H D I h
  obtain ⟨bm, N, nm, qn, bs, hdct, sn, sub, ab, col, dd, k0, k1, k2, k3, k5, mN, hC, hN, hni, TL⟩ := excObj I.kIn O
  refine wpAny_Raise_call_subT (C := C) (nm := nm) (q := qn) (N := N) (bs := bs) (bm := bm) (hdct := hdct) (sn := sn) (sub := sub) (ab := ab) (col := col) (dd := dd) (k0 := k0) (k1 := k1) (k2 := k2) (k3 := k3) (k5 := k5) (mN := mN)
    PySem.F.excBase_ValueError (TL.hasType PySem.F.excBase_ValueError.hasBase) (I.ok.hd hc) ?_ hni (ld_glob I hg hm ⟨rfl, ?_⟩ hdb)
  · rw [he]
    show (false || (backTo cpos (starEach es X.env)).any (·.1)) = false
    rw [hpl]; rfl
  · have ha' := ha cpos pins s σ H _ I h
    rw [he] at ha' ⊢
    refine Calls.evalArgs_plain (wpAny_mono ha' (fun us s2 q => ?_) fun _ _ y => y)
    obtain ⟨vs, H2, I2, r, hlen, hEE⟩ := q
    obtain ⟨bm', N', nm', qn', bs', hdct', sn', sub', ab', col', dd', k0', k1', k2', k3', k5', mN', hC', hN', hni', TL'⟩ := excObj I2.kIn O
    have kb : ∀ b o, X.base.get? b = some o → s2.heap.get? b = some o := I2.bk
    obtain ⟨bm1, N1, nm1, qn1, bs1, hdct1, sn1, sub1, ab1, col1, dd1, k01, k11, k21, k31, k51, mN1, hC1, hN1, hni1, TL1⟩ := excObj I.ok.mod.kin O
    have e1 := (I.bk _ _ hC1).symm.trans hC
    injection e1 with e1
    injection e1 with c1 c2 c3 c4
    injection c3 with c3
    injection c3 with d1 d2 d3 d4 d5 d6 d7 d8 d9 d10 d11
    subst d4
    injection d3 with d31 d32
    subst d32
    have hmN : mN = mN1 := by
      obtain ⟨o1, es1, ep1, ho1, hd1, hk1, hf1⟩ := hN
      obtain ⟨o2, es2, ep2, ho2, hd2, hk2, hf2⟩ := hN1
      have := I.bk _ _ ho2
      rw [ho1] at this
      cases this
      rw [hd1] at hd2
      cases hd2
      funext n
      rw [← hf1, ← hf2]
    subst hmN
    refine ⟨rfl, ?_, ?_, hN1.keeps kb, TL1.keeps kb, fun h1 a hx => ?_⟩
    · have := r.length
      exact Nat.le_trans (by omega : us.length ≤ 10) (by decide)
    · have h0 := I.bk _ _ hC1
      rw [hC] at h0
      have h1 := kb _ _ hC1
      rw [← h0] at h1
      exact h1
    · obtain ⟨t0, he, htn, ht⟩ := hx.there
      exact hE pins σ H2 { s2 with heap := h1 } a _ none _ _ (.ref t0) (I2.kept (t' := s2.toks) hx.keeps) he rfl rfl rfl rfl rfl (flyOk_new I2 d hx.new (untracked_of I2.hok hx.new)) hEE
end

section
variable {P : Program} {w : World} {K : PySem.W.Frag} {mg : Str → Option Value} {base : Heap}
theorem Fun.okX {x qual : Str} {st : Stmt} {f : Addr} {fd : FuncData} {N ps : List Str} {k : Nat} {sp : Sp} (F : Fun K x qual st f fd) (S : FnScope N ps (defScope st)) (len : ∀ vs H Q E, sp vs H Q E → vs.length = ps.length)
    (hbody : ∀ (cdv : Value) (A : Around) (outer : List Env) (s : Shared) (H : Hp) (vs : List V) (Q : VK) (E : XK), Room k (A.deeper (envOfC qual (defScope st) s.heap.objs.size f cdv)) → sp vs H Q E →
      ∃ t, PSs (cxOf (CXf P w) P w K mg base N qual (defScope st) f cdv A outer s H E) (defBody st) t ∧ t { nx := fun _ H' => Q .non H', rt := Q } (start N vs) H) : FnOk P w K mg base (CXf P w) (k + 1) f fd ps sp := by
  obtain ⟨oc, od, kV, doc, pm, an, cdv, ct, osl, rfl, lk, hcd⟩ := F.ex
  exact fn_of lk hcd S len fun A outer s H vs Q E hr hsp => hbody cdv A outer s H vs Q E hr hsp
end
end L2

namespace L2
open PySem PySem.Spec PyProof.Rows
section
variable {X : Cx}
/-- isinstance(x, T), T a built-in type -/
theorem call_isinst : CallR X (.builtin "isinstance") (fun xs H Q => ∃ x n t b, xs = [x, .ty n] ∧ TyOf X.K H x t ∧ PySem.W.kitOne X.K t (.type n) = some b ∧ Q (.bl b) H) := by
  intro pins s σ H xs us Q I r h
  obtain ⟨x, n, t, b, rfl, ty, e, q⟩ := h
  obtain ⟨u, w, rfl, ru, rw'⟩ := vals2 r
  cases rw'
  exact isinst_ok I ru ty e fun tk => ⟨.bl b, H, I.tok tk, rfl, q⟩
def rEqL (K : PySem.W.Frag) (neg : Bool) : R2 := fun x y H Q => ∃ (a b : Addr) (ns ms : List Int), x = .ref a ∧ y = .ref b ∧ SqL K H a (ns.map V.int) ∧ SqL K H b (ms.map V.int) ∧ Q (.bl (if neg then !decide (ns = ms) else decide (ns = ms))) H
theorem call_sumL (hc : X.calm = true) : CallR X (.builtin "sum") (fun xs H Q => ∃ (a : Addr) (ns : List Int), xs = [.ref a] ∧ SqL X.K H a (ns.map V.int) ∧ Q (.int ns.sum) H) := by
  intro pins s σ H xs us Q I r h
  obtain ⟨a, ns, rfl, hq, q⟩ := h
  obtain ⟨u, rfl, ru⟩ := vals1 r
  cases ru
  obtain ⟨its, rv, p, _⟩ := I.list hq
  have hi := intsAre_of rv
  obtain ⟨ys, e⟩ := hi.allInts.items
  have hl := p.isList
  rw [e] at hl
  refine sum_intListG (I.ok.hd hc) hl fun h' tk t' hk => ⟨.int ns.sum, H, I.kept hk, ⟨t', ?_⟩, q⟩
  have e2 : ns = ys.toList.map (·.1) := by rw [← hi.numsOf, ← nums_intItems, ← e]
  rw [preSum_eq, List.take_of_length_le (by simp), e2]
def rBest (K : PySem.W.Frag) (R : Int → Int → Prop) : List V → Hp → VK → Prop := fun xs H Q => ∃ (a : Addr) (ns : List Int), xs = [.ref a] ∧ SqL K H a (ns.map V.int) ∧ 0 < ns.length ∧ ∀ M, M ∈ ns → (∀ x ∈ ns, R x M) → Q (.int M) H
/-- all, any of a list of bools -/
theorem bools_walk {prog : Program} {w : World} {A : Around} {bs : List Bool} {its : List Value} (r : Vals (bs.map V.bl) its) : TruthOf prog w A (fun i v => its.toArray[i]? = some v) (fun i => bs.getD i false) := by
  intro i v s Q E hv hq
  have hv' : its[i]? = some v := by simpa using hv
  have hl := r.length
  rw [List.length_map] at hl
  have hi : i < bs.length := by rw [hl]; exact (List.getElem?_eq_some_iff.mp hv').1
  obtain ⟨u, hu, ru⟩ := r.get (i := i) (x := V.bl (bs[i])) (by rw [List.getElem?_map, List.getElem?_eq_getElem hi]; rfl)
  rw [hv'] at hu
  cases hu
  cases ru
  have e : bs.getD i false = bs[i] := by rw [List.getD_eq_getElem?_getD, List.getElem?_eq_getElem hi]; rfl
  simp only [e] at hq
  exact wpAny_pure hq
theorem range_all {bs : List Bool} : (List.range bs.length).all (fun i => bs.getD i false) = bs.all id := by
  have e : (List.range bs.length).map (fun i => bs.getD i false) = bs := by
    apply List.ext_getElem?
    intro i
    rw [List.getElem?_map]
    by_cases h : i < bs.length
    · rw [List.getElem?_range h, List.getElem?_eq_getElem h]
      simp [List.getD_eq_getElem?_getD, h]
    · rw [List.getElem?_eq_none (by simpa using h), List.getElem?_eq_none (by simpa using h)]
      rfl
  conv => rhs; rw [← e]
  rw [List.all_map]
  rfl
theorem call_allL (hc : X.calm = true) : CallR X (.builtin "all") (fun xs H Q => ∃ (a : Addr) (bs : List Bool), xs = [.ref a] ∧ SqL X.K H a (bs.map V.bl) ∧ Q (.bl (bs.all id)) H) := by
  intro pins s σ H xs us Q I r h
  obtain ⟨a, bs, rfl, hq, q⟩ := h
  obtain ⟨u, rfl, ru⟩ := vals1 r
  cases ru
  obtain ⟨its, rv, p, _⟩ := I.list hq
  have hlen : its.length = bs.length := by have := rv.length; rw [List.length_map] at this; exact this.symm
  have hlt : a < s.heap.objs.size := by obtain ⟨o, e, _⟩ := p.isList; exact Heap.lt_size e
  refine call_all_walk (wpAny_pyIter_list p.isList ?_)
  refine ⟨_, _, _, _, _, _, fun i => bs.getD i false, rfl, Walks.list (A := X.A.in1) (I.ok.hd hc) s.heap.objs.size a (Nat.ne_of_lt hlt) its.toArray, ⟨⟨_, Heap.get?_push_size _ rfl, rfl, rfl⟩, p.isList.at fun o e => Heap.get?_push_of_some _ e⟩, bools_walk rv, fun h' tk hk => ?_⟩
  refine ⟨.bl (bs.all id), H, I.kept fun b o e => hk b o (fun z => ?_) (Heap.get?_push_of_some _ e), ?_, q⟩
  · rw [List.mem_singleton.mp z] at e
    exact absurd (Heap.lt_size e) (Nat.lt_irrefl _)
  · show Value.bool _ = Value.bool _
    rw [List.size_toArray, hlen, range_all]
end
/-- what a built-in type is of another -/
theorem kit_int_int {K : PySem.W.Frag} : PySem.W.kitOne K (.type "int") (.type "int") = some true := by rfl
theorem kit_int_bool {K : PySem.W.Frag} : PySem.W.kitOne K (.type "int") (.type "bool") = some false := by rfl
theorem kit_list_list {K : PySem.W.Frag} : PySem.W.kitOne K (.type "list") (.type "list") = some true := by rfl
end L2

namespace L2
open PySem PySem.Spec PyProof.Rows

/-- the def x of the text keeps its promise -/
def Ok (P : Program) (w : World) (K : PySem.W.Frag) (mg : Str → Option Value) (base : Heap) (x : Str) (ps : List Str) (k : Nat) (sp : Sp) : Prop :=
  ∃ f fd, FnOk P w K mg base (CXf P w) k f fd ps sp ∧ mg x = some (.ref f) ∧ PySem.W.keepIn K (.ref f) = true ∧ Binds K fd ps []
/-- the def x stands in the text -/
structure Has (K : PySem.W.Frag) (mg : Str → Option Value) (x : Str) (st : Stmt) (ps : List Str) (f : Addr) (fd : FuncData) : Prop where
  fn : Fun K x x st f fd
  bd : Binds K fd ps []
  at_ : mg x = some (.ref f)
/-- no name of the text hides these -/
structure Blt (mg : Str → Option Value) : Prop where
  len_ : mg "len" = none
  range_ : mg "range" = none
  enumerate_ : mg "enumerate" = none
  zip_ : mg "zip" = none
  isinstance_ : mg "isinstance" = none
  int_ : mg "int" = none
  bool_ : mg "bool" = none
  list_ : mg "list" = none
  tuple_ : mg "tuple" = none
  all_ : mg "all" = none
  any_ : mg "any" = none
  sum_ : mg "sum" = none
  max_ : mg "max" = none
  min_ : mg "min" = none
  abs_ : mg "abs" = none
  sorted_ : mg "sorted" = none
theorem bt_len : bootBuiltins "len" = some (.builtin "len") := by decide +kernel
theorem bt_isinstance : bootBuiltins "isinstance" = some (.builtin "isinstance") := by decide +kernel
theorem bt_all : bootBuiltins "all" = some (.builtin "all") := by decide +kernel
theorem bt_sum : bootBuiltins "sum" = some (.builtin "sum") := by decide +kernel
theorem bt_int : bootBuiltins "int" = some (.type "int") := by decide +kernel
theorem bt_bool : bootBuiltins "bool" = some (.type "bool") := by decide +kernel
theorem bt_list : bootBuiltins "list" = some (.type "list") := by decide +kernel
theorem bt_tuple : bootBuiltins "tuple" = some (.type "tuple") := by decide +kernel
def GInt (mg : Str → Option Value) (x : Str) (i : Int) : Prop := ∃ t, mg x = some (.int i t)

section
variable {P : Program} {w : World} {K : PySem.W.Frag} {mg : Str → Option Value} {base : Heap}
theorem Has.ok {x : Str} {st : Stmt} {ps : List Str} {f : Addr} {fd : FuncData} {N : List Str} {k : Nat} {sp : Sp} (h : Has K mg x st ps f fd) (S : FnScope N ps (defScope st)) (len : ∀ vs H Q E, sp vs H Q E → vs.length = ps.length)
    (hbody : ∀ (cdv : Value) (A : Around) (outer : List Env) (s : Shared) (H : Hp) (vs : List V) (Q : VK) (E : XK), Room k (A.deeper (envOfC x (defScope st) s.heap.objs.size f cdv)) → sp vs H Q E →
      ∃ t, PSs (cxOf (CXf P w) P w K mg base N x (defScope st) f cdv A outer s H E) (defBody st) t ∧ t { nx := fun _ H' => Q .non H', rt := Q } (start N vs) H) : Ok P w K mg base x ps (k + 1) sp :=
  ⟨f, fd, h.fn.okX S len hbody, h.at_, h.fn.kp, h.bd⟩
end

section
variable {X : Cx} {k : Nat} {ps : List Str} {sp : Sp} {E : XK} {x y c : Str} {p pos apos cpos py np hpos : Pos} {e : Expr} {es : List Expr} {t : TA} {i : Nat} {C : Addr} {b0 : Stmt} {suite : List Stmt} {ts : TS}
theorem pe_callO (o : Ok X.prog X.w X.K X.mg X.base x ps k sp) (hr : Room k X.A) (hg : Gl X x) (hx : Passes (CXf X.prog X.w) X E) (ha : PA X (e :: es) t) (hdb : (x == ("__debug__" : Str)) = false := by decide)
    (he : starEach (e :: es) X.env = (false, eval e X.env) :: starEach es X.env := by rfl) (hpl : (backTo pos (starEach es X.env)).any (·.1) = false := by rfl) : PE X (.Call (.Name x p) (e :: es) [] pos) (tCall sp [] E t) := by
  obtain ⟨f, fd, F, hm, hk, hb⟩ := o
  exact pe_call F hr hg hm hk hb .nil hx ha hdb he hpl
theorem pe_gi {n : Int} (h : GInt X.mg x n) (hg : Gl X x := by rfl) (hd : (x == ("__debug__" : Str)) = false := by decide) : PE X (.Name x pos) (tC (.int n)) := by
  obtain ⟨tk, hm⟩ := h
  exact pe_glob hg hm ⟨tk, rfl⟩ hd
theorem pe_tyN {T : String} (hm : X.mg x = none) (hv : bootBuiltins x = some (.type T)) (hg : Gl X x := by rfl) (hn : x ≠ "__name__" := by decide) (hd : (x == ("__debug__" : Str)) = false := by decide) : PE X (.Name x pos) (tC (.ty T)) :=
  pe_bltn hg hm hv rfl hn hd
end

/-- a block's scope, by a check -/
def compOk (osc : Scope) (N : List Str) (scope : Scope) (N' : List Str) (π : List (Option Nat)) : Bool :=
  osc.kind == .function && scope.kind == .function &&
  scope.names.all (fun y => y.2 != .cell && (y.2 != .local || scope.names.lookup y.1 == some .local) && (y.2 != .free || osc.names.lookup y.1 == some .cell)) &&
  decide N'.Nodup && π.length == N'.length && (N'.zip π).all (fun p => match p.2 with | none => true | some j => N[j]? == some p.1 && scope.names.lookup p.1 == some .free)
theorem CompScope.of {osc : Scope} {N : List Str} {scope : Scope} {N' : List Str} {π : List (Option Nat)} (h : compOk osc N scope N' π = true) : CompScope osc N scope N' π := by
  unfold compOk at h
  simp only [Bool.and_eq_true, beq_iff_eq, decide_eq_true_eq, List.all_eq_true, Bool.or_eq_true, bne_iff_ne, ne_eq] at h
  obtain ⟨⟨⟨⟨⟨h1, h2⟩, h3⟩, h4⟩, h5⟩, h6⟩ := h
  refine ⟨h1, h2, fun y hy => (h3 y hy).1.1, fun y hy k => ?_, fun y hy k => ?_, h4, h5, fun i j x e1 e2 => ?_⟩
  · rcases (h3 y hy).1.2 with z | z
    · exact absurd k z
    · exact z
  · rcases (h3 y hy).2 with z | z
    · exact absurd k z
    · exact z
  · have hz : (N'.zip π)[i]? = some (x, some j) := by rw [List.getElem?_zip_eq_some]; exact ⟨e1, e2⟩
    have q := h6 _ (List.mem_of_getElem? hz)
    simp only [Bool.and_eq_true, beq_iff_eq] at q
    exact q
end L2

namespace L2
open PySem PySem.Spec PyProof.Rows
theorem tFor_eq {wi : TI} {g : TG} {tb : TS} {D : Ends} {σ : St} {H : Hp} : tFor wi g tb D σ H = wi σ H fun J H1 => ForW J g tb D σ H1 := rfl
theorem tComp_eq {wi : TI} {π : List (Option Nat)} {g : TG} {tt : TT} {te : TE} {σ : St} {H : Hp} {Q : VK} : tComp wi π g tt te σ H Q = wi σ H fun J H1 => CompW J g tt te Q (capt π σ) H1 := rfl
theorem start_def {N : List Str} {vs : List V} : start N vs = vs.map some ++ List.replicate (N.length - vs.length) none := rfl
end L2
namespace L2
open PySem PySem.Spec PyProof.Rows
theorem cxOf_K {CX : CXT} {P : Program} {w : World} {K : PySem.W.Frag} {mg : Str → Option Value} {base : Heap} {N : List Str} {qual : Str} {scope : Scope} {f : Addr} {cd : Value} {A : Around} {outer : List Env} {s : Shared} {H : Hp} {E : XK} :
    (cxOf CX P w K mg base N qual scope f cd A outer s H E).K = K := rfl
theorem cxComp_K {X : Cx} {N' : List Str} {scope : Scope} {s : Shared} {H : Hp} {C : Addr} {fp : List Addr} {pn : List (Addr × Obj)} : (cxComp X N' scope s H C fp pn).K = X.K := rfl
end L2
namespace L2
open PySem PySem.Spec PyProof.Rows
theorem tyOf_int {K : PySem.W.Frag} {H : Hp} {i : Int} {t : Value} : TyOf K H (.int i) t ↔ t = .type "int" := by
  constructor
  · intro h
    cases h
    rfl
  · intro h
    subst h
    exact .int i
end L2
namespace L2
open PySem PySem.Spec PyProof.Rows
section
variable {X : Cx} {K : PySem.W.Frag}
theorem ix_listK (h : X.K = K) : IxR X (rIxL K) := by subst h; exact ix_list
theorem ix_tupK (h : X.K = K) : IxR X (rIxT K) := by subst h; exact ix_tup
def rLen (K : PySem.W.Frag) : List V → Hp → VK → Prop := fun xs H Q => ∃ p ys, xs = [.ref p] ∧ (SqL K H p ys ∨ SqT K H p ys) ∧ Q (.int ys.length) H
theorem call_len_seqK (h : X.K = K) : CallR X (.builtin "len") (rLen K) := by subst h; exact call_len_seq
def rIsi (K : PySem.W.Frag) : List V → Hp → VK → Prop := fun xs H Q => ∃ x n t b, xs = [x, .ty n] ∧ TyOf K H x t ∧ PySem.W.kitOne K t (.type n) = some b ∧ Q (.bl b) H
theorem call_isinstK (h : X.K = K) : CallR X (.builtin "isinstance") (rIsi K) := by subst h; exact call_isinst
def rListOf (K : PySem.W.Frag) : List V → Hp → VK → Prop := fun xs H Q => ∃ p ys, xs = [.ref p] ∧ (SqL K H p ys ∨ SqT K H p ys) ∧ ∀ l, H l = none → Q (.ref l) (upd H l (.lst ys))
def rSum (K : PySem.W.Frag) : List V → Hp → VK → Prop := fun xs H Q => ∃ (a : Addr) (ns : List Int), xs = [.ref a] ∧ SqL K H a (ns.map V.int) ∧ Q (.int ns.sum) H
theorem call_sumLK (h : X.K = K) (hc : X.calm = true) : CallR X (.builtin "sum") (rSum K) := by subst h; exact call_sumL hc
def rAll (K : PySem.W.Frag) : List V → Hp → VK → Prop := fun xs H Q => ∃ (a : Addr) (bs : List Bool), xs = [.ref a] ∧ SqL K H a (bs.map V.bl) ∧ Q (.bl (bs.all id)) H
theorem call_allLK (h : X.K = K) (hc : X.calm = true) : CallR X (.builtin "all") (rAll K) := by subst h; exact call_allL hc
def rAny (K : PySem.W.Frag) : List V → Hp → VK → Prop := fun xs H Q => ∃ (a : Addr) (bs : List Bool), xs = [.ref a] ∧ SqL K H a (bs.map V.bl) ∧ Q (.bl (bs.any id)) H
theorem pg_tupK {es : List Expr} {k : Nat} {t : TGs} {n : Nat} {pos : Pos} (h : X.K = K) (hc : X.calm = true) (hh : PGs X es t)
    (hn : (assignEach es X.env).length = n := by rfl) (hst : (assignEach es X.env).findIdx? (·.1) = none := by rfl) : PG X (.Tuple es k pos) (gTup K n t) := by subst h; exact pg_tup hc hh hn hst
theorem pi_listK {tg l : Expr} {tl : TE} (h : X.K = K) (hl : PE X l tl) : PI X tg l (iList K tl) := by subst h; exact pi_list hl
theorem pi_enumK {a : Expr} {ta : TA} {p pos tp : Pos} {elts : List Expr} {x1 : Nat} (h : X.K = K) (hg : Gl X "enumerate") (hm : X.mg "enumerate" = none) (ha : PA X [a] ta) (hs : starEach [a] X.env = [(false, eval a X.env)] := by rfl) :
    PI X (.Tuple elts x1 tp) (.Call (.Name "enumerate" p) [a] [] pos) (iEnum K ta) := by subst h; exact pi_enum hg hm ha hs
theorem pi_zipK {a b : Expr} {ta : TA} {p pos tp : Pos} {elts : List Expr} {x1 : Nat} (h : X.K = K) (hg : Gl X "zip") (hm : X.mg "zip" = none) (ha : PA X [a, b] ta) (hs : starEach [a, b] X.env = [(false, eval a X.env), (false, eval b X.env)] := by rfl) (hs2 : starEach [b] X.env = [(false, eval b X.env)] := by rfl) :
    PI X (.Tuple elts x1 tp) (.Call (.Name "zip" p) [a, b] [] pos) (iZip K ta) := by subst h; exact pi_zip hg hm ha hs hs2
variable {o e : Expr} {es : List Expr} {to : TE} {t : TA} {name : Str} {apos cpos : Pos} {T id : String} {r : V → List V → Hp → VK → Prop}
theorem pe_bmK (h : X.K = K) (pa : PlainAttrs T) (slot : Slot T name id) (hty : typeOf (.builtin id) = pure (.type "method_descriptor")) (hm : MtR X id r) (ho : PE X o to) (ha : PA X (e :: es) t)
    (hbase : attributeBase o name X.env (eval o X.env) = eval o X.env := by rfl)
    (hfew : ((backTo cpos (starEach (e :: es) X.env)).all (fun x => !x.1) && (backToKw cpos (keywordEach [] X.env)).all (fun x => x.1.isSome)
      && decide ((e :: es).length + ([] : List Keyword).length + (if ([] : List Keyword).isEmpty then 0 else 1) < 30)) = true := by rfl)
    (hline : (apos.endLine == cpos.line) = true := by rfl) (hs : starEach (e :: es) X.env = (false, eval e X.env) :: starEach es X.env := by rfl) (hplain : (backTo cpos (starEach es X.env)).any (·.1) = false := by rfl) :
    PE X (.Call (.Attribute o name apos) (e :: es) [] cpos) (tBM K T r to t) := by subst h; exact pe_bm pa slot hty hm ho ha hbase hfew hline hs hplain
end
/-- nothing bound yet -/
theorem rep0 : List.replicate 0 (none : Option V) = [] := rfl
theorem rep1 : List.replicate 1 (none : Option V) = [none] := rfl
theorem rep2 : List.replicate 2 (none : Option V) = [none, none] := rfl
theorem rep3 : List.replicate 3 (none : Option V) = [none, none, none] := rfl
theorem rep4 : List.replicate 4 (none : Option V) = [none, none, none, none] := rfl
theorem rep5 : List.replicate 5 (none : Option V) = [none, none, none, none, none] := rfl
theorem rep6 : List.replicate 6 (none : Option V) = [none, none, none, none, none, none] := rfl
theorem rep7 : List.replicate 7 (none : Option V) = [none, none, none, none, none, none, none] := rfl
theorem rep8 : List.replicate 8 (none : Option V) = [none, none, none, none, none, none, none, none] := rfl
theorem rep9 : List.replicate 9 (none : Option V) = [none, none, none, none, none, none, none, none, none] := rfl
theorem rep10 : List.replicate 10 (none : Option V) = [none, none, none, none, none, none, none, none, none, none] := rfl
theorem rep11 : List.replicate 11 (none : Option V) = [none, none, none, none, none, none, none, none, none, none, none] := rfl
theorem rep12 : List.replicate 12 (none : Option V) = [none, none, none, none, none, none, none, none, none, none, none, none] := rfl
end L2
namespace L2
open PySem
theorem scal_ii {i j : Int} : scal (.int i) (.int j) = true := rfl
theorem scal_bb {i j : Bool} : scal (.bl i) (.bl j) = true := rfl
theorem scal_ss {i j : Str} : scal (.str i) (.str j) = true := rfl
theorem scal_nn : scal .non .non = true := rfl
theorem scal_in {i : Int} : scal (.int i) .non = true := rfl
theorem scal_ni {i : Int} : scal .non (.int i) = true := rfl
end L2

namespace L2
open PySem PySem.Spec PyProof.Rows
section
variable {K : PySem.W.Frag} {h : Heap} {mg : Str → Option Value}
theorem has_mk {x : Str} {st : Stmt} {ps : List Str} {f : Addr} {oc kV doc pm cd ct : Value} {od an : Option Addr} {sl : Array (Option Value)} (X : K.In h) (G : h.Ns mainGlobals mg) (a : PySem.W.nsIn K mainGlobals x = some (some (.ref f)))
    (l : K.lookup f = some ⟨oc, od, .func (PySem.W.fnOf x x (defArgs st) (defBody st) (defScope st) .none kV doc pm an cd ct), sl⟩) (c : PySem.W.codeIn K cd x = true) (k : PySem.W.keepIn K (.ref f) = true)
    (hb : ∀ (kV doc pm : Value) (an : Option Addr) (cdv ct : Value) (us : List Value), us.length = ps.length → bindArgs (PySem.W.fnOf x x (defArgs st) (defBody st) (defScope st) .none kV doc pm an cdv ct) ⟨us, []⟩ = pure (ps.zip us)) : ∃ f fd, Has K mg x st ps f fd := by
  have F := fun_mk (x := x) (qual := x) (st := st) l c k
  exact ⟨f, _, F, F.binds hb, PySem.W.mg_of X G a⟩
theorem exc_mk {x : Str} {C : Addr} (X : K.In h) (G : h.Ns mainGlobals mg) (a : PySem.W.nsIn K mainGlobals x = some (some (.ref C)))
    (q : PySem.W.excIn K C [.type "ValueError", .type "Exception", .type "BaseException", .type "object"] "ValueError.__new__" = true) : ∃ C, ExcCls K C ∧ mg x = some (.ref C) := ⟨C, q, PySem.W.mg_of X G a⟩
theorem gint_mk {x : Str} {i : Int} {t : Tok} (X : K.In h) (G : h.Ns mainGlobals mg) (a : PySem.W.nsIn K mainGlobals x = some (some (.int i t))) : GInt mg x i := ⟨t, PySem.W.mg_of X G a⟩
theorem none_mk {x : Str} (X : K.In h) (G : h.Ns mainGlobals mg) (a : PySem.W.nsIn K mainGlobals x = some none) : mg x = none := PySem.W.mg_none_of X G a
end
theorem cxf_no {P : Program} {w : World} {H : Hp} {s : Shared} {e : Value} {s' : Shared} (z : CXf P w [] H s (fun _ _ _ => False) e s') : False := by
  obtain ⟨_, _, _, _, _, f, _⟩ := z
  exact f
end L2

namespace L2
open PySem PySem.Spec PyProof.Rows PySem.SeqAt
mutual
inductive Dp (K : PySem.W.Frag) (H : Hp) : V → PyData → Prop
  | int (i : Int) : Dp K H (.int i) (.int i)
  | bl (b : Bool) : Dp K H (.bl b) (.bool b)
  | str (x : Str) : Dp K H (.str x) (.str x)
  | non : Dp K H .non .none
  | lst {a : Addr} {xs : List V} {ds : List PyData} : SqL K H a xs → DpAll K H xs ds → Dp K H (.ref a) (.list ds)
  | tup {a : Addr} {xs : List V} {ds : List PyData} : SqT K H a xs → DpAll K H xs ds → Dp K H (.ref a) (.tuple ds)
inductive DpAll (K : PySem.W.Frag) (H : Hp) : List V → List PyData → Prop
  | nil : DpAll K H [] []
  | cons {x : V} {d : PyData} {xs : List V} {ds : List PyData} : Dp K H x d → DpAll K H xs ds → DpAll K H (x :: xs) (d :: ds)
end
section
variable {X : Cx} {pins : List (Addr × Obj)} {σ : St} {H : Hp} {s : Shared}
mutual
theorem Dp.reads {K : PySem.W.Frag} {x : V} {d : PyData} (e : X.K = K) (I : Inv X pins σ H s) : Dp K H x d → ∀ v, RelV x v → ∃ as, Reads s.heap v d as
  | .int i, v, r => by obtain ⟨t, rfl⟩ := r; exact ⟨_, .int i t⟩
  | .bl b, v, r => by cases r; exact ⟨_, .bool b⟩
  | .str x, v, r => by obtain ⟨t, rfl⟩ := r; exact ⟨_, .str x t⟩
  | .non, v, r => by cases r; exact ⟨_, .none⟩
  | .lst h q, v, r => by
    subst e
    cases r
    obtain ⟨its, rv, ⟨o, n, e, hc, _, hd⟩, _⟩ := I.list h
    obtain ⟨as, ra⟩ := DpAll.reads rfl I q its rv
    exact ⟨_, .list e hc hd (by simpa using ra)⟩
  | .tup h q, v, r => by
    subst e
    cases r
    obtain ⟨its, rv, ⟨o, e, hc, n, hd⟩, _⟩ := I.tuple h
    obtain ⟨as, ra⟩ := DpAll.reads rfl I q its rv
    exact ⟨_, .tuple e hc hd (by simpa using ra)⟩
theorem DpAll.reads {K : PySem.W.Frag} {xs : List V} {ds : List PyData} (e : X.K = K) (I : Inv X pins σ H s) : DpAll K H xs ds → ∀ vs, Vals xs vs → ∃ as, ReadsAll s.heap vs ds as
  | .nil, vs, r => by cases r; exact ⟨_, .nil⟩
  | .cons h t, vs, r => by
    cases r with
    | cons r1 r2 =>
      obtain ⟨as, ra⟩ := Dp.reads e I h _ r1
      obtain ⟨bs, rb⟩ := DpAll.reads e I t _ r2
      exact ⟨_, .cons ra rb⟩
end
end
mutual
theorem noMix_self : ∀ d : PyData, d.canLay0 = true → noMix d d = true
  | .none, _ => by simp [noMix]
  | .bool _, _ => by simp [noMix]
  | .int _, _ => by simp [noMix]
  | .str _, _ => by simp [noMix]
  | .list xs, h => by rw [noMix]; exact noMixAll_self xs (by rwa [PyData.canLay0] at h)
  | .tuple xs, h => by rw [noMix]; exact noMixAll_self xs (by rwa [PyData.canLay0] at h)
  | .dict _, h => by simp [PyData.canLay0] at h
theorem noMixAll_self : ∀ ds : List PyData, PyData.canLayAll0 ds = true → noMixAll ds ds = true
  | [], _ => by simp [noMixAll]
  | d :: r, h => by
    rw [PyData.canLayAll0, Bool.and_eq_true] at h
    rw [noMixAll, noMix_self d h.1, noMixAll_self r h.2]
    rfl
end
def rEqS (K : PySem.W.Frag) (neg : Bool) : R2 := fun x y H Q => ∃ d, Dp K H x d ∧ Dp K H y d ∧ shaped d = true ∧ Q (.bl (!neg)) H
section
variable {X : Cx} {K : PySem.W.Frag}
theorem op_eqS (e : X.K = K) (hu : X.A.units + 64 < cLine) : OpR X (compareOp .Eq) (rEqS K false) := by
  intro pins s σ H x y v u Q I rx ry h
  obtain ⟨d, hx, hy, hs, q⟩ := h
  obtain ⟨_, ra⟩ := hx.reads e I v rx
  obtain ⟨_, rb⟩ := hy.reads e I u ry
  exact eq_dataH_same ra rb hs hs hu (noMix_self d (canLay_of_shaped hs)) ⟨.bl true, H, I, by rw [same_self]; rfl, q⟩
theorem op_neS (e : X.K = K) (hu : X.A.units + 64 < cLine) : OpR X (compareOp .NotEq) (rEqS K true) := by
  intro pins s σ H x y v u Q I rx ry h
  obtain ⟨d, hx, hy, hs, q⟩ := h
  obtain ⟨_, ra⟩ := hx.reads e I v rx
  obtain ⟨_, rb⟩ := hy.reads e I u ry
  exact ne_dataH_same ra rb hs hs hu (noMix_self d (canLay_of_shaped hs)) ⟨.bl false, H, I, by rw [same_self]; rfl, q⟩
end
theorem canLayAll_of {ds : List PyData} (h : ∀ d ∈ ds, d.canLay0 = true) : PyData.canLayAll0 ds = true := by
  induction ds with
  | nil => rfl
  | cons d r ih =>
    rw [PyData.canLayAll0, h d List.mem_cons_self, ih fun x hx => h x (List.mem_cons_of_mem _ hx)]
    rfl
theorem depthAll_of {k : Nat} {ds : List PyData} (h : ∀ d ∈ ds, d.depth ≤ k) : PyData.depthAll ds ≤ k := by
  induction ds with
  | nil => simp [PyData.depthAll]
  | cons d r ih =>
    rw [PyData.depthAll]
    exact Nat.max_le.mpr ⟨h d List.mem_cons_self, ih fun x hx => h x (List.mem_cons_of_mem _ hx)⟩
theorem shaped_of {d : PyData} (h1 : d.canLay0 = true) (h2 : d.depth ≤ 64) : shaped d = true := by
  unfold shaped
  rw [h1, decide_eq_true h2]
  rfl
end L2

namespace L2
open PySem PySem.Spec PyProof.Rows
def rSorted (K : PySem.W.Frag) : List V → Hp → VK → Prop := fun xs H Q => ∃ (a : Addr) (ns : List Int), xs = [.ref a] ∧ SqL K H a (ns.map V.int) ∧ ns.length < 64 ∧
  ∀ (l : Addr) (ms : List Int), H l = none → ms.Perm ns → ms.Pairwise (· ≤ ·) → Q (.ref l) (upd H l (.lst (ms.map V.int)))
theorem kit_tuple_tuple {K : PySem.W.Frag} : PySem.W.kitOne K (.type "tuple") (.type "tuple") = some true := by rfl
end L2

namespace L2
open PySem PySem.Spec PyProof.Rows
/-- within an except suite -/
abbrev Cx.marked (X : Cx) (e : Value) : Cx := { X with A := X.A.mark (some e), calm := false }
section
variable {X : Cx} {pins : List (Addr × Obj)} {σ : St} {H : Hp} {s : Shared}
theorem Inv.marked (I : Inv X pins σ H s) (e : Value) : Inv (X.marked e) pins σ H s :=
  ⟨⟨I.ok.mod, I.ok.kind, I.ok.glob, I.ok.blt, I.ok.above, I.ok.inj, I.ok.has, I.ok.cab, fun z => absurd z Bool.false_ne_true, I.ok.frames, I.ok.stk, I.ok.exf, I.ok.bs, I.ok.bsz, I.ok.noex, I.ok.exfs, I.ok.funs, I.ok.frf⟩, I.os, I.bare, I.base, I.loc, I.cell, I.free, I.freeC, I.pin, I.hok, I.len⟩
theorem Inv.unmarked {e : Value} (I : Inv (X.marked e) pins σ H s) (ok : X.Ok) : Inv X pins σ H s :=
  ⟨ok, I.os, I.bare, I.base, I.loc, I.cell, I.free, I.freeC, I.pin, I.hok, I.len⟩
theorem SP.unmarked {e : Value} {D : Ends} {f : Flow} {s' : Shared} (ok : X.Ok) (h : SP (X.marked e) pins D f s') : SP X pins D f s' := by
  cases f with
  | next => obtain ⟨σ', H', I, q⟩ := h; exact ⟨σ', H', I.unmarked ok, q⟩
  | brk => obtain ⟨σ', H', I, q⟩ := h; exact ⟨σ', H', I.unmarked ok, q⟩
  | cont => obtain ⟨σ', H', I, q⟩ := h; exact ⟨σ', H', I.unmarked ok, q⟩
  | ret v => obtain ⟨v', σ', H', I, r, q⟩ := h; exact ⟨v', σ', H', I.unmarked ok, r, q⟩
/-- a thing that no one holds is held from now on -/
theorem Inv.track {a : Addr} {o : HO} (I : Inv X pins σ H s) (na : FlyOk X pins H a) (new : ObjOk X.prog X.w (upd H a o) s.heap a o) : Inv X pins σ (upd H a o) s := by
  obtain ⟨n1, n2, n3, n4, n5⟩ := na
  have ne : ∀ b u, H b = some u → b ≠ a := fun b u e => ne_of_none e n1
  refine ⟨I.ok, I.os, I.bare, ⟨I.base.keep, I.base.slot, fun b u e n nx => ?_, I.base.there, fun b xs e => ?_, fun b u v e => ?_, fun b ps e => ?_⟩, I.loc, I.cell, ?_, fun x c e => ?_, fun p hp => ?_, fun b u e => ?_, I.len⟩
  · rw [upd_ne fun z => by rw [z, n2] at e; cases e]
    exact I.base.free b u e n nx
  · have q := I.base.tups b xs e
    rw [upd_ne (ne _ _ q)]
    exact q
  · have q := I.base.frzs b u v e
    rw [upd_ne (ne _ _ q)]
    exact q
  · obtain ⟨more, q⟩ := I.base.tbls b ps e
    exact ⟨more, by rw [upd_ne (ne _ _ q)]; exact q⟩
  · rw [upd_ne (Ne.symm n3)]
    exact I.free
  · rw [upd_ne (n4 x c e)]
    exact I.freeC x c e
  · obtain ⟨h1, h2, h3⟩ := I.pin p hp
    exact ⟨h1, by rw [upd_ne (n5 p hp)]; exact h2, h3⟩
  · by_cases hb : b = a
    · subst hb
      rw [upd_same] at e
      cases e
      exact new
    · rw [upd_ne hb] at e
      exact (I.hok b u e).stay (fun _ _ _ q => q) (fun c q => by rw [upd_ne (ne _ _ q)]; exact q) fun c xs q => by rw [upd_ne (ne _ _ q)]; exact q
/-- a name of the frame goes -/
theorem Inv.drop {i : Nat} {x : Str} {h' : Heap} {m : Str → Option Value} {t' : Nat} (I : Inv X pins σ H s) (hN : X.N.Nodup) (hi : X.N[i]? = some x) (hx : X.env.scope.names.lookup x = some .local) (hm : s.heap.Ns X.env.locals m)
    {v : Option Value} (hn : h'.Ns X.env.locals (fun y => if y = x then v else m y)) (hs : Heap.SameBut X.env.locals s.heap h') : Inv X pins (σ.set i none) H { s with heap := h', toks := t' } := by
  obtain ⟨m0, hm0, hl⟩ := I.loc
  have hiσ : i < σ.length := by rw [I.len]; exact (List.getElem?_eq_some_iff.mp hi).1
  have e0 : m0 = m := by
    obtain ⟨o1, es1, ep1, ho1, hd1, hk1, hf1⟩ := hm0
    obtain ⟨o2, es2, ep2, ho2, hd2, hk2, hf2⟩ := hm
    rw [ho1] at ho2
    cases ho2
    rw [hd1] at hd2
    cases hd2
    funext n
    rw [← hf1, ← hf2]
  subst e0
  have old : ∀ b o, X.s₀.heap.get? b = some o → b ≠ X.env.locals := fun b o e => Nat.ne_of_lt (Nat.lt_of_lt_of_le (Heap.lt_size e) I.ok.above)
  refine ⟨I.ok, I.os, I.bare, ⟨fun b o e n nf nx => (hs.2 b (old b o e)).trans (I.base.keep b o e n nf nx), fun b o e n hf nx => ?_, I.base.free, fun b o e nx => ?_, I.base.tups, I.base.frzs, I.base.tbls⟩, ⟨_, hn, fun j y w e1 e2 e3 => ?_⟩, fun y c e => ?_, I.free, I.freeC, fun p hp => ?_, fun b ob e => ?_, by simpa using I.len⟩
  · obtain ⟨sl, q⟩ := I.base.slot b o e n hf nx
    exact ⟨sl, (hs.2 b (old b o e)).trans q⟩
  · obtain ⟨o', q⟩ := I.base.there b o e nx
    exact ⟨o', (hs.2 b (old b o e)).trans q⟩
  · have hj : j ≠ i := fun z => by
      subst z
      rw [List.getElem?_set_self hiσ] at e2
      cases e2
    rw [List.getElem?_set_ne (Ne.symm hj)] at e2
    obtain ⟨u, r, q⟩ := hl j y w e1 e2 e3
    refine ⟨u, r, ?_⟩
    rcases q with ⟨k, e⟩ | ⟨k, c, e, z⟩
    · refine .inl ⟨k, ?_⟩
      have : y ≠ x := fun e => hj (nodup_ix hN e1 (e ▸ hi))
      simp [this, e]
    · exact .inr ⟨k, c, e, z.sameBut hs (I.cne y c e)⟩
  · obtain ⟨w, z⟩ := I.cell y c e
    exact ⟨w, z.sameBut hs (I.cne y c e)⟩
  · obtain ⟨e, n, ne, r⟩ := I.pin p hp
    exact ⟨(hs.2 p.1 ne).trans e, n, ne, r⟩
  · refine (I.hok b ob e).stay (fun c w hc q => (hs.2 c ?_).trans q) (fun _ q => q) fun _ _ q => q
    rintro rfl
    rcases hc with rfl | hc
    · rw [I.free] at e; cases e
    · rw [I.free] at hc; cases hc
theorem goes_ok {M : Model} {A : Around} {E : Value → Shared → Prop} {i : Nat} {x : Str} {pos : Pos} {Q : Unit → Shared → Prop} (I : Inv X pins σ H s) (hN : X.N.Nodup) (hi : X.N[i]? = some x) (hx : X.env.scope.names.lookup x = some .local)
    (h : ∀ s', Inv X pins (σ.set i none) H s' → Q () s') : wpAny M A (do bindName X.env x .none; unbindBehindTheSuite X.env x pos) Q E s := by
  have hp : (X.env.scope.kind == .class || (X.env.scope.kind == .module && X.env.locals != X.env.globals)) = false := by rw [I.ok.kind]; rfl
  have hl : X.env.kindOf x = some .local := hx
  refine wpAny_bind (wpAny_bindName (store_ok (v := .non) I hN hi (.inl hx) rfl (fun s1 I1 => ?_) (.inr hx)))
  have hiσ : i < σ.length := by rw [I.len]; exact (List.getElem?_eq_some_iff.mp hi).1
  obtain ⟨m, hn, hv⟩ := id I1.loc
  obtain ⟨u, ru, q⟩ := hv i x .non hi (List.getElem?_set_self hiσ) (.inl hx)
  have hm : (m x).isSome = true := by
    rcases q with ⟨_, e⟩ | ⟨k, _⟩
    · rw [e]; rfl
    · rcases k with k | k <;> (rw [hl] at k; cases k)
  unfold unbindBehindTheSuite
  refine wpAny_onRaise ?_
  unfold unbindName
  refine wpAny_bind (wpAny_point (wpAny_bind ?_))
  unfold deleteName
  simp only [hl, hp]
  rw [if_neg (by decide)]
  refine wpAny_bind (wpAny_nsDel_keeps hn fun h2 v hn2 hs2 => ?_)
  rw [hm]
  simp only [if_true, Bool.not_true, Bool.false_eq_true, if_false]
  have J := I1.drop (t' := s1.toks) hN hi hx hn hn2 hs2
  rw [List.set_set] at J
  exact wpAny_pure (wpAny_point (h _ J))
end
/-- an own class of exceptions: what stands behind it in its row of classes -/
def ClsX (K : PySem.W.Frag) (C : Addr) (bm : List Value) : Prop := ∃ nm qn N bs hdct sn sub ab col dd k0 k1 k2 k3 k5, K.lookup C = some (excClassObj nm qn C N bs bm hdct sn sub ab col dd k0 k1 k2 k3 k5 "ValueError.__new__") ∧ bm.contains (.type "BaseException") = true
/-- whether the one is of the other -/
def SubC (K : PySem.W.Frag) (C C1 : Addr) (b : Bool) : Prop := (∃ bm, ClsX K C bm ∧ (Value.ref C :: bm).contains (.ref C1) = b) ∧ ∃ bm, ClsX K C1 bm
theorem matches_own {M : Model} {A : Around} {E : Value → Shared → Prop} {K : PySem.W.Frag} {C C1 e : Addr} {b : Bool} {s : Shared} {oe : Obj} {Q : Bool → Shared → Prop} (X : K.In s.heap) (sc : SubC K C C1 b) (he : s.heap.get? e = some oe) (hcls : oe.cls = .ref C) (hq : Q b s) :
    wpAny M A (excMatches (.ref e) (.ref C1)) Q E s := by
  obtain ⟨⟨bm, ⟨nm, qn, N, bs, hdct, sn, sub, ab, col, dd, k0, k1, k2, k3, k5, lC, _⟩, hb⟩, bm1, nm1, qn1, N1, bs1, hdct1, sn1, sub1, ab1, col1, dd1, l0, l1, l2, l3, l5, lC1, hB1⟩ := sc
  obtain ⟨h, g, d, t, os⟩ := s
  have hC := X _ _ lC
  have hC1 := X _ _ lC1
  have cB : (Value.ref C1 :: bm1).contains (.type "BaseException") = true := by rw [List.contains_cons, hB1, Bool.or_true]
  have f := tc_notTuple
  unfold excMatches
  repeat (first | (with_reducible refine wpAny_loadPart_at he ?_; rw [hcls]) | with_reducible refine wpAny_loadPart_at hC1 ?_ | (with_reducible refine wpAny_isSubtype_exc hC1 ?_; rw [cB]) | (with_reducible refine wpAny_isSubtype_exc hC ?_; rw [hb]) | wp_step)
  cases b <;> (wp_walk; exact hq)
/-- what is wanted of the clauses, by the exception's class and dict -/
abbrev TH := Addr → Option Addr → TS
/-- an exception under a name -/
def excO (a C : Addr) (da : Option Addr) : HO := .ext fun h => ∃ oe vs, h.get? a = some oe ∧ oe.cls = .ref C ∧ oe.dict = da ∧ oe.data = .fields vs
/-- the name goes at the end -/
def Ends.less (D : Ends) (i : Nat) : Ends := { nx := fun σ H => D.nx (σ.set i none) H, rt := D.rt, bk := fun σ H => D.bk (σ.set i none) H, ct := fun σ H => D.ct (σ.set i none) H }
def PH (X : Cx) (hs : List ExceptHandler) (th : TH) : Prop := ∀ (pins : List (Addr × Obj)) (s : Shared) (σ : St) (H : Hp) (D : Ends) (a C : Addr) (da : Option Addr), XIn X pins σ H a (.ref C) da s → th C da D σ H →
  wpAny (model X.prog X.w) X.A (handleBy (.ref a) X.env hs) (SP X pins D) X.xe s
def thNil : TH := fun _ _ _ _ _ => False
def thC (K : PySem.W.Frag) (C1 : Addr) (ts : TS) (th : TH) : TH := fun C da D σ H => ∃ b, SubC K C C1 b ∧ if b = true then ts D σ H else th C da D σ H
def thA (K : PySem.W.Frag) (C1 : Addr) (i : Nat) (ts : TS) (th : TH) : TH := fun C da D σ H => ∃ b, SubC K C C1 b ∧ if b = true then ∀ a, H a = none → ts (D.less i) (σ.set i (some (.ref a))) (upd H a (excO a C da)) else th C da D σ H
section
variable {X : Cx} {hs : List ExceptHandler} {th : TH} {C1 : Addr} {c y : Str} {np hpos : Pos} {b0 : Stmt} {suite : List Stmt} {ts : TS} {i : Nat} {K : PySem.W.Frag}
theorem ph_nil : PH X [] thNil := fun _ _ _ _ _ _ _ _ _ z => z.elim
theorem ph_cons (d : IsDef X) (hK : X.K = K) (hgc : Gl X c) (hmc : X.mg c = some (.ref C1)) (hsu : ∀ v, PSs ((X.marked v).wish fun _ _ => False) (b0 :: suite) ts) (hr : PH X hs th) (hdc : (c == ("__debug__" : Str)) = false := by decide) :
    PH X (.ExceptHandler (some (.Name c np)) none (b0 :: suite) hpos :: hs) (thC K C1 ts th) := by
  subst hK
  intro pins s σ H D a C da x h
  obtain ⟨b, sc, q⟩ := h
  have Jm := x.inv.marked (.ref a)
  refine wpAny_handleBy_cons (codeAny_handlers_test (ld_glob (X := X.marked (.ref a)) Jm hgc hmc ?_ hdc)) (by intro q; cases q)
  obtain ⟨oe, vs', T5, oT, ts', a05, f1, f2, f3, f4, f5, f6, f7, f8, f9, n1, n2, n3⟩ := id x.fl
  refine matches_own x.inv.kIn sc f1 f2 ?_
  cases b with
  | false => exact hr pins s σ H D a C da x q
  | true =>
    refine codeAny_handlers_suite ?_
    obtain ⟨T, a0, hb, hd, fl⟩ := x.flying
    refine wpAny_mono (wpAny_kd (E := fun _ _ => False) (kd_setFlight _ _) hd (lands_againW (Q := fun _ s2 => ∃ h', s2 = { s with heap := h' } ∧ Heap.FlyingW (bareOf s.heap ([a, T] ++ frs X.stack)) X.stack a (.ref C) a0 h' ∧ s.heap.UpToSlots h') fl fun h' f2 up => ⟨h', rfl, f2, up⟩)) (fun _ s2 z => ?_) (fun _ _ z => z.1.elim)
    obtain ⟨⟨h', rfl, f2', up⟩, hd2⟩ := z
    have x6 := XIn.on x.inv d hb (by simp) f2' up hd2
    refine wpAny_mono (hsu (.ref a) pins _ σ H D ((x6.inv.marked (.ref a)).wish _) q) (fun fl s7 q7 => ?_) fun _ _ z => False.elim z
    exact SP.unmarked x6.inv.ok q7.unwish
theorem ph_as (d : IsDef X) (hK : X.K = K) (hgc : Gl X c) (hmc : X.mg c = some (.ref C1)) (hN : X.N.Nodup) (hi : X.N[i]? = some y) (hy : X.env.scope.names.lookup y = some .local) (hsu : ∀ v, PSs ((X.marked v).wish fun _ _ => False) (b0 :: suite) ts) (hr : PH X hs th) (hdc : (c == ("__debug__" : Str)) = false := by decide) :
    PH X (.ExceptHandler (some (.Name c np)) (some y) (b0 :: suite) hpos :: hs) (thA K C1 i ts th) := by
  subst hK
  intro pins s σ H D a C da x h
  obtain ⟨b, sc, q⟩ := h
  have Jm := x.inv.marked (.ref a)
  refine wpAny_handleBy_cons (codeAny_handlers_test (ld_glob (X := X.marked (.ref a)) Jm hgc hmc ?_ hdc)) (by intro q; cases q)
  obtain ⟨oe, vs', T5, oT, ts', a05, f1, f2, f3, f4, f5, f6, f7, f8, f9, n1, n2, n3⟩ := id x.fl
  refine matches_own x.inv.kIn sc f1 f2 ?_
  cases b with
  | false => exact hr pins s σ H D a C da x q
  | true =>
    refine codeAny_handlers_suite_as ?_
    obtain ⟨T, a0, hb, hd, fl⟩ := x.flying
    refine wpAny_mono (wpAny_kd (E := fun _ _ => False) (kd_setFlight _ _) hd (lands_againW (Q := fun _ s2 => ∃ h', s2 = { s with heap := h' } ∧ Heap.FlyingW (bareOf s.heap ([a, T] ++ frs X.stack)) X.stack a (.ref C) a0 h' ∧ s.heap.UpToSlots h') fl fun h' f2 up => ⟨h', rfl, f2, up⟩)) (fun _ s2 z => ?_) (fun _ _ z => z.1.elim)
    obtain ⟨⟨h', rfl, f2', up⟩, hd2⟩ := z
    have x6 := XIn.on x.inv d hb (by simp) f2' up hd2
    obtain ⟨oe6, vs6, T6, oT6, ts6, a06, g1, g2, g3, g4, g5, g6, g7, g8, g9, m1, m2, m3⟩ := id x6.fl
    have x7 : Inv X pins σ (upd H a (excO a C da)) { s with heap := h' } := x6.inv.track m1 ⟨⟨oe6, vs6, g1, g2, m3, g3⟩, ⟨_, g1⟩, fun h1 h2 ⟨oe, vs, e1, r⟩ k => ⟨oe, vs, k _ e1, r⟩⟩
    refine store_ok (v := .ref a) x7 hN hi (.inl hy) rfl (fun s3 I3 => ?_) (.inr hy)
    refine wpAny_mono (hsu (.ref a) pins s3 _ _ (D.less i) ((I3.marked (.ref a)).wish _) (q a m1.1)) (fun fl s7 q7 => ?_) fun _ _ z => False.elim z
    have q8 := SP.unmarked x6.inv.ok q7.unwish
    cases fl with
    | next =>
      obtain ⟨σ', H', I8, q9⟩ := q8
      exact goes_ok I8 hN hi hy fun s' I9 => ⟨_, H', I9, q9⟩
    | brk =>
      obtain ⟨σ', H', I8, q9⟩ := q8
      exact goes_ok I8 hN hi hy fun s' I9 => ⟨_, H', I9, q9⟩
    | cont =>
      obtain ⟨σ', H', I8, q9⟩ := q8
      exact goes_ok I8 hN hi hy fun s' I9 => ⟨_, H', I9, q9⟩
    | ret v =>
      obtain ⟨v', σ', H', I8, r8, q9⟩ := q8
      exact goes_ok I8 hN hi hy fun s' I9 => ⟨v', _, H', I9, r8, q9⟩
end
section
variable {X : Cx} {k : Nat} {f : Addr} {fd : FuncData} {ps : List Str} {sp : Sp} {fx y : Str} {p pos apos cpos py : Pos} {e : Expr} {es : List Expr} {t : TA} {i : Nat} {h0 : ExceptHandler} {hs : List ExceptHandler} {th : TH}
/-- the way of an exception from a callee to the clauses -/
theorem to_clauses {pins : List (Addr × Obj)} {s1 s' : Shared} {σ : St} {H1 : Hp} {D : Ends} {ee : Value} (d : IsDef X) (J : Inv X pins σ H1 s1) (hh : PH X (h0 :: hs) th) (hq : CXf X.prog X.w X.stack H1 s1 (fun cls da H2 => ∃ C, cls = Value.ref C ∧ th C da D σ H2) ee s') :
    wpAny (model X.prog X.w) X.A (noteFrame ee X.env) (fun _ s₂ => wpAny (model X.prog X.w) X.A (setFlight ee none) (fun _ s₃ => wpAny (model X.prog X.w) X.A (handleBy ee X.env (h0 :: hs)) (SP X pins D) X.xe s₃) X.xe s₂) X.xe s' := by
  obtain ⟨a, cls, da, H', rfl, ⟨C, rfl, qs⟩, x⟩ := XIn.ofCall d J hq
  obtain ⟨T, a0, hb, hd, fl⟩ := x.flying
  have hfr : X.A.frames = some (X.env :: X.outer) := by rw [x.inv.ok.frames, d.st]
  have fl' := fl
  rw [d.st] at fl'
  refine wpAny_mono (wpAny_kd (E := fun _ _ => False) (kd_noteFrame _ _) hd (wpAny_looks_onW (Q := fun _ s2 => ∃ h', s2 = { s' with heap := h' } ∧ Heap.HeldW (bareOf s'.heap ([a, T] ++ frs (X.env :: X.outer))) (X.env :: X.outer) a (.ref C) a0 X.env.locals h' ∧ s'.heap.UpToSlots h') hfr d.fr fl' fun h4 held4 up4 => ⟨h4, rfl, held4, up4⟩)) (fun _ s2 z => ?_) (fun _ _ z => z.1.elim)
  obtain ⟨⟨h4, rfl, held4, up4⟩, hd4⟩ := z
  refine wpAny_mono (wpAny_kd (E := fun _ _ => False) (kd_setFlight _ _) hd4 (wpAny_landsW (Q := fun _ s2 => ∃ h', s2 = { s' with heap := h' } ∧ Heap.FlyingW (bareOf s'.heap ([a, T] ++ frs (X.env :: X.outer))) (X.env :: X.outer) a (.ref C) a0 h' ∧ h4.UpToSlots h') held4 fun h5 fl5 up5 => ⟨h5, rfl, fl5, up5⟩)) (fun _ s2 z => ?_) (fun _ _ z => z.1.elim)
  obtain ⟨⟨h5, rfl, fl5, up5⟩, hd5⟩ := z
  have x5 : XIn X pins σ H' a (.ref C) da { s' with heap := h5 } := XIn.on x.inv d hb (by simp) (by rw [d.st]; exact fl5) (up4.trans up5) hd5
  exact hh pins _ σ H' D a C da x5 qs
def tTryA (t : TA) (sp : Sp) (i : Nat) (th : TH) : TS := fun D σ H => t σ H fun vs H1 => sp vs H1 (fun v H2 => D.nx (σ.set i (some v)) H2) fun cls da H2 => ∃ C, cls = .ref C ∧ th C da D σ H2
def tTryE (t : TA) (sp : Sp) (th : TH) : TS := fun D σ H => t σ H fun vs H1 => sp vs H1 (fun _ H2 => D.nx σ H2) fun cls da H2 => ∃ C, cls = .ref C ∧ th C da D σ H2
/-- the call that is tried -/
theorem tried {pins : List (Addr × Obj)} {s : Shared} {σ : St} {H : Hp} {D : Ends} {Qv : VK} {Eb : Value → Shared → Prop} (d : IsDef X) (F : FnOk X.prog X.w X.K X.mg X.base (CXf X.prog X.w) k f fd ps sp) (hr : Room k X.A) (hg : Gl X fx) (hm : X.mg fx = some (.ref f)) (hk : PySem.W.keepIn X.K (.ref f) = true) (hb : Binds X.K fd ps [])
    (ha : ∀ E', PA (X.wish E') (e :: es) t) (hh : PH X (h0 :: hs) th) (I : Inv X pins σ H s) {Ex : XK} (hx : ∀ cls da H2, Ex cls da H2 → ∃ C, cls = Value.ref C ∧ th C da D σ H2) (h : t σ H fun vs H1 => sp vs H1 Qv Ex)
    (hE : ∀ ee s', wpAny (model X.prog X.w) X.A (noteFrame ee X.env) (fun _ s₂ => wpAny (model X.prog X.w) X.A (setFlight ee none) (fun _ s₃ => wpAny (model X.prog X.w) X.A (handleBy ee X.env (h0 :: hs)) (SP X pins D) X.xe s₃) X.xe s₂) X.xe s' → Eb ee s')
    (hdb : (fx == ("__debug__" : Str)) = false) (he : starEach (e :: es) X.env = (false, eval e X.env) :: starEach es X.env) (hpl : (backTo cpos (starEach es X.env)).any (·.1) = false) :
    wpAny (model X.prog X.w) X.A (eval (.Call (.Name fx p) (e :: es) [] cpos) X.env) (EP (X.wish Eb) pins σ Qv) Eb s := by
  refine wpAny_Call_Name_kw (ld_glob (X := X.wish Eb) (I.wish Eb) hg hm ?_ hdb)
  refine PySem.W.callWith_K (h₀ := X.base) I.ok.mod.kin hk (thn (ha Eb cpos pins s σ H _ (I.wish Eb) h) fun us s1 ⟨vs, H1, I1, r, q⟩ => ⟨I1.kIn, ?_⟩) he hpl
  have r2 : Vals vs (us ++ []) := by rw [List.append_nil]; exact r
  have hl : (us ++ []).length = ps.length := by rw [← r2.length]; exact F.len _ _ _ _ q
  have J := I1.unwish
  refine wpAny_call (codeAny_mono (F.run X.A X.stack s1 H1 ⟨us, []⟩ (us ++ []) vs _ _ hr J.env0 (hb s1 us J.kIn hl) r2 q) fun rr s' hq => ?_)
  cases rr with
  | ok fl =>
    cases fl with
    | ret u => exact I1.after (X := X.wish Eb) hq
    | next => exact False.elim hq
    | brk => exact False.elim hq
    | cont => exact False.elim hq
  | error ee =>
    have hq1 : CXf X.prog X.w X.stack H1 s1 Ex ee s' := hq
    obtain ⟨a, cls, da, H', e1, e2, r⟩ := hq1
    exact hE ee s' (to_clauses d J hh ⟨a, cls, da, H', e1, hx _ _ _ e2, r⟩)
theorem ps_tryE (d : IsDef X) (o : Ok X.prog X.w X.K X.mg X.base fx ps k sp) (hr : Room k X.A) (hg : Gl X fx) (ha : ∀ E', PA (X.wish E') (e :: es) t) (hh : PH X (h0 :: hs) th) (hin : interactive X.env = false := by rfl) (hsw : swapsWith (.Call (.Name fx p) (e :: es) [] cpos) none apos.line X.env = pure false := by rfl)
    (hdb : (fx == ("__debug__" : Str)) = false := by decide) (he : starEach (e :: es) X.env = (false, eval e X.env) :: starEach es X.env := by rfl) (hpl : (backTo cpos (starEach es X.env)).any (·.1) = false := by rfl) :
    PS X (.Try [.Expr (.Call (.Name fx p) (e :: es) [] cpos) apos] (h0 :: hs) [] [] pos) (tTryE t sp th) := by
  obtain ⟨f, fd, F, hm, hk, hb⟩ := o
  intro pins s σ H D I h
  refine wpAny_Try_except ?_
  generalize hEb : (fun (e : Value) (s₁ : Shared) => wpAny (model X.prog X.w) X.A (noteFrame e X.env) (fun _ s₂ => wpAny (model X.prog X.w) X.A (setFlight e none) (fun _ s₃ => wpAny (model X.prog X.w) X.A (handleBy e X.env (h0 :: hs)) (SP X pins D) X.xe s₃) X.xe s₂) X.xe s₁) = Eb
  refine wpAny_execs_cons (Q := _) (thn (wpAny_Expr_any (Q := fun fl s' => fl = .next ∧ SP X pins D .next s') (thn (Q := EP (X.wish Eb) pins σ fun _ H2 => D.nx σ H2) ?_ fun v s1 q => ?_) hin hsw) fun fl s1 q => ?_)
  rotate_left
  · obtain ⟨yv, H1, I1, r1, q1⟩ := q
    exact ⟨rfl, σ, H1, I1.unwish, q1⟩
  · obtain ⟨rfl, q⟩ := q
    exact wpAny_execs_nil (wpAny_execs_nil q)
  exact tried d F hr hg hm hk hb ha hh I (fun _ _ _ z => z) h (fun ee s' z => by subst hEb; exact z) hdb he hpl
end
def tTryC (t : TA) (sp : Sp) (dvs : List V) (i : Nat) (C : Addr) (ts : TS) : TS := fun D σ H => t σ H fun vs H1 => sp (vs ++ dvs) H1 (fun v H2 => D.nx (σ.set i (some v)) H2) fun cls _ H2 => cls = .ref C ∧ ts D σ H2
section
variable {X : Cx} {k : Nat} {C : Addr} {ps : List Str} {sp : Sp} {x y c : Str} {p pos apos cpos py np hpos : Pos} {e : Expr} {es : List Expr} {t : TA} {i : Nat} {b0 : Stmt} {suite : List Stmt} {ts : TS}
end
end L2

namespace L2
open PySem PySem.Spec PyProof.Rows
end L2

namespace L2
open PySem PySem.Spec PyProof.Rows PySem.W
theorem refuse_value (self : Value) : refuseLoop self "__setattr__" [.type "ValueError", .type "Exception", .type "BaseException", .type "object"] = pure () := by kernel_rfl
section
variable {prog : Program} {w : World} {A : Around} {E : Value → Shared → Prop} {s : Shared} {K : PySem.W.Frag} {x C B : Addr} {name : Str} {v : Value} {ox : Obj} {cd : ClassData}
theorem osa_exc {tk : Tok} {R : Result → Shared → Prop} (X : K.In s.heap) (I : InstAt s.heap x ox C none) (hc : clsIn K C = some cd) (hm : cd.mro = [.ref C, .ref B, .type "ValueError", .type "Exception", .type "BaseException", .type "object"]) (ht : takerIn K C name = some none)
    (h : ∀ b, wpAny (model prog w) A.in1 (Builtin.ObjectAttr.storeInOwnDict (.ref x) (.ref C) (.str name tk) name v b) (fun fin s' => match fin with | .done f => R (.ok f) s' | .again c' => c'.quiet = true ∧ codeAny (model prog w) A c' R s') (fun e s' => R (.error e) s') s) :
    codeAny (model prog w) A (.call (.builtin "object.__setattr__") ⟨[.ref x, .str name tk, v], []⟩) R s := by
  have SF := PySem.F.store_object
  have sub : Looks (model prog w) s.heap (isInstance (.ref x) (.type "object")) true := I.type.andThen (looks_mroIn X (by unfold mroIn; rw [hc, Option.bind_some, hm]; rfl))
  refine codeAny_call_builtin SF.slot.plain SF.entry (@check_slot (model prog w) _ _ s "object.__setattr__" "object" "__setattr__" (.ref x) [.str name tk, v] [] _ SF.kind SF.split sub (SF.args (.ref x) (.str name tk) v) ?_)
  obtain ⟨attr, ha, hr⟩ := Option.bind_eq_some_iff.mp ht
  have hmro : Looks (model prog w) s.heap (mroOf (.ref C)) cd.mro := (looks_clsIn X hc).andThen .now
  have L3 : Looks (model prog w) s.heap (Builtin.ObjectAttr.storeTaker? attr) none := by
    cases attr with
    | none => exact .now
    | some a =>
      obtain ⟨b, hb, e⟩ := Option.map_eq_some_iff.mp hr
      cases b with
      | true => cases e
      | false => exact (looks_takesIn X hb).andThen .now
  rw [osa_eq, refuse_eq]
  refine wpAny_bind (wpAny_bind (I.type.here (wpAny_bind (hmro.here ?_))))
  rw [hm, refuseLoop_ref, refuseLoop_ref, refuse_value]
  refine wpAny_pure (wpAny_bind (I.type.here (wpAny_bind ((looks_findIn X ha).here (wpAny_bind (L3.here ?_))))))
  exact h _
/-- the first field of an exception: its dict is made -/
theorem set_exc {Q : Unit → Shared → Prop} (X : K.In s.heap) (I : InstAt s.heap x ox C none) (hs : findIn K (.ref C) "__setattr__" = some (some (.builtin "object.__setattr__"))) (hc : clsIn K C = some cd)
    (hm : cd.mro = [.ref C, .ref B, .type "ValueError", .type "Exception", .type "BaseException", .type "object"]) (hD : cd.hasDict = true) (ht : takerIn K C name = some none) {vs : Array Value} (hv : ox.data = .fields vs)
    (h : ∀ h', h'.get? x = some { ox with dict := some s.heap.objs.size } → h'.Ns1 s.heap.objs.size (fun y => if y = name then some v else none) → (∀ b o, b ≠ x → s.heap.get? b = some o → h'.get? b = some o) → Q () { s with heap := h', toks := s.toks + 2 }) :
    wpAny (model prog w) A (setAttr (.ref x) name v) Q E s := by
  refine set_plain X I hs (osa_exc (s := { s with toks := s.toks + 1 }) X I hc hm ht fun b => ?_)
  obtain ⟨hx, hcl, hn, hd⟩ := I
  obtain ⟨oc, odi, oda, osl⟩ := ox
  dsimp only at hcl hd hv
  subst hcl hv
  have hd' : odi = none := by cases odi with | none => rfl | some _ => exact hd.elim
  subst hd'
  refine wpAny_bind (wpAny_pure (wpAny_bind (wpAny_bind (wpAny_loadPart hx (wpAny_bind (PySem.W.Looks.here (s := { s with toks := s.toks + 1 }) (looks_clsIn X hc) ?_))))))
  rw [hD]
  have e1 : (s.heap.push { cls := .type "dict", data := .dict #[] }).get? x = some { cls := .ref C, dict := none, data := .fields vs, slots := osl } := Heap.get?_push_of_some _ hx
  have hlt : x < s.heap.objs.size := Heap.lt_size hx
  have e2 := Heap.get?_update_self (fun o : Obj => { o with dict := some s.heap.objs.size }) e1 rfl
  have e3 : ((s.heap.push { cls := .type "dict", data := .dict #[] }).update x (fun o : Obj => { o with dict := some s.heap.objs.size })).get? s.heap.objs.size = some { cls := .type "dict", data := .dict #[] } := by
    rw [Heap.get?_update_other _ _ (Nat.ne_of_lt hlt)]
    exact Heap.get?_push_size s.heap rfl
  have n0 : ((s.heap.push { cls := .type "dict", data := .dict #[] }).update x (fun o : Obj => { o with dict := some s.heap.objs.size })).Ns s.heap.objs.size (fun _ => none) := ⟨_, #[], _, e3, rfl, (fun e he => absurd he (by simp)), fun _ => rfl⟩
  refine wpAny_bind (wpAny_alloc ?_)
  refine wpAny_bind (wpAny_update e1 (wpAny_pure (a := some s.heap.objs.size) ?_))
  refine wpAny_bind (wpAny_pure (wpAny_bind (wpAny_nsSet1 (Heap.Ns1.of_empty n0) fun h' hn2 hs2 => ?_)))
  have hw0 : PySem.Within (fun _ => none) [] := fun y hy => absurd rfl hy
  obtain ⟨oD, esD, epD, hoD, hdD, hcD⟩ := hn2.count (PySem.Within.cons name v hw0)
  refine wpAny_bind (wpAny_lookBehind hoD (by rw [hdD]; exact pastItsLine_dict (Nat.le_trans hcD (by rw [List.length_cons, sizeLine_eq]; decide))) ?_)
  refine wpAny_pure (h h' ((hs2.2 _ (Nat.ne_of_lt hlt)).trans e2) hn2 fun b o hb e => ?_)
  have hbl : b ≠ s.heap.objs.size := Nat.ne_of_lt (Heap.lt_size e)
  refine (hs2.2 b hbl).trans ?_
  rw [Heap.get?_update_other _ _ (Ne.symm hb)]
  exact Heap.get?_push_of_some _ e
end
end L2

namespace L2
open PySem PySem.Spec PyProof.Rows PySem.W
/-- a class under a class under ValueError, whose instances have a dict -/
structure XCls (K : PySem.W.Frag) (C B : Addr) : Prop where
  ga : findIn K (.ref C) "__getattribute__" = some (some (.builtin "BaseException.__getattribute__"))
  gt : findIn K (.ref C) "__getattr__" = some none
  sa : findIn K (.ref C) "__setattr__" = some (some (.builtin "object.__setattr__"))
  cl : ∃ cd, clsIn K C = some cd ∧ cd.mro = [.ref C, .ref B, .type "ValueError", .type "Exception", .type "BaseException", .type "object"] ∧ cd.hasDict = true
/-- no attribute f in its classes -/
def NoX (K : PySem.W.Frag) (C : Addr) (f : Str) : Prop := findIn K (.ref C) f = some none
theorem takerX {K : PySem.W.Frag} {C : Addr} {f : Str} (n : NoX K C f) : takerIn K C f = some none := by
  unfold takerIn
  rw [n]
  rfl
/-- e.f, a field of a caught exception -/
def tXF (K : PySem.W.Frag) (ta : TE) (f : Str) : TE := fun σ H Q => ta σ H fun x H1 => ∃ a C B dx fs v, x = .ref a ∧ H1 a = some (excO a C (some dx)) ∧ H1 dx = some (.xd fs) ∧ XCls K C B ∧ NoX K C f ∧ fs.lookup f = some v ∧ Q v H1
section
variable {X : Cx} {e o value : Expr} {f : Str} {pos pos' : Pos} {ta tv : TE} {K : PySem.W.Frag}
end
/-- a new exception, its dict not yet made; the same with its dict -/
def excN (a C : Addr) (a0 : Value) : HO := .ext fun h => h.get? a = some { cls := .ref C, data := .fields #[a0, .none, .none, .none, .bool false, .none] }
def excD (a C : Addr) (a0 : Value) (dx : Addr) : HO := .ext fun h => h.get? a = some { cls := .ref C, dict := some dx, data := .fields #[a0, .none, .none, .none, .bool false, .none] }
/-- e.f = value, the first field of a new exception -/
def sXF (K : PySem.W.Frag) (ta tv : TE) (f : Str) : TS := fun D σ H => tv σ H fun y H1 => ta σ H1 fun x H2 => ∃ a C B a0, x = .ref a ∧ H2 a = some (excN a C a0) ∧ XCls K C B ∧ NoX K C f ∧ ∀ dx, H2 dx = none → D.nx σ (upd (upd H2 a (excD a C a0 dx)) dx (.xd [(f, y)]))
section
variable {X : Cx} {e o value : Expr} {f : Str} {pos pos' : Pos} {ta tv : TE} {K : PySem.W.Frag}
theorem ps_xf (d : IsDef X) (hK : X.K = K) (ha : PE X o ta) (hv : PE X value tv) (hs : swapsWith value (some (.Attribute o f pos')) pos.line X.env = pure false := by rfl) : PS X (.Assign [.Attribute o f pos'] value pos) (sXF K ta tv f) := by
  subst hK
  intro pins s σ H D I h
  refine plainObj_wpAny_Assign_Attribute (thn (hv pins s σ H _ I h) fun u s1 ⟨y, H1, I1, ry, q⟩ => thn (ha pins s1 σ H1 _ I1 q) fun ov s2 ⟨x, H2, I2, rx, a, C, B, a0, ex, ea, c, n, q2⟩ => ?_) hs
  subst ex
  obtain rfl : ov = Value.ref a := rx
  obtain ⟨h1, _, _⟩ := I2.hok a _ ea
  obtain ⟨cd, c1, c2, c3⟩ := c.cl
  have J : InstAt s2.heap a _ C none := ⟨h1, rfl, rfl, trivial⟩
  refine set_exc I2.kIn J c.sa c1 c2 c3 (takerX n) rfl fun h' e1 e2 e3 => ?_
  have hfr : H2 s2.heap.objs.size = none := I2.hok.fresh (Nat.le_refl _)
  have hna : s2.heap.objs.size ≠ a := fun z => by rw [z] at hfr; rw [hfr] at ea; cases ea
  have I3 : Inv X pins σ (upd H2 a (excD a C a0 s2.heap.objs.size)) { s2 with heap := h', toks := s2.toks + 2 } := I2.write (x := a) (e := a) (by rw [ea]; exact True.intro) (.inl rfl) e3 ⟨_, e1⟩ ⟨e1, ⟨_, e1⟩, fun g1 g2 p k => k _ p⟩
  have nd : FlyOk X pins (upd H2 a (excD a C a0 s2.heap.objs.size)) s2.heap.objs.size := flyOk_new I2 d (Heap.get?_none_of_le (Nat.le_refl _)) (by rw [upd_ne hna]; exact hfr)
  have I4 := I3.track (o := .xd [(f, y)]) nd ⟨_, e2, fun g => by
    show RelO (List.lookup g [(f, y)]) (if g = f then some u else none)
    by_cases z : g = f
    · have hb : (g == f) = true := beq_iff_eq.mpr z
      simp only [List.lookup, hb, if_pos z]
      exact ry
    · have hb : (g == f) = false := beq_eq_false_iff_ne.mpr z
      simp only [List.lookup, hb, if_neg z]
      trivial⟩
  exact ⟨σ, _, I4, q2 _ hfr⟩
end
/-- no longer held -/
def cutH (H : Hp) (a : Addr) : Hp := fun b => if b = a then none else H b
theorem cut_ne {H : Hp} {a b : Addr} (h : b ≠ a) : cutH H a b = H b := if_neg h
theorem cut_same {H : Hp} {a : Addr} : cutH H a a = none := if_pos rfl
section
variable {X : Cx} {pins : List (Addr × Obj)} {σ : St} {H : Hp} {s : Shared} {a : Addr} {φ : Heap → Prop}
theorem Inv.untrack (I : Inv X pins σ H s) (e : H a = some (.ext φ)) (hs : X.s₀.heap.get? a = none) : Inv X pins σ (cutH H a) s ∧ FlyOk X pins (cutH H a) a := by
  have ne : ∀ b u, H b = some u → (∀ ψ, u ≠ .ext ψ) → b ≠ a := fun b u q hu z => by
    rw [z, e] at q
    cases q
    exact hu _ rfl
  have fr : ∀ b, H b = none → cutH H a b = none := fun b q => by
    by_cases z : b = a
    · rw [z]; exact cut_same
    · rw [cut_ne z]; exact q
  refine ⟨⟨I.ok, I.os, I.bare, ⟨I.base.keep, I.base.slot, fun b u q n nx => fr _ (I.base.free b u q n nx), I.base.there, fun b xs q => ?_, fun b u v q => ?_, fun b ps q => ?_⟩, I.loc, I.cell, fr _ I.free, fun x c q => fr _ (I.freeC x c q), fun p hp => ?_, fun b u q => ?_, I.len⟩, cut_same, hs, fun z => ?_, fun x c q z => ?_, fun p hp z => ?_⟩
  · have z := I.base.tups b xs q
    rw [cut_ne (ne _ _ z fun _ k => by cases k)]
    exact z
  · have z := I.base.frzs b u v q
    rw [cut_ne (ne _ _ z fun _ k => by cases k)]
    exact z
  · obtain ⟨more, z⟩ := I.base.tbls b ps q
    exact ⟨more, by rw [cut_ne (ne _ _ z fun _ k => by cases k)]; exact z⟩
  · obtain ⟨h1, h2, h3⟩ := I.pin p hp
    exact ⟨h1, fr _ h2, h3⟩
  · have hb : b ≠ a := fun z => by rw [z, cut_same] at q; cases q
    rw [cut_ne hb] at q
    exact (I.hok b u q).stay (fun _ _ _ k => k) (fun c k => by rw [cut_ne (ne _ _ k fun _ z => by cases z)]; exact k) fun c xs k => by rw [cut_ne (ne _ _ k fun _ z => by cases z)]; exact k
  · have := I.free
    rw [← z, e] at this
    cases this
  · have := I.freeC x c q
    rw [z, e] at this
    cases this
  · have := (I.pin p hp).2.1
    rw [z, e] at this
    cases this
end
end L2

namespace L2
open PySem PySem.Spec PyProof.Rows PySem.W
section
variable {prog : Program} {w : World} {A : Around} {E : Value → Shared → Prop} {h : Heap} {g : Array GenState} {d : Drawn} {t : Nat} {os : OsState} {K : PySem.W.Frag}
variable {nm q : Str} {C N f : Addr} {bs bm bmB : List Value} {hdct : Bool} {sn : List Str} {sub : List Value} {ab : Bool} {col : Option Bool} {dd : Option Addr} {k0 k1 k2 k3 k5 : Option Value} {B newId initId : String}
theorem type_call_init (F : ExcBaseFacts B newId initId bmB) (T : OwnTail h bmB bm) (X : K.In h) {rest : List Value} {Q : Fin → Shared → Prop}
    (hC : h.get? C = some (excClassObj nm q C N bs bm hdct sn sub ab col dd k0 k1 k2 k3 k5 newId)) (hi : findIn K (.ref C) "__init__" = some (some (.ref f))) (hf : typeIn K (.ref f) = some (.type "function"))
    (hq : ∀ h2, (∀ b o, h.get? b = some o → h2.get? b = some o) → h2.get? (h.objs.size + 1) = some { cls := .ref C, data := .fields #[.ref h.objs.size, .none, .none, .none, .bool false, .none] } →
      wpAny (model prog w) A (call (.ref f) (.ref (h.objs.size + 1) :: rest)) (fun v s' => v = .none ∧ Q (.done (.ret (.ref (h.objs.size + 1)))) s') E ⟨h2, g, d, t, os⟩) (hrest : rest.length ≤ sizeLine) :
    wpAny (model prog w) A (Builtin.«type.__call__» ⟨.ref C :: rest, []⟩) Q E ⟨h, g, d, t, os⟩ := by
  repeat (first | with_reducible refine wpAny_madeBy_exc hC ?_ | with_reducible refine wpAny_loadPart_at hC ?_ | wp_step)
  refine codeAny_call_builtin_code (Code.quiet_builtin _ F.quiet) (wpAny_check_new_subT F T hC (codeAny_exc_new_subT F T hC ?_ hrest))
  show wpAny _ _ _ _ _ _
  generalize hh2 : ((h.push { cls := .type "tuple", data := .seq rest.toArray }).push { cls := .ref C, data := .fields #[.ref h.objs.size, .none, .none, .none, .bool false, .none] }) = h2
  have kp : ∀ b o, h.get? b = some o → h2.get? b = some o := fun b o e => by rw [← hh2]; exact Heap.get?_push_of_some _ (Heap.get?_push_of_some _ e)
  have hget : h2.get? (h.objs.size + 1) = some { cls := .ref C, data := .fields #[.ref h.objs.size, .none, .none, .none, .bool false, .none] } := by rw [← hh2]; heap_get
  have hC2 := kp _ _ hC
  have X2 : K.In h2 := X.keeps kp
  have hcC : (Value.ref C :: bm).contains (.ref C) = true := by simp
  unfold isInstance
  repeat (first | with_reducible refine wpAny_loadPart_at hget ?_ | (with_reducible refine wpAny_isSubtype_exc hC2 ?_; rw [hcC]) | wp_step)
  show wpAny _ _ (typeLookup (.ref C) _) _ _ _
  refine (looks_findIn X2 hi).at (wpAny_holding (wpAny_bind ((bind_fn X2 _ hf).at ?_)))
  refine wpAny_bind (wpAny_mono (hq h2 kp hget) (fun v s' z => ?_) fun _ _ z => z)
  obtain ⟨rfl, z⟩ := z
  exact wpAny_pure (wpAny_pure z)
theorem call_init (F : ExcBaseFacts B newId initId bmB) (T : OwnTail h bmB bm) (X : K.In h) {rest : List Value} {Q : Value → Shared → Prop}
    (hC : h.get? C = some (excClassObj nm q C N bs bm hdct sn sub ab col dd k0 k1 k2 k3 k5 newId)) (hi : findIn K (.ref C) "__init__" = some (some (.ref f))) (hf : typeIn K (.ref f) = some (.type "function")) (hrest : rest.length ≤ sizeLine)
    (hq : ∀ h2, (∀ b o, h.get? b = some o → h2.get? b = some o) → h2.get? (h.objs.size + 1) = some { cls := .ref C, data := .fields #[.ref h.objs.size, .none, .none, .none, .bool false, .none] } →
      wpAny (model prog w) (A.under (.builtin "type.__call__" ⟨.ref C :: rest, []⟩)) (call (.ref f) (.ref (h.objs.size + 1) :: rest)) (fun v s' => v = .none ∧ Q (.ref (h.objs.size + 1)) s') E ⟨h2, g, d, t, os⟩) :
    wpAny (model prog w) A (call (.ref C) rest) Q E ⟨h, g, d, t, os⟩ := by
  have f1 := tc_lookup
  have f2 := tc_bind (.ref C)
  have hT : (⟨h, g, d, t, os⟩ : Shared).TypeIs (.ref C) "type" := ⟨_, hC, rfl⟩
  refine wpAny_call (codeAny_of_tree (show wpAny _ _ (callAny (.ref C) _) _ _ _ from ?_))
  repeat (any_goals (first | assumption | wp_step | with_reducible refine wpAny_loadPart_at hC ?_))
  refine ⟨rfl, codeAny_call_builtin_at (Code.quiet_builtin _ (by decide +kernel)) entry_typeCall (wpAny_check_type_call_sub hC (type_call_init F T X hC hi hf (fun h2 kp hg => hq h2 kp hg) hrest))⟩
end
end L2

namespace L2
open PySem PySem.Spec PyProof.Rows PySem.W
/-- a class of exceptions whose __init__ is the def f -/
structure InitX (K : PySem.W.Frag) (C f : Addr) : Prop where
  kp : keepIn K (.ref C) = true
  ini : findIn K (.ref C) "__init__" = some (some (.ref f))
  fn : typeIn K (.ref f) = some (.type "function")
  cl : ∃ nm qn N bs bm hdct sn sub ab col dd k0 k1 k2 k3 k5, K.lookup C = some (excClassObj nm qn C N bs bm hdct sn sub ab col dd k0 k1 k2 k3 k5 "ValueError.__new__") ∧ tailIn K [.type "ValueError", .type "Exception", .type "BaseException", .type "object"] bm = true
section
variable {M : Model} {A : Around} {E : Value → Shared → Prop} {env : Env} {K : PySem.W.Frag} {C f : Addr}
theorem raise_made {s : Shared} {x : Sem Value} {Q : Flow → Shared → Prop} (c : InitX K C f) (hh : A.handled = none)
    (h : wpAny M A x (fun v s₁ => ∃ e dx a0 sl, v = .ref e ∧ K.In s₁.heap ∧ s₁.heap.get? e = some ⟨.ref C, dx, .fields #[a0, .none, .none, .none, .bool false, .none], sl⟩ ∧ E (.ref e) s₁) E s) : wpAny M A (raiseStmt env (some x) none) Q E s := by
  unfold raiseStmt
  refine wpAny_bind (wpAny_mono h (fun v s₁ z => ?_) fun _ _ z => z)
  obtain ⟨e, dx, a0, sl, rfl, X, he, hE⟩ := z
  obtain ⟨nm, qn, N, bs, bm, hdct, sn, sub, ab, col, dd, k0, k1, k2, k3, k5, lC, tl⟩ := c.cl
  obtain ⟨hp, g, d, tk, os⟩ := s₁
  have hC := X _ _ lC
  have hcB : (Value.ref C :: bm).contains (.type "BaseException") = true := by
    rw [List.contains_cons, (tail_of_in X tl).hasType PySem.F.excBase_ValueError.hasBase, Bool.or_true]
  repeat (first | with_reducible refine wpAny_loadPart_at he ?_ | with_reducible refine wpAny_loadPart_at hC ?_ | (with_reducible refine wpAny_isSubtype_exc hC ?_; rw [hcB]) | wp_step)
  exact wpAny_raiseNew_none hh hE
end
/-- what is wanted of raise C(..): the __init__'s promise over the new exception -/
def tRaiseI (t : TA) (C : Addr) (sp : Sp) (E : XK) : TS := fun _ σ H => t σ H fun vs H1 => vs.length ≤ 10 ∧ ∀ a a0, H1 a = none → sp (.ref a :: vs) (upd H1 a (excN a C a0)) (fun v H2 => v = .non ∧ ∃ dx, H2 a = some (excD a C a0 dx) ∧ E (.ref C) (some dx) (cutH H2 a)) (fun _ _ _ => False)
section
variable {X : Cx} {k : Nat} {f C : Addr} {fd : FuncData} {ps : List Str} {sp : Sp} {E : XK} {x : Str} {np cpos pos : Pos} {e : Expr} {es : List Expr} {t : TA}
theorem ps_raiseI (d : IsDef X) (c : InitX X.K C f) (F : FnOk X.prog X.w X.K X.mg X.base (CXf X.prog X.w) k f fd ps sp) (hr : Room (k + 1) X.A) (hc : X.calm = true) (hE : Lands X E) (hg : Gl X x) (hm : X.mg x = some (.ref C)) (hb : Binds X.K fd ps []) (ha : PA X (e :: es) t)
    (he : starEach (e :: es) X.env = (false, eval e X.env) :: starEach es X.env := by rfl) (hpl : (backTo cpos (starEach es X.env)).any (·.1) = false := by rfl) (hdb : (x == ("__debug__" : Str)) = false := by decide) :
    PS X (.Raise (some (.Call (.Name x np) (e :: es) [] cpos)) none pos) (tRaiseI t C sp E) := by
  intro pins s σ H D I h
  rw [arm_exec_Raise]
  refine wpAny_bind (wpAny_standAt (raise_made c hr.hd ?_))
  obtain ⟨nm, qn, N, bs, bm, hdct, sn, sub, ab, col, dd, k0, k1, k2, k3, k5, lC, tl⟩ := c.cl
  refine wpAny_bind (wpAny_mono (Q := fun v s₁ => ∃ e dx a0 sl, v = .ref e ∧ X.K.In s₁.heap ∧ s₁.heap.get? e = some ⟨.ref C, dx, .fields #[a0, .none, .none, .none, .bool false, .none], sl⟩ ∧ X.xe (.ref e) s₁) ?_ (fun v s1 z => wpAny_bind (wpAny_standAt (wpAny_pure z))) fun _ _ z => z)
  refine wpAny_Call_Name_kw (ld_glob I hg hm ?_ hdb)
  refine PySem.W.callWith_K (h₀ := X.base) I.ok.mod.kin c.kp (thn (ha cpos pins s σ H _ I h) fun us s1 ⟨vs, H1, I1, r, hlen, q⟩ => ⟨I1.kIn, ?_⟩) he hpl
  obtain ⟨hh, g, dr, tt, os⟩ := s1
  have hul : us.length ≤ sizeLine := by
    have := r.length
    exact Nat.le_of_lt (small1000 (by omega))
  refine call_init PySem.F.excBase_ValueError (tail_of_in I1.kIn tl) I1.kIn (I1.kIn _ _ lC) c.ini c.fn hul fun h2 kp hget => ?_
  have J0 : Inv X pins σ H1 ⟨h2, g, dr, tt, os⟩ := I1.kept (t' := tt) kp
  have na : FlyOk X pins H1 (hh.objs.size + 1) := flyOk_new I1 d (Heap.get?_none_of_le (Nat.le_succ _)) (I1.hok.fresh (Nat.le_succ _))
  have J1 := J0.track (o := excN (hh.objs.size + 1) C (.ref hh.objs.size)) na ⟨hget, ⟨_, hget⟩, fun _ _ p k => k _ p⟩
  have q1 := q (hh.objs.size + 1) (.ref hh.objs.size) na.1
  have r2 : Vals (.ref (hh.objs.size + 1) :: vs) (.ref (hh.objs.size + 1) :: us) := .cons rfl r
  have hl : (Value.ref (hh.objs.size + 1) :: us).length = ps.length := by rw [← r2.length]; exact F.len _ _ _ _ q1
  have hbd := hb ⟨h2, g, dr, tt, os⟩ (.ref (hh.objs.size + 1) :: us) J1.kIn (by rw [List.append_nil]; exact hl)
  rw [List.append_nil] at hbd
  refine wpAny_call (codeAny_mono (F.run _ X.stack _ _ ⟨.ref (hh.objs.size + 1) :: us, []⟩ (.ref (hh.objs.size + 1) :: us) _ _ _ (hr.make C us []) (J1.env0.make C us []) hbd r2 q1) fun rr s' hq => ?_)
  cases rr with
  | error ee =>
    have z : CXf X.prog X.w X.stack _ _ (fun _ _ _ => False) ee s' := hq
    obtain ⟨_, _, _, _, _, z, _⟩ := z
    exact z.elim
  | ok fl =>
    cases fl with
    | next => exact False.elim hq
    | brk => exact False.elim hq
    | cont => exact False.elim hq
    | ret u =>
      obtain ⟨v, H2, I2, rv, rfl, dx, eD, eE⟩ := J1.after hq
      cases rv
      obtain ⟨I3, n3⟩ := I2.untrack eD na.2.1
      have hob := (I2.hok _ _ eD).1
      exact ⟨rfl, _, some dx, _, _, rfl, I2.kIn, hob, hE pins σ _ s' _ _ (some dx) _ _ _ I3 hob rfl rfl rfl rfl rfl n3 eE⟩
end
end L2

namespace L2
open PySem PySem.Spec PyProof.Rows
section
variable {X : Cx}
/-- a op1 b op2 c op3 d -/
def tChain3 (r1 r2 r3 : R2) (ta tb tc td : TE) : TE := fun σ H Q => ta σ H fun x H1 => tb σ H1 fun y H2 => r1 x y H2 fun z H3 => ∃ k, z = .bl k ∧
  (if k = true then tc σ H3 fun v H4 => r2 y v H4 fun z2 H5 => ∃ k2, z2 = .bl k2 ∧ (if k2 = true then td σ H5 fun u H6 => r3 v u H6 Q else Q (.bl false) H5) else Q (.bl false) H3)
end
end L2

namespace PySem
namespace F
end F
section
variable {prog : Program} {w : World} {A : Around} {E : Value → Shared → Prop} {s : Shared}
end
end PySem
namespace L2
open PySem PySem.Spec PyProof.Rows
section
variable {X : Cx} {K : PySem.W.Frag} {e : Expr} {te : TE} {p1 p2 pos1 pos2 : Pos}
def tListRev (K : PySem.W.Frag) (te : TE) : TE := fun σ H Q => te σ H fun x H1 => ∃ p ys, x = .ref p ∧ SqL K H1 p ys ∧ ∀ l, H1 l = none → Q (.ref l) (upd H1 l (.lst ys.reverse))
end
end L2

namespace L2
open PySem PySem.Spec PyProof.Rows PySem.W
section
variable {prog : Program} {w : World} {A : Around} {E : Value → Shared → Prop} {s : Shared} {K : PySem.W.Frag} {x C : Addr} {name : Str} {ox : Obj} {od : Option Obj}
theorem findObj_any {a g : Value} (hc : (clsIn K C).isSome = true) (ha : findIn K (.ref C) name = some (some a)) (hg : specialIn K a "__get__" = some (some g)) (ht : takesIn K a = some true) : findObj K C od name = some (.bind g a) := by
  obtain ⟨cd, hc⟩ := Option.isSome_iff_exists.mp hc
  unfold findObj
  rw [hc, Option.bind_some, ha, Option.bind_some]
  simp [hg, ht]
/-- what isinstance asks of the class of an exception -/
structure XIs (K : PySem.W.Frag) (C : Addr) : Prop where
  cl : (clsIn K C).isSome = true
  ga : findIn K (.ref C) "__getattribute__" = some (some (.builtin "BaseException.__getattribute__"))
  gt : findIn K (.ref C) "__getattr__" = some none
  mb : mroIn K C (.type "BaseException") = some true
  mo : mroIn K C (.type "object") = some true
  ca : findIn K (.ref C) "__class__" = some (some (.builtin "object.__class__"))
  cn : specialIn K (.builtin "object.__class__") "__get__" = some (some (.builtin "getset_descriptor.__get__"))
  ct : takesIn K (.builtin "object.__class__") = some true
theorem class_exc {Q : Option Value → Shared → Prop} (X : K.In s.heap) (I : InstAt s.heap x ox C od) (c : XIs K C) (h : Q (some (.ref C)) { s with toks := s.toks + 1 }) : wpAny (model prog w) A (getAttr? (.ref x) "__class__") Q E s := by
  obtain ⟨hh, g, d, t, os⟩ := s
  have L0 := I.type (M := model prog w)
  have L1 := looks_findIn (M := model prog w) X c.ga
  have L2 := looks_hook (M := model prog w) (mc := .ref C) X (r := none) (by rw [if_pos (show onTheHeap (.ref C) = true from rfl)]; exact c.gt)
  have LF := looks_find (M := model prog w) X I (findObj_any (name := "__class__") c.cl c.ca c.cn c.ct)
  have sub : Looks (model prog w) hh (isInstance (.ref x) (.type "BaseException")) true := I.type.andThen (looks_mroIn X c.mb)
  have hk : builtinKind "BaseException.__getattribute__" = some .slot := by decide +kernel
  have hsplit : splitId "BaseException.__getattribute__" = some ("BaseException", "__getattribute__") := by decide +kernel
  unfold getAttr? getAttrBy? getAttrBy
  refine wpAny_bind (wpAny_mkText (wpAny_bind (wpAny_attempt (wpAny_holding (wpAny_bind (L0.at (wpAny_bind (L1.at ?_))))))))
  show wpAny _ _ (getAttrByItsOwn _ _ _ _ _ _) _ _ _
  unfold getAttrByItsOwn
  refine wpAny_bind (L2.at (wpAny_bind (wpAny_attempt (wpAny_holding ?_))))
  have hx0 : (false && onTheHeap (Value.builtin "BaseException.__getattribute__")) = false := rfl
  unfold callGetattribute
  rw [hx0, if_neg (by decide)]
  unfold boundAndCalled
  rw [PySem.F.excAttr_ValueError.ga.bind (.ref x)]
  refine wpAny_bind (wpAny_pure (wpAny_call (codeAny_call_builtin PySem.F.excAttr_ValueError.ga.plain PySem.F.entry_bexc_ga (@check_slot (model prog w) _ _ _ "BaseException.__getattribute__" "BaseException" "__getattribute__" (.ref x) [.str "__class__" t] [] _ hk hsplit sub (PySem.F.args_bexc_ga _ _) ?_))))
  unfold Builtin.«object.__getattribute__»
  refine wpAny_bind (wpAny_pure (a := (Value.ref x, [Value.str "__class__" t])) ?_)
  refine wpAny_bind (wpAny_pure (a := Str.ofString "__class__") (wpAny_bind (L0.at (wpAny_bind (LF.at ?_)))))
  show wpAny _ _ (holding [Value.builtin "object.__class__"] (call (.builtin "getset_descriptor.__get__") [.builtin "object.__class__", .ref x, .ref C]) >>= ret) _ _ _
  refine wpAny_bind (wpAny_holding (wpAny_call (class_get (s := { heap := hh, gens := g, drawn := d, toks := t + 1, os := os }) (ox := ox) (od := od) X I c.mo ?_)))
  refine wpAny_pure ?_
  show wpAny _ _ (handedOut (.ref C)) _ _ _
  rw [handedOut_of rfl]
  exact wpAny_pure (wpAny_pure h)

theorem kitx_exc {e : Addr} (c : XIs K C) : KitX K (.ref e) (.ref C) (fun h => ∃ ox od, InstAt h e ox C od) where
  ty := fun _ _ _ p => let ⟨_, _, I⟩ := p; I.type
  it := fun _ _ X _ => by
    obtain ⟨cd, hc⟩ := Option.isSome_iff_exists.mp c.cl
    unfold clsIn at hc
    split at hc
    · rename_i c' d' cd' sl' ho
      intro A' Q' E' s' k q
      unfold isType loadHead
      exact wpAny_bind (wpAny_loadPart (k _ _ (X _ _ ho)) (wpAny_pure q))
    · cases hc
  ne := fun h tp dd its n sl X htp => by
    obtain ⟨cd, hc⟩ := Option.isSome_iff_exists.mp c.cl
    refine Bool.eq_false_iff.mpr fun q => ?_
    have e : C = tp := Value.ref.inj (beq_iff_eq.mp q)
    subst e
    unfold clsIn at hc
    split at hc
    · rename_i c' d' cd' sl' ho
      have z := (X _ _ ho).symm.trans htp
      cases z
    · cases hc
  ca := fun X p k => let ⟨_, _, I⟩ := p; class_exc X I c k
end
section
variable {X : Cx} {K : PySem.W.Frag}
def rIsX (K : PySem.W.Frag) : List V → Hp → VK → Prop := fun xs H Q => ∃ (a C C1 : Addr) (b : Bool), xs = [.ref a, .ref C1] ∧ H a = some (excO a C none) ∧ XIs K C ∧ kitOne K (.ref C) (.ref C1) = some b ∧ Q (.bl b) H
def rIsXT (K : PySem.W.Frag) : List V → Hp → VK → Prop := fun xs H Q => ∃ (a C t : Addr) (cs : List Addr) (b : Bool), xs = [.ref a, .ref t] ∧ H a = some (excO a C none) ∧ H t = some (.tup (cs.map V.ref)) ∧ XIs K C ∧ kitAny K (.ref C) (cs.map Value.ref) = some b ∧ Q (.bl b) H
theorem vals_refs : ∀ {cs : List Addr} {us : List Value}, Vals (cs.map V.ref) us → us = cs.map Value.ref
  | [], _, .nil => rfl
  | _ :: _, _, .cons h q => by
    cases h
    rw [vals_refs q]
    rfl
/-- an own class, by its name -/
theorem pe_cls {n : Str} {pos : Pos} {C : Addr} (hm : X.mg n = some (.ref C)) (hg : Gl X n := by rfl) (hd : (n == ("__debug__" : Str)) = false := by decide) : PE X (.Name n pos) (tC (.ref C)) := pe_glob (x := n) (v := .ref C) hg hm rfl hd
end
end L2

namespace L2
open PySem PySem.Spec PyProof.Rows
section
variable {X : Cx}
def rIndex : V → List V → Hp → VK → Prop := fun x vs H Q => ∃ (l : Addr) (ns : List Int) (k : Int) (j : Nat), x = .ref l ∧ vs = [.int k] ∧ H l = some (.lst (ns.map V.int)) ∧ ns[j]? = some k ∧ (∀ m, m < j → ns[m]? ≠ some k) ∧ Q (.int j) H
end
end L2

namespace PyProof.Rows.TS
open PySem PyProof.Rows
/-- by what is sorted: the kind, the key, what may stand there -/
class KeyC where
  κ : SortKind
  kf : Keyed → Int
  ok : Keyed → Prop
class KeyLt (prog : Program) (w : World) (A : Around) (E : Value → Shared → Prop) (s : Shared) [KeyC] : Prop where
  lt : ∀ {st : SortSt} {x y : Keyed} {Q : Option Bool → SortSt → Prop}, kindOf st = KeyC.κ → KeyC.ok x → KeyC.ok y → Q (some (decide (KeyC.kf x < KeyC.kf y))) st → wpS (model prog w) A E s (lt' x y) Q st
variable [KeyC]
def IntK (p : Keyed) : Prop := KeyC.ok p
def keyOf (p : Keyed) : Int := KeyC.kf p
def K (xs : Array Keyed) (i : Nat) : Int := match xs[i]? with
  | some p => keyOf p
  | none => 0
section
variable {prog : Program} {w : World} {A : Around} {E : Value → Shared → Prop} {s : Shared} [KeyLt prog w A E s]
end
section
variable {prog : Program} {w : World} {A : Around} {E : Value → Shared → Prop} {s : Shared} [KeyLt prog w A E s]
end
def LeK (x y : Keyed) : Prop := keyOf x ≤ keyOf y
/-- a merge under way: what is out, and what is left of both -/
structure MgL (out ra rb all : List Keyed) : Prop where
  perm : (out ++ (ra ++ rb)).Perm all
  srt : out.Pairwise LeK
  low : ∀ x ∈ out, ∀ y ∈ ra ++ rb, LeK x y
  sa : ra.Pairwise LeK
  sb : rb.Pairwise LeK
def Srt (all res : List Keyed) : Prop := res.Perm all ∧ res.Pairwise LeK
section
variable {prog : Program} {w : World} {A : Around} {E : Value → Shared → Prop} {s : Shared} [KeyLt prog w A E s]
abbrev MgA (a b : Array Keyed) (out : Array Keyed) (ia ib : Nat) : Prop := MgL out.toList (a.toList.drop ia) (b.toList.drop ib) (a.toList ++ b.toList)
section
variable {a b out : Array Keyed} {ia ib : Nat}
end
end
/-- a merge from the end: what is out (the greatest), and what is left of both -/
structure MgR (tail ra rb all : List Keyed) : Prop where
  perm : ((ra ++ rb) ++ tail).Perm all
  srt : tail.Pairwise LeK
  high : ∀ x ∈ tail, ∀ y ∈ ra ++ rb, LeK y x
  sa : ra.Pairwise LeK
  sb : rb.Pairwise LeK
abbrev MgB (a b : Array Keyed) (out : Array Keyed) (na nb : Nat) : Prop := MgR out.toList.reverse (a.toList.take na) (b.toList.take nb) (a.toList ++ b.toList)
section
variable {a b out : Array Keyed} {na nb : Nat}
end
section
variable {prog : Program} {w : World} {A : Around} {E : Value → Shared → Prop} {s : Shared} [KeyLt prog w A E s]
end
/-- changed within a slice only, and there in order alone -/
structure Sl (lo hi : Nat) (xs ys : Array Keyed) : Prop where
  perm : ys.Perm xs
  out : ∀ i, i < lo ∨ hi ≤ i → ys[i]? = xs[i]?
def AllI (xs : Array Keyed) : Prop := ∀ x ∈ xs.toList, IntK x
/-- rising, falling on a slice -/
def Up (xs : Array Keyed) (lo hi : Nat) : Prop := ∀ i j, lo ≤ i → i ≤ j → j < hi → K xs i ≤ K xs j
def Dn (xs : Array Keyed) (lo hi : Nat) : Prop := ∀ i j, lo ≤ i → i ≤ j → j < hi → K xs j ≤ K xs i
/-- the state but for the array -/
def armed (st st' : SortSt) : Prop := kindOf st' = kindOf st ∧ pendingOf st' = pendingOf st ∧ failedOf st' = failedOf st
section
variable {prog : Program} {w : World} {A : Around} {E : Value → Shared → Prop} {s : Shared} [KeyLt prog w A E s]
/-- the array alone is another, within the slice -/
def Moved2 (lo hi : Nat) (st st' : SortSt) : Prop := armed st st' ∧ Sl lo hi (arrOf st) (arrOf st')
end
section
variable {prog : Program} {w : World} {A : Around} {E : Value → Shared → Prop} {s : Shared} [KeyLt prog w A E s]
end
end PyProof.Rows.TS

namespace PyProof.Rows.TS
open PySem PyProof.Rows
variable [KeyC]
section
variable {prog : Program} {w : World} {A : Around} {E : Value → Shared → Prop} {s : Shared} [KeyLt prog w A E s]
end
end PyProof.Rows.TS
namespace PyProof.Rows.TS
open PySem PyProof.Rows
variable [KeyC]
section
variable {prog : Program} {w : World} {A : Around} {E : Value → Shared → Prop} {s : Shared} [KeyLt prog w A E s]
end
end PyProof.Rows.TS
namespace PyProof.Rows.TS
open PySem PyProof.Rows
variable [KeyC]
/-- rising stretches, one behind the other -/
def Runs (arr : Array Keyed) : Nat → List (Nat × Nat × Nat) → Nat → Prop
  | s, [], e => s = e
  | s, r :: l, e => r.1 = s ∧ 0 < r.2.1 ∧ Up arr s (s + r.2.1) ∧ Runs arr (s + r.2.1) l e
/-- the sort under way -/
structure Sx (st₀ st : SortSt) (e : Nat) : Prop where
  kind : kindOf st = kindOf st₀
  fl : failedOf st = none
  perm : (arrOf st).Perm (arrOf st₀)
  runs : Runs (arrOf st) 0 (pendingOf st).toList e
  le : e ≤ (arrOf st₀).size
section
variable {prog : Program} {w : World} {A : Around} {E : Value → Shared → Prop} {s : Shared} [KeyLt prog w A E s]
end
end PyProof.Rows.TS
namespace PyProof.Rows.TS
open PySem PyProof.Rows
variable [KeyC]
section
variable {prog : Program} {w : World} {A : Around} {E : Value → Shared → Prop} {s : Shared}
end
end PyProof.Rows.TS

namespace L2
open PySem PySem.Spec PyProof.Rows PySem.W
section
variable {X : Cx} {K : PySem.W.Frag}
def rSortedB (K : PySem.W.Frag) : List V → Hp → VK → Prop := fun xs H Q => ∃ (a : Addr) (ns : List Int), xs = [.ref a] ∧ SqL K H a (ns.map V.int) ∧ ns.length ≤ 100000 ∧
  ∀ (l : Addr) (ms : List Int), H l = none → ms.Perm ns → ms.Pairwise (· ≤ ·) → Q (.ref l) (upd H l (.lst (ms.map V.int)))
/-- pairs of ints -/
def rSortedP (K : PySem.W.Frag) : List V → Hp → VK → Prop := fun xs H Q => ∃ (a : Addr) (ts : List Addr) (f : Addr → Int), xs = [.ref a] ∧ SqL K H a (ts.map V.ref) ∧ ts.length ≤ 1000 ∧ (∀ t ∈ ts, ∃ x y : Int, H t = some (.tup [.int x, .int y]) ∧ f t = x * 64 + y ∧ 0 ≤ y ∧ y < 64) ∧
  ∀ (l : Addr) (us : List Addr), H l = none → us.Perm ts → us.Pairwise (fun t u => f t ≤ f u) → Q (.ref l) (upd H l (.lst (us.map V.ref)))
end
end L2

namespace L2
open PySem
variable {a1 a2 a3 a4 a5 a6 b : TS} {D : Ends} {σ : St} {H : Hp}
end L2

namespace L2
open PySem PySem.Spec PyProof.Rows
section
variable {X : Cx} {pins : List (Addr × Obj)} {σ : St} {H : Hp} {s : Shared} {a : Addr} {kvs : List (Key × V)}
def tThaw (te : TE) : TE := fun σ H Q => te σ H fun x H' => ∃ a o kvs, H a = some (.dK kvs) ∧ H' a = some (.frz o (.dK kvs)) ∧ Q x (upd H' a (.dK kvs))
def Itd (a : Addr) (o : Obj) (kvs : List (Key × V)) : It :=
  ⟨fun i H => H a = some (.frz o (.dK kvs)) ∧ i < kvs.length, fun i H x H' => H' = H ∧ ∃ kv, kvs[i]? = some kv ∧ x = kV kv.1, fun i H => H a = some (.frz o (.dK kvs)) ∧ kvs.length ≤ i⟩
def iDict (tl : TE) : TI := fun σ H R => tl σ H fun x H1 => ∃ a kvs, x = .ref a ∧ H1 a = some (.dK kvs) ∧ ∀ o, R (Itd a o kvs) (upd H1 a (.frz o (.dK kvs)))
/-- list(d) -/
def rListD : List V → Hp → VK → Prop := fun xs H Q => ∃ (a : Addr) (kvs : List (Key × V)), xs = [V.ref a] ∧ H a = some (.dK kvs) ∧ ∀ l, H l = none → Q (.ref l) (upd H l (.lst (kvs.map fun kv => kV kv.1)))
end
end L2

namespace PyProof.Rows.TS
open PySem PySem.Spec PyProof.Rows PySem.W
section
variable {prog : Program} {w : World} {A : Around} {E : Value → Shared → Prop} {s : Shared} {Kk : Type} [DecidableEq Kk] {knd : PySem.KeyKind prog w Kk}
end
section
variable [KeyC] {prog : Program} {w : World} {A : Around} {E : Value → Shared → Prop} {s : Shared}
end
end PyProof.Rows.TS
namespace L2
open PySem PySem.Spec PyProof.Rows PySem.W
section
variable {X : Cx}
def rSortedD : List V → Hp → VK → Prop := fun xs H Q => ∃ (a : Addr) (kvs : List (Key × V)) (ns : List Int), xs = [V.ref a] ∧ H a = some (.dK kvs) ∧ kvs.map (fun kv => kV kv.1) = ns.map V.int ∧ ns.length ≤ 100000 ∧
  ∀ (l : Addr) (ms : List Int), H l = none → ms.Perm ns → ms.Pairwise (· ≤ ·) → Q (.ref l) (upd H l (.lst (ms.map V.int)))
end
end L2

namespace PySem
open Sem (wp)
section
variable {prog : Program} {w : World} {A : Around} {E : Value → Shared → Prop} {s : Shared}
end
end PySem
namespace PySem
open Sem (wp)
namespace F
end F
section
variable {prog : Program} {w : World} {A : Around} {E : Value → Shared → Prop} {Kk : Type} [DecidableEq Kk] {knd : KeyKind prog w Kk}
end
end PySem
namespace L2
open PySem PySem.Spec PyProof.Rows
section
variable {X : Cx} {K : PySem.W.Frag}
/-- dict(l), l a list of pairs of an int and a value -/
def rDictP (K : PySem.W.Frag) : List V → Hp → VK → Prop := fun xs H Q => ∃ (a : Addr) (ts : List Addr) (kvs : List (Key × V)), xs = [V.ref a] ∧ SqL K H a (ts.map V.ref) ∧ kvs.length ≤ 100000 ∧ ts.length = kvs.length ∧
  (∀ (i : Nat) (t : Addr) (kv : Key × V), ts[i]? = some t → kvs[i]? = some kv → H t = some (.tup [kV kv.1, kv.2])) ∧ ∀ l, H l = none → Q (.ref l) (upd H l (.dK (mergeK [] kvs)))
end
end L2

namespace L2
open PySem PySem.Spec PyProof.Rows
section
variable {X : Cx}
def rDClear : V → List V → Hp → VK → Prop := fun x vs H Q => ∃ l kvs, x = .ref l ∧ vs = [] ∧ H l = some (.dK kvs) ∧ Q .non (upd H l (.dK []))
end
theorem kit_dict_dict {K : PySem.W.Frag} : PySem.W.kitOne K (.type "dict") (.type "dict") = some true := by rfl
end L2

namespace L2
open PySem PySem.Spec PyProof.Rows
/-- the text of these signs -/
def tx (l : List Nat) : Str := ⟨l.toArray⟩
theorem tx_list (l : List Nat) : (tx l).cps.toList = l := by show l.toArray.toList = l; simp
theorem tx_inj {a b : List Nat} (h : tx a = tx b) : a = b := by rw [← tx_list a, h, tx_list]
/-- a part of the signs -/
def cutN (xs : List Nat) (lo hi : Option Int) : List Nat := (xs.drop (HT.sIx xs.length 0 lo)).take (HT.sIx xs.length xs.length hi - HT.sIx xs.length 0 lo)
/-- where a sign stands first, or -1 -/
def findN (l : List Nat) (c : Nat) : Int := if c ∈ l then (l.idxOf c : Nat) else -1
section
variable {X : Cx}
def rIxS2 : R2 := fun x y H Q => ∃ (l : List Nat) (i : Int) (c : Nat), x = .str (tx l) ∧ y = .int i ∧ l.length ≤ sizeLine ∧ atI l i = some c ∧ Q (.str (tx [c])) H
def rSlS : V → Option Int → Option Int → Hp → VK → Prop := fun x lo hi H Q => ∃ l : List Nat, x = .str (tx l) ∧ l.length ≤ sizeLine ∧ Q (.str (tx (cutN l lo hi))) H
def rFind : V → List V → Hp → VK → Prop := fun x vs H Q => ∃ (l : List Nat) (c : Nat), x = .str (tx l) ∧ vs = [.str (tx [c])] ∧ Q (.int (findN l c)) H
def rIndexT : V → List V → Hp → VK → Prop := fun x vs H Q => ∃ (l : List Nat) (c : Nat), x = .str (tx l) ∧ vs = [.str (tx [c])] ∧ c ∈ l ∧ Q (.int (l.idxOf c : Nat)) H
/-- the signs of a whole number -/
def decN (n : Nat) : List Nat := (Nat.toDigits 10 n).map Char.toNat
def decI (i : Int) : List Nat := if i < 0 then 45 :: decN i.natAbs else decN i.natAbs
/-- int(text), the text of figures, with a - ahead or not -/
def ReadI (l : List Nat) (n : Int) : Prop := (PySem.NumText.AllDigits l ∧ l ≠ [] ∧ n = (PySem.NumText.digitsVal l : Nat)) ∨ ∃ cs, l = 45 :: cs ∧ PySem.NumText.AllDigits cs ∧ cs ≠ [] ∧ n = -((PySem.NumText.digitsVal cs : Nat) : Int)
def Its (l : List Nat) : It := ⟨fun i _ => i < l.length, fun i H x H' => H' = H ∧ ∃ c, l[i]? = some c ∧ x = .str (tx [c]), fun i _ => l.length ≤ i⟩
def Ascii (l : List Nat) : Prop := ∀ c ∈ l, c < 128
def iTxt (tl : TE) : TI := fun σ H R => tl σ H fun x H1 => ∃ l, x = .str (tx l) ∧ Ascii l ∧ R (Its l) H1
def rLenT : List V → Hp → VK → Prop := fun xs H Q => ∃ l : List Nat, xs = [.str (tx l)] ∧ l.length ≤ sizeLine ∧ Q (.int l.length) H
def rStrT : List V → Hp → VK → Prop := fun xs H Q => ∃ i, xs = [.int i] ∧ i.natAbs.log2 < 1920 ∧ Q (.str (tx (decI i))) H
def rIntT : List V → Hp → VK → Prop := fun xs H Q => ∃ l n, xs = [.str (tx l)] ∧ l.length ≤ 640 ∧ ReadI l n ∧ Q (.int n) H
def rAddT : R2 := fun x y H Q => ∃ i j, x = .str (tx i) ∧ y = .str (tx j) ∧ i.length + j.length ≤ sizeLine ∧ Q (.str (tx (i ++ j))) H
def rMulT : R2 := fun x y H Q => ∃ (c n : Nat), x = .str (tx [c]) ∧ y = .int n ∧ 2 ≤ n ∧ n ≤ 1000000 ∧ Q (.str (tx (List.replicate n c))) H
def rInT (neg : Bool) : R2 := fun x y H Q => ∃ (c : Nat) (l : List Nat), x = .str (tx [c]) ∧ y = .str (tx l) ∧ Q (.bl (if neg then !decide (c ∈ l) else decide (c ∈ l))) H
end
def tTxts (ls : List (List Nat)) : TA := fun _ H Q => Q (ls.map fun l => V.str (tx l)) H
theorem kit_str_str {K : PySem.W.Frag} : PySem.W.kitOne K (.type "str") (.type "str") = some true := by rfl
theorem tx_str {a b : List Nat} : (tx a = tx b) = (a = b) := propext ⟨tx_inj, fun h => by rw [h]⟩
end L2

namespace PySem.SeqAt
open PySem PySem.AutoSeq1 PySem.MeetsSeq PySem.MeetsSeq2 PySem.MeetsSeq3
end PySem.SeqAt
namespace L2
open PySem PySem.Spec PyProof.Rows PySem.SeqAt
section
variable {X : Cx} {K : PySem.W.Frag}
def rGeL (K : PySem.W.Frag) : R2 := fun x y H Q => ∃ (a b : Addr) (ns ms : List Int) (j : Nat), x = .ref a ∧ y = .ref b ∧ SqL K H a (ns.map V.int) ∧ SqL K H b (ms.map V.int) ∧ j < ns.length ∧ j < ms.length ∧ (∀ m, m < j → ns.getD m 0 = ms.getD m 0) ∧ ns.getD j 0 < ms.getD j 0 ∧ Q (.bl false) H
/-- x in a list of like ones -/
def rInS (K : PySem.W.Frag) (neg : Bool) : R2 := fun x y H Q => ∃ d ds, Dp K H x d ∧ Dp K H y (.list ds) ∧ shaped (.list ds) = true ∧ d ∈ ds ∧ Q (.bl (!neg)) H
end
end L2
namespace L2
open PySem
end L2

namespace L2
open PySem PySem.Spec PyProof.Rows PySem.W
section
variable {X : Cx} {K : PySem.W.Frag}
theorem pe_fldK {e : Expr} {f : Str} {pos : Pos} {ta : TE} (h : X.K = K) (he : PE X e ta) (hb : attributeBase e f X.env (eval e X.env) = eval e X.env := by rfl) : PE X (.Attribute e f pos) (tFld K ta f) := by subst h; exact pe_fld he hb
theorem ps_fldK {o value : Expr} {f : Str} {pos pos' : Pos} {ta tv : TE} (h : X.K = K) (ha : PE X o ta) (hv : PE X value tv) (hs : swapsWith value (some (.Attribute o f pos')) pos.line X.env = pure false := by rfl) : PS X (.Assign [.Attribute o f pos'] value pos) (sFld K ta tv f) := by subst h; exact ps_fld ha hv hs
end
/-- an own class as the text has it: to be made, to be asked -/
structure OCls (K : PySem.W.Frag) (C : Addr) : Prop where
  cl : Cls K C
  mks : makesIn K C = true
  kp : keepIn K (.ref C) = true
  ca : findIn K (.ref C) "__class__" = some (some (.builtin "object.__class__"))
  sp : specialIn K (.builtin "object.__class__") "__get__" = some (some (.builtin "getset_descriptor.__get__"))
  tk : takesIn K (.builtin "object.__class__") = some true
  mr : mroIn K C (.type "object") = some true
theorem OCls.ty {K : PySem.W.Frag} {C a dx : Addr} {fs : List (Str × V)} {H : Hp} (c : OCls K C) (e : H a = some (.ins C dx fs)) : TyOf K H (.ref a) (.ref C) := .ins e c.cl c.ca c.sp c.tk c.mr
/-- the class x with its __init__ -/
def MkOk (P : Program) (w : World) (K : PySem.W.Frag) (mg : Str → Option Value) (base : Heap) (x : Str) (C : Addr) (k : Nat) (sp : Sp) : Prop :=
  mg x = some (.ref C) ∧ ∃ f fd ps, Mk K C f ∧ FnOk P w K mg base (CXf P w) k f fd ps sp ∧ Binds K fd ps []
/-- the method m of the class C -/
def MOk (P : Program) (w : World) (K : PySem.W.Frag) (mg : Str → Option Value) (base : Heap) (C : Addr) (m : Str) (k : Nat) (sp : Sp) : Prop :=
  Cls K C ∧ ∃ f fd ps, Meth K C m f ∧ FnOk P w K mg base (CXf P w) k f fd ps sp ∧ Binds K fd ps []
section
variable {X : Cx} {K : PySem.W.Frag} {C : Addr} {k : Nat} {sp : Sp} {E : XK} {x m : Str} {p pos apos : Pos} {e o : Expr} {es : List Expr} {ta : TE} {t : TA}
theorem pe_makeK (M : MkOk X.prog X.w X.K X.mg X.base x C k sp) (hr : Room (k + 1) X.A) (hg : Gl X x) (hx : Passes (CXf X.prog X.w) X E) (ha : PA X (e :: es) t) (hdb : (x == ("__debug__" : Str)) = false := by decide)
    (he : starEach (e :: es) X.env = (false, eval e X.env) :: starEach es X.env := by rfl) (hpl : (backTo pos (starEach es X.env)).any (·.1) = false := by rfl) : PE X (.Call (.Name x p) (e :: es) [] pos) (tMake C sp [] E t) := by
  obtain ⟨hm, f, fd, ps, M, F, hb⟩ := M
  exact pe_make M F hr hg hm hb .nil hx ha hdb he hpl
/-- C() of a class without an __init__ of its own -/
def tMakeN (C : Addr) : TE := fun _ H Q => ∀ x dx, H x = none → H dx = none → dx ≠ x → Q (.ref x) (upd (upd H dx (.own x)) x (.ins C dx []))
theorem pe_makeN (hm : X.mg x = some (.ref C)) (c : OCls X.K C) (hi : findIn X.K (.ref C) "__init__" = some (some (.builtin "object.__init__"))) (hg : Gl X x) (hdb : (x == ("__debug__" : Str)) = false := by decide) :
    PE X (.Call (.Name x p) [] [] pos) (tMakeN C) := by
  intro pins s σ H Q I h
  refine wpAny_Call_Name_kw (ld_glob I hg hm ?_ hdb)
  refine PySem.W.callWith_K0 I.kIn c.kp ?_
  have I2 := Inv.made (C := C) I
  have hq := h (s.heap.objs.size + 1) s.heap.objs.size (I.hok.fresh (Nat.le_succ _)) (I.hok.fresh (Nat.le_refl _)) (Nat.ne_of_lt (Nat.lt_succ_self _))
  refine wpAny_call (make_map0 I.kIn c.mks hi (fun self => Looks.of_pure (oi_bind self)) ?_)
  have Y := makes_of (M := model X.prog X.w) I.kIn c.mks
  obtain ⟨hh, g, d, tk, os⟩ := s
  have e2 : ((hh.push PySem.W.emptyDict).push (PySem.W.instObj C hh.objs.size)).get? (hh.objs.size + 1) = some (PySem.W.instObj C hh.objs.size) := by
    have := Heap.get?_push_size (hh.push PySem.W.emptyDict) (o := PySem.W.instObj C hh.objs.size) rfl
    rwa [Heap.size_push] at this
  have t1 : Looks (model X.prog X.w) ((hh.push emptyDict).push (instObj C hh.objs.size)) (typeOf (.ref (hh.objs.size + 1))) (.ref C) := (Looks.ld e2).andThen .now
  have t2 : Looks (model X.prog X.w) ((hh.push emptyDict).push (instObj C hh.objs.size)) (isInstance (.ref (hh.objs.size + 1)) (.type "object")) true := t1.andThen (Y.top.keeps fun b o e => Heap.get?_push_of_some _ (Heap.get?_push_of_some _ e))
  refine codeAny_call_builtin oi_plain entry_oi (@check_slot (model X.prog X.w) _ _ _ "object.__init__" "object" "__init__" (.ref (hh.objs.size + 1)) [] [] _ oi_kind oi_split t2 (oi_args (.ref (hh.objs.size + 1))) ?_)
  rw [oi_run]
  exact wpAny_pure (And.intro rfl ⟨.ref _, _, I2, rfl, hq⟩)
/-- o.m(..), the method by the class of what stands there -/
def tMethD (m : Str) (R : Addr → Sp → Prop) (E : XK) (ta : TE) (t : TA) : TE := fun σ H Q => ta σ H fun x H1 => ∃ a C dx fs sp, x = .ref a ∧ H1 a = some (.ins C dx fs) ∧ fs.lookup m = none ∧ R C sp ∧ t σ H1 fun vs H2 => sp (x :: vs) H2 Q E
def MsOk (P : Program) (w : World) (K : PySem.W.Frag) (mg : Str → Option Value) (base : Heap) (m : Str) (k : Nat) (R : Addr → Sp → Prop) : Prop := ∀ C sp, R C sp → MOk P w K mg base C m k sp
theorem pe_methD {R : Addr → Sp → Prop} {pl : Sem Bool} (M : MsOk X.prog X.w X.K X.mg X.base m k R) (hr : Room k X.A) (hx : Passes (CXf X.prog X.w) X E) (he : PE X o ta) (ha : PA X (e :: es) t)
    (hst : starEach (e :: es) X.env = (false, eval e X.env) :: starEach es X.env := by rfl) (hpl : (backTo pos (starEach es X.env)).any (·.1) = false := by rfl)
    (ht : eval (.Call (.Attribute o m apos) (e :: es) [] pos) X.env = (do
      let ov ← eval o X.env
      standAt apos.atName
      let (f, first) ← holding [ov] (getMethod ov m pl)
      callWith pos f first (backTo pos (starEach (e :: es) X.env)) (backToKw pos (keywordEach [] X.env))) := by rfl) :
    PE X (.Call (.Attribute o m apos) (e :: es) [] pos) (tMethD m R E ta t) := by
  intro pins s σ H Q I h
  refine PySem.W.methodCall_KW (pl := pl) (thn (he pins s σ H _ I h) fun u s1 ⟨x, H1, I1, rx, a, C, dx, fs, sp, ex, ea, l, hR, q⟩ => ?_) ht
  subst ex
  obtain rfl : u = Value.ref a := rx
  obtain ⟨c, f, fd, ps, hm, F, hb⟩ := M C sp hR
  refine getmeth_ok I1 ea c hm l ?_
  refine PySem.W.callWith_K (first := [.ref a]) (h₀ := X.base) I.ok.mod.kin hm.kp (thn (ha pos pins s1 σ H1 _ I1 q) fun us s2 ⟨vs, H2, I2, r, q2⟩ => ⟨I2.kIn, ?_⟩) hst hpl
  exact run_fn (us := .ref a :: us) (vs := .ref a :: vs) (dvs := []) (ds := []) F hr hb .nil hx I2 (.cons rfl r) (by rw [List.append_nil]; exact q2)
end
/-- try: o.m(..) -/
def tTryM (m : Str) (R : Addr → Sp → Prop) (ta : TE) (t : TA) (th : TH) : TS := fun D σ H => tMethD m R (fun cls da H2 => ∃ C, cls = .ref C ∧ th C da D σ H2) ta t σ H fun _ H2 => D.nx σ H2
section
variable {X : Cx} {k : Nat} {m : Str} {h0 : ExceptHandler} {hs : List ExceptHandler} {th : TH} {R : Addr → Sp → Prop} {cpos apos pos mpos : Pos} {o e : Expr} {es : List Expr} {ta : TE} {t : TA}
theorem ps_tryM {pl : Sem Bool} (d : IsDef X) (M : MsOk X.prog X.w X.K X.mg X.base m k R) (hr : Room k X.A) (he : ∀ E', PE (X.wish E') o ta) (ha : ∀ E', PA (X.wish E') (e :: es) t) (hh : PH X (h0 :: hs) th) (hin : interactive X.env = false := by rfl)
    (hsw : swapsWith (.Call (.Attribute o m mpos) (e :: es) [] cpos) none apos.line X.env = pure false := by rfl) (hst : starEach (e :: es) X.env = (false, eval e X.env) :: starEach es X.env := by rfl) (hpl : (backTo cpos (starEach es X.env)).any (·.1) = false := by rfl)
    (ht : eval (.Call (.Attribute o m mpos) (e :: es) [] cpos) X.env = (do
      let ov ← eval o X.env
      standAt mpos.atName
      let (f, first) ← holding [ov] (getMethod ov m pl)
      callWith cpos f first (backTo cpos (starEach (e :: es) X.env)) (backToKw cpos (keywordEach [] X.env))) := by rfl) :
    PS X (.Try [.Expr (.Call (.Attribute o m mpos) (e :: es) [] cpos) apos] (h0 :: hs) [] [] pos) (tTryM m R ta t th) := by
  intro pins s σ H D I h
  refine wpAny_Try_except ?_
  generalize hEb : (fun (e : Value) (s₁ : Shared) => wpAny (model X.prog X.w) X.A (noteFrame e X.env) (fun _ s₂ => wpAny (model X.prog X.w) X.A (setFlight e none) (fun _ s₃ => wpAny (model X.prog X.w) X.A (handleBy e X.env (h0 :: hs)) (SP X pins D) X.xe s₃) X.xe s₂) X.xe s₁) = Eb
  refine wpAny_execs_cons (Q := _) (thn (wpAny_Expr_any (Q := fun fl s' => fl = .next ∧ SP X pins D .next s') (thn (Q := EP (X.wish Eb) pins σ fun _ H2 => D.nx σ H2) ?_ fun v s1 q => ?_) hin hsw) fun fl s1 q => ?_)
  rotate_left
  · obtain ⟨yv, H1, I1, r1, q1⟩ := q
    exact ⟨rfl, σ, H1, I1.unwish, q1⟩
  · obtain ⟨rfl, q⟩ := q
    exact wpAny_execs_nil (wpAny_execs_nil q)
  have I0 := I.wish Eb
  refine PySem.W.methodCall_KW (pl := pl) (thn (he Eb pins s σ H _ I0 h) fun u s1 ⟨x, H1, I1, rx, a, C, dx, fs, sp, ex, ea, l, hR, q⟩ => ?_) ht
  subst ex
  obtain rfl : u = Value.ref a := rx
  obtain ⟨c, f, fd, ps, hm, F, hb⟩ := M C sp hR
  refine getmeth_ok (X := X.wish Eb) I1 ea c hm l ?_
  refine PySem.W.callWith_K (first := [.ref a]) (h₀ := X.base) I.ok.mod.kin hm.kp (thn (ha Eb cpos pins s1 σ H1 _ I1 q) fun us s2 ⟨vs, H2, I2, r, q2⟩ => ⟨I2.kIn, ?_⟩) hst hpl
  have r2 : Vals (.ref a :: vs) (.ref a :: us ++ []) := by rw [List.append_nil]; exact .cons rfl r
  have hl : (Value.ref a :: us ++ []).length = ps.length := by rw [← r2.length]; exact F.len _ _ _ _ q2
  have J := I2.unwish
  refine wpAny_call (codeAny_mono (F.run X.A X.stack s2 H2 ⟨.ref a :: us, []⟩ (.ref a :: us ++ []) (.ref a :: vs) _ _ hr J.env0 (hb s2 (.ref a :: us) J.kIn hl) r2 q2) fun rr s' hq => ?_)
  cases rr with
  | ok fl =>
    cases fl with
    | ret u => exact I2.after (X := X.wish Eb) hq
    | next => exact False.elim hq
    | brk => exact False.elim hq
    | cont => exact False.elim hq
  | error ee =>
    show Eb ee s'
    subst hEb
    exact to_clauses d J hh hq
end
end L2
namespace L2
open PySem PySem.Spec PyProof.Rows
def rTupOf (K : PySem.W.Frag) : List V → Hp → VK → Prop := fun xs H Q => ∃ p ys, xs = [.ref p] ∧ ((SqL K H p ys ∧ ∀ l, H l = none → Q (.ref l) (upd H l (.tup ys))) ∨ (SqT K H p ys ∧ Q (.ref p) H))
theorem call_tupK {X : Cx} {K : PySem.W.Frag} (h : X.K = K) : CallR X (.type "tuple") (rTupOf K) := by subst h; exact call_tuple_of
end L2

namespace L2
open PySem PySem.Spec PyProof.Rows PySem.W
section
variable {X : Cx} {K : PySem.W.Frag}
/-- the dict, where the exception has one, is there -/
def DictIn (H : Hp) (da : Option Addr) : Prop := ∀ dx, da = some dx → ∃ fs, H dx = some (.xd fs)
theorem inst_ofd {P : Program} {w : World} {H : Hp} {h : Heap} {a C : Addr} {da : Option Addr} (hok : HOk P w H h) (ha : H a = some (excO a C da)) (hd : DictIn H da) : ∃ ox od, InstAt h a ox C od := by
  obtain ⟨oe, vs, h1, h2, h3, h4⟩ := (show ObjOk P w H h a (excO a C da) from hok a _ ha).1
  obtain ⟨c, d, dt, sl⟩ := oe
  dsimp only at h2 h3 h4
  subst h2 h3 h4
  cases d with
  | none => exact ⟨_, none, h1, rfl, rfl, trivial⟩
  | some dx =>
    obtain ⟨fs, e⟩ := hd dx rfl
    obtain ⟨od, ho⟩ := objOk_there (hok dx _ e)
    exact ⟨_, some od, h1, rfl, rfl, ho⟩
def rIsXd (K : PySem.W.Frag) : List V → Hp → VK → Prop := fun xs H Q => ∃ (a C C1 : Addr) (da : Option Addr) (b : Bool), xs = [.ref a, .ref C1] ∧ H a = some (excO a C da) ∧ DictIn H da ∧ XIs K C ∧ kitOne K (.ref C) (.ref C1) = some b ∧ Q (.bl b) H
theorem call_isXd (e : X.K = K) : CallR X (.builtin "isinstance") (rIsXd K) := by
  subst e
  intro pins s σ H xs us Q I r h
  obtain ⟨a, C, C1, da, b, rfl, ha, hd, c, k, q⟩ := h
  obtain ⟨u, w', rfl, ru, rw'⟩ := vals2 r
  cases ru
  cases rw'
  exact kia_one (kitx_exc c) I.kIn (inst_ofd I.hok ha hd) k (fun z => nomatch z) fun tk => ⟨.bl b, H, I.tok tk, rfl, q⟩
def rIsXV (K : PySem.W.Frag) : List V → Hp → VK → Prop := fun xs H Q => ∃ (a C : Addr) (n : String) (da : Option Addr) (b : Bool), xs = [.ref a, .ty n] ∧ H a = some (excO a C da) ∧ DictIn H da ∧ XIs K C ∧ kitOne K (.ref C) (.type n) = some b ∧ Q (.bl b) H
theorem call_isXV (e : X.K = K) : CallR X (.builtin "isinstance") (rIsXV K) := by
  subst e
  intro pins s σ H xs us Q I r h
  obtain ⟨a, C, n, da, b, rfl, ha, hd, c, k, q⟩ := h
  obtain ⟨u, w', rfl, ru, rw'⟩ := vals2 r
  cases ru
  cases rw'
  exact kia_one (kitx_exc c) I.kIn (inst_ofd I.hok ha hd) k (fun z => nomatch z) fun tk => ⟨.bl b, H, I.tok tk, rfl, q⟩
def rIsXTd (K : PySem.W.Frag) : List V → Hp → VK → Prop := fun xs H Q => ∃ (a C t : Addr) (cs : List Addr) (da : Option Addr) (b : Bool), xs = [.ref a, .ref t] ∧ H a = some (excO a C da) ∧ DictIn H da ∧ H t = some (.tup (cs.map V.ref)) ∧ XIs K C ∧ kitAny K (.ref C) (cs.map Value.ref) = some b ∧ Q (.bl b) H
theorem call_isXTd (e : X.K = K) : CallR X (.builtin "isinstance") (rIsXTd K) := by
  subst e
  intro pins s σ H xs us Q I r h
  obtain ⟨a, C, t, cs, da, b, rfl, ha, hdi, ht, c, k, q⟩ := h
  obtain ⟨u, w', rfl, ru, rw'⟩ := vals2 r
  cases ru
  cases rw'
  obtain ⟨its, rv, pl, hz⟩ := I.tuple (.of ht)
  have e := vals_refs rv
  subst e
  obtain ⟨o, ho, hc, n, hd⟩ := pl
  obtain ⟨c0, d0, dt, sl⟩ := o
  dsimp only at hc hd
  subst hc hd
  exact kia_tup (kitx_exc c) I.kIn (inst_ofd I.hok ha hdi) ho k (fun z => nomatch z) fun tk => ⟨.bl b, H, I.tok tk, rfl, q⟩
/-- isinstance(x, C) of an instance of an own class -/
def rIsO (K : PySem.W.Frag) : List V → Hp → VK → Prop := fun xs H Q => ∃ (x : V) (C1 : Addr) (t : Value) (b : Bool), xs = [x, .ref C1] ∧ TyOf K H x t ∧ kitOne K t (.ref C1) = some b ∧ Q (.bl b) H
end
theorem bt_ValueError : bootBuiltins "ValueError" = some (.type "ValueError") := by decide +kernel
end L2

namespace L2
open PySem
/-- what is wanted may be weakened -/
def monoA (t : TA) : TA := fun σ H R => ∃ R0 : List V → Hp → Prop, t σ H R0 ∧ ∀ xs H1, R0 xs H1 → R xs H1
def tLstG (t : TA) : TE := fun σ H Q => t σ H fun xs H1 => xs.length ≤ sizeLine ∧ ∀ p G, H1 p = none → Same H1 G → G p = some (.lst xs) → Q (.ref p) G
def tTupG (t : TA) : TE := fun σ H Q => t σ H fun xs H1 => xs.length ≤ sizeLine ∧ ∀ p G, H1 p = none → Same H1 G → G p = some (.tup xs) → Q (.ref p) G
section
variable {X : Cx} {es : List Expr} {t : TA} {pos : Pos}
theorem pa_mono (h : PA X es t) : PA X es (monoA t) := fun pos pins s σ H R I ⟨R0, h0, k⟩ =>
  thn (h pos pins s σ H R0 I h0) fun us s1 ⟨xs, H1, I1, r, q⟩ => ⟨xs, H1, I1, r, k _ _ q⟩
theorem same_new {H : Hp} {p : Addr} {o : HO} (h : H p = none) : Same H (upd H p o) := fun b u e => by rw [upd_ne (ne_of_none e h)]; exact e
theorem pe_lstG (h : PA X es t) : PE X (.List es pos) (tLstG t) := fun pins s σ H Q I hq => pe_lst (pa_mono h) pins s σ H Q I ⟨_, hq, fun xs H1 z => ⟨z.1, fun p hp => z.2 p _ hp (same_new hp) upd_same⟩⟩
theorem pe_tupG {x1 : Nat} (h : PA X es t) : PE X (.Tuple es x1 pos) (tTupG t) := fun pins s σ H Q I hq => pe_tup (pa_mono h) pins s σ H Q I ⟨_, hq, fun xs H1 z => ⟨z.1, fun p hp => z.2 p _ hp (same_new hp) upd_same⟩⟩
end
end L2
namespace L2
open PySem PySem.W
section
variable {K : PySem.W.Frag} {h : Heap} {mg : Str → Option Value} {x : Str} {C : Addr}
theorem ocls_mk (X : K.In h) (G : h.Ns mainGlobals mg) (za : nsIn K mainGlobals x = some (some (.ref C))) (z1 : plainGet K C Str.empty = true) (z2 : hasDictIn K C = true) (z3 : plainOver K C = true) (z4 : findIn K (.ref C) "__setattr__" = some (some (.builtin "object.__setattr__"))) (z5 : makesIn K C = true) (z6 : keepIn K (.ref C) = true)
    (z7 : findIn K (.ref C) "__class__" = some (some (.builtin "object.__class__"))) (z8 : specialIn K (.builtin "object.__class__") "__get__" = some (some (.builtin "getset_descriptor.__get__"))) (z9 : takesIn K (.builtin "object.__class__") = some true) (z10 : mroIn K C (.type "object") = some true) : ∃ C, mg x = some (.ref C) ∧ OCls K C :=
  ⟨C, mg_of X G za, ⟨⟨z1, z2, z3, z4⟩, z5, z6, z7, z8, z9, z10⟩⟩
theorem noattr_mk {f : Str} (X : K.In h) (G : h.Ns mainGlobals mg) (za : nsIn K mainGlobals x = some (some (.ref C))) (z1 : findIn K (.ref C) f = some none) : ∃ C, mg x = some (.ref C) ∧ NoAttr K C f := ⟨C, mg_of X G za, z1⟩
theorem init0_mk (X : K.In h) (G : h.Ns mainGlobals mg) (za : nsIn K mainGlobals x = some (some (.ref C))) (z1 : findIn K (.ref C) "__init__" = some (some (.builtin "object.__init__"))) : ∃ C, mg x = some (.ref C) ∧ findIn K (.ref C) "__init__" = some (some (.builtin "object.__init__")) := ⟨C, mg_of X G za, z1⟩
variable {f : Addr} {m qual : Str} {st : Stmt} {ps : List Str} {oc kV doc pm cd ct : Value} {od an : Option Addr} {sl : Array (Option Value)}
theorem init_mk (X : K.In h) (G : h.Ns mainGlobals mg) (za : nsIn K mainGlobals x = some (some (.ref C))) (z1 : makesIn K C = true) (z2 : findIn K (.ref C) "__init__" = some (some (.ref f))) (z3 : isFn K (.ref f) = true) (z4 : keepIn K (.ref C) = true)
    (z5 : K.lookup f = some ⟨oc, od, .func (fnOf "__init__" qual (defArgs st) (defBody st) (defScope st) .none kV doc pm an cd ct), sl⟩) (z6 : codeIn K cd qual = true) (z7 : keepIn K (.ref f) = true)
    (zb : ∀ (kV doc pm : Value) (an : Option Addr) (cdv ct : Value) (us : List Value), us.length = ps.length → bindArgs (fnOf "__init__" qual (defArgs st) (defBody st) (defScope st) .none kV doc pm an cdv ct) ⟨us, []⟩ = pure (ps.zip us)) :
    ∃ C f fd, mg x = some (.ref C) ∧ Mk K C f ∧ Fun K "__init__" qual st f fd ∧ Binds K fd ps [] := by
  have F := fun_mk (x := "__init__") (qual := qual) (st := st) z5 z6 z7
  exact ⟨C, f, _, mg_of X G za, ⟨z1, z2, z3, z4⟩, F, F.binds zb⟩
theorem meth_mk (X : K.In h) (G : h.Ns mainGlobals mg) (za : nsIn K mainGlobals x = some (some (.ref C))) (z2 : findIn K (.ref C) m = some (some (.ref f))) (z3 : isFn K (.ref f) = true)
    (z5 : K.lookup f = some ⟨oc, od, .func (fnOf m qual (defArgs st) (defBody st) (defScope st) .none kV doc pm an cd ct), sl⟩) (z6 : codeIn K cd qual = true) (z7 : keepIn K (.ref f) = true)
    (zb : ∀ (kV doc pm : Value) (an : Option Addr) (cdv ct : Value) (us : List Value), us.length = ps.length → bindArgs (fnOf m qual (defArgs st) (defBody st) (defScope st) .none kV doc pm an cdv ct) ⟨us, []⟩ = pure (ps.zip us)) :
    ∃ C f fd, mg x = some (.ref C) ∧ Meth K C m f ∧ Fun K m qual st f fd ∧ Binds K fd ps [] := by
  have F := fun_mk (x := m) (qual := qual) (st := st) z5 z6 z7
  exact ⟨C, f, _, mg_of X G za, ⟨z2, z3, z7⟩, F, F.binds zb⟩
end
end L2

namespace L2
open PySem PySem.Spec PyProof.Rows
section
variable {X : Cx} {K : PySem.W.Frag}
def rExtendT (K : PySem.W.Frag) : V → List V → Hp → VK → Prop := fun x vs H Q => ∃ l b xs zs, x = .ref l ∧ vs = [.ref b] ∧ H l = some (.lst xs) ∧ SqT K H b zs ∧ xs.length + zs.length ≤ sizeLine ∧ Q .non (upd H l (.lst (xs ++ zs)))
def rCount : V → List V → Hp → VK → Prop := fun x vs H Q => ∃ (l : Addr) (bs : List Bool), x = .ref l ∧ vs = [.bl true] ∧ H l = some (.lst (bs.map V.bl)) ∧ Q (.int (bs.count true : Nat)) H
end
end L2

namespace PySem
namespace F
end F
section
variable {prog : Program} {w : World} {A : Around} {E : Value → Shared → Prop} {s : Shared}
def Heap.IsRevT (h : Heap) (a t : Addr) (i : Int) : Prop := ∃ o, h.get? a = some o ∧ o.cls = .type "reversed" ∧ o.data = .fields #[.ref t, rawInt i]
end
end PySem
namespace L2
open PySem PySem.Spec PyProof.Rows
/-- a tuple of n, from its end -/
def ItR (K : PySem.W.Frag) (a : Addr) (n : Nat) : It :=
  ⟨fun i H => ∃ xs x, SqT K H a xs ∧ i < n ∧ xs[n - 1 - i]? = some x, fun i H x H' => H' = H ∧ ∀ xs, SqT K H a xs → xs[n - 1 - i]? = some x, fun i _ => n ≤ i⟩
def iRevT (K : PySem.W.Frag) (ta : TA) : TI := fun σ H R => ta σ H fun vs H1 => ∃ a xs, vs = [.ref a] ∧ SqT K H1 a xs ∧ R (ItR K a xs.length) H1
end L2

namespace L2
open PySem PySem.Spec PyProof.Rows
section
variable {X : Cx} {K : PySem.W.Frag}
end
end L2

namespace TB

/-- what the landing of beat i leaves by the length -/
def land (P : List Int) (i : Nat) : Int := ((i : Int) + P.getD i 0) % (P.length : Int)

structure Row (P : List Int) : Prop where
  lo : 1 ≤ P.length
  hi : P.length ≤ 60
  bd : ∀ x ∈ P, -1000000 ≤ x ∧ x ≤ 1000000

structure Pat (P : List Int) : Prop extends Row P where
  inj : ∀ i j : Nat, i < P.length → j < P.length → land P i = land P j → i = j

theorem getD_get {P : List Int} {i : Nat} (h : i < P.length) : P.getD i 0 = P[i] := by
  rw [List.getD_eq_getElem?_getD, List.getElem?_eq_getElem h]
  rfl

theorem getD_mem {P : List Int} {i : Nat} (h : i < P.length) : P.getD i 0 ∈ P := by
  rw [getD_get h]
  exact List.getElem_mem h

theorem getD_some {P : List Int} {i : Nat} (h : i < P.length) : P[i]? = some (P.getD i 0) := by
  rw [getD_get h]
  exact List.getElem?_eq_getElem h

/-- the spots: a row of the beats in some order -/
structure Spots (n : Nat) (sp : List Int) : Prop where
  len : sp.length = n
  rng : ∀ k : Nat, k < n → 0 ≤ sp.getD k 0 ∧ sp.getD k 0 < (n : Int)
  inj : ∀ i j : Nat, i < n → j < n → sp.getD i 0 = sp.getD j 0 → i = j

theorem emod_shift {a b k n : Int} (h : (a + k) % n = (b + k) % n) : a % n = b % n := by
  have := Int.emod_emod_of_dvd
  have h2 : ((a + k) - k) % n = ((b + k) - k) % n := by
    rw [Int.sub_emod, h, ← Int.sub_emod]
  have e1 : a + k - k = a := by omega
  have e2 : b + k - k = b := by omega
  rwa [e1, e2] at h2

end TB

namespace TB

/-- the landing as a number of the row -/
def landN (P : List Int) (i : Nat) : Nat := (land P i).toNat
def opp (n : Nat) (b : Int) : Nat := ((-b) % (n : Int)).toNat
theorem opp_cast {n : Nat} (h : 1 ≤ n) (b : Int) : (opp n b : Int) = (-b) % (n : Int) := Int.toNat_of_nonneg (Int.emod_nonneg _ (by omega))
theorem opp_lt {n : Nat} (h : 1 ≤ n) (b : Int) : opp n b < n := by
  have h1 := opp_cast h b
  have h2 := Int.emod_lt_of_pos (-b) (show (0 : Int) < n by omega)
  omega
structure Mir (P M : List Int) : Prop where
  len : M.length = P.length
  bd : ∀ x ∈ M, x ∈ P
  at_ : ∀ j, j < P.length → M.getD (opp P.length (land P j)) 0 = P.getD j 0
def slot (P : List Int) (j : Nat) : Nat := opp P.length (land P j)
def gapL (P : List Int) (h : Int) : List Int := (List.range P.length).map fun b : Nat => h - P.getD (opp P.length b) 0
theorem gap_len (P : List Int) (h : Int) : (gapL P h).length = P.length := by simp [gapL]
end TB

namespace TB
/-- the throw back -/
structure Bk (P M : List Int) : Prop where
  len : M.length = P.length
  bd : ∀ x ∈ M, -1000000 ≤ x ∧ x ≤ 1000000
  at_ : ∀ j, j < P.length → M.getD (landN P j) 0 = -P.getD j 0
end TB

namespace TB
def it (f : Nat → Nat) : Nat → Nat → Nat
  | 0, a => a
  | k + 1, a => f (it f k a)
structure Pm (n : Nat) (f : Nat → Nat) : Prop where
  lt : ∀ i, i < n → f i < n
  inj : ∀ i j, i < n → j < n → f i = f j → i = j
section
variable {n : Nat} {f : Nat → Nat} (F : Pm n f)
include F
end
/-- k is the first time that a comes back -/
structure Per (f : Nat → Nat) (a k : Nat) : Prop where
  pos : 1 ≤ k
  back : it f k a = a
  first : ∀ j, 1 ≤ j → j < k → it f j a ≠ a
open Classical in
noncomputable def per (f : Nat → Nat) (a : Nat) : Nat := if h : ∃ k, Per f a k then choose h else 1
/-- the beats of a's round -/
noncomputable def orb (f : Nat → Nat) (a : Nat) : List Nat := (List.range (per f a)).map fun j => it f j a
section
variable {n : Nat} {f : Nat → Nat} (F : Pm n f)
include F
end
/-- the first beats of the rounds, of the beats below i -/
noncomputable def heads (f : Nat → Nat) : Nat → List Nat
  | 0 => []
  | i + 1 => if i ∈ (heads f i).flatMap (orb f) then heads f i else heads f i ++ [i]
noncomputable abbrev told (f : Nat → Nat) (i : Nat) : List Nat := (heads f i).flatMap (orb f)
structure Hd (n : Nat) (f : Nat → Nat) (i : Nat) : Prop where
  lt : ∀ a ∈ heads f i, a < i
  rise : (heads f i).Pairwise (· < ·)
  nd : ((heads f i).flatMap (orb f)).Nodup
  all : ∀ j, j < i → j ∈ (heads f i).flatMap (orb f)
  step : ∀ c, c < n → (c ∈ (heads f i).flatMap (orb f) ↔ f c ∈ (heads f i).flatMap (orb f))
  least : ∀ a ∈ heads f i, ∀ b ∈ orb f a, a ≤ b
end TB

namespace TB
def swapL (P : List Int) (i j : Nat) : List Int := (P.set i ((j : Int) + P.getD (j % P.length) 0 - i)).set (j % P.length) ((i : Int) + P.getD i 0 - j)
/-- which beat a beat of the swapped one lands as -/
def swB (c i b : Nat) : Nat := if b = c then i else if b = i then c else b
end TB

namespace TB
def Apart (P : List Int) : Prop := ∀ i j : Nat, i < P.length → j < P.length → land P i = land P j → i = j
def F (P : List Int) (m : Int) : Int := m + P.getD (m % (P.length : Int)).toNat 0
def T (P : List Int) (i j : Int) : Int := max 0 ((F P i - F P j - 1) / (P.length : Int) - (i - j) / (P.length : Int))
def cr (P : List Int) : Int := ((List.range P.length).map fun i : Nat => ((List.range P.length).map fun j : Nat => T P i j).sum).sum

def rotL (P : List Int) (k : Int) : List Int := (List.range P.length).map fun b : Nat => P.getD ((k + b) % (P.length : Int)).toNat 0
def rotN (n : Nat) (k : Int) (b : Nat) : Nat := ((k + b) % (n : Int)).toNat
end TB

namespace TB
abbrev nextN (n k : Nat) : Nat := (k + 1) % n
/-- the beat whose landing a beat of the swapped row has -/
def tau (n k b : Nat) : Int := if b = nextN n k then (b : Int) - 1 else if b = k then (k : Int) + 1 else b
end TB

namespace TB
end TB

namespace TB
/-- the number whose bits are c -/
def W (c : Nat → Int) (n : Nat) : Int := ((List.range n).map fun k => c k * 2 ^ k).sum
def Bits (c : Nat → Int) : Prop := ∀ k, c k = 0 ∨ c k = 1
/-- a number by its bits -/
def bitI (z : Int) (k : Nat) : Int := z / 2 ^ k % 2
structure Plain (P : List Int) : Prop extends Pat P where
  pl : ∀ x ∈ P, 0 ≤ x ∧ x ≤ 60
/-- does a ball thrown so long ago land k beats from beat b on -/
def lnd (P : List Int) (b : Int) (k ago : Nat) : Int := if F P (b - ago - 1) = b + k then 1 else 0
def cS (P : List Int) (b : Int) (k : Nat) : Int := ((List.range 60).map fun ago : Nat => lnd P b k ago).sum
def S (P : List Int) (b : Int) : Int := W (cS P b) 60
end TB

namespace TB
def gq (P : List Int) (t r : Nat) : Int := min (F P r / (P.length : Int)) (((t : Int) + r) / (P.length : Int))
end TB

namespace TB
def letsI (s : Int) (x : Nat) : Prop := (x = 0 → s % 2 = 0) ∧ (x ≠ 0 → s % 2 = 1 ∧ s / 2 ^ x % 2 = 0)
def ledI (s : Int) (x : Nat) : Int := s / 2 + if x = 0 then 0 else 2 ^ (x - 1)
def Step (m : Nat) (s t : Int) : Prop := ∃ x : Nat, x ≤ m ∧ letsI s x ∧ t = ledI s x
def pc (z : Int) (n : Nat) : Int := ((List.range n).map fun k => bitI z k).sum
/-- the bits of what a throw leads to -/
def ledB (s : Int) (x : Nat) (k : Nat) : Int := bitI s (k + 1) + if k + 1 = x then 1 else 0
end TB

namespace TB
/-- from P by undoing crossings at the places, one by one, to Q -/
inductive Und : List Int → List Nat → List Int → Prop
  | nil (P : List Int) : Und P [] P
  | snoc {P Q : List Int} {pl : List Nat} {k : Nat} (u : Und P pl Q) (hk : k < Q.length) (h : Q.getD k 0 > Q.getD (nextN Q.length k) 0 + 1) : Und P (pl ++ [k]) (swapL Q k (k + 1))
/-- by the places' swaps, each of them a crossing more -/
inductive Wk : List Int → List Nat → List Int → Prop
  | nil (P : List Int) : Wk P [] P
  | cons {R P : List Int} {ps : List Nat} {k : Nat} (hk : k < R.length) (h2 : 2 ≤ R.length) (h : ¬ R.getD k 0 > R.getD (nextN R.length k) 0 + 1) (w : Wk (swapL R k (k + 1)) ps P) : Wk R (k :: ps) P
end TB

namespace TB
abbrev Stp := Int × Int
/-- the steps begin at s and lead to x -/
def leads (L : Int → Int → Int) : Int → List Stp → Int → Prop
  | s, [], x => s = x
  | s, p :: w, x => p.1 = s ∧ leads L (L p.1 p.2) w x
/-- a least loop -/
structure Loop (L : Int → Int → Int) (w : List Stp) : Prop where
  ne : w ≠ []
  nd : (w.map Prod.fst).Nodup
  cl : ∃ c, leads L c w c
/-- cut so far -/
structure Cut (L : Int → Int → Int) (s0 x : Int) (done : List Stp) (loops : List (List Stp)) (w : List Stp) : Prop where
  ok : ∀ l ∈ loops, Loop L l
  nd : (w.map Prod.fst).Nodup
  ld : leads L s0 w x
  pm : (loops.flatten ++ w).Perm done
end TB

namespace TB
theorem replicate_getD {n : Nat} {b : Int} {i : Nat} (h : i < n) : (List.replicate n b).getD i 0 = b := by
  rw [List.getD_eq_getElem?_getD, List.getElem?_replicate, if_pos h]
  rfl
theorem even_pat {n : Nat} {b : Int} (lo : 1 ≤ n) (hi : n ≤ 60) (hb : -1000000 ≤ b ∧ b ≤ 1000000) : Pat (List.replicate n b) := by
  refine ⟨⟨by simpa using lo, by simpa using hi, fun x hx => by rw [List.eq_of_mem_replicate hx]; exact hb⟩, fun i j h1 h2 e => ?_⟩
  rw [List.length_replicate] at h1 h2
  unfold land at e
  rw [List.length_replicate, replicate_getD h1, replicate_getD h2] at e
  have := emod_shift e
  rw [Int.emod_eq_of_lt (by omega) (by omega), Int.emod_eq_of_lt (by omega) (by omega)] at this
  omega
end TB

namespace TB
/-- the code of a pair -/
def code (p : Int × Int) : Int := p.1 * 64 + p.2
end TB

namespace TB
def Pre (m : Nat) (s t : Int) : Prop := 0 ≤ s ∧ s < 2 ^ m ∧ Step m s t
/-- told so far: each state and how far it is; of those of D the states ahead are told -/
structure Bfs (m : Nat) (t0 : Int) (F : List Stp) (D : Int → Prop) : Prop where
  nd : (F.map Prod.fst).Nodup
  st : ∀ p ∈ F, 0 ≤ p.1 ∧ p.1 < 2 ^ m ∧ pc p.1 m = pc t0 m ∧ 0 ≤ p.2
  zero : (t0, 0) ∈ F
  one0 : ∀ p ∈ F, p.2 = 0 → p.1 = t0
  back : ∀ p ∈ F, 0 < p.2 → ∃ x : Nat, x ≤ m ∧ letsI p.1 x ∧ (ledI p.1 x, p.2 - 1) ∈ F
  cl : ∀ t d, (t, d) ∈ F → D t → ∀ s, Pre m s t → ∃ e, (s, e) ∈ F ∧ e ≤ d + 1
/-- all told -/
structure Dist (m : Nat) (t0 : Int) (F : List Stp) : Prop where
  nd : (F.map Prod.fst).Nodup
  all : ∀ s, s ∈ F.map Prod.fst ↔ 0 ≤ s ∧ s < 2 ^ m ∧ pc s m = pc t0 m
  pos : ∀ p ∈ F, 0 ≤ p.2
  zero : (t0, 0) ∈ F
  one0 : ∀ p ∈ F, p.2 = 0 → p.1 = t0
  back : ∀ p ∈ F, 0 < p.2 → ∃ x : Nat, x ≤ m ∧ letsI p.1 x ∧ (ledI p.1 x, p.2 - 1) ∈ F
  cl : ∀ t d, (t, d) ∈ F → ∀ s, Pre m s t → ∃ e, (s, e) ∈ F ∧ e ≤ d + 1
end TB

namespace TB
end TB

set_option Elab.async false
set_option linter.all false
namespace TM
open L2
open PySem.NumText (AllDigits digitsVal)
def Bnd (v : Int) : Prop := -1000000 ≤ v ∧ v ≤ 1000000
def Low (v : Int) : Prop := 0 ≤ v ∧ v ≤ 35
instance (v : Int) : Decidable (Low v) := inferInstanceAs (Decidable (_ ∧ _))
instance (v : Int) : Decidable (Bnd v) := inferInstanceAs (Decidable (_ ∧ _))
end TM

set_option Elab.async false
set_option linter.all false
namespace TB
/-- where a throw lands, by a length of its own -/
def landM (n : Nat) (ts : List Int) (i : Nat) : Int := ((i : Int) + ts.getD i 0) % (n : Int)
def takenN (n : Nat) (ts : List Int) : List Int := (List.range ts.length).map (landM n ts)
def letsN (n : Nat) (ts : List Int) (t : Nat) : Bool := !(takenN n ts).contains (((ts.length : Int) + (t : Int)) % (n : Int))
def moreN (n : Nat) (tot : Int) (ts : List Int) : List (List Int) :=
  if ts.length + 1 = n then [ts ++ [tot - ts.sum]] else ((List.range (tot - ts.sum + 1).toNat).filter (letsN n ts)).map fun t : Nat => ts ++ [(t : Int)]
def stageN (n : Nat) (tot : Int) : Nat → List (List Int)
  | 0 => [[]]
  | k + 1 => (stageN n tot k).flatMap (moreN n tot)
/-- the order of lists -/
def ltL : List Int → List Int → Bool
  | [], [] => false
  | [], _ :: _ => true
  | _ :: _, [] => false
  | a :: as, b :: bs => decide (a < b) || (decide (a = b) && ltL as bs)
def riseL : List (List Int) → Bool
  | [] => true
  | [_] => true
  | a :: b :: r => ltL a b && riseL (b :: r)
def fitsN (n b : Nat) (ts : List Int) : Bool :=
  decide (ts.length = n) && ts.all (fun t => decide (0 ≤ t)) && ((List.range n).map (landM n ts)).isPerm ((List.range n).map fun k : Nat => (k : Int)) && decide (ts.sum = (b : Int) * n)
def boundN (n b : Nat) : Bool := (List.range (n + 1)).all fun k => decide ((stageN n ((n : Int) * b) k).length ≤ 100000) && (stageN n ((n : Int) * b) k).all fun ts => decide (ts.sum ≤ (n : Int) * b) && decide (0 ≤ ts.sum) && decide (ts.length = k)
def rightN (n b : Nat) : Bool :=
  (stageN n ((n : Int) * b) n).all (fitsN n b) && riseL (stageN n ((n : Int) * b) n) && decide (((stageN n ((n : Int) * b) n).length : Int) = ((b : Int) + 1) ^ n - (b : Int) ^ n)
/-- the lengths and balls that are asked -/
def AskN (n b : Nat) : Prop := 1 ≤ n ∧ ((n ≤ 4 ∧ b ≤ 3) ∨ (n ≤ 6 ∧ b ≤ 2))
structure Fits (n b : Nat) (ts : List Int) : Prop where
  len : ts.length = n
  nn : ∀ x ∈ ts, 0 ≤ x
  pm : ((List.range n).map (landM n ts)).Perm ((List.range n).map fun k : Nat => (k : Int))
  sm : ts.sum = (b : Int) * n
end TB

set_option Elab.async false
set_option linter.all false
namespace TB
inductive Ch where
  | idc
  | turn (k : Int)
  | lift (k : Int)
  | swap (i j : Int)
  | nb (k : Int)
  | mir
  | gap (h : Int)
def inBd (i : Int) : Prop := -1000000 ≤ i ∧ i ≤ 1000000
open Classical in
noncomputable def mirL (ns : List Int) : List Int := if h : ∃ M, Mir ns M then h.choose else []
def okC : Ch → List Int → Prop
  | .idc, _ => True
  | .turn k, _ => inBd k
  | .lift k, ns => inBd k ∧ ∀ x ∈ ns, inBd (x + k)
  | .swap i j, ns => 0 ≤ i ∧ i < j ∧ j < ns.length ∧ ∀ x ∈ swapL ns i.toNat j.toNat, inBd x
  | .nb k, ns => 0 ≤ k ∧ k < ns.length ∧ 2 ≤ ns.length ∧ ∀ x ∈ swapL ns k.toNat (k.toNat + 1), inBd x
  | .mir, _ => True
  | .gap h, ns => inBd h ∧ ∀ x ∈ gapL ns h, inBd x
noncomputable def doC : Ch → List Int → List Int
  | .idc, ns => ns
  | .turn k, ns => rotL ns k
  | .lift k, ns => ns.map (· + k)
  | .swap i j, ns => swapL ns i.toNat j.toNat
  | .nb k, ns => swapL ns k.toNat (k.toNat + 1)
  | .mir, ns => mirL ns
  | .gap h, ns => gapL ns h
def ballsC : Ch → Int → Int
  | .lift k, b => b + k
  | .gap h, b => h - b
  | _, b => b
/-- one after the other -/
inductive Run : List Ch → List Int → List Int → Prop
  | nil {ns : List Int} : Run [] ns ns
  | cons {c : Ch} {cs : List Ch} {ns ms : List Int} : okC c ns → Run cs (doC c ns) ms → Run (c :: cs) ns ms
theorem Run.split {xs ys : List Ch} : ∀ {ns ks : List Int}, Run (xs ++ ys) ns ks → ∃ ms, Run xs ns ms ∧ Run ys ms ks := by
  induction xs with
  | nil => exact fun h => ⟨_, .nil, h⟩
  | cons c xs ih =>
    intro ns ks h
    cases h with
    | cons ok r =>
      obtain ⟨ms, h1, h2⟩ := ih r
      exact ⟨ms, .cons ok h1, h2⟩
end TB

set_option maxHeartbeats 4000000
namespace Tb
open PySem L2 TB
local macro_rules | `(tactic| walk_at "rd") => `(tactic| try simp only [rExtendT, rCount, iRevT, tSeq, tNext, tIfS, tRet, tRetN, tDrop, tAsg, gName, gNil, gCons, gSub, gTup, tVar, tC, tOp, tUn, rI, rI0, rU, rEq, rNe, tTest, tB, tChain, tChain3, rSortedB, rSortedP, rSortedD, rListD, rDictP, iDict, tThaw, rDClear, tDisp, tPairs, kit_dict_dict, rIndex, rIsX, rIsXT, rIsXd, rIsXV, rIsXTd, rIsO, rIxS2, rSlS, rFind, rIndexT, rLenT, rStrT, rIntT, rAddT, rMulT, rInT, iTxt, tx_str, tTxts, kit_str_str, rIn, tListRev, tAug, ipI, tAnd, tOr, tNot, tAndV, tOrV, tNotV, tIf, tIsN, tNotN, tCB, tNil, tCons, tTup, tLst, tTupG, tLstG, tCall, tRaise, tTryC, tXF, sXF, tRaiseI, tTryA, tTryE, thC, thA, thNil, Ends.less, tFor_eq, tComp_eq, iList, iTup, iRng1, iRng2, iEnum, iZip, tNoIf, rIxL, rIxT, rSetL, tBM, tBM0, rAppend, tFld, sFld, tMake, tMakeN, tMethD, tTryM, tNever, rExtend, rGeL, rInS, rClear, tDNewK, tDIn, tDNotIn, tDGet, sDPut, rEqL, rEqS, rBest, rRep, rCat, tSl, tPart, tNoPart, rSlL, capt, CDiv, scal_ii, scal_bb, scal_ss, scal_nn, scal_in, scal_ni, List.map_cons, List.map_nil, List.append_nil, List.nil_append, List.cons_append, List.length_cons, List.length_nil, List.length_map, Int.zero_add, List.getElem?_cons_zero, List.getElem?_cons_succ, List.set_cons_zero, List.set_cons_succ, Option.some.injEq, Option.join_some, Option.bind_some, Option.bind_none, V.int.injEq, V.bl.injEq, V.ref.injEq, V.str.injEq, V.ty.injEq, List.cons.injEq, and_true, true_and, exists_and_left, exists_eq_left', exists_eq_left, exists_eq_right, exists_eq_right', exists_eq, exists_eq', exists_const, eq_self, decide_true, decide_false, Option.isSome_none, Option.isSome_some, Bool.false_eq_true, Bool.not_true, Bool.not_false, reduceIte, reduceCtorEq, false_and, and_false, or_false, false_or, start_def, cxOf_K, cxComp_K, and_assoc, tyOf_int, kit_int_int, kit_int_bool, kit_list_list, rep0, rep1, rep2, rep3, rep4, rep5, rep6, rep7, rep8, rep9, rep10, rep11, rep12, rLen, rIsi, rListOf, rTupOf, rSum, rAll, rAny, rSorted, kit_tuple_tuple, Nat.sub_self, Nat.reduceAdd, Nat.reduceSub, Nat.reduceEqDiff])

def top (i : Nat) : Stmt := PySem.Challenge.pw_tossbook_k17_refused.main.body.getD i (.Pass ⟨0, 0, 0, 0⟩)
/-- within the bounds of a throw -/
def inB (i : Int) : Prop := -1000000 ≤ i ∧ i ≤ 1000000
theorem inB_dec (i : Int) : (decide (-1000000 ≤ i) && decide (i ≤ 1000000)) = true ↔ inB i := by
  unfold inB
  simp
theorem ints_at {ns : List Int} {i : Nat} {x : V} (h : (ns.map V.int)[i]? = some x) : i < ns.length ∧ x = .int (ns.getD i 0) := by
  rw [List.getElem?_map] at h
  cases e : ns[i]? with
  | none => rw [e] at h; cases h
  | some z =>
    rw [e] at h
    have hi := (List.getElem?_eq_some_iff.mp e).1
    refine ⟨hi, ?_⟩
    rw [getD_some hi] at e
    cases e
    exact (Option.some.inj h).symm
theorem same_upd {H : Hp} {a : Addr} {o : HO} (h : H a = none) : Same H (upd H a o) := fun b u e => by
  rw [upd_ne (ne_of_none e h)]
  exact e
theorem tyOf_bl {K : PySem.W.Frag} {H : Hp} {b : Bool} {t : Value} : TyOf K H (.bl b) t ↔ t = .type "bool" := by
  constructor
  · intro h
    cases h
    rfl
  · intro h
    subst h
    exact .bl b
theorem kit_bool_int {K : PySem.W.Frag} : PySem.W.kitOne K (.type "bool") (.type "int") = some true := by rfl
theorem kit_bool_bool {K : PySem.W.Frag} : PySem.W.kitOne K (.type "bool") (.type "bool") = some true := by rfl
theorem kit_str_int {K : PySem.W.Frag} : PySem.W.kitOne K (.type "str") (.type "int") = some false := by rfl
theorem kit_none_int {K : PySem.W.Frag} : PySem.W.kitOne K (.type "NoneType") (.type "int") = some false := by rfl
theorem kit_tuple_list {K : PySem.W.Frag} : PySem.W.kitOne K (.type "tuple") (.type "list") = some false := by rfl
theorem kit_str_list {K : PySem.W.Frag} : PySem.W.kitOne K (.type "str") (.type "list") = some false := by rfl
def Flat : V → Prop
  | .int _ => True
  | .bl _ => True
  | .str _ => True
  | .non => True
  | _ => False
def isI : V → Bool
  | .int _ => true
  | _ => false
def btwV (v : V) (a b : Int) : Bool := match v with
  | .int i => decide (a ≤ i) && decide (i ≤ b)
  | _ => false
def okT (v : V) : Bool := btwV v (-1000000) 1000000
theorem okT_int {i : Int} : okT (.int i) = true ↔ inB i := inB_dec i
def RowV (xs : List V) : Prop := 1 ≤ xs.length ∧ xs.length ≤ 60 ∧ ∀ x ∈ xs, okT x = true
def BadRow (K : PySem.W.Frag) (H : Hp) (v : V) : Prop := (∃ t, TyOf K H v t ∧ PySem.W.kitOne K t (.type "list") = some false) ∨ ∃ a xs, v = .ref a ∧ H a = some (.lst xs) ∧ (∀ x ∈ xs, Flat x) ∧ xs.length ≤ 1000 ∧ ¬ RowV xs
theorem tyOf_same {K : PySem.W.Frag} {H H' : Hp} {v : V} {t : Value} (h : TyOf K H v t) (s : Same H H') : TyOf K H' v t := by
  cases h with
  | non => exact .non
  | bl x => exact .bl x
  | int i => exact .int i
  | str x => exact .str x
  | flt x => exact .flt x
  | lst e => exact .lst (s _ _ e)
  | frz e => exact .frz (s _ _ e)
  | tup e => exact .tup (s _ _ e)
  | dK e => exact .dK (s _ _ e)
  | dT e => exact .dT (s _ _ e)
  | ins e c1 c2 c3 c4 c5 => exact .ins (s _ _ e) c1 c2 c3 c4 c5
theorem BadRow.same {K : PySem.W.Frag} {H H' : Hp} {v : V} (h : BadRow K H v) (s : Same H H') : BadRow K H' v := by
  rcases h with ⟨t, h1, h2⟩ | ⟨a, xs, h1, h2, h3⟩
  · exact .inl ⟨t, tyOf_same h1 s, h2⟩
  · exact .inr ⟨a, xs, h1, s _ _ h2, h3⟩
/-- a row of which two throws land together -/
def ClashRow (H : Hp) (v : V) : Prop := ∃ a ns, v = .ref a ∧ H a = some (.lst (ns.map V.int)) ∧ Row ns ∧ ¬ Pat ns
/-- check_pattern refuses the value -/
def Refus (K : PySem.W.Frag) (NAR CL : Addr) (v : V) (H : Hp) (E : XK) : Prop := (BadRow K H v ∧ ∀ H', Same H H' → E (.ref NAR) none H') ∨ (ClashRow H v ∧ ∀ H' dx fs, Same H H' → H' dx = some (.xd fs) → E (.ref CL) (some dx) H')
theorem Refus.same {K : PySem.W.Frag} {NAR CL : Addr} {v : V} {H H' : Hp} {E : XK} (h : Refus K NAR CL v H E) (s : Same H H') : Refus K NAR CL v H' E := by
  rcases h with ⟨h, e⟩ | ⟨⟨a, ns, h1, h2, h3⟩, e⟩
  · exact .inl ⟨h.same s, fun H2 s2 => e H2 (s.trans s2)⟩
  · exact .inr ⟨⟨a, ns, h1, s _ _ h2, h3⟩, fun H2 dx fs s2 hd => e H2 dx fs (s.trans s2) hd⟩
section
variable {P : Program} {w : World} {K : PySem.W.Frag} {mg : Str → Option Value} {base : Heap}

abbrev s_is_whole : Stmt := top 13
theorem sc_is_whole : FnScope ["value"] ["value"] (defScope s_is_whole) := ⟨rfl, rfl, rfl, by decide +kernel, rfl, by decide +kernel, by decide +kernel⟩
def spIsInt : Sp := fun vs H Q _ => ∃ v : V, vs = [v] ∧ Flat v ∧ Q (.bl (isI v)) H
theorem ok_is_whole {f : Addr} {fd : FuncData} (h : Has K mg "is_whole" s_is_whole ["value"] f fd) (B : Blt mg) : Ok P w K mg base "is_whole" ["value"] 1 spIsInt := by
  refine h.ok sc_is_whole (fun vs H Q E h => ?_) (fun cdv A outer s H vs Q E hr h => ?_)
  · obtain ⟨v, rfl, _⟩ := h
    rfl
  · obtain ⟨v, rfl, hf, q⟩ := h
    refine ⟨_, (pss_one (ps_ret (pe_and (pe_callB (call_isinstK (K := K) rfl) rfl B.isinstance_ bt_isinstance (pa_cons (pv 0) (pa_cons (pe_tyN B.int_ bt_int) pa_nil))) (pe_one (pe_not (pe_callB (call_isinstK (K := K) rfl) rfl B.isinstance_ bt_isinstance (pa_cons (pv 0) (pa_cons (pe_tyN B.bool_ bt_bool) pa_nil)))))))), ?_⟩
    cases v with
    | int i =>
      walk_at "rd"
      exact q
    | bl t =>
      walk_at "rd"
      refine ⟨_, tyOf_bl.mpr rfl, _, kit_bool_int, ?_⟩
      walk_at "rd"
      refine ⟨_, tyOf_bl.mpr rfl, _, kit_bool_bool, ?_⟩
      walk_at "rd"
      exact q
    | str x =>
      walk_at "rd"
      refine ⟨_, .str x, _, kit_str_int, ?_⟩
      walk_at "rd"
      exact q
    | non =>
      walk_at "rd"
      refine ⟨_, .non, _, kit_none_int, ?_⟩
      walk_at "rd"
      exact q
    | _ => exact hf.elim

abbrev s_is_between : Stmt := top 14
theorem sc_is_between : FnScope ["value", "least", "most"] ["value", "least", "most"] (defScope s_is_between) := ⟨rfl, rfl, rfl, by decide +kernel, rfl, by decide +kernel, by decide +kernel⟩
def spBtw : Sp := fun vs H Q _ => ∃ (v : V) (a b : Int), vs = [v, .int a, .int b] ∧ Flat v ∧ Q (.bl (btwV v a b)) H
theorem ok_is_between {f : Addr} {fd : FuncData} (h : Has K mg "is_between" s_is_between ["value", "least", "most"] f fd) (o_is_whole : Ok P w K mg base "is_whole" ["value"] 1 spIsInt) : Ok P w K mg base "is_between" ["value", "least", "most"] 2 spBtw := by
  refine h.ok sc_is_between (fun vs H Q E h => ?_) (fun cdv A outer s H vs Q E hr h => ?_)
  · obtain ⟨v, a, b, rfl, _⟩ := h
    rfl
  · obtain ⟨v, a, b, rfl, hf, q⟩ := h
    refine ⟨_, (pss_one (ps_ret (pe_and (pe_callO o_is_whole (hr.mono (by decide)) rfl passX (pa_cons (pv 0) pa_nil)) (pe_one (pe_chain op_le op_le (pv 1) (pv 0) (pv 2)))))), ?_⟩
    walk_at "rd"
    refine ⟨v, rfl, hf, ?_⟩
    cases v with
    | int i =>
      walk_at "rd"
      unfold isI
      walk_at "rd"
      unfold btwV at q
      by_cases h1 : a ≤ i
      · simpa [h1] using q
      · simpa [h1] using q
    | bl t =>
      unfold isI
      walk_at "rd"
      exact q
    | str x =>
      unfold isI
      walk_at "rd"
      exact q
    | non =>
      unfold isI
      walk_at "rd"
      exact q
    | _ => exact hf.elim

abbrev s_is_throw : Stmt := top 15
theorem sc_is_throw : FnScope ["value"] ["value"] (defScope s_is_throw) := ⟨rfl, rfl, rfl, by decide +kernel, rfl, by decide +kernel, by decide +kernel⟩
def spIsThrow : Sp := fun vs H Q _ => ∃ v : V, vs = [v] ∧ Flat v ∧ Q (.bl (okT v)) H
theorem ok_is_throw {f : Addr} {fd : FuncData} (h : Has K mg "is_throw" s_is_throw ["value"] f fd) (g_FARTHEST_THROW : GInt mg "FARTHEST_THROW" 1000000) (o_is_between : Ok P w K mg base "is_between" ["value", "least", "most"] 2 spBtw) : Ok P w K mg base "is_throw" ["value"] 3 spIsThrow := by
  refine h.ok sc_is_throw (fun vs H Q E h => ?_) (fun cdv A outer s H vs Q E hr h => ?_)
  · obtain ⟨i, rfl, _⟩ := h
    rfl
  · obtain ⟨i, rfl, hf, q⟩ := h
    refine ⟨_, (pss_one (ps_ret (pe_callO o_is_between (hr.mono (by decide)) rfl passX (pa_cons (pv 0) (pa_cons (pe_un un_neg (pe_gi g_FARTHEST_THROW)) (pa_cons (pe_gi g_FARTHEST_THROW) pa_nil)))))), ?_⟩
    walk_at "rd"
    exact ⟨_, _, _, rfl, hf, q⟩

abbrev s_check_throw : Stmt := top 16
theorem sc_check_throw : FnScope ["value"] ["value"] (defScope s_check_throw) := ⟨rfl, rfl, rfl, by decide +kernel, rfl, by decide +kernel, by decide +kernel⟩
def spCheckThrow (OOB : Addr) : Sp := fun vs H Q E => ∃ v : V, vs = [v] ∧ Flat v ∧ (okT v = true → Q .non H) ∧ (okT v = false → E (.ref OOB) none H)
theorem ok_check_throw {f : Addr} {fd : FuncData} {OOB : Addr} (h : Has K mg "check_throw" s_check_throw ["value"] f fd) (x_OutOfBounds : ExcCls K OOB) (m_OutOfBounds : mg "OutOfBounds" = some (.ref OOB)) (o_is_throw : Ok P w K mg base "is_throw" ["value"] 3 spIsThrow) : Ok P w K mg base "check_throw" ["value"] 4 (spCheckThrow OOB) := by
  refine h.ok sc_check_throw (fun vs H Q E h => ?_) (fun cdv A outer s H vs Q E hr h => ?_)
  · obtain ⟨i, rfl, _⟩ := h
    rfl
  · obtain ⟨v, rfl, hf, q1, q2⟩ := h
    refine ⟨_, (pss_one (ps_if (pt_not (pt_val (pe_callO o_is_throw (hr.mono (by decide)) rfl passX (pa_cons (pv 0) pa_nil)))) (pss_one (ps_raise isDef_cxOf x_OutOfBounds rfl landX rfl m_OutOfBounds (pa_cons pe_str pa_nil))) pss_nil)), ?_⟩
    walk_at "rd"
    refine ⟨v, rfl, hf, _, rfl, ?_⟩
    cases e : okT v with
    | true => exact q1 e
    | false => exact ⟨by decide, q2 e⟩

abbrev s_check_row : Stmt := top 17
theorem sc_check_row : FnScope ["row"] ["row"] (defScope s_check_row) := ⟨rfl, rfl, rfl, by decide +kernel, rfl, by decide +kernel, by decide +kernel⟩
def spCheckRow (K : PySem.W.Frag) (NAR : Addr) : Sp := fun vs H Q E => ∃ v : V, vs = [v] ∧ ((BadRow K H v ∧ ∀ H', Same H H' → E (.ref NAR) none H') ∨ ∃ (a : Addr) (ns : List Int), v = .ref a ∧ H a = some (.lst (ns.map V.int)) ∧ Row ns ∧ ∀ H', Same H H' → Q .non H')
theorem ok_check_row {f : Addr} {fd : FuncData} {NAR : Addr} (h : Has K mg "check_row" s_check_row ["row"] f fd) (B : Blt mg) (g_LONGEST_ROW : GInt mg "LONGEST_ROW" 60) (x_NotARow : ExcCls K NAR) (m_NotARow : mg "NotARow" = some (.ref NAR)) (o_is_throw : Ok P w K mg base "is_throw" ["value"] 3 spIsThrow) : Ok P w K mg base "check_row" ["row"] 4 (spCheckRow K NAR) := by
  refine h.ok sc_check_row (fun vs H Q E h => ?_) (fun cdv A outer s H vs Q E hr h => ?_)
  · obtain ⟨a, rfl, _⟩ := h
    rfl
  · obtain ⟨v, rfl, h⟩ := h
    refine ⟨_, (pss_cons (ps_if (pt_not (pt_val (pe_callB (call_isinstK (K := K) rfl) rfl B.isinstance_ bt_isinstance (pa_cons (pv 0) (pa_cons (pe_tyN B.list_ bt_list) pa_nil))))) (pss_one (ps_raise isDef_cxOf x_NotARow rfl landX rfl m_NotARow (pa_cons pe_str pa_nil))) pss_nil)
      (pss_cons (ps_if (pt_not (pt_chain op_le op_le pe_int (pe_callB (call_len_seqK (K := K) rfl) rfl B.len_ bt_len (pa_cons (pv 0) pa_nil)) (pe_gi g_LONGEST_ROW))) (pss_one (ps_raise isDef_cxOf x_NotARow rfl landX rfl m_NotARow (pa_cons pe_str pa_nil))) pss_nil)
      (pss_one (ps_if (pt_not (pt_val (pe_callB (call_allLK (K := K) rfl rfl) rfl B.all_ bt_all (pa_cons (pe_comp (N' := ["throw"]) (π := [none]) (CompScope.of (by kernel_rfl)) rfl (pi_listK (K := K) rfl (pv 0)) (fun _ _ _ _ _ => (pg_name (i := 0) (show List.Nodup (["throw"] : List Str) by decide +kernel) rfl (by first | exact Or.inl rfl | exact Or.inr rfl))) (fun _ _ _ _ _ => pifs_nil) (fun _ _ _ _ _ => (pe_callO o_is_throw (hr.mono (by decide)) rfl passE0 (pa_cons (pv 0) pa_nil)))) pa_nil)))) (pss_one (ps_raise isDef_cxOf x_NotARow rfl landX rfl m_NotARow (pa_cons pe_str pa_nil))) pss_nil)))), ?_⟩
    have two : (∃ t, TyOf K H v t ∧ PySem.W.kitOne K t (.type "list") = some false ∧ ∀ H', Same H H' → E (.ref NAR) none H') ∨ ∃ a xs, v = .ref a ∧ H a = some (.lst xs) ∧ (∀ x ∈ xs, Flat x) ∧ xs.length ≤ 1000 ∧ (RowV xs → ∀ H', Same H H' → Q .non H') ∧ (¬ RowV xs → ∀ H', Same H H' → E (.ref NAR) none H') := by
      rcases h with ⟨⟨t, h1, h2⟩ | ⟨a, xs, rfl, ha, hf, hl, hn⟩, q⟩ | ⟨a, ns, rfl, ha, R, q⟩
      · exact .inl ⟨t, h1, h2, q⟩
      · exact .inr ⟨a, xs, rfl, ha, hf, hl, fun z => absurd z hn, fun _ => q⟩
      · refine .inr ⟨a, _, rfl, ha, fun x hx => ?_, by rw [List.length_map]; have := R.hi; omega, fun _ => q, fun z => absurd ⟨by rw [List.length_map]; exact R.lo, by rw [List.length_map]; exact R.hi, fun x hx => ?_⟩ z⟩
        · obtain ⟨i, _, rfl⟩ := List.mem_map.mp hx
          trivial
        · obtain ⟨i, hi, rfl⟩ := List.mem_map.mp hx
          exact okT_int.mpr (R.bd i hi)
    rcases two with ⟨t, h1, h2, q⟩ | ⟨a, xs, rfl, ha, hf, hl, q1, q2⟩
    · walk_at "rd"
      refine ⟨_, h1, _, h2, ?_⟩
      walk_at "rd"
      exact ⟨by decide, q _ (Same.refl _)⟩
    · walk_at "rd"
      refine ⟨_, .lst ha, _, kit_list_list, ?_⟩
      walk_at "rd"
      refine ⟨_, .inl (.of ha), ?_⟩
      walk_at "rd"
      refine ite2 (fun l1 => ite2 (fun l2 => ⟨by decide, q2 (fun z => ?_) _ (Same.refl _)⟩) (fun l2 => ?_)) (fun l1 => ⟨by decide, q2 (fun z => l1 (decide_eq_true (by have := z.1; omega))) _ (Same.refl _)⟩)
      · simp only [Bool.not_eq_true', decide_eq_false_iff_not] at l2
        have := z.2.1
        omega
      · have n1 := of_decide_eq_true l1
        have n2 : (xs.length : Int) ≤ 60 := by simpa using l2
        refine ⟨⟨_, .of ha⟩, comp_list (xs := xs) (by omega) (fun i ys σ H' => i ≤ xs.length ∧ (∃ o, σ = [o]) ∧ Same H H' ∧ ys = ((xs.take i).map okT).map V.bl) ⟨Nat.zero_le _, ⟨_, rfl⟩, Same.refl _, rfl⟩ (fun i ys σ H' p => ?_) (fun i ys σ H' _ p => .of (p.2.2.1 _ _ ha)) (fun i ys σ H' x hx p => ?_) (fun ys σ H' D p hD => ?_)⟩
        · obtain ⟨hi, _, _, rfl⟩ := p
          rw [List.length_map, List.length_map, List.length_take]; omega
        · obtain ⟨hi, ⟨o, rfl⟩, hs, rfl⟩ := p
          have hlt := (List.getElem?_eq_some_iff.mp hx).1
          walk_at "rd"
          refine ⟨_, rfl, hf x (List.mem_of_getElem? hx), hlt, hs, ?_⟩
          rw [List.take_succ, hx, List.map_append, List.map_append]
          rfl
        · obtain ⟨_, _, hs, rfl⟩ := p
          rw [List.take_length]
          refine ⟨D, rfl, _, .of upd_same, ite2 (fun z => ⟨by decide, q2 (fun r => ?_) _ (hs.trans (same_upd hD))⟩) (fun z => q1 ⟨by omega, by omega, fun x hx => ?_⟩ _ (hs.trans (same_upd hD)))⟩
          · rw [show (xs.map okT).all id = true from ?_] at z
            · cases z
            · rw [List.all_eq_true]
              intro b hb
              obtain ⟨x, hx, rfl⟩ := List.mem_map.mp hb
              exact r.2.2 x hx
          · have z' : (xs.map okT).all id = true := by simpa using z
            exact List.all_eq_true.mp z' _ (List.mem_map_of_mem hx)

/-- where the throws land -/
def lands (ns : List Int) : List Int := (List.range ns.length).map (land ns)
theorem lands_len (ns : List Int) : (lands ns).length = ns.length := by simp [lands]

abbrev s_landings : Stmt := top 19
theorem sc_landings : FnScope ["row"] ["row"] (defScope s_landings) := ⟨rfl, rfl, rfl, by decide +kernel, rfl, by decide +kernel, by decide +kernel⟩
def spLandings : Sp := fun vs H Q _ => ∃ (a : Addr) (ns : List Int), vs = [.ref a] ∧ H a = some (.lst (ns.map V.int)) ∧ 1 ≤ ns.length ∧ ns.length ≤ 60 ∧ ∀ H' D, Same H H' → H D = none → H' D = some (.lst ((lands ns).map V.int)) → Q (.ref D) H'
theorem ok_landings {f : Addr} {fd : FuncData} (h : Has K mg "landings" s_landings ["row"] f fd) (B : Blt mg) : Ok P w K mg base "landings" ["row"] 2 spLandings := by
  refine h.ok sc_landings (fun vs H Q E h => ?_) (fun cdv A outer s H vs Q E hr h => ?_)
  · obtain ⟨a, ns, rfl, _⟩ := h
    rfl
  · obtain ⟨a, ns, rfl, ha, lo, hi, q⟩ := h
    refine ⟨_, (pss_one (ps_ret (pe_comp (N' := ["beat", "throw", "row"]) (π := [none, none, some 0]) (CompScope.of (by kernel_rfl)) rfl (pi_enumK (K := K) rfl rfl B.enumerate_ (pa_cons (pv 0) pa_nil)) (fun _ _ _ _ _ => (pg_tupK (K := K) (n := 2) rfl rfl (pgs_cons (pg_name (i := 0) (show List.Nodup (["beat", "throw", "row"] : List Str) by decide +kernel) rfl (by first | exact Or.inl rfl | exact Or.inr rfl)) (pgs_cons (pg_name (i := 1) (show List.Nodup (["beat", "throw", "row"] : List Str) by decide +kernel) rfl (by first | exact Or.inl rfl | exact Or.inr rfl)) pgs_nil)))) (fun _ _ _ _ _ => pifs_nil) (fun _ _ _ _ _ => (pe_op op_mod (pe_op op_add (pv 0) (pv 1)) (pe_callB (call_len_seqK (K := K) rfl) rfl B.len_ bt_len (pa_cons (pv 2) pa_nil))))))), ?_⟩
    walk_at "rd"
    refine ⟨⟨_, .of ha⟩, comp_enum (xs := ns.map V.int) (by rw [List.length_map]; omega) (fun i ys σ H' => i ≤ ns.length ∧ (∃ o1 o2, σ = [o1, o2, some (V.ref a)]) ∧ Same H H' ∧ ys = ((List.range i).map (land ns)).map V.int) ⟨Nat.zero_le _, ⟨_, _, rfl⟩, Same.refl _, rfl⟩ (fun i ys σ H' p => ?_) (fun i ys σ H' _ p => .of (p.2.2.1 _ _ ha)) (fun i ys σ H' x T hx p hT => ?_) (fun ys σ H' D p hD => ?_)⟩
    · rw [p.2.2.2]; simp
    · obtain ⟨hi', ⟨o1, o2, rfl⟩, hs, rfl⟩ := p
      obtain ⟨hlt, rfl⟩ := ints_at hx
      have hs2 : Same H (upd H' T (.tup [.int i, .int (ns.getD i 0)])) := hs.trans (same_upd hT)
      walk_at "rd"
      refine ⟨_, .of upd_same, rfl, ?_⟩
      walk_at "rd"
      refine ⟨_, .inl (.of (hs2 _ _ ha)), ?_⟩
      walk_at "rd"
      refine ⟨by omega, hlt, hs2, ?_⟩
      rw [List.range_succ, List.map_append, List.map_append]
      rfl
    · obtain ⟨_, _, hs, rfl⟩ := p
      refine q _ D (hs.trans (same_upd hD)) (hs.free hD) ?_
      rw [upd_same, List.length_map]
      rfl

abbrev takenK (ns : List Int) (j : Nat) : List (Key × V) := (List.range j).map fun i => ((Sum.inl (land ns i) : Key), V.int i)
theorem taken_none {ns : List Int} {x : Int} : ∀ {j : Nat}, (∀ i, i < j → land ns i ≠ x) → valV (takenK ns j) (Sum.inl x : Key) = none := by
  intro j h
  unfold valV
  rw [Option.map_eq_none_iff, List.find?_eq_none]
  intro p hp
  obtain ⟨i, hi, rfl⟩ := List.mem_map.mp hp
  simp only [decide_eq_true_eq, Sum.inl.injEq]
  exact h i (List.mem_range.mp hi)
theorem taken_put {ns : List Int} {j : Nat} (h : ∀ i, i < j → land ns i ≠ land ns j) : putK (takenK ns j) (Sum.inl (land ns j) : Key) (V.int j) = takenK ns (j + 1) := by
  rw [putK_new _ (taken_none h)]
  unfold takenK
  rw [List.range_succ, List.map_append]
  rfl
theorem lands_at {ns : List Int} {i : Nat} {x : V} (h : ((lands ns).map V.int)[i]? = some x) : i < ns.length ∧ x = .int (land ns i) := by
  rw [List.getElem?_map] at h
  cases e : (lands ns)[i]? with
  | none => rw [e] at h; cases h
  | some z =>
    rw [e] at h
    have hi := (List.getElem?_eq_some_iff.mp e).1
    rw [lands_len] at hi
    refine ⟨hi, ?_⟩
    unfold lands at e
    rw [List.getElem?_map, List.getElem?_range hi] at e
    cases e
    exact (Option.some.inj h).symm

/-- the first two beats that land together -/
structure Meet (ns : List Int) (i j : Nat) : Prop where
  ij : i < j
  jn : j < ns.length
  eq : land ns i = land ns j
  first : ∀ i' j', i' < j' → j' < j → land ns i' ≠ land ns j'
theorem Meet.uniq {ns : List Int} {i j i' j' : Nat} (m : Meet ns i j) (m' : Meet ns i' j') : i = i' ∧ j = j' := by
  have hj : j = j' := by
    rcases Nat.lt_trichotomy j j' with h | h | h
    · exact absurd m.eq (m'.first i j m.ij h)
    · exact h
    · exact absurd m'.eq (m.first i' j' m'.ij h)
  subst hj
  refine ⟨?_, rfl⟩
  rcases Nat.lt_trichotomy i i' with h | h | h
  · exact absurd (m.eq.trans m'.eq.symm) (m.first i i' h m'.ij)
  · exact h
  · exact absurd (m'.eq.trans m.eq.symm) (m.first i' i h m.ij)
theorem pat_or_meet {ns : List Int} (r : Row ns) : Pat ns ∨ ∃ i j, Meet ns i j := by
  have key : ∀ n, n ≤ ns.length → (∀ i j, i < j → j < n → land ns i ≠ land ns j) ∨ ∃ i j, Meet ns i j := by
    intro n
    induction n with
    | zero => exact fun _ => .inl fun i j _ h => absurd h (Nat.not_lt_zero _)
    | succ n ih =>
      intro hn
      rcases ih (by omega) with h | h
      · by_cases hx : ∃ i, i < n ∧ land ns i = land ns n
        · obtain ⟨i, hi, e⟩ := hx
          exact .inr ⟨i, n, hi, by omega, e, h⟩
        · refine .inl fun i j hij hj e => ?_
          by_cases hjn : j = n
          · subst hjn
            exact hx ⟨i, hij, e⟩
          · exact h i j hij (by omega) e
      · exact .inr h
  rcases key ns.length (Nat.le_refl _) with h | h
  · refine .inl ⟨r, fun i j hi hj e => ?_⟩
    rcases Nat.lt_trichotomy i j with z | z | z
    · exact absurd e (h i j z hj)
    · exact z
    · exact absurd e.symm (h j i z hi)
  · exact .inr h
theorem Meet.not_pat {ns : List Int} {i j : Nat} (m : Meet ns i j) (p : Pat ns) : False := by
  have h1 := m.ij
  have h2 := m.jn
  have := p.inj i j (by omega) h2 m.eq
  omega
theorem taken_some {ns : List Int} {j i : Nat} (hi : i < j) (hno : ∀ i' j', i' < j' → j' < j → land ns i' ≠ land ns j') : valV (takenK ns j) (Sum.inl (land ns i) : Key) = some (V.int i) := by
  unfold valV takenK
  have e : List.find? (fun kv : Key × V => decide (kv.1 = (Sum.inl (land ns i) : Key))) ((List.range j).map fun k => ((Sum.inl (land ns k) : Key), V.int k)) = some ((Sum.inl (land ns i) : Key), V.int i) := by
    rw [List.find?_map]
    have : (List.range j).find? ((fun kv : Key × V => decide (kv.1 = (Sum.inl (land ns i) : Key))) ∘ fun k => ((Sum.inl (land ns k) : Key), V.int k)) = some i := by
      rw [List.find?_range_eq_some]
      refine ⟨by simp, List.mem_range.mpr hi, fun k hk => ?_⟩
      simp only [Function.comp, decide_eq_true_eq, Sum.inl.injEq, Bool.not_eq_true', decide_eq_false_iff_not]
      exact hno k i hk hi
    rw [this]
    rfl
  rw [e]
  rfl


abbrev s_clash_of : Stmt := top 20
theorem sc_clash_of : FnScope ["row", "taken", "beat", "landing"] ["row"] (defScope s_clash_of) := ⟨rfl, rfl, rfl, by decide +kernel, rfl, by decide +kernel, by decide +kernel⟩
def spClash2 (K : PySem.W.Frag) (NAR : Addr) : Sp := fun vs H Q E => ∃ v : V, vs = [v] ∧ ((BadRow K H v ∧ ∀ H', Same H H' → E (.ref NAR) none H') ∨ ∃ (a : Addr) (ns : List Int), v = .ref a ∧ H a = some (.lst (ns.map V.int)) ∧ Row ns ∧ (Pat ns → ∀ H', Same H H' → Q .non H') ∧ (∀ i j, Meet ns i j → ∀ H' T, Same H H' → H T = none → H' T = some (.tup [.int i, .int j]) → Q (.ref T) H'))
theorem ok_clash2 {f : Addr} {fd : FuncData} {NAR : Addr} (h : Has K mg "clash_of" s_clash_of ["row"] f fd) (B : Blt mg) (o_check_row : Ok P w K mg base "check_row" ["row"] 4 (spCheckRow K NAR)) (o_landings : Ok P w K mg base "landings" ["row"] 2 spLandings) : Ok P w K mg base "clash_of" ["row"] 5 (spClash2 K NAR) := by
  refine h.ok sc_clash_of (fun vs H Q E h => ?_) (fun cdv A outer s H vs Q E hr h => ?_)
  · obtain ⟨v, rfl, _⟩ := h
    rfl
  · obtain ⟨v, rfl, bad | ⟨a, ns, rfl, ha, p, q1, q2⟩⟩ := h
    · refine ⟨_, (pss_cons (ps_expr (pe_callO o_check_row (hr.mono (by decide)) rfl passX (pa_cons (pv 0) pa_nil)))
      (pss_cons (ps_set (i := 1) sc_clash_of.nd rfl (by first | exact Or.inl rfl | exact Or.inr rfl) pe_dnewK)
      (pss_cons (ps_for ownX rfl (pi_enumK (K := K) rfl rfl B.enumerate_ (pa_cons (pe_callO o_landings (hr.mono (by decide)) rfl passX (pa_cons (pv 0) pa_nil)) pa_nil)) (pg_tupK (K := K) (n := 2) rfl rfl (pgs_cons (pg_name (i := 2) sc_clash_of.nd rfl (by first | exact Or.inl rfl | exact Or.inr rfl)) (pgs_cons (pg_name (i := 3) sc_clash_of.nd rfl (by first | exact Or.inl rfl | exact Or.inr rfl)) pgs_nil))) (pss_cons (ps_if (pt_cmp (pc_din (hu_of hr) (pv 3) (pv 1))) (pss_one (ps_ret (pe_tup (pa_cons (pe_dget (hu_of hr) (pv 1) (pv 3) (fun _ _ => rfl)) (pa_cons (pv 2) pa_nil))))) pss_nil)
      (pss_one (ps_dput (hu_of hr) (pv 1) (pv 3) (pv 2) rfl))))
      (pss_one (ps_ret pe_non))))), ?_⟩
      walk_at "rd"
      exact ⟨v, rfl, .inl bad⟩
    refine ⟨_, (pss_cons (ps_expr (pe_callO o_check_row (hr.mono (by decide)) rfl passX (pa_cons (pv 0) pa_nil)))
      (pss_cons (ps_set (i := 1) sc_clash_of.nd rfl (by first | exact Or.inl rfl | exact Or.inr rfl) pe_dnewK)
      (pss_cons (ps_for ownX rfl (pi_enumK (K := K) rfl rfl B.enumerate_ (pa_cons (pe_callO o_landings (hr.mono (by decide)) rfl passX (pa_cons (pv 0) pa_nil)) pa_nil)) (pg_tupK (K := K) (n := 2) rfl rfl (pgs_cons (pg_name (i := 2) sc_clash_of.nd rfl (by first | exact Or.inl rfl | exact Or.inr rfl)) (pgs_cons (pg_name (i := 3) sc_clash_of.nd rfl (by first | exact Or.inl rfl | exact Or.inr rfl)) pgs_nil))) (pss_cons (ps_if (pt_cmp (pc_din (hu_of hr) (pv 3) (pv 1))) (pss_one (ps_ret (pe_tup (pa_cons (pe_dget (hu_of hr) (pv 1) (pv 3) (fun _ _ => rfl)) (pa_cons (pv 2) pa_nil))))) pss_nil)
      (pss_one (ps_dput (hu_of hr) (pv 1) (pv 3) (pv 2) rfl))))
      (pss_one (ps_ret pe_non))))), ?_⟩
    walk_at "rd"
    refine ⟨.ref a, rfl, .inr ⟨a, ns, rfl, ha, p, fun H1 s1 d hd => ?_⟩⟩
    have s2 : Same H (upd H1 d (.dK [])) := s1.trans (same_upd hd)
    refine ⟨a, ns, rfl, s2 _ _ ha, p.lo, p.hi, fun H3 D s3 hD hD3 => ?_⟩
    have hd3 : H3 d = some (.dK []) := s3 _ _ upd_same
    refine ⟨D, rfl, ⟨_, .of hD3⟩, for_enum (xs := (lands ns).map V.int) (fun i σ H' => i ≤ ns.length ∧ (∃ o1 o2, σ = [some (V.ref a), some (V.ref d), o1, o2]) ∧ Same H H' ∧ H' D = some (.lst ((lands ns).map V.int)) ∧ H' d = some (.dK (takenK ns i)) ∧ ∀ i' j', i' < j' → j' < i → land ns i' ≠ land ns j')
      ⟨Nat.zero_le _, ⟨_, _, rfl⟩, s2.trans s3, hD3, hd3, fun _ _ _ z => absurd z (Nat.not_lt_zero _)⟩ (fun i σ H' _ p => .of p.2.2.2.1) (fun i x σ H' T hx pv hT => ?_) (fun σ H' pv => ?_)⟩
    · obtain ⟨hi, ⟨o1, o2, rfl⟩, hs, hDD, hdd, hno⟩ := pv
      obtain ⟨hlt, rfl⟩ := lands_at hx
      have hTd : d ≠ T := ne_of_none hdd hT
      have hTD : D ≠ T := ne_of_none hDD hT
      have hdD : D ≠ d := ne_of hDD hdd (by intro z; cases z)
      have hdd' : (upd H' T (.tup [.int i, .int (land ns i)])) d = some (.dK (takenK ns i)) := by rw [upd_ne hTd]; exact hdd
      walk_at "rd"
      refine ⟨_, .of upd_same, rfl, ?_⟩
      walk_at "rd"
      by_cases hx : ∃ k, k < i ∧ land ns k = land ns i
      · obtain ⟨k, hk, ek⟩ := hx
        have g := DGet.k (k := (Sum.inl (land ns i) : Key)) hdd'
        rw [← ek, taken_some hk hno, ek] at g
        refine ⟨_, g, ?_⟩
        walk_at "rd"
        refine ⟨_, g, ?_⟩
        walk_at "rd"
        exact ⟨by decide, fun p2 hp2 => q2 k i ⟨hk, hlt, ek, hno⟩ _ p2 (hs.trans ((same_upd hT).trans (same_upd hp2))) ((hs.trans (same_upd hT)).free hp2) upd_same⟩
      · have hne : ∀ k, k < i → land ns k ≠ land ns i := fun k hk e => hx ⟨k, hk, e⟩
        refine ⟨none, ?_, ?_⟩
        · have g := DGet.k (k := (Sum.inl (land ns i) : Key)) hdd'
          rw [taken_none hne] at g
          exact g
        walk_at "rd"
        refine ⟨_, DPut.k (k := (Sum.inl (land ns i) : Key)) hdd' (small1000 (by simp [takenK]; have := p.hi; omega)), ?_⟩
        refine ⟨hlt, fun b o e => ?_, ?_, ?_, fun i' j' h1 h2 => ?_⟩
        · have e' := hs b o e
          rw [upd_ne (fun z => by subst z; rw [s1.free hd] at e; cases e), upd_ne (ne_of_none e' hT)]
          exact e'
        · rw [upd_ne hdD, upd_ne hTD]; exact hDD
        · rw [upd_same, taken_put hne]
        · by_cases ej : j' = i
          · subst ej
            exact hne i' h1
          · exact hno i' j' h1 (by omega)
    · obtain ⟨hi, ⟨o1, o2, rfl⟩, hs, hDD, hdd, hno⟩ := pv
      rw [List.length_map, lands_len] at hno
      rcases pat_or_meet p with z | ⟨i, j, m⟩
      · exact q1 z _ hs
      · exact absurd m.eq (hno i j m.ij m.jn)

abbrev s_check_pattern : Stmt := top 18
theorem sc_check_pattern : FnScope ["pattern", "pair"] ["pattern"] (defScope s_check_pattern) := ⟨rfl, rfl, rfl, by decide +kernel, rfl, by decide +kernel, by decide +kernel⟩
abbrev s_Clash___init__ : Stmt := inClass (top 4) 0
theorem sc_Clash___init__ : FnScope ["self", "beats"] ["self", "beats"] (defScope s_Clash___init__) := ⟨rfl, rfl, rfl, by decide +kernel, rfl, by decide +kernel, by decide +kernel⟩
def spInit (C : Addr) : Sp := fun vs H Q _ => ∃ (a : Addr) (a0 : Value) (x : V), vs = [.ref a, x] ∧ H a = some (excN a C a0) ∧ ∀ dx, H dx = none → Q .non (upd (upd H a (excD a C a0 dx)) dx (.xd [("beats", x)]))
theorem ok_init {f C B : Addr} {fd : FuncData} (h : Fun K "__init__" "Clash.__init__" s_Clash___init__ f fd) (c : XCls K C B) (n : NoX K C "beats") : FnOk P w K mg base (CXf P w) 1 f fd ["self", "beats"] (spInit C) := by
  refine h.okX sc_Clash___init__ (fun vs H Q E h => ?_) (fun cdv A outer s H vs Q E hr h => ?_)
  · obtain ⟨a, a0, x, rfl, _⟩ := h
    rfl
  · obtain ⟨a, a0, x, rfl, ha, q⟩ := h
    refine ⟨_, pss_one (ps_xf (K := K) isDef_cxOf rfl (pv 0) (pv 1)), ?_⟩
    walk_at "rd"
    exact ⟨C, B, a0, ha, c, n, q⟩
def spChk (K : PySem.W.Frag) (NAR CL : Addr) : Sp := fun vs H Q E => ∃ v : V, vs = [v] ∧ (Refus K NAR CL v H E ∨ ∃ (a : Addr) (ns : List Int), v = .ref a ∧ H a = some (.lst (ns.map V.int)) ∧ Pat ns ∧ ∀ H', Same H H' → Q .non H')
theorem ok_check {f fi CL NAR : Addr} {fd fdi : FuncData} (h : Has K mg "check_pattern" s_check_pattern ["pattern"] f fd) (ci_Clash : InitX K CL fi) (fi_Clash : FnOk P w K mg base (CXf P w) 1 fi fdi ["self", "beats"] (spInit CL)) (bi_Clash : Binds K fdi ["self", "beats"] []) (m_Clash : mg "Clash" = some (.ref CL)) (o_clash_of : Ok P w K mg base "clash_of" ["row"] 5 (spClash2 K NAR)) : Ok P w K mg base "check_pattern" ["pattern"] 6 (spChk K NAR CL) := by
  refine h.ok sc_check_pattern (fun vs H Q E h => ?_) (fun cdv A outer s H vs Q E hr h => ?_)
  · obtain ⟨v, rfl, _⟩ := h
    rfl
  · obtain ⟨v, rfl, h⟩ := h
    refine ⟨_, (pss_cons (ps_set (i := 1) sc_check_pattern.nd rfl (by first | exact Or.inl rfl | exact Or.inr rfl) (pe_callO o_clash_of (hr.mono (by decide)) rfl passX (pa_cons (pv 0) pa_nil)))
      (pss_one (ps_if (pt_cmp (pc_notN (pv 1))) (pss_one (ps_raiseI isDef_cxOf ci_Clash fi_Clash (hr.mono (by decide)) rfl landX rfl m_Clash bi_Clash (pa_cons (pv 1) pa_nil))) pss_nil))), ?_⟩
    rcases h with (bad | ⟨⟨a, ns, rfl, ha, p, np⟩, q⟩) | ⟨a, ns, rfl, ha, p, q⟩
    · walk_at "rd"
      exact ⟨v, rfl, .inl bad⟩
    · walk_at "rd"
      refine ⟨.ref a, rfl, .inr ⟨a, ns, rfl, ha, p, fun z => absurd z np, fun i j m H1 T s1 hT h1 => ?_⟩⟩
      walk_at "rd"
      refine ⟨by decide, fun x a0 hx => ⟨x, a0, .ref T, rfl, upd_same, fun dx hdx => ⟨rfl, dx, ?_, ?_⟩⟩⟩
      · have hxd : x ≠ dx := fun z => by rw [← z, upd_same] at hdx; cases hdx
        rw [upd_ne hxd, upd_same]
      · have hxd : dx ≠ x := fun z => by rw [z, upd_same] at hdx; cases hdx
        rw [upd_ne hxd] at hdx
        refine q _ dx _ (fun b o e => ?_) (by rw [cut_ne hxd, upd_same])
        have e := s1 _ _ e
        rw [cut_ne (ne_of_none e hx), upd_ne (ne_of_none e hdx), upd_ne (ne_of_none e hx), upd_ne (ne_of_none e hx)]
        exact e
    · walk_at "rd"
      refine ⟨.ref a, rfl, .inr ⟨a, ns, rfl, ha, p.toRow, fun _ H1 s1 => ?_, fun i j m => (m.not_pat p).elim⟩⟩
      walk_at "rd"
      exact q _ s1

abbrev s_balls_of : Stmt := top 21
theorem sc_balls_of : FnScope ["pattern"] ["pattern"] (defScope s_balls_of) := ⟨rfl, rfl, rfl, by decide +kernel, rfl, by decide +kernel, by decide +kernel⟩
def spBallsOf (K : PySem.W.Frag) (NAR CL : Addr) : Sp := fun vs H Q E => ∃ v : V, vs = [v] ∧ (Refus K NAR CL v H E ∨ ∃ (a : Addr) (ns : List Int), v = .ref a ∧ H a = some (.lst (ns.map V.int)) ∧ Pat ns ∧ ∀ H', Same H H' → Q (.int (ns.sum / (ns.length : Int))) H')
theorem ok_balls_of {f NAR CL : Addr} {fd : FuncData} (h : Has K mg "balls_of" s_balls_of ["pattern"] f fd) (B : Blt mg) (o_check_pattern : Ok P w K mg base "check_pattern" ["pattern"] 6 (spChk K NAR CL)) : Ok P w K mg base "balls_of" ["pattern"] 7 (spBallsOf K NAR CL) := by
  refine h.ok sc_balls_of (fun vs H Q E h => ?_) (fun cdv A outer s H vs Q E hr h => ?_)
  · obtain ⟨v, rfl, _⟩ := h
    rfl
  · obtain ⟨v, rfl, bad | ⟨a, ns, rfl, ha, p, q⟩⟩ := h
    · refine ⟨_, (pss_cons (ps_expr (pe_callO o_check_pattern (hr.mono (by decide)) rfl passX (pa_cons (pv 0) pa_nil)))
      (pss_one (ps_ret (pe_op op_fdiv (pe_callB (call_sumLK (K := K) rfl rfl) rfl B.sum_ bt_sum (pa_cons (pv 0) pa_nil)) (pe_callB (call_len_seqK (K := K) rfl) rfl B.len_ bt_len (pa_cons (pv 0) pa_nil)))))), ?_⟩
      walk_at "rd"
      exact ⟨v, rfl, .inl bad⟩
    refine ⟨_, (pss_cons (ps_expr (pe_callO o_check_pattern (hr.mono (by decide)) rfl passX (pa_cons (pv 0) pa_nil)))
      (pss_one (ps_ret (pe_op op_fdiv (pe_callB (call_sumLK (K := K) rfl rfl) rfl B.sum_ bt_sum (pa_cons (pv 0) pa_nil)) (pe_callB (call_len_seqK (K := K) rfl) rfl B.len_ bt_len (pa_cons (pv 0) pa_nil)))))), ?_⟩
    walk_at "rd"
    refine ⟨.ref a, rfl, .inr ⟨a, ns, rfl, ha, p, fun H1 s1 => ?_⟩⟩
    walk_at "rd"
    refine ⟨ns, .of (s1 _ _ ha), _, .inl (.of (s1 _ _ ha)), ?_⟩
    walk_at "rd"
    have := p.lo
    have := p.hi
    exact ⟨by omega, by omega, q _ s1⟩
end
end Tb

namespace Tb
open PySem L2 TB
local macro_rules | `(tactic| walk_at "rd") => `(tactic| try simp only [rExtendT, rCount, iRevT, tSeq, tNext, tIfS, tRet, tRetN, tDrop, tAsg, gName, gNil, gCons, gSub, gTup, tVar, tC, tOp, tUn, rI, rI0, rU, rEq, rNe, tTest, tB, tChain, tChain3, rSortedB, rSortedP, rSortedD, rListD, rDictP, iDict, tThaw, rDClear, tDisp, tPairs, kit_dict_dict, rIndex, rIsX, rIsXT, rIsXd, rIsXV, rIsXTd, rIsO, rIxS2, rSlS, rFind, rIndexT, rLenT, rStrT, rIntT, rAddT, rMulT, rInT, iTxt, tx_str, tTxts, kit_str_str, rIn, tListRev, tAug, ipI, tAnd, tOr, tNot, tAndV, tOrV, tNotV, tIf, tIsN, tNotN, tCB, tNil, tCons, tTup, tLst, tTupG, tLstG, tCall, tRaise, tTryC, tXF, sXF, tRaiseI, tTryA, tTryE, thC, thA, thNil, Ends.less, tFor_eq, tComp_eq, iList, iTup, iRng1, iRng2, iEnum, iZip, tNoIf, rIxL, rIxT, rSetL, tBM, tBM0, rAppend, tFld, sFld, tMake, tMakeN, tMethD, tTryM, tNever, rExtend, rGeL, rInS, rClear, tDNewK, tDIn, tDNotIn, tDGet, sDPut, rEqL, rEqS, rBest, rRep, rCat, tSl, tPart, tNoPart, rSlL, capt, CDiv, scal_ii, scal_bb, scal_ss, scal_nn, scal_in, scal_ni, List.map_cons, List.map_nil, List.append_nil, List.nil_append, List.cons_append, List.length_cons, List.length_nil, List.length_map, Int.zero_add, List.getElem?_cons_zero, List.getElem?_cons_succ, List.set_cons_zero, List.set_cons_succ, Option.some.injEq, Option.join_some, Option.bind_some, Option.bind_none, V.int.injEq, V.bl.injEq, V.ref.injEq, V.str.injEq, V.ty.injEq, List.cons.injEq, and_true, true_and, exists_and_left, exists_eq_left', exists_eq_left, exists_eq_right, exists_eq_right', exists_eq, exists_eq', exists_const, eq_self, decide_true, decide_false, Option.isSome_none, Option.isSome_some, Bool.false_eq_true, Bool.not_true, Bool.not_false, reduceIte, reduceCtorEq, false_and, and_false, or_false, false_or, start_def, cxOf_K, cxComp_K, and_assoc, tyOf_int, kit_int_int, kit_int_bool, kit_list_list, rep0, rep1, rep2, rep3, rep4, rep5, rep6, rep7, rep8, rep9, rep10, rep11, rep12, rLen, rIsi, rListOf, rTupOf, rSum, rAll, rAny, rSorted, kit_tuple_tuple, Nat.sub_self, Nat.reduceAdd, Nat.reduceSub, Nat.reduceEqDiff])

section
variable {P : Program} {w : World} {K : PySem.W.Frag} {mg : Str → Option Value} {base : Heap}
theorem at_ints {ns : List Int} {i : Nat} (h : i < ns.length) : atI (ns.map V.int) (i : Int) = some (.int (ns.getD i 0)) := by
  refine atI_nat ?_
  rw [List.getElem?_map, getD_some h]
  rfl
/-- the first argument is refused -/
def spRef (K : PySem.W.Frag) (NAR CL : Addr) : Sp := fun vs H _ E => ∃ v : V, vs = [v] ∧ Refus K NAR CL v H E

abbrev s_back : Stmt := top 26
theorem sc_back : FnScope ["pattern", "throws", "throw", "landing"] ["pattern"] (defScope s_back) := ⟨rfl, rfl, rfl, by decide +kernel, rfl, by decide +kernel, by decide +kernel⟩
theorem ok_back {f NAR CL : Addr} {fd : FuncData} (h : Has K mg "back" s_back ["pattern"] f fd) (o_check_pattern : Ok P w K mg base "check_pattern" ["pattern"] 6 (spChk K NAR CL)) : Ok P w K mg base "back" ["pattern"] 7 (spRef K NAR CL) := by
  refine h.ok sc_back (fun vs H Q E h => ?_) (fun cdv A outer s H vs Q E hr h => ?_)
  · obtain ⟨v, rfl, _⟩ := h
    rfl
  · obtain ⟨v, rfl, bad⟩ := h
    refine ⟨_, (pss_cons (ps_expr (pe_callO o_check_pattern (hr.mono (by decide)) rfl passX (pa_cons (pv 0) pa_nil)))
      pss_never), ?_⟩
    walk_at "rd"
    exact ⟨v, rfl, .inl bad⟩

abbrev s_mirrored : Stmt := top 29
theorem sc_mirrored : FnScope ["pattern", "throws", "throw", "landing"] ["pattern"] (defScope s_mirrored) := ⟨rfl, rfl, rfl, by decide +kernel, rfl, by decide +kernel, by decide +kernel⟩
theorem ok_mirrored {f NAR CL : Addr} {fd : FuncData} (h : Has K mg "mirrored" s_mirrored ["pattern"] f fd) (o_check_pattern : Ok P w K mg base "check_pattern" ["pattern"] 6 (spChk K NAR CL)) : Ok P w K mg base "mirrored" ["pattern"] 7 (spRef K NAR CL) := by
  refine h.ok sc_mirrored (fun vs H Q E h => ?_) (fun cdv A outer s H vs Q E hr h => ?_)
  · obtain ⟨v, rfl, _⟩ := h
    rfl
  · obtain ⟨v, rfl, bad⟩ := h
    refine ⟨_, (pss_cons (ps_expr (pe_callO o_check_pattern (hr.mono (by decide)) rfl passX (pa_cons (pv 0) pa_nil)))
      pss_never), ?_⟩
    walk_at "rd"
    exact ⟨v, rfl, .inl bad⟩

abbrev s_rounds : Stmt := top 32
theorem sc_rounds : FnScope ["pattern", "onward", "told", "answer", "first", "beats", "beat"] ["pattern"] (defScope s_rounds) := ⟨rfl, rfl, rfl, by decide +kernel, rfl, by decide +kernel, by decide +kernel⟩
theorem ok_rounds {f NAR CL : Addr} {fd : FuncData} (h : Has K mg "rounds" s_rounds ["pattern"] f fd) (o_check_pattern : Ok P w K mg base "check_pattern" ["pattern"] 6 (spChk K NAR CL)) : Ok P w K mg base "rounds" ["pattern"] 7 (spRef K NAR CL) := by
  refine h.ok sc_rounds (fun vs H Q E h => ?_) (fun cdv A outer s H vs Q E hr h => ?_)
  · obtain ⟨v, rfl, _⟩ := h
    rfl
  · obtain ⟨v, rfl, bad⟩ := h
    refine ⟨_, (pss_cons (ps_expr (pe_callO o_check_pattern (hr.mono (by decide)) rfl passX (pa_cons (pv 0) pa_nil)))
      pss_never), ?_⟩
    walk_at "rd"
    exact ⟨v, rfl, .inl bad⟩

abbrev s_crossings : Stmt := top 40
theorem sc_crossings : FnScope ["pattern", "many", "first", "second"] ["pattern"] (defScope s_crossings) := ⟨rfl, rfl, rfl, by decide +kernel, rfl, by decide +kernel, by decide +kernel⟩
theorem ok_crossings {f NAR CL : Addr} {fd : FuncData} (h : Has K mg "crossings" s_crossings ["pattern"] f fd) (o_check_pattern : Ok P w K mg base "check_pattern" ["pattern"] 6 (spChk K NAR CL)) : Ok P w K mg base "crossings" ["pattern"] 7 (spRef K NAR CL) := by
  refine h.ok sc_crossings (fun vs H Q E h => ?_) (fun cdv A outer s H vs Q E hr h => ?_)
  · obtain ⟨v, rfl, _⟩ := h
    rfl
  · obtain ⟨v, rfl, bad⟩ := h
    refine ⟨_, (pss_cons (ps_expr (pe_callO o_check_pattern (hr.mono (by decide)) rfl passX (pa_cons (pv 0) pa_nil)))
      pss_never), ?_⟩
    walk_at "rd"
    exact ⟨v, rfl, .inl bad⟩

abbrev s_unchanged : Stmt := top 44
theorem sc_unchanged : FnScope ["pattern"] ["pattern"] (defScope s_unchanged) := ⟨rfl, rfl, rfl, by decide +kernel, rfl, by decide +kernel, by decide +kernel⟩
theorem ok_unchanged {f NAR CL : Addr} {fd : FuncData} (h : Has K mg "unchanged" s_unchanged ["pattern"] f fd) (o_check_pattern : Ok P w K mg base "check_pattern" ["pattern"] 6 (spChk K NAR CL)) : Ok P w K mg base "unchanged" ["pattern"] 7 (spRef K NAR CL) := by
  refine h.ok sc_unchanged (fun vs H Q E h => ?_) (fun cdv A outer s H vs Q E hr h => ?_)
  · obtain ⟨v, rfl, _⟩ := h
    rfl
  · obtain ⟨v, rfl, bad⟩ := h
    refine ⟨_, (pss_cons (ps_expr (pe_callO o_check_pattern (hr.mono (by decide)) rfl passX (pa_cons (pv 0) pa_nil)))
      pss_never), ?_⟩
    walk_at "rd"
    exact ⟨v, rfl, .inl bad⟩

abbrev s_check_plain : Stmt := top 65
theorem sc_check_plain : FnScope ["pattern"] ["pattern"] (defScope s_check_plain) := ⟨rfl, rfl, rfl, by decide +kernel, rfl, by decide +kernel, by decide +kernel⟩
theorem ok_check_plain {f NAR CL : Addr} {fd : FuncData} (h : Has K mg "check_plain" s_check_plain ["pattern"] f fd) (o_check_pattern : Ok P w K mg base "check_pattern" ["pattern"] 6 (spChk K NAR CL)) : Ok P w K mg base "check_plain" ["pattern"] 7 (spRef K NAR CL) := by
  refine h.ok sc_check_plain (fun vs H Q E h => ?_) (fun cdv A outer s H vs Q E hr h => ?_)
  · obtain ⟨v, rfl, _⟩ := h
    rfl
  · obtain ⟨v, rfl, bad⟩ := h
    refine ⟨_, (pss_cons (ps_expr (pe_callO o_check_pattern (hr.mono (by decide)) rfl passX (pa_cons (pv 0) pa_nil)))
      pss_never), ?_⟩
    walk_at "rd"
    exact ⟨v, rfl, .inl bad⟩

abbrev s_from_even : Stmt := top 42
theorem sc_from_even : FnScope ["pattern", "places", "throws", "place"] ["pattern"] (defScope s_from_even) := ⟨rfl, rfl, rfl, by decide +kernel, rfl, by decide +kernel, by decide +kernel⟩
theorem ok_from_even {f NAR CL : Addr} {fd : FuncData} (h : Has K mg "from_even" s_from_even ["pattern"] f fd) (o_crossings : Ok P w K mg base "crossings" ["pattern"] 7 (spRef K NAR CL)) {OOB : Addr} (g_MOST_SWAPS : GInt mg "MOST_SWAPS" 1000) (x_OutOfBounds : ExcCls K OOB) (m_OutOfBounds : mg "OutOfBounds" = some (.ref OOB)) : Ok P w K mg base "from_even" ["pattern"] 8 (spRef K NAR CL) := by
  refine h.ok sc_from_even (fun vs H Q E h => ?_) (fun cdv A outer s H vs Q E hr h => ?_)
  · obtain ⟨v, rfl, _⟩ := h
    rfl
  · obtain ⟨v, rfl, bad⟩ := h
    refine ⟨_, (pss_cons (ps_if (pt_cmpR op_gt (pe_callO o_crossings (hr.mono (by decide)) rfl passX (pa_cons (pv 0) pa_nil)) (pe_gi g_MOST_SWAPS) (nomark _)) (pss_one (ps_raise isDef_cxOf x_OutOfBounds rfl landX rfl m_OutOfBounds (pa_cons pe_str pa_nil))) pss_nil)
      pss_never), ?_⟩
    walk_at "rd"
    exact ⟨v, rfl, bad⟩

abbrev s_states_of : Stmt := top 67
theorem sc_states_of : FnScope ["pattern", "state", "answer", "throw"] ["pattern"] (defScope s_states_of) := ⟨rfl, rfl, rfl, by decide +kernel, rfl, by decide +kernel, by decide +kernel⟩
theorem ok_states_of {f NAR CL : Addr} {fd : FuncData} (h : Has K mg "states_of" s_states_of ["pattern"] f fd) (o_check_plain : Ok P w K mg base "check_plain" ["pattern"] 7 (spRef K NAR CL)) : Ok P w K mg base "states_of" ["pattern"] 8 (spRef K NAR CL) := by
  refine h.ok sc_states_of (fun vs H Q E h => ?_) (fun cdv A outer s H vs Q E hr h => ?_)
  · obtain ⟨v, rfl, _⟩ := h
    rfl
  · obtain ⟨v, rfl, bad⟩ := h
    refine ⟨_, (pss_cons (ps_expr (pe_callO o_check_plain (hr.mono (by decide)) rfl passX (pa_cons (pv 0) pa_nil)))
      pss_never), ?_⟩
    walk_at "rd"
    exact ⟨v, rfl, bad⟩

abbrev s_parted : Stmt := top 68
theorem sc_parted : FnScope ["pattern", "loops", "on_the_way", "throws", "state", "throw", "first"] ["pattern"] (defScope s_parted) := ⟨rfl, rfl, rfl, by decide +kernel, rfl, by decide +kernel, by decide +kernel⟩
theorem ok_parted {f NAR CL : Addr} {fd : FuncData} (h : Has K mg "parted" s_parted ["pattern"] f fd) (o_states_of : Ok P w K mg base "states_of" ["pattern"] 8 (spRef K NAR CL)) (B : Blt mg) : Ok P w K mg base "parted" ["pattern"] 9 (spRef K NAR CL) := by
  refine h.ok sc_parted (fun vs H Q E h => ?_) (fun cdv A outer s H vs Q E hr h => ?_)
  · obtain ⟨v, rfl, _⟩ := h
    rfl
  · obtain ⟨v, rfl, bad⟩ := h
    refine ⟨_, (pss_cons (ps_set (i := 1) sc_parted.nd rfl (by first | exact Or.inl rfl | exact Or.inr rfl) (pe_lst pa_nil))
      (pss_cons (ps_set (i := 2) sc_parted.nd rfl (by first | exact Or.inl rfl | exact Or.inr rfl) (pe_lst pa_nil))
      (pss_cons (ps_set (i := 3) sc_parted.nd rfl (by first | exact Or.inl rfl | exact Or.inr rfl) (pe_lst pa_nil))
      (pss_cons (ps_for ownX rfl (pi_zipK (K := K) rfl rfl B.zip_ (pa_cons (pe_callO o_states_of (hr.mono (by decide)) rfl passX (pa_cons (pv 0) pa_nil)) (pa_cons (pv 0) pa_nil))) (pg_tupK (K := K) (n := 2) rfl rfl (pgs_cons (pg_name (i := 4) sc_parted.nd rfl (by first | exact Or.inl rfl | exact Or.inr rfl)) (pgs_cons (pg_name (i := 5) sc_parted.nd rfl (by first | exact Or.inl rfl | exact Or.inr rfl)) pgs_nil))) pss_never)
      pss_never)))), ?_⟩
    walk_at "rd"
    refine ⟨Nat.zero_le _, fun p hp => ⟨Nat.zero_le _, fun p1 hp1 => ⟨Nat.zero_le _, fun p2 hp2 => ⟨v, rfl, bad.same ((same_upd hp).trans ((same_upd hp1).trans (same_upd hp2)))⟩⟩⟩⟩

abbrev s_written : Stmt := top 61
theorem sc_written : FnScope ["row"] ["row"] (defScope s_written) := ⟨rfl, rfl, rfl, by decide +kernel, rfl, by decide +kernel, by decide +kernel⟩
def spBadRow (K : PySem.W.Frag) (NAR : Addr) : Sp := fun vs H _ E => ∃ v : V, vs = [v] ∧ BadRow K H v ∧ ∀ H', Same H H' → E (.ref NAR) none H'
theorem ok_written {f NAR : Addr} {fd : FuncData} (h : Has K mg "written" s_written ["row"] f fd) (o_check_row : Ok P w K mg base "check_row" ["row"] 4 (spCheckRow K NAR)) : Ok P w K mg base "written" ["row"] 5 (spBadRow K NAR) := by
  refine h.ok sc_written (fun vs H Q E h => ?_) (fun cdv A outer s H vs Q E hr h => ?_)
  · obtain ⟨v, rfl, _⟩ := h
    rfl
  · obtain ⟨v, rfl, bad⟩ := h
    refine ⟨_, (pss_cons (ps_expr (pe_callO o_check_row (hr.mono (by decide)) rfl passX (pa_cons (pv 0) pa_nil)))
      pss_never), ?_⟩
    walk_at "rd"
    exact ⟨v, rfl, .inl bad⟩

abbrev s_after : Stmt := top 25
theorem sc_after : FnScope ["one", "other"] ["one", "other"] (defScope s_after) := ⟨rfl, rfl, rfl, by decide +kernel, rfl, by decide +kernel, by decide +kernel⟩
/-- the first one is refused, or the second one, or they have unlike lengths -/
def spAfter (K : PySem.W.Frag) (NAR CL OL : Addr) : Sp := fun vs H _ E => ∃ v u : V, vs = [v, u] ∧ (Refus K NAR CL v H E ∨ ∃ (a : Addr) (ns : List Int), v = .ref a ∧ H a = some (.lst (ns.map V.int)) ∧ Pat ns ∧
  (Refus K NAR CL u H E ∨ ∃ (b : Addr) (ms : List Int), u = .ref b ∧ H b = some (.lst (ms.map V.int)) ∧ Pat ms ∧ ns.length ≠ ms.length ∧ ∀ H', Same H H' → E (.ref OL) none H'))
theorem ok_after {f NAR CL OL : Addr} {fd : FuncData} (h : Has K mg "after" s_after ["one", "other"] f fd) (B : Blt mg) (x_OtherLength : ExcCls K OL) (m_OtherLength : mg "OtherLength" = some (.ref OL)) (o_check_pattern : Ok P w K mg base "check_pattern" ["pattern"] 6 (spChk K NAR CL)) : Ok P w K mg base "after" ["one", "other"] 7 (spAfter K NAR CL OL) := by
  refine h.ok sc_after (fun vs H Q E h => ?_) (fun cdv A outer s H vs Q E hr h => ?_)
  · obtain ⟨v, u, rfl, _⟩ := h
    rfl
  · obtain ⟨v, u, rfl, h⟩ := h
    refine ⟨_, (pss_cons (ps_expr (pe_callO o_check_pattern (hr.mono (by decide)) rfl passX (pa_cons (pv 0) pa_nil)))
      (pss_cons (ps_expr (pe_callO o_check_pattern (hr.mono (by decide)) rfl passX (pa_cons (pv 1) pa_nil)))
      (pss_cons (ps_if (pt_cmpR op_ne (pe_callB (call_len_seqK (K := K) rfl) rfl B.len_ bt_len (pa_cons (pv 0) pa_nil)) (pe_callB (call_len_seqK (K := K) rfl) rfl B.len_ bt_len (pa_cons (pv 1) pa_nil)) (nomark _)) (pss_one (ps_raise isDef_cxOf x_OtherLength rfl landX rfl m_OtherLength (pa_cons pe_str pa_nil))) pss_nil)
      pss_never))), ?_⟩
    rcases h with bad | ⟨a, ns, rfl, ha, p, h⟩
    · walk_at "rd"
      exact ⟨v, rfl, .inl bad⟩
    · walk_at "rd"
      refine ⟨_, rfl, .inr ⟨a, ns, rfl, ha, p, fun H1 s1 => ?_⟩⟩
      rcases h with bad | ⟨b, ms, rfl, hb, pm, hne, q⟩
      · exact ⟨u, rfl, .inl (bad.same s1)⟩
      · refine ⟨_, rfl, .inr ⟨b, ms, rfl, s1 _ _ hb, pm, fun H2 s2 => ?_⟩⟩
        walk_at "rd"
        refine ⟨_, .inl (.of (s2 _ _ (s1 _ _ ha))), _, .inl (.of (s2 _ _ (s1 _ _ hb))), ?_⟩
        walk_at "rd"
        rw [if_pos (by rw [decide_eq_false (by omega)]; rfl)]
        exact ⟨by decide, q _ (s1.trans s2)⟩

abbrev s_turned : Stmt := top 27
theorem sc_turned : FnScope ["pattern", "k", "length"] ["pattern", "k"] (defScope s_turned) := ⟨rfl, rfl, rfl, by decide +kernel, rfl, by decide +kernel, by decide +kernel⟩
/-- the pattern is refused, or the number -/
def spTurned (K : PySem.W.Frag) (NAR CL OOB : Addr) : Sp := fun vs H _ E => ∃ v k : V, vs = [v, k] ∧ (Refus K NAR CL v H E ∨ ∃ (a : Addr) (ns : List Int), v = .ref a ∧ H a = some (.lst (ns.map V.int)) ∧ Pat ns ∧ Flat k ∧ okT k = false ∧ ∀ H', Same H H' → E (.ref OOB) none H')
theorem ok_turned {f NAR CL OOB : Addr} {fd : FuncData} (h : Has K mg "turned" s_turned ["pattern", "k"] f fd) (B : Blt mg) (o_check_pattern : Ok P w K mg base "check_pattern" ["pattern"] 6 (spChk K NAR CL)) (o_check_throw : Ok P w K mg base "check_throw" ["value"] 4 (spCheckThrow OOB)) : Ok P w K mg base "turned" ["pattern", "k"] 7 (spTurned K NAR CL OOB) := by
  refine h.ok sc_turned (fun vs H Q E h => ?_) (fun cdv A outer s H vs Q E hr h => ?_)
  · obtain ⟨v, k, rfl, _⟩ := h
    rfl
  · obtain ⟨v, k, rfl, h⟩ := h
    refine ⟨_, (pss_cons (ps_expr (pe_callO o_check_pattern (hr.mono (by decide)) rfl passX (pa_cons (pv 0) pa_nil)))
      (pss_cons (ps_expr (pe_callO o_check_throw (hr.mono (by decide)) rfl passX (pa_cons (pv 1) pa_nil)))
      pss_never)), ?_⟩
    rcases h with bad | ⟨a, ns, rfl, ha, p, hf, hk, q⟩
    · walk_at "rd"
      exact ⟨v, rfl, .inl bad⟩
    · walk_at "rd"
      exact ⟨_, rfl, .inr ⟨a, ns, rfl, ha, p, fun H1 s1 => ⟨k, rfl, hf, fun z => (by rw [hk] at z; cases z), fun _ => q _ s1⟩⟩⟩

abbrev s_within_bounds : Stmt := top 24
theorem sc_within_bounds : FnScope ["throws", "throw"] ["throws"] (defScope s_within_bounds) := ⟨rfl, rfl, rfl, by decide +kernel, rfl, by decide +kernel, by decide +kernel⟩
def spWithin (OOB : Addr) : Sp := fun vs H Q E => ∃ (a : Addr) (ns : List Int), vs = [.ref a] ∧ H a = some (.lst (ns.map V.int)) ∧ ns.length ≤ 1000 ∧ ((∀ x ∈ ns, inB x) → Q (.ref a) H) ∧ (¬ (∀ x ∈ ns, inB x) → E (.ref OOB) none H)
theorem ok_within_bounds {f : Addr} {fd : FuncData} {OOB : Addr} (h : Has K mg "within_bounds" s_within_bounds ["throws"] f fd) (o_check_throw : Ok P w K mg base "check_throw" ["value"] 4 (spCheckThrow OOB)) : Ok P w K mg base "within_bounds" ["throws"] 5 (spWithin OOB) := by
  refine h.ok sc_within_bounds (fun vs H Q E h => ?_) (fun cdv A outer s H vs Q E hr h => ?_)
  · obtain ⟨a, ns, rfl, _⟩ := h
    rfl
  · obtain ⟨a, ns, rfl, ha, hl, q1, q2⟩ := h
    refine ⟨_, (pss_cons (ps_for ownX rfl (pi_listK (K := K) rfl (pv 0)) (pg_name (i := 1) sc_within_bounds.nd rfl (by first | exact Or.inl rfl | exact Or.inr rfl)) (pss_one (ps_expr (pe_callO o_check_throw (hr.mono (by decide)) rfl passX (pa_cons (pv 1) pa_nil)))))
      (pss_one (ps_ret (pv 0)))), ?_⟩
    walk_at "rd"
    refine ⟨⟨_, .of ha⟩, for_list (xs := ns.map V.int) (fun i σ H' => H' = H ∧ (∃ o, σ = [some (V.ref a), o]) ∧ ∀ j, j < i → j < ns.length → inB (ns.getD j 0)) ⟨rfl, ⟨_, rfl⟩, fun j hj => absurd hj (Nat.not_lt_zero _)⟩ (fun i σ H' _ p => by rw [p.1]; exact .of ha) (fun i x σ H' hx p => ?_) (fun σ H' p => ?_)⟩
    · obtain ⟨rfl, ⟨o, rfl⟩, hb⟩ := p
      obtain ⟨hlt, rfl⟩ := ints_at hx
      walk_at "rd"
      refine ⟨_, rfl, trivial, fun z => ?_, fun z => q2 fun y => ?_⟩
      · refine ⟨rfl, fun j h1 h2 => ?_⟩
        by_cases e : j = i
        · rw [e]; exact okT_int.mp z
        · exact hb j (by omega) h2
      · rw [okT_int.mpr (y _ (TB.getD_mem hlt))] at z
        cases z
    · obtain ⟨rfl, ⟨o, rfl⟩, hb⟩ := p
      walk_at "rd"
      refine q1 fun x hx => ?_
      obtain ⟨j, hj, rfl⟩ := PySem.mem_getD hx
      exact hb j (by rw [List.length_map]; exact hj) hj

abbrev s_lifted : Stmt := top 28
theorem sc_lifted : FnScope ["pattern", "k"] ["pattern", "k"] (defScope s_lifted) := ⟨rfl, rfl, rfl, by decide +kernel, rfl, by decide +kernel, by decide +kernel⟩
def spLifted (K : PySem.W.Frag) (NAR CL OOB : Addr) : Sp := fun vs H _ E => ∃ v k : V, vs = [v, k] ∧ (Refus K NAR CL v H E ∨ ∃ (a : Addr) (ns : List Int), v = .ref a ∧ H a = some (.lst (ns.map V.int)) ∧ Pat ns ∧ Flat k ∧ (okT k = false ∨ ∃ z, k = .int z ∧ ¬ (∀ x ∈ ns, inB (x + z))) ∧ ∀ H', Same H H' → E (.ref OOB) none H')
theorem ok_lifted {f NAR CL OOB : Addr} {fd : FuncData} (h : Has K mg "lifted" s_lifted ["pattern", "k"] f fd) (o_check_pattern : Ok P w K mg base "check_pattern" ["pattern"] 6 (spChk K NAR CL)) (o_check_throw : Ok P w K mg base "check_throw" ["value"] 4 (spCheckThrow OOB)) (o_within_bounds : Ok P w K mg base "within_bounds" ["throws"] 5 (spWithin OOB)) : Ok P w K mg base "lifted" ["pattern", "k"] 7 (spLifted K NAR CL OOB) := by
  refine h.ok sc_lifted (fun vs H Q E h => ?_) (fun cdv A outer s H vs Q E hr h => ?_)
  · obtain ⟨v, k, rfl, _⟩ := h
    rfl
  · obtain ⟨v, k, rfl, h⟩ := h
    refine ⟨_, (pss_cons (ps_expr (pe_callO o_check_pattern (hr.mono (by decide)) rfl passX (pa_cons (pv 0) pa_nil)))
      (pss_cons (ps_expr (pe_callO o_check_throw (hr.mono (by decide)) rfl passX (pa_cons (pv 1) pa_nil)))
      (pss_one (ps_ret (pe_callO o_within_bounds (hr.mono (by decide)) rfl passX (pa_cons (pe_comp (N' := ["throw", "k"]) (π := [none, some 1]) (CompScope.of (by kernel_rfl)) rfl (pi_listK (K := K) rfl (pv 0)) (fun _ _ _ _ _ => (pg_name (i := 0) (show List.Nodup (["throw", "k"] : List Str) by decide +kernel) rfl (by first | exact Or.inl rfl | exact Or.inr rfl))) (fun _ _ _ _ _ => pifs_nil) (fun _ _ _ _ _ => (pe_op op_add (pv 0) (pv 1)))) pa_nil)))))), ?_⟩
    rcases h with bad | ⟨a, ns, rfl, ha, p, hf, hk, q⟩
    · walk_at "rd"
      exact ⟨v, rfl, .inl bad⟩
    · have lo := p.lo
      have hi := p.hi
      walk_at "rd"
      refine ⟨_, rfl, .inr ⟨a, ns, rfl, ha, p, fun H1 s1 => ⟨k, rfl, hf, fun kz => ?_, fun _ => q _ s1⟩⟩⟩
      rcases hk with hk | ⟨z, rfl, hz⟩
      · rw [hk] at kz; cases kz
      walk_at "rd"
      refine ⟨⟨_, .of (s1 _ _ ha)⟩, comp_list (xs := ns.map V.int) (by rw [List.length_map]; omega) (fun i ys σ H' => i ≤ ns.length ∧ (∃ o, σ = [o, some (V.int z)]) ∧ Same H H' ∧ ys = ((ns.take i).map (· + z)).map V.int) ⟨Nat.zero_le _, ⟨_, rfl⟩, s1, rfl⟩ (fun i ys σ H' p => ?_) (fun i ys σ H' _ p => .of (p.2.2.1 _ _ ha)) (fun i ys σ H' x hx pv => ?_) (fun ys σ H' D pv hD => ?_)⟩
      · rw [p.2.2.2]; simp; omega
      · obtain ⟨hi', ⟨o, rfl⟩, hs, rfl⟩ := pv
        obtain ⟨hlt, rfl⟩ := ints_at hx
        walk_at "rd"
        refine ⟨hlt, hs, ?_⟩
        rw [List.take_succ, getD_some hlt, List.map_append, List.map_append]
        rfl
      · obtain ⟨_, _, hs, rfl⟩ := pv
        have e : (ns.take (ns.map V.int).length).map (· + z) = ns.map (· + z) := by rw [List.length_map, List.take_of_length_le (Nat.le_refl _)]
        rw [e]
        refine ⟨D, ns.map (· + z), rfl, upd_same, by rw [List.length_map]; omega, fun y => absurd (fun x hx => y _ (List.mem_map_of_mem hx)) hz, fun _ => q _ (hs.trans (same_upd hD))⟩

abbrev s_gaps : Stmt := top 30
theorem sc_gaps : FnScope ["pattern", "h", "length"] ["pattern", "h"] (defScope s_gaps) := ⟨rfl, rfl, rfl, by decide +kernel, rfl, by decide +kernel, by decide +kernel⟩
def spGaps (K : PySem.W.Frag) (NAR CL OOB : Addr) : Sp := fun vs H _ E => ∃ v k : V, vs = [v, k] ∧ (Refus K NAR CL v H E ∨ ∃ (a : Addr) (ns : List Int), v = .ref a ∧ H a = some (.lst (ns.map V.int)) ∧ Pat ns ∧ Flat k ∧ (okT k = false ∨ ∃ z, k = .int z ∧ ¬ (∀ x ∈ gapL ns z, inB x)) ∧ ∀ H', Same H H' → E (.ref OOB) none H')
theorem neg_land {n : Nat} (lo : 1 ≤ n) (z : Int) : -z % (n : Int) = ((opp n z : Nat) : Int) := (opp_cast lo z).symm
theorem ok_gaps {f NAR CL OOB : Addr} {fd : FuncData} (h : Has K mg "gaps" s_gaps ["pattern", "h"] f fd) (B : Blt mg) (o_check_pattern : Ok P w K mg base "check_pattern" ["pattern"] 6 (spChk K NAR CL)) (o_check_throw : Ok P w K mg base "check_throw" ["value"] 4 (spCheckThrow OOB)) (o_within_bounds : Ok P w K mg base "within_bounds" ["throws"] 5 (spWithin OOB)) : Ok P w K mg base "gaps" ["pattern", "h"] 7 (spGaps K NAR CL OOB) := by
  refine h.ok sc_gaps (fun vs H Q E h => ?_) (fun cdv A outer s H vs Q E hr h => ?_)
  · obtain ⟨v, k, rfl, _⟩ := h
    rfl
  · obtain ⟨v, k, rfl, h⟩ := h
    refine ⟨_, (pss_cons (ps_expr (pe_callO o_check_pattern (hr.mono (by decide)) rfl passX (pa_cons (pv 0) pa_nil)))
      (pss_cons (ps_expr (pe_callO o_check_throw (hr.mono (by decide)) rfl passX (pa_cons (pv 1) pa_nil)))
      (pss_cons (ps_set (i := 2) sc_gaps.nd rfl (by first | exact Or.inl rfl | exact Or.inr rfl) (pe_callB (call_len_seqK (K := K) rfl) rfl B.len_ bt_len (pa_cons (pv 0) pa_nil)))
      (pss_one (ps_ret (pe_callO o_within_bounds (hr.mono (by decide)) rfl passX (pa_cons (pe_comp (N' := ["beat", "h", "pattern", "length"]) (π := [none, some 1, some 0, some 2]) (CompScope.of (by kernel_rfl)) rfl (pi_range1 rfl B.range_ (pa_cons (pv 2) pa_nil)) (fun _ _ _ _ _ => (pg_name (i := 0) (show List.Nodup (["beat", "h", "pattern", "length"] : List Str) by decide +kernel) rfl (by first | exact Or.inl rfl | exact Or.inr rfl))) (fun _ _ _ _ _ => pifs_nil) (fun _ _ _ _ _ => (pe_op op_sub (pv 1) (pe_ix (ix_listK (K := K) rfl) (pv 2) (pe_op op_mod (pe_un un_neg (pv 0)) (pv 3)) (fun _ _ => rfl))))) pa_nil))))))), ?_⟩
    rcases h with bad | ⟨a, ns, rfl, ha, p, hf, hk, q⟩
    · walk_at "rd"
      exact ⟨v, rfl, .inl bad⟩
    · have lo := p.lo
      have hi := p.hi
      walk_at "rd"
      refine ⟨_, rfl, .inr ⟨a, ns, rfl, ha, p, fun H1 s1 => ⟨k, rfl, hf, fun z => ?_, fun _ => q _ s1⟩⟩⟩
      rcases hk with hk | ⟨k, rfl, hz⟩
      · rw [hk] at z; cases z
      refine ⟨_, .inl (.of (s1 _ _ ha)), ?_⟩
      walk_at "rd"
      refine ⟨by omega, by omega, ?_⟩
      rw [Int.toNat_natCast]
      refine comp_range (by omega) (fun i ys σ H' => i ≤ ns.length ∧ (∃ o, σ = [o, some (V.int k), some (V.ref a), some (V.int ns.length)]) ∧ H' = H1 ∧ ys = ((List.range i).map fun b : Nat => k - ns.getD (opp ns.length b) 0).map V.int) ⟨Nat.zero_le _, ⟨_, rfl⟩, rfl, rfl⟩ (fun i ys σ H' p => ?_) (fun i ys σ H' hlt pv => ?_) (fun ys σ H' D pv hD => ?_)
      · rw [p.2.2.2]; simp
      · obtain ⟨hi', ⟨o, rfl⟩, rfl, rfl⟩ := pv
        walk_at "rd"
        rw [neg_land lo]
        refine ⟨by omega, _, .of (s1 _ _ ha), _, at_ints (opp_lt lo _), ?_⟩
        walk_at "rd"
        refine ⟨hlt, ?_⟩
        rw [List.range_succ, List.map_append, List.map_append]
        rfl
      · obtain ⟨_, _, rfl, rfl⟩ := pv
        refine ⟨D, gapL ns k, rfl, upd_same, by rw [gap_len]; omega, fun y => absurd y hz, fun _ => q _ (s1.trans (same_upd hD))⟩

abbrev s_check_beat : Stmt := top 35
theorem sc_check_beat : FnScope ["value", "length"] ["value", "length"] (defScope s_check_beat) := ⟨rfl, rfl, rfl, by decide +kernel, rfl, by decide +kernel, by decide +kernel⟩
def spCheckBeat (OOB : Addr) : Sp := fun vs H Q E => ∃ (v : V) (n : Int), vs = [v, .int n] ∧ Flat v ∧ (btwV v 0 (n - 1) = true → Q .non H) ∧ (btwV v 0 (n - 1) = false → E (.ref OOB) none H)
theorem ok_check_beat {f : Addr} {fd : FuncData} {OOB : Addr} (h : Has K mg "check_beat" s_check_beat ["value", "length"] f fd) (x_OutOfBounds : ExcCls K OOB) (m_OutOfBounds : mg "OutOfBounds" = some (.ref OOB)) (o_is_between : Ok P w K mg base "is_between" ["value", "least", "most"] 2 spBtw) : Ok P w K mg base "check_beat" ["value", "length"] 3 (spCheckBeat OOB) := by
  refine h.ok sc_check_beat (fun vs H Q E h => ?_) (fun cdv A outer s H vs Q E hr h => ?_)
  · obtain ⟨v, n, rfl, _⟩ := h
    rfl
  · obtain ⟨v, n, rfl, hf, q1, q2⟩ := h
    refine ⟨_, (pss_one (ps_if (pt_not (pt_val (pe_callO o_is_between (hr.mono (by decide)) rfl passX (pa_cons (pv 0) (pa_cons pe_int (pa_cons (pe_op op_sub (pv 1) pe_int) pa_nil)))))) (pss_one (ps_raise isDef_cxOf x_OutOfBounds rfl landX rfl m_OutOfBounds (pa_cons pe_str pa_nil))) pss_nil)), ?_⟩
    walk_at "rd"
    refine ⟨v, 0, n - 1, rfl, hf, _, rfl, ?_⟩
    cases e : btwV v 0 (n - 1) with
    | true => exact q1 e
    | false => exact ⟨by decide, q2 e⟩

abbrev s_swapped : Stmt := top 37
theorem sc_swapped : FnScope ["pattern", "i", "j"] ["pattern", "i", "j"] (defScope s_swapped) := ⟨rfl, rfl, rfl, by decide +kernel, rfl, by decide +kernel, by decide +kernel⟩
def spSwapped (K : PySem.W.Frag) (NAR CL OOB : Addr) : Sp := fun vs H _ E => ∃ v i j : V, vs = [v, i, j] ∧ (Refus K NAR CL v H E ∨ ∃ (a : Addr) (ns : List Int), v = .ref a ∧ H a = some (.lst (ns.map V.int)) ∧ Pat ns ∧ Flat i ∧ Flat j ∧
  (btwV i 0 ((ns.length : Int) - 1) = false ∨ btwV j 0 ((ns.length : Int) - 1) = false ∨ ∃ y z, i = .int y ∧ j = .int z ∧ z ≤ y) ∧ ∀ H', Same H H' → E (.ref OOB) none H')
theorem ok_swapped {f NAR CL OOB : Addr} {fd : FuncData} (h : Has K mg "swapped" s_swapped ["pattern", "i", "j"] f fd) (B : Blt mg) (x_OutOfBounds : ExcCls K OOB) (m_OutOfBounds : mg "OutOfBounds" = some (.ref OOB)) (o_check_pattern : Ok P w K mg base "check_pattern" ["pattern"] 6 (spChk K NAR CL)) (o_check_beat : Ok P w K mg base "check_beat" ["value", "length"] 3 (spCheckBeat OOB)) : Ok P w K mg base "swapped" ["pattern", "i", "j"] 7 (spSwapped K NAR CL OOB) := by
  refine h.ok sc_swapped (fun vs H Q E h => ?_) (fun cdv A outer s H vs Q E hr h => ?_)
  · obtain ⟨v, i, j, rfl, _⟩ := h
    rfl
  · obtain ⟨v, i, j, rfl, h⟩ := h
    refine ⟨_, (pss_cons (ps_expr (pe_callO o_check_pattern (hr.mono (by decide)) rfl passX (pa_cons (pv 0) pa_nil)))
      (pss_cons (ps_expr (pe_callO o_check_beat (hr.mono (by decide)) rfl passX (pa_cons (pv 1) (pa_cons (pe_callB (call_len_seqK (K := K) rfl) rfl B.len_ bt_len (pa_cons (pv 0) pa_nil)) pa_nil))))
      (pss_cons (ps_expr (pe_callO o_check_beat (hr.mono (by decide)) rfl passX (pa_cons (pv 2) (pa_cons (pe_callB (call_len_seqK (K := K) rfl) rfl B.len_ bt_len (pa_cons (pv 0) pa_nil)) pa_nil))))
      (pss_cons (ps_if (pt_cmpR op_ge (pv 1) (pv 2) (nomark _)) (pss_one (ps_raise isDef_cxOf x_OutOfBounds rfl landX rfl m_OutOfBounds (pa_cons pe_str pa_nil))) pss_nil)
      pss_never)))), ?_⟩
    rcases h with bad | ⟨a, ns, rfl, ha, p, fi, fj, hk, q⟩
    · walk_at "rd"
      exact ⟨v, rfl, .inl bad⟩
    · walk_at "rd"
      refine ⟨_, rfl, .inr ⟨a, ns, rfl, ha, p, fun H1 s1 => ⟨_, .inl (.of (s1 _ _ ha)), ?_⟩⟩⟩
      walk_at "rd"
      refine ⟨i, ns.length, rfl, fi, fun z1 => ⟨_, .inl (.of (s1 _ _ ha)), ?_⟩, fun _ => q _ s1⟩
      walk_at "rd"
      refine ⟨j, ns.length, rfl, fj, fun z2 => ?_, fun _ => q _ s1⟩
      rcases hk with hk | hk | ⟨y, z, rfl, rfl, hyz⟩
      · rw [hk] at z1; cases z1
      · rw [hk] at z2; cases z2
      · walk_at "rd"
        rw [if_pos (decide_eq_true hyz)]
        exact ⟨by decide, q _ s1⟩

abbrev s_neighbours : Stmt := top 38
theorem sc_neighbours : FnScope ["pattern", "k"] ["pattern", "k"] (defScope s_neighbours) := ⟨rfl, rfl, rfl, by decide +kernel, rfl, by decide +kernel, by decide +kernel⟩
def spNeighbours (K : PySem.W.Frag) (NAR CL OOB : Addr) : Sp := fun vs H _ E => ∃ v k : V, vs = [v, k] ∧ (Refus K NAR CL v H E ∨ ∃ (a : Addr) (ns : List Int), v = .ref a ∧ H a = some (.lst (ns.map V.int)) ∧ Pat ns ∧ Flat k ∧ (btwV k 0 ((ns.length : Int) - 1) = false ∨ ns.length < 2) ∧ ∀ H', Same H H' → E (.ref OOB) none H')
theorem ok_neighbours {f NAR CL OOB : Addr} {fd : FuncData} (h : Has K mg "neighbours" s_neighbours ["pattern", "k"] f fd) (B : Blt mg) (x_OutOfBounds : ExcCls K OOB) (m_OutOfBounds : mg "OutOfBounds" = some (.ref OOB)) (o_check_pattern : Ok P w K mg base "check_pattern" ["pattern"] 6 (spChk K NAR CL)) (o_check_beat : Ok P w K mg base "check_beat" ["value", "length"] 3 (spCheckBeat OOB)) : Ok P w K mg base "neighbours" ["pattern", "k"] 7 (spNeighbours K NAR CL OOB) := by
  refine h.ok sc_neighbours (fun vs H Q E h => ?_) (fun cdv A outer s H vs Q E hr h => ?_)
  · obtain ⟨v, k, rfl, _⟩ := h
    rfl
  · obtain ⟨v, k, rfl, h⟩ := h
    refine ⟨_, (pss_cons (ps_expr (pe_callO o_check_pattern (hr.mono (by decide)) rfl passX (pa_cons (pv 0) pa_nil)))
      (pss_cons (ps_expr (pe_callO o_check_beat (hr.mono (by decide)) rfl passX (pa_cons (pv 1) (pa_cons (pe_callB (call_len_seqK (K := K) rfl) rfl B.len_ bt_len (pa_cons (pv 0) pa_nil)) pa_nil))))
      (pss_cons (ps_if (pt_cmpR op_lt (pe_callB (call_len_seqK (K := K) rfl) rfl B.len_ bt_len (pa_cons (pv 0) pa_nil)) pe_int (nomark _)) (pss_one (ps_raise isDef_cxOf x_OutOfBounds rfl landX rfl m_OutOfBounds (pa_cons pe_str pa_nil))) pss_nil)
      pss_never))), ?_⟩
    rcases h with bad | ⟨a, ns, rfl, ha, p, fk, hk, q⟩
    · walk_at "rd"
      exact ⟨v, rfl, .inl bad⟩
    · walk_at "rd"
      refine ⟨_, rfl, .inr ⟨a, ns, rfl, ha, p, fun H1 s1 => ⟨_, .inl (.of (s1 _ _ ha)), ?_⟩⟩⟩
      walk_at "rd"
      refine ⟨k, ns.length, rfl, fk, fun z1 => ⟨_, .inl (.of (s1 _ _ ha)), ?_⟩, fun _ => q _ s1⟩
      walk_at "rd"
      rcases hk with hk | hk
      · rw [hk] at z1; cases z1
      · rw [if_pos (decide_eq_true (by omega))]
        exact ⟨by decide, q _ s1⟩

abbrev s_even : Stmt := top 22
theorem sc_even : FnScope ["length", "balls"] ["length", "balls"] (defScope s_even) := ⟨rfl, rfl, rfl, by decide +kernel, rfl, by decide +kernel, by decide +kernel⟩
def spEven (OOB : Addr) : Sp := fun vs H _ E => ∃ x y : V, vs = [x, y] ∧ Flat x ∧ Flat y ∧ (btwV x 1 60 = false ∨ okT y = false) ∧ E (.ref OOB) none H
theorem ok_even {f OOB : Addr} {fd : FuncData} (h : Has K mg "even" s_even ["length", "balls"] f fd) (g_LONGEST_ROW : GInt mg "LONGEST_ROW" 60) (x_OutOfBounds : ExcCls K OOB) (m_OutOfBounds : mg "OutOfBounds" = some (.ref OOB)) (o_is_between : Ok P w K mg base "is_between" ["value", "least", "most"] 2 spBtw) (o_check_throw : Ok P w K mg base "check_throw" ["value"] 4 (spCheckThrow OOB)) : Ok P w K mg base "even" ["length", "balls"] 5 (spEven OOB) := by
  refine h.ok sc_even (fun vs H Q E h => ?_) (fun cdv A outer s H vs Q E hr h => ?_)
  · obtain ⟨x, y, rfl, _⟩ := h
    rfl
  · obtain ⟨x, y, rfl, fx, fy, hk, q⟩ := h
    refine ⟨_, (pss_cons (ps_if (pt_not (pt_val (pe_callO o_is_between (hr.mono (by decide)) rfl passX (pa_cons (pv 0) (pa_cons pe_int (pa_cons (pe_gi g_LONGEST_ROW) pa_nil)))))) (pss_one (ps_raise isDef_cxOf x_OutOfBounds rfl landX rfl m_OutOfBounds (pa_cons pe_str pa_nil))) pss_nil)
      (pss_cons (ps_expr (pe_callO o_check_throw (hr.mono (by decide)) rfl passX (pa_cons (pv 1) pa_nil)))
      pss_never)), ?_⟩
    walk_at "rd"
    refine ⟨x, 1, 60, rfl, fx, _, rfl, ?_⟩
    cases e : btwV x 1 60 with
    | false => exact ⟨by decide, q⟩
    | true =>
      walk_at "rd"
      refine ⟨y, rfl, fy, fun z => ?_, fun _ => q⟩
      rcases hk with hk | hk
      · rw [hk] at e; cases e
      · rw [hk] at z; cases z

abbrev s_patterns : Stmt := top 57
theorem sc_patterns : FnScope ["length", "balls", "answer", "beat", "longer", "throws"] ["length", "balls"] (defScope s_patterns) := ⟨rfl, rfl, rfl, by decide +kernel, rfl, by decide +kernel, by decide +kernel⟩
def spPatterns (OOB : Addr) : Sp := fun vs H _ E => ∃ x y : V, vs = [x, y] ∧ Flat x ∧ Flat y ∧ (btwV x 1 6 = false ∨ btwV y 0 6 = false) ∧ E (.ref OOB) none H
theorem ok_patterns {f OOB : Addr} {fd : FuncData} (h : Has K mg "patterns" s_patterns ["length", "balls"] f fd) (g_LONGEST_LISTED : GInt mg "LONGEST_LISTED" 6) (g_MOST_BALLS_LISTED : GInt mg "MOST_BALLS_LISTED" 6) (x_OutOfBounds : ExcCls K OOB) (m_OutOfBounds : mg "OutOfBounds" = some (.ref OOB)) (o_is_between : Ok P w K mg base "is_between" ["value", "least", "most"] 2 spBtw) : Ok P w K mg base "patterns" ["length", "balls"] 3 (spPatterns OOB) := by
  refine h.ok sc_patterns (fun vs H Q E h => ?_) (fun cdv A outer s H vs Q E hr h => ?_)
  · obtain ⟨x, y, rfl, _⟩ := h
    rfl
  · obtain ⟨x, y, rfl, fx, fy, hk, q⟩ := h
    refine ⟨_, (pss_cons (ps_if (pt_not (pt_val (pe_callO o_is_between (hr.mono (by decide)) rfl passX (pa_cons (pv 0) (pa_cons pe_int (pa_cons (pe_gi g_LONGEST_LISTED) pa_nil)))))) (pss_one (ps_raise isDef_cxOf x_OutOfBounds rfl landX rfl m_OutOfBounds (pa_cons pe_str pa_nil))) pss_nil)
      (pss_cons (ps_if (pt_not (pt_val (pe_callO o_is_between (hr.mono (by decide)) rfl passX (pa_cons (pv 1) (pa_cons pe_int (pa_cons (pe_gi g_MOST_BALLS_LISTED) pa_nil)))))) (pss_one (ps_raise isDef_cxOf x_OutOfBounds rfl landX rfl m_OutOfBounds (pa_cons pe_str pa_nil))) pss_nil)
      pss_never)), ?_⟩
    walk_at "rd"
    refine ⟨x, 1, 6, rfl, fx, _, rfl, ?_⟩
    cases e : btwV x 1 6 with
    | false => exact ⟨by decide, q⟩
    | true =>
      walk_at "rd"
      refine ⟨y, 0, 6, rfl, fy, _, rfl, ?_⟩
      rcases hk with hk | hk
      · rw [hk] at e; cases e
      · rw [hk]
        exact ⟨by decide, q⟩

abbrev s_check_greatest : Stmt := top 70
theorem sc_check_greatest : FnScope ["most"] ["most"] (defScope s_check_greatest) := ⟨rfl, rfl, rfl, by decide +kernel, rfl, by decide +kernel, by decide +kernel⟩
def spGreatest (OOB : Addr) : Sp := fun vs H Q E => ∃ v : V, vs = [v] ∧ Flat v ∧ (btwV v 1 10 = true → Q .non H) ∧ (btwV v 1 10 = false → E (.ref OOB) none H)
theorem ok_greatest {f : Addr} {fd : FuncData} {OOB : Addr} (h : Has K mg "check_greatest" s_check_greatest ["most"] f fd) (x_OutOfBounds : ExcCls K OOB) (m_OutOfBounds : mg "OutOfBounds" = some (.ref OOB)) (o_is_between : Ok P w K mg base "is_between" ["value", "least", "most"] 2 spBtw) : Ok P w K mg base "check_greatest" ["most"] 3 (spGreatest OOB) := by
  refine h.ok sc_check_greatest (fun vs H Q E h => ?_) (fun cdv A outer s H vs Q E hr h => ?_)
  · obtain ⟨v, rfl, _⟩ := h
    rfl
  · obtain ⟨v, rfl, hf, q1, q2⟩ := h
    refine ⟨_, (pss_one (ps_if (pt_not (pt_val (pe_callO o_is_between (hr.mono (by decide)) rfl passX (pa_cons (pv 0) (pa_cons pe_int (pa_cons pe_int pa_nil)))))) (pss_one (ps_raise isDef_cxOf x_OutOfBounds rfl landX rfl m_OutOfBounds (pa_cons pe_str pa_nil))) pss_nil)), ?_⟩
    walk_at "rd"
    refine ⟨v, 1, 10, rfl, hf, _, rfl, ?_⟩
    cases e : btwV v 1 10 with
    | true => exact q1 e
    | false => exact ⟨by decide, q2 e⟩

abbrev s_check_state : Stmt := top 71
theorem sc_check_state : FnScope ["state", "most"] ["state", "most"] (defScope s_check_state) := ⟨rfl, rfl, rfl, by decide +kernel, rfl, by decide +kernel, by decide +kernel⟩
def spState (OOB : Addr) : Sp := fun vs H _ E => ∃ v : V, vs = [v, .int 3] ∧ Flat v ∧ btwV v 0 7 = false ∧ E (.ref OOB) none H
theorem ok_state {f : Addr} {fd : FuncData} {OOB : Addr} (h : Has K mg "check_state" s_check_state ["state", "most"] f fd) (x_OutOfBounds : ExcCls K OOB) (m_OutOfBounds : mg "OutOfBounds" = some (.ref OOB)) (o_is_between : Ok P w K mg base "is_between" ["value", "least", "most"] 2 spBtw) : Ok P w K mg base "check_state" ["state", "most"] 3 (spState OOB) := by
  refine h.ok sc_check_state (fun vs H Q E h => ?_) (fun cdv A outer s H vs Q E hr h => ?_)
  · obtain ⟨v, rfl, _⟩ := h
    rfl
  · obtain ⟨v, rfl, hf, hk, q⟩ := h
    refine ⟨_, (pss_one (ps_if (pt_not (pt_val (pe_callO o_is_between (hr.mono (by decide)) rfl passX (pa_cons (pv 0) (pa_cons pe_int (pa_cons (pe_op op_sub (pe_op op_shl pe_int (pv 1)) pe_int) pa_nil)))))) (pss_one (ps_raise isDef_cxOf x_OutOfBounds rfl landX rfl m_OutOfBounds (pa_cons pe_str pa_nil))) pss_nil)), ?_⟩
    walk_at "rd"
    refine ⟨⟨by decide, by decide, by decide⟩, v, 0, 7, rfl, hf, _, rfl, ?_⟩
    rw [hk]
    exact ⟨by decide, q⟩

abbrev s_distances : Stmt := top 73
theorem sc_distances : FnScope ["state", "most", "far", "farthest", "farther", "one", "ahead"] ["state", "most"] (defScope s_distances) := ⟨rfl, rfl, rfl, by decide +kernel, rfl, by decide +kernel, by decide +kernel⟩
def spDistances (OOB : Addr) : Sp := fun vs H _ E => ∃ x y : V, vs = [x, y] ∧ Flat x ∧ Flat y ∧ (btwV y 1 10 = false ∨ (y = .int 3 ∧ btwV x 0 7 = false)) ∧ E (.ref OOB) none H
theorem ok_distances {f OOB : Addr} {fd : FuncData} (h : Has K mg "distances" s_distances ["state", "most"] f fd) (o_check_greatest : Ok P w K mg base "check_greatest" ["most"] 3 (spGreatest OOB)) (o_check_state : Ok P w K mg base "check_state" ["state", "most"] 3 (spState OOB)) : Ok P w K mg base "distances" ["state", "most"] 4 (spDistances OOB) := by
  refine h.ok sc_distances (fun vs H Q E h => ?_) (fun cdv A outer s H vs Q E hr h => ?_)
  · obtain ⟨x, y, rfl, _⟩ := h
    rfl
  · obtain ⟨x, y, rfl, fx, fy, hk, q⟩ := h
    refine ⟨_, (pss_cons (ps_expr (pe_callO o_check_greatest (hr.mono (by decide)) rfl passX (pa_cons (pv 1) pa_nil)))
      (pss_cons (ps_expr (pe_callO o_check_state (hr.mono (by decide)) rfl passX (pa_cons (pv 0) (pa_cons (pv 1) pa_nil))))
      pss_never)), ?_⟩
    walk_at "rd"
    refine ⟨y, rfl, fy, fun z => ?_, fun _ => q⟩
    rcases hk with hk | ⟨rfl, hk⟩
    · rw [hk] at z; cases z
    · exact ⟨x, rfl, fx, hk, q⟩
end
end Tb

namespace Tb
open PySem L2 TB
local macro_rules | `(tactic| walk_at "rd") => `(tactic| try simp only [rExtendT, rCount, iRevT, tSeq, tNext, tIfS, tRet, tRetN, tDrop, tAsg, gName, gNil, gCons, gSub, gTup, tVar, tC, tOp, tUn, rI, rI0, rU, rEq, rNe, tTest, tB, tChain, tChain3, rSortedB, rSortedP, rSortedD, rListD, rDictP, iDict, tThaw, rDClear, tDisp, tPairs, kit_dict_dict, rIndex, rIsX, rIsXT, rIsXd, rIsXV, rIsXTd, rIsO, rIxS2, rSlS, rFind, rIndexT, rLenT, rStrT, rIntT, rAddT, rMulT, rInT, iTxt, tx_str, tTxts, kit_str_str, rIn, tListRev, tAug, ipI, tAnd, tOr, tNot, tAndV, tOrV, tNotV, tIf, tIsN, tNotN, tCB, tNil, tCons, tTup, tLst, tTupG, tLstG, tCall, tRaise, tTryC, tXF, sXF, tRaiseI, tTryA, tTryE, thC, thA, thNil, Ends.less, tFor_eq, tComp_eq, iList, iTup, iRng1, iRng2, iEnum, iZip, tNoIf, rIxL, rIxT, rSetL, tBM, tBM0, rAppend, tFld, sFld, tMake, tMakeN, tMethD, tTryM, tNever, rExtend, rGeL, rInS, rClear, tDNewK, tDIn, tDNotIn, tDGet, sDPut, rEqL, rEqS, rBest, rRep, rCat, tSl, tPart, tNoPart, rSlL, capt, CDiv, scal_ii, scal_bb, scal_ss, scal_nn, scal_in, scal_ni, List.map_cons, List.map_nil, List.append_nil, List.nil_append, List.cons_append, List.length_cons, List.length_nil, List.length_map, Int.zero_add, List.getElem?_cons_zero, List.getElem?_cons_succ, List.set_cons_zero, List.set_cons_succ, Option.some.injEq, Option.join_some, Option.bind_some, Option.bind_none, V.int.injEq, V.bl.injEq, V.ref.injEq, V.str.injEq, V.ty.injEq, List.cons.injEq, and_true, true_and, exists_and_left, exists_eq_left', exists_eq_left, exists_eq_right, exists_eq_right', exists_eq, exists_eq', exists_const, eq_self, decide_true, decide_false, Option.isSome_none, Option.isSome_some, Bool.false_eq_true, Bool.not_true, Bool.not_false, reduceIte, reduceCtorEq, false_and, and_false, or_false, false_or, start_def, cxOf_K, cxComp_K, and_assoc, tyOf_int, kit_int_int, kit_int_bool, kit_list_list, rep0, rep1, rep2, rep3, rep4, rep5, rep6, rep7, rep8, rep9, rep10, rep11, rep12, rLen, rIsi, rListOf, rTupOf, rSum, rAll, rAny, rSorted, kit_tuple_tuple, Nat.sub_self, Nat.reduceAdd, Nat.reduceSub, Nat.reduceEqDiff])

section
variable {P : Program} {w : World} {K : PySem.W.Frag} {mg : Str → Option Value} {base : Heap}
/-- an __init__ that keeps one value -/
def spSet1 (C : Addr) (f : Str) : Sp := fun vs H Q _ => ∃ (x dx : Addr) (v : V), vs = [.ref x, v] ∧ H x = some (.ins C dx []) ∧ Q .non (upd H x (.ins C dx [(f, v)]))
/-- a done that looks at the pattern first -/
def spDone0 (K : PySem.W.Frag) (NAR CL : Addr) : Sp := fun vs H _ E => ∃ (o : Addr) (v : V), vs = [.ref o, v] ∧ Refus K NAR CL v H E

abbrev s_Turn___init__ : Stmt := inClass (top 46) 0
theorem sc_Turn___init__ : FnScope ["self", "k"] ["self", "k"] (defScope s_Turn___init__) := ⟨rfl, rfl, rfl, by decide +kernel, rfl, by decide +kernel, by decide +kernel⟩
theorem ok_Turn_init {f C : Addr} {fd : FuncData} (h : Fun K "__init__" "Turn.__init__" s_Turn___init__ f fd) (cl : Cls K C) (na : NoAttr K C "k") : FnOk P w K mg base (CXf P w) 1 f fd ["self", "k"] (spSet1 C "k") := by
  refine h.okX sc_Turn___init__ (fun vs H Q E h => ?_) (fun cdv A outer s H vs Q E hr h => ?_)
  · obtain ⟨x, dx, v, rfl, _⟩ := h
    rfl
  · obtain ⟨x, dx, v, rfl, hx, q⟩ := h
    refine ⟨_, (pss_one (ps_fldK (K := K) rfl (pv 0) (pv 1))), ?_⟩
    walk_at "rd"
    exact ⟨C, dx, [], hx, cl, na, by decide, q⟩

abbrev s_Lift___init__ : Stmt := inClass (top 47) 0
theorem sc_Lift___init__ : FnScope ["self", "k"] ["self", "k"] (defScope s_Lift___init__) := ⟨rfl, rfl, rfl, by decide +kernel, rfl, by decide +kernel, by decide +kernel⟩
theorem ok_Lift_init {f C : Addr} {fd : FuncData} (h : Fun K "__init__" "Lift.__init__" s_Lift___init__ f fd) (cl : Cls K C) (na : NoAttr K C "k") : FnOk P w K mg base (CXf P w) 1 f fd ["self", "k"] (spSet1 C "k") := by
  refine h.okX sc_Lift___init__ (fun vs H Q E h => ?_) (fun cdv A outer s H vs Q E hr h => ?_)
  · obtain ⟨x, dx, v, rfl, _⟩ := h
    rfl
  · obtain ⟨x, dx, v, rfl, hx, q⟩ := h
    refine ⟨_, (pss_one (ps_fldK (K := K) rfl (pv 0) (pv 1))), ?_⟩
    walk_at "rd"
    exact ⟨C, dx, [], hx, cl, na, by decide, q⟩

abbrev s_Neighbours___init__ : Stmt := inClass (top 49) 0
theorem sc_Neighbours___init__ : FnScope ["self", "k"] ["self", "k"] (defScope s_Neighbours___init__) := ⟨rfl, rfl, rfl, by decide +kernel, rfl, by decide +kernel, by decide +kernel⟩
theorem ok_Neighbours_init {f C : Addr} {fd : FuncData} (h : Fun K "__init__" "Neighbours.__init__" s_Neighbours___init__ f fd) (cl : Cls K C) (na : NoAttr K C "k") : FnOk P w K mg base (CXf P w) 1 f fd ["self", "k"] (spSet1 C "k") := by
  refine h.okX sc_Neighbours___init__ (fun vs H Q E h => ?_) (fun cdv A outer s H vs Q E hr h => ?_)
  · obtain ⟨x, dx, v, rfl, _⟩ := h
    rfl
  · obtain ⟨x, dx, v, rfl, hx, q⟩ := h
    refine ⟨_, (pss_one (ps_fldK (K := K) rfl (pv 0) (pv 1))), ?_⟩
    walk_at "rd"
    exact ⟨C, dx, [], hx, cl, na, by decide, q⟩

abbrev s_Gaps___init__ : Stmt := inClass (top 51) 0
theorem sc_Gaps___init__ : FnScope ["self", "h"] ["self", "h"] (defScope s_Gaps___init__) := ⟨rfl, rfl, rfl, by decide +kernel, rfl, by decide +kernel, by decide +kernel⟩
theorem ok_Gaps_init {f C : Addr} {fd : FuncData} (h : Fun K "__init__" "Gaps.__init__" s_Gaps___init__ f fd) (cl : Cls K C) (na : NoAttr K C "h") : FnOk P w K mg base (CXf P w) 1 f fd ["self", "h"] (spSet1 C "h") := by
  refine h.okX sc_Gaps___init__ (fun vs H Q E h => ?_) (fun cdv A outer s H vs Q E hr h => ?_)
  · obtain ⟨x, dx, v, rfl, _⟩ := h
    rfl
  · obtain ⟨x, dx, v, rfl, hx, q⟩ := h
    refine ⟨_, (pss_one (ps_fldK (K := K) rfl (pv 0) (pv 1))), ?_⟩
    walk_at "rd"
    exact ⟨C, dx, [], hx, cl, na, by decide, q⟩

abbrev s_Swap___init__ : Stmt := inClass (top 48) 0
theorem sc_Swap___init__ : FnScope ["self", "i", "j"] ["self", "i", "j"] (defScope s_Swap___init__) := ⟨rfl, rfl, rfl, by decide +kernel, rfl, by decide +kernel, by decide +kernel⟩
def spSet2 (C : Addr) : Sp := fun vs H Q _ => ∃ (x dx : Addr) (i j : V), vs = [.ref x, i, j] ∧ H x = some (.ins C dx []) ∧ Q .non (upd (upd H x (.ins C dx [("i", i)])) x (.ins C dx [("i", i), ("j", j)]))
theorem ok_Swap_init {f C : Addr} {fd : FuncData} (h : Fun K "__init__" "Swap.__init__" s_Swap___init__ f fd) (cl : Cls K C) (ni : NoAttr K C "i") (nj : NoAttr K C "j") : FnOk P w K mg base (CXf P w) 1 f fd ["self", "i", "j"] (spSet2 C) := by
  refine h.okX sc_Swap___init__ (fun vs H Q E h => ?_) (fun cdv A outer s H vs Q E hr h => ?_)
  · obtain ⟨x, dx, i, j, rfl, _⟩ := h
    rfl
  · obtain ⟨x, dx, i, j, rfl, hx, q⟩ := h
    refine ⟨_, (pss_cons (ps_fldK (K := K) rfl (pv 0) (pv 1))
      (pss_one (ps_fldK (K := K) rfl (pv 0) (pv 2)))), ?_⟩
    walk_at "rd"
    exact ⟨C, dx, [], hx, cl, ni, by decide, C, dx, _, upd_same, cl, nj, (by show 1 < 1000; decide), q⟩

abbrev s_Changes___init__ : Stmt := inClass (top 52) 0
theorem sc_Changes___init__ : FnScope ["self", "rows", "steps", "change"] ["self", "rows"] (defScope s_Changes___init__) := ⟨rfl, rfl, rfl, by decide +kernel, rfl, by decide +kernel, by decide +kernel⟩
def spSetR (C : Addr) : Sp := fun vs H Q _ => ∃ (x dx l : Addr), vs = [.ref x, .ref l] ∧ H x = some (.ins C dx []) ∧ H l = some (.lst []) ∧ ∀ H' tp, (∀ b o, b ≠ x → H b = some o → H' b = some o) → H' x = some (.ins C dx [("steps", .ref tp)]) → Q .non H'
theorem ok_Changes_init {f C : Addr} {fd : FuncData} (h : Fun K "__init__" "Changes.__init__" s_Changes___init__ f fd) (B : Blt mg) (cl : Cls K C) (na : NoAttr K C "steps") : FnOk P w K mg base (CXf P w) 1 f fd ["self", "rows"] (spSetR C) := by
  refine h.okX sc_Changes___init__ (fun vs H Q E h => ?_) (fun cdv A outer s H vs Q E hr h => ?_)
  · obtain ⟨x, dx, l, rfl, _⟩ := h
    rfl
  · obtain ⟨x, dx, l, rfl, hx, hl, q⟩ := h
    refine ⟨_, (pss_cons (ps_set (i := 2) sc_Changes___init__.nd rfl (by first | exact Or.inl rfl | exact Or.inr rfl) (pe_lst pa_nil))
      (pss_cons (ps_for ownX rfl (pi_listK (K := K) rfl (pv 1)) (pg_name (i := 3) sc_Changes___init__.nd rfl (by first | exact Or.inl rfl | exact Or.inr rfl)) pss_never)
      (pss_one (ps_fldK (K := K) rfl (pv 0) (pe_callTy (call_tupK (K := K) rfl) rfl B.tuple_ bt_tuple (pa_cons (pv 2) pa_nil)))))), ?_⟩
    walk_at "rd"
    refine ⟨Nat.zero_le _, fun p hp => ⟨⟨_, .of ((same_upd hp) _ _ hl)⟩, ?_⟩⟩
    refine for_list (xs := []) (fun i σ H2 => σ = [some (V.ref x), some (V.ref l), some (V.ref p), none] ∧ H2 = upd H p (.lst [])) ⟨rfl, rfl⟩ (fun i σ H2 _ pv => by rw [pv.2]; exact .of ((same_upd hp) _ _ hl)) (fun i y σ H2 hx _ => by simp at hx) (fun σ H2 pv => ?_)
    obtain ⟨rfl, rfl⟩ := pv
    walk_at "rd"
    refine ⟨_, .inl ⟨.of upd_same, fun tp htp => ?_⟩⟩
    have s1 : Same H (upd (upd H p (.lst [])) tp (.tup [])) := (same_upd hp).trans (same_upd htp)
    refine ⟨C, dx, [], s1 _ _ hx, cl, na, by decide, q _ tp (fun b o hb e => ?_) upd_same⟩
    rw [upd_ne hb]
    exact s1 _ _ e

abbrev s_Turn_done : Stmt := inClass (top 46) 1
theorem sc_Turn_done : FnScope ["self", "pattern"] ["self", "pattern"] (defScope s_Turn_done) := ⟨rfl, rfl, rfl, by decide +kernel, rfl, by decide +kernel, by decide +kernel⟩
def spDoneTurn (K : PySem.W.Frag) (NAR CL OOB C : Addr) : Sp := fun vs H Q E => ∃ (o dx : Addr) (v k : V), vs = [.ref o, v] ∧ H o = some (.ins C dx [("k", k)]) ∧ spTurned K NAR CL OOB [v, k] H Q E
theorem ok_Turn_done {f C NAR CL OOB : Addr} {fd : FuncData} (h : Fun K "done" "Turn.done" s_Turn_done f fd) (cl : Cls K C) (na : NoAttr K C "k") (o_turned : Ok P w K mg base "turned" ["pattern", "k"] 7 (spTurned K NAR CL OOB)) : FnOk P w K mg base (CXf P w) 8 f fd ["self", "pattern"] (spDoneTurn K NAR CL OOB C) := by
  refine h.okX sc_Turn_done (fun vs H Q E h => ?_) (fun cdv A outer s H vs Q E hr h => ?_)
  · obtain ⟨o, dx, v, k, rfl, _⟩ := h
    rfl
  · obtain ⟨o, dx, v, k, rfl, ho, q⟩ := h
    refine ⟨_, (pss_one (ps_ret (pe_callO o_turned (hr.mono (by decide)) rfl passX (pa_cons (pv 1) (pa_cons (pe_fldK (K := K) rfl (pv 0)) pa_nil))))), ?_⟩
    walk_at "rd"
    exact ⟨C, dx, _, ho, cl, na, k, by rfl, q⟩

abbrev s_Lift_done : Stmt := inClass (top 47) 1
theorem sc_Lift_done : FnScope ["self", "pattern"] ["self", "pattern"] (defScope s_Lift_done) := ⟨rfl, rfl, rfl, by decide +kernel, rfl, by decide +kernel, by decide +kernel⟩
def spDoneLift (K : PySem.W.Frag) (NAR CL OOB C : Addr) : Sp := fun vs H Q E => ∃ (o dx : Addr) (v k : V), vs = [.ref o, v] ∧ H o = some (.ins C dx [("k", k)]) ∧ spLifted K NAR CL OOB [v, k] H Q E
theorem ok_Lift_done {f C NAR CL OOB : Addr} {fd : FuncData} (h : Fun K "done" "Lift.done" s_Lift_done f fd) (cl : Cls K C) (na : NoAttr K C "k") (o_lifted : Ok P w K mg base "lifted" ["pattern", "k"] 7 (spLifted K NAR CL OOB)) : FnOk P w K mg base (CXf P w) 8 f fd ["self", "pattern"] (spDoneLift K NAR CL OOB C) := by
  refine h.okX sc_Lift_done (fun vs H Q E h => ?_) (fun cdv A outer s H vs Q E hr h => ?_)
  · obtain ⟨o, dx, v, k, rfl, _⟩ := h
    rfl
  · obtain ⟨o, dx, v, k, rfl, ho, q⟩ := h
    refine ⟨_, (pss_one (ps_ret (pe_callO o_lifted (hr.mono (by decide)) rfl passX (pa_cons (pv 1) (pa_cons (pe_fldK (K := K) rfl (pv 0)) pa_nil))))), ?_⟩
    walk_at "rd"
    exact ⟨C, dx, _, ho, cl, na, k, by rfl, q⟩

abbrev s_Neighbours_done : Stmt := inClass (top 49) 1
theorem sc_Neighbours_done : FnScope ["self", "pattern"] ["self", "pattern"] (defScope s_Neighbours_done) := ⟨rfl, rfl, rfl, by decide +kernel, rfl, by decide +kernel, by decide +kernel⟩
def spDoneNeighbours (K : PySem.W.Frag) (NAR CL OOB C : Addr) : Sp := fun vs H Q E => ∃ (o dx : Addr) (v k : V), vs = [.ref o, v] ∧ H o = some (.ins C dx [("k", k)]) ∧ spNeighbours K NAR CL OOB [v, k] H Q E
theorem ok_Neighbours_done {f C NAR CL OOB : Addr} {fd : FuncData} (h : Fun K "done" "Neighbours.done" s_Neighbours_done f fd) (cl : Cls K C) (na : NoAttr K C "k") (o_neighbours : Ok P w K mg base "neighbours" ["pattern", "k"] 7 (spNeighbours K NAR CL OOB)) : FnOk P w K mg base (CXf P w) 8 f fd ["self", "pattern"] (spDoneNeighbours K NAR CL OOB C) := by
  refine h.okX sc_Neighbours_done (fun vs H Q E h => ?_) (fun cdv A outer s H vs Q E hr h => ?_)
  · obtain ⟨o, dx, v, k, rfl, _⟩ := h
    rfl
  · obtain ⟨o, dx, v, k, rfl, ho, q⟩ := h
    refine ⟨_, (pss_one (ps_ret (pe_callO o_neighbours (hr.mono (by decide)) rfl passX (pa_cons (pv 1) (pa_cons (pe_fldK (K := K) rfl (pv 0)) pa_nil))))), ?_⟩
    walk_at "rd"
    exact ⟨C, dx, _, ho, cl, na, k, by rfl, q⟩

abbrev s_Gaps_done : Stmt := inClass (top 51) 1
theorem sc_Gaps_done : FnScope ["self", "pattern"] ["self", "pattern"] (defScope s_Gaps_done) := ⟨rfl, rfl, rfl, by decide +kernel, rfl, by decide +kernel, by decide +kernel⟩
def spDoneGaps (K : PySem.W.Frag) (NAR CL OOB C : Addr) : Sp := fun vs H Q E => ∃ (o dx : Addr) (v k : V), vs = [.ref o, v] ∧ H o = some (.ins C dx [("h", k)]) ∧ spGaps K NAR CL OOB [v, k] H Q E
theorem ok_Gaps_done {f C NAR CL OOB : Addr} {fd : FuncData} (h : Fun K "done" "Gaps.done" s_Gaps_done f fd) (cl : Cls K C) (na : NoAttr K C "h") (o_gaps : Ok P w K mg base "gaps" ["pattern", "h"] 7 (spGaps K NAR CL OOB)) : FnOk P w K mg base (CXf P w) 8 f fd ["self", "pattern"] (spDoneGaps K NAR CL OOB C) := by
  refine h.okX sc_Gaps_done (fun vs H Q E h => ?_) (fun cdv A outer s H vs Q E hr h => ?_)
  · obtain ⟨o, dx, v, k, rfl, _⟩ := h
    rfl
  · obtain ⟨o, dx, v, k, rfl, ho, q⟩ := h
    refine ⟨_, (pss_one (ps_ret (pe_callO o_gaps (hr.mono (by decide)) rfl passX (pa_cons (pv 1) (pa_cons (pe_fldK (K := K) rfl (pv 0)) pa_nil))))), ?_⟩
    walk_at "rd"
    exact ⟨C, dx, _, ho, cl, na, k, by rfl, q⟩

abbrev s_Swap_done : Stmt := inClass (top 48) 1
theorem sc_Swap_done : FnScope ["self", "pattern"] ["self", "pattern"] (defScope s_Swap_done) := ⟨rfl, rfl, rfl, by decide +kernel, rfl, by decide +kernel, by decide +kernel⟩
def spDoneSwap (K : PySem.W.Frag) (NAR CL OOB C : Addr) : Sp := fun vs H Q E => ∃ (o dx : Addr) (v i j : V), vs = [.ref o, v] ∧ H o = some (.ins C dx [("i", i), ("j", j)]) ∧ spSwapped K NAR CL OOB [v, i, j] H Q E
theorem ok_Swap_done {f C NAR CL OOB : Addr} {fd : FuncData} (h : Fun K "done" "Swap.done" s_Swap_done f fd) (cl : Cls K C) (ni : NoAttr K C "i") (nj : NoAttr K C "j") (o_swapped : Ok P w K mg base "swapped" ["pattern", "i", "j"] 7 (spSwapped K NAR CL OOB)) : FnOk P w K mg base (CXf P w) 8 f fd ["self", "pattern"] (spDoneSwap K NAR CL OOB C) := by
  refine h.okX sc_Swap_done (fun vs H Q E h => ?_) (fun cdv A outer s H vs Q E hr h => ?_)
  · obtain ⟨o, dx, v, i, j, rfl, _⟩ := h
    rfl
  · obtain ⟨o, dx, v, i, j, rfl, ho, q⟩ := h
    refine ⟨_, (pss_one (ps_ret (pe_callO o_swapped (hr.mono (by decide)) rfl passX (pa_cons (pv 1) (pa_cons (pe_fldK (K := K) rfl (pv 0)) (pa_cons (pe_fldK (K := K) rfl (pv 0)) pa_nil)))))), ?_⟩
    walk_at "rd"
    exact ⟨C, dx, _, ho, cl, ni, i, by rfl, C, dx, _, ho, cl, nj, j, by rfl, q⟩

abbrev s_Change_done : Stmt := inClass (top 45) 0
theorem sc_Change_done : FnScope ["self", "pattern"] ["self", "pattern"] (defScope s_Change_done) := ⟨rfl, rfl, rfl, by decide +kernel, rfl, by decide +kernel, by decide +kernel⟩
theorem ok_Change_done {f NAR CL : Addr} {fd : FuncData} (h : Fun K "done" "Change.done" s_Change_done f fd) (o_unchanged : Ok P w K mg base "unchanged" ["pattern"] 7 (spRef K NAR CL)) : FnOk P w K mg base (CXf P w) 8 f fd ["self", "pattern"] (spDone0 K NAR CL) := by
  refine h.okX sc_Change_done (fun vs H Q E h => ?_) (fun cdv A outer s H vs Q E hr h => ?_)
  · obtain ⟨o, v, rfl, _⟩ := h
    rfl
  · obtain ⟨o, v, rfl, bad⟩ := h
    refine ⟨_, (pss_one (ps_ret (pe_callO o_unchanged (hr.mono (by decide)) rfl passX (pa_cons (pv 1) pa_nil)))), ?_⟩
    walk_at "rd"
    exact ⟨v, rfl, bad⟩

abbrev s_Mirror_done : Stmt := inClass (top 50) 0
theorem sc_Mirror_done : FnScope ["self", "pattern"] ["self", "pattern"] (defScope s_Mirror_done) := ⟨rfl, rfl, rfl, by decide +kernel, rfl, by decide +kernel, by decide +kernel⟩
theorem ok_Mirror_done {f NAR CL : Addr} {fd : FuncData} (h : Fun K "done" "Mirror.done" s_Mirror_done f fd) (o_mirrored : Ok P w K mg base "mirrored" ["pattern"] 7 (spRef K NAR CL)) : FnOk P w K mg base (CXf P w) 8 f fd ["self", "pattern"] (spDone0 K NAR CL) := by
  refine h.okX sc_Mirror_done (fun vs H Q E h => ?_) (fun cdv A outer s H vs Q E hr h => ?_)
  · obtain ⟨o, v, rfl, _⟩ := h
    rfl
  · obtain ⟨o, v, rfl, bad⟩ := h
    refine ⟨_, (pss_one (ps_ret (pe_callO o_mirrored (hr.mono (by decide)) rfl passX (pa_cons (pv 1) pa_nil)))), ?_⟩
    walk_at "rd"
    exact ⟨v, rfl, bad⟩

abbrev s_Changes_done : Stmt := inClass (top 52) 1
theorem sc_Changes_done : FnScope ["self", "pattern", "answer", "change"] ["self", "pattern"] (defScope s_Changes_done) := ⟨rfl, rfl, rfl, by decide +kernel, rfl, by decide +kernel, by decide +kernel⟩
theorem ok_Changes_done {f NAR CL : Addr} {fd : FuncData} (h : Fun K "done" "Changes.done" s_Changes_done f fd) (o_unchanged : Ok P w K mg base "unchanged" ["pattern"] 7 (spRef K NAR CL)) : FnOk P w K mg base (CXf P w) 8 f fd ["self", "pattern"] (spDone0 K NAR CL) := by
  refine h.okX sc_Changes_done (fun vs H Q E h => ?_) (fun cdv A outer s H vs Q E hr h => ?_)
  · obtain ⟨o, v, rfl, _⟩ := h
    rfl
  · obtain ⟨o, v, rfl, bad⟩ := h
    refine ⟨_, (pss_cons (ps_set (i := 2) sc_Changes_done.nd rfl (by first | exact Or.inl rfl | exact Or.inr rfl) (pe_callO o_unchanged (hr.mono (by decide)) rfl passX (pa_cons (pv 1) pa_nil)))
      pss_never), ?_⟩
    walk_at "rd"
    exact ⟨v, rfl, bad⟩
end
end Tb

namespace Tb
open PySem L2 TB
local macro_rules | `(tactic| walk_at "rd") => `(tactic| try simp only [rExtendT, rCount, iRevT, tSeq, tNext, tIfS, tRet, tRetN, tDrop, tAsg, gName, gNil, gCons, gSub, gTup, tVar, tC, tOp, tUn, rI, rI0, rU, rEq, rNe, tTest, tB, tChain, tChain3, rSortedB, rSortedP, rSortedD, rListD, rDictP, iDict, tThaw, rDClear, tDisp, tPairs, kit_dict_dict, rIndex, rIsX, rIsXT, rIsXd, rIsXV, rIsXTd, rIsO, rIxS2, rSlS, rFind, rIndexT, rLenT, rStrT, rIntT, rAddT, rMulT, rInT, iTxt, tx_str, tTxts, kit_str_str, rIn, tListRev, tAug, ipI, tAnd, tOr, tNot, tAndV, tOrV, tNotV, tIf, tIsN, tNotN, tCB, tNil, tCons, tTup, tLst, tTupG, tLstG, tCall, tRaise, tTryC, tXF, sXF, tRaiseI, tTryA, tTryE, thC, thA, thNil, Ends.less, tFor_eq, tComp_eq, iList, iTup, iRng1, iRng2, iEnum, iZip, tNoIf, rIxL, rIxT, rSetL, tBM, tBM0, rAppend, tFld, sFld, tMake, tMakeN, tMethD, tTryM, tNever, rExtend, rGeL, rInS, rClear, tDNewK, tDIn, tDNotIn, tDGet, sDPut, rEqL, rEqS, rBest, rRep, rCat, tSl, tPart, tNoPart, rSlL, capt, CDiv, scal_ii, scal_bb, scal_ss, scal_nn, scal_in, scal_ni, List.map_cons, List.map_nil, List.append_nil, List.nil_append, List.cons_append, List.length_cons, List.length_nil, List.length_map, Int.zero_add, List.getElem?_cons_zero, List.getElem?_cons_succ, List.set_cons_zero, List.set_cons_succ, Option.some.injEq, Option.join_some, Option.bind_some, Option.bind_none, V.int.injEq, V.bl.injEq, V.ref.injEq, V.str.injEq, V.ty.injEq, List.cons.injEq, and_true, true_and, exists_and_left, exists_eq_left', exists_eq_left, exists_eq_right, exists_eq_right', exists_eq, exists_eq', exists_const, eq_self, decide_true, decide_false, Option.isSome_none, Option.isSome_some, Bool.false_eq_true, Bool.not_true, Bool.not_false, reduceIte, reduceCtorEq, false_and, and_false, or_false, false_or, start_def, cxOf_K, cxComp_K, and_assoc, tyOf_int, kit_int_int, kit_int_bool, kit_list_list, rep0, rep1, rep2, rep3, rep4, rep5, rep6, rep7, rep8, rep9, rep10, rep11, rep12, rLen, rIsi, rListOf, rTupOf, rSum, rAll, rAny, rSorted, kit_tuple_tuple, Nat.sub_self, Nat.reduceAdd, Nat.reduceSub, Nat.reduceEqDiff])

section
variable {P : Program} {w : World} {K : PySem.W.Frag} {mg : Str → Option Value} {base : Heap}
theorem pat_fin {ns : List Int} (r : Row ns) (h : ∀ i j : Fin ns.length, land ns i = land ns j → i = j) : Pat ns := ⟨r, fun i j hi hj e => congrArg Fin.val (h ⟨i, hi⟩ ⟨j, hj⟩ e)⟩
theorem pat312 : Pat [3, 1, 2] := pat_fin ⟨by decide, by decide, by decide⟩ (by decide)

abbrev s__law_ask_row : Stmt := top 76
theorem sc__law_ask_row : FnScope ["_law_door", "_law_row"] ["_law_door", "_law_row"] (defScope s__law_ask_row) := ⟨rfl, rfl, rfl, by decide +kernel, rfl, by decide +kernel, by decide +kernel⟩
def spAskRow (K : PySem.W.Frag) (NAR CL : Addr) : Sp := fun vs H _ E => ∃ (d : Int) (v : V), vs = [.int d, v] ∧ Refus K NAR CL v H E
theorem ok_ask_row {f NAR CL OL OOB : Addr} {fd : FuncData} (h : Has K mg "_law_ask_row" s__law_ask_row ["_law_door", "_law_row"] f fd) (o_balls_of : Ok P w K mg base "balls_of" ["pattern"] 7 (spBallsOf K NAR CL)) (o_after : Ok P w K mg base "after" ["one", "other"] 7 (spAfter K NAR CL OL)) (o_back : Ok P w K mg base "back" ["pattern"] 7 (spRef K NAR CL)) (o_turned : Ok P w K mg base "turned" ["pattern", "k"] 7 (spTurned K NAR CL OOB)) (o_lifted : Ok P w K mg base "lifted" ["pattern", "k"] 7 (spLifted K NAR CL OOB)) (o_mirrored : Ok P w K mg base "mirrored" ["pattern"] 7 (spRef K NAR CL)) (o_gaps : Ok P w K mg base "gaps" ["pattern", "h"] 7 (spGaps K NAR CL OOB)) (o_rounds : Ok P w K mg base "rounds" ["pattern"] 7 (spRef K NAR CL))
    (o_swapped : Ok P w K mg base "swapped" ["pattern", "i", "j"] 7 (spSwapped K NAR CL OOB)) (o_neighbours : Ok P w K mg base "neighbours" ["pattern", "k"] 7 (spNeighbours K NAR CL OOB)) (o_crossings : Ok P w K mg base "crossings" ["pattern"] 7 (spRef K NAR CL)) (o_from_even : Ok P w K mg base "from_even" ["pattern"] 8 (spRef K NAR CL)) (o_states_of : Ok P w K mg base "states_of" ["pattern"] 8 (spRef K NAR CL)) (o_parted : Ok P w K mg base "parted" ["pattern"] 9 (spRef K NAR CL)) : Ok P w K mg base "_law_ask_row" ["_law_door", "_law_row"] 10 (spAskRow K NAR CL) := by
  refine h.ok sc__law_ask_row (fun vs H Q E h => ?_) (fun cdv A outer s H vs Q E hr h => ?_)
  · obtain ⟨d, v, rfl, _⟩ := h
    rfl
  · obtain ⟨d, v, rfl, bad⟩ := h
    refine ⟨_, (pss_cons (ps_if (pt_cmpR op_eq (pv 0) pe_int (nomark _)) (pss_one (ps_ret (pe_callO o_balls_of (hr.mono (by decide)) rfl passX (pa_cons (pv 1) pa_nil)))) pss_nil)
      (pss_cons (ps_if (pt_cmpR op_eq (pv 0) pe_int (nomark _)) (pss_one (ps_ret (pe_callO o_after (hr.mono (by decide)) rfl passX (pa_cons (pv 1) (pa_cons (pe_lst (pa_cons pe_int (pa_cons pe_int pa_nil))) pa_nil))))) pss_nil)
      (pss_cons (ps_if (pt_cmpR op_eq (pv 0) pe_int (nomark _)) (pss_one (ps_ret (pe_callO o_after (hr.mono (by decide)) rfl passX (pa_cons (pe_lst (pa_cons pe_int (pa_cons pe_int (pa_cons pe_int pa_nil)))) (pa_cons (pv 1) pa_nil))))) pss_nil)
      (pss_cons (ps_if (pt_cmpR op_eq (pv 0) pe_int (nomark _)) (pss_one (ps_ret (pe_callO o_back (hr.mono (by decide)) rfl passX (pa_cons (pv 1) pa_nil)))) pss_nil)
      (pss_cons (ps_if (pt_cmpR op_eq (pv 0) pe_int (nomark _)) (pss_one (ps_ret (pe_callO o_turned (hr.mono (by decide)) rfl passX (pa_cons (pv 1) (pa_cons pe_int pa_nil))))) pss_nil)
      (pss_cons (ps_if (pt_cmpR op_eq (pv 0) pe_int (nomark _)) (pss_one (ps_ret (pe_callO o_lifted (hr.mono (by decide)) rfl passX (pa_cons (pv 1) (pa_cons (pe_op op_pow pe_int pe_int) pa_nil))))) pss_nil)
      (pss_cons (ps_if (pt_cmpR op_eq (pv 0) pe_int (nomark _)) (pss_one (ps_ret (pe_callO o_mirrored (hr.mono (by decide)) rfl passX (pa_cons (pv 1) pa_nil)))) pss_nil)
      (pss_cons (ps_if (pt_cmpR op_eq (pv 0) pe_int (nomark _)) (pss_one (ps_ret (pe_callO o_gaps (hr.mono (by decide)) rfl passX (pa_cons (pv 1) (pa_cons (pe_un un_neg (pe_op op_pow pe_int pe_int)) pa_nil))))) pss_nil)
      (pss_cons (ps_if (pt_cmpR op_eq (pv 0) pe_int (nomark _)) (pss_one (ps_ret (pe_callO o_rounds (hr.mono (by decide)) rfl passX (pa_cons (pv 1) pa_nil)))) pss_nil)
      (pss_cons (ps_if (pt_cmpR op_eq (pv 0) pe_int (nomark _)) (pss_one (ps_ret (pe_callO o_swapped (hr.mono (by decide)) rfl passX (pa_cons (pv 1) (pa_cons pe_int (pa_cons pe_int pa_nil)))))) pss_nil)
      (pss_cons (ps_if (pt_cmpR op_eq (pv 0) pe_int (nomark _)) (pss_one (ps_ret (pe_callO o_neighbours (hr.mono (by decide)) rfl passX (pa_cons (pv 1) (pa_cons (pe_un un_neg pe_int) pa_nil))))) pss_nil)
      (pss_cons (ps_if (pt_cmpR op_eq (pv 0) pe_int (nomark _)) (pss_one (ps_ret (pe_callO o_crossings (hr.mono (by decide)) rfl passX (pa_cons (pv 1) pa_nil)))) pss_nil)
      (pss_cons (ps_if (pt_cmpR op_eq (pv 0) pe_int (nomark _)) (pss_one (ps_ret (pe_callO o_from_even (hr.mono (by decide)) rfl passX (pa_cons (pv 1) pa_nil)))) pss_nil)
      (pss_cons (ps_if (pt_cmpR op_eq (pv 0) pe_int (nomark _)) (pss_one (ps_ret (pe_callO o_states_of (hr.mono (by decide)) rfl passX (pa_cons (pv 1) pa_nil)))) pss_nil)
      (pss_one (ps_ret (pe_callO o_parted (hr.mono (by decide)) rfl passX (pa_cons (pv 1) pa_nil)))))))))))))))))), ?_⟩
    walk_at "rd"
    have one : spRef K NAR CL [v] H Q E := ⟨v, rfl, bad⟩
    refine ite2 (fun _ => ⟨v, rfl, .inl bad⟩) (fun _ => ?_)
    refine ite2 (fun _ => ⟨by decide, fun p hp => ⟨v, _, rfl, .inl (bad.same (same_upd hp))⟩⟩) (fun _ => ?_)
    refine ite2 (fun _ => ⟨by decide, fun p hp => ⟨_, v, rfl, .inr ⟨p, [3, 1, 2], rfl, upd_same, pat312, .inl (bad.same (same_upd hp))⟩⟩⟩) (fun _ => ?_)
    refine ite2 (fun _ => one) (fun _ => ?_)
    refine ite2 (fun _ => ⟨v, _, rfl, .inl bad⟩) (fun _ => ?_)
    refine ite2 (fun _ => ⟨⟨by decide, by decide, by decide⟩, v, _, rfl, .inl bad⟩) (fun _ => ?_)
    refine ite2 (fun _ => one) (fun _ => ?_)
    refine ite2 (fun _ => ⟨⟨by decide, by decide, by decide⟩, v, _, rfl, .inl bad⟩) (fun _ => ?_)
    refine ite2 (fun _ => one) (fun _ => ?_)
    refine ite2 (fun _ => ⟨v, _, _, rfl, .inl bad⟩) (fun _ => ?_)
    refine ite2 (fun _ => ⟨v, _, rfl, .inl bad⟩) (fun _ => ?_)
    exact ite2 (fun _ => one) (fun _ => ite2 (fun _ => one) (fun _ => ite2 (fun _ => one) (fun _ => one)))

abbrev s__law_bad_row : Stmt := top 78
theorem sc__law_bad_row : FnScope ["_law_k", "_law_far", "_law_bad"] ["_law_k", "_law_far"] (defScope s__law_bad_row) := ⟨rfl, rfl, rfl, by decide +kernel, rfl, by decide +kernel, by decide +kernel⟩
def spLawBad (K : PySem.W.Frag) : Sp := fun vs H Q _ => ∃ (k : Int) (far : Nat), vs = [.int k, .int far] ∧ ∀ H' v, Same H H' → BadRow K H' v → Q v H'
theorem ok_bad_row {f : Addr} {fd : FuncData} (h : Has K mg "_law_bad_row" s__law_bad_row ["_law_k", "_law_far"] f fd) (B : Blt mg) : Ok P w K mg base "_law_bad_row" ["_law_k", "_law_far"] 1 (spLawBad K) := by
  refine h.ok sc__law_bad_row (fun vs H Q E h => ?_) (fun cdv A outer s H vs Q E hr h => ?_)
  · obtain ⟨k, far, rfl, _⟩ := h
    rfl
  · obtain ⟨k, far, rfl, q⟩ := h
    refine ⟨_, (pss_cons (ps_set (i := 2) sc__law_bad_row.nd rfl (by first | exact Or.inl rfl | exact Or.inr rfl) (pe_lst (pa_cons (pe_tup (pa_cons pe_int (pa_cons pe_int pa_nil))) (pa_cons (pe_lst pa_nil) (pa_cons (pe_comp (N' := ["_law_k"]) (π := [none]) (CompScope.of (by kernel_rfl)) rfl (pi_range1 rfl B.range_ (pa_cons pe_int pa_nil)) (fun _ _ _ _ _ => (pg_name (i := 0) (show List.Nodup (["_law_k"] : List Str) by decide +kernel) rfl (by first | exact Or.inl rfl | exact Or.inr rfl))) (fun _ _ _ _ _ => pifs_nil) (fun _ _ _ _ _ => pe_int)) (pa_cons (pe_lst (pa_cons pe_bl pa_nil)) (pa_cons (pe_lst (pa_cons pe_str pa_nil)) (pa_cons pe_str (pa_cons (pe_lst (pa_cons pe_int (pa_cons pe_non pa_nil))) (pa_cons (pe_lst (pa_cons (pe_op op_add pe_int (pv 1)) pa_nil)) (pa_cons (pe_lst (pa_cons pe_int (pa_cons (pe_op op_sub (pe_un un_neg pe_int) (pv 1)) pa_nil))) pa_nil)))))))))))
      (pss_one (ps_ret (pe_ix (ix_listK (K := K) rfl) (pv 2) (pe_op op_mod (pv 0) pe_int) (fun _ _ => rfl))))), ?_⟩
    walk_at "rd"
    refine ⟨by decide, fun p hp => ⟨Nat.zero_le _, fun p1 hp1 => ⟨by decide, by decide, ?_⟩⟩⟩
    have s1 : Same H (upd (upd H p (.tup [.int 1, .int 2])) p1 (.lst [])) := (same_upd hp).trans (same_upd hp1)
    have a0 : upd (upd H p (.tup [.int 1, .int 2])) p1 (.lst []) p = some (.tup [.int 1, .int 2]) := (same_upd hp1) _ _ upd_same
    have a1 : upd (upd H p (.tup [.int 1, .int 2])) p1 (.lst []) p1 = some (.lst []) := upd_same
    generalize upd (upd H p (.tup [.int 1, .int 2])) p1 (.lst []) = H1 at *
    refine comp_range (by decide) (fun i ys σ H2 => (∃ o, σ = [o]) ∧ H2 = H1 ∧ ys = List.replicate i (V.int 1)) ⟨⟨_, rfl⟩, rfl, rfl⟩ (fun i ys σ H2 p => ?_) (fun i ys σ H2 hi p => ?_) (fun ys σ H2 D p hD => ?_)
    · rw [p.2.2]; simp
    · obtain ⟨⟨o, rfl⟩, rfl, rfl⟩ := p
      walk_at "rd"
      rw [List.replicate_succ']
    · obtain ⟨_, rfl, rfl⟩ := p
      have s2 := s1.trans (same_upd (o := HO.lst (List.replicate (Int.toNat 61) (V.int 1))) hD)
      have b0 := (same_upd (o := HO.lst (List.replicate (Int.toNat 61) (V.int 1))) hD) _ _ a0
      have b1 := (same_upd (o := HO.lst (List.replicate (Int.toNat 61) (V.int 1))) hD) _ _ a1
      have b2 : upd H2 D (HO.lst (List.replicate (Int.toNat 61) (V.int 1))) D = some (.lst (List.replicate (Int.toNat 61) (V.int 1))) := upd_same
      generalize upd H2 D (HO.lst (List.replicate (Int.toNat 61) (V.int 1))) = H3 at *
      clear hp hp1 a0 a1 hD s1
      refine ⟨by decide, fun p3 hp3 => ⟨by decide, fun p4 hp4 => ⟨by decide, fun p6 hp6 => ⟨by decide, fun p7 hp7 => ⟨by decide, fun p8 hp8 => ⟨by decide, fun L hL => ⟨by decide, _, .of upd_same, ?_⟩⟩⟩⟩⟩⟩⟩
      have t8 := same_upd (o := HO.lst [V.ref p, V.ref p1, V.ref D, V.ref p3, V.ref p4, V.str (Str.ofString "531"), V.ref p6, V.ref p7, V.ref p8]) hL
      have t7 := (same_upd (o := HO.lst [V.int 3, V.int (-1000001 - far)]) hp8).trans t8
      have t6 := (same_upd (o := HO.lst [V.int (1000001 + far)]) hp7).trans t7
      have t5 := (same_upd (o := HO.lst [V.int 1, V.non]) hp6).trans t6
      have t4 := (same_upd (o := HO.lst [V.str (Str.ofString "1")]) hp4).trans t5
      have t3 := (same_upd (o := HO.lst [V.bl true]) hp3).trans t4
      have c3 := t4 _ _ (upd_same (a := p3) (o := HO.lst [V.bl true]) (H := H3))
      have c4 := t5 _ _ (upd_same (a := p4) (o := HO.lst [V.str (Str.ofString "1")]) (H := upd H3 p3 (HO.lst [V.bl true])))
      have c6 := t6 _ _ upd_same
      have c7 := t7 _ _ upd_same
      have c8 := t8 _ _ upd_same
      have d0 := t3 _ _ b0
      have d1 := t3 _ _ b1
      have d2 := t3 _ _ b2
      have sf := s2.trans t3
      generalize upd (upd (upd (upd (upd (upd H3 p3 (HO.lst [V.bl true])) p4 (HO.lst [V.str (Str.ofString "1")])) p6 (HO.lst [V.int 1, V.non])) p7 (HO.lst [V.int (1000001 + far)])) p8 (HO.lst [V.int 3, V.int (-1000001 - far)])) L (HO.lst [V.ref p, V.ref p1, V.ref D, V.ref p3, V.ref p4, V.str (Str.ofString "531"), V.ref p6, V.ref p7, V.ref p8]) = H4 at *
      have lst : ∀ {a : Addr} {xs : List V}, H4 a = some (.lst xs) → (∀ x ∈ xs, Flat x) → xs.length ≤ 1000 → ¬ RowV xs → Q (.ref a) H4 := fun e hf hl hn => q _ _ sf (.inr ⟨_, _, rfl, e, hf, hl, hn⟩)
      have m0 := Int.emod_nonneg k (show (9 : Int) ≠ 0 by decide)
      have m1 := Int.emod_lt_of_pos k (show (0 : Int) < 9 by decide)
      obtain ⟨m, em⟩ := Int.eq_ofNat_of_zero_le m0
      rw [em] at m1 ⊢
      have hm : m < 9 := by omega
      match m, hm with
      | 0, _ => exact ⟨_, rfl, q _ _ sf (.inl ⟨_, .tup d0, kit_tuple_list⟩)⟩
      | 1, _ => exact ⟨_, rfl, lst d1 (by simp) (by simp) fun z => absurd z.1 (by decide)⟩
      | 2, _ => exact ⟨_, rfl, lst d2 (fun x hx => by rw [(List.mem_replicate.mp hx).2]; trivial) (by simp) fun z => absurd z.2.1 (by simp)⟩
      | 3, _ => exact ⟨_, rfl, lst c3 (by simp [Flat]) (by simp) fun z => absurd (z.2.2 _ List.mem_cons_self) (by simp [okT, btwV])⟩
      | 4, _ => exact ⟨_, rfl, lst c4 (by simp [Flat]) (by simp) fun z => absurd (z.2.2 _ List.mem_cons_self) (by simp [okT, btwV])⟩
      | 5, _ => exact ⟨_, rfl, q _ _ sf (.inl ⟨_, .str _, kit_str_list⟩)⟩
      | 6, _ => exact ⟨_, rfl, lst c6 (by simp [Flat]) (by simp) fun z => absurd (z.2.2 .non (by simp)) (by simp [okT, btwV])⟩
      | 7, _ => exact ⟨_, rfl, lst c7 (by simp [Flat]) (by simp) fun z => absurd (okT_int.mp (z.2.2 _ List.mem_cons_self)) (by unfold inB; omega)⟩
      | 8, _ => exact ⟨_, rfl, lst c8 (by simp [Flat]) (by simp) fun z => absurd (okT_int.mp (z.2.2 (.int (-1000001 - far)) (by simp))) (by unfold inB; omega)⟩
end
end Tb

namespace Tb
open PySem L2 TB
local macro_rules | `(tactic| walk_at "rd") => `(tactic| try simp only [rExtendT, rCount, iRevT, tSeq, tNext, tIfS, tRet, tRetN, tDrop, tAsg, gName, gNil, gCons, gSub, gTup, tVar, tC, tOp, tUn, rI, rI0, rU, rEq, rNe, tTest, tB, tChain, tChain3, rSortedB, rSortedP, rSortedD, rListD, rDictP, iDict, tThaw, rDClear, tDisp, tPairs, kit_dict_dict, rIndex, rIsX, rIsXT, rIsXd, rIsXV, rIsXTd, rIsO, rIxS2, rSlS, rFind, rIndexT, rLenT, rStrT, rIntT, rAddT, rMulT, rInT, iTxt, tx_str, tTxts, kit_str_str, rIn, tListRev, tAug, ipI, tAnd, tOr, tNot, tAndV, tOrV, tNotV, tIf, tIsN, tNotN, tCB, tNil, tCons, tTup, tLst, tTupG, tLstG, tCall, tRaise, tTryC, tXF, sXF, tRaiseI, tTryA, tTryE, thC, thA, thNil, Ends.less, tFor_eq, tComp_eq, iList, iTup, iRng1, iRng2, iEnum, iZip, tNoIf, rIxL, rIxT, rSetL, tBM, tBM0, rAppend, tFld, sFld, tMake, tMakeN, tMethD, tTryM, tNever, rExtend, rGeL, rInS, rClear, tDNewK, tDIn, tDNotIn, tDGet, sDPut, rEqL, rEqS, rBest, rRep, rCat, tSl, tPart, tNoPart, rSlL, capt, CDiv, scal_ii, scal_bb, scal_ss, scal_nn, scal_in, scal_ni, List.map_cons, List.map_nil, List.append_nil, List.nil_append, List.cons_append, List.length_cons, List.length_nil, List.length_map, Int.zero_add, List.getElem?_cons_zero, List.getElem?_cons_succ, List.set_cons_zero, List.set_cons_succ, Option.some.injEq, Option.join_some, Option.bind_some, Option.bind_none, V.int.injEq, V.bl.injEq, V.ref.injEq, V.str.injEq, V.ty.injEq, List.cons.injEq, and_true, true_and, exists_and_left, exists_eq_left', exists_eq_left, exists_eq_right, exists_eq_right', exists_eq, exists_eq', exists_const, eq_self, decide_true, decide_false, Option.isSome_none, Option.isSome_some, Bool.false_eq_true, Bool.not_true, Bool.not_false, reduceIte, reduceCtorEq, false_and, and_false, or_false, false_or, start_def, cxOf_K, cxComp_K, and_assoc, tyOf_int, kit_int_int, kit_int_bool, kit_list_list, rep0, rep1, rep2, rep3, rep4, rep5, rep6, rep7, rep8, rep9, rep10, rep11, rep12, rLen, rIsi, rListOf, rTupOf, rSum, rAll, rAny, rSorted, kit_tuple_tuple, Nat.sub_self, Nat.reduceAdd, Nat.reduceSub, Nat.reduceEqDiff])

section
variable {P : Program} {w : World} {K : PySem.W.Frag} {mg : Str → Option Value} {base : Heap}
/-- the classes of the changes -/
structure Cs where
  (c t l s n m g r : Addr)
def DoneR (K : PySem.W.Frag) (NAR CL OOB : Addr) (S : Cs) (C : Addr) (sp : Sp) : Prop :=
  ((C = S.c ∨ C = S.m ∨ C = S.r) ∧ sp = spDone0 K NAR CL) ∨ (C = S.t ∧ sp = spDoneTurn K NAR CL OOB S.t) ∨ (C = S.l ∧ sp = spDoneLift K NAR CL OOB S.l) ∨ (C = S.n ∧ sp = spDoneNeighbours K NAR CL OOB S.n) ∨ (C = S.g ∧ sp = spDoneGaps K NAR CL OOB S.g) ∨ (C = S.s ∧ sp = spDoneSwap K NAR CL OOB S.s)
theorem made {H : Hp} {x dx C : Addr} (hx : H x = none) (hd : H dx = none) (ne : dx ≠ x) {fs : List (Str × V)} : Same H (upd (upd H dx (.own x)) x (.ins C dx fs)) := fun b u e => by
  rw [upd_ne (ne_of_none e hx), upd_ne (ne_of_none e hd)]
  exact e
theorem made1 {H : Hp} {x dx C : Addr} {o : HO} (hx : H x = none) (hd : H dx = none) {fs : List (Str × V)} : Same H (upd (upd (upd H dx (.own x)) x o) x (.ins C dx fs)) := fun b u e => by
  rw [upd_ne (ne_of_none e hx), upd_ne (ne_of_none e hx), upd_ne (ne_of_none e hd)]
  exact e
theorem made2 {H : Hp} {x dx C : Addr} {o o' : HO} (hx : H x = none) (hd : H dx = none) {fs : List (Str × V)} : Same H (upd (upd (upd (upd H dx (.own x)) x o) x o') x (.ins C dx fs)) := fun b u e => by
  rw [upd_ne (ne_of_none e hx), upd_ne (ne_of_none e hx), upd_ne (ne_of_none e hx), upd_ne (ne_of_none e hd)]
  exact e
theorem mk1 {H : Hp} {x dx C : Addr} {f : Str} {v : V} {Q : VK} {E : XK} (hx : H x = none) (hd : H dx = none) (k : ∀ G, Same H G → G x = some (.ins C dx [(f, v)]) → Q .non G) : spSet1 C f [.ref x, v] (upd (upd H dx (.own x)) x (.ins C dx [])) Q E := ⟨x, dx, v, rfl, upd_same, k _ (made1 hx hd) upd_same⟩
theorem mk2 {H : Hp} {x dx C : Addr} {i j : V} {Q : VK} {E : XK} (hx : H x = none) (hd : H dx = none) (k : ∀ G, Same H G → G x = some (.ins C dx [("i", i), ("j", j)]) → Q .non G) : spSet2 C [.ref x, i, j] (upd (upd H dx (.own x)) x (.ins C dx [])) Q E := ⟨x, dx, i, j, rfl, upd_same, k _ (made2 hx hd) upd_same⟩

abbrev s__law_ask_change : Stmt := top 77
theorem sc__law_ask_change : FnScope ["_law_door", "_law_row"] ["_law_door", "_law_row"] (defScope s__law_ask_change) := ⟨rfl, rfl, rfl, by decide +kernel, rfl, by decide +kernel, by decide +kernel⟩
def spAskChange (K : PySem.W.Frag) (NAR CL : Addr) : Sp := fun vs H _ E => ∃ (d : Int) (v : V), vs = [.int d, v] ∧ 14 < d ∧ Refus K NAR CL v H E ∧ (22 < d → BadRow K H v ∧ ∀ H', Same H H' → E (.ref NAR) none H')
theorem ok_ask_change {f NAR CL OOB : Addr} {fd : FuncData} {S : Cs} (h : Has K mg "_law_ask_change" s__law_ask_change ["_law_door", "_law_row"] f fd) (d_done : MsOk P w K mg base "done" 8 (DoneR K NAR CL OOB S)) (m_Change : mg "Change" = some (.ref S.c)) (c_Change : OCls K S.c) (i_Change : PySem.W.findIn K (.ref S.c) "__init__" = some (some (.builtin "object.__init__"))) (m_Mirror : mg "Mirror" = some (.ref S.m)) (c_Mirror : OCls K S.m) (i_Mirror : PySem.W.findIn K (.ref S.m) "__init__" = some (some (.builtin "object.__init__")))
    (mk_Turn : MkOk P w K mg base "Turn" S.t 1 (spSet1 S.t "k")) (mk_Lift : MkOk P w K mg base "Lift" S.l 1 (spSet1 S.l "k")) (mk_Swap : MkOk P w K mg base "Swap" S.s 1 (spSet2 S.s)) (mk_Neighbours : MkOk P w K mg base "Neighbours" S.n 1 (spSet1 S.n "k")) (mk_Gaps : MkOk P w K mg base "Gaps" S.g 1 (spSet1 S.g "h")) (mk_Changes : MkOk P w K mg base "Changes" S.r 1 (spSetR S.r))
    (o_clash_of : Ok P w K mg base "clash_of" ["row"] 5 (spClash2 K NAR)) (o_written : Ok P w K mg base "written" ["row"] 5 (spBadRow K NAR)) : Ok P w K mg base "_law_ask_change" ["_law_door", "_law_row"] 10 (spAskChange K NAR CL) := by
  refine h.ok sc__law_ask_change (fun vs H Q E h => ?_) (fun cdv A outer s H vs Q E hr h => ?_)
  · obtain ⟨d, v, rfl, _⟩ := h
    rfl
  · obtain ⟨d, v, rfl, d14, bad, late⟩ := h
    refine ⟨_, (pss_cons (ps_if (pt_cmpR op_eq (pv 0) pe_int (nomark _)) (pss_one (ps_ret (pe_methD d_done (hr.mono (by decide)) passX (pe_makeN m_Change c_Change i_Change rfl) (pa_cons (pv 1) pa_nil)))) pss_nil)
      (pss_cons (ps_if (pt_cmpR op_eq (pv 0) pe_int (nomark _)) (pss_one (ps_ret (pe_methD d_done (hr.mono (by decide)) passX (pe_makeK mk_Turn (hr.mono (by decide)) rfl passX (pa_cons pe_int pa_nil)) (pa_cons (pv 1) pa_nil)))) pss_nil)
      (pss_cons (ps_if (pt_cmpR op_eq (pv 0) pe_int (nomark _)) (pss_one (ps_ret (pe_methD d_done (hr.mono (by decide)) passX (pe_makeK mk_Lift (hr.mono (by decide)) rfl passX (pa_cons (pe_op op_pow pe_int pe_int) pa_nil)) (pa_cons (pv 1) pa_nil)))) pss_nil)
      (pss_cons (ps_if (pt_cmpR op_eq (pv 0) pe_int (nomark _)) (pss_one (ps_ret (pe_methD d_done (hr.mono (by decide)) passX (pe_makeK mk_Swap (hr.mono (by decide)) rfl passX (pa_cons pe_int (pa_cons pe_int pa_nil))) (pa_cons (pv 1) pa_nil)))) pss_nil)
      (pss_cons (ps_if (pt_cmpR op_eq (pv 0) pe_int (nomark _)) (pss_one (ps_ret (pe_methD d_done (hr.mono (by decide)) passX (pe_makeK mk_Neighbours (hr.mono (by decide)) rfl passX (pa_cons (pe_un un_neg pe_int) pa_nil)) (pa_cons (pv 1) pa_nil)))) pss_nil)
      (pss_cons (ps_if (pt_cmpR op_eq (pv 0) pe_int (nomark _)) (pss_one (ps_ret (pe_methD d_done (hr.mono (by decide)) passX (pe_makeN m_Mirror c_Mirror i_Mirror rfl) (pa_cons (pv 1) pa_nil)))) pss_nil)
      (pss_cons (ps_if (pt_cmpR op_eq (pv 0) pe_int (nomark _)) (pss_one (ps_ret (pe_methD d_done (hr.mono (by decide)) passX (pe_makeK mk_Gaps (hr.mono (by decide)) rfl passX (pa_cons (pe_op op_pow pe_int pe_int) pa_nil)) (pa_cons (pv 1) pa_nil)))) pss_nil)
      (pss_cons (ps_if (pt_cmpR op_eq (pv 0) pe_int (nomark _)) (pss_one (ps_ret (pe_methD d_done (hr.mono (by decide)) passX (pe_makeK mk_Changes (hr.mono (by decide)) rfl passX (pa_cons (pe_lst pa_nil) pa_nil)) (pa_cons (pv 1) pa_nil)))) pss_nil)
      (pss_cons (ps_if (pt_cmpR op_eq (pv 0) pe_int (nomark _)) (pss_one (ps_ret (pe_callO o_clash_of (hr.mono (by decide)) rfl passX (pa_cons (pv 1) pa_nil)))) pss_nil)
      (pss_one (ps_ret (pe_callO o_written (hr.mono (by decide)) rfl passX (pa_cons (pv 1) pa_nil))))))))))))), ?_⟩
    walk_at "rd"
    refine ite2 (fun _ x dx hx hd ne => ⟨S.c, dx, _, upd_same, rfl, _, .inl ⟨.inl rfl, rfl⟩, x, v, rfl, bad.same (made hx hd ne)⟩) (fun n15 => ?_)
    refine ite2 (fun _ x dx hx hd ne => ⟨x, dx, _, rfl, upd_same, rfl, S.t, dx, _, upd_same, rfl, _, .inr (.inl ⟨rfl, rfl⟩), x, dx, v, _, rfl, upd_same, v, _, rfl, .inl (bad.same (made1 hx hd))⟩) (fun n16 => ?_)
    refine ite2 (fun _ => ⟨⟨by decide, by decide, by decide⟩, fun x dx hx hd ne => ⟨x, dx, _, rfl, upd_same, rfl, S.l, dx, _, upd_same, rfl, _, .inr (.inr (.inl ⟨rfl, rfl⟩)), x, dx, v, _, rfl, upd_same, v, _, rfl, .inl (bad.same (made1 hx hd))⟩⟩) (fun n17 => ?_)
    refine ite2 (fun _ x dx hx hd ne => ⟨x, dx, _, _, rfl, upd_same, rfl, S.s, dx, _, upd_same, rfl, _, .inr (.inr (.inr (.inr (.inr ⟨rfl, rfl⟩)))), x, dx, v, _, _, rfl, upd_same, v, _, _, rfl, .inl (bad.same (made2 hx hd))⟩) (fun n18 => ?_)
    refine ite2 (fun _ x dx hx hd ne => ⟨x, dx, _, rfl, upd_same, rfl, S.n, dx, _, upd_same, rfl, _, .inr (.inr (.inr (.inl ⟨rfl, rfl⟩))), x, dx, v, _, rfl, upd_same, v, _, rfl, .inl (bad.same (made1 hx hd))⟩) (fun n19 => ?_)
    refine ite2 (fun _ x dx hx hd ne => ⟨S.m, dx, _, upd_same, rfl, _, .inl ⟨.inr (.inl rfl), rfl⟩, x, v, rfl, bad.same (made hx hd ne)⟩) (fun n20 => ?_)
    refine ite2 (fun _ => ⟨⟨by decide, by decide, by decide⟩, fun x dx hx hd ne => ⟨x, dx, _, rfl, upd_same, rfl, S.g, dx, _, upd_same, rfl, _, .inr (.inr (.inr (.inr (.inl ⟨rfl, rfl⟩)))), x, dx, v, _, rfl, upd_same, v, _, rfl, .inl (bad.same (made1 hx hd))⟩⟩) (fun n21 => ?_)
    refine ite2 (fun _ => ⟨Nat.zero_le _, fun p hp x dx hx hd ne => ⟨x, dx, p, rfl, upd_same, (made hx hd ne) _ _ upd_same, fun H2 tp keep h2 => ⟨rfl, S.r, dx, _, h2, rfl, _, .inl ⟨.inr (.inr rfl), rfl⟩, x, v, rfl, bad.same fun b u e => ?_⟩⟩⟩) (fun n22 => ?_)
    · have e1 := (same_upd (o := HO.lst []) hp) _ _ e
      exact keep b u (ne_of_none e1 hx) ((made hx hd ne) _ _ e1)
    · obtain ⟨l1, l2⟩ | l : (BadRow K H v ∧ ∀ H', Same H H' → E (.ref NAR) none H') ∨ ¬ 22 < d := by
        by_cases z : 22 < d
        · exact .inl (late z)
        · exact .inr z
      · exact ite2 (fun _ => ⟨v, rfl, .inl ⟨l1, l2⟩⟩) (fun _ => ⟨v, rfl, l1, l2⟩)
      · have a1 : d ≠ 15 := fun z => n15 (decide_eq_true z)
        have a2 : d ≠ 16 := fun z => n16 (decide_eq_true z)
        have a3 : d ≠ 17 := fun z => n17 (decide_eq_true z)
        have a4 : d ≠ 18 := fun z => n18 (decide_eq_true z)
        have a5 : d ≠ 19 := fun z => n19 (decide_eq_true z)
        have a6 : d ≠ 20 := fun z => n20 (decide_eq_true z)
        have a7 : d ≠ 21 := fun z => n21 (decide_eq_true z)
        have a8 : d ≠ 22 := fun z => n22 (decide_eq_true z)
        exact absurd d14 (by omega)
end
end Tb

namespace Tb
open PySem L2 TB
local macro_rules | `(tactic| walk_at "rd") => `(tactic| try simp only [rExtendT, rCount, iRevT, tSeq, tNext, tIfS, tRet, tRetN, tDrop, tAsg, gName, gNil, gCons, gSub, gTup, tVar, tC, tOp, tUn, rI, rI0, rU, rEq, rNe, tTest, tB, tChain, tChain3, rSortedB, rSortedP, rSortedD, rListD, rDictP, iDict, tThaw, rDClear, tDisp, tPairs, kit_dict_dict, rIndex, rIsX, rIsXT, rIsXd, rIsXV, rIsXTd, rIsO, rIxS2, rSlS, rFind, rIndexT, rLenT, rStrT, rIntT, rAddT, rMulT, rInT, iTxt, tx_str, tTxts, kit_str_str, rIn, tListRev, tAug, ipI, tAnd, tOr, tNot, tAndV, tOrV, tNotV, tIf, tIsN, tNotN, tCB, tNil, tCons, tTup, tLst, tTupG, tLstG, tCall, tRaise, tTryC, tXF, sXF, tRaiseI, tTryA, tTryE, thC, thA, thNil, Ends.less, tFor_eq, tComp_eq, iList, iTup, iRng1, iRng2, iEnum, iZip, tNoIf, rIxL, rIxT, rSetL, tBM, tBM0, rAppend, tFld, sFld, tMake, tMakeN, tMethD, tTryM, tNever, rExtend, rGeL, rInS, rClear, tDNewK, tDIn, tDNotIn, tDGet, sDPut, rEqL, rEqS, rBest, rRep, rCat, tSl, tPart, tNoPart, rSlL, capt, CDiv, scal_ii, scal_bb, scal_ss, scal_nn, scal_in, scal_ni, List.map_cons, List.map_nil, List.append_nil, List.nil_append, List.cons_append, List.length_cons, List.length_nil, List.length_map, Int.zero_add, List.getElem?_cons_zero, List.getElem?_cons_succ, List.set_cons_zero, List.set_cons_succ, Option.some.injEq, Option.join_some, Option.bind_some, Option.bind_none, V.int.injEq, V.bl.injEq, V.ref.injEq, V.str.injEq, V.ty.injEq, List.cons.injEq, and_true, true_and, exists_and_left, exists_eq_left', exists_eq_left, exists_eq_right, exists_eq_right', exists_eq, exists_eq', exists_const, eq_self, decide_true, decide_false, Option.isSome_none, Option.isSome_some, Bool.false_eq_true, Bool.not_true, Bool.not_false, reduceIte, reduceCtorEq, false_and, and_false, or_false, false_or, start_def, cxOf_K, cxComp_K, and_assoc, tyOf_int, kit_int_int, kit_int_bool, kit_list_list, rep0, rep1, rep2, rep3, rep4, rep5, rep6, rep7, rep8, rep9, rep10, rep11, rep12, rLen, rIsi, rListOf, rTupOf, rSum, rAll, rAny, rSorted, kit_tuple_tuple, Nat.sub_self, Nat.reduceAdd, Nat.reduceSub, Nat.reduceEqDiff])

section
variable {P : Program} {w : World} {K : PySem.W.Frag} {mg : Str → Option Value} {base : Heap}
theorem pat11 : Pat [1, 1] := pat_fin ⟨by decide, by decide, by decide⟩ (by decide)
theorem pat22 : Pat [2, 2] := pat_fin ⟨by decide, by decide, by decide⟩ (by decide)
theorem pat5 : Pat [5] := pat_fin ⟨by decide, by decide, by decide⟩ (by decide)
theorem pat111 : Pat [1, 1, 1] := pat_fin ⟨by decide, by decide, by decide⟩ (by decide)
theorem patA : Pat [999999, 1] := pat_fin ⟨by decide, by decide, by decide⟩ (by decide)
theorem patB : Pat [-999999, 1] := pat_fin ⟨by decide, by decide, by decide⟩ (by decide)

abbrev s__law_ask_bounds : Stmt := top 79
theorem sc__law_ask_bounds : FnScope ["_law_door", "_law_k", "_law_far", "_law_some"] ["_law_door", "_law_k", "_law_far"] (defScope s__law_ask_bounds) := ⟨rfl, rfl, rfl, by decide +kernel, rfl, by decide +kernel, by decide +kernel⟩
def spAskBounds (OOB : Addr) : Sp := fun vs H _ E => ∃ (d : Int) (k far : Nat), vs = [.int d, .int k, .int far] ∧ k < 5 ∧ ∀ H', Same H H' → E (.ref OOB) none H'
theorem ok_ask_bounds {f NAR CL OOB : Addr} {fd : FuncData} {S : Cs} (h : Has K mg "_law_ask_bounds" s__law_ask_bounds ["_law_door", "_law_k", "_law_far"] f fd) (d_done : MsOk P w K mg base "done" 8 (DoneR K NAR CL OOB S))
    (mk_Turn : MkOk P w K mg base "Turn" S.t 1 (spSet1 S.t "k")) (mk_Lift : MkOk P w K mg base "Lift" S.l 1 (spSet1 S.l "k")) (mk_Swap : MkOk P w K mg base "Swap" S.s 1 (spSet2 S.s)) (mk_Neighbours : MkOk P w K mg base "Neighbours" S.n 1 (spSet1 S.n "k")) (mk_Gaps : MkOk P w K mg base "Gaps" S.g 1 (spSet1 S.g "h"))
    (o_even : Ok P w K mg base "even" ["length", "balls"] 5 (spEven OOB)) (o_turned : Ok P w K mg base "turned" ["pattern", "k"] 7 (spTurned K NAR CL OOB)) (o_lifted : Ok P w K mg base "lifted" ["pattern", "k"] 7 (spLifted K NAR CL OOB)) (o_gaps : Ok P w K mg base "gaps" ["pattern", "h"] 7 (spGaps K NAR CL OOB)) (o_swapped : Ok P w K mg base "swapped" ["pattern", "i", "j"] 7 (spSwapped K NAR CL OOB)) (o_patterns : Ok P w K mg base "patterns" ["length", "balls"] 3 (spPatterns OOB)) (o_distances : Ok P w K mg base "distances" ["state", "most"] 4 (spDistances OOB)) (o_neighbours : Ok P w K mg base "neighbours" ["pattern", "k"] 7 (spNeighbours K NAR CL OOB)) : Ok P w K mg base "_law_ask_bounds" ["_law_door", "_law_k", "_law_far"] 10 (spAskBounds OOB) := by
  refine h.ok sc__law_ask_bounds (fun vs H Q E h => ?_) (fun cdv A outer s H vs Q E hr h => ?_)
  · obtain ⟨d, k, far, rfl, _⟩ := h
    rfl
  · obtain ⟨d, k, far, rfl, hk, q⟩ := h
    refine ⟨_, (@pss_cons _ _ _ _ _ (@ps_if _ _ _ _ _ _ _ _ (@pt_cmpR _ _ _ _ _ _ _ _ op_eq (pv 0) pe_int (nomark _)) (@pss_one _ _ _ (@ps_ret _ _ _ _ (@pe_callO _ _ _ _ _ _ _ _ _ _ _ o_even (hr.mono (by decide)) rfl passX (@pa_cons _ _ _ _ _ (@pe_ix _ _ _ _ _ _ _ (ix_listK (K := K) rfl) (@pe_lst _ _ _ _ (@pa_cons _ _ _ _ _ (@pe_op _ _ _ _ _ _ _ _ op_add pe_int (pv 2)) (@pa_cons _ _ _ _ _ (@pe_op _ _ _ _ _ _ _ _ op_sub pe_int (pv 2)) (@pa_cons _ _ _ _ _ pe_bl (@pa_cons _ _ _ _ _ pe_int (@pa_cons _ _ _ _ _ pe_int pa_nil (by rfl)) (by rfl)) (by rfl)) (by rfl)) (by rfl))) (pv 1) (fun _ _ => rfl)) (@pa_cons _ _ _ _ _ (@pe_ix _ _ _ _ _ _ _ (ix_listK (K := K) rfl) (@pe_lst _ _ _ _ (@pa_cons _ _ _ _ _ pe_int (@pa_cons _ _ _ _ _ pe_int (@pa_cons _ _ _ _ _ pe_int (@pa_cons _ _ _ _ _ (@pe_op _ _ _ _ _ _ _ _ op_add pe_int (pv 2)) (@pa_cons _ _ _ _ _ (@pe_op _ _ _ _ _ _ _ _ op_sub (@pe_un _ _ _ _ _ _ un_neg pe_int) (pv 2)) pa_nil (by rfl)) (by rfl)) (by rfl)) (by rfl)) (by rfl))) (pv 1) (fun _ _ => rfl)) pa_nil (by rfl)) (by rfl)) (by decide) (by rfl) (by rfl)))) pss_nil) (@pss_cons _ _ _ _ _ (@ps_if _ _ _ _ _ _ _ _ (@pt_cmpR _ _ _ _ _ _ _ _ op_eq (pv 0) pe_int (nomark _)) (@pss_one _ _ _ (@ps_ret _ _ _ _ (@pe_callO _ _ _ _ _ _ _ _ _ _ _ o_turned (hr.mono (by decide)) rfl passX (@pa_cons _ _ _ _ _ (@pe_lst _ _ _ _ (@pa_cons _ _ _ _ _ pe_int (@pa_cons _ _ _ _ _ pe_int pa_nil (by rfl)) (by rfl))) (@pa_cons _ _ _ _ _ (@pe_ix _ _ _ _ _ _ _ (ix_listK (K := K) rfl) (@pe_lst _ _ _ _ (@pa_cons _ _ _ _ _ (@pe_op _ _ _ _ _ _ _ _ op_add pe_int (pv 2)) (@pa_cons _ _ _ _ _ (@pe_op _ _ _ _ _ _ _ _ op_sub (@pe_un _ _ _ _ _ _ un_neg pe_int) (pv 2)) (@pa_cons _ _ _ _ _ pe_bl (@pa_cons _ _ _ _ _ pe_str (@pa_cons _ _ _ _ _ pe_non pa_nil (by rfl)) (by rfl)) (by rfl)) (by rfl)) (by rfl))) (pv 1) (fun _ _ => rfl)) pa_nil (by rfl)) (by rfl)) (by decide) (by rfl) (by rfl)))) pss_nil) (@pss_cons _ _ _ _ _ (@ps_if _ _ _ _ _ _ _ _ (@pt_cmpR _ _ _ _ _ _ _ _ op_eq (pv 0) pe_int (nomark _)) (@pss_one _ _ _ (@ps_ret _ _ _ _ (@pe_callO _ _ _ _ _ _ _ _ _ _ _ o_lifted (hr.mono (by decide)) rfl passX (@pa_cons _ _ _ _ _ (@pe_lst _ _ _ _ (@pa_cons _ _ _ _ _ pe_int (@pa_cons _ _ _ _ _ pe_int pa_nil (by rfl)) (by rfl))) (@pa_cons _ _ _ _ _ (@pe_ix _ _ _ _ _ _ _ (ix_listK (K := K) rfl) (@pe_lst _ _ _ _ (@pa_cons _ _ _ _ _ pe_int (@pa_cons _ _ _ _ _ (@pe_op _ _ _ _ _ _ _ _ op_add pe_int (pv 2)) (@pa_cons _ _ _ _ _ pe_bl (@pa_cons _ _ _ _ _ pe_str (@pa_cons _ _ _ _ _ pe_non pa_nil (by rfl)) (by rfl)) (by rfl)) (by rfl)) (by rfl))) (pv 1) (fun _ _ => rfl)) pa_nil (by rfl)) (by rfl)) (by decide) (by rfl) (by rfl)))) pss_nil) (@pss_cons _ _ _ _ _ (@ps_if _ _ _ _ _ _ _ _ (@pt_cmpR _ _ _ _ _ _ _ _ op_eq (pv 0) pe_int (nomark _)) (@pss_one _ _ _ (@ps_ret _ _ _ _ (@pe_callO _ _ _ _ _ _ _ _ _ _ _ o_gaps (hr.mono (by decide)) rfl passX (@pa_cons _ _ _ _ _ (@pe_lst _ _ _ _ (@pa_cons _ _ _ _ _ (@pe_un _ _ _ _ _ _ un_neg pe_int) (@pa_cons _ _ _ _ _ pe_int pa_nil (by rfl)) (by rfl))) (@pa_cons _ _ _ _ _ (@pe_ix _ _ _ _ _ _ _ (ix_listK (K := K) rfl) (@pe_lst _ _ _ _ (@pa_cons _ _ _ _ _ pe_int (@pa_cons _ _ _ _ _ (@pe_op _ _ _ _ _ _ _ _ op_sub (@pe_un _ _ _ _ _ _ un_neg pe_int) (pv 2)) (@pa_cons _ _ _ _ _ pe_bl (@pa_cons _ _ _ _ _ pe_str (@pa_cons _ _ _ _ _ pe_non pa_nil (by rfl)) (by rfl)) (by rfl)) (by rfl)) (by rfl))) (pv 1) (fun _ _ => rfl)) pa_nil (by rfl)) (by rfl)) (by decide) (by rfl) (by rfl)))) pss_nil) (@pss_cons _ _ _ _ _ (@ps_if _ _ _ _ _ _ _ _ (@pt_cmpR _ _ _ _ _ _ _ _ op_eq (pv 0) pe_int (nomark _)) (@pss_one _ _ _ (@ps_ret _ _ _ _ (@pe_callO _ _ _ _ _ _ _ _ _ _ _ o_swapped (hr.mono (by decide)) rfl passX (@pa_cons _ _ _ _ _ (@pe_lst _ _ _ _ (@pa_cons _ _ _ _ _ pe_int (@pa_cons _ _ _ _ _ pe_int (@pa_cons _ _ _ _ _ pe_int pa_nil (by rfl)) (by rfl)) (by rfl))) (@pa_cons _ _ _ _ _ (@pe_ix _ _ _ _ _ _ _ (ix_listK (K := K) rfl) (@pe_lst _ _ _ _ (@pa_cons _ _ _ _ _ pe_int (@pa_cons _ _ _ _ _ pe_int (@pa_cons _ _ _ _ _ pe_int (@pa_cons _ _ _ _ _ (@pe_un _ _ _ _ _ _ un_neg pe_int) (@pa_cons _ _ _ _ _ pe_bl pa_nil (by rfl)) (by rfl)) (by rfl)) (by rfl)) (by rfl))) (pv 1) (fun _ _ => rfl)) (@pa_cons _ _ _ _ _ (@pe_ix _ _ _ _ _ _ _ (ix_listK (K := K) rfl) (@pe_lst _ _ _ _ (@pa_cons _ _ _ _ _ pe_int (@pa_cons _ _ _ _ _ pe_int (@pa_cons _ _ _ _ _ pe_int (@pa_cons _ _ _ _ _ pe_int (@pa_cons _ _ _ _ _ pe_int pa_nil (by rfl)) (by rfl)) (by rfl)) (by rfl)) (by rfl))) (pv 1) (fun _ _ => rfl)) pa_nil (by rfl)) (by rfl)) (by rfl)) (by decide) (by rfl) (by rfl)))) pss_nil) (@pss_cons _ _ _ _ _ (@ps_if _ _ _ _ _ _ _ _ (@pt_cmpR _ _ _ _ _ _ _ _ op_eq (pv 0) pe_int (nomark _)) (@pss_one _ _ _ (@ps_ret _ _ _ _ (@pe_callO _ _ _ _ _ _ _ _ _ _ _ o_patterns (hr.mono (by decide)) rfl passX (@pa_cons _ _ _ _ _ (@pe_ix _ _ _ _ _ _ _ (ix_listK (K := K) rfl) (@pe_lst _ _ _ _ (@pa_cons _ _ _ _ _ pe_int (@pa_cons _ _ _ _ _ (@pe_op _ _ _ _ _ _ _ _ op_add pe_int (pv 2)) (@pa_cons _ _ _ _ _ pe_int (@pa_cons _ _ _ _ _ pe_int (@pa_cons _ _ _ _ _ pe_bl pa_nil (by rfl)) (by rfl)) (by rfl)) (by rfl)) (by rfl))) (pv 1) (fun _ _ => rfl)) (@pa_cons _ _ _ _ _ (@pe_ix _ _ _ _ _ _ _ (ix_listK (K := K) rfl) (@pe_lst _ _ _ _ (@pa_cons _ _ _ _ _ pe_int (@pa_cons _ _ _ _ _ pe_int (@pa_cons _ _ _ _ _ (@pe_op _ _ _ _ _ _ _ _ op_sub (@pe_un _ _ _ _ _ _ un_neg pe_int) (pv 2)) (@pa_cons _ _ _ _ _ (@pe_op _ _ _ _ _ _ _ _ op_add pe_int (pv 2)) (@pa_cons _ _ _ _ _ pe_int pa_nil (by rfl)) (by rfl)) (by rfl)) (by rfl)) (by rfl))) (pv 1) (fun _ _ => rfl)) pa_nil (by rfl)) (by rfl)) (by decide) (by rfl) (by rfl)))) pss_nil) (@pss_cons _ _ _ _ _ (@ps_if _ _ _ _ _ _ _ _ (@pt_cmpR _ _ _ _ _ _ _ _ op_eq (pv 0) pe_int (nomark _)) (@pss_one _ _ _ (@ps_ret _ _ _ _ (@pe_callO _ _ _ _ _ _ _ _ _ _ _ o_distances (hr.mono (by decide)) rfl passX (@pa_cons _ _ _ _ _ (@pe_ix _ _ _ _ _ _ _ (ix_listK (K := K) rfl) (@pe_lst _ _ _ _ (@pa_cons _ _ _ _ _ (@pe_un _ _ _ _ _ _ un_neg pe_int) (@pa_cons _ _ _ _ _ (@pe_op _ _ _ _ _ _ _ _ op_add pe_int (pv 2)) (@pa_cons _ _ _ _ _ pe_int (@pa_cons _ _ _ _ _ pe_bl (@pa_cons _ _ _ _ _ pe_int pa_nil (by rfl)) (by rfl)) (by rfl)) (by rfl)) (by rfl))) (pv 1) (fun _ _ => rfl)) (@pa_cons _ _ _ _ _ (@pe_ix _ _ _ _ _ _ _ (ix_listK (K := K) rfl) (@pe_lst _ _ _ _ (@pa_cons _ _ _ _ _ pe_int (@pa_cons _ _ _ _ _ pe_int (@pa_cons _ _ _ _ _ pe_int (@pa_cons _ _ _ _ _ pe_int (@pa_cons _ _ _ _ _ pe_int pa_nil (by rfl)) (by rfl)) (by rfl)) (by rfl)) (by rfl))) (pv 1) (fun _ _ => rfl)) pa_nil (by rfl)) (by rfl)) (by decide) (by rfl) (by rfl)))) pss_nil) (@pss_cons _ _ _ _ _ (@ps_if _ _ _ _ _ _ _ _ (@pt_cmpR _ _ _ _ _ _ _ _ op_eq (pv 0) pe_int (nomark _)) (@pss_one _ _ _ (@ps_ret _ _ _ _ (@pe_callO _ _ _ _ _ _ _ _ _ _ _ o_even (hr.mono (by decide)) rfl passX (@pa_cons _ _ _ _ _ (@pe_ix _ _ _ _ _ _ _ (ix_listK (K := K) rfl) (@pe_lst _ _ _ _ (@pa_cons _ _ _ _ _ pe_int (@pa_cons _ _ _ _ _ pe_int (@pa_cons _ _ _ _ _ pe_int (@pa_cons _ _ _ _ _ pe_str (@pa_cons _ _ _ _ _ pe_int pa_nil (by rfl)) (by rfl)) (by rfl)) (by rfl)) (by rfl))) (pv 1) (fun _ _ => rfl)) (@pa_cons _ _ _ _ _ (@pe_ix _ _ _ _ _ _ _ (ix_listK (K := K) rfl) (@pe_lst _ _ _ _ (@pa_cons _ _ _ _ _ pe_int (@pa_cons _ _ _ _ _ pe_bl (@pa_cons _ _ _ _ _ (@pe_un _ _ _ _ _ _ un_neg pe_int) (@pa_cons _ _ _ _ _ pe_int (@pa_cons _ _ _ _ _ pe_non pa_nil (by rfl)) (by rfl)) (by rfl)) (by rfl)) (by rfl))) (pv 1) (fun _ _ => rfl)) pa_nil (by rfl)) (by rfl)) (by decide) (by rfl) (by rfl)))) pss_nil) (@pss_cons _ _ _ _ _ (@ps_if _ _ _ _ _ _ _ _ (@pt_cmpR _ _ _ _ _ _ _ _ op_eq (pv 0) pe_int (nomark _)) (@pss_cons _ _ _ _ _ (@ps_set _ _ 3 _ _ _ _ sc__law_ask_bounds.nd rfl (by first | exact Or.inl rfl | exact Or.inr rfl) (@pe_lst _ _ _ _ (@pa_cons _ _ _ _ _ (@pe_makeK _ _ _ _ _ _ _ _ _ _ _ mk_Swap (hr.mono (by decide)) rfl passX (@pa_cons _ _ _ _ _ pe_int (@pa_cons _ _ _ _ _ pe_int pa_nil (by rfl)) (by rfl)) (by decide) (by rfl) (by rfl)) (@pa_cons _ _ _ _ _ (@pe_makeK _ _ _ _ _ _ _ _ _ _ _ mk_Turn (hr.mono (by decide)) rfl passX (@pa_cons _ _ _ _ _ (@pe_op _ _ _ _ _ _ _ _ op_add pe_int (pv 2)) pa_nil (by rfl)) (by decide) (by rfl) (by rfl)) (@pa_cons _ _ _ _ _ (@pe_makeK _ _ _ _ _ _ _ _ _ _ _ mk_Lift (hr.mono (by decide)) rfl passX (@pa_cons _ _ _ _ _ pe_bl pa_nil (by rfl)) (by decide) (by rfl) (by rfl)) (@pa_cons _ _ _ _ _ (@pe_makeK _ _ _ _ _ _ _ _ _ _ _ mk_Gaps (hr.mono (by decide)) rfl passX (@pa_cons _ _ _ _ _ (@pe_op _ _ _ _ _ _ _ _ op_sub (@pe_un _ _ _ _ _ _ un_neg pe_int) (pv 2)) pa_nil (by rfl)) (by decide) (by rfl) (by rfl)) (@pa_cons _ _ _ _ _ (@pe_makeK _ _ _ _ _ _ _ _ _ _ _ mk_Neighbours (hr.mono (by decide)) rfl passX (@pa_cons _ _ _ _ _ (@pe_op _ _ _ _ _ _ _ _ op_add pe_int (pv 2)) pa_nil (by rfl)) (by decide) (by rfl) (by rfl)) pa_nil (by rfl)) (by rfl)) (by rfl)) (by rfl)) (by rfl))) (by rfl) (by first | exact .inl rfl | exact .inr rfl | assumption)) (@pss_one _ _ _ (@ps_ret _ _ _ _ (@pe_methD _ _ _ _ _ _ _ _ _ _ _ _ _ d_done (hr.mono (by decide)) passX (@pe_ix _ _ _ _ _ _ _ (ix_listK (K := K) rfl) (pv 3) (pv 1) (fun _ _ => rfl)) (@pa_cons _ _ _ _ _ (@pe_lst _ _ _ _ (@pa_cons _ _ _ _ _ pe_int (@pa_cons _ _ _ _ _ pe_int pa_nil (by rfl)) (by rfl))) pa_nil (by rfl)) (by rfl) (by rfl) (by rfl))))) pss_nil) (@pss_one _ _ _ (@ps_ret _ _ _ _ (@pe_callO _ _ _ _ _ _ _ _ _ _ _ o_neighbours (hr.mono (by decide)) rfl passX (@pa_cons _ _ _ _ _ (@pe_ix _ _ _ _ _ _ _ (ix_listK (K := K) rfl) (@pe_lst _ _ _ _ (@pa_cons _ _ _ _ _ (@pe_lst _ _ _ _ (@pa_cons _ _ _ _ _ pe_int pa_nil (by rfl))) (@pa_cons _ _ _ _ _ (@pe_lst _ _ _ _ (@pa_cons _ _ _ _ _ pe_int (@pa_cons _ _ _ _ _ pe_int pa_nil (by rfl)) (by rfl))) (@pa_cons _ _ _ _ _ (@pe_lst _ _ _ _ (@pa_cons _ _ _ _ _ pe_int (@pa_cons _ _ _ _ _ pe_int pa_nil (by rfl)) (by rfl))) (@pa_cons _ _ _ _ _ (@pe_lst _ _ _ _ (@pa_cons _ _ _ _ _ pe_int (@pa_cons _ _ _ _ _ pe_int pa_nil (by rfl)) (by rfl))) (@pa_cons _ _ _ _ _ (@pe_lst _ _ _ _ (@pa_cons _ _ _ _ _ pe_int pa_nil (by rfl))) pa_nil (by rfl)) (by rfl)) (by rfl)) (by rfl)) (by rfl))) (pv 1) (fun _ _ => rfl)) (@pa_cons _ _ _ _ _ (@pe_ix _ _ _ _ _ _ _ (ix_listK (K := K) rfl) (@pe_lst _ _ _ _ (@pa_cons _ _ _ _ _ pe_int (@pa_cons _ _ _ _ _ pe_int (@pa_cons _ _ _ _ _ (@pe_un _ _ _ _ _ _ un_neg pe_int) (@pa_cons _ _ _ _ _ pe_bl (@pa_cons _ _ _ _ _ pe_int pa_nil (by rfl)) (by rfl)) (by rfl)) (by rfl)) (by rfl))) (pv 1) (fun _ _ => rfl)) pa_nil (by rfl)) (by rfl)) (by decide) (by rfl) (by rfl))))))))))))), ?_⟩
    walk_at "rd"
    have far0 : (0 : Int) ≤ far := by omega
    refine ite2 (fun _ => ⟨by decide, fun p hp => ⟨_, .of upd_same, ?_⟩⟩) (fun _ => ?_)
    · have key : ∃ x y, atI [V.int (61 + far), V.int (0 - far), V.bl true, V.int 3, V.int 3] (k : Int) = some x ∧ atI [V.int 1, V.int 1, V.int 1, V.int (1000001 + far), V.int (-1000001 - far)] (k : Int) = some y ∧ Flat x ∧ Flat y ∧ (btwV x 1 60 = false ∨ okT y = false) := by
        match k, hk with
        | 0, _ => exact ⟨_, _, rfl, rfl, trivial, trivial, .inl (by simp [btwV]; omega)⟩
        | 1, _ => exact ⟨_, _, rfl, rfl, trivial, trivial, .inl (by simp [btwV]; omega)⟩
        | 2, _ => exact ⟨_, _, rfl, rfl, trivial, trivial, .inl rfl⟩
        | 3, _ => exact ⟨_, _, rfl, rfl, trivial, trivial, .inr (by simp [okT, btwV]; omega)⟩
        | 4, _ => exact ⟨_, _, rfl, rfl, trivial, trivial, .inr (by simp [okT, btwV]; omega)⟩
      obtain ⟨x, y, ex, ey, fx, fy, hb⟩ := key
      exact ⟨x, ex, by decide, fun p1 hp1 => ⟨_, .of upd_same, y, ey, x, y, rfl, fx, fy, hb, q _ ((same_upd hp).trans (same_upd hp1))⟩⟩
    refine ite2 (fun _ => ⟨by decide, fun p hp => ⟨by decide, fun p1 hp1 => ⟨_, .of upd_same, ?_⟩⟩⟩) (fun _ => ?_)
    · have key : ∃ x, atI [V.int (1000001 + far), V.int (-1000001 - far), V.bl true, V.str (Str.ofString "1"), V.non] (k : Int) = some x ∧ Flat x ∧ okT x = false := by
        match k, hk with
        | 0, _ => exact ⟨_, rfl, trivial, by simp [okT, btwV]; omega⟩
        | 1, _ => exact ⟨_, rfl, trivial, by simp [okT, btwV]; omega⟩
        | 2, _ => exact ⟨_, rfl, trivial, rfl⟩
        | 3, _ => exact ⟨_, rfl, trivial, rfl⟩
        | 4, _ => exact ⟨_, rfl, trivial, rfl⟩
      obtain ⟨x, ex, fx, hx⟩ := key
      exact ⟨x, ex, _, x, rfl, .inr ⟨p, [1, 1], rfl, (same_upd hp1) _ _ upd_same, pat11, fx, hx, fun H' s' => q _ ((same_upd hp).trans ((same_upd hp1).trans s'))⟩⟩
    refine ite2 (fun _ => ⟨by decide, fun p hp => ⟨by decide, fun p1 hp1 => ⟨_, .of upd_same, ?_⟩⟩⟩) (fun _ => ?_)
    · have key : ∃ x, atI [V.int 2, V.int (1000001 + far), V.bl true, V.str (Str.ofString "1"), V.non] (k : Int) = some x ∧ Flat x ∧ (okT x = false ∨ ∃ z, x = .int z ∧ ¬ (∀ y ∈ [(999999 : Int), 1], inB (y + z))) := by
        match k, hk with
        | 0, _ => exact ⟨_, rfl, trivial, .inr ⟨2, rfl, fun z => absurd (z 999999 (by simp)) (by unfold inB; omega)⟩⟩
        | 1, _ => exact ⟨_, rfl, trivial, .inl (by simp [okT, btwV]; omega)⟩
        | 2, _ => exact ⟨_, rfl, trivial, .inl rfl⟩
        | 3, _ => exact ⟨_, rfl, trivial, .inl rfl⟩
        | 4, _ => exact ⟨_, rfl, trivial, .inl rfl⟩
      obtain ⟨x, ex, fx, hx⟩ := key
      exact ⟨x, ex, _, x, rfl, .inr ⟨p, [999999, 1], rfl, (same_upd hp1) _ _ upd_same, patA, fx, hx, fun H' s' => q _ ((same_upd hp).trans ((same_upd hp1).trans s'))⟩⟩
    refine ite2 (fun _ => ⟨by decide, fun p hp => ⟨by decide, fun p1 hp1 => ⟨_, .of upd_same, ?_⟩⟩⟩) (fun _ => ?_)
    · have key : ∃ x, atI [V.int 2, V.int (-1000001 - far), V.bl true, V.str (Str.ofString "1"), V.non] (k : Int) = some x ∧ Flat x ∧ (okT x = false ∨ ∃ z, x = .int z ∧ ¬ (∀ y ∈ gapL [-999999, 1] z, inB y)) := by
        match k, hk with
        | 0, _ => exact ⟨_, rfl, trivial, .inr ⟨2, rfl, fun z => absurd (z 1000001 (by decide)) (by unfold inB; omega)⟩⟩
        | 1, _ => exact ⟨_, rfl, trivial, .inl (by simp [okT, btwV]; omega)⟩
        | 2, _ => exact ⟨_, rfl, trivial, .inl rfl⟩
        | 3, _ => exact ⟨_, rfl, trivial, .inl rfl⟩
        | 4, _ => exact ⟨_, rfl, trivial, .inl rfl⟩
      obtain ⟨x, ex, fx, hx⟩ := key
      exact ⟨x, ex, _, x, rfl, .inr ⟨p, [-999999, 1], rfl, (same_upd hp1) _ _ upd_same, patB, fx, hx, fun H' s' => q _ ((same_upd hp).trans ((same_upd hp1).trans s'))⟩⟩
    refine ite2 (fun _ => ⟨by decide, fun p hp => ⟨by decide, fun p1 hp1 => ⟨_, .of upd_same, ?_⟩⟩⟩) (fun _ => ?_)
    · have key : ∃ x y, atI [V.int 0, V.int 1, V.int 2, V.int (-1), V.bl true] (k : Int) = some x ∧ atI [V.int 3, V.int 1, V.int 1, V.int 2, V.int 2] (k : Int) = some y ∧ Flat x ∧ Flat y ∧ (btwV x 0 ((([1, 1, 1] : List Int).length : Int) - 1) = false ∨ btwV y 0 ((([1, 1, 1] : List Int).length : Int) - 1) = false ∨ ∃ i j, x = .int i ∧ y = .int j ∧ j ≤ i) := by
        match k, hk with
        | 0, _ => exact ⟨_, _, rfl, rfl, trivial, trivial, .inr (.inl (by decide))⟩
        | 1, _ => exact ⟨_, _, rfl, rfl, trivial, trivial, .inr (.inr ⟨1, 1, rfl, rfl, by decide⟩)⟩
        | 2, _ => exact ⟨_, _, rfl, rfl, trivial, trivial, .inr (.inr ⟨2, 1, rfl, rfl, by decide⟩)⟩
        | 3, _ => exact ⟨_, _, rfl, rfl, trivial, trivial, .inl (by decide)⟩
        | 4, _ => exact ⟨_, _, rfl, rfl, trivial, trivial, .inl rfl⟩
      obtain ⟨x, y, ex, ey, fx, fy, hb⟩ := key
      exact ⟨x, ex, by decide, fun p2 hp2 => ⟨_, .of upd_same, y, ey, _, x, y, rfl, .inr ⟨p, [1, 1, 1], rfl, (same_upd hp2) _ _ ((same_upd hp1) _ _ upd_same), pat111, fx, fy, hb, fun H' s' => q _ ((same_upd hp).trans ((same_upd hp1).trans ((same_upd hp2).trans s')))⟩⟩⟩
    refine ite2 (fun _ => ⟨by decide, fun p hp => ⟨_, .of upd_same, ?_⟩⟩) (fun _ => ?_)
    · have key : ∃ x y, atI [V.int 0, V.int (7 + far), V.int 3, V.int 3, V.bl true] (k : Int) = some x ∧ atI [V.int 1, V.int 1, V.int (-1 - far), V.int (7 + far), V.int 1] (k : Int) = some y ∧ Flat x ∧ Flat y ∧ (btwV x 1 6 = false ∨ btwV y 0 6 = false) := by
        match k, hk with
        | 0, _ => exact ⟨_, _, rfl, rfl, trivial, trivial, .inl (by decide)⟩
        | 1, _ => exact ⟨_, _, rfl, rfl, trivial, trivial, .inl (by simp [btwV]; omega)⟩
        | 2, _ => exact ⟨_, _, rfl, rfl, trivial, trivial, .inr (by simp [btwV]; omega)⟩
        | 3, _ => exact ⟨_, _, rfl, rfl, trivial, trivial, .inr (by simp [btwV]; omega)⟩
        | 4, _ => exact ⟨_, _, rfl, rfl, trivial, trivial, .inl rfl⟩
      obtain ⟨x, y, ex, ey, fx, fy, hb⟩ := key
      exact ⟨x, ex, by decide, fun p1 hp1 => ⟨_, .of upd_same, y, ey, x, y, rfl, fx, fy, hb, q _ ((same_upd hp).trans (same_upd hp1))⟩⟩
    refine ite2 (fun _ => ⟨by decide, fun p hp => ⟨_, .of upd_same, ?_⟩⟩) (fun _ => ?_)
    · have key : ∃ x y, atI [V.int (-1), V.int (8 + far), V.int 3, V.bl true, V.int 3] (k : Int) = some x ∧ atI [V.int 3, V.int 3, V.int 0, V.int 3, V.int 11] (k : Int) = some y ∧ Flat x ∧ Flat y ∧ (btwV y 1 10 = false ∨ (y = .int 3 ∧ btwV x 0 7 = false)) := by
        match k, hk with
        | 0, _ => exact ⟨_, _, rfl, rfl, trivial, trivial, .inr ⟨rfl, by decide⟩⟩
        | 1, _ => exact ⟨_, _, rfl, rfl, trivial, trivial, .inr ⟨rfl, by simp [btwV]; omega⟩⟩
        | 2, _ => exact ⟨_, _, rfl, rfl, trivial, trivial, .inl (by decide)⟩
        | 3, _ => exact ⟨_, _, rfl, rfl, trivial, trivial, .inr ⟨rfl, rfl⟩⟩
        | 4, _ => exact ⟨_, _, rfl, rfl, trivial, trivial, .inl (by decide)⟩
      obtain ⟨x, y, ex, ey, fx, fy, hb⟩ := key
      exact ⟨x, ex, by decide, fun p1 hp1 => ⟨_, .of upd_same, y, ey, x, y, rfl, fx, fy, hb, q _ ((same_upd hp).trans (same_upd hp1))⟩⟩
    refine ite2 (fun _ => ⟨by decide, fun p hp => ⟨_, .of upd_same, ?_⟩⟩) (fun _ => ?_)
    · have key : ∃ x y, atI [V.int 1, V.int 1, V.int 2, V.str (Str.ofString "1"), V.int 1] (k : Int) = some x ∧ atI [V.int 1000001, V.bl true, V.int (-1000001), V.int 1, V.non] (k : Int) = some y ∧ Flat x ∧ Flat y ∧ (btwV x 1 60 = false ∨ okT y = false) := by
        match k, hk with
        | 0, _ => exact ⟨_, _, rfl, rfl, trivial, trivial, .inr (by decide)⟩
        | 1, _ => exact ⟨_, _, rfl, rfl, trivial, trivial, .inr rfl⟩
        | 2, _ => exact ⟨_, _, rfl, rfl, trivial, trivial, .inr (by decide)⟩
        | 3, _ => exact ⟨_, _, rfl, rfl, trivial, trivial, .inl rfl⟩
        | 4, _ => exact ⟨_, _, rfl, rfl, trivial, trivial, .inr rfl⟩
      obtain ⟨x, y, ex, ey, fx, fy, hb⟩ := key
      exact ⟨x, ex, by decide, fun p1 hp1 => ⟨_, .of upd_same, y, ey, x, y, rfl, fx, fy, hb, q _ ((same_upd hp).trans (same_upd hp1))⟩⟩
    refine ite2 (fun _ x0 dx0 hx0 hd0 ne0 => ?_) (fun _ => ?_)
    · refine mk2 hx0 hd0 fun G0 s0 e0 => ⟨rfl, fun x1 dx1 hx1 hd1 _ => mk1 hx1 hd1 fun G1 s1 e1 => ⟨rfl, fun x2 dx2 hx2 hd2 _ => mk1 hx2 hd2 fun G2 s2 e2 => ⟨rfl, fun x3 dx3 hx3 hd3 _ => mk1 hx3 hd3 fun G3 s3 e3 => ⟨rfl, fun x4 dx4 hx4 hd4 _ => mk1 hx4 hd4 fun G4 s4 e4 => ⟨rfl, by decide, fun p hp => ?_⟩⟩⟩⟩⟩
      have t4 := same_upd (o := HO.lst [V.ref x0, V.ref x1, V.ref x2, V.ref x3, V.ref x4]) hp
      have e4 := t4 _ _ e4
      have e3 := t4 _ _ (s4 _ _ e3)
      have e2 := t4 _ _ (s4 _ _ (s3 _ _ e2))
      have e1 := t4 _ _ (s4 _ _ (s3 _ _ (s2 _ _ e1)))
      have e0 := t4 _ _ (s4 _ _ (s3 _ _ (s2 _ _ (s1 _ _ e0))))
      have sf := s0.trans (s1.trans (s2.trans (s3.trans (s4.trans t4))))
      have el : upd G4 p (HO.lst [V.ref x0, V.ref x1, V.ref x2, V.ref x3, V.ref x4]) p = some (.lst [V.ref x0, V.ref x1, V.ref x2, V.ref x3, V.ref x4]) := upd_same
      generalize upd G4 p (HO.lst [V.ref x0, V.ref x1, V.ref x2, V.ref x3, V.ref x4]) = G at *
      refine ⟨_, .of el, ?_⟩
      clear s0 s1 s2 s3 s4 t4
      match k, hk with
      | 0, _ => exact ⟨_, rfl, x0, rfl, S.s, dx0, _, e0, rfl, _, .inr (.inr (.inr (.inr (.inr ⟨rfl, rfl⟩)))), by decide, fun r hr => ⟨x0, dx0, _, _, _, rfl, (same_upd hr) _ _ e0, _, _, _, rfl, .inr ⟨r, [1, 1], rfl, upd_same, pat11, trivial, trivial, .inr (.inl (by decide)), fun H' s' => q _ (sf.trans ((same_upd hr).trans s'))⟩⟩⟩
      | 1, _ => exact ⟨_, rfl, x1, rfl, S.t, dx1, _, e1, rfl, _, .inr (.inl ⟨rfl, rfl⟩), by decide, fun r hr => ⟨x1, dx1, _, _, rfl, (same_upd hr) _ _ e1, _, _, rfl, .inr ⟨r, [1, 1], rfl, upd_same, pat11, trivial, by simp [okT, btwV]; omega, fun H' s' => q _ (sf.trans ((same_upd hr).trans s'))⟩⟩⟩
      | 2, _ => exact ⟨_, rfl, x2, rfl, S.l, dx2, _, e2, rfl, _, .inr (.inr (.inl ⟨rfl, rfl⟩)), by decide, fun r hr => ⟨x2, dx2, _, _, rfl, (same_upd hr) _ _ e2, _, _, rfl, .inr ⟨r, [1, 1], rfl, upd_same, pat11, trivial, .inl rfl, fun H' s' => q _ (sf.trans ((same_upd hr).trans s'))⟩⟩⟩
      | 3, _ => exact ⟨_, rfl, x3, rfl, S.g, dx3, _, e3, rfl, _, .inr (.inr (.inr (.inr (.inl ⟨rfl, rfl⟩)))), by decide, fun r hr => ⟨x3, dx3, _, _, rfl, (same_upd hr) _ _ e3, _, _, rfl, .inr ⟨r, [1, 1], rfl, upd_same, pat11, trivial, .inl (by simp [okT, btwV]; omega), fun H' s' => q _ (sf.trans ((same_upd hr).trans s'))⟩⟩⟩
      | 4, _ => exact ⟨_, rfl, x4, rfl, S.n, dx4, _, e4, rfl, _, .inr (.inr (.inr (.inl ⟨rfl, rfl⟩))), by decide, fun r hr => ⟨x4, dx4, _, _, rfl, (same_upd hr) _ _ e4, _, _, rfl, .inr ⟨r, [1, 1], rfl, upd_same, pat11, trivial, .inl (by simp [btwV]; omega), fun H' s' => q _ (sf.trans ((same_upd hr).trans s'))⟩⟩⟩
    · refine ⟨by decide, fun p0 h0 => ⟨by decide, fun p1 h1 => ⟨by decide, fun p2 h2 => ⟨by decide, fun p3 h3 => ⟨by decide, fun p4 h4 => ⟨by decide, fun L hL => ⟨_, .of upd_same, ?_⟩⟩⟩⟩⟩⟩⟩
      have t5 := same_upd (o := HO.lst [V.ref p0, V.ref p1, V.ref p2, V.ref p3, V.ref p4]) hL
      have t4 := (same_upd (o := HO.lst [V.int 5]) h4).trans t5
      have t3 := (same_upd (o := HO.lst [V.int 2, V.int 2]) h3).trans t4
      have t2 := (same_upd (o := HO.lst [V.int 1, V.int 1]) h2).trans t3
      have t1 := (same_upd (o := HO.lst [V.int 1, V.int 1]) h1).trans t2
      have t0 := (same_upd (o := HO.lst [V.int 5]) h0).trans t1
      have c4 := t5 _ _ (upd_same (a := p4) (o := HO.lst [V.int 5]))
      have c3 := t4 _ _ (upd_same (a := p3) (o := HO.lst [V.int 2, V.int 2]))
      have c2 := t3 _ _ (upd_same (a := p2) (o := HO.lst [V.int 1, V.int 1]))
      have c1 := t2 _ _ (upd_same (a := p1) (o := HO.lst [V.int 1, V.int 1]))
      have c0 := t1 _ _ (upd_same (a := p0) (o := HO.lst [V.int 5]))
      generalize upd (upd (upd (upd (upd (upd H p0 (HO.lst [V.int 5])) p1 (HO.lst [V.int 1, V.int 1])) p2 (HO.lst [V.int 1, V.int 1])) p3 (HO.lst [V.int 2, V.int 2])) p4 (HO.lst [V.int 5])) L (HO.lst [V.ref p0, V.ref p1, V.ref p2, V.ref p3, V.ref p4]) = G at *
      clear t1 t2 t3 t4 t5
      have key : ∃ (a : Addr) (ns : List Int) (y : V), atI [V.ref p0, V.ref p1, V.ref p2, V.ref p3, V.ref p4] (k : Int) = some (.ref a) ∧ G a = some (.lst (ns.map V.int)) ∧ Pat ns ∧ atI [V.int 0, V.int 2, V.int (-1), V.bl true, V.int 1] (k : Int) = some y ∧ Flat y ∧ (btwV y 0 ((ns.length : Int) - 1) = false ∨ ns.length < 2) := by
        match k, hk with
        | 0, _ => exact ⟨p0, [5], _, rfl, c0, pat5, rfl, trivial, .inr (by decide)⟩
        | 1, _ => exact ⟨p1, [1, 1], _, rfl, c1, pat11, rfl, trivial, .inl (by decide)⟩
        | 2, _ => exact ⟨p2, [1, 1], _, rfl, c2, pat11, rfl, trivial, .inl (by decide)⟩
        | 3, _ => exact ⟨p3, [2, 2], _, rfl, c3, pat22, rfl, trivial, .inl rfl⟩
        | 4, _ => exact ⟨p4, [5], _, rfl, c4, pat5, rfl, trivial, .inl (by decide)⟩
      obtain ⟨a, ns, y, ea, ha, pa, ey, fy, hb⟩ := key
      exact ⟨_, ea, by decide, fun r hr => ⟨_, .of upd_same, y, ey, _, y, rfl, .inr ⟨a, ns, rfl, (same_upd hr) _ _ ha, pa, fy, hb, fun H' s' => q _ (t0.trans ((same_upd hr).trans s'))⟩⟩⟩
end
end Tb

namespace Tb
open PySem L2 TB
local macro_rules | `(tactic| walk_at "rd") => `(tactic| try simp only [rExtendT, rCount, iRevT, tSeq, tNext, tIfS, tRet, tRetN, tDrop, tAsg, gName, gNil, gCons, gSub, gTup, tVar, tC, tOp, tUn, rI, rI0, rU, rEq, rNe, tTest, tB, tChain, tChain3, rSortedB, rSortedP, rSortedD, rListD, rDictP, iDict, tThaw, rDClear, tDisp, tPairs, kit_dict_dict, rIndex, rIsX, rIsXT, rIsXd, rIsXV, rIsXTd, rIsO, rIxS2, rSlS, rFind, rIndexT, rLenT, rStrT, rIntT, rAddT, rMulT, rInT, iTxt, tx_str, tTxts, kit_str_str, rIn, tListRev, tAug, ipI, tAnd, tOr, tNot, tAndV, tOrV, tNotV, tIf, tIsN, tNotN, tCB, tNil, tCons, tTup, tLst, tTupG, tLstG, tCall, tRaise, tTryC, tXF, sXF, tRaiseI, tTryA, tTryE, thC, thA, thNil, Ends.less, tFor_eq, tComp_eq, iList, iTup, iRng1, iRng2, iEnum, iZip, tNoIf, rIxL, rIxT, rSetL, tBM, tBM0, rAppend, tFld, sFld, tMake, tMakeN, tMethD, tTryM, tNever, rExtend, rGeL, rInS, rClear, tDNewK, tDIn, tDNotIn, tDGet, sDPut, rEqL, rEqS, rBest, rRep, rCat, tSl, tPart, tNoPart, rSlL, capt, CDiv, scal_ii, scal_bb, scal_ss, scal_nn, scal_in, scal_ni, List.map_cons, List.map_nil, List.append_nil, List.nil_append, List.cons_append, List.length_cons, List.length_nil, List.length_map, Int.zero_add, List.getElem?_cons_zero, List.getElem?_cons_succ, List.set_cons_zero, List.set_cons_succ, Option.some.injEq, Option.join_some, Option.bind_some, Option.bind_none, V.int.injEq, V.bl.injEq, V.ref.injEq, V.str.injEq, V.ty.injEq, List.cons.injEq, and_true, true_and, exists_and_left, exists_eq_left', exists_eq_left, exists_eq_right, exists_eq_right', exists_eq, exists_eq', exists_const, eq_self, decide_true, decide_false, Option.isSome_none, Option.isSome_some, Bool.false_eq_true, Bool.not_true, Bool.not_false, reduceIte, reduceCtorEq, false_and, and_false, or_false, false_or, start_def, cxOf_K, cxComp_K, and_assoc, tyOf_int, kit_int_int, kit_int_bool, kit_list_list, rep0, rep1, rep2, rep3, rep4, rep5, rep6, rep7, rep8, rep9, rep10, rep11, rep12, rLen, rIsi, rListOf, rTupOf, rSum, rAll, rAny, rSorted, kit_tuple_tuple, Nat.sub_self, Nat.reduceAdd, Nat.reduceSub, Nat.reduceEqDiff])

/-- what the law asks of the classes of the refusals -/
structure X17 (K : PySem.W.Frag) (TE NAR CL OL OOB NP NT NW : Addr) : Prop where
  nd : [NAR, CL, OL, OOB].Nodup
  st : ∀ C ∈ [NAR, CL, OL, OOB], SubC K C TE true
  xi : ∀ C ∈ [NAR, CL, OL, OOB], XIs K C
  kit : ∀ C ∈ [NAR, CL, OL, OOB], ∀ D ∈ [NAR, CL, OL, OOB], PySem.W.kitOne K (.ref C) (.ref D) = some (decide (C = D))
  kv : ∀ C ∈ [NAR, CL, OL, OOB], PySem.W.kitOne K (.ref C) (.type "ValueError") = some true
  no : ∀ C ∈ [NAR, CL, OL, OOB], PySem.W.kitAny K (.ref C) ([NP, NT, NW].map Value.ref) = some false
  sc : ∀ C ∈ [NAR, CL, OL, OOB], ∀ D ∈ [NAR, CL, OL, OOB], SubC K C D (decide (C = D))
/-- the class of the refusals of a kind -/
def clsK (NAR CL OL OOB : Addr) : Nat → Addr
  | 0 => NAR
  | 1 => CL
  | 2 => OL
  | _ => OOB
theorem iteP {c A B : Prop} [Decidable c] (h : c) (a : A) : if c then A else B := by rw [if_pos h]; exact a
theorem iteN {c A B : Prop} [Decidable c] (h : ¬ c) (b : B) : if c then A else B := by rw [if_neg h]; exact b
theorem dictIn_same {H H' : Hp} {da : Option Addr} (h : DictIn H da) (s : Same H H') : DictIn H' da := fun dx e => let ⟨fs, z⟩ := h dx e; ⟨fs, s _ _ z⟩
theorem clsK_mem {NAR CL OL OOB : Addr} (k : Nat) : clsK NAR CL OL OOB k ∈ [NAR, CL, OL, OOB] := by
  unfold clsK
  split <;> simp
theorem dictIn_none {H : Hp} : DictIn H none := fun _ e => by cases e
section
variable {P : Program} {w : World} {K : PySem.W.Frag} {mg : Str → Option Value} {base : Heap}
theorem row3 (a b : Int) (ha : 0 ≤ a) (ha2 : a < 99) (hb : 0 ≤ b) (hb2 : b < 77) : Row [3 + 3 * a, 2 + 3 * b, 0] ∧ ¬ Pat [3 + 3 * a, 2 + 3 * b, 0] := by
  refine ⟨⟨(by show 1 ≤ 3; decide), (by show 3 ≤ 60; decide), fun x hx => ?_⟩, fun p => ?_⟩
  · simp only [List.mem_cons, List.not_mem_nil, or_false] at hx
    omega
  · have := p.inj 0 1 (by show 0 < 3; decide) (by show 1 < 3; decide) (by
      show ((0 : Nat) + (3 + 3 * a)) % ((3 : Nat) : Int) = ((1 : Nat) + (2 + 3 * b)) % ((3 : Nat) : Int)
      omega)
    cases this

abbrev s__law_ask : Stmt := top 80
theorem sc__law_ask : FnScope ["_law_kind", "_law_door", "_law_k", "_law_far"] ["_law_kind", "_law_door", "_law_k", "_law_far"] (defScope s__law_ask) := ⟨rfl, rfl, rfl, by decide +kernel, rfl, by decide +kernel, by decide +kernel⟩
def AskOk (kind door : Nat) : Prop := kind < 4 ∧ (kind = 0 → door < 25) ∧ (kind = 1 → door < 23) ∧ (kind = 2 → door < 5)
def spAsk (NAR CL OL OOB : Addr) : Sp := fun vs H _ E => ∃ kind door k far : Nat, vs = [.int kind, .int door, .int k, .int far] ∧ AskOk kind door ∧ ∀ H' da, Same H H' → DictIn H' da → E (.ref (clsK NAR CL OL OOB kind)) da H'
theorem ok_ask {f NAR CL OL OOB : Addr} {fd : FuncData} (h : Has K mg "_law_ask" s__law_ask ["_law_kind", "_law_door", "_law_k", "_law_far"] f fd) (B : Blt mg) (o__law_ask_change : Ok P w K mg base "_law_ask_change" ["_law_door", "_law_row"] 10 (spAskChange K NAR CL)) (o__law_ask_row : Ok P w K mg base "_law_ask_row" ["_law_door", "_law_row"] 10 (spAskRow K NAR CL)) (o__law_bad_row : Ok P w K mg base "_law_bad_row" ["_law_k", "_law_far"] 1 (spLawBad K)) (o_after : Ok P w K mg base "after" ["one", "other"] 7 (spAfter K NAR CL OL)) (o__law_ask_bounds : Ok P w K mg base "_law_ask_bounds" ["_law_door", "_law_k", "_law_far"] 10 (spAskBounds OOB)) : Ok P w K mg base "_law_ask" ["_law_kind", "_law_door", "_law_k", "_law_far"] 11 (spAsk NAR CL OL OOB) := by
  refine h.ok sc__law_ask (fun vs H Q E h => ?_) (fun cdv A outer s H vs Q E hr h => ?_)
  · obtain ⟨kind, door, k, far, rfl, _⟩ := h
    rfl
  · obtain ⟨kind, door, k, far, rfl, ⟨hk, h0, h1, h2⟩, q⟩ := h
    refine ⟨_, (pss_cons (ps_if (PW.pt (pw_and (pt_cmpR op_eq (pv 0) pe_int (nomark _)) (pw_and1 (pt_cmpR op_gt (pv 1) pe_int (nomark _))))) (pss_one (ps_ret (pe_callO o__law_ask_change (hr.mono (by decide)) rfl passX (pa_cons (pv 1) (pa_cons (pe_callO o__law_bad_row (hr.mono (by decide)) rfl passX (pa_cons (pv 2) (pa_cons (pv 3) pa_nil))) pa_nil))))) pss_nil)
      (pss_cons (ps_if (pt_cmpR op_eq (pv 0) pe_int (nomark _)) (pss_one (ps_ret (pe_callO o__law_ask_row (hr.mono (by decide)) rfl passX (pa_cons (pv 1) (pa_cons (pe_callO o__law_bad_row (hr.mono (by decide)) rfl passX (pa_cons (pv 2) (pa_cons (pv 3) pa_nil))) pa_nil))))) pss_nil)
      (pss_cons (ps_if (PW.pt (pw_and (pt_cmpR op_eq (pv 0) pe_int (nomark _)) (pw_and1 (pt_cmpR op_gt (pv 1) pe_int (nomark _))))) (pss_one (ps_ret (pe_callO o__law_ask_change (hr.mono (by decide)) rfl passX (pa_cons (pv 1) (pa_cons (pe_lst (pa_cons (pe_op op_add pe_int (pe_op op_mul pe_int (pe_op op_mod (pv 3) pe_int))) (pa_cons (pe_op op_add pe_int (pe_op op_mul pe_int (pe_op op_mod (pv 3) pe_int))) (pa_cons pe_int pa_nil)))) pa_nil))))) pss_nil)
      (pss_cons (ps_if (pt_cmpR op_eq (pv 0) pe_int (nomark _)) (pss_one (ps_ret (pe_callO o__law_ask_row (hr.mono (by decide)) rfl passX (pa_cons (pv 1) (pa_cons (pe_lst (pa_cons (pe_op op_add pe_int (pe_op op_mul pe_int (pe_op op_mod (pv 3) pe_int))) (pa_cons (pe_op op_add pe_int (pe_op op_mul pe_int (pe_op op_mod (pv 3) pe_int))) (pa_cons pe_int pa_nil)))) pa_nil))))) pss_nil)
      (pss_cons (ps_if (pt_cmpR op_eq (pv 0) pe_int (nomark _)) (pss_one (ps_ret (pe_callO o_after (hr.mono (by decide)) rfl passX (pa_cons (pe_comp (N' := ["_law_beat"]) (π := [none]) (CompScope.of (by kernel_rfl)) rfl (pi_range1 rfl B.range_ (pa_cons (pe_op op_add pe_int (pe_op op_mod (pv 2) pe_int)) pa_nil)) (fun _ _ _ _ _ => (pg_name (i := 0) (show List.Nodup (["_law_beat"] : List Str) by decide +kernel) rfl (by first | exact Or.inl rfl | exact Or.inr rfl))) (fun _ _ _ _ _ => pifs_nil) (fun _ _ _ _ _ => pe_int)) (pa_cons (pe_comp (N' := ["_law_beat"]) (π := [none]) (CompScope.of (by kernel_rfl)) rfl (pi_range1 rfl B.range_ (pa_cons (pe_op op_add pe_int (pv 1)) pa_nil)) (fun _ _ _ _ _ => (pg_name (i := 0) (show List.Nodup (["_law_beat"] : List Str) by decide +kernel) rfl (by first | exact Or.inl rfl | exact Or.inr rfl))) (fun _ _ _ _ _ => pifs_nil) (fun _ _ _ _ _ => pe_int)) pa_nil))))) pss_nil)
      (pss_one (ps_ret (pe_callO o__law_ask_bounds (hr.mono (by decide)) rfl passX (pa_cons (pv 1) (pa_cons (pe_op op_mod (pv 2) pe_int) (pa_cons (pv 3) pa_nil))))))))))), ?_⟩
    walk_at "rd"
    have kc : kind = 0 ∨ kind = 1 ∨ kind = 2 ∨ kind = 3 := by omega
    have f1 := Int.emod_nonneg (far : Int) (show (99 : Int) ≠ 0 by decide)
    have f2 := Int.emod_lt_of_pos (far : Int) (show (0 : Int) < 99 by decide)
    have f3 := Int.emod_nonneg (far : Int) (show (77 : Int) ≠ 0 by decide)
    have f4 := Int.emod_lt_of_pos (far : Int) (show (0 : Int) < 77 by decide)
    rcases kc with rfl | rfl | rfl | rfl
    · have qr : ∀ {H1 : Hp} {v : V}, Same H H1 → BadRow K H1 v → BadRow K H1 v ∧ ∀ H', Same H1 H' → E (.ref NAR) none H' := fun s1 b => ⟨b, fun H' s' => q _ _ (s1.trans s') dictIn_none⟩
      refine iteP (by decide) (ite2 (fun d14 => ⟨k, far, rfl, fun H1 v s1 b => ⟨door, v, rfl, of_decide_eq_true d14, .inl (qr s1 b), fun _ => qr s1 b⟩⟩) (fun _ => iteP (by decide) ⟨k, far, rfl, fun H1 v s1 b => ⟨door, v, rfl, .inl (qr s1 b)⟩⟩))
    · have qc : ∀ {p : Addr} (hp : H p = none), Refus K NAR CL (.ref p) (upd H p (HO.lst [V.int (3 + 3 * ((far : Int) % 99)), V.int (2 + 3 * ((far : Int) % 77)), V.int 0])) E := fun hp =>
        .inr ⟨⟨_, [3 + 3 * ((far : Int) % 99), 2 + 3 * ((far : Int) % 77), 0], rfl, upd_same, row3 _ _ f1 f2 f3 f4⟩, fun H' dx fs s' hd => q _ _ ((same_upd hp).trans s') fun dy e => by cases e; exact ⟨fs, hd⟩⟩
      have m3 : CMul 3 ((far : Int) % 99) := .inl ⟨by decide, by decide⟩
      have m4 : CMul 3 ((far : Int) % 77) := .inl ⟨by decide, by decide⟩
      refine iteN (by decide) (iteN (by decide) (iteP (by decide) (ite2 (fun d14 => ⟨by decide, m3, by decide, m4, by decide, fun p hp => ⟨door, _, rfl, of_decide_eq_true d14, qc hp, fun z => absurd (h1 rfl) (by omega)⟩⟩) (fun _ => iteP (by decide) ⟨by decide, m3, by decide, m4, by decide, fun p hp => ⟨door, _, rfl, qc hp⟩⟩))))
    · have d5 := h2 rfl
      have k0 := Int.emod_nonneg (k : Int) (show (5 : Int) ≠ 0 by decide)
      have k1 := Int.emod_lt_of_pos (k : Int) (show (0 : Int) < 5 by decide)
      refine iteN (by decide) (iteN (by decide) (iteN (by decide) (iteN (by decide) (iteP (by decide) ⟨by decide, by omega, by omega, ?_⟩))))
      obtain ⟨m, em, m1, m5⟩ : ∃ m : Nat, (1 + (k : Int) % 5).toNat = m ∧ 1 ≤ m ∧ m ≤ 5 := ⟨_, rfl, by omega, by omega⟩
      rw [em]
      refine comp_range (by omega) (fun i ys σ H2 => (∃ o, σ = [o]) ∧ H2 = H ∧ ys = (List.replicate i (1 : Int)).map V.int) ⟨⟨_, rfl⟩, rfl, rfl⟩ (fun i ys σ H2 p => ?_) (fun i ys σ H2 hi p => ?_) (fun ys σ H2 D p hD => ?_)
      · rw [p.2.2]; simp
      · obtain ⟨⟨o, rfl⟩, rfl, rfl⟩ := p
        walk_at "rd"
        rw [List.replicate_succ', List.map_append]
        rfl
      · obtain ⟨_, rfl, rfl⟩ := p
        refine ⟨by omega, by omega, ?_⟩
        obtain ⟨n, en, n6⟩ : ∃ n : Nat, (6 + (door : Int)).toNat = n ∧ n = 6 + door := ⟨_, rfl, by omega⟩
        rw [en]
        have hDD : upd H2 D (HO.lst ((List.replicate m (1 : Int)).map V.int)) D = some (.lst ((List.replicate m (1 : Int)).map V.int)) := upd_same
        have sD := same_upd (o := HO.lst ((List.replicate m (1 : Int)).map V.int)) hD
        generalize upd H2 D (HO.lst ((List.replicate m (1 : Int)).map V.int)) = H3 at *
        refine comp_range (by omega) (fun i ys σ H4 => (∃ o, σ = [o]) ∧ H4 = H3 ∧ ys = (List.replicate i (0 : Int)).map V.int) ⟨⟨_, rfl⟩, rfl, rfl⟩ (fun i ys σ H4 p => ?_) (fun i ys σ H4 hi p => ?_) (fun ys σ H4 D4 p hD4 => ?_)
        · rw [p.2.2]; simp
        · obtain ⟨⟨o, rfl⟩, rfl, rfl⟩ := p
          walk_at "rd"
          rw [List.replicate_succ', List.map_append]
          rfl
        · obtain ⟨_, rfl, rfl⟩ := p
          refine ⟨_, _, rfl, .inr ⟨D, List.replicate m 1, rfl, (same_upd hD4) _ _ hDD, even_pat m1 (by omega) ⟨by decide, by decide⟩, .inr ⟨D4, List.replicate n 0, rfl, upd_same, even_pat (by omega) (by omega) ⟨by decide, by decide⟩, by simp; omega, fun H' s' => q _ _ (sD.trans ((same_upd hD4).trans s')) dictIn_none⟩⟩⟩
    · have k0 := Int.emod_nonneg (k : Int) (show (5 : Int) ≠ 0 by decide)
      have k1 := Int.emod_lt_of_pos (k : Int) (show (0 : Int) < 5 by decide)
      obtain ⟨m, em⟩ := Int.eq_ofNat_of_zero_le k0
      refine iteN (by decide) (iteN (by decide) (iteN (by decide) (iteN (by decide) (iteN (by decide) ⟨by decide, door, m, far, by rw [em], by omega, fun H' s' => q _ _ s' dictIn_none⟩))))

abbrev s__law_told : Stmt := top 81
theorem sc__law_told : FnScope ["_law_kind", "_law_door", "_law_k", "_law_far", "error", "_law_found"] ["_law_kind", "_law_door", "_law_k", "_law_far"] (defScope s__law_told) := ⟨rfl, rfl, rfl, by decide +kernel, rfl, by decide +kernel, by decide +kernel⟩
def spTold : Sp := fun vs H Q _ => ∃ kind door k far : Nat, vs = [.int kind, .int door, .int k, .int far] ∧ AskOk kind door ∧ ∀ H' D, Same H H' → H' D = some (.lst ([decide (kind = 0), decide (kind = 1), decide (kind = 2), decide (kind = 3), true, false].map V.bl)) → Q (.ref D) H'
theorem ok_told {f TE NAR CL OL OOB NP NT NW : Addr} {fd : FuncData} (h : Has K mg "_law_told" s__law_told ["_law_kind", "_law_door", "_law_k", "_law_far"] f fd) (B : Blt mg) (b_ValueError : mg "ValueError" = none) (x17 : X17 K TE NAR CL OL OOB NP NT NW) (m_TossError : mg "TossError" = some (.ref TE)) (m_NotARow : mg "NotARow" = some (.ref NAR)) (m_Clash : mg "Clash" = some (.ref CL)) (m_OtherLength : mg "OtherLength" = some (.ref OL)) (m_OutOfBounds : mg "OutOfBounds" = some (.ref OOB)) (m_NotPlain : mg "NotPlain" = some (.ref NP)) (m_NoThrow : mg "NoThrow" = some (.ref NT)) (m_NotWritten : mg "NotWritten" = some (.ref NW)) (o__law_ask : Ok P w K mg base "_law_ask" ["_law_kind", "_law_door", "_law_k", "_law_far"] 11 (spAsk NAR CL OL OOB)) : Ok P w K mg base "_law_told" ["_law_kind", "_law_door", "_law_k", "_law_far"] 12 spTold := by
  refine h.ok sc__law_told (fun vs H Q E h => ?_) (fun cdv A outer s H vs Q E hr h => ?_)
  · obtain ⟨kind, door, k, far, rfl, _⟩ := h
    rfl
  · obtain ⟨kind, door, k, far, rfl, ok, q⟩ := h
    refine ⟨_, (pss_cons (ps_tryE isDef_cxOf o__law_ask (hr.mono (by decide)) rfl (fun _ => (pa_cons (pv 0) (pa_cons (pv 1) (pa_cons (pv 2) (pa_cons (pv 3) pa_nil))))) (ph_as (K := K) (i := 4) isDef_cxOf rfl rfl m_TossError sc__law_told.nd rfl rfl (fun _ => (pss_cons (ps_set (i := 5) sc__law_told.nd rfl (by first | exact Or.inl rfl | exact Or.inr rfl) (pe_lst (pa_cons (pe_callB (call_isXd (K := K) rfl) rfl B.isinstance_ bt_isinstance (pa_cons (pv 4) (pa_cons (pe_cls m_NotARow) pa_nil))) (pa_cons (pe_callB (call_isXd (K := K) rfl) rfl B.isinstance_ bt_isinstance (pa_cons (pv 4) (pa_cons (pe_cls m_Clash) pa_nil))) (pa_cons (pe_callB (call_isXd (K := K) rfl) rfl B.isinstance_ bt_isinstance (pa_cons (pv 4) (pa_cons (pe_cls m_OtherLength) pa_nil))) pa_nil)))))
      (pss_cons (ps_set (i := 5) sc__law_told.nd rfl (by first | exact Or.inl rfl | exact Or.inr rfl) (pe_op op_cat (pv 5) (pe_lst (pa_cons (pe_callB (call_isXd (K := K) rfl) rfl B.isinstance_ bt_isinstance (pa_cons (pv 4) (pa_cons (pe_cls m_OutOfBounds) pa_nil))) (pa_cons (pe_callB (call_isXV (K := K) rfl) rfl B.isinstance_ bt_isinstance (pa_cons (pv 4) (pa_cons (pe_tyN b_ValueError bt_ValueError) pa_nil))) pa_nil)))))
      (pss_one (ps_ret (pe_op op_cat (pv 5) (pe_lst (pa_cons (pe_callB (call_isXTd (K := K) rfl) rfl B.isinstance_ bt_isinstance (pa_cons (pv 4) (pa_cons (pe_tup (pa_cons (pe_cls m_NotPlain) (pa_cons (pe_cls m_NoThrow) (pa_cons (pe_cls m_NotWritten) pa_nil)))) pa_nil))) pa_nil)))))))) ph_nil))
      (pss_one (ps_ret (pe_lst pa_nil)))), ?_⟩
    walk_at "rd"
    refine ⟨kind, door, k, far, rfl, ok, fun H2 da s2 hd => ⟨_, rfl, true, x17.st _ (clsK_mem kind), ?_⟩⟩
    rw [if_pos rfl]
    intro a ha
    have hC := clsK_mem (NAR := NAR) (CL := CL) (OL := OL) (OOB := OOB) kind
    have mN : NAR ∈ [NAR, CL, OL, OOB] := by simp
    have mC : CL ∈ [NAR, CL, OL, OOB] := by simp
    have mL : OL ∈ [NAR, CL, OL, OOB] := by simp
    have mO : OOB ∈ [NAR, CL, OL, OOB] := by simp
    have cl0 : clsK NAR CL OL OOB kind = clsK NAR CL OL OOB kind := rfl
    generalize hc : clsK NAR CL OL OOB kind = C at *
    have sa := same_upd (o := excO a C da) ha
    have ea : upd H2 a (excO a C da) a = some (excO a C da) := upd_same
    have da' := dictIn_same hd sa
    generalize upd H2 a (excO a C da) = H3 at *
    have xi := x17.xi C hC
    refine ⟨C, da, ea, da', xi, _, x17.kit C hC NAR mN, C, da, ea, da', xi, _, x17.kit C hC CL mC, C, da, ea, da', xi, _, x17.kit C hC OL mL, by decide, fun p hp => ?_⟩
    have s4 := same_upd (o := HO.lst [V.bl (decide (C = NAR)), V.bl (decide (C = CL)), V.bl (decide (C = OL))]) hp
    have ep : upd H3 p (HO.lst [V.bl (decide (C = NAR)), V.bl (decide (C = CL)), V.bl (decide (C = OL))]) p = some (HO.lst [V.bl (decide (C = NAR)), V.bl (decide (C = CL)), V.bl (decide (C = OL))]) := upd_same
    have ea4 := s4 _ _ ea
    have da4 := dictIn_same da' s4
    generalize upd H3 p (HO.lst [V.bl (decide (C = NAR)), V.bl (decide (C = CL)), V.bl (decide (C = OL))]) = H4 at *
    refine ⟨C, da, ea4, da4, xi, _, x17.kit C hC OOB mO, C, da, ea4, da4, xi, _, x17.kv C hC, by decide, fun p1 hp1 => ⟨_, (same_upd hp1) _ _ ep, _, upd_same, (by show 3 + 2 ≤ sizeLine; decide), fun p2 hp2 => ⟨by decide, fun p3 hp3 => ?_⟩⟩⟩
    have e5 := (same_upd (o := HO.tup [V.ref NP, V.ref NT, V.ref NW]) hp3) _ _ (upd_same (a := p2))
    have s5 := (same_upd (o := HO.lst [V.bl (decide (C = OOB)), V.bl true]) hp1).trans ((same_upd (o := HO.lst ([V.bl (decide (C = NAR)), V.bl (decide (C = CL)), V.bl (decide (C = OL))] ++ [V.bl (decide (C = OOB)), V.bl true])) hp2).trans (same_upd (o := HO.tup [V.ref NP, V.ref NT, V.ref NW]) hp3))
    have et : ∀ {G : Hp}, upd G p3 (HO.tup [V.ref NP, V.ref NT, V.ref NW]) p3 = some (HO.tup ([NP, NT, NW].map V.ref)) := upd_same
    refine ⟨C, [NP, NT, NW], da, s5 _ _ ea4, dictIn_same da4 s5, et, xi, false, x17.no C hC, ?_⟩
    refine ⟨by decide, fun p4 hp4 => ⟨_, (same_upd hp4) _ _ e5, _, upd_same, (by show 5 + 1 ≤ sizeLine; decide), fun D hD => q _ D (s2.trans (sa.trans (s4.trans (s5.trans ((same_upd hp4).trans (same_upd hD)))))) ?_⟩⟩
    rw [upd_same]
    have nd := x17.nd
    simp only [List.nodup_cons, List.mem_cons, List.not_mem_nil, or_false, not_or, List.nodup_nil, and_true, not_false_eq_true] at nd
    obtain ⟨⟨n1, n2, n3⟩, ⟨n4, n5⟩, n6⟩ := nd
    have hk := ok.1
    have kc : kind = 0 ∨ kind = 1 ∨ kind = 2 ∨ kind = 3 := by omega
    clear q hr
    rcases kc with rfl | rfl | rfl | rfl
    · have : C = NAR := hc.symm
      subst this
      simp [n1, n2, n3]
    · have : C = CL := hc.symm
      subst this
      simp [Ne.symm n1, n4, n5]
    · have : C = OL := hc.symm
      subst this
      simp [Ne.symm n2, Ne.symm n4, n6]
    · have : C = OOB := hc.symm
      subst this
      simp [Ne.symm n3, Ne.symm n5, Ne.symm n6]
end
end Tb

namespace Tb
open PySem L2 TB
local macro_rules | `(tactic| walk_at "rd") => `(tactic| try simp only [rExtendT, rCount, iRevT, tSeq, tNext, tIfS, tRet, tRetN, tDrop, tAsg, gName, gNil, gCons, gSub, gTup, tVar, tC, tOp, tUn, rI, rI0, rU, rEq, rNe, tTest, tB, tChain, tChain3, rSortedB, rSortedP, rSortedD, rListD, rDictP, iDict, tThaw, rDClear, tDisp, tPairs, kit_dict_dict, rIndex, rIsX, rIsXT, rIsXd, rIsXV, rIsXTd, rIsO, rIxS2, rSlS, rFind, rIndexT, rLenT, rStrT, rIntT, rAddT, rMulT, rInT, iTxt, tx_str, tTxts, kit_str_str, rIn, tListRev, tAug, ipI, tAnd, tOr, tNot, tAndV, tOrV, tNotV, tIf, tIsN, tNotN, tCB, tNil, tCons, tTup, tLst, tTupG, tLstG, tCall, tRaise, tTryC, tXF, sXF, tRaiseI, tTryA, tTryE, thC, thA, thNil, Ends.less, tFor_eq, tComp_eq, iList, iTup, iRng1, iRng2, iEnum, iZip, tNoIf, rIxL, rIxT, rSetL, tBM, tBM0, rAppend, tFld, sFld, tMake, tMakeN, tMethD, tTryM, tNever, rExtend, rGeL, rInS, rClear, tDNewK, tDIn, tDNotIn, tDGet, sDPut, rEqL, rEqS, rBest, rRep, rCat, tSl, tPart, tNoPart, rSlL, capt, CDiv, scal_ii, scal_bb, scal_ss, scal_nn, scal_in, scal_ni, List.map_cons, List.map_nil, List.append_nil, List.nil_append, List.cons_append, List.length_cons, List.length_nil, List.length_map, Int.zero_add, List.getElem?_cons_zero, List.getElem?_cons_succ, List.set_cons_zero, List.set_cons_succ, Option.some.injEq, Option.join_some, Option.bind_some, Option.bind_none, V.int.injEq, V.bl.injEq, V.ref.injEq, V.str.injEq, V.ty.injEq, List.cons.injEq, and_true, true_and, exists_and_left, exists_eq_left', exists_eq_left, exists_eq_right, exists_eq_right', exists_eq, exists_eq', exists_const, eq_self, decide_true, decide_false, Option.isSome_none, Option.isSome_some, Bool.false_eq_true, Bool.not_true, Bool.not_false, reduceIte, reduceCtorEq, false_and, and_false, or_false, false_or, start_def, cxOf_K, cxComp_K, and_assoc, tyOf_int, kit_int_int, kit_int_bool, kit_list_list, rep0, rep1, rep2, rep3, rep4, rep5, rep6, rep7, rep8, rep9, rep10, rep11, rep12, rLen, rIsi, rListOf, rTupOf, rSum, rAll, rAny, rSorted, kit_tuple_tuple, Nat.sub_self, Nat.reduceAdd, Nat.reduceSub, Nat.reduceEqDiff])

section
variable {P : Program} {w : World} {K : PySem.W.Frag} {mg : Str → Option Value} {base : Heap}
def dueL (kind : Nat) : List Bool := [decide (kind = 0), decide (kind = 1), decide (kind = 2), decide (kind = 3), true, false]
theorem dp_bools {K : PySem.W.Frag} {H : Hp} : ∀ bs : List Bool, DpAll K H (bs.map V.bl) (bs.map PyData.bool)
  | [] => .nil
  | b :: r => .cons (.bl b) (dp_bools r)
theorem shaped_flat {ds : List PyData} (h1 : ∀ d ∈ ds, d.canLay0 = true) (h2 : ∀ d ∈ ds, d.depth ≤ 1) : SeqAt.shaped (.list ds) = true := by
  refine shaped_of ?_ ?_
  · rw [PyData.canLay0]
    exact canLayAll_of h1
  · simp only [PyData.depth]
    have := depthAll_of h2
    omega
theorem shaped_bools (bs : List Bool) : SeqAt.shaped (.list (bs.map PyData.bool)) = true := shaped_flat (fun d hd => by obtain ⟨b, _, rfl⟩ := List.mem_map.mp hd; rfl) (fun d hd => by obtain ⟨b, _, rfl⟩ := List.mem_map.mp hd; simp [PyData.depth])
theorem dp_strs {K : PySem.W.Frag} {H : Hp} : ∀ bs : List Str, DpAll K H (bs.map V.str) (bs.map PyData.str)
  | [] => .nil
  | b :: r => .cons (.str b) (dp_strs r)
def words : List Str := ["clash", "row", "clash", "length", "clash"]
def words2 : List Str := ["bounds", "bounds", "bounds", "bounds", "bounds"]
theorem shaped_words : SeqAt.shaped (.list ((words ++ words2).map PyData.str)) = true := by decide +kernel
theorem pat000 : Pat [0, 0, 0] := pat_fin ⟨by decide, by decide, by decide⟩ (by decide)
theorem pat1 : Pat [1] := pat_fin ⟨by decide, by decide, by decide⟩ (by decide)
/-- all but the place D is kept -/
def SameB (D : Addr) (G H : Hp) : Prop := ∀ b o, b ≠ D → G b = some o → H b = some o
theorem cast_dec (kind n : Nat) : decide ((kind : Int) = (n : Int)) = decide (kind = n) := by
  by_cases h : kind = n
  · rw [decide_eq_true h, decide_eq_true (by omega)]
  · rw [decide_eq_false h, decide_eq_false (by omega)]

abbrev s__law_all_right : Stmt := top 83
theorem sc__law_all_right : FnScope ["_law_kind", "_law_far", "_law_doors", "_law_ways", "_law_due", "_law_door", "_law_k"] ["_law_kind", "_law_far", "_law_doors", "_law_ways"] (defScope s__law_all_right) := ⟨rfl, rfl, rfl, by decide +kernel, rfl, by decide +kernel, by decide +kernel⟩
def spAllRight : Sp := fun vs H Q _ => ∃ kind far doors ways : Nat, vs = [.int kind, .int far, .int doors, .int ways] ∧ (∀ d, d < doors → AskOk kind d) ∧ doors ≤ 100 ∧ ways ≤ 100 ∧ ∀ H', Same H H' → Q (.bl true) H'
theorem ok_all_right {f : Addr} {fd : FuncData} (h : Has K mg "_law_all_right" s__law_all_right ["_law_kind", "_law_far", "_law_doors", "_law_ways"] f fd) (B : Blt mg) (o__law_told : Ok P w K mg base "_law_told" ["_law_kind", "_law_door", "_law_k", "_law_far"] 12 spTold) : Ok P w K mg base "_law_all_right" ["_law_kind", "_law_far", "_law_doors", "_law_ways"] 13 spAllRight := by
  refine h.ok sc__law_all_right (fun vs H Q E h => ?_) (fun cdv A outer s H vs Q E hr h => ?_)
  · obtain ⟨kind, far, doors, ways, rfl, _⟩ := h
    rfl
  · obtain ⟨kind, far, doors, ways, rfl, ok, d1, w1, q⟩ := h
    refine ⟨_, (pss_cons (ps_set (i := 4) sc__law_all_right.nd rfl (by first | exact Or.inl rfl | exact Or.inr rfl) (pe_lstG (pa_cons (pe_cmpR op_eq (pv 0) pe_int (nomark _)) (pa_cons (pe_cmpR op_eq (pv 0) pe_int (nomark _)) (pa_cons (pe_cmpR op_eq (pv 0) pe_int (nomark _)) (pa_cons (pe_cmpR op_eq (pv 0) pe_int (nomark _)) (pa_cons pe_bl (pa_cons pe_bl pa_nil))))))))
      (pss_cons (ps_for ownX rfl (pi_range1 rfl B.range_ (pa_cons (pv 2) pa_nil)) (pg_name (i := 5) sc__law_all_right.nd rfl (by first | exact Or.inl rfl | exact Or.inr rfl)) (pss_one (ps_for ownX rfl (pi_range1 rfl B.range_ (pa_cons (pv 3) pa_nil)) (pg_name (i := 6) sc__law_all_right.nd rfl (by first | exact Or.inl rfl | exact Or.inr rfl)) (pss_one (ps_if (pt_cmpR (op_neS (K := K) rfl hr.units) (pe_callO o__law_told (hr.mono (by decide)) rfl passX (pa_cons (pv 0) (pa_cons (pv 5) (pa_cons (pe_op op_add (pe_op op_add (pv 1) (pv 5)) (pv 6)) (pa_cons (pv 1) pa_nil))))) (pv 4) (nomark _)) (pss_one (ps_ret pe_bl)) pss_nil)))))
      (pss_one (ps_ret pe_bl)))), ?_⟩
    walk_at "rd"
    refine ⟨by decide, fun p G hp sG hG => ⟨by omega, by omega, ?_⟩⟩
    have hG' : G p = some (.lst ((dueL kind).map V.bl)) := by
      rw [hG]
      have c0 := cast_dec kind 0
      have c1 := cast_dec kind 1
      have c2 := cast_dec kind 2
      have c3 := cast_dec kind 3
      simp only [Int.natCast_zero, Int.natCast_one] at c0 c1
      rw [c0, c1, show ((3 : Int)) = ((3 : Nat) : Int) from rfl, c3, show ((2 : Int)) = ((2 : Nat) : Int) from rfl, c2]
      rfl
    clear hG
    rw [Int.toNat_natCast]
    refine for_range (fun i σ H1 => i ≤ doors ∧ (∃ o5 o6, σ = [some (V.int kind), some (V.int far), some (V.int doors), some (V.int ways), some (V.ref p), o5, o6]) ∧ Same G H1) ⟨Nat.zero_le _, ⟨_, _, rfl⟩, Same.refl _⟩ (fun i σ H1 hi pv => ?_) (fun σ H1 pv => ?_)
    · obtain ⟨_, ⟨o5, o6, rfl⟩, s1⟩ := pv
      walk_at "rd"
      refine ⟨by omega, by omega, ?_⟩
      rw [Int.toNat_natCast]
      refine for_range (fun j σ H2 => (∃ o6, σ = [some (V.int kind), some (V.int far), some (V.int doors), some (V.int ways), some (V.ref p), some (V.int i), o6]) ∧ Same G H2) ⟨⟨o6, by simp⟩, s1⟩ (fun j σ H2 hj pv => ?_) (fun σ H2 pv => ?_)
      · obtain ⟨⟨o6, rfl⟩, s2⟩ := pv
        walk_at "rd"
        refine ⟨kind, i, far + i + j, far, by simp, ok i hi, fun H3 D s3 hD => ?_⟩
        refine ⟨_, .lst (.of hD) (dp_bools _), .lst (.of (s3 _ _ (s2 _ _ hG'))) (dp_bools _), shaped_bools _, ?_⟩
        walk_at "rd"
        exact s2.trans s3
      · obtain ⟨⟨o6, rfl⟩, s2⟩ := pv
        exact ⟨hi, ⟨_, _, rfl⟩, s2⟩
    · obtain ⟨_, ⟨o5, o6, rfl⟩, s1⟩ := pv
      walk_at "rd"
      exact q _ (sG.trans s1)

abbrev s__law_two_bad : Stmt := top 82
theorem sc__law_two_bad : FnScope ["_law_more", "_law_clash", "_law_told_here", "_law_pair", "_law_some", "_law_change"] ["_law_more"] (defScope s__law_two_bad) := ⟨rfl, rfl, rfl, by decide +kernel, rfl, by decide +kernel, by decide +kernel⟩
def spTwoBad : Sp := fun vs H Q _ => ∃ far : Nat, vs = [.int far] ∧ ∀ H', Same H H' → Q (.bl true) H'
theorem ok_two_bad {f TE NAR CL OL OOB NP NT NW : Addr} {fd : FuncData} {S : Cs} (h : Has K mg "_law_two_bad" s__law_two_bad ["_law_more"] f fd) (B : Blt mg) (x17 : X17 K TE NAR CL OL OOB NP NT NW) (m_NotARow : mg "NotARow" = some (.ref NAR)) (m_Clash : mg "Clash" = some (.ref CL)) (m_OtherLength : mg "OtherLength" = some (.ref OL)) (m_OutOfBounds : mg "OutOfBounds" = some (.ref OOB)) (d_done : MsOk P w K mg base "done" 8 (DoneR K NAR CL OOB S))
    (mk_Turn : MkOk P w K mg base "Turn" S.t 1 (spSet1 S.t "k")) (mk_Lift : MkOk P w K mg base "Lift" S.l 1 (spSet1 S.l "k")) (mk_Swap : MkOk P w K mg base "Swap" S.s 1 (spSet2 S.s)) (mk_Neighbours : MkOk P w K mg base "Neighbours" S.n 1 (spSet1 S.n "k")) (mk_Gaps : MkOk P w K mg base "Gaps" S.g 1 (spSet1 S.g "h")) (o_after : Ok P w K mg base "after" ["one", "other"] 7 (spAfter K NAR CL OL)) : Ok P w K mg base "_law_two_bad" ["_law_more"] 13 spTwoBad := by
  refine h.ok sc__law_two_bad (fun vs H Q E h => ?_) (fun cdv A outer s H vs Q E hr h => ?_)
  · obtain ⟨far, rfl, _⟩ := h
    rfl
  · obtain ⟨far, rfl, q⟩ := h
    refine ⟨_, (pss_cons (ps_set (i := 1) sc__law_two_bad.nd rfl (by first | exact Or.inl rfl | exact Or.inr rfl) (pe_lstG (pa_cons (pe_op op_add pe_int (pe_op op_mul pe_int (pe_op op_mod (pv 0) pe_int))) (pa_cons pe_int (pa_cons pe_int pa_nil)))))
      (pss_cons (ps_set (i := 2) sc__law_two_bad.nd rfl (by first | exact Or.inl rfl | exact Or.inr rfl) (pe_lstG pa_nil))
      (pss_cons (ps_for ownX rfl (pi_listK (K := K) rfl (pe_lstG (pa_cons (pe_tupG (pa_cons (pv 1) (pa_cons pe_str pa_nil))) (pa_cons (pe_tupG (pa_cons (pe_lstG pa_nil) (pa_cons (pv 1) pa_nil))) (pa_cons (pe_tupG (pa_cons (pv 1) (pa_cons (pe_lstG (pa_cons pe_int pa_nil)) pa_nil))) (pa_cons (pe_tupG (pa_cons (pe_lstG (pa_cons pe_int (pa_cons pe_int (pa_cons pe_int pa_nil)))) (pa_cons (pe_lstG (pa_cons pe_int pa_nil)) pa_nil))) (pa_cons (pe_tupG (pa_cons (pe_lstG (pa_cons pe_int (pa_cons pe_int (pa_cons pe_int pa_nil)))) (pa_cons (pv 1) pa_nil))) pa_nil))))))) (pg_name (i := 3) sc__law_two_bad.nd rfl (by first | exact Or.inl rfl | exact Or.inr rfl)) (pss_one (ps_tryE isDef_cxOf o_after (hr.mono (by decide)) rfl (fun _ => (pa_cons (pe_ix (ix_tupK (K := K) rfl) (pv 3) pe_int (fun _ _ => rfl)) (pa_cons (pe_ix (ix_tupK (K := K) rfl) (pv 3) pe_int (fun _ _ => rfl)) pa_nil))) (ph_cons (K := K) isDef_cxOf rfl rfl m_Clash (fun _ => (pss_one (ps_expr (pe_bmK (K := K) rfl PySem.F.plainAttrs_list PySem.F.slot_list_append PySem.F.type_list_append mt_append (pv 2) (pa_cons pe_str pa_nil))))) (ph_cons (K := K) isDef_cxOf rfl rfl m_NotARow (fun _ => (pss_one (ps_expr (pe_bmK (K := K) rfl PySem.F.plainAttrs_list PySem.F.slot_list_append PySem.F.type_list_append mt_append (pv 2) (pa_cons pe_str pa_nil))))) (ph_cons (K := K) isDef_cxOf rfl rfl m_OtherLength (fun _ => (pss_one (ps_expr (pe_bmK (K := K) rfl PySem.F.plainAttrs_list PySem.F.slot_list_append PySem.F.type_list_append mt_append (pv 2) (pa_cons pe_str pa_nil))))) ph_nil))))))
      (pss_cons (ps_set (i := 4) sc__law_two_bad.nd rfl (by first | exact Or.inl rfl | exact Or.inr rfl) (pe_lstG (pa_cons (pe_makeK mk_Lift (hr.mono (by decide)) rfl passX (pa_cons pe_bl pa_nil)) (pa_cons (pe_makeK mk_Turn (hr.mono (by decide)) rfl passX (pa_cons pe_int pa_nil)) (pa_cons (pe_makeK mk_Swap (hr.mono (by decide)) rfl passX (pa_cons pe_int (pa_cons pe_int pa_nil))) (pa_cons (pe_makeK mk_Neighbours (hr.mono (by decide)) rfl passX (pa_cons (pe_un un_neg pe_int) pa_nil)) (pa_cons (pe_makeK mk_Gaps (hr.mono (by decide)) rfl passX (pa_cons (pe_op op_pow pe_int pe_int) pa_nil)) pa_nil)))))))
      (pss_cons (ps_for ownX rfl (pi_listK (K := K) rfl (pv 4)) (pg_name (i := 5) sc__law_two_bad.nd rfl (by first | exact Or.inl rfl | exact Or.inr rfl)) (pss_one (ps_tryM isDef_cxOf d_done (hr.mono (by decide)) (fun _ => (pv 5)) (fun _ => (pa_cons (pe_lstG (pa_cons pe_int (pa_cons pe_int pa_nil))) pa_nil)) (ph_cons (K := K) isDef_cxOf rfl rfl m_OutOfBounds (fun _ => (pss_one (ps_expr (pe_bmK (K := K) rfl PySem.F.plainAttrs_list PySem.F.slot_list_append PySem.F.type_list_append mt_append (pv 2) (pa_cons pe_str pa_nil))))) ph_nil))))
      (pss_one (ps_ret (pe_cmpR (op_eqS (K := K) rfl hr.units) (pv 2) (pe_op op_cat (pe_lstG (pa_cons pe_str (pa_cons pe_str (pa_cons pe_str (pa_cons pe_str (pa_cons pe_str pa_nil)))))) (pe_op op_rep (pe_lstG (pa_cons pe_str pa_nil)) pe_int)) (nomark _))))))))), ?_⟩
    walk_at "rd"
    have f1 := Int.emod_nonneg (far : Int) (show (9 : Int) ≠ 0 by decide)
    have f2 := Int.emod_lt_of_pos (far : Int) (show (0 : Int) < 9 by decide)
    refine ⟨by decide, .inl ⟨by decide, by decide⟩, by decide, fun pc G0 _ s0 e0 => ⟨by decide, fun D G1 hD s1 e1 => ⟨by decide, fun t0 G2 _ s2 e2 => ⟨by decide, fun n0 G3 hn0 s3 e3 => ⟨by decide, fun t1 G4 _ s4 e4 => ⟨by decide, fun l1 G5 _ s5 e5 => ⟨by decide, fun t2 G6 _ s6 e6 => ⟨by decide, fun z0 G7 _ s7 e7 => ⟨by decide, fun l2 G8 _ s8 e8 => ⟨by decide, fun t3 G9 _ s9 e9 => ⟨by decide, fun z1 G10 _ s10 e10 => ⟨by decide, fun t4 G11 _ s11 e11 => ⟨by decide, fun L G12 hL s12 e12 => ?_⟩⟩⟩⟩⟩⟩⟩⟩⟩⟩⟩⟩⟩
    have hnD : n0 ≠ D := fun z => by rw [z, s2 _ _ e1] at hn0; cases hn0
    have sA := s0
    have u12 : ∀ b o, G11 b = some o → G12 b = some o := s12
    have u11 : ∀ b o, G10 b = some o → G12 b = some o := s11.trans u12
    have u10 : ∀ b o, G9 b = some o → G12 b = some o := s10.trans u11
    have u9 : ∀ b o, G8 b = some o → G12 b = some o := s9.trans u10
    have u8 : ∀ b o, G7 b = some o → G12 b = some o := s8.trans u9
    have u7 : ∀ b o, G6 b = some o → G12 b = some o := s7.trans u8
    have u6 : ∀ b o, G5 b = some o → G12 b = some o := s6.trans u7
    have u5 : ∀ b o, G4 b = some o → G12 b = some o := s5.trans u6
    have u4 : ∀ b o, G3 b = some o → G12 b = some o := s4.trans u5
    have u3 : ∀ b o, G2 b = some o → G12 b = some o := s3.trans u4
    have u2 : ∀ b o, G1 b = some o → G12 b = some o := s2.trans u3
    have u1 : ∀ b o, G0 b = some o → G12 b = some o := s1.trans u2
    have e0 := u1 _ _ e0
    have e1 := u2 _ _ e1
    have e2 := u3 _ _ e2
    have e3 := u4 _ _ e3
    have e4 := u5 _ _ e4
    have e5 := u6 _ _ e5
    have e6 := u7 _ _ e6
    have e7 := u8 _ _ e7
    have e8 := u9 _ _ e8
    have e9 := u10 _ _ e9
    have e10 := u11 _ _ e10
    have e11 := u12 _ _ e11
    have sAll : Same H G12 := s0.trans u1
    have hDH : H D = none := s0.free hD
    clear u12 u11 u10 u9 u8 u7 u6 u5 u4 u3 u2 u1 s0 s1 s2 s3 s4 s5 s6 s7 s8 s9 s10 s11 s12 sA hD hn0
    have pC : Row [3 + 3 * ((far : Int) % 9), 2, 0] ∧ ¬ Pat [3 + 3 * ((far : Int) % 9), 2, 0] := row3 ((far : Int) % 9) 0 f1 (by omega) (by decide) (by decide)
    have neD : ∀ {b o}, G12 b = some o → o ≠ .lst [] → b ≠ D := fun e ne z => ne (by rw [z, e1] at e; exact (Option.some.inj e).symm)
    have mN : NAR ∈ [NAR, CL, OL, OOB] := by simp
    have mC : CL ∈ [NAR, CL, OL, OOB] := by simp
    have mL : OL ∈ [NAR, CL, OL, OOB] := by simp
    have mO : OOB ∈ [NAR, CL, OL, OOB] := by simp
    have nd := x17.nd
    simp only [List.nodup_cons, List.mem_cons, List.not_mem_nil, or_false, not_or, List.nodup_nil, and_true, not_false_eq_true] at nd
    obtain ⟨⟨n1, n2, n3⟩, ⟨n4, n5⟩, n6⟩ := nd
    have scCC : SubC K CL CL true := by have z := x17.sc CL mC CL mC; rwa [decide_eq_true rfl] at z
    have scNC : SubC K NAR CL false := by have z := x17.sc NAR mN CL mC; rwa [decide_eq_false n1] at z
    have scNN : SubC K NAR NAR true := by have z := x17.sc NAR mN NAR mN; rwa [decide_eq_true rfl] at z
    have scLC : SubC K OL CL false := by have z := x17.sc OL mL CL mC; rwa [decide_eq_false (Ne.symm n4)] at z
    have scLN : SubC K OL NAR false := by have z := x17.sc OL mL NAR mN; rwa [decide_eq_false (Ne.symm n2)] at z
    have scLL : SubC K OL OL true := by have z := x17.sc OL mL OL mL; rwa [decide_eq_true rfl] at z
    have scOO : SubC K OOB OOB true := by have z := x17.sc OOB mO OOB mO; rwa [decide_eq_true rfl] at z
    have small : ∀ (ws : List Str), ws.length ≤ 100 → (ws.map V.str).length < sizeLine := fun ws h => small1000 (by rw [List.length_map]; omega)
    refine ⟨⟨_, .of e12⟩, for_list (xs := [V.ref t0, V.ref t1, V.ref t2, V.ref t3, V.ref t4]) (fun i σ H1 => i ≤ 5 ∧ (∃ o3, σ = [some (V.int far), some (V.ref pc), some (V.ref D), o3, none, none]) ∧ SameB D G12 H1 ∧ H1 D = some (.lst ((words.take i).map V.str))) ⟨Nat.zero_le _, ⟨_, rfl⟩, fun b o _ e => e, e1⟩ (fun i σ H1 _ pv => .of (pv.2.2.1 _ _ (neD e12 (by intro z; cases z)) e12)) (fun i x σ H1 hx pv => ?_) (fun σ H1 pv => ?_)⟩
    · obtain ⟨_, ⟨o3, rfl⟩, sb, hD1⟩ := pv
      have sb2 : ∀ {H2 : Hp} {o : HO}, Same H1 H2 → SameB D G12 (upd H2 D o) := fun s2 b u hb e => by rw [upd_ne hb]; exact s2 _ _ (sb _ _ hb e)
      have k0 := sb _ _ (neD e0 (by intro z; cases z)) e0
      have k2 := sb _ _ (neD e2 (by intro z; cases z)) e2
      have k4 := sb _ _ (neD e4 (by intro z; cases z)) e4
      have k5 := sb _ _ (neD e5 (by intro z; cases z)) e5
      have k6 := sb _ _ (neD e6 (by intro z; cases z)) e6
      have k7 := sb _ _ (neD e7 (by intro z; cases z)) e7
      have k8 := sb _ _ (neD e8 (by intro z; cases z)) e8
      have k9 := sb _ _ (neD e9 (by intro z; cases z)) e9
      have k10 := sb _ _ (neD e10 (by intro z; cases z)) e10
      have k11 := sb _ _ (neD e11 (by intro z; cases z)) e11
      have hi : i < 5 := (List.getElem?_eq_some_iff.mp hx).1
      have sw : ((words.take i).map V.str).length < sizeLine := small _ (by rw [List.length_take]; omega)
      have cr : ∀ {E' : XK}, (∀ H2 dx fs, Same H1 H2 → H2 dx = some (HO.xd fs) → E' (.ref CL) (some dx) H2) → Refus K NAR CL (.ref pc) H1 E' := fun z => .inr ⟨⟨pc, [3 + 3 * ((far : Int) % 9), 2, 0], rfl, k0, pC⟩, z⟩
      match i, hi with
      | 0, _ =>
        cases hx
        walk_at "rd"
        exact ⟨_, .of k2, _, rfl, _, .of k2, _, rfl, _, _, rfl, .inl (cr fun H2 dx fs s2 _ => ⟨CL, rfl, true, scCC, iteP rfl ⟨.inl ⟨rfl, _, .of (s2 _ _ hD1)⟩, _, s2 _ _ hD1, sw, by decide, sb2 s2, by rw [upd_same]; rfl⟩⟩)⟩
      | 1, _ =>
        cases hx
        walk_at "rd"
        have k3 := sb _ _ hnD e3
        exact ⟨_, .of k4, _, rfl, _, .of k4, _, rfl, _, _, rfl, .inl (.inl ⟨.inr ⟨n0, [], rfl, k3, by simp, by simp, fun z => absurd z.1 (by decide)⟩, fun H2 s2 => ⟨NAR, rfl, false, scNC, iteN (by decide) ⟨true, scNN, iteP rfl ⟨.inl ⟨rfl, _, .of (s2 _ _ hD1)⟩, _, s2 _ _ hD1, sw, by decide, sb2 s2, by rw [upd_same]; rfl⟩⟩⟩⟩)⟩
      | 2, _ =>
        cases hx
        walk_at "rd"
        exact ⟨_, .of k6, _, rfl, _, .of k6, _, rfl, _, _, rfl, .inl (cr fun H2 dx fs s2 _ => ⟨CL, rfl, true, scCC, iteP rfl ⟨.inl ⟨rfl, _, .of (s2 _ _ hD1)⟩, _, s2 _ _ hD1, sw, by decide, sb2 s2, by rw [upd_same]; rfl⟩⟩)⟩
      | 3, _ =>
        cases hx
        walk_at "rd"
        exact ⟨_, .of k9, _, rfl, _, .of k9, _, rfl, _, _, rfl, .inr ⟨z0, [0, 0, 0], rfl, k7, pat000, .inr ⟨l2, [1], rfl, k8, pat1, by decide, fun H2 s2 => ⟨OL, rfl, false, scLC, iteN (by decide) ⟨false, scLN, iteN (by decide) ⟨true, scLL, iteP rfl ⟨.inl ⟨rfl, _, .of (s2 _ _ hD1)⟩, _, s2 _ _ hD1, sw, by decide, sb2 s2, by rw [upd_same]; rfl⟩⟩⟩⟩⟩⟩⟩
      | 4, _ =>
        cases hx
        walk_at "rd"
        exact ⟨_, .of k11, _, rfl, _, .of k11, _, rfl, _, _, rfl, .inr ⟨z1, [0, 0, 0], rfl, k10, pat000, .inl (cr fun H2 dx fs s2 _ => ⟨CL, rfl, true, scCC, iteP rfl ⟨.inl ⟨rfl, _, .of (s2 _ _ hD1)⟩, _, s2 _ _ hD1, sw, by decide, sb2 s2, by rw [upd_same]; rfl⟩⟩)⟩⟩
    · obtain ⟨_, ⟨o3, rfl⟩, sb, hD1⟩ := pv
      have hD1 : H1 D = some (.lst (words.map V.str)) := hD1
      walk_at "rd"
      refine fun x0 dx0 hx0 hd0 _ => mk1 hx0 hd0 fun F0 s0 e0 => ⟨rfl, fun x1 dx1 hx1 hd1 _ => mk1 hx1 hd1 fun F1 s1 e1' => ⟨rfl, fun x2 dx2 hx2 hd2 _ => mk2 hx2 hd2 fun F2 s2 e2 => ⟨rfl, fun x3 dx3 hx3 hd3 _ => mk1 hx3 hd3 fun F3 s3 e3 => ⟨rfl, ⟨by decide, by decide, by decide⟩, fun x4 dx4 hx4 hd4 _ => mk1 hx4 hd4 fun F4 s4 e4 => ⟨rfl, by decide, fun L2 F hL2 sF eF => ?_⟩⟩⟩⟩⟩
      have a4 := sF _ _ e4
      have a3 := sF _ _ (s4 _ _ e3)
      have a2 := sF _ _ (s4 _ _ (s3 _ _ e2))
      have a1 := sF _ _ (s4 _ _ (s3 _ _ (s2 _ _ e1')))
      have a0 := sF _ _ (s4 _ _ (s3 _ _ (s2 _ _ (s1 _ _ e0))))
      have sH : Same H1 F := s0.trans (s1.trans (s2.trans (s3.trans (s4.trans sF))))
      have aD := sH _ _ hD1
      have neD' : ∀ {b o}, F b = some o → (∀ xs, o ≠ .lst xs) → b ≠ D := fun e ne z => ne _ (by rw [z, aD] at e; exact (Option.some.inj e).symm)
      have nL : L2 ≠ D := fun z => by
        rw [z, s4 _ _ (s3 _ _ (s2 _ _ (s1 _ _ (s0 _ _ hD1))))] at hL2
        cases hL2
      clear s0 s1 s2 s3 s4 sF e0 e1' e2 e3 e4 hL2
      refine ⟨⟨_, .of eF⟩, for_list (xs := [V.ref x0, V.ref x1, V.ref x2, V.ref x3, V.ref x4]) (fun i σ H2 => i ≤ 5 ∧ (∃ o5, σ = [some (V.int far), some (V.ref pc), some (V.ref D), o3, some (V.ref L2), o5]) ∧ SameB D F H2 ∧ H2 D = some (.lst ((words ++ words2.take i).map V.str))) ⟨Nat.zero_le _, ⟨_, rfl⟩, fun b o _ e => e, aD⟩ (fun i σ H2 _ pv => .of (pv.2.2.1 _ _ nL eF)) (fun i x σ H2 hx pv => ?_) (fun σ H2 pv => ?_)⟩
      · obtain ⟨_, ⟨o5, rfl⟩, sb2, hD2⟩ := pv
        have k0 := sb2 _ _ (neD' a0 (by intro xs z; cases z)) a0
        have k1 := sb2 _ _ (neD' a1 (by intro xs z; cases z)) a1
        have k2 := sb2 _ _ (neD' a2 (by intro xs z; cases z)) a2
        have k3 := sb2 _ _ (neD' a3 (by intro xs z; cases z)) a3
        have k4 := sb2 _ _ (neD' a4 (by intro xs z; cases z)) a4
        have hi : i < 5 := (List.getElem?_eq_some_iff.mp hx).1
        have sw : ((words ++ words2.take i).map V.str).length < sizeLine := small _ (by rw [List.length_append, List.length_take]; show 5 + _ ≤ _; omega)
        have sb3 : ∀ {H3 : Hp} {o : HO}, Same H2 H3 → SameB D F (upd H3 D o) := fun s3 b u hb e => by rw [upd_ne hb]; exact s3 _ _ (sb2 _ _ hb e)
        match i, hi with
        | 0, _ =>
          cases hx
          walk_at "rd"
          exact ⟨S.l, dx0, _, k0, rfl, _, .inr (.inr (.inl ⟨rfl, rfl⟩)), by decide, fun p G hp sG eG => ⟨x0, dx0, _, _, rfl, sG _ _ k0, _, _, rfl, .inr ⟨p, [1, 1], rfl, eG, pat11, trivial, .inl rfl, fun H3 s3 => ⟨OOB, rfl, true, scOO, iteP rfl ⟨.inl ⟨rfl, _, .of (s3 _ _ (sG _ _ hD2))⟩, _, s3 _ _ (sG _ _ hD2), sw, by decide, sb3 (sG.trans s3), by rw [upd_same]; rfl⟩⟩⟩⟩⟩
        | 1, _ =>
          cases hx
          walk_at "rd"
          exact ⟨S.t, dx1, _, k1, rfl, _, .inr (.inl ⟨rfl, rfl⟩), by decide, fun p G hp sG eG => ⟨x1, dx1, _, _, rfl, sG _ _ k1, _, _, rfl, .inr ⟨p, [1, 1], rfl, eG, pat11, trivial, by decide, fun H3 s3 => ⟨OOB, rfl, true, scOO, iteP rfl ⟨.inl ⟨rfl, _, .of (s3 _ _ (sG _ _ hD2))⟩, _, s3 _ _ (sG _ _ hD2), sw, by decide, sb3 (sG.trans s3), by rw [upd_same]; rfl⟩⟩⟩⟩⟩
        | 2, _ =>
          cases hx
          walk_at "rd"
          exact ⟨S.s, dx2, _, k2, rfl, _, .inr (.inr (.inr (.inr (.inr ⟨rfl, rfl⟩)))), by decide, fun p G hp sG eG => ⟨x2, dx2, _, _, _, rfl, sG _ _ k2, _, _, _, rfl, .inr ⟨p, [1, 1], rfl, eG, pat11, trivial, trivial, .inl (by decide), fun H3 s3 => ⟨OOB, rfl, true, scOO, iteP rfl ⟨.inl ⟨rfl, _, .of (s3 _ _ (sG _ _ hD2))⟩, _, s3 _ _ (sG _ _ hD2), sw, by decide, sb3 (sG.trans s3), by rw [upd_same]; rfl⟩⟩⟩⟩⟩
        | 3, _ =>
          cases hx
          walk_at "rd"
          exact ⟨S.n, dx3, _, k3, rfl, _, .inr (.inr (.inr (.inl ⟨rfl, rfl⟩))), by decide, fun p G hp sG eG => ⟨x3, dx3, _, _, rfl, sG _ _ k3, _, _, rfl, .inr ⟨p, [1, 1], rfl, eG, pat11, trivial, .inl (by decide), fun H3 s3 => ⟨OOB, rfl, true, scOO, iteP rfl ⟨.inl ⟨rfl, _, .of (s3 _ _ (sG _ _ hD2))⟩, _, s3 _ _ (sG _ _ hD2), sw, by decide, sb3 (sG.trans s3), by rw [upd_same]; rfl⟩⟩⟩⟩⟩
        | 4, _ =>
          cases hx
          walk_at "rd"
          exact ⟨S.g, dx4, _, k4, rfl, _, .inr (.inr (.inr (.inr (.inl ⟨rfl, rfl⟩)))), by decide, fun p G hp sG eG => ⟨x4, dx4, _, _, rfl, sG _ _ k4, _, _, rfl, .inr ⟨p, [1, 1], rfl, eG, pat11, trivial, .inl (by decide), fun H3 s3 => ⟨OOB, rfl, true, scOO, iteP rfl ⟨.inl ⟨rfl, _, .of (s3 _ _ (sG _ _ hD2))⟩, _, s3 _ _ (sG _ _ hD2), sw, by decide, sb3 (sG.trans s3), by rw [upd_same]; rfl⟩⟩⟩⟩⟩
      · obtain ⟨_, ⟨o5, rfl⟩, sb2, hD2⟩ := pv
        walk_at "rd"
        refine ⟨by decide, fun p G _ sG eG => ⟨by decide, fun p1 G1 _ sG1 eG1 => ⟨_, eG1, by decide, by decide, by decide, fun p2 hp2 => ⟨_, (same_upd hp2) _ _ (sG1 _ _ eG), _, upd_same, by decide, fun p3 hp3 => ?_⟩⟩⟩⟩
        have st := sG.trans (sG1.trans ((same_upd (o := HO.lst (List.replicate (Int.toNat 5) [V.str (Str.ofString "bounds")]).flatten) hp2).trans (same_upd (o := HO.lst ([V.str (Str.ofString "clash"), V.str (Str.ofString "row"), V.str (Str.ofString "clash"), V.str (Str.ofString "length"), V.str (Str.ofString "clash")] ++ (List.replicate (Int.toNat 5) [V.str (Str.ofString "bounds")]).flatten)) hp3)))
        refine ⟨_, .lst (.of (st _ _ hD2)) (dp_strs _), .lst (.of upd_same) (dp_strs (words ++ words2)), shaped_words, q _ fun b o e => ?_⟩
        have nb : b ≠ D := fun z => by rw [z, hDH] at e; cases e
        exact st _ _ (sb2 _ _ nb (sH _ _ (sb _ _ nb (sAll _ _ e))))
end
end Tb

namespace Tb
open PySem L2 TB
local macro_rules | `(tactic| walk_at "rd") => `(tactic| try simp only [rExtendT, rCount, iRevT, tSeq, tNext, tIfS, tRet, tRetN, tDrop, tAsg, gName, gNil, gCons, gSub, gTup, tVar, tC, tOp, tUn, rI, rI0, rU, rEq, rNe, tTest, tB, tChain, tChain3, rSortedB, rSortedP, rSortedD, rListD, rDictP, iDict, tThaw, rDClear, tDisp, tPairs, kit_dict_dict, rIndex, rIsX, rIsXT, rIsXd, rIsXV, rIsXTd, rIsO, rIxS2, rSlS, rFind, rIndexT, rLenT, rStrT, rIntT, rAddT, rMulT, rInT, iTxt, tx_str, tTxts, kit_str_str, rIn, tListRev, tAug, ipI, tAnd, tOr, tNot, tAndV, tOrV, tNotV, tIf, tIsN, tNotN, tCB, tNil, tCons, tTup, tLst, tTupG, tLstG, tCall, tRaise, tTryC, tXF, sXF, tRaiseI, tTryA, tTryE, thC, thA, thNil, Ends.less, tFor_eq, tComp_eq, iList, iTup, iRng1, iRng2, iEnum, iZip, tNoIf, rIxL, rIxT, rSetL, tBM, tBM0, rAppend, tFld, sFld, tMake, tMakeN, tMethD, tTryM, tNever, rExtend, rGeL, rInS, rClear, tDNewK, tDIn, tDNotIn, tDGet, sDPut, rEqL, rEqS, rBest, rRep, rCat, tSl, tPart, tNoPart, rSlL, capt, CDiv, scal_ii, scal_bb, scal_ss, scal_nn, scal_in, scal_ni, List.map_cons, List.map_nil, List.append_nil, List.nil_append, List.cons_append, List.length_cons, List.length_nil, List.length_map, Int.zero_add, List.getElem?_cons_zero, List.getElem?_cons_succ, List.set_cons_zero, List.set_cons_succ, Option.some.injEq, Option.join_some, Option.bind_some, Option.bind_none, V.int.injEq, V.bl.injEq, V.ref.injEq, V.str.injEq, V.ty.injEq, List.cons.injEq, and_true, true_and, exists_and_left, exists_eq_left', exists_eq_left, exists_eq_right, exists_eq_right', exists_eq, exists_eq', exists_const, eq_self, decide_true, decide_false, Option.isSome_none, Option.isSome_some, Bool.false_eq_true, Bool.not_true, Bool.not_false, reduceIte, reduceCtorEq, false_and, and_false, or_false, false_or, start_def, cxOf_K, cxComp_K, and_assoc, tyOf_int, kit_int_int, kit_int_bool, kit_list_list, rep0, rep1, rep2, rep3, rep4, rep5, rep6, rep7, rep8, rep9, rep10, rep11, rep12, rLen, rIsi, rListOf, rTupOf, rSum, rAll, rAny, rSorted, kit_tuple_tuple, Nat.sub_self, Nat.reduceAdd, Nat.reduceSub, Nat.reduceEqDiff])

section
variable {P : Program} {w : World} {K : PySem.W.Frag} {mg : Str → Option Value} {base : Heap}
theorem pat531 : Pat [5, 3, 1] := pat_fin ⟨by decide, by decide, by decide⟩ (by decide)
theorem row541 : Row [5, 4, 1] := ⟨by decide, by decide, by decide⟩
theorem meet541 : Meet [5, 4, 1] 0 1 := ⟨by decide, by decide, by decide, fun i' j' h1 h2 => by omega⟩
theorem npat541 : ¬ Pat [5, 4, 1] := fun p => meet541.not_pat p

abbrev s__law_cell_at : Stmt := top 75
theorem sc__law_cell_at : FnScope ["_law_script", "_law_k"] ["_law_script", "_law_k"] (defScope s__law_cell_at) := ⟨rfl, rfl, rfl, by decide +kernel, rfl, by decide +kernel, by decide +kernel⟩
def spCellAt (K : PySem.W.Frag) : Sp := fun vs H Q _ => ∃ (a : Addr) (ns : List Int) (i : Nat), vs = [.ref a, .int i] ∧ SqL K H a (ns.map V.int) ∧ ∀ v : Int, Q (.int v) H
theorem ok_cell_at {f : Addr} {fd : FuncData} (h : Has K mg "_law_cell_at" s__law_cell_at ["_law_script", "_law_k"] f fd) (B : Blt mg) : Ok P w K mg base "_law_cell_at" ["_law_script", "_law_k"] 2 (spCellAt K) := by
  refine h.ok sc__law_cell_at (fun vs H Q E h => ?_) (fun cdv A outer s H vs Q E hr h => ?_)
  · obtain ⟨a, ns, i, rfl, _⟩ := h
    rfl
  · obtain ⟨a, ns, i, rfl, ha, q⟩ := h
    refine ⟨_, (pss_cons (ps_if (pt_cmpR op_lt (pv 1) (pe_callB (call_len_seqK (K := K) rfl) rfl B.len_ bt_len (pa_cons (pv 0) pa_nil)) (nomark _)) (pss_one (ps_ret (pe_ix (ix_listK (K := K) rfl) (pv 0) (pv 1) (fun _ _ => rfl)))) pss_nil)
      (pss_one (ps_ret pe_int))), ?_⟩
    walk_at "rd"
    refine ⟨_, .inl ha, ?_⟩
    walk_at "rd"
    refine ite2 (fun hi => ⟨_, ha, _, atI_nat (j := i) (v := .int (ns.getD i 0)) ?_, q _⟩) (fun _ => q 0)
    have hi' : i < ns.length := by simpa using hi
    rw [List.getElem?_map, getD_some hi']
    rfl

abbrev s_law : Stmt := top 84
theorem sc_law : FnScope ["_law_script", "_law_far"] ["_law_script"] (defScope s_law) := ⟨rfl, rfl, rfl, by decide +kernel, rfl, by decide +kernel, by decide +kernel⟩
def spLaw (K : PySem.W.Frag) : Sp := fun vs H Q _ => ∃ (a : Addr) (ns : List Int), vs = [.ref a] ∧ SqL K H a (ns.map V.int) ∧ ∀ H', Q (.bl true) H'
theorem ok_law {f NAR CL : Addr} {fd : FuncData} (h : Has K mg "law" s_law ["_law_script"] f fd) (B : Blt mg) (o__law_cell_at : Ok P w K mg base "_law_cell_at" ["_law_script", "_law_k"] 2 (spCellAt K)) (o__law_all_right : Ok P w K mg base "_law_all_right" ["_law_kind", "_law_far", "_law_doors", "_law_ways"] 13 spAllRight) (o__law_two_bad : Ok P w K mg base "_law_two_bad" ["_law_more"] 13 spTwoBad) (o_balls_of : Ok P w K mg base "balls_of" ["pattern"] 7 (spBallsOf K NAR CL)) (o_clash_of : Ok P w K mg base "clash_of" ["row"] 5 (spClash2 K NAR)) :
    FnOk P w K mg base (CXf P w) 14 f fd ["_law_script"] (spLaw K) := by
  refine h.fn.okX sc_law (fun vs H Q E h => ?_) (fun cdv A outer s H vs Q E hr h => ?_)
  · obtain ⟨a, ns, rfl, _⟩ := h
    rfl
  · obtain ⟨a, ns, rfl, ha, q⟩ := h
    refine ⟨_, (pss_cons (ps_for ownX rfl (pi_listK (K := K) rfl (pe_lstG (pa_cons pe_int (pa_cons (pe_op op_mod (pe_callO o__law_cell_at (hr.mono (by decide)) rfl passX (pa_cons (pv 0) (pa_cons pe_int pa_nil))) (pe_op op_pow pe_int pe_int)) pa_nil)))) (pg_name (i := 1) sc_law.nd rfl (by first | exact Or.inl rfl | exact Or.inr rfl)) (pss_cons (ps_if (PW.pt (pw_or (pt_not (pt_val (pe_callO o__law_all_right (hr.mono (by decide)) rfl passX (pa_cons pe_int (pa_cons (pv 1) (pa_cons pe_int (pa_cons pe_int pa_nil))))))) (pw_or1 (pt_not (pt_val (pe_callO o__law_all_right (hr.mono (by decide)) rfl passX (pa_cons pe_int (pa_cons (pv 1) (pa_cons pe_int (pa_cons pe_int pa_nil)))))))))) (pss_one (ps_ret pe_bl)) pss_nil)
      (pss_cons (ps_if (PW.pt (pw_or (pt_not (pt_val (pe_callO o__law_all_right (hr.mono (by decide)) rfl passX (pa_cons pe_int (pa_cons (pv 1) (pa_cons pe_int (pa_cons pe_int pa_nil))))))) (pw_or1 (pt_not (pt_val (pe_callO o__law_all_right (hr.mono (by decide)) rfl passX (pa_cons pe_int (pa_cons (pv 1) (pa_cons pe_int (pa_cons pe_int pa_nil)))))))))) (pss_one (ps_ret pe_bl)) pss_nil)
      (pss_one (ps_if (PW.pt (pw_or (pt_not (pt_val (pe_callO o__law_two_bad (hr.mono (by decide)) rfl passX (pa_cons (pv 1) pa_nil)))) (pw_or (pt_cmpR op_ne (pe_callO o_balls_of (hr.mono (by decide)) rfl passX (pa_cons (pe_lstG (pa_cons pe_int (pa_cons pe_int (pa_cons pe_int pa_nil)))) pa_nil)) pe_int (nomark _)) (pw_or1 (pt_cmpR (op_neS (K := K) rfl hr.units) (pe_callO o_clash_of (hr.mono (by decide)) rfl passX (pa_cons (pe_lstG (pa_cons pe_int (pa_cons pe_int (pa_cons pe_int pa_nil)))) pa_nil)) (pe_tupG (pa_cons pe_int (pa_cons pe_int pa_nil))) (nomark _)))))) (pss_one (ps_ret pe_bl)) pss_nil)))))
      (pss_one (ps_ret pe_bl))), ?_⟩
    walk_at "rd"
    refine ⟨a, ns, 0, rfl, ha, fun v0 => ?_⟩
    walk_at "rd"
    refine ⟨⟨by decide, by decide, by decide⟩, by decide, by decide, fun p G _ sG eG => ?_⟩
    have r0 := Int.emod_nonneg v0 (show (10 ^ Int.toNat 6 : Int) ≠ 0 by decide)
    obtain ⟨m, em⟩ := Int.eq_ofNat_of_zero_le r0
    rw [em] at eG
    have ok0 : ∀ d, d < 25 → AskOk 0 d := fun d hd => ⟨by decide, fun _ => hd, fun z => (by cases z), fun z => by cases z⟩
    have ok1 : ∀ d, d < 23 → AskOk 1 d := fun d hd => ⟨by decide, fun z => (by cases z), fun _ => hd, fun z => by cases z⟩
    have ok2 : ∀ d, d < 5 → AskOk 2 d := fun d hd => ⟨by decide, fun z => (by cases z), fun z => (by cases z), fun _ => hd⟩
    have ok3 : ∀ d, d < 10 → AskOk 3 d := fun d hd => ⟨by decide, fun z => (by cases z), fun z => (by cases z), fun z => by cases z⟩
    refine ⟨⟨_, .of eG⟩, for_list (xs := [V.int 0, V.int (m : Nat)]) (fun i σ H1 => (∃ o, σ = [some (V.ref a), o]) ∧ Same G H1) ⟨⟨_, rfl⟩, Same.refl _⟩ (fun i σ H1 _ pv => .of (pv.2 _ _ eG)) (fun i x σ H1 hx pv => ?_) (fun σ H1 pv => ?_)⟩
    · obtain ⟨⟨o, rfl⟩, s1⟩ := pv
      obtain ⟨far, rfl⟩ : ∃ far : Nat, x = V.int far := by
        match i, hx with
        | 0, hx => cases hx; exact ⟨0, rfl⟩
        | 1, hx => cases hx; exact ⟨m, rfl⟩
        | i + 2, hx => simp at hx
      walk_at "rd"
      refine ⟨0, far, 25, 3, rfl, ok0, by decide, by decide, fun H2 s2 => ?_⟩
      walk_at "rd"
      refine ⟨1, far, 23, 1, rfl, ok1, by decide, by decide, fun H3 s3 => ?_⟩
      walk_at "rd"
      refine ⟨2, far, 5, 1, rfl, ok2, by decide, by decide, fun H4 s4 => ?_⟩
      walk_at "rd"
      refine ⟨3, far, 10, 5, rfl, ok3, by decide, by decide, fun H5 s5 => ?_⟩
      walk_at "rd"
      refine ⟨far, rfl, fun H6 s6 => ?_⟩
      walk_at "rd"
      refine ⟨by decide, fun p1 G1 _ sg1 eg1 => ⟨_, rfl, .inr ⟨p1, [5, 3, 1], rfl, eg1, pat531, fun H7 s7 => ?_⟩⟩⟩
      rw [show (([5, 3, 1] : List Int).sum / (([5, 3, 1] : List Int).length : Int)) = 3 by decide]
      walk_at "rd"
      refine ⟨by decide, fun p2 G2 _ sg2 eg2 => ⟨_, rfl, .inr ⟨p2, [5, 4, 1], rfl, eg2, row541, fun z => absurd z npat541, fun i j mt H8 T s8 _ hT => ?_⟩⟩⟩
      obtain ⟨rfl, rfl⟩ := mt.uniq meet541
      refine ⟨by decide, fun p3 G3 _ sg3 eg3 => ⟨.tuple [.int 0, .int 1], .tup (.of (sg3 _ _ hT)) (.cons (.int _) (.cons (.int _) .nil)), .tup (.of eg3) (.cons (.int _) (.cons (.int _) .nil)), rfl, ?_⟩⟩
      exact s1.trans (s2.trans (s3.trans (s4.trans (s5.trans (s6.trans (sg1.trans (s7.trans (sg2.trans (s8.trans sg3)))))))))
    · obtain ⟨⟨o, rfl⟩, s1⟩ := pv
      walk_at "rd"
      exact q _
end
end Tb

namespace Tb
open PySem L2 TB
theorem walk {l : PySem.W.OpenLaw} {q : Program} {loose : List Str} {XP : (Str → Option Value) → Heap → Prop} {YP : World → Heap → Prop} {d : DefRec} {K : Params → PySem.W.Frag} (hn : l.most = some 63) (hdf : d.params.defaults = [])
    (hY : ∀ (w : World) (h : Heap), YP w h → (K w.params).In h)
    (F : ∀ (w : World) (mg : Str → Option Value) (fa : Addr) (h : Heap), (K w.params).In h → h.Ns mainGlobals mg → mg d.name = some (.ref fa) →
      ∃ fd : FuncData, (∀ (s : Shared) (u : Value), BindsTo s fd ⟨[u], []⟩ [("_law_script", u)]) ∧ ∀ base : Heap, (K w.params).In base → base.Ns mainGlobals mg → FnOk l.prog w (K w.params) mg base (CXf l.prog w) 14 fa fd ["_law_script"] (spLaw (K w.params))) :
    PySem.W.WalkO q loose XP YP l.row.toRowW d [] (fun f vs => PySem.call f vs) :=
  L2.walk_of (n := 63) (k := 14) (x := "_law_script") (CX := fun w => CXf l.prog w) (sp := fun w => spLaw (K w.params)) hn (by decide) hdf ⟨rfl, by decide, by decide⟩ hY F (fun _ _ a ns _ _ hS => ⟨a, ns, rfl, hS, fun _ => rfl⟩) fun _ _ _ _ _ z => cxf_no z
theorem bind1 {K : PySem.W.Frag} {mg : Str → Option Value} {x : Str} {st : Stmt} {p : Str} {f : Addr} {fd : FuncData} (h : Has K mg x st [p] f fd) (hp : ∀ (kV doc pm : Value) (an : Option Addr) (cdv ct : Value) (u : Value), bindArgs (PySem.W.fnOf x x (defArgs st) (defBody st) (defScope st) .none kV doc pm an cdv ct) ⟨[u], []⟩ = pure [(p, u)]) (s : Shared) (u : Value) : BindsTo s fd ⟨[u], []⟩ [(p, u)] := by
  obtain ⟨oc, od, kV, doc, pm, an, cdv, ct, osl, rfl, lk, hcd⟩ := h.fn.ex
  exact .of_eq (hp kV doc pm an cdv ct u)
/-- what the top has written of the class with its own __init__ -/
def ClashIs (K : PySem.W.Frag) (mg : Str → Option Value) : Prop := ∃ (CL CB fi : Addr) (fdi : FuncData), mg "Clash" = some (.ref CL) ∧ InitX K CL fi ∧ Fun K "__init__" "Clash.__init__" s_Clash___init__ fi fdi ∧ Binds K fdi ["self", "beats"] [] ∧ XCls K CL CB ∧ NoX K CL "beats" ∧ SubC K CL CL true
theorem clash_mk {K : PySem.W.Frag} {h : Heap} {mg : Str → Option Value} {CL CB fi N : Addr} {nm qn : Str} {bs : List Value} {sn : List Str} {sub : List Value} {ab : Bool} {col : Option Bool} {dd : Option Addr} {k0 k1 k2 k3 k5 : Option Value} {oc kV doc pm cd ct : Value} {od an : Option Addr} {sl : Array (Option Value)}
    (X : K.In h) (G : h.Ns mainGlobals mg) (a : PySem.W.nsIn K mainGlobals "Clash" = some (some (.ref CL)))
    (lC : K.lookup CL = some (excClassObj nm qn CL N bs [.ref CB, .type "ValueError", .type "Exception", .type "BaseException", .type "object"] true sn sub ab col dd k0 k1 k2 k3 k5 "ValueError.__new__"))
    (xB : PySem.W.excIn K CB [.type "ValueError", .type "Exception", .type "BaseException", .type "object"] "ValueError.__new__" = true)
    (kC : PySem.W.keepIn K (.ref CL) = true) (ini : PySem.W.findIn K (.ref CL) "__init__" = some (some (.ref fi))) (fn : PySem.W.typeIn K (.ref fi) = some (.type "function"))
    (l : K.lookup fi = some ⟨oc, od, .func (PySem.W.fnOf "__init__" "Clash.__init__" (defArgs s_Clash___init__) (defBody s_Clash___init__) (defScope s_Clash___init__) .none kV doc pm an cd ct), sl⟩) (c : PySem.W.codeIn K cd "Clash.__init__" = true) (k : PySem.W.keepIn K (.ref fi) = true)
    (ga : PySem.W.findIn K (.ref CL) "__getattribute__" = some (some (.builtin "BaseException.__getattribute__"))) (gt : PySem.W.findIn K (.ref CL) "__getattr__" = some none) (sa : PySem.W.findIn K (.ref CL) "__setattr__" = some (some (.builtin "object.__setattr__"))) (nb : PySem.W.findIn K (.ref CL) "beats" = some none)
    (hb : ∀ (kV doc pm : Value) (an : Option Addr) (cdv ct : Value) (us : List Value), us.length = ["self", "beats"].length → bindArgs (PySem.W.fnOf "__init__" "Clash.__init__" (defArgs s_Clash___init__) (defBody s_Clash___init__) (defScope s_Clash___init__) .none kV doc pm an cdv ct) ⟨us, []⟩ = pure ((["self", "beats"] : List Str).zip us)) : ClashIs K mg := by
  have tl : PySem.W.tailIn K [.type "ValueError", .type "Exception", .type "BaseException", .type "object"] [.ref CB, .type "ValueError", .type "Exception", .type "BaseException", .type "object"] = true := by
    unfold PySem.W.excIn at xB
    split at xB
    · rename_i dB cB slB hoB
      split at xB
      · simp only [Bool.and_eq_true, beq_iff_eq, Bool.not_eq_true'] at xB
        unfold PySem.W.tailIn
        simp only [hoB, xB.1.2, xB.2, Bool.true_and, beq_self_eq_true, Bool.or_eq_true]
        refine .inr ?_
        unfold PySem.W.tailIn
        rfl
      · cases xB
    · cases xB
  have F := fun_mk (x := "__init__") (qual := "Clash.__init__") (st := s_Clash___init__) l c k
  have cx : ClsX K CL _ := ⟨nm, qn, N, bs, _, sn, sub, ab, col, dd, k0, k1, k2, k3, k5, lC, rfl⟩
  refine ⟨CL, CB, fi, _, PySem.W.mg_of X G a, ⟨kC, ini, fn, nm, qn, N, bs, _, _, sn, sub, ab, col, dd, k0, k1, k2, k3, k5, lC, tl⟩, F, F.binds hb, ⟨ga, gt, sa, ?_⟩, nb, ⟨_, cx, by simp⟩, _, cx⟩
  exact ⟨_, show PySem.W.clsIn K CL = _ by unfold PySem.W.clsIn; rw [lC], rfl, rfl⟩
theorem mro_x {K : PySem.W.Frag} {C N : Addr} {nm qn : Str} {bs bm : List Value} {hd : Bool} {sn : List Str} {sub : List Value} {ab : Bool} {col : Option Bool} {dd : Option Addr} {k0 k1 k2 k3 k5 : Option Value} {i : String} (l : K.lookup C = some (excClassObj nm qn C N bs bm hd sn sub ab col dd k0 k1 k2 k3 k5 i)) (v : Value) : PySem.W.mroIn K C v = some ((Value.ref C :: bm).contains v) := by
  unfold PySem.W.mroIn PySem.W.clsIn
  rw [l]
  rfl
theorem cls_x {K : PySem.W.Frag} {C N : Addr} {nm qn : Str} {bs bm : List Value} {hd : Bool} {sn : List Str} {sub : List Value} {ab : Bool} {col : Option Bool} {dd : Option Addr} {k0 k1 k2 k3 k5 : Option Value} {i : String} (l : K.lookup C = some (excClassObj nm qn C N bs bm hd sn sub ab col dd k0 k1 k2 k3 k5 i)) : (PySem.W.clsIn K C).isSome = true := by
  unfold PySem.W.clsIn
  rw [l]
  rfl
theorem kit_x {K : PySem.W.Frag} {C D N M : Addr} {nm qn nm' qn' : Str} {bs bm bs' bm' : List Value} {hd hd' : Bool} {sn sn' : List Str} {sub sub' : List Value} {ab ab' : Bool} {col col' : Option Bool} {dd dd' : Option Addr} {k0 k1 k2 k3 k5 j0 j1 j2 j3 j5 : Option Value} {i i' : String} (l : K.lookup C = some (excClassObj nm qn C N bs bm hd sn sub ab col dd k0 k1 k2 k3 k5 i)) (l' : K.lookup D = some (excClassObj nm' qn' D M bs' bm' hd' sn' sub' ab' col' dd' j0 j1 j2 j3 j5 i')) (t : PySem.W.typeIn K (.ref D) = some (.type "type")) (b : Bool) (hb : (Value.ref C :: bm).contains (.ref D) = b) : PySem.W.kitOne K (.ref C) (.ref D) = some b := by
  unfold PySem.W.kitOne
  by_cases e : C = D
  · subst e
    rw [if_pos (by simp)]
    rw [← hb]
    simp
  · rw [if_neg (by simpa using e)]
    unfold PySem.W.kitCls
    dsimp only
    rw [cls_x l', t]
    unfold PySem.W.subIn
    dsimp only
    rw [mro_x l, hb]
    rfl
theorem kit_v {K : PySem.W.Frag} {TE C N : Addr} {nm qn : Str} {bs : List Value} {hd : Bool} {sn : List Str} {sub : List Value} {ab : Bool} {col : Option Bool} {dd : Option Addr} {k0 k1 k2 k3 k5 : Option Value} {i : String} (l : K.lookup C = some (excClassObj nm qn C N bs [.ref TE, .type "ValueError", .type "Exception", .type "BaseException", .type "object"] hd sn sub ab col dd k0 k1 k2 k3 k5 i)) : PySem.W.kitOne K (.ref C) (.type "ValueError") = some true := by
  unfold PySem.W.kitOne
  rw [if_neg (by simp)]
  unfold PySem.W.kitCls
  dsimp only
  rw [show PySem.W.kitMeta "ValueError" = true by decide +kernel, if_pos rfl]
  unfold PySem.W.subIn
  dsimp only
  rw [mro_x l]
  simp
theorem has_x {TE C D : Addr} (h1 : D ≠ TE) : (Value.ref C :: ([.ref TE, .type "ValueError", .type "Exception", .type "BaseException", .type "object"] : List Value)).contains (.ref D) = decide (C = D) := by
  by_cases e : C = D
  · subst e
    simp
  · simp [e, Ne.symm e, h1]
theorem has_te {TE C : Addr} : (Value.ref C :: ([.ref TE, .type "ValueError", .type "Exception", .type "BaseException", .type "object"] : List Value)).contains (.ref TE) = true := by simp
def X17Is (K : PySem.W.Frag) (mg : Str → Option Value) : Prop := ∃ TE NAR CL OL OOB NP NT NW : Addr, mg "TossError" = some (.ref TE) ∧ mg "NotARow" = some (.ref NAR) ∧ mg "Clash" = some (.ref CL) ∧ mg "OtherLength" = some (.ref OL) ∧ mg "OutOfBounds" = some (.ref OOB) ∧ mg "NotPlain" = some (.ref NP) ∧ mg "NoThrow" = some (.ref NT) ∧ mg "NotWritten" = some (.ref NW) ∧ X17 K TE NAR CL OL OOB NP NT NW
theorem x17_mk {K : PySem.W.Frag} {h : Heap} {mg : Str → Option Value} {TE NAR CL OL OOB NP NT NW : Addr} {nmTE qnTE : Str} {NTE : Addr} {bsTE : List Value} {hdTE : Bool} {snTE : List Str} {subTE : List Value} {abTE : Bool} {colTE : Option Bool} {ddTE : Option Addr} {k0TE k1TE k2TE k3TE k5TE : Option Value} {nmNAR qnNAR : Str} {NNAR : Addr} {bsNAR : List Value} {hdNAR : Bool} {snNAR : List Str} {subNAR : List Value} {abNAR : Bool} {colNAR : Option Bool} {ddNAR : Option Addr} {k0NAR k1NAR k2NAR k3NAR k5NAR : Option Value} {nmCL qnCL : Str} {NCL : Addr} {bsCL : List Value} {hdCL : Bool} {snCL : List Str} {subCL : List Value} {abCL : Bool} {colCL : Option Bool} {ddCL : Option Addr} {k0CL k1CL k2CL k3CL k5CL : Option Value} {nmOL qnOL : Str} {NOL : Addr} {bsOL : List Value} {hdOL : Bool} {snOL : List Str} {subOL : List Value} {abOL : Bool} {colOL : Option Bool} {ddOL : Option Addr} {k0OL k1OL k2OL k3OL k5OL : Option Value} {nmOOB qnOOB : Str} {NOOB : Addr} {bsOOB : List Value} {hdOOB : Bool} {snOOB : List Str} {subOOB : List Value} {abOOB : Bool} {colOOB : Option Bool} {ddOOB : Option Addr} {k0OOB k1OOB k2OOB k3OOB k5OOB : Option Value} {nmNP qnNP : Str} {NNP : Addr} {bsNP : List Value} {hdNP : Bool} {snNP : List Str} {subNP : List Value} {abNP : Bool} {colNP : Option Bool} {ddNP : Option Addr} {k0NP k1NP k2NP k3NP k5NP : Option Value} {nmNT qnNT : Str} {NNT : Addr} {bsNT : List Value} {hdNT : Bool} {snNT : List Str} {subNT : List Value} {abNT : Bool} {colNT : Option Bool} {ddNT : Option Addr} {k0NT k1NT k2NT k3NT k5NT : Option Value} {nmNW qnNW : Str} {NNW : Addr} {bsNW : List Value} {hdNW : Bool} {snNW : List Str} {subNW : List Value} {abNW : Bool} {colNW : Option Bool} {ddNW : Option Addr} {k0NW k1NW k2NW k3NW k5NW : Option Value}
    (X : K.In h) (G : h.Ns mainGlobals mg)
    (yTE : PySem.W.nsIn K mainGlobals "TossError" = some (some (.ref TE)))
    (yNAR : PySem.W.nsIn K mainGlobals "NotARow" = some (some (.ref NAR)))
    (yCL : PySem.W.nsIn K mainGlobals "Clash" = some (some (.ref CL)))
    (yOL : PySem.W.nsIn K mainGlobals "OtherLength" = some (some (.ref OL)))
    (yOOB : PySem.W.nsIn K mainGlobals "OutOfBounds" = some (some (.ref OOB)))
    (yNP : PySem.W.nsIn K mainGlobals "NotPlain" = some (some (.ref NP)))
    (yNT : PySem.W.nsIn K mainGlobals "NoThrow" = some (some (.ref NT)))
    (yNW : PySem.W.nsIn K mainGlobals "NotWritten" = some (some (.ref NW)))
    (lTE : K.lookup TE = some (excClassObj nmTE qnTE TE NTE bsTE [.type "ValueError", .type "Exception", .type "BaseException", .type "object"] hdTE snTE subTE abTE colTE ddTE k0TE k1TE k2TE k3TE k5TE "ValueError.__new__"))
    (tTE : PySem.W.typeIn K (.ref TE) = some (.type "type"))
    (lNAR : K.lookup NAR = some (excClassObj nmNAR qnNAR NAR NNAR bsNAR [.ref TE, .type "ValueError", .type "Exception", .type "BaseException", .type "object"] hdNAR snNAR subNAR abNAR colNAR ddNAR k0NAR k1NAR k2NAR k3NAR k5NAR "ValueError.__new__"))
    (tNAR : PySem.W.typeIn K (.ref NAR) = some (.type "type"))
    (lCL : K.lookup CL = some (excClassObj nmCL qnCL CL NCL bsCL [.ref TE, .type "ValueError", .type "Exception", .type "BaseException", .type "object"] hdCL snCL subCL abCL colCL ddCL k0CL k1CL k2CL k3CL k5CL "ValueError.__new__"))
    (tCL : PySem.W.typeIn K (.ref CL) = some (.type "type"))
    (lOL : K.lookup OL = some (excClassObj nmOL qnOL OL NOL bsOL [.ref TE, .type "ValueError", .type "Exception", .type "BaseException", .type "object"] hdOL snOL subOL abOL colOL ddOL k0OL k1OL k2OL k3OL k5OL "ValueError.__new__"))
    (tOL : PySem.W.typeIn K (.ref OL) = some (.type "type"))
    (lOOB : K.lookup OOB = some (excClassObj nmOOB qnOOB OOB NOOB bsOOB [.ref TE, .type "ValueError", .type "Exception", .type "BaseException", .type "object"] hdOOB snOOB subOOB abOOB colOOB ddOOB k0OOB k1OOB k2OOB k3OOB k5OOB "ValueError.__new__"))
    (tOOB : PySem.W.typeIn K (.ref OOB) = some (.type "type"))
    (lNP : K.lookup NP = some (excClassObj nmNP qnNP NP NNP bsNP [.ref TE, .type "ValueError", .type "Exception", .type "BaseException", .type "object"] hdNP snNP subNP abNP colNP ddNP k0NP k1NP k2NP k3NP k5NP "ValueError.__new__"))
    (tNP : PySem.W.typeIn K (.ref NP) = some (.type "type"))
    (lNT : K.lookup NT = some (excClassObj nmNT qnNT NT NNT bsNT [.ref TE, .type "ValueError", .type "Exception", .type "BaseException", .type "object"] hdNT snNT subNT abNT colNT ddNT k0NT k1NT k2NT k3NT k5NT "ValueError.__new__"))
    (tNT : PySem.W.typeIn K (.ref NT) = some (.type "type"))
    (lNW : K.lookup NW = some (excClassObj nmNW qnNW NW NNW bsNW [.ref TE, .type "ValueError", .type "Exception", .type "BaseException", .type "object"] hdNW snNW subNW abNW colNW ddNW k0NW k1NW k2NW k3NW k5NW "ValueError.__new__"))
    (tNW : PySem.W.typeIn K (.ref NW) = some (.type "type"))
    (cn : PySem.W.specialIn K (.builtin "object.__class__") "__get__" = some (some (.builtin "getset_descriptor.__get__")))
    (ct : PySem.W.takesIn K (.builtin "object.__class__") = some true)
    (gaNAR : PySem.W.findIn K (.ref NAR) "__getattribute__" = some (some (.builtin "BaseException.__getattribute__")))
    (gtNAR : PySem.W.findIn K (.ref NAR) "__getattr__" = some none)
    (caNAR : PySem.W.findIn K (.ref NAR) "__class__" = some (some (.builtin "object.__class__")))
    (gaCL : PySem.W.findIn K (.ref CL) "__getattribute__" = some (some (.builtin "BaseException.__getattribute__")))
    (gtCL : PySem.W.findIn K (.ref CL) "__getattr__" = some none)
    (caCL : PySem.W.findIn K (.ref CL) "__class__" = some (some (.builtin "object.__class__")))
    (gaOL : PySem.W.findIn K (.ref OL) "__getattribute__" = some (some (.builtin "BaseException.__getattribute__")))
    (gtOL : PySem.W.findIn K (.ref OL) "__getattr__" = some none)
    (caOL : PySem.W.findIn K (.ref OL) "__class__" = some (some (.builtin "object.__class__")))
    (gaOOB : PySem.W.findIn K (.ref OOB) "__getattribute__" = some (some (.builtin "BaseException.__getattribute__")))
    (gtOOB : PySem.W.findIn K (.ref OOB) "__getattr__" = some none)
    (caOOB : PySem.W.findIn K (.ref OOB) "__class__" = some (some (.builtin "object.__class__")))
    (nd : [TE, NAR, CL, OL, OOB, NP, NT, NW].Nodup) : X17Is K mg := by
  have nd0 := nd
  simp only [List.nodup_cons, List.mem_cons, List.not_mem_nil, or_false, not_or, List.nodup_nil, and_true, not_false_eq_true] at nd0
  obtain ⟨⟨a1, a2, a3, a4, a5, a6, a7⟩, ⟨b1, b2, b3, b4, b5, b6⟩, ⟨c1, c2, c3, c4, c5⟩, ⟨d1, d2, d3, d4⟩, ⟨e1, e2, e3⟩, ⟨f1, f2⟩, g1⟩ := nd0
  refine ⟨TE, NAR, CL, OL, OOB, NP, NT, NW, PySem.W.mg_of X G yTE, PySem.W.mg_of X G yNAR, PySem.W.mg_of X G yCL, PySem.W.mg_of X G yOL, PySem.W.mg_of X G yOOB, PySem.W.mg_of X G yNP, PySem.W.mg_of X G yNT, PySem.W.mg_of X G yNW, ?_⟩
  have cxTE : ∃ bm, ClsX K TE bm := ⟨_, _, _, _, _, _, _, _, _, _, _, _, _, _, _, _, lTE, rfl⟩
  have cxNAR : ClsX K NAR [.ref TE, .type "ValueError", .type "Exception", .type "BaseException", .type "object"] := ⟨_, _, _, _, _, _, _, _, _, _, _, _, _, _, _, lNAR, rfl⟩
  have xiNAR : XIs K NAR := ⟨cls_x lNAR, gaNAR, gtNAR, by rw [mro_x lNAR]; simp, by rw [mro_x lNAR]; simp, caNAR, cn, ct⟩
  have cxCL : ClsX K CL [.ref TE, .type "ValueError", .type "Exception", .type "BaseException", .type "object"] := ⟨_, _, _, _, _, _, _, _, _, _, _, _, _, _, _, lCL, rfl⟩
  have xiCL : XIs K CL := ⟨cls_x lCL, gaCL, gtCL, by rw [mro_x lCL]; simp, by rw [mro_x lCL]; simp, caCL, cn, ct⟩
  have cxOL : ClsX K OL [.ref TE, .type "ValueError", .type "Exception", .type "BaseException", .type "object"] := ⟨_, _, _, _, _, _, _, _, _, _, _, _, _, _, _, lOL, rfl⟩
  have xiOL : XIs K OL := ⟨cls_x lOL, gaOL, gtOL, by rw [mro_x lOL]; simp, by rw [mro_x lOL]; simp, caOL, cn, ct⟩
  have cxOOB : ClsX K OOB [.ref TE, .type "ValueError", .type "Exception", .type "BaseException", .type "object"] := ⟨_, _, _, _, _, _, _, _, _, _, _, _, _, _, _, lOOB, rfl⟩
  have xiOOB : XIs K OOB := ⟨cls_x lOOB, gaOOB, gtOOB, by rw [mro_x lOOB]; simp, by rw [mro_x lOOB]; simp, caOOB, cn, ct⟩
  have st : ∀ C ∈ [NAR, CL, OL, OOB], SubC K C TE true := by
    intro C hC
    simp only [List.mem_cons, List.not_mem_nil, or_false] at hC
    rcases hC with rfl | rfl | rfl | rfl
    · exact ⟨⟨_, cxNAR, has_te⟩, cxTE⟩
    · exact ⟨⟨_, cxCL, has_te⟩, cxTE⟩
    · exact ⟨⟨_, cxOL, has_te⟩, cxTE⟩
    · exact ⟨⟨_, cxOOB, has_te⟩, cxTE⟩
  have xi : ∀ C ∈ [NAR, CL, OL, OOB], XIs K C := by
    intro C hC
    simp only [List.mem_cons, List.not_mem_nil, or_false] at hC
    rcases hC with rfl | rfl | rfl | rfl
    · exact xiNAR
    · exact xiCL
    · exact xiOL
    · exact xiOOB
  have kv : ∀ C ∈ [NAR, CL, OL, OOB], PySem.W.kitOne K (.ref C) (.type "ValueError") = some true := by
    intro C hC
    simp only [List.mem_cons, List.not_mem_nil, or_false] at hC
    rcases hC with rfl | rfl | rfl | rfl
    · exact kit_v lNAR
    · exact kit_v lCL
    · exact kit_v lOL
    · exact kit_v lOOB
  have kit : ∀ C ∈ [NAR, CL, OL, OOB], ∀ D ∈ [NAR, CL, OL, OOB], PySem.W.kitOne K (.ref C) (.ref D) = some (decide (C = D)) := by
    intro C hC D hD
    simp only [List.mem_cons, List.not_mem_nil, or_false] at hC hD
    rcases hC with rfl | rfl | rfl | rfl
    · rcases hD with rfl | rfl | rfl | rfl
      · exact kit_x lNAR lNAR tNAR _ (has_x (Ne.symm a1))
      · exact kit_x lNAR lCL tCL _ (has_x (Ne.symm a2))
      · exact kit_x lNAR lOL tOL _ (has_x (Ne.symm a3))
      · exact kit_x lNAR lOOB tOOB _ (has_x (Ne.symm a4))
    · rcases hD with rfl | rfl | rfl | rfl
      · exact kit_x lCL lNAR tNAR _ (has_x (Ne.symm a1))
      · exact kit_x lCL lCL tCL _ (has_x (Ne.symm a2))
      · exact kit_x lCL lOL tOL _ (has_x (Ne.symm a3))
      · exact kit_x lCL lOOB tOOB _ (has_x (Ne.symm a4))
    · rcases hD with rfl | rfl | rfl | rfl
      · exact kit_x lOL lNAR tNAR _ (has_x (Ne.symm a1))
      · exact kit_x lOL lCL tCL _ (has_x (Ne.symm a2))
      · exact kit_x lOL lOL tOL _ (has_x (Ne.symm a3))
      · exact kit_x lOL lOOB tOOB _ (has_x (Ne.symm a4))
    · rcases hD with rfl | rfl | rfl | rfl
      · exact kit_x lOOB lNAR tNAR _ (has_x (Ne.symm a1))
      · exact kit_x lOOB lCL tCL _ (has_x (Ne.symm a2))
      · exact kit_x lOOB lOL tOL _ (has_x (Ne.symm a3))
      · exact kit_x lOOB lOOB tOOB _ (has_x (Ne.symm a4))
  have sc : ∀ C ∈ [NAR, CL, OL, OOB], ∀ D ∈ [NAR, CL, OL, OOB], SubC K C D (decide (C = D)) := by
    intro C hC D hD
    simp only [List.mem_cons, List.not_mem_nil, or_false] at hC hD
    rcases hC with rfl | rfl | rfl | rfl
    · rcases hD with rfl | rfl | rfl | rfl
      · exact ⟨⟨_, cxNAR, has_x (Ne.symm a1)⟩, _, cxNAR⟩
      · exact ⟨⟨_, cxNAR, has_x (Ne.symm a2)⟩, _, cxCL⟩
      · exact ⟨⟨_, cxNAR, has_x (Ne.symm a3)⟩, _, cxOL⟩
      · exact ⟨⟨_, cxNAR, has_x (Ne.symm a4)⟩, _, cxOOB⟩
    · rcases hD with rfl | rfl | rfl | rfl
      · exact ⟨⟨_, cxCL, has_x (Ne.symm a1)⟩, _, cxNAR⟩
      · exact ⟨⟨_, cxCL, has_x (Ne.symm a2)⟩, _, cxCL⟩
      · exact ⟨⟨_, cxCL, has_x (Ne.symm a3)⟩, _, cxOL⟩
      · exact ⟨⟨_, cxCL, has_x (Ne.symm a4)⟩, _, cxOOB⟩
    · rcases hD with rfl | rfl | rfl | rfl
      · exact ⟨⟨_, cxOL, has_x (Ne.symm a1)⟩, _, cxNAR⟩
      · exact ⟨⟨_, cxOL, has_x (Ne.symm a2)⟩, _, cxCL⟩
      · exact ⟨⟨_, cxOL, has_x (Ne.symm a3)⟩, _, cxOL⟩
      · exact ⟨⟨_, cxOL, has_x (Ne.symm a4)⟩, _, cxOOB⟩
    · rcases hD with rfl | rfl | rfl | rfl
      · exact ⟨⟨_, cxOOB, has_x (Ne.symm a1)⟩, _, cxNAR⟩
      · exact ⟨⟨_, cxOOB, has_x (Ne.symm a2)⟩, _, cxCL⟩
      · exact ⟨⟨_, cxOOB, has_x (Ne.symm a3)⟩, _, cxOL⟩
      · exact ⟨⟨_, cxOOB, has_x (Ne.symm a4)⟩, _, cxOOB⟩
  have no : ∀ C ∈ [NAR, CL, OL, OOB], PySem.W.kitAny K (.ref C) ([NP, NT, NW].map Value.ref) = some false := by
    intro C hC
    simp only [List.mem_cons, List.not_mem_nil, or_false] at hC
    rcases hC with rfl | rfl | rfl | rfl
    · simp only [List.map_cons, List.map_nil, PySem.W.kitAny, kit_x lNAR lNP tNP false (by rw [has_x (Ne.symm a5), decide_eq_false b4]), kit_x lNAR lNT tNT false (by rw [has_x (Ne.symm a6), decide_eq_false b5]), kit_x lNAR lNW tNW false (by rw [has_x (Ne.symm a7), decide_eq_false b6])]
    · simp only [List.map_cons, List.map_nil, PySem.W.kitAny, kit_x lCL lNP tNP false (by rw [has_x (Ne.symm a5), decide_eq_false c3]), kit_x lCL lNT tNT false (by rw [has_x (Ne.symm a6), decide_eq_false c4]), kit_x lCL lNW tNW false (by rw [has_x (Ne.symm a7), decide_eq_false c5])]
    · simp only [List.map_cons, List.map_nil, PySem.W.kitAny, kit_x lOL lNP tNP false (by rw [has_x (Ne.symm a5), decide_eq_false d2]), kit_x lOL lNT tNT false (by rw [has_x (Ne.symm a6), decide_eq_false d3]), kit_x lOL lNW tNW false (by rw [has_x (Ne.symm a7), decide_eq_false d4])]
    · simp only [List.map_cons, List.map_nil, PySem.W.kitAny, kit_x lOOB lNP tNP false (by rw [has_x (Ne.symm a5), decide_eq_false e1]), kit_x lOOB lNT tNT false (by rw [has_x (Ne.symm a6), decide_eq_false e2]), kit_x lOOB lNW tNW false (by rw [has_x (Ne.symm a7), decide_eq_false e3])]
  exact ⟨by simp [b1, b2, b3, c1, c2, d1], st, xi, kit, kv, no, sc⟩
theorem all_k17 {l : PySem.W.OpenLaw} {w : World} {K : PySem.W.Frag} {mg : Str → Option Value} {fa : Addr} (hfa : mg "law" = some (.ref fa)) (B : Blt mg) (b_ValueError : mg "ValueError" = none) (g1 : GInt mg "LONGEST_ROW" 60) (g2 : GInt mg "FARTHEST_THROW" 1000000) (g3 : GInt mg "MOST_SWAPS" 1000) (g4 : GInt mg "LONGEST_LISTED" 6) (g5 : GInt mg "MOST_BALLS_LISTED" 6)
    (e1 : ∃ C, ExcCls K C ∧ mg "NotARow" = some (.ref C)) (e2 : ∃ C, ExcCls K C ∧ mg "OutOfBounds" = some (.ref C)) (e3 : ∃ C, ExcCls K C ∧ mg "OtherLength" = some (.ref C)) (e4 : ClashIs K mg) (e5 : X17Is K mg)
    (h_is_whole : ∃ f fd, Has K mg "is_whole" s_is_whole ["value"] f fd)
    (h_is_between : ∃ f fd, Has K mg "is_between" s_is_between ["value", "least", "most"] f fd)
    (h_is_throw : ∃ f fd, Has K mg "is_throw" s_is_throw ["value"] f fd)
    (h_check_throw : ∃ f fd, Has K mg "check_throw" s_check_throw ["value"] f fd)
    (h_check_row : ∃ f fd, Has K mg "check_row" s_check_row ["row"] f fd)
    (h_check_pattern : ∃ f fd, Has K mg "check_pattern" s_check_pattern ["pattern"] f fd)
    (h_landings : ∃ f fd, Has K mg "landings" s_landings ["row"] f fd)
    (h_clash_of : ∃ f fd, Has K mg "clash_of" s_clash_of ["row"] f fd)
    (h_balls_of : ∃ f fd, Has K mg "balls_of" s_balls_of ["pattern"] f fd)
    (h_even : ∃ f fd, Has K mg "even" s_even ["length", "balls"] f fd)
    (h_within_bounds : ∃ f fd, Has K mg "within_bounds" s_within_bounds ["throws"] f fd)
    (h_after : ∃ f fd, Has K mg "after" s_after ["one", "other"] f fd)
    (h_back : ∃ f fd, Has K mg "back" s_back ["pattern"] f fd)
    (h_turned : ∃ f fd, Has K mg "turned" s_turned ["pattern", "k"] f fd)
    (h_lifted : ∃ f fd, Has K mg "lifted" s_lifted ["pattern", "k"] f fd)
    (h_mirrored : ∃ f fd, Has K mg "mirrored" s_mirrored ["pattern"] f fd)
    (h_gaps : ∃ f fd, Has K mg "gaps" s_gaps ["pattern", "h"] f fd)
    (h_rounds : ∃ f fd, Has K mg "rounds" s_rounds ["pattern"] f fd)
    (h_check_beat : ∃ f fd, Has K mg "check_beat" s_check_beat ["value", "length"] f fd)
    (h_swapped : ∃ f fd, Has K mg "swapped" s_swapped ["pattern", "i", "j"] f fd)
    (h_neighbours : ∃ f fd, Has K mg "neighbours" s_neighbours ["pattern", "k"] f fd)
    (h_crossings : ∃ f fd, Has K mg "crossings" s_crossings ["pattern"] f fd)
    (h_from_even : ∃ f fd, Has K mg "from_even" s_from_even ["pattern"] f fd)
    (h_unchanged : ∃ f fd, Has K mg "unchanged" s_unchanged ["pattern"] f fd)
    (h_patterns : ∃ f fd, Has K mg "patterns" s_patterns ["length", "balls"] f fd)
    (h_written : ∃ f fd, Has K mg "written" s_written ["row"] f fd)
    (h_check_plain : ∃ f fd, Has K mg "check_plain" s_check_plain ["pattern"] f fd)
    (h_states_of : ∃ f fd, Has K mg "states_of" s_states_of ["pattern"] f fd)
    (h_parted : ∃ f fd, Has K mg "parted" s_parted ["pattern"] f fd)
    (h_check_greatest : ∃ f fd, Has K mg "check_greatest" s_check_greatest ["most"] f fd)
    (h_check_state : ∃ f fd, Has K mg "check_state" s_check_state ["state", "most"] f fd)
    (h_distances : ∃ f fd, Has K mg "distances" s_distances ["state", "most"] f fd)
    (h__law_cell_at : ∃ f fd, Has K mg "_law_cell_at" s__law_cell_at ["_law_script", "_law_k"] f fd)
    (h__law_ask_row : ∃ f fd, Has K mg "_law_ask_row" s__law_ask_row ["_law_door", "_law_row"] f fd)
    (h__law_ask_change : ∃ f fd, Has K mg "_law_ask_change" s__law_ask_change ["_law_door", "_law_row"] f fd)
    (h__law_bad_row : ∃ f fd, Has K mg "_law_bad_row" s__law_bad_row ["_law_k", "_law_far"] f fd)
    (h__law_ask_bounds : ∃ f fd, Has K mg "_law_ask_bounds" s__law_ask_bounds ["_law_door", "_law_k", "_law_far"] f fd)
    (h__law_ask : ∃ f fd, Has K mg "_law_ask" s__law_ask ["_law_kind", "_law_door", "_law_k", "_law_far"] f fd)
    (h__law_told : ∃ f fd, Has K mg "_law_told" s__law_told ["_law_kind", "_law_door", "_law_k", "_law_far"] f fd)
    (h__law_two_bad : ∃ f fd, Has K mg "_law_two_bad" s__law_two_bad ["_law_more"] f fd)
    (h__law_all_right : ∃ f fd, Has K mg "_law_all_right" s__law_all_right ["_law_kind", "_law_far", "_law_doors", "_law_ways"] f fd)
    (h_law : ∃ f fd, Has K mg "law" s_law ["_law_script"] f fd)
    (c_Change : ∃ C, mg "Change" = some (.ref C) ∧ OCls K C)
    (i0_Change : ∃ C, mg "Change" = some (.ref C) ∧ PySem.W.findIn K (.ref C) "__init__" = some (some (.builtin "object.__init__")))
    (hm_Change_done : ∃ C f fd, mg "Change" = some (.ref C) ∧ Meth K C "done" f ∧ Fun K "done" "Change.done" s_Change_done f fd ∧ Binds K fd ["self", "pattern"] [])
    (c_Turn : ∃ C, mg "Turn" = some (.ref C) ∧ OCls K C)
    (in_Turn : ∃ C f fd, mg "Turn" = some (.ref C) ∧ Mk K C f ∧ Fun K "__init__" "Turn.__init__" s_Turn___init__ f fd ∧ Binds K fd ["self", "k"] [])
    (na_Turn_k : ∃ C, mg "Turn" = some (.ref C) ∧ NoAttr K C "k")
    (hm_Turn_done : ∃ C f fd, mg "Turn" = some (.ref C) ∧ Meth K C "done" f ∧ Fun K "done" "Turn.done" s_Turn_done f fd ∧ Binds K fd ["self", "pattern"] [])
    (c_Lift : ∃ C, mg "Lift" = some (.ref C) ∧ OCls K C)
    (in_Lift : ∃ C f fd, mg "Lift" = some (.ref C) ∧ Mk K C f ∧ Fun K "__init__" "Lift.__init__" s_Lift___init__ f fd ∧ Binds K fd ["self", "k"] [])
    (na_Lift_k : ∃ C, mg "Lift" = some (.ref C) ∧ NoAttr K C "k")
    (hm_Lift_done : ∃ C f fd, mg "Lift" = some (.ref C) ∧ Meth K C "done" f ∧ Fun K "done" "Lift.done" s_Lift_done f fd ∧ Binds K fd ["self", "pattern"] [])
    (c_Swap : ∃ C, mg "Swap" = some (.ref C) ∧ OCls K C)
    (in_Swap : ∃ C f fd, mg "Swap" = some (.ref C) ∧ Mk K C f ∧ Fun K "__init__" "Swap.__init__" s_Swap___init__ f fd ∧ Binds K fd ["self", "i", "j"] [])
    (na_Swap_i : ∃ C, mg "Swap" = some (.ref C) ∧ NoAttr K C "i")
    (na_Swap_j : ∃ C, mg "Swap" = some (.ref C) ∧ NoAttr K C "j")
    (hm_Swap_done : ∃ C f fd, mg "Swap" = some (.ref C) ∧ Meth K C "done" f ∧ Fun K "done" "Swap.done" s_Swap_done f fd ∧ Binds K fd ["self", "pattern"] [])
    (c_Neighbours : ∃ C, mg "Neighbours" = some (.ref C) ∧ OCls K C)
    (in_Neighbours : ∃ C f fd, mg "Neighbours" = some (.ref C) ∧ Mk K C f ∧ Fun K "__init__" "Neighbours.__init__" s_Neighbours___init__ f fd ∧ Binds K fd ["self", "k"] [])
    (na_Neighbours_k : ∃ C, mg "Neighbours" = some (.ref C) ∧ NoAttr K C "k")
    (hm_Neighbours_done : ∃ C f fd, mg "Neighbours" = some (.ref C) ∧ Meth K C "done" f ∧ Fun K "done" "Neighbours.done" s_Neighbours_done f fd ∧ Binds K fd ["self", "pattern"] [])
    (c_Mirror : ∃ C, mg "Mirror" = some (.ref C) ∧ OCls K C)
    (i0_Mirror : ∃ C, mg "Mirror" = some (.ref C) ∧ PySem.W.findIn K (.ref C) "__init__" = some (some (.builtin "object.__init__")))
    (hm_Mirror_done : ∃ C f fd, mg "Mirror" = some (.ref C) ∧ Meth K C "done" f ∧ Fun K "done" "Mirror.done" s_Mirror_done f fd ∧ Binds K fd ["self", "pattern"] [])
    (c_Gaps : ∃ C, mg "Gaps" = some (.ref C) ∧ OCls K C)
    (in_Gaps : ∃ C f fd, mg "Gaps" = some (.ref C) ∧ Mk K C f ∧ Fun K "__init__" "Gaps.__init__" s_Gaps___init__ f fd ∧ Binds K fd ["self", "h"] [])
    (na_Gaps_h : ∃ C, mg "Gaps" = some (.ref C) ∧ NoAttr K C "h")
    (hm_Gaps_done : ∃ C f fd, mg "Gaps" = some (.ref C) ∧ Meth K C "done" f ∧ Fun K "done" "Gaps.done" s_Gaps_done f fd ∧ Binds K fd ["self", "pattern"] [])
    (c_Changes : ∃ C, mg "Changes" = some (.ref C) ∧ OCls K C)
    (in_Changes : ∃ C f fd, mg "Changes" = some (.ref C) ∧ Mk K C f ∧ Fun K "__init__" "Changes.__init__" s_Changes___init__ f fd ∧ Binds K fd ["self", "rows"] [])
    (na_Changes_steps : ∃ C, mg "Changes" = some (.ref C) ∧ NoAttr K C "steps")
    (hm_Changes_done : ∃ C f fd, mg "Changes" = some (.ref C) ∧ Meth K C "done" f ∧ Fun K "done" "Changes.done" s_Changes_done f fd ∧ Binds K fd ["self", "pattern"] [])
    : ∃ fd : FuncData, (∀ (s : Shared) (u : Value), BindsTo s fd ⟨[u], []⟩ [("_law_script", u)]) ∧ ∀ base : Heap, FnOk l.prog w K mg base (CXf l.prog w) 14 fa fd ["_law_script"] (spLaw K) := by
  obtain ⟨TE, NAR, CL, OL, OOB, NP, NT, NW, mTE, mNAR, mCL, mOL, mOOB, mNP, mNT, mNW, x17⟩ := e5
  obtain ⟨_, x1, m1⟩ := e1
  cases mNAR.symm.trans m1
  obtain ⟨_, x2, m2⟩ := e2
  cases mOOB.symm.trans m2
  obtain ⟨_, x3, m3⟩ := e3
  cases mOL.symm.trans m3
  obtain ⟨_, CB, fi, fdi, cm, ci, cf, cb, cx, cn, cs⟩ := e4
  cases mCL.symm.trans cm
  obtain ⟨f_is_whole, fd_is_whole, hh_is_whole⟩ := h_is_whole
  obtain ⟨f_is_between, fd_is_between, hh_is_between⟩ := h_is_between
  obtain ⟨f_is_throw, fd_is_throw, hh_is_throw⟩ := h_is_throw
  obtain ⟨f_check_throw, fd_check_throw, hh_check_throw⟩ := h_check_throw
  obtain ⟨f_check_row, fd_check_row, hh_check_row⟩ := h_check_row
  obtain ⟨f_check_pattern, fd_check_pattern, hh_check_pattern⟩ := h_check_pattern
  obtain ⟨f_landings, fd_landings, hh_landings⟩ := h_landings
  obtain ⟨f_clash_of, fd_clash_of, hh_clash_of⟩ := h_clash_of
  obtain ⟨f_balls_of, fd_balls_of, hh_balls_of⟩ := h_balls_of
  obtain ⟨f_even, fd_even, hh_even⟩ := h_even
  obtain ⟨f_within_bounds, fd_within_bounds, hh_within_bounds⟩ := h_within_bounds
  obtain ⟨f_after, fd_after, hh_after⟩ := h_after
  obtain ⟨f_back, fd_back, hh_back⟩ := h_back
  obtain ⟨f_turned, fd_turned, hh_turned⟩ := h_turned
  obtain ⟨f_lifted, fd_lifted, hh_lifted⟩ := h_lifted
  obtain ⟨f_mirrored, fd_mirrored, hh_mirrored⟩ := h_mirrored
  obtain ⟨f_gaps, fd_gaps, hh_gaps⟩ := h_gaps
  obtain ⟨f_rounds, fd_rounds, hh_rounds⟩ := h_rounds
  obtain ⟨f_check_beat, fd_check_beat, hh_check_beat⟩ := h_check_beat
  obtain ⟨f_swapped, fd_swapped, hh_swapped⟩ := h_swapped
  obtain ⟨f_neighbours, fd_neighbours, hh_neighbours⟩ := h_neighbours
  obtain ⟨f_crossings, fd_crossings, hh_crossings⟩ := h_crossings
  obtain ⟨f_from_even, fd_from_even, hh_from_even⟩ := h_from_even
  obtain ⟨f_unchanged, fd_unchanged, hh_unchanged⟩ := h_unchanged
  obtain ⟨f_patterns, fd_patterns, hh_patterns⟩ := h_patterns
  obtain ⟨f_written, fd_written, hh_written⟩ := h_written
  obtain ⟨f_check_plain, fd_check_plain, hh_check_plain⟩ := h_check_plain
  obtain ⟨f_states_of, fd_states_of, hh_states_of⟩ := h_states_of
  obtain ⟨f_parted, fd_parted, hh_parted⟩ := h_parted
  obtain ⟨f_check_greatest, fd_check_greatest, hh_check_greatest⟩ := h_check_greatest
  obtain ⟨f_check_state, fd_check_state, hh_check_state⟩ := h_check_state
  obtain ⟨f_distances, fd_distances, hh_distances⟩ := h_distances
  obtain ⟨f__law_cell_at, fd__law_cell_at, hh__law_cell_at⟩ := h__law_cell_at
  obtain ⟨f__law_ask_row, fd__law_ask_row, hh__law_ask_row⟩ := h__law_ask_row
  obtain ⟨f__law_ask_change, fd__law_ask_change, hh__law_ask_change⟩ := h__law_ask_change
  obtain ⟨f__law_bad_row, fd__law_bad_row, hh__law_bad_row⟩ := h__law_bad_row
  obtain ⟨f__law_ask_bounds, fd__law_ask_bounds, hh__law_ask_bounds⟩ := h__law_ask_bounds
  obtain ⟨f__law_ask, fd__law_ask, hh__law_ask⟩ := h__law_ask
  obtain ⟨f__law_told, fd__law_told, hh__law_told⟩ := h__law_told
  obtain ⟨f__law_two_bad, fd__law_two_bad, hh__law_two_bad⟩ := h__law_two_bad
  obtain ⟨f__law_all_right, fd__law_all_right, hh__law_all_right⟩ := h__law_all_right
  obtain ⟨C_Change, m_Change, c_Change⟩ := c_Change
  obtain ⟨C_Turn, m_Turn, c_Turn⟩ := c_Turn
  obtain ⟨C_Lift, m_Lift, c_Lift⟩ := c_Lift
  obtain ⟨C_Swap, m_Swap, c_Swap⟩ := c_Swap
  obtain ⟨C_Neighbours, m_Neighbours, c_Neighbours⟩ := c_Neighbours
  obtain ⟨C_Mirror, m_Mirror, c_Mirror⟩ := c_Mirror
  obtain ⟨C_Gaps, m_Gaps, c_Gaps⟩ := c_Gaps
  obtain ⟨C_Changes, m_Changes, c_Changes⟩ := c_Changes
  obtain ⟨_, e, i0_Change⟩ := i0_Change
  cases m_Change.symm.trans e
  obtain ⟨_, f_hm_Change_done, fd_hm_Change_done, e, hm_Change_done⟩ := hm_Change_done
  cases m_Change.symm.trans e
  obtain ⟨_, f_in_Turn, fd_in_Turn, e, in_Turn⟩ := in_Turn
  cases m_Turn.symm.trans e
  obtain ⟨_, e, na_Turn_k⟩ := na_Turn_k
  cases m_Turn.symm.trans e
  obtain ⟨_, f_hm_Turn_done, fd_hm_Turn_done, e, hm_Turn_done⟩ := hm_Turn_done
  cases m_Turn.symm.trans e
  obtain ⟨_, f_in_Lift, fd_in_Lift, e, in_Lift⟩ := in_Lift
  cases m_Lift.symm.trans e
  obtain ⟨_, e, na_Lift_k⟩ := na_Lift_k
  cases m_Lift.symm.trans e
  obtain ⟨_, f_hm_Lift_done, fd_hm_Lift_done, e, hm_Lift_done⟩ := hm_Lift_done
  cases m_Lift.symm.trans e
  obtain ⟨_, f_in_Swap, fd_in_Swap, e, in_Swap⟩ := in_Swap
  cases m_Swap.symm.trans e
  obtain ⟨_, e, na_Swap_i⟩ := na_Swap_i
  cases m_Swap.symm.trans e
  obtain ⟨_, e, na_Swap_j⟩ := na_Swap_j
  cases m_Swap.symm.trans e
  obtain ⟨_, f_hm_Swap_done, fd_hm_Swap_done, e, hm_Swap_done⟩ := hm_Swap_done
  cases m_Swap.symm.trans e
  obtain ⟨_, f_in_Neighbours, fd_in_Neighbours, e, in_Neighbours⟩ := in_Neighbours
  cases m_Neighbours.symm.trans e
  obtain ⟨_, e, na_Neighbours_k⟩ := na_Neighbours_k
  cases m_Neighbours.symm.trans e
  obtain ⟨_, f_hm_Neighbours_done, fd_hm_Neighbours_done, e, hm_Neighbours_done⟩ := hm_Neighbours_done
  cases m_Neighbours.symm.trans e
  obtain ⟨_, e, i0_Mirror⟩ := i0_Mirror
  cases m_Mirror.symm.trans e
  obtain ⟨_, f_hm_Mirror_done, fd_hm_Mirror_done, e, hm_Mirror_done⟩ := hm_Mirror_done
  cases m_Mirror.symm.trans e
  obtain ⟨_, f_in_Gaps, fd_in_Gaps, e, in_Gaps⟩ := in_Gaps
  cases m_Gaps.symm.trans e
  obtain ⟨_, e, na_Gaps_h⟩ := na_Gaps_h
  cases m_Gaps.symm.trans e
  obtain ⟨_, f_hm_Gaps_done, fd_hm_Gaps_done, e, hm_Gaps_done⟩ := hm_Gaps_done
  cases m_Gaps.symm.trans e
  obtain ⟨_, f_in_Changes, fd_in_Changes, e, in_Changes⟩ := in_Changes
  cases m_Changes.symm.trans e
  obtain ⟨_, e, na_Changes_steps⟩ := na_Changes_steps
  cases m_Changes.symm.trans e
  obtain ⟨_, f_hm_Changes_done, fd_hm_Changes_done, e, hm_Changes_done⟩ := hm_Changes_done
  cases m_Changes.symm.trans e
  have hl := h_law
  obtain ⟨fl, fdl, hl⟩ := hl
  have e := hfa.symm.trans hl.at_
  cases e
  refine ⟨fdl, bind1 hl fun _ _ _ _ _ _ _ => rfl, fun base => ?_⟩
  have o0 := ok_is_whole (P := l.prog) (w := w) (base := base) hh_is_whole B
  have o1 := ok_is_between (P := l.prog) (w := w) (base := base) hh_is_between o0
  have o2 := ok_is_throw hh_is_throw g2 o1
  have o3 := ok_check_throw hh_check_throw x2 m2 o2
  have o4 := ok_check_row hh_check_row B g1 x1 m1 o2
  have o5 := ok_landings (P := l.prog) (w := w) (base := base) hh_landings B
  have o6 := ok_clash2 hh_clash_of B o4 o5
  have oi := ok_init (P := l.prog) (w := w) (mg := mg) (base := base) cf cx cn
  have o7 := ok_check hh_check_pattern ci oi cb mCL o6
  have o8 := ok_balls_of hh_balls_of B o7
  have q1 := ok_back hh_back o7
  have q2 := ok_mirrored hh_mirrored o7
  have q3 := ok_rounds hh_rounds o7
  have q4 := ok_crossings hh_crossings o7
  have q5 := ok_unchanged hh_unchanged o7
  have q6 := ok_check_plain hh_check_plain o7
  have q7 := ok_from_even hh_from_even q4 g3 x2 m2
  have q8 := ok_states_of hh_states_of q6
  have q9 := ok_parted hh_parted q8 B
  have r1 := ok_written hh_written o4
  have r2 := ok_after hh_after B x3 m3 o7
  have r3 := ok_turned hh_turned B o7 o3
  have r4 := ok_within_bounds hh_within_bounds o3
  have r5 := ok_lifted hh_lifted o7 o3 r4
  have r6 := ok_gaps hh_gaps B o7 o3 r4
  have r7 := ok_check_beat hh_check_beat x2 m2 o1
  have r8 := ok_swapped hh_swapped B x2 m2 o7 r7
  have r9 := ok_neighbours hh_neighbours B x2 m2 o7 r7
  have s1 := ok_even hh_even g1 x2 m2 o1 o3
  have s2 := ok_patterns hh_patterns g4 g5 x2 m2 o1
  have s3 := ok_greatest hh_check_greatest x2 m2 o1
  have s4 := ok_state hh_check_state x2 m2 o1
  have s5 := ok_distances hh_distances s3 s4
  let S : Cs := ⟨C_Change, C_Turn, C_Lift, C_Swap, C_Neighbours, C_Mirror, C_Gaps, C_Changes⟩
  have kT : MkOk l.prog w K mg base "Turn" S.t 1 (spSet1 S.t "k") := ⟨m_Turn, _, _, _, in_Turn.1, ok_Turn_init in_Turn.2.1 c_Turn.cl na_Turn_k, in_Turn.2.2⟩
  have kL : MkOk l.prog w K mg base "Lift" S.l 1 (spSet1 S.l "k") := ⟨m_Lift, _, _, _, in_Lift.1, ok_Lift_init in_Lift.2.1 c_Lift.cl na_Lift_k, in_Lift.2.2⟩
  have kS : MkOk l.prog w K mg base "Swap" S.s 1 (spSet2 S.s) := ⟨m_Swap, _, _, _, in_Swap.1, ok_Swap_init in_Swap.2.1 c_Swap.cl na_Swap_i na_Swap_j, in_Swap.2.2⟩
  have kN : MkOk l.prog w K mg base "Neighbours" S.n 1 (spSet1 S.n "k") := ⟨m_Neighbours, _, _, _, in_Neighbours.1, ok_Neighbours_init in_Neighbours.2.1 c_Neighbours.cl na_Neighbours_k, in_Neighbours.2.2⟩
  have kG : MkOk l.prog w K mg base "Gaps" S.g 1 (spSet1 S.g "h") := ⟨m_Gaps, _, _, _, in_Gaps.1, ok_Gaps_init in_Gaps.2.1 c_Gaps.cl na_Gaps_h, in_Gaps.2.2⟩
  have kR : MkOk l.prog w K mg base "Changes" S.r 1 (spSetR S.r) := ⟨m_Changes, _, _, _, in_Changes.1, ok_Changes_init in_Changes.2.1 B c_Changes.cl na_Changes_steps, in_Changes.2.2⟩
  have dd : MsOk l.prog w K mg base "done" 8 (DoneR K NAR CL OOB S) := by
    rintro C sp (⟨rfl | rfl | rfl, rfl⟩ | ⟨rfl, rfl⟩ | ⟨rfl, rfl⟩ | ⟨rfl, rfl⟩ | ⟨rfl, rfl⟩ | ⟨rfl, rfl⟩)
    · exact ⟨c_Change.cl, _, _, _, hm_Change_done.1, ok_Change_done hm_Change_done.2.1 q5, hm_Change_done.2.2⟩
    · exact ⟨c_Mirror.cl, _, _, _, hm_Mirror_done.1, ok_Mirror_done hm_Mirror_done.2.1 q2, hm_Mirror_done.2.2⟩
    · exact ⟨c_Changes.cl, _, _, _, hm_Changes_done.1, ok_Changes_done hm_Changes_done.2.1 q5, hm_Changes_done.2.2⟩
    · exact ⟨c_Turn.cl, _, _, _, hm_Turn_done.1, ok_Turn_done hm_Turn_done.2.1 c_Turn.cl na_Turn_k r3, hm_Turn_done.2.2⟩
    · exact ⟨c_Lift.cl, _, _, _, hm_Lift_done.1, ok_Lift_done hm_Lift_done.2.1 c_Lift.cl na_Lift_k r5, hm_Lift_done.2.2⟩
    · exact ⟨c_Neighbours.cl, _, _, _, hm_Neighbours_done.1, ok_Neighbours_done hm_Neighbours_done.2.1 c_Neighbours.cl na_Neighbours_k r9, hm_Neighbours_done.2.2⟩
    · exact ⟨c_Gaps.cl, _, _, _, hm_Gaps_done.1, ok_Gaps_done hm_Gaps_done.2.1 c_Gaps.cl na_Gaps_h r6, hm_Gaps_done.2.2⟩
    · exact ⟨c_Swap.cl, _, _, _, hm_Swap_done.1, ok_Swap_done hm_Swap_done.2.1 c_Swap.cl na_Swap_i na_Swap_j r8, hm_Swap_done.2.2⟩
  have p1 := ok_cell_at (P := l.prog) (w := w) (base := base) hh__law_cell_at B
  have p2 := ok_ask_row hh__law_ask_row o8 r2 q1 r3 r5 q2 r6 q3 r8 r9 q4 q7 q8 q9
  have p3 := ok_bad_row (P := l.prog) (w := w) (base := base) hh__law_bad_row B
  have p4 := ok_ask_change (S := S) hh__law_ask_change dd m_Change c_Change i0_Change m_Mirror c_Mirror i0_Mirror kT kL kS kN kG kR o6 r1
  have p5 := ok_ask_bounds (S := S) hh__law_ask_bounds dd kT kL kS kN kG s1 r3 r5 r6 r8 s2 s5 r9
  have p6 := ok_ask hh__law_ask B p4 p2 p3 r2 p5
  have p7 := ok_told hh__law_told B b_ValueError x17 mTE m1 mCL m3 m2 mNP mNT mNW p6
  have p8 := ok_all_right hh__law_all_right B p7
  have p9 := ok_two_bad (S := S) hh__law_two_bad B x17 m1 mCL m3 m2 dd kT kL kS kN kG r2
  exact ok_law hl B p1 p8 p9 o8 o6
end Tb
def PySem.W.Fast.tw15040751000839186402 : Unit := ()
def PySem.W.Fast.tw14148575603989823681 : Unit := ()
def PySem.W.Fast.tw12982064287610463089 : Unit := ()
def PySem.W.Fast.tw8381267461609551425 : Unit := ()
def PySem.W.Fast.tw9970426415307942672 : Unit := ()
def PySem.W.Fast.tw10376820787590380542 : Unit := ()
def PySem.W.Fast.tw1403137336041849124 : Unit := ()
def PySem.W.Fast.tw3514075248679374594 : Unit := ()
def PySem.W.Fast.tw11321705935843025745 : Unit := ()
def PySem.W.Fast.tw18200639271500840075 : Unit := ()
def PySem.W.Fast.tw16808664666150222576 : Unit := ()
def PySem.W.Fast.tw11322145242412990176 : Unit := ()
def PySem.W.Fast.tw9025337998636715394 : Unit := ()
def PySem.W.Fast.tw8541563564222353099 : Unit := ()
def PySem.W.Fast.tw734088099834014379 : Unit := ()
def PySem.W.Fast.tw14256415237138234917 : Unit := ()
def PySem.W.Fast.tw14563528330896728562 : Unit := ()
def PySem.W.Fast.tw10114304658647796379 : Unit := ()
def PySem.W.Fast.tw1997205053971732627 : Unit := ()
def PySem.W.Fast.tw12703934288599710735 : Unit := ()
def PySem.W.Fast.tw3193428288507945419 : Unit := ()
def PySem.W.Fast.tw16799695791198675144 : Unit := ()
def PySem.W.Fast.tw3772801049471342367 : Unit := ()
def PySem.W.Fast.tw8026491073064744198 : Unit := ()
def PySem.W.Fast.tw8960663798704149129 : Unit := ()
def PySem.W.Fast.tw10874455688274419398 : Unit := ()
def PySem.W.Fast.tw9882354604236747342 : Unit := ()
def PySem.W.Fast.tw9071876493262089589 : Unit := ()
def PySem.W.Fast.tw8566991676337801903 : Unit := ()
def PySem.W.Fast.tw13665415555693308061 : Unit := ()
def PySem.W.Fast.tw15090694379870226058 : Unit := ()
def PySem.W.Fast.tw4071509190848506390 : Unit := ()
def PySem.W.Fast.tw3846464725046527901 : Unit := ()
def PySem.W.Fast.tw12124661590516443561 : Unit := ()
def PySem.W.Fast.tw9116751527718893124 : Unit := ()
def PySem.W.Fast.tw16337849858536388758 : Unit := ()
def PySem.W.Fast.tw5072617317180867207 : Unit := ()
def PySem.W.Fast.tw14777020377476019895 : Unit := ()
def PySem.W.Fast.tw6596080212386932405 : Unit := ()
def PySem.W.Fast.tw11008656401117837552 : Unit := ()
def PySem.W.Fast.tw2065436996296079738 : Unit := ()
def PySem.W.Fast.tw13304781399043556196 : Unit := ()
def PySem.W.Fast.tw15413431438243343211 : Unit := ()
def PySem.W.Fast.tw4392710798885373462 : Unit := ()
def PySem.W.Fast.tw6229930560016705342 : Unit := ()
def PySem.W.Fast.tw8062626331133004389 : Unit := ()
def PySem.W.Fast.tw9133570459750101806 : Unit := ()
def PySem.W.Fast.tw5115807587920242711 : Unit := ()
def PySem.W.Fast.tw1285234367227333646 : Unit := ()
def PySem.W.Fast.tw15528581198894021441 : Unit := ()
def PySem.W.Fast.tw16771237295634170400 : Unit := ()
def PySem.W.Fast.tw18434989563131039935 : Unit := ()
def PySem.W.Fast.tw16895912904465818240 : Unit := ()
def PySem.W.Fast.tw14044302381065187521 : Unit := ()
def PySem.W.Fast.tw9285642311718416893 : Unit := ()
def PySem.W.Fast.tw15110782542460911316 : Unit := ()
def PySem.W.Fast.tw7752581445961191856 : Unit := ()
def PySem.W.Fast.tw2220599205115882663 : Unit := ()
def PySem.W.Fast.tw5162607960666416820 : Unit := ()
def PySem.W.Fast.tw7005691629980017575 : Unit := ()
def PySem.W.Fast.tw13010962208455902614 : Unit := ()
def PySem.W.Fast.tw5073526764259765697 : Unit := ()
def PySem.W.Fast.tw15932260754626745055 : Unit := ()
def PySem.W.Fast.tw8803794211352680853 : Unit := ()
def PySem.W.Fast.tw15045079732765245416 : Unit := ()
def PySem.W.Fast.tw10295782647191708706 : Unit := ()
def PySem.W.Fast.tw11013045829753313321 : Unit := ()
def PySem.W.Fast.tw11797127620631616235 : Unit := ()
def PySem.W.Fast.tw11401921429783761781 : Unit := ()
def PySem.W.Fast.tw9783432588148977326 : Unit := ()
def PySem.W.Fast.tw14957213155532852437 : Unit := ()
def PySem.W.Fast.tw7006018385515423792 : Unit := ()
def PySem.W.Fast.tw665270192227720420 : Unit := ()
def PySem.W.Fast.tw4788545933987849714 : Unit := ()
def PySem.W.Fast.tw17272921798802821066 : Unit := ()
def PySem.W.Fast.tw1459758529010378123 : Unit := ()
def PySem.W.Fast.tw5464736379957672043 : Unit := ()
def PySem.W.Fast.tw14407688665631294592 : Unit := ()
def PySem.W.Fast.tw2874098491095091319 : Unit := ()
def PySem.W.Fast.tw8400063960244324105 : Unit := ()
def PySem.W.Fast.tw12224165264988656990 : Unit := ()
def PySem.W.Fast.tw500447261082804488 : Unit := ()
def PySem.W.Fast.tw8758978449631386216 : Unit := ()
def PySem.W.Fast.tw3304033405889535316 : Unit := ()
def PySem.W.Fast.tw3979670249737371838 : Unit := ()
def PySem.W.Fast.tw4694900387676827245 : Unit := ()
def PySem.W.Fast.tw10977502634506325706 : Unit := ()
def PySem.W.Fast.tw1453166914448239335 : Unit := ()
def PySem.W.Fast.tw7638417474465627404 : Unit := ()
def PySem.W.Fast.tw14459502708382839035 : Unit := ()
def PySem.W.Fast.tw16941811326719701310 : Unit := ()
def PySem.W.Fast.tw16662163723453347586 : Unit := ()
def PySem.W.Fast.tw10319105929869705981 : Unit := ()
def PySem.W.Fast.tw5396684156518403938 : Unit := ()
def PySem.W.Fast.tw16323561555035219049 : Unit := ()
def PySem.W.Fast.tw10741464663378703113 : Unit := ()
def PySem.W.Fast.tw8898365550573035356 : Unit := ()
def PySem.W.Fast.tw444593397588728182 : Unit := ()
def PySem.W.Fast.tw662789483905569404 : Unit := ()
def PySem.W.Fast.tw9433577962676082289 : Unit := ()
def PySem.W.Fast.tw595900676182220164 : Unit := ()
def PySem.W.Fast.tw18102631511171810105 : Unit := ()
def PySem.W.Fast.tw13969750212598575405 : Unit := ()
def PySem.W.Fast.tw6827443155136874879 : Unit := ()
def PySem.W.Fast.tw737866832847225144 : Unit := ()
def PySem.W.Fast.tw3864180160928381447 : Unit := ()
def PySem.W.Fast.tw11582634695253147138 : Unit := ()
def PySem.W.Fast.tw16153168625692615392 : Unit := ()
def PySem.W.Fast.tw16431593641483438705 : Unit := ()
def PySem.W.Fast.tw12290297002461989662 : Unit := ()
def PySem.W.Fast.tw7201850787469095489 : Unit := ()
def PySem.W.Fast.tw1389051399923279318 : Unit := ()
def PySem.W.Fast.tw6891564190497157343 : Unit := ()
def PySem.W.Fast.tw9339943429745947285 : Unit := ()
def PySem.W.Fast.tw11357647467536933887 : Unit := ()
def PySem.W.Fast.tw4071874666746239091 : Unit := ()
def PySem.W.Fast.tw10506768668496952740 : Unit := ()
def PySem.W.Fast.tw12875237324315466108 : Unit := ()
def PySem.W.Fast.tw15303996037169804615 : Unit := ()
def PySem.W.Fast.tw7983843016479435775 : Unit := ()
def PySem.W.Fast.tw17220012184620988445 : Unit := ()
def PySem.W.Fast.tw4154617986089016854 : Unit := ()
def PySem.W.Fast.tw3865723668142575990 : Unit := ()
def PySem.W.Fast.tw12597738409624845454 : Unit := ()
def PySem.W.Fast.tw17219552864822048916 : Unit := ()
def PySem.W.Fast.tw6875801352625064248 : Unit := ()
def PySem.W.Fast.tw5257401358320041755 : Unit := ()
def PySem.W.Fast.tw10363291440693051638 : Unit := ()
def PySem.W.Fast.tw16772637485388179012 : Unit := ()
def PySem.W.Fast.tw4226547046839634091 : Unit := ()
def PySem.W.Fast.tw12532809761245179820 : Unit := ()
open PySem PySem.W PyProof.Rows
set_option maxRecDepth 100000 in
set_option maxHeartbeats 0 in
theorem PySem.Challenge.cw_tossbook_k17_refused_holds : PySem.Challenge.rw_tossbook_k17_refused.Holds := by
  w_on; o_law; k_head; (case hw => w_witness2)
  k_fill
  refine Tb.walk (l := PySem.Challenge.rw_tossbook_k17_refused) rfl rfl (fun w h Y => PySem.W.kIn_of Y) ?F
  case F =>
    intro w mg fa h KX G hmg
    have b_len : mg "len" = none := by
      refine' L2.none_mk KX G ?za
      (case za => k_is)
    have b_range : mg "range" = none := by
      refine' L2.none_mk KX G ?za
      (case za => k_is)
    have b_enumerate : mg "enumerate" = none := by
      refine' L2.none_mk KX G ?za
      (case za => k_is)
    have b_zip : mg "zip" = none := by
      refine' L2.none_mk KX G ?za
      (case za => k_is)
    have b_isinstance : mg "isinstance" = none := by
      refine' L2.none_mk KX G ?za
      (case za => k_is)
    have b_int : mg "int" = none := by
      refine' L2.none_mk KX G ?za
      (case za => k_is)
    have b_bool : mg "bool" = none := by
      refine' L2.none_mk KX G ?za
      (case za => k_is)
    have b_list : mg "list" = none := by
      refine' L2.none_mk KX G ?za
      (case za => k_is)
    have b_tuple : mg "tuple" = none := by
      refine' L2.none_mk KX G ?za
      (case za => k_is)
    have b_all : mg "all" = none := by
      refine' L2.none_mk KX G ?za
      (case za => k_is)
    have b_any : mg "any" = none := by
      refine' L2.none_mk KX G ?za
      (case za => k_is)
    have b_sum : mg "sum" = none := by
      refine' L2.none_mk KX G ?za
      (case za => k_is)
    have b_max : mg "max" = none := by
      refine' L2.none_mk KX G ?za
      (case za => k_is)
    have b_min : mg "min" = none := by
      refine' L2.none_mk KX G ?za
      (case za => k_is)
    have b_abs : mg "abs" = none := by
      refine' L2.none_mk KX G ?za
      (case za => k_is)
    have b_sorted : mg "sorted" = none := by
      refine' L2.none_mk KX G ?za
      (case za => k_is)
    have b_ValueError : mg "ValueError" = none := by
      refine' L2.none_mk KX G ?za
      (case za => k_is)
    have g_LONGEST_ROW : L2.GInt mg "LONGEST_ROW" 60 := by
      refine' L2.gint_mk KX G ?za
      (case za => k_is)
    have g_FARTHEST_THROW : L2.GInt mg "FARTHEST_THROW" 1000000 := by
      refine' L2.gint_mk KX G ?za
      (case za => k_is)
    have g_MOST_SWAPS : L2.GInt mg "MOST_SWAPS" 1000 := by
      refine' L2.gint_mk KX G ?za
      (case za => k_is)
    have g_LONGEST_LISTED : L2.GInt mg "LONGEST_LISTED" 6 := by
      refine' L2.gint_mk KX G ?za
      (case za => k_is)
    have g_MOST_BALLS_LISTED : L2.GInt mg "MOST_BALLS_LISTED" 6 := by
      refine' L2.gint_mk KX G ?za
      (case za => k_is)
    have e_NotARow : ∃ C, L2.ExcCls (L2.KOf KX) C ∧ mg "NotARow" = some (.ref C) := by
      dsimp only [L2.KOf]
      refine' L2.exc_mk KX G ?za ?zq
      (case za => k_is); (case zq => k_exc)
    have e_OutOfBounds : ∃ C, L2.ExcCls (L2.KOf KX) C ∧ mg "OutOfBounds" = some (.ref C) := by
      dsimp only [L2.KOf]
      refine' L2.exc_mk KX G ?za ?zq
      (case za => k_is); (case zq => k_exc)
    have e_OtherLength : ∃ C, L2.ExcCls (L2.KOf KX) C ∧ mg "OtherLength" = some (.ref C) := by
      dsimp only [L2.KOf]
      refine' L2.exc_mk KX G ?za ?zq
      (case za => k_is); (case zq => k_exc)
    have e_Clash : Tb.ClashIs (L2.KOf KX) mg := by
      dsimp only [L2.KOf]
      refine' Tb.clash_mk KX G ?za ?zl ?zt ?zk ?zi ?zf ?zm ?zc ?zn ?zg ?zh ?zs ?zv ?zb
      (case za => k_is); (case zl => k_is); (case zt => k_exc); (case zk => k_is); (case zi => k_is); (case zf => k_is); (case zm => k_is); (case zc => k_is); (case zn => k_is); (case zg => k_is); (case zh => k_is); (case zs => k_is); (case zv => k_is); (case zb => exact fun _ _ _ _ _ _ us hl => match us, hl with | [_, _], _ => rfl)
    have c_Change : ∃ C, mg "Change" = some (.ref C) ∧ L2.OCls (L2.KOf KX) C := by
      dsimp only [L2.KOf]
      refine' L2.ocls_mk KX G ?za ?z1 ?z2 ?z3 ?z4 ?z5 ?z6 ?z7 ?z8 ?z9 ?z10
      (case za => k_is); (case z1 => k_is); (case z2 => k_is); (case z3 => k_is); (case z4 => k_is); (case z5 => k_is); (case z6 => k_is); (case z7 => k_is); (case z8 => k_is); (case z9 => k_is); (case z10 => k_is)
    have i0_Change : ∃ C, mg "Change" = some (.ref C) ∧ PySem.W.findIn (L2.KOf KX) (.ref C) "__init__" = some (some (.builtin "object.__init__")) := by
      dsimp only [L2.KOf]
      refine' L2.init0_mk KX G ?za ?z1
      (case za => k_is); (case z1 => k_is)
    have hm_Change_done : ∃ C f fd, mg "Change" = some (.ref C) ∧ L2.Meth (L2.KOf KX) C "done" f ∧ L2.Fun (L2.KOf KX) "done" "Change.done" Tb.s_Change_done f fd ∧ L2.Binds (L2.KOf KX) fd ["self", "pattern"] [] := by
      dsimp only [L2.KOf]
      refine' L2.meth_mk KX G ?za ?z2 ?z3 ?z5 ?z6 ?z7 ?zb
      (case za => k_is); (case z2 => k_is); (case z3 => k_is); (case z5 => k_is); (case z6 => k_is); (case z7 => k_is); (case zb => exact fun _ _ _ _ _ _ us hl => match us, hl with | [_, _], _ => rfl)
    have c_Turn : ∃ C, mg "Turn" = some (.ref C) ∧ L2.OCls (L2.KOf KX) C := by
      dsimp only [L2.KOf]
      refine' L2.ocls_mk KX G ?za ?z1 ?z2 ?z3 ?z4 ?z5 ?z6 ?z7 ?z8 ?z9 ?z10
      (case za => k_is); (case z1 => k_is); (case z2 => k_is); (case z3 => k_is); (case z4 => k_is); (case z5 => k_is); (case z6 => k_is); (case z7 => k_is); (case z8 => k_is); (case z9 => k_is); (case z10 => k_is)
    have in_Turn : ∃ C f fd, mg "Turn" = some (.ref C) ∧ L2.Mk (L2.KOf KX) C f ∧ L2.Fun (L2.KOf KX) "__init__" "Turn.__init__" Tb.s_Turn___init__ f fd ∧ L2.Binds (L2.KOf KX) fd ["self", "k"] [] := by
      dsimp only [L2.KOf]
      refine' L2.init_mk KX G ?za ?z1 ?z2 ?z3 ?z4 ?z5 ?z6 ?z7 ?zb
      (case za => k_is); (case z1 => k_is); (case z2 => k_is); (case z3 => k_is); (case z4 => k_is); (case z5 => k_is); (case z6 => k_is); (case z7 => k_is); (case zb => exact fun _ _ _ _ _ _ us hl => match us, hl with | [_, _], _ => rfl)
    have na_Turn_k : ∃ C, mg "Turn" = some (.ref C) ∧ L2.NoAttr (L2.KOf KX) C "k" := by
      dsimp only [L2.KOf]
      refine' L2.noattr_mk KX G ?za ?z1
      (case za => k_is); (case z1 => k_is)
    have hm_Turn_done : ∃ C f fd, mg "Turn" = some (.ref C) ∧ L2.Meth (L2.KOf KX) C "done" f ∧ L2.Fun (L2.KOf KX) "done" "Turn.done" Tb.s_Turn_done f fd ∧ L2.Binds (L2.KOf KX) fd ["self", "pattern"] [] := by
      dsimp only [L2.KOf]
      refine' L2.meth_mk KX G ?za ?z2 ?z3 ?z5 ?z6 ?z7 ?zb
      (case za => k_is); (case z2 => k_is); (case z3 => k_is); (case z5 => k_is); (case z6 => k_is); (case z7 => k_is); (case zb => exact fun _ _ _ _ _ _ us hl => match us, hl with | [_, _], _ => rfl)
    have c_Lift : ∃ C, mg "Lift" = some (.ref C) ∧ L2.OCls (L2.KOf KX) C := by
      dsimp only [L2.KOf]
      refine' L2.ocls_mk KX G ?za ?z1 ?z2 ?z3 ?z4 ?z5 ?z6 ?z7 ?z8 ?z9 ?z10
      (case za => k_is); (case z1 => k_is); (case z2 => k_is); (case z3 => k_is); (case z4 => k_is); (case z5 => k_is); (case z6 => k_is); (case z7 => k_is); (case z8 => k_is); (case z9 => k_is); (case z10 => k_is)
    have in_Lift : ∃ C f fd, mg "Lift" = some (.ref C) ∧ L2.Mk (L2.KOf KX) C f ∧ L2.Fun (L2.KOf KX) "__init__" "Lift.__init__" Tb.s_Lift___init__ f fd ∧ L2.Binds (L2.KOf KX) fd ["self", "k"] [] := by
      dsimp only [L2.KOf]
      refine' L2.init_mk KX G ?za ?z1 ?z2 ?z3 ?z4 ?z5 ?z6 ?z7 ?zb
      (case za => k_is); (case z1 => k_is); (case z2 => k_is); (case z3 => k_is); (case z4 => k_is); (case z5 => k_is); (case z6 => k_is); (case z7 => k_is); (case zb => exact fun _ _ _ _ _ _ us hl => match us, hl with | [_, _], _ => rfl)
    have na_Lift_k : ∃ C, mg "Lift" = some (.ref C) ∧ L2.NoAttr (L2.KOf KX) C "k" := by
      dsimp only [L2.KOf]
      refine' L2.noattr_mk KX G ?za ?z1
      (case za => k_is); (case z1 => k_is)
    have hm_Lift_done : ∃ C f fd, mg "Lift" = some (.ref C) ∧ L2.Meth (L2.KOf KX) C "done" f ∧ L2.Fun (L2.KOf KX) "done" "Lift.done" Tb.s_Lift_done f fd ∧ L2.Binds (L2.KOf KX) fd ["self", "pattern"] [] := by
      dsimp only [L2.KOf]
      refine' L2.meth_mk KX G ?za ?z2 ?z3 ?z5 ?z6 ?z7 ?zb
      (case za => k_is); (case z2 => k_is); (case z3 => k_is); (case z5 => k_is); (case z6 => k_is); (case z7 => k_is); (case zb => exact fun _ _ _ _ _ _ us hl => match us, hl with | [_, _], _ => rfl)
    have c_Swap : ∃ C, mg "Swap" = some (.ref C) ∧ L2.OCls (L2.KOf KX) C := by
      dsimp only [L2.KOf]
      refine' L2.ocls_mk KX G ?za ?z1 ?z2 ?z3 ?z4 ?z5 ?z6 ?z7 ?z8 ?z9 ?z10
      (case za => k_is); (case z1 => k_is); (case z2 => k_is); (case z3 => k_is); (case z4 => k_is); (case z5 => k_is); (case z6 => k_is); (case z7 => k_is); (case z8 => k_is); (case z9 => k_is); (case z10 => k_is)
    have in_Swap : ∃ C f fd, mg "Swap" = some (.ref C) ∧ L2.Mk (L2.KOf KX) C f ∧ L2.Fun (L2.KOf KX) "__init__" "Swap.__init__" Tb.s_Swap___init__ f fd ∧ L2.Binds (L2.KOf KX) fd ["self", "i", "j"] [] := by
      dsimp only [L2.KOf]
      refine' L2.init_mk KX G ?za ?z1 ?z2 ?z3 ?z4 ?z5 ?z6 ?z7 ?zb
      (case za => k_is); (case z1 => k_is); (case z2 => k_is); (case z3 => k_is); (case z4 => k_is); (case z5 => k_is); (case z6 => k_is); (case z7 => k_is); (case zb => exact fun _ _ _ _ _ _ us hl => match us, hl with | [_, _, _], _ => rfl)
    have na_Swap_i : ∃ C, mg "Swap" = some (.ref C) ∧ L2.NoAttr (L2.KOf KX) C "i" := by
      dsimp only [L2.KOf]
      refine' L2.noattr_mk KX G ?za ?z1
      (case za => k_is); (case z1 => k_is)
    have na_Swap_j : ∃ C, mg "Swap" = some (.ref C) ∧ L2.NoAttr (L2.KOf KX) C "j" := by
      dsimp only [L2.KOf]
      refine' L2.noattr_mk KX G ?za ?z1
      (case za => k_is); (case z1 => k_is)
    have hm_Swap_done : ∃ C f fd, mg "Swap" = some (.ref C) ∧ L2.Meth (L2.KOf KX) C "done" f ∧ L2.Fun (L2.KOf KX) "done" "Swap.done" Tb.s_Swap_done f fd ∧ L2.Binds (L2.KOf KX) fd ["self", "pattern"] [] := by
      dsimp only [L2.KOf]
      refine' L2.meth_mk KX G ?za ?z2 ?z3 ?z5 ?z6 ?z7 ?zb
      (case za => k_is); (case z2 => k_is); (case z3 => k_is); (case z5 => k_is); (case z6 => k_is); (case z7 => k_is); (case zb => exact fun _ _ _ _ _ _ us hl => match us, hl with | [_, _], _ => rfl)
    have c_Neighbours : ∃ C, mg "Neighbours" = some (.ref C) ∧ L2.OCls (L2.KOf KX) C := by
      dsimp only [L2.KOf]
      refine' L2.ocls_mk KX G ?za ?z1 ?z2 ?z3 ?z4 ?z5 ?z6 ?z7 ?z8 ?z9 ?z10
      (case za => k_is); (case z1 => k_is); (case z2 => k_is); (case z3 => k_is); (case z4 => k_is); (case z5 => k_is); (case z6 => k_is); (case z7 => k_is); (case z8 => k_is); (case z9 => k_is); (case z10 => k_is)
    have in_Neighbours : ∃ C f fd, mg "Neighbours" = some (.ref C) ∧ L2.Mk (L2.KOf KX) C f ∧ L2.Fun (L2.KOf KX) "__init__" "Neighbours.__init__" Tb.s_Neighbours___init__ f fd ∧ L2.Binds (L2.KOf KX) fd ["self", "k"] [] := by
      dsimp only [L2.KOf]
      refine' L2.init_mk KX G ?za ?z1 ?z2 ?z3 ?z4 ?z5 ?z6 ?z7 ?zb
      (case za => k_is); (case z1 => k_is); (case z2 => k_is); (case z3 => k_is); (case z4 => k_is); (case z5 => k_is); (case z6 => k_is); (case z7 => k_is); (case zb => exact fun _ _ _ _ _ _ us hl => match us, hl with | [_, _], _ => rfl)
    have na_Neighbours_k : ∃ C, mg "Neighbours" = some (.ref C) ∧ L2.NoAttr (L2.KOf KX) C "k" := by
      dsimp only [L2.KOf]
      refine' L2.noattr_mk KX G ?za ?z1
      (case za => k_is); (case z1 => k_is)
    have hm_Neighbours_done : ∃ C f fd, mg "Neighbours" = some (.ref C) ∧ L2.Meth (L2.KOf KX) C "done" f ∧ L2.Fun (L2.KOf KX) "done" "Neighbours.done" Tb.s_Neighbours_done f fd ∧ L2.Binds (L2.KOf KX) fd ["self", "pattern"] [] := by
      dsimp only [L2.KOf]
      refine' L2.meth_mk KX G ?za ?z2 ?z3 ?z5 ?z6 ?z7 ?zb
      (case za => k_is); (case z2 => k_is); (case z3 => k_is); (case z5 => k_is); (case z6 => k_is); (case z7 => k_is); (case zb => exact fun _ _ _ _ _ _ us hl => match us, hl with | [_, _], _ => rfl)
    have c_Mirror : ∃ C, mg "Mirror" = some (.ref C) ∧ L2.OCls (L2.KOf KX) C := by
      dsimp only [L2.KOf]
      refine' L2.ocls_mk KX G ?za ?z1 ?z2 ?z3 ?z4 ?z5 ?z6 ?z7 ?z8 ?z9 ?z10
      (case za => k_is); (case z1 => k_is); (case z2 => k_is); (case z3 => k_is); (case z4 => k_is); (case z5 => k_is); (case z6 => k_is); (case z7 => k_is); (case z8 => k_is); (case z9 => k_is); (case z10 => k_is)
    have i0_Mirror : ∃ C, mg "Mirror" = some (.ref C) ∧ PySem.W.findIn (L2.KOf KX) (.ref C) "__init__" = some (some (.builtin "object.__init__")) := by
      dsimp only [L2.KOf]
      refine' L2.init0_mk KX G ?za ?z1
      (case za => k_is); (case z1 => k_is)
    have hm_Mirror_done : ∃ C f fd, mg "Mirror" = some (.ref C) ∧ L2.Meth (L2.KOf KX) C "done" f ∧ L2.Fun (L2.KOf KX) "done" "Mirror.done" Tb.s_Mirror_done f fd ∧ L2.Binds (L2.KOf KX) fd ["self", "pattern"] [] := by
      dsimp only [L2.KOf]
      refine' L2.meth_mk KX G ?za ?z2 ?z3 ?z5 ?z6 ?z7 ?zb
      (case za => k_is); (case z2 => k_is); (case z3 => k_is); (case z5 => k_is); (case z6 => k_is); (case z7 => k_is); (case zb => exact fun _ _ _ _ _ _ us hl => match us, hl with | [_, _], _ => rfl)
    have c_Gaps : ∃ C, mg "Gaps" = some (.ref C) ∧ L2.OCls (L2.KOf KX) C := by
      dsimp only [L2.KOf]
      refine' L2.ocls_mk KX G ?za ?z1 ?z2 ?z3 ?z4 ?z5 ?z6 ?z7 ?z8 ?z9 ?z10
      (case za => k_is); (case z1 => k_is); (case z2 => k_is); (case z3 => k_is); (case z4 => k_is); (case z5 => k_is); (case z6 => k_is); (case z7 => k_is); (case z8 => k_is); (case z9 => k_is); (case z10 => k_is)
    have in_Gaps : ∃ C f fd, mg "Gaps" = some (.ref C) ∧ L2.Mk (L2.KOf KX) C f ∧ L2.Fun (L2.KOf KX) "__init__" "Gaps.__init__" Tb.s_Gaps___init__ f fd ∧ L2.Binds (L2.KOf KX) fd ["self", "h"] [] := by
      dsimp only [L2.KOf]
      refine' L2.init_mk KX G ?za ?z1 ?z2 ?z3 ?z4 ?z5 ?z6 ?z7 ?zb
      (case za => k_is); (case z1 => k_is); (case z2 => k_is); (case z3 => k_is); (case z4 => k_is); (case z5 => k_is); (case z6 => k_is); (case z7 => k_is); (case zb => exact fun _ _ _ _ _ _ us hl => match us, hl with | [_, _], _ => rfl)
    have na_Gaps_h : ∃ C, mg "Gaps" = some (.ref C) ∧ L2.NoAttr (L2.KOf KX) C "h" := by
      dsimp only [L2.KOf]
      refine' L2.noattr_mk KX G ?za ?z1
      (case za => k_is); (case z1 => k_is)
    have hm_Gaps_done : ∃ C f fd, mg "Gaps" = some (.ref C) ∧ L2.Meth (L2.KOf KX) C "done" f ∧ L2.Fun (L2.KOf KX) "done" "Gaps.done" Tb.s_Gaps_done f fd ∧ L2.Binds (L2.KOf KX) fd ["self", "pattern"] [] := by
      dsimp only [L2.KOf]
      refine' L2.meth_mk KX G ?za ?z2 ?z3 ?z5 ?z6 ?z7 ?zb
      (case za => k_is); (case z2 => k_is); (case z3 => k_is); (case z5 => k_is); (case z6 => k_is); (case z7 => k_is); (case zb => exact fun _ _ _ _ _ _ us hl => match us, hl with | [_, _], _ => rfl)
    have c_Changes : ∃ C, mg "Changes" = some (.ref C) ∧ L2.OCls (L2.KOf KX) C := by
      dsimp only [L2.KOf]
      refine' L2.ocls_mk KX G ?za ?z1 ?z2 ?z3 ?z4 ?z5 ?z6 ?z7 ?z8 ?z9 ?z10
      (case za => k_is); (case z1 => k_is); (case z2 => k_is); (case z3 => k_is); (case z4 => k_is); (case z5 => k_is); (case z6 => k_is); (case z7 => k_is); (case z8 => k_is); (case z9 => k_is); (case z10 => k_is)
    have in_Changes : ∃ C f fd, mg "Changes" = some (.ref C) ∧ L2.Mk (L2.KOf KX) C f ∧ L2.Fun (L2.KOf KX) "__init__" "Changes.__init__" Tb.s_Changes___init__ f fd ∧ L2.Binds (L2.KOf KX) fd ["self", "rows"] [] := by
      dsimp only [L2.KOf]
      refine' L2.init_mk KX G ?za ?z1 ?z2 ?z3 ?z4 ?z5 ?z6 ?z7 ?zb
      (case za => k_is); (case z1 => k_is); (case z2 => k_is); (case z3 => k_is); (case z4 => k_is); (case z5 => k_is); (case z6 => k_is); (case z7 => k_is); (case zb => exact fun _ _ _ _ _ _ us hl => match us, hl with | [_, _], _ => rfl)
    have na_Changes_steps : ∃ C, mg "Changes" = some (.ref C) ∧ L2.NoAttr (L2.KOf KX) C "steps" := by
      dsimp only [L2.KOf]
      refine' L2.noattr_mk KX G ?za ?z1
      (case za => k_is); (case z1 => k_is)
    have hm_Changes_done : ∃ C f fd, mg "Changes" = some (.ref C) ∧ L2.Meth (L2.KOf KX) C "done" f ∧ L2.Fun (L2.KOf KX) "done" "Changes.done" Tb.s_Changes_done f fd ∧ L2.Binds (L2.KOf KX) fd ["self", "pattern"] [] := by
      dsimp only [L2.KOf]
      refine' L2.meth_mk KX G ?za ?z2 ?z3 ?z5 ?z6 ?z7 ?zb
      (case za => k_is); (case z2 => k_is); (case z3 => k_is); (case z5 => k_is); (case z6 => k_is); (case z7 => k_is); (case zb => exact fun _ _ _ _ _ _ us hl => match us, hl with | [_, _], _ => rfl)
    have e_X17 : Tb.X17Is (L2.KOf KX) mg := by
      dsimp only [L2.KOf]
      refine' Tb.x17_mk KX G ?yTE ?yNAR ?yCL ?yOL ?yOOB ?yNP ?yNT ?yNW ?lTE ?tTE ?lNAR ?tNAR ?lCL ?tCL ?lOL ?tOL ?lOOB ?tOOB ?lNP ?tNP ?lNT ?tNT ?lNW ?tNW ?cn ?ct ?gaNAR ?gtNAR ?caNAR ?gaCL ?gtCL ?caCL ?gaOL ?gtOL ?caOL ?gaOOB ?gtOOB ?caOOB ?nd
      (case yTE => k_is); (case yNAR => k_is); (case yCL => k_is); (case yOL => k_is); (case yOOB => k_is); (case yNP => k_is); (case yNT => k_is); (case yNW => k_is); (case lTE => k_is); (case tTE => k_is); (case lNAR => k_is); (case tNAR => k_is); (case lCL => k_is); (case tCL => k_is); (case lOL => k_is); (case tOL => k_is); (case lOOB => k_is); (case tOOB => k_is); (case lNP => k_is); (case tNP => k_is); (case lNT => k_is); (case tNT => k_is); (case lNW => k_is); (case tNW => k_is); (case cn => k_is); (case ct => k_is); (case gaNAR => k_is); (case gtNAR => k_is); (case caNAR => k_is); (case gaCL => k_is); (case gtCL => k_is); (case caCL => k_is); (case gaOL => k_is); (case gtOL => k_is); (case caOL => k_is); (case gaOOB => k_is); (case gtOOB => k_is); (case caOOB => k_is); (case nd => decide)
    have h_is_whole : ∃ f fd, L2.Has (L2.KOf KX) mg "is_whole" Tb.s_is_whole ["value"] f fd := by
      dsimp only [L2.KOf]
      refine' L2.has_mk KX G ?za ?zl ?zc ?zk ?zb
      (case za => k_is); (case zl => k_is); (case zc => k_is); (case zk => k_is); (case zb => exact fun _ _ _ _ _ _ us hl => match us, hl with | [_], _ => rfl)
    have h_is_between : ∃ f fd, L2.Has (L2.KOf KX) mg "is_between" Tb.s_is_between ["value", "least", "most"] f fd := by
      dsimp only [L2.KOf]
      refine' L2.has_mk KX G ?za ?zl ?zc ?zk ?zb
      (case za => k_is); (case zl => k_is); (case zc => k_is); (case zk => k_is); (case zb => exact fun _ _ _ _ _ _ us hl => match us, hl with | [_, _, _], _ => rfl)
    have h_is_throw : ∃ f fd, L2.Has (L2.KOf KX) mg "is_throw" Tb.s_is_throw ["value"] f fd := by
      dsimp only [L2.KOf]
      refine' L2.has_mk KX G ?za ?zl ?zc ?zk ?zb
      (case za => k_is); (case zl => k_is); (case zc => k_is); (case zk => k_is); (case zb => exact fun _ _ _ _ _ _ us hl => match us, hl with | [_], _ => rfl)
    have h_check_throw : ∃ f fd, L2.Has (L2.KOf KX) mg "check_throw" Tb.s_check_throw ["value"] f fd := by
      dsimp only [L2.KOf]
      refine' L2.has_mk KX G ?za ?zl ?zc ?zk ?zb
      (case za => k_is); (case zl => k_is); (case zc => k_is); (case zk => k_is); (case zb => exact fun _ _ _ _ _ _ us hl => match us, hl with | [_], _ => rfl)
    have h_check_row : ∃ f fd, L2.Has (L2.KOf KX) mg "check_row" Tb.s_check_row ["row"] f fd := by
      dsimp only [L2.KOf]
      refine' L2.has_mk KX G ?za ?zl ?zc ?zk ?zb
      (case za => k_is); (case zl => k_is); (case zc => k_is); (case zk => k_is); (case zb => exact fun _ _ _ _ _ _ us hl => match us, hl with | [_], _ => rfl)
    have h_check_pattern : ∃ f fd, L2.Has (L2.KOf KX) mg "check_pattern" Tb.s_check_pattern ["pattern"] f fd := by
      dsimp only [L2.KOf]
      refine' L2.has_mk KX G ?za ?zl ?zc ?zk ?zb
      (case za => k_is); (case zl => k_is); (case zc => k_is); (case zk => k_is); (case zb => exact fun _ _ _ _ _ _ us hl => match us, hl with | [_], _ => rfl)
    have h_landings : ∃ f fd, L2.Has (L2.KOf KX) mg "landings" Tb.s_landings ["row"] f fd := by
      dsimp only [L2.KOf]
      refine' L2.has_mk KX G ?za ?zl ?zc ?zk ?zb
      (case za => k_is); (case zl => k_is); (case zc => k_is); (case zk => k_is); (case zb => exact fun _ _ _ _ _ _ us hl => match us, hl with | [_], _ => rfl)
    have h_clash_of : ∃ f fd, L2.Has (L2.KOf KX) mg "clash_of" Tb.s_clash_of ["row"] f fd := by
      dsimp only [L2.KOf]
      refine' L2.has_mk KX G ?za ?zl ?zc ?zk ?zb
      (case za => k_is); (case zl => k_is); (case zc => k_is); (case zk => k_is); (case zb => exact fun _ _ _ _ _ _ us hl => match us, hl with | [_], _ => rfl)
    have h_balls_of : ∃ f fd, L2.Has (L2.KOf KX) mg "balls_of" Tb.s_balls_of ["pattern"] f fd := by
      dsimp only [L2.KOf]
      refine' L2.has_mk KX G ?za ?zl ?zc ?zk ?zb
      (case za => k_is); (case zl => k_is); (case zc => k_is); (case zk => k_is); (case zb => exact fun _ _ _ _ _ _ us hl => match us, hl with | [_], _ => rfl)
    have h_even : ∃ f fd, L2.Has (L2.KOf KX) mg "even" Tb.s_even ["length", "balls"] f fd := by
      dsimp only [L2.KOf]
      refine' L2.has_mk KX G ?za ?zl ?zc ?zk ?zb
      (case za => k_is); (case zl => k_is); (case zc => k_is); (case zk => k_is); (case zb => exact fun _ _ _ _ _ _ us hl => match us, hl with | [_, _], _ => rfl)
    have h_within_bounds : ∃ f fd, L2.Has (L2.KOf KX) mg "within_bounds" Tb.s_within_bounds ["throws"] f fd := by
      dsimp only [L2.KOf]
      refine' L2.has_mk KX G ?za ?zl ?zc ?zk ?zb
      (case za => k_is); (case zl => k_is); (case zc => k_is); (case zk => k_is); (case zb => exact fun _ _ _ _ _ _ us hl => match us, hl with | [_], _ => rfl)
    have h_after : ∃ f fd, L2.Has (L2.KOf KX) mg "after" Tb.s_after ["one", "other"] f fd := by
      dsimp only [L2.KOf]
      refine' L2.has_mk KX G ?za ?zl ?zc ?zk ?zb
      (case za => k_is); (case zl => k_is); (case zc => k_is); (case zk => k_is); (case zb => exact fun _ _ _ _ _ _ us hl => match us, hl with | [_, _], _ => rfl)
    have h_back : ∃ f fd, L2.Has (L2.KOf KX) mg "back" Tb.s_back ["pattern"] f fd := by
      dsimp only [L2.KOf]
      refine' L2.has_mk KX G ?za ?zl ?zc ?zk ?zb
      (case za => k_is); (case zl => k_is); (case zc => k_is); (case zk => k_is); (case zb => exact fun _ _ _ _ _ _ us hl => match us, hl with | [_], _ => rfl)
    have h_turned : ∃ f fd, L2.Has (L2.KOf KX) mg "turned" Tb.s_turned ["pattern", "k"] f fd := by
      dsimp only [L2.KOf]
      refine' L2.has_mk KX G ?za ?zl ?zc ?zk ?zb
      (case za => k_is); (case zl => k_is); (case zc => k_is); (case zk => k_is); (case zb => exact fun _ _ _ _ _ _ us hl => match us, hl with | [_, _], _ => rfl)
    have h_lifted : ∃ f fd, L2.Has (L2.KOf KX) mg "lifted" Tb.s_lifted ["pattern", "k"] f fd := by
      dsimp only [L2.KOf]
      refine' L2.has_mk KX G ?za ?zl ?zc ?zk ?zb
      (case za => k_is); (case zl => k_is); (case zc => k_is); (case zk => k_is); (case zb => exact fun _ _ _ _ _ _ us hl => match us, hl with | [_, _], _ => rfl)
    have h_mirrored : ∃ f fd, L2.Has (L2.KOf KX) mg "mirrored" Tb.s_mirrored ["pattern"] f fd := by
      dsimp only [L2.KOf]
      refine' L2.has_mk KX G ?za ?zl ?zc ?zk ?zb
      (case za => k_is); (case zl => k_is); (case zc => k_is); (case zk => k_is); (case zb => exact fun _ _ _ _ _ _ us hl => match us, hl with | [_], _ => rfl)
    have h_gaps : ∃ f fd, L2.Has (L2.KOf KX) mg "gaps" Tb.s_gaps ["pattern", "h"] f fd := by
      dsimp only [L2.KOf]
      refine' L2.has_mk KX G ?za ?zl ?zc ?zk ?zb
      (case za => k_is); (case zl => k_is); (case zc => k_is); (case zk => k_is); (case zb => exact fun _ _ _ _ _ _ us hl => match us, hl with | [_, _], _ => rfl)
    have h_rounds : ∃ f fd, L2.Has (L2.KOf KX) mg "rounds" Tb.s_rounds ["pattern"] f fd := by
      dsimp only [L2.KOf]
      refine' L2.has_mk KX G ?za ?zl ?zc ?zk ?zb
      (case za => k_is); (case zl => k_is); (case zc => k_is); (case zk => k_is); (case zb => exact fun _ _ _ _ _ _ us hl => match us, hl with | [_], _ => rfl)
    have h_check_beat : ∃ f fd, L2.Has (L2.KOf KX) mg "check_beat" Tb.s_check_beat ["value", "length"] f fd := by
      dsimp only [L2.KOf]
      refine' L2.has_mk KX G ?za ?zl ?zc ?zk ?zb
      (case za => k_is); (case zl => k_is); (case zc => k_is); (case zk => k_is); (case zb => exact fun _ _ _ _ _ _ us hl => match us, hl with | [_, _], _ => rfl)
    have h_swapped : ∃ f fd, L2.Has (L2.KOf KX) mg "swapped" Tb.s_swapped ["pattern", "i", "j"] f fd := by
      dsimp only [L2.KOf]
      refine' L2.has_mk KX G ?za ?zl ?zc ?zk ?zb
      (case za => k_is); (case zl => k_is); (case zc => k_is); (case zk => k_is); (case zb => exact fun _ _ _ _ _ _ us hl => match us, hl with | [_, _, _], _ => rfl)
    have h_neighbours : ∃ f fd, L2.Has (L2.KOf KX) mg "neighbours" Tb.s_neighbours ["pattern", "k"] f fd := by
      dsimp only [L2.KOf]
      refine' L2.has_mk KX G ?za ?zl ?zc ?zk ?zb
      (case za => k_is); (case zl => k_is); (case zc => k_is); (case zk => k_is); (case zb => exact fun _ _ _ _ _ _ us hl => match us, hl with | [_, _], _ => rfl)
    have h_crossings : ∃ f fd, L2.Has (L2.KOf KX) mg "crossings" Tb.s_crossings ["pattern"] f fd := by
      dsimp only [L2.KOf]
      refine' L2.has_mk KX G ?za ?zl ?zc ?zk ?zb
      (case za => k_is); (case zl => k_is); (case zc => k_is); (case zk => k_is); (case zb => exact fun _ _ _ _ _ _ us hl => match us, hl with | [_], _ => rfl)
    have h_from_even : ∃ f fd, L2.Has (L2.KOf KX) mg "from_even" Tb.s_from_even ["pattern"] f fd := by
      dsimp only [L2.KOf]
      refine' L2.has_mk KX G ?za ?zl ?zc ?zk ?zb
      (case za => k_is); (case zl => k_is); (case zc => k_is); (case zk => k_is); (case zb => exact fun _ _ _ _ _ _ us hl => match us, hl with | [_], _ => rfl)
    have h_unchanged : ∃ f fd, L2.Has (L2.KOf KX) mg "unchanged" Tb.s_unchanged ["pattern"] f fd := by
      dsimp only [L2.KOf]
      refine' L2.has_mk KX G ?za ?zl ?zc ?zk ?zb
      (case za => k_is); (case zl => k_is); (case zc => k_is); (case zk => k_is); (case zb => exact fun _ _ _ _ _ _ us hl => match us, hl with | [_], _ => rfl)
    have h_patterns : ∃ f fd, L2.Has (L2.KOf KX) mg "patterns" Tb.s_patterns ["length", "balls"] f fd := by
      dsimp only [L2.KOf]
      refine' L2.has_mk KX G ?za ?zl ?zc ?zk ?zb
      (case za => k_is); (case zl => k_is); (case zc => k_is); (case zk => k_is); (case zb => exact fun _ _ _ _ _ _ us hl => match us, hl with | [_, _], _ => rfl)
    have h_written : ∃ f fd, L2.Has (L2.KOf KX) mg "written" Tb.s_written ["row"] f fd := by
      dsimp only [L2.KOf]
      refine' L2.has_mk KX G ?za ?zl ?zc ?zk ?zb
      (case za => k_is); (case zl => k_is); (case zc => k_is); (case zk => k_is); (case zb => exact fun _ _ _ _ _ _ us hl => match us, hl with | [_], _ => rfl)
    have h_check_plain : ∃ f fd, L2.Has (L2.KOf KX) mg "check_plain" Tb.s_check_plain ["pattern"] f fd := by
      dsimp only [L2.KOf]
      refine' L2.has_mk KX G ?za ?zl ?zc ?zk ?zb
      (case za => k_is); (case zl => k_is); (case zc => k_is); (case zk => k_is); (case zb => exact fun _ _ _ _ _ _ us hl => match us, hl with | [_], _ => rfl)
    have h_states_of : ∃ f fd, L2.Has (L2.KOf KX) mg "states_of" Tb.s_states_of ["pattern"] f fd := by
      dsimp only [L2.KOf]
      refine' L2.has_mk KX G ?za ?zl ?zc ?zk ?zb
      (case za => k_is); (case zl => k_is); (case zc => k_is); (case zk => k_is); (case zb => exact fun _ _ _ _ _ _ us hl => match us, hl with | [_], _ => rfl)
    have h_parted : ∃ f fd, L2.Has (L2.KOf KX) mg "parted" Tb.s_parted ["pattern"] f fd := by
      dsimp only [L2.KOf]
      refine' L2.has_mk KX G ?za ?zl ?zc ?zk ?zb
      (case za => k_is); (case zl => k_is); (case zc => k_is); (case zk => k_is); (case zb => exact fun _ _ _ _ _ _ us hl => match us, hl with | [_], _ => rfl)
    have h_check_greatest : ∃ f fd, L2.Has (L2.KOf KX) mg "check_greatest" Tb.s_check_greatest ["most"] f fd := by
      dsimp only [L2.KOf]
      refine' L2.has_mk KX G ?za ?zl ?zc ?zk ?zb
      (case za => k_is); (case zl => k_is); (case zc => k_is); (case zk => k_is); (case zb => exact fun _ _ _ _ _ _ us hl => match us, hl with | [_], _ => rfl)
    have h_check_state : ∃ f fd, L2.Has (L2.KOf KX) mg "check_state" Tb.s_check_state ["state", "most"] f fd := by
      dsimp only [L2.KOf]
      refine' L2.has_mk KX G ?za ?zl ?zc ?zk ?zb
      (case za => k_is); (case zl => k_is); (case zc => k_is); (case zk => k_is); (case zb => exact fun _ _ _ _ _ _ us hl => match us, hl with | [_, _], _ => rfl)
    have h_distances : ∃ f fd, L2.Has (L2.KOf KX) mg "distances" Tb.s_distances ["state", "most"] f fd := by
      dsimp only [L2.KOf]
      refine' L2.has_mk KX G ?za ?zl ?zc ?zk ?zb
      (case za => k_is); (case zl => k_is); (case zc => k_is); (case zk => k_is); (case zb => exact fun _ _ _ _ _ _ us hl => match us, hl with | [_, _], _ => rfl)
    have h__law_cell_at : ∃ f fd, L2.Has (L2.KOf KX) mg "_law_cell_at" Tb.s__law_cell_at ["_law_script", "_law_k"] f fd := by
      dsimp only [L2.KOf]
      refine' L2.has_mk KX G ?za ?zl ?zc ?zk ?zb
      (case za => k_is); (case zl => k_is); (case zc => k_is); (case zk => k_is); (case zb => exact fun _ _ _ _ _ _ us hl => match us, hl with | [_, _], _ => rfl)
    have h__law_ask_row : ∃ f fd, L2.Has (L2.KOf KX) mg "_law_ask_row" Tb.s__law_ask_row ["_law_door", "_law_row"] f fd := by
      dsimp only [L2.KOf]
      refine' L2.has_mk KX G ?za ?zl ?zc ?zk ?zb
      (case za => k_is); (case zl => k_is); (case zc => k_is); (case zk => k_is); (case zb => exact fun _ _ _ _ _ _ us hl => match us, hl with | [_, _], _ => rfl)
    have h__law_ask_change : ∃ f fd, L2.Has (L2.KOf KX) mg "_law_ask_change" Tb.s__law_ask_change ["_law_door", "_law_row"] f fd := by
      dsimp only [L2.KOf]
      refine' L2.has_mk KX G ?za ?zl ?zc ?zk ?zb
      (case za => k_is); (case zl => k_is); (case zc => k_is); (case zk => k_is); (case zb => exact fun _ _ _ _ _ _ us hl => match us, hl with | [_, _], _ => rfl)
    have h__law_bad_row : ∃ f fd, L2.Has (L2.KOf KX) mg "_law_bad_row" Tb.s__law_bad_row ["_law_k", "_law_far"] f fd := by
      dsimp only [L2.KOf]
      refine' L2.has_mk KX G ?za ?zl ?zc ?zk ?zb
      (case za => k_is); (case zl => k_is); (case zc => k_is); (case zk => k_is); (case zb => exact fun _ _ _ _ _ _ us hl => match us, hl with | [_, _], _ => rfl)
    have h__law_ask_bounds : ∃ f fd, L2.Has (L2.KOf KX) mg "_law_ask_bounds" Tb.s__law_ask_bounds ["_law_door", "_law_k", "_law_far"] f fd := by
      dsimp only [L2.KOf]
      refine' L2.has_mk KX G ?za ?zl ?zc ?zk ?zb
      (case za => k_is); (case zl => k_is); (case zc => k_is); (case zk => k_is); (case zb => exact fun _ _ _ _ _ _ us hl => match us, hl with | [_, _, _], _ => rfl)
    have h__law_ask : ∃ f fd, L2.Has (L2.KOf KX) mg "_law_ask" Tb.s__law_ask ["_law_kind", "_law_door", "_law_k", "_law_far"] f fd := by
      dsimp only [L2.KOf]
      refine' L2.has_mk KX G ?za ?zl ?zc ?zk ?zb
      (case za => k_is); (case zl => k_is); (case zc => k_is); (case zk => k_is); (case zb => exact fun _ _ _ _ _ _ us hl => match us, hl with | [_, _, _, _], _ => rfl)
    have h__law_told : ∃ f fd, L2.Has (L2.KOf KX) mg "_law_told" Tb.s__law_told ["_law_kind", "_law_door", "_law_k", "_law_far"] f fd := by
      dsimp only [L2.KOf]
      refine' L2.has_mk KX G ?za ?zl ?zc ?zk ?zb
      (case za => k_is); (case zl => k_is); (case zc => k_is); (case zk => k_is); (case zb => exact fun _ _ _ _ _ _ us hl => match us, hl with | [_, _, _, _], _ => rfl)
    have h__law_two_bad : ∃ f fd, L2.Has (L2.KOf KX) mg "_law_two_bad" Tb.s__law_two_bad ["_law_more"] f fd := by
      dsimp only [L2.KOf]
      refine' L2.has_mk KX G ?za ?zl ?zc ?zk ?zb
      (case za => k_is); (case zl => k_is); (case zc => k_is); (case zk => k_is); (case zb => exact fun _ _ _ _ _ _ us hl => match us, hl with | [_], _ => rfl)
    have h__law_all_right : ∃ f fd, L2.Has (L2.KOf KX) mg "_law_all_right" Tb.s__law_all_right ["_law_kind", "_law_far", "_law_doors", "_law_ways"] f fd := by
      dsimp only [L2.KOf]
      refine' L2.has_mk KX G ?za ?zl ?zc ?zk ?zb
      (case za => k_is); (case zl => k_is); (case zc => k_is); (case zk => k_is); (case zb => exact fun _ _ _ _ _ _ us hl => match us, hl with | [_, _, _, _], _ => rfl)
    have h_law : ∃ f fd, L2.Has (L2.KOf KX) mg "law" Tb.s_law ["_law_script"] f fd := by
      dsimp only [L2.KOf]
      refine' L2.has_mk KX G ?za ?zl ?zc ?zk ?zb
      (case za => k_is); (case zl => k_is); (case zc => k_is); (case zk => k_is); (case zb => exact fun _ _ _ _ _ _ us hl => match us, hl with | [_], _ => rfl)
    obtain ⟨fd, hb, hF⟩ := Tb.all_k17 (l := PySem.Challenge.rw_tossbook_k17_refused) (w := w) hmg ⟨b_len, b_range, b_enumerate, b_zip, b_isinstance, b_int, b_bool, b_list, b_tuple, b_all, b_any, b_sum, b_max, b_min, b_abs, b_sorted⟩ b_ValueError g_LONGEST_ROW g_FARTHEST_THROW g_MOST_SWAPS g_LONGEST_LISTED g_MOST_BALLS_LISTED e_NotARow e_OutOfBounds e_OtherLength e_Clash e_X17 h_is_whole h_is_between h_is_throw h_check_throw h_check_row h_check_pattern h_landings h_clash_of h_balls_of h_even h_within_bounds h_after h_back h_turned h_lifted h_mirrored h_gaps h_rounds h_check_beat h_swapped h_neighbours h_crossings h_from_even h_unchanged h_patterns h_written h_check_plain h_states_of h_parted h_check_greatest h_check_state h_distances h__law_cell_at h__law_ask_row h__law_ask_change h__law_bad_row h__law_ask_bounds h__law_ask h__law_told h__law_two_bad h__law_all_right h_law c_Change i0_Change hm_Change_done c_Turn in_Turn na_Turn_k hm_Turn_done c_Lift in_Lift na_Lift_k hm_Lift_done c_Swap in_Swap na_Swap_i na_Swap_j hm_Swap_done c_Neighbours in_Neighbours na_Neighbours_k hm_Neighbours_done c_Mirror i0_Mirror hm_Mirror_done c_Gaps in_Gaps na_Gaps_h hm_Gaps_done c_Changes in_Changes na_Changes_steps hm_Changes_done
    exact ⟨fd, hb, fun base _ _ => hF base⟩

