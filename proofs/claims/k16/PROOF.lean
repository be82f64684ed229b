import PyProof.Rows.All
import Wide.All
import OpenK.AllK
import Wide.FinOn
import Lean
import PyProof.EqAt
import PyProof.EqKinds
import PyProof.TupleCall
import PySem.Challenge.RW_tossbook_k16_written
set_option Elab.async false
set_option linter.all false
set_option maxRecDepth 100000
namespace L2
open PySem PySem.Spec PyProof.Rows

/-- a key: an int or a str -/
abbrev Key := Sum Int Str
def keyIs : Key → Value → Bool
  | .inl k, v => Value.isInt k v
  | .inr x, v => Value.isStrOf x v
def keyH (w : World) : Key → Int
  | .inl k => hashInt k
  | .inr x => hashStr w x
theorem keyIs_shape : ∀ {k : Key} {v : Value}, keyIs k v = true → (∃ i t, k = Sum.inl i ∧ v = Value.int i t) ∨ (∃ x t, k = Sum.inr x ∧ v = Value.str x t)
  | .inl i, v, h => by
    obtain ⟨t, e⟩ := Value.isInt_shape (k := i) (v := v) h
    exact .inl ⟨i, t, rfl, e⟩
  | .inr x, v, h => by
    obtain ⟨t, e⟩ := Value.isStrOf_shape (x := x) (v := v) h
    exact .inr ⟨x, t, rfl, e⟩
theorem key_ll (a b : Int) : decide ((Sum.inl a : Key) = Sum.inl b) = (a == b) := by
  by_cases e : a = b
  · subst e; simp
  · have h : ¬ (Sum.inl a : Key) = Sum.inl b := fun q => e (Sum.inl.inj q)
    rw [decide_eq_false h]
    exact (beq_eq_false_iff_ne.mpr e).symm
theorem key_rr (a b : Str) : decide ((Sum.inr a : Key) = Sum.inr b) = decide (a = b) := by
  by_cases e : a = b
  · subst e; simp
  · have h : ¬ (Sum.inr a : Key) = Sum.inr b := fun q => e (Sum.inr.inj q)
    rw [decide_eq_false h, decide_eq_false e]
theorem key_lr (a : Int) (b : Str) : decide ((Sum.inl a : Key) = Sum.inr b) = false := decide_eq_false (fun q => nomatch q)
theorem key_rl (a : Str) (b : Int) : decide ((Sum.inr a : Key) = Sum.inl b) = false := decide_eq_false (fun q => nomatch q)

def mixKind (prog : Program) (w : World) : PySem.KeyKind prog w Key where
  is := keyIs
  hash := keyH w
  inj := fun v a b ha hb => by
    rcases keyIs_shape ha with ⟨i, t, rfl, rfl⟩ | ⟨x, t, rfl, rfl⟩
    · rcases keyIs_shape hb with ⟨j, u, rfl, e⟩ | ⟨y, u, rfl, e⟩
      · injection e with e1 _; rw [e1]
      · exact nomatch e
    · rcases keyIs_shape hb with ⟨j, u, rfl, e⟩ | ⟨y, u, rfl, e⟩
      · exact nomatch e
      · injection e with e1 _; rw [e1]
  byValue := fun k v h => by
    rcases keyIs_shape h with ⟨i, t, rfl, rfl⟩ | ⟨x, t, rfl, rfl⟩ <;> rfl
  pyHash := fun hv h => by
    rcases keyIs_shape hv with ⟨i, t, rfl, rfl⟩ | ⟨x, t, rfl, rfl⟩
    · exact wpAny_pyHash_int h
    · exact wpAny_pyHash_str h
  eqBool := fun hu hv h => by
    rcases keyIs_shape hu with ⟨i, t, rfl, rfl⟩ | ⟨x, t, rfl, rfl⟩
    · rcases keyIs_shape hv with ⟨j, u, rfl, rfl⟩ | ⟨y, u, rfl, rfl⟩
      · rw [key_ll] at h; exact wpAny_eqBool_int h
      · rw [key_lr] at h; exact SeqAt.EqAt.int_str i t y u _ _ _ _ h
    · rcases keyIs_shape hv with ⟨j, u, rfl, rfl⟩ | ⟨y, u, rfl, rfl⟩
      · rw [key_rl] at h; exact SeqAt.EqAt.str_int x t j u _ _ _ _ h
      · rw [key_rr] at h; exact wpAny_eqBool_str h
  «strs» := fun k x t v h => by
    rcases keyIs_shape h with ⟨i, u, rfl, e⟩ | ⟨y, u, rfl, e⟩
    · exact nomatch e
    · injection e with e1 _
      subst e1
      cases v <;> rfl

end L2

namespace L2
open PySem PySem.Spec PyProof.Rows

/-- a value, without the heap -/
inductive V where
  | non | bl (b : Bool) | int (i : Int) | str (x : Str) | byt (b : Array UInt8) | flt (b : UInt64) | ref (a : Addr) | ty (n : String)
  deriving DecidableEq

def RelV : V → Value → Prop
  | .non, u => u = Value.none
  | .bl b, u => u = Value.bool b
  | .int i, u => ∃ t, u = Value.int i t
  | .str x, u => ∃ t, u = Value.str x t
  | .byt b, u => ∃ t, u = Value.bytes b t
  | .flt b, u => ∃ t, u = Value.float b t
  | .ref a, u => u = Value.ref a
  | .ty n, u => u = Value.type n

abbrev Vals : List V → List Value → Prop := Paired RelV
theorem Vals.length {xs : List V} {us : List Value} (r : Vals xs us) : xs.length = us.length := Paired.length r
theorem Vals.get : ∀ {xs : List V} {us : List Value} {i : Nat} {x : V}, Vals xs us → xs[i]? = some x → ∃ u, us[i]? = some u ∧ RelV x u
  | _, _, _, _, .nil, e => by simp at e
  | _, _, 0, _, .cons r _, e => by simp at e; subst e; exact ⟨_, rfl, r⟩
  | _, _, i + 1, x, .cons _ t, e => by
    obtain ⟨u, h1, h2⟩ := Vals.get (i := i) (x := x) t (by simpa using e)
    exact ⟨u, by simpa using h1, h2⟩
theorem Vals.append : ∀ {xs ys : List V} {us ws : List Value}, Vals xs us → Vals ys ws → Vals (xs ++ ys) (us ++ ws)
  | _, _, _, _, .nil, s => s
  | _, _, _, _, .cons r t, s => .cons r (Vals.append t s)
def RelO : Option V → Option Value → Prop
  | some v, some u => RelV v u
  | none, none => True
  | _, _ => False
def KV {κ : Type} : List (κ × V) → List (κ × Value) → Prop := Paired fun (p : κ × V) (q : κ × Value) => p.1 = q.1 ∧ RelV p.2 q.2

/-- a key of a dict (00_mix): an int or a text -/
def kV : Key → V
  | .inl i => .int i
  | .inr x => .str x

/-- what stands at a tracked address -/
inductive HO where
  /-- a list -/
  | lst (xs : List V)
  /-- a tuple (never changes) -/
  | tup (xs : List V)
  /-- a dict whose keys are ints and texts; one whose keys are tuples of ints and texts (the empty one is both) -/
  | dK (kvs : List (Key × V)) | dT (kvs : List (List Key × V))
  /-- a set of ints: its members, its size -/
  | set (S : Int → Bool) (n : Nat)
  /-- an instance of the class at C, its dict at dx, its attributes -/
  | ins (C dx : Addr) (fs : List (Str × V))
  /-- the dict of the instance at x -/
  | own (x : Addr)
  /-- the dict of an exception -/
  | xd (fs : List (Str × V))
  /-- a bound method, f of x -/
  | met (f x : Addr)
  /-- a range object lo, lo + 1, .. below hi -/
  | rng (lo hi : Int)
  /-- a thing that is known to the object (the script; a dict while a loop walks it): read, never written while it is so -/
  | frz (o : Obj) (u : HO)
  /-- a code object's table -/
  | tbl (ps : Array Value)
  /-- any other thing, by what is true of its one object (a def of one's own: SetO a S n := HO.ext fun h => ..) -/
  | ext (φ : Heap → Prop)

abbrev Hp := Addr → Option HO
def upd (H : Hp) (a : Addr) (o : HO) : Hp := fun b => if b = a then some o else H b
theorem upd_same {H : Hp} {a : Addr} {o : HO} : upd H a o a = some o := by unfold upd; rw [if_pos rfl]
theorem upd_ne {H : Hp} {a b : Addr} {o : HO} (h : b ≠ a) : upd H a o b = H b := by unfold upd; rw [if_neg h]
theorem upd_upd {H : Hp} {a : Addr} {o u : HO} : upd (upd H a o) a u = upd H a u := by
  funext b; unfold upd; split <;> rfl
theorem ne_of_none {H : Hp} {a b : Addr} {o : HO} (h : H a = some o) (h' : H b = none) : a ≠ b := by
  intro e; subst e; rw [h] at h'; cases h'

section
variable (P : Program) (w : World)
def ObjOk (H : Hp) (h : Heap) (a : Addr) : HO → Prop
  | .lst xs => xs.length ≤ sizeLine ∧ ∃ (its : List Value) (n : Nat), Vals xs its ∧ h.get? a = some { cls := .type "list", data := .seq its.toArray n }
  | .tup xs => xs.length ≤ sizeLine ∧ ∃ its : List Value, Vals xs its ∧ IsTup h a its.toArray
  | .dK kvs => kvs.length ≤ sizeLine ∧ (a == sysModules) = false ∧ ∃ vs, KV kvs vs ∧ h.DictOf (mixKind P w) a vs
  | .dT kvs => kvs.length ≤ sizeLine ∧ (a == sysModules) = false ∧ ∃ xs : List (List Key × Addr × Value),
      Paired (fun (p : List Key × V) (q : List Key × Addr × Value) => p.1 = q.1 ∧ H q.2.1 = some (.tup (p.1.map kV)) ∧ RelV p.2 q.2.2) kvs xs ∧
      ∃ o es ep, h.get? a = some o ∧ o.ExactDict ∧ o.data = .dict es ep ∧ es.toList = xs.map (entryOfKey (tupleKind (mixKind P w))) ∧ (xs.map (·.1)).Nodup
  | .set S n => h.SetOf (intKind P w) a S n
  | .ins C dx fs => H dx = some (.own a) ∧ fs.length ≤ 1000 ∧ dx ≠ a ∧ h.get? a = some (PySem.W.instObj C dx) ∧
      ∃ mA, h.Ns1 dx mA ∧ (∀ f, RelO (fs.lookup f) (mA f)) ∧ PySem.Within mA (fs.map (·.1))
  | .own _ => ∃ o, h.get? a = some o
  | .xd fs => ∃ mA, h.Ns1 a mA ∧ ∀ f, RelO (fs.lookup f) (mA f)
  | .rng lo hi => ∃ t u v, h.get? a = some { cls := .type "range", data := .fields #[.int lo t, .int hi u, .int 1 v] }
  | .frz o u => h.get? a = some o ∧ ObjOk H h a u
  | .tbl ps => h.get? a = some { cls := .none, data := .fields ps }
  | .met f x => h.get? a = some (PySem.W.methodObj (.ref f) (.ref x))
  | .ext φ => φ h ∧ (∃ o, h.get? a = some o) ∧ ∀ h1 h2 : Heap, φ h1 → (∀ o, h1.get? a = some o → h2.get? a = some o) → φ h2
/-- the abstract heap is held -/
def HOk (H : Hp) (h : Heap) : Prop := ∀ a o, H a = some o → ObjOk P w H h a o
end

section
variable {P : Program} {w : World} {H H' : Hp} {h h' : Heap} {a : Addr} {o : HO}
theorem ObjOk.lt (x : ObjOk P w H h a o) : a < h.objs.size := by
  cases o with
  | lst xs => obtain ⟨_, _, _, _, e⟩ := x; exact Heap.lt_size e
  | tup xs => obtain ⟨_, _, _, p⟩ := x; exact p.lt
  | dK kvs => obtain ⟨_, _, _, _, o, _, _, e, _⟩ := x; exact Heap.lt_size e
  | dT kvs => obtain ⟨_, _, _, _, o, _, _, e, _⟩ := x; exact Heap.lt_size e
  | set S n => obtain ⟨o, _, _, _, e, _⟩ := x; exact Heap.lt_size e
  | ins C dx fs => obtain ⟨_, _, _, e, _⟩ := x; exact Heap.lt_size e
  | own y => obtain ⟨_, e⟩ := x; exact Heap.lt_size e
  | xd fs => obtain ⟨_, ⟨_, _, _, e, _⟩, _⟩ := x; exact Heap.lt_size e
  | rng lo hi => obtain ⟨_, _, _, e⟩ := x; exact Heap.lt_size e
  | frz ob u => obtain ⟨e, _⟩ := x; exact Heap.lt_size e
  | tbl ps => exact Heap.lt_size (show h.get? a = some _ from x)
  | met f y => exact Heap.lt_size (show h.get? a = some _ from x)
  | ext φ => obtain ⟨_, ⟨_, e⟩, _⟩ := x; exact Heap.lt_size e
theorem Paired.mapP {α β : Type} {F G : α → β → Prop} : ∀ {l₁ : List α} {l₂ : List β}, Paired F l₁ l₂ → (∀ a b, F a b → G a b) → Paired G l₁ l₂
  | _, _, .nil, _ => .nil
  | _, _, .cons r t, f => .cons (f _ _ r) (Paired.mapP t f)
/-- what an object's description leans on: its own object, its own dict, the tuples -/
theorem ObjOk.stay (x : ObjOk P w H h a o) (k : ∀ b u, (b = a ∨ H b = some (.own a)) → h.get? b = some u → h'.get? b = some u)
    (ho : ∀ b, H b = some (.own a) → H' b = some (.own a)) (ht : ∀ b xs, H b = some (.tup xs) → H' b = some (.tup xs)) : ObjOk P w H' h' a o := by
  induction o with
  | lst xs => obtain ⟨z, its, n, r, e⟩ := x; exact ⟨z, its, n, r, k _ _ (.inl rfl) e⟩
  | tup xs => obtain ⟨z, its, r, ob, e, c⟩ := x; exact ⟨z, its, r, ob, k _ _ (.inl rfl) e, c⟩
  | dK kvs => obtain ⟨z, y, vs, r, ob, es, ep, e, c⟩ := x; exact ⟨z, y, vs, r, ob, es, ep, k _ _ (.inl rfl) e, c⟩
  | dT kvs =>
    obtain ⟨z, y, xs, r, ob, es, ep, e, c⟩ := x
    exact ⟨z, y, xs, Paired.mapP r fun p q z => ⟨z.1, ht _ _ z.2.1, z.2.2⟩, ob, es, ep, k _ _ (.inl rfl) e, c⟩
  | set S n => obtain ⟨ob, es, ep, t, e, c⟩ := x; exact ⟨ob, es, ep, t, k _ _ (.inl rfl) e, c⟩
  | ins C dx fs =>
    obtain ⟨d, z, ne, e, mA, ⟨od, es, ep, e2, c⟩, r⟩ := x
    exact ⟨ho _ d, z, ne, k _ _ (.inl rfl) e, mA, ⟨od, es, ep, k _ _ (.inr d) e2, c⟩, r⟩
  | own y => obtain ⟨ob, e⟩ := x; exact ⟨ob, k _ _ (.inl rfl) e⟩
  | xd fs => obtain ⟨mA, ⟨od, es, ep, e, c⟩, r⟩ := x; exact ⟨mA, ⟨od, es, ep, k _ _ (.inl rfl) e, c⟩, r⟩
  | rng lo hi => obtain ⟨t, u, v, e⟩ := x; exact ⟨t, u, v, k _ _ (.inl rfl) e⟩
  | frz ob u ih => obtain ⟨e, q⟩ := x; exact ⟨k _ _ (.inl rfl) e, ih q⟩
  | tbl ps =>
    have e : h.get? a = some { cls := .none, data := .fields ps } := x
    show h'.get? a = some { cls := .none, data := .fields ps }
    exact k a _ (.inl rfl) e
  | met f y =>
    have e : h.get? a = some (PySem.W.methodObj (.ref f) (.ref y)) := x
    show h'.get? a = some (PySem.W.methodObj (.ref f) (.ref y))
    exact k a _ (.inl rfl) e
  | ext φ => obtain ⟨p, ⟨o, e⟩, st⟩ := x; exact ⟨st _ _ p fun o q => k _ _ (.inl rfl) q, ⟨o, k _ _ (.inl rfl) e⟩, st⟩
theorem HOk.lt (x : HOk P w H h) (e : H a = some o) : a < h.objs.size := (x a o e).lt
theorem HOk.fresh (x : HOk P w H h) (e : h.objs.size ≤ a) : H a = none := by
  cases q : H a with
  | none => rfl
  | some u => exact absurd (Nat.lt_of_lt_of_le (x.lt q) e) (Nat.lt_irrefl _)
/-- every object of the heap is kept -/
theorem HOk.kept (x : HOk P w H h) (k : ∀ b u, h.get? b = some u → h'.get? b = some u) : HOk P w H h' := fun a o e =>
  (x a o e).stay (fun b u _ q => k b u q) (fun _ q => q) fun _ _ q => q
/-- a new object is laid and tracked -/
theorem HOk.laid (x : HOk P w H h) (k : ∀ b u, h.get? b = some u → h'.get? b = some u) (hp : h.objs.size ≤ a) (new : ObjOk P w (upd H a o) h' a o) : HOk P w (upd H a o) h' := fun b u e => by
  have hn := x.fresh hp
  by_cases hb : b = a
  · subst hb; rw [upd_same] at e; cases e; exact new
  · rw [upd_ne hb] at e
    exact (x b u e).stay (fun c v _ q => k c v q) (fun c q => by rw [upd_ne (ne_of_none q hn)]; exact q) fun c xs q => by rw [upd_ne (ne_of_none q hn)]; exact q
end

/-- what may be read as u: it is u, or a known u -/
def Rd (H : Hp) (a : Addr) (u : HO) : Prop := H a = some u ∨ ∃ o, H a = some (.frz o u)
theorem Rd.ok {P : Program} {w : World} {H : Hp} {h : Heap} {a : Addr} {u : HO} (r : Rd H a u) (x : HOk P w H h) : ObjOk P w H h a u := by
  rcases r with r | ⟨o, r⟩
  · exact x a u r
  · obtain ⟨_, q⟩ := x a _ r
    exact q
/-- what may be written -/
def Mut : Option HO → Prop
  | some (.lst _) => True
  | some (.dK _) => True
  | some (.dT _) => True
  | some (.set _ _) => True
  | some (.ins _ _ _) => True
  | some (.ext _) => True
  | _ => False
section
variable {P : Program} {w : World} {H : Hp} {h h' : Heap} {x e : Addr} {o' : HO}
/-- the object at e is changed: x itself, or the dict of the instance x -/
theorem HOk.write (ok : HOk P w H h) (mu : Mut (H x)) (he : e = x ∨ H e = some (.own x)) (k : ∀ b u, b ≠ e → h.get? b = some u → h'.get? b = some u) (heo : ∃ u, h'.get? e = some u)
    (new : ObjOk P w (upd H x o') h' x o') : HOk P w (upd H x o') h' := fun b u q => by
  have nown : ∀ c y, H c = some (.own y) → c ≠ x := fun c y r z => by subst z; rw [r] at mu; exact mu
  have ntup : ∀ c xs, H c = some (.tup xs) → c ≠ x := fun c xs r z => by subst z; rw [r] at mu; exact mu
  by_cases hb : b = x
  · subst hb; rw [upd_same] at q; cases q; exact new
  · rw [upd_ne hb] at q
    by_cases hbe : b = e
    · have q' : H b = some (.own x) := by
        rcases he with z | z
        · exact absurd (hbe.trans z) hb
        · rw [hbe]; exact z
      rw [q] at q'; cases q'
      obtain ⟨v, hv⟩ := heo
      exact ⟨v, by rw [hbe]; exact hv⟩
    · refine (ok b u q).stay (fun c v hc r => k c v ?_ r) (fun c r => by rw [upd_ne (nown c b r)]; exact r) fun c xs r => by rw [upd_ne (ntup c xs r)]; exact r
      rcases hc with rfl | hc
      · exact hbe
      · rintro rfl
        rcases he with z | z
        · exact nown c b hc z
        · rw [hc] at z; cases z; exact hb rfl
end

structure Un (fs ex : List Addr) (H H' : Hp) (h h' : Heap) : Prop where
  keep : ∀ b o, h.get? b = some o → H b = none → b ∉ fs → b ∉ ex → h'.get? b = some o
  slot : ∀ b o, h.get? b = some o → H b = none → b ∈ fs → b ∉ ex → ∃ sl, h'.get? b = some { o with slots := sl }
  free : ∀ b o, h.get? b = some o → H b = none → b ∉ ex → H' b = none
  there : ∀ b o, h.get? b = some o → b ∉ ex → ∃ o', h'.get? b = some o'
  tups : ∀ b xs, H b = some (.tup xs) → H' b = some (.tup xs)
  frzs : ∀ b o u, H b = some (.frz o u) → H' b = some (.frz o u)
  tbls : ∀ b ps, H b = some (.tbl ps) → ∃ more, H' b = some (.tbl (ps ++ more))
section
variable {fs fs' ex ex' : List Addr} {H H1 H2 : Hp} {h h1 h2 h' : Heap} {a x e : Addr} {o : HO}
theorem Un.any (u : Un fs ex H H1 h h1) {b : Addr} {ob : Obj} (q : h.get? b = some ob) (n : H b = none) (hx : b ∉ ex) : ∃ sl, h1.get? b = some { ob with slots := sl } := by
  by_cases hb : b ∈ fs
  · exact u.slot b ob q n hb hx
  · exact ⟨ob.slots, u.keep b ob q n hb hx⟩
theorem Un.kept (k : ∀ b u, h.get? b = some u → h'.get? b = some u) : Un fs ex H H h h' :=
  ⟨fun b ob q _ _ _ => k b ob q, fun b ob q _ _ _ => ⟨ob.slots, k b ob q⟩, fun _ _ _ n _ => n, fun b ob q _ => ⟨ob, k b ob q⟩, fun _ _ q => q, fun _ _ _ q => q, fun _ ps q => ⟨#[], by rw [q]; simp⟩⟩
theorem Un.refl : Un fs ex H H h h := Un.kept fun _ _ q => q
theorem Un.laid (k : ∀ b u, h.get? b = some u → h'.get? b = some u) (hp : h.objs.size ≤ a) (hn : H a = none) : Un fs ex H (upd H a o) h h' where
  keep := fun b u q _ _ _ => k b u q
  slot := fun b u q _ _ _ => ⟨u.slots, k b u q⟩
  free := fun b u q n _ => by rw [upd_ne (Nat.ne_of_lt (Nat.lt_of_lt_of_le (Heap.lt_size q) hp))]; exact n
  there := fun b u q _ => ⟨u, k b u q⟩
  tups := fun b xs q => by rw [upd_ne (ne_of_none q hn)]; exact q
  frzs := fun b u xs q => by rw [upd_ne (ne_of_none q hn)]; exact q
  tbls := fun b ps q => ⟨#[], by rw [upd_ne (ne_of_none q hn), q]; simp⟩
theorem Un.write (mu : Mut (H x)) (he : e = x ∨ H e = some (.own x)) (k : ∀ b u, b ≠ e → h.get? b = some u → h'.get? b = some u) (heo : ∃ u, h'.get? e = some u) : Un fs ex H (upd H x o) h h' := by
  have hx : ∀ b, H b = none → b ≠ x := fun b n z => by subst z; rw [n] at mu; exact mu
  have hb : ∀ b, H b = none → b ≠ e := fun b n z => by
    subst z
    rcases he with r | r
    · exact hx b n r
    · rw [n] at r; cases r
  have hm : ∀ b u, H b = some u → ¬ Mut (some u) → b ≠ x := fun b u q nm z => by subst z; rw [q] at mu; exact nm mu
  refine ⟨fun b u q n _ _ => k b u (hb b n) q, fun b u q n _ _ => ⟨u.slots, k b u (hb b n) q⟩, fun b u q n _ => by rw [upd_ne (hx b n)]; exact n, fun b u q _ => ?_,
    fun b xs q => by rw [upd_ne (hm b _ q fun z => z)]; exact q, fun b u xs q => by rw [upd_ne (hm b _ q fun z => z)]; exact q, fun b ps q => ⟨#[], by rw [upd_ne (hm b _ q fun z => z), q]; simp⟩⟩
  by_cases hbe : b = e
  · subst hbe; exact heo
  · exact ⟨u, k b u hbe q⟩
end

def trk (h : Heap) (H : Hp) : List Addr := (List.range h.objs.size).filter fun a => (H a).isSome
def hidT (h : Heap) (H : Hp) : Heap := PySem.W.hideAll h (trk h H)
theorem hidT_size (h : Heap) (H : Hp) : (hidT h H).objs.size = h.objs.size := PySem.W.hideAll_size _ _
theorem hidT_get {h : Heap} {H : Hp} {b : Addr} {o : Obj} (e : h.get? b = some o) (n : H b = none) : (hidT h H).get? b = some o :=
  PySem.W.hideAll_get _ e fun hm => by
    have q : (H b).isSome = true := (List.mem_filter.mp hm).2
    rw [n] at q; simp at q
theorem of_hidT {h : Heap} {H : Hp} {b : Addr} {o : Obj} (e : (hidT h H).get? b = some o) : h.get? b = some o ∧ H b = none := by
  have e' : h.get? b = some o := PySem.W.of_hideAll (trk h H) e
  refine ⟨e', ?_⟩
  cases q : H b with
  | none => rfl
  | some x =>
    have hm : b ∈ trk h H := List.mem_filter.mpr ⟨List.mem_range.mpr (Heap.lt_size e'), by simp [q]⟩
    have z : (hidT h H).get? b = none := PySem.W.hideAll_none (trk h H) hm
    rw [z] at e; cases e

def allNews (g h : Heap) (L : Addr) : List (Addr × Obj) := (List.range h.objs.size).filterMap fun a => if a = L ∨ (g.get? a).isSome = true then none else (h.get? a).map fun o => (a, o)
def rest (g h : Heap) (L d : Addr) : List (Addr × Obj) := (allNews g h L).filter fun p => decide (p.1 ≠ d)
end L2

namespace L2
open PySem PySem.Spec PyProof.Rows

/-- the module's facts, over the base: the heap at the law's entry without what is tracked there -/
structure Mod (K : PySem.W.Frag) (mg : Str → Option Value) (base : Heap) : Prop where
  kin : K.In base
  glob : base.Ns mainGlobals mg
  blt : ∃ mb, base.Ns builtinsNs mb ∧ ∀ x : Str, x ≠ "__name__" → mb x = bootBuiltins x
  nolimit : base.NoLimit

/-- the context: a def's body (or a comprehension's block) running. base: fixed through the whole law; s₀, H₀: the entry; outer: the frames whose slots others may change (a def's callers); stack: all frames that run;
   ex: iterators that were made ahead of the entry and are walked here (a comprehension's); fn: the names whose cells were made at the entry (a def: all; a comprehension's block: its own); calm: not within an except suite; pn: pins that every state bears; xe: what is wanted of an exception that leaves the code -/
structure Cx where
  prog : Program
  w : World
  K : PySem.W.Frag
  mg : Str → Option Value
  base : Heap
  A : Around
  N : List Str
  s₀ : Shared
  H₀ : Hp
  env : Env
  outer : List Env
  stack : List Env
  ex : List Addr
  fn : Str → Bool
  calm : Bool
  pn : List (Addr × Obj)
  xe : Value → Shared → Prop
/-- the callers' frames -/
def frs (l : List Env) : List Addr := l.filterMap (·.frame)
abbrev Cx.fs (X : Cx) : List Addr := frs X.outer

def Vis (sc : Scope) (x : Str) : Prop := sc.names.lookup x = some .local ∨ sc.names.lookup x = some .cell ∨ sc.names.lookup x = some .free
def Loc (sc : Scope) (x : Str) : Prop := sc.names.lookup x = some .local ∨ sc.names.lookup x = some .cell
def Look (env : Env) (h : Heap) (m : Str → Option Value) (x : Str) (u : Value) : Prop :=
  (env.kindOf x = some .local ∧ m x = some u) ∨ ((env.kindOf x = some .cell ∨ env.kindOf x = some .free) ∧ ∃ c, env.cells.lookup x = some c ∧ h.IsCell c (some u))

structure Cx.Ok (X : Cx) : Prop where
  mod : Mod X.K X.mg X.base
  kind : X.env.scope.kind = .function
  glob : X.env.globals = mainGlobals
  blt : X.env.builtins = builtinsNs
  above : X.s₀.heap.objs.size ≤ X.env.locals
  inj : ∀ x y c, X.env.cells.lookup x = some c → X.env.cells.lookup y = some c → x = y
  has : ∀ x, (X.env.kindOf x = some .cell ∨ X.env.kindOf x = some .free) → ∃ c, X.env.cells.lookup x = some c
  cab : ∀ x c, X.fn x = true → X.env.cells.lookup x = some c → X.s₀.heap.objs.size ≤ c
  hd : X.calm = true → X.A.handled = none
  frames : X.A.frames = some X.stack
  stk : X.stack = X.outer ∨ (X.stack = X.env :: X.outer ∧ X.env.frame = some X.env.locals)
  exf : ∀ b ∈ X.ex, b ≠ X.env.locals ∧ ∀ x c, X.env.cells.lookup x = some c → c ≠ b
  bs : ∀ b o, X.base.get? b = some o → X.s₀.heap.get? b = some o ∧ X.H₀ b = none
  bsz : X.base.objs.size ≤ X.s₀.heap.objs.size
  noex : ∀ b o, X.base.get? b = some o → b ∉ X.ex
  exfs : ∀ b ∈ X.ex, b ∉ X.fs
  funs : X.s₀.heap.FunFrames X.base X.outer
  frf : ∀ b ∈ X.fs, X.H₀ b = none

structure Inv (X : Cx) (pins : List (Addr × Obj)) (σ : List (Option V)) (H : Hp) (s : Shared) : Prop where
  ok : X.Ok
  os : s.os = X.s₀.os
  bare : AllBare s.gens
  base : Un X.fs X.ex X.H₀ H X.s₀.heap s.heap
  loc : ∃ m, s.heap.Ns X.env.locals m ∧ ∀ (i : Nat) (x : Str) (v : V), X.N[i]? = some x → σ[i]? = some (some v) → Vis X.env.scope x → ∃ u, RelV v u ∧ Look X.env s.heap m x u
  cell : ∀ x c, X.env.cells.lookup x = some c → ∃ v, s.heap.IsCell c v
  free : H X.env.locals = none
  freeC : ∀ x c, X.env.cells.lookup x = some c → H c = none
  pin : ∀ p ∈ X.pn ++ pins, s.heap.get? p.1 = some p.2 ∧ H p.1 = none ∧ p.1 ≠ X.env.locals ∧ p.1 ∉ X.fs ∧ ∀ v, p.2.data ≠ .cell v
  hok : HOk X.prog X.w H s.heap
  len : σ.length = X.N.length

section
variable {X : Cx} {pins : List (Addr × Obj)} {σ : List (Option V)} {H H' : Hp} {s : Shared} {h' : Heap}

theorem Cx.Ok.nofr (ok : X.Ok) {b : Addr} {o : Obj} (e : X.base.get? b = some o) : b ∉ X.fs := fun hb => by
  have := (ok.funs.mem hb).1
  rw [e] at this; cases this
theorem Inv.bs (I : Inv X pins σ H s) : ∀ b o, X.base.get? b = some o → s.heap.get? b = some o ∧ H b = none := fun b o e =>
  ⟨I.base.keep b o (I.ok.bs b o e).1 (I.ok.bs b o e).2 (I.ok.nofr e) (I.ok.noex b o e), I.base.free b o (I.ok.bs b o e).1 (I.ok.bs b o e).2 (I.ok.noex b o e)⟩
theorem Inv.bk (I : Inv X pins σ H s) : ∀ b o, X.base.get? b = some o → s.heap.get? b = some o := fun b o e => (I.bs b o e).1
theorem Inv.mod (I : Inv X pins σ H s) : Mod X.K X.mg X.base := I.ok.mod
theorem Inv.kIn (I : Inv X pins σ H s) : X.K.In s.heap := I.ok.mod.kin.keeps I.bk
theorem Inv.lt (I : Inv X pins σ H s) : X.env.locals < s.heap.objs.size := let ⟨_, hn, _⟩ := I.loc; hn.lt
theorem Inv.sz (I : Inv X pins σ H s) : X.s₀.heap.objs.size ≤ s.heap.objs.size := Nat.le_trans I.ok.above (Nat.le_of_lt I.lt)
theorem Inv.nofs (I : Inv X pins σ H s) {a : Addr} (h : s.heap.objs.size ≤ a) : a ∉ X.fs := fun hb => by
  obtain ⟨_, o, ho, _⟩ := I.ok.funs.mem hb
  exact absurd (Nat.lt_of_lt_of_le (Heap.lt_size ho) (Nat.le_trans I.sz h)) (Nat.lt_irrefl _)
theorem Inv.cne (I : Inv X pins σ H s) : ∀ x c, X.env.cells.lookup x = some c → c ≠ X.env.locals := fun x c e z => by
  obtain ⟨v, o, ho, hd⟩ := I.cell x c e
  obtain ⟨m, ⟨o', es, ep, ho', hd', _⟩, _⟩ := I.loc
  rw [z, ho'] at ho; cases ho; rw [hd'] at hd; cases hd
theorem Inv.funs (I : Inv X pins σ H s) : s.heap.FunFrames X.base X.outer := by
  have all : ∀ (l : List Env), (∀ b ∈ frs l, b ∈ X.fs) → X.s₀.heap.FunFrames X.base l → s.heap.FunFrames X.base l := by
    intro l
    induction l with
    | nil => intro _ _; trivial
    | cons env r ih =>
      intro hs hl
      obtain ⟨hk, ⟨L, o, hf, hn, ho, hd⟩, hr⟩ := hl
      have hL : L ∈ X.fs := hs L (by unfold frs; rw [List.filterMap_cons, hf]; exact List.mem_cons_self)
      obtain ⟨sl, e⟩ := I.base.slot L o ho (I.ok.frf L hL) hL fun z => I.ok.exfs L z hL
      exact ⟨hk, ⟨L, _, hf, hn, e, hd⟩, ih (fun b hb => hs b (by unfold frs; rw [List.filterMap_cons, hf]; exact List.mem_cons_of_mem _ hb)) hr⟩
  exact all X.outer (fun _ hb => hb) I.ok.funs

/-- the frames that run, for a call -/
theorem Inv.stack (I : Inv X pins σ H s) : s.heap.FunFrames X.base X.stack := by
  rcases I.ok.stk with e | ⟨e, hf⟩
  · rw [e]; exact I.funs
  · rw [e]
    obtain ⟨m, hn, _⟩ := I.loc
    refine .cons (by rw [I.ok.kind]; decide) hf hn ?_ I.funs
    exact Heap.get?_none_of_le (Nat.le_trans I.ok.bsz I.ok.above)
theorem Inv.stkSub (I : Inv X pins σ H s) : ∀ b ∈ frs X.stack, b ∈ X.env.locals :: X.fs := fun b hb => by
  rcases I.ok.stk with e | ⟨e, hf⟩
  · rw [e] at hb; exact List.mem_cons_of_mem _ hb
  · rw [e] at hb
    unfold frs at hb
    rw [List.filterMap_cons, hf] at hb
    exact hb
theorem Inv.stkFree (I : Inv X pins σ H s) : ∀ b ∈ frs X.stack, H b = none := fun b hb => by
  rcases List.mem_cons.mp (I.stkSub b hb) with e | hb
  · rw [e]; exact I.free
  · obtain ⟨_, o, ho, _⟩ := I.ok.funs.mem hb
    exact I.base.free b o ho (I.ok.frf b hb) fun z => I.ok.exfs b z hb

/-- THE STEP: the untracked objects but the frame and the records at ch are kept (the callers' frames up to slots), the frame's map is kept, the new abstract heap is held -/
theorem Inv.step {g' : Array GenState} {t' : Nat} {d' : Drawn} {ch : List Addr} (I : Inv X pins σ H s)
    (hch : ∀ b ∈ ch, (b ∈ X.ex ∨ X.s₀.heap.objs.size ≤ b) ∧ b ≠ X.env.locals ∧ (∀ x c, X.env.cells.lookup x = some c → c ≠ b) ∧ ∀ p ∈ X.pn ++ pins, p.1 ≠ b)
    (keep : ∀ b o, b ≠ X.env.locals → b ∉ X.fs → b ∉ ch → s.heap.get? b = some o → H b = none → h'.get? b = some o)
    (slot : ∀ b o, b ≠ X.env.locals → b ∈ X.fs → b ∉ ch → s.heap.get? b = some o → H b = none → ∃ sl, h'.get? b = some { o with slots := sl }) (free : ∀ b o, b ∉ ch → s.heap.get? b = some o → H b = none → H' b = none)
    (there : ∀ b o, b ∉ ch → s.heap.get? b = some o → ∃ o', h'.get? b = some o')
    (tups : ∀ b xs, H b = some (.tup xs) → H' b = some (.tup xs)) (frzs : ∀ b o u, H b = some (.frz o u) → H' b = some (.frz o u)) (tbls : ∀ b ps, H b = some (.tbl ps) → ∃ more, H' b = some (.tbl (ps ++ more)))
    (ns : ∀ m, s.heap.Ns X.env.locals m → h'.Ns X.env.locals m) (hok : HOk X.prog X.w H' h') (hg : AllBare g') :
    Inv X pins σ H' { s with heap := h', gens := g', drawn := d', toks := t' } := by
  have neL : ∀ b o, X.s₀.heap.get? b = some o → b ≠ X.env.locals := fun b o e => Nat.ne_of_lt (Nat.lt_of_lt_of_le (Heap.lt_size e) I.ok.above)
  have neC : ∀ b o, X.s₀.heap.get? b = some o → b ∉ X.ex → b ∉ ch := fun b o e hx hb => by
    rcases (hch b hb).1 with z | z
    · exact hx z
    · exact absurd (Nat.lt_of_lt_of_le (Heap.lt_size e) z) (Nat.lt_irrefl _)
  have cellK : ∀ x c, X.env.cells.lookup x = some c → ∀ v, s.heap.IsCell c v → h'.IsCell c v := fun x c e v ⟨o, ho, hd⟩ => by
    have nch : c ∉ ch := fun z => (hch c z).2.2.1 x c e rfl
    by_cases hc : c ∈ X.fs
    · obtain ⟨sl, q⟩ := slot c o (I.cne x c e) hc nch ho (I.freeC x c e)
      exact ⟨_, q, hd⟩
    · exact ⟨o, keep c o (I.cne x c e) hc nch ho (I.freeC x c e), hd⟩
  refine ⟨I.ok, I.os, hg, ⟨fun b o e n hb hx => ?_, fun b o e n hb hx => ?_, fun b o e n hx => ?_, fun b o e hx => ?_, fun b xs e => tups b xs (I.base.tups b xs e), fun b o xs e => frzs b o xs (I.base.frzs b o xs e), fun b ps e => ?_⟩, ?_, fun x c e => ?_, ?_, fun x c e => ?_, fun p hp => ?_, hok, I.len⟩
  · exact keep b o (neL b o e) hb (neC b o e hx) (I.base.keep b o e n hb hx) (I.base.free b o e n hx)
  · obtain ⟨sl, e1⟩ := I.base.slot b o e n hb hx
    obtain ⟨sl', e2⟩ := slot b _ (neL b o e) hb (neC b o e hx) e1 (I.base.free b o e n hx)
    exact ⟨sl', e2⟩
  · obtain ⟨o', e1⟩ := I.base.there b o e hx
    exact free b o' (neC b o e hx) e1 (I.base.free b o e n hx)
  · obtain ⟨o', e1⟩ := I.base.there b o e hx
    exact there b o' (neC b o e hx) e1
  · obtain ⟨m1, e1⟩ := I.base.tbls b ps e
    obtain ⟨m2, e2⟩ := tbls b _ e1
    exact ⟨m1 ++ m2, by rw [e2, Array.append_assoc]⟩
  · obtain ⟨m, hn, hl⟩ := I.loc
    refine ⟨m, ns m hn, fun i x v e1 e2 e3 => ?_⟩
    obtain ⟨u, r, l⟩ := hl i x v e1 e2 e3
    refine ⟨u, r, ?_⟩
    rcases l with l | ⟨k, c, e, z⟩
    · exact .inl l
    · exact .inr ⟨k, c, e, cellK x c e _ z⟩
  · obtain ⟨v, z⟩ := I.cell x c e
    exact ⟨v, cellK x c e v z⟩
  · obtain ⟨m, ⟨o, _, _, ho, _⟩, _⟩ := I.loc
    exact free _ o (fun z => (hch _ z).2.1 rfl) ho I.free
  · obtain ⟨v, o, ho, hd⟩ := I.cell x c e
    exact free c o (fun z => (hch c z).2.2.1 x c e rfl) ho (I.freeC x c e)
  · obtain ⟨e, n, ne, nf, d⟩ := I.pin p hp
    have nch : p.1 ∉ ch := fun z => (hch p.1 z).2.2.2 p hp rfl
    exact ⟨keep p.1 p.2 ne nf nch e n, free p.1 p.2 nch e n, ne, nf, d⟩
/-- .. where the frame's own object is kept too -/
theorem Inv.un {t' : Nat} (I : Inv X pins σ H s) (u : Un X.fs [] H H' s.heap h') (hok : HOk X.prog X.w H' h') : Inv X pins σ H' { s with heap := h', toks := t' } := by
  obtain ⟨m, ⟨o, es, ep, ho, r⟩, _⟩ := id I.loc
  obtain ⟨sl, hL⟩ := u.any ho I.free (by simp)
  exact I.step (g' := s.gens) (d' := s.drawn) (ch := []) (fun _ z => nomatch z) (fun b o _ hb _ e n => u.keep b o e n hb (by simp)) (fun b o _ hb _ e n => u.slot b o e n hb (by simp)) (fun b o _ e n => u.free b o e n (by simp)) (fun b o _ e => u.there b o e (by simp)) u.tups u.frzs u.tbls (fun m' hm => by
    obtain ⟨o', es', ep', ho', r'⟩ := hm
    rw [ho] at ho'; cases ho'
    exact ⟨_, es', ep', hL, r'⟩) hok I.bare
/-- behind a call (or a comprehension's block): the slots of this frame may have changed too, the records at ch may have turned -/
theorem Inv.call {g' : Array GenState} {t' : Nat} {d' : Drawn} {ch : List Addr} (I : Inv X pins σ H s) (u : Un (frs X.stack) ch H H' s.heap h') (hok : HOk X.prog X.w H' h') (hg : AllBare g')
    (hch : ∀ b ∈ ch, (b ∈ X.ex ∨ X.s₀.heap.objs.size ≤ b) ∧ b ≠ X.env.locals ∧ (∀ x c, X.env.cells.lookup x = some c → c ≠ b) ∧ ∀ p ∈ X.pn ++ pins, p.1 ≠ b) :
    Inv X pins σ H' { s with heap := h', gens := g', drawn := d', toks := t' } := by
  obtain ⟨m, ⟨o, es, ep, ho, r⟩, _⟩ := id I.loc
  obtain ⟨sl, hL⟩ := u.any ho I.free fun z => (hch _ z).2.1 rfl
  exact I.step (ch := ch) hch (fun b o hL hb hc e n => u.keep b o e n (fun z => (List.mem_cons.mp (I.stkSub b z)).elim hL hb) hc) (fun b o _ _ hc e n => u.any e n hc) (fun b o hc e n => u.free b o e n hc) (fun b o hc e => u.there b o e hc) u.tups u.frzs u.tbls (fun m' hm => by
    obtain ⟨o', es', ep', ho', r'⟩ := hm
    rw [ho] at ho'; cases ho'
    exact ⟨_, es', ep', hL, r'⟩) hok hg
/-- an untracked record of ours (an iterator) has turned -/
theorem Inv.turned {t' : Nat} {it : Addr} (I : Inv X pins σ H s) (k : ∀ b o, b ≠ it → s.heap.get? b = some o → h'.get? b = some o) (hn : H it = none) (hL : it ≠ X.env.locals)
    (h1 : it ∈ X.ex ∨ X.s₀.heap.objs.size ≤ it) (h2 : ∀ x c, X.env.cells.lookup x = some c → c ≠ it) (h3 : ∀ p ∈ X.pn ++ pins, p.1 ≠ it) : Inv X pins σ H { s with heap := h', toks := t' } := by
  have nit : ∀ b u, H b = some u → b ≠ it := fun b u e z => by rw [z, hn] at e; cases e
  refine I.step (g' := s.gens) (d' := s.drawn) (ch := [it]) (fun b hb => ?_) (fun b o _ _ hc e _ => k b o (fun z => hc (by simp [z])) e) (fun b o _ _ hc e _ => ⟨o.slots, k b o (fun z => hc (by simp [z])) e⟩) (fun _ _ _ _ n => n)
    (fun b o hc e => ⟨o, k b o (fun z => hc (by simp [z])) e⟩) (fun _ _ e => e) (fun _ _ _ e => e) (fun b ps e => ⟨#[], by rw [e]; simp⟩) (fun m hm => ?_) (fun b u e => ?_) I.bare
  · have e : b = it := by simpa using hb
    subst e
    exact ⟨h1, hL, h2, h3⟩
  · obtain ⟨o, es, ep, ho, r⟩ := hm
    exact ⟨o, es, ep, k _ o (Ne.symm hL) ho, r⟩
  · refine (I.hok b u e).stay (fun c v hc q => k c v ?_ q) (fun _ q => q) fun _ _ q => q
    rcases hc with z | z
    · rw [z]; exact nit b u e
    · exact nit c _ z
theorem Inv.tok (I : Inv X pins σ H s) (t : Nat) : Inv X pins σ H { s with toks := t } := I.un (h' := s.heap) (t' := t) Un.refl I.hok
/-- all objects kept -/
theorem Inv.kept {t' : Nat} (I : Inv X pins σ H s) (k : ∀ b u, s.heap.get? b = some u → h'.get? b = some u) : Inv X pins σ H { s with heap := h', toks := t' } := I.un (Un.kept k) (I.hok.kept k)
/-- a new object laid and tracked -/
theorem Inv.laid {a : Addr} {o : HO} {t' : Nat} (I : Inv X pins σ H s) (k : ∀ b u, s.heap.get? b = some u → h'.get? b = some u) (hp : s.heap.objs.size ≤ a) (new : ObjOk X.prog X.w (upd H a o) h' a o) :
    Inv X pins σ (upd H a o) { s with heap := h', toks := t' } := I.un (Un.laid k hp (I.hok.fresh hp)) (I.hok.laid k hp new)
/-- an object written -/
theorem Inv.write {x e : Addr} {o : HO} {t' : Nat} (I : Inv X pins σ H s) (mu : Mut (H x)) (he : e = x ∨ H e = some (.own x)) (k : ∀ b u, b ≠ e → s.heap.get? b = some u → h'.get? b = some u) (heo : ∃ u, h'.get? e = some u)
    (new : ObjOk X.prog X.w (upd H x o) h' x o) : Inv X pins σ (upd H x o) { s with heap := h', toks := t' } := I.un (Un.write mu he k heo) (I.hok.write mu he k heo new)
theorem Inv.pins_of {pins' : List (Addr × Obj)} (I : Inv X pins σ H s) (h : ∀ p ∈ pins', s.heap.get? p.1 = some p.2 ∧ H p.1 = none ∧ p.1 ≠ X.env.locals ∧ p.1 ∉ X.fs ∧ ∀ v, p.2.data ≠ .cell v) : Inv X pins' σ H s :=
  ⟨I.ok, I.os, I.bare, I.base, I.loc, I.cell, I.free, I.freeC, fun p hp => (List.mem_append.mp hp).elim (fun z => I.pin p (List.mem_append_left _ z)) (h p), I.hok, I.len⟩

theorem nodup_ix {N : List Str} (hN : N.Nodup) {i j : Nat} {x : Str} (a : N[i]? = some x) (b : N[j]? = some x) : i = j := by
  obtain ⟨h1, e1⟩ := List.getElem?_eq_some_iff.mp a
  obtain ⟨h2, e2⟩ := List.getElem?_eq_some_iff.mp b
  exact (List.getElem_inj hN).mp (e1.trans e2.symm)

/-- a name is stored; what changed -/
theorem store_ok2 {M : Model} {A : Around} {E : Value → Shared → Prop} {i : Nat} {x : Str} {v : V} {u : Value} {Q : Unit → Shared → Prop} (I : Inv X pins σ H s) (hN : X.N.Nodup) (hi : X.N[i]? = some x) (hx : Loc X.env.scope x) (r : RelV v u)
    (h : ∀ s', Inv X pins (σ.set i (some v)) H s' → (∃ a, Heap.SameBut a s.heap s'.heap ∧ (a = X.env.locals ∨ X.env.cells.lookup x = some a)) → Q () s') (hf : X.fn x = true ∨ X.env.scope.names.lookup x = some .local := by first | exact .inl rfl | exact .inr rfl | assumption) : wpAny M A (storeName X.env x u) Q E s := by
  obtain ⟨m, hn, hl⟩ := id I.loc
  have hcls : (X.env.scope.kind == .class || (X.env.scope.kind == .module && X.env.locals != X.env.globals)) = false := by rw [I.ok.kind]; rfl
  have hiσ : i < σ.length := by rw [I.len]; exact (List.getElem?_eq_some_iff.mp hi).1
  have cne := I.cne
  have tracked : ∀ {a : Addr} {h' : Heap}, (∃ o, s.heap.get? a = some o ∧ H a = none) → Heap.SameBut a s.heap h' → HOk X.prog X.w H h' := fun {a h'} ha hs b ob e => by
    obtain ⟨_, _, hfree⟩ := ha
    refine (I.hok b ob e).stay (fun c w' hc q => (hs.2 c ?_).trans q) (fun _ q => q) fun _ _ q => q
    rintro rfl
    rcases hc with rfl | hc
    · rw [hfree] at e; cases e
    · rw [hfree] at hc; cases hc
  rcases hx with hk | hk
  · refine wpAny_storeName_local hk hn (fun h' hn' hs => ?_) hcls
    obtain ⟨oL, _, _, hoL, _⟩ := id hn
    refine h _ ⟨I.ok, I.os, I.bare, ⟨fun b o e n hb hx => ?_, fun b o e n hb hx => ?_, I.base.free, fun b o e hx => ?_, I.base.tups, I.base.frzs, I.base.tbls⟩, ⟨_, hn', fun j y v' e1 e2 e3 => ?_⟩, fun y c e => ?_, I.free, I.freeC, fun p hp => ?_, tracked ⟨oL, hoL, I.free⟩ hs, by simpa using I.len⟩ ⟨_, hs, .inl rfl⟩
    · exact (hs.2 b (Nat.ne_of_lt (Nat.lt_of_lt_of_le (Heap.lt_size e) I.ok.above))).trans (I.base.keep b o e n hb hx)
    · obtain ⟨sl, e1⟩ := I.base.slot b o e n hb hx
      exact ⟨sl, (hs.2 b (Nat.ne_of_lt (Nat.lt_of_lt_of_le (Heap.lt_size e) I.ok.above))).trans e1⟩
    · obtain ⟨o', e1⟩ := I.base.there b o e hx
      exact ⟨o', (hs.2 b (Nat.ne_of_lt (Nat.lt_of_lt_of_le (Heap.lt_size e) I.ok.above))).trans e1⟩
    · by_cases hj : j = i
      · subst hj
        rw [hi] at e1; cases e1
        rw [List.getElem?_set_self hiσ] at e2
        cases e2
        exact ⟨u, r, .inl ⟨hk, by simp⟩⟩
      · rw [List.getElem?_set_ne (Ne.symm hj)] at e2
        obtain ⟨u', r', q⟩ := hl j y v' e1 e2 e3
        refine ⟨u', r', ?_⟩
        rcases q with ⟨k, e⟩ | ⟨k, c, e, z⟩
        · refine .inl ⟨k, ?_⟩
          have : y ≠ x := fun e => hj (nodup_ix hN e1 (e ▸ hi))
          simp [this, e]
        · exact .inr ⟨k, c, e, z.sameBut hs (cne y c e)⟩
    · obtain ⟨w', z⟩ := I.cell y c e
      exact ⟨w', z.sameBut hs (cne y c e)⟩
    · obtain ⟨e, n, ne, nf, d⟩ := I.pin p hp
      exact ⟨(hs.2 p.1 ne).trans e, n, ne, nf, d⟩
  · have hfn : X.fn x = true := by
      rcases hf with z | z
      · exact z
      · rw [z] at hk; cases hk
    obtain ⟨c, hc⟩ := I.ok.has x (.inl hk)
    obtain ⟨w', z⟩ := I.cell x c hc
    refine wpAny_storeName_cell I.ok.kind hk hc z (fun h' hc' hs => ?_)
    obtain ⟨oc, hoc, hocd⟩ := id z
    refine h { s with heap := h' } ⟨I.ok, I.os, I.bare, ⟨fun b o e n hb hx => ?_, fun b o e n hb hx => ?_, I.base.free, fun b o e hx => ?_, I.base.tups, I.base.frzs, I.base.tbls⟩, ⟨m, hn.sameBut hs (Ne.symm (cne x c hc)), fun j y v' e1 e2 e3 => ?_⟩, fun y c' e => ?_, I.free, I.freeC, fun p hp => ?_, tracked ⟨oc, hoc, I.freeC x c hc⟩ hs, by simpa using I.len⟩ ⟨c, hs, .inr hc⟩
    · exact (hs.2 b (Nat.ne_of_lt (Nat.lt_of_lt_of_le (Heap.lt_size e) (I.ok.cab x c hfn hc)))).trans (I.base.keep b o e n hb hx)
    · obtain ⟨sl, e1⟩ := I.base.slot b o e n hb hx
      exact ⟨sl, (hs.2 b (Nat.ne_of_lt (Nat.lt_of_lt_of_le (Heap.lt_size e) (I.ok.cab x c hfn hc)))).trans e1⟩
    · obtain ⟨o', e1⟩ := I.base.there b o e hx
      exact ⟨o', (hs.2 b (Nat.ne_of_lt (Nat.lt_of_lt_of_le (Heap.lt_size e) (I.ok.cab x c hfn hc)))).trans e1⟩
    · by_cases hj : j = i
      · subst hj
        rw [hi] at e1; cases e1
        rw [List.getElem?_set_self hiσ] at e2
        cases e2
        exact ⟨u, r, .inr ⟨.inl hk, c, hc, hc'⟩⟩
      · rw [List.getElem?_set_ne (Ne.symm hj)] at e2
        obtain ⟨u', r', q⟩ := hl j y v' e1 e2 e3
        refine ⟨u', r', ?_⟩
        rcases q with q | ⟨k, c', e, z'⟩
        · exact .inl q
        · refine .inr ⟨k, c', e, z'.sameBut hs ?_⟩
          rintro rfl
          exact hj (nodup_ix hN e1 (I.ok.inj _ _ _ e hc ▸ hi))
    · by_cases hcc : c' = c
      · subst hcc; exact ⟨_, hc'⟩
      · obtain ⟨w2, z2⟩ := I.cell y c' e
        exact ⟨w2, z2.sameBut hs hcc⟩
    · obtain ⟨e, n, ne, nf, d⟩ := I.pin p hp
      refine ⟨(hs.2 p.1 ?_).trans e, n, ne, nf, d⟩
      intro q
      rw [q, hoc] at e
      have q' : oc = p.2 := Option.some.inj e
      exact d w' (by rw [← q']; exact hocd)
theorem store_ok {M : Model} {A : Around} {E : Value → Shared → Prop} {i : Nat} {x : Str} {v : V} {u : Value} {Q : Unit → Shared → Prop} (I : Inv X pins σ H s) (hN : X.N.Nodup) (hi : X.N[i]? = some x) (hx : Loc X.env.scope x) (r : RelV v u)
    (h : ∀ s', Inv X pins (σ.set i (some v)) H s' → Q () s') (hf : X.fn x = true ∨ X.env.scope.names.lookup x = some .local := by first | exact .inl rfl | exact .inr rfl | assumption) : wpAny M A (storeName X.env x u) Q E s :=
  store_ok2 I hN hi hx r (fun s' I' _ => h s' I') hf
/-- behind a call or a block, the state as it is -/
theorem Inv.call' {s' : Shared} {ch : List Addr} (I : Inv X pins σ H s) (ho : s'.os = s.os) (u : Un (frs X.stack) ch H H' s.heap s'.heap) (hok : HOk X.prog X.w H' s'.heap) (hg : AllBare s'.gens)
    (hch : ∀ b ∈ ch, (b ∈ X.ex ∨ X.s₀.heap.objs.size ≤ b) ∧ b ≠ X.env.locals ∧ (∀ x c, X.env.cells.lookup x = some c → c ≠ b) ∧ ∀ p ∈ X.pn ++ pins, p.1 ≠ b) : Inv X pins σ H' s' := by
  obtain ⟨h', g', d', t', o'⟩ := s'
  have e : o' = s.os := ho
  subst e
  exact I.call (g' := g') (t' := t') (d' := d') u hok hg hch
end

/-- an exception: its class, its own dict's address (where it has one), the abstract heap behind it -/
abbrev XK := Value → Option Addr → Hp → Prop
abbrev St := List (Option V)
abbrev VK := V → Hp → Prop
/-- an expression's reading; a test's; an argument list's -/
abbrev TE := St → Hp → VK → Prop
abbrev TT := St → Hp → (Bool → Hp → Prop) → Prop
abbrev TA := St → Hp → (List V → Hp → Prop) → Prop
/-- what is wanted behind a statement -/
structure Ends where
  nx : St → Hp → Prop
  rt : VK
  bk : St → Hp → Prop := fun _ _ => False
  ct : St → Hp → Prop := fun _ _ => False
abbrev TS := Ends → St → Hp → Prop

def EP (X : Cx) (pins : List (Addr × Obj)) (σ : St) (Q : VK) (u : Value) (s' : Shared) : Prop := ∃ v H', Inv X pins σ H' s' ∧ RelV v u ∧ Q v H'
def TP (X : Cx) (pins : List (Addr × Obj)) (σ : St) (Q : Bool → Hp → Prop) (b : Bool) (s' : Shared) : Prop := ∃ H', Inv X pins σ H' s' ∧ Q b H'
def AP (X : Cx) (pins : List (Addr × Obj)) (σ : St) (Q : List V → Hp → Prop) (us : List Value) (s' : Shared) : Prop := ∃ vs H', Inv X pins σ H' s' ∧ Vals vs us ∧ Q vs H'
def SP (X : Cx) (pins : List (Addr × Obj)) (D : Ends) (f : Flow) (s' : Shared) : Prop :=
  match f with
  | .next => ∃ σ' H', Inv X pins σ' H' s' ∧ D.nx σ' H'
  | .brk => ∃ σ' H', Inv X pins σ' H' s' ∧ D.bk σ' H'
  | .cont => ∃ σ' H', Inv X pins σ' H' s' ∧ D.ct σ' H'
  | .ret u => ∃ v σ' H', Inv X pins σ' H' s' ∧ RelV v u ∧ D.rt v H'

def PE (X : Cx) (e : Expr) (t : TE) : Prop :=
  ∀ (pins : List (Addr × Obj)) (s : Shared) (σ : St) (H : Hp) (Q : VK), Inv X pins σ H s → t σ H Q → wpAny (model X.prog X.w) X.A (eval e X.env) (EP X pins σ Q) X.xe s
def PT (X : Cx) (e : Expr) (t : TT) : Prop :=
  ∀ (pins : List (Addr × Obj)) (s : Shared) (σ : St) (H : Hp) (Q : Bool → Hp → Prop), Inv X pins σ H s → t σ H Q → wpAny (model X.prog X.w) X.A (isTrue e X.env (eval e X.env)) (TP X pins σ Q) X.xe s
/-- a test whatever its 'whole' is (and, or) -/
def PW (X : Cx) (e : Expr) (t : TT) : Prop :=
  ∀ (whole : Sem Value) (pins : List (Addr × Obj)) (s : Shared) (σ : St) (H : Hp) (Q : Bool → Hp → Prop), Inv X pins σ H s → t σ H Q → wpAny (model X.prog X.w) X.A (isTrue e X.env whole) (TP X pins σ Q) X.xe s
theorem PW.pt {X : Cx} {e : Expr} {t : TT} (h : PW X e t) : PT X e t := h _
/-- an argument list (no star), from the left -/
def PA (X : Cx) (es : List Expr) (t : TA) : Prop :=
  ∀ (pos : Pos) (pins : List (Addr × Obj)) (s : Shared) (σ : St) (H : Hp) (Q : List V → Hp → Prop), Inv X pins σ H s → t σ H Q → wpAny (model X.prog X.w) X.A (spliced (backTo pos (starEach es X.env))) (AP X pins σ Q) X.xe s
def PS (X : Cx) (st : Stmt) (t : TS) : Prop :=
  ∀ (pins : List (Addr × Obj)) (s : Shared) (σ : St) (H : Hp) (D : Ends), Inv X pins σ H s → t D σ H → wpAny (model X.prog X.w) X.A (exec st X.env) (SP X pins D) X.xe s
def PSs (X : Cx) (st : List Stmt) (t : TS) : Prop :=
  ∀ (pins : List (Addr × Obj)) (s : Shared) (σ : St) (H : Hp) (D : Ends), Inv X pins σ H s → t D σ H → wpAny (model X.prog X.w) X.A (execs st X.env) (SP X pins D) X.xe s
/-- weaken the end -/
theorem thn {α : Type} {t : Sem α} {Q Q' : α → Shared → Prop} {M : Model} {A : Around} {E : Value → Shared → Prop} {s : Shared} (h : wpAny M A t Q E s) (hQ : ∀ a s, Q a s → Q' a s) : wpAny M A t Q' E s := wpAny_mono h hQ fun _ _ x => x
end L2

namespace L2
open PySem PySem.Spec PyProof.Rows
section
variable {X : Cx}

def tVar (i : Nat) : TE := fun σ H Q => ∃ v, σ[i]? = some (some v) ∧ Q v H
def tC (v : V) : TE := fun _ H Q => Q v H
theorem pe_var {i : Nat} {x : Str} {pos : Pos} (hN : X.N[i]? = some x) (hv : Vis X.env.scope x) (hd : (x == ("__debug__" : Str)) = false := by decide) (hcd : (x == ("__classdict__" : Str)) = false := by decide) : PE X (.Name x pos) (tVar i) := by
  intro pins s σ H Q I h
  obtain ⟨v, e, h⟩ := h
  obtain ⟨m, hn, hl⟩ := I.loc
  obtain ⟨u, r, l⟩ := hl i x v hN e hv
  have fin : EP X pins σ Q u s := ⟨v, H, I, r, h⟩
  rcases l with ⟨hk, hm⟩ | ⟨hk, c, hc, hcell⟩
  · exact wpAny_Name (wpAny_loadName_local I.ok.kind hk hn hm fin) hd
  · rcases hk with hk | hk
    · exact wpAny_Name (wpAny_loadName_cell I.ok.kind hk hc hcell fin) hd
    · exact wpAny_Name (wpAny_loadName_free I.ok.kind hk hc hcell fin hcd) hd
theorem pe_int {i j pos} : PE X (.Constant (.int i) j pos) (tC (.int i)) := fun _ _ _ H _ I h => wpAny_Constant_int ⟨.int i, H, I.tok _, ⟨_, rfl⟩, h⟩
theorem pe_bl {b j pos} : PE X (.Constant (.bool b) j pos) (tC (.bl b)) := fun _ _ _ H _ I h => Constant_bool ⟨.bl b, H, I, rfl, h⟩
theorem pe_non {j pos} : PE X (.Constant .none j pos) (tC .non) := fun _ _ _ H _ I h => Constant_none ⟨.non, H, I, rfl, h⟩
theorem pe_str {x j pos} : PE X (.Constant (.str x) j pos) (tC (.str x)) := fun _ _ _ H _ I h => Calls.Constant_str ⟨.str x, H, I.tok _, ⟨_, rfl⟩, h⟩

/-- a global name of the def -/
def Gl (X : Cx) (x : Str) : Prop := X.env.kindOf x = some .globalImplicit
theorem ld_glob {E : Value → Shared → Prop} {pins : List (Addr × Obj)} {s : Shared} {σ : St} {H : Hp} {x : Str} {u : Value} {pos : Pos} {Q : Value → Shared → Prop} (I : Inv X pins σ H s) (hg : Gl X x) (hm : X.mg x = some u) (h : Q u s)
    (hd : (x == ("__debug__" : Str)) = false := by decide) : wpAny (model X.prog X.w) X.A (eval (.Name x pos) X.env) Q E s :=
  Calls.Name_function_global I.ok.kind hg (Calls.loadGlobal_global (by rw [I.ok.glob]; exact I.mod.glob.keeps I.bk) hm h) hd
theorem ld_blt {E : Value → Shared → Prop} {pins : List (Addr × Obj)} {s : Shared} {σ : St} {H : Hp} {x : Str} {u : Value} {pos : Pos} {Q : Value → Shared → Prop} (I : Inv X pins σ H s) (hg : Gl X x) (hm : X.mg x = none) (hv : bootBuiltins x = some u) (h : Q u s)
    (hn : x ≠ "__name__" := by decide) (hd : (x == ("__debug__" : Str)) = false := by decide) : wpAny (model X.prog X.w) X.A (eval (.Name x pos) X.env) Q E s := by
  obtain ⟨mb, h1, h2⟩ := I.mod.blt
  exact Calls.Name_function_global I.ok.kind hg (Calls.loadGlobal_builtin (by rw [I.ok.glob]; exact I.mod.glob.keeps I.bk) hm (by rw [I.ok.blt]; exact h1.keeps I.bk) ((h2 x hn).trans hv) h) hd
/-- a module's constant, a class, a function, as a value -/
theorem pe_glob {x : Str} {v : V} {u : Value} {pos : Pos} (hg : Gl X x) (hm : X.mg x = some u) (r : RelV v u) (hd : (x == ("__debug__" : Str)) = false := by decide) : PE X (.Name x pos) (tC v) :=
  fun _ _ _ H _ I h => ld_glob I hg hm ⟨v, H, I, r, h⟩ hd
theorem pe_bltn {x : Str} {v : V} {u : Value} {pos : Pos} (hg : Gl X x) (hm : X.mg x = none) (hv : bootBuiltins x = some u) (r : RelV v u) (hn : x ≠ "__name__" := by decide) (hd : (x == ("__debug__" : Str)) = false := by decide) : PE X (.Name x pos) (tC v) :=
  fun _ _ _ H _ I h => ld_blt I hg hm hv ⟨v, H, I, r, h⟩ hn hd

variable {a b : Expr} {ta tb : TE} {pos : Pos}
def PC (X : Cx) (op : CmpOp) (a b : Expr) (t : TE) : Prop :=
  ∀ (pins : List (Addr × Obj)) (s : Shared) (σ : St) (H : Hp) (Q : VK), Inv X pins σ H s → t σ H Q →
    wpAny (model X.prog X.w) X.A (eval a X.env) (fun v s₁ => wpAny (model X.prog X.w) X.A (eval b X.env) (fun u s₂ => wpAny (model X.prog X.w) X.A (compareOp op v u) (EP X pins σ Q) X.xe s₂) X.xe s₁) X.xe s
theorem nobehind (b : Expr) {op : CmpOp} (h : op ≠ .In) (h2 : op ≠ .NotIn) : behindInMarks op b = false := by
  have e1 : (op == CmpOp.In) = false := by cases op <;> first | rfl | exact absurd rfl h
  have e2 : (op == CmpOp.NotIn) = false := by cases op <;> first | rfl | exact absurd rfl h2
  cases b <;> simp [behindInMarks, e1, e2]
/-- is None -/
def tIsN (ta : TE) : TE := fun σ H Q => ta σ H fun x H1 => Q (.bl (decide (x = .non))) H1
def tNotN (ta : TE) : TE := fun σ H Q => ta σ H fun x H1 => Q (.bl (!decide (x = .non))) H1
theorem RelV.none_iff {x : V} {v : Value} (r : RelV x v) : (v == Value.none) = decide (x = .non) := by
  cases x with
  | non => cases r; rfl
  | bl _ => cases r; rfl
  | int _ => obtain ⟨t, rfl⟩ := r; rfl
  | str _ => obtain ⟨t, rfl⟩ := r; rfl
  | byt _ => obtain ⟨t, rfl⟩ := r; rfl
  | flt _ => obtain ⟨t, rfl⟩ := r; rfl
  | ref _ => cases r; rfl
  | ty _ => cases r; rfl
theorem pc_isN {j pos'} (ha : PE X a ta) : PC X .Is a (.Constant .none j pos') (tIsN ta) := by
  intro pins s σ H Q I h
  refine thn (ha pins s σ H _ I h) fun v s1 ⟨x, H1, I1, r1, q1⟩ => ?_
  exact Constant_none (is_none_gen ⟨.bl _, H1, I1, by rw [r1.none_iff]; rfl, q1⟩)
/-- a comparison as a value, as a test -/
def tB (t : TE) : TT := fun σ H Q => t σ H fun x H1 => ∃ c, x = .bl c ∧ Q c H1
theorem pt_cmp {op : CmpOp} {t : TE} (h : PC X op a b t) (h1 : behindInMarks op b = false := by first | exact nobehind _ (by decide) (by decide) | rfl) : PT X (.Compare a [op] [b] pos) (tB t) := by
  intro pins s σ H Q I hw
  refine wpAny_isTrue_Compare1 (thn (h pins s σ H _ I hw) fun v s1 h1 => thn h1 fun u s2 h2 => thn h2 fun c s3 ⟨x, H1, I1, r1, q1⟩ => ?_) h1
  obtain ⟨d, rfl, q⟩ := q1
  cases r1
  exact wpAny_truthy_bool ⟨H1, I1, q⟩
/-- an expression whose value is a bool, as a test -/
theorem pt_val {e : Expr} {t : TE} (h : PE X e t) (he : ∀ whole, isTrue e X.env whole = (do let v ← whole; standAt e.pos; holding [v] (truthy v)) := by intro _; rfl) : PT X e (tB t) := by
  intro pins s σ H Q I hw
  refine isTrue_plain (thn (h pins s σ H _ I hw) fun v s1 ⟨x, H1, I1, r1, q1⟩ => ?_) (he _)
  obtain ⟨d, rfl, q⟩ := q1
  cases r1
  exact wpAny_truthy_bool ⟨H1, I1, q⟩

variable {tA tB' : TT} {rest : List Expr}
def tAnd (t u : TT) : TT := fun σ H Q => t σ H fun c H1 => if c = true then u σ H1 Q else Q false H1
def tOr (t u : TT) : TT := fun σ H Q => t σ H fun c H1 => if c = true then Q true H1 else u σ H1 Q
def tNot (t : TT) : TT := fun σ H Q => t σ H fun c H1 => Q (!c) H1
theorem pw_or1 (ha : PT X a tA) : PW X (.BoolOp .Or [a] pos) tA := by
  intro wh pins s σ H Q I h
  refine isTrue_or (thn (ha pins s σ H Q I h) fun c s1 e => ?_)
  cases c with
  | false => exact isTrue_or_nil e
  | true => exact e
theorem pw_or (ha : PT X a tA) (hb : PW X (.BoolOp .Or (b :: rest) pos) tB') : PW X (.BoolOp .Or (a :: b :: rest) pos) (tOr tA tB') := by
  intro wh pins s σ H Q I h
  refine isTrue_or (thn (ha pins s σ H _ I h) fun c s1 ⟨H1, I1, q1⟩ => ?_)
  cases c with
  | true => exact ⟨H1, I1, q1⟩
  | false => exact hb wh pins s1 σ H1 Q I1 q1
theorem pt_not (ha : PT X a tA) : PT X (.UnaryOp .Not a pos) (tNot tA) := by
  intro pins s σ H Q I h
  exact isTrue_not (ha pins s σ H (fun c H1 => Q (!c) H1) I h)
/-- .. as values (bools) -/
def tAndV (ta tb : TE) : TE := fun σ H Q => ta σ H fun x H1 => ∃ c, x = .bl c ∧ if c = true then tb σ H1 Q else Q (.bl false) H1
def tOrV (ta tb : TE) : TE := fun σ H Q => ta σ H fun x H1 => ∃ c, x = .bl c ∧ if c = true then Q (.bl true) H1 else tb σ H1 Q
def tNotV (ta : TE) : TE := fun σ H Q => ta σ H fun x H1 => ∃ c, x = .bl c ∧ Q (.bl (!c)) H1
theorem pe_one {op} {t : TE} (h : PE X a t) : PE X (.BoolOp op [a] pos) t := fun pins s σ H Q I hw => BoolOp_one (h pins s σ H Q I hw)
theorem pe_and (ha : PE X a ta) (hb : PE X (.BoolOp .And (b :: rest) pos) tb) : PE X (.BoolOp .And (a :: b :: rest) pos) (tAndV ta tb) := by
  intro pins s σ H Q I h
  refine BoolOp_and (thn (ha pins s σ H _ I h) fun v s1 ⟨x, H1, I1, r1, q1⟩ => ?_)
  obtain ⟨c, rfl, q1⟩ := q1
  cases r1
  refine wpAny_truthy_bool ?_
  cases c with
  | true => exact hb pins s1 σ H1 Q I1 q1
  | false => exact ⟨.bl false, H1, I1, rfl, q1⟩
theorem pe_not (ha : PE X a ta) : PE X (.UnaryOp .Not a pos) (tNotV ta) := by
  intro pins s σ H Q I h
  refine UnaryOp_ (thn (ha pins s σ H _ I h) fun v s1 ⟨x, H1, I1, r1, q1⟩ => ?_)
  obtain ⟨c, rfl, q1⟩ := q1
  cases r1
  exact not_of (wpAny_truthy_bool ⟨.bl (!c), H1, I1, rfl, q1⟩)
/-- a if t else b -/
def tIf (t : TT) (ta tb : TE) : TE := fun σ H Q => t σ H fun c H1 => if c = true then ta σ H1 Q else tb σ H1 Q
theorem pe_ifExp {c : Expr} (hc : PT X c tA) (ha : PE X a ta) (hb : PE X b tb) : PE X (.IfExp c a b pos) (tIf tA ta tb) := by
  intro pins s σ H Q I h
  refine wpAny_IfExp (thn (hc pins s σ H _ I h) fun d s1 ⟨H1, I1, q1⟩ => ?_)
  cases d with
  | true => exact ha pins s1 σ H1 Q I1 q1
  | false => exact hb pins s1 σ H1 Q I1 q1
end
end L2

namespace L2
open PySem PySem.Spec PyProof.Rows

def SqL (K : PySem.W.Frag) (H : Hp) (a : Addr) (xs : List V) : Prop :=
  Rd H a (.lst xs) ∨
    ∃ (o : Obj) (its : Array Value) (n : Nat), K.lookup a = some o ∧ o.cls = .type "list" ∧ o.dict = none ∧ o.data = .seq its n ∧ its.size ≤ sizeLine ∧ Vals xs its.toList
def SqT (K : PySem.W.Frag) (H : Hp) (a : Addr) (xs : List V) : Prop :=
  Rd H a (.tup xs) ∨
    ∃ (o : Obj) (its : Array Value) (n : Nat), K.lookup a = some o ∧ o.cls = .type "tuple" ∧ o.data = .seq its n ∧ its.size ≤ sizeLine ∧ Vals xs its.toList
def absV : Value → Option V
  | .none => some .non
  | .bool b => some (.bl b)
  | .int i _ => some (.int i)
  | .str x _ => some (.str x)
  | .bytes b _ => some (.byt b)
  | .float b _ => some (.flt b)
  | .ref a => some (.ref a)
  | .type n => some (.ty n)
  | _ => none
theorem RelV.abs {x : V} {u : Value} (r : RelV x u) : absV u = some x := by
  cases x with
  | non => cases r; rfl
  | bl _ => cases r; rfl
  | int _ => obtain ⟨t, rfl⟩ := r; rfl
  | str _ => obtain ⟨t, rfl⟩ := r; rfl
  | byt _ => obtain ⟨t, rfl⟩ := r; rfl
  | flt _ => obtain ⟨t, rfl⟩ := r; rfl
  | ref _ => cases r; rfl
  | ty _ => cases r; rfl
theorem RelV.inj {x y : V} {u : Value} (r : RelV x u) (q : RelV y u) : x = y := Option.some.inj (r.abs.symm.trans q.abs)
theorem Vals.inj : ∀ {xs ys : List V} {us : List Value}, Vals xs us → Vals ys us → xs = ys
  | _, _, _, .nil, .nil => rfl
  | _, _, _, .cons r t, .cons r' t' => by rw [r.inj r', Vals.inj t t']
section
variable {X : Cx} {pins : List (Addr × Obj)} {σ : St} {H : Hp} {s : Shared} {a : Addr} {xs ys : List V}
theorem SqL.of {K : PySem.W.Frag} (h : H a = some (.lst xs)) : SqL K H a xs := .inl (.inl h)
theorem SqT.of {K : PySem.W.Frag} (h : H a = some (.tup xs)) : SqT K H a xs := .inl (.inl h)
theorem Inv.list (I : Inv X pins σ H s) (h : SqL X.K H a xs) : ∃ its : List Value, Vals xs its ∧ PlainL s.heap a its.toArray ∧ xs.length ≤ sizeLine := by
  rcases h with h | ⟨o, its, n, hk, hc, hd, hs, hz, r⟩
  · obtain ⟨z, its, n, r, e⟩ := h.ok I.hok
    exact ⟨its, r, ⟨_, n, e, rfl, rfl, rfl⟩, z⟩
  · refine ⟨its.toList, r, ⟨o, n, I.kIn a o hk, hc, hd, by simpa using hs⟩, ?_⟩
    have e := r.length
    simp only [Array.length_toList] at e
    omega
theorem Inv.tuple (I : Inv X pins σ H s) (h : SqT X.K H a xs) : ∃ its : List Value, Vals xs its ∧ IsTup s.heap a its.toArray ∧ xs.length ≤ sizeLine := by
  rcases h with h | ⟨o, its, n, hk, hc, hs, hz, r⟩
  · obtain ⟨z, its, r, p⟩ := h.ok I.hok
    exact ⟨its, r, p, z⟩
  · refine ⟨its.toList, r, ⟨o, I.kIn a o hk, hc, n, by simpa using hs⟩, ?_⟩
    have e := r.length
    simp only [Array.length_toList] at e
    omega
theorem Inv.list_inj (I : Inv X pins σ H s) (h : SqL X.K H a xs) (h' : SqL X.K H a ys) : xs = ys := by
  obtain ⟨its, r, ⟨o, n, e, _, _, d⟩, _⟩ := I.list h
  obtain ⟨its', r', ⟨o', n', e', _, _, d'⟩, _⟩ := I.list h'
  rw [e] at e'; cases e'
  rw [d] at d'
  injection d' with d1 _
  have : its = its' := by simpa using congrArg Array.toList d1
  subst this
  exact r.inj r'
end

abbrev Cx.wish (X : Cx) (E : Value → Shared → Prop) : Cx := { X with xe := E }
/-- no exception leaves -/
abbrev Cx.nox (X : Cx) : Cx := X.wish fun _ _ => False
theorem Cx.Ok.wish {X : Cx} (ok : X.Ok) (E : Value → Shared → Prop) : (X.wish E).Ok :=
  ⟨ok.mod, ok.kind, ok.glob, ok.blt, ok.above, ok.inj, ok.has, ok.cab, ok.hd, ok.frames, ok.stk, ok.exf, ok.bs, ok.bsz, ok.noex, ok.exfs, ok.funs, ok.frf⟩
theorem Cx.Ok.unwish {X : Cx} {E : Value → Shared → Prop} (ok : (X.wish E).Ok) : X.Ok :=
  ⟨ok.mod, ok.kind, ok.glob, ok.blt, ok.above, ok.inj, ok.has, ok.cab, ok.hd, ok.frames, ok.stk, ok.exf, ok.bs, ok.bsz, ok.noex, ok.exfs, ok.funs, ok.frf⟩
section
variable {X : Cx} {pins : List (Addr × Obj)} {σ : St} {H : Hp} {s : Shared} {E : Value → Shared → Prop}
theorem Inv.wish (I : Inv X pins σ H s) (E : Value → Shared → Prop) : Inv (X.wish E) pins σ H s := ⟨I.ok.wish E, I.os, I.bare, I.base, I.loc, I.cell, I.free, I.freeC, I.pin, I.hok, I.len⟩
theorem Inv.unwish (I : Inv (X.wish E) pins σ H s) : Inv X pins σ H s := ⟨I.ok.unwish, I.os, I.bare, I.base, I.loc, I.cell, I.free, I.freeC, I.pin, I.hok, I.len⟩
theorem SP.unwish {D : Ends} {f : Flow} {s' : Shared} (h : SP (X.wish E) pins D f s') : SP X pins D f s' := by
  cases f with
  | next => obtain ⟨σ', H', I, q⟩ := h; exact ⟨σ', H', I.unwish, q⟩
  | brk => obtain ⟨σ', H', I, q⟩ := h; exact ⟨σ', H', I.unwish, q⟩
  | cont => obtain ⟨σ', H', I, q⟩ := h; exact ⟨σ', H', I.unwish, q⟩
  | ret u => obtain ⟨v, σ', H', I, r, q⟩ := h; exact ⟨v, σ', H', I.unwish, r, q⟩
end

section
variable {X : Cx} {st : Stmt} {rest : List Stmt} {t u : TS} {e : Expr} {te : TE} {pos : Pos}
def tNext : TS := fun D σ H => D.nx σ H
def tSeq (t u : TS) : TS := fun D σ H => t { D with nx := u D } σ H
theorem pss_nil : PSs X [] tNext := fun _ _ σ H _ I h => wpAny_execs_nil ⟨σ, H, I, h⟩
theorem pss_cons (h1 : PS X st t) (h2 : PSs X rest u) : PSs X (st :: rest) (tSeq t u) := by
  intro pins s σ H D I h
  refine wpAny_execs_cons (thn (h1 pins s σ H { D with nx := u D } I h) fun f s1 q => ?_)
  cases f with
  | next =>
    obtain ⟨σ', H', I', q⟩ := q
    exact h2 pins s1 σ' H' D I' q
  | ret v => exact q
  | brk => exact q
  | cont => exact q
theorem pss_one (h1 : PS X st t) : PSs X [st] t := by
  intro pins s σ H D I h
  refine wpAny_execs_cons (thn (h1 pins s σ H D I h) fun f s1 q => ?_)
  cases f with
  | next => exact wpAny_execs_nil q
  | ret v => exact q
  | brk => exact q
  | cont => exact q
/-- in a def's body nothing is shown -/
theorem Inv.quiet {pins : List (Addr × Obj)} {σ : St} {H : Hp} {s : Shared} (I : Inv X pins σ H s) : interactive X.env = false := by simp [interactive, I.ok.kind]
/-- an expression whose value is dropped -/
def tDrop (te : TE) : TS := fun D σ H => te σ H fun _ H1 => D.nx σ H1
theorem ps_expr (he : PE X e te) (hs : swapsWith e none pos.line X.env = pure false := by rfl) : PS X (.Expr e pos) (tDrop te) := by
  intro pins s σ H D I h
  exact wpAny_Expr_any (thn (he pins s σ H _ I h) fun v s1 ⟨x, H1, I1, r1, q1⟩ => ⟨σ, H1, I1, q1⟩) I.quiet hs
def tRet (te : TE) : TS := fun D σ H => te σ H D.rt
theorem ps_ret (he : PE X e te) : PS X (.Return (some e) pos) (tRet te) := by
  intro pins s σ H D I h
  exact wpAny_Return_some (thn (he pins s σ H _ I h) fun v s1 ⟨x, H1, I1, r1, q1⟩ => ⟨x, σ, H1, I1, r1, q1⟩)
def tRetN : TS := fun D _ H => D.rt .non H
def tIfS (c : TT) (t u : TS) : TS := fun D σ H => c σ H fun b H1 => if b = true then t D σ H1 else u D σ H1
theorem ps_if {c : Expr} {a b : List Stmt} {tc : TT} (hc : PT X c tc) (ha : PSs X a t) (hb : PSs X b u) : PS X (.If c a b pos) (tIfS tc t u) := by
  intro pins s σ H D I h
  refine wpAny_If (thn (hc pins s σ H _ I h) fun d s1 ⟨H1, I1, q1⟩ => ?_)
  cases d with
  | true => exact ha pins s1 σ H1 D I1 q1
  | false => exact hb pins s1 σ H1 D I1 q1
/-- code that the proof never comes to -/
def tNever : TS := fun _ _ _ => False
end

abbrev TG := V → St → Hp → (St → Hp → Prop) → Prop
abbrev TGs := List V → St → Hp → (St → Hp → Prop) → Prop
def PG (X : Cx) (target : Expr) (t : TG) : Prop :=
  ∀ (pins : List (Addr × Obj)) (s : Shared) (σ : St) (H : Hp) (v : V) (u : Value) (Q : St → Hp → Prop), Inv X pins σ H s → RelV v u → t v σ H Q →
    wpAny (model X.prog X.w) X.A (assign target X.env u) (fun _ s' => ∃ σ' H', Inv X pins σ' H' s' ∧ Q σ' H') X.xe s
/-- o[i] = v, by values -/
abbrev TSet := V → V → V → Hp → (Hp → Prop) → Prop
/-- a op= b, by values -/
abbrev TIp := V → V → Hp → VK → Prop
section
variable {X : Cx} {pos : Pos}
def gName (i : Nat) : TG := fun v σ H Q => Q (σ.set i (some v)) H
theorem pg_name {i : Nat} {x : Str} (hN : X.N.Nodup) (hi : X.N[i]? = some x) (hx : Loc X.env.scope x) (hf : X.fn x = true ∨ X.env.scope.names.lookup x = some .local := by first | exact .inl rfl | exact .inr rfl | assumption) : PG X (.Name x pos) (gName i) := by
  intro pins s σ H v u Q I r h
  exact wpAny_assign_Name (store_ok I hN hi hx r (fun s' I' => ⟨_, H, I', h⟩) hf)
def gNil : TGs := fun vs σ H Q => vs = [] ∧ Q σ H
def gCons (t : TG) (u : TGs) : TGs := fun vs σ H Q => ∃ v r, vs = v :: r ∧ t v σ H fun σ' H' => u r σ' H' Q
/-- (a, b, ..) = a tuple of that length -/
def gTup (K : PySem.W.Frag) (n : Nat) (t : TGs) : TG := fun v σ H Q => ∃ a xs, v = .ref a ∧ SqT K H a xs ∧ xs.length = n ∧ t xs σ H Q
/-- o[i] = .. -/
def gSub (to ti : TE) (t : TSet) : TG := fun v σ H Q => to σ H fun o H1 => ti σ H1 fun i H2 => t o i v H2 fun H3 => Q σ H3
/-- target = value -/
def tAsg (te : TE) (g : TG) : TS := fun D σ H => te σ H fun x H1 => g x σ H1 D.nx
/-- name = value -/
theorem ps_set {i : Nat} {x : Str} {e : Expr} {te : TE} {pos' : Pos} (hN : X.N.Nodup) (hi : X.N[i]? = some x) (hx : Loc X.env.scope x) (he : PE X e te) (hs : swapsWith e (some (.Name x pos')) pos.line X.env = pure false := by rfl) (hf : X.fn x = true ∨ X.env.scope.names.lookup x = some .local := by first | exact .inl rfl | exact .inr rfl | assumption) :
    PS X (.Assign [.Name x pos'] e pos) (tAsg te (gName i)) := by
  intro pins s σ H D I h
  refine wpAny_Assign_Name (thn (he pins s σ H _ I h) fun v s1 ⟨y, H1, I1, r1, q1⟩ => ?_) hs
  exact store_ok I1 hN hi hx r1 (fun s2 I2 => ⟨_, H1, I2, q1⟩) hf
/-- name op= e -/
def tAug (i : Nat) (te : TE) (ti : TIp) : TS := fun D σ H => ∃ x, σ[i]? = some (some x) ∧ te σ H fun y H1 => ti x y H1 fun z H2 => D.nx (σ.set i (some z)) H2
/-- ints -/
def ipI (f : Int → Int → Int) : TIp := fun x y H Q => ∃ i j, x = .int i ∧ y = .int j ∧ Q (.int (f i j)) H
end

section
variable {X : Cx} {pos : Pos}
/-- the invariant W with its measure -/
def tWhile (c : TT) (tb : TS) : TS := fun D σ H => ∃ W : Nat → St → Hp → Prop, (∃ m, W m σ H) ∧ ∀ m σ H, W m σ H →
  c σ H fun b H1 => if b = true then ∃ N : St → Hp → Prop, (∀ σ' H', N σ' H' → ∃ m', m' < m ∧ W m' σ' H') ∧ tb { D with nx := N, ct := N, bk := D.nx } σ H1 else D.nx σ H1
theorem ps_while {c : Expr} {body : List Stmt} {tc : TT} {tb : TS} (hp : PassesOwn (model X.prog X.w) X.A X.env X.xe) (hc : PT X c tc) (hb : PSs X body tb) : PS X (.While c body [] pos) (tWhile tc tb) := by
  intro pins s σ H D I h
  obtain ⟨W, ⟨m0, w0⟩, turn⟩ := h
  refine wpAny_While (codeAny_whileLoop (fun n s' => ∃ σ' H', Inv X pins σ' H' s' ∧ W n σ' H') ?_ m0 ⟨σ, H, I, w0⟩)
  rintro n s1 ⟨σ1, H1, I1, w1⟩
  refine wpAny_passesOwn hp (thn (hc pins s1 σ1 H1 _ I1 (turn n σ1 H1 w1)) fun b s2 ⟨H2, I2, q2⟩ => ?_)
  cases b with
  | true =>
    obtain ⟨N, hN, q2⟩ := q2
    rw [if_pos rfl]
    refine wpAny_passesOwn hp (thn (hb pins s2 σ1 H2 _ I2 q2) fun f s3 q3 => ?_)
    cases f with
    | next =>
      obtain ⟨σ3, H3, I3, n3⟩ := q3
      obtain ⟨m', hm, w3⟩ := hN σ3 H3 n3
      exact ⟨m', hm, σ3, H3, I3, w3⟩
    | cont =>
      obtain ⟨σ3, H3, I3, n3⟩ := q3
      obtain ⟨m', hm, w3⟩ := hN σ3 H3 n3
      exact ⟨m', hm, σ3, H3, I3, w3⟩
    | brk => exact q3
    | ret v => exact q3
  | false =>
    rw [if_neg Bool.false_ne_true]
    exact wpAny_execs_nil ⟨σ1, H2, I2, q2⟩
end

/-- at turn i: it yields x (the heap may grow), or it stops -/
structure It where
  go : Nat → Hp → Prop
  yld : Nat → Hp → V → Hp → Prop
  stop : Nat → Hp → Prop
/-- the iterator's own objects may turn: they are not the frame's, not pinned, younger than the entry (or a comprehension's own) -/
def FpOk (X : Cx) (pins : List (Addr × Obj)) (H : Hp) (b : Addr) : Prop :=
  H b = none ∧ b ≠ X.env.locals ∧ b ∉ X.fs ∧ (b ∈ X.ex ∨ X.s₀.heap.objs.size ≤ b) ∧ (∀ x c, X.env.cells.lookup x = some c → c ≠ b) ∧ ∀ p ∈ X.pn ++ pins, p.1 ≠ b
theorem Inv.fpOk {X : Cx} {pins : List (Addr × Obj)} {σ : St} {H H' : Hp} {s : Shared} {b : Addr} (I : Inv X pins σ H s) (hb : s.heap.objs.size ≤ b) (hn : H' b = none) : FpOk X pins H' b := by
  refine ⟨hn, Nat.ne_of_gt (Nat.lt_of_lt_of_le I.lt hb), I.nofs hb, .inr (Nat.le_trans I.sz hb), fun x c e z => ?_, fun p hp z => ?_⟩
  · obtain ⟨v, q⟩ := I.cell x c e
    exact absurd (Nat.lt_of_lt_of_le q.lt (by rw [z]; exact hb)) (Nat.lt_irrefl _)
  · exact absurd (Nat.lt_of_lt_of_le (Heap.lt_size (I.pin p hp).1) (by rw [z]; exact hb)) (Nat.lt_irrefl _)
structure Turn (P : Program) (w : World) (K : PySem.W.Frag) (tg : Expr) (J : It) (fp : List Addr) (it : Addr) (tn : Nat → Heap → Prop) : Prop where
  mem : it ∈ fp
  obj : ∀ i h, tn i h → ∀ b ∈ fp, ∃ o, h.get? b = some o ∧ ∀ v, o.data ≠ .cell v
  keep : ∀ i h h', tn i h → (∀ b ∈ fp, ∀ o, h.get? b = some o → h'.get? b = some o) → tn i h'
  item : ∀ (X : Cx), X.prog = P → X.w = w → X.K = K → X.calm = true → ∀ (i : Nat) (pins : List (Addr × Obj)) (s : Shared) (σ : St) (H : Hp) (E : Value → Shared → Prop), Inv X pins σ H s → (∀ b ∈ fp, FpOk X pins H b) → tn i s.heap → J.go i H →
    wpAny (model P w) X.A (pyNext (.ref it)) (fun r s1 => ∃ u, r = some u ∧
      wpAny (model P w) X.A (letOwnedTupleGo tg (.ref it) u) (fun _ s2 => ∃ x H', Inv X pins σ H' s2 ∧ RelV x u ∧ J.yld i H x H' ∧ tn (i + 1) s2.heap ∧ ∀ b ∈ fp, H' b = none) E s1) E s
  done : ∀ (X : Cx), X.prog = P → X.w = w → X.K = K → X.calm = true → ∀ (i : Nat) (pins : List (Addr × Obj)) (s : Shared) (σ : St) (H : Hp) (E : Value → Shared → Prop), Inv X pins σ H s → (∀ b ∈ fp, FpOk X pins H b) → tn i s.heap → J.stop i H →
    wpAny (model P w) X.A (pyNext (.ref it)) (fun r s1 => r = none ∧ Inv X pins σ H s1) E s
  self : ∀ (A : Around) (i : Nat) (s : Shared) (Q : Value → Shared → Prop) (E : Value → Shared → Prop), tn i s.heap → Q (.ref it) s → wpAny (model P w) A (pyIter (.ref it)) Q E s
abbrev TI := St → Hp → (It → Hp → Prop) → Prop
/-- an iterator has come -/
def PIE (X : Cx) (pins : List (Addr × Obj)) (σ : St) (tg : Expr) (R : It → Hp → Prop) (itv : Value) (s2 : Shared) : Prop :=
  ∃ (it : Addr) (fp : List Addr) (tn : Nat → Heap → Prop) (J : It) (H' : Hp), itv = .ref it ∧ Inv X pins σ H' s2 ∧ Turn X.prog X.w X.K tg J fp it tn ∧ tn 0 s2.heap ∧ (∀ b ∈ fp, FpOk X pins H' b) ∧ R J H'
def PI (X : Cx) (tg iter : Expr) (wi : TI) : Prop :=
  ∀ (pins : List (Addr × Obj)) (s : Shared) (σ : St) (H : Hp) (R : It → Hp → Prop), Inv X pins σ H s → wi σ H R →
    wpAny (model X.prog X.w) X.A (eval iter X.env) (fun v s1 => wpAny (model X.prog X.w) X.A (pyIter v) (PIE X pins σ tg R) X.xe s1) X.xe s

/-- the step ahead of the store is nothing for an iterator that keeps no tuple -/
theorem go_of {M : Model} {A : Around} {E : Value → Shared → Prop} {s : Shared} {tg : Expr} {it : Addr} {u : Value} {o : Obj} {n : String} {vs : Array Value} {Q : Unit → Shared → Prop} (ho : s.heap.get? it = some o) (hc : o.cls = .type n) (hd : o.data = .fields vs)
    (hn : ["enumerate", "zip", "dict_itemiterator", "dict_reverseitemiterator", "odict_iterator", "itertools.zip_longest", "itertools.pairwise"].contains n = false) (hQ : Q () s) : wpAny M A (letOwnedTupleGo tg (.ref it) u) Q E s := by
  unfold letOwnedTupleGo
  cases tg <;> first
    | exact wpAny_pure hQ
    | (cases u <;> first
        | exact wpAny_pure hQ
        | (refine wpAny_bind (wpAny_load ho ?_)
           rw [hc, hd]
           show wpAny M A (if (["enumerate", "zip", "dict_itemiterator", "dict_reverseitemiterator", "odict_iterator", "itertools.zip_longest", "itertools.pairwise"].contains n && vs[0]? == some (rawInt _)) = true then _ else _) Q E s
           rw [if_neg (by intro h; rw [hn, Bool.false_and] at h; cases h)]
           exact wpAny_pure hQ))

/-- the list at a, as it stands at each turn (a loop may append to it) -/
def Itl (K : PySem.W.Frag) (a : Addr) : It :=
  ⟨fun i H => ∃ xs x, SqL K H a xs ∧ xs[i]? = some x, fun i H x H' => H' = H ∧ ∀ xs, SqL K H a xs → xs[i]? = some x, fun i H => ∃ xs, SqL K H a xs ∧ xs.length ≤ i⟩
def Itt (K : PySem.W.Frag) (a : Addr) : It :=
  ⟨fun i H => ∃ xs x, SqT K H a xs ∧ xs[i]? = some x, fun i H x H' => H' = H ∧ ∀ xs, SqT K H a xs → xs[i]? = some x, fun i H => ∃ xs, SqT K H a xs ∧ xs.length ≤ i⟩
/-- lo, lo + 1, .. (n of them) -/
def Itr (lo : Int) (n : Nat) : It := ⟨fun i _ => i < n, fun i H x H' => H' = H ∧ x = .int (lo + i), fun i _ => n ≤ i⟩
theorem turn_list {P : Program} {w : World} {K : PySem.W.Frag} {tg : Expr} (a it : Addr) : Turn P w K tg (Itl K a) [it] it (fun i h => h.IsListIter it a i) where
  mem := by simp
  obj := fun i h st b hb => by
    have e : b = it := by simpa using hb
    subst e
    obtain ⟨o, e, c, d⟩ := st
    exact ⟨o, e, fun v z => by rw [d] at z; cases z⟩
  keep := fun i h h' st k => st.at fun o e => k it (by simp) o e
  item := by
    intro X hP hw hK hc i pins s σ H E I hf st hg
    subst hP hw hK
    obtain ⟨xs, x, hq, hx⟩ := hg
    obtain ⟨its, rv, p, hz⟩ := I.list hq
    obtain ⟨u, hu, ru⟩ := rv.get hx
    obtain ⟨f0, f1, f2, f3, f4, f5⟩ := hf it (by simp)
    refine wpAny_pyNext_list_item st p.isList (x := u) (by simpa using hu) fun h' st' sb => ?_
    have I1 : Inv X pins σ H { s with heap := h' } := I.turned (t' := s.toks) (fun b o hb e => (sb.2 b hb).trans e) f0 f1 f3 f4 f5
    obtain ⟨o, e, c, d⟩ := id st'
    exact ⟨u, rfl, go_of (s := { s with heap := h' }) e c d (by decide) ⟨x, H, I1, ru, ⟨rfl, fun ys hy => by rw [I.list_inj hy hq]; exact hx⟩, st', fun b hb => (hf b hb).1⟩⟩
  done := by
    intro X hP hw hK hc i pins s σ H E I hf st hg
    subst hP hw hK
    obtain ⟨xs, hq, hx⟩ := hg
    obtain ⟨its, rv, p, hz⟩ := I.list hq
    obtain ⟨f0, f1, f2, f3, f4, f5⟩ := hf it (by simp)
    have hl := rv.length
    exact wpAny_pyNext_list_end (I.ok.hd hc) st p.isList (by simp; omega) fun h' eb => ⟨rfl, I.turned (t' := s.toks) (fun b o hb e => eb b o hb e) f0 f1 f3 f4 f5⟩
  self := fun _ _ _ _ _ st h => wpAny_pyIter_listiter st h
theorem turn_range {P : Program} {w : World} {K : PySem.W.Frag} {tg : Expr} (it : Addr) (lo : Int) (n : Nat) : Turn P w K tg (Itr lo n) [it] it (fun i h => IsRangeIter h it (lo + (i : Nat) * 1) ((n : Int) - (i : Nat)) 1) where
  mem := by simp
  obj := fun i h st b hb => by
    have e : b = it := by simpa using hb
    subst e
    exact ⟨_, st, fun v z => by
      have z' : Data.fields _ = Data.cell v := z
      cases z'⟩
  keep := fun i h h' st k => k it (by simp) _ st
  item := by
    intro X hP hw hK hc i pins s σ H E I hf st hg
    subst hP hw hK
    obtain ⟨f0, f1, f2, f3, f4, f5⟩ := hf it (by simp)
    have W := Walks.range (prog := X.prog) (w := X.w) (I.ok.hd hc) it lo 1 n
    refine W.item i s _ _ hg st fun v h' tk hv st' kk => ?_
    obtain ⟨t, rfl⟩ := hv
    have I1 : Inv X pins σ H { s with heap := h', toks := tk } := I.turned (fun b o hb e => kk b o (by simpa using hb) e) f0 f1 f3 f4 f5
    refine ⟨_, rfl, go_of (s := { s with heap := h', toks := tk }) (n := "range_iterator") st' rfl rfl (by decide) ⟨.int (lo + i), H, I1, ⟨t, ?_⟩, ⟨rfl, rfl⟩, st', fun b hb => (hf b hb).1⟩⟩
    rw [Int.mul_one]
  done := by
    intro X hP hw hK hc i pins s σ H E I hf st hg
    subst hP hw hK
    obtain ⟨f0, f1, f2, f3, f4, f5⟩ := hf it (by simp)
    exact wpAny_pyNext_range_end (I.ok.hd hc) st (by have : n ≤ i := hg; omega) fun h' eb => ⟨rfl, I.turned (t' := s.toks) (fun b o hb e => eb b o hb e) f0 f1 f3 f4 f5⟩
  self := fun _ _ _ _ _ st h => wpAny_pyIter_rangeiter st h
end L2

namespace L2
open PySem PySem.Spec PyProof.Rows
section
variable {X : Cx} {tg : Expr}
def iList (K : PySem.W.Frag) (tl : TE) : TI := fun σ H R => tl σ H fun x H1 => ∃ a, x = .ref a ∧ (∃ xs, SqL K H1 a xs) ∧ R (Itl K a) H1
def iTup (K : PySem.W.Frag) (tl : TE) : TI := fun σ H R => tl σ H fun x H1 => ∃ a, x = .ref a ∧ (∃ xs, SqT K H1 a xs) ∧ R (Itt K a) H1
theorem pi_list {l : Expr} {tl : TE} (hl : PE X l tl) : PI X tg l (iList X.K tl) := by
  intro pins s σ H R I h
  refine thn (hl pins s σ H _ I h) fun v s1 ⟨x, H1, I1, r1, q1⟩ => ?_
  obtain ⟨a, e, ⟨xs, hq⟩, q⟩ := q1
  subst e
  cases r1
  obtain ⟨its, rv, p, hz⟩ := I1.list hq
  refine wpAny_pyIter_list p.isList ?_
  refine ⟨s1.heap.objs.size, [s1.heap.objs.size], _, _, H1, rfl, I1.kept (t' := s1.toks) fun b o e => Heap.get?_push_of_some _ e, turn_list a _, ⟨_, Heap.get?_push_size _ rfl, rfl, rfl⟩, fun b hb => ?_, q⟩
  have e : b = s1.heap.objs.size := by simpa using hb
  subst e
  exact I1.fpOk (Nat.le_refl _) (I1.hok.fresh (Nat.le_refl _))
/-- a range object just made, walked -/
theorem range_it {pins : List (Addr × Obj)} {σ : St} {H : Hp} {s : Shared} {R : It → Hp → Prop} {E : Value → Shared → Prop} {lo hi : Int} {t u v : Tok} {tk : Nat} (I : Inv X pins σ H s) (h1 : -(2 ^ 62) ≤ lo) (h2 : lo < 2 ^ 62) (h3 : -(2 ^ 62) ≤ hi) (h4 : hi < 2 ^ 62)
    (q : R (Itr lo (hi - lo).toNat) H) : wpAny (model X.prog X.w) X.A (pyIter (.ref s.heap.objs.size)) (PIE X pins σ tg R) E { s with heap := s.heap.push { cls := .type "range", data := .fields #[.int lo t, .int hi u, .int 1 v] }, toks := tk } := by
  refine wpAny_pyIter_range (IsRange.new ..) (small_one h1 h2 h3 h4) ?_
  have I1 : Inv X pins σ H { s with heap := s.heap.push { cls := .type "range", data := .fields #[.int lo t, .int hi u, .int 1 v] }, toks := tk } := I.kept fun b o e => Heap.get?_push_of_some _ e
  refine ⟨(s.heap.push { cls := .type "range", data := .fields #[.int lo t, .int hi u, .int 1 v] }).objs.size, [(s.heap.push { cls := .type "range", data := .fields #[.int lo t, .int hi u, .int 1 v] }).objs.size], _, _, H, rfl,
    I1.kept (t' := tk) fun b o e => Heap.get?_push_of_some _ e, turn_range _ lo (hi - lo).toNat, ?_, fun b hb => ?_, q⟩
  · have e1 : lo + ((0 : Nat) : Int) * 1 = lo := by simp
    have e2 : (((hi - lo).toNat : Nat) : Int) - ((0 : Nat) : Int) = Builtin.Range.rangeSize lo hi 1 := by rw [rangeSize_one]; split <;> omega
    show IsRangeIter _ _ (lo + ((0 : Nat) : Int) * 1) ((((hi - lo).toNat : Nat) : Int) - ((0 : Nat) : Int)) 1
    rw [e1, e2]
    exact Heap.get?_push_size _ rfl
  · have e : b = (s.heap.push { cls := .type "range", data := .fields #[.int lo t, .int hi u, .int 1 v] }).objs.size := by simpa using hb
    subst e
    exact I1.fpOk (Nat.le_refl _) (I1.hok.fresh (Nat.le_refl _))
def iRng1 (ta : TA) : TI := fun σ H R => ta σ H fun vs H1 => ∃ j : Int, vs = [.int j] ∧ -(2 ^ 62) ≤ j ∧ j < 2 ^ 62 ∧ R (Itr 0 j.toNat) H1
def iRng2 (ta : TA) : TI := fun σ H R => ta σ H fun vs H1 => ∃ i j : Int, vs = [.int i, .int j] ∧ (-(2 ^ 62) ≤ i ∧ i < 2 ^ 62 ∧ -(2 ^ 62) ≤ j ∧ j < 2 ^ 62) ∧ R (Itr i (j - i).toNat) H1
theorem pi_range1 {a : Expr} {ta : TA} {p pos : Pos} (hg : Gl X "range") (hm : X.mg "range" = none) (ha : PA X [a] ta) (hs : starEach [a] X.env = [(false, eval a X.env)] := by rfl) : PI X tg (.Call (.Name "range" p) [a] [] pos) (iRng1 ta) := by
  intro pins s σ H R I h
  refine Call_ (ld_blt I hg hm boot_range (PyProof.Rows.callWith_type1 (thn (ha pos pins s σ H _ I h) fun us s1 ⟨vs, H1, I1, r1, q1⟩ => ?_) hs rfl))
  obtain ⟨j, e, q1, q2, q⟩ := q1
  subst e
  cases r1 with
  | cons r rr =>
    cases rr
    obtain ⟨t, rfl⟩ := r
    exact call_range_1 (range_it I1 (by omega) (by omega) q1 q2 (by simpa using q))
/-- W: the invariant by the turn and a measure; N: what the body is to reach -/
def tFor (wi : TI) (g : TG) (tb : TS) : TS := fun D σ H => wi σ H fun J H1 => ∃ W : Nat → Nat → St → Hp → Prop, (∃ m, W 0 m σ H1) ∧ ∀ i m σ H, W i m σ H →
  (J.stop i H ∧ D.nx σ H) ∨ (J.go i H ∧ ∃ N : St → Hp → Prop, (∀ σ' H', N σ' H' → ∃ m', m' < m ∧ W (i + 1) m' σ' H') ∧ ∀ x H', J.yld i H x H' → g x σ H' fun σ2 H2 => tb { D with nx := N, ct := N, bk := D.nx } σ2 H2)
/-- the records at fp as they stand -/
def pinsAt (fp : List Addr) (h : Heap) : List (Addr × Obj) := fp.filterMap fun b => (h.get? b).map fun o => (b, o)
theorem mem_pinsAt {fp : List Addr} {h : Heap} {b : Addr} {o : Obj} (hb : b ∈ fp) (e : h.get? b = some o) : (b, o) ∈ pinsAt fp h := List.mem_filterMap.mpr ⟨b, hb, by rw [e]; rfl⟩
theorem of_pinsAt {fp : List Addr} {h : Heap} {p : Addr × Obj} (hp : p ∈ pinsAt fp h) : p.1 ∈ fp ∧ h.get? p.1 = some p.2 := by
  obtain ⟨b, hb, e⟩ := List.mem_filterMap.mp hp
  cases q : h.get? b with
  | none => rw [q] at e; cases e
  | some o =>
    rw [q] at e
    have e' : (b, o) = p := Option.some.inj e
    subst e'
    exact ⟨hb, q⟩
theorem Inv.pinned {pins : List (Addr × Obj)} {σ : St} {H : Hp} {s : Shared} {fp : List Addr} (I : Inv X pins σ H s) (hf : ∀ b ∈ fp, FpOk X pins H b) (ho : ∀ b ∈ fp, ∃ o, s.heap.get? b = some o ∧ ∀ v, o.data ≠ .cell v) : Inv X (pins ++ pinsAt fp s.heap) σ H s :=
  I.pins_of fun p hp => (List.mem_append.mp hp).elim (fun z => I.pin p (List.mem_append_right _ z)) fun z => by
    obtain ⟨hb, e⟩ := of_pinsAt z
    obtain ⟨f0, f1, f2, _⟩ := hf p.1 hb
    obtain ⟨o, e', d⟩ := ho p.1 hb
    rw [e] at e'; cases e'
    exact ⟨e, f0, f1, f2, d⟩
theorem Inv.unpinned {pins pl : List (Addr × Obj)} {σ : St} {H : Hp} {s : Shared} (I : Inv X (pins ++ pl) σ H s) : Inv X pins σ H s := I.pins_of fun p hp => I.pin p (List.mem_append_right _ (List.mem_append_left _ hp))
theorem ps_for {iter : Expr} {body : List Stmt} {wi : TI} {g : TG} {tb : TS} {pos : Pos} (hp : PassesOwn (model X.prog X.w) X.A X.env X.xe) (hc : X.calm = true) (hi : PI X tg iter wi) (hg : PG X tg g) (hb : PSs X body tb)
    (hs : ∀ x, foldedSetIterable iter X.env x = pure x := by intro _; rfl) : PS X (.For tg iter body [] pos) (tFor wi g tb) := by
  intro pins s σ H D I h
  refine wpAny_For (thn (hi pins s σ H _ I h) fun v s1 h1 => thn h1 fun itv s2 h2 => ?_) hs
  obtain ⟨it, fp, tn, J, H2, e, I2, T, st2, f2, W, ⟨m0, w0⟩, turn⟩ := h2
  subst e
  -- what stays true of the iterator's objects through the loop
  have stat : ∀ {H' : Hp}, (∀ b ∈ fp, H' b = none) → ∀ b ∈ fp, FpOk X pins H' b := fun hn b hb => ⟨hn b hb, (f2 b hb).2⟩
  refine codeAny_forLoop_any (fun n s' => ∃ i σ' H', Inv X pins σ' H' s' ∧ tn i s'.heap ∧ (∀ b ∈ fp, H' b = none) ∧ W i n σ' H') ?_ m0 ⟨0, σ, H2, I2, st2, fun b hb => (f2 b hb).1, w0⟩
  rintro n s3 ⟨i, σ3, H3, I3, st3, fr3, w3⟩
  rcases turn i n σ3 H3 w3 with ⟨stop, qn⟩ | ⟨go, N, hN, step⟩
  · refine wpAny_passesOwn hp (thn (T.done X rfl rfl rfl hc i pins s3 σ3 H3 X.xe I3 (stat fr3) st3 stop) fun r s4 ⟨hr, I4⟩ => ?_)
    subst hr
    exact wpAny_execs_nil ⟨σ3, H3, I4, qn⟩
  · refine wpAny_passesOwn hp (thn (T.item X rfl rfl rfl hc i pins s3 σ3 H3 X.xe I3 (stat fr3) st3 go) fun r s4 ⟨u, hr, h4⟩ => ?_)
    subst hr
    refine wpAny_passesOwn hp (thn h4 fun _ s5 ⟨x, H5, I5, r5, y5, st5, fr5⟩ => ?_)
    have I5' := I5.pinned (stat fr5) (T.obj _ _ st5)
    refine wpAny_passesOwn hp (thn (hg _ s5 σ3 H5 x u _ I5' r5 (step x H5 y5)) fun _ s6 ⟨σ6, H6, I6, q6⟩ => ?_)
    refine wpAny_passesOwn hp (thn (hb _ s6 σ6 H6 _ I6 q6) fun f s7 q7 => ?_)
    have again : ∀ {σ7 : St} {H7 : Hp}, Inv X (pins ++ pinsAt fp s5.heap) σ7 H7 s7 → N σ7 H7 → ∃ m, m < n ∧ ∃ i σ' H', Inv X pins σ' H' s7 ∧ tn i s7.heap ∧ (∀ b ∈ fp, H' b = none) ∧ W i m σ' H' := fun {σ7 H7} I7 n7 => by
      obtain ⟨m', hm, w7⟩ := hN σ7 H7 n7
      refine ⟨m', hm, i + 1, σ7, H7, I7.unpinned, T.keep _ _ _ st5 fun b hb o e => (I7.pin (b, o) (List.mem_append_right _ (List.mem_append_right _ (mem_pinsAt hb e)))).1, fun b hb => ?_, w7⟩
      obtain ⟨o, e, d⟩ := T.obj _ _ st5 b hb
      exact (I7.pin (b, o) (List.mem_append_right _ (List.mem_append_right _ (mem_pinsAt hb e)))).2.1
    cases f with
    | next => obtain ⟨σ7, H7, I7, n7⟩ := q7; exact again I7 n7
    | cont => obtain ⟨σ7, H7, I7, n7⟩ := q7; exact again I7 n7
    | brk => obtain ⟨σ7, H7, I7, q7⟩ := q7; exact ⟨σ7, H7, I7.unpinned, q7⟩
    | ret v => obtain ⟨x7, σ7, H7, I7, r7, q7⟩ := q7; exact ⟨x7, σ7, H7, I7.unpinned, r7, q7⟩
end

/-- over a list that the body leaves as it is -/
theorem for_list {K : PySem.W.Frag} {a : Addr} {xs : List V} {g : TG} {tb : TS} {D : Ends} {σ : St} {H : Hp} (Pv : Nat → St → Hp → Prop) (h0 : Pv 0 σ H) (hl : ∀ i σ H, i ≤ xs.length → Pv i σ H → SqL K H a xs)
    (hs : ∀ i x σ H, xs[i]? = some x → Pv i σ H → g x σ H fun σ2 H2 => tb { D with nx := Pv (i + 1), ct := Pv (i + 1), bk := D.nx } σ2 H2) (hd : ∀ σ H, Pv xs.length σ H → D.nx σ H) :
    ∃ W : Nat → Nat → St → Hp → Prop, (∃ m, W 0 m σ H) ∧ ∀ i m σ H, W i m σ H →
      ((Itl K a).stop i H ∧ D.nx σ H) ∨ ((Itl K a).go i H ∧ ∃ N : St → Hp → Prop, (∀ σ' H', N σ' H' → ∃ m', m' < m ∧ W (i + 1) m' σ' H') ∧ ∀ x H', (Itl K a).yld i H x H' → g x σ H' fun σ2 H2 => tb { D with nx := N, ct := N, bk := D.nx } σ2 H2) := by
  refine ⟨fun i m σ H => m = xs.length - i ∧ i ≤ xs.length ∧ Pv i σ H, ⟨xs.length, by simp, Nat.zero_le _, h0⟩, ?_⟩
  rintro i m σ H ⟨rfl, hi, p⟩
  have q := hl i σ H hi p
  by_cases hlt : i < xs.length
  · refine .inr ⟨⟨xs, xs[i], q, by simp [hlt]⟩, Pv (i + 1), fun σ' H' p' => ⟨xs.length - (i + 1), by omega, rfl, hlt, p'⟩, fun x H' y => ?_⟩
    obtain ⟨e, y⟩ := y
    subst e
    exact hs i x σ _ (y xs q) p
  · have e : i = xs.length := by omega
    subst e
    exact .inl ⟨⟨xs, q, Nat.le_refl _⟩, hd σ H p⟩
theorem for_range {lo : Int} {n : Nat} {g : TG} {tb : TS} {D : Ends} {σ : St} {H : Hp} (Pv : Nat → St → Hp → Prop) (h0 : Pv 0 σ H)
    (hs : ∀ i σ H, i < n → Pv i σ H → g (.int (lo + i)) σ H fun σ2 H2 => tb { D with nx := Pv (i + 1), ct := Pv (i + 1), bk := D.nx } σ2 H2) (hd : ∀ σ H, Pv n σ H → D.nx σ H) :
    ∃ W : Nat → Nat → St → Hp → Prop, (∃ m, W 0 m σ H) ∧ ∀ i m σ H, W i m σ H →
      ((Itr lo n).stop i H ∧ D.nx σ H) ∨ ((Itr lo n).go i H ∧ ∃ N : St → Hp → Prop, (∀ σ' H', N σ' H' → ∃ m', m' < m ∧ W (i + 1) m' σ' H') ∧ ∀ x H', (Itr lo n).yld i H x H' → g x σ H' fun σ2 H2 => tb { D with nx := N, ct := N, bk := D.nx } σ2 H2) := by
  refine ⟨fun i m σ H => m = n - i ∧ i ≤ n ∧ Pv i σ H, ⟨n, by simp, Nat.zero_le _, h0⟩, ?_⟩
  rintro i m σ H ⟨rfl, hi, p⟩
  by_cases hlt : i < n
  · refine .inr ⟨hlt, Pv (i + 1), fun σ' H' p' => ⟨n - (i + 1), by omega, rfl, hlt, p'⟩, fun x H' y => ?_⟩
    obtain ⟨e, y⟩ := y
    subst e y
    exact hs i σ _ hlt p
  · have e : i = n := by omega
    subst e
    exact .inl ⟨Nat.le_refl _, hd σ H p⟩
end L2

namespace L2
open PySem PySem.Spec PyProof.Rows

abbrev R2 := V → V → Hp → VK → Prop
/-- a two-place operation on values: f is binaryOp op, inplaceOp op or compareOp op -/
def OpR (X : Cx) (f : Value → Value → Sem Value) (r : R2) : Prop :=
  ∀ (pins : List (Addr × Obj)) (s : Shared) (σ : St) (H : Hp) (x y : V) (v u : Value) (Q : VK), Inv X pins σ H s → RelV x v → RelV y u → r x y H Q →
    wpAny (model X.prog X.w) X.A (f v u) (EP X pins σ Q) X.xe s
/-- a one-place operation -/
def UnR (X : Cx) (f : Value → Sem Value) (r : V → Hp → VK → Prop) : Prop :=
  ∀ (pins : List (Addr × Obj)) (s : Shared) (σ : St) (H : Hp) (x : V) (v : Value) (Q : VK), Inv X pins σ H s → RelV x v → r x H Q →
    wpAny (model X.prog X.w) X.A (f v) (EP X pins σ Q) X.xe s
/-- a call of a value that is known (a builtin, a type) with values -/
def CallR (X : Cx) (f : Value) (r : List V → Hp → VK → Prop) : Prop :=
  ∀ (pins : List (Addr × Obj)) (s : Shared) (σ : St) (H : Hp) (xs : List V) (us : List Value) (Q : VK), Inv X pins σ H s → Vals xs us → r xs H Q →
    wpAny (model X.prog X.w) X.A (call f us) (EP X pins σ Q) X.xe s
def tOp (r : R2) (ta tb : TE) : TE := fun σ H Q => ta σ H fun x H1 => tb σ H1 fun y H2 => r x y H2 Q
def tUn (r : V → Hp → VK → Prop) (ta : TE) : TE := fun σ H Q => ta σ H fun x H1 => r x H1 Q
/-- ints in, under C, and a value out -/
def rI (C : Int → Int → Prop) (g : Int → Int → V) : R2 := fun x y H Q => ∃ i j, x = .int i ∧ y = .int j ∧ C i j ∧ Q (g i j) H
def rI0 (g : Int → Int → V) : R2 := fun x y H Q => ∃ i j, x = .int i ∧ y = .int j ∧ Q (g i j) H
def rU (g : Int → V) : V → Hp → VK → Prop := fun x H Q => ∃ i, x = .int i ∧ Q (g i) H

section
variable {X : Cx} {a b c : Expr} {ta tb tc : TE} {pos : Pos}

theorem binT (ha : PE X a ta) (hb : PE X b tb) {pins : List (Addr × Obj)} {s : Shared} {σ : St} {H : Hp} {R : V → V → Hp → Prop} (I : Inv X pins σ H s)
    (h : ta σ H fun x H1 => tb σ H1 fun y H2 => R x y H2) {Q : Value → Shared → Prop} {f : Value → Value → Sem Value}
    (hf : ∀ v u s2 x y H2, Inv X pins σ H2 s2 → RelV x v → RelV y u → R x y H2 → wpAny (model X.prog X.w) X.A (f v u) Q X.xe s2) :
    wpAny (model X.prog X.w) X.A (eval a X.env) (fun v s₁ => wpAny (model X.prog X.w) X.A (eval b X.env) (fun u s₂ => wpAny (model X.prog X.w) X.A (f v u) Q X.xe s₂) X.xe s₁) X.xe s := by
  refine thn (ha pins s σ H _ I h) fun v s1 ⟨x, H1, I1, r1, q1⟩ => ?_
  refine thn (hb pins s1 σ H1 _ I1 q1) fun u s2 ⟨y, H2, I2, r2, q2⟩ => ?_
  exact hf v u s2 x y H2 I2 r1 r2 q2

theorem pe_op {op : Operator} {r : R2} (ho : OpR X (binaryOp op) r) (ha : PE X a ta) (hb : PE X b tb) : PE X (.BinOp a op b pos) (tOp r ta tb) := by
  intro pins s σ H Q I h
  exact wpAny_BinOp (binT ha hb I h fun v u s2 x y H2 I2 rx ry q => ho pins s2 σ H2 x y v u Q I2 rx ry q)
theorem pe_un {op : UnaryOp} {r : V → Hp → VK → Prop} (ho : UnR X (unaryOp op) r) (ha : PE X a ta) : PE X (.UnaryOp op a pos) (tUn r ta) := by
  intro pins s σ H Q I h
  exact UnaryOp_ (thn (ha pins s σ H _ I h) fun v s1 ⟨x, H1, I1, r1, q1⟩ => ho pins s1 σ H1 x v Q I1 r1 q1)
theorem opI {f : Value → Value → Sem Value} {C : Int → Int → Prop} {g : Int → Int → Int}
    (rule : ∀ (i j : Int) (t u : Tok) (s : Shared) (Q : Value → Shared → Prop) (E : Value → Shared → Prop), C i j → Q (.int (g i j) s.toks) { s with toks := s.toks + 1 } → wpAny (model X.prog X.w) X.A (f (.int i t) (.int j u)) Q E s) :
    OpR X f (rI C fun i j => .int (g i j)) := by
  intro pins s σ H x y v u Q I rx ry h
  obtain ⟨i, j, rfl, rfl, hc, q⟩ := h
  obtain ⟨t, rfl⟩ := rx
  obtain ⟨t', rfl⟩ := ry
  exact rule i j t t' s _ _ hc ⟨.int (g i j), H, I.tok _, ⟨_, rfl⟩, q⟩
theorem opI0 {f : Value → Value → Sem Value} {g : Int → Int → Int}
    (rule : ∀ (i j : Int) (t u : Tok) (s : Shared) (Q : Value → Shared → Prop) (E : Value → Shared → Prop), Q (.int (g i j) s.toks) { s with toks := s.toks + 1 } → wpAny (model X.prog X.w) X.A (f (.int i t) (.int j u)) Q E s) :
    OpR X f (rI0 fun i j => .int (g i j)) := by
  intro pins s σ H x y v u Q I rx ry h
  obtain ⟨i, j, rfl, rfl, q⟩ := h
  obtain ⟨t, rfl⟩ := rx
  obtain ⟨t', rfl⟩ := ry
  exact rule i j t t' s _ _ ⟨.int (g i j), H, I.tok _, ⟨_, rfl⟩, q⟩
theorem opB0 {f : Value → Value → Sem Value} {g : Int → Int → Bool}
    (rule : ∀ (i j : Int) (t u : Tok) (s : Shared) (Q : Value → Shared → Prop) (E : Value → Shared → Prop), Q (.bool (g i j)) s → wpAny (model X.prog X.w) X.A (f (.int i t) (.int j u)) Q E s) :
    OpR X f (rI0 fun i j => .bl (g i j)) := by
  intro pins s σ H x y v u Q I rx ry h
  obtain ⟨i, j, rfl, rfl, q⟩ := h
  obtain ⟨t, rfl⟩ := rx
  obtain ⟨t', rfl⟩ := ry
  exact rule i j t t' s _ _ ⟨.bl (g i j), H, I, rfl, q⟩

def CDiv (i j : Int) : Prop := 0 < j ∧ j < 1073741824
def CMul (i j : Int) : Prop := (-(2 ^ 64) < i ∧ i < 2 ^ 64) ∨ (-(2 ^ 64) < j ∧ j < 2 ^ 64)
theorem CMul.ok {i j : Int} (h : CMul i j) : IntMulOk i j := by
  rcases h with ⟨h1, h2⟩ | ⟨h1, h2⟩
  · exact .of_left (intBits_le_64 h1 h2)
  · exact .of_right (intBits_le_64 h1 h2)
theorem op_add : OpR X (binaryOp .Add) (rI0 fun i j => .int (i + j)) := opI0 fun _ _ _ _ _ _ _ q => add_int q
theorem op_sub : OpR X (binaryOp .Sub) (rI0 fun i j => .int (i - j)) := opI0 fun _ _ _ _ _ _ _ q => sub_int q
theorem op_mul : OpR X (binaryOp .Mult) (rI CMul fun i j => .int (i * j)) := opI fun _ _ _ _ _ _ _ hc q => mul_int q hc.ok
/-- // by a positive divisor -/
theorem op_fdiv : OpR X (binaryOp .FloorDiv) (rI CDiv fun i j => .int (i / j)) := opI fun i j _ _ _ _ _ hc q => by
  have h1 : (0 : Int) < j := hc.1
  have h2 : j < 1073741824 := hc.2
  exact floordiv_int (by omega) (by rw [Int.fdiv_eq_ediv_of_nonneg i (by omega)]; exact q) (.inl (PyProof.noPylong_small (by omega)))
/-- % by a positive divisor of any size -/
theorem op_mod : OpR X (binaryOp .Mod) (rI (fun _ j => 0 < j) fun i j => .int (i % j)) := opI fun i j _ _ _ _ _ hc q => by
  have h1 : (0 : Int) < j := hc
  exact mod_int' (by omega) (by rw [Int.fmod_eq_emod_of_nonneg i (by omega)]; exact q)
theorem unI {f : Value → Sem Value} {g : Int → Int}
    (rule : ∀ (i : Int) (t : Tok) (s : Shared) (Q : Value → Shared → Prop) (E : Value → Shared → Prop), Q (.int (g i) s.toks) { s with toks := s.toks + 1 } → wpAny (model X.prog X.w) X.A (f (.int i t)) Q E s) :
    UnR X f (rU fun i => .int (g i)) := by
  intro pins s σ H x v Q I rx h
  obtain ⟨i, rfl, q⟩ := h
  obtain ⟨t, rfl⟩ := rx
  exact rule i t s _ _ ⟨.int (g i), H, I.tok _, ⟨_, rfl⟩, q⟩
theorem un_neg : UnR X (unaryOp .USub) (rU fun i => .int (-i)) := unI fun _ _ _ _ _ q => neg_int q
end

/-- the scalars that == tells apart as data does -/
def scal : V → V → Bool
  | .non, .non => true | .non, .int _ => true | .int _, .non => true | .non, .bl _ => true | .bl _, .non => true | .non, .str _ => true | .str _, .non => true
  | .int _, .int _ => true | .bl _, .bl _ => true | .str _, .str _ => true | .byt _, .byt _ => true
  | .int _, .str _ => true | .str _, .int _ => true | .bl _, .str _ => true | .str _, .bl _ => true
  | _, _ => false
def rEq : R2 := fun x y H Q => scal x y = true ∧ Q (.bl (decide (x = y))) H
def rNe : R2 := fun x y H Q => scal x y = true ∧ Q (.bl (!decide (x = y))) H

theorem dec_int {i j : Int} : decide (V.int i = V.int j) = (i == j) := by
  rw [Bool.eq_iff_iff]
  simp
theorem dec_bl {i j : Bool} : decide (V.bl i = V.bl j) = (i == j) := by
  rw [Bool.eq_iff_iff]
  simp
theorem dec_str {i j : Str} : decide (V.str i = V.str j) = (i == j) := by
  rw [Bool.eq_iff_iff]
  simp
theorem dec_byt {i j : Array UInt8} : decide (V.byt i = V.byt j) = (i.toList == j.toList) := by
  rw [Bool.eq_iff_iff]
  cases i
  cases j
  simp

section
variable {X : Cx} {a b c : Expr} {ta tb tc : TE} {pos : Pos}
theorem fin_bl {pins : List (Addr × Obj)} {σ : St} {H : Hp} {s : Shared} {Q : VK} {k k' : Bool} (I : Inv X pins σ H s) (q : Q (.bl k) H) (e : k = k') : EP X pins σ Q (.bool k') s := by
  subst e
  exact ⟨.bl k, H, I, rfl, q⟩
theorem op_eq : OpR X (compareOp .Eq) rEq := by
  intro pins s σ H x y v u Q I rx ry h
  obtain ⟨hs, q⟩ := h
  cases x with
  | non =>
    cases rx
    cases y with
    | non => cases ry; exact PySem.EqNone.eq_none_none (fin_bl I q (by simp))
    | bl j => cases ry; exact PySem.EqNone.eq_none_bool (fin_bl I q (by simp))
    | int j => obtain ⟨t', rfl⟩ := ry; exact PySem.EqNone.eq_none_int (fin_bl I q (by simp))
    | str j => obtain ⟨t', rfl⟩ := ry; exact PySem.EqNone.eq_none_str (fin_bl I q (by simp))
    | _ => exact absurd (show false = true from hs) Bool.false_ne_true
  | bl i =>
    cases rx
    cases y with
    | non => cases ry; exact PySem.EqNone.eq_bool_none (fin_bl I q (by simp))
    | bl j => cases ry; exact eq_bool (fin_bl I q dec_bl)
    | str j => obtain ⟨t', rfl⟩ := ry; exact PySem.EqMixed.eq_bool_str (fin_bl I q (by simp))
    | _ => exact absurd (show false = true from hs) Bool.false_ne_true
  | int i =>
    obtain ⟨t, rfl⟩ := rx
    cases y with
    | non => cases ry; exact PySem.EqNone.eq_int_none (fin_bl I q (by simp))
    | int j => obtain ⟨t', rfl⟩ := ry; exact eq_int (fin_bl I q dec_int)
    | str j => obtain ⟨t', rfl⟩ := ry; exact PySem.EqMixed.eq_int_str (fin_bl I q (by simp))
    | _ => exact absurd (show false = true from hs) Bool.false_ne_true
  | str i =>
    obtain ⟨t, rfl⟩ := rx
    cases y with
    | non => cases ry; exact PySem.EqNone.eq_str_none (fin_bl I q (by simp))
    | bl j => cases ry; exact PySem.EqMixed.eq_str_bool (fin_bl I q (by simp))
    | int j => obtain ⟨t', rfl⟩ := ry; exact PySem.EqMixed.eq_str_int (fin_bl I q (by simp))
    | str j => obtain ⟨t', rfl⟩ := ry; exact eq_str (fin_bl I q dec_str)
    | _ => exact absurd (show false = true from hs) Bool.false_ne_true
  | byt i =>
    obtain ⟨t, rfl⟩ := rx
    cases y with
    | byt j => obtain ⟨t', rfl⟩ := ry; exact PySem.W.eq_bytes (fin_bl I q dec_byt)
    | _ => exact absurd (show false = true from hs) Bool.false_ne_true
  | _ => cases y <;> exact absurd (show false = true from hs) Bool.false_ne_true
theorem op_ne : OpR X (compareOp .NotEq) rNe := by
  intro pins s σ H x y v u Q I rx ry h
  obtain ⟨hs, q⟩ := h
  cases x with
  | non =>
    cases rx
    cases y with
    | non => cases ry; exact PySem.EqNone.ne_none_none (fin_bl I q (by simp))
    | bl j => cases ry; exact PySem.EqNone.ne_none_bool (fin_bl I q (by simp))
    | int j => obtain ⟨t', rfl⟩ := ry; exact PySem.EqNone.ne_none_int (fin_bl I q (by simp))
    | str j => obtain ⟨t', rfl⟩ := ry; exact PySem.EqNone.ne_none_str (fin_bl I q (by simp))
    | _ => exact absurd (show false = true from hs) Bool.false_ne_true
  | bl i =>
    cases rx
    cases y with
    | non => cases ry; exact PySem.EqNone.ne_bool_none (fin_bl I q (by simp))
    | bl j => cases ry; exact ne_bool (fin_bl I q (congrArg not dec_bl))
    | str j => obtain ⟨t', rfl⟩ := ry; exact PySem.EqMixed.ne_bool_str (fin_bl I q (by simp))
    | _ => exact absurd (show false = true from hs) Bool.false_ne_true
  | int i =>
    obtain ⟨t, rfl⟩ := rx
    cases y with
    | non => cases ry; exact PySem.EqNone.ne_int_none (fin_bl I q (by simp))
    | int j => obtain ⟨t', rfl⟩ := ry; exact ne_int (fin_bl I q (congrArg not dec_int))
    | str j => obtain ⟨t', rfl⟩ := ry; exact PySem.EqMixed.ne_int_str (fin_bl I q (by simp))
    | _ => exact absurd (show false = true from hs) Bool.false_ne_true
  | str i =>
    obtain ⟨t, rfl⟩ := rx
    cases y with
    | non => cases ry; exact PySem.EqNone.ne_str_none (fin_bl I q (by simp))
    | bl j => cases ry; exact PySem.EqMixed.ne_str_bool (fin_bl I q (by simp))
    | int j => obtain ⟨t', rfl⟩ := ry; exact PySem.EqMixed.ne_str_int (fin_bl I q (by simp))
    | str j => obtain ⟨t', rfl⟩ := ry; exact ne_str (fin_bl I q (congrArg not dec_str))
    | _ => exact absurd (show false = true from hs) Bool.false_ne_true
  | byt i =>
    obtain ⟨t, rfl⟩ := rx
    cases y with
    | byt j => obtain ⟨t', rfl⟩ := ry; exact PySem.W.ne_bytes (fin_bl I q (congrArg not dec_byt))
    | _ => exact absurd (show false = true from hs) Bool.false_ne_true
  | _ => cases y <;> exact absurd (show false = true from hs) Bool.false_ne_true

theorem op_lt : OpR X (compareOp .Lt) (rI0 fun i j => .bl (decide (i < j))) := opB0 fun _ _ _ _ _ _ _ q => lt_int q
theorem op_le : OpR X (compareOp .LtE) (rI0 fun i j => .bl (decide (i ≤ j))) := opB0 fun _ _ _ _ _ _ _ q => le_int q
theorem op_gt : OpR X (compareOp .Gt) (rI0 fun i j => .bl (decide (j < i))) := opB0 fun _ _ _ _ _ _ _ q => gt_int q
/-- the one string within the other -/
theorem op_in_str : OpR X (compareOp .In) (fun x y H Q => ∃ i j, x = .str i ∧ y = .str j ∧ Q (.bl (!(Builtin.Str.occurrences j i 0 j.length 1).isEmpty)) H) := by
  intro pins s σ H x y v u Q I rx ry h
  obtain ⟨i, j, rfl, rfl, q⟩ := h
  obtain ⟨t, rfl⟩ := rx
  obtain ⟨t', rfl⟩ := ry
  exact in_str (fin_bl I q rfl)

theorem op_notin_str : OpR X (compareOp .NotIn) (fun x y H Q => ∃ i j, x = .str i ∧ y = .str j ∧ Q (.bl (!(!(Builtin.Str.occurrences j i 0 j.length 1).isEmpty))) H) := by
  intro pins s σ H x y v u Q I rx ry h
  obtain ⟨i, j, rfl, rfl, q⟩ := h
  obtain ⟨t, rfl⟩ := rx
  obtain ⟨t', rfl⟩ := ry
  exact notIn_str (fin_bl I q rfl)
theorem nomark (b : Expr) {op : CmpOp} (h : op ≠ .In := by decide) (h2 : op ≠ .NotIn := by decide) : behindInMarks op b = false := by
  have e1 : (op == CmpOp.In) = false := by cases op <;> first | rfl | exact absurd rfl h
  have e2 : (op == CmpOp.NotIn) = false := by cases op <;> first | rfl | exact absurd rfl h2
  cases b <;> simp [behindInMarks, e1, e2]
/-- a comparison as a value; hm: nomark b, or (for in, not in) by with_unfolding_all rfl -/
theorem pe_cmpR {op : CmpOp} {r : R2} (ho : OpR X (compareOp op) r) (ha : PE X a ta) (hb : PE X b tb) (hm : behindInMarks op b = false) : PE X (.Compare a [op] [b] pos) (tOp r ta tb) := by
  intro pins s σ H Q I h
  exact wpAny_Compare1 (binT ha hb I h fun v u s2 x y H2 I2 rx ry q => ho pins s2 σ H2 x y v u Q I2 rx ry q) hm
/-- a reading of a value as a test -/
def tTest (t : TE) : TT := fun σ H Q => t σ H fun x H' => ∃ k, x = .bl k ∧ Q k H'
theorem pt_cmpR {op : CmpOp} {r : R2} (ho : OpR X (compareOp op) r) (ha : PE X a ta) (hb : PE X b tb) (hm : behindInMarks op b = false) : PT X (.Compare a [op] [b] pos) (tTest (tOp r ta tb)) := by
  intro pins s σ H Q I h
  refine wpAny_isTrue_Compare1 (thn (ha pins s σ H _ I h) fun v s1 ⟨x, H1, I1, r1, q1⟩ => thn (hb pins s1 σ H1 _ I1 q1) fun u s2 ⟨y, H2, I2, r2, q2⟩ =>
    thn (ho pins s2 σ H2 x y v u _ I2 r1 r2 q2) fun c s3 ⟨z, H3, I3, r3, k, e, q3⟩ => ?_) hm
  subst e
  cases r3
  exact wpAny_truthy_bool ⟨H3, I3, q3⟩
/-- a op1 b op2 c -/
def tChain (r r' : R2) (ta tb tc : TE) : TE := fun σ H Q => ta σ H fun x H1 => tb σ H1 fun y H2 => r x y H2 fun z H3 => ∃ k, z = .bl k ∧
  (if k = true then tc σ H3 fun w' H4 => r' y w' H4 Q else Q (.bl false) H3)
theorem pe_chain {op op' : CmpOp} {r r' : R2} (ho : OpR X (compareOp op) r) (ho' : OpR X (compareOp op') r') (ha : PE X a ta) (hb : PE X b tb) (hc : PE X c tc)
    (hm : lastMarks [op, op'] [b, c] = false := by with_unfolding_all rfl) : PE X (.Compare a [op, op'] [b, c] pos) (tChain r r' ta tb tc) := by
  intro pins s σ H Q I h
  refine Compare_chain (thn (ha pins s σ H _ I h) fun v s1 ⟨x, H1, I1, r1, q1⟩ => chain_link (thn (hb pins s1 σ H1 _ I1 q1) fun u s2 ⟨y, H2, I2, r2, q2⟩ =>
    thn (ho pins s2 σ H2 x y v u _ I2 r1 r2 q2) fun d s3 ⟨z, H3, I3, r3, k, e, q3⟩ => ?_)) hm
  subst e
  cases r3
  refine wpAny_truthy_bool ?_
  cases k with
  | false => exact ite_ff ⟨.bl false, H3, I3, rfl, q3⟩
  | true => exact ite_tt (chain_last (thn (hc pins s3 σ H3 _ I3 q3) fun w' s4 ⟨z', H4, I4, r4, q4⟩ => ho' pins s4 σ H4 y z' u w' Q I4 r2 r4 q4))
theorem pt_chain {op op' : CmpOp} {r r' : R2} (ho : OpR X (compareOp op) r) (ho' : OpR X (compareOp op') r') (ha : PE X a ta) (hb : PE X b tb) (hc : PE X c tc)
    (hm : lastMarks [op, op'] [b, c] = false := by with_unfolding_all rfl) : PT X (.Compare a [op, op'] [b, c] pos) (tTest (tChain r r' ta tb tc)) := by
  intro pins s σ H Q I h
  refine isTrue_chain (thn (ha pins s σ H _ I h) fun v s1 ⟨x, H1, I1, r1, q1⟩ => test_link (thn (hb pins s1 σ H1 _ I1 q1) fun u s2 ⟨y, H2, I2, r2, q2⟩ =>
    thn (ho pins s2 σ H2 x y v u _ I2 r1 r2 q2) fun d s3 ⟨z, H3, I3, r3, k, e, q3⟩ => ?_)) hm
  subst e
  cases r3
  refine wpAny_truthy_bool ?_
  cases k with
  | false =>
    obtain ⟨k', e', q'⟩ := q3
    cases e'
    exact ite_ff ⟨H3, I3, q'⟩
  | true =>
    refine ite_tt (test_last (thn (hc pins s3 σ H3 _ I3 q3) fun w' s4 ⟨z', H4, I4, r4, q4⟩ => thn (ho' pins s4 σ H4 y z' u w' _ I4 r2 r4 q4) fun d' s5 ⟨z2, H5, I5, r5, k2, e2, q5⟩ => ?_))
    subst e2
    cases r5
    exact wpAny_truthy_bool ⟨H5, I5, q5⟩

theorem line63 : (sizeLine : Nat) < 2 ^ 63 := by rw [sizeLine_eq]; decide
theorem op_add_str : OpR X (binaryOp .Add) (fun x y H Q => ∃ i j, x = .str i ∧ y = .str j ∧ i.length + j.length ≤ sizeLine ∧ Q (.str (i ++ j)) H) := by
  intro pins s σ H x y v u Q I rx ry h
  obtain ⟨i, j, rfl, rfl, hz, q⟩ := h
  obtain ⟨t, rfl⟩ := rx
  obtain ⟨t', rfl⟩ := ry
  exact add_str (fun t' tk => ⟨.str (i ++ j), H, I.tok _, ⟨_, rfl⟩, q⟩) hz
theorem vals1 {x : V} {us : List Value} (r : Vals [x] us) : ∃ u, us = [u] ∧ RelV x u := by
  cases r with
  | cons r1 r2 => cases r2; exact ⟨_, rfl, r1⟩
theorem vals2 {x y : V} {us : List Value} (r : Vals [x, y] us) : ∃ u w', us = [u, w'] ∧ RelV x u ∧ RelV y w' := by
  cases r with
  | cons r1 r2 =>
    cases r2 with
    | cons r3 r4 => cases r4; exact ⟨_, _, rfl, r1, r3⟩
theorem call_str_int : CallR X (.type "str") (fun xs H Q => ∃ i, xs = [.int i] ∧ i.natAbs.log2 < 1920 ∧ Q (.str (toString i)) H) := by
  intro pins s σ H xs us Q I r h
  obtain ⟨i, rfl, hz, q⟩ := h
  obtain ⟨u, rfl, t, rfl⟩ := vals1 r
  exact PySem.P.str_of_int hz ⟨.str _, H, I.tok _, ⟨_, rfl⟩, q⟩
/-- len of a str, a bytes, a list, a tuple -/
def LenV (K : PySem.W.Frag) (x : V) (H : Hp) (n : Nat) : Prop :=
  match x with
  | .str y => y.length ≤ sizeLine ∧ n = y.length
  | .byt y => y.size ≤ sizeLine ∧ n = y.size
  | .ref p => (∃ xs, SqL K H p xs ∧ n = xs.length) ∨ ∃ xs, SqT K H p xs ∧ n = xs.length
  | _ => False
theorem call_len : CallR X (.builtin "len") (fun xs H Q => ∃ x n, xs = [x] ∧ LenV X.K x H n ∧ Q (.int n) H) := by
  intro pins s σ H xs us Q I r h
  obtain ⟨x, n, rfl, e, q⟩ := h
  obtain ⟨u, rfl, rx⟩ := vals1 r
  have hl := line63
  have hs : sizeLine = 16777216 := sizeLine_eq
  cases x with
  | str y =>
    obtain ⟨t, rfl⟩ := rx
    obtain ⟨hy, e'⟩ : y.length ≤ sizeLine ∧ n = y.length := e
    subst e'
    exact len_str (by omega) ⟨.int _, H, I.tok _, ⟨_, rfl⟩, q⟩
  | byt y =>
    obtain ⟨t, rfl⟩ := rx
    obtain ⟨hy, e'⟩ : y.size ≤ sizeLine ∧ n = y.size := e
    subst e'
    exact PySem.W.len_bytes (by omega) ⟨.int _, H, I.tok _, ⟨_, rfl⟩, q⟩
  | ref p =>
    cases rx
    have e' : (∃ xs, SqL X.K H p xs ∧ n = xs.length) ∨ ∃ xs, SqT X.K H p xs ∧ n = xs.length := e
    rcases e' with ⟨xs, hx, e'⟩ | ⟨xs, hx, e'⟩
    · subst e'
      obtain ⟨its, r', pl, hz⟩ := I.list hx
      have hlen := r'.length
      exact Calls.call_len_list pl.isList (by simp only [List.size_toArray]; omega) ⟨.int xs.length, H, I.tok _, ⟨_, by simp only [List.size_toArray]; rw [hlen]⟩, q⟩
    · subst e'
      obtain ⟨its, r', pl, hz⟩ := I.tuple hx
      have hlen := r'.length
      exact len_tuple pl (by simp only [List.size_toArray]; omega) ⟨.int xs.length, H, I.tok _, ⟨_, by simp only [List.size_toArray]; rw [hlen]⟩, q⟩
  | _ => exact (show False from e).elim
end
end L2

namespace L2
open PySem PySem.Spec PyProof.Rows

structure ObjM (h : Heap) (x dx C : Addr) (mA : Str → Option Value) : Prop where
  obj : h.get? x = some (PySem.W.instObj C dx)
  ns : h.Ns1 dx mA
  ne : dx ≠ x

theorem lookIn_ns {h : Heap} {dx : Addr} {mA : Str → Option Value} (n : h.Ns1 dx mA) : ∃ od, h.get? dx = some od ∧ ∀ name, PySem.W.lookIn name od = some (mA name) := by
  obtain ⟨o, es, ep, ho, hd, hk, _, hm⟩ := n
  refine ⟨o, ho, fun name => ?_⟩
  have e := hm name
  unfold nsFind findBy at e
  rw [← Array.find?_toList] at e
  unfold PySem.W.lookIn
  rw [hd]
  dsimp only
  split
  · rename_i y q
    rw [q] at e
    exact congrArg some e
  · rename_i q
    rw [q] at e
    have a : es.toList.any (·.refKey) = false := by
      rw [List.any_eq_false]
      intro y hy
      obtain ⟨z, t, hkey⟩ := hk y (Array.mem_toList_iff.mp hy)
      simp [DictEntry.refKey, hkey]
    have a' : ¬ es.toList.any (·.refKey) = true := by rw [a]; exact Bool.false_ne_true
    rw [if_neg a']
    exact congrArg some e

theorem ObjM.look {h : Heap} {x dx C : Addr} {mA : Str → Option Value} (I : ObjM h x dx C mA) : ∃ od, PySem.W.InstAt h x (PySem.W.instObj C dx) C (some od) ∧ ∀ name, PySem.W.lookIn name od = some (mA name) :=
  let ⟨od, ho, hl⟩ := lookIn_ns I.ns
  ⟨od, ⟨I.obj, rfl, rfl, ho⟩, hl⟩

section
variable {prog : Program} {w : World} {A : Around} {E : Value → Shared → Prop} {s : Shared} {K : PySem.W.Frag} {x dx C f : Addr} {mA : Str → Option Value} {name : Str} {v : Value}

end

def putF (f : Str) (v : V) : List (Str × V) → List (Str × V)
  | [] => [(f, v)]
  | (g, x) :: r => if g = f then (g, v) :: r else (g, x) :: putF f v r
section
variable {P : Program} {w : World} {H H' : Hp} {h h' : Heap} {a C dx : Addr} {fs fs' : List (Str × V)}
theorem ins_get (hok : HOk P w H h) (e : H a = some (.ins C dx fs)) : ∃ mA, ObjM h a dx C mA ∧ (∀ f, RelO (fs.lookup f) (mA f)) ∧ PySem.Within mA (fs.map (·.1)) ∧ fs.length ≤ 1000 ∧ H dx = some (.own a) := by
  obtain ⟨d, z, ne, ob, mA, n, r, q⟩ := (show ObjOk P w H h a (.ins C dx fs) from hok a _ e)
  exact ⟨mA, ⟨ob, n, ne⟩, r, q, z, d⟩
end

structure Cls (K : PySem.W.Frag) (C : Addr) : Prop where
  pg : PySem.W.plainGet K C Str.empty = true
  hd : PySem.W.hasDictIn K C = true
  po : PySem.W.plainOver K C = true
  sa : PySem.W.findIn K (.ref C) "__setattr__" = some (some (.builtin "object.__setattr__"))
theorem Cls.get {K : PySem.W.Frag} {C : Addr} (c : Cls K C) (f : Str) : PySem.W.plainGet K C f = true := c.pg
/-- no class of it has the name -/
def NoAttr (K : PySem.W.Frag) (C : Addr) (f : Str) : Prop := PySem.W.findIn K (.ref C) f = some none
/-- a constant of the class -/
structure Con (K : PySem.W.Frag) (C : Addr) (f : Str) (v : V) (u : Value) : Prop where
  at_ : PySem.W.findIn K (.ref C) f = some (some u)
  rel : RelV v u
  get : PySem.W.specialIn K u "__get__" = some none
  cp : PySem.W.copiedNames.contains f = false
/-- a method: a plain def of the class or of one above it -/
structure Meth (K : PySem.W.Frag) (C : Addr) (m : Str) (f : Addr) : Prop where
  at_ : PySem.W.findIn K (.ref C) m = some (some (.ref f))
  fn : PySem.W.isFn K (.ref f) = true
  kp : PySem.W.keepIn K (.ref f) = true

section
variable {X : Cx} {pins : List (Addr × Obj)} {σ : St} {H : Hp} {s : Shared} {a C dx : Addr} {fs : List (Str × V)} {f : Str} {v : V} {A : Around} {E : Value → Shared → Prop}

end

/-- e.f, an attribute of the instance -/
def tFld (K : PySem.W.Frag) (ta : TE) (f : Str) : TE := fun σ H Q => ta σ H fun x H1 => ∃ a C dx fs v, x = .ref a ∧ H1 a = some (.ins C dx fs) ∧ Cls K C ∧ NoAttr K C f ∧ fs.lookup f = some v ∧ Q v H1
/-- e.f = value -/
def sFld (K : PySem.W.Frag) (ta tv : TE) (f : Str) : TS := fun D σ H => tv σ H fun y H1 => ta σ H1 fun x H2 => ∃ a C dx fs, x = .ref a ∧ H2 a = some (.ins C dx fs) ∧ Cls K C ∧ NoAttr K C f ∧ fs.length < 1000 ∧
  D.nx σ (upd H2 a (.ins C dx (putF f y fs)))
section
variable {X : Cx} {o e value : Expr} {f : Str} {pos pos' tpos : Pos} {ta tv : TE}
end

section
variable {X : Cx} {pins : List (Addr × Obj)} {σ : St} {H : Hp} {s : Shared} {A : Around} {E : Value → Shared → Prop} {Q : Value → Shared → Prop} {c : Value} {b : Bool}
/-- the type of a value, as the fragment's deciders take it; for an instance its class -/
inductive TyOf (K : PySem.W.Frag) (H : Hp) : V → Value → Prop where
  | non : TyOf K H .non (.type "NoneType")
  | bl (x : Bool) : TyOf K H (.bl x) (.type "bool")
  | int (i : Int) : TyOf K H (.int i) (.type "int")
  | str (x : Str) : TyOf K H (.str x) (.type "str")
  | flt (x : UInt64) : TyOf K H (.flt x) (.type "float")
  | lst {a : Addr} {xs : List V} (e : H a = some (.lst xs)) : TyOf K H (.ref a) (.type "list")
  | frz {a : Addr} {o : Obj} {xs : List V} (e : H a = some (.frz o (.lst xs))) : TyOf K H (.ref a) (.type "list")
  | tup {a : Addr} {xs : List V} (e : H a = some (.tup xs)) : TyOf K H (.ref a) (.type "tuple")
  | dK {a : Addr} {kvs : List (Key × V)} (e : H a = some (.dK kvs)) : TyOf K H (.ref a) (.type "dict")
  | dT {a : Addr} {kvs : List (List Key × V)} (e : H a = some (.dT kvs)) : TyOf K H (.ref a) (.type "dict")
  | ins {a C dx : Addr} {fs : List (Str × V)} (e : H a = some (.ins C dx fs)) (cl : Cls K C) (ha : PySem.W.findIn K (.ref C) "__class__" = some (some (.builtin "object.__class__")))
      (hn : PySem.W.specialIn K (.builtin "object.__class__") "__get__" = some (some (.builtin "getset_descriptor.__get__"))) (htk : PySem.W.takesIn K (.builtin "object.__class__") = some true)
      (hm : PySem.W.mroIn K C (.type "object") = some true) : TyOf K H (.ref a) (.ref C)
/-- isinstance(x, c) for one class c, a built-in or an own one: kitOne's answer -/
theorem isinst_ok {x : V} {u t : Value} (I : Inv X pins σ H s) (rx : RelV x u) (ty : TyOf X.K H x t) (e : PySem.W.kitOne X.K t c = some b) (h : ∀ tk, Q (.bool b) { s with toks := tk }) :
    wpAny (model X.prog X.w) A (call (.builtin "isinstance") [u, c]) Q E s := by
  cases ty with
  | non => cases (show u = Value.none from rx); exact PySem.W.kia_one PySem.W.kitx_none I.kIn True.intro e (fun z => nomatch z) h
  | bl y => cases (show u = Value.bool y from rx); exact PySem.W.kia_one PySem.W.kitx_bool I.kIn True.intro e (fun z => nomatch z) h
  | int i => obtain ⟨t, q⟩ := (show ∃ t, u = Value.int i t from rx); cases q; exact PySem.W.kia_one PySem.W.kitx_int I.kIn True.intro e (fun z => nomatch z) h
  | str y => obtain ⟨t, q⟩ := (show ∃ t, u = Value.str y t from rx); cases q; exact PySem.W.kia_one PySem.W.kitx_str I.kIn True.intro e (fun z => nomatch z) h
  | flt y => obtain ⟨t, q⟩ := (show ∃ t, u = Value.float y t from rx); cases q; exact PySem.W.kia_one PySem.W.kitx_float I.kIn True.intro e (fun z => nomatch z) h
  | @lst a xs ea =>
    cases (show u = Value.ref a from rx)
    obtain ⟨_, _, n, _, h1⟩ := (show ObjOk X.prog X.w H s.heap a (.lst xs) from I.hok a _ ea)
    exact PySem.W.kia_one PySem.W.kitx_list I.kIn ⟨_, h1, rfl⟩ e (fun z => nomatch z) h
  | @frz a ob xs ea =>
    cases (show u = Value.ref a from rx)
    obtain ⟨_, _, _, n, _, h1⟩ := (show ObjOk X.prog X.w H s.heap a (.frz ob (.lst xs)) from I.hok a _ ea)
    exact PySem.W.kia_one PySem.W.kitx_list I.kIn ⟨_, h1, rfl⟩ e (fun z => nomatch z) h
  | @tup a xs ea =>
    cases (show u = Value.ref a from rx)
    obtain ⟨_, _, _, p⟩ := (show ObjOk X.prog X.w H s.heap a (.tup xs) from I.hok a _ ea)
    obtain ⟨o, h1, h2, _⟩ := p
    exact PySem.W.kia_one PySem.W.kitx_tuple I.kIn ⟨o, h1, h2⟩ e (fun z => nomatch z) h
  | @dK a kvs ea =>
    cases (show u = Value.ref a from rx)
    obtain ⟨_, _, vs, _, p⟩ := (show ObjOk X.prog X.w H s.heap a (.dK kvs) from I.hok a _ ea)
    obtain ⟨o, es, ep, h1, h2, _⟩ := p
    exact PySem.W.kia_one PySem.W.kitx_dict I.kIn ⟨o, h1, h2.1⟩ e (fun z => nomatch z) h
  | @dT a kvs ea =>
    cases (show u = Value.ref a from rx)
    obtain ⟨_, _, xs, _, o, es, ep, h1, h2, _⟩ := (show ObjOk X.prog X.w H s.heap a (.dT kvs) from I.hok a _ ea)
    exact PySem.W.kia_one PySem.W.kitx_dict I.kIn ⟨o, h1, h2.1⟩ e (fun z => nomatch z) h
  | @ins a C dx fs ea cl ha hn htk hm =>
    cases (show u = Value.ref a from rx)
    obtain ⟨mA, O, _⟩ := ins_get I.hok ea
    obtain ⟨od, J, _⟩ := O.look
    exact PySem.W.kia_one (PySem.W.kitx_own (cl.get _) cl.hd ha hn htk hm) I.kIn J e (fun z => nomatch z) h
end
end L2

namespace L2
open PySem PySem.Spec PyProof.Rows

structure Room (k : Nat) (A : Around) : Prop where
  hd : A.handled = none
  dp : A.depth + 3 * k + 5 < recursionLimit
  un : A.units + 16 * k + 200 < cLine
theorem Room.mono {j k : Nat} {A : Around} (r : Room k A) (h : j ≤ k) : Room j A := ⟨r.hd, by have := r.dp; omega, by have := r.un; omega⟩
theorem Room.deeper {k : Nat} {A : Around} (r : Room (k + 1) A) (env : Env) : Room k (A.deeper env) :=
  ⟨r.hd, by have := r.dp; show A.depth + 1 + 3 * k + 5 < _; omega, by have := r.un; show A.units + 3 + 16 * k + 200 < _; omega⟩
theorem Room.depth {k : Nat} {A : Around} (r : Room k A) : A.depth < recursionLimit := by have := r.dp; omega
theorem Room.units {k : Nat} {A : Around} (r : Room k A) : A.units + 64 < cLine := by have := r.un; omega
def tNil : TA := fun _ H Q => Q [] H
def tCons (ta : TE) (tr : TA) : TA := fun σ H Q => ta σ H fun x H1 => tr σ H1 fun xs H2 => Q (x :: xs) H2
section
variable {X : Cx} {e : Expr} {es : List Expr} {te : TE} {t : TA} {pos : Pos}
theorem pa_nil : PA X [] tNil := fun _ _ _ _ H Q I h => Calls.spliced_nil ⟨[], H, I, .nil, h⟩
theorem pa_cons (ha : PE X e te) (hr : PA X es t) (hs : starEach (e :: es) X.env = (false, eval e X.env) :: starEach es X.env := by rfl) : PA X (e :: es) (tCons te t) := by
  intro pos pins s σ H Q I h
  rw [hs]
  show wpAny _ _ (spliced ((false, eval e X.env) :: backTo pos (starEach es X.env))) _ _ s
  refine Calls.spliced_cons (thn (ha pins s σ H _ I h) fun u s1 ⟨x, H1, I1, r1, q1⟩ => ?_)
  exact thn (hr pos pins s1 σ H1 _ I1 q1) fun us s2 ⟨xs, H2, I2, r2, q2⟩ => ⟨x :: xs, H2, I2, .cons r1 r2, q2⟩

/-- a tuple, a list of written items -/
def tTup (t : TA) : TE := fun σ H Q => t σ H fun xs H1 => xs.length ≤ sizeLine ∧ ∀ p, H1 p = none → Q (.ref p) (upd H1 p (.tup xs))
def tLst (t : TA) : TE := fun σ H Q => t σ H fun xs H1 => xs.length ≤ sizeLine ∧ ∀ p, H1 p = none → Q (.ref p) (upd H1 p (.lst xs))
theorem pe_tup {x1} (h : PA X es t) : PE X (.Tuple es x1 pos) (tTup t) := by
  intro pins s σ H Q I hq
  refine wpAny_Tuple_spliced (thn (h pos pins s σ H _ I hq) fun us s1 ⟨xs, H1, I1, r, z, q⟩ => ⟨by rw [← r.length]; exact z, ?_⟩)
  have hf : H1 s1.heap.objs.size = none := I1.hok.fresh (Nat.le_refl _)
  refine ⟨.ref s1.heap.objs.size, upd H1 s1.heap.objs.size (.tup xs), I1.laid (t' := s1.toks) (fun b u e => Heap.get?_push_of_some _ e) (Nat.le_refl _) ?_, rfl, q _ hf⟩
  exact ⟨z, us, r, ⟨_, Heap.get?_push_size _ rfl, rfl, _, rfl⟩⟩
theorem pe_lst (h : PA X es t) : PE X (.List es pos) (tLst t) := by
  intro pins s σ H Q I hq
  refine wpAny_List_spliced (thn (h pos pins s σ H _ I hq) fun us s1 ⟨xs, H1, I1, r, z, q⟩ => ⟨by rw [← r.length]; exact z, ?_⟩)
  have hf : H1 s1.heap.objs.size = none := I1.hok.fresh (Nat.le_refl _)
  refine ⟨.ref s1.heap.objs.size, upd H1 s1.heap.objs.size (.lst xs), I1.laid (t' := s1.toks) (fun b u e => Heap.get?_push_of_some _ e) (Nat.le_refl _) ?_, rfl, q _ hf⟩
  exact ⟨z, us, 0, r, Heap.get?_push_size _ rfl⟩
end

/-- a def's promise: the bound arguments in the parameters' order, the heap, the wanted end, the wanted exception -/
abbrev Sp := List V → Hp → VK → XK → Prop
/-- how an exception lies behind a call (file 08 gives it): the callers' frames, abstract heap and state ahead of the call, the wish, the exception, the state -/
abbrev CXT := List Env → Hp → Shared → XK → Value → Shared → Prop

/-- the state at a call -/
structure Env0 (P : Program) (w : World) (K : PySem.W.Frag) (mg : Str → Option Value) (base : Heap) (A : Around) (outer : List Env) (s : Shared) (H : Hp) : Prop where
  frames : A.frames = some outer
  mod : Mod K mg base
  bs : ∀ b o, base.get? b = some o → s.heap.get? b = some o ∧ H b = none
  bsz : base.objs.size ≤ s.heap.objs.size
  funs : s.heap.FunFrames base outer
  frf : ∀ b ∈ frs outer, H b = none
  hok : HOk P w H s.heap
  bare : AllBare s.gens
/-- a call's end -/
def CE (outer : List Env) (P : Program) (w : World) (H : Hp) (s : Shared) (Q : VK) (u : Value) (s' : Shared) : Prop :=
  ∃ v H', s'.os = s.os ∧ AllBare s'.gens ∧ Un (frs outer) [] H H' s.heap s'.heap ∧ HOk P w H' s'.heap ∧ RelV v u ∧ Q v H'
def CR (CX : CXT) (outer : List Env) (P : Program) (w : World) (H : Hp) (s : Shared) (Q : VK) (E : XK) (r : Result) (s' : Shared) : Prop :=
  match r with
  | .ok (.ret u) => CE outer P w H s Q u s'
  | .ok _ => False
  | .error e => CX outer H s E e s'
structure FnOk (P : Program) (w : World) (K : PySem.W.Frag) (mg : Str → Option Value) (base : Heap) (CX : CXT) (k : Nat) (f : Addr) (fd : FuncData) (ps : List Str) (sp : Sp) : Prop where
  len : ∀ vs H Q E, sp vs H Q E → vs.length = ps.length
  run : ∀ (A : Around) (outer : List Env) (s : Shared) (H : Hp) (args : Args) (us : List Value) (vs : List V) (Q : VK) (E : XK), Room k A → Env0 P w K mg base A outer s H → BindsTo s fd args (ps.zip us) → Vals vs us → sp vs H Q E →
    codeAny (model P w) A (.call (.ref f) args) (CR CX outer P w H s Q E) s
section
variable {X : Cx} {pins : List (Addr × Obj)} {σ : St} {H : Hp} {s s' : Shared}
/-- from a body: what a callee wants -/
theorem Inv.env0 (I : Inv X pins σ H s) : Env0 X.prog X.w X.K X.mg X.base X.A X.stack s H :=
  ⟨I.ok.frames, I.ok.mod, I.bs, Nat.le_trans I.ok.bsz I.sz, I.stack, I.stkFree, I.hok, I.bare⟩
/-- behind a call -/
theorem Inv.after {Q : VK} {u : Value} (I : Inv X pins σ H s) (h : CE X.stack X.prog X.w H s Q u s') : EP X pins σ Q u s' := by
  obtain ⟨v, H', os, bare, un, hok, r, q⟩ := h
  obtain ⟨hh, g, d, t, os'⟩ := s'
  obtain rfl : os' = s.os := os
  exact ⟨v, H', I.call (h' := hh) (g' := g) (d' := d) (t' := t) (ch := []) un hok bare (fun b z => absurd z (by simp)), r, q⟩
end

/-- f(..): the written arguments, then the defaults dvs; E: what is wanted of an exception -/
def tCall (sp : Sp) (dvs : List V) (E : XK) (t : TA) : TE := fun σ H Q => t σ H fun vs H1 => sp (vs ++ dvs) H1 Q E
/-- C(..): a new instance and its dict, then __init__ -/
def tMake (C : Addr) (sp : Sp) (dvs : List V) (E : XK) (t : TA) : TE := fun σ H Q => t σ H fun vs H1 => ∀ x dx, H1 x = none → H1 dx = none → dx ≠ x →
  sp (.ref x :: (vs ++ dvs)) (upd (upd H1 dx (.own x)) x (.ins C dx [])) (fun v H2 => v = .non ∧ Q (.ref x) H2) E

/-- how the parameters are bound: us the positional arguments, kw the keywords' values by name, ds the defaults that fill up -/
def Binds (K : PySem.W.Frag) (fd : FuncData) (ps : List Str) (ds : List Value) : Prop :=
  ∀ (s : Shared) (us : List Value), K.In s.heap → (us ++ ds).length = ps.length → BindsTo s fd ⟨us, []⟩ (ps.zip (us ++ ds))
/-- every parameter is given -/
theorem Binds.all {K : PySem.W.Frag} {fd : FuncData} {ps : List Str} (h : ∀ us : List Value, us.length = ps.length → bindArgs fd ⟨us, []⟩ = pure (ps.zip us)) : Binds K fd ps [] := fun s us _ hl => by
  rw [List.append_nil] at hl ⊢
  exact .of_eq (h us hl)

/-- an exception of a callee reaches what this body wants of exceptions -/
def Passes (CX : CXT) (X : Cx) (E : XK) : Prop := ∀ (pins : List (Addr × Obj)) (σ : St) (H : Hp) (s : Shared) (e : Value) (s' : Shared), Inv X pins σ H s → CX X.stack H s E e s' → X.xe e s'

section
variable {X : Cx} {CX : CXT} {k : Nat} {f C : Addr} {fd : FuncData} {ps : List Str} {sp : Sp} {dvs : List V} {ds : List Value} {E : XK} {x m : Str} {p pos apos : Pos} {e o : Expr} {es : List Expr} {ta : TE} {t : TA}

/-- the callee runs -/
theorem run_fn {pins : List (Addr × Obj)} {σ : St} {H : Hp} {s : Shared} {Q : VK} {us : List Value} {vs : List V} (F : FnOk X.prog X.w X.K X.mg X.base CX k f fd ps sp) (hr : Room k X.A) (hb : Binds X.K fd ps ds) (hd : Vals dvs ds) (hx : Passes CX X E)
    (I : Inv X pins σ H s) (r : Vals vs us) (h : sp (vs ++ dvs) H Q E) : wpAny (model X.prog X.w) X.A (call (.ref f) us) (EP X pins σ Q) X.xe s := by
  have r2 : Vals (vs ++ dvs) (us ++ ds) := r.append hd
  have hl : (us ++ ds).length = ps.length := by rw [← r2.length]; exact F.len _ _ _ _ h
  refine wpAny_call (codeAny_mono (F.run X.A X.stack s H ⟨us, []⟩ (us ++ ds) (vs ++ dvs) Q E hr I.env0 (hb s us I.kIn hl) r2 h) fun r s' hq => ?_)
  cases r with
  | error e => exact hx pins σ H s e s' I hq
  | ok fl =>
    cases fl with
    | ret u => exact I.after hq
    | next => exact False.elim hq
    | brk => exact False.elim hq
    | cont => exact False.elim hq

theorem pe_call (F : FnOk X.prog X.w X.K X.mg X.base CX k f fd ps sp) (hr : Room k X.A) (hg : Gl X x) (hm : X.mg x = some (.ref f)) (hk : PySem.W.keepIn X.K (.ref f) = true) (hb : Binds X.K fd ps ds) (hd : Vals dvs ds) (hx : Passes CX X E)
    (ha : PA X (e :: es) t) (hdb : (x == ("__debug__" : Str)) = false := by decide) (he : starEach (e :: es) X.env = (false, eval e X.env) :: starEach es X.env := by rfl) (hpl : (backTo pos (starEach es X.env)).any (·.1) = false := by rfl) :
    PE X (.Call (.Name x p) (e :: es) [] pos) (tCall sp dvs E t) := by
  intro pins s σ H Q I h
  refine wpAny_Call_Name_kw (ld_glob I hg hm ?_ hdb)
  refine PySem.W.callWith_K (h₀ := X.base) I.ok.mod.kin hk (thn (ha pos pins s σ H _ I h) fun us s1 ⟨vs, H1, I1, r, q⟩ => ⟨I1.kIn, ?_⟩) he hpl
  exact run_fn F hr hb hd hx I1 r q
theorem pe_call0 (F : FnOk X.prog X.w X.K X.mg X.base CX k f fd ps sp) (hr : Room k X.A) (hg : Gl X x) (hm : X.mg x = some (.ref f)) (hk : PySem.W.keepIn X.K (.ref f) = true) (hb : Binds X.K fd ps ds) (hd : Vals dvs ds) (hx : Passes CX X E)
    (hdb : (x == ("__debug__" : Str)) = false := by decide) : PE X (.Call (.Name x p) [] [] pos) (tCall sp dvs E tNil) := by
  intro pins s σ H Q I h
  refine wpAny_Call_Name_kw (ld_glob I hg hm ?_ hdb)
  exact PySem.W.callWith_K0 I.kIn hk (run_fn (us := []) F hr hb hd hx I .nil h)

/-- what a class must have to be made -/
structure Mk (K : PySem.W.Frag) (C f : Addr) : Prop where
  makes : PySem.W.makesIn K C = true
  init : PySem.W.findIn K (.ref C) "__init__" = some (some (.ref f))
  fn : PySem.W.isFn K (.ref f) = true
  kp : PySem.W.keepIn K (.ref C) = true

end

section
variable {X : Cx} {CX : CXT} {k : Nat} {f C : Addr} {fd : FuncData} {ps ks : List Str} {sp : Sp} {E : XK} {x m : Str} {p pos apos kpos : Pos} {e o : Expr} {es : List Expr} {kws : List Keyword} {te ta : TE} {t tk : TA} {nm : Option Str}
/-- how a call with keywords binds: g puts the positional values us and the keywords' values ws (names ks) in the parameters' order, defaults among them -/
structure KBinds (K : PySem.W.Frag) (fd : FuncData) (ps ks : List Str) (g : List Value → List Value → List Value) (gV : List V → List V → List V) : Prop where
  to : ∀ (s : Shared) (us ws : List Value), K.In s.heap → (g us ws).length = ps.length → BindsTo s fd ⟨us, ks.zip ws⟩ (ps.zip (g us ws))
  rel : ∀ {vs : List V} {us : List Value} {zs : List V} {ws : List Value}, Vals vs us → Vals zs ws → Vals (gV vs zs) (g us ws)
variable {g : List Value → List Value → List Value} {gV : List V → List V → List V}
end

/-- names: the parameters first -/
structure FnScope (N P : List Str) (sc : Scope) : Prop where
  kind : sc.kind = .function
  co : sc.isCoroutine = false
  gen : sc.isGenerator = false
  nd : N.Nodup
  pre : N.take P.length = P
  par : ∀ x ∈ P, sc.names.lookup x = some .local ∨ sc.names.lookup x = some .cell
  nofree : ∀ y ∈ sc.names, y.2 ≠ .free

theorem bindL_out {kindOf : Str → Option NameKind} {x : Str} : ∀ {binds : List (Str × Value)} {m : Str → Option Value}, (∀ v, (x, v) ∉ binds) → bindL kindOf binds m x = m x
  | [], _, _ => rfl
  | (n, v) :: r, m, h => by
    unfold bindL
    rw [bindL_out fun w hw => h w (List.mem_cons_of_mem _ hw)]
    split
    · have : x ≠ n := by rintro rfl; exact h v List.mem_cons_self
      simp [this]
    · rfl
theorem bindC_out {kindOf : Str → Option NameKind} {x : Str} : ∀ {binds : List (Str × Value)} {m : Str → Option Value}, (∀ v, (x, v) ∉ binds) → bindC kindOf binds m x = m x
  | [], _, _ => rfl
  | (n, v) :: r, m, h => by
    unfold bindC
    rw [bindC_out fun w hw => h w (List.mem_cons_of_mem _ hw)]
    split
    · rfl
    · have : x ≠ n := by rintro rfl; exact h v List.mem_cons_self
      simp [this]
theorem bindL_get {kindOf : Str → Option NameKind} {x : Str} {v : Value} : ∀ {P : List Str} {vs : List Value} {i : Nat} {m : Str → Option Value}, P.Nodup → P[i]? = some x → vs[i]? = some v → kindOf x = some .local →
    bindL kindOf (P.zip vs) m x = some v
  | [], _, _, _, _, h, _, _ => by simp at h
  | _ :: _, [], _, _, _, _, h, _ => by simp at h
  | p :: P, w :: vs, 0, m, nd, h1, h2, hk => by
    simp at h1 h2; subst h1; subst h2
    show bindL kindOf ((p, w) :: P.zip vs) m p = _
    unfold bindL
    rw [bindL_out fun v hv => (List.nodup_cons.mp nd).1 (List.of_mem_zip hv).1, if_pos hk]
    simp
  | p :: P, w :: vs, i + 1, m, nd, h1, h2, hk => by
    show bindL kindOf ((p, w) :: P.zip vs) m x = _
    unfold bindL
    exact bindL_get (i := i) (List.nodup_cons.mp nd).2 (by simpa using h1) (by simpa using h2) hk
theorem bindC_get {kindOf : Str → Option NameKind} {x : Str} {v : Value} : ∀ {P : List Str} {vs : List Value} {i : Nat} {m : Str → Option Value}, P.Nodup → P[i]? = some x → vs[i]? = some v → kindOf x ≠ some .local →
    bindC kindOf (P.zip vs) m x = some v
  | [], _, _, _, _, h, _, _ => by simp at h
  | _ :: _, [], _, _, _, _, h, _ => by simp at h
  | p :: P, w :: vs, 0, m, nd, h1, h2, hk => by
    simp at h1 h2; subst h1; subst h2
    show bindC kindOf ((p, w) :: P.zip vs) m p = _
    unfold bindC
    rw [bindC_out fun v hv => (List.nodup_cons.mp nd).1 (List.of_mem_zip hv).1, if_neg hk]
    simp
  | p :: P, w :: vs, i + 1, m, nd, h1, h2, hk => by
    show bindC kindOf ((p, w) :: P.zip vs) m x = _
    unfold bindC
    exact bindC_get (i := i) (List.nodup_cons.mp nd).2 (by simpa using h1) (by simpa using h2) hk

/-- the names' values at the entry -/
def start (N : List Str) (vs : List V) : St := vs.map some ++ List.replicate (N.length - vs.length) none

/-- the context of a def's body, at its entry; an exception leaves the frame, then lies as CX says -/
def cxOf (CX : CXT) (P : Program) (w : World) (K : PySem.W.Frag) (mg : Str → Option Value) (base : Heap) (N : List Str) (qual : Str) (scope : Scope) (f : Addr) (cd : Value) (A : Around) (outer : List Env) (s : Shared) (H : Hp) (E : XK) : Cx where
  prog := P
  w := w
  K := K
  mg := mg
  base := base
  A := A.deeper (envOfC qual scope s.heap.objs.size f cd)
  N := N
  s₀ := s
  H₀ := H
  env := envOfC qual scope s.heap.objs.size f cd
  outer := outer
  stack := envOfC qual scope s.heap.objs.size f cd :: outer
  ex := []
  calm := true
  fn := fun _ => true
  pn := []
  xe := fun e s' => wpAny (model P w) (A.deeper (envOfC qual scope s.heap.objs.size f cd)) (leaving (envOfC qual scope s.heap.objs.size f cd) e) (fun _ s'' => CX outer H s E e s'') (fun e' s'' => CX outer H s E e' s'') s'

theorem cell_has {sc : Scope} {n : Nat} {x : Str} (h : sc.names.lookup x = some .cell) : ∃ c, (cellsFrom n sc.names []).lookup x = some c := by
  have q := PySem.W.cellsFrom_some sc.names n [] (.inl h)
  exact Option.isSome_iff_exists.mp q

theorem inv_start {CX : CXT} {P : Program} {w : World} {K : PySem.W.Frag} {mg : Str → Option Value} {base : Heap} {N ps : List Str} {qual : Str} {scope : Scope} {f : Addr} {cd : Value} {A : Around} {outer : List Env} {s s1 : Shared} {H : Hp} {E : XK} {us : List Value} {vs : List V}
    (S : FnScope N ps scope) (hd : A.handled = none) (e0 : Env0 P w K mg base A outer s H) (hl : vs.length = ps.length) (r : Vals vs us)
    (x : InCallC s s.heap.objs.size (bindL (envOfC qual scope s.heap.objs.size f cd).kindOf (ps.zip us) fun _ => none) (cellsFrom (s.heap.objs.size + 1) scope.names []) (bindC (envOfC qual scope s.heap.objs.size f cd).kindOf (ps.zip us) fun _ => none) s1) :
    Inv (cxOf CX P w K mg base N qual scope f cd A outer s H E) [] (start N vs) H s1 := by
  have hpl : ps.length ≤ N.length := by have := congrArg List.length S.pre; rw [List.length_take] at this; omega
  obtain ⟨h1, tk, rfl, hk⟩ := x.done
  have noA : ∀ b : Addr, b ∉ (cxOf CX P w K mg base N qual scope f cd A outer s H E).ex := fun b z => absurd (show b ∈ ([] : List Addr) from z) (by simp)
  refine ⟨⟨e0.mod, S.kind, rfl, rfl, Nat.le_refl _, fun y z c h1 h2 => ?_, fun y hy => ?_, fun y c _ h => ?_, fun _ => hd, Around.frames_deeper e0.frames, .inr ⟨rfl, rfl⟩, fun b z => absurd z (noA b), e0.bs, e0.bsz, fun b _ _ => noA b, fun b z => absurd z (noA b), e0.funs, e0.frf⟩,
    rfl, e0.bare, Un.kept hk, ⟨_, x.toInCall.ns, fun i y v h1 h2 h3 => ?_⟩, fun y c h => ⟨_, x.cell y c h⟩, e0.hok.fresh (Nat.le_refl _), fun y c h => ?_, fun p hp => absurd (show p ∈ ([] : List (Addr × Obj)) from hp) (by simp), e0.hok.kept hk, ?_⟩
  · exact name_of_addr x.apart (PySem.mem_of_lookup h1) (PySem.mem_of_lookup h2)
  · have hy : scope.names.lookup y = some .cell ∨ scope.names.lookup y = some .free := hy
    rcases hy with hy | hy
    · exact cell_has hy
    · exact absurd rfl (S.nofree _ (PySem.mem_of_lookup hy))
  · exact Nat.le_of_lt (x.above y c (PySem.mem_of_lookup h))
  · have hi : i < vs.length := by
      unfold start at h2
      by_cases hi : i < vs.length
      · exact hi
      · rw [List.getElem?_append_right (by simpa using hi)] at h2
        rw [List.getElem?_replicate] at h2
        split at h2 <;> cases h2
    have ha : vs[i]? = some v := by
      unfold start at h2
      rw [List.getElem?_append_left (by simpa using hi), List.getElem?_map] at h2
      cases e : vs[i]? with
      | none => rw [e] at h2; cases h2
      | some a => rw [e] at h2; cases h2; rfl
    obtain ⟨u, hu, rv⟩ := r.get ha
    have hp : ps[i]? = some y := by
      rw [← S.pre, List.getElem?_take_of_lt (by omega)]; exact h1
    have ndP : ps.Nodup := by rw [← S.pre]; exact S.nd.sublist (List.take_sublist _ _)
    refine ⟨u, rv, ?_⟩
    rcases S.par y (List.mem_of_getElem? hp) with k | k
    · exact .inl ⟨k, bindL_get ndP hp hu k⟩
    · obtain ⟨c, e⟩ := cell_has (n := s.heap.objs.size + 1) k
      refine .inr ⟨.inl k, c, e, ?_⟩
      have q := x.cell y c e
      rw [bindC_get ndP hp hu (by show scope.names.lookup y ≠ _; rw [k]; decide)] at q
      exact q
  · exact e0.hok.fresh (Nat.le_of_lt (x.above y c (PySem.mem_of_lookup h)))
  · unfold start
    show _ = N.length
    rw [List.length_append, List.length_map, List.length_replicate]
    omega

/-- THE RULE: a def (or a method) of the text, by its body. The body's reading t is chosen for each entry; it is run at the parameters' values -/
theorem fn_of {CX : CXT} {P : Program} {w : World} {K : PySem.W.Frag} {mg : Str → Option Value} {base : Heap} {k : Nat} {f : Addr} {name qual : Str} {params : Arguments} {body : List Stmt} {scope : Scope} {dV kV doc pm cdv ct oc : Value} {an od : Option Addr}
    {osl : Array (Option Value)} {N ps : List Str} {sp : Sp} (lk : K.lookup f = some ⟨oc, od, .func (PySem.W.fnOf name qual params body scope dV kV doc pm an cdv ct), osl⟩) (hcd : PySem.W.codeIn K cdv qual = true) (S : FnScope N ps scope)
    (len : ∀ vs H Q E, sp vs H Q E → vs.length = ps.length)
    (hbody : ∀ (A : Around) (outer : List Env) (s : Shared) (H : Hp) (vs : List V) (Q : VK) (E : XK), Room k (A.deeper (envOfC qual scope s.heap.objs.size f cdv)) → sp vs H Q E →
      ∃ t, PSs (cxOf CX P w K mg base N qual scope f cdv A outer s H E) body t ∧ t { nx := fun _ H' => Q .non H', rt := Q } (start N vs) H) :
    FnOk P w K mg base CX (k + 1) f (PySem.W.fnOf name qual params body scope dV kV doc pm an cdv ct) ps sp := by
  refine ⟨len, fun A outer s H args us vs Q E hr e0 hb r hsp => ?_⟩
  have hl := len _ _ _ _ hsp
  have KX : K.In s.heap := e0.mod.kin.keeps fun b o e => (e0.bs b o e).1
  have lim : s.heap.NoLimit := e0.mod.nolimit.keeps fun b o e => (e0.bs b o e).1
  have hkind : ∀ y ∈ ps.zip us, scope.names.lookup y.1 = some .local ∨ (scope.names.lookup y.1 = some .cell ∧ ((cellsFrom (s.heap.objs.size + 1) scope.names []).lookup y.1).isSome = true) := fun ⟨n, v⟩ hy => by
    rcases S.par n (List.of_mem_zip hy).1 with q | q
    · exact .inl q
    · exact .inr ⟨q, PySem.W.cellsFrom_some _ _ _ (.inl q)⟩
  refine codeAny_call_function hr.depth (KX _ _ lk) rfl S.co S.gen rfl (PySem.W.codeRec_of KX hcd) (hb _ _ _ _ ?_)
  refine wpAny_newFunctionEnv_cells S.kind hkind fun env he s1 x => ?_
  subst he
  refine ⟨lim.keeps x.toInCall.keep, codeAny_func ?_⟩
  obtain ⟨t, ht, hq⟩ := hbody A outer s H vs Q E (hr.deeper _) hsp
  have I : Inv (cxOf CX P w K mg base N qual scope f cdv A outer s H E) [] (start N vs) H s1 := inv_start S hr.hd e0 hl r x
  refine wpAny_mono (ht [] s1 (start N vs) H _ I hq) (fun fl s' hs => ?_) fun e s' hs => hs
  have fin : ∀ {σ' : St} {H' : Hp} {v : V} {u : Value}, Inv (cxOf CX P w K mg base N qual scope f cdv A outer s H E) [] σ' H' s' → RelV v u → Q v H' → CE outer P w H s Q u s' :=
    fun {σ' H' v u} J rv q => ⟨v, H', J.os, J.bare, J.base, J.hok, rv, q⟩
  cases fl with
  | ret u =>
    obtain ⟨v, σ', H', J, rv, q⟩ := hs
    exact fin J rv q
  | next =>
    obtain ⟨σ', H', J, q⟩ := hs
    exact fin (v := V.non) (u := Value.none) J rfl q
  | brk =>
    obtain ⟨_, _, _, q⟩ := hs
    exact False.elim q
  | cont =>
    obtain ⟨_, _, _, q⟩ := hs
    exact False.elim q
end L2

namespace L2
open PySem PySem.Spec PyProof.Rows
section
variable {X : Cx} {x : Str} {p pos : Pos} {e : Expr} {es : List Expr} {t : TA} {id T : String} {r : List V → Hp → VK → Prop}

def tCB (r : List V → Hp → VK → Prop) (t : TA) : TE := fun σ H Q => t σ H fun vs H1 => r vs H1 Q
/-- f(e, ..), f a built-in function -/
theorem pe_callB (hc : CallR X (.builtin id) r) (hg : Gl X x) (hm : X.mg x = none) (hv : bootBuiltins x = some (.builtin id)) (ha : PA X (e :: es) t) (hn : x ≠ "__name__" := by decide) (hdb : (x == ("__debug__" : Str)) = false := by decide)
    (he : starEach (e :: es) X.env = (false, eval e X.env) :: starEach es X.env := by rfl) (hpl : (backTo pos (starEach es X.env)).any (·.1) = false := by rfl) : PE X (.Call (.Name x p) (e :: es) [] pos) (tCB r t) := by
  intro pins s σ H Q I h
  refine wpAny_Call_Name_kw (ld_blt I hg hm hv ?_ hn hdb)
  exact PyProof.Rows.callWith_builtin1 (thn (ha pos pins s σ H _ I h) fun us s1 ⟨vs, H1, I1, r1, q1⟩ => hc pins s1 σ H1 vs us Q I1 r1 q1) he hpl
/-- T(e, ..), T a built-in type -/
theorem pe_callTy (hc : CallR X (.type T) r) (hg : Gl X x) (hm : X.mg x = none) (hv : bootBuiltins x = some (.type T)) (ha : PA X (e :: es) t) (hn : x ≠ "__name__" := by decide) (hdb : (x == ("__debug__" : Str)) = false := by decide)
    (he : starEach (e :: es) X.env = (false, eval e X.env) :: starEach es X.env := by rfl) (hpl : (backTo pos (starEach es X.env)).any (·.1) = false := by rfl) : PE X (.Call (.Name x p) (e :: es) [] pos) (tCB r t) := by
  intro pins s σ H Q I h
  refine wpAny_Call_Name_kw (ld_blt I hg hm hv ?_ hn hdb)
  exact PyProof.Rows.callWith_type1 (thn (ha pos pins s σ H _ I h) fun us s1 ⟨vs, H1, I1, r1, q1⟩ => hc pins s1 σ H1 vs us Q I1 r1 q1) he hpl
end
end L2

namespace HT
open PySem PyProof.Rows

section
open PySem.SeqAt
open PySem.AutoSeq1 (wpAny_loadPart')
open PySem.MeetsSeq PySem.MeetsSeq2 PySem.MeetsSeq3

end

section
variable {prog : Program} {w : World} {A : Around} {E : Value → Shared → Prop} {s : Shared}

/-- a slice's bound as a place among n (d where it is left out) -/
def sIx (n d : Nat) : Option Int → Nat
  | none => d
  | some v => if v < 0 then (v + (n : Int)).toNat else min v.toNat n
theorem sIx_none (n d : Nat) : sIx n d none = d := rfl
theorem sIx_nat (n d k : Nat) : sIx n d (some (k : Int)) = min k n := by
  show (if (k : Int) < 0 then ((k : Int) + (n : Int)).toNat else min (k : Int).toNat n) = min k n
  rw [if_neg (by omega), Int.toNat_natCast]
theorem sIx_le (n d : Nat) (hd : d ≤ n) (o : Option Int) : sIx n d o ≤ n := by
  cases o with
  | none => exact hd
  | some v =>
    show (if v < 0 then (v + (n : Int)).toNat else min v.toNat n) ≤ n
    by_cases hv : v < 0
    · rw [if_pos hv]; omega
    · rw [if_neg hv]; exact Nat.min_le_right _ _
end
end HT

namespace L2
open PySem PySem.Spec PyProof.Rows

abbrev TO := St → Hp → (Option Int → Hp → Prop) → Prop
/-- a slice's part (left out, or an int) -/
def PO (X : Cx) (e : Option Expr) (t : TO) : Prop :=
  ∀ (pins : List (Addr × Obj)) (s : Shared) (σ : St) (H : Hp) (Q : Option Int → Hp → Prop), Inv X pins σ H s → t σ H Q →
    wpAny (model X.prog X.w) X.A (evalPart e X.env) (fun u s' => ∃ o H', Inv X pins σ H' s' ∧ IsPart u o ∧ Q o H') X.xe s
def tNoPart : TO := fun _ H Q => Q none H
def tPart (t : TE) : TO := fun σ H Q => t σ H fun x H1 => ∃ i, x = .int i ∧ Q (some i) H1

theorem intsAre_of {ns : List Int} : ∀ {us : List Value}, Vals (ns.map V.int) us → IntsAre us ns := by
  induction ns with
  | nil => intro us r; rw [List.map_nil] at r; cases r; exact .nil
  | cons n ns ih =>
    intro us r
    rw [List.map_cons] at r
    cases r with
    | cons r1 r2 =>
      obtain ⟨t, e⟩ := r1
      subst e
      exact .cons n t (ih r2)

section
variable {X : Cx} {e : Expr} {te : TE} {lo hi : Option Expr} {tl th : TO} {pos p2 : Pos}

theorem po_none : PO X none tNoPart := by
  intro pins s σ H Q I h
  rw [evalPart_none]
  exact wpAny_pure ⟨none, H, I, .none, h⟩
theorem po_some (h : PE X e te) : PO X (some e) (tPart te) := by
  intro pins s σ H Q I hw
  rw [evalPart_some]
  refine thn (h pins s σ H _ I hw) fun u s1 ⟨x, H1, I1, r1, q1⟩ => ?_
  obtain ⟨i, rfl, q⟩ := q1
  obtain ⟨t, rfl⟩ := r1
  exact ⟨some i, H1, I1, .int i t, q⟩

/-- what a slice of a value is, by values: the slice object stands at sl -/
def SlR (X : Cx) (r : V → Option Int → Option Int → Hp → VK → Prop) : Prop :=
  ∀ (pins : List (Addr × Obj)) (s : Shared) (σ : St) (H : Hp) (x : V) (v vl vu : Value) (lo hi : Option Int) (sl : Addr) (Q : VK), Inv X pins σ H s → RelV x v → s.heap.IsSliceOf sl vl vu .none → IsPart vl lo → IsPart vu hi → r x lo hi H Q →
    ∃ T id, typeLookup (.type T) "__getitem__" = pure (some (.builtin id)) ∧ s.TypeIs v T ∧ wpAny (model X.prog X.w) X.A (getItem v (.ref sl)) (EP X pins σ Q) X.xe s
def tSl (r : V → Option Int → Option Int → Hp → VK → Prop) (te : TE) (tl th : TO) : TE := fun σ H Q => te σ H fun x H1 => tl σ H1 fun l H2 => th σ H2 fun u H3 => r x l u H3 Q
/-- a[lo:hi], any a -/
theorem pe_slice {r : V → Option Int → Option Int → Hp → VK → Prop} (hr : SlR X r) (he : PE X e te) (hl : PO X lo tl) (hu : PO X hi th) : PE X (.Subscript e (.Slice lo hi none p2) pos) (tSl r te tl th) := by
  intro pins s σ H Q I h
  refine Subscript_ (thn (he pins s σ H _ I h) fun v s1 ⟨x, H1, I1, r1, q1⟩ => ?_)
  refine wpAny_Slice (thn (hl pins s1 σ H1 _ I1 q1) fun vl s2 ⟨l, H2, I2, pl, q2⟩ => thn (hu pins s2 σ H2 _ I2 q2) fun vu s3 ⟨u, H3, I3, pu, q3⟩ => ?_)
  rw [evalPart_none]
  refine wpAny_pure ?_
  have I4 : Inv X pins σ H3 { s3 with heap := s3.heap.push { cls := .type "slice", data := .fields #[vl, vu, .none] } } := I3.kept (t' := s3.toks) fun b ob q => Heap.get?_push_of_some _ q
  obtain ⟨T, id, hT, ht, hg⟩ := hr pins { s3 with heap := s3.heap.push { cls := .type "slice", data := .fields #[vl, vu, .none] } } σ H3 x v vl vu l u s3.heap.objs.size Q I4 r1 (Heap.IsSliceOf.new ..) pl pu q3
  show wpAny (model X.prog X.w) X.A (subscriptTail e (.Slice lo hi none p2) v (.ref s3.heap.objs.size)) (EP X pins σ Q) X.xe { s3 with heap := s3.heap.push { cls := .type "slice", data := .fields #[vl, vu, .none] } }
  exact tail_any (ops := [.ref s3.heap.objs.size, v]) ht hT hg (by with_unfolding_all rfl)

/-- the items of xs[lo:hi] -/
def cutV (xs : List V) (lo hi : Option Int) : List V := (xs.drop (HT.sIx xs.length 0 lo)).take (HT.sIx xs.length xs.length hi - HT.sIx xs.length 0 lo)
end
end L2

namespace L2
open PySem PySem.Spec PyProof.Rows

/-- the place that an index of any sign means -/
def ixN (n : Nat) (i : Int) : Option Nat := if 0 ≤ i then (if i < n then some i.toNat else none) else if -(n : Int) ≤ i then some (i + n).toNat else none
def atI {α : Type} (xs : List α) (i : Int) : Option α := (ixN xs.length i).bind fun j => xs[j]?
theorem ixN_seq {n : Nat} {i : Int} {j : Nat} (h : ixN n i = some j) : seqIndex? i n = some j ∧ j < n ∧ -(n : Int) ≤ i ∧ i < n := by
  unfold ixN at h
  by_cases h0 : 0 ≤ i
  · rw [if_pos h0] at h
    by_cases h1 : i < n
    · rw [if_pos h1] at h
      have e : i.toNat = j := Option.some.inj h
      exact ⟨by rw [seqIndex_of h0 h1, e], by omega, by omega, h1⟩
    · rw [if_neg h1] at h; cases h
  · rw [if_neg h0] at h
    by_cases h1 : -(n : Int) ≤ i
    · rw [if_pos h1] at h
      have e : (i + n).toNat = j := Option.some.inj h
      exact ⟨by rw [seqIndex_neg (by omega) h1, e], by omega, h1, by omega⟩
    · rw [if_neg h1] at h; cases h
theorem atI_get {α : Type} {xs : List α} {i : Int} {v : α} (h : atI xs i = some v) : ∃ j, seqIndex? i xs.length = some j ∧ xs[j]? = some v ∧ j < xs.length ∧ -(xs.length : Int) ≤ i ∧ i < xs.length := by
  unfold atI at h
  cases e : ixN xs.length i with
  | none => rw [e] at h; cases h
  | some j =>
    rw [e] at h
    obtain ⟨h1, h2, h3, h4⟩ := ixN_seq e
    exact ⟨j, h1, h, h2, h3, h4⟩
theorem atI_nat {α : Type} {xs : List α} {j : Nat} {v : α} (h : xs[j]? = some v) : atI xs (j : Int) = some v := by
  have hj : j < xs.length := (List.getElem?_eq_some_iff.mp h).1
  have e : ixN xs.length (j : Int) = some j := by
    unfold ixN
    rw [if_pos (by omega), if_pos (by omega)]; simp
  unfold atI; rw [e]; exact h
/-- what stands as an index of a plain subscript -/
def PlainIx (b : Expr) : Prop := ∀ o i, subscripted b false o i = operate [o, i] (getItem o i)
/-- a subscript by values -/
def IxR (X : Cx) (r : R2) : Prop :=
  ∀ (value slice : Expr) (pins : List (Addr × Obj)) (s : Shared) (σ : St) (H : Hp) (x y : V) (v u : Value) (Q : VK), Inv X pins σ H s → RelV x v → RelV y u → r x y H Q →
    subscripted slice false v u = operate [v, u] (getItem v u) → wpAny (model X.prog X.w) X.A (subscriptTail value slice v u) (EP X pins σ Q) X.xe s
/-- a call of a builtin's method by values: the receiver, the arguments -/
def MtR (X : Cx) (id : String) (r : V → List V → Hp → VK → Prop) : Prop :=
  ∀ (pins : List (Addr × Obj)) (s : Shared) (σ : St) (H : Hp) (x : V) (xs : List V) (v : Value) (us : List Value) (Q : VK), Inv X pins σ H s → RelV x v → Vals xs us → r x xs H Q →
    wpAny (model X.prog X.w) X.A (call (.builtin id) (v :: us)) (EP X pins σ Q) X.xe s
section
variable {X : Cx} {a b : Expr} {ta tb : TE} {pos : Pos}
/-- a[b] -/
theorem pe_ix {r : R2} (hr : IxR X r) (ha : PE X a ta) (hb : PE X b tb) (hs : PlainIx b) : PE X (.Subscript a b pos) (tOp r ta tb) := by
  intro pins s σ H Q I h
  exact Subscript_ (binT ha hb I h fun v u s2 x y H2 I2 rx ry q => hr a b pins s2 σ H2 x y v u Q I2 rx ry q (hs _ _))

def rIxL (K : PySem.W.Frag) : R2 := fun x y H Q => ∃ p xs i v, x = .ref p ∧ y = .int i ∧ SqL K H p xs ∧ atI xs i = some v ∧ Q v H
def rIxT (K : PySem.W.Frag) : R2 := fun x y H Q => ∃ p xs i v, x = .ref p ∧ y = .int i ∧ SqT K H p xs ∧ atI xs i = some v ∧ Q v H
def rIxS : R2 := fun x y H Q => ∃ z i c, x = .str z ∧ y = .int i ∧ z.length ≤ sizeLine ∧ atI z.cps.toList i = some c ∧ Q (.str ⟨#[c]⟩) H
theorem ix_list : IxR X (rIxL X.K) := by
  intro value slice pins s σ H x y v u Q I rx ry h hs
  obtain ⟨p, xs, i, z, rfl, rfl, hq, he, q⟩ := h
  cases rx
  obtain ⟨t, rfl⟩ := ry
  obtain ⟨its, r, pl, hz⟩ := I.list hq
  obtain ⟨j, h1, h2, h3, h4, h5⟩ := atI_get he
  obtain ⟨w, ew, rw'⟩ := r.get h2
  have hl := r.length
  have hn := line63
  have fin : EP X pins σ Q w s := ⟨z, H, I, rw', q⟩
  by_cases h0 : 0 ≤ i
  · have hj : i.toNat = j := by
      rw [seqIndex_of h0 h5] at h1
      exact Option.some.inj h1
    exact item_listR pl.isList h0 (by omega) (by rw [hj]; simpa using ew) fin hs
  · have hj : (i + (its.toArray.size : Int)).toNat = j := by
      rw [seqIndex_neg (by omega) h4] at h1
      rw [List.size_toArray, ← hl]
      exact Option.some.inj h1
    exact subscriptTail_builtinR (x := w) pl.isList.typeIs slot_list_getitem.lookup
      (wpAny_getItem_list_neg (Q := fun r s' => r = w ∧ EP X pins σ Q r s') pl.isList (by omega) (by rw [List.size_toArray] <;> omega) (by omega) (by rw [hj]; simpa using ew) ⟨rfl, fin⟩) hs
theorem ix_str : IxR X rIxS := by
  intro value slice pins s σ H x y v u Q I rx ry h hs
  obtain ⟨z, i, c, rfl, rfl, hz, he, q⟩ := h
  obtain ⟨t, rfl⟩ := rx
  obtain ⟨t', rfl⟩ := ry
  obtain ⟨j, h1, h2, h3, h4, h5⟩ := atI_get he
  have hl : z.cps.toList.length = z.length := by simp [Str.length]
  rw [hl] at h1 h4 h5
  have hn := line63
  exact tail_any (typeIs_str s z t) slot_str_getitem.lookup (getItem_str (c := c) (by
    have e1 : decide (i < -(2 ^ 63 : Int)) = false := decide_eq_false (by omega)
    have e2 : decide (i ≥ 2 ^ 63) = false := decide_eq_false (by omega)
    rw [e1, e2, Bool.or_false]) (by rw [h1]; simpa using h2) ⟨.str ⟨#[c]⟩, H, I.tok _, ⟨_, rfl⟩, q⟩) hs
def rSetL : V → V → V → Hp → (Hp → Prop) → Prop := fun o i v H Q => ∃ p xs k j, o = .ref p ∧ i = .int k ∧ H p = some (.lst xs) ∧ ixN xs.length k = some j ∧ Q (upd H p (.lst (xs.set j v)))
/-- xs[lo:hi] of a list: a new list -/
def rSlL (K : PySem.W.Frag) : V → Option Int → Option Int → Hp → VK → Prop := fun x lo hi H Q => ∃ a xs, x = .ref a ∧ SqL K H a xs ∧ ∀ p, H p = none → Q (.ref p) (upd H p (.lst (cutV xs lo hi)))
def flatV : V → Bool
  | .non => true
  | .bl _ => true
  | .int _ => true
  | .str _ => true
  | _ => false
/-- == of flat values -/
def eqV : V → V → Bool
  | .non, .non => true
  | .bl a, .bl b => a == b
  | .bl a, .int b => (if a then 1 else 0) == b
  | .int a, .bl b => a == (if b then 1 else 0)
  | .int a, .int b => a == b
  | .str a, .str b => a == b
  | _, _ => false
def inV (x : V) (xs : List V) : Bool := xs.any fun y => eqV y x
/-- x in a list or tuple of flat items -/
def rIn (K : PySem.W.Frag) (neg : Bool) : R2 := fun x y H Q => ∃ p xs, y = .ref p ∧ (SqL K H p xs ∨ SqT K H p xs) ∧ flatV x = true ∧ xs.all flatV = true ∧ Q (.bl (if neg then !inV x xs else inV x xs)) H
theorem call_len_seq : CallR X (.builtin "len") (fun xs H Q => ∃ p ys, xs = [.ref p] ∧ (SqL X.K H p ys ∨ SqT X.K H p ys) ∧ Q (.int ys.length) H) := by
  intro pins s σ H xs us Q I r h
  obtain ⟨p, ys, rfl, hq, q⟩ := h
  obtain ⟨u, rfl, rx⟩ := vals1 r
  cases rx
  have hn := line63
  rcases hq with hq | hq
  · obtain ⟨its, r', pl, hz⟩ := I.list hq
    have hlen := r'.length
    exact Calls.call_len_list pl.isList (by simp only [List.size_toArray] <;> omega) ⟨.int ys.length, H, I.tok _, ⟨s.toks + 1, by rw [List.size_toArray, hlen]⟩, q⟩
  · obtain ⟨its, r', pl, hz⟩ := I.tuple hq
    have hlen := r'.length
    exact len_tuple pl (by simp only [List.size_toArray] <;> omega) ⟨.int ys.length, H, I.tok _, ⟨s.toks + 1, by rw [List.size_toArray, hlen]⟩, q⟩
theorem call_list_of : CallR X (.type "list") (fun xs H Q => ∃ p ys, xs = [.ref p] ∧ (SqL X.K H p ys ∨ SqT X.K H p ys) ∧ ∀ l, H l = none → Q (.ref l) (upd H l (.lst ys))) := by
  intro pins s σ H xs us Q I r h
  obtain ⟨p, ys, rfl, hq, q⟩ := h
  obtain ⟨u, rfl, rx⟩ := vals1 r
  cases rx
  have fin : ∀ (its : List Value), Vals ys its → ys.length ≤ sizeLine → ∀ (h' : Heap) (c' : Nat), (∀ b o', s.heap.get? b = some o' → h'.get? b = some o') →
      h'.get? s.heap.objs.size = some { cls := .type "list", dict := none, data := .seq its.toArray c', slots := #[] } → EP X pins σ Q (.ref s.heap.objs.size) { s with heap := h' } := fun its r' hz h' c' kp e =>
    ⟨.ref s.heap.objs.size, _, I.laid (t' := s.toks) kp (Nat.le_refl _) (show ObjOk X.prog X.w _ h' _ (.lst ys) from ⟨hz, its, c', r', e⟩), rfl, q _ (I.hok.fresh (Nat.le_refl _))⟩
  rcases hq with hq | hq
  · obtain ⟨its, r', pl, hz⟩ := I.list hq
    have hlen := r'.length
    obtain ⟨o, ho, hc, n, hd⟩ := pl.isList
    exact call_list_seq p (.inl rfl) ho hc hd (fun h' c' kp e => fin its r' hz h' c' kp e) (by simp only [List.size_toArray] <;> omega)
  · obtain ⟨its, r', pl, hz⟩ := I.tuple hq
    have hlen := r'.length
    obtain ⟨o, ho, hc, n, hd⟩ := pl
    exact call_list_seq p (.inr rfl) ho hc hd (fun h' c' kp e => fin its r' hz h' c' kp e) (by simp only [List.size_toArray] <;> omega)
/-- the value is of that builtin type -/
def tyV (K : PySem.W.Frag) (T : String) (x : V) (H : Hp) : Prop := match x with
  | .str _ => T = "str"
  | .int _ => T = "int"
  | .ref p => (T = "list" ∧ ∃ xs, SqL K H p xs) ∨ (T = "tuple" ∧ ∃ o, K.lookup p = some o ∧ o.cls = .type "tuple" ∧ o.dict = none) ∨
      (T = "dict" ∧ ((∃ kvs, H p = some (.dK kvs)) ∨ ∃ kvs, H p = some (.dT kvs))) ∨ (T = "set" ∧ ∃ S n, H p = some (.set S n))
  | _ => False
theorem tyV_is {pins : List (Addr × Obj)} {σ : St} {H : Hp} {s : Shared} {T : String} {x : V} {v : Value} (I : Inv X pins σ H s) (r : RelV x v) (ty : tyV X.K T x H) :
    s.TypeIs v T ∧ ∀ a, v = .ref a → ∃ ob, s.heap.get? a = some ob ∧ ob.dict = none := by
  cases x with
  | str z =>
    obtain ⟨t, rfl⟩ := r
    cases (show T = "str" from ty)
    exact ⟨typeIs_str s z t, fun _ e => nomatch e⟩
  | int i =>
    obtain ⟨t, rfl⟩ := r
    cases (show T = "int" from ty)
    exact ⟨typeIs_int s i t, fun _ e => nomatch e⟩
  | ref p =>
    cases r
    rcases ty with ⟨rfl, xs, hq⟩ | ⟨rfl, o, hk, hc, hd⟩ | ⟨rfl, hk⟩ | ⟨rfl, S, n, hk⟩
    · obtain ⟨its, _, pl, _⟩ := I.list hq
      refine ⟨pl.isList.typeIs, fun a e => ?_⟩
      cases e
      obtain ⟨o, n, e, c, hd, _⟩ := pl
      exact ⟨o, e, hd⟩
    · refine ⟨⟨o, I.kIn p o hk, hc⟩, fun a e => ?_⟩
      cases e
      exact ⟨o, I.kIn _ o hk, hd⟩
    · have z : ∃ o, s.heap.get? p = some o ∧ o.ExactDict := by
        rcases hk with ⟨kvs, hk⟩ | ⟨kvs, hk⟩
        · obtain ⟨_, _, _, _, o, _, _, e, ex, _⟩ := I.hok p _ hk
          exact ⟨o, e, ex⟩
        · obtain ⟨_, _, _, _, o, _, _, e, ex, _⟩ := I.hok p _ hk
          exact ⟨o, e, ex⟩
      obtain ⟨o, e, ex⟩ := z
      refine ⟨⟨o, e, ex.1⟩, fun a e2 => ?_⟩
      cases e2
      exact ⟨o, e, ex.2.1⟩
    · obtain ⟨o, _, _, _, e, ex, _⟩ := I.hok p _ hk
      refine ⟨⟨o, e, ex.1⟩, fun a e2 => ?_⟩
      cases e2
      exact ⟨o, e, ex.2.1⟩
  | _ => exact False.elim ty
def tBM0 (K : PySem.W.Frag) (T : String) (r : V → List V → Hp → VK → Prop) (to : TE) : TE := fun σ H Q => to σ H fun x H1 => tyV K T x H1 ∧ r x [] H1 Q
def tBM (K : PySem.W.Frag) (T : String) (r : V → List V → Hp → VK → Prop) (to : TE) (t : TA) : TE := fun σ H Q => to σ H fun x H1 => tyV K T x H1 ∧ t σ H1 fun xs H2 => r x xs H2 Q
variable {o e : Expr} {es : List Expr} {to : TE} {t : TA} {name : Str} {apos cpos : Pos} {T id : String} {r : V → List V → Hp → VK → Prop}
theorem pe_bm (pa : PlainAttrs T) (slot : Slot T name id) (hty : typeOf (.builtin id) = pure (.type "method_descriptor")) (hm : MtR X id r) (ho : PE X o to) (ha : PA X (e :: es) t)
    (hbase : attributeBase o name X.env (eval o X.env) = eval o X.env := by rfl)
    (hfew : ((backTo cpos (starEach (e :: es) X.env)).all (fun x => !x.1) && (backToKw cpos (keywordEach [] X.env)).all (fun x => x.1.isSome)
      && decide ((e :: es).length + ([] : List Keyword).length + (if ([] : List Keyword).isEmpty then 0 else 1) < 30)) = true := by rfl)
    (hline : (apos.endLine == cpos.line) = true := by rfl) (hs : starEach (e :: es) X.env = (false, eval e X.env) :: starEach es X.env := by rfl) (hplain : (backTo cpos (starEach es X.env)).any (·.1) = false := by rfl) :
    PE X (.Call (.Attribute o name apos) (e :: es) [] cpos) (tBM X.K T r to t) := by
  intro pins s σ H Q I h
  refine wpAny_Call_method_late hbase hfew hline rfl (thn (ho pins s σ H _ I h) fun v s1 ⟨x, H1, I1, r1, ty, q1⟩ => ?_)
  obtain ⟨h1, h2⟩ := tyV_is I1 r1 ty
  refine ⟨T, id, pa, slot, hty, h1, h2, ?_⟩
  have hA := ha cpos pins s1 σ H1 _ I1 q1
  rw [hs] at hA ⊢
  refine Calls.callWith_builtin (by show (false || (backTo cpos (starEach es X.env)).any (·.1)) = false; rw [hplain] <;> rfl) (Calls.evalArgs_plain ?_)
  exact thn hA fun us s2 ⟨vs, H2, I2, r2, q2⟩ => hm pins s2 σ H2 x vs v us Q I2 r1 r2 q2
/- xs.append(e), list.index on a module's tuple .. are MtR facts of 06m -/
end
end L2

namespace L2
open PySem PySem.Spec PyProof.Rows

def MtM (X : Cx) (id : String) (r : V → List V → Hp → VK → Prop) : Prop :=
  ∀ (pins : List (Addr × Obj)) (s : Shared) (σ : St) (H : Hp) (x : V) (xs : List V) (v : Value) (us : List Value) (Q : VK), Inv X pins σ H s → RelV x v → Vals xs us → r x xs H Q →
    wpAny (model X.prog X.w) X.A (call (.builtin id) (v :: us)) (EP X pins σ Q) X.xe s

theorem Vals.one : ∀ {x : V} {us : List Value}, Vals [x] us → ∃ u, us = [u] ∧ RelV x u
  | _, _, .cons r .nil => ⟨_, rfl, r⟩
section
variable {X : Cx} {pins : List (Addr × Obj)} {σ : St} {H : Hp} {s : Shared} {l b : Addr} {xs ys zs : List V}

theorem Inv.lset {its its' : List Value} {n : Nat} {f : Array Value → Array Value} {t' : Nat} (I : Inv X pins σ H s) (hH : H l = some (.lst xs))
    (e : s.heap.get? l = some { cls := .type "list", data := .seq its.toArray n }) (hf : f its.toArray = its'.toArray) (hv : Vals ys its') (hz : ys.length ≤ sizeLine) :
    Inv X pins σ (upd H l (.lst ys)) { s with heap := s.heap.update l (Obj.mapSeq f), toks := t' } := by
  have q := PySem.IsL.update e f
  rw [hf] at q
  refine I.write (x := l) (e := l) (by rw [hH]; exact trivial) (.inl rfl) (fun b' u hb hu => (Heap.get?_update_other s.heap (Obj.mapSeq f) (Ne.symm hb)).trans hu) ⟨_, q⟩ ?_
  exact ⟨hz, its', _, hv, q⟩
theorem Inv.lnew {its : List Value} {t' : Nat} (I : Inv X pins σ H s) (hv : Vals ys its) (hz : ys.length ≤ sizeLine) :
    Inv X pins σ (upd H s.heap.objs.size (.lst ys)) { s with heap := s.heap.push { cls := .type "list", data := .seq its.toArray }, toks := t' } :=
  I.laid (fun _ _ q => Heap.get?_push_of_some _ q) (Nat.le_refl _) ⟨hz, its, 0, hv, Heap.get?_push_size _ rfl⟩
theorem Inv.fresh (I : Inv X pins σ H s) : H s.heap.objs.size = none := I.hok.fresh (Nat.le_refl _)
theorem Inv.lstM (I : Inv X pins σ H s) (hH : H l = some (.lst xs)) : xs.length ≤ sizeLine ∧ ∃ (its : List Value) (n : Nat), Vals xs its ∧ xs.length = its.length ∧ s.heap.get? l = some { cls := .type "list", data := .seq its.toArray n } := by
  obtain ⟨z, its, n, r, e⟩ := I.hok l _ hH
  exact ⟨z, its, n, r, r.length, e⟩

end

section
variable {X : Cx}

def rAppend : V → List V → Hp → VK → Prop := fun x vs H Q => ∃ l xs y, x = .ref l ∧ vs = [y] ∧ H l = some (.lst xs) ∧ xs.length < sizeLine ∧ Q .non (upd H l (.lst (xs ++ [y])))
theorem mt_append : MtM X "list.append" rAppend := by
  intro pins s σ H x vs v us Q I rx rv h
  obtain ⟨l, xs, y, rfl, rfl, hH, hz, q⟩ := h
  cases rx
  obtain ⟨u, rfl, ru⟩ := rv.one
  obtain ⟨z, its, n, r, hl, e⟩ := I.lstM hH
  refine call_meets F.slot_list_append ⟨_, e, rfl⟩ F.entry_list_append (F.args_list_append_2 _ _) (PySem.list_append l its.toArray n u (by rw [List.size_toArray]; omega)) ⟨e, ?_⟩
  refine ⟨.non, _, I.lset (its' := its ++ [u]) hH e (by simp) (r.append (.cons ru .nil)) ?_, rfl, q⟩
  rw [List.length_append, List.length_singleton]
  omega

def rExtend : V → List V → Hp → VK → Prop := fun x vs H Q => ∃ l b xs zs, x = .ref l ∧ vs = [.ref b] ∧ H l = some (.lst xs) ∧ H b = some (.lst zs) ∧ xs.length + zs.length ≤ sizeLine ∧ Q .non (upd H l (.lst (xs ++ zs)))
def rClear : V → List V → Hp → VK → Prop := fun x vs H Q => ∃ l xs, x = .ref l ∧ vs = [] ∧ H l = some (.lst xs) ∧ Q .non (upd H l (.lst []))
def rCat : R2 := fun x y H Q => ∃ l b xs zs, x = .ref l ∧ y = .ref b ∧ H l = some (.lst xs) ∧ H b = some (.lst zs) ∧ xs.length + zs.length ≤ sizeLine ∧ ∀ p, H p = none → Q (.ref p) (upd H p (.lst (xs ++ zs)))
theorem op_cat : OpR X (binaryOp .Add) rCat := by
  intro pins s σ H x y v u Q I rx ry h
  obtain ⟨l, b, xs, zs, rfl, rfl, hH, hB, hz, q⟩ := h
  cases rx
  cases ry
  obtain ⟨z, its, n, r, hl, e⟩ := I.lstM hH
  obtain ⟨z2, its2, n2, r2, hl2, e2⟩ := I.lstM hB
  refine PySem.P.add_list e e2 ?_ (by rw [List.size_toArray, List.size_toArray]; omega)
  have ea : its.toArray ++ its2.toArray = (its ++ its2).toArray := by simp
  rw [ea]
  exact ⟨.ref _, _, I.lnew (t' := s.toks) (r.append r2) (by rw [List.length_append]; omega), rfl, q _ I.fresh⟩
/-- a list times an int (a negative one is nothing) -/
def rRep : R2 := fun x y H Q => ∃ l k xs, x = .ref l ∧ y = .int k ∧ H l = some (.lst xs) ∧ -(2 ^ 63) ≤ k ∧ k < 2 ^ 63 ∧ xs.length * k.toNat ≤ sizeLine ∧
  ∀ p, H p = none → Q (.ref p) (upd H p (.lst (List.replicate k.toNat xs).flatten))
end

section
variable {prog : Program} {w : World} {A : Around} {E : Value → Shared → Prop} {s : Shared}
set_option maxRecDepth 100000 in
end

section
variable {X : Cx}
end
end L2

namespace L2
open PySem PySem.Spec PyProof.Rows

section
variable {κ : Type} [DecidableEq κ]
def valV (kvs : List (κ × V)) (k : κ) : Option V := (kvs.find? fun kv => decide (kv.1 = k)).map (·.2)
/-- in its place, or at the end -/
def putK (kvs : List (κ × V)) (k : κ) (v : V) : List (κ × V) :=
  if (kvs.any fun kv => decide (kv.1 = k)) = true then kvs.map (fun kv => if kv.1 = k then (kv.1, v) else kv) else kvs ++ [(k, v)]
def dropK (kvs : List (κ × V)) (k : κ) : List (κ × V) := kvs.filter fun kv => decide (kv.1 ≠ k)

end


/-- raw entries of a dict with tuple keys -/
abbrev KT (H : Hp) : List (List Key × V) → List (List Key × Addr × Value) → Prop := Paired fun p q => p.1 = q.1 ∧ H q.2.1 = some (.tup (p.1.map kV)) ∧ RelV p.2 q.2.2
section
variable {P : Program} {w : World} {H : Hp} {h : Heap} {a : Addr}
end

/-- what the dict at a holds at the key y -/
def DGet (H : Hp) (a : Addr) (y : V) (r : Option V) : Prop :=
  (∃ kvs k, Rd H a (.dK kvs) ∧ y = kV k ∧ r = valV kvs k) ∨ ∃ kvs k b, Rd H a (.dT kvs) ∧ y = .ref b ∧ H b = some (.tup (k.map kV)) ∧ r = valV kvs k
/-- the heap behind a[y] = v -/
def DPut (H : Hp) (a : Addr) (y v : V) (H' : Hp) : Prop :=
  (∃ kvs k, H a = some (.dK kvs) ∧ y = kV k ∧ kvs.length < sizeLine ∧ H' = upd H a (.dK (putK kvs k v))) ∨
  ∃ kvs k b, H a = some (.dT kvs) ∧ y = .ref b ∧ H b = some (.tup (k.map kV)) ∧ kvs.length < sizeLine ∧ H' = upd H a (.dT (putK kvs k v))
section
variable {X : Cx} {pins : List (Addr × Obj)} {σ : St} {H : Hp} {s : Shared} {a : Addr} {y v : V} {u r : Value} {o : Option V} {A : Around} {E : Value → Shared → Prop}

end

section
variable {X : Cx} {pins : List (Addr × Obj)} {σ : St} {H : Hp} {s : Shared} {a : Addr} {kvs : List (Key × V)} {k : Key} {u : Value} {A : Around} {E : Value → Shared → Prop}
end


/-- d[y] -/
def tDGet (td ty : TE) : TE := fun σ H Q => td σ H fun x H1 => ty σ H1 fun y H2 => ∃ a v, x = .ref a ∧ DGet H2 a y (some v) ∧ Q v H2
/-- y in d, y not in d -/
def tDIn (ty td : TE) : TE := fun σ H Q => ty σ H fun y H1 => td σ H1 fun x H2 => ∃ a o, x = .ref a ∧ DGet H2 a y o ∧ Q (.bl o.isSome) H2
def tDNotIn (ty td : TE) : TE := fun σ H Q => ty σ H fun y H1 => td σ H1 fun x H2 => ∃ a o, x = .ref a ∧ DGet H2 a y o ∧ Q (.bl (!o.isSome)) H2
/-- d[y] = v -/
def sDPut (td ty tv : TE) : TS := fun D σ H => tv σ H fun v H1 => td σ H1 fun x H2 => ty σ H2 fun y H3 => ∃ a H4, x = .ref a ∧ DPut H3 a y v H4 ∧ D.nx σ H4
section
variable {X : Cx} {o i e value : Expr} {pos pos' tpos : Pos} {td ty tv : TE}
end


/-- {}, to be a dict of the kind that is wanted -/
def tDNewK : TE := fun _ H Q => ∀ p, H p = none → Q (.ref p) (upd H p (.dK []))
section
variable {X : Cx} {pos : Pos}
end

/-- the pairs of a display, from the left -/
def tPairs : List (TE × TE) → St → Hp → (List (V × V) → Hp → Prop) → Prop
  | [], _, H, Q => Q [] H
  | (tk, tv) :: r, σ, H, Q => tk σ H fun x H1 => tv σ H1 fun y H2 => tPairs r σ H2 fun ps H3 => Q ((x, y) :: ps) H3
def mergeK (kvs more : List (Key × V)) : List (Key × V) := more.foldl (fun acc kv => putK acc kv.1 kv.2) kvs
/-- {k: v, ..} with keys ints and texts; the new dict stands empty while the pairs are made -/
def tDisp (trs : List (TE × TE)) : TE := fun σ H Q => ∀ p, H p = none → tPairs trs σ (upd H p (.dK [])) fun ps H2 => H2 p = some (.dK []) ∧ ∃ kvs : List (Key × V), ps = kvs.map (fun kv => (kV kv.1, kv.2)) ∧ kvs.length ≤ 15 ∧ Q (.ref p) (upd H2 p (.dK (mergeK [] kvs)))
/-- a method call o.m(e) of a built-in, with one argument: what must be seen of the text -/
structure M1 (X : Cx) (o : Expr) (m : Str) (apos : Pos) (e : Expr) (cpos : Pos) : Prop where
  base : attributeBase o m X.env (eval o X.env) = eval o X.env
  few : ((backTo cpos (starEach [e] X.env)).all (fun x => !x.1) && (backToKw cpos (keywordEach [] X.env)).all (fun x => x.1.isSome)
    && decide (([e] : List Expr).length + ([] : List Keyword).length + (if ([] : List Keyword).isEmpty then 0 else 1) < 30)) = true
  line : (apos.endLine == cpos.line) = true
  trees : backTo cpos (starEach [e] X.env) = [(false, eval e X.env)]
structure M2 (X : Cx) (o : Expr) (m : Str) (apos : Pos) (e f : Expr) (cpos : Pos) : Prop where
  base : attributeBase o m X.env (eval o X.env) = eval o X.env
  few : ((backTo cpos (starEach [e, f] X.env)).all (fun x => !x.1) && (backToKw cpos (keywordEach [] X.env)).all (fun x => x.1.isSome)
    && decide (([e, f] : List Expr).length + ([] : List Keyword).length + (if ([] : List Keyword).isEmpty then 0 else 1) < 30)) = true
  line : (apos.endLine == cpos.line) = true
  trees : backTo cpos (starEach [e, f] X.env) = [(false, eval e X.env), (false, eval f X.env)]

section
variable {X : Cx} {pins : List (Addr × Obj)} {σ : St} {H : Hp} {s : Shared} {a : Addr} {y d : V} {u r : Value} {o : Option V} {A : Around} {E : Value → Shared → Prop}
end

section
variable {X : Cx} {o e f : Expr} {apos cpos : Pos} {td ty tx : TE}
end

section
variable {X : Cx} {pins : List (Addr × Obj)} {σ : St} {H : Hp} {s : Shared} {a : Addr} {kvs : List (Key × V)} {A : Around} {E : Value → Shared → Prop}
end


section
variable {X : Cx} {pins : List (Addr × Obj)} {σ : St} {H : Hp} {s : Shared} {a : Addr} {y : V} {u : Value} {A : Around} {E : Value → Shared → Prop}
end
end L2

namespace Att
open PySem PySem.W PySem.Calls PyProof.Rows

theorem ints_of_wellAll {P : Params} {h : Heap} : ∀ (ns : List Int) (vs : List Value), WellAll P h vs (ns.map WData.int) → IntsAre vs ns := by
  intro ns
  induction ns with
  | nil =>
    intro vs w
    rw [List.map_nil] at w
    cases w
    exact .nil
  | cons n ns ih =>
    intro vs w
    rw [List.map_cons] at w
    cases w with
    | cons a b =>
      cases a
      exact .cons _ _ (ih _ b)

theorem script_of {l : OpenLaw} {n : Nat} (hn : l.most = some n) {P : Params} {h : Heap} {args : List WData} {vals : List Value}
    (hpre : l.row.toRowW.claim.pre args = true) (hwl : WellAll P h vals args) :
    ∃ a vs ns, vals = [Value.ref a] ∧ args = [WData.list (ns.map WData.int)] ∧ h.get? a = some { cls := .type "list", data := .seq vs.toArray } ∧ IntsAre vs ns ∧ ns.length ≤ n := by
  have hsh : WShape.hasAll [] args [.list .int] = true := (pre_splitW hpre).1
  have hc : l.pre.holds [] { args := args } = true := (pre_splitW hpre).2
  obtain ⟨d, r, rfl, h1, h2⟩ := hasAllW_cons hsh
  obtain rfl := hasAllW_nil h2
  obtain ⟨xs, rfl, h3⟩ := hasW_list h1
  obtain ⟨ns, rfl⟩ := items_int h3
  have hlen : ns.length ≤ n := by
    unfold OpenLaw.pre at hc
    have h4 : (WTm.not (.lt (.lit (.int (n : Int))) (.len (.arg 0)))).holds [] { args := [.list (ns.map .int)] } = true := by
      have h4 := (holds_andW hc).1
      rw [hn] at h4
      exact h4
    have h5 := condW_of h4 (w_not (w_lt w_lit (w_len_list (w_arg rfl))))
    rw [List.length_map] at h5
    refine Nat.le_of_not_lt fun q => ?_
    have q' : (n : Int) < ((ns.length : Nat) : Int) := by omega
    first
      | (rw [decide_eq_true q'] at h5; exact absurd h5 (by decide))
      | (simp at h5; omega)
  cases hwl with
  | cons w1 w2 =>
    cases w2
    cases w1 with
    | list ho hall => exact ⟨_, _, ns, rfl, rfl, ho, ints_of_wellAll ns _ hall, hlen⟩

theorem post_true (l : OpenLaw) (args : List WData) : l.row.toRowW.claim.post args (.bool true) args = true :=
  postW_of (r := l.row.toRowW) (X := (true == true))
    (show WShape.has [] (.bool true) .bool = true by first | rfl | decide | simp [WShape.has, WShape.arms, WShape.armsAll])
    (show (WTm.eq .res (.lit (.bool true))).value [] { args := args, res := some (.bool true), after := args } = some (.bool (true == true)) from w_eq_bool (w_res rfl) w_lit) rfl

section
variable {prog : Program} {w : World} {A : Around} {E : Value → Shared → Prop} {s : Shared} {K : Frag}

end
end Att

namespace L2
open PySem PySem.Spec PyProof.Rows

theorem vals_ints : ∀ {vs : List Value} {ns : List Int}, IntsAre vs ns → Vals (ns.map V.int) vs
  | _, _, .nil => .nil
  | _, _, .cons n t h => .cons ⟨t, rfl⟩ (vals_ints h)

/-- nothing is tracked but the script, known to the object (or it is an object of the module) -/
def Only (H : Hp) : Prop := ∀ b, H b = none ∨ ∃ o xs, H b = some (.frz o (.lst xs))

end L2

namespace L2
open PySem PySem.Spec PyProof.Rows

abbrev KOf {K : PySem.W.Frag} {h : Heap} (_ : K.In h) : PySem.W.Frag := K

end L2


namespace L2
open PySem PySem.Spec PyProof.Rows

def defArgs (s : Stmt) : Arguments := match s with
  | .FunctionDef _ a _ _ _ _ _ _ _ _ => a
  | _ => { posonlyargs := [], args := [], vararg := none, kwonlyargs := [], kw_defaults := [], kwarg := none, defaults := [] }
def defBody (s : Stmt) : List Stmt := match s with
  | .FunctionDef _ _ b _ _ _ _ _ _ _ => b
  | _ => []
def defScope (s : Stmt) : Scope := match s with
  | .FunctionDef _ _ _ _ _ _ sc _ _ _ => sc
  | _ => { kind := .function, names := [], isGenerator := false, isCoroutine := false }

abbrev CX0 : CXT := fun _ _ _ _ _ _ => False
abbrev E0 : XK := fun _ _ _ => False
structure Fun (K : PySem.W.Frag) (x qual : Str) (st : Stmt) (f : Addr) (fd : FuncData) : Prop where
  ex : ∃ (oc : Value) (od : Option Addr) (kV doc pm : Value) (an : Option Addr) (cdv ct : Value) (osl : Array (Option Value)),
    fd = PySem.W.fnOf x qual (defArgs st) (defBody st) (defScope st) .none kV doc pm an cdv ct ∧ K.lookup f = some ⟨oc, od, .func fd, osl⟩ ∧ PySem.W.codeIn K cdv qual = true
  kp : PySem.W.keepIn K (.ref f) = true
section
variable {P : Program} {w : World} {K : PySem.W.Frag} {mg : Str → Option Value} {base : Heap}
/-- how its arguments bind (no defaults): h is «fun _ _ _ _ _ _ us hl => match us, hl with | [_, _], _ => rfl», one _ a parameter -/
theorem Fun.binds {x qual : Str} {st : Stmt} {f : Addr} {fd : FuncData} {ps : List Str} (F : Fun K x qual st f fd)
    (h : ∀ (kV doc pm : Value) (an : Option Addr) (cdv ct : Value) (us : List Value), us.length = ps.length → bindArgs (PySem.W.fnOf x qual (defArgs st) (defBody st) (defScope st) .none kV doc pm an cdv ct) ⟨us, []⟩ = pure (ps.zip us)) : Binds K fd ps [] := by
  obtain ⟨oc, od, kV, doc, pm, an, cdv, ct, osl, rfl, lk, hcd⟩ := F.ex
  exact .all (h kV doc pm an cdv ct)
theorem fun_mk {x qual : Str} {st : Stmt} {f : Addr} {oc : Value} {od an : Option Addr} {osl : Array (Option Value)} {kV doc pm cdv ct : Value} (l : K.lookup f = some ⟨oc, od, .func (PySem.W.fnOf x qual (defArgs st) (defBody st) (defScope st) .none kV doc pm an cdv ct), osl⟩)
    (c : PySem.W.codeIn K cdv qual = true) (k : PySem.W.keepIn K (.ref f) = true) : Fun K x qual st f (PySem.W.fnOf x qual (defArgs st) (defBody st) (defScope st) .none kV doc pm an cdv ct) := ⟨⟨oc, od, kV, doc, pm, an, cdv, ct, osl, rfl, l, c⟩, k⟩
end
theorem small1000 {n : Nat} (h : n ≤ 1000) : n < sizeLine := Nat.lt_of_le_of_lt h (by decide)

section
variable {X : Cx}
theorem pv (i : Nat) {x : Str} {pos : Pos} (hN : X.N[i]? = some x := by rfl) (hv : Vis X.env.scope x := by first | exact Or.inl rfl | exact Or.inr (Or.inl rfl) | exact Or.inr (Or.inr rfl)) (hd : (x == ("__debug__" : Str)) = false := by decide)
    (hcd : (x == ("__classdict__" : Str)) = false := by decide) : PE X (.Name x pos) (tVar i) := pe_var hN hv hd hcd
end

theorem ite2 {c A B : Prop} [Decidable c] (h1 : c → A) (h2 : ¬ c → B) : if c then A else B := by
  by_cases h : c
  · rw [if_pos h]
    exact h1 h
  · rw [if_neg h]
    exact h2 h
/-- all that was tracked is as it was -/
def Same (H H' : Hp) : Prop := ∀ b o, H b = some o → H' b = some o
theorem Same.refl (H : Hp) : Same H H := fun _ _ h => h
theorem Same.trans {H H1 H2 : Hp} (a : Same H H1) (b : Same H1 H2) : Same H H2 := fun c o h => b c o (a c o h)
theorem Same.seq {K : PySem.W.Frag} {H H' : Hp} {a : Addr} {xs : List V} (e : Same H H') (h : SqL K H a xs) : SqL K H' a xs := by
  rcases h with (h | ⟨o, h⟩) | h
  · exact .inl (.inl (e _ _ h))
  · exact .inl (.inr ⟨o, e _ _ h⟩)
  · exact .inr h

section
variable {κ : Type} [DecidableEq κ]
end
end L2


namespace L2
open PySem PySem.Spec PyProof.Rows

/-- the cells that a block takes along -/
def closOf (cells : List (Str × Addr)) : List (Str × NameKind) → List (Str × Addr) → List (Str × Addr)
  | [], acc => acc
  | y :: r, acc => closOf cells r (if y.2 == .free then (y.1, (cells.lookup y.1).getD 0) :: acc else acc)

theorem closOf_cons {cells : List (Str × Addr)} {y : Str × NameKind} {r : List (Str × NameKind)} {acc : List (Str × Addr)} : closOf cells (y :: r) acc = closOf cells r (if y.2 == .free then (y.1, (cells.lookup y.1).getD 0) :: acc else acc) := rfl
theorem clos_run {env : Env} (F : Str × NameKind → List (Str × Addr) → Sem (ForInStep (List (Str × Addr))))
    (hF : ∀ y c, F y c = if (y.2 == NameKind.free) = true then (cellOf env y.1 >>= fun a => pure (ForInStep.yield ((y.1, a) :: c))) else pure (ForInStep.yield c)) :
    ∀ (ns : List (Str × NameKind)) (acc : List (Str × Addr)), (∀ y ∈ ns, y.2 = .free → ∃ c, env.cells.lookup y.1 = some c) → forIn ns acc F = (pure (closOf env.cells ns acc) : Sem (List (Str × Addr)))
  | [], acc, _ => rfl
  | y :: r, acc, h => by
    rw [List.forIn_cons, hF]
    by_cases k : y.2 = NameKind.free
    · obtain ⟨c, hc⟩ := h y List.mem_cons_self k
      have hk : (y.2 == NameKind.free) = true := by rw [k]; rfl
      have e : cellOf env y.1 = pure c := by unfold cellOf; rw [hc]
      rw [if_pos hk, e]
      simp only [pure_bind]
      rw [clos_run F hF r _ fun z hz => h z (List.mem_cons_of_mem _ hz)]
      rw [closOf_cons, if_pos hk, hc]
      rfl
    · have hk : ¬ (y.2 == NameKind.free) = true := by simpa using k
      rw [if_neg hk]
      simp only [pure_bind]
      rw [clos_run F hF r _ fun z hz => h z (List.mem_cons_of_mem _ hz)]
      rw [closOf_cons, if_neg hk]

theorem clos_is {scope : Scope} {env : Env} (h : ∀ y ∈ scope.names, y.2 = .free → ∃ c, env.cells.lookup y.1 = some c) : closureFor scope env = pure (closOf env.cells scope.names []) := by
  unfold closureFor
  have q := clos_run (env := env) _ (fun y c => rfl) scope.names [] h
  simp only [bind_pure]
  exact q

theorem closOf_sub {cells : List (Str × Addr)} : ∀ {ns : List (Str × NameKind)} {acc : List (Str × Addr)}, (∀ y ∈ ns, y.2 = .free → ∃ c, cells.lookup y.1 = some c) →
    (∀ p ∈ acc, cells.lookup p.1 = some p.2) → ∀ p ∈ closOf cells ns acc, cells.lookup p.1 = some p.2
  | [], _, _, ha => ha
  | y :: r, acc, h, ha => by
    rw [closOf_cons]
    refine closOf_sub (fun z hz => h z (List.mem_cons_of_mem _ hz)) ?_
    split
    · rename_i k
      intro p hp
      rcases List.mem_cons.mp hp with rfl | hp
      · obtain ⟨c, hc⟩ := h y List.mem_cons_self (by simpa using k)
        show cells.lookup y.1 = some ((cells.lookup y.1).getD 0)
        rw [hc]; rfl
      · exact ha p hp
    · exact ha

theorem closOf_mono {cells : List (Str × Addr)} {p : Str × Addr} : ∀ {ns : List (Str × NameKind)} {acc : List (Str × Addr)}, p ∈ acc → p ∈ closOf cells ns acc
  | [], _, h => h
  | y :: r, acc, h => by
    rw [closOf_cons]
    refine closOf_mono ?_
    split
    · exact List.mem_cons_of_mem _ h
    · exact h

theorem closOf_has {cells : List (Str × Addr)} {x : Str} {c : Addr} (hc : cells.lookup x = some c) : ∀ {ns : List (Str × NameKind)} {acc : List (Str × Addr)}, (x, NameKind.free) ∈ ns → (x, c) ∈ closOf cells ns acc
  | y :: r, acc, h => by
    rw [closOf_cons]
    rcases List.mem_cons.mp h with e | h
    · subst e
      refine closOf_mono ?_
      rw [if_pos (show ((x, NameKind.free).2 == NameKind.free) = true from rfl)]
      show (x, c) ∈ (x, (cells.lookup x).getD 0) :: acc
      rw [hc]
      exact List.mem_cons_self
    · exact closOf_has hc h

theorem lookup_mem_some {x : Str} {c : Addr} : ∀ {l : List (Str × Addr)}, (x, c) ∈ l → ∃ d, l.lookup x = some d
  | p :: r, h => by
    rw [List.lookup_cons]
    cases e : x == p.1 with
    | true => exact ⟨_, rfl⟩
    | false =>
      rcases List.mem_cons.mp h with q | q
      · subst q; simp at e
      · exact lookup_mem_some q

/-- the block's scope against the def's: N' the block's names, π where a captured one stands among the def's -/
structure CompScope (osc : Scope) (N : List Str) (scope : Scope) (N' : List Str) (π : List (Option Nat)) : Prop where
  ok : osc.kind = .function
  kind : scope.kind = .function
  nocell : ∀ y ∈ scope.names, y.2 ≠ .cell
  loc : ∀ y ∈ scope.names, y.2 = .local → scope.names.lookup y.1 = some .local
  fr : ∀ y ∈ scope.names, y.2 = .free → osc.names.lookup y.1 = some .cell
  nd : N'.Nodup
  len : π.length = N'.length
  cap : ∀ (i j : Nat) (x : Str), N'[i]? = some x → π[i]? = some (some j) → N[j]? = some x ∧ scope.names.lookup x = some .free

def capt (π : List (Option Nat)) (σ : St) : St := π.map fun o => o.bind fun j => (σ[j]?).join

/-- the block's context -/
def cxComp (X : Cx) (N' : List Str) (scope : Scope) (s : Shared) (H : Hp) (C : Addr) (fp : List Addr) (pn : List (Addr × Obj)) : Cx where
  prog := X.prog
  w := X.w
  K := X.K
  mg := X.mg
  base := X.base
  A := X.A
  N := N'
  s₀ := s
  H₀ := H
  env := compEnvC scope (closOf X.env.cells scope.names []) C X.env
  outer := X.stack
  stack := X.stack
  ex := fp
  fn := fun _ => false
  calm := X.calm
  pn := X.pn ++ pn
  xe := fun _ _ => False

theorem relabel_free {env : Env} {x : Str} (hf : env.scope.kind = .function) (hx : env.scope.names.lookup x = some .cell) : ∀ {ns : List (Str × NameKind)}, ns.lookup x = some .free →
    (ns.map fun y => if (y.2 == NameKind.free && env.scope.kind == .function && env.kindOf y.1 == some .cell) then (y.1, NameKind.cell) else (y.1, y.2)).lookup x = some .cell
  | [], h => by simp at h
  | y :: r, h => by
    rw [List.lookup_cons] at h
    rw [List.map_cons, List.lookup_cons]
    have hx' : env.kindOf x = some .cell := hx
    cases e : x == y.1 with
    | true =>
      rw [e] at h
      have en : x = y.1 := by simpa using e
      have hk : y.2 = .free := by simpa using h
      rw [hk, hf, ← en, hx']
      simp
    | false =>
      rw [e] at h
      have ih := relabel_free hf hx h
      by_cases q : (y.2 == NameKind.free && env.scope.kind == .function && env.kindOf y.1 == some .cell) = true
      · rw [if_pos q]
        simp only [e]
        exact ih
      · rw [if_neg q]
        simp only [e]
        exact ih

section
variable {X : Cx} {scope : Scope} {N' : List Str} {π : List (Option Nat)} {pins : List (Addr × Obj)} {σ : St} {H : Hp} {s : Shared} {fp : List Addr}

theorem capt_get {π : List (Option Nat)} {σ : St} {i : Nat} {v : V} (h : (capt π σ)[i]? = some (some v)) : ∃ j, π[i]? = some (some j) ∧ σ[j]? = some (some v) := by
  unfold capt at h
  rw [List.getElem?_map] at h
  cases e : π[i]? with
  | none => rw [e] at h; cases h
  | some o =>
    rw [e] at h
    cases o with
    | none => cases h
    | some j =>
      refine ⟨j, rfl, ?_⟩
      have h' : (σ[j]?).join = some v := Option.some.inj h
      cases q : σ[j]? with
      | none => rw [q] at h'; cases h'
      | some u => rw [q] at h'; exact congrArg some h'

/-- the block begins -/
theorem comp_start (S : CompScope X.env.scope X.N scope N' π) (hX : X.calm = true) (I : Inv X pins σ H s) (hf : ∀ b ∈ fp, FpOk X pins H b) (hfo : ∀ b ∈ fp, ∃ o, s.heap.get? b = some o) {h1 : Heap} {tk : Nat} {C : Addr} {m : Str → Option Value}
    (hk : ∀ b o, s.heap.get? b = some o → h1.get? b = some o) (hC : s.heap.objs.size ≤ C) (hn : h1.Ns C m) : Inv (cxComp X N' scope s H C fp pins) [] (capt π σ) H { s with heap := h1, toks := tk } := by
  have hfr : ∀ y ∈ scope.names, y.2 = .free → ∃ c, X.env.cells.lookup y.1 = some c := fun y hy k => I.ok.has y.1 (.inl (S.fr y hy k))
  have sub : ∀ x c, (closOf X.env.cells scope.names []).lookup x = some c → X.env.cells.lookup x = some c := fun x c e =>
    closOf_sub hfr (fun p hp => absurd hp (by simp)) _ (PySem.mem_of_lookup e)
  have stk := I.stkSub
  have nC : ∀ b o, s.heap.get? b = some o → b ≠ C := fun b o e => Nat.ne_of_lt (Nat.lt_of_lt_of_le (Heap.lt_size e) hC)
  have nofr : ∀ b, b ∈ fp → b ∉ frs X.stack := fun b hb z => by
    rcases List.mem_cons.mp (stk b z) with e | e
    · exact (hf b hb).2.1 e
    · exact (hf b hb).2.2.1 e
  refine ⟨⟨I.ok.mod, S.kind, I.ok.glob, I.ok.blt, hC, fun x y c e1 e2 => I.ok.inj x y c (sub _ _ e1) (sub _ _ e2), fun x hx => ?_, fun x c z => absurd z Bool.false_ne_true, fun _ => I.ok.hd hX, I.ok.frames, .inl rfl,
    fun b hb => ⟨fun e => ?_, fun x c e q => (hf b hb).2.2.2.2.1 x c (sub _ _ e) q⟩, fun b o e => I.bs b o e, Nat.le_trans I.ok.bsz I.sz, fun b o e hb => ?_, fun b hb => nofr b hb, I.stack, I.stkFree⟩, rfl, I.bare, Un.kept hk, ⟨m, hn, fun i x v e1 e2 e3 => ?_⟩, fun x c e => ?_, I.hok.fresh hC, fun x c e => I.freeC x c (sub _ _ e), fun p hp => ?_, I.hok.kept hk, ?_⟩
  · -- the cells are there
    have hx : (relabel scope X.env).names.lookup x = some .cell ∨ (relabel scope X.env).names.lookup x = some .free := hx
    have hmem : ∀ k, (relabel scope X.env).names.lookup x = some k → ∃ k', (x, k') ∈ scope.names ∧ (k = k' ∨ (k = .cell ∧ k' = .free)) := fun k e => by
      have := PySem.mem_of_lookup e
      obtain ⟨⟨n, k'⟩, hm, q⟩ := List.mem_map.mp this
      dsimp only at q
      split at q
      · rename_i z
        injection q with q1 q2
        subst q1
        refine ⟨k', hm, .inr ⟨q2.symm, ?_⟩⟩
        simp only [Bool.and_eq_true, beq_iff_eq] at z
        exact z.1.1
      · injection q with q1 q2
        subst q1
        exact ⟨k', hm, .inl q2.symm⟩
    have hfree : (x, NameKind.free) ∈ scope.names := by
      rcases hx with e | e
      · obtain ⟨k', hm, q | ⟨_, q⟩⟩ := hmem _ e
        · subst q; exact absurd rfl (S.nocell _ hm)
        · subst q; exact hm
      · obtain ⟨k', hm, q | ⟨q, _⟩⟩ := hmem _ e
        · subst q; exact hm
        · cases q
    obtain ⟨c, hc⟩ := hfr _ hfree rfl
    exact lookup_mem_some (closOf_has hc hfree)
  · obtain ⟨o, e'⟩ := hfo b hb
    exact nC b o e' e
  · rcases (hf b hb).2.2.2.1 with z | z
    · exact I.ok.noex b o e z
    · exact absurd (Heap.lt_size (I.ok.bs b o e).1) (Nat.not_lt.mpr z)
  · obtain ⟨j, e4, e5⟩ := capt_get e2
    obtain ⟨hN, hfree⟩ := S.cap i j x e1 e4
    have hcell := S.fr _ (PySem.mem_of_lookup hfree) rfl
    obtain ⟨m0, hn0, hl0⟩ := I.loc
    obtain ⟨u, ru, q⟩ := hl0 j x v hN e5 (.inr (.inl hcell))
    refine ⟨u, ru, ?_⟩
    rcases q with ⟨k, _⟩ | ⟨_, c, hc, z⟩
    · have k' : X.env.scope.names.lookup x = some .local := k
      rw [hcell] at k'
      cases k'
    · obtain ⟨d, hd⟩ := lookup_mem_some (closOf_has hc (PySem.mem_of_lookup hfree) (acc := []))
      have e6 := sub _ _ hd
      rw [hc] at e6
      cases e6
      exact .inr ⟨.inl (relabel_free S.ok hcell hfree), c, hd, z.keeps hk⟩
  · obtain ⟨v, z⟩ := I.cell x c (sub _ _ e)
    exact ⟨v, z.keeps hk⟩
  · have hp' : p ∈ X.pn ++ pins := by
      rcases List.mem_append.mp hp with z | z
      · exact z
      · cases z
    obtain ⟨e, n, ne, nf, d⟩ := I.pin p hp'
    refine ⟨hk _ _ e, n, nC _ _ e, fun z => ?_, d⟩
    rcases List.mem_cons.mp (stk _ z) with q | q
    · exact ne q
    · exact nf q
  · show (capt π σ).length = N'.length
    unfold capt
    rw [List.length_map, S.len]

/-- a list that no one tracked is tracked -/
theorem hok_lst {P : Program} {w : World} {h : Heap} {D : Addr} {ys : List V} {its : List Value} {n : Nat} (ok : HOk P w H h) (hD : H D = none) (ho : h.get? D = some { cls := .type "list", data := .seq its.toArray n })
    (r : Vals ys its) (hz : ys.length ≤ sizeLine) : HOk P w (upd H D (.lst ys)) h := by
  intro b ob e
  have ne : ∀ c u, H c = some u → c ≠ D := fun c u q z => by rw [z, hD] at q; cases q
  by_cases hb : b = D
  · subst hb
    rw [upd_same] at e
    cases e
    exact ⟨hz, its, n, r, ho⟩
  · rw [upd_ne hb] at e
    exact (ok b ob e).stay (fun _ _ _ q => q) (fun c q => by rw [upd_ne (ne _ _ q)]; exact q) fun c xs q => by rw [upd_ne (ne _ _ q)]; exact q

/-- the block's end, its list tracked -/
theorem comp_end (I : Inv X pins σ H s) (hf : ∀ b ∈ fp, FpOk X pins H b) {C D : Addr} {pins' : List (Addr × Obj)} {σ' : St} {H' : Hp} {s' : Shared} (J : Inv (cxComp X N' scope s H C fp pins) pins' σ' H' s')
    (hD : H' D = none) (hDs : s.heap.objs.size ≤ D) {ys : List V} {its : List Value} {n : Nat} (ho : s'.heap.get? D = some { cls := .type "list", data := .seq its.toArray n }) (r : Vals ys its) (hz : ys.length ≤ sizeLine) :
    Inv X pins σ (upd H' D (.lst ys)) s' := by
  have nD : ∀ b o, s.heap.get? b = some o → b ≠ D := fun b o e => Nat.ne_of_lt (Nat.lt_of_lt_of_le (Heap.lt_size e) hDs)
  have ne : ∀ c u, H' c = some u → c ≠ D := fun c u q z => by rw [z, hD] at q; cases q
  have u : Un (frs X.stack) fp H H' s.heap s'.heap := J.base
  refine I.call' (ch := fp) J.os ⟨u.keep, u.slot, fun b o e h1 h2 => ?_, u.there, fun b xs q => ?_, fun b o v q => ?_, fun b ps q => ?_⟩ (hok_lst J.hok hD ho r hz) J.bare fun b hb => ⟨(hf b hb).2.2.2.1, (hf b hb).2.1, (hf b hb).2.2.2.2.1, (hf b hb).2.2.2.2.2⟩
  · rw [upd_ne (nD b o e)]
    exact u.free b o e h1 h2
  · have z := u.tups b xs q
    rw [upd_ne (ne _ _ z)]; exact z
  · have z := u.frzs b o v q
    rw [upd_ne (ne _ _ z)]; exact z
  · obtain ⟨more, z⟩ := u.tbls b ps q
    exact ⟨more, by rw [upd_ne (ne _ _ z)]; exact z⟩
end

/-- the tests of a clause -/
def PIfs (X : Cx) (ifs : List Expr) (t : TT) : Prop :=
  ∀ (pins : List (Addr × Obj)) (s : Shared) (σ : St) (H : Hp) (Q : Bool → Hp → Prop), Inv X pins σ H s → t σ H Q →
    wpAny (model X.prog X.w) X.A (forIn ifs true fun c r => if r = true then do let ok ← isTrue c X.env (eval c X.env); pure (ForInStep.yield ok) else pure (ForInStep.yield r)) (TP X pins σ Q) X.xe s
def tNoIf : TT := fun _ H Q => Q true H
theorem pifs_nil {X : Cx} : PIfs X [] tNoIf := fun _ _ _ H _ I h => wpAny_tests_nil ⟨H, I, h⟩
theorem comp_turns {prog : Program} {w : World} {A : Around} {R : Result → Shared → Prop} {s : Shared} {elt tg iter : Expr} {ifs : List Expr} {scope : Scope} {pos : Pos} {it acc : Value} {env : Env} (I : Nat → Shared → Prop)
    (turn : ∀ n s, I n s → wpAny (model prog w) A (pyNext it) (fun r s1 => match r with
      | none => R (.ok .next) s1
      | some v => wpAny (model prog w) A (letOwnedTupleGo tg it v) (fun _ s2 => wpAny (model prog w) A (assign tg env v) (fun _ s3 =>
          wpAny (model prog w) A (forIn ifs true fun c r => if r = true then do let ok ← isTrue c env (eval c env); pure (ForInStep.yield ok) else pure (ForInStep.yield r)) (fun ok s4 =>
            if ok = true then wpAny (model prog w) A (eval elt env) (fun x s5 => wpAny (model prog w) A (call (.builtin "list.append") [acc, x]) (fun _ s6 => ∃ m, m < n ∧ I m s6) (fun _ _ => False) s5) (fun _ _ => False) s4
            else ∃ m, m < n ∧ I m s4) (fun _ _ => False) s3) (fun _ _ => False) s2) (fun _ _ => False) s1) (fun _ _ => False) s)
    (n : Nat) (h : I n s) : codeAny (model prog w) A (.compLoop (.ListComp elt [⟨tg, iter, ifs, 0⟩] scope pos) 0 it acc env) R s := by
  refine codeAny_loop rfl I (fun n s hI => ?_) n h
  refine wpAny_noted (m := compTurn (.ListComp elt [⟨tg, iter, ifs, 0⟩] scope pos) 0 it acc env) ?_
  rw [compTurn_list]
  have no : ∀ {E : Value → Shared → Prop} (x : Value) (s : Shared), False → E x s := fun _ _ f => f.elim
  refine wpAny_bind (wpAny_standAt (wpAny_bind (wpAny_mono (turn n s hI) (fun r s1 h1 => ?_) no)))
  cases r with
  | none => exact wpAny_pure h1
  | some v =>
    refine wpAny_bind (wpAny_mono h1 (fun _ s2 h2 => ?_) no)
    refine wpAny_bind (wpAny_mono h2 (fun _ s3 h3 => ?_) no)
    refine wpAny_bind (wpAny_mono h3 (fun ok s4 h4 => ?_) no)
    cases ok with
    | false => exact wpAny_pure ⟨rfl, h4⟩
    | true =>
      refine wpAny_bind (wpAny_bind (wpAny_mono h4 (fun x s5 h5 => ?_) no))
      exact wpAny_bind (wpAny_mono h5 (fun _ s6 h6 => wpAny_pure (wpAny_pure ⟨rfl, h6⟩)) no)

/-- W: the turn, a measure, what is gathered, the block's names, the heap -/
def tComp (wi : TI) (π : List (Option Nat)) (g : TG) (tt : TT) (te : TE) : TE := fun σ H Q => wi σ H fun J H1 =>
  ∃ W : Nat → Nat → List V → St → Hp → Prop, (∃ m, W 0 m [] (capt π σ) H1) ∧ ∀ i m ys σ' H', W i m ys σ' H' →
    (J.stop i H' ∧ ∀ D, H' D = none → Q (.ref D) (upd H' D (.lst ys))) ∨
    (J.go i H' ∧ ys.length < sizeLine ∧ ∃ N : List V → St → Hp → Prop, (∀ ys' σ2 H2, N ys' σ2 H2 → ∃ m', m' < m ∧ W (i + 1) m' ys' σ2 H2) ∧ ∀ x H2, J.yld i H' x H2 → g x σ' H2 fun σ2 H3 => tt σ2 H3 fun c H4 =>
      if c = true then te σ2 H4 fun y H5 => N (ys ++ [y]) σ2 H5 else N ys σ2 H4)

section
variable {X : Cx} {scope : Scope} {N' : List Str} {π : List (Option Nat)} {tg iter elt : Expr} {ifs : List Expr} {pos : Pos} {wi : TI} {g : TG} {tt : TT} {te : TE}

/-- the block, from its iterator on: D its list, C its frame -/
theorem comp_block (S : CompScope X.env.scope X.N scope N' π) (hc : X.calm = true) {pins : List (Addr × Obj)} {σ : St} {Q : VK} {itv : Value} {s : Shared} {E : Value → Shared → Prop} {RR : Value → Addr → Result → Shared → Prop}
    (hg : ∀ s H C fp pn, PG (cxComp X N' scope s H C fp pn) tg g) (ht : ∀ s H C fp pn, PIfs (cxComp X N' scope s H C fp pn) ifs tt) (he : ∀ s H C fp pn, PE (cxComp X N' scope s H C fp pn) elt te)
    (h : PIE X pins σ tg (fun J H1 => ∃ W : Nat → Nat → List V → St → Hp → Prop, (∃ m, W 0 m [] (capt π σ) H1) ∧ ∀ i m ys σ' H', W i m ys σ' H' →
      (J.stop i H' ∧ ∀ D, H' D = none → Q (.ref D) (upd H' D (.lst ys))) ∨
      (J.go i H' ∧ ys.length < sizeLine ∧ ∃ N : List V → St → Hp → Prop, (∀ ys' σ2 H2, N ys' σ2 H2 → ∃ m', m' < m ∧ W (i + 1) m' ys' σ2 H2) ∧ ∀ x H2, J.yld i H' x H2 → g x σ' H2 fun σ2 H3 => tt σ2 H3 fun c H4 =>
        if c = true then te σ2 H4 fun y H5 => N (ys ++ [y]) σ2 H5 else N ys σ2 H4)) itv s)
    (hRR : ∀ D C s' H', Inv X pins σ H' s' → Q (.ref D) H' → (∃ m, s'.heap.Ns C m) → FpOk X pins H' C → RR (.ref D) C (.ok .next) s') :
    wpAny (model X.prog X.w) X.A (newList []) (fun acc s3 => wpAny (model X.prog X.w) X.A (newFunctionEnv scope X.env.globals (closOf X.env.cells scope.names []) [] X.env.qual none .none (some X.env)) (fun cenv s4 =>
      codeAny (model X.prog X.w) X.A (.compStart (.ListComp elt [⟨tg, iter, ifs, 0⟩] scope pos) 0 itv acc { cenv with scope := relabel scope X.env }) (RR acc cenv.locals) s4) E s3) E s := by
  obtain ⟨it, fp, tn, J, H2, e, I2, T, st2, f2, W, ⟨m0, w0⟩, turn⟩ := h
  subst e
  have fo := T.obj _ _ st2
  refine wpAny_newObj_type (wpAny_newFunctionEnv S.nocell (by intro y hy; cases hy) (fun h1 hns1 hsb1 => ?_) S.kind)
  dsimp only at hns1 hsb1 ⊢
  generalize hG : s.heap.push { cls := .type "list", dict := none, data := .seq ([] : List Value).toArray } = G at hns1 hsb1 ⊢
  have hGs : G.objs.size = s.heap.objs.size + 1 := by rw [← hG, Heap.size_push]
  have hDC : s.heap.objs.size ≠ G.objs.size := by rw [hGs]; exact Nat.ne_of_lt (Nat.lt_succ_self _)
  have ltG : ∀ b o, s.heap.get? b = some o → b ≠ G.objs.size := fun b o e => by rw [hGs]; exact Nat.ne_of_lt (Nat.lt_succ_of_lt (Heap.lt_size e))
  have leG : s.heap.objs.size ≤ G.objs.size := by rw [hGs]; exact Nat.le_succ _
  have old : ∀ b o, s.heap.get? b = some o → h1.get? b = some o := fun b o e =>
    (hsb1.2 b (ltG b o e)).trans (Heap.get?_push_of_some _ (hG ▸ Heap.get?_push_of_some _ e))
  have hacc : h1.get? s.heap.objs.size = some { cls := .type "list", data := .seq ([] : List Value).toArray } :=
    (hsb1.2 _ hDC).trans (Heap.get?_push_of_some _ (hG ▸ Heap.get?_push_size _ rfl))
  have I3 : Inv (cxComp X N' scope s H2 G.objs.size fp pins) [] (capt π σ) H2 { s with heap := h1, toks := s.toks + ([] : List (Str × Value)).length } :=
    comp_start S hc I2 f2 (fun b hb => let ⟨o, e, _⟩ := fo b hb; ⟨o, e⟩) old leG hns1
  have st3 : tn 0 h1 := T.keep _ _ _ st2 fun b _ o e => old b o e
  have dlt : ∀ b o, s.heap.get? b = some o → b ≠ s.heap.objs.size := fun b o e => Nat.ne_of_lt (Heap.lt_size e)
  have fpD : ∀ b ∈ fp, b ≠ s.heap.objs.size := fun b hb => let ⟨o, e, _⟩ := fo b hb; dlt b o e
  have celD : ∀ x c, (closOf X.env.cells scope.names []).lookup x = some c → c ≠ s.heap.objs.size ∧ ∀ b ∈ fp, c ≠ b := fun x c e => by
    have e1 := closOf_sub (fun y hy k => I2.ok.has y.1 (.inl (S.fr y hy k))) (fun p hp => absurd hp (by simp)) _ (PySem.mem_of_lookup e)
    obtain ⟨v, o, z, _⟩ := I2.cell x c e1
    exact ⟨dlt c o z, fun b hb => (f2 b hb).2.2.2.2.1 x c e1⟩
  have pnD : ∀ p ∈ X.pn ++ pins, p.1 ≠ s.heap.objs.size := fun p hp => dlt _ _ (I2.pin p hp).1
  have stkD : s.heap.objs.size ∉ frs X.stack := fun z => by
    obtain ⟨_, o, ho, _⟩ := I2.stack.mem z
    exact dlt _ _ ho rfl
  have fpS : ∀ b ∈ fp, b ∉ frs X.stack := fun b hb z => by
    rcases List.mem_cons.mp (I2.stkSub b z) with e | e
    · exact (f2 b hb).2.1 e
    · exact (f2 b hb).2.2.1 e
  have fpC : ∀ b ∈ fp, b ≠ G.objs.size := fun b hb => by
    obtain ⟨o, e, _⟩ := fo b hb
    exact ltG b o e
  -- the block's iterator, its list pinned
  have fpk : ∀ (ob : Obj) {H' : Hp}, (∀ b ∈ fp, H' b = none) → ∀ b ∈ fp, FpOk (cxComp X N' scope s H2 G.objs.size fp pins) [(s.heap.objs.size, ob)] H' b := fun ob H' hn b hb =>
    ⟨hn b hb, fpC b hb, fpS b hb, .inl hb, fun x c e => (celD x c e).2 b hb, fun p hp => by
      rcases List.mem_append.mp hp with z | z
      · exact (f2 b hb).2.2.2.2.2 p z
      · rw [List.mem_singleton.mp z]; exact (fpD b hb).symm⟩
  have pinD : ∀ {σ' : St} {H' : Hp} {s' : Shared} {its : List Value} {k : Nat}, Inv (cxComp X N' scope s H2 G.objs.size fp pins) [] σ' H' s' → H' s.heap.objs.size = none →
      s'.heap.get? s.heap.objs.size = some { cls := .type "list", data := .seq its.toArray k } → Inv (cxComp X N' scope s H2 G.objs.size fp pins) [(s.heap.objs.size, { cls := .type "list", data := .seq its.toArray k })] σ' H' s' :=
    fun {σ' H' s' its k} J hD ho => J.pins_of fun p hp => by
      rw [List.mem_singleton.mp hp]
      exact ⟨ho, hD, hDC, stkD, fun v z => by cases z⟩
  have main : codeAny (model X.prog X.w) X.A (.compLoop (.ListComp elt [⟨tg, iter, ifs, 0⟩] scope pos) 0 (.ref it) (.ref s.heap.objs.size) (compEnvC scope (closOf X.env.cells scope.names []) G.objs.size X.env)) (RR (.ref s.heap.objs.size) G.objs.size)
      { s with heap := h1, toks := s.toks + ([] : List (Str × Value)).length } := by
    refine comp_turns (fun n s' => ∃ i ys its k σ' H', Inv (cxComp X N' scope s H2 G.objs.size fp pins) [] σ' H' s' ∧ tn i s'.heap ∧ (∀ b ∈ fp, H' b = none) ∧ s'.heap.get? s.heap.objs.size = some { cls := .type "list", data := .seq its.toArray k } ∧ H' s.heap.objs.size = none ∧ Vals ys its ∧ ys.length ≤ sizeLine ∧ W i n ys σ' H') ?_ m0
      ⟨0, [], [], 0, capt π σ, H2, I3, st3, fun b hb => (f2 b hb).1, hacc, I2.hok.fresh (Nat.le_refl _), .nil, Nat.zero_le _, w0⟩
    rintro n s4 ⟨i, ys, its, k, σ4, H4, I4, st4, fr4, ho4, hD4, r4, z4, w4⟩
    have I4' := pinD I4 hD4 ho4
    rcases turn i n ys σ4 H4 w4 with ⟨stop, qn⟩ | ⟨go, hlen, N, hN, step⟩
    · refine thn (T.done (cxComp X N' scope s H2 G.objs.size fp pins) rfl rfl rfl hc i _ s4 σ4 H4 (fun _ _ => False) I4' (fpk _ fr4) st4 stop) fun r s5 ⟨hr, I5⟩ => ?_
      subst hr
      have p5 := I5.pin _ (List.mem_append_right _ (List.mem_singleton.mpr rfl))
      have I6 := comp_end I2 f2 I5 hD4 (Nat.le_refl _) p5.1 r4 z4
      refine hRR _ _ s5 _ I6 (qn _ hD4) (let ⟨m, hn, _⟩ := I5.loc; ⟨m, hn⟩) (I2.fpOk leG ?_)
      rw [upd_ne (Ne.symm hDC)]
      exact I5.free
    · refine thn (T.item (cxComp X N' scope s H2 G.objs.size fp pins) rfl rfl rfl hc i _ s4 σ4 H4 (fun _ _ => False) I4' (fpk _ fr4) st4 go) fun r s5 ⟨u, hr, h5⟩ => ?_
      subst hr
      refine thn h5 fun _ s6 ⟨x, H6, I6, r6, y6, st6, fr6⟩ => ?_
      have I6' := I6.pinned (fpk _ fr6) (T.obj _ _ st6)
      refine thn (hg _ _ _ _ _ _ s6 σ4 H6 x u _ I6' r6 (step x H6 y6)) fun _ s7 ⟨σ7, H7, I7, q7⟩ => ?_
      refine thn (ht _ _ _ _ _ _ s7 σ7 H7 _ I7 q7) fun ok s8 ⟨H8, I8, q8⟩ => ?_
      -- what stands behind the turn's code
      have rest : ∀ {s9 : Shared} {H9 : Hp}, Inv (cxComp X N' scope s H2 G.objs.size fp pins) ([(s.heap.objs.size, { cls := .type "list", data := .seq its.toArray k })] ++ pinsAt fp s6.heap) σ7 H9 s9 →
          s9.heap.get? s.heap.objs.size = some { cls := .type "list", data := .seq its.toArray k } ∧ H9 s.heap.objs.size = none ∧ (∀ b ∈ fp, ∀ o, s6.heap.get? b = some o → s9.heap.get? b = some o) ∧ ∀ b ∈ fp, H9 b = none := fun {s9 H9} I9 => by
        have p9 := I9.pin _ (List.mem_append_right _ (List.mem_append_left _ (List.mem_singleton.mpr rfl)))
        refine ⟨p9.1, p9.2.1, fun b hb o e => (I9.pin (b, o) (List.mem_append_right _ (List.mem_append_right _ (mem_pinsAt hb e)))).1, fun b hb => ?_⟩
        obtain ⟨o, e, _⟩ := T.obj _ _ st6 b hb
        exact (I9.pin (b, o) (List.mem_append_right _ (List.mem_append_right _ (mem_pinsAt hb e)))).2.1
      cases ok with
      | false =>
        obtain ⟨m', hm, w8⟩ := hN _ _ _ (show N ys σ7 H8 from q8)
        obtain ⟨a1, a2, a3, a4⟩ := rest I8
        exact ⟨m', hm, i + 1, ys, its, k, σ7, H8, I8.pins_of (fun p hp => by cases hp), T.keep _ _ _ st6 a3, a4, a1, a2, r4, z4, w8⟩
      | true =>
        refine thn (he _ _ _ _ _ _ s8 σ7 H8 _ I8 q8) fun y s9 ⟨v, H9, I9, r9, q9⟩ => ?_
        obtain ⟨m', hm, w9⟩ := hN _ _ _ q9
        obtain ⟨a1, a2, a3, a4⟩ := rest I9
        have hl : its.length = ys.length := r4.length.symm
        refine wpAny_list_append_plain (items := its.toArray) ⟨k, a1⟩ (fun h' hl' hs' => ?_) (by rw [List.size_toArray]; omega)
        obtain ⟨k', ho'⟩ := hl'
        have I10 : Inv (cxComp X N' scope s H2 G.objs.size fp pins) [] σ7 H9 { s9 with heap := h' } := (I9.pins_of (pins' := []) fun p hp => by cases hp).turned (t' := s9.toks) (it := s.heap.objs.size) (fun b o hb e => (hs'.2 b hb).trans e) a2 hDC (.inr (Nat.le_refl _))
          (fun x c e => (celD x c e).1) fun p hp => by
            rcases List.mem_append.mp hp with z | z
            · exact pnD p z
            · cases z
        refine ⟨m', hm, i + 1, ys ++ [v], its ++ [y], k', σ7, H9, I10, T.keep _ _ _ st6 fun b hb o e => (hs'.2 b (fpD b hb)).trans (a3 b hb o e), a4, ?_, a2, r4.append (.cons r9 .nil), by rw [List.length_append, List.length_singleton]; omega, w9⟩
        rw [show (its ++ [y]).toArray = its.toArray.push y by simp]
        exact ho'
  exact codeAny_compStart_list main (T.self _ 0 _ _ _ st3 main)

variable {spos pos' : Pos} {x : Str} {i : Nat}

theorem pe_comp (S : CompScope X.env.scope X.N scope N' π) (hc : X.calm = true) (hi : PI X tg iter wi) (hg : ∀ s H C fp pn, PG (cxComp X N' scope s H C fp pn) tg g) (ht : ∀ s H C fp pn, PIfs (cxComp X N' scope s H C fp pn) ifs tt)
    (he : ∀ s H C fp pn, PE (cxComp X N' scope s H C fp pn) elt te) (hs : ∀ x, foldedSetIterable iter X.env x = pure x := by intro _; rfl) : PE X (.ListComp elt [⟨tg, iter, ifs, 0⟩] scope pos) (tComp wi π g tt te) := by
  intro pins s σ H Q I h
  rw [eval_ListComp]
  refine wpAny_comprehension_free (use := none) rfl hs (clos_is fun y hy k => I.ok.has y.1 (.inl (S.fr y hy k))) S.kind S.loc (thn (hi pins s σ H _ I h) fun v s1 h1 => thn h1 fun itv s2 h2 => ?_)
  refine comp_block (RR := fun acc C => compPost (model X.prog X.w) X.A X.xe none (EP X pins σ Q) acc C) S hc hg ht he h2 fun D C s' H' I' q hn f => ?_
  obtain ⟨m, hn⟩ := hn
  exact ⟨m, hn, fun h' hs' => ⟨.ref D, H', I'.turned (t' := s'.toks) (it := C) (fun b o hb e => (hs'.2 b hb).trans e) f.1 f.2.1 f.2.2.2.1 f.2.2.2.2.1 f.2.2.2.2.2, rfl, q⟩⟩

end
end L2

namespace L2
open PySem PySem.Spec PyProof.Rows

section
variable {X : Cx} {pins : List (Addr × Obj)} {σ : St} {H : Hp} {s : Shared} {h' : Heap} {ch : List Addr}

end

/-- the pairs of a list with their places -/
def Ite (K : PySem.W.Frag) (a : Addr) : It :=
  ⟨fun i H => ∃ xs x, SqL K H a xs ∧ xs[i]? = some x, fun i H x H' => ∃ T v, x = .ref T ∧ H T = none ∧ H' = upd H T (.tup [.int i, v]) ∧ ∀ xs, SqL K H a xs → xs[i]? = some v, fun i H => ∃ xs, SqL K H a xs ∧ xs.length ≤ i⟩

/-- the pairs of two lists -/
def Itz (K : PySem.W.Frag) (a b : Addr) : It :=
  ⟨fun i H => ∃ xs ys x y, SqL K H a xs ∧ SqL K H b ys ∧ xs[i]? = some x ∧ ys[i]? = some y,
   fun i H x H' => ∃ T v w, x = .ref T ∧ H T = none ∧ H' = upd H T (.tup [v, w]) ∧ (∀ xs, SqL K H a xs → xs[i]? = some v) ∧ ∀ ys, SqL K H b ys → ys[i]? = some w,
   fun i H => ∃ xs ys, SqL K H a xs ∧ SqL K H b ys ∧ (xs.length ≤ i ∨ ys.length ≤ i)⟩

section
variable {X : Cx}
def iEnum (K : PySem.W.Frag) (ta : TA) : TI := fun σ H R => ta σ H fun vs H1 => ∃ a, vs = [.ref a] ∧ (∃ xs, SqL K H1 a xs) ∧ R (Ite K a) H1
end

section
variable {X : Cx}
def iZip (K : PySem.W.Frag) (ta : TA) : TI := fun σ H R => ta σ H fun vs H1 => ∃ a b, vs = [.ref a, .ref b] ∧ (∃ xs, SqL K H1 a xs) ∧ (∃ ys, SqL K H1 b ys) ∧ R (Itz K a b) H1
end

/-- what a loop's reading asks -/
abbrev ForW (J : It) (g : TG) (tb : TS) (D : Ends) (σ : St) (H : Hp) : Prop := ∃ W : Nat → Nat → St → Hp → Prop, (∃ m, W 0 m σ H) ∧ ∀ i m σ H, W i m σ H →
  (J.stop i H ∧ D.nx σ H) ∨ (J.go i H ∧ ∃ N : St → Hp → Prop, (∀ σ' H', N σ' H' → ∃ m', m' < m ∧ W (i + 1) m' σ' H') ∧ ∀ x H', J.yld i H x H' → g x σ H' fun σ2 H2 => tb { D with nx := N, ct := N, bk := D.nx } σ2 H2)
/-- what a comprehension's reading asks -/
abbrev CompW (J : It) (g : TG) (tt : TT) (te : TE) (Q : VK) (σ : St) (H : Hp) : Prop := ∃ W : Nat → Nat → List V → St → Hp → Prop, (∃ m, W 0 m [] σ H) ∧ ∀ i m ys σ' H', W i m ys σ' H' →
    (J.stop i H' ∧ ∀ D, H' D = none → Q (.ref D) (upd H' D (.lst ys))) ∨
    (J.go i H' ∧ ys.length < sizeLine ∧ ∃ N : List V → St → Hp → Prop, (∀ ys' σ2 H2, N ys' σ2 H2 → ∃ m', m' < m ∧ W (i + 1) m' ys' σ2 H2) ∧ ∀ x H2, J.yld i H' x H2 → g x σ' H2 fun σ2 H3 => tt σ2 H3 fun c H4 =>
      if c = true then te σ2 H4 fun y H5 => N (ys ++ [y]) σ2 H5 else N ys σ2 H4)
/-- a comprehension without a test of n turns: over a list, a range, places -/
theorem comp_by {J : It} {n : Nat} {g : TG} {te : TE} {Q : VK} {σ : St} {H : Hp} (hn : n ≤ 1000000) (Pv : Nat → List V → St → Hp → Prop) (h0 : Pv 0 [] σ H) (hlen : ∀ i ys σ H, Pv i ys σ H → ys.length = i)
    (hgo : ∀ i ys σ H, i < n → Pv i ys σ H → J.go i H) (hstop : ∀ ys σ H, Pv n ys σ H → J.stop n H)
    (hs : ∀ i ys σ H x H2, i < n → Pv i ys σ H → J.yld i H x H2 → g x σ H2 fun σ2 H3 => te σ2 H3 fun y H5 => Pv (i + 1) (ys ++ [y]) σ2 H5)
    (hd : ∀ ys σ H D, Pv n ys σ H → H D = none → Q (.ref D) (upd H D (.lst ys))) : CompW J g tNoIf te Q σ H := by
  refine ⟨fun i m ys σ H => m = n - i ∧ i ≤ n ∧ Pv i ys σ H, ⟨n, by simp, Nat.zero_le _, h0⟩, ?_⟩
  rintro i m ys σ H ⟨rfl, hi, p⟩
  by_cases hlt : i < n
  · exact .inr ⟨hgo i ys σ H hlt p, by rw [hlen _ _ _ _ p]; exact Nat.lt_of_lt_of_le hlt (Nat.le_trans hn (by decide)), fun ys' σ' H' => Pv (i + 1) ys' σ' H', fun ys' σ' H' p' => ⟨n - (i + 1), by omega, rfl, hlt, p'⟩, fun x H2 y => hs i ys σ H x H2 hlt p y⟩
  · obtain rfl : i = n := by omega
    exact .inl ⟨hstop ys σ H p, fun D hD => hd ys σ H D p hD⟩
/-- over a list that stays -/
theorem comp_list {K : PySem.W.Frag} {a : Addr} {xs : List V} {g : TG} {te : TE} {Q : VK} {σ : St} {H : Hp} (hn : xs.length ≤ 1000000) (Pv : Nat → List V → St → Hp → Prop) (h0 : Pv 0 [] σ H) (hlen : ∀ i ys σ H, Pv i ys σ H → ys.length = i)
    (hl : ∀ i ys σ H, i ≤ xs.length → Pv i ys σ H → SqL K H a xs)
    (hs : ∀ i ys σ H x, xs[i]? = some x → Pv i ys σ H → g x σ H fun σ2 H3 => te σ2 H3 fun y H5 => Pv (i + 1) (ys ++ [y]) σ2 H5)
    (hd : ∀ ys σ H D, Pv xs.length ys σ H → H D = none → Q (.ref D) (upd H D (.lst ys))) : CompW (Itl K a) g tNoIf te Q σ H :=
  comp_by hn Pv h0 hlen (fun i ys σ H h p => ⟨xs, xs[i], hl i ys σ H (Nat.le_of_lt h) p, by simp [h]⟩) (fun ys σ H p => ⟨xs, hl _ ys σ H (Nat.le_refl _) p, Nat.le_refl _⟩)
    (fun i ys σ H x H2 h p y => by obtain ⟨e, y⟩ := y; subst e; exact hs i ys σ _ x (y xs (hl i ys σ _ (Nat.le_of_lt h) p)) p) hd
end L2

namespace L2
open PySem PySem.Spec PyProof.Rows
/-- writes no dict of an object, frees nothing, calls nothing -/
def Kd {α : Type} : Sem α → Prop
  | .pure _ => True
  | .raise _ => True
  | .unsupported _ => True
  | .finish _ => True
  | .rule _ k => Kd (k ())
  | .at _ k => Kd (k ())
  | .load _ _ k => ∀ o, Kd (k o)
  | .update _ _ f k => (∀ o, (f o).dict = o.dict ∧ (f o).isFreed = o.isFreed) ∧ Kd (k ())
  | .alloc _ k => ∀ a, Kd (k a)
  | .loadIfAlive _ k => ∀ o, Kd (k o)
  | .point _ k => Kd (k ())
  | .register _ _ => False
  | .fresh k => ∀ t, Kd (k t)
  | .ask k => ∀ x, Kd (k x)
  | .choose _ _ k => ∀ x, Kd (k x)
  | .os _ _ _ => False
  | .call _ _ _ _ _ => False
  | .handled _ k => ∀ x, Kd (k x)
  | .newGen _ _ => False
  | .genState _ _ => False
  | .resume _ _ _ _ => False
  | .yield _ _ _ _ => False
  | .stack k => ∀ x, Kd (k x)
  | .fork _ _ => False
  | .thread k => ∀ x, Kd (k x)
  | .await _ _ _ _ _ => False
theorem Kd.bind {α β : Type} {m : Sem α} {f : α → Sem β} (hm : Kd m) (hf : ∀ a, Kd (f a)) : Kd (m >>= f) := by
  show Kd (m.bind f)
  induction m with
  | pure a => exact hf a
  | raise e => trivial
  | unsupported w => trivial
  | finish e => trivial
  | rule t k ih => exact ih () hm
  | «at» p k ih => exact ih () hm
  | load a p k ih => exact fun o => ih o (hm o)
  | update a p g k ih => exact ⟨hm.1, ih () hm.2⟩
  | alloc o k ih => exact fun a => ih a (hm a)
  | loadIfAlive a k ih => exact fun o => ih o (hm o)
  | point l k ih => exact ih () hm
  | register a k ih => exact hm
  | fresh k ih => exact fun t => ih t (hm t)
  | ask k ih => exact fun x => ih x (hm x)
  | choose s n k ih => exact fun x => ih x (hm x)
  | os q l k ih => exact hm
  | call c h g l k ih => exact hm
  | handled o k ih => exact fun x => ih x (hm x)
  | newGen c k ih => exact hm
  | genState g k ih => exact hm
  | resume g r l k ih => exact hm
  | yield v g l k ih => exact hm
  | stack k ih => exact fun x => ih x (hm x)
  | fork c k ih => exact hm
  | thread k ih => exact fun x => ih x (hm x)
  | await a t d l k ih => exact hm
/-- the object at e has the dict d -/
def DictIs (e : Addr) (d : Option Addr) (s : Shared) : Prop := ∃ o, s.heap.get? e = some o ∧ o.dict = d
theorem DictIs.push {e : Addr} {d : Option Addr} {s : Shared} (o : Obj) (h : DictIs e d s) : DictIs e d { s with heap := s.heap.push o } := by
  obtain ⟨u, hu, hd⟩ := h
  exact ⟨u, Heap.get?_push_of_some _ hu, hd⟩
theorem get_notFreed {h : Heap} {a : Addr} {o : Obj} (e : h.get? a = some o) : o.isFreed = false := by
  unfold Heap.get? at e
  split at e
  · cases e
  · rename_i x hx
    obtain ⟨c, d, dt, sl⟩ := o
    cases dt <;> first | rfl | skip
    exact (hx c d sl e).elim
theorem DictIs.update {e a : Addr} {d : Option Addr} {s : Shared} {f : Obj → Obj} (hf : ∀ o, (f o).dict = o.dict ∧ (f o).isFreed = o.isFreed) (h : DictIs e d s) : DictIs e d { s with heap := s.heap.update a f } := by
  obtain ⟨u, hu, hd⟩ := h
  by_cases ea : a = e
  · subst ea
    exact ⟨f u, Heap.get?_update_self f hu (by rw [(hf u).2]; exact get_notFreed hu), (hf u).1.trans hd⟩
  · exact ⟨u, (Heap.get?_update_other _ f ea).trans hu, hd⟩
theorem wp_kd {α : Type} {M : Model} {Γ : PySem.Ctx} {Q : α → Pos → Shared → Prop} {E : Value → Pos → Shared → Prop} {e : Addr} {d : Option Addr} (t : Sem α) : ∀ {p : Pos} {s : Shared}, Kd t → Sem.wp M Γ t Q E p s → DictIs e d s →
    Sem.wp M Γ t (fun a p s' => Q a p s' ∧ DictIs e d s') (fun x p s' => E x p s' ∧ DictIs e d s') p s := by
  induction t with
  | pure a => intro p s _ h i; rw [Sem.wp] at h ⊢; exact ⟨h, i⟩
  | raise x => intro p s _ h i; rw [Sem.wp] at h ⊢; exact ⟨h, i⟩
  | unsupported w => intro p s _ h i; rw [Sem.wp] at h; exact h.elim
  | finish x => intro p s _ h i; rw [Sem.wp] at h; exact h.elim
  | rule t k ih => intro p s hk h i; rw [Sem.wp] at h ⊢; exact ih () hk h i
  | «at» q k ih => intro p s hk h i; rw [Sem.wp] at h ⊢; exact ih () hk h i
  | load a q k ih => intro p s hk h i; rw [Sem.wp] at h ⊢; obtain ⟨o, e1, h⟩ := h; exact ⟨o, e1, ih o (hk o) h i⟩
  | update a q g k ih => intro p s hk h i; rw [Sem.wp] at h ⊢; exact ⟨h.1, ih () hk.2 h.2 (i.update hk.1)⟩
  | alloc o k ih => intro p s hk h i; rw [Sem.wp] at h ⊢; exact ih _ (hk _) h (i.push o)
  | loadIfAlive a k ih => intro p s hk h i; rw [Sem.wp] at h ⊢; exact ih _ (hk _) h i
  | point l k ih => intro p s hk h i; rw [Sem.wp] at h ⊢; exact ih () hk h i
  | register a k ih => intro p s hk; exact hk.elim
  | fresh k ih => intro p s hk h i; rw [Sem.wp] at h ⊢; exact ih _ (hk _) h i
  | ask k ih => intro p s hk h i; rw [Sem.wp] at h ⊢; exact ih _ (hk _) h i
  | choose q n k ih => intro p s hk h i; rw [Sem.wp] at h ⊢; exact ⟨h.1, ih _ (hk _) h.2 i⟩
  | os q l k ih => intro p s hk; exact hk.elim
  | call c h g l k ih => intro p s hk; exact hk.elim
  | handled o k ih => intro p s hk h i; rw [Sem.wp] at h ⊢; exact ih _ (hk _) h i
  | newGen c k ih => intro p s hk; exact hk.elim
  | genState g k ih => intro p s hk; exact hk.elim
  | resume g r l k ih => intro p s hk; exact hk.elim
  | yield v g l k ih => intro p s hk; exact hk.elim
  | stack k ih => intro p s hk h i; rw [Sem.wp] at h ⊢; exact ih _ (hk _) h i
  | fork c k ih => intro p s hk; exact hk.elim
  | thread k ih => intro p s hk h i; rw [Sem.wp] at h ⊢; exact ih _ (hk _) h i
  | await a t d l k ih => intro p s hk; exact hk.elim
theorem wpAny_kd {α : Type} {M : Model} {A : Around} {t : Sem α} {Q : α → Shared → Prop} {E : Value → Shared → Prop} {e : Addr} {d : Option Addr} {s : Shared} (hk : Kd t) (i : DictIs e d s) (h : wpAny M A t Q E s) :
    wpAny M A t (fun a s' => Q a s' ∧ DictIs e d s') (fun x s' => E x s' ∧ DictIs e d s') s := fun Γ p hΓ => wp_kd t hk (h Γ p hΓ) i
theorem kd_load (a : Addr) : Kd (load a) := fun _ => trivial
theorem kd_field (v : Value) (i : Nat) : Kd (field v i) := by
  unfold field fieldsOf
  refine Kd.bind ?_ fun vs => ?_
  · cases v <;> first | trivial | skip
    refine Kd.bind (kd_load _) fun o => ?_
    split <;> trivial
  · split <;> trivial
theorem mapFields_kd (f : Array Value → Array Value) (o : Obj) : (Obj.mapFields f o).dict = o.dict ∧ (Obj.mapFields f o).isFreed = o.isFreed := by
  obtain ⟨c, d, dt, sl⟩ := o
  cases dt <;> exact ⟨rfl, rfl⟩
theorem kd_setField (v : Value) (i : Nat) (x : Value) : Kd (setField v i x) := by
  unfold setField updateField
  cases v <;> first | trivial | skip
  refine Kd.bind (kd_load _) fun o => ?_
  split
  · split
    · exact ⟨mapFields_kd _, trivial⟩
    · trivial
  · trivial
theorem kd_setFlight (e : Value) (x : Option Addr) : Kd (setFlight e x) := by
  unfold setFlight
  refine Kd.bind (kd_field _ _) fun tb => ?_
  split
  · exact kd_setField _ _ _
  · trivial
theorem kd_stack : Kd (stack : Sem (List (Code × Pos))) := fun _ => trivial
theorem kd_readyFrames : ∀ l : List Env, Kd (readyFrames l)
  | [] => trivial
  | env :: outer => by
    unfold readyFrames
    split
    · refine Kd.bind (kd_load _) fun o => ?_
      split
      · trivial
      · refine Kd.bind ?_ fun _ => Kd.bind ?_ fun _ => Kd.bind ?_ fun _ => kd_readyFrames outer
        · unfold behindIsImport
          split
          · trivial
          · split
            · trivial
            · exact Kd.bind (kd_field _ _) fun _ => trivial
        · unfold keptBack
          split
          · split
            · trivial
            · exact Kd.bind (Kd.bind kd_stack fun _ => trivial) fun _ => trivial
          · trivial
        · exact ⟨fun o => ⟨rfl, by obtain ⟨c, d, dt, sl⟩ := o; cases dt <;> rfl⟩, trivial⟩
    · trivial
theorem kd_frameOf (env : Env) : Kd (PySem.frameOf env) := by
  unfold PySem.frameOf
  refine Kd.bind (Kd.bind kd_stack fun _ => trivial) fun l => Kd.bind ?_ fun o => ?_
  · unfold frameObject
    split
    · trivial
    · exact Kd.bind (kd_readyFrames _) fun _ => trivial
  · split <;> trivial
theorem kd_entryPlaceOf (f : Addr) (b : Bool) : Kd (entryPlaceOf f b) := by
  unfold entryPlaceOf
  refine Kd.bind kd_stack fun l => ?_
  split <;> trivial
theorem kd_made (x : String) (d : Data) : Kd (newObjAsIs (.type x) d none) := fun _ => trivial
theorem kd_newEntry (a b c d e : Value) (l : List Value) : Kd (EntryCells.newEntry a b c d e l) := by
  unfold EntryCells.newEntry newFields newObj
  dsimp only
  split <;> split <;> first | exact True.intro | exact kd_made _ _
theorem kd_noteFrame (e : Value) (env : Env) : Kd (noteFrame e env) := by
  unfold noteFrame
  split
  · refine Kd.bind (kd_field _ _) fun head => ?_
    have fin : ∀ (f : Addr) (b : Bool), Kd (do let a ← PySem.frameOf env; let pl ← entryPlaceOf f b; let x ← EntryCells.newEntry head a .none (rawInt f) .none pl; setField e 1 x) := fun f b =>
      Kd.bind (kd_frameOf env) fun _ => Kd.bind (kd_entryPlaceOf _ _) fun _ => Kd.bind (kd_newEntry _ _ _ _ _ _) fun _ => kd_setField _ _ _
    split
    · refine Kd.bind (kd_field _ _) fun x => ?_
      split
      · trivial
      · exact Kd.bind (kd_setField _ _ _) fun _ => fin _ _
    · exact fin _ _
  · trivial
theorem kd_leaving (env : Env) (e : Value) : Kd (leaving env e) := Kd.bind (kd_noteFrame e env) fun _ => kd_setFlight _ _
end L2

namespace L2
open PySem PySem.Spec PyProof.Rows

/-- an exception of the class cls stands at a, its traceback behind it; neither was there in h₀ -/
def Flies (h₀ : Heap) (H : Hp) (a : Addr) (cls : Value) (da : Option Addr) (h : Heap) : Prop :=
  ∃ oe vs T oT ts a0, h.get? a = some oe ∧ oe.cls = cls ∧ oe.data = .fields vs ∧ vs[0]? = some a0 ∧ vs[1]? = some (.ref T) ∧ T ≠ a ∧ h.get? T = some oT ∧ oT.data = .fields ts ∧ ts[3]? = some .none ∧
    h₀.get? a = none ∧ h₀.get? T = none ∧ H a = none ∧ H T = none ∧ oe.dict = da
/-- how an exception lies behind a call -/
def CXf (P : Program) (w : World) : CXT := fun outer H s E e s' => ∃ a cls da H', e = .ref a ∧ E cls da H' ∧ s'.os = s.os ∧ AllBare s'.gens ∧ Un (frs outer) [] H H' s.heap s'.heap ∧ HOk P w H' s'.heap ∧ Flies s.heap H' a cls da s'.heap
theorem passE0 {P : Program} {w : World} {X : Cx} : Passes (CXf P w) X E0 := fun _ _ _ _ _ _ _ ⟨_, _, _, _, _, f, _⟩ => f.elim

/-- the context of a def's body -/
structure IsDef (X : Cx) : Prop where
  st : X.stack = X.env :: X.outer
  fr : X.env.frame = some X.env.locals
  ex : X.ex = []

/-- a record of the exception: no one else's -/
def FlyOk (X : Cx) (pins : List (Addr × Obj)) (H : Hp) (b : Addr) : Prop :=
  H b = none ∧ X.s₀.heap.get? b = none ∧ b ≠ X.env.locals ∧ (∀ x c, X.env.cells.lookup x = some c → c ≠ b) ∧ ∀ p ∈ X.pn ++ pins, p.1 ≠ b

section
variable {X : Cx} {pins : List (Addr × Obj)} {σ : St} {H : Hp} {s : Shared} {h' : Heap} {bad : List Addr}

theorem ns_slots {h h' : Heap} {a : Addr} {m : Str → Option Value} (hn : h.Ns a m) (k : ∀ o, h.get? a = some o → ∃ q, h'.get? a = some { o with slots := q }) : h'.Ns a m := by
  obtain ⟨o, es, ep, e, r⟩ := hn
  obtain ⟨q, e'⟩ := k o e
  exact ⟨_, es, ep, e', r⟩
theorem cell_slots {h h' : Heap} {c : Addr} {v : Option Value} (z : h.IsCell c v) (k : ∀ o, h.get? c = some o → ∃ q, h'.get? c = some { o with slots := q }) : h'.IsCell c v := by
  obtain ⟨o, e, d⟩ := z
  obtain ⟨q, e'⟩ := k o e
  exact ⟨_, e', d⟩

/-- an exception has passed: the frames' slots and the records at bad may have changed -/
theorem Inv.fly (I : Inv X pins σ H s) (k : ∀ b o, s.heap.get? b = some o → b ∉ bad → b ∉ frs X.stack → h'.get? b = some o) (sl : ∀ b o, s.heap.get? b = some o → b ∈ frs X.stack → ∃ q, h'.get? b = some { o with slots := q })
    (hb : ∀ b ∈ bad, FlyOk X pins H b) : Inv X pins σ H { s with heap := h' } := by
  have any : ∀ b o, s.heap.get? b = some o → b ∉ bad → ∃ q, h'.get? b = some { o with slots := q } := fun b o e nb => by
    by_cases hf : b ∈ frs X.stack
    · exact sl b o e hf
    · exact ⟨o.slots, k b o e nb hf⟩
  have fsub : ∀ b, b ∈ X.fs → b ∈ frs X.stack := fun b hb => by
    rcases I.ok.stk with e | ⟨e, _⟩
    · rw [e]; exact hb
    · rw [e]
      obtain ⟨env, he, hf⟩ := List.mem_filterMap.mp hb
      exact List.mem_filterMap.mpr ⟨env, List.mem_cons_of_mem _ he, hf⟩
  have old : ∀ b o, X.s₀.heap.get? b = some o → b ∉ bad := fun b o e z => by rw [(hb b z).2.1] at e; cases e
  have nst : ∀ b o, X.s₀.heap.get? b = some o → b ∉ X.fs → b ∉ frs X.stack := fun b o e nf z => by
    rcases List.mem_cons.mp (I.stkSub b z) with q | q
    · exact Nat.ne_of_lt (Nat.lt_of_lt_of_le (Heap.lt_size e) I.ok.above) q
    · exact nf q
  obtain ⟨m, hn, hl⟩ := I.loc
  have hL : X.env.locals ∉ bad := fun z => (hb _ z).2.2.1 rfl
  have hC : ∀ x c, X.env.cells.lookup x = some c → c ∉ bad := fun x c e z => (hb _ z).2.2.2.1 x c e rfl
  refine ⟨I.ok, I.os, I.bare, ⟨fun b o e n nf nx => k b o (I.base.keep b o e n nf nx) (old b o e) (nst b o e nf), fun b o e n hf nx => ?_, I.base.free, fun b o e nx => ?_, I.base.tups, I.base.frzs, I.base.tbls⟩,
    ⟨m, ns_slots hn fun o e => any _ o e hL, fun i x v e1 e2 e3 => ?_⟩, fun x c e => ?_, I.free, I.freeC, fun p hp => ?_, ?_, I.len⟩
  · obtain ⟨q, e1⟩ := I.base.slot b o e n hf nx
    obtain ⟨q2, e2⟩ := sl b _ e1 (fsub b hf)
    exact ⟨q2, e2⟩
  · obtain ⟨o1, e1⟩ := I.base.there b o e nx
    obtain ⟨q, e2⟩ := any b o1 e1 (old b o e)
    exact ⟨_, e2⟩
  · obtain ⟨u, ru, q⟩ := hl i x v e1 e2 e3
    refine ⟨u, ru, ?_⟩
    rcases q with q | ⟨kk, c, e, z⟩
    · exact .inl q
    · exact .inr ⟨kk, c, e, cell_slots z fun o e' => any c o e' (hC x c e)⟩
  · obtain ⟨v, z⟩ := I.cell x c e
    exact ⟨v, cell_slots z fun o e' => any c o e' (hC x c e)⟩
  · obtain ⟨e, n, ne, nf, d⟩ := I.pin p hp
    refine ⟨k _ _ e (fun z => (hb _ z).2.2.2.2 p hp rfl) fun z => ?_, n, ne, nf, d⟩
    rcases List.mem_cons.mp (I.stkSub _ z) with q | q
    · exact ne q
    · exact nf q
  · intro b ob e
    have good : ∀ c u, H c = some u → c ∉ bad ∧ c ∉ frs X.stack := fun c u q => ⟨fun z => (by rw [(hb c z).1] at q; cases q), fun z => (by rw [I.stkFree c z] at q; cases q)⟩
    refine (I.hok b ob e).stay (fun c u hc q => ?_) (fun _ q => q) fun _ _ q => q
    rcases hc with rfl | hc
    · exact k _ u q (good _ _ e).1 (good _ _ e).2
    · exact k _ u q (good _ _ hc).1 (good _ _ hc).2

/-- the hidden base: all but the frames and the exception's records -/
abbrev bareOf (h : Heap) (l : List Addr) : Heap := PySem.W.hideAll h l

/-- an exception that stands at a in X's frame: its records are no one's -/
structure XIn (X : Cx) (pins : List (Addr × Obj)) (σ : St) (H : Hp) (a : Addr) (cls : Value) (da : Option Addr) (s : Shared) : Prop where
  inv : Inv X pins σ H s
  fl : ∃ oe vs T oT ts a0, s.heap.get? a = some oe ∧ oe.cls = cls ∧ oe.data = .fields vs ∧ vs[0]? = some a0 ∧ vs[1]? = some (.ref T) ∧ T ≠ a ∧ s.heap.get? T = some oT ∧ oT.data = .fields ts ∧ ts[3]? = some .none ∧
    FlyOk X pins H a ∧ FlyOk X pins H T ∧ oe.dict = da

theorem objOk_there {P : Program} {w : World} {h : Heap} {a : Addr} {o : HO} (x : ObjOk P w H h a o) : ∃ ob, h.get? a = some ob := by
  cases o with
  | lst _ => exact let ⟨_, _, _, _, e⟩ := x; ⟨_, e⟩
  | tup _ => exact let ⟨_, _, _, _, e, _⟩ := x; ⟨_, e⟩
  | dK _ => exact let ⟨_, _, _, _, _, _, _, e, _⟩ := x; ⟨_, e⟩
  | dT _ => exact let ⟨_, _, _, _, _, _, _, e, _⟩ := x; ⟨_, e⟩
  | set _ _ => exact let ⟨_, _, _, _, e, _⟩ := x; ⟨_, e⟩
  | ins _ _ _ => exact let ⟨_, _, _, e, _⟩ := x; ⟨_, e⟩
  | own _ => exact x
  | xd _ => exact let ⟨_, ⟨_, _, _, e, _⟩, _⟩ := x; ⟨_, e⟩
  | rng _ _ => exact let ⟨_, _, _, e⟩ := x; ⟨_, e⟩
  | frz _ _ => exact ⟨_, x.1⟩
  | tbl _ => exact ⟨_, x⟩
  | met _ _ => exact ⟨_, x⟩
  | ext _ => exact x.2.1
theorem untracked_of {P : Program} {w : World} {h : Heap} {b : Addr} (ok : HOk P w H h) (e : h.get? b = none) : H b = none := by
  cases q : H b with
  | none => rfl
  | some u =>
    obtain ⟨ob, z⟩ := objOk_there (ok b u q)
    rw [e] at z
    cases z

theorem none_old (I : Inv X pins σ H s) (d : IsDef X) {b : Addr} (e : s.heap.get? b = none) : X.s₀.heap.get? b = none := by
  cases q : X.s₀.heap.get? b with
  | none => rfl
  | some o =>
    obtain ⟨o', e'⟩ := I.base.there b o q (by rw [d.ex]; simp)
    rw [e] at e'; cases e'

/-- what is new behind a state of the body is no one's there -/
theorem flyOk_new (I : Inv X pins σ H s) (d : IsDef X) {H' : Hp} {b : Addr} (e : s.heap.get? b = none) (hn : H' b = none) : FlyOk X pins H' b := by
  refine ⟨hn, none_old I d e, fun q => ?_, fun x c hc q => ?_, fun p hp q => ?_⟩
  · obtain ⟨m, ⟨o, _, _, ho, _⟩, _⟩ := I.loc
    rw [← q, e] at ho; cases ho
  · obtain ⟨v, o, ho, _⟩ := I.cell x c hc
    rw [q, e] at ho; cases ho
  · have := (I.pin p hp).1
    rw [q, e] at this; cases this

/-- an exception has come out of a call -/
theorem XIn.ofCall {E : XK} {e : Value} {s' : Shared} (d : IsDef X) (I : Inv X pins σ H s) (h : CXf X.prog X.w X.stack H s E e s') : ∃ a cls da H', e = .ref a ∧ E cls da H' ∧ XIn X pins σ H' a cls da s' := by
  obtain ⟨a, cls, da, H', ee, hE, hos, hg, un, hok, oe, vs, T, oT, ts, a0, f1, f2, f3, f4, f5, f6, f7, f8, f9, n1, n2, n3, n4, n5⟩ := h
  exact ⟨a, cls, da, H', ee, hE, I.call' (ch := []) hos un hok hg (fun b z => absurd z (by simp)), oe, vs, T, oT, ts, a0, f1, f2, f3, f4, f5, f6, f7, f8, f9, flyOk_new I d n1 n3, flyOk_new I d n2 n4, n5⟩

theorem frames_hide {h base : Heap} {l : List Env} {as : List Addr} (hl : h.FunFrames base l) (hin : ∀ b ∈ frs l, b ∈ as) : h.FunFrames (bareOf h as) l :=
  PySem.W.funFrames_hide hl fun env he b hb => hin b (List.mem_filterMap.mpr ⟨env, he, hb⟩)

/-- its records, hidden -/
theorem XIn.flying {a : Addr} {cls : Value} {da : Option Addr} (x : XIn X pins σ H a cls da s) : ∃ T a0, (∀ b ∈ [a, T], FlyOk X pins H b) ∧ DictIs a da s ∧ Heap.FlyingW (bareOf s.heap ([a, T] ++ frs X.stack)) X.stack a cls a0 s.heap := by
  obtain ⟨I, oe, vs, T, oT, ts, a0, f1, f2, f3, f4, f5, f6, f7, f8, f9, n1, n2, n3⟩ := x
  refine ⟨T, a0, fun b hb => ?_, ⟨oe, f1, n3⟩, fun b o q => PySem.W.of_hideAll _ q, PySem.W.hideAll_none _ (by simp), frames_hide I.stack (fun b hb => by simp [hb]), oe, vs, T, oT, ts, f1, ⟨f2, f4⟩, f3, f5, PySem.W.hideAll_none _ (by simp), f6, f7, f8, f9⟩
  simp only [List.mem_cons, List.not_mem_nil, or_false] at hb
  rcases hb with rfl | rfl
  · exact n1
  · exact n2

/-- the record that a traceback begins with -/
theorem traceback_ok {T' : Addr} {ts : Array Value} {oT : Obj} {bad : List Addr} (I : Inv X pins σ H s) (d : IsDef X) (hb : ∀ b ∈ bad, FlyOk X pins H b) (slot : ∀ b o, s.heap.get? b = some o → b ∈ frs X.stack → ∃ q, h'.get? b = some { o with slots := q })
    (bT : (bareOf s.heap (bad ++ frs X.stack)).get? T' = none) (f7 : h'.get? T' = some oT) (f8 : oT.data = .fields ts) : FlyOk X pins H T' := by
  cases e : s.heap.get? T' with
  | none => exact flyOk_new I d e (untracked_of I.hok e)
  | some o =>
    have hm : T' ∈ bad ++ frs X.stack := by
      refine Classical.byContradiction fun hn => ?_
      rw [PySem.W.hideAll_get _ e hn] at bT
      cases bT
    rcases List.mem_append.mp hm with hm | hm
    · exact hb _ hm
    · obtain ⟨_, o', e', nf⟩ := I.stack.mem hm
      obtain ⟨q, e2⟩ := slot T' o' e' hm
      rw [f7] at e2
      cases e2
      exact absurd f8 (nf ts)

theorem slot_of (I : Inv X pins σ H s) (up : s.heap.UpToSlots h') : ∀ b o, s.heap.get? b = some o → b ∈ frs X.stack → ∃ q, h'.get? b = some { o with slots := q } := fun b o e hb => by
  obtain ⟨_, o', e', nf⟩ := I.stack.mem hb
  rw [e] at e'; cases e'
  exact up b o e nf

/-- behind a step of the exception's way: the body's state, the exception's place again -/
theorem XIn.on {a : Addr} {cls a0 : Value} {da : Option Addr} {l : List Env} {bad : List Addr} (x : Inv X pins σ H s) (d : IsDef X) (hb : ∀ b ∈ bad, FlyOk X pins H b) (ha : a ∈ bad)
    (hf : Heap.FlyingW (bareOf s.heap (bad ++ frs X.stack)) l a cls a0 h') (up : s.heap.UpToSlots h') (hd : DictIs a da { s with heap := h' }) : XIn X pins σ H a cls da { s with heap := h' } := by
  obtain ⟨st, _, fr, oe, vs, T', oT, ts, f1, ⟨f2, f4⟩, f3, f5, bT, f6, f7, f8, f9⟩ := hf
  have slot := slot_of x up
  have keep : ∀ b o, s.heap.get? b = some o → b ∉ bad → b ∉ frs X.stack → h'.get? b = some o := fun b o e nb nf => st b o (PySem.W.hideAll_get _ e (by
    rw [List.mem_append, not_or]
    exact ⟨nb, nf⟩))
  obtain ⟨o2, e2, hd2⟩ := hd
  have e3 : some oe = some o2 := f1.symm.trans e2
  cases e3
  exact ⟨x.fly (bad := bad) keep slot hb, oe, vs, T', oT, ts, a0, f1, f2, f3, f4, f5, f6, f7, f8, f9, hb a ha, traceback_ok (bad := bad) x d hb slot bT f7 f8, hd2⟩

/-- .. and the frame -/
theorem XIn.leave {E : XK} {a : Addr} {cls : Value} {da : Option Addr} (d : IsDef X) (x : XIn X pins σ H a cls da s) (hE : E cls da H) : CXf X.prog X.w X.outer X.H₀ X.s₀ E (.ref a) s := by
  obtain ⟨I, oe, vs, T, oT, ts, a0, f1, f2, f3, f4, f5, f6, f7, f8, f9, n1, n2, n3⟩ := x
  refine ⟨a, cls, da, H, rfl, hE, I.os, I.bare, ?_, I.hok, oe, vs, T, oT, ts, a0, f1, f2, f3, f4, f5, f6, f7, f8, f9, n1.2.1, n2.2.1, n1.1, n2.1, n3⟩
  have u := I.base
  rw [d.ex] at u
  exact u
end

/-- a new exception meets the body's wish -/
def Lands (X : Cx) (E : XK) : Prop := ∀ (pins : List (Addr × Obj)) (σ : St) (H : Hp) (s : Shared) (a : Addr) (cls : Value) (da : Option Addr) (oe : Obj) (vs : Array Value) (a0 : Value), Inv X pins σ H s → s.heap.get? a = some oe → oe.cls = cls → oe.data = .fields vs → vs[1]? = some .none → vs[0]? = some a0 → oe.dict = da →
  FlyOk X pins H a → E cls da H → X.xe (.ref a) s

section
variable {P : Program} {w : World} {K : PySem.W.Frag} {mg : Str → Option Value} {base : Heap} {N : List Str} {qual : Str} {scope : Scope} {f : Addr} {cd : Value} {A : Around} {outer : List Env} {s : Shared} {H : Hp} {E : XK}
theorem isDef_cxOf : IsDef (cxOf (CXf P w) P w K mg base N qual scope f cd A outer s H E) := ⟨rfl, rfl, rfl⟩
theorem passX : Passes (CXf P w) (cxOf (CXf P w) P w K mg base N qual scope f cd A outer s H E) E := by
  intro pins σ H1 s1 e s' I h
  obtain ⟨a, cls, da, H', rfl, hE, x⟩ := XIn.ofCall isDef_cxOf I h
  obtain ⟨T, a0, hb, hd, fl⟩ := x.flying
  have z := wpAny_kd (M := model P w) (E := fun _ _ => False) (kd_leaving _ (.ref a)) hd (wpAny_leaves_onW (Q := fun _ s2 => ∃ h', s2 = { s' with heap := h' } ∧ Heap.FlyingW (bareOf s'.heap ([a, T] ++ frs (cxOf (CXf P w) P w K mg base N qual scope f cd A outer s H E).stack)) outer a cls a0 h' ∧ s'.heap.UpToSlots h') x.inv.ok.frames rfl fl fun h' f2 up => ⟨h', rfl, f2, up⟩)
  refine wpAny_mono z (fun _ s2 q => ?_) (fun _ _ q => q.1.elim)
  obtain ⟨⟨h', rfl, f2, up⟩, hd2⟩ := q
  exact XIn.leave isDef_cxOf (XIn.on x.inv isDef_cxOf hb (by simp) f2 up hd2) hE
theorem landX : Lands (cxOf (CXf P w) P w K mg base N qual scope f cd A outer s H E) E := by
  intro pins σ H1 s1 a cls da oe vs a0 I he hc hd h1 h0 hda na hE
  subst hc
  have hb : ∀ b ∈ [a], FlyOk (cxOf (CXf P w) P w K mg base N qual scope f cd A outer s H E) pins H1 b := fun b z => by rw [List.mem_singleton.mp z]; exact na
  have hen : (bareOf s1.heap ([a] ++ frs (cxOf (CXf P w) P w K mg base N qual scope f cd A outer s H E).stack)).get? a = none := PySem.W.hideAll_none _ (by simp)
  have z := wpAny_kd (M := model P w) (E := fun _ _ => False) (kd_leaving _ (.ref a)) (show DictIs a da s1 from ⟨oe, he, hda⟩) (wpAny_leaving_firstW (base := bareOf s1.heap ([a] ++ frs (cxOf (CXf P w) P w K mg base N qual scope f cd A outer s H E).stack)) (Q := fun _ s2 => ∃ h', s2 = { s1 with heap := h' } ∧ Heap.FlyingW (bareOf s1.heap ([a] ++ frs (cxOf (CXf P w) P w K mg base N qual scope f cd A outer s H E).stack)) outer a oe.cls a0 h' ∧ s1.heap.UpToSlots h') I.ok.frames (frames_hide I.stack fun b hb => List.mem_append_right _ hb) rfl he (fun b o q => PySem.W.of_hideAll _ q) hen hd h1 h0
    fun h' ⟨k1, ⟨_, _, k2⟩, k3, k4⟩ => ⟨h', rfl, ⟨k1, hen, k2, k3⟩, k4⟩)
  refine wpAny_mono z (fun _ s2 q => ?_) (fun _ _ q => q.1.elim)
  obtain ⟨⟨h', rfl, f2, up⟩, hd2⟩ := q
  exact XIn.leave isDef_cxOf (XIn.on I isDef_cxOf hb (by simp) f2 up hd2) hE
theorem ownX : PassesOwn (model P w) (cxOf (CXf P w) P w K mg base N qual scope f cd A outer s H E).A (cxOf (CXf P w) P w K mg base N qual scope f cd A outer s H E).env (cxOf (CXf P w) P w K mg base N qual scope f cd A outer s H E).xe := PassesOwn.leaving
end

/-- an own class of exceptions under ValueError, without an __init__ -/
def ExcCls (K : PySem.W.Frag) (C : Addr) : Prop := PySem.W.excIn K C [.type "ValueError", .type "Exception", .type "BaseException", .type "object"] "ValueError.__new__" = true

theorem excObj {K : PySem.W.Frag} {h : Heap} {C : Addr} (X : K.In h) (q : ExcCls K C) : ∃ bm N nm qn bs hdct sn sub ab col dd k0 k1 k2 k3 k5 mN, h.get? C = some (excClassObj nm qn C N bs bm hdct sn sub ab col dd k0 k1 k2 k3 k5 "ValueError.__new__") ∧ h.Ns N mN ∧ mN "__init__" = none ∧
    OwnTail h [.type "ValueError", .type "Exception", .type "BaseException", .type "object"] bm := by
  unfold ExcCls PySem.W.excIn at q
  split at q
  · rename_i dd cd sl ho
    split at q
    · rename_i C' bm k0 k1 k2 k3 n k5 hm hs
      simp only [Bool.and_eq_true, beq_iff_eq, Bool.not_eq_true'] at q
      obtain ⟨⟨⟨⟨⟨rfl, rfl⟩, hdel⟩, ht⟩, hok⟩, hni⟩ := q
      obtain ⟨nm, bs, mro, ns, qn, hd, sn, sub, ab, col, del⟩ := cd
      dsimp only at hm hdel hok hni
      subst hm hdel
      have hsl : sl = #[k0, k1, k2, k3, some (.builtin "ValueError.__new__"), k5] := by
        obtain ⟨l⟩ := sl
        simp only at hs
        rw [hs]
      subst hsl
      exact ⟨bm, ns, nm, qn, bs, hd, sn, sub, ab, col, dd, k0, k1, k2, k3, k5, _, X _ _ ho, .of_isNs (PySem.W.isNs_of_in X hok), PySem.W.nsMap_none_of_in X hok hni, PySem.W.tail_of_in X ht⟩
    · cases q
  · cases q

def tRaise (t : TA) (C : Addr) (E : XK) : TS := fun _ σ H => t σ H fun vs H1 => vs.length ≤ 10 ∧ E (.ref C) none H1
section
variable {X : Cx}
theorem ps_raise (d : IsDef X) {x : Str} {np cpos pos : Pos} {e : Expr} {es : List Expr} {t : TA} {C : Addr} {E : XK} (O : ExcCls X.K C) (hc : X.calm = true) (hE : Lands X E) (hg : Gl X x) (hm : X.mg x = some (.ref C)) (ha : PA X (e :: es) t)
    (he : starEach (e :: es) X.env = (false, eval e X.env) :: starEach es X.env := by rfl) (hpl : (backTo cpos (starEach es X.env)).any (·.1) = false := by rfl) (hdb : (x == ("__debug__" : Str)) = false := by decide) :
    PS X (.Raise (some (.Call (.Name x np) (e :: es) [] cpos)) none pos) (tRaise t C E) := by
  intro pins s σ H D I h
  obtain ⟨bm, N, nm, qn, bs, hdct, sn, sub, ab, col, dd, k0, k1, k2, k3, k5, mN, hC, hN, hni, TL⟩ := excObj I.kIn O
  refine wpAny_Raise_call_subT (C := C) (nm := nm) (q := qn) (N := N) (bs := bs) (bm := bm) (hdct := hdct) (sn := sn) (sub := sub) (ab := ab) (col := col) (dd := dd) (k0 := k0) (k1 := k1) (k2 := k2) (k3 := k3) (k5 := k5) (mN := mN)
    PySem.F.excBase_ValueError (TL.hasType PySem.F.excBase_ValueError.hasBase) (I.ok.hd hc) ?_ hni (ld_glob I hg hm ⟨rfl, ?_⟩ hdb)
  · rw [he]
    show (false || (backTo cpos (starEach es X.env)).any (·.1)) = false
    rw [hpl]; rfl
  · have ha' := ha cpos pins s σ H _ I h
    rw [he] at ha' ⊢
    refine Calls.evalArgs_plain (wpAny_mono ha' (fun us s2 q => ?_) fun _ _ y => y)
    obtain ⟨vs, H2, I2, r, hlen, hEE⟩ := q
    obtain ⟨bm', N', nm', qn', bs', hdct', sn', sub', ab', col', dd', k0', k1', k2', k3', k5', mN', hC', hN', hni', TL'⟩ := excObj I2.kIn O
    have kb : ∀ b o, X.base.get? b = some o → s2.heap.get? b = some o := I2.bk
    obtain ⟨bm1, N1, nm1, qn1, bs1, hdct1, sn1, sub1, ab1, col1, dd1, k01, k11, k21, k31, k51, mN1, hC1, hN1, hni1, TL1⟩ := excObj I.ok.mod.kin O
    have e1 := (I.bk _ _ hC1).symm.trans hC
    injection e1 with e1
    injection e1 with c1 c2 c3 c4
    injection c3 with c3
    injection c3 with d1 d2 d3 d4 d5 d6 d7 d8 d9 d10 d11
    subst d4
    injection d3 with d31 d32
    subst d32
    have hmN : mN = mN1 := by
      obtain ⟨o1, es1, ep1, ho1, hd1, hk1, hf1⟩ := hN
      obtain ⟨o2, es2, ep2, ho2, hd2, hk2, hf2⟩ := hN1
      have := I.bk _ _ ho2
      rw [ho1] at this
      cases this
      rw [hd1] at hd2
      cases hd2
      funext n
      rw [← hf1, ← hf2]
    subst hmN
    refine ⟨rfl, ?_, ?_, hN1.keeps kb, TL1.keeps kb, fun h1 a hx => ?_⟩
    · have := r.length
      exact Nat.le_trans (by omega : us.length ≤ 10) (by decide)
    · have h0 := I.bk _ _ hC1
      rw [hC] at h0
      have h1 := kb _ _ hC1
      rw [← h0] at h1
      exact h1
    · obtain ⟨t0, he, htn, ht⟩ := hx.there
      exact hE pins σ H2 { s2 with heap := h1 } a _ none _ _ (.ref t0) (I2.kept (t' := s2.toks) hx.keeps) he rfl rfl rfl rfl rfl (flyOk_new I2 d hx.new (untracked_of I2.hok hx.new)) hEE
end

section
variable {P : Program} {w : World} {K : PySem.W.Frag} {mg : Str → Option Value} {base : Heap}
theorem Fun.okX {x qual : Str} {st : Stmt} {f : Addr} {fd : FuncData} {N ps : List Str} {k : Nat} {sp : Sp} (F : Fun K x qual st f fd) (S : FnScope N ps (defScope st)) (len : ∀ vs H Q E, sp vs H Q E → vs.length = ps.length)
    (hbody : ∀ (cdv : Value) (A : Around) (outer : List Env) (s : Shared) (H : Hp) (vs : List V) (Q : VK) (E : XK), Room k (A.deeper (envOfC qual (defScope st) s.heap.objs.size f cdv)) → sp vs H Q E →
      ∃ t, PSs (cxOf (CXf P w) P w K mg base N qual (defScope st) f cdv A outer s H E) (defBody st) t ∧ t { nx := fun _ H' => Q .non H', rt := Q } (start N vs) H) : FnOk P w K mg base (CXf P w) (k + 1) f fd ps sp := by
  obtain ⟨oc, od, kV, doc, pm, an, cdv, ct, osl, rfl, lk, hcd⟩ := F.ex
  exact fn_of lk hcd S len fun A outer s H vs Q E hr hsp => hbody cdv A outer s H vs Q E hr hsp
end
end L2

namespace L2
open PySem PySem.Spec PyProof.Rows
section
variable {X : Cx}
/-- isinstance(x, T), T a built-in type -/
theorem call_isinst : CallR X (.builtin "isinstance") (fun xs H Q => ∃ x n t b, xs = [x, .ty n] ∧ TyOf X.K H x t ∧ PySem.W.kitOne X.K t (.type n) = some b ∧ Q (.bl b) H) := by
  intro pins s σ H xs us Q I r h
  obtain ⟨x, n, t, b, rfl, ty, e, q⟩ := h
  obtain ⟨u, w, rfl, ru, rw'⟩ := vals2 r
  cases rw'
  exact isinst_ok I ru ty e fun tk => ⟨.bl b, H, I.tok tk, rfl, q⟩
def rEqL (K : PySem.W.Frag) (neg : Bool) : R2 := fun x y H Q => ∃ (a b : Addr) (ns ms : List Int), x = .ref a ∧ y = .ref b ∧ SqL K H a (ns.map V.int) ∧ SqL K H b (ms.map V.int) ∧ Q (.bl (if neg then !decide (ns = ms) else decide (ns = ms))) H
theorem op_neL (hu : X.A.units + 64 < cLine) : OpR X (compareOp .NotEq) (rEqL X.K true) := by
  intro pins s σ H x y v u Q I rx ry h
  obtain ⟨a, b, ns, ms, rfl, rfl, ha, hb, q⟩ := h
  cases rx
  cases ry
  obtain ⟨its, r1, p1, _⟩ := I.list ha
  obtain ⟨jts, r2, p2, _⟩ := I.list hb
  exact PySem.W.ne_intsK p1.isList (intsAre_of r1) p2.isList (intsAre_of r2) hu ⟨.bl _, H, I, rfl, q⟩
def rBest (K : PySem.W.Frag) (R : Int → Int → Prop) : List V → Hp → VK → Prop := fun xs H Q => ∃ (a : Addr) (ns : List Int), xs = [.ref a] ∧ SqL K H a (ns.map V.int) ∧ 0 < ns.length ∧ ∀ M, M ∈ ns → (∀ x ∈ ns, R x M) → Q (.int M) H
/-- all, any of a list of bools -/
theorem bools_walk {prog : Program} {w : World} {A : Around} {bs : List Bool} {its : List Value} (r : Vals (bs.map V.bl) its) : TruthOf prog w A (fun i v => its.toArray[i]? = some v) (fun i => bs.getD i false) := by
  intro i v s Q E hv hq
  have hv' : its[i]? = some v := by simpa using hv
  have hl := r.length
  rw [List.length_map] at hl
  have hi : i < bs.length := by rw [hl]; exact (List.getElem?_eq_some_iff.mp hv').1
  obtain ⟨u, hu, ru⟩ := r.get (i := i) (x := V.bl (bs[i])) (by rw [List.getElem?_map, List.getElem?_eq_getElem hi]; rfl)
  rw [hv'] at hu
  cases hu
  cases ru
  have e : bs.getD i false = bs[i] := by rw [List.getD_eq_getElem?_getD, List.getElem?_eq_getElem hi]; rfl
  simp only [e] at hq
  exact wpAny_pure hq
theorem range_all {bs : List Bool} : (List.range bs.length).all (fun i => bs.getD i false) = bs.all id := by
  have e : (List.range bs.length).map (fun i => bs.getD i false) = bs := by
    apply List.ext_getElem?
    intro i
    rw [List.getElem?_map]
    by_cases h : i < bs.length
    · rw [List.getElem?_range h, List.getElem?_eq_getElem h]
      simp [List.getD_eq_getElem?_getD, h]
    · rw [List.getElem?_eq_none (by simpa using h), List.getElem?_eq_none (by simpa using h)]
      rfl
  conv => rhs; rw [← e]
  rw [List.all_map]
  rfl
theorem range_any {bs : List Bool} : (List.range bs.length).any (fun i => bs.getD i false) = bs.any id := by
  have e : (List.range bs.length).map (fun i => bs.getD i false) = bs := by
    apply List.ext_getElem?
    intro i
    rw [List.getElem?_map]
    by_cases h : i < bs.length
    · rw [List.getElem?_range h, List.getElem?_eq_getElem h]
      simp [List.getD_eq_getElem?_getD, h]
    · rw [List.getElem?_eq_none (by simpa using h), List.getElem?_eq_none (by simpa using h)]
      rfl
  conv => rhs; rw [← e]
  rw [List.any_map]
  rfl
theorem call_allL (hc : X.calm = true) : CallR X (.builtin "all") (fun xs H Q => ∃ (a : Addr) (bs : List Bool), xs = [.ref a] ∧ SqL X.K H a (bs.map V.bl) ∧ Q (.bl (bs.all id)) H) := by
  intro pins s σ H xs us Q I r h
  obtain ⟨a, bs, rfl, hq, q⟩ := h
  obtain ⟨u, rfl, ru⟩ := vals1 r
  cases ru
  obtain ⟨its, rv, p, _⟩ := I.list hq
  have hlen : its.length = bs.length := by have := rv.length; rw [List.length_map] at this; exact this.symm
  have hlt : a < s.heap.objs.size := by obtain ⟨o, e, _⟩ := p.isList; exact Heap.lt_size e
  refine call_all_walk (wpAny_pyIter_list p.isList ?_)
  refine ⟨_, _, _, _, _, _, fun i => bs.getD i false, rfl, Walks.list (A := X.A.in1) (I.ok.hd hc) s.heap.objs.size a (Nat.ne_of_lt hlt) its.toArray, ⟨⟨_, Heap.get?_push_size _ rfl, rfl, rfl⟩, p.isList.at fun o e => Heap.get?_push_of_some _ e⟩, bools_walk rv, fun h' tk hk => ?_⟩
  refine ⟨.bl (bs.all id), H, I.kept fun b o e => hk b o (fun z => ?_) (Heap.get?_push_of_some _ e), ?_, q⟩
  · rw [List.mem_singleton.mp z] at e
    exact absurd (Heap.lt_size e) (Nat.lt_irrefl _)
  · show Value.bool _ = Value.bool _
    rw [List.size_toArray, hlen, range_all]
theorem call_anyL (hc : X.calm = true) : CallR X (.builtin "any") (fun xs H Q => ∃ (a : Addr) (bs : List Bool), xs = [.ref a] ∧ SqL X.K H a (bs.map V.bl) ∧ Q (.bl (bs.any id)) H) := by
  intro pins s σ H xs us Q I r h
  obtain ⟨a, bs, rfl, hq, q⟩ := h
  obtain ⟨u, rfl, ru⟩ := vals1 r
  cases ru
  obtain ⟨its, rv, p, _⟩ := I.list hq
  have hlen : its.length = bs.length := by have := rv.length; rw [List.length_map] at this; exact this.symm
  have hlt : a < s.heap.objs.size := by obtain ⟨o, e, _⟩ := p.isList; exact Heap.lt_size e
  refine call_any_walk (wpAny_pyIter_list p.isList ?_)
  refine ⟨_, _, _, _, _, _, fun i => bs.getD i false, rfl, Walks.list (A := X.A.in1) (I.ok.hd hc) s.heap.objs.size a (Nat.ne_of_lt hlt) its.toArray, ⟨⟨_, Heap.get?_push_size _ rfl, rfl, rfl⟩, p.isList.at fun o e => Heap.get?_push_of_some _ e⟩, bools_walk rv, fun h' tk hk => ?_⟩
  refine ⟨.bl (bs.any id), H, I.kept fun b o e => hk b o (fun z => ?_) (Heap.get?_push_of_some _ e), ?_, q⟩
  · rw [List.mem_singleton.mp z] at e
    exact absurd (Heap.lt_size e) (Nat.lt_irrefl _)
  · show Value.bool _ = Value.bool _
    rw [List.size_toArray, hlen, range_any]
end
/-- what a built-in type is of another -/
theorem kit_int_int {K : PySem.W.Frag} : PySem.W.kitOne K (.type "int") (.type "int") = some true := by rfl
theorem kit_int_bool {K : PySem.W.Frag} : PySem.W.kitOne K (.type "int") (.type "bool") = some false := by rfl
theorem kit_list_list {K : PySem.W.Frag} : PySem.W.kitOne K (.type "list") (.type "list") = some true := by rfl
end L2

namespace L2
open PySem PySem.Spec PyProof.Rows

/-- the def x of the text keeps its promise -/
def Ok (P : Program) (w : World) (K : PySem.W.Frag) (mg : Str → Option Value) (base : Heap) (x : Str) (ps : List Str) (k : Nat) (sp : Sp) : Prop :=
  ∃ f fd, FnOk P w K mg base (CXf P w) k f fd ps sp ∧ mg x = some (.ref f) ∧ PySem.W.keepIn K (.ref f) = true ∧ Binds K fd ps []
/-- the def x stands in the text -/
structure Has (K : PySem.W.Frag) (mg : Str → Option Value) (x : Str) (st : Stmt) (ps : List Str) (f : Addr) (fd : FuncData) : Prop where
  fn : Fun K x x st f fd
  bd : Binds K fd ps []
  at_ : mg x = some (.ref f)
/-- no name of the text hides these -/
structure Blt (mg : Str → Option Value) : Prop where
  len_ : mg "len" = none
  range_ : mg "range" = none
  enumerate_ : mg "enumerate" = none
  zip_ : mg "zip" = none
  isinstance_ : mg "isinstance" = none
  int_ : mg "int" = none
  bool_ : mg "bool" = none
  list_ : mg "list" = none
  tuple_ : mg "tuple" = none
  all_ : mg "all" = none
  any_ : mg "any" = none
  sum_ : mg "sum" = none
  max_ : mg "max" = none
  min_ : mg "min" = none
  abs_ : mg "abs" = none
  sorted_ : mg "sorted" = none
theorem bt_len : bootBuiltins "len" = some (.builtin "len") := by decide +kernel
theorem bt_isinstance : bootBuiltins "isinstance" = some (.builtin "isinstance") := by decide +kernel
theorem bt_all : bootBuiltins "all" = some (.builtin "all") := by decide +kernel
theorem bt_any : bootBuiltins "any" = some (.builtin "any") := by decide +kernel
theorem bt_int : bootBuiltins "int" = some (.type "int") := by decide +kernel
theorem bt_bool : bootBuiltins "bool" = some (.type "bool") := by decide +kernel
theorem bt_list : bootBuiltins "list" = some (.type "list") := by decide +kernel
def GInt (mg : Str → Option Value) (x : Str) (i : Int) : Prop := ∃ t, mg x = some (.int i t)

section
variable {P : Program} {w : World} {K : PySem.W.Frag} {mg : Str → Option Value} {base : Heap}
theorem Has.ok {x : Str} {st : Stmt} {ps : List Str} {f : Addr} {fd : FuncData} {N : List Str} {k : Nat} {sp : Sp} (h : Has K mg x st ps f fd) (S : FnScope N ps (defScope st)) (len : ∀ vs H Q E, sp vs H Q E → vs.length = ps.length)
    (hbody : ∀ (cdv : Value) (A : Around) (outer : List Env) (s : Shared) (H : Hp) (vs : List V) (Q : VK) (E : XK), Room k (A.deeper (envOfC x (defScope st) s.heap.objs.size f cdv)) → sp vs H Q E →
      ∃ t, PSs (cxOf (CXf P w) P w K mg base N x (defScope st) f cdv A outer s H E) (defBody st) t ∧ t { nx := fun _ H' => Q .non H', rt := Q } (start N vs) H) : Ok P w K mg base x ps (k + 1) sp :=
  ⟨f, fd, h.fn.okX S len hbody, h.at_, h.fn.kp, h.bd⟩
end

section
variable {X : Cx} {k : Nat} {ps : List Str} {sp : Sp} {E : XK} {x y c : Str} {p pos apos cpos py np hpos : Pos} {e : Expr} {es : List Expr} {t : TA} {i : Nat} {C : Addr} {b0 : Stmt} {suite : List Stmt} {ts : TS}
theorem pe_callO (o : Ok X.prog X.w X.K X.mg X.base x ps k sp) (hr : Room k X.A) (hg : Gl X x) (hx : Passes (CXf X.prog X.w) X E) (ha : PA X (e :: es) t) (hdb : (x == ("__debug__" : Str)) = false := by decide)
    (he : starEach (e :: es) X.env = (false, eval e X.env) :: starEach es X.env := by rfl) (hpl : (backTo pos (starEach es X.env)).any (·.1) = false := by rfl) : PE X (.Call (.Name x p) (e :: es) [] pos) (tCall sp [] E t) := by
  obtain ⟨f, fd, F, hm, hk, hb⟩ := o
  exact pe_call F hr hg hm hk hb .nil hx ha hdb he hpl
theorem pe_gi {n : Int} (h : GInt X.mg x n) (hg : Gl X x := by rfl) (hd : (x == ("__debug__" : Str)) = false := by decide) : PE X (.Name x pos) (tC (.int n)) := by
  obtain ⟨tk, hm⟩ := h
  exact pe_glob hg hm ⟨tk, rfl⟩ hd
theorem pe_tyN {T : String} (hm : X.mg x = none) (hv : bootBuiltins x = some (.type T)) (hg : Gl X x := by rfl) (hn : x ≠ "__name__" := by decide) (hd : (x == ("__debug__" : Str)) = false := by decide) : PE X (.Name x pos) (tC (.ty T)) :=
  pe_bltn hg hm hv rfl hn hd
end

/-- a block's scope, by a check -/
def compOk (osc : Scope) (N : List Str) (scope : Scope) (N' : List Str) (π : List (Option Nat)) : Bool :=
  osc.kind == .function && scope.kind == .function &&
  scope.names.all (fun y => y.2 != .cell && (y.2 != .local || scope.names.lookup y.1 == some .local) && (y.2 != .free || osc.names.lookup y.1 == some .cell)) &&
  decide N'.Nodup && π.length == N'.length && (N'.zip π).all (fun p => match p.2 with | none => true | some j => N[j]? == some p.1 && scope.names.lookup p.1 == some .free)
theorem CompScope.of {osc : Scope} {N : List Str} {scope : Scope} {N' : List Str} {π : List (Option Nat)} (h : compOk osc N scope N' π = true) : CompScope osc N scope N' π := by
  unfold compOk at h
  simp only [Bool.and_eq_true, beq_iff_eq, decide_eq_true_eq, List.all_eq_true, Bool.or_eq_true, bne_iff_ne, ne_eq] at h
  obtain ⟨⟨⟨⟨⟨h1, h2⟩, h3⟩, h4⟩, h5⟩, h6⟩ := h
  refine ⟨h1, h2, fun y hy => (h3 y hy).1.1, fun y hy k => ?_, fun y hy k => ?_, h4, h5, fun i j x e1 e2 => ?_⟩
  · rcases (h3 y hy).1.2 with z | z
    · exact absurd k z
    · exact z
  · rcases (h3 y hy).2 with z | z
    · exact absurd k z
    · exact z
  · have hz : (N'.zip π)[i]? = some (x, some j) := by rw [List.getElem?_zip_eq_some]; exact ⟨e1, e2⟩
    have q := h6 _ (List.mem_of_getElem? hz)
    simp only [Bool.and_eq_true, beq_iff_eq] at q
    exact q
end L2

namespace L2
open PySem PySem.Spec PyProof.Rows
theorem tFor_eq {wi : TI} {g : TG} {tb : TS} {D : Ends} {σ : St} {H : Hp} : tFor wi g tb D σ H = wi σ H fun J H1 => ForW J g tb D σ H1 := rfl
theorem tComp_eq {wi : TI} {π : List (Option Nat)} {g : TG} {tt : TT} {te : TE} {σ : St} {H : Hp} {Q : VK} : tComp wi π g tt te σ H Q = wi σ H fun J H1 => CompW J g tt te Q (capt π σ) H1 := rfl
theorem start_def {N : List Str} {vs : List V} : start N vs = vs.map some ++ List.replicate (N.length - vs.length) none := rfl
end L2
namespace L2
open PySem PySem.Spec PyProof.Rows
theorem cxOf_K {CX : CXT} {P : Program} {w : World} {K : PySem.W.Frag} {mg : Str → Option Value} {base : Heap} {N : List Str} {qual : Str} {scope : Scope} {f : Addr} {cd : Value} {A : Around} {outer : List Env} {s : Shared} {H : Hp} {E : XK} :
    (cxOf CX P w K mg base N qual scope f cd A outer s H E).K = K := rfl
theorem cxComp_K {X : Cx} {N' : List Str} {scope : Scope} {s : Shared} {H : Hp} {C : Addr} {fp : List Addr} {pn : List (Addr × Obj)} : (cxComp X N' scope s H C fp pn).K = X.K := rfl
end L2
namespace L2
open PySem PySem.Spec PyProof.Rows
theorem tyOf_int {K : PySem.W.Frag} {H : Hp} {i : Int} {t : Value} : TyOf K H (.int i) t ↔ t = .type "int" := by
  constructor
  · intro h
    cases h
    rfl
  · intro h
    subst h
    exact .int i
end L2
namespace L2
open PySem PySem.Spec PyProof.Rows
section
variable {X : Cx} {K : PySem.W.Frag}
theorem ix_listK (h : X.K = K) : IxR X (rIxL K) := by subst h; exact ix_list
def rLen (K : PySem.W.Frag) : List V → Hp → VK → Prop := fun xs H Q => ∃ p ys, xs = [.ref p] ∧ (SqL K H p ys ∨ SqT K H p ys) ∧ Q (.int ys.length) H
theorem call_len_seqK (h : X.K = K) : CallR X (.builtin "len") (rLen K) := by subst h; exact call_len_seq
def rIsi (K : PySem.W.Frag) : List V → Hp → VK → Prop := fun xs H Q => ∃ x n t b, xs = [x, .ty n] ∧ TyOf K H x t ∧ PySem.W.kitOne K t (.type n) = some b ∧ Q (.bl b) H
theorem call_isinstK (h : X.K = K) : CallR X (.builtin "isinstance") (rIsi K) := by subst h; exact call_isinst
def rListOf (K : PySem.W.Frag) : List V → Hp → VK → Prop := fun xs H Q => ∃ p ys, xs = [.ref p] ∧ (SqL K H p ys ∨ SqT K H p ys) ∧ ∀ l, H l = none → Q (.ref l) (upd H l (.lst ys))
theorem call_list_ofK (h : X.K = K) : CallR X (.type "list") (rListOf K) := by subst h; exact call_list_of
theorem op_neLK (h : X.K = K) (hu : X.A.units + 64 < cLine) : OpR X (compareOp .NotEq) (rEqL K true) := by subst h; exact op_neL hu
def rSum (K : PySem.W.Frag) : List V → Hp → VK → Prop := fun xs H Q => ∃ (a : Addr) (ns : List Int), xs = [.ref a] ∧ SqL K H a (ns.map V.int) ∧ Q (.int ns.sum) H
def rAll (K : PySem.W.Frag) : List V → Hp → VK → Prop := fun xs H Q => ∃ (a : Addr) (bs : List Bool), xs = [.ref a] ∧ SqL K H a (bs.map V.bl) ∧ Q (.bl (bs.all id)) H
theorem call_allLK (h : X.K = K) (hc : X.calm = true) : CallR X (.builtin "all") (rAll K) := by subst h; exact call_allL hc
def rAny (K : PySem.W.Frag) : List V → Hp → VK → Prop := fun xs H Q => ∃ (a : Addr) (bs : List Bool), xs = [.ref a] ∧ SqL K H a (bs.map V.bl) ∧ Q (.bl (bs.any id)) H
theorem call_anyLK (h : X.K = K) (hc : X.calm = true) : CallR X (.builtin "any") (rAny K) := by subst h; exact call_anyL hc
theorem pi_listK {tg l : Expr} {tl : TE} (h : X.K = K) (hl : PE X l tl) : PI X tg l (iList K tl) := by subst h; exact pi_list hl
variable {o e : Expr} {es : List Expr} {to : TE} {t : TA} {name : Str} {apos cpos : Pos} {T id : String} {r : V → List V → Hp → VK → Prop}
theorem pe_bmK (h : X.K = K) (pa : PlainAttrs T) (slot : Slot T name id) (hty : typeOf (.builtin id) = pure (.type "method_descriptor")) (hm : MtR X id r) (ho : PE X o to) (ha : PA X (e :: es) t)
    (hbase : attributeBase o name X.env (eval o X.env) = eval o X.env := by rfl)
    (hfew : ((backTo cpos (starEach (e :: es) X.env)).all (fun x => !x.1) && (backToKw cpos (keywordEach [] X.env)).all (fun x => x.1.isSome)
      && decide ((e :: es).length + ([] : List Keyword).length + (if ([] : List Keyword).isEmpty then 0 else 1) < 30)) = true := by rfl)
    (hline : (apos.endLine == cpos.line) = true := by rfl) (hs : starEach (e :: es) X.env = (false, eval e X.env) :: starEach es X.env := by rfl) (hplain : (backTo cpos (starEach es X.env)).any (·.1) = false := by rfl) :
    PE X (.Call (.Attribute o name apos) (e :: es) [] cpos) (tBM K T r to t) := by subst h; exact pe_bm pa slot hty hm ho ha hbase hfew hline hs hplain
end
/-- nothing bound yet -/
theorem rep0 : List.replicate 0 (none : Option V) = [] := rfl
theorem rep1 : List.replicate 1 (none : Option V) = [none] := rfl
theorem rep2 : List.replicate 2 (none : Option V) = [none, none] := rfl
theorem rep3 : List.replicate 3 (none : Option V) = [none, none, none] := rfl
theorem rep4 : List.replicate 4 (none : Option V) = [none, none, none, none] := rfl
theorem rep5 : List.replicate 5 (none : Option V) = [none, none, none, none, none] := rfl
theorem rep6 : List.replicate 6 (none : Option V) = [none, none, none, none, none, none] := rfl
theorem rep7 : List.replicate 7 (none : Option V) = [none, none, none, none, none, none, none] := rfl
theorem rep8 : List.replicate 8 (none : Option V) = [none, none, none, none, none, none, none, none] := rfl
theorem rep9 : List.replicate 9 (none : Option V) = [none, none, none, none, none, none, none, none, none] := rfl
theorem rep10 : List.replicate 10 (none : Option V) = [none, none, none, none, none, none, none, none, none, none] := rfl
theorem rep11 : List.replicate 11 (none : Option V) = [none, none, none, none, none, none, none, none, none, none, none] := rfl
theorem rep12 : List.replicate 12 (none : Option V) = [none, none, none, none, none, none, none, none, none, none, none, none] := rfl
end L2
namespace L2
open PySem
theorem scal_ii {i j : Int} : scal (.int i) (.int j) = true := rfl
theorem scal_bb {i j : Bool} : scal (.bl i) (.bl j) = true := rfl
theorem scal_ss {i j : Str} : scal (.str i) (.str j) = true := rfl
theorem scal_nn : scal .non .non = true := rfl
theorem scal_in {i : Int} : scal (.int i) .non = true := rfl
theorem scal_ni {i : Int} : scal .non (.int i) = true := rfl
end L2

namespace L2
open PySem PySem.Spec PyProof.Rows
section
variable {K : PySem.W.Frag} {h : Heap} {mg : Str → Option Value}
theorem has_mk {x : Str} {st : Stmt} {ps : List Str} {f : Addr} {oc kV doc pm cd ct : Value} {od an : Option Addr} {sl : Array (Option Value)} (X : K.In h) (G : h.Ns mainGlobals mg) (a : PySem.W.nsIn K mainGlobals x = some (some (.ref f)))
    (l : K.lookup f = some ⟨oc, od, .func (PySem.W.fnOf x x (defArgs st) (defBody st) (defScope st) .none kV doc pm an cd ct), sl⟩) (c : PySem.W.codeIn K cd x = true) (k : PySem.W.keepIn K (.ref f) = true)
    (hb : ∀ (kV doc pm : Value) (an : Option Addr) (cdv ct : Value) (us : List Value), us.length = ps.length → bindArgs (PySem.W.fnOf x x (defArgs st) (defBody st) (defScope st) .none kV doc pm an cdv ct) ⟨us, []⟩ = pure (ps.zip us)) : ∃ f fd, Has K mg x st ps f fd := by
  have F := fun_mk (x := x) (qual := x) (st := st) l c k
  exact ⟨f, _, F, F.binds hb, PySem.W.mg_of X G a⟩
theorem exc_mk {x : Str} {C : Addr} (X : K.In h) (G : h.Ns mainGlobals mg) (a : PySem.W.nsIn K mainGlobals x = some (some (.ref C)))
    (q : PySem.W.excIn K C [.type "ValueError", .type "Exception", .type "BaseException", .type "object"] "ValueError.__new__" = true) : ∃ C, ExcCls K C ∧ mg x = some (.ref C) := ⟨C, q, PySem.W.mg_of X G a⟩
theorem gint_mk {x : Str} {i : Int} {t : Tok} (X : K.In h) (G : h.Ns mainGlobals mg) (a : PySem.W.nsIn K mainGlobals x = some (some (.int i t))) : GInt mg x i := ⟨t, PySem.W.mg_of X G a⟩
theorem none_mk {x : Str} (X : K.In h) (G : h.Ns mainGlobals mg) (a : PySem.W.nsIn K mainGlobals x = some none) : mg x = none := PySem.W.mg_none_of X G a
end
theorem cxf_no {P : Program} {w : World} {H : Hp} {s : Shared} {e : Value} {s' : Shared} (z : CXf P w [] H s (fun _ _ _ => False) e s') : False := by
  obtain ⟨_, _, _, _, _, f, _⟩ := z
  exact f
end L2

namespace L2
open PySem PySem.Spec PyProof.Rows PySem.SeqAt
mutual
inductive Dp (K : PySem.W.Frag) (H : Hp) : V → PyData → Prop
  | int (i : Int) : Dp K H (.int i) (.int i)
  | bl (b : Bool) : Dp K H (.bl b) (.bool b)
  | str (x : Str) : Dp K H (.str x) (.str x)
  | non : Dp K H .non .none
  | lst {a : Addr} {xs : List V} {ds : List PyData} : SqL K H a xs → DpAll K H xs ds → Dp K H (.ref a) (.list ds)
  | tup {a : Addr} {xs : List V} {ds : List PyData} : SqT K H a xs → DpAll K H xs ds → Dp K H (.ref a) (.tuple ds)
inductive DpAll (K : PySem.W.Frag) (H : Hp) : List V → List PyData → Prop
  | nil : DpAll K H [] []
  | cons {x : V} {d : PyData} {xs : List V} {ds : List PyData} : Dp K H x d → DpAll K H xs ds → DpAll K H (x :: xs) (d :: ds)
end
section
variable {X : Cx} {pins : List (Addr × Obj)} {σ : St} {H : Hp} {s : Shared}
mutual
theorem Dp.reads {K : PySem.W.Frag} {x : V} {d : PyData} (e : X.K = K) (I : Inv X pins σ H s) : Dp K H x d → ∀ v, RelV x v → ∃ as, Reads s.heap v d as
  | .int i, v, r => by obtain ⟨t, rfl⟩ := r; exact ⟨_, .int i t⟩
  | .bl b, v, r => by cases r; exact ⟨_, .bool b⟩
  | .str x, v, r => by obtain ⟨t, rfl⟩ := r; exact ⟨_, .str x t⟩
  | .non, v, r => by cases r; exact ⟨_, .none⟩
  | .lst h q, v, r => by
    subst e
    cases r
    obtain ⟨its, rv, ⟨o, n, e, hc, _, hd⟩, _⟩ := I.list h
    obtain ⟨as, ra⟩ := DpAll.reads rfl I q its rv
    exact ⟨_, .list e hc hd (by simpa using ra)⟩
  | .tup h q, v, r => by
    subst e
    cases r
    obtain ⟨its, rv, ⟨o, e, hc, n, hd⟩, _⟩ := I.tuple h
    obtain ⟨as, ra⟩ := DpAll.reads rfl I q its rv
    exact ⟨_, .tuple e hc hd (by simpa using ra)⟩
theorem DpAll.reads {K : PySem.W.Frag} {xs : List V} {ds : List PyData} (e : X.K = K) (I : Inv X pins σ H s) : DpAll K H xs ds → ∀ vs, Vals xs vs → ∃ as, ReadsAll s.heap vs ds as
  | .nil, vs, r => by cases r; exact ⟨_, .nil⟩
  | .cons h t, vs, r => by
    cases r with
    | cons r1 r2 =>
      obtain ⟨as, ra⟩ := Dp.reads e I h _ r1
      obtain ⟨bs, rb⟩ := DpAll.reads e I t _ r2
      exact ⟨_, .cons ra rb⟩
end
end
mutual
theorem noMix_self : ∀ d : PyData, d.canLay0 = true → noMix d d = true
  | .none, _ => by simp [noMix]
  | .bool _, _ => by simp [noMix]
  | .int _, _ => by simp [noMix]
  | .str _, _ => by simp [noMix]
  | .list xs, h => by rw [noMix]; exact noMixAll_self xs (by rwa [PyData.canLay0] at h)
  | .tuple xs, h => by rw [noMix]; exact noMixAll_self xs (by rwa [PyData.canLay0] at h)
  | .dict _, h => by simp [PyData.canLay0] at h
theorem noMixAll_self : ∀ ds : List PyData, PyData.canLayAll0 ds = true → noMixAll ds ds = true
  | [], _ => by simp [noMixAll]
  | d :: r, h => by
    rw [PyData.canLayAll0, Bool.and_eq_true] at h
    rw [noMixAll, noMix_self d h.1, noMixAll_self r h.2]
    rfl
end
def rEqS (K : PySem.W.Frag) (neg : Bool) : R2 := fun x y H Q => ∃ d, Dp K H x d ∧ Dp K H y d ∧ shaped d = true ∧ Q (.bl (!neg)) H
section
variable {X : Cx} {K : PySem.W.Frag}
end
end L2

namespace L2
open PySem PySem.Spec PyProof.Rows
def rSorted (K : PySem.W.Frag) : List V → Hp → VK → Prop := fun xs H Q => ∃ (a : Addr) (ns : List Int), xs = [.ref a] ∧ SqL K H a (ns.map V.int) ∧ ns.length < 64 ∧
  ∀ (l : Addr) (ms : List Int), H l = none → ms.Perm ns → ms.Pairwise (· ≤ ·) → Q (.ref l) (upd H l (.lst (ms.map V.int)))
theorem kit_tuple_tuple {K : PySem.W.Frag} : PySem.W.kitOne K (.type "tuple") (.type "tuple") = some true := by rfl
end L2

namespace L2
open PySem PySem.Spec PyProof.Rows
/-- within an except suite -/
abbrev Cx.marked (X : Cx) (e : Value) : Cx := { X with A := X.A.mark (some e), calm := false }
section
variable {X : Cx} {pins : List (Addr × Obj)} {σ : St} {H : Hp} {s : Shared}
theorem Inv.marked (I : Inv X pins σ H s) (e : Value) : Inv (X.marked e) pins σ H s :=
  ⟨⟨I.ok.mod, I.ok.kind, I.ok.glob, I.ok.blt, I.ok.above, I.ok.inj, I.ok.has, I.ok.cab, fun z => absurd z Bool.false_ne_true, I.ok.frames, I.ok.stk, I.ok.exf, I.ok.bs, I.ok.bsz, I.ok.noex, I.ok.exfs, I.ok.funs, I.ok.frf⟩, I.os, I.bare, I.base, I.loc, I.cell, I.free, I.freeC, I.pin, I.hok, I.len⟩
theorem Inv.unmarked {e : Value} (I : Inv (X.marked e) pins σ H s) (ok : X.Ok) : Inv X pins σ H s :=
  ⟨ok, I.os, I.bare, I.base, I.loc, I.cell, I.free, I.freeC, I.pin, I.hok, I.len⟩
theorem SP.unmarked {e : Value} {D : Ends} {f : Flow} {s' : Shared} (ok : X.Ok) (h : SP (X.marked e) pins D f s') : SP X pins D f s' := by
  cases f with
  | next => obtain ⟨σ', H', I, q⟩ := h; exact ⟨σ', H', I.unmarked ok, q⟩
  | brk => obtain ⟨σ', H', I, q⟩ := h; exact ⟨σ', H', I.unmarked ok, q⟩
  | cont => obtain ⟨σ', H', I, q⟩ := h; exact ⟨σ', H', I.unmarked ok, q⟩
  | ret v => obtain ⟨v', σ', H', I, r, q⟩ := h; exact ⟨v', σ', H', I.unmarked ok, r, q⟩
/-- a thing that no one holds is held from now on -/
theorem Inv.track {a : Addr} {o : HO} (I : Inv X pins σ H s) (na : FlyOk X pins H a) (new : ObjOk X.prog X.w (upd H a o) s.heap a o) : Inv X pins σ (upd H a o) s := by
  obtain ⟨n1, n2, n3, n4, n5⟩ := na
  have ne : ∀ b u, H b = some u → b ≠ a := fun b u e => ne_of_none e n1
  refine ⟨I.ok, I.os, I.bare, ⟨I.base.keep, I.base.slot, fun b u e n nx => ?_, I.base.there, fun b xs e => ?_, fun b u v e => ?_, fun b ps e => ?_⟩, I.loc, I.cell, ?_, fun x c e => ?_, fun p hp => ?_, fun b u e => ?_, I.len⟩
  · rw [upd_ne fun z => by rw [z, n2] at e; cases e]
    exact I.base.free b u e n nx
  · have q := I.base.tups b xs e
    rw [upd_ne (ne _ _ q)]
    exact q
  · have q := I.base.frzs b u v e
    rw [upd_ne (ne _ _ q)]
    exact q
  · obtain ⟨more, q⟩ := I.base.tbls b ps e
    exact ⟨more, by rw [upd_ne (ne _ _ q)]; exact q⟩
  · rw [upd_ne (Ne.symm n3)]
    exact I.free
  · rw [upd_ne (n4 x c e)]
    exact I.freeC x c e
  · obtain ⟨h1, h2, h3⟩ := I.pin p hp
    exact ⟨h1, by rw [upd_ne (n5 p hp)]; exact h2, h3⟩
  · by_cases hb : b = a
    · subst hb
      rw [upd_same] at e
      cases e
      exact new
    · rw [upd_ne hb] at e
      exact (I.hok b u e).stay (fun _ _ _ q => q) (fun c q => by rw [upd_ne (ne _ _ q)]; exact q) fun c xs q => by rw [upd_ne (ne _ _ q)]; exact q
/-- a name of the frame goes -/
theorem Inv.drop {i : Nat} {x : Str} {h' : Heap} {m : Str → Option Value} {t' : Nat} (I : Inv X pins σ H s) (hN : X.N.Nodup) (hi : X.N[i]? = some x) (hx : X.env.scope.names.lookup x = some .local) (hm : s.heap.Ns X.env.locals m)
    {v : Option Value} (hn : h'.Ns X.env.locals (fun y => if y = x then v else m y)) (hs : Heap.SameBut X.env.locals s.heap h') : Inv X pins (σ.set i none) H { s with heap := h', toks := t' } := by
  obtain ⟨m0, hm0, hl⟩ := I.loc
  have hiσ : i < σ.length := by rw [I.len]; exact (List.getElem?_eq_some_iff.mp hi).1
  have e0 : m0 = m := by
    obtain ⟨o1, es1, ep1, ho1, hd1, hk1, hf1⟩ := hm0
    obtain ⟨o2, es2, ep2, ho2, hd2, hk2, hf2⟩ := hm
    rw [ho1] at ho2
    cases ho2
    rw [hd1] at hd2
    cases hd2
    funext n
    rw [← hf1, ← hf2]
  subst e0
  have old : ∀ b o, X.s₀.heap.get? b = some o → b ≠ X.env.locals := fun b o e => Nat.ne_of_lt (Nat.lt_of_lt_of_le (Heap.lt_size e) I.ok.above)
  refine ⟨I.ok, I.os, I.bare, ⟨fun b o e n nf nx => (hs.2 b (old b o e)).trans (I.base.keep b o e n nf nx), fun b o e n hf nx => ?_, I.base.free, fun b o e nx => ?_, I.base.tups, I.base.frzs, I.base.tbls⟩, ⟨_, hn, fun j y w e1 e2 e3 => ?_⟩, fun y c e => ?_, I.free, I.freeC, fun p hp => ?_, fun b ob e => ?_, by simpa using I.len⟩
  · obtain ⟨sl, q⟩ := I.base.slot b o e n hf nx
    exact ⟨sl, (hs.2 b (old b o e)).trans q⟩
  · obtain ⟨o', q⟩ := I.base.there b o e nx
    exact ⟨o', (hs.2 b (old b o e)).trans q⟩
  · have hj : j ≠ i := fun z => by
      subst z
      rw [List.getElem?_set_self hiσ] at e2
      cases e2
    rw [List.getElem?_set_ne (Ne.symm hj)] at e2
    obtain ⟨u, r, q⟩ := hl j y w e1 e2 e3
    refine ⟨u, r, ?_⟩
    rcases q with ⟨k, e⟩ | ⟨k, c, e, z⟩
    · refine .inl ⟨k, ?_⟩
      have : y ≠ x := fun e => hj (nodup_ix hN e1 (e ▸ hi))
      simp [this, e]
    · exact .inr ⟨k, c, e, z.sameBut hs (I.cne y c e)⟩
  · obtain ⟨w, z⟩ := I.cell y c e
    exact ⟨w, z.sameBut hs (I.cne y c e)⟩
  · obtain ⟨e, n, ne, r⟩ := I.pin p hp
    exact ⟨(hs.2 p.1 ne).trans e, n, ne, r⟩
  · refine (I.hok b ob e).stay (fun c w hc q => (hs.2 c ?_).trans q) (fun _ q => q) fun _ _ q => q
    rintro rfl
    rcases hc with rfl | hc
    · rw [I.free] at e; cases e
    · rw [I.free] at hc; cases hc
theorem goes_ok {M : Model} {A : Around} {E : Value → Shared → Prop} {i : Nat} {x : Str} {pos : Pos} {Q : Unit → Shared → Prop} (I : Inv X pins σ H s) (hN : X.N.Nodup) (hi : X.N[i]? = some x) (hx : X.env.scope.names.lookup x = some .local)
    (h : ∀ s', Inv X pins (σ.set i none) H s' → Q () s') : wpAny M A (do bindName X.env x .none; unbindBehindTheSuite X.env x pos) Q E s := by
  have hp : (X.env.scope.kind == .class || (X.env.scope.kind == .module && X.env.locals != X.env.globals)) = false := by rw [I.ok.kind]; rfl
  have hl : X.env.kindOf x = some .local := hx
  refine wpAny_bind (wpAny_bindName (store_ok (v := .non) I hN hi (.inl hx) rfl (fun s1 I1 => ?_) (.inr hx)))
  have hiσ : i < σ.length := by rw [I.len]; exact (List.getElem?_eq_some_iff.mp hi).1
  obtain ⟨m, hn, hv⟩ := id I1.loc
  obtain ⟨u, ru, q⟩ := hv i x .non hi (List.getElem?_set_self hiσ) (.inl hx)
  have hm : (m x).isSome = true := by
    rcases q with ⟨_, e⟩ | ⟨k, _⟩
    · rw [e]; rfl
    · rcases k with k | k <;> (rw [hl] at k; cases k)
  unfold unbindBehindTheSuite
  refine wpAny_onRaise ?_
  unfold unbindName
  refine wpAny_bind (wpAny_point (wpAny_bind ?_))
  unfold deleteName
  simp only [hl, hp]
  rw [if_neg (by decide)]
  refine wpAny_bind (wpAny_nsDel_keeps hn fun h2 v hn2 hs2 => ?_)
  rw [hm]
  simp only [if_true, Bool.not_true, Bool.false_eq_true, if_false]
  have J := I1.drop (t' := s1.toks) hN hi hx hn hn2 hs2
  rw [List.set_set] at J
  exact wpAny_pure (wpAny_point (h _ J))
end
/-- an own class of exceptions: what stands behind it in its row of classes -/
def ClsX (K : PySem.W.Frag) (C : Addr) (bm : List Value) : Prop := ∃ nm qn N bs hdct sn sub ab col dd k0 k1 k2 k3 k5, K.lookup C = some (excClassObj nm qn C N bs bm hdct sn sub ab col dd k0 k1 k2 k3 k5 "ValueError.__new__") ∧ bm.contains (.type "BaseException") = true
/-- whether the one is of the other -/
def SubC (K : PySem.W.Frag) (C C1 : Addr) (b : Bool) : Prop := (∃ bm, ClsX K C bm ∧ (Value.ref C :: bm).contains (.ref C1) = b) ∧ ∃ bm, ClsX K C1 bm
theorem matches_own {M : Model} {A : Around} {E : Value → Shared → Prop} {K : PySem.W.Frag} {C C1 e : Addr} {b : Bool} {s : Shared} {oe : Obj} {Q : Bool → Shared → Prop} (X : K.In s.heap) (sc : SubC K C C1 b) (he : s.heap.get? e = some oe) (hcls : oe.cls = .ref C) (hq : Q b s) :
    wpAny M A (excMatches (.ref e) (.ref C1)) Q E s := by
  obtain ⟨⟨bm, ⟨nm, qn, N, bs, hdct, sn, sub, ab, col, dd, k0, k1, k2, k3, k5, lC, _⟩, hb⟩, bm1, nm1, qn1, N1, bs1, hdct1, sn1, sub1, ab1, col1, dd1, l0, l1, l2, l3, l5, lC1, hB1⟩ := sc
  obtain ⟨h, g, d, t, os⟩ := s
  have hC := X _ _ lC
  have hC1 := X _ _ lC1
  have cB : (Value.ref C1 :: bm1).contains (.type "BaseException") = true := by rw [List.contains_cons, hB1, Bool.or_true]
  have f := tc_notTuple
  unfold excMatches
  repeat (first | (with_reducible refine wpAny_loadPart_at he ?_; rw [hcls]) | with_reducible refine wpAny_loadPart_at hC1 ?_ | (with_reducible refine wpAny_isSubtype_exc hC1 ?_; rw [cB]) | (with_reducible refine wpAny_isSubtype_exc hC ?_; rw [hb]) | wp_step)
  cases b <;> (wp_walk; exact hq)
/-- what is wanted of the clauses, by the exception's class and dict -/
abbrev TH := Addr → Option Addr → TS
/-- an exception under a name -/
def excO (a C : Addr) (da : Option Addr) : HO := .ext fun h => ∃ oe vs, h.get? a = some oe ∧ oe.cls = .ref C ∧ oe.dict = da ∧ oe.data = .fields vs
/-- the name goes at the end -/
def Ends.less (D : Ends) (i : Nat) : Ends := { nx := fun σ H => D.nx (σ.set i none) H, rt := D.rt, bk := fun σ H => D.bk (σ.set i none) H, ct := fun σ H => D.ct (σ.set i none) H }
def PH (X : Cx) (hs : List ExceptHandler) (th : TH) : Prop := ∀ (pins : List (Addr × Obj)) (s : Shared) (σ : St) (H : Hp) (D : Ends) (a C : Addr) (da : Option Addr), XIn X pins σ H a (.ref C) da s → th C da D σ H →
  wpAny (model X.prog X.w) X.A (handleBy (.ref a) X.env hs) (SP X pins D) X.xe s
def thNil : TH := fun _ _ _ _ _ => False
def thC (K : PySem.W.Frag) (C1 : Addr) (ts : TS) (th : TH) : TH := fun C da D σ H => ∃ b, SubC K C C1 b ∧ if b = true then ts D σ H else th C da D σ H
def thA (K : PySem.W.Frag) (C1 : Addr) (i : Nat) (ts : TS) (th : TH) : TH := fun C da D σ H => ∃ b, SubC K C C1 b ∧ if b = true then ∀ a, H a = none → ts (D.less i) (σ.set i (some (.ref a))) (upd H a (excO a C da)) else th C da D σ H
section
variable {X : Cx} {hs : List ExceptHandler} {th : TH} {C1 : Addr} {c y : Str} {np hpos : Pos} {b0 : Stmt} {suite : List Stmt} {ts : TS} {i : Nat} {K : PySem.W.Frag}
theorem ph_nil : PH X [] thNil := fun _ _ _ _ _ _ _ _ _ z => z.elim
theorem ph_as (d : IsDef X) (hK : X.K = K) (hgc : Gl X c) (hmc : X.mg c = some (.ref C1)) (hN : X.N.Nodup) (hi : X.N[i]? = some y) (hy : X.env.scope.names.lookup y = some .local) (hsu : ∀ v, PSs ((X.marked v).wish fun _ _ => False) (b0 :: suite) ts) (hr : PH X hs th) (hdc : (c == ("__debug__" : Str)) = false := by decide) :
    PH X (.ExceptHandler (some (.Name c np)) (some y) (b0 :: suite) hpos :: hs) (thA K C1 i ts th) := by
  subst hK
  intro pins s σ H D a C da x h
  obtain ⟨b, sc, q⟩ := h
  have Jm := x.inv.marked (.ref a)
  refine wpAny_handleBy_cons (codeAny_handlers_test (ld_glob (X := X.marked (.ref a)) Jm hgc hmc ?_ hdc)) (by intro q; cases q)
  obtain ⟨oe, vs', T5, oT, ts', a05, f1, f2, f3, f4, f5, f6, f7, f8, f9, n1, n2, n3⟩ := id x.fl
  refine matches_own x.inv.kIn sc f1 f2 ?_
  cases b with
  | false => exact hr pins s σ H D a C da x q
  | true =>
    refine codeAny_handlers_suite_as ?_
    obtain ⟨T, a0, hb, hd, fl⟩ := x.flying
    refine wpAny_mono (wpAny_kd (E := fun _ _ => False) (kd_setFlight _ _) hd (lands_againW (Q := fun _ s2 => ∃ h', s2 = { s with heap := h' } ∧ Heap.FlyingW (bareOf s.heap ([a, T] ++ frs X.stack)) X.stack a (.ref C) a0 h' ∧ s.heap.UpToSlots h') fl fun h' f2 up => ⟨h', rfl, f2, up⟩)) (fun _ s2 z => ?_) (fun _ _ z => z.1.elim)
    obtain ⟨⟨h', rfl, f2', up⟩, hd2⟩ := z
    have x6 := XIn.on x.inv d hb (by simp) f2' up hd2
    obtain ⟨oe6, vs6, T6, oT6, ts6, a06, g1, g2, g3, g4, g5, g6, g7, g8, g9, m1, m2, m3⟩ := id x6.fl
    have x7 : Inv X pins σ (upd H a (excO a C da)) { s with heap := h' } := x6.inv.track m1 ⟨⟨oe6, vs6, g1, g2, m3, g3⟩, ⟨_, g1⟩, fun h1 h2 ⟨oe, vs, e1, r⟩ k => ⟨oe, vs, k _ e1, r⟩⟩
    refine store_ok (v := .ref a) x7 hN hi (.inl hy) rfl (fun s3 I3 => ?_) (.inr hy)
    refine wpAny_mono (hsu (.ref a) pins s3 _ _ (D.less i) ((I3.marked (.ref a)).wish _) (q a m1.1)) (fun fl s7 q7 => ?_) fun _ _ z => False.elim z
    have q8 := SP.unmarked x6.inv.ok q7.unwish
    cases fl with
    | next =>
      obtain ⟨σ', H', I8, q9⟩ := q8
      exact goes_ok I8 hN hi hy fun s' I9 => ⟨_, H', I9, q9⟩
    | brk =>
      obtain ⟨σ', H', I8, q9⟩ := q8
      exact goes_ok I8 hN hi hy fun s' I9 => ⟨_, H', I9, q9⟩
    | cont =>
      obtain ⟨σ', H', I8, q9⟩ := q8
      exact goes_ok I8 hN hi hy fun s' I9 => ⟨_, H', I9, q9⟩
    | ret v =>
      obtain ⟨v', σ', H', I8, r8, q9⟩ := q8
      exact goes_ok I8 hN hi hy fun s' I9 => ⟨v', _, H', I9, r8, q9⟩
end
section
variable {X : Cx} {k : Nat} {f : Addr} {fd : FuncData} {ps : List Str} {sp : Sp} {fx y : Str} {p pos apos cpos py : Pos} {e : Expr} {es : List Expr} {t : TA} {i : Nat} {h0 : ExceptHandler} {hs : List ExceptHandler} {th : TH}
/-- the way of an exception from a callee to the clauses -/
theorem to_clauses {pins : List (Addr × Obj)} {s1 s' : Shared} {σ : St} {H1 : Hp} {D : Ends} {ee : Value} (d : IsDef X) (J : Inv X pins σ H1 s1) (hh : PH X (h0 :: hs) th) (hq : CXf X.prog X.w X.stack H1 s1 (fun cls da H2 => ∃ C, cls = Value.ref C ∧ th C da D σ H2) ee s') :
    wpAny (model X.prog X.w) X.A (noteFrame ee X.env) (fun _ s₂ => wpAny (model X.prog X.w) X.A (setFlight ee none) (fun _ s₃ => wpAny (model X.prog X.w) X.A (handleBy ee X.env (h0 :: hs)) (SP X pins D) X.xe s₃) X.xe s₂) X.xe s' := by
  obtain ⟨a, cls, da, H', rfl, ⟨C, rfl, qs⟩, x⟩ := XIn.ofCall d J hq
  obtain ⟨T, a0, hb, hd, fl⟩ := x.flying
  have hfr : X.A.frames = some (X.env :: X.outer) := by rw [x.inv.ok.frames, d.st]
  have fl' := fl
  rw [d.st] at fl'
  refine wpAny_mono (wpAny_kd (E := fun _ _ => False) (kd_noteFrame _ _) hd (wpAny_looks_onW (Q := fun _ s2 => ∃ h', s2 = { s' with heap := h' } ∧ Heap.HeldW (bareOf s'.heap ([a, T] ++ frs (X.env :: X.outer))) (X.env :: X.outer) a (.ref C) a0 X.env.locals h' ∧ s'.heap.UpToSlots h') hfr d.fr fl' fun h4 held4 up4 => ⟨h4, rfl, held4, up4⟩)) (fun _ s2 z => ?_) (fun _ _ z => z.1.elim)
  obtain ⟨⟨h4, rfl, held4, up4⟩, hd4⟩ := z
  refine wpAny_mono (wpAny_kd (E := fun _ _ => False) (kd_setFlight _ _) hd4 (wpAny_landsW (Q := fun _ s2 => ∃ h', s2 = { s' with heap := h' } ∧ Heap.FlyingW (bareOf s'.heap ([a, T] ++ frs (X.env :: X.outer))) (X.env :: X.outer) a (.ref C) a0 h' ∧ h4.UpToSlots h') held4 fun h5 fl5 up5 => ⟨h5, rfl, fl5, up5⟩)) (fun _ s2 z => ?_) (fun _ _ z => z.1.elim)
  obtain ⟨⟨h5, rfl, fl5, up5⟩, hd5⟩ := z
  have x5 : XIn X pins σ H' a (.ref C) da { s' with heap := h5 } := XIn.on x.inv d hb (by simp) (by rw [d.st]; exact fl5) (up4.trans up5) hd5
  exact hh pins _ σ H' D a C da x5 qs
def tTryA (t : TA) (sp : Sp) (i : Nat) (th : TH) : TS := fun D σ H => t σ H fun vs H1 => sp vs H1 (fun v H2 => D.nx (σ.set i (some v)) H2) fun cls da H2 => ∃ C, cls = .ref C ∧ th C da D σ H2
def tTryE (t : TA) (sp : Sp) (th : TH) : TS := fun D σ H => t σ H fun vs H1 => sp vs H1 (fun _ H2 => D.nx σ H2) fun cls da H2 => ∃ C, cls = .ref C ∧ th C da D σ H2
end
theorem ClsX.of {K : PySem.W.Frag} {C : Addr} (q : ExcCls K C) : ∃ bm, ClsX K C bm := by
  unfold ExcCls PySem.W.excIn at q
  split at q
  · rename_i dd cd sl ho
    split at q
    · rename_i C' bm k0 k1 k2 k3 n k5 hm hs
      simp only [Bool.and_eq_true, beq_iff_eq, Bool.not_eq_true'] at q
      obtain ⟨⟨⟨⟨⟨rfl, rfl⟩, hdel⟩, ht⟩, hok⟩, hni⟩ := q
      obtain ⟨nm, bs, mro, ns, qn, hd, sn, sub, ab, col, del⟩ := cd
      dsimp only at hm hdel hok hni
      subst hm hdel
      have hsl : sl = #[k0, k1, k2, k3, some (.builtin "ValueError.__new__"), k5] := by
        obtain ⟨l⟩ := sl
        simp only at hs
        rw [hs]
      subst hsl
      refine ⟨bm, nm, qn, ns, bs, hd, sn, sub, ab, col, dd, k0, k1, k2, k3, k5, ho, ?_⟩
      have tl : ∀ l : List Value, PySem.W.tailIn K [.type "ValueError", .type "Exception", .type "BaseException", .type "object"] l = true → l.contains (.type "BaseException") = true := by
        intro l
        induction l with
        | nil => intro e; cases e
        | cons v r ih =>
          intro e
          unfold PySem.W.tailIn at e
          rcases Bool.or_eq_true_iff.mp e with z | z
          · rw [beq_iff_eq.mp z]
            decide +kernel
          · split at z
            · split at z
              · rw [Bool.and_eq_true] at z
                rw [List.contains_cons, ih z.2, Bool.or_true]
              · cases z
            · cases z
      exact tl bm ht
    · cases q
  · cases q
theorem SubC.self {K : PySem.W.Frag} {C : Addr} (q : ExcCls K C) : SubC K C C true := by
  obtain ⟨bm, c⟩ := ClsX.of q
  exact ⟨⟨bm, c, by simp⟩, bm, c⟩
def tTryC (t : TA) (sp : Sp) (dvs : List V) (i : Nat) (C : Addr) (ts : TS) : TS := fun D σ H => t σ H fun vs H1 => sp (vs ++ dvs) H1 (fun v H2 => D.nx (σ.set i (some v)) H2) fun cls _ H2 => cls = .ref C ∧ ts D σ H2
section
variable {X : Cx} {k : Nat} {C : Addr} {ps : List Str} {sp : Sp} {x y c : Str} {p pos apos cpos py np hpos : Pos} {e : Expr} {es : List Expr} {t : TA} {i : Nat} {b0 : Stmt} {suite : List Stmt} {ts : TS}
end
end L2

namespace L2
open PySem PySem.Spec PyProof.Rows
end L2

namespace L2
open PySem PySem.Spec PyProof.Rows PySem.W
section
variable {prog : Program} {w : World} {A : Around} {E : Value → Shared → Prop} {s : Shared} {K : PySem.W.Frag} {x C B : Addr} {name : Str} {v : Value} {ox : Obj} {cd : ClassData}
end
end L2

namespace L2
open PySem PySem.Spec PyProof.Rows PySem.W
/-- a class under a class under ValueError, whose instances have a dict -/
structure XCls (K : PySem.W.Frag) (C B : Addr) : Prop where
  ga : findIn K (.ref C) "__getattribute__" = some (some (.builtin "BaseException.__getattribute__"))
  gt : findIn K (.ref C) "__getattr__" = some none
  sa : findIn K (.ref C) "__setattr__" = some (some (.builtin "object.__setattr__"))
  cl : ∃ cd, clsIn K C = some cd ∧ cd.mro = [.ref C, .ref B, .type "ValueError", .type "Exception", .type "BaseException", .type "object"] ∧ cd.hasDict = true
/-- no attribute f in its classes -/
def NoX (K : PySem.W.Frag) (C : Addr) (f : Str) : Prop := findIn K (.ref C) f = some none
/-- e.f, a field of a caught exception -/
def tXF (K : PySem.W.Frag) (ta : TE) (f : Str) : TE := fun σ H Q => ta σ H fun x H1 => ∃ a C B dx fs v, x = .ref a ∧ H1 a = some (excO a C (some dx)) ∧ H1 dx = some (.xd fs) ∧ XCls K C B ∧ NoX K C f ∧ fs.lookup f = some v ∧ Q v H1
section
variable {X : Cx} {e o value : Expr} {f : Str} {pos pos' : Pos} {ta tv : TE} {K : PySem.W.Frag}
end
/-- a new exception, its dict not yet made; the same with its dict -/
def excN (a C : Addr) (a0 : Value) : HO := .ext fun h => h.get? a = some { cls := .ref C, data := .fields #[a0, .none, .none, .none, .bool false, .none] }
def excD (a C : Addr) (a0 : Value) (dx : Addr) : HO := .ext fun h => h.get? a = some { cls := .ref C, dict := some dx, data := .fields #[a0, .none, .none, .none, .bool false, .none] }
/-- e.f = value, the first field of a new exception -/
def sXF (K : PySem.W.Frag) (ta tv : TE) (f : Str) : TS := fun D σ H => tv σ H fun y H1 => ta σ H1 fun x H2 => ∃ a C B a0, x = .ref a ∧ H2 a = some (excN a C a0) ∧ XCls K C B ∧ NoX K C f ∧ ∀ dx, H2 dx = none → D.nx σ (upd (upd H2 a (excD a C a0 dx)) dx (.xd [(f, y)]))
section
variable {X : Cx} {e o value : Expr} {f : Str} {pos pos' : Pos} {ta tv : TE} {K : PySem.W.Frag}
end
/-- no longer held -/
def cutH (H : Hp) (a : Addr) : Hp := fun b => if b = a then none else H b
section
variable {X : Cx} {pins : List (Addr × Obj)} {σ : St} {H : Hp} {s : Shared} {a : Addr} {φ : Heap → Prop}
end
end L2

namespace L2
open PySem PySem.Spec PyProof.Rows PySem.W
section
variable {prog : Program} {w : World} {A : Around} {E : Value → Shared → Prop} {h : Heap} {g : Array GenState} {d : Drawn} {t : Nat} {os : OsState} {K : PySem.W.Frag}
variable {nm q : Str} {C N f : Addr} {bs bm bmB : List Value} {hdct : Bool} {sn : List Str} {sub : List Value} {ab : Bool} {col : Option Bool} {dd : Option Addr} {k0 k1 k2 k3 k5 : Option Value} {B newId initId : String}
end
end L2

namespace L2
open PySem PySem.Spec PyProof.Rows PySem.W
/-- a class of exceptions whose __init__ is the def f -/
structure InitX (K : PySem.W.Frag) (C f : Addr) : Prop where
  kp : keepIn K (.ref C) = true
  ini : findIn K (.ref C) "__init__" = some (some (.ref f))
  fn : typeIn K (.ref f) = some (.type "function")
  cl : ∃ nm qn N bs bm hdct sn sub ab col dd k0 k1 k2 k3 k5, K.lookup C = some (excClassObj nm qn C N bs bm hdct sn sub ab col dd k0 k1 k2 k3 k5 "ValueError.__new__") ∧ tailIn K [.type "ValueError", .type "Exception", .type "BaseException", .type "object"] bm = true
section
variable {M : Model} {A : Around} {E : Value → Shared → Prop} {env : Env} {K : PySem.W.Frag} {C f : Addr}
end
/-- what is wanted of raise C(..): the __init__'s promise over the new exception -/
def tRaiseI (t : TA) (C : Addr) (sp : Sp) (E : XK) : TS := fun _ σ H => t σ H fun vs H1 => vs.length ≤ 10 ∧ ∀ a a0, H1 a = none → sp (.ref a :: vs) (upd H1 a (excN a C a0)) (fun v H2 => v = .non ∧ ∃ dx, H2 a = some (excD a C a0 dx) ∧ E (.ref C) (some dx) (cutH H2 a)) (fun _ _ _ => False)
section
variable {X : Cx} {k : Nat} {f C : Addr} {fd : FuncData} {ps : List Str} {sp : Sp} {E : XK} {x : Str} {np cpos pos : Pos} {e : Expr} {es : List Expr} {t : TA}
end
end L2

namespace L2
open PySem PySem.Spec PyProof.Rows
section
variable {X : Cx}
/-- a op1 b op2 c op3 d -/
def tChain3 (r1 r2 r3 : R2) (ta tb tc td : TE) : TE := fun σ H Q => ta σ H fun x H1 => tb σ H1 fun y H2 => r1 x y H2 fun z H3 => ∃ k, z = .bl k ∧
  (if k = true then tc σ H3 fun v H4 => r2 y v H4 fun z2 H5 => ∃ k2, z2 = .bl k2 ∧ (if k2 = true then td σ H5 fun u H6 => r3 v u H6 Q else Q (.bl false) H5) else Q (.bl false) H3)
end
end L2

namespace PySem
namespace F
end F
section
variable {prog : Program} {w : World} {A : Around} {E : Value → Shared → Prop} {s : Shared}
end
end PySem
namespace L2
open PySem PySem.Spec PyProof.Rows
section
variable {X : Cx} {K : PySem.W.Frag} {e : Expr} {te : TE} {p1 p2 pos1 pos2 : Pos}
def tListRev (K : PySem.W.Frag) (te : TE) : TE := fun σ H Q => te σ H fun x H1 => ∃ p ys, x = .ref p ∧ SqL K H1 p ys ∧ ∀ l, H1 l = none → Q (.ref l) (upd H1 l (.lst ys.reverse))
end
end L2

namespace L2
open PySem PySem.Spec PyProof.Rows PySem.W
section
variable {prog : Program} {w : World} {A : Around} {E : Value → Shared → Prop} {s : Shared} {K : PySem.W.Frag} {x C : Addr} {name : Str} {ox : Obj} {od : Option Obj}
theorem findObj_any {a g : Value} (hc : (clsIn K C).isSome = true) (ha : findIn K (.ref C) name = some (some a)) (hg : specialIn K a "__get__" = some (some g)) (ht : takesIn K a = some true) : findObj K C od name = some (.bind g a) := by
  obtain ⟨cd, hc⟩ := Option.isSome_iff_exists.mp hc
  unfold findObj
  rw [hc, Option.bind_some, ha, Option.bind_some]
  simp [hg, ht]
/-- what isinstance asks of the class of an exception -/
structure XIs (K : PySem.W.Frag) (C : Addr) : Prop where
  cl : (clsIn K C).isSome = true
  ga : findIn K (.ref C) "__getattribute__" = some (some (.builtin "BaseException.__getattribute__"))
  gt : findIn K (.ref C) "__getattr__" = some none
  mb : mroIn K C (.type "BaseException") = some true
  mo : mroIn K C (.type "object") = some true
  ca : findIn K (.ref C) "__class__" = some (some (.builtin "object.__class__"))
  cn : specialIn K (.builtin "object.__class__") "__get__" = some (some (.builtin "getset_descriptor.__get__"))
  ct : takesIn K (.builtin "object.__class__") = some true
theorem class_exc {Q : Option Value → Shared → Prop} (X : K.In s.heap) (I : InstAt s.heap x ox C od) (c : XIs K C) (h : Q (some (.ref C)) { s with toks := s.toks + 1 }) : wpAny (model prog w) A (getAttr? (.ref x) "__class__") Q E s := by
  obtain ⟨hh, g, d, t, os⟩ := s
  have L0 := I.type (M := model prog w)
  have L1 := looks_findIn (M := model prog w) X c.ga
  have L2 := looks_hook (M := model prog w) (mc := .ref C) X (r := none) (by rw [if_pos (show onTheHeap (.ref C) = true from rfl)]; exact c.gt)
  have LF := looks_find (M := model prog w) X I (findObj_any (name := "__class__") c.cl c.ca c.cn c.ct)
  have sub : Looks (model prog w) hh (isInstance (.ref x) (.type "BaseException")) true := I.type.andThen (looks_mroIn X c.mb)
  have hk : builtinKind "BaseException.__getattribute__" = some .slot := by decide +kernel
  have hsplit : splitId "BaseException.__getattribute__" = some ("BaseException", "__getattribute__") := by decide +kernel
  unfold getAttr? getAttrBy? getAttrBy
  refine wpAny_bind (wpAny_mkText (wpAny_bind (wpAny_attempt (wpAny_holding (wpAny_bind (L0.at (wpAny_bind (L1.at ?_))))))))
  show wpAny _ _ (getAttrByItsOwn _ _ _ _ _ _) _ _ _
  unfold getAttrByItsOwn
  refine wpAny_bind (L2.at (wpAny_bind (wpAny_attempt (wpAny_holding ?_))))
  have hx0 : (false && onTheHeap (Value.builtin "BaseException.__getattribute__")) = false := rfl
  unfold callGetattribute
  rw [hx0, if_neg (by decide)]
  unfold boundAndCalled
  rw [PySem.F.excAttr_ValueError.ga.bind (.ref x)]
  refine wpAny_bind (wpAny_pure (wpAny_call (codeAny_call_builtin PySem.F.excAttr_ValueError.ga.plain PySem.F.entry_bexc_ga (@check_slot (model prog w) _ _ _ "BaseException.__getattribute__" "BaseException" "__getattribute__" (.ref x) [.str "__class__" t] [] _ hk hsplit sub (PySem.F.args_bexc_ga _ _) ?_))))
  unfold Builtin.«object.__getattribute__»
  refine wpAny_bind (wpAny_pure (a := (Value.ref x, [Value.str "__class__" t])) ?_)
  refine wpAny_bind (wpAny_pure (a := Str.ofString "__class__") (wpAny_bind (L0.at (wpAny_bind (LF.at ?_)))))
  show wpAny _ _ (holding [Value.builtin "object.__class__"] (call (.builtin "getset_descriptor.__get__") [.builtin "object.__class__", .ref x, .ref C]) >>= ret) _ _ _
  refine wpAny_bind (wpAny_holding (wpAny_call (class_get (s := { heap := hh, gens := g, drawn := d, toks := t + 1, os := os }) (ox := ox) (od := od) X I c.mo ?_)))
  refine wpAny_pure ?_
  show wpAny _ _ (handedOut (.ref C)) _ _ _
  rw [handedOut_of rfl]
  exact wpAny_pure (wpAny_pure h)

theorem kitx_exc {e : Addr} (c : XIs K C) : KitX K (.ref e) (.ref C) (fun h => ∃ ox od, InstAt h e ox C od) where
  ty := fun _ _ _ p => let ⟨_, _, I⟩ := p; I.type
  it := fun _ _ X _ => by
    obtain ⟨cd, hc⟩ := Option.isSome_iff_exists.mp c.cl
    unfold clsIn at hc
    split at hc
    · rename_i c' d' cd' sl' ho
      intro A' Q' E' s' k q
      unfold isType loadHead
      exact wpAny_bind (wpAny_loadPart (k _ _ (X _ _ ho)) (wpAny_pure q))
    · cases hc
  ne := fun h tp dd its n sl X htp => by
    obtain ⟨cd, hc⟩ := Option.isSome_iff_exists.mp c.cl
    refine Bool.eq_false_iff.mpr fun q => ?_
    have e : C = tp := Value.ref.inj (beq_iff_eq.mp q)
    subst e
    unfold clsIn at hc
    split at hc
    · rename_i c' d' cd' sl' ho
      have z := (X _ _ ho).symm.trans htp
      cases z
    · cases hc
  ca := fun X p k => let ⟨_, _, I⟩ := p; class_exc X I c k
end
section
variable {X : Cx} {K : PySem.W.Frag}
def rIsX (K : PySem.W.Frag) : List V → Hp → VK → Prop := fun xs H Q => ∃ (a C C1 : Addr) (b : Bool), xs = [.ref a, .ref C1] ∧ H a = some (excO a C none) ∧ XIs K C ∧ kitOne K (.ref C) (.ref C1) = some b ∧ Q (.bl b) H
def rIsXT (K : PySem.W.Frag) : List V → Hp → VK → Prop := fun xs H Q => ∃ (a C t : Addr) (cs : List Addr) (b : Bool), xs = [.ref a, .ref t] ∧ H a = some (excO a C none) ∧ H t = some (.tup (cs.map V.ref)) ∧ XIs K C ∧ kitAny K (.ref C) (cs.map Value.ref) = some b ∧ Q (.bl b) H
theorem vals_refs : ∀ {cs : List Addr} {us : List Value}, Vals (cs.map V.ref) us → us = cs.map Value.ref
  | [], _, .nil => rfl
  | _ :: _, _, .cons h q => by
    cases h
    rw [vals_refs q]
    rfl
/-- an own class, by its name -/
theorem pe_cls {n : Str} {pos : Pos} {C : Addr} (hm : X.mg n = some (.ref C)) (hg : Gl X n := by rfl) (hd : (n == ("__debug__" : Str)) = false := by decide) : PE X (.Name n pos) (tC (.ref C)) := pe_glob (x := n) (v := .ref C) hg hm rfl hd
end
end L2

namespace L2
open PySem PySem.Spec PyProof.Rows
section
variable {X : Cx}
def rIndex : V → List V → Hp → VK → Prop := fun x vs H Q => ∃ (l : Addr) (ns : List Int) (k : Int) (j : Nat), x = .ref l ∧ vs = [.int k] ∧ H l = some (.lst (ns.map V.int)) ∧ ns[j]? = some k ∧ (∀ m, m < j → ns[m]? ≠ some k) ∧ Q (.int j) H
end
end L2

namespace PyProof.Rows.TS
open PySem PyProof.Rows
/-- by what is sorted: the kind, the key, what may stand there -/
class KeyC where
  κ : SortKind
  kf : Keyed → Int
  ok : Keyed → Prop
class KeyLt (prog : Program) (w : World) (A : Around) (E : Value → Shared → Prop) (s : Shared) [KeyC] : Prop where
  lt : ∀ {st : SortSt} {x y : Keyed} {Q : Option Bool → SortSt → Prop}, kindOf st = KeyC.κ → KeyC.ok x → KeyC.ok y → Q (some (decide (KeyC.kf x < KeyC.kf y))) st → wpS (model prog w) A E s (lt' x y) Q st
variable [KeyC]
def IntK (p : Keyed) : Prop := KeyC.ok p
def keyOf (p : Keyed) : Int := KeyC.kf p
def K (xs : Array Keyed) (i : Nat) : Int := match xs[i]? with
  | some p => keyOf p
  | none => 0
section
variable {prog : Program} {w : World} {A : Around} {E : Value → Shared → Prop} {s : Shared} [KeyLt prog w A E s]
end
section
variable {prog : Program} {w : World} {A : Around} {E : Value → Shared → Prop} {s : Shared} [KeyLt prog w A E s]
end
def LeK (x y : Keyed) : Prop := keyOf x ≤ keyOf y
/-- a merge under way: what is out, and what is left of both -/
structure MgL (out ra rb all : List Keyed) : Prop where
  perm : (out ++ (ra ++ rb)).Perm all
  srt : out.Pairwise LeK
  low : ∀ x ∈ out, ∀ y ∈ ra ++ rb, LeK x y
  sa : ra.Pairwise LeK
  sb : rb.Pairwise LeK
def Srt (all res : List Keyed) : Prop := res.Perm all ∧ res.Pairwise LeK
section
variable {prog : Program} {w : World} {A : Around} {E : Value → Shared → Prop} {s : Shared} [KeyLt prog w A E s]
abbrev MgA (a b : Array Keyed) (out : Array Keyed) (ia ib : Nat) : Prop := MgL out.toList (a.toList.drop ia) (b.toList.drop ib) (a.toList ++ b.toList)
section
variable {a b out : Array Keyed} {ia ib : Nat}
end
end
/-- a merge from the end: what is out (the greatest), and what is left of both -/
structure MgR (tail ra rb all : List Keyed) : Prop where
  perm : ((ra ++ rb) ++ tail).Perm all
  srt : tail.Pairwise LeK
  high : ∀ x ∈ tail, ∀ y ∈ ra ++ rb, LeK y x
  sa : ra.Pairwise LeK
  sb : rb.Pairwise LeK
abbrev MgB (a b : Array Keyed) (out : Array Keyed) (na nb : Nat) : Prop := MgR out.toList.reverse (a.toList.take na) (b.toList.take nb) (a.toList ++ b.toList)
section
variable {a b out : Array Keyed} {na nb : Nat}
end
section
variable {prog : Program} {w : World} {A : Around} {E : Value → Shared → Prop} {s : Shared} [KeyLt prog w A E s]
end
/-- changed within a slice only, and there in order alone -/
structure Sl (lo hi : Nat) (xs ys : Array Keyed) : Prop where
  perm : ys.Perm xs
  out : ∀ i, i < lo ∨ hi ≤ i → ys[i]? = xs[i]?
def AllI (xs : Array Keyed) : Prop := ∀ x ∈ xs.toList, IntK x
/-- rising, falling on a slice -/
def Up (xs : Array Keyed) (lo hi : Nat) : Prop := ∀ i j, lo ≤ i → i ≤ j → j < hi → K xs i ≤ K xs j
def Dn (xs : Array Keyed) (lo hi : Nat) : Prop := ∀ i j, lo ≤ i → i ≤ j → j < hi → K xs j ≤ K xs i
/-- the state but for the array -/
def armed (st st' : SortSt) : Prop := kindOf st' = kindOf st ∧ pendingOf st' = pendingOf st ∧ failedOf st' = failedOf st
section
variable {prog : Program} {w : World} {A : Around} {E : Value → Shared → Prop} {s : Shared} [KeyLt prog w A E s]
/-- the array alone is another, within the slice -/
def Moved2 (lo hi : Nat) (st st' : SortSt) : Prop := armed st st' ∧ Sl lo hi (arrOf st) (arrOf st')
end
section
variable {prog : Program} {w : World} {A : Around} {E : Value → Shared → Prop} {s : Shared} [KeyLt prog w A E s]
end
end PyProof.Rows.TS

namespace PyProof.Rows.TS
open PySem PyProof.Rows
variable [KeyC]
section
variable {prog : Program} {w : World} {A : Around} {E : Value → Shared → Prop} {s : Shared} [KeyLt prog w A E s]
end
end PyProof.Rows.TS
namespace PyProof.Rows.TS
open PySem PyProof.Rows
/-- a list written over a slice -/
def wr (arr : Array Keyed) (o : Nat) (l : List Keyed) (k : Nat) : Array Keyed := (l.zipIdx k).foldl (fun a (p : Keyed × Nat) => a.setIfInBounds (o + p.2) p.1) arr
variable [KeyC]
section
variable {prog : Program} {w : World} {A : Around} {E : Value → Shared → Prop} {s : Shared} [KeyLt prog w A E s]
end
end PyProof.Rows.TS
namespace PyProof.Rows.TS
open PySem PyProof.Rows
variable [KeyC]
/-- rising stretches, one behind the other -/
def Runs (arr : Array Keyed) : Nat → List (Nat × Nat × Nat) → Nat → Prop
  | s, [], e => s = e
  | s, r :: l, e => r.1 = s ∧ 0 < r.2.1 ∧ Up arr s (s + r.2.1) ∧ Runs arr (s + r.2.1) l e
/-- the sort under way -/
structure Sx (st₀ st : SortSt) (e : Nat) : Prop where
  kind : kindOf st = kindOf st₀
  fl : failedOf st = none
  perm : (arrOf st).Perm (arrOf st₀)
  runs : Runs (arrOf st) 0 (pendingOf st).toList e
  le : e ≤ (arrOf st₀).size
section
variable {prog : Program} {w : World} {A : Around} {E : Value → Shared → Prop} {s : Shared} [KeyLt prog w A E s]
end
end PyProof.Rows.TS
namespace PyProof.Rows.TS
open PySem PyProof.Rows
variable [KeyC]
section
variable {prog : Program} {w : World} {A : Around} {E : Value → Shared → Prop} {s : Shared}
end
end PyProof.Rows.TS

namespace L2
open PySem PySem.Spec PyProof.Rows PySem.W
section
variable {X : Cx} {K : PySem.W.Frag}
def rSortedB (K : PySem.W.Frag) : List V → Hp → VK → Prop := fun xs H Q => ∃ (a : Addr) (ns : List Int), xs = [.ref a] ∧ SqL K H a (ns.map V.int) ∧ ns.length ≤ 100000 ∧
  ∀ (l : Addr) (ms : List Int), H l = none → ms.Perm ns → ms.Pairwise (· ≤ ·) → Q (.ref l) (upd H l (.lst (ms.map V.int)))
/-- pairs of ints -/
def rSortedP (K : PySem.W.Frag) : List V → Hp → VK → Prop := fun xs H Q => ∃ (a : Addr) (ts : List Addr) (f : Addr → Int), xs = [.ref a] ∧ SqL K H a (ts.map V.ref) ∧ ts.length ≤ 1000 ∧ (∀ t ∈ ts, ∃ x y : Int, H t = some (.tup [.int x, .int y]) ∧ f t = x * 64 + y ∧ 0 ≤ y ∧ y < 64) ∧
  ∀ (l : Addr) (us : List Addr), H l = none → us.Perm ts → us.Pairwise (fun t u => f t ≤ f u) → Q (.ref l) (upd H l (.lst (us.map V.ref)))
end
end L2

namespace L2
open PySem
variable {a1 a2 a3 a4 a5 a6 b : TS} {D : Ends} {σ : St} {H : Hp}
end L2

namespace L2
open PySem PySem.Spec PyProof.Rows
section
variable {X : Cx} {pins : List (Addr × Obj)} {σ : St} {H : Hp} {s : Shared} {a : Addr} {kvs : List (Key × V)}
def tThaw (te : TE) : TE := fun σ H Q => te σ H fun x H' => ∃ a o kvs, H a = some (.dK kvs) ∧ H' a = some (.frz o (.dK kvs)) ∧ Q x (upd H' a (.dK kvs))
def Itd (a : Addr) (o : Obj) (kvs : List (Key × V)) : It :=
  ⟨fun i H => H a = some (.frz o (.dK kvs)) ∧ i < kvs.length, fun i H x H' => H' = H ∧ ∃ kv, kvs[i]? = some kv ∧ x = kV kv.1, fun i H => H a = some (.frz o (.dK kvs)) ∧ kvs.length ≤ i⟩
def iDict (tl : TE) : TI := fun σ H R => tl σ H fun x H1 => ∃ a kvs, x = .ref a ∧ H1 a = some (.dK kvs) ∧ ∀ o, R (Itd a o kvs) (upd H1 a (.frz o (.dK kvs)))
/-- list(d) -/
def rListD : List V → Hp → VK → Prop := fun xs H Q => ∃ (a : Addr) (kvs : List (Key × V)), xs = [V.ref a] ∧ H a = some (.dK kvs) ∧ ∀ l, H l = none → Q (.ref l) (upd H l (.lst (kvs.map fun kv => kV kv.1)))
end
end L2

namespace PyProof.Rows.TS
open PySem PySem.Spec PyProof.Rows PySem.W
section
variable {prog : Program} {w : World} {A : Around} {E : Value → Shared → Prop} {s : Shared} {Kk : Type} [DecidableEq Kk] {knd : PySem.KeyKind prog w Kk}
end
section
variable [KeyC] {prog : Program} {w : World} {A : Around} {E : Value → Shared → Prop} {s : Shared}
end
end PyProof.Rows.TS
namespace L2
open PySem PySem.Spec PyProof.Rows PySem.W
section
variable {X : Cx}
def rSortedD : List V → Hp → VK → Prop := fun xs H Q => ∃ (a : Addr) (kvs : List (Key × V)) (ns : List Int), xs = [V.ref a] ∧ H a = some (.dK kvs) ∧ kvs.map (fun kv => kV kv.1) = ns.map V.int ∧ ns.length ≤ 100000 ∧
  ∀ (l : Addr) (ms : List Int), H l = none → ms.Perm ns → ms.Pairwise (· ≤ ·) → Q (.ref l) (upd H l (.lst (ms.map V.int)))
end
end L2

namespace PySem
open Sem (wp)
section
variable {prog : Program} {w : World} {A : Around} {E : Value → Shared → Prop} {s : Shared}
end
end PySem
namespace PySem
open Sem (wp)
namespace F
end F
section
variable {prog : Program} {w : World} {A : Around} {E : Value → Shared → Prop} {Kk : Type} [DecidableEq Kk] {knd : KeyKind prog w Kk}
end
end PySem
namespace L2
open PySem PySem.Spec PyProof.Rows
section
variable {X : Cx} {K : PySem.W.Frag}
/-- dict(l), l a list of pairs of an int and a value -/
def rDictP (K : PySem.W.Frag) : List V → Hp → VK → Prop := fun xs H Q => ∃ (a : Addr) (ts : List Addr) (kvs : List (Key × V)), xs = [V.ref a] ∧ SqL K H a (ts.map V.ref) ∧ kvs.length ≤ 100000 ∧ ts.length = kvs.length ∧
  (∀ (i : Nat) (t : Addr) (kv : Key × V), ts[i]? = some t → kvs[i]? = some kv → H t = some (.tup [kV kv.1, kv.2])) ∧ ∀ l, H l = none → Q (.ref l) (upd H l (.dK (mergeK [] kvs)))
end
end L2

namespace L2
open PySem PySem.Spec PyProof.Rows
section
variable {X : Cx}
def rDClear : V → List V → Hp → VK → Prop := fun x vs H Q => ∃ l kvs, x = .ref l ∧ vs = [] ∧ H l = some (.dK kvs) ∧ Q .non (upd H l (.dK []))
end
theorem kit_dict_dict {K : PySem.W.Frag} : PySem.W.kitOne K (.type "dict") (.type "dict") = some true := by rfl
end L2

namespace L2
open PySem PySem.Spec PyProof.Rows
/-- the text of these signs -/
def tx (l : List Nat) : Str := ⟨l.toArray⟩
theorem tx_len (l : List Nat) : (tx l).length = l.length := by show l.toArray.size = l.length; simp
theorem tx_list (l : List Nat) : (tx l).cps.toList = l := by show l.toArray.toList = l; simp
theorem tx_inj {a b : List Nat} (h : tx a = tx b) : a = b := by rw [← tx_list a, h, tx_list]
theorem tx_of (x : Str) : tx x.cps.toList = x := ext_toList (tx_list _)
theorem tx_app (a b : List Nat) : tx a ++ tx b = tx (a ++ b) := ext_toList (by rw [PySem.W.KT.app_list, tx_list, tx_list, tx_list])
/-- a part of the signs -/
def cutN (xs : List Nat) (lo hi : Option Int) : List Nat := (xs.drop (HT.sIx xs.length 0 lo)).take (HT.sIx xs.length xs.length hi - HT.sIx xs.length 0 lo)
theorem cutN_from (l : List Nat) (k : Nat) : cutN l (some (k : Int)) none = l.drop k := by
  unfold cutN
  rw [HT.sIx_nat, HT.sIx_none]
  by_cases h : k ≤ l.length
  · rw [Nat.min_eq_left h]
    exact List.take_of_length_le (by simp)
  · rw [Nat.min_eq_right (by omega), List.drop_of_length_le (Nat.le_refl _), List.drop_of_length_le (by omega)]
    simp
theorem cutN_to (l : List Nat) (k : Nat) : cutN l none (some (k : Int)) = l.take k := by
  unfold cutN
  rw [HT.sIx_nat, HT.sIx_none, List.drop_zero, Nat.sub_zero]
  by_cases h : k ≤ l.length
  · rw [Nat.min_eq_left h]
  · rw [Nat.min_eq_right (by omega), List.take_of_length_le (Nat.le_refl _), List.take_of_length_le (by omega)]
theorem cutN_mid (l : List Nat) {j k : Nat} (hj : j ≤ l.length) (hk : k ≤ l.length) : cutN l (some (j : Int)) (some (k : Int)) = (l.drop j).take (k - j) := by
  unfold cutN
  rw [HT.sIx_nat, HT.sIx_nat, Nat.min_eq_left hj, Nat.min_eq_left hk]
/-- where a sign stands first, or -1 -/
def findN (l : List Nat) (c : Nat) : Int := if c ∈ l then (l.idxOf c : Nat) else -1
theorem clip_eq (n : Nat) (lo hi : Option Int) : Builtin.Str.strSliceIndices lo hi 1 n = sliceRange ((HT.sIx n 0 lo : Nat) : Int) ((HT.sIx n n hi : Nat) : Int) 1 := by
  have h1 : (match lo with | none => (0 : Int) | some i => max 0 (min (if i < 0 then i + (n : Int) else i) (n : Int))) = ((HT.sIx n 0 lo : Nat) : Int) := by
    cases lo with
    | none => rfl
    | some i =>
      show max 0 (min (if i < 0 then i + (n : Int) else i) (n : Int)) = (((if i < 0 then (i + (n : Int)).toNat else min i.toNat n) : Nat) : Int)
      by_cases h : i < 0
      · rw [if_pos h, if_pos h]; omega
      · rw [if_neg h, if_neg h]; omega
  have h2 : (match hi with | none => (n : Int) | some i => max 0 (min (if i < 0 then i + (n : Int) else i) (n : Int))) = ((HT.sIx n n hi : Nat) : Int) := by
    cases hi with
    | none => rfl
    | some i =>
      show max 0 (min (if i < 0 then i + (n : Int) else i) (n : Int)) = (((if i < 0 then (i + (n : Int)).toNat else min i.toNat n) : Nat) : Int)
      by_cases h : i < 0
      · rw [if_pos h, if_pos h]; omega
      · rw [if_neg h, if_neg h]; omega
  rw [← h1, ← h2]
  cases lo <;> cases hi <;> rfl
theorem find_tx (l : List Nat) (c : Nat) : Txt.find (tx l) ⟨#[c]⟩ = findN l c := by
  rw [find_is_find3]
  have e0 : fromIndex (tx l).length 0 = 0 := by rfl
  have ge : ∀ v, v < l.length → (tx l).cps.getD v 0 = l.getD v 0 := fun v h => by
    show l.toArray.getD v 0 = _
    simp [Array.getD, h]
  unfold findN
  rcases StrLaws.find3_spec (tx l) c 0 with ⟨h, hn⟩ | ⟨k, h, _, hk, hc, hn⟩
  · rw [h, if_neg]
    intro hm
    obtain ⟨v, hv, e⟩ := List.mem_iff_getElem.mp hm
    refine hn v (by rw [e0]; omega) (by rw [tx_len]; exact hv) ?_
    rw [ge v hv]; simp [hv, e]
  · rw [tx_len] at hk
    rw [ge k hk] at hc
    have hc' : l[k] = c := by simpa [hk] using hc
    have hm : c ∈ l := hc' ▸ List.getElem_mem hk
    rw [h, if_pos hm]
    have i1 : l.idxOf c < l.length := List.idxOf_lt_length_of_mem hm
    have i2 : l[l.idxOf c] = c := List.getElem_idxOf i1
    have n1 : ¬ l.idxOf c < k := fun z => hn _ (by rw [e0]; omega) z (by rw [ge _ i1]; simp [i1])
    have n2 : ¬ k < l.idxOf c := fun z => by have q := List.not_of_lt_findIdx (p := (· == c)) z; simp [hc'] at q
    have : k = l.idxOf c := by omega
    rw [this]
section
variable {X : Cx}
theorem op_addT : OpR X (binaryOp .Add) (fun x y H Q => ∃ i j, x = .str (tx i) ∧ y = .str (tx j) ∧ i.length + j.length ≤ sizeLine ∧ Q (.str (tx (i ++ j))) H) := by
  intro pins s σ H x y v u Q I rx ry h
  obtain ⟨i, j, rfl, rfl, hz, q⟩ := h
  refine op_add_str pins s σ H _ _ v u Q I rx ry ⟨tx i, tx j, rfl, rfl, by rw [tx_len, tx_len]; exact hz, ?_⟩
  rw [tx_app]; exact q
theorem op_mulT : OpR X (binaryOp .Mult) (fun x y H Q => ∃ (c n : Nat), x = .str (tx [c]) ∧ y = .int n ∧ 2 ≤ n ∧ n ≤ 1000000 ∧ Q (.str (tx (List.replicate n c))) H) := by
  intro pins s σ H x y v u Q I rx ry h
  obtain ⟨c, n, rfl, rfl, h2, hn, q⟩ := h
  obtain ⟨t, rfl⟩ := rx
  obtain ⟨t', rfl⟩ := ry
  have hs : sizeLine = 16777216 := sizeLine_eq
  have rep : ∀ k : Nat, ∀ acc : Array Nat, ((List.replicate k (tx [c]).cps).foldl (· ++ ·) acc).toList = acc.toList ++ List.replicate k c := by
    intro k
    induction k with
    | zero => intro acc; simp
    | succ k ih =>
      intro acc
      rw [List.replicate_succ, List.foldl_cons, ih]
      simp [tx, List.replicate_succ]
  have e : (⟨(List.replicate (n : Int).toNat (tx [c]).cps).foldl (· ++ ·) #[]⟩ : Str) = tx (List.replicate n c) := ext_toList (by rw [tx_list, Int.toNat_natCast]; simpa using rep n #[])
  refine PySem.P.mul_str ?_ ?_ ?_ ?_
  · rw [decide_eq_false (by omega), decide_eq_false (by omega)]; rfl
  · intro _ _
    rw [tx_len]
    show ¬ (((1 : Nat) : Int) > (2 ^ 63 - 1) / (n : Int))
    have : (1 : Int) ≤ (2 ^ 63 - 1) / (n : Int) := Int.le_ediv_of_mul_le (by omega) (by omega)
    omega
  · intro _ _
    rw [tx_len, Int.toNat_natCast]
    show Builtin.Str.tooLong (1 * n) = false
    unfold Builtin.Str.tooLong
    rw [decide_eq_false]
    omega
  · rw [if_neg (by omega), if_neg (by rw [tx_len]; simp; omega), e]
    exact ⟨by rw [tx_len, List.length_replicate]; omega, ⟨.str _, H, I.tok _, ⟨_, rfl⟩, q⟩⟩
theorem op_inT : OpR X (compareOp .In) (fun x y H Q => ∃ (c : Nat) (l : List Nat), x = .str (tx [c]) ∧ y = .str (tx l) ∧ Q (.bl (decide (c ∈ l))) H) := by
  intro pins s σ H x y v u Q I rx ry h
  obtain ⟨c, l, rfl, rfl, q⟩ := h
  refine op_in_str pins s σ H _ _ v u Q I rx ry ⟨_, _, rfl, rfl, ?_⟩
  rw [show tx [c] = (⟨#[c]⟩ : Str) from rfl, StrLaws.found_one, tx_list]
  exact q
theorem op_notinT : OpR X (compareOp .NotIn) (fun x y H Q => ∃ (c : Nat) (l : List Nat), x = .str (tx [c]) ∧ y = .str (tx l) ∧ Q (.bl (!decide (c ∈ l))) H) := by
  intro pins s σ H x y v u Q I rx ry h
  obtain ⟨c, l, rfl, rfl, q⟩ := h
  refine op_notin_str pins s σ H _ _ v u Q I rx ry ⟨_, _, rfl, rfl, ?_⟩
  rw [show tx [c] = (⟨#[c]⟩ : Str) from rfl, StrLaws.found_one, tx_list]
  exact q
def rIxS2 : R2 := fun x y H Q => ∃ (l : List Nat) (i : Int) (c : Nat), x = .str (tx l) ∧ y = .int i ∧ l.length ≤ sizeLine ∧ atI l i = some c ∧ Q (.str (tx [c])) H
/-- text[i] -/
theorem ix_txt : IxR X rIxS2 := by
  intro value slice pins s σ H x y v u Q I rx ry h hs
  obtain ⟨l, i, c, rfl, rfl, hz, he, q⟩ := h
  exact ix_str value slice pins s σ H _ _ v u Q I rx ry ⟨tx l, i, c, rfl, rfl, by rw [tx_len]; exact hz, by rw [tx_list]; exact he, q⟩ hs
theorem part_of {v : Value} {o : Option Int} (h : IsPart v o) : ∃ p : Option (Int × Tok), v = partValue p ∧ p.map (·.1) = o := by
  cases h with
  | none => exact ⟨none, rfl, rfl⟩
  | int i t => exact ⟨some (i, t), rfl, rfl⟩
def rSlS : V → Option Int → Option Int → Hp → VK → Prop := fun x lo hi H Q => ∃ l : List Nat, x = .str (tx l) ∧ l.length ≤ sizeLine ∧ Q (.str (tx (cutN l lo hi))) H
theorem cutN_len (l : List Nat) (lo hi : Option Int) : (cutN l lo hi).length ≤ l.length := by
  unfold cutN
  rw [List.length_take, List.length_drop]
  omega
/-- text[lo:hi] -/
theorem sl_txt : SlR X rSlS := by
  intro pins s σ H x v vl vu lo hi sl Q I rx hs pl pu h
  obtain ⟨l, rfl, hz, q⟩ := h
  obtain ⟨t, rfl⟩ := rx
  obtain ⟨pl', rfl, rfl⟩ := part_of pl
  obtain ⟨pu', rfl, rfl⟩ := part_of pu
  refine ⟨"str", _, PySem.F.slot_str_getitem.lookup, typeIs_str s _ t, ?_⟩
  have hp : slicePicked (tx l) pl' pu' none = (List.range (HT.sIx l.length l.length (pu'.map (·.1)) - HT.sIx l.length 0 (pl'.map (·.1)))).map (HT.sIx l.length 0 (pl'.map (·.1)) + ·) := by
    unfold slicePicked
    rw [tx_len]
    show Builtin.Str.strSliceIndices _ _ 1 _ = _
    rw [clip_eq, sliceRange_one]
  have hf : (slicePicked (tx l) pl' pu' none).filterMap ((tx l).cps[·]?) = cutN l (pl'.map (·.1)) (pu'.map (·.1)) := by
    rw [hp, pick_run, tx_list]
    rfl
  refine wpAny_getItem_str_slice (l := pl') (u := pu') (st := none) hs rfl ?_
  unfold sliceMade
  by_cases hw : (slicePicked (tx l) pl' pu' none).length = (tx l).length
  · rw [if_pos (by rw [hw]; simp)]
    have hq : cutN l (pl'.map (·.1)) (pu'.map (·.1)) = l := by
      rw [hp, List.length_map, List.length_range, tx_len] at hw
      have h1 := HT.sIx_le l.length l.length (Nat.le_refl _) (pu'.map (·.1))
      unfold cutN
      rw [hw]
      have : HT.sIx l.length 0 (pl'.map (·.1)) = 0 ∨ l.length = 0 := by omega
      rcases this with e | e
      · rw [e]; simp
      · have : l = [] := List.length_eq_zero_iff.mp e
        subst this; simp
    rw [hq] at q
    exact ⟨.str (tx l), H, I, ⟨t, rfl⟩, q⟩
  · rw [if_neg (by simp [hw])]
    rw [show (⟨((slicePicked (tx l) pl' pu' none).filterMap ((tx l).cps[·]?)).toArray⟩ : Str) = tx (cutN l (pl'.map (·.1)) (pu'.map (·.1))) from congrArg tx hf]
    exact ⟨by rw [tx_len]; exact Nat.le_trans (cutN_len _ _ _) hz, ⟨.str _, H, I.tok _, ⟨_, rfl⟩, q⟩⟩
def rFind : V → List V → Hp → VK → Prop := fun x vs H Q => ∃ (l : List Nat) (c : Nat), x = .str (tx l) ∧ vs = [.str (tx [c])] ∧ Q (.int (findN l c)) H
/-- text.find(sign) -/
theorem mt_find : MtR X "str.find" rFind := by
  intro pins s σ H x vs v us Q I rx rv h
  obtain ⟨l, c, rfl, rfl, q⟩ := h
  obtain ⟨t, rfl⟩ := rx
  obtain ⟨u, rfl, t', rfl⟩ := vals1 rv
  exact SC.find (by rw [show tx [c] = (⟨#[c]⟩ : Str) from rfl, find_tx]; exact ⟨.int _, H, I.tok _, ⟨_, rfl⟩, q⟩)
def rIndexT : V → List V → Hp → VK → Prop := fun x vs H Q => ∃ (l : List Nat) (c : Nat), x = .str (tx l) ∧ vs = [.str (tx [c])] ∧ c ∈ l ∧ Q (.int (l.idxOf c : Nat)) H
/-- text.index(sign), of a sign that it has -/
theorem mt_indexT (hc : X.calm = true) : MtR X "str.index" rIndexT := by
  intro pins s σ H x vs v us Q I rx rv h
  obtain ⟨l, c, rfl, rfl, hm, q⟩ := h
  obtain ⟨t, rfl⟩ := rx
  obtain ⟨u, rfl, t', rfl⟩ := vals1 rv
  have e : Txt.find (tx l) (tx [c]) = (l.idxOf c : Nat) := by rw [show tx [c] = (⟨#[c]⟩ : Str) from rfl, find_tx]; unfold findN; rw [if_pos hm]
  refine index_or (I.ok.hd hc) (fun h => ?_) fun _ _ => ?_
  · rw [e] at h; omega
  · rw [e]; exact ⟨.int _, H, I.tok _, ⟨_, rfl⟩, q⟩
/-- the signs of a whole number -/
def decN (n : Nat) : List Nat := (Nat.toDigits 10 n).map Char.toNat
def decI (i : Int) : List Nat := if i < 0 then 45 :: decN i.natAbs else decN i.natAbs
theorem ofString_toString (i : Int) : Str.ofString (toString i) = tx (decI i) := by
  refine ext_toList ?_
  rw [tx_list]
  unfold decI
  cases i with
  | ofNat n =>
    rw [if_neg (by simp)]
    exact PySem.W.KIN.signs_num n
  | negSucc n =>
    rw [if_pos (by omega), signs_ofString]
    show ("-" ++ Nat.repr (n + 1)).toList.map Char.toNat = _
    rw [String.toList_append, List.map_append, Nat.toList_repr]
    rfl
/-- str(i) -/
theorem call_strT : CallR X (.type "str") (fun xs H Q => ∃ i, xs = [.int i] ∧ i.natAbs.log2 < 1920 ∧ Q (.str (tx (decI i))) H) := by
  intro pins s σ H xs us Q I r h
  obtain ⟨i, rfl, hz, q⟩ := h
  refine call_str_int pins s σ H _ us Q I r ⟨i, rfl, hz, ?_⟩
  have e := ofString_toString i
  rw [← e] at q
  exact q
/-- int(text), the text of figures, with a - ahead or not -/
def ReadI (l : List Nat) (n : Int) : Prop := (PySem.NumText.AllDigits l ∧ l ≠ [] ∧ n = (PySem.NumText.digitsVal l : Nat)) ∨ ∃ cs, l = 45 :: cs ∧ PySem.NumText.AllDigits cs ∧ cs ≠ [] ∧ n = -((PySem.NumText.digitsVal cs : Nat) : Int)
theorem call_intT : CallR X (.type "int") (fun xs H Q => ∃ l n, xs = [.str (tx l)] ∧ l.length ≤ 640 ∧ ReadI l n ∧ Q (.int n) H) := by
  intro pins s σ H xs us Q I r h
  obtain ⟨l, n, rfl, hz, hr, q⟩ := h
  obtain ⟨u, rfl, t, rfl⟩ := vals1 r
  refine PySem.W.KIN.call_text (n := n) ?_ (by rw [tx_len]; exact hz) ⟨.int n, H, I.tok _, ⟨_, rfl⟩, q⟩
  rcases hr with ⟨h1, h2, rfl⟩ | ⟨cs, rfl, h1, h2, rfl⟩
  · rw [intText_digits (x := tx l) (by rw [tx_list]; exact h1) (by rw [tx_list]; exact h2) (by rw [tx_len]; omega), tx_list]
  · exact intText_neg (x := tx (45 :: cs)) (tx_list _) h1 h2 (by rw [tx_len]; omega)
def Its (l : List Nat) : It := ⟨fun i _ => i < l.length, fun i H x H' => H' = H ∧ ∃ c, l[i]? = some c ∧ x = .str (tx [c]), fun i _ => l.length ≤ i⟩
theorem turn_txt {P : Program} {w : World} {K : PySem.W.Frag} {tg : Expr} (it : Addr) (l : List Nat) (t : Tok) : Turn P w K tg (Its l) [it] it (fun i h => h.IsStrIter it "str_ascii_iterator" (tx l) t i) where
  mem := by simp
  obj := fun i h st b hb => by
    have e : b = it := by simpa using hb
    subst e
    obtain ⟨o, e, c, d⟩ := st
    exact ⟨o, e, fun v z => by rw [d] at z; cases z⟩
  keep := fun i h h' st k => let ⟨o, ho, r⟩ := st; ⟨o, k it (by simp) o ho, r⟩
  item := by
    intro X hP hw hK hc i pins s σ H E I hf st hg
    subst hP hw hK
    obtain ⟨f0, f1, f2, f3, f4, f5⟩ := hf it (by simp)
    have hi : l[i]? = some l[i] := List.getElem?_eq_getElem hg
    refine wpAny_pyNext_ascii_item st (c := l[i]) (by show l.toArray[i]? = _; simpa using hi) fun h' st' sb => ?_
    have I1 : Inv X pins σ H { s with heap := h', toks := s.toks + 1 } := I.turned (t' := s.toks + 1) (fun b o hb e => (sb.2 b hb).trans e) f0 f1 f3 f4 f5
    obtain ⟨o, e, c, d⟩ := id st'
    exact ⟨_, rfl, go_of (s := { s with heap := h', toks := s.toks + 1 }) e c d (by decide) ⟨.str (tx [l[i]]), H, I1, ⟨_, rfl⟩, ⟨rfl, _, hi, rfl⟩, st', fun b hb => (hf b hb).1⟩⟩
  done := by
    intro X hP hw hK hc i pins s σ H E I hf st hg
    subst hP hw hK
    obtain ⟨f0, f1, f2, f3, f4, f5⟩ := hf it (by simp)
    have hg' : l.length ≤ i := hg
    exact wpAny_pyNext_ascii_end (I.ok.hd hc) st (by show l.toArray[i]? = _; simp; exact hg') fun h' eb => ⟨rfl, I.turned (t' := s.toks) (fun b o hb e => eb b o hb e) f0 f1 f3 f4 f5⟩
  self := fun _ _ _ _ _ st h => wpAny_pyIter_striter_ascii st h
def Ascii (l : List Nat) : Prop := ∀ c ∈ l, c < 128
def iTxt (tl : TE) : TI := fun σ H R => tl σ H fun x H1 => ∃ l, x = .str (tx l) ∧ Ascii l ∧ R (Its l) H1
theorem pi_txt {tg l : Expr} {tl : TE} (hl : PE X l tl) : PI X tg l (iTxt tl) := by
  intro pins s σ H R I h
  refine thn (hl pins s σ H _ I h) fun v s1 ⟨x, H1, I1, r1, q1⟩ => ?_
  obtain ⟨ls, e, ha, q⟩ := q1
  subst e
  obtain ⟨t, rfl⟩ := r1
  refine wpAny_pyIter_ascii ?_ ?_
  · rw [← Array.all_toList, tx_list, List.all_eq_true]
    intro c hc
    exact decide_eq_true (ha c hc)
  · refine ⟨s1.heap.objs.size, [s1.heap.objs.size], _, _, _, rfl, I1.kept (t' := s1.toks) fun b o e => Heap.get?_push_of_some _ e, turn_txt _ ls t, ⟨_, Heap.get?_push_size _ rfl, rfl, rfl⟩, fun b hb => ?_, q⟩
    have e : b = s1.heap.objs.size := by simpa using hb
    subst e
    exact I1.fpOk (Nat.le_refl _) (I1.hok.fresh (Nat.le_refl _))
theorem comp_txt {l : List Nat} {g : TG} {te : TE} {Q : VK} {σ : St} {H : Hp} (hn : l.length ≤ 1000000) (Pv : Nat → List V → St → Hp → Prop) (h0 : Pv 0 [] σ H) (hlen : ∀ i ys σ H, Pv i ys σ H → ys.length = i)
    (hs : ∀ i ys σ H c, l[i]? = some c → Pv i ys σ H → g (.str (tx [c])) σ H fun σ2 H3 => te σ2 H3 fun y H5 => Pv (i + 1) (ys ++ [y]) σ2 H5)
    (hd : ∀ ys σ H D, Pv l.length ys σ H → H D = none → Q (.ref D) (upd H D (.lst ys))) : CompW (Its l) g tNoIf te Q σ H :=
  comp_by hn Pv h0 hlen (fun i ys σ H h p => h) (fun ys σ H p => Nat.le_refl _)
    (fun i ys σ H x H2 h p y => by obtain ⟨e, c, y1, y2⟩ := y; subst e y2; exact hs i ys σ _ c y1 p) hd
theorem pe_txt {x : Str} {j : Nat} {pos : Pos} (l : List Nat) (h : x = tx l) : PE X (.Constant (.str x) j pos) (tC (.str (tx l))) := by subst h; exact pe_str
def rLenT : List V → Hp → VK → Prop := fun xs H Q => ∃ l : List Nat, xs = [.str (tx l)] ∧ l.length ≤ sizeLine ∧ Q (.int l.length) H
theorem call_lenT : CallR X (.builtin "len") rLenT := by
  intro pins s σ H xs us Q I r h
  obtain ⟨l, rfl, hz, q⟩ := h
  exact call_len pins s σ H _ us Q I r ⟨_, l.length, rfl, ⟨by rw [tx_len]; exact hz, (tx_len l).symm⟩, q⟩
def rStrT : List V → Hp → VK → Prop := fun xs H Q => ∃ i, xs = [.int i] ∧ i.natAbs.log2 < 1920 ∧ Q (.str (tx (decI i))) H
def rIntT : List V → Hp → VK → Prop := fun xs H Q => ∃ l n, xs = [.str (tx l)] ∧ l.length ≤ 640 ∧ ReadI l n ∧ Q (.int n) H
def rAddT : R2 := fun x y H Q => ∃ i j, x = .str (tx i) ∧ y = .str (tx j) ∧ i.length + j.length ≤ sizeLine ∧ Q (.str (tx (i ++ j))) H
def rMulT : R2 := fun x y H Q => ∃ (c n : Nat), x = .str (tx [c]) ∧ y = .int n ∧ 2 ≤ n ∧ n ≤ 1000000 ∧ Q (.str (tx (List.replicate n c))) H
def rInT (neg : Bool) : R2 := fun x y H Q => ∃ (c : Nat) (l : List Nat), x = .str (tx [c]) ∧ y = .str (tx l) ∧ Q (.bl (if neg then !decide (c ∈ l) else decide (c ∈ l))) H
theorem call_strR : CallR X (.type "str") rStrT := call_strT
theorem call_intR : CallR X (.type "int") rIntT := call_intT
theorem op_addR : OpR X (binaryOp .Add) rAddT := op_addT
theorem op_mulR : OpR X (binaryOp .Mult) rMulT := op_mulT
theorem op_inR : OpR X (compareOp .In) (rInT false) := op_inT
theorem op_notinR : OpR X (compareOp .NotIn) (rInT true) := op_notinT
end
/-- written texts, one after the other -/
def txtsOf : List Expr → Option (List (List Nat))
  | [] => some []
  | .Constant (.str x) _ _ :: r => (txtsOf r).map (x.cps.toList :: ·)
  | _ => none
def tTxts (ls : List (List Nat)) : TA := fun _ H Q => Q (ls.map fun l => V.str (tx l)) H
theorem pa_txts {X : Cx} : ∀ {es : List Expr} (ls : List (List Nat)), txtsOf es = some ls → PA X es (tTxts ls)
  | [], ls, h => by
    cases h
    exact pa_nil
  | .Constant (.str x) j p :: r, ls, h => by
    cases e : txtsOf r with
    | none => rw [txtsOf, e] at h; cases h
    | some ms =>
      rw [txtsOf, e] at h
      cases h
      have h1 := pa_cons (X := X) (pe_txt (x := x) (j := j) (pos := p) x.cps.toList (tx_of x).symm) (pa_txts (es := r) ms e)
      exact h1
theorem bt_str : bootBuiltins "str" = some (.type "str") := by decide +kernel
theorem kit_str_str {K : PySem.W.Frag} : PySem.W.kitOne K (.type "str") (.type "str") = some true := by rfl
theorem kit_int_str {K : PySem.W.Frag} : PySem.W.kitOne K (.type "int") (.type "str") = some false := by rfl
theorem kit_bool_str {K : PySem.W.Frag} : PySem.W.kitOne K (.type "bool") (.type "str") = some false := by rfl
theorem kit_list_str {K : PySem.W.Frag} : PySem.W.kitOne K (.type "list") (.type "str") = some false := by rfl
theorem kit_none_str {K : PySem.W.Frag} : PySem.W.kitOne K (.type "NoneType") (.type "str") = some false := by rfl
theorem tx_str {a b : List Nat} : (tx a = tx b) = (a = b) := propext ⟨tx_inj, fun h => by rw [h]⟩
end L2

namespace PySem.SeqAt
open PySem PySem.AutoSeq1 PySem.MeetsSeq PySem.MeetsSeq2 PySem.MeetsSeq3
end PySem.SeqAt
namespace L2
open PySem PySem.Spec PyProof.Rows PySem.SeqAt
section
variable {X : Cx} {K : PySem.W.Frag}
def rGeL (K : PySem.W.Frag) : R2 := fun x y H Q => ∃ (a b : Addr) (ns ms : List Int) (j : Nat), x = .ref a ∧ y = .ref b ∧ SqL K H a (ns.map V.int) ∧ SqL K H b (ms.map V.int) ∧ j < ns.length ∧ j < ms.length ∧ (∀ m, m < j → ns.getD m 0 = ms.getD m 0) ∧ ns.getD j 0 < ms.getD j 0 ∧ Q (.bl false) H
/-- x in a list of like ones -/
def rInS (K : PySem.W.Frag) (neg : Bool) : R2 := fun x y H Q => ∃ d ds, Dp K H x d ∧ Dp K H y (.list ds) ∧ shaped (.list ds) = true ∧ d ∈ ds ∧ Q (.bl (!neg)) H
end
end L2
namespace L2
open PySem
end L2

namespace L2
open PySem PySem.Spec PyProof.Rows PySem.W
section
variable {X : Cx} {K : PySem.W.Frag}
end
/-- an own class as the text has it: to be made, to be asked -/
structure OCls (K : PySem.W.Frag) (C : Addr) : Prop where
  cl : Cls K C
  mks : makesIn K C = true
  kp : keepIn K (.ref C) = true
  ca : findIn K (.ref C) "__class__" = some (some (.builtin "object.__class__"))
  sp : specialIn K (.builtin "object.__class__") "__get__" = some (some (.builtin "getset_descriptor.__get__"))
  tk : takesIn K (.builtin "object.__class__") = some true
  mr : mroIn K C (.type "object") = some true
theorem OCls.ty {K : PySem.W.Frag} {C a dx : Addr} {fs : List (Str × V)} {H : Hp} (c : OCls K C) (e : H a = some (.ins C dx fs)) : TyOf K H (.ref a) (.ref C) := .ins e c.cl c.ca c.sp c.tk c.mr
section
variable {X : Cx} {K : PySem.W.Frag} {C : Addr} {k : Nat} {sp : Sp} {E : XK} {x m : Str} {p pos apos : Pos} {e o : Expr} {es : List Expr} {ta : TE} {t : TA}
/-- C() of a class without an __init__ of its own -/
def tMakeN (C : Addr) : TE := fun _ H Q => ∀ x dx, H x = none → H dx = none → dx ≠ x → Q (.ref x) (upd (upd H dx (.own x)) x (.ins C dx []))
/-- o.m(..), the method by the class of what stands there -/
def tMethD (m : Str) (R : Addr → Sp → Prop) (E : XK) (ta : TE) (t : TA) : TE := fun σ H Q => ta σ H fun x H1 => ∃ a C dx fs sp, x = .ref a ∧ H1 a = some (.ins C dx fs) ∧ fs.lookup m = none ∧ R C sp ∧ t σ H1 fun vs H2 => sp (x :: vs) H2 Q E
end
/-- try: o.m(..) -/
def tTryM (m : Str) (R : Addr → Sp → Prop) (ta : TE) (t : TA) (th : TH) : TS := fun D σ H => tMethD m R (fun cls da H2 => ∃ C, cls = .ref C ∧ th C da D σ H2) ta t σ H fun _ H2 => D.nx σ H2
section
variable {X : Cx} {k : Nat} {m : Str} {h0 : ExceptHandler} {hs : List ExceptHandler} {th : TH} {R : Addr → Sp → Prop} {cpos apos pos mpos : Pos} {o e : Expr} {es : List Expr} {ta : TE} {t : TA}
end
end L2
namespace L2
open PySem PySem.Spec PyProof.Rows
def rTupOf (K : PySem.W.Frag) : List V → Hp → VK → Prop := fun xs H Q => ∃ p ys, xs = [.ref p] ∧ ((SqL K H p ys ∧ ∀ l, H l = none → Q (.ref l) (upd H l (.tup ys))) ∨ (SqT K H p ys ∧ Q (.ref p) H))
end L2

namespace L2
open PySem PySem.Spec PyProof.Rows PySem.W
section
variable {X : Cx} {K : PySem.W.Frag}
/-- the dict, where the exception has one, is there -/
def DictIn (H : Hp) (da : Option Addr) : Prop := ∀ dx, da = some dx → ∃ fs, H dx = some (.xd fs)
theorem inst_ofd {P : Program} {w : World} {H : Hp} {h : Heap} {a C : Addr} {da : Option Addr} (hok : HOk P w H h) (ha : H a = some (excO a C da)) (hd : DictIn H da) : ∃ ox od, InstAt h a ox C od := by
  obtain ⟨oe, vs, h1, h2, h3, h4⟩ := (show ObjOk P w H h a (excO a C da) from hok a _ ha).1
  obtain ⟨c, d, dt, sl⟩ := oe
  dsimp only at h2 h3 h4
  subst h2 h3 h4
  cases d with
  | none => exact ⟨_, none, h1, rfl, rfl, trivial⟩
  | some dx =>
    obtain ⟨fs, e⟩ := hd dx rfl
    obtain ⟨od, ho⟩ := objOk_there (hok dx _ e)
    exact ⟨_, some od, h1, rfl, rfl, ho⟩
def rIsXd (K : PySem.W.Frag) : List V → Hp → VK → Prop := fun xs H Q => ∃ (a C C1 : Addr) (da : Option Addr) (b : Bool), xs = [.ref a, .ref C1] ∧ H a = some (excO a C da) ∧ DictIn H da ∧ XIs K C ∧ kitOne K (.ref C) (.ref C1) = some b ∧ Q (.bl b) H
theorem call_isXd (e : X.K = K) : CallR X (.builtin "isinstance") (rIsXd K) := by
  subst e
  intro pins s σ H xs us Q I r h
  obtain ⟨a, C, C1, da, b, rfl, ha, hd, c, k, q⟩ := h
  obtain ⟨u, w', rfl, ru, rw'⟩ := vals2 r
  cases ru
  cases rw'
  exact kia_one (kitx_exc c) I.kIn (inst_ofd I.hok ha hd) k (fun z => nomatch z) fun tk => ⟨.bl b, H, I.tok tk, rfl, q⟩
def rIsXV (K : PySem.W.Frag) : List V → Hp → VK → Prop := fun xs H Q => ∃ (a C : Addr) (n : String) (da : Option Addr) (b : Bool), xs = [.ref a, .ty n] ∧ H a = some (excO a C da) ∧ DictIn H da ∧ XIs K C ∧ kitOne K (.ref C) (.type n) = some b ∧ Q (.bl b) H
theorem call_isXV (e : X.K = K) : CallR X (.builtin "isinstance") (rIsXV K) := by
  subst e
  intro pins s σ H xs us Q I r h
  obtain ⟨a, C, n, da, b, rfl, ha, hd, c, k, q⟩ := h
  obtain ⟨u, w', rfl, ru, rw'⟩ := vals2 r
  cases ru
  cases rw'
  exact kia_one (kitx_exc c) I.kIn (inst_ofd I.hok ha hd) k (fun z => nomatch z) fun tk => ⟨.bl b, H, I.tok tk, rfl, q⟩
def rIsXTd (K : PySem.W.Frag) : List V → Hp → VK → Prop := fun xs H Q => ∃ (a C t : Addr) (cs : List Addr) (da : Option Addr) (b : Bool), xs = [.ref a, .ref t] ∧ H a = some (excO a C da) ∧ DictIn H da ∧ H t = some (.tup (cs.map V.ref)) ∧ XIs K C ∧ kitAny K (.ref C) (cs.map Value.ref) = some b ∧ Q (.bl b) H
theorem call_isXTd (e : X.K = K) : CallR X (.builtin "isinstance") (rIsXTd K) := by
  subst e
  intro pins s σ H xs us Q I r h
  obtain ⟨a, C, t, cs, da, b, rfl, ha, hdi, ht, c, k, q⟩ := h
  obtain ⟨u, w', rfl, ru, rw'⟩ := vals2 r
  cases ru
  cases rw'
  obtain ⟨its, rv, pl, hz⟩ := I.tuple (.of ht)
  have e := vals_refs rv
  subst e
  obtain ⟨o, ho, hc, n, hd⟩ := pl
  obtain ⟨c0, d0, dt, sl⟩ := o
  dsimp only at hc hd
  subst hc hd
  exact kia_tup (kitx_exc c) I.kIn (inst_ofd I.hok ha hdi) ho k (fun z => nomatch z) fun tk => ⟨.bl b, H, I.tok tk, rfl, q⟩
/-- isinstance(x, C) of an instance of an own class -/
def rIsO (K : PySem.W.Frag) : List V → Hp → VK → Prop := fun xs H Q => ∃ (x : V) (C1 : Addr) (t : Value) (b : Bool), xs = [x, .ref C1] ∧ TyOf K H x t ∧ kitOne K t (.ref C1) = some b ∧ Q (.bl b) H
end
theorem bt_ValueError : bootBuiltins "ValueError" = some (.type "ValueError") := by decide +kernel
end L2

namespace L2
open PySem
def tLstG (t : TA) : TE := fun σ H Q => t σ H fun xs H1 => xs.length ≤ sizeLine ∧ ∀ p G, H1 p = none → Same H1 G → G p = some (.lst xs) → Q (.ref p) G
def tTupG (t : TA) : TE := fun σ H Q => t σ H fun xs H1 => xs.length ≤ sizeLine ∧ ∀ p G, H1 p = none → Same H1 G → G p = some (.tup xs) → Q (.ref p) G
section
variable {X : Cx} {es : List Expr} {t : TA} {pos : Pos}
end
end L2
namespace L2
open PySem PySem.W
section
variable {K : PySem.W.Frag} {h : Heap} {mg : Str → Option Value} {x : Str} {C : Addr}
variable {f : Addr} {m qual : Str} {st : Stmt} {ps : List Str} {oc kV doc pm cd ct : Value} {od an : Option Addr} {sl : Array (Option Value)}
end
end L2

namespace L2
open PySem PySem.Spec PyProof.Rows
section
variable {X : Cx} {K : PySem.W.Frag}
def rExtendT (K : PySem.W.Frag) : V → List V → Hp → VK → Prop := fun x vs H Q => ∃ l b xs zs, x = .ref l ∧ vs = [.ref b] ∧ H l = some (.lst xs) ∧ SqT K H b zs ∧ xs.length + zs.length ≤ sizeLine ∧ Q .non (upd H l (.lst (xs ++ zs)))
def rCount : V → List V → Hp → VK → Prop := fun x vs H Q => ∃ (l : Addr) (bs : List Bool), x = .ref l ∧ vs = [.bl true] ∧ H l = some (.lst (bs.map V.bl)) ∧ Q (.int (bs.count true : Nat)) H
end
end L2

namespace PySem
namespace F
end F
section
variable {prog : Program} {w : World} {A : Around} {E : Value → Shared → Prop} {s : Shared}
def Heap.IsRevT (h : Heap) (a t : Addr) (i : Int) : Prop := ∃ o, h.get? a = some o ∧ o.cls = .type "reversed" ∧ o.data = .fields #[.ref t, rawInt i]
end
end PySem
namespace L2
open PySem PySem.Spec PyProof.Rows
/-- a tuple of n, from its end -/
def ItR (K : PySem.W.Frag) (a : Addr) (n : Nat) : It :=
  ⟨fun i H => ∃ xs x, SqT K H a xs ∧ i < n ∧ xs[n - 1 - i]? = some x, fun i H x H' => H' = H ∧ ∀ xs, SqT K H a xs → xs[n - 1 - i]? = some x, fun i _ => n ≤ i⟩
def iRevT (K : PySem.W.Frag) (ta : TA) : TI := fun σ H R => ta σ H fun vs H1 => ∃ a xs, vs = [.ref a] ∧ SqT K H1 a xs ∧ R (ItR K a xs.length) H1
end L2

namespace L2
open PySem PySem.Spec PyProof.Rows
/-- the text's name at the top -/
def GTxt (mg : Str → Option Value) (x : Str) (l : List Nat) : Prop := ∃ t, mg x = some (.str (tx l) t)
theorem gtxt_mk {K : PySem.W.Frag} {h : Heap} {mg : Str → Option Value} {x y : Str} {t : Tok} {l : List Nat} (X : K.In h) (G : h.Ns mainGlobals mg) (za : PySem.W.nsIn K mainGlobals x = some (some (.str y t))) (zy : y = tx l) : GTxt mg x l := ⟨t, by rw [← zy]; exact PySem.W.mg_of X G za⟩
section
variable {X : Cx} {K : PySem.W.Frag}
theorem pe_gt {x : Str} {l : List Nat} {pos : Pos} (h : GTxt X.mg x l) (hg : Gl X x := by rfl) (hd : (x == ("__debug__" : Str)) = false := by decide) : PE X (.Name x pos) (tC (.str (tx l))) := by
  obtain ⟨tk, hm⟩ := h
  exact pe_glob hg hm ⟨tk, rfl⟩ hd
/-- where the sign stands first from a place on, or -1 -/
def findF (l : List Nat) (c : Nat) (p : Nat) : Int := if c ∈ l.drop p then ((p + (l.drop p).idxOf c : Nat) : Int) else -1
theorem find3_tx (l : List Nat) (c : Nat) (p : Nat) : Txt.find3 (tx l) ⟨#[c]⟩ (p : Int) = findF l c p := by
  have e0 : fromIndex (tx l).length (p : Int) = p := by
    unfold fromIndex
    rw [if_neg (by omega)]
    omega
  have ge : ∀ v, v < l.length → (tx l).cps.getD v 0 = l.getD v 0 := fun v h => by
    show l.toArray.getD v 0 = _
    simp [Array.getD, h]
  unfold findF
  rcases StrLaws.find3_spec (tx l) c (p : Int) with ⟨h, hn⟩ | ⟨k, h, hlo, hk, hc, hn⟩
  · rw [h, if_neg]
    intro hm
    obtain ⟨v, hv, e⟩ := List.mem_iff_getElem.mp hm
    rw [List.length_drop] at hv
    refine hn (p + v) (by rw [e0]; omega) (by rw [tx_len]; omega) ?_
    rw [ge _ (by omega)]
    rw [List.getElem_drop] at e
    simp [show p + v < l.length by omega, e]
  · rw [tx_len] at hk
    rw [e0] at hlo hn
    rw [ge k hk] at hc
    have hc' : l[k] = c := by simpa [hk] using hc
    have hkd : k - p < (l.drop p).length := by rw [List.length_drop]; omega
    have ek : (l.drop p)[k - p] = c := by rw [List.getElem_drop, ← hc']; congr 1; omega
    have hm : c ∈ l.drop p := ek ▸ List.getElem_mem hkd
    rw [h, if_pos hm]
    have i1 : (l.drop p).idxOf c < (l.drop p).length := List.idxOf_lt_length_of_mem hm
    have i2 : (l.drop p)[(l.drop p).idxOf c] = c := List.getElem_idxOf i1
    have i3 : p + (l.drop p).idxOf c < l.length := by rw [List.length_drop] at i1; omega
    have n1 : ¬ p + (l.drop p).idxOf c < k := fun z => hn _ (by omega) z (by rw [ge _ i3]; rw [List.getElem_drop] at i2; simp [i3, i2])
    have n2 : ¬ k - p < (l.drop p).idxOf c := fun z => by have q := List.not_of_lt_findIdx (p := (· == c)) z; simp [ek] at q
    have : k = p + (l.drop p).idxOf c := by omega
    rw [this]
def rFind3 : V → List V → Hp → VK → Prop := fun x vs H Q => ∃ (l : List Nat) (c p : Nat), x = .str (tx l) ∧ vs = [.str (tx [c]), .int p] ∧ p < 1000000 ∧ Q (.int (findF l c p)) H
/-- text.find(sign, place) -/
theorem mt_find3 : MtR X "str.find" rFind3 := by
  intro pins s σ H x vs v us Q I rx rv h
  obtain ⟨l, c, p, rfl, rfl, hp, q⟩ := h
  obtain ⟨t, rfl⟩ := rx
  obtain ⟨u, u', rfl, ⟨t', rfl⟩, ⟨t'', rfl⟩⟩ := vals2 rv
  exact SC.find3 (by rw [show tx [c] = (⟨#[c]⟩ : Str) from rfl, find3_tx]; exact ⟨.int _, H, I.tok _, ⟨_, rfl⟩, q⟩)
def rStarts : V → List V → Hp → VK → Prop := fun x vs H Q => ∃ (l : List Nat) (c : Nat), x = .str (tx l) ∧ vs = [.str (tx [c])] ∧ Q (.bl (decide (l.take 1 = [c]))) H
theorem starts_tx (l : List Nat) (c : Nat) : Txt.startswith (tx l) (tx [c]) = decide (l.take 1 = [c]) := by
  have e := StrLaws.subAt_one (tx l) c 0
  rw [tx_list] at e
  unfold Txt.startswith
  rw [show tx [c] = (⟨#[c]⟩ : Str) from rfl]
  by_cases h : l[0]? = some c
  · obtain ⟨e1, e2⟩ := e.mpr h
    rw [decide_eq_true e1, e2]
    cases l with
    | nil => cases h
    | cons d l => cases h; simp
  · have hn : ¬ l.take 1 = [c] := fun z => h (by cases l with | nil => cases z | cons d l => simp at z; simp [z])
    rw [decide_eq_false hn]
    by_cases e1 : 0 + (⟨#[c]⟩ : Str).length ≤ (tx l).length
    · rw [Bool.and_eq_false_iff]
      exact .inr (Bool.eq_false_iff.mpr fun z => h (e.mp ⟨e1, z⟩))
    · rw [decide_eq_false e1]; rfl
/-- text.startswith(sign) -/
theorem mt_starts : MtR X "str.startswith" rStarts := by
  intro pins s σ H x vs v us Q I rx rv h
  obtain ⟨l, c, rfl, rfl, q⟩ := h
  obtain ⟨t, rfl⟩ := rx
  obtain ⟨u, rfl, t', rfl⟩ := vals1 rv
  exact SC.startswith (by rw [starts_tx]; exact ⟨.bl _, H, I, rfl, q⟩)
/-- ''.join(list) -/
def rJoin (K : PySem.W.Frag) : V → List V → Hp → VK → Prop := fun x vs H Q => ∃ (a : Addr) (ls : List (List Nat)), x = .str (tx []) ∧ vs = [.ref a] ∧ SqL K H a (ls.map fun l => V.str (tx l)) ∧ ls.length ≤ 1000 ∧ (∀ l ∈ ls, l.length ≤ 1000) ∧ Q (.str (tx ls.flatten)) H
theorem vals_strs : ∀ {ls : List (List Nat)} {us : List Value}, Vals (ls.map fun l => V.str (tx l)) us → ∃ m : List (Str × Tok), us = strValues m ∧ m.map (·.1) = ls.map tx
  | [], _, .nil => ⟨[], rfl, rfl⟩
  | l :: ls, _, .cons h t => by
    obtain ⟨k, rfl⟩ := h
    obtain ⟨m, rfl, e⟩ := vals_strs t
    exact ⟨(tx l, k) :: m, rfl, by rw [List.map_cons, e]; rfl⟩
theorem join_tx : ∀ ls : List (List Nat), Txt.join (tx []) (ls.map tx) = tx ls.flatten := by
  intro ls
  show Builtin.Str.glued (tx []) (ls.map tx) = _
  rw [StrLaws.glued_eq_join]
  induction ls with
  | nil => rfl
  | cons l ls ih =>
    cases ls with
    | nil =>
      show tx l = _
      simp
    | cons l2 ls =>
      show tx l ++ tx [] ++ Str.join (tx []) ((l2 :: ls).map tx) = _
      rw [ih, tx_app, tx_app, List.append_nil, ← List.flatten_cons]
theorem mt_join (eK : X.K = K) : MtR X "str.join" (rJoin K) := by
  subst eK
  intro pins s σ H x vs v us Q I rx rv h
  obtain ⟨a, ls, rfl, rfl, ha, hn, hb, q⟩ := h
  obtain ⟨t, rfl⟩ := rx
  obtain ⟨u, rfl, ru⟩ := rv.one
  cases ru
  obtain ⟨its, r, p, hz⟩ := I.list ha
  obtain ⟨m, rfl, em⟩ := vals_strs r
  have fit : Builtin.Str.tooLong ((m.map (·.1)).toArray.foldl (· + ·.length + (tx []).length) 0) = false := StrLaws.joinFits (B := 1000) (by
    rw [em]
    intro y hy
    obtain ⟨l, hl, rfl⟩ := List.mem_map.mp hy
    rw [tx_len]; exact hb l hl) (by
    rw [em, List.length_map, tx_len]
    have : ls.length * 1000 ≤ 1000 * 1000 := Nat.mul_le_mul_right _ hn
    simp only [List.length_nil]; omega)
  refine SC.join p.isList em (by unfold JoinOk; rw [← em, fit]; rfl) fun t' k => ?_
  rw [join_tx]
  exact ⟨.str _, H, I.tok _, ⟨_, rfl⟩, q⟩
/-- f"a{e}b" of a whole number -/
def tFstr (la lb : List Nat) (te : TE) : TE := fun σ H Q => te σ H fun x H1 => ∃ i : Int, x = .int i ∧ i.natAbs.log2 < 1920 ∧ la.length + (decI i).length + lb.length ≤ sizeLine ∧ Q (.str (tx (la ++ decI i ++ lb))) H1
theorem pe_fstr {xa xb : Str} {j1 j2 : Nat} {p1 p2 p3 pos : Pos} {e : Expr} {te : TE} (la lb : List Nat) (ea : xa = tx la) (eb : xb = tx lb) (hla : la.length ≤ 1000) (he : PE X e te) :
    PE X (.JoinedStr [.Constant (.str xa) j1 p1, .FormattedValue e (-1) none p2, .Constant (.str xb) j2 p3] pos) (tFstr la lb te) := by
  subst ea eb
  intro pins s σ H Q I h
  refine JoinedStr_many ?_
  refine joinParts_cons (thn (pe_txt (X := X) la rfl pins s σ H (fun x H1 => x = .str (tx la) ∧ H1 = H) I ⟨rfl, rfl⟩) fun v s1 ⟨x, H1, I1, r1, e1, e2⟩ => ?_)
  subst e1 e2
  obtain ⟨t1, rfl⟩ := r1
  have ez : Str.empty ++ tx la = tx la := by rw [show Str.empty = tx [] from rfl, tx_app, List.nil_append]
  show (Str.empty ++ tx la).length ≤ sizeLine ∧ wpAny _ _ (joinParts (Str.empty ++ tx la) (eval (e.FormattedValue (-1) none p2) X.env :: evalEach [Expr.Constant (Const.str (tx lb)) j2 p3] X.env)) _ _ _
  rw [ez]
  refine ⟨by rw [tx_len]; exact Nat.le_trans hla (by decide), joinParts_cons (FormattedValue_plain (thn (he pins s1 σ _ _ I1 h) fun v s2 ⟨x, H2, I2, r2, i, ei, hlog, hfit, q⟩ => ?_))⟩
  subst ei
  obtain ⟨t2, rfl⟩ := r2
  refine formatField_int_small hlog ?_
  show (tx la ++ Str.ofString (toString i)).length ≤ sizeLine ∧ wpAny _ _ (joinParts (tx la ++ Str.ofString (toString i)) (evalEach [Expr.Constant (Const.str (tx lb)) j2 p3] X.env)) _ _ _
  rw [ofString_toString, tx_app]
  refine ⟨by rw [tx_len, List.length_append]; omega, ?_⟩
  show wpAny _ _ (joinParts (tx (la ++ decI i)) [eval (Expr.Constant (Const.str (tx lb)) j2 p3) X.env]) _ _ _
  have I3 := I2.tok (s2.toks + 1 + 1)
  refine joinParts_cons (thn (pe_txt (X := X) lb rfl pins _ σ H2 (fun x H3 => x = .str (tx lb) ∧ H3 = H2) I3 ⟨rfl, rfl⟩) fun v s3 ⟨x, H3, I4, r3, e1, e2⟩ => ?_)
  subst e1 e2
  obtain ⟨t3, rfl⟩ := r3
  show (tx (la ++ decI i) ++ tx lb).length ≤ sizeLine ∧ wpAny _ _ (joinParts (tx (la ++ decI i) ++ tx lb) []) _ _ _
  rw [tx_app]
  have fit : (tx (la ++ decI i ++ lb)).length ≤ sizeLine := by rw [tx_len, List.length_append, List.length_append]; omega
  exact ⟨fit, joinParts_nil ⟨.str _, _, I4.tok _, ⟨_, rfl⟩, q⟩ fit⟩
end
end L2

namespace L2
open PySem PySem.Spec PyProof.Rows
/-- the third field of a record -/
def F2 (o : Obj) : Option Value := match o.data with
  | .fields vs => vs[2]?
  | _ => none
/-- writes no third field, frees nothing, calls nothing -/
def Kc {α : Type} : Sem α → Prop
  | .pure _ => True
  | .raise _ => True
  | .unsupported _ => True
  | .finish _ => True
  | .rule _ k => Kc (k ())
  | .at _ k => Kc (k ())
  | .load _ _ k => ∀ o, Kc (k o)
  | .update _ _ f k => (∀ o, F2 (f o) = F2 o ∧ (f o).isFreed = o.isFreed) ∧ Kc (k ())
  | .alloc _ k => ∀ a, Kc (k a)
  | .loadIfAlive _ k => ∀ o, Kc (k o)
  | .point _ k => Kc (k ())
  | .register _ _ => False
  | .fresh k => ∀ t, Kc (k t)
  | .ask k => ∀ x, Kc (k x)
  | .choose _ _ k => ∀ x, Kc (k x)
  | .os _ _ _ => False
  | .call _ _ _ _ _ => False
  | .handled _ k => ∀ x, Kc (k x)
  | .newGen _ _ => False
  | .genState _ _ => False
  | .resume _ _ _ _ => False
  | .yield _ _ _ _ => False
  | .stack k => ∀ x, Kc (k x)
  | .fork _ _ => False
  | .thread k => ∀ x, Kc (k x)
  | .await _ _ _ _ _ => False
theorem Kc.bind {α β : Type} {m : Sem α} {f : α → Sem β} (hm : Kc m) (hf : ∀ a, Kc (f a)) : Kc (m >>= f) := by
  show Kc (m.bind f)
  induction m with
  | pure a => exact hf a
  | raise e => trivial
  | unsupported w => trivial
  | finish e => trivial
  | rule t k ih => exact ih () hm
  | «at» p k ih => exact ih () hm
  | load a p k ih => exact fun o => ih o (hm o)
  | update a p g k ih => exact ⟨hm.1, ih () hm.2⟩
  | alloc o k ih => exact fun a => ih a (hm a)
  | loadIfAlive a k ih => exact fun o => ih o (hm o)
  | point l k ih => exact ih () hm
  | register a k ih => exact hm
  | fresh k ih => exact fun t => ih t (hm t)
  | ask k ih => exact fun x => ih x (hm x)
  | choose s n k ih => exact fun x => ih x (hm x)
  | os q l k ih => exact hm
  | call c h g l k ih => exact hm
  | handled o k ih => exact fun x => ih x (hm x)
  | newGen c k ih => exact hm
  | genState g k ih => exact hm
  | resume g r l k ih => exact hm
  | yield v g l k ih => exact hm
  | stack k ih => exact fun x => ih x (hm x)
  | fork c k ih => exact hm
  | thread k ih => exact fun x => ih x (hm x)
  | await a t d l k ih => exact hm
/-- the record at e has the third field d -/
def CtxIs (e : Addr) (d : Option Value) (s : Shared) : Prop := ∃ o, s.heap.get? e = some o ∧ F2 o = d
theorem CtxIs.push {e : Addr} {d : Option Value} {s : Shared} (o : Obj) (h : CtxIs e d s) : CtxIs e d { s with heap := s.heap.push o } := by
  obtain ⟨u, hu, hd⟩ := h
  exact ⟨u, Heap.get?_push_of_some _ hu, hd⟩
theorem CtxIs.update {e a : Addr} {d : Option Value} {s : Shared} {f : Obj → Obj} (hf : ∀ o, F2 (f o) = F2 o ∧ (f o).isFreed = o.isFreed) (h : CtxIs e d s) : CtxIs e d { s with heap := s.heap.update a f } := by
  obtain ⟨u, hu, hd⟩ := h
  by_cases ea : a = e
  · subst ea
    exact ⟨f u, Heap.get?_update_self f hu (by rw [(hf u).2]; exact get_notFreed hu), (hf u).1.trans hd⟩
  · exact ⟨u, (Heap.get?_update_other _ f ea).trans hu, hd⟩
theorem wp_kc {α : Type} {M : Model} {Γ : PySem.Ctx} {Q : α → Pos → Shared → Prop} {E : Value → Pos → Shared → Prop} {e : Addr} {d : Option Value} (t : Sem α) : ∀ {p : Pos} {s : Shared}, Kc t → Sem.wp M Γ t Q E p s → CtxIs e d s →
    Sem.wp M Γ t (fun a p s' => Q a p s' ∧ CtxIs e d s') (fun x p s' => E x p s' ∧ CtxIs e d s') p s := by
  induction t with
  | pure a => intro p s _ h i; rw [Sem.wp] at h ⊢; exact ⟨h, i⟩
  | raise x => intro p s _ h i; rw [Sem.wp] at h ⊢; exact ⟨h, i⟩
  | unsupported w => intro p s _ h i; rw [Sem.wp] at h; exact h.elim
  | finish x => intro p s _ h i; rw [Sem.wp] at h; exact h.elim
  | rule t k ih => intro p s hk h i; rw [Sem.wp] at h ⊢; exact ih () hk h i
  | «at» q k ih => intro p s hk h i; rw [Sem.wp] at h ⊢; exact ih () hk h i
  | load a q k ih => intro p s hk h i; rw [Sem.wp] at h ⊢; obtain ⟨o, e1, h⟩ := h; exact ⟨o, e1, ih o (hk o) h i⟩
  | update a q g k ih => intro p s hk h i; rw [Sem.wp] at h ⊢; exact ⟨h.1, ih () hk.2 h.2 (i.update hk.1)⟩
  | alloc o k ih => intro p s hk h i; rw [Sem.wp] at h ⊢; exact ih _ (hk _) h (i.push o)
  | loadIfAlive a k ih => intro p s hk h i; rw [Sem.wp] at h ⊢; exact ih _ (hk _) h i
  | point l k ih => intro p s hk h i; rw [Sem.wp] at h ⊢; exact ih () hk h i
  | register a k ih => intro p s hk; exact hk.elim
  | fresh k ih => intro p s hk h i; rw [Sem.wp] at h ⊢; exact ih _ (hk _) h i
  | ask k ih => intro p s hk h i; rw [Sem.wp] at h ⊢; exact ih _ (hk _) h i
  | choose q n k ih => intro p s hk h i; rw [Sem.wp] at h ⊢; exact ⟨h.1, ih _ (hk _) h.2 i⟩
  | os q l k ih => intro p s hk; exact hk.elim
  | call c h g l k ih => intro p s hk; exact hk.elim
  | handled o k ih => intro p s hk h i; rw [Sem.wp] at h ⊢; exact ih _ (hk _) h i
  | newGen c k ih => intro p s hk; exact hk.elim
  | genState g k ih => intro p s hk; exact hk.elim
  | resume g r l k ih => intro p s hk; exact hk.elim
  | yield v g l k ih => intro p s hk; exact hk.elim
  | stack k ih => intro p s hk h i; rw [Sem.wp] at h ⊢; exact ih _ (hk _) h i
  | fork c k ih => intro p s hk; exact hk.elim
  | thread k ih => intro p s hk h i; rw [Sem.wp] at h ⊢; exact ih _ (hk _) h i
  | await a t d l k ih => intro p s hk; exact hk.elim
theorem wpAny_kc {α : Type} {M : Model} {A : Around} {t : Sem α} {Q : α → Shared → Prop} {E : Value → Shared → Prop} {e : Addr} {d : Option Value} {s : Shared} (hk : Kc t) (i : CtxIs e d s) (h : wpAny M A t Q E s) :
    wpAny M A t (fun a s' => Q a s' ∧ CtxIs e d s') (fun x s' => E x s' ∧ CtxIs e d s') s := fun Γ p hΓ => wp_kc t hk (h Γ p hΓ) i
theorem kc_load (a : Addr) : Kc (load a) := fun _ => trivial
theorem kc_field (v : Value) (i : Nat) : Kc (field v i) := by
  unfold field fieldsOf
  refine Kc.bind ?_ fun vs => ?_
  · cases v <;> first | trivial | skip
    refine Kc.bind (kc_load _) fun o => ?_
    split <;> trivial
  · split <;> trivial
theorem mapFields_kc {i : Nat} {x : Value} (h : i ≠ 2) (o : Obj) : F2 (Obj.mapFields (·.setIfInBounds i x) o) = F2 o ∧ (Obj.mapFields (·.setIfInBounds i x) o).isFreed = o.isFreed := by
  obtain ⟨c, d, dt, sl⟩ := o
  cases dt <;> first | exact ⟨rfl, rfl⟩ | skip
  refine ⟨?_, rfl⟩
  show (Array.setIfInBounds _ i x)[2]? = _
  rw [Array.getElem?_setIfInBounds_ne h]
  rfl
theorem kc_setField (v : Value) {i : Nat} (x : Value) (h : i ≠ 2) : Kc (setField v i x) := by
  unfold setField updateField
  cases v <;> first | trivial | skip
  refine Kc.bind (kc_load _) fun o => ?_
  split
  · split
    · exact ⟨mapFields_kc h, trivial⟩
    · trivial
  · trivial
theorem kc_setFlight (e : Value) (x : Option Addr) : Kc (setFlight e x) := by
  unfold setFlight
  refine Kc.bind (kc_field _ _) fun tb => ?_
  split
  · exact kc_setField _ _ (by decide)
  · trivial
theorem kc_stack : Kc (stack : Sem (List (Code × Pos))) := fun _ => trivial
theorem kc_readyFrames : ∀ l : List Env, Kc (readyFrames l)
  | [] => trivial
  | env :: outer => by
    unfold readyFrames
    split
    · refine Kc.bind (kc_load _) fun o => ?_
      split
      · trivial
      · refine Kc.bind ?_ fun _ => Kc.bind ?_ fun _ => Kc.bind ?_ fun _ => kc_readyFrames outer
        · unfold behindIsImport
          split
          · trivial
          · split
            · trivial
            · exact Kc.bind (kc_field _ _) fun _ => trivial
        · unfold keptBack
          split
          · split
            · trivial
            · exact Kc.bind (Kc.bind kc_stack fun _ => trivial) fun _ => trivial
          · trivial
        · exact ⟨fun o => ⟨rfl, by obtain ⟨c, d, dt, sl⟩ := o; cases dt <;> rfl⟩, trivial⟩
    · trivial
theorem kc_frameOf (env : Env) : Kc (PySem.frameOf env) := by
  unfold PySem.frameOf
  refine Kc.bind (Kc.bind kc_stack fun _ => trivial) fun l => Kc.bind ?_ fun o => ?_
  · unfold frameObject
    split
    · trivial
    · exact Kc.bind (kc_readyFrames _) fun _ => trivial
  · split <;> trivial
theorem kc_entryPlaceOf (f : Addr) (b : Bool) : Kc (entryPlaceOf f b) := by
  unfold entryPlaceOf
  refine Kc.bind kc_stack fun l => ?_
  split <;> trivial
theorem kc_made (x : String) (d : Data) : Kc (newObjAsIs (.type x) d none) := fun _ => trivial
theorem kc_newEntry (a b c d e : Value) (l : List Value) : Kc (EntryCells.newEntry a b c d e l) := by
  unfold EntryCells.newEntry newFields newObj
  dsimp only
  split <;> split <;> first | exact True.intro | exact kc_made _ _
theorem kc_noteFrame (e : Value) (env : Env) : Kc (noteFrame e env) := by
  unfold noteFrame
  split
  · refine Kc.bind (kc_field _ _) fun head => ?_
    have fin : ∀ (f : Addr) (b : Bool), Kc (do let a ← PySem.frameOf env; let pl ← entryPlaceOf f b; let x ← EntryCells.newEntry head a .none (rawInt f) .none pl; setField e 1 x) := fun f b =>
      Kc.bind (kc_frameOf env) fun _ => Kc.bind (kc_entryPlaceOf _ _) fun _ => Kc.bind (kc_newEntry _ _ _ _ _ _) fun _ => kc_setField _ _ (by decide)
    split
    · refine Kc.bind (kc_field _ _) fun x => ?_
      split
      · trivial
      · exact Kc.bind (kc_setField _ _ (by decide)) fun _ => fin _ _
    · exact fin _ _
  · trivial
theorem kc_leaving (env : Env) (e : Value) : Kc (leaving env e) := Kc.bind (kc_noteFrame e env) fun _ => kc_setFlight _ _
end L2

namespace PySem
theorem F.entry_unchain : entryFor table "proto.unchain" = some Builtin.«proto.unchain» := entryFor_of_tree (by kernel_rfl)
theorem F.plain_unchain : plainId "proto.unchain" = true := by decide +kernel
section
variable {prog : Program} {w : World} {A : Around} {E : Value → Shared → Prop} {env : Env}
variable {nm q : Str} {C N : Addr} {bs bm : List Value} {hdct : Bool} {sn : List Str} {sub : List Value} {ab : Bool} {col : Option Bool} {dd : Option Addr} {k0 k1 k2 k3 k5 : Option Value} {newId : String}
theorem raise_from {s : Shared} {x c : Sem Value} {Q : Flow → Shared → Prop} {a : Addr} (hbase : bm.contains (.type "BaseException") = true) (hh : A.handled = some (.ref a)) (hc : ∀ (s : Shared) (Q : Value → Shared → Prop), Q .none s → wpAny (model prog w) A c Q E s)
    (h : wpAny (model prog w) A x (fun v s₁ => ∃ e t oa va, v = .ref e ∧ s₁.heap.get? C = some (excClassObj nm q C N bs bm hdct sn sub ab col dd k0 k1 k2 k3 k5 newId) ∧
      s₁.heap.get? e = some { cls := .ref C, data := .fields #[.ref t, .none, .none, .none, .bool false, .none] } ∧ e ≠ a ∧ e ≠ C ∧ s₁.heap.get? a = some oa ∧ oa.data = .fields va ∧ va[2]? = some .none ∧
      ∀ h' : Heap, h'.get? e = some { cls := .ref C, data := .fields #[.ref t, .none, .ref a, .none, .bool true, .none] } → Heap.SameBut e s₁.heap h' → E (.ref e) { s₁ with heap := h' }) E s) :
    wpAny (model prog w) A (raiseStmt env (some x) (some c)) Q E s := by
  have hcB : (Value.ref C :: bm).contains (.type "BaseException") = true := by rw [List.contains_cons, hbase, Bool.or_true]
  unfold raiseStmt
  refine wpAny_bind (wpAny_mono h (fun v s₁ h₁ => ?_) fun _ _ x => x)
  obtain ⟨e, t, oa, va, rfl, hC, he, hea, heC, ha, hva, h2, hE⟩ := h₁
  obtain ⟨hp, g, d, tk, os⟩ := s₁
  refine wpAny_bind (wpAny_holding (hc _ _ ?_))
  repeat (first | with_reducible refine wpAny_loadPart_at he ?_ | with_reducible refine wpAny_loadPart_at hC ?_ | (with_reducible refine wpAny_isSubtype_exc hC ?_; rw [hcB]) | wp_step)
  have u1 : (hp.update e (Obj.mapFields fun x => x.setIfInBounds 3 Value.none)).get? e = some { cls := .ref C, data := .fields #[.ref t, .none, .none, .none, .bool false, .none] } := Heap.get?_update_self _ he (by rfl)
  have u2 := Heap.get?_update_self (h := hp.update e (Obj.mapFields fun x => x.setIfInBounds 3 Value.none)) (Obj.mapFields fun x => x.setIfInBounds 4 (Value.bool true)) u1 (by rfl)
  have a2 : ((hp.update e (Obj.mapFields fun x => x.setIfInBounds 3 Value.none)).update e (Obj.mapFields fun x => x.setIfInBounds 4 (Value.bool true))).get? a = some oa := (Heap.get?_update_other _ _ hea).trans ((Heap.get?_update_other _ _ hea).trans ha)
  have sb : Heap.SameBut e hp ((hp.update e (Obj.mapFields fun x => x.setIfInBounds 3 Value.none)).update e (Obj.mapFields fun x => x.setIfInBounds 4 (Value.bool true))) := (Heap.SameBut.update ..).trans (Heap.SameBut.update ..)
  generalize (hp.update e (Obj.mapFields fun x => x.setIfInBounds 3 Value.none)).update e (Obj.mapFields fun x => x.setIfInBounds 4 (Value.bool true)) = h1 at *
  unfold raiseNew
  refine wpAny_bind (wpAny_handled ?_)
  rw [hh]
  dsimp only
  rw [if_pos (show (Value.ref a != Value.ref e) = true by simpa using Ne.symm hea)]
  refine wpAny_bind (wpAny_holding (wpAny_runValue (codeAny_builtin F.entry_unchain ?_)))
  rw [Around.under_plainId F.plain_unchain _]
  unfold Builtin.«proto.unchain»
  refine wpAny_bind (wpAny_field (s := ⟨h1, g, d, tk, os⟩) a2 hva (x := .none) h2 ?_)
  rw [if_pos (by rfl)]
  refine wpAny_pure ?_
  show wpAny _ _ (updateField e 2 (.ref a) >>= fun _ => throw (.ref e)) _ _ _
  refine wpAny_bind (wpAny_setField (s := ⟨h1, g, d, tk, os⟩) u2 rfl (by simp) ?_)
  refine wpAny_throw (hE _ ?_ (sb.trans (Heap.SameBut.update ..)))
  exact Heap.get?_update_self _ u2 (by rfl)
variable {B initId : String} {bmB : List Value}
theorem Raise_from_call (F : ExcBaseFacts B newId initId bmB) {mN : Str → Option Value} {x : Str} {np cpos pos p0 : Pos} {j0 : Nat} {args : List Expr} {s : Shared} {Q : Flow → Shared → Prop} {a : Addr}
    (hbase : bm.contains (.type "BaseException") = true) (hh : A.handled = some (.ref a)) (hplain : (backTo cpos (starEach args env)).any (·.1) = false) (hni : mN "__init__" = none)
    (h : wpAny (model prog w) A (eval (.Name x np) env) (fun f s₁ => f = .ref C ∧ wpAny (model prog w) A (evalArgs (.ref C) true (backTo cpos (starEach args env)) [])
      (fun ar s₂ => ar.kw = [] ∧ ar.pos.length ≤ sizeLine ∧ s₂.heap.get? C = some (excClassObj nm q C N bs bm hdct sn sub ab col dd k0 k1 k2 k3 k5 newId) ∧ s₂.heap.Ns N mN ∧ OwnTail s₂.heap bmB bm ∧
        (∃ oa va, s₂.heap.get? a = some oa ∧ oa.data = .fields va ∧ va[2]? = some .none) ∧
        ∀ h' e, Heap.MadeExcOf s₂.heap h' e (.ref C) ar.pos → ∀ (h'' : Heap) (t : Addr), h''.get? e = some { cls := .ref C, data := .fields #[.ref t, .none, .ref a, .none, .bool true, .none] } → Heap.SameBut e h' h'' → E (.ref e) { s₂ with heap := h'' }) E s₁) E s) :
    wpAny (model prog w) A (exec (.Raise (some (.Call (.Name x np) args [] cpos)) (some (.Constant .none j0 p0)) pos) env) Q E s := by
  rw [arm_exec_Raise]
  simp only [evalOpt, Option.map]
  refine wpAny_bind (wpAny_standAt (raise_from (C := C) (nm := nm) (q := q) (N := N) (bs := bs) (bm := bm) (hdct := hdct) (sn := sn) (sub := sub) (ab := ab) (col := col) (dd := dd) (k0 := k0) (k1 := k1) (k2 := k2) (k3 := k3) (k5 := k5) (newId := newId) (a := a) hbase hh ?_ ?_))
  · intro s' Q' hq
    show wpAny _ _ (do let v ← (pure Value.none : Sem Value); standAt pos; pure v) _ _ _
    exact wpAny_bind (wpAny_pure (wpAny_bind (wpAny_standAt (wpAny_pure hq))))
  · refine wpAny_bind (wpAny_mono (wpAny_Call_ofName (wpAny_mono h (fun f s₁ h₁ => ?_) fun _ _ x => x)) (fun v s₃ h₃ => wpAny_bind (wpAny_standAt (wpAny_pure h₃))) fun _ _ x => x)
    obtain ⟨rfl, h₁⟩ := h₁
    unfold callWith
    refine wpAny_bind (wpAny_holding (wpAny_mono h₁ (fun ar s₂ h₂ => wpAny_bind (wpAny_standAt ?_)) fun _ _ x => x))
    obtain ⟨apos, akw⟩ := ar
    obtain ⟨hkw, hlen, hC, hn, T, ⟨oa, va, a1, a2, a3⟩, h₂⟩ := h₂
    obtain rfl : akw = [] := hkw
    obtain ⟨hp, g, d, tk, os⟩ := s₂
    simp only [hplain]
    refine wpAny_bind (wpAny_keeperOf_exc hC ?_)
    refine wpAny_bind (wpAny_call_exc_subT (hrest := hlen) F T hC hn hni fun h' e hm => wpAny_bind (wpAny_holding (wpAny_point (wpAny_pure ?_))))
    obtain ⟨t, ht, _, _⟩ := hm.there
    exact ⟨e, t, oa, va, rfl, hm.keeps _ _ hC, ht, fun z => by have := hm.new; rw [z] at this; exact absurd (this.symm.trans a1) (by simp), fun z => by have := hm.new; rw [z] at this; exact absurd (this.symm.trans hC) (by simp), hm.keeps _ _ a1, a2, a3, fun h'' he sb => h₂ h' e hm h'' t he sb⟩
end
end PySem

namespace L2
open PySem PySem.Spec PyProof.Rows
section
variable {X : Cx} {pins : List (Addr × Obj)} {σ : St} {H : Hp} {s : Shared}
/-- the caught exception is held as it is -/
theorem XIn.pinned {a : Addr} {cls : Value} {da : Option Addr} (x : XIn X pins σ H a cls da s) {oe : Obj} (he : s.heap.get? a = some oe) : Inv X ((a, oe) :: pins) σ H s := by
  obtain ⟨I, oe', vs, T, oT, ts, a0, f1, f2, f3, f4, f5, f6, f7, f8, f9, n1, n2, n3⟩ := x
  rw [he] at f1
  cases f1
  refine I.pins_of fun p hp => ?_
  rcases List.mem_cons.mp hp with z | z
  · rw [z]
    refine ⟨he, n1.1, n1.2.2.1, fun hf => ?_, fun v z => by rw [f3] at z; cases z⟩
    have hs : a ∈ frs X.stack := by
      rcases I.ok.stk with e | ⟨e, _⟩
      · rw [e]; exact hf
      · rw [e]
        obtain ⟨env, he, hf⟩ := List.mem_filterMap.mp hf
        exact List.mem_filterMap.mpr ⟨env, List.mem_cons_of_mem _ he, hf⟩
    obtain ⟨_, o', e', nf⟩ := I.stack.mem hs
    rw [he] at e'
    cases e'
    exact nf vs f3
  · exact I.pin p (List.mem_append_right _ z)
/-- raise C(..) from None, with an exception in hand that has no context -/
theorem from_suite (d : IsDef X) {a : Addr} {cls : Value} {da : Option Addr} {x : Str} {np cpos pos p0 : Pos} {j0 : Nat} {e : Expr} {es : List Expr} {t : TA} {C : Addr} {E : XK} {D : Ends} {Q : Flow → Shared → Prop} (O : ExcCls X.K C) (hE : Lands X E) (hg : Gl X x) (hm : X.mg x = some (.ref C)) (ha : ∀ v, PA (X.marked v) (e :: es) t)
    (xi : XIn X pins σ H a cls da s) (hx : CtxIs a (some .none) s) (h : tRaise t C E D σ H)
    (he : starEach (e :: es) X.env = (false, eval e X.env) :: starEach es X.env := by rfl) (hpl : (backTo cpos (starEach es X.env)).any (·.1) = false := by rfl) (hdb : (x == ("__debug__" : Str)) = false := by decide) :
    wpAny (model X.prog X.w) (X.A.mark (some (.ref a))) (execs [.Raise (some (.Call (.Name x np) (e :: es) [] cpos)) (some (.Constant .none j0 p0)) pos] X.env) Q X.xe s := by
  obtain ⟨oa, ea, hF⟩ := hx
  have vf : ∃ va, oa.data = .fields va ∧ va[2]? = some .none := by
    unfold F2 at hF
    split at hF
    · rename_i va hv
      exact ⟨va, hv, hF⟩
    · cases hF
  obtain ⟨va, hva, hv2⟩ := vf
  have I0 := xi.pinned ea
  have ok := xi.inv.ok
  have I := I0.marked (.ref a)
  obtain ⟨bm, N, nm, qn, bs, hdct, sn, sub, ab, col, dd, k0, k1, k2, k3, k5, mN, hC, hN, hni, TL⟩ := excObj I.kIn O
  refine wpAny_execs_cons (Q := _) (Raise_from_call (C := C) (nm := nm) (q := qn) (N := N) (bs := bs) (bm := bm) (hdct := hdct) (sn := sn) (sub := sub) (ab := ab) (col := col) (dd := dd) (k0 := k0) (k1 := k1) (k2 := k2) (k3 := k3) (k5 := k5) (mN := mN) (a := a)
    PySem.F.excBase_ValueError (TL.hasType PySem.F.excBase_ValueError.hasBase) rfl ?_ hni (ld_glob I hg hm ⟨rfl, ?_⟩ hdb))
  · rw [he]
    show (false || (backTo cpos (starEach es X.env)).any (·.1)) = false
    rw [hpl]; rfl
  · have ha' := ha (.ref a) cpos ((a, oa) :: pins) s σ H _ I h
    rw [he] at ha' ⊢
    refine Calls.evalArgs_plain (wpAny_mono ha' (fun us s2 q => ?_) fun _ _ y => y)
    obtain ⟨vs, H2, I2, r, hlen, hEE⟩ := q
    have kb : ∀ b o, X.base.get? b = some o → s2.heap.get? b = some o := I2.bk
    obtain ⟨bm1, N1, nm1, qn1, bs1, hdct1, sn1, sub1, ab1, col1, dd1, k01, k11, k21, k31, k51, mN1, hC1, hN1, hni1, TL1⟩ := excObj I.ok.mod.kin O
    have e1 := (I.bk _ _ hC1).symm.trans hC
    injection e1 with e1
    injection e1 with c1 c2 c3 c4
    injection c3 with c3
    injection c3 with d1 d2 d3 d4 d5 d6 d7 d8 d9 d10 d11
    subst d4
    injection d3 with d31 d32
    subst d32
    have hmN : mN = mN1 := by
      obtain ⟨o1, es1, ep1, ho1, hd1, hk1, hf1⟩ := hN
      obtain ⟨o2, es2, ep2, ho2, hd2, hk2, hf2⟩ := hN1
      have := I.bk _ _ ho2
      rw [ho1] at this
      cases this
      rw [hd1] at hd2
      cases hd2
      funext n
      rw [← hf1, ← hf2]
    subst hmN
    have I3 : Inv X pins σ H2 s2 := (I2.unmarked ok).pins_of fun p hp => I2.pin p (List.mem_append_right _ (List.mem_cons_of_mem _ hp))
    refine ⟨rfl, ?_, ?_, hN1.keeps kb, TL1.keeps kb, ⟨oa, va, (I2.pin (a, oa) (List.mem_append_right _ List.mem_cons_self)).1, hva, hv2⟩, fun h1 b hx h2 tt hb sb => ?_⟩
    · have := r.length
      exact Nat.le_trans (by omega : us.length ≤ 10) (by decide)
    · have h0 := I.bk _ _ hC1
      rw [hC] at h0
      have h1 := kb _ _ hC1
      rw [← h0] at h1
      exact h1
    · have hnew := hx.new
      have kk : ∀ c u, s2.heap.get? c = some u → h2.get? c = some u := fun c u ec => (sb.2 c (fun z => by rw [z, hnew] at ec; cases ec)).trans (hx.keeps _ _ ec)
      exact hE pins σ H2 { s2 with heap := h2 } b _ none _ _ (.ref tt) (I3.kept (t' := s2.toks) kk) hb rfl rfl rfl rfl rfl (flyOk_new I3 d hnew (untracked_of I3.hok hnew)) hEE
end
end L2

namespace L2
open PySem PySem.Spec PyProof.Rows
def PHc (X : Cx) (hs : List ExceptHandler) (th : TH) : Prop := ∀ (pins : List (Addr × Obj)) (s : Shared) (σ : St) (H : Hp) (D : Ends) (a C : Addr) (da : Option Addr), XIn X pins σ H a (.ref C) da s → CtxIs a (some .none) s → th C da D σ H →
  wpAny (model X.prog X.w) X.A (handleBy (.ref a) X.env hs) (SP X pins D) X.xe s
def OwnAt (X : Cx) : Prop := ∀ v, PassesOwnAt (model X.prog X.w) (X.A.mark (some v)) X.A X.env X.xe
section
variable {X : Cx} {hs : List ExceptHandler} {th : TH} {C1 C2 : Addr} {c x2 : Str} {np np2 cpos pos p0 hpos : Pos} {j0 : Nat} {e : Expr} {es : List Expr} {t : TA} {K : PySem.W.Frag} {E : XK}
theorem phc_nil : PHc X [] thNil := fun _ _ _ _ _ _ _ _ _ _ z => z.elim
theorem phc_from (d : IsDef X) (hK : X.K = K) (hgc : Gl X c) (hmc : X.mg c = some (.ref C1)) (own : OwnAt X) (O : ExcCls K C2) (hE : Lands X E) (hg2 : Gl X x2) (hm2 : X.mg x2 = some (.ref C2)) (ha : ∀ v, PA (X.marked v) (e :: es) t) (hr : PHc X hs th) (hdc : (c == ("__debug__" : Str)) = false := by decide)
    (he : starEach (e :: es) X.env = (false, eval e X.env) :: starEach es X.env := by rfl) (hpl : (backTo cpos (starEach es X.env)).any (·.1) = false := by rfl) (hdb : (x2 == ("__debug__" : Str)) = false := by decide) :
    PHc X (.ExceptHandler (some (.Name c np)) none [.Raise (some (.Call (.Name x2 np2) (e :: es) [] cpos)) (some (.Constant .none j0 p0)) pos] hpos :: hs) (thC K C1 (tRaise t C2 E) th) := by
  subst hK
  intro pins s σ H D a C da x hx h
  obtain ⟨b, sc, q⟩ := h
  have Jm := x.inv.marked (.ref a)
  refine wpAny_handleBy_cons (codeAny_handlers_test (ld_glob (X := X.marked (.ref a)) Jm hgc hmc ?_ hdc)) (by intro q; cases q)
  obtain ⟨oe, vs', T5, oT, ts', a05, f1, f2, f3, f4, f5, f6, f7, f8, f9, n1, n2, n3⟩ := id x.fl
  refine matches_own x.inv.kIn sc f1 f2 ?_
  cases b with
  | false => exact hr pins s σ H D a C da x hx q
  | true =>
    refine codeAny_handlers_suite ?_
    obtain ⟨T, a0, hb, hd, fl⟩ := x.flying
    refine wpAny_mono (wpAny_kc (E := fun _ _ => False ∧ _) (kc_setFlight _ _) hx (wpAny_kd (E := fun _ _ => False) (kd_setFlight _ _) hd (lands_againW (Q := fun _ s2 => ∃ h', s2 = { s with heap := h' } ∧ Heap.FlyingW (bareOf s.heap ([a, T] ++ frs X.stack)) X.stack a (.ref C) a0 h' ∧ s.heap.UpToSlots h') fl fun h' f2 up => ⟨h', rfl, f2, up⟩))) (fun _ s2 z => ?_) (fun _ _ z => z.1.1.elim)
    obtain ⟨⟨⟨h', rfl, f2', up⟩, hd2⟩, hx2⟩ := z
    have x6 := XIn.on x.inv d hb (by simp) f2' up hd2
    exact wpAny_mono (from_suite (D := D) (Q := fun _ _ => False) d O hE hg2 hm2 ha x6 hx2 q he hpl hdb) (fun _ _ z => z.elim) fun ex s7 z => own (.ref a) ex s7 z
end
/-- how an exception without a context lies behind a call -/
def CXc (P : Program) (w : World) : CXT := fun outer H s E e s' => CXf P w outer H s E e s' ∧ ∀ a, e = .ref a → CtxIs a (some .none) s'
def LandsC (X : Cx) (E : XK) : Prop := ∀ (pins : List (Addr × Obj)) (σ : St) (H : Hp) (s : Shared) (a : Addr) (cls : Value) (da : Option Addr) (oe : Obj) (vs : Array Value) (a0 : Value), Inv X pins σ H s → s.heap.get? a = some oe → oe.cls = cls → oe.data = .fields vs → vs[1]? = some .none → vs[0]? = some a0 → vs[2]? = some .none → oe.dict = da →
  FlyOk X pins H a → E cls da H → X.xe (.ref a) s
section
variable {P : Program} {w : World} {K : PySem.W.Frag} {mg : Str → Option Value} {base : Heap} {N : List Str} {qual : Str} {scope : Scope} {f : Addr} {cd : Value} {A : Around} {outer : List Env} {s : Shared} {H : Hp} {E : XK}
theorem isDefC : IsDef (cxOf (CXc P w) P w K mg base N qual scope f cd A outer s H E) := ⟨rfl, rfl, rfl⟩
theorem passC : Passes (CXc P w) (cxOf (CXc P w) P w K mg base N qual scope f cd A outer s H E) E := by
  intro pins σ H1 s1 e s' I h
  obtain ⟨h, hc⟩ := h
  obtain ⟨a, cls, da, H', rfl, hE, x⟩ := XIn.ofCall isDefC I h
  obtain ⟨T, a0, hb, hd, fl⟩ := x.flying
  have z := wpAny_kc (M := model P w) (E := fun _ _ => False ∧ _) (kc_leaving _ (.ref a)) (hc a rfl) (wpAny_kd (M := model P w) (E := fun _ _ => False) (kd_leaving _ (.ref a)) hd (wpAny_leaves_onW (Q := fun _ s2 => ∃ h', s2 = { s' with heap := h' } ∧ Heap.FlyingW (bareOf s'.heap ([a, T] ++ frs (cxOf (CXc P w) P w K mg base N qual scope f cd A outer s H E).stack)) outer a cls a0 h' ∧ s'.heap.UpToSlots h') x.inv.ok.frames rfl fl fun h' f2 up => ⟨h', rfl, f2, up⟩))
  refine wpAny_mono z (fun _ s2 q => ?_) (fun _ _ q => q.1.1.elim)
  obtain ⟨⟨⟨h', rfl, f2, up⟩, hd2⟩, hc2⟩ := q
  exact ⟨XIn.leave isDefC (XIn.on x.inv isDefC hb (by simp) f2 up hd2) hE, fun b eb => by cases eb; exact hc2⟩
theorem landC : LandsC (cxOf (CXc P w) P w K mg base N qual scope f cd A outer s H E) E := by
  intro pins σ H1 s1 a cls da oe vs a0 I he hc hd h1 h0 h2 hda na hE
  subst hc
  have hb : ∀ b ∈ [a], FlyOk (cxOf (CXc P w) P w K mg base N qual scope f cd A outer s H E) pins H1 b := fun b z => by rw [List.mem_singleton.mp z]; exact na
  have hen : (bareOf s1.heap ([a] ++ frs (cxOf (CXc P w) P w K mg base N qual scope f cd A outer s H E).stack)).get? a = none := PySem.W.hideAll_none _ (by simp)
  have hF : CtxIs a (some .none) s1 := ⟨oe, he, by unfold F2; rw [hd]; exact h2⟩
  have z := wpAny_kc (M := model P w) (E := fun _ _ => False ∧ _) (kc_leaving _ (.ref a)) hF (wpAny_kd (M := model P w) (E := fun _ _ => False) (kd_leaving _ (.ref a)) (show DictIs a da s1 from ⟨oe, he, hda⟩) (wpAny_leaving_firstW (base := bareOf s1.heap ([a] ++ frs (cxOf (CXc P w) P w K mg base N qual scope f cd A outer s H E).stack)) (Q := fun _ s2 => ∃ h', s2 = { s1 with heap := h' } ∧ Heap.FlyingW (bareOf s1.heap ([a] ++ frs (cxOf (CXc P w) P w K mg base N qual scope f cd A outer s H E).stack)) outer a oe.cls a0 h' ∧ s1.heap.UpToSlots h') I.ok.frames (frames_hide I.stack fun b hb => List.mem_append_right _ hb) rfl he (fun b o q => PySem.W.of_hideAll _ q) hen hd h1 h0
    fun h' ⟨k1, ⟨_, _, k2⟩, k3, k4⟩ => ⟨h', rfl, ⟨k1, hen, k2, k3⟩, k4⟩))
  refine wpAny_mono z (fun _ s2 q => ?_) (fun _ _ q => q.1.1.elim)
  obtain ⟨⟨⟨h', rfl, f2, up⟩, hd2⟩, hc2⟩ := q
  exact ⟨XIn.leave isDefC (XIn.on I isDefC hb (by simp) f2 up hd2) hE, fun b eb => by cases eb; exact hc2⟩
theorem ownAtX : OwnAt (cxOf (CXf P w) P w K mg base N qual scope f cd A outer s H E) := fun _ => PassesOwnAt.leaving
end
section
variable {P : Program} {w : World} {K : PySem.W.Frag} {mg : Str → Option Value} {base : Heap}
theorem Fun.okC {x qual : Str} {st : Stmt} {f : Addr} {fd : FuncData} {N ps : List Str} {k : Nat} {sp : Sp} (F : Fun K x qual st f fd) (S : FnScope N ps (defScope st)) (len : ∀ vs H Q E, sp vs H Q E → vs.length = ps.length)
    (hbody : ∀ (cdv : Value) (A : Around) (outer : List Env) (s : Shared) (H : Hp) (vs : List V) (Q : VK) (E : XK), Room k (A.deeper (envOfC qual (defScope st) s.heap.objs.size f cdv)) → sp vs H Q E →
      ∃ t, PSs (cxOf (CXc P w) P w K mg base N qual (defScope st) f cdv A outer s H E) (defBody st) t ∧ t { nx := fun _ H' => Q .non H', rt := Q } (start N vs) H) : FnOk P w K mg base (CXc P w) (k + 1) f fd ps sp := by
  obtain ⟨oc, od, kV, doc, pm, an, cdv, ct, osl, rfl, lk, hcd⟩ := F.ex
  exact fn_of lk hcd S len fun A outer s H vs Q E hr hsp => hbody cdv A outer s H vs Q E hr hsp
def OkC (P : Program) (w : World) (K : PySem.W.Frag) (mg : Str → Option Value) (base : Heap) (x : Str) (ps : List Str) (k : Nat) (sp : Sp) : Prop :=
  ∃ f fd, FnOk P w K mg base (CXc P w) k f fd ps sp ∧ mg x = some (.ref f) ∧ PySem.W.keepIn K (.ref f) = true ∧ Binds K fd ps []
theorem Has.okc {x : Str} {st : Stmt} {ps : List Str} {f : Addr} {fd : FuncData} {N : List Str} {k : Nat} {sp : Sp} (h : Has K mg x st ps f fd) (S : FnScope N ps (defScope st)) (len : ∀ vs H Q E, sp vs H Q E → vs.length = ps.length)
    (hbody : ∀ (cdv : Value) (A : Around) (outer : List Env) (s : Shared) (H : Hp) (vs : List V) (Q : VK) (E : XK), Room k (A.deeper (envOfC x (defScope st) s.heap.objs.size f cdv)) → sp vs H Q E →
      ∃ t, PSs (cxOf (CXc P w) P w K mg base N x (defScope st) f cdv A outer s H E) (defBody st) t ∧ t { nx := fun _ H' => Q .non H', rt := Q } (start N vs) H) : OkC P w K mg base x ps (k + 1) sp :=
  ⟨f, fd, h.fn.okC S len hbody, h.at_, h.fn.kp, h.bd⟩
theorem OkC.ok {x : Str} {ps : List Str} {k : Nat} {sp : Sp} (o : OkC P w K mg base x ps k sp) : Ok P w K mg base x ps k sp := by
  obtain ⟨f, fd, F, h1, h2, h3⟩ := o
  refine ⟨f, fd, ⟨F.len, fun A outer s H args us vs Q E hr he hb hv hs => codeAny_mono (F.run A outer s H args us vs Q E hr he hb hv hs) fun r s' hq => ?_⟩, h1, h2, h3⟩
  cases r with
  | ok fl => cases fl <;> exact hq
  | error e => exact hq.1
end
section
variable {X : Cx} {K : PySem.W.Frag}
theorem pe_callC {k : Nat} {ps : List Str} {sp : Sp} {E : XK} {x : Str} {p pos : Pos} {e : Expr} {es : List Expr} {t : TA} (o : OkC X.prog X.w X.K X.mg X.base x ps k sp) (hr : Room k X.A) (hg : Gl X x) (hx : Passes (CXc X.prog X.w) X E) (ha : PA X (e :: es) t) (hdb : (x == ("__debug__" : Str)) = false := by decide)
    (he : starEach (e :: es) X.env = (false, eval e X.env) :: starEach es X.env := by rfl) (hpl : (backTo pos (starEach es X.env)).any (·.1) = false := by rfl) : PE X (.Call (.Name x p) (e :: es) [] pos) (tCall sp [] E t) := by
  obtain ⟨f, fd, F, hm, hk, hb⟩ := o
  exact pe_call F hr hg hm hk hb .nil hx ha hdb he hpl
end
section
variable {X : Cx}
theorem ps_raiseC (d : IsDef X) {x : Str} {np cpos pos : Pos} {e : Expr} {es : List Expr} {t : TA} {C : Addr} {E : XK} (O : ExcCls X.K C) (hc : X.calm = true) (hE : LandsC X E) (hg : Gl X x) (hm : X.mg x = some (.ref C)) (ha : PA X (e :: es) t)
    (he : starEach (e :: es) X.env = (false, eval e X.env) :: starEach es X.env := by rfl) (hpl : (backTo cpos (starEach es X.env)).any (·.1) = false := by rfl) (hdb : (x == ("__debug__" : Str)) = false := by decide) :
    PS X (.Raise (some (.Call (.Name x np) (e :: es) [] cpos)) none pos) (tRaise t C E) := by
  intro pins s σ H D I h
  obtain ⟨bm, N, nm, qn, bs, hdct, sn, sub, ab, col, dd, k0, k1, k2, k3, k5, mN, hC, hN, hni, TL⟩ := excObj I.kIn O
  refine wpAny_Raise_call_subT (C := C) (nm := nm) (q := qn) (N := N) (bs := bs) (bm := bm) (hdct := hdct) (sn := sn) (sub := sub) (ab := ab) (col := col) (dd := dd) (k0 := k0) (k1 := k1) (k2 := k2) (k3 := k3) (k5 := k5) (mN := mN)
    PySem.F.excBase_ValueError (TL.hasType PySem.F.excBase_ValueError.hasBase) (I.ok.hd hc) ?_ hni (ld_glob I hg hm ⟨rfl, ?_⟩ hdb)
  · rw [he]
    show (false || (backTo cpos (starEach es X.env)).any (·.1)) = false
    rw [hpl]; rfl
  · have ha' := ha cpos pins s σ H _ I h
    rw [he] at ha' ⊢
    refine Calls.evalArgs_plain (wpAny_mono ha' (fun us s2 q => ?_) fun _ _ y => y)
    obtain ⟨vs, H2, I2, r, hlen, hEE⟩ := q
    obtain ⟨bm', N', nm', qn', bs', hdct', sn', sub', ab', col', dd', k0', k1', k2', k3', k5', mN', hC', hN', hni', TL'⟩ := excObj I2.kIn O
    have kb : ∀ b o, X.base.get? b = some o → s2.heap.get? b = some o := I2.bk
    obtain ⟨bm1, N1, nm1, qn1, bs1, hdct1, sn1, sub1, ab1, col1, dd1, k01, k11, k21, k31, k51, mN1, hC1, hN1, hni1, TL1⟩ := excObj I.ok.mod.kin O
    have e1 := (I.bk _ _ hC1).symm.trans hC
    injection e1 with e1
    injection e1 with c1 c2 c3 c4
    injection c3 with c3
    injection c3 with d1 d2 d3 d4 d5 d6 d7 d8 d9 d10 d11
    subst d4
    injection d3 with d31 d32
    subst d32
    have hmN : mN = mN1 := by
      obtain ⟨o1, es1, ep1, ho1, hd1, hk1, hf1⟩ := hN
      obtain ⟨o2, es2, ep2, ho2, hd2, hk2, hf2⟩ := hN1
      have := I.bk _ _ ho2
      rw [ho1] at this
      cases this
      rw [hd1] at hd2
      cases hd2
      funext n
      rw [← hf1, ← hf2]
    subst hmN
    refine ⟨rfl, ?_, ?_, hN1.keeps kb, TL1.keeps kb, fun h1 a hx => ?_⟩
    · have := r.length
      exact Nat.le_trans (by omega : us.length ≤ 10) (by decide)
    · have h0 := I.bk _ _ hC1
      rw [hC] at h0
      have h1 := kb _ _ hC1
      rw [← h0] at h1
      exact h1
    · obtain ⟨t0, he, htn, ht⟩ := hx.there
      exact hE pins σ H2 { s2 with heap := h1 } a _ none _ _ (.ref t0) (I2.kept (t' := s2.toks) hx.keeps) he rfl rfl rfl rfl rfl rfl (flyOk_new I2 d hx.new (untracked_of I2.hok hx.new)) hEE
end
section
variable {X : Cx} {k : Nat} {f : Addr} {fd : FuncData} {ps : List Str} {sp : Sp} {fx y : Str} {p pos apos cpos py : Pos} {e : Expr} {es : List Expr} {t : TA} {i : Nat} {h0 : ExceptHandler} {hs : List ExceptHandler} {th : TH}
/-- the way of an exception from a callee to the clauses -/
theorem to_clausesC {pins : List (Addr × Obj)} {s1 s' : Shared} {σ : St} {H1 : Hp} {D : Ends} {ee : Value} (d : IsDef X) (J : Inv X pins σ H1 s1) (hh : PHc X (h0 :: hs) th) (hq : CXc X.prog X.w X.stack H1 s1 (fun cls da H2 => ∃ C, cls = Value.ref C ∧ th C da D σ H2) ee s') :
    wpAny (model X.prog X.w) X.A (noteFrame ee X.env) (fun _ s₂ => wpAny (model X.prog X.w) X.A (setFlight ee none) (fun _ s₃ => wpAny (model X.prog X.w) X.A (handleBy ee X.env (h0 :: hs)) (SP X pins D) X.xe s₃) X.xe s₂) X.xe s' := by
  obtain ⟨hq, hc⟩ := hq
  obtain ⟨a, cls, da, H', rfl, ⟨C, rfl, qs⟩, x⟩ := XIn.ofCall d J hq
  have hc := hc a rfl
  obtain ⟨T, a0, hb, hd, fl⟩ := x.flying
  have hfr : X.A.frames = some (X.env :: X.outer) := by rw [x.inv.ok.frames, d.st]
  have fl' := fl
  rw [d.st] at fl'
  refine wpAny_mono (wpAny_kc (E := fun _ _ => False ∧ _) (kc_noteFrame _ _) hc (wpAny_kd (E := fun _ _ => False) (kd_noteFrame _ _) hd (wpAny_looks_onW (Q := fun _ s2 => ∃ h', s2 = { s' with heap := h' } ∧ Heap.HeldW (bareOf s'.heap ([a, T] ++ frs (X.env :: X.outer))) (X.env :: X.outer) a (.ref C) a0 X.env.locals h' ∧ s'.heap.UpToSlots h') hfr d.fr fl' fun h4 held4 up4 => ⟨h4, rfl, held4, up4⟩))) (fun _ s2 z => ?_) (fun _ _ z => z.1.1.elim)
  obtain ⟨⟨⟨h4, rfl, held4, up4⟩, hd4⟩, hc4⟩ := z
  refine wpAny_mono (wpAny_kc (E := fun _ _ => False ∧ _) (kc_setFlight _ _) hc4 (wpAny_kd (E := fun _ _ => False) (kd_setFlight _ _) hd4 (wpAny_landsW (Q := fun _ s2 => ∃ h', s2 = { s' with heap := h' } ∧ Heap.FlyingW (bareOf s'.heap ([a, T] ++ frs (X.env :: X.outer))) (X.env :: X.outer) a (.ref C) a0 h' ∧ h4.UpToSlots h') held4 fun h5 fl5 up5 => ⟨h5, rfl, fl5, up5⟩))) (fun _ s2 z => ?_) (fun _ _ z => z.1.1.elim)
  obtain ⟨⟨⟨h5, rfl, fl5, up5⟩, hd5⟩, hc5⟩ := z
  have x5 : XIn X pins σ H' a (.ref C) da { s' with heap := h5 } := XIn.on x.inv d hb (by simp) (by rw [d.st]; exact fl5) (up4.trans up5) hd5
  exact hh pins _ σ H' D a C da x5 hc5 qs
/-- the call that is tried -/
theorem triedC {pins : List (Addr × Obj)} {s : Shared} {σ : St} {H : Hp} {D : Ends} {Qv : VK} {Eb : Value → Shared → Prop} (d : IsDef X) (F : FnOk X.prog X.w X.K X.mg X.base (CXc X.prog X.w) k f fd ps sp) (hr : Room k X.A) (hg : Gl X fx) (hm : X.mg fx = some (.ref f)) (hk : PySem.W.keepIn X.K (.ref f) = true) (hb : Binds X.K fd ps [])
    (ha : ∀ E', PA (X.wish E') (e :: es) t) (hh : PHc X (h0 :: hs) th) (I : Inv X pins σ H s) {Ex : XK} (hx : ∀ cls da H2, Ex cls da H2 → ∃ C, cls = Value.ref C ∧ th C da D σ H2) (h : t σ H fun vs H1 => sp vs H1 Qv Ex)
    (hE : ∀ ee s', wpAny (model X.prog X.w) X.A (noteFrame ee X.env) (fun _ s₂ => wpAny (model X.prog X.w) X.A (setFlight ee none) (fun _ s₃ => wpAny (model X.prog X.w) X.A (handleBy ee X.env (h0 :: hs)) (SP X pins D) X.xe s₃) X.xe s₂) X.xe s' → Eb ee s')
    (hdb : (fx == ("__debug__" : Str)) = false) (he : starEach (e :: es) X.env = (false, eval e X.env) :: starEach es X.env) (hpl : (backTo cpos (starEach es X.env)).any (·.1) = false) :
    wpAny (model X.prog X.w) X.A (eval (.Call (.Name fx p) (e :: es) [] cpos) X.env) (EP (X.wish Eb) pins σ Qv) Eb s := by
  refine wpAny_Call_Name_kw (ld_glob (X := X.wish Eb) (I.wish Eb) hg hm ?_ hdb)
  refine PySem.W.callWith_K (h₀ := X.base) I.ok.mod.kin hk (thn (ha Eb cpos pins s σ H _ (I.wish Eb) h) fun us s1 ⟨vs, H1, I1, r, q⟩ => ⟨I1.kIn, ?_⟩) he hpl
  have r2 : Vals vs (us ++ []) := by rw [List.append_nil]; exact r
  have hl : (us ++ []).length = ps.length := by rw [← r2.length]; exact F.len _ _ _ _ q
  have J := I1.unwish
  refine wpAny_call (codeAny_mono (F.run X.A X.stack s1 H1 ⟨us, []⟩ (us ++ []) vs _ _ hr J.env0 (hb s1 us J.kIn hl) r2 q) fun rr s' hq => ?_)
  cases rr with
  | ok fl =>
    cases fl with
    | ret u => exact I1.after (X := X.wish Eb) hq
    | next => exact False.elim hq
    | brk => exact False.elim hq
    | cont => exact False.elim hq
  | error ee =>
    have hq1 : CXc X.prog X.w X.stack H1 s1 Ex ee s' := hq
    obtain ⟨⟨a, cls, da, H', e1, e2, r⟩, hc⟩ := hq1
    exact hE ee s' (to_clausesC d J hh ⟨⟨a, cls, da, H', e1, hx _ _ _ e2, r⟩, hc⟩)
theorem ps_tryF (d : IsDef X) (o : OkC X.prog X.w X.K X.mg X.base fx ps k sp) (hr : Room k X.A) (hg : Gl X fx) (ha : ∀ E', PA (X.wish E') (e :: es) t) (hN : X.N.Nodup) (hi : X.N[i]? = some y) (hy : Loc X.env.scope y) (hh : PHc X (h0 :: hs) th)
    (hs' : swapsWith (.Call (.Name fx p) (e :: es) [] cpos) (some (.Name y py)) apos.line X.env = pure false := by rfl) (hf : X.fn y = true ∨ X.env.scope.names.lookup y = some .local := by first | exact .inl rfl | exact .inr rfl | assumption)
    (hdb : (fx == ("__debug__" : Str)) = false := by decide) (he : starEach (e :: es) X.env = (false, eval e X.env) :: starEach es X.env := by rfl) (hpl : (backTo cpos (starEach es X.env)).any (·.1) = false := by rfl) :
    PS X (.Try [.Assign [.Name y py] (.Call (.Name fx p) (e :: es) [] cpos) apos] (h0 :: hs) [] [] pos) (tTryA t sp i th) := by
  obtain ⟨f, fd, F, hm, hk, hb⟩ := o
  intro pins s σ H D I h
  refine wpAny_Try_except ?_
  generalize hEb : (fun (e : Value) (s₁ : Shared) => wpAny (model X.prog X.w) X.A (noteFrame e X.env) (fun _ s₂ => wpAny (model X.prog X.w) X.A (setFlight e none) (fun _ s₃ => wpAny (model X.prog X.w) X.A (handleBy e X.env (h0 :: hs)) (SP X pins D) X.xe s₃) X.xe s₂) X.xe s₁) = Eb
  refine wpAny_execs_cons (Q := _) (thn (wpAny_Assign_Name (Q := fun fl s' => fl = .next ∧ SP X pins D .next s') (thn (Q := EP (X.wish Eb) pins σ fun v H2 => D.nx (σ.set i (some v)) H2) ?_ fun v s1 q => ?_) hs') fun fl s1 q => ?_)
  rotate_left
  · obtain ⟨yv, H1, I1, r1, q1⟩ := q
    exact store_ok I1.unwish hN hi hy r1 (fun s2 I2 => ⟨rfl, _, H1, I2, q1⟩) hf
  · obtain ⟨rfl, q⟩ := q
    exact wpAny_execs_nil (wpAny_execs_nil q)
  exact triedC d F hr hg hm hk hb ha hh I (fun _ _ _ z => z) h (fun ee s' z => by subst hEb; exact z) hdb he hpl
end
end L2

namespace L2
open PySem PySem.Spec PyProof.Rows
/-- the caller stands below -/
def HasU (Γ : PySem.Ctx) : Prop := (Γ.below.any fun x => x.1.isCaller) = true
def wpU {α : Type} (M : Model) (A : Around) (t : Sem α) (Q : α → Shared → Prop) (E : Value → Shared → Prop) (s : Shared) : Prop :=
  ∀ (Γ : PySem.Ctx) (p : Pos), Γ.In A → HasU Γ → Sem.wp M Γ t (fun a _ z => Q a z) (fun e _ z => E e z) p s
def codeU (M : Model) (A : Around) (c : Code) (R : Result → Shared → Prop) (s : Shared) : Prop :=
  ∀ (Γ : PySem.Ctx) (p : Pos), Γ.code = c → Γ.Below A → HasU Γ → wpCode M Γ R p s
theorem HasU.enter {Γ : PySem.Ctx} (h : HasU Γ) (c : Code) (v : Option Value) (p : Pos) : HasU (Γ.enter c v p) := by
  show (List.any ((Γ.code, p) :: Γ.below) fun x => x.1.isCaller) = true
  rw [List.any_cons, show (Γ.below.any fun x => x.1.isCaller) = true from h, Bool.or_true]
section
variable {α β : Type} {M : Model} {A : Around} {E : Value → Shared → Prop} {s : Shared}
theorem wpU_of {t : Sem α} {Q : α → Shared → Prop} (h : wpAny M A t Q E s) : wpU M A t Q E s := fun Γ p i _ => h Γ p i
theorem codeU_of {c : Code} {R : Result → Shared → Prop} (h : codeAny M A c R s) : codeU M A c R s := fun Γ p e i _ => h Γ p e i
theorem wpU_pure {a : α} {Q : α → Shared → Prop} (h : Q a s) : wpU M A (pure a) Q E s := wpU_of (wpAny_pure h)
theorem wpU_mono {t : Sem α} {Q Q' : α → Shared → Prop} {E' : Value → Shared → Prop} (h : wpU M A t Q E s) (hQ : ∀ a s, Q a s → Q' a s) (hE : ∀ e s, E e s → E' e s) : wpU M A t Q' E' s :=
  fun Γ p i u => Sem.wp_mono M Γ t (fun a _ z => hQ a z) (fun e _ z => hE e z) p s (h Γ p i u)
theorem thnU {t : Sem α} {Q Q' : α → Shared → Prop} (h : wpU M A t Q E s) (hQ : ∀ a s, Q a s → Q' a s) : wpU M A t Q' E s := wpU_mono h hQ fun _ _ x => x
theorem wpU_bind {m : Sem α} {f : α → Sem β} {Q : β → Shared → Prop} (h : wpU M A m (fun a z => wpU M A (f a) Q E z) E s) : wpU M A (m >>= f) Q E s := by
  intro Γ p i u
  rw [Sem.wp_bind']
  exact Sem.wp_mono M Γ m (fun a p' z q => q Γ p' i u) (fun _ _ _ q => q) p s (h Γ p i u)
/-- a step that asks for no caller, then the rest -/
theorem wpU_step {m : Sem α} {f : α → Sem β} {Q : β → Shared → Prop} (h : wpAny M A m (fun a z => wpU M A (f a) Q E z) E s) : wpU M A (m >>= f) Q E s := wpU_bind (wpU_of h)
theorem wpU_holding {vs : List Value} {m : Sem α} {Q : α → Shared → Prop} (h : wpU M A m Q E s) : wpU M A (holding vs m) Q E s := by
  intro Γ p i u
  rw [Sem.wp_holding]
  exact h Γ p i u
theorem wpU_keep {vs : List Value} {m : Sem α} {Q : α → Shared → Prop} (h : wpU M A m Q E s) : wpU M A (m.keep vs) Q E s := by
  intro Γ p i u
  rw [Sem.wp_keep]
  exact h Γ p i u
theorem wpU_attempt {m : Sem α} {Q : Except Value α → Shared → Prop} (h : wpU M A m (fun a => Q (.ok a)) (fun e => Q (.error e)) s) : wpU M A m.attempt Q E s := by
  intro Γ p i u
  rw [Sem.wp_attempt]
  exact h Γ p i u
theorem wpU_onRaise {m : Sem α} {k : Value → Sem Unit} {Q : α → Shared → Prop} (h : wpU M A m Q (fun e z => wpU M A (k e) (fun _ z' => E e z') E z) s) : wpU M A (m.onRaise k) Q E s := by
  intro Γ p i u
  rw [Sem.wp_onRaise]
  exact Sem.wp_mono M Γ m (fun _ _ _ q => q) (fun e p' z q => q Γ p' i u) p s (h Γ p i u)
theorem codeU_mono {c : Code} {R R' : Result → Shared → Prop} (h : codeU M A c R s) (hR : ∀ r s, R r s → R' r s) : codeU M A c R' s := fun Γ p e i u => wpCode_mono hR (h Γ p e i u)
theorem wpU_run {c : Code} {v : Option Value} {Q : Flow → Shared → Prop} (h : codeU M (A.mark v) c (fun r z => match r with | .ok f => Q f z | .error e => E e z) s) (hn : v ≠ some byPass := by intro x; cases x) : wpU M A (run c v) Q E s := by
  intro Γ p i u
  rw [Sem.wp_run]
  exact h _ p rfl (i.enter c v p hn) (u.enter c v p)
theorem wpU_call {f : Value} {us : List Value} {kw : List (Str × Value)} {Q : Value → Shared → Prop}
    (h : codeU M A (.call f ⟨us, kw⟩) (fun r z => match r with | .ok (.ret v) => Q v z | .ok _ => False | .error e => E e z) s) : wpU M A (call f us kw) Q E s := by
  intro Γ p i u
  show Sem.wp M Γ (runValue _) _ _ p s
  rw [Sem.wp_runValue]
  exact h _ p rfl (i.enter _ none p (by intro x; cases x)) (u.enter _ none p)
theorem codeU_tree {c : Code} {R : Result → Shared → Prop} (h : wpU M (A.under c) (M.den c) (fun fin z => match fin with | .done f => R (.ok f) z | .again d => d.quiet = true ∧ codeU M A d R z) (fun e z => R (.error e) z) s) : codeU M A c R s := by
  intro Γ p e i u
  subst e
  rw [wpCode_iff_wp]
  refine Sem.wp_mono M Γ _ (fun fin p' z q => ?_) (fun _ _ _ q => q) p s (h Γ p i.in u)
  cases fin with
  | done f => exact q
  | again d => exact ⟨q.1, q.2 (Γ.goto d) p' rfl (i.goto d) u⟩
theorem codeU_turns {c : Code} {R : Result → Shared → Prop} (hq : c.quiet = true) (I : Nat → Shared → Prop)
    (turn : ∀ n s, I n s → wpU M (A.under c) (M.den c) (fun fin z => match fin with | .done f => R (.ok f) z | .again d => (d = c ∧ ∃ m, m < n ∧ I m z) ∨ (d.quiet = true ∧ codeU M A d R z)) (fun e z => R (.error e) z) s) :
    ∀ (n : Nat) (s : Shared), I n s → codeU M A c R s := by
  intro n
  induction n using Nat.strongRecOn with
  | ind n ih =>
    intro s h
    refine codeU_tree (wpU_mono (turn n s h) (fun fin z q => ?_) fun _ _ q => q)
    cases fin with
    | done f => exact q
    | again d =>
      rcases q with ⟨rfl, m, hm, hI⟩ | q
      · exact ⟨hq, ih m hm z hI⟩
      · exact q
end
section
variable {M : Model} {A : Around} {E : Value → Shared → Prop} {s : Shared} {env : Env}
theorem execsU_cons {st : Stmt} {rest : List Stmt} {Q : Flow → Shared → Prop} (h : wpU M A (exec st env) (fun f z => match f with | .next => wpU M A (execs rest env) Q E z | f => Q f z) E s) : wpU M A (execs (st :: rest) env) Q E s := by
  rw [execs_cons]
  refine wpU_bind (thnU h fun f z q => ?_)
  cases f <;> first | exact q | exact wpU_pure q
theorem setU {x : Str} {px pos : Pos} {v : Expr} {Q : Flow → Shared → Prop} (h : wpU M A (eval v env) (fun u z => wpAny M A (storeName env x u) (fun _ => Q .next) E z) E s) (hs : swapsWith v (some (.Name x px)) pos.line env = pure false) :
    wpU M A (exec (.Assign [.Name x px] v pos) env) Q E s := by
  rw [exec_Assign_Name env x px v pos hs]
  refine wpU_step (wpAny_standAt (wpU_bind (thnU h fun u z q => ?_)))
  exact wpU_step (wpAny_standAt (wpU_step (wpAny_bindName (wpAny_mono q (fun _ _ r => wpU_pure r) fun _ _ r => r))))
theorem ifU {c : Expr} {a b : List Stmt} {pos : Pos} {Q : Flow → Shared → Prop} (h : wpU M A (isTrue c env (eval c env)) (fun d z => if d = true then wpU M A (execs a env) Q E z else wpU M A (execs b env) Q E z) E s) : wpU M A (exec (.If c a b pos) env) Q E s := by
  rw [exec_If]
  refine wpU_step (wpAny_standAt (wpU_bind (thnU h fun d z q => ?_)))
  cases d with
  | true => exact q
  | false => exact q
theorem retU {e : Expr} {pos : Pos} {Q : Flow → Shared → Prop} (h : wpU M A (eval e env) (fun v => Q (.ret v)) E s) : wpU M A (exec (.Return (some e) pos) env) Q E s := by
  rw [exec_Return_some]
  exact wpU_step (wpAny_standAt (wpU_bind (thnU h fun v z q => wpU_pure q)))
theorem tryU {body : Sem Flow} {orelse : Sem Flow} {h0 : ExceptHandler} {hs : List ExceptHandler} {Q : Flow → Shared → Prop}
    (h : wpU M A body (fun f z => match f with | .next => wpAny M A orelse Q E z | f => Q f z)
      (fun e z => wpAny M A (noteFrame e env) (fun _ z2 => wpAny M A (setFlight e none) (fun _ z3 => wpAny M A (handleBy e env (h0 :: hs)) Q E z3) E z2) E z) s) : wpU M A (tryStmt false body (h0 :: hs) orelse [] env) Q E s := by
  unfold tryStmt
  simp only [List.isEmpty_nil, if_true, List.isEmpty_cons, Bool.false_and, Bool.false_eq_true, if_false]
  refine wpU_bind (wpU_attempt (wpU_mono h (fun f z q => ?_) fun e z q => ?_))
  · cases f with
    | next => exact wpU_of q
    | brk => exact wpU_pure q
    | cont => exact wpU_pure q
    | ret v => exact wpU_pure q
  · refine wpU_of (wpAny_bind (thn0 q fun _ z2 q2 => wpAny_bind (thn0 q2 fun _ z3 q3 => q3)))
where thn0 {α : Type} {t : Sem α} {Q Q' : α → Shared → Prop} {s : Shared} (h : wpAny M A t Q E s) (hQ : ∀ a s, Q a s → Q' a s) : wpAny M A t Q' E s := wpAny_mono h hQ fun _ _ x => x
theorem splicedU_cons {x : Sem Value} {rest : List (Bool × Sem Value)} {Q : List Value → Shared → Prop} (h : wpU M A x (fun v z => wpU M A (spliced rest) (fun vs z2 => Q (v :: vs) z2) E z) E s) : wpU M A (spliced ((false, x) :: rest)) Q E s := by
  rw [spliced]
  refine wpU_bind (thnU h fun v z q => ?_)
  simp only [Bool.false_eq_true, if_false]
  exact wpU_step (wpAny_pure (wpU_bind (wpU_holding (thnU q fun vs z2 q2 => wpU_pure q2))))
theorem evalArgsU {f : Value} {x : Sem Value} {rest : List (Bool × Sem Value)} {Q : Args → Shared → Prop} (h : wpU M A (spliced ((false, x) :: rest)) (fun vs z => Q ⟨vs, []⟩ z) E s) : wpU M A (evalArgs f true ((false, x) :: rest) []) Q E s := by
  unfold evalArgs
  show wpU M A (spliced ((false, x) :: rest) >>= _) Q E s
  refine wpU_bind (thnU h fun vs z q => wpU_holding ?_)
  exact wpU_step (wpAny_pure (wpU_step (wpAny_pure (wpU_pure q))))
end
section
variable {prog : Program} {w : World} {A : Around} {E : Value → Shared → Prop} {s : Shared} {env : Env} {R : Result → Shared → Prop}
theorem exprU {e : Expr} {pos : Pos} {Q : Flow → Shared → Prop} (h : wpU (model prog w) A (eval e env) (fun _ => Q .next) E s) (hi : interactive env = false) (hs : swapsWith e none pos.line env = pure false) : wpU (model prog w) A (exec (.Expr e pos) env) Q E s := by
  rw [exec_Expr env e pos hi hs]
  exact wpU_step (wpAny_standAt (wpU_bind (thnU h fun v z q => wpU_of (wpAny_dropValue q))))
theorem codeU_func {body : List Stmt} (h : wpU (model prog w) (A.deeper env) (execs body env) (fun f z => R (.ok (.ret (match f with | .ret v => v | _ => .none))) z)
      (fun e z => wpAny (model prog w) (A.deeper env) (leaving env e) (fun _ z2 => R (.error e) z2) (fun e' z2 => R (.error e') z2) z) s) : codeU (model prog w) A (.func body env) R s := by
  refine codeU_tree ?_
  show wpU _ (A.deeper env) (do point; match ← (execs body env).onRaise (leaving env) with | .ret v => ret v | _ => ret .none) _ _ s
  refine wpU_step (wpAny_point (wpU_bind (wpU_onRaise (wpU_mono h (fun f z q => ?_) fun e z q => wpU_of q))))
  cases f <;> exact wpU_pure q
theorem codeU_function {a : Addr} {args : Args} {o : Obj} {fd : FuncData} {body : List Stmt} (hroom : A.depth < recursionLimit) (ho : s.heap.get? a = some o) (hd : o.data = .func fd) (hco : fd.scope.isCoroutine = false) (hgen : fd.scope.isGenerator = false) (hbody : fd.body = .stmts body) (hcd : s.heap.CodeRec fd.code fd.qualname)
    (h : wpAny (model prog w) A.in1 (bindArgs fd args) (fun binds z => wpAny (model prog w) A.in1 (newFunctionEnv fd.scope fd.globals fd.closure binds (fd.qualname ++ ".<locals>.") (some a) fd.code none fd.builtins)
      (fun env z2 => z2.heap.NoLimit ∧ codeU (model prog w) A (.func body env) R z2) (fun e z2 => R (.error e) z2) z) (fun e z => R (.error e) z) s) : codeU (model prog w) A (.call (.ref a) args) R s := by
  refine codeU_tree ?_
  show wpU _ A.in1 (callAny (.ref a) args) _ _ s
  simp only [callAny]
  refine wpU_step (wpAny_load ho ?_)
  obtain ⟨c, oc, vs, tq, hc, hoc, hdc, hq⟩ := hcd
  simp only [hd, callFunction, hco, hgen, hbody, hc]
  rw [hc] at h
  refine wpU_step (m := field (.ref c) 1) (wpAny_field hoc hdc hq (wpU_step (wpAny_pure ?_)))
  refine wpU_step (wpAny_mono h (fun binds z q => wpU_step (wpAny_mono q (fun env z2 q2 => ?_) fun _ _ r => r)) fun _ _ r => r)
  exact wpU_step (wpAny_enterFrame q2.1 hroom (wpU_pure ⟨rfl, q2.2⟩))
end
end L2

namespace L2
open PySem PySem.Spec PyProof.Rows
section
variable {M : Model} {A : Around} {E : Value → Shared → Prop} {s : Shared}
theorem noMade {own : List String} {l : List (Code × Pos)} (h : (l.any fun x => x.1.isCaller) = true) : pythonCodeMadeTheCall own (l.map (·.1)) = false := by
  unfold pythonCodeMadeTheCall
  have e : (l.map (·.1)).any Code.isCaller = true := by
    rw [List.any_map]
    exact h
  simp only [Bool.and_eq_false_iff]
  exact .inl (.inl (by rw [Bool.not_eq_false']; exact e))
theorem markU {own : List String} {v : Value} {Q : Unit → Shared → Prop} (h : Q () s) : wpU M A (markTheRefusal own v) Q E s := by
  intro Γ p i u
  unfold markTheRefusal
  rw [Sem.wp_bind']
  show Sem.wp M Γ (Sem.stack Sem.pure) _ _ p s
  rw [Sem.wp_stack, Sem.wp_pure, noMade (l := (Γ.code, p) :: Γ.below) (by rw [List.any_cons, show (Γ.below.any fun x => x.1.isCaller) = true from u, Bool.or_true])]
  exact h
end
section
variable {prog : Program} {w : World} {A : Around} {E : Value → Shared → Prop} {s : Shared}
theorem refusedU {x : Str} {t : Tok} {Q : Value → Shared → Prop} (hA : A.handled = none) (hl : x.length ≤ 640) (hx : ∀ c ∈ x.cps.toList, c < 128) (hn : intText? x = none)
    (h : ∀ (h' : Heap) (tk : Nat) (e : Addr) (args : List Value), Heap.MadeExc s.heap h' e "ValueError" args → E (.ref e) { s with heap := h', toks := tk }) :
    wpU (model prog w) A ((int_private% "intFromText") (.str x t) (numTextOf x) 10) Q E s := by
  have hs : ((numTextOf x).takeWhile (· != 0)).length ≤ 640 := Nat.le_trans (seen_length x) hl
  have lr : (reprText x).length ≤ 6402 := by
    have := PySem.StrLaws.reprText_len x fun c hc => Nat.lt_trans (hx c hc) (by decide)
    omega
  -- behind the look at the numeral
  have tail : wpU (model prog w) A (rule "int.__new__.invalid-literal" >>= fun _ => pyRepr (.str x t) >>= fun shown =>
      mkStr (((s!"invalid literal for int() with base {10}: " : String) ++ ⟨shown.cps.extract 0 200⟩ : Str)) >>= fun m => newExc (.type "ValueError") [m] >>= fun refusal => markTheRefusal ["int.__new__"] refusal >>= fun _ => raiseNew refusal) Q E s := by
    refine wpU_step (wpAny_rule (wpU_step (wpAny_pyRepr_str ?_ (Nat.le_trans lr (by decide)))))
    refine wpU_step (wpAny_mkStr ?_ ?_)
    · refine wpU_step (wpAny_newExc_plain plainExc_ValueError (fun h' e me => ?_) (show 1 ≤ sizeLine by decide))
      refine wpU_bind (markU ?_)
      exact wpU_of (wpAny_raiseNew_none hA (h h' (s.toks + 1 + 1) e _ me))
    · have e1 : ∀ (y : String) (z : Str), ((y : Str) ++ z).length = (Str.ofString y).length + z.length := fun y z => by
        show ((Str.ofString y).cps ++ z.cps).size = _
        rw [Array.size_append]
        rfl
      rw [e1]
      have e2 : (⟨(reprText x).cps.extract 0 200⟩ : Str).length ≤ 200 := by
        show ((reprText x).cps.extract 0 200).size ≤ 200
        rw [Array.size_extract]
        omega
      refine Nat.le_trans (Nat.add_le_add_left e2 _) ?_
      decide +kernel
  rcases read0 x hs with ⟨n, e, _⟩ | ⟨_, e | ⟨i, e, ne⟩⟩
  · rw [hn] at e
    cases e
  · change wpU _ _ (ite _ _ _) _ _ _
    rw [if_pos hs]
    refine wpU_step (wpAny_pure ?_)
    dsimp only
    rw [e]
    refine wpU_step (m := pure none) (wpAny_pure ?_)
    exact tail
  · change wpU _ _ (ite _ _ _) _ _ _
    rw [if_pos hs]
    refine wpU_step (wpAny_pure ?_)
    dsimp only
    rw [e]
    dsimp only
    rw [if_neg ne]
    exact tail
end
end L2

namespace L2
open PySem PySem.Spec PyProof.Rows
section
variable {prog : Program} {w : World} {A : Around} {E : Value → Shared → Prop} {s : Shared}
theorem str_int0 : typeLookup (.type "str") "__int__" = pure none := by rw [typeLookup_type, builtinLookup_eq_fast]; kernel_rfl
theorem str_idx0 : typeLookup (.type "str") "__index__" = pure none := by rw [typeLookup_type, builtinLookup_eq_fast]; kernel_rfl
theorem str_trunc0 : typeLookup (.type "str") "__trunc__" = pure none := by rw [typeLookup_type, builtinLookup_eq_fast]; kernel_rfl
theorem newU {x : Str} {t : Tok} {Q : Fin → Shared → Prop} (h : wpU (model prog w) A ((int_private% "intFromText") (.str x t) (numTextOf x) 10) (fun v z => Q (.done (.ret v)) z) E s) :
    wpU (model prog w) A (Builtin.«int.__new__» ⟨[.type "int", .str x t], []⟩) Q E s := by
  have f1 := F.conv_sub_int
  have f2 := F.madeHere_int
  have f3 := str_int0
  have f4 := str_idx0
  have f5 := str_trunc0
  have f6 : typeOf (.str x t) = pure (.type "str") := rfl
  unfold Builtin.«int.__new__»
  refine wpU_step (wpAny_of_eq (a := true) rfl ?_)
  change wpU _ _ (ite _ _ _) _ _ _
  rw [if_neg (by decide)]
  refine wpU_step (wpAny_of_eq f1 ?_)
  change wpU _ _ (ite _ _ _) _ _ _
  rw [if_neg (by decide)]
  refine wpU_step (wpAny_of_eq f2 ?_)
  change wpU _ _ (ite _ _ _) _ _ _
  rw [if_neg (by rw [show decide ([Value.str x t].length > 2) = false from rfl, Bool.and_false]; decide)]
  change wpU _ _ (ite _ _ _) _ _ _
  rw [if_neg (show ¬ ([Value.str x t].length + ({ pos := [Value.type "int", Value.str x t] } : Args).kw.length > 2) from (by decide : ¬ (1 + 0 > 2)))]
  refine wpU_step (m := pure PUnit.unit) (wpAny_pure ?_)
  change wpU _ _ ((int_private% "intFromObject") (.str x t) >>= fun v => ret v) _ _ _
  refine wpU_bind ?_
  change wpU _ _ (callSpecial? (.str x t) "__int__" >>= _) _ _ _
  refine wpU_step ?_
  repeat (first | assumption | wp_step)
  refine wpU_step ?_
  repeat (first | assumption | wp_step)
  rw [if_neg (by decide)]
  refine wpU_step ?_
  repeat (first | assumption | wp_step)
  change wpU _ _ ((int_private% "numeralText?") (.str x t) >>= _) _ _ _
  refine wpU_step (m := pure (some (numTextOf x))) (wpAny_pure ?_)
  change wpU _ _ ((int_private% "intFromText") (.str x t) (numTextOf x) 10) _ _ _
  exact thnU h fun v z q => wpU_pure q
theorem codeU_builtin {id : String} {args : Args} {b : Builtin} {R : Result → Shared → Prop} (hb : entryFor table id = some b)
    (h : wpU (model prog w) (A.under (.builtin id args)) (b args) (fun fin z => match fin with | .done f => R (.ok f) z | .again d => d.quiet = true ∧ codeU (model prog w) A d R z) (fun e z => R (.error e) z) s) : codeU (model prog w) A (.builtin id args) R s := by
  refine codeU_tree ?_
  show wpU _ _ (match entryFor table id with
    | some b => b args
    | none => unsupported ((withoutEnding? id "#data").getD id)) _ _ s
  rw [hb]
  exact h
theorem typeU {x : Str} {t : Tok} {Q : Value → Shared → Prop} (h : wpU (model prog w) A.in1.in1 (Builtin.«int.__new__» ⟨[.type "int", .str x t], []⟩) (fun _ _ => False) E s) :
    wpU (model prog w) A (call (.type "int") [.str x t]) Q E s := by
  refine wpU_call (codeU_tree (wpU_pure ⟨Code.quiet_builtin _ (by decide +kernel), codeU_builtin F.entry_type_call ?_⟩))
  rw [Around.under_plain (weight_type_call_type "int" [.str x t] []) (units_type_call_type "int" [.str x t] [])]
  obtain ⟨c, tl, hmro⟩ := F.called_int.mro
  have hmade := F.called_int.made
  have h1 := F.called_int.notType
  have h2 := F.called_int.canCreate
  have h3 := F.typeCall_int_1 (.str x t)
  unfold Builtin.«type.__call__»
  change wpU _ _ (ite _ _ _) _ _ _
  rw [if_neg (by rw [h1]; decide)]
  change wpU _ _ (ite _ _ _) _ _ _
  rw [if_neg (by rw [h2]; decide)]
  refine wpU_step (wpAny_of_eq h3 ?_)
  refine wpU_step (wpAny_of_eq hmro ?_)
  change wpU _ _ (ite _ _ _) _ _ _
  rw [if_neg (show ¬ (c :: tl).isEmpty = true from Bool.false_ne_true)]
  refine wpU_step (wpAny_of_eq hmade ?_)
  refine wpU_step (wpAny_pure ?_)
  refine wpU_bind (wpU_holding (wpU_call ?_))
  refine codeU_tree ?_
  change wpU _ _ (checkBuiltinCall "int.__new__" ⟨[.type "int", .str x t], []⟩ >>= fun _ => again (.builtin "int.__new__" ⟨[.type "int", .str x t], []⟩)) _ _ _
  refine wpU_step (wpAny_of_eq (F.newCall_int_1 _) (wpU_pure ⟨plainId_quiet F.called_int.plain _, codeU_builtin F.entry_int_new ?_⟩))
  rw [Around.under_plainId F.called_int.plain]
  refine wpU_mono h (fun _ _ f => f.elim) fun _ _ e => e
/-- int(text): no number is told -/
theorem int_refusedU {x : Str} {t : Tok} {Q : Value → Shared → Prop} (hA : A.handled = none) (hl : x.length ≤ 640) (hx : ∀ c ∈ x.cps.toList, c < 128) (hn : intText? x = none)
    (h : ∀ (h' : Heap) (tk : Nat) (e : Addr) (args : List Value), Heap.MadeExc s.heap h' e "ValueError" args → E (.ref e) { s with heap := h', toks := tk }) :
    wpU (model prog w) A (call (.type "int") [.str x t]) Q E s := typeU (newU (refusedU hA hl hx hn h))
end
end L2

namespace L2
open PySem PySem.Spec PyProof.Rows
def PEU (X : Cx) (e : Expr) (t : TE) : Prop := ∀ (pins : List (Addr × Obj)) (s : Shared) (σ : St) (H : Hp) (Q : VK), Inv X pins σ H s → t σ H Q → wpU (model X.prog X.w) X.A (eval e X.env) (EP X pins σ Q) X.xe s
def PTU (X : Cx) (e : Expr) (t : TT) : Prop := ∀ (pins : List (Addr × Obj)) (s : Shared) (σ : St) (H : Hp) (Q : Bool → Hp → Prop), Inv X pins σ H s → t σ H Q → wpU (model X.prog X.w) X.A (isTrue e X.env (eval e X.env)) (TP X pins σ Q) X.xe s
def PWU (X : Cx) (e : Expr) (t : TT) : Prop := ∀ (whole : Sem Value) (pins : List (Addr × Obj)) (s : Shared) (σ : St) (H : Hp) (Q : Bool → Hp → Prop), Inv X pins σ H s → t σ H Q → wpU (model X.prog X.w) X.A (isTrue e X.env whole) (TP X pins σ Q) X.xe s
def PAU (X : Cx) (es : List Expr) (t : TA) : Prop := ∀ (pos : Pos) (pins : List (Addr × Obj)) (s : Shared) (σ : St) (H : Hp) (Q : List V → Hp → Prop), Inv X pins σ H s → t σ H Q → wpU (model X.prog X.w) X.A (spliced (backTo pos (starEach es X.env))) (AP X pins σ Q) X.xe s
def PSU (X : Cx) (st : Stmt) (t : TS) : Prop := ∀ (pins : List (Addr × Obj)) (s : Shared) (σ : St) (H : Hp) (D : Ends), Inv X pins σ H s → t D σ H → wpU (model X.prog X.w) X.A (exec st X.env) (SP X pins D) X.xe s
def PSsU (X : Cx) (st : List Stmt) (t : TS) : Prop := ∀ (pins : List (Addr × Obj)) (s : Shared) (σ : St) (H : Hp) (D : Ends), Inv X pins σ H s → t D σ H → wpU (model X.prog X.w) X.A (execs st X.env) (SP X pins D) X.xe s
section
variable {X : Cx} {st : Stmt} {rest : List Stmt} {t u : TS} {e a b : Expr} {es more : List Expr} {te : TE} {tt tA tB' : TT} {ta : TA} {pos : Pos}
theorem PT.up (h : PT X e tt) : PTU X e tt := fun pins s σ H Q I q => wpU_of (h pins s σ H Q I q)
theorem PWU.pt (h : PWU X e tt) : PTU X e tt := h _
theorem PA.up (h : PA X es ta) : PAU X es ta := fun p pins s σ H Q I q => wpU_of (h p pins s σ H Q I q)
theorem PS.up (h : PS X st t) : PSU X st t := fun pins s σ H D I q => wpU_of (h pins s σ H D I q)
theorem PSs.up (h : PSs X rest t) : PSsU X rest t := fun pins s σ H D I q => wpU_of (h pins s σ H D I q)
theorem pssU_cons (h1 : PSU X st t) (h2 : PSsU X rest u) : PSsU X (st :: rest) (tSeq t u) := by
  intro pins s σ H D I h
  refine execsU_cons (thnU (h1 pins s σ H { D with nx := u D } I h) fun f z q => ?_)
  cases f with
  | next =>
    obtain ⟨σ', H', I', q⟩ := q
    exact h2 pins z σ' H' D I' q
  | ret v => exact q
  | brk => exact q
  | cont => exact q
theorem pssU_one (h1 : PSU X st t) : PSsU X [st] t := by
  intro pins s σ H D I h
  refine execsU_cons (thnU (h1 pins s σ H D I h) fun f z q => ?_)
  cases f with
  | next => exact wpU_of (wpAny_execs_nil q)
  | ret v => exact q
  | brk => exact q
  | cont => exact q
theorem psU_ret (he : PEU X e te) : PSU X (.Return (some e) pos) (tRet te) := fun pins s σ H D I h => retU (thnU (he pins s σ H _ I h) fun v z ⟨x, H1, I1, r1, q1⟩ => ⟨x, σ, H1, I1, r1, q1⟩)
theorem psU_if {c : Expr} {l r : List Stmt} (hc : PTU X c tt) (ha : PSsU X l t) (hb : PSsU X r u) : PSU X (.If c l r pos) (tIfS tt t u) := by
  intro pins s σ H D I h
  refine ifU (thnU (hc pins s σ H _ I h) fun d z ⟨H1, I1, q1⟩ => ?_)
  cases d with
  | true => exact ha pins z σ H1 D I1 q1
  | false => exact hb pins z σ H1 D I1 q1
theorem paU_cons (ha : PEU X e te) (hr : PAU X es ta) (hs : starEach (e :: es) X.env = (false, eval e X.env) :: starEach es X.env := by rfl) : PAU X (e :: es) (tCons te ta) := by
  intro pos pins s σ H Q I h
  rw [hs]
  show wpU _ _ (spliced ((false, eval e X.env) :: backTo pos (starEach es X.env))) _ _ s
  refine splicedU_cons (thnU (ha pins s σ H _ I h) fun v z ⟨x, H1, I1, r1, q1⟩ => ?_)
  exact thnU (hr pos pins z σ H1 _ I1 q1) fun us z2 ⟨xs, H2, I2, r2, q2⟩ => ⟨x :: xs, H2, I2, .cons r1 r2, q2⟩
/-- a call's value as a test -/
theorem ptU_val (h : PEU X e te) (he : ∀ whole, isTrue e X.env whole = (do let v ← whole; standAt e.pos; holding [v] (truthy v)) := by intro _; rfl) : PTU X e (tB te) := by
  intro pins s σ H Q I hw
  rw [he]
  refine wpU_bind (thnU (h pins s σ H _ I hw) fun v z ⟨x, H1, I1, r1, q1⟩ => ?_)
  obtain ⟨d, rfl, q⟩ := q1
  cases r1
  exact wpU_step (wpAny_standAt (wpU_holding (wpU_of (wpAny_truthy_bool ⟨H1, I1, q⟩))))
end
section
variable {M : Model} {A : Around} {E : Value → Shared → Prop} {s : Shared} {env : Env}
/-- a call of a def by its name -/
theorem callU {K : PySem.W.Frag} {pos : Pos} {f : Value} {e : Expr} {rest : List Expr} {Q : Value → Shared → Prop} (hk : PySem.W.keepIn K f = true) (h : wpU M A (spliced (backTo pos (starEach (e :: rest) env))) (fun vs z => K.In z.heap ∧ wpU M A (call f vs) Q E z) E s)
    (he : starEach (e :: rest) env = (false, eval e env) :: starEach rest env) (hp : (backTo pos (starEach rest env)).any (·.1) = false) : wpU M A (callWith pos f [] (backTo pos (starEach (e :: rest) env)) []) Q E s := by
  rw [he] at h ⊢
  have h' : wpU M A (spliced ((false, eval e env) :: backTo pos (starEach rest env))) (fun vs z => K.In z.heap ∧ wpU M A (call f ([] ++ vs)) Q E z) E s := h
  show wpU M A (callWith pos f [] ((false, eval e env) :: backTo pos (starEach rest env)) []) Q E s
  have hp' : (((false, eval e env) :: backTo pos (starEach rest env)).any (·.1) || ([] : List (Option Str × Sem Value)).any (·.1.isNone)) = false := by
    show ((false || (backTo pos (starEach rest env)).any (·.1)) || false) = false
    rw [hp]
    rfl
  unfold callWith
  refine wpU_bind (wpU_holding (thnU (evalArgsU (Q := fun a z => K.In z.heap ∧ wpU M A (call f ([] ++ a.pos) a.kw) Q E z) h') fun a z q => wpU_step (wpAny_standAt ?_)))
  obtain ⟨k, hk', L⟩ := PySem.W.keeps_K (M := M) hk _ q.1
  simp only [hp']
  refine wpU_step (L.here ?_)
  have fin : ∀ {t : Sem Value}, wpU M A t Q E z → wpU M A (t >>= fun r => holding [r] point >>= fun _ => pure r) Q E z := fun ht => wpU_bind (thnU ht fun r z2 q2 => wpU_step (wpAny_holding (wpAny_point (wpU_pure q2))))
  have mk : ∀ v : Value, wpU M A (callMarked v f ([] ++ a.pos) a.kw) Q E z := fun v => by
    unfold callMarked
    exact wpU_keep q.2
  rcases hk' with rfl | rfl | rfl
  all_goals dsimp only
  · split
    · exact fin q.2
    · exact fin (mk _)
  · exact fin q.2
  · split
    · exact fin q.2
    · exact fin (mk _)
end
structure FnU (P : Program) (w : World) (K : PySem.W.Frag) (mg : Str → Option Value) (base : Heap) (CX : CXT) (k : Nat) (f : Addr) (fd : FuncData) (ps : List Str) (sp : Sp) : Prop where
  len : ∀ vs H Q E, sp vs H Q E → vs.length = ps.length
  run : ∀ (A : Around) (outer : List Env) (s : Shared) (H : Hp) (args : Args) (us : List Value) (vs : List V) (Q : VK) (E : XK), Room k A → Env0 P w K mg base A outer s H → BindsTo s fd args (ps.zip us) → Vals vs us → sp vs H Q E →
    codeU (model P w) A (.call (.ref f) args) (CR CX outer P w H s Q E) s
theorem FnOk.up {P : Program} {w : World} {K : PySem.W.Frag} {mg : Str → Option Value} {base : Heap} {CX : CXT} {k : Nat} {f : Addr} {fd : FuncData} {ps : List Str} {sp : Sp} (F : FnOk P w K mg base CX k f fd ps sp) : FnU P w K mg base CX k f fd ps sp :=
  ⟨F.len, fun A outer s H args us vs Q E hr he hb hv hs => codeU_of (F.run A outer s H args us vs Q E hr he hb hv hs)⟩
section
variable {X : Cx} {CX : CXT} {k : Nat} {f : Addr} {fd : FuncData} {ps : List Str} {sp : Sp} {E : XK} {x : Str} {p pos : Pos} {e : Expr} {es : List Expr} {t : TA}
theorem peU_call (F : FnU X.prog X.w X.K X.mg X.base CX k f fd ps sp) (hr : Room k X.A) (hg : Gl X x) (hm : X.mg x = some (.ref f)) (hk : PySem.W.keepIn X.K (.ref f) = true) (hb : Binds X.K fd ps []) (hx : Passes CX X E)
    (ha : PAU X (e :: es) t) (hdb : (x == ("__debug__" : Str)) = false := by decide) (he : starEach (e :: es) X.env = (false, eval e X.env) :: starEach es X.env := by rfl) (hpl : (backTo pos (starEach es X.env)).any (·.1) = false := by rfl) :
    PEU X (.Call (.Name x p) (e :: es) [] pos) (tCall sp [] E t) := by
  intro pins s σ H Q I h
  rw [arm_eval_Call_Name']
  refine wpU_step (ld_glob I hg hm ?_ hdb)
  refine callU hk (thnU (ha pos pins s σ H _ I h) fun us z ⟨vs, H1, I1, r, q⟩ => ⟨I1.kIn, ?_⟩) he hpl
  have q : sp (vs ++ []) H1 Q E := q
  rw [List.append_nil] at q
  have hl : (us ++ []).length = ps.length := by rw [List.append_nil, ← r.length]; exact F.len _ _ _ _ q
  have hbd := hb z us I1.kIn hl
  rw [List.append_nil] at hbd
  refine wpU_call (codeU_mono (F.run X.A X.stack z H1 ⟨us, []⟩ us vs Q E hr I1.env0 hbd r q) fun rr z2 hq => ?_)
  cases rr with
  | error ee => exact hx pins σ H1 z ee z2 I1 hq
  | ok fl =>
    cases fl with
    | ret u => exact I1.after hq
    | next => exact False.elim hq
    | brk => exact False.elim hq
    | cont => exact False.elim hq
end
/-- a def of the text, by its body -/
theorem fnU_of {CX : CXT} {P : Program} {w : World} {K : PySem.W.Frag} {mg : Str → Option Value} {base : Heap} {k : Nat} {f : Addr} {name qual : Str} {params : Arguments} {body : List Stmt} {scope : Scope} {dV kV doc pm cdv ct oc : Value} {an od : Option Addr}
    {osl : Array (Option Value)} {N ps : List Str} {sp : Sp} (lk : K.lookup f = some ⟨oc, od, .func (PySem.W.fnOf name qual params body scope dV kV doc pm an cdv ct), osl⟩) (hcd : PySem.W.codeIn K cdv qual = true) (S : FnScope N ps scope)
    (len : ∀ vs H Q E, sp vs H Q E → vs.length = ps.length)
    (hbody : ∀ (A : Around) (outer : List Env) (s : Shared) (H : Hp) (vs : List V) (Q : VK) (E : XK), Room k (A.deeper (envOfC qual scope s.heap.objs.size f cdv)) → sp vs H Q E →
      ∃ t, PSsU (cxOf CX P w K mg base N qual scope f cdv A outer s H E) body t ∧ t { nx := fun _ H' => Q .non H', rt := Q } (start N vs) H) :
    FnU P w K mg base CX (k + 1) f (PySem.W.fnOf name qual params body scope dV kV doc pm an cdv ct) ps sp := by
  refine ⟨len, fun A outer s H args us vs Q E hr e0 hb r hsp => ?_⟩
  have hl := len _ _ _ _ hsp
  have kp : ∀ b o, base.get? b = some o → s.heap.get? b = some o := fun b o e => (e0.bs b o e).1
  have KX : K.In s.heap := e0.mod.kin.keeps kp
  have kinds : ∀ y ∈ ps.zip us, scope.names.lookup y.1 = some .local ∨ (scope.names.lookup y.1 = some .cell ∧ ((cellsFrom (s.heap.objs.size + 1) scope.names []).lookup y.1).isSome = true) := fun ⟨n, v⟩ hy =>
    (S.par n (List.of_mem_zip hy).1).elim .inl fun q => .inr ⟨q, PySem.W.cellsFrom_some _ _ _ (.inl q)⟩
  refine codeU_function hr.depth (KX _ _ lk) rfl S.co S.gen rfl (PySem.W.codeRec_of KX hcd) (hb _ _ _ _ (wpAny_newFunctionEnv_cells S.kind kinds fun env he s1 x => ?_))
  subst he
  refine ⟨(e0.mod.nolimit.keeps kp).keeps x.toInCall.keep, codeU_func ?_⟩
  obtain ⟨t, ht, hq⟩ := hbody A outer s H vs Q E (hr.deeper _) hsp
  have I : Inv (cxOf CX P w K mg base N qual scope f cdv A outer s H E) [] (start N vs) H s1 := inv_start S hr.hd e0 hl r x
  refine wpU_mono (ht [] s1 (start N vs) H _ I hq) (fun fl z hs => ?_) fun e z hs => hs
  cases fl with
  | ret u =>
    obtain ⟨v, σ', H', J, rv, q⟩ := hs
    exact ⟨v, H', J.os, J.bare, J.base, J.hok, rv, q⟩
  | next =>
    obtain ⟨σ', H', J, q⟩ := hs
    exact ⟨.non, H', J.os, J.bare, J.base, J.hok, rfl, q⟩
  | brk => exact False.elim hs.choose_spec.choose_spec.2
  | cont => exact False.elim hs.choose_spec.choose_spec.2
/-- a def that asks for the caller -/
def OkU (P : Program) (w : World) (K : PySem.W.Frag) (mg : Str → Option Value) (base : Heap) (x : Str) (ps : List Str) (k : Nat) (sp : Sp) : Prop :=
  ∃ f fd, FnU P w K mg base (CXf P w) k f fd ps sp ∧ mg x = some (.ref f) ∧ PySem.W.keepIn K (.ref f) = true ∧ Binds K fd ps []
section
variable {P : Program} {w : World} {K : PySem.W.Frag} {mg : Str → Option Value} {base : Heap}
theorem Ok.up {x : Str} {ps : List Str} {k : Nat} {sp : Sp} (o : Ok P w K mg base x ps k sp) : OkU P w K mg base x ps k sp := by
  obtain ⟨f, fd, F, h⟩ := o
  exact ⟨f, fd, F.up, h⟩
theorem Has.oku {x : Str} {st : Stmt} {ps : List Str} {f : Addr} {fd : FuncData} {N : List Str} {k : Nat} {sp : Sp} (h : Has K mg x st ps f fd) (S : FnScope N ps (defScope st)) (len : ∀ vs H Q E, sp vs H Q E → vs.length = ps.length)
    (hbody : ∀ (cdv : Value) (A : Around) (outer : List Env) (s : Shared) (H : Hp) (vs : List V) (Q : VK) (E : XK), Room k (A.deeper (envOfC x (defScope st) s.heap.objs.size f cdv)) → sp vs H Q E →
      ∃ t, PSsU (cxOf (CXf P w) P w K mg base N x (defScope st) f cdv A outer s H E) (defBody st) t ∧ t { nx := fun _ H' => Q .non H', rt := Q } (start N vs) H) : OkU P w K mg base x ps (k + 1) sp := by
  obtain ⟨oc, od, kV, doc, pm, an, cdv, ct, osl, rfl, lk, hcd⟩ := h.fn.ex
  exact ⟨f, _, fnU_of lk hcd S len fun A outer s H vs Q E hr hsp => hbody cdv A outer s H vs Q E hr hsp, h.at_, h.fn.kp, h.bd⟩
end
section
variable {X : Cx} {k : Nat} {ps : List Str} {sp : Sp} {E : XK} {x : Str} {p pos : Pos} {e : Expr} {es : List Expr} {t : TA}
theorem peU_callO (o : OkU X.prog X.w X.K X.mg X.base x ps k sp) (hr : Room k X.A) (hg : Gl X x) (hx : Passes (CXf X.prog X.w) X E) (ha : PAU X (e :: es) t) (hdb : (x == ("__debug__" : Str)) = false := by decide)
    (he : starEach (e :: es) X.env = (false, eval e X.env) :: starEach es X.env := by rfl) (hpl : (backTo pos (starEach es X.env)).any (·.1) = false := by rfl) : PEU X (.Call (.Name x p) (e :: es) [] pos) (tCall sp [] E t) := by
  obtain ⟨f, fd, F, hm, hk, hb⟩ := o
  exact peU_call F hr hg hm hk hb hx ha hdb he hpl
end
end L2

namespace L2
open PySem PySem.Spec PyProof.Rows
section
variable {M : Model} {A : Around} {E : Value → Shared → Prop} {s : Shared}
/-- the first record of a new exception -/
theorem noteFirst {base : Heap} {env : Env} {outer : List Env} {L e : Addr} {oe : Obj} {vs : Array Value} {a0 : Value} {Q : Unit → Shared → Prop} (hfr : A.frames = some (env :: outer)) (hl : s.heap.FunFrames base (env :: outer)) (hf : env.frame = some L)
    (he : s.heap.get? e = some oe) (hkb : base.StaysIn s.heap) (hen : base.get? e = none) (hd : oe.data = .fields vs) (h1 : vs[1]? = some .none) (h0 : vs[0]? = some a0)
    (h : ∀ h', Heap.HeldW base (env :: outer) e oe.cls a0 L h' → s.heap.UpToSlots h' → Q () { s with heap := h' }) : wpAny M A (noteFrame (.ref e) env) Q E s := by
  unfold noteFrame
  simp only [hf]
  refine wpAny_bind (wpAny_field he hd h1 ?_)
  rw [if_neg (by decide)]
  exact wpAny_entryW hfr hl hf he hkb hen hd (Array.getElem?_eq_some_iff.mp h1).1 h0 fun h' ⟨k1, k2, k3, k4⟩ => h h' ⟨k1, hen, k2, k3⟩ k4
theorem callTypeU {pos : Pos} {T : String} {args : List (Bool × Sem Value)} {Q : Value → Shared → Prop} (hp : args.any (·.1) = false) (h : wpAny M A (evalArgs (.type T) true args []) (fun a z => wpU M A (call (.type T) ([] ++ a.pos) a.kw) Q E z) E s) :
    wpU M A (callWith pos (.type T) [] args []) Q E s := by
  unfold callWith
  refine wpU_step (wpAny_holding (wpAny_mono h (fun a z q => wpU_step (wpAny_standAt ?_)) fun _ _ x => x))
  simp only [hp, List.any_nil, Bool.or_false]
  refine wpU_step (wpAny_pure ?_)
  exact wpU_bind (thnU q fun r z2 hr => wpU_step (wpAny_holding (wpAny_point (wpU_pure hr))))
end
theorem boot_vE : bootBuiltins "ValueError" = some (.type "ValueError") := by decide +kernel
theorem vE_base : isSubtype (.type "ValueError") (.type "BaseException") = pure true := by rw [isSubtype_type]; kernel_rfl
theorem vE_tuple : isSubtype (.type ((Manifest.find? "ValueError").elim "type" fun x => x.metatype)) (.type "tuple") = pure false := by rw [isSubtype_type]; kernel_rfl
theorem vE_self : isSubtype (.type "ValueError") (.type "ValueError") = pure true := by rw [isSubtype_type]; kernel_rfl
section
variable {X : Cx} {pins : List (Addr × Obj)} {σ : St} {H : Hp} {s : Shared}
/-- the way of a new exception to the clauses -/
theorem first_clauses (d : IsDef X) {a : Addr} {oe : Obj} {vs : Array Value} {a0 : Value} {hs : List ExceptHandler} {Q : Flow → Shared → Prop} (J : Inv X pins σ H s) (na : FlyOk X pins H a) (he : s.heap.get? a = some oe) (hd : oe.data = .fields vs) (h1 : vs[1]? = some .none) (h0 : vs[0]? = some a0) (h2 : vs[2]? = some .none)
    (k : ∀ s2, XIn X pins σ H a oe.cls oe.dict s2 → CtxIs a (some .none) s2 → wpAny (model X.prog X.w) X.A (handleBy (.ref a) X.env hs) Q X.xe s2) :
    wpAny (model X.prog X.w) X.A (noteFrame (.ref a) X.env) (fun _ z => wpAny (model X.prog X.w) X.A (setFlight (.ref a) none) (fun _ z2 => wpAny (model X.prog X.w) X.A (handleBy (.ref a) X.env hs) Q X.xe z2) X.xe z) X.xe s := by
  have hb : ∀ b ∈ [a], FlyOk X pins H b := fun b z => by rw [List.mem_singleton.mp z]; exact na
  have hfr : X.A.frames = some (X.env :: X.outer) := by rw [J.ok.frames, d.st]
  have hen : (bareOf s.heap ([a] ++ frs X.stack)).get? a = none := PySem.W.hideAll_none _ (by simp)
  have hl : s.heap.FunFrames (bareOf s.heap ([a] ++ frs X.stack)) (X.env :: X.outer) := by
    have := frames_hide (as := [a] ++ frs X.stack) J.stack (fun b hb => by simp [hb])
    rw [d.st] at this
    rw [d.st]
    exact this
  have hF : CtxIs a (some .none) s := ⟨oe, he, by unfold F2; rw [hd]; exact h2⟩
  refine wpAny_mono (wpAny_kc (E := fun _ _ => False ∧ _) (kc_noteFrame _ _) hF (wpAny_kd (E := fun _ _ => False) (kd_noteFrame _ _) (show DictIs a oe.dict s from ⟨oe, he, rfl⟩) (noteFirst (Q := fun _ z => ∃ h', z = { s with heap := h' } ∧ Heap.HeldW (bareOf s.heap ([a] ++ frs X.stack)) (X.env :: X.outer) a oe.cls a0 X.env.locals h' ∧ s.heap.UpToSlots h') hfr hl d.fr he (fun b o q => PySem.W.of_hideAll _ q) hen hd h1 h0 fun h' held up => ⟨h', rfl, held, up⟩))) (fun _ z q => ?_) (fun _ _ q => q.1.1.elim)
  obtain ⟨⟨⟨h4, rfl, held4, up4⟩, hd4⟩, hc4⟩ := q
  refine wpAny_mono (wpAny_kc (E := fun _ _ => False ∧ _) (kc_setFlight _ _) hc4 (wpAny_kd (E := fun _ _ => False) (kd_setFlight _ _) hd4 (wpAny_landsW (Q := fun _ z => ∃ h', z = { s with heap := h' } ∧ Heap.FlyingW (bareOf s.heap ([a] ++ frs X.stack)) (X.env :: X.outer) a oe.cls a0 h' ∧ h4.UpToSlots h') held4 fun h5 fl5 up5 => ⟨h5, rfl, fl5, up5⟩))) (fun _ z q => ?_) (fun _ _ q => q.1.1.elim)
  obtain ⟨⟨⟨h5, rfl, fl5, up5⟩, hd5⟩, hc5⟩ := q
  exact k _ (XIn.on J d hb (by simp) fl5 (up4.trans up5) hd5) hc5
end
section
variable {X : Cx} {C2 : Addr} {x2 : Str} {np np2 cpos pos p0 hpos : Pos} {j0 : Nat} {e : Expr} {es : List Expr} {t : TA} {E : XK}
/-- except ValueError: raise C(..) from None -/
theorem phb_from (d : IsDef X) (hgc : Gl X "ValueError") (hmc : X.mg "ValueError" = none) (own : OwnAt X) (O : ExcCls X.K C2) (hE : Lands X E) (hg2 : Gl X x2) (hm2 : X.mg x2 = some (.ref C2)) (ha : ∀ v, PA (X.marked v) (e :: es) t)
    (he : starEach (e :: es) X.env = (false, eval e X.env) :: starEach es X.env) (hpl : (backTo cpos (starEach es X.env)).any (·.1) = false) (hdb : (x2 == ("__debug__" : Str)) = false)
    {pins : List (Addr × Obj)} {s : Shared} {σ : St} {H : Hp} {D : Ends} {a : Addr} {da : Option Addr} (x : XIn X pins σ H a (.type "ValueError") da s) (hx : CtxIs a (some .none) s) (q : tRaise t C2 E D σ H) :
    wpAny (model X.prog X.w) X.A (handleBy (.ref a) X.env [.ExceptHandler (some (.Name "ValueError" np)) none [.Raise (some (.Call (.Name x2 np2) (e :: es) [] cpos)) (some (.Constant .none j0 p0)) pos] hpos]) (SP X pins D) X.xe s := by
  have Jm := x.inv.marked (.ref a)
  refine wpAny_handleBy_cons (codeAny_handlers_test (ld_blt (X := X.marked (.ref a)) Jm hgc hmc boot_vE ?_)) (by intro q; cases q)
  obtain ⟨oe, vs', T5, oT, ts', a05, f1, f2, f3, f4, f5, f6, f7, f8, f9, n1, n2, n3⟩ := id x.fl
  refine wpAny_excMatches_type (X := "ValueError") (b := true) ⟨oe, f1, f2⟩ vE_base vE_tuple vE_self ?_
  refine codeAny_handlers_suite ?_
  obtain ⟨T, a0, hb, hd, fl⟩ := x.flying
  refine wpAny_mono (wpAny_kc (E := fun _ _ => False ∧ _) (kc_setFlight _ _) hx (wpAny_kd (E := fun _ _ => False) (kd_setFlight _ _) hd (lands_againW (Q := fun _ s2 => ∃ h', s2 = { s with heap := h' } ∧ Heap.FlyingW (bareOf s.heap ([a, T] ++ frs X.stack)) X.stack a (.type "ValueError") a0 h' ∧ s.heap.UpToSlots h') fl fun h' f2 up => ⟨h', rfl, f2, up⟩))) (fun _ s2 z => ?_) (fun _ _ z => z.1.1.elim)
  obtain ⟨⟨⟨h', rfl, f2', up⟩, hd2⟩, hx2⟩ := z
  have x6 := XIn.on x.inv d hb (by simp) f2' up hd2
  exact wpAny_mono (from_suite (D := D) (Q := fun _ _ => False) d O hE hg2 hm2 ha x6 hx2 q he hpl hdb) (fun _ _ z => z.elim) fun ex s7 z => own (.ref a) ex s7 z
/-- what int makes of a text, or the clause -/
def tTryI (ta : TA) (i : Nat) (tr : TS) : TS := fun D σ H => ta σ H fun xs H1 => ∃ l : List Nat, xs = [.str (tx l)] ∧ l.length ≤ 640 ∧ Ascii l ∧ (∀ n, intText? (tx l) = some n → D.nx (σ.set i (some (.int n))) H1) ∧ (intText? (tx l) = none → tr D σ H1)
theorem psU_tryI {y : Str} {py p apos cp tpos : Pos} {i : Nat} {ei : Expr} {ta : TA} (d : IsDef X) (hc : X.calm = true) (hgi : Gl X "int") (hmi : X.mg "int" = none) (hai : ∀ E', PA (X.wish E') [ei] ta) (hN : X.N.Nodup) (hi : X.N[i]? = some y) (hy : Loc X.env.scope y)
    (hgc : Gl X "ValueError") (hmc : X.mg "ValueError" = none) (own : OwnAt X) (O : ExcCls X.K C2) (hE : Lands X E) (hg2 : Gl X x2) (hm2 : X.mg x2 = some (.ref C2)) (ha : ∀ v, PA (X.marked v) (e :: es) t)
    (hs' : swapsWith (.Call (.Name "int" p) [ei] [] cp) (some (.Name y py)) apos.line X.env = pure false := by rfl) (hf : X.fn y = true ∨ X.env.scope.names.lookup y = some .local := by first | exact .inl rfl | exact .inr rfl | assumption) (hei : starEach [ei] X.env = [(false, eval ei X.env)] := by rfl)
    (he : starEach (e :: es) X.env = (false, eval e X.env) :: starEach es X.env := by rfl) (hpl : (backTo cpos (starEach es X.env)).any (·.1) = false := by rfl) (hdb : (x2 == ("__debug__" : Str)) = false := by decide) :
    PSU X (.Try [.Assign [.Name y py] (.Call (.Name "int" p) [ei] [] cp) apos] [.ExceptHandler (some (.Name "ValueError" np)) none [.Raise (some (.Call (.Name x2 np2) (e :: es) [] cpos)) (some (.Constant .none j0 p0)) pos] hpos] [] [] tpos) (tTryI ta i (tRaise t C2 E)) := by
  intro pins s σ H D I h
  rw [arm_exec_Try]
  refine wpU_step (wpAny_standAt (tryU ?_))
  generalize hEb : (fun (e0 : Value) (z : Shared) => wpAny (model X.prog X.w) X.A (noteFrame e0 X.env) (fun _ z2 => wpAny (model X.prog X.w) X.A (setFlight e0 none) (fun _ z3 => wpAny (model X.prog X.w) X.A (handleBy e0 X.env [.ExceptHandler (some (.Name "ValueError" np)) none [.Raise (some (.Call (.Name x2 np2) (e :: es) [] cpos)) (some (.Constant .none j0 p0)) pos] hpos]) (SP X pins D) X.xe z3) X.xe z2) X.xe z) = Eb
  refine execsU_cons (thnU (setU (Q := fun fl z => fl = .next ∧ SP X pins D .next z) (thnU (Q := EP (X.wish Eb) pins σ fun v H2 => D.nx (σ.set i (some v)) H2) ?_ fun v z q => ?_) hs') fun fl z q => ?_)
  rotate_left
  · obtain ⟨yv, H1, I1, r1, q1⟩ := q
    exact store_ok I1.unwish hN hi hy r1 (fun s2 I2 => ⟨rfl, _, H1, I2, q1⟩) hf
  · obtain ⟨rfl, q⟩ := q
    exact wpU_of (wpAny_execs_nil (wpAny_execs_nil q))
  rw [arm_eval_Call_Name']
  refine wpU_step (ld_blt (X := X.wish Eb) (I.wish Eb) hgi hmi bt_int ?_)
  have hq := hai Eb cp pins s σ H _ (I.wish Eb) h
  have hei' : starEach [ei] (X.wish Eb).env = [(false, eval ei X.env)] := hei
  rw [hei'] at hq
  rw [hei]
  refine callTypeU rfl (Calls.evalArgs_plain (wpAny_mono hq (fun us z q => ?_) fun _ _ y => y))
  obtain ⟨vs, H1, I1, r, l, rfl, hl, asc, q1, q2⟩ := q
  obtain ⟨u, rfl, tk, rfl⟩ := vals1 r
  have J := I1.unwish
  cases en : intText? (tx l) with
  | some n => exact wpU_of (PySem.W.KIN.call_text en (by rw [tx_len]; exact hl) ⟨.int n, H1, I1.tok _, ⟨_, rfl⟩, q1 n en⟩)
  | none =>
    refine int_refusedU (J.ok.hd hc) (by rw [tx_len]; exact hl) (fun c hc' => asc c (by rw [tx_list] at hc'; exact hc')) en fun h' tk2 e2 args me => ?_
    subst hEb
    obtain ⟨keeps, hnew, t0, e1, _, _⟩ := me
    have J2 : Inv X pins σ H1 { z with heap := h', toks := tk2 } := J.kept (t' := tk2) keeps
    exact first_clauses d J2 (flyOk_new J d hnew (untracked_of J.hok hnew)) e1 rfl rfl rfl rfl fun s2 x hx => phb_from d hgc hmc own O hE hg2 hm2 ha he hpl hdb x hx (q2 en)
end
end L2

namespace L2
open PySem PySem.Spec PyProof.Rows
section
variable {M : Model} {A : Around} {E : Value → Shared → Prop} {s : Shared} {env : Env}
theorem notedU {α : Type} {m : Sem α} {Q : α → Shared → Prop} (h : wpU M A m Q (notedBy M A env E) s) : wpU M A (m.onRaise fun x => do noteFrame x env; theTreesLotGoes x) Q E s :=
  wpU_onRaise (wpU_mono h (fun _ _ q => q) fun x z hx => wpU_of (wpAny_bind (wpAny_mono hx (fun _ _ e => wpAny_theTreesLotGoes e) fun _ _ e => e)))
theorem notedAtU {α : Type} {m : Sem α} {pos : Pos} {Q : α → Shared → Prop} (h : wpU M A m Q (notedBy M A env E) s) : wpU M A (m.onRaise fun x => do noteFrame x env; standAt pos) Q E s :=
  wpU_onRaise (wpU_mono h (fun _ _ q => q) fun x z hx => wpU_of (wpAny_bind (wpAny_mono hx (fun _ _ e => wpAny_standAt e) fun _ _ e => e)))
/-- behind the block: its list is used, or an exception passes on -/
def compU (M : Model) (A : Around) (E : Value → Shared → Prop) (use : Value → Sem Unit) (Q : Shared → Prop) (acc : Value) (C : Addr) (fr : Option Addr) (r : Result) (z : Shared) : Prop :=
  match r with
  | .ok _ => wpAny M A (use acc) (fun _ z2 => ∃ m, z2.heap.Ns C m ∧ ∀ h', Heap.SameBut C z2.heap h' → Q { z2 with heap := h' }) E z
  | .error x => ∃ m, z.heap.Ns C m ∧ ∀ h', Heap.SameBut C z.heap h' → ∀ cenv : Env, cenv.frame = fr → wpAny M A (passOn "comprehension.variables-let-go" x cenv : Sem Value) (fun _ _ => False) E { z with heap := h' }
theorem comprehensionU {e : Expr} {scope : Scope} {pos : Pos} {newAcc first : Sem Value} {g : Comprehension} {gs : List Comprehension} {cl : List (Str × Addr)} {use : Value → Sem Unit} {Q : Shared → Prop} (hcl : clausesOf e = g :: gs) (hs : ∀ x, foldedSetIterable g.iter env x = pure x) (hclos : closureFor scope env = pure cl)
    (hkind : scope.kind = .function) (hnames : ∀ x ∈ scope.names, x.2 = .local → scope.names.lookup x.1 = some .local)
    (h : wpAny M A first (fun x z1 => wpAny M A (pyIter x) (fun it z2 => wpAny M A newAcc (fun acc z3 => wpAny M A (newFunctionEnv scope env.globals cl [] env.qual none .none (some env)) (fun cenv z4 =>
      cenv.frame = env.frame ∧ codeU M A (.compStart e 0 it acc { cenv with scope := relabel scope env }) (compU M A E use Q acc cenv.locals env.frame) z4) E z3) E z2) E z1) E s) :
    wpU M A (comprehension e scope env pos newAcc false first (some use)) (fun _ => Q) E s := by
  unfold comprehension
  rw [hclos, hcl]
  refine wpU_step (wpAny_mono h (fun x z1 h1 => wpU_step (wpAny_standAt (wpU_step (wpAny_of_eq (hs x) (wpU_step (wpAny_holding (wpAny_mono h1 (fun it z2 h2 => ?_) fun _ _ q => q))))))) fun _ _ q => q)
  change wpU M A (ite _ _ _) _ _ _
  rw [if_pos (show (some use).isSome = true from rfl)]
  refine wpU_step (wpAny_standAt (wpU_step (wpAny_mono h2 (fun acc z3 h3 => wpU_step (wpAny_pure (wpU_step (wpAny_mono h3 (fun cenv z4 h4 => ?_) fun _ _ q => q)))) fun _ _ q => q)))
  obtain ⟨hfr, h4⟩ := h4
  have hv : ∀ x ∈ (scope.names.filter fun x => (x.2 == .local || x.2 == .cell) && x.1 != (".0" : Str)).reverse, x.2 = .local → Env.kindOf { cenv with scope := relabel scope env } x.1 = some .local :=
    fun x hx hl => lookup_relabel_local (hnames x (List.mem_filter.mp (List.mem_reverse.mp hx)).1 hl)
  have hv' : ∀ x ∈ (scope.names.filter fun x => (x.2 == .local || x.2 == .cell) && x.1 != (".0" : Str)).reverse.drop 1 ++ (scope.names.filter fun x => (x.2 == .local || x.2 == .cell) && x.1 != (".0" : Str)).reverse.take 1,
      x.2 = .local → Env.kindOf { cenv with scope := relabel scope env } x.1 = some .local := fun x hx hl => (List.mem_append.mp hx).elim (fun q => hv x (List.mem_of_mem_drop q) hl) fun q => hv x (List.mem_of_mem_take q) hl
  refine wpU_holding (wpU_bind (wpU_attempt (wpU_holding (wpU_run (codeU_mono h4 fun r z hr => ?_)))))
  cases r with
  | ok f =>
    refine wpU_of (wpAny_bind (wpAny_rule (wpAny_bind (wpAny_holding (wpAny_mono hr (fun _ z2 hr' => ?_) fun _ _ q => q)))))
    obtain ⟨m, hn, hq⟩ := hr'
    exact wpAny_bind (wpAny_comp_letGo (cenv := { cenv with scope := relabel scope env }) hkind _ z2 m hv' hn fun h' m' _ hs' => wpAny_pure (hq h' hs'))
  | error x =>
    obtain ⟨m, hn, hq⟩ := hr
    exact wpU_of (wpAny_bind (wpAny_holding (wpAny_comp_letGo (cenv := { cenv with scope := relabel scope env }) hkind _ z m hv hn fun h' m' _ hs' => wpAny_mono (hq h' hs' _ hfr) (fun _ _ f => f.elim) fun _ _ y => y)))
end
section
variable {prog : Program} {w : World} {A : Around} {R : Result → Shared → Prop} {elt tg iter : Expr} {scope : Scope} {pos : Pos} {it acc : Value} {env : Env}
theorem compU_turns (I : Nat → Shared → Prop)
    (turn : ∀ n s, I n s → wpAny (model prog w) A (pyNext it) (fun r s1 => match r with
      | none => R (.ok .next) s1
      | some v => wpAny (model prog w) A (letOwnedTupleGo tg it v) (fun _ s2 => wpAny (model prog w) A (assign tg env v) (fun _ s3 =>
          wpU (model prog w) A (eval elt env) (fun x s5 => wpAny (model prog w) A (call (.builtin "list.append") [acc, x]) (fun _ s6 => ∃ m, m < n ∧ I m s6) (fun _ _ => False) s5) (notedBy (model prog w) A env fun e z => R (.error e) z) s3) (fun _ _ => False) s2) (fun _ _ => False) s1) (fun _ _ => False) s)
    (n : Nat) (s : Shared) (h : I n s) : codeU (model prog w) A (.compLoop (.ListComp elt [⟨tg, iter, [], 0⟩] scope pos) 0 it acc env) R s := by
  refine codeU_turns rfl I (fun n s hI => ?_) n s h
  refine notedU (m := compTurn (.ListComp elt [⟨tg, iter, [], 0⟩] scope pos) 0 it acc env) ?_
  rw [compTurn_list1]
  have no : ∀ {E : Value → Shared → Prop} (x : Value) (s : Shared), False → E x s := fun _ _ f => f.elim
  refine wpU_step (wpAny_standAt (wpU_step (wpAny_mono (turn n s hI) (fun r s1 h1 => ?_) no)))
  cases r with
  | none => exact wpU_pure h1
  | some v =>
    refine wpU_step (wpAny_mono h1 (fun _ s2 h2 => wpU_step (wpAny_mono h2 (fun _ s3 h3 => ?_) no)) no)
    refine wpU_bind (wpU_bind (thnU h3 fun x s5 h5 => ?_))
    exact wpU_step (wpAny_mono h5 (fun _ s6 h6 => wpU_pure (wpU_pure (.inl ⟨rfl, h6⟩))) no)
theorem compU_start {s : Shared} (h0 : codeU (model prog w) A (.compLoop (.ListComp elt [⟨tg, iter, [], 0⟩] scope pos) 0 it acc env) R s)
    (h : wpAny (model prog w) A (pyIter it) (fun it' z => codeU (model prog w) A (.compLoop (.ListComp elt [⟨tg, iter, [], 0⟩] scope pos) 0 it' acc env) R z) (fun _ _ => False) s) :
    codeU (model prog w) A (.compStart (.ListComp elt [⟨tg, iter, [], 0⟩] scope pos) 0 it acc env) R s := by
  refine codeU_tree ?_
  refine notedAtU (m := compStart (.ListComp elt [⟨tg, iter, [], 0⟩] scope pos) 0 it acc env) ?_
  unfold compStart
  refine wpU_step (m := ask) (wpAny_askSetting ?_)
  change wpU _ _ (ite _ _ _) _ _ _
  split
  · exact wpU_pure ⟨rfl, h0⟩
  · refine wpU_step (wpAny_rule (wpU_step (wpAny_standAt (wpU_step (wpAny_mono h (fun it' z q => wpU_pure ⟨rfl, q⟩) fun _ _ f => f.elim)))))
end
section
variable {X : Cx} {pins : List (Addr × Obj)} {σ : St} {H : Hp} {s : Shared}
theorem XIn.flyingE {a : Addr} {cls : Value} {da : Option Addr} (x : XIn X pins σ H a cls da s) (ex : List Addr) : ∃ T a0, FlyOk X pins H a ∧ FlyOk X pins H T ∧ DictIs a da s ∧ Heap.FlyingW (bareOf s.heap ([a, T] ++ ex ++ frs X.stack)) X.stack a cls a0 s.heap := by
  obtain ⟨I, oe, vs, T, oT, ts, a0, f1, f2, f3, f4, f5, f6, f7, f8, f9, n1, n2, n3⟩ := x
  exact ⟨T, a0, n1, n2, ⟨oe, f1, n3⟩, fun b o q => PySem.W.of_hideAll _ q, PySem.W.hideAll_none _ (by simp), frames_hide I.stack (fun b hb => by simp [hb]), oe, vs, T, oT, ts, f1, ⟨f2, f4⟩, f3, f5, PySem.W.hideAll_none _ (by simp), f6, f7, f8, f9⟩
theorem noteFrame_same {v : Value} {env env' : Env} (h : env'.frame = env.frame) : noteFrame v env' = noteFrame v env := by
  unfold noteFrame PySem.frameOf
  rw [h]
theorem FunFrames.on {h h' base : Heap} {C : Addr} (hs : Heap.SameBut C h h') : ∀ {l : List Env}, C ∉ frs l → h.FunFrames base l → h'.FunFrames base l
  | [], _, _ => trivial
  | env :: rest, hn, ⟨k, ⟨L, o, hf, hb, ho, hd⟩, r⟩ => by
    have e : frs (env :: rest) = L :: frs rest := by unfold frs; rw [List.filterMap_cons, hf]
    rw [e] at hn
    refine ⟨k, ⟨L, o, hf, hb, (hs.2 L (fun z => hn (by rw [← z]; exact List.mem_cons_self))).trans ho, hd⟩, FunFrames.on hs (fun z => hn (List.mem_cons_of_mem _ z)) r⟩
/-- behind the steps of the exception's way: frames changed in their slots, the records at bad as they may -/
theorem XIn.on2 {a : Addr} {cls a0 : Value} {da : Option Addr} {l : List Env} {bad : List Addr} {h' : Heap} (x : Inv X pins σ H s) (d : IsDef X) (hb : ∀ b ∈ bad, FlyOk X pins H b) (ha : a ∈ bad)
    (hf : Heap.FlyingW (bareOf s.heap (bad ++ frs X.stack)) l a cls a0 h') (slot : ∀ b o, s.heap.get? b = some o → b ∈ frs X.stack → ∃ q, h'.get? b = some { o with slots := q }) (hd : DictIs a da { s with heap := h' }) : XIn X pins σ H a cls da { s with heap := h' } := by
  obtain ⟨st, _, fr, oe, vs, T', oT, ts, f1, ⟨f2, f4⟩, f3, f5, bT, f6, f7, f8, f9⟩ := hf
  have keep : ∀ b o, s.heap.get? b = some o → b ∉ bad → b ∉ frs X.stack → h'.get? b = some o := fun b o e nb nf => st b o (PySem.W.hideAll_get _ e (by
    rw [List.mem_append, not_or]
    exact ⟨nb, nf⟩))
  obtain ⟨o2, e2, hd2⟩ := hd
  have e3 : some oe = some o2 := f1.symm.trans e2
  cases e3
  exact ⟨x.fly (bad := bad) keep slot hb, oe, vs, T', oT, ts, a0, f1, f2, f3, f4, f5, f6, f7, f8, f9, hb a ha, traceback_ok (bad := bad) x d hb slot bT f7 f8, hd2⟩
end
/-- an exception that flies in a def's block, its frame at C, reaches what the def wants of exceptions -/
def PassB (X : Cx) (E : XK) : Prop := ∀ (pins : List (Addr × Obj)) (σ : St) (H : Hp) (s : Shared) (a : Addr) (cls : Value) (da : Option Addr) (C : Addr) (m : Str → Option Value) (cenv : Env), XIn X pins σ H a cls da s → E cls da H → FlyOk X pins H C → C ∉ frs X.stack → s.heap.Ns C m → cenv.frame = X.env.frame →
  notedBy (model X.prog X.w) X.A cenv (fun x z => ∃ m, z.heap.Ns C m ∧ ∀ h', Heap.SameBut C z.heap h' → ∀ cenv : Env, cenv.frame = X.env.frame → wpAny (model X.prog X.w) X.A (passOn "comprehension.variables-let-go" x cenv : Sem Value) (fun _ _ => False) X.xe { z with heap := h' }) (.ref a) s
section
variable {P : Program} {w : World} {K : PySem.W.Frag} {mg : Str → Option Value} {base : Heap} {N : List Str} {qual : Str} {scope : Scope} {f : Addr} {cd : Value} {A : Around} {outer : List Env} {s : Shared} {H : Hp} {E : XK}
theorem passB : PassB (cxOf (CXf P w) P w K mg base N qual scope f cd A outer s H E) E := by
  generalize hX : cxOf (CXf P w) P w K mg base N qual scope f cd A outer s H E = X
  have d : IsDef X := by rw [← hX]; exact isDef_cxOf
  have hxe : ∀ e z, X.xe e z = wpAny (model X.prog X.w) X.A (leaving X.env e) (fun _ z2 => CXf X.prog X.w X.outer X.H₀ X.s₀ E e z2) (fun e' z2 => CXf X.prog X.w X.outer X.H₀ X.s₀ E e' z2) z := fun e z => by rw [← hX]; rfl
  intro pins σ H1 s1 a cls da C m cenv x hE fC nC hn hf
  obtain ⟨T, a0, n1, n2, hd, fl⟩ := x.flyingE [C]
  have nCa : C ≠ a := fun z => by
    obtain ⟨oe, vs, _, _, _, _, f1, _, f3, _⟩ := x.fl
    obtain ⟨o, es, ep, ho, hdd, _⟩ := hn
    rw [z, f1] at ho
    cases ho
    rw [f3] at hdd
    cases hdd
  have hfr : X.A.frames = some (X.env :: X.outer) := by rw [x.inv.ok.frames, d.st]
  rw [d.st] at fl
  show wpAny _ _ (noteFrame (.ref a) cenv) _ _ s1
  rw [noteFrame_same hf]
  refine wpAny_mono (wpAny_kd (E := fun _ _ => False) (kd_noteFrame _ _) hd (wpAny_looks_onW (Q := fun _ z => ∃ h', z = { s1 with heap := h' } ∧ Heap.HeldW (bareOf s1.heap ([a, T] ++ [C] ++ frs (X.env :: X.outer))) (X.env :: X.outer) a cls a0 X.env.locals h' ∧ s1.heap.UpToSlots h') hfr d.fr fl fun h' held up => ⟨h', rfl, held, up⟩)) (fun _ z q => ?_) (fun _ _ q => q.1.elim)
  obtain ⟨⟨h4, rfl, held, up⟩, hd4⟩ := q
  refine ⟨m, up.ns hn, fun h5 hs5 cenv' hf' => ?_⟩
  obtain ⟨k1, k2, k3, oe, vs, T4, oT, ts, g1, g2, g3, g4, g5, g6, g7, g8, g9⟩ := held
  have nCT : C ≠ T4 := fun z => by
    obtain ⟨o, es, ep, ho, hdd, _⟩ := up.ns hn
    rw [z, g7] at ho
    cases ho
    rw [g8] at hdd
    cases hdd
  have bC : (bareOf s1.heap ([a, T] ++ [C] ++ frs (X.env :: X.outer))).get? C = none := PySem.W.hideAll_none _ (by simp)
  have held5 : Heap.HeldW (bareOf s1.heap ([a, T] ++ [C] ++ frs (X.env :: X.outer))) (X.env :: X.outer) a cls a0 X.env.locals h5 := by
    rw [d.st] at nC
    exact ⟨fun b o e => (hs5.2 b (fun z => by rw [z, bC] at e; cases e)).trans (k1 b o e), k2, FunFrames.on hs5 nC k3, oe, vs, T4, oT, ts, (hs5.2 a (Ne.symm nCa)).trans g1, g2, g3, g4, g5, g6, (hs5.2 T4 (Ne.symm nCT)).trans g7, g8, g9⟩
  have e1 : h5.get? a = some oe := (hs5.2 a (Ne.symm nCa)).trans g1
  have e7 : h5.get? T4 = some oT := (hs5.2 T4 (Ne.symm nCT)).trans g7
  have hd5 : DictIs a da { s1 with heap := h5 } := by
    obtain ⟨o, ho, hdo⟩ := hd4
    exact ⟨o, (hs5.2 a (Ne.symm nCa)).trans ho, hdo⟩
  unfold PySem.passOn
  refine wpAny_bind (wpAny_field e1 g3 g4 ?_)
  rw [if_neg (show ¬ ((Value.ref T4 == Value.none) = true) from by simp)]
  refine wpAny_bind ?_
  rw [hf', d.fr]
  unfold setFlight
  refine wpAny_bind (wpAny_field e1 g3 g4 ?_)
  rw [if_pos (show (Value.ref T4 != Value.none) = true from by simp)]
  refine wpAny_setField e7 g8 (Array.getElem?_eq_some_iff.mp g9).1 ?_
  have same : h5.update T4 (Obj.mapFields (·.setIfInBounds 3 (rawInt X.env.locals))) = h5 := Heap.update_setField_same h5 T4 oT ts 3 (rawInt X.env.locals) e7 g8 g9
  show wpAny _ _ (throw (.ref a) : Sem Value) _ _ { s1 with heap := h5.update T4 (Obj.mapFields (·.setIfInBounds 3 (rawInt X.env.locals))) }
  rw [same]
  refine wpAny_throw ?_
  rw [hxe]
  refine wpAny_mono (wpAny_kd (E := fun _ _ => False) (kd_leaving _ (.ref a)) hd5 (show wpAny _ _ (noteFrame (.ref a) X.env >>= fun _ => setFlight (.ref a) none) (fun _ z => ∃ h', z = { s1 with heap := h' } ∧ Heap.FlyingW (bareOf s1.heap ([a, T] ++ [C] ++ frs (X.env :: X.outer))) (X.env :: X.outer) a cls a0 h' ∧ h5.UpToSlots h') _ { s1 with heap := h5 } from
    wpAny_bind (wpAny_noteFrame_againW d.fr held5.2.2.2 (wpAny_landsW held5 fun h6 fl6 up6 => ⟨h6, rfl, fl6, up6⟩)))) (fun _ z q => ?_) (fun _ _ q => q.1.elim)
  obtain ⟨⟨h6, rfl, fl6, up6⟩, hd6⟩ := q
  have slot : ∀ b o, s1.heap.get? b = some o → b ∈ frs X.stack → ∃ q, h6.get? b = some { o with slots := q } := fun b o e hb => by
    obtain ⟨_, o', e', nf⟩ := x.inv.stack.mem hb
    rw [e] at e'
    cases e'
    obtain ⟨q, e4⟩ := up b o e nf
    have e5 : h5.get? b = some { o with slots := q } := (hs5.2 b (fun z => nC (by rw [← z]; exact hb))).trans e4
    obtain ⟨q2, e6⟩ := up6 b _ e5 nf
    exact ⟨q2, e6⟩
  have fb : ∀ b ∈ [a, T] ++ [C], FlyOk X pins H1 b := fun b hb => by
    simp only [List.mem_append, List.mem_cons, List.not_mem_nil, or_false] at hb
    rcases hb with (rfl | rfl) | rfl
    · exact n1
    · exact n2
    · exact fC
  exact XIn.leave d (XIn.on2 x.inv d fb (by simp) (by rw [d.st]; exact fl6) slot hd6) hE
end
end L2

namespace L2
open PySem PySem.Spec PyProof.Rows
section
variable {X : Cx} {scope : Scope} {N' : List Str} {π : List (Option Nat)} {pins : List (Addr × Obj)} {σ : St} {H : Hp} {s : Shared} {fp : List Addr}
/-- a block that is left: its list is no one's -/
theorem comp_drop (I : Inv X pins σ H s) (hf : ∀ b ∈ fp, FpOk X pins H b) {C : Addr} {pins' : List (Addr × Obj)} {σ' : St} {H' : Hp} {s' : Shared} (J : Inv (cxComp X N' scope s H C fp pins) pins' σ' H' s') : Inv X pins σ H' s' :=
  I.call' (ch := fp) J.os J.base J.hok J.bare fun b hb => ⟨(hf b hb).2.2.2.1, (hf b hb).2.1, (hf b hb).2.2.2.2.1, (hf b hb).2.2.2.2.2⟩
end
section
variable {X : Cx} {scope : Scope} {N' : List Str} {π : List (Option Nat)} {tg iter elt : Expr} {pos : Pos} {wi : TI} {g : TG} {te : TE} {E : XK}
theorem compU_block (S : CompScope X.env.scope X.N scope N' π) (hc : X.calm = true) (d : IsDef X) (hB : PassB X E) {pins : List (Addr × Obj)} {σ : St} {Q : VK} {itv : Value} {s : Shared} {Eo : Value → Shared → Prop} {use : Value → Sem Unit} {QS : Shared → Prop}
    (hg : ∀ s H C fp pn, PG (cxComp X N' scope s H C fp pn) tg g) (he : ∀ s H C fp pn W, Passes (CXf X.prog X.w) ((cxComp X N' scope s H C fp pn).wish W) E → PEU ((cxComp X N' scope s H C fp pn).wish W) elt te)
    (h : PIE X pins σ tg (fun J H1 => ∃ W : Nat → Nat → List V → St → Hp → Prop, (∃ m, W 0 m [] (capt π σ) H1) ∧ ∀ i m ys σ' H', W i m ys σ' H' →
      (J.stop i H' ∧ ∀ D, H' D = none → Q (.ref D) (upd H' D (.lst ys))) ∨
      (J.go i H' ∧ ys.length < sizeLine ∧ ∃ N : List V → St → Hp → Prop, (∀ ys' σ2 H2, N ys' σ2 H2 → ∃ m', m' < m ∧ W (i + 1) m' ys' σ2 H2) ∧ ∀ x H2, J.yld i H' x H2 → g x σ' H2 fun σ2 H3 => tNoIf σ2 H3 fun c H4 =>
        if c = true then te σ2 H4 fun y H5 => N (ys ++ [y]) σ2 H5 else N ys σ2 H4)) itv s)
    (hRR : ∀ D C s' H', Inv X pins σ H' s' → Q (.ref D) H' → (∃ m, s'.heap.Ns C m) → FpOk X pins H' C → compU (model X.prog X.w) X.A X.xe use QS (.ref D) C X.env.frame (.ok .next) s') :
    wpAny (model X.prog X.w) X.A (newList []) (fun acc s3 => wpAny (model X.prog X.w) X.A (newFunctionEnv scope X.env.globals (closOf X.env.cells scope.names []) [] X.env.qual none .none (some X.env)) (fun cenv s4 =>
      cenv.frame = X.env.frame ∧ codeU (model X.prog X.w) X.A (.compStart (.ListComp elt [⟨tg, iter, [], 0⟩] scope pos) 0 itv acc { cenv with scope := relabel scope X.env }) (compU (model X.prog X.w) X.A X.xe use QS acc cenv.locals X.env.frame) s4) Eo s3) Eo s := by
  obtain ⟨it, fp, tn, J, H2, e, I2, T, st2, f2, W, ⟨m0, w0⟩, turn⟩ := h
  subst e
  have fo := T.obj _ _ st2
  refine wpAny_newObj_type (wpAny_newFunctionEnv S.nocell (by intro y hy; cases hy) (fun h1 hns1 hsb1 => ?_) S.kind)
  refine ⟨rfl, ?_⟩
  dsimp only at hns1 hsb1 ⊢
  generalize hG : s.heap.push { cls := .type "list", dict := none, data := .seq ([] : List Value).toArray } = G at hns1 hsb1 ⊢
  have hGs : G.objs.size = s.heap.objs.size + 1 := by rw [← hG, Heap.size_push]
  have hDC : s.heap.objs.size ≠ G.objs.size := by rw [hGs]; exact Nat.ne_of_lt (Nat.lt_succ_self _)
  have ltG : ∀ b o, s.heap.get? b = some o → b ≠ G.objs.size := fun b o e => by rw [hGs]; exact Nat.ne_of_lt (Nat.lt_succ_of_lt (Heap.lt_size e))
  have leG : s.heap.objs.size ≤ G.objs.size := by rw [hGs]; exact Nat.le_succ _
  have old : ∀ b o, s.heap.get? b = some o → h1.get? b = some o := fun b o e => (hsb1.2 b (ltG b o e)).trans (Heap.get?_push_of_some _ (hG ▸ Heap.get?_push_of_some _ e))
  have hacc : h1.get? s.heap.objs.size = some { cls := .type "list", data := .seq ([] : List Value).toArray } := (hsb1.2 _ hDC).trans (Heap.get?_push_of_some _ (hG ▸ Heap.get?_push_size _ rfl))
  have I3 : Inv (cxComp X N' scope s H2 G.objs.size fp pins) [] (capt π σ) H2 { s with heap := h1, toks := s.toks + ([] : List (Str × Value)).length } :=
    comp_start S hc I2 f2 (fun b hb => let ⟨o, e, _⟩ := fo b hb; ⟨o, e⟩) old leG hns1
  have st3 : tn 0 h1 := T.keep _ _ _ st2 fun b _ o e => old b o e
  have dlt : ∀ b o, s.heap.get? b = some o → b ≠ s.heap.objs.size := fun b o e => Nat.ne_of_lt (Heap.lt_size e)
  have fpD : ∀ b ∈ fp, b ≠ s.heap.objs.size := fun b hb => let ⟨o, e, _⟩ := fo b hb; dlt b o e
  have celD : ∀ x c, (closOf X.env.cells scope.names []).lookup x = some c → c ≠ s.heap.objs.size ∧ ∀ b ∈ fp, c ≠ b := fun x c e => by
    have e1 := closOf_sub (fun y hy k => I2.ok.has y.1 (.inl (S.fr y hy k))) (fun p hp => absurd hp (by simp)) _ (PySem.mem_of_lookup e)
    obtain ⟨v, o, z, _⟩ := I2.cell x c e1
    exact ⟨dlt c o z, fun b hb => (f2 b hb).2.2.2.2.1 x c e1⟩
  have pnD : ∀ p ∈ X.pn ++ pins, p.1 ≠ s.heap.objs.size := fun p hp => dlt _ _ (I2.pin p hp).1
  have stkD : s.heap.objs.size ∉ frs X.stack := fun z => by
    obtain ⟨_, o, ho, _⟩ := I2.stack.mem z
    exact dlt _ _ ho rfl
  have stkC : G.objs.size ∉ frs X.stack := fun z => by
    obtain ⟨_, o, ho, _⟩ := I2.stack.mem z
    exact ltG _ _ ho rfl
  have fpS : ∀ b ∈ fp, b ∉ frs X.stack := fun b hb z => by
    rcases List.mem_cons.mp (I2.stkSub b z) with e | e
    · exact (f2 b hb).2.1 e
    · exact (f2 b hb).2.2.1 e
  have fpC : ∀ b ∈ fp, b ≠ G.objs.size := fun b hb => by
    obtain ⟨o, e, _⟩ := fo b hb
    exact ltG b o e
  have fpk : ∀ (ob : Obj) {H' : Hp}, (∀ b ∈ fp, H' b = none) → ∀ b ∈ fp, FpOk (cxComp X N' scope s H2 G.objs.size fp pins) [(s.heap.objs.size, ob)] H' b := fun ob H' hn b hb =>
    ⟨hn b hb, fpC b hb, fpS b hb, .inl hb, fun x c e => (celD x c e).2 b hb, fun p hp => by
      rcases List.mem_append.mp hp with z | z
      · exact (f2 b hb).2.2.2.2.2 p z
      · rw [List.mem_singleton.mp z]; exact (fpD b hb).symm⟩
  have pinD : ∀ {σ' : St} {H' : Hp} {s' : Shared} {its : List Value} {k : Nat}, Inv (cxComp X N' scope s H2 G.objs.size fp pins) [] σ' H' s' → H' s.heap.objs.size = none →
      s'.heap.get? s.heap.objs.size = some { cls := .type "list", data := .seq its.toArray k } → Inv (cxComp X N' scope s H2 G.objs.size fp pins) [(s.heap.objs.size, { cls := .type "list", data := .seq its.toArray k })] σ' H' s' :=
    fun {σ' H' s' its k} J hD ho => J.pins_of fun p hp => by
      rw [List.mem_singleton.mp hp]
      exact ⟨ho, hD, hDC, stkD, fun v z => by cases z⟩
  -- the element's exceptions
  generalize hW : notedBy (model X.prog X.w) X.A (compEnvC scope (closOf X.env.cells scope.names []) G.objs.size X.env) (fun e z => compU (model X.prog X.w) X.A X.xe use QS (.ref s.heap.objs.size) G.objs.size X.env.frame (.error e) z) = Wx
  have hP : Passes (CXf X.prog X.w) ((cxComp X N' scope s H2 G.objs.size fp pins).wish Wx) E := by
    intro pins' σ' H' s1 e s' J0 hx
    have J1 := J0.unwish
    have JX : Inv X pins σ H' s1 := comp_drop I2 f2 J1
    have hx' : CXf X.prog X.w X.stack H' s1 E e s' := hx
    obtain ⟨m, ⟨o, es, ep, ho, rn⟩, _⟩ := J1.loc
    have hfC : H' G.objs.size = none := J1.free
    obtain ⟨a1, cls1, da1, H3, e1, hE1, q1, q2, un, q3⟩ := hx'
    have hx2 : CXf X.prog X.w X.stack H' s1 (fun c d Hx => E c d Hx ∧ Hx G.objs.size = none) e s' := ⟨a1, cls1, da1, H3, e1, ⟨hE1, un.free _ o ho hfC (by simp)⟩, q1, q2, un, q3⟩
    obtain ⟨a, cls, da, H'', rfl, ⟨hE, hC2⟩, x⟩ := XIn.ofCall d JX hx2
    have ho' : s'.heap.get? G.objs.size = some o := un.keep _ o ho hfC stkC (by simp)
    have hn' : s'.heap.Ns G.objs.size m := ⟨o, es, ep, ho', rn⟩
    have fp2 := I2.fpOk leG hC2
    have fC : FlyOk X pins H'' G.objs.size := ⟨hC2, Heap.get?_none_of_le (Nat.le_trans I2.sz leG), fp2.2.1, fp2.2.2.2.2.1, fp2.2.2.2.2.2⟩
    rw [← hW]
    exact hB pins σ H'' s' a cls da _ m _ x hE fC stkC hn' rfl
  have hel := he s H2 G.objs.size fp pins Wx hP
  have main : codeU (model X.prog X.w) X.A (.compLoop (.ListComp elt [⟨tg, iter, [], 0⟩] scope pos) 0 (.ref it) (.ref s.heap.objs.size) (compEnvC scope (closOf X.env.cells scope.names []) G.objs.size X.env)) (compU (model X.prog X.w) X.A X.xe use QS (.ref s.heap.objs.size) G.objs.size X.env.frame)
      { s with heap := h1, toks := s.toks + ([] : List (Str × Value)).length } := by
    refine compU_turns (fun n s' => ∃ i ys its k σ' H', Inv (cxComp X N' scope s H2 G.objs.size fp pins) [] σ' H' s' ∧ tn i s'.heap ∧ (∀ b ∈ fp, H' b = none) ∧ s'.heap.get? s.heap.objs.size = some { cls := .type "list", data := .seq its.toArray k } ∧ H' s.heap.objs.size = none ∧ Vals ys its ∧ ys.length ≤ sizeLine ∧ W i n ys σ' H') ?_ m0 _
      ⟨0, [], [], 0, capt π σ, H2, I3, st3, fun b hb => (f2 b hb).1, hacc, I2.hok.fresh (Nat.le_refl _), .nil, Nat.zero_le _, w0⟩
    rintro n s4 ⟨i, ys, its, k, σ4, H4, I4, st4, fr4, ho4, hD4, r4, z4, w4⟩
    have I4' := pinD I4 hD4 ho4
    rcases turn i n ys σ4 H4 w4 with ⟨stop, qn⟩ | ⟨go, hlen, N, hN, step⟩
    · refine thn (T.done (cxComp X N' scope s H2 G.objs.size fp pins) rfl rfl rfl hc i _ s4 σ4 H4 (fun _ _ => False) I4' (fpk _ fr4) st4 stop) fun r s5 ⟨hr, I5⟩ => ?_
      subst hr
      have p5 := I5.pin _ (List.mem_append_right _ (List.mem_singleton.mpr rfl))
      have I6 := comp_end I2 f2 I5 hD4 (Nat.le_refl _) p5.1 r4 z4
      refine hRR _ _ s5 _ I6 (qn _ hD4) (let ⟨m, hn, _⟩ := I5.loc; ⟨m, hn⟩) (I2.fpOk leG ?_)
      rw [upd_ne (Ne.symm hDC)]
      exact I5.free
    · refine thn (T.item (cxComp X N' scope s H2 G.objs.size fp pins) rfl rfl rfl hc i _ s4 σ4 H4 (fun _ _ => False) I4' (fpk _ fr4) st4 go) fun r s5 ⟨u, hr, h5⟩ => ?_
      subst hr
      refine thn h5 fun _ s6 ⟨x, H6, I6, r6, y6, st6, fr6⟩ => ?_
      have I6' := I6.pinned (fpk _ fr6) (T.obj _ _ st6)
      refine thn (hg _ _ _ _ _ _ s6 σ4 H6 x u _ I6' r6 (step x H6 y6)) fun _ s7 ⟨σ7, H7, I7, q7⟩ => ?_
      have rest : ∀ {s9 : Shared} {H9 : Hp}, Inv (cxComp X N' scope s H2 G.objs.size fp pins) ([(s.heap.objs.size, { cls := .type "list", data := .seq its.toArray k })] ++ pinsAt fp s6.heap) σ7 H9 s9 →
          s9.heap.get? s.heap.objs.size = some { cls := .type "list", data := .seq its.toArray k } ∧ H9 s.heap.objs.size = none ∧ (∀ b ∈ fp, ∀ o, s6.heap.get? b = some o → s9.heap.get? b = some o) ∧ ∀ b ∈ fp, H9 b = none := fun {s9 H9} I9 => by
        have p9 := I9.pin _ (List.mem_append_right _ (List.mem_append_left _ (List.mem_singleton.mpr rfl)))
        refine ⟨p9.1, p9.2.1, fun b hb o e => (I9.pin (b, o) (List.mem_append_right _ (List.mem_append_right _ (mem_pinsAt hb e)))).1, fun b hb => ?_⟩
        obtain ⟨o, e, _⟩ := T.obj _ _ st6 b hb
        exact (I9.pin (b, o) (List.mem_append_right _ (List.mem_append_right _ (mem_pinsAt hb e)))).2.1
      have q7' : te σ7 H7 fun y H5 => N (ys ++ [y]) σ7 H5 := q7
      rw [hW]
      refine wpU_mono (hel _ s7 σ7 H7 _ (I7.wish _) q7') (fun y s9 ⟨v, H9, I9w, r9, q9⟩ => ?_) fun _ _ q => q
      have I9 := I9w.unwish
      obtain ⟨m', hm, w9⟩ := hN _ _ _ q9
      obtain ⟨a1, a2, a3, a4⟩ := rest I9
      have hl : its.length = ys.length := r4.length.symm
      refine wpAny_list_append_plain (items := its.toArray) ⟨k, a1⟩ (fun h' hl' hs' => ?_) (by rw [List.size_toArray]; omega)
      obtain ⟨k', ho'⟩ := hl'
      have I10 : Inv (cxComp X N' scope s H2 G.objs.size fp pins) [] σ7 H9 { s9 with heap := h' } := (I9.pins_of (pins' := []) fun p hp => by cases hp).turned (t' := s9.toks) (it := s.heap.objs.size) (fun b o hb e => (hs'.2 b hb).trans e) a2 hDC (.inr (Nat.le_refl _))
        (fun x c e => (celD x c e).1) fun p hp => by
          rcases List.mem_append.mp hp with z | z
          · exact pnD p z
          · cases z
      refine ⟨m', hm, i + 1, ys ++ [v], its ++ [y], k', σ7, H9, I10, T.keep _ _ _ st6 fun b hb o e => (hs'.2 b (fpD b hb)).trans (a3 b hb o e), a4, ?_, a2, r4.append (.cons r9 .nil), by rw [List.length_append, List.length_singleton]; omega, w9⟩
      rw [show (its ++ [y]).toArray = its.toArray.push y by simp]
      exact ho'
  exact compU_start main (T.self _ 0 _ _ _ st3 main)
variable {spos pos' : Pos} {x : Str} {i : Nat}
/-- name = [..], the name a local of the def -/
theorem psU_setC (S : CompScope X.env.scope X.N scope N' π) (hc : X.calm = true) (d : IsDef X) (hB : PassB X E) (hN : X.N.Nodup) (hix : X.N[i]? = some x) (hx : X.env.scope.names.lookup x = some .local) (hi : PI X tg iter wi) (hg : ∀ s H C fp pn, PG (cxComp X N' scope s H C fp pn) tg g)
    (he : ∀ s H C fp pn W, Passes (CXf X.prog X.w) ((cxComp X N' scope s H C fp pn).wish W) E → PEU ((cxComp X N' scope s H C fp pn).wish W) elt te)
    (hsw : swapsWith (.ListComp elt [⟨tg, iter, [], 0⟩] scope pos) (some (.Name x pos')) spos.line X.env = pure true := by rfl) (hs : ∀ x, foldedSetIterable iter X.env x = pure x := by intro _; rfl) :
    PSU X (.Assign [.Name x pos'] (.ListComp elt [⟨tg, iter, [], 0⟩] scope pos) spos) (tAsg (tComp wi π g tNoIf te) (gName i)) := by
  intro pins s σ H D0 I h
  rw [exec_Assign_Name_used _ _ _ _ hsw]
  refine wpU_step (wpAny_standAt (wpU_bind ?_))
  rw [arm_evalThenUse_ListComp]
  refine wpU_bind (wpU_mono (comprehensionU (use := assign (.Name x pos') X.env) (Q := fun z => SP X pins D0 .next z) rfl hs (clos_is fun y hy k => I.ok.has y.1 (.inl (S.fr y hy k))) S.kind S.loc
    (thn (hi pins s σ H _ I h) fun v s1 h1 => thn h1 fun itv s2 h2 => ?_)) (fun _ z hq => wpU_pure (wpU_pure hq)) fun _ _ e => e)
  refine compU_block (Q := fun x H1 => gName i x σ H1 D0.nx) S hc d hB hg he h2 fun D C s' H' I' q hn f => ?_
  obtain ⟨m, hn⟩ := hn
  show wpAny _ _ (assign (.Name x pos') X.env (.ref D)) _ _ s'
  refine wpAny_assign_Name (store_ok2 I' hN hix (.inl hx) (v := .ref D) rfl (fun s'' I'' hch => ?_) (.inr hx))
  obtain ⟨a, hsb, ha⟩ := hch
  have haC : C ≠ a := by
    rcases ha with e | e
    · rw [e]; exact f.2.1
    · exact Ne.symm (f.2.2.2.2.1 x a e)
  exact ⟨m, hn.sameBut hsb haC, fun h' hs' => ⟨_, H', I''.turned (t' := s''.toks) (it := C) (fun b o hb e => (hs'.2 b hb).trans e) f.1 f.2.1 f.2.2.2.1 f.2.2.2.2.1 f.2.2.2.2.2, q⟩⟩
end
end L2

namespace L2
open PySem PySem.Spec PyProof.Rows
section
variable {X : Cx} {k : Nat} {f : Addr} {fd : FuncData} {ps : List Str} {sp : Sp} {fx : Str} {p pos apos cpos : Pos} {e : Expr} {es : List Expr} {t : TA} {h0 : ExceptHandler} {hs : List ExceptHandler} {th : TH}
theorem psU_tryE (d : IsDef X) (o : OkU X.prog X.w X.K X.mg X.base fx ps k sp) (hr : Room k X.A) (hg : Gl X fx) (ha : ∀ E', PA (X.wish E') (e :: es) t) (hh : PH X (h0 :: hs) th) (hin : interactive X.env = false := by rfl) (hsw : swapsWith (.Call (.Name fx p) (e :: es) [] cpos) none apos.line X.env = pure false := by rfl)
    (hdb : (fx == ("__debug__" : Str)) = false := by decide) (he : starEach (e :: es) X.env = (false, eval e X.env) :: starEach es X.env := by rfl) (hpl : (backTo cpos (starEach es X.env)).any (·.1) = false := by rfl) :
    PSU X (.Try [.Expr (.Call (.Name fx p) (e :: es) [] cpos) apos] (h0 :: hs) [] [] pos) (tTryE t sp th) := by
  obtain ⟨f, fd, F, hm, hk, hb⟩ := o
  intro pins s σ H D I h
  rw [arm_exec_Try]
  refine wpU_step (wpAny_standAt (tryU ?_))
  generalize hEb : (fun (e0 : Value) (z : Shared) => wpAny (model X.prog X.w) X.A (noteFrame e0 X.env) (fun _ z2 => wpAny (model X.prog X.w) X.A (setFlight e0 none) (fun _ z3 => wpAny (model X.prog X.w) X.A (handleBy e0 X.env (h0 :: hs)) (SP X pins D) X.xe z3) X.xe z2) X.xe z) = Eb
  refine execsU_cons (thnU (exprU (Q := fun fl z => fl = .next ∧ SP X pins D .next z) (thnU (Q := EP (X.wish Eb) pins σ fun _ H2 => D.nx σ H2) ?_ fun v z q => ?_) hin hsw) fun fl z q => ?_)
  rotate_left
  · obtain ⟨yv, H1, I1, r1, q1⟩ := q
    exact ⟨rfl, σ, H1, I1.unwish, q1⟩
  · obtain ⟨rfl, q⟩ := q
    exact wpU_of (wpAny_execs_nil (wpAny_execs_nil q))
  rw [arm_eval_Call_Name']
  refine wpU_step (ld_glob (X := X.wish Eb) (I.wish Eb) hg hm ?_ hdb)
  refine callU hk (wpU_of (thn (ha Eb cpos pins s σ H _ (I.wish Eb) h) fun us z ⟨vs, H1, I1, r, q⟩ => ⟨I1.kIn, ?_⟩)) he hpl
  have hl : (us ++ []).length = ps.length := by rw [List.append_nil, ← r.length]; exact F.len _ _ _ _ q
  have J := I1.unwish
  have hbd := hb z us J.kIn hl
  rw [List.append_nil] at hbd
  refine wpU_call (codeU_mono (F.run X.A X.stack z H1 ⟨us, []⟩ us vs _ _ hr J.env0 hbd r q) fun rr z2 hq => ?_)
  cases rr with
  | ok fl =>
    cases fl with
    | ret u => exact I1.after (X := X.wish Eb) hq
    | next => exact False.elim hq
    | brk => exact False.elim hq
    | cont => exact False.elim hq
  | error ee =>
    subst hEb
    exact to_clauses d J hh hq
end
section
variable {prog : Program} {w : World} {A : Around} {E : Value → Shared → Prop} {s : Shared} {env : Env} {R : Result → Shared → Prop} {target iter : Expr} {it : Value} {body orelse : List Stmt} {pos : Pos}
theorem forU_loop (I : Nat → Shared → Prop)
    (turn : ∀ n s, I n s → wpAny (model prog w) A (pyNext it) (fun r s1 => match r with
      | none => wpAny (model prog w) A (execs orelse env) (fun f z => R (.ok f) z) (notedBy (model prog w) A env fun e z => R (.error e) z) s1
      | some v => wpAny (model prog w) A (letOwnedTupleGo target it v) (fun _ s2 => wpAny (model prog w) A (assign target env v) (fun _ s3 => wpU (model prog w) A (execs body env) (fun f z => match f with
            | .next | .cont => ∃ m, m < n ∧ I m z
            | .brk => R (.ok .next) z
            | .ret v => R (.ok (.ret v)) z) (notedBy (model prog w) A env fun e z => R (.error e) z) s3) (notedBy (model prog w) A env fun e z => R (.error e) z) s2) (notedBy (model prog w) A env fun e z => R (.error e) z) s1) (notedBy (model prog w) A env fun e z => R (.error e) z) s)
    (n : Nat) (s : Shared) (h : I n s) : codeU (model prog w) A (.forLoop target it body orelse env) R s := by
  refine codeU_turns rfl I (fun n s hI => ?_) n s h
  refine notedU (m := forTurn target it body orelse env) ?_
  simp only [forTurn]
  refine wpU_step (wpAny_standAt (wpU_step (wpAny_onRaise (wpAny_mono (turn n s hI) (fun r s1 h1 => ?_) fun _ _ q => wpAny_standAt q))))
  cases r with
  | none => exact wpU_pure (.inr ⟨rfl, codeU_of (codeAny_block h1)⟩)
  | some v =>
    refine wpU_step (wpAny_mono h1 (fun _ s2 h2 => wpU_step (wpAny_mono h2 (fun _ s3 h3 => wpU_bind (thnU h3 fun f z q => ?_)) fun _ _ q => q)) fun _ _ q => q)
    cases f with
    | next => exact wpU_pure (.inl ⟨rfl, q⟩)
    | cont => exact wpU_pure (.inl ⟨rfl, q⟩)
    | brk => exact wpU_pure q
    | ret v => exact wpU_pure q
theorem forU {Q : Flow → Shared → Prop} (h : wpAny (model prog w) A (eval iter env) (fun x z1 => wpAny (model prog w) A (pyIter x) (fun it z2 =>
      codeU (model prog w) A (.forLoop target it body orelse env) (fun r z => match r with | .ok f => Q f z | .error e => cameBackBy (model prog w) A env E e z) z2) E z1) E s) (hs : ∀ x, foldedSetIterable iter env x = pure x) :
    wpU (model prog w) A (exec (.For target iter body orelse pos) env) Q E s := by
  rw [exec_For]
  refine wpU_step (wpAny_standAt (wpU_step (wpAny_mono h (fun x z1 h1 => wpU_step (wpAny_of_eq (hs x) (wpU_step (wpAny_standAt (wpU_step (wpAny_holding (wpAny_mono h1 (fun it z2 h2 => ?_) fun _ _ q => q))))))) fun _ _ q => q)))
  unfold runOwn
  refine wpU_onRaise (wpU_run (codeU_mono h2 fun r z q => ?_))
  cases r with
  | ok f => exact q
  | error e => exact wpU_of q
end
section
variable {X : Cx} {tg iter : Expr} {body : List Stmt} {wi : TI} {g : TG} {tb : TS} {pos : Pos}
theorem psU_for (hp : PassesOwn (model X.prog X.w) X.A X.env X.xe) (hc : X.calm = true) (hi : PI X tg iter wi) (hg : PG X tg g) (hb : PSsU X body tb) (hs : ∀ x, foldedSetIterable iter X.env x = pure x := by intro _; rfl) : PSU X (.For tg iter body [] pos) (tFor wi g tb) := by
  intro pins s σ H D I h
  refine forU (thn (hi pins s σ H _ I h) fun v s1 h1 => thn h1 fun itv s2 h2 => ?_) hs
  obtain ⟨it, fp, tn, J, H2, e, I2, T, st2, f2, W, ⟨m0, w0⟩, turn⟩ := h2
  subst e
  have stat : ∀ {H' : Hp}, (∀ b ∈ fp, H' b = none) → ∀ b ∈ fp, FpOk X pins H' b := fun hn b hb => ⟨hn b hb, (f2 b hb).2⟩
  refine forU_loop (fun n z => ∃ i σ' H', Inv X pins σ' H' z ∧ tn i z.heap ∧ (∀ b ∈ fp, H' b = none) ∧ W i n σ' H') ?_ m0 _ ⟨0, σ, H2, I2, st2, fun b hb => (f2 b hb).1, w0⟩
  rintro n s3 ⟨i, σ3, H3, I3, st3, fr3, w3⟩
  rcases turn i n σ3 H3 w3 with ⟨stop, qn⟩ | ⟨go, N, hN, step⟩
  · refine wpAny_passesOwn hp (thn (T.done X rfl rfl rfl hc i pins s3 σ3 H3 X.xe I3 (stat fr3) st3 stop) fun r s4 ⟨hr, I4⟩ => ?_)
    subst hr
    exact wpAny_execs_nil ⟨σ3, H3, I4, qn⟩
  · refine wpAny_passesOwn hp (thn (T.item X rfl rfl rfl hc i pins s3 σ3 H3 X.xe I3 (stat fr3) st3 go) fun r s4 ⟨u, hr, h4⟩ => ?_)
    subst hr
    refine wpAny_passesOwn hp (thn h4 fun _ s5 ⟨x, H5, I5, r5, y5, st5, fr5⟩ => ?_)
    have I5' := I5.pinned (stat fr5) (T.obj _ _ st5)
    refine wpAny_passesOwn hp (thn (hg _ s5 σ3 H5 x u _ I5' r5 (step x H5 y5)) fun _ s6 ⟨σ6, H6, I6, q6⟩ => ?_)
    refine wpU_mono (hb _ s6 σ6 H6 _ I6 q6) (fun f s7 q7 => ?_) hp
    have again : ∀ {σ7 : St} {H7 : Hp}, Inv X (pins ++ pinsAt fp s5.heap) σ7 H7 s7 → N σ7 H7 → ∃ m, m < n ∧ ∃ i σ' H', Inv X pins σ' H' s7 ∧ tn i s7.heap ∧ (∀ b ∈ fp, H' b = none) ∧ W i m σ' H' := fun {σ7 H7} I7 n7 => by
      obtain ⟨m', hm, w7⟩ := hN σ7 H7 n7
      refine ⟨m', hm, i + 1, σ7, H7, I7.unpinned, T.keep _ _ _ st5 fun b hb o e => (I7.pin (b, o) (List.mem_append_right _ (List.mem_append_right _ (mem_pinsAt hb e)))).1, fun b hb => ?_, w7⟩
      obtain ⟨o, e, d⟩ := T.obj _ _ st5 b hb
      exact (I7.pin (b, o) (List.mem_append_right _ (List.mem_append_right _ (mem_pinsAt hb e)))).2.1
    cases f with
    | next => obtain ⟨σ7, H7, I7, n7⟩ := q7; exact again I7 n7
    | cont => obtain ⟨σ7, H7, I7, n7⟩ := q7; exact again I7 n7
    | brk => obtain ⟨σ7, H7, I7, q7⟩ := q7; exact ⟨σ7, H7, I7.unpinned, q7⟩
    | ret v => obtain ⟨x7, σ7, H7, I7, r7, q7⟩ := q7; exact ⟨x7, σ7, H7, I7.unpinned, r7, q7⟩
variable {a b : Expr} {rest : List Expr} {tA tB' : TT}
/-- not, or: tests under the caller -/
theorem ptU_not (ha : PTU X a tA) : PTU X (.UnaryOp .Not a pos) (tNot tA) := by
  intro pins s σ H Q I h
  change wpU _ _ (isTrue a X.env (eval a X.env) >>= fun c => pure (!c)) _ _ _
  exact wpU_bind (thnU (ha pins s σ H (fun c H1 => Q (!c) H1) I h) fun c z q => wpU_pure q)
theorem orU {x : Expr} {rest : List Expr} {whole : Sem Value} {M : Model} {A : Around} {E : Value → Shared → Prop} {s : Shared} {env : Env} {Q : Bool → Shared → Prop}
    (h : wpU M A (isTrue x env (eval x env)) (fun c z => if c = true then Q true z else wpU M A (isTrue (.BoolOp .Or rest pos) env whole) Q E z) E s) : wpU M A (isTrue (.BoolOp .Or (x :: rest) pos) env whole) Q E s := by
  change wpU M A (isTrue x env (eval x env) >>= _) Q E s
  refine wpU_bind (thnU h fun c z q => ?_)
  cases c with
  | true => exact wpU_pure q
  | false => exact q
theorem pwU_or1 (ha : PTU X a tA) : PWU X (.BoolOp .Or [a] pos) tA := by
  intro wh pins s σ H Q I h
  refine orU (thnU (ha pins s σ H Q I h) fun c z q => ?_)
  cases c with
  | true => exact q
  | false => exact wpU_of (isTrue_or_nil q)
theorem pwU_or (ha : PTU X a tA) (hb : PWU X (.BoolOp .Or (b :: rest) pos) tB') : PWU X (.BoolOp .Or (a :: b :: rest) pos) (tOr tA tB') := by
  intro wh pins s σ H Q I h
  refine orU (thnU (ha pins s σ H _ I h) fun c z ⟨H1, I1, q1⟩ => ?_)
  cases c with
  | true => exact ⟨H1, I1, q1⟩
  | false => exact hb wh pins z σ H1 Q I1 q1
end
end L2

namespace L2
open PySem PySem.Spec PyProof.Rows
/-- the caller's own context -/
def Γ0 : PySem.Ctx := ⟨.builtin "claim.caller" {}, none, none, [], none⟩
/-- a tree's promise there -/
def wp0 {α : Type} (M : Model) (t : Sem α) (Q : α → Shared → Prop) (E : Value → Shared → Prop) (s : Shared) : Prop := ∀ p : Pos, Sem.wp M Γ0 t (fun a _ z => Q a z) (fun e _ z => E e z) p s
section
variable {α β : Type} {M : Model} {E : Value → Shared → Prop} {s : Shared}
theorem wp0_of {t : Sem α} {Q : α → Shared → Prop} (h : wpAny M callerA t Q E s) : wp0 M t Q E s := fun p => h Γ0 p caller_in
theorem wp0_mono {t : Sem α} {Q Q' : α → Shared → Prop} {E' : Value → Shared → Prop} (h : wp0 M t Q E s) (hQ : ∀ a s, Q a s → Q' a s) (hE : ∀ e s, E e s → E' e s) : wp0 M t Q' E' s :=
  fun p => Sem.wp_mono M Γ0 t (fun a _ z => hQ a z) (fun e _ z => hE e z) p s (h p)
theorem wp0_bind {m : Sem α} {f : α → Sem β} {Q : β → Shared → Prop} (h : wp0 M m (fun a z => wp0 M (f a) Q E z) E s) : wp0 M (m >>= f) Q E s := by
  intro p
  rw [Sem.wp_bind']
  exact Sem.wp_mono M Γ0 m (fun a p' z q => q p') (fun _ _ _ q => q) p s (h p)
theorem wp0_call {f : Value} {us : List Value} {Q : Value → Shared → Prop} (h : codeU M callerA (.call f ⟨us, []⟩) (fun r z => match r with | .ok (.ret v) => Q v z | .ok _ => False | .error e => E e z) s) : wp0 M (call f us) Q E s := by
  intro p
  show Sem.wp M Γ0 (runValue _) _ _ p s
  rw [Sem.wp_runValue]
  exact h _ p rfl (caller_in.enter _ none p (by intro x; cases x)) rfl
end
section
open PySem.W PySem.Calls
variable {prog : Program} {w : World} {t : Sem Fin} {s : Shared}
theorem ends0 {R : Result → Shared → Prop} (hreg : s.asleep) (h : wp0 (model prog w) t (fun fin z => ∃ f, fin = .done f ∧ (R (.ok f) z ∧ leftWithCleanup z.gens = false)) (fun e z => R (.error e) z ∧ leftWithCleanup z.gens = false) s) :
    ∃ n r z z2, runN (denote table) prog w n s ⟨t, .builtin "claim.caller" {}, default, []⟩ = .halted (outcomeOf r) z ∧ schedN (denote table) prog w n (.single s ⟨t, .builtin "claim.caller" {}, default, []⟩) = .halted (outcomeOf r) z ∧ z.forget = z2.forget ∧ R r z2 := by
  have h1 : Sem.wp (model prog w) Γ0 t (Sem.finPost (model prog w) Γ0 fun r z => R r z ∧ leftWithCleanup z.gens = false) (fun e _ z => R (.error e) z ∧ leftWithCleanup z.gens = false) default s :=
    Sem.wp_mono _ Γ0 t (fun fin p' z q => by obtain ⟨f, rfl, q⟩ := q; exact q) (fun _ _ _ q => q) _ _ (h default)
  obtain ⟨n, r, z1, z2, a, b, c, d⟩ := wp_halts_full (M := model prog w) (R := R) hreg h1
  exact ⟨n, r, z2, z1, b, a, c, d⟩
end
section
open PySem.W PySem.Calls
theorem callFrom0 {c : ClaimW} {tree : List Value → Sem Fin} {w : World} {s : Shared} {free : Addr → Prop} {gens : Prop} {kept : Heap → Prop} (hz : s.asleep) (hgs : s.gens = #[])
    (spec : ∀ ds, c.pre ds = true → WData.layableAll ds = true → ∀ ord : List DictEntry → List DictEntry, (∀ l, (ord l).Perm l) → ∃ us z0, layAllW c.records (classAt s.heap) w.params ord ds s = some (us, z0) ∧
      wp0 (model c.prog w) (tree us) (fun fin z => ∃ f, fin = .done f ∧ (c.Ends s ds us z0 (.ok f) z ∧ z.os = s.os ∧ AllBare z.gens ∧ kept z.heap)) (fun e z => c.Ends s ds us z0 (.error e) z ∧ z.os = s.os ∧ AllBare z.gens ∧ kept z.heap) z0) :
    c.CallFrom (fun us => ⟨tree us, .builtin "claim.caller" {}, default, []⟩) w free gens kept s := by
  intro ds hpre hlay ord hord
  obtain ⟨us, z0, laid, run⟩ := spec ds hpre hlay ord hord
  have rst := layAllW_rest _ _ _ laid
  obtain ⟨n, r, z, z2, hrun, hsch, hfo, hE, hos, hk⟩ := ends0 (R := fun r z => c.Ends s ds us z0 r z ∧ z.os = s.os ∧ kept z.heap) (Shared.asleep_of_life rst.2.2.2 hz)
    (wp0_mono run (fun fin z ⟨f, e, q1, q2, q3, q4⟩ => ⟨f, e, ⟨q1, q2, q4⟩, leftWithCleanup_false_of_bare q3⟩) fun e z ⟨q1, q2, q3, q4⟩ => ⟨⟨q1, q2, q4⟩, leftWithCleanup_false_of_bare q3⟩)
  obtain ⟨eh, _, _, eo, _⟩ := Shared.forget_eq hfo
  have hE := hE.congr eh
  have hk : kept z.heap := by rw [eh]; exact hk
  have hos : z.os = s.os := eo.trans hos
  have hlf : z.heap.life = s.heap.life := (runN_life _ _ _ hrun).trans rst.2.2.2
  refine ⟨us, z0, laid, n, _, z, hsch, ?_, (fun _ i x hx => by rw [hgs] at hx; simp at hx), hk, by rw [hlf], Shared.rest_eq hos⟩
  rcases hE with ⟨v, rfl, q1, q2, q3, q4, q5⟩ | ⟨e, ob, cls, rfl, q1, q2, q3, q4, q5⟩
  · exact .inl ⟨v, rfl, q1, q2, q3, fun b o y _ => q4 b o y, q5⟩
  · exact .inr ⟨e, ob, cls, rfl, q1, q2, q3, q4, fun b o y _ => q5 b o y⟩
/-- what is asked of the call -/
abbrev WalkU (q : Program) (loose : List Str) (XP : (Str → Option Value) → Heap → Prop) (YP : World → Heap → Prop) (r : RowW) (d : DefRec) (kwd : List (Str × Expr)) : Prop :=
  ∀ (w : World) (s₀ s₁ : Shared) (mg mb : Str → Option Value), Ground q loose r.records XP w s₀ mg mb s₁.heap → YP w s₁.heap → ∀ (a : Addr) (o : Obj) (pm cd doc dV kV : Value), s₁.heap.get? a = some o →
    o.data = .func { docDef d.name d.params d.body d.scope pm cd doc with defaults := dV, kwdefaults := kV } → s₁.heap.CodeRec cd d.name → Dflts mg s₁.heap d.params kwd dV kV → mg d.name = some (.ref a) → s₁.gens = #[] →
    ∀ (ds : List WData) (us : List Value) (as : List Addr), r.claim.pre ds = true → WData.layableAll ds = true → ReadsAllW r.records (classAt s₀.heap) s₁.heap us ds as → WellAll w.params s₁.heap us ds → (∀ b ∈ as, (b == sysModules) = false) →
      wp0 (model r.prog w) (PySem.call (.ref a) us) (fun v z => GoodWG r.claim (classAt s₀.heap) (ExcName.means s₀.heap) ds s₁ (.ok (.ret v)) z) (fun e z => GoodWG r.claim (classAt s₀.heap) (ExcName.means s₀.heap) ds s₁ (.error e) z) s₁
theorem holdsU {r : OpenRow} {q : Program} {loose : List Str} {Xt : Shared → Bool} {XP : (Str → Option Value) → Heap → Prop} {α : Type} {Yf : Shared → α} {Ya : World → α} {YP : World → Heap → Prop} {d : DefRec} {kwd : List (Str × Expr)} {N : Nat}
    (left : LeftO r.prog q loose Xt Yf Ya N) (hY : ∀ w s, Yf s = Ya w → YP w s.heap) (hYk : ∀ w h h', YP w h → (∀ b o, h.get? b = some o → h'.get? b = some o) → YP w h')
    (hX : ∀ s, Xt s = true → XP (s.heap.nsMap mainGlobals) s.heap) (hXk : ∀ mg h h', XP mg h → (∀ b o, h.get? b = some o → h'.get? b = some o) → XP mg h')
    (hdef : defOf q r.name = some (d, kwd)) (hp : r.prog.theDef r.name = some (d.params, d.body, d.scope)) (hk : kwWritten? d.params.kwonlyargs d.params.kw_defaults = some kwd) (hRf : ∀ s, Xt s = true → RecFacts r.records s.heap) (hwr : (!r.writes || r.records.isEmpty) = true)
    (k1 : r.wellSaid = true) (ok : (chainsOk q && opensWell r.prog && (frees r.toRowW && r.within.isEmpty)) = true) (hb : r.prog.bare) (hw : r.toRowW.promised) (call : WalkU q loose XP YP r.toRowW d kwd) : r.Holds := by
  obtain ⟨ok1, ok2⟩ := Bool.and_eq_true_iff.mp ok
  obtain ⟨hch, hopen⟩ := Bool.and_eq_true_iff.mp ok1
  obtain ⟨hfree, hwin⟩ := Bool.and_eq_true_iff.mp ok2
  obtain ⟨hsame, hu, ha, hap, hm⟩ := frees_parts hfree
  have hno : r.toRowW.claim.within = [] := List.isEmpty_iff.mp hwin
  refine ⟨k1, hw, ⟨hb, hopen, by show r.makers.map _ = []; rw [hm]; rfl⟩, hw.witness, fun w => ⟨(left.behind hX hch w).1, fun zi hzi => ?_⟩⟩
  obtain ⟨zf, hfen, hg0, z, hT, hz, hgn, hns, GR, hyf⟩ := (left.behind (XP := fun mg h => XP mg h ∧ RecFacts r.records h) (fun s hs => ⟨hX s hs, hRf s hs⟩) hch w).2 zi hzi
  have RF := GR.X.2
  have Gn : Ground q loose [] XP w z (z.heap.nsMap mainGlobals) (z.heap.nsMap builtinsNs) z.heap := ⟨GR.T, GR.B, GR.D, GR.TE, GR.TD, GR.W, GR.X.1, GR.cls, GR.has, GR.apart, GR.once, GR.K⟩
  have hgens : z.gens = #[] := Array.eq_empty_of_size_eq_zero (beq_iff_eq.mp hgn)
  have GG := RF.ground Gn
  refine ⟨zf, hfen, hg0, z, hT, fun n hn => ?_, RF.1, RF.2.1, ?_⟩
  · obtain rfl : n = r.name := by split at hn <;> simp_all
    exact pinned_of_view hns Gn hdef hp hk
  refine callFrom0 (c := r.toRowW.claim) (tree := fun us => do match ← nsGet mainNs r.name with
    | some f => do ret (← PySem.call f us)
    | none => unsupported "claim.caller:no-such-global") hz hgens fun ds hpre hlay ord hord => ?_
  obtain ⟨⟨us, z0⟩, laid⟩ := Option.isSome_iff_exists.mp (layAllW_isSome (P := w.params) (ord := ord) GG.has ds r.args z (pre_splitW hpre).1)
  have kl := layAllW_keeps _ _ _ laid
  have rst := layAllW_rest _ _ _ laid
  obtain ⟨as, hrd, hin, hold⟩ := reads_layAllW hord _ _ _ laid hlay z0.heap (fun _ _ e => e)
  have L : Laid r.records w z z0 ds us as := ⟨⟨ord, hord, laid⟩, hrd, hin, hold, kl, rst.1.trans hgens, rst.2.2.1⟩
  have G1 := GG.keeps hXk kl
  obtain ⟨a, o, pm, cd, doc, dV, kV, e1, e2, e3, e4, e5⟩ := G1.fn hdef
  have main := call w z z0 _ _ G1 (hYk _ _ _ (hY w z hyf) kl) a o pm cd doc dV kV e2 e3 e4 e5 (defOf_name hdef ▸ e1) L.gens ds us as hpre hlay L.reads L.well (L.low GG.low)
  refine ⟨us, z0, laid, wp0_bind (wp0_of (wpAny_nsGet G1.T.g ?_))⟩
  rw [e1]
  refine wp0_bind (wp0_mono main (fun v zz g => fun p => ?_) fun e zz g => ?_)
  · have q := g.laid (c := r.toRowW.claim) hsame hno (ident_freeW hu ha hap) L
    exact ⟨_, rfl, q.1, q.2.1, q.2.2, fun y => ⟨namesKept_of hT hns _ kl g.2.1.old, noTable hwr y⟩⟩
  · have q := g.laid (c := r.toRowW.claim) hsame hno (ident_freeW hu ha hap) L
    exact ⟨q.1, q.2.1, q.2.2, fun y => ⟨namesKept_of hT hns _ kl g.2.1.old, noTable hwr y⟩⟩
end
end L2

namespace L2
open PySem PySem.Spec PyProof.Rows
theorem lawU_call {P : Program} {w : World} {K : PySem.W.Frag} {mg mb : Str → Option Value} {CX : CXT} {k : Nat} {fa a : Addr} {fd : FuncData} {x : Str} {sp : Sp} {s₁ : Shared} {vs : List Value} {ns : List Int}
    (KX : K.In s₁.heap) (hns : s₁.heap.Ns mainGlobals mg) (hb : s₁.heap.Ns builtinsNs mb) (hbb : ∀ x : Str, x ≠ "__name__" → mb x = bootBuiltins x) (hlim : s₁.heap.NoLimit) (hg : s₁.gens = #[])
    (ha : s₁.heap.get? a = some { cls := .type "list", data := .seq vs.toArray }) (hi : IntsAre vs ns) (hl : ns.length ≤ sizeLine) (hr : Room k callerA)
    (F : ∀ base : Heap, K.In base → base.Ns mainGlobals mg → FnU P w K mg base CX k fa fd [x] sp) (hbind : ∀ (s : Shared) (u : Value), BindsTo s fd ⟨[u], []⟩ [(x, u)])
    (hsp : ∀ H : Hp, Only H → SqL K H a (ns.map V.int) → sp [.ref a] H (fun v _ => v = .bl true) fun _ _ _ => False)
    (hCX : ∀ H e s', CX [] H s₁ (fun _ _ _ => False) e s' → False) :
    codeU (model P w) callerA (.call (.ref fa) ⟨[.ref a], []⟩) (fun r s' => r = .ok (.ret (.bool true)) ∧ OldK s₁.heap s'.heap ∧ s'.os = s₁.os ∧ AllBare s'.gens) s₁ := by
  have rv := vals_ints hi
  have lenV := hi.length
  have core : ∀ H : Hp, Only H → SqL K H a (ns.map V.int) → HOk P w H s₁.heap → (∀ b, H b ≠ none → b = a) → (H a ≠ none → K.lookup a = none) →
      codeU (model P w) callerA (.call (.ref fa) ⟨[.ref a], []⟩) (fun r s' => r = .ok (.ret (.bool true)) ∧ OldK s₁.heap s'.heap ∧ s'.os = s₁.os ∧ AllBare s'.gens) s₁ := by
    intro H hO hS hok hA hK
    have base_of : ∀ {b : Addr} {o : Obj}, s₁.heap.get? b = some o → H b = none → (hidT s₁.heap H).get? b = some o := fun e n => hidT_get e n
    have noA : ∀ {b : Addr} {o : Obj} {es : Array DictEntry} {ep : Nat}, s₁.heap.get? b = some o → o.data = .dict es ep → H b = none := fun {b o es ep} e d => by
      cases q : H b with
      | none => rfl
      | some u =>
        have e' : b = a := hA b (by rw [q]; simp)
        subst e'
        rw [ha] at e; cases e
        have d' : Data.seq vs.toArray _ = Data.dict es ep := d
        cases d'
    have nsK : ∀ {b : Addr} {m : Str → Option Value}, s₁.heap.Ns b m → (hidT s₁.heap H).Ns b m := fun {b m} ⟨o, es, ep, e, d, r⟩ => ⟨o, es, ep, base_of e (noA e d), d, r⟩
    have hKb : K.In (hidT s₁.heap H) := fun b o e => base_of (KX b o e) (by
      cases q : H b with
      | none => rfl
      | some u =>
        have e' : b = a := hA b (by rw [q]; simp)
        subst e'
        rw [hK (by rw [q]; simp)] at e; cases e)
    have hM : Mod K mg (hidT s₁.heap H) := ⟨hKb, nsK hns, ⟨mb, nsK hb, hbb⟩, let ⟨mc, h1, h2⟩ := hlim; ⟨mc, nsK h1, h2⟩⟩
    have e0 : Env0 P w K mg (hidT s₁.heap H) callerA [] s₁ H := ⟨rfl, hM, fun b o e => of_hidT e, Nat.le_of_eq (hidT_size _ _), trivial, fun b hb => absurd (show b ∈ ([] : List Addr) from hb) (by simp), hok, .of_eq hg⟩
    refine codeU_mono ((F _ hKb (nsK hns)).run callerA [] s₁ H ⟨[.ref a], []⟩ [.ref a] [.ref a] _ _ hr e0 (hbind s₁ (.ref a)) (.cons rfl .nil) (hsp H hO hS)) fun r s' h => ?_
    cases r with
    | error e => exact (hCX H e s' h).elim
    | ok fl =>
      cases fl with
      | next => exact False.elim h
      | brk => exact False.elim h
      | cont => exact False.elim h
      | ret u =>
        obtain ⟨v, H', os, bare, un, hok', r', q⟩ := h
        have q' : v = .bl true := q
        subst q'
        obtain rfl : u = Value.bool true := r'
        refine ⟨rfl, OldK.of_keep fun b o e => ?_, os, bare⟩
        cases q : H b with
        | none => exact un.keep b o e q (by intro z; exact absurd (show b ∈ ([] : List Addr) from z) (by simp)) (by simp)
        | some u =>
          rcases hO b with z | ⟨ob, xs, z⟩
          · rw [q] at z; cases z
          · have z2 := un.frzs b ob _ z
            obtain ⟨e1, _⟩ := hok b _ z
            obtain ⟨e2, _⟩ := hok' b _ z2
            rw [e] at e1; cases e1
            exact e2
  cases hk : K.lookup a with
  | some o =>
    have e := KX a o hk
    rw [ha] at e
    cases e
    refine core (fun _ => none) (fun _ => .inl rfl) (.inr ⟨_, vs.toArray, _, hk, rfl, rfl, rfl, by rw [List.size_toArray, lenV]; exact hl, by simpa using rv⟩) (fun b u z => by have z' : (none : Option HO) = some u := z; cases z') (fun b z => absurd rfl z) fun z => absurd rfl z
  | none =>
    refine core (fun b => if b = a then some (.frz { cls := .type "list", data := .seq vs.toArray } (.lst (ns.map V.int))) else none) (fun b => ?_) (.inl (.inr ⟨{ cls := .type "list", data := .seq vs.toArray }, if_pos rfl⟩)) (fun b u z => ?_) (fun b z => ?_) fun _ => hk
    · by_cases hb : b = a
      · exact .inr ⟨_, _, if_pos hb⟩
      · exact .inl (if_neg hb)
    · by_cases hb : b = a
      · have z' := (if_pos hb).symm.trans z
        cases z'
        subst hb
        exact ⟨ha, by rw [List.length_map]; exact hl, vs, _, rv, ha⟩
      · have z' := (if_neg hb).symm.trans z
        cases z'
    · by_cases hb : b = a
      · exact hb
      · exact absurd (if_neg hb) z
theorem walkU_of {l : PySem.W.OpenLaw} {n k : Nat} {q : Program} {loose : List Str} {XP : (Str → Option Value) → Heap → Prop} {YP : World → Heap → Prop} {d : DefRec} {K : Params → PySem.W.Frag} {CX : World → CXT} {sp : World → Sp} {x : Str}
    (hn : l.most = some n) (hn2 : n ≤ sizeLine) (hdf : d.params.defaults = []) (hr : Room k callerA) (hY : ∀ (w : World) (h : Heap), YP w h → (K w.params).In h)
    (F : ∀ (w : World) (mg : Str → Option Value) (fa : Addr) (h : Heap), (K w.params).In h → h.Ns mainGlobals mg → mg d.name = some (.ref fa) →
      ∃ fd : FuncData, (∀ (s : Shared) (u : Value), BindsTo s fd ⟨[u], []⟩ [(x, u)]) ∧ ∀ base : Heap, (K w.params).In base → base.Ns mainGlobals mg → FnU l.prog w (K w.params) mg base (CX w) k fa fd [x] (sp w))
    (hsp : ∀ (w : World) (H : Hp) (a : Addr) (ns : List Int), ns.length ≤ n → Only H → SqL (K w.params) H a (ns.map V.int) → sp w [.ref a] H (fun v _ => v = .bl true) fun _ _ _ => False)
    (hCX : ∀ (w : World) (H : Hp) (s : Shared) (e : Value) (s' : Shared), CX w [] H s (fun _ _ _ => False) e s' → False) : WalkU q loose XP YP l.row.toRowW d [] := by
  intro w s₀ s₁ mg mb G Y fa o pm cd doc dV kV ho hd hcd hD hmg hg ds us as hpre hlay hrd hwl hlo
  obtain ⟨a, vs, ns, rfl, rfl, hobj, hints, hlen⟩ := Att.script_of hn hpre hwl
  have KX := hY w _ Y
  obtain ⟨fd, hb, hF⟩ := F w mg fa _ KX G.T.g hmg
  refine wp0_call (codeU_mono (lawU_call KX G.T.g G.T.b G.T.builtins G.T.nolimit hg hobj hints (Nat.le_trans hlen hn2) hr hF hb (fun H hO hS => hsp w H a ns hlen hO hS) fun H e s' => hCX w H s₁ e s') fun r z hq => ?_)
  obtain ⟨rfl, h2, h3, h4⟩ := hq
  exact ⟨.inl ⟨.bool true, .bool true, [], rfl, fun _ => rfl, .bool true, Att.post_true l _, fun _ => ⟨List.Pairwise.nil, fun _ hm => (nomatch hm)⟩⟩, h2, h3, h4⟩
end L2

namespace TB

/-- what the landing of beat i leaves by the length -/
def land (P : List Int) (i : Nat) : Int := ((i : Int) + P.getD i 0) % (P.length : Int)

structure Row (P : List Int) : Prop where
  lo : 1 ≤ P.length
  hi : P.length ≤ 60
  bd : ∀ x ∈ P, -1000000 ≤ x ∧ x ≤ 1000000

structure Pat (P : List Int) : Prop extends Row P where
  inj : ∀ i j : Nat, i < P.length → j < P.length → land P i = land P j → i = j

theorem getD_get {P : List Int} {i : Nat} (h : i < P.length) : P.getD i 0 = P[i] := by
  rw [List.getD_eq_getElem?_getD, List.getElem?_eq_getElem h]
  rfl

theorem getD_mem {P : List Int} {i : Nat} (h : i < P.length) : P.getD i 0 ∈ P := by
  rw [getD_get h]
  exact List.getElem_mem h

theorem getD_some {P : List Int} {i : Nat} (h : i < P.length) : P[i]? = some (P.getD i 0) := by
  rw [getD_get h]
  exact List.getElem?_eq_getElem h

/-- the spots: a row of the beats in some order -/
structure Spots (n : Nat) (sp : List Int) : Prop where
  len : sp.length = n
  rng : ∀ k : Nat, k < n → 0 ≤ sp.getD k 0 ∧ sp.getD k 0 < (n : Int)
  inj : ∀ i j : Nat, i < n → j < n → sp.getD i 0 = sp.getD j 0 → i = j

end TB

namespace TB

/-- the landing as a number of the row -/
def landN (P : List Int) (i : Nat) : Nat := (land P i).toNat
def opp (n : Nat) (b : Int) : Nat := ((-b) % (n : Int)).toNat
structure Mir (P M : List Int) : Prop where
  len : M.length = P.length
  bd : ∀ x ∈ M, x ∈ P
  at_ : ∀ j, j < P.length → M.getD (opp P.length (land P j)) 0 = P.getD j 0
def slot (P : List Int) (j : Nat) : Nat := opp P.length (land P j)
def gapL (P : List Int) (h : Int) : List Int := (List.range P.length).map fun b : Nat => h - P.getD (opp P.length b) 0
end TB

namespace TB
/-- the throw back -/
structure Bk (P M : List Int) : Prop where
  len : M.length = P.length
  bd : ∀ x ∈ M, -1000000 ≤ x ∧ x ≤ 1000000
  at_ : ∀ j, j < P.length → M.getD (landN P j) 0 = -P.getD j 0
end TB

namespace TB
def it (f : Nat → Nat) : Nat → Nat → Nat
  | 0, a => a
  | k + 1, a => f (it f k a)
structure Pm (n : Nat) (f : Nat → Nat) : Prop where
  lt : ∀ i, i < n → f i < n
  inj : ∀ i j, i < n → j < n → f i = f j → i = j
section
variable {n : Nat} {f : Nat → Nat} (F : Pm n f)
include F
end
/-- k is the first time that a comes back -/
structure Per (f : Nat → Nat) (a k : Nat) : Prop where
  pos : 1 ≤ k
  back : it f k a = a
  first : ∀ j, 1 ≤ j → j < k → it f j a ≠ a
open Classical in
noncomputable def per (f : Nat → Nat) (a : Nat) : Nat := if h : ∃ k, Per f a k then choose h else 1
/-- the beats of a's round -/
noncomputable def orb (f : Nat → Nat) (a : Nat) : List Nat := (List.range (per f a)).map fun j => it f j a
section
variable {n : Nat} {f : Nat → Nat} (F : Pm n f)
include F
end
/-- the first beats of the rounds, of the beats below i -/
noncomputable def heads (f : Nat → Nat) : Nat → List Nat
  | 0 => []
  | i + 1 => if i ∈ (heads f i).flatMap (orb f) then heads f i else heads f i ++ [i]
noncomputable abbrev told (f : Nat → Nat) (i : Nat) : List Nat := (heads f i).flatMap (orb f)
structure Hd (n : Nat) (f : Nat → Nat) (i : Nat) : Prop where
  lt : ∀ a ∈ heads f i, a < i
  rise : (heads f i).Pairwise (· < ·)
  nd : ((heads f i).flatMap (orb f)).Nodup
  all : ∀ j, j < i → j ∈ (heads f i).flatMap (orb f)
  step : ∀ c, c < n → (c ∈ (heads f i).flatMap (orb f) ↔ f c ∈ (heads f i).flatMap (orb f))
  least : ∀ a ∈ heads f i, ∀ b ∈ orb f a, a ≤ b
end TB

namespace TB
def swapL (P : List Int) (i j : Nat) : List Int := (P.set i ((j : Int) + P.getD (j % P.length) 0 - i)).set (j % P.length) ((i : Int) + P.getD i 0 - j)
/-- which beat a beat of the swapped one lands as -/
def swB (c i b : Nat) : Nat := if b = c then i else if b = i then c else b
end TB

namespace TB
def Apart (P : List Int) : Prop := ∀ i j : Nat, i < P.length → j < P.length → land P i = land P j → i = j
def F (P : List Int) (m : Int) : Int := m + P.getD (m % (P.length : Int)).toNat 0
def T (P : List Int) (i j : Int) : Int := max 0 ((F P i - F P j - 1) / (P.length : Int) - (i - j) / (P.length : Int))
def cr (P : List Int) : Int := ((List.range P.length).map fun i : Nat => ((List.range P.length).map fun j : Nat => T P i j).sum).sum

def rotL (P : List Int) (k : Int) : List Int := (List.range P.length).map fun b : Nat => P.getD ((k + b) % (P.length : Int)).toNat 0
def rotN (n : Nat) (k : Int) (b : Nat) : Nat := ((k + b) % (n : Int)).toNat
end TB

namespace TB
abbrev nextN (n k : Nat) : Nat := (k + 1) % n
/-- the beat whose landing a beat of the swapped row has -/
def tau (n k b : Nat) : Int := if b = nextN n k then (b : Int) - 1 else if b = k then (k : Int) + 1 else b
end TB

namespace TB
end TB

namespace TB
/-- the number whose bits are c -/
def W (c : Nat → Int) (n : Nat) : Int := ((List.range n).map fun k => c k * 2 ^ k).sum
def Bits (c : Nat → Int) : Prop := ∀ k, c k = 0 ∨ c k = 1
/-- a number by its bits -/
def bitI (z : Int) (k : Nat) : Int := z / 2 ^ k % 2
structure Plain (P : List Int) : Prop extends Pat P where
  pl : ∀ x ∈ P, 0 ≤ x ∧ x ≤ 60
/-- does a ball thrown so long ago land k beats from beat b on -/
def lnd (P : List Int) (b : Int) (k ago : Nat) : Int := if F P (b - ago - 1) = b + k then 1 else 0
def cS (P : List Int) (b : Int) (k : Nat) : Int := ((List.range 60).map fun ago : Nat => lnd P b k ago).sum
def S (P : List Int) (b : Int) : Int := W (cS P b) 60
end TB

namespace TB
end TB

namespace TB
def letsI (s : Int) (x : Nat) : Prop := (x = 0 → s % 2 = 0) ∧ (x ≠ 0 → s % 2 = 1 ∧ s / 2 ^ x % 2 = 0)
def ledI (s : Int) (x : Nat) : Int := s / 2 + if x = 0 then 0 else 2 ^ (x - 1)
def Step (m : Nat) (s t : Int) : Prop := ∃ x : Nat, x ≤ m ∧ letsI s x ∧ t = ledI s x
def pc (z : Int) (n : Nat) : Int := ((List.range n).map fun k => bitI z k).sum
/-- the bits of what a throw leads to -/
def ledB (s : Int) (x : Nat) (k : Nat) : Int := bitI s (k + 1) + if k + 1 = x then 1 else 0
end TB

namespace TB
/-- from P by undoing crossings at the places, one by one, to Q -/
inductive Und : List Int → List Nat → List Int → Prop
  | nil (P : List Int) : Und P [] P
  | snoc {P Q : List Int} {pl : List Nat} {k : Nat} (u : Und P pl Q) (hk : k < Q.length) (h : Q.getD k 0 > Q.getD (nextN Q.length k) 0 + 1) : Und P (pl ++ [k]) (swapL Q k (k + 1))
/-- by the places' swaps, each of them a crossing more -/
inductive Wk : List Int → List Nat → List Int → Prop
  | nil (P : List Int) : Wk P [] P
  | cons {R P : List Int} {ps : List Nat} {k : Nat} (hk : k < R.length) (h2 : 2 ≤ R.length) (h : ¬ R.getD k 0 > R.getD (nextN R.length k) 0 + 1) (w : Wk (swapL R k (k + 1)) ps P) : Wk R (k :: ps) P
end TB

namespace TB
abbrev Stp := Int × Int
/-- the steps begin at s and lead to x -/
def leads (L : Int → Int → Int) : Int → List Stp → Int → Prop
  | s, [], x => s = x
  | s, p :: w, x => p.1 = s ∧ leads L (L p.1 p.2) w x
/-- a least loop -/
structure Loop (L : Int → Int → Int) (w : List Stp) : Prop where
  ne : w ≠ []
  nd : (w.map Prod.fst).Nodup
  cl : ∃ c, leads L c w c
/-- cut so far -/
structure Cut (L : Int → Int → Int) (s0 x : Int) (done : List Stp) (loops : List (List Stp)) (w : List Stp) : Prop where
  ok : ∀ l ∈ loops, Loop L l
  nd : (w.map Prod.fst).Nodup
  ld : leads L s0 w x
  pm : (loops.flatten ++ w).Perm done
end TB

namespace TB
end TB

namespace TB
/-- the code of a pair -/
def code (p : Int × Int) : Int := p.1 * 64 + p.2
end TB

namespace TB
def Pre (m : Nat) (s t : Int) : Prop := 0 ≤ s ∧ s < 2 ^ m ∧ Step m s t
/-- told so far: each state and how far it is; of those of D the states ahead are told -/
structure Bfs (m : Nat) (t0 : Int) (F : List Stp) (D : Int → Prop) : Prop where
  nd : (F.map Prod.fst).Nodup
  st : ∀ p ∈ F, 0 ≤ p.1 ∧ p.1 < 2 ^ m ∧ pc p.1 m = pc t0 m ∧ 0 ≤ p.2
  zero : (t0, 0) ∈ F
  one0 : ∀ p ∈ F, p.2 = 0 → p.1 = t0
  back : ∀ p ∈ F, 0 < p.2 → ∃ x : Nat, x ≤ m ∧ letsI p.1 x ∧ (ledI p.1 x, p.2 - 1) ∈ F
  cl : ∀ t d, (t, d) ∈ F → D t → ∀ s, Pre m s t → ∃ e, (s, e) ∈ F ∧ e ≤ d + 1
/-- all told -/
structure Dist (m : Nat) (t0 : Int) (F : List Stp) : Prop where
  nd : (F.map Prod.fst).Nodup
  all : ∀ s, s ∈ F.map Prod.fst ↔ 0 ≤ s ∧ s < 2 ^ m ∧ pc s m = pc t0 m
  pos : ∀ p ∈ F, 0 ≤ p.2
  zero : (t0, 0) ∈ F
  one0 : ∀ p ∈ F, p.2 = 0 → p.1 = t0
  back : ∀ p ∈ F, 0 < p.2 → ∃ x : Nat, x ≤ m ∧ letsI p.1 x ∧ (ledI p.1 x, p.2 - 1) ∈ F
  cl : ∀ t d, (t, d) ∈ F → ∀ s, Pre m s t → ∃ e, (s, e) ∈ F ∧ e ≤ d + 1
end TB

namespace TB
end TB

set_option Elab.async false
set_option linter.all false
namespace TM
open L2
open PySem.NumText (AllDigits digitsVal)
def sgn (k : Nat) : Nat := if k < 10 then 48 + k else 87 + k
def sgs : List Nat := [48, 49, 50, 51, 52, 53, 54, 55, 56, 57, 97, 98, 99, 100, 101, 102, 103, 104, 105, 106, 107, 108, 109, 110, 111, 112, 113, 114, 115, 116, 117, 118, 119, 120, 121, 122]
def Bnd (v : Int) : Prop := -1000000 ≤ v ∧ v ≤ 1000000
def Low (v : Int) : Prop := 0 ≤ v ∧ v ≤ 35
instance (v : Int) : Decidable (Low v) := inferInstanceAs (Decidable (_ ∧ _))
instance (v : Int) : Decidable (Bnd v) := inferInstanceAs (Decidable (_ ∧ _))
/-- a throw, written -/
def wr1 (v : Int) : List Nat := if Low v then [sgn v.toNat] else 40 :: (decI v ++ [41])
/-- a row, written -/
def wrL (ns : List Int) : List Nat := ns.flatMap wr1
/-- a number within brackets -/
def NumOk (l : List Nat) (n : Int) : Prop := Bnd n ∧ ¬ Low n ∧ l = decI n
theorem wrL_nil : wrL [] = [] := rfl
theorem wrL_cons (v : Int) (ns : List Int) : wrL (v :: ns) = wr1 v ++ wrL ns := rfl
theorem wrL_app (a b : List Int) : wrL (a ++ b) = wrL a ++ wrL b := by unfold wrL; exact List.flatMap_append
theorem sgs_at : ∀ k, k < 36 → sgs[k]? = some (sgn k) := by decide
theorem sgs_mem : ∀ c, c ∈ sgs ↔ ∃ k, k < 36 ∧ c = sgn k := by
  intro c
  constructor
  · intro h
    obtain ⟨k, hk, e⟩ := List.mem_iff_getElem.mp h
    have hk' : k < 36 := hk
    have := sgs_at k hk'
    rw [List.getElem?_eq_getElem hk] at this
    exact ⟨k, hk', by rw [← e]; exact Option.some.inj this⟩
  · rintro ⟨k, hk, rfl⟩
    exact List.mem_of_getElem? (sgs_at k hk)
theorem sgs_idx : ∀ k, k < 36 → sgs.idxOf (sgn k) = k := by decide
theorem sgn_inj {j k : Nat} (hj : j < 36) (hk : k < 36) (h : sgn j = sgn k) : j = k := by
  rw [← sgs_idx j hj, h, sgs_idx k hk]
theorem sgn_ne {k : Nat} (h : k < 36) : sgn k ≠ 40 ∧ sgn k ≠ 41 ∧ sgn k < 128 := by
  unfold sgn; split <;> omega
theorem decN_digits (n : Nat) : AllDigits (decN n) := by
  intro c hc
  unfold decN at hc
  obtain ⟨ch, hch, e⟩ := List.mem_map.mp hc
  have r := PyProof.Rows.digit_range (Nat.isDigit_of_mem_toDigits (by decide) (by decide) hch)
  rw [← e]
  exact r
theorem decN_ne (n : Nat) : decN n ≠ [] := by
  intro e
  have h := PySem.toDigits_len_ge 10 n
  unfold decN at e
  rw [List.map_eq_nil_iff.mp e] at h
  exact absurd h (by decide)
theorem val_decN (n : Nat) : digitsVal (decN n) = n := PySem.W.KIN.val_back n
theorem decN_inj {m n : Nat} (h : decN m = decN n) : m = n := by rw [← val_decN m, h, val_decN]
theorem decN_len (k : Nat) : ∀ n, n < 10 ^ (k + 1) → (decN n).length ≤ k + 1 := by
  induction k with
  | zero =>
    intro n h
    unfold decN
    rw [Nat.toDigits_of_lt_base (by simpa using h)]
    simp
  | succ k ih =>
    intro n h
    by_cases h1 : n < 10
    · unfold decN
      rw [Nat.toDigits_of_lt_base h1]
      simp
    · have t : Nat.toDigits 10 (n / 10) ++ Nat.toDigits 10 (n % 10) = Nat.toDigits 10 (10 * (n / 10) + n % 10) := Nat.toDigits_append_toDigits (by decide) (by omega) (Nat.mod_lt n (by decide))
      rw [Nat.div_add_mod] at t
      have hd : n / 10 < 10 ^ (k + 1) := by
        have : 10 ^ (k + 1 + 1) = 10 * 10 ^ (k + 1) := by rw [Nat.pow_succ, Nat.mul_comm]
        omega
      have := ih (n / 10) hd
      unfold decN at this ⊢
      rw [← t, Nat.toDigits_of_lt_base (Nat.mod_lt n (by decide)), List.map_append, List.length_append]
      simp only [List.map_cons, List.map_nil, List.length_cons, List.length_nil]
      omega
theorem decI_neg {i : Int} (h : i < 0) : decI i = 45 :: decN i.natAbs := if_pos h
theorem decI_pos {i : Int} (h : ¬ i < 0) : decI i = decN i.natAbs := if_neg h
theorem decI_signs (i : Int) : ∀ c ∈ decI i, c = 45 ∨ (48 ≤ c ∧ c ≤ 57) := by
  intro c hc
  by_cases h : i < 0
  · rw [decI_neg h] at hc
    rcases List.mem_cons.mp hc with e | hc
    · exact .inl e
    · exact .inr (decN_digits _ c hc)
  · rw [decI_pos h] at hc
    exact .inr (decN_digits _ c hc)
theorem decN_head (n : Nat) : ∃ c t, decN n = c :: t ∧ c ≠ 45 := by
  cases e : decN n with
  | nil => exact absurd e (decN_ne n)
  | cons c t => exact ⟨c, t, rfl, by have := decN_digits n c (by rw [e]; exact List.mem_cons_self ..); omega⟩
theorem decI_inj {i j : Int} (h : decI i = decI j) : i = j := by
  by_cases hi : i < 0 <;> by_cases hj : j < 0
  · rw [decI_neg hi, decI_neg hj] at h
    have := decN_inj (List.cons.inj h).2
    omega
  · rw [decI_neg hi, decI_pos hj] at h
    obtain ⟨c, t, e, hc⟩ := decN_head j.natAbs
    rw [e] at h
    exact absurd (List.cons.inj h).1.symm hc
  · rw [decI_pos hi, decI_neg hj] at h
    obtain ⟨c, t, e, hc⟩ := decN_head i.natAbs
    rw [e] at h
    exact absurd (List.cons.inj h).1 hc
  · rw [decI_pos hi, decI_pos hj] at h
    have := decN_inj h
    omega
theorem decI_len {i : Int} (b : Bnd i) : (decI i).length ≤ 8 := by
  have l := decN_len 6 i.natAbs (by unfold Bnd at b; omega)
  by_cases h : i < 0
  · rw [decI_neg h, List.length_cons]; omega
  · rw [decI_pos h]; omega
/-- what stands behind a - ahead -/
def figs (l : List Nat) : List Nat := if l.take 1 = [45] then l.drop 1 else l
theorem figs_dec {l : List Nat} {n : Int} (h : l = decI n) (b : Bnd n) : figs l ≠ [] ∧ (figs l).length ≤ 7 ∧ AllDigits (figs l) := by
  have hl := decN_len 6 n.natAbs (by unfold Bnd at b; omega)
  have hd := decN_digits n.natAbs
  have hn := decN_ne n.natAbs
  have e : figs l = decN n.natAbs := by
    unfold figs
    by_cases hi : n < 0
    · rw [h, decI_neg hi, if_pos (by simp)]; simp
    · obtain ⟨c, t, e, hc⟩ := decN_head n.natAbs
      rw [h, decI_pos hi, e, if_neg (by simpa using hc)]
  rw [e]
  exact ⟨hn, hl, hd⟩
theorem figs_len (l : List Nat) : l.length ≤ (figs l).length + 1 := by
  unfold figs
  split
  · simp; omega
  · omega
theorem fold_lt : ∀ {cs : List Nat} {a : Nat}, AllDigits cs → cs.foldl (fun acc c => acc * 10 + (c - 48)) a < (a + 1) * 10 ^ cs.length
  | [], a, _ => by simp
  | c :: cs, a, h => by
    have h1 := h c (List.mem_cons_self ..)
    have h2 := fold_lt (cs := cs) (a := a * 10 + (c - 48)) fun d hd => h d (List.mem_cons_of_mem _ hd)
    rw [List.foldl_cons, List.length_cons]
    refine Nat.lt_of_lt_of_le h2 ?_
    rw [Nat.pow_succ, Nat.mul_comm (10 ^ cs.length) 10, ← Nat.mul_assoc]
    exact Nat.mul_le_mul_right _ (by omega)
theorem val_lt {cs : List Nat} (h : AllDigits cs) : digitsVal cs < 10 ^ cs.length := by
  have := fold_lt (a := 0) h
  simpa [digitsVal] using this
theorem read_of {l : List Nat} (h1 : figs l ≠ []) (h2 : AllDigits (figs l)) : ∃ v, ReadI l v ∧ v.natAbs = digitsVal (figs l) ∧ ∀ n, l = decI n → n = v := by
  unfold figs at h1 h2
  by_cases h : l.take 1 = [45]
  · rw [if_pos h] at h1 h2
    cases l with
    | nil => simp at h
    | cons c t =>
      have hc : c = 45 := by simpa using h
      subst hc
      simp only [List.drop_succ_cons, List.drop_zero] at h1 h2
      refine ⟨_, .inr ⟨t, rfl, h2, h1, rfl⟩, by unfold figs; rw [if_pos h]; simp, fun n e => ?_⟩
      by_cases hn : n < 0
      · rw [decI_neg hn] at e
        have := congrArg digitsVal (List.cons.inj e).2
        rw [val_decN] at this
        omega
      · rw [decI_pos hn] at e
        obtain ⟨c, s, e', hc⟩ := decN_head n.natAbs
        rw [e'] at e
        exact absurd (List.cons.inj e).1.symm hc
  · rw [if_neg h] at h1 h2
    refine ⟨_, .inl ⟨h2, h1, rfl⟩, by unfold figs; rw [if_neg h]; simp, fun n e => ?_⟩
    by_cases hn : n < 0
    · rw [e, decI_neg hn] at h
      simp at h
    · rw [decI_pos hn] at e
      have := congrArg digitsVal e
      rw [val_decN] at this
      omega
theorem low_lt {v : Int} (h : Low v) : v.toNat < 36 := by unfold Low at h; omega
theorem wr1_low {v : Int} (h : Low v) : wr1 v = [sgn v.toNat] := if_pos h
theorem wr1_par {v : Int} (h : ¬ Low v) : wr1 v = 40 :: (decI v ++ [41]) := if_neg h
theorem no41 (i : Int) : 41 ∉ decI i := fun h => by have := decI_signs i 41 h; omega
theorem split41 : ∀ {a b s t : List Nat}, 41 ∉ a → 41 ∉ b → a ++ 41 :: s = b ++ 41 :: t → a = b ∧ s = t
  | [], [], _, _, _, _, h => ⟨rfl, (List.cons.inj h).2⟩
  | [], c :: b, _, _, _, h2, h => absurd (by rw [← (List.cons.inj h).1]; exact List.mem_cons_self ..) h2
  | c :: a, [], _, _, h1, _, h => absurd (by rw [(List.cons.inj h).1]; exact List.mem_cons_self ..) h1
  | c :: a, d :: b, s, t, h1, h2, h => by
    obtain ⟨e1, e2⟩ := List.cons.inj h
    obtain ⟨e3, e4⟩ := split41 (a := a) (b := b) (fun z => h1 (List.mem_cons_of_mem _ z)) (fun z => h2 (List.mem_cons_of_mem _ z)) e2
    exact ⟨by rw [e1, e3], e4⟩
theorem wr1_cancel {v u : Int} {s t : List Nat} (h : wr1 v ++ s = wr1 u ++ t) : v = u ∧ s = t := by
  by_cases hv : Low v <;> by_cases hu : Low u
  · rw [wr1_low hv, wr1_low hu] at h
    obtain ⟨e1, e2⟩ := List.cons.inj h
    have := sgn_inj (low_lt hv) (low_lt hu) e1
    refine ⟨?_, e2⟩
    unfold Low at hv hu
    omega
  · rw [wr1_low hv, wr1_par hu] at h
    exact absurd (List.cons.inj h).1 (sgn_ne (low_lt hv)).1
  · rw [wr1_par hv, wr1_low hu] at h
    exact absurd (List.cons.inj h).1.symm (sgn_ne (low_lt hu)).1
  · rw [wr1_par hv, wr1_par hu] at h
    have h2 : decI v ++ [41] ++ s = decI u ++ [41] ++ t := (List.cons.inj h).2
    rw [List.append_assoc, List.append_assoc] at h2
    obtain ⟨e1, e2⟩ := split41 (no41 v) (no41 u) (by simpa using h2)
    exact ⟨decI_inj e1, e2⟩
theorem wr1_ne (v : Int) : wr1 v ≠ [] := by unfold wr1; split <;> simp
/-- a text that begins with a row written: what is left is written too -/
theorem wr_rest : ∀ {ns ms : List Int} {r : List Nat}, wrL ns ++ r = wrL ms → ∃ ks, ms = ns ++ ks ∧ r = wrL ks
  | [], ms, r, h => ⟨ms, rfl, h⟩
  | v :: ns, [], r, h => by
    rw [wrL_cons, wrL_nil] at h
    have := (List.append_eq_nil_iff.mp (List.append_eq_nil_iff.mp h).1).1
    exact absurd this (wr1_ne v)
  | v :: ns, u :: ms, r, h => by
    rw [wrL_cons, wrL_cons, List.append_assoc] at h
    obtain ⟨e1, e2⟩ := wr1_cancel h
    obtain ⟨ks, e3, e4⟩ := wr_rest e2
    exact ⟨ks, by rw [e1, e3]; rfl, e4⟩
theorem wrL_inj {ns ms : List Int} (h : wrL ns = wrL ms) : ns = ms := by
  obtain ⟨ks, e1, e2⟩ := wr_rest (ns := ns) (ms := ms) (r := []) (by rw [List.append_nil]; exact h)
  cases ks with
  | nil => rw [e1, List.append_nil]
  | cons k ks =>
    rw [wrL_cons] at e2
    exact absurd (List.append_eq_nil_iff.mp e2.symm).1 (wr1_ne k)
/-- the first sign tells a throw without brackets -/
theorem first_sign {c : Nat} {t : List Nat} (h : c ∈ sgs) : c :: t = wr1 (sgs.idxOf c : Nat) ++ t ∧ sgs.idxOf c < 36 := by
  obtain ⟨k, hk, rfl⟩ := (sgs_mem c).mp h
  rw [sgs_idx k hk]
  rw [wr1_low (show Low ((k : Nat) : Int) from ⟨by omega, by omega⟩)]
  exact ⟨by simp, hk⟩
/-- or one within brackets -/
theorem first_par {c : Nat} {t : List Nat} (h : c ∉ sgs) {v : Int} {s : List Nat} (b : Bnd v) (e : c :: t = wr1 v ++ s) :
    c = 40 ∧ 41 ∈ (c :: t) ∧ NumOk (((c :: t).drop 1).take ((c :: t).idxOf 41 - 1)) v ∧ (c :: t).drop ((c :: t).idxOf 41 + 1) = s := by
  by_cases hv : Low v
  · rw [wr1_low hv] at e
    exact absurd ((sgs_mem c).mpr ⟨_, low_lt hv, (List.cons.inj e).1⟩) h
  · rw [wr1_par hv] at e
    have ix : (c :: t).idxOf 41 = (decI v).length + 1 := by
      rw [e]
      show (40 :: (decI v ++ [41] ++ s)).idxOf 41 = _
      rw [List.idxOf_cons, show ((40 : Nat) == 41) = false from rfl, cond_false, List.append_assoc, List.idxOf_append, if_neg (no41 v)]
      simp
    refine ⟨(List.cons.inj e).1, ?_, ⟨b, hv, ?_⟩, ?_⟩
    · rw [e]; simp
    · rw [ix, e]
      simp
    · rw [ix, e]
      show List.drop ((decI v).length + 1 + 1) (40 :: (decI v ++ [41] ++ s)) = s
      rw [List.drop_succ_cons, List.append_assoc, ← List.drop_drop, List.drop_left]
      rfl
theorem par_first {t : List Nat} (h : 41 ∈ (40 :: t)) {v : Int} (n : NumOk (((40 :: t).drop 1).take ((40 :: t).idxOf 41 - 1)) v) : 40 :: t = wr1 v ++ (40 :: t).drop ((40 :: t).idxOf 41 + 1) := by
  obtain ⟨b, hv, e⟩ := n
  have h' : 41 ∈ t := by simpa using h
  have ix : (40 :: t).idxOf 41 = t.idxOf 41 + 1 := by
    rw [List.idxOf_cons, show ((40 : Nat) == 41) = false from rfl, cond_false]
  rw [ix] at e ⊢
  rw [show (40 :: t).drop 1 = t from rfl, Nat.add_sub_cancel] at e
  rw [wr1_par hv, ← e]
  show 40 :: t = 40 :: ((t.take (t.idxOf 41) ++ [41]) ++ t.drop (t.idxOf 41 + 1))
  have i1 : t.idxOf 41 < t.length := List.idxOf_lt_length_of_mem h'
  have i2 : t[t.idxOf 41] = 41 := List.getElem_idxOf i1
  have : t = t.take (t.idxOf 41) ++ (41 :: t.drop (t.idxOf 41 + 1)) := by
    conv => lhs; rw [← List.take_append_drop (t.idxOf 41) t]
    rw [List.drop_eq_getElem_cons i1, i2]
  rw [List.append_assoc]
  exact congrArg (40 :: ·) this
theorem wr1_len {v : Int} (b : Bnd v) : (wr1 v).length ≤ 10 := by
  unfold wr1
  split
  · simp
  · have := decI_len b
    simp; omega
theorem wrL_len : ∀ {ns : List Int}, (∀ v ∈ ns, Bnd v) → (wrL ns).length ≤ 10 * ns.length
  | [], _ => by simp [wrL]
  | v :: ns, h => by
    have h1 := wr1_len (h v (List.mem_cons_self ..))
    have h2 := wrL_len (ns := ns) fun u hu => h u (List.mem_cons_of_mem _ hu)
    rw [wrL_cons, List.length_append, List.length_cons]
    omega
theorem wr1_ascii (v : Int) : Ascii (wr1 v) := by
  intro c hc
  by_cases h : Low v
  · rw [wr1_low h] at hc
    rw [List.mem_singleton.mp hc]
    exact (sgn_ne (low_lt h)).2.2
  · rw [wr1_par h] at hc
    rcases List.mem_cons.mp hc with e | hc
    · omega
    · rcases List.mem_append.mp hc with hc | hc
      · have := decI_signs v c hc; omega
      · rw [List.mem_singleton.mp hc]; omega
theorem wrL_ascii (ns : List Int) : Ascii (wrL ns) := by
  intro c hc
  obtain ⟨v, _, hv⟩ := List.mem_flatMap.mp hc
  exact wr1_ascii v c hv
/-- a text is a row, written -/
def Wr (l : List Nat) (ns : List Int) : Prop := 1 ≤ ns.length ∧ ns.length ≤ 60 ∧ (∀ v ∈ ns, Bnd v) ∧ l = wrL ns
theorem len_wrL : ∀ ns : List Int, ns.length ≤ (wrL ns).length
  | [] => Nat.le_refl _
  | v :: ns => by
    have h := len_wrL ns
    have h1 := List.length_pos_iff.mpr (wr1_ne v)
    rw [wrL_cons, List.length_append, List.length_cons]
    omega
/-- what is left cannot be read on: no row is written so -/
theorem no_rest {l r : List Nat} {ns ms : List Int} (e : l = wrL ns ++ r) (hr : r ≠ []) (no : ∀ v s, Bnd v → r ≠ wr1 v ++ s) (h : ∀ v ∈ ms, Bnd v) : l ≠ wrL ms := by
  intro z
  rw [e] at z
  obtain ⟨ks, e1, e2⟩ := wr_rest z
  cases ks with
  | nil => exact hr e2
  | cons k ks => exact no k (wrL ks) (h k (by rw [e1]; simp)) e2
end TM

set_option Elab.async false
set_option linter.all false
namespace TB
/-- where a throw lands, by a length of its own -/
def landM (n : Nat) (ts : List Int) (i : Nat) : Int := ((i : Int) + ts.getD i 0) % (n : Int)
def takenN (n : Nat) (ts : List Int) : List Int := (List.range ts.length).map (landM n ts)
def letsN (n : Nat) (ts : List Int) (t : Nat) : Bool := !(takenN n ts).contains (((ts.length : Int) + (t : Int)) % (n : Int))
def moreN (n : Nat) (tot : Int) (ts : List Int) : List (List Int) :=
  if ts.length + 1 = n then [ts ++ [tot - ts.sum]] else ((List.range (tot - ts.sum + 1).toNat).filter (letsN n ts)).map fun t : Nat => ts ++ [(t : Int)]
def stageN (n : Nat) (tot : Int) : Nat → List (List Int)
  | 0 => [[]]
  | k + 1 => (stageN n tot k).flatMap (moreN n tot)
/-- the order of lists -/
def ltL : List Int → List Int → Bool
  | [], [] => false
  | [], _ :: _ => true
  | _ :: _, [] => false
  | a :: as, b :: bs => decide (a < b) || (decide (a = b) && ltL as bs)
def riseL : List (List Int) → Bool
  | [] => true
  | [_] => true
  | a :: b :: r => ltL a b && riseL (b :: r)
def fitsN (n b : Nat) (ts : List Int) : Bool :=
  decide (ts.length = n) && ts.all (fun t => decide (0 ≤ t)) && ((List.range n).map (landM n ts)).isPerm ((List.range n).map fun k : Nat => (k : Int)) && decide (ts.sum = (b : Int) * n)
def boundN (n b : Nat) : Bool := (List.range (n + 1)).all fun k => decide ((stageN n ((n : Int) * b) k).length ≤ 100000) && (stageN n ((n : Int) * b) k).all fun ts => decide (ts.sum ≤ (n : Int) * b) && decide (0 ≤ ts.sum) && decide (ts.length = k)
def rightN (n b : Nat) : Bool :=
  (stageN n ((n : Int) * b) n).all (fitsN n b) && riseL (stageN n ((n : Int) * b) n) && decide (((stageN n ((n : Int) * b) n).length : Int) = ((b : Int) + 1) ^ n - (b : Int) ^ n)
/-- the lengths and balls that are asked -/
def AskN (n b : Nat) : Prop := 1 ≤ n ∧ ((n ≤ 4 ∧ b ≤ 3) ∨ (n ≤ 6 ∧ b ≤ 2))
structure Fits (n b : Nat) (ts : List Int) : Prop where
  len : ts.length = n
  nn : ∀ x ∈ ts, 0 ≤ x
  pm : ((List.range n).map (landM n ts)).Perm ((List.range n).map fun k : Nat => (k : Int))
  sm : ts.sum = (b : Int) * n
end TB

set_option Elab.async false
set_option linter.all false
namespace TB
inductive Ch where
  | idc
  | turn (k : Int)
  | lift (k : Int)
  | swap (i j : Int)
  | nb (k : Int)
  | mir
  | gap (h : Int)
def inBd (i : Int) : Prop := -1000000 ≤ i ∧ i ≤ 1000000
open Classical in
noncomputable def mirL (ns : List Int) : List Int := if h : ∃ M, Mir ns M then h.choose else []
def okC : Ch → List Int → Prop
  | .idc, _ => True
  | .turn k, _ => inBd k
  | .lift k, ns => inBd k ∧ ∀ x ∈ ns, inBd (x + k)
  | .swap i j, ns => 0 ≤ i ∧ i < j ∧ j < ns.length ∧ ∀ x ∈ swapL ns i.toNat j.toNat, inBd x
  | .nb k, ns => 0 ≤ k ∧ k < ns.length ∧ 2 ≤ ns.length ∧ ∀ x ∈ swapL ns k.toNat (k.toNat + 1), inBd x
  | .mir, _ => True
  | .gap h, ns => inBd h ∧ ∀ x ∈ gapL ns h, inBd x
noncomputable def doC : Ch → List Int → List Int
  | .idc, ns => ns
  | .turn k, ns => rotL ns k
  | .lift k, ns => ns.map (· + k)
  | .swap i j, ns => swapL ns i.toNat j.toNat
  | .nb k, ns => swapL ns k.toNat (k.toNat + 1)
  | .mir, ns => mirL ns
  | .gap h, ns => gapL ns h
/-- one after the other -/
inductive Run : List Ch → List Int → List Int → Prop
  | nil {ns : List Int} : Run [] ns ns
  | cons {c : Ch} {cs : List Ch} {ns ms : List Int} : okC c ns → Run cs (doC c ns) ms → Run (c :: cs) ns ms
end TB

set_option Elab.async false
set_option linter.all false
namespace TM
open L2
/-- a sign, or brackets with what stands within them -/
def Piece (p : List Nat) : Prop := (∃ c, c ≠ 40 ∧ p = [c]) ∨ ∃ m, 41 ∉ m ∧ p = 40 :: (m ++ [41])
theorem Piece.ne {p : List Nat} (h : Piece p) : p ≠ [] := by
  rcases h with ⟨c, _, rfl⟩ | ⟨m, _, rfl⟩ <;> simp
theorem piece_cancel {p q s t : List Nat} (hp : Piece p) (hq : Piece q) (h : p ++ s = q ++ t) : p = q ∧ s = t := by
  rcases hp with ⟨c, hc, rfl⟩ | ⟨m, hm, rfl⟩ <;> rcases hq with ⟨d, hd, rfl⟩ | ⟨n, hn, rfl⟩
  · obtain ⟨e1, e2⟩ := List.cons.inj h
    exact ⟨by rw [e1], e2⟩
  · exact absurd (List.cons.inj h).1 hc
  · exact absurd (List.cons.inj h).1.symm hd
  · have h2 : m ++ [41] ++ s = n ++ [41] ++ t := (List.cons.inj h).2
    rw [List.append_assoc, List.append_assoc] at h2
    obtain ⟨e1, e2⟩ := split41 hm hn (by simpa using h2)
    exact ⟨by rw [e1], e2⟩
theorem piece_wr1 (v : Int) : Piece (wr1 v) := by
  by_cases h : Low v
  · exact .inl ⟨_, (sgn_ne (low_lt h)).1, wr1_low h⟩
  · exact .inr ⟨decI v, no41 v, wr1_par h⟩
theorem pieces_rest : ∀ {ps : List (List Nat)} {ns : List Int} {r : List Nat}, (∀ p ∈ ps, Piece p) → ps.flatten ++ r = wrL ns → ∃ ks js, ns = js ++ ks ∧ ps = js.map wr1 ∧ r = wrL ks
  | [], ns, r, _, h => ⟨ns, [], rfl, rfl, h⟩
  | p :: ps, [], r, hp, h => by
    have e : p = [] := by
      rw [List.flatten_cons, wrL_nil] at h
      exact (List.append_eq_nil_iff.mp (List.append_eq_nil_iff.mp h).1).1
    exact absurd e (hp p (List.mem_cons_self ..)).ne
  | p :: ps, v :: ns, r, hp, h => by
    rw [List.flatten_cons, wrL_cons, List.append_assoc] at h
    obtain ⟨e1, e2⟩ := piece_cancel (hp p (List.mem_cons_self ..)) (piece_wr1 v) h
    obtain ⟨ks, js, e3, e4, e5⟩ := pieces_rest (fun q hq => hp q (List.mem_cons_of_mem _ hq)) e2
    exact ⟨ks, v :: js, by rw [e3]; rfl, by rw [e1, e4]; rfl, e5⟩
theorem pieces_wr {ps : List (List Nat)} {ns : List Int} (hp : ∀ p ∈ ps, Piece p) (h : ps.flatten = wrL ns) : ps = ns.map wr1 := by
  obtain ⟨ks, js, e1, e2, e3⟩ := pieces_rest (r := []) hp (by rw [List.append_nil]; exact h)
  cases ks with
  | nil => rw [e1, List.append_nil]; exact e2
  | cons k ks =>
    rw [wrL_cons] at e3
    exact absurd (List.append_eq_nil_iff.mp e3.symm).1 (wr1_ne k)
/-- the throw that a piece tells -/
def told : List Nat → Option Int
  | [] => none
  | c :: t => if c = 40 then PySem.intText? (tx t.dropLast) else if c ∈ sgs then some ((sgs.idxOf c : Nat) : Int) else none
theorem int_decI {v : Int} (b : Bnd v) : PySem.intText? (tx (decI v)) = some v := by
  have l := decI_len b
  by_cases h : v < 0
  · have e := decI_neg h
    rw [e] at l ⊢
    rw [PySem.intText_neg (x := tx (45 :: decN v.natAbs)) (tx_list _) (decN_digits _) (decN_ne _) (by rw [tx_len]; omega), val_decN]
    congr 1
    omega
  · have e := decI_pos h
    rw [e] at l ⊢
    rw [PySem.intText_digits (x := tx (decN v.natAbs)) (by rw [tx_list]; exact decN_digits _) (by rw [tx_list]; exact decN_ne _) (by rw [tx_len]; omega), tx_list, val_decN]
    congr 1
    omega
theorem told_wr1 {v : Int} (b : Bnd v) : told (wr1 v) = some v := by
  by_cases h : Low v
  · rw [wr1_low h]
    show (if sgn v.toNat = 40 then _ else if sgn v.toNat ∈ sgs then _ else _) = _
    rw [if_neg (sgn_ne (low_lt h)).1, if_pos ((sgs_mem _).mpr ⟨_, low_lt h, rfl⟩), sgs_idx _ (low_lt h)]
    congr 1
    unfold Low at h
    omega
  · rw [wr1_par h]
    have e : told (40 :: (decI v ++ [41])) = PySem.intText? (tx (decI v ++ [41]).dropLast) := by rw [told]; exact if_pos rfl
    rw [e, List.dropLast_concat, int_decI b]
theorem no_told {l : List Nat} {ps : List (List Nat)} {p : List Nat} (hp : ∀ p ∈ ps, Piece p) (hf : ps.flatten = l) (hm : p ∈ ps) (hn : told p = none) : ∀ ns, ¬ Wr l ns := by
  intro ns w
  have e := pieces_wr hp (hf.trans w.2.2.2)
  rw [e] at hm
  obtain ⟨v, hv, rfl⟩ := List.mem_map.mp hm
  rw [told_wr1 (w.2.2.1 v hv)] at hn
  cases hn
theorem told_row {l : List Nat} {ps : List (List Nat)} {vs ns : List Int} (hp : ∀ p ∈ ps, Piece p) (hf : ps.flatten = l) (hv : ps.map told = vs.map some) (w : Wr l ns) : ns = vs := by
  have e := pieces_wr hp (hf.trans w.2.2.2)
  rw [e, List.map_map] at hv
  have e2 : ns.map (told ∘ wr1) = ns.map some := List.map_congr_left fun v hm => told_wr1 (w.2.2.1 v hm)
  rw [e2] at hv
  exact (List.map_inj_right (fun _ _ => Option.some.inj)).mp hv
/-- a bracket that is never closed -/
theorem no_close {l r : List Nat} {ps : List (List Nat)} {t : List Nat} (hp : ∀ p ∈ ps, Piece p) (e : l = ps.flatten ++ r) (hr : r = 40 :: t) (hn : 41 ∉ r) : ∀ ns, ¬ Wr l ns := by
  intro ns w
  obtain ⟨ks, js, e1, e2, e3⟩ := pieces_rest hp (e.symm.trans w.2.2.2)
  cases ks with
  | nil => rw [hr] at e3; cases e3
  | cons k ks =>
    rw [wrL_cons, hr] at e3
    have hk : ¬ Low k := fun z => by
      rw [wr1_low z] at e3
      exact (sgn_ne (low_lt z)).1 (List.cons.inj e3).1.symm
    refine hn ?_
    rw [hr, e3, wr1_par hk]
    simp
end TM

set_option maxHeartbeats 4000000
namespace Tb
open PySem L2 TB
local macro_rules | `(tactic| walk_at "rd") => `(tactic| try simp only [rExtendT, rCount, iRevT, tSeq, tNext, tIfS, tRet, tRetN, tDrop, tAsg, gName, gNil, gCons, gSub, gTup, tVar, tC, tOp, tUn, rI, rI0, rU, rEq, rNe, tTest, tB, tChain, tChain3, rSortedB, rSortedP, rSortedD, rListD, rDictP, iDict, tThaw, rDClear, tDisp, tPairs, kit_dict_dict, rIndex, rIsX, rIsXT, rIsXd, rIsXV, rIsXTd, rIsO, rIxS2, rSlS, rFind, rIndexT, rLenT, rStrT, rIntT, rAddT, rMulT, rInT, iTxt, tx_str, tTxts, kit_str_str, rIn, tListRev, tAug, ipI, tAnd, tOr, tNot, tAndV, tOrV, tNotV, tIf, tIsN, tNotN, tCB, tNil, tCons, tTup, tLst, tTupG, tLstG, tCall, tRaise, tTryC, tXF, sXF, tRaiseI, tTryA, tTryE, thC, thA, thNil, Ends.less, tFor_eq, tComp_eq, iList, iTup, iRng1, iRng2, iEnum, iZip, tNoIf, rIxL, rIxT, rSetL, tBM, tBM0, rAppend, tFld, sFld, tMake, tMakeN, tMethD, tTryM, tNever, rExtend, rGeL, rInS, rClear, tDNewK, tDIn, tDNotIn, tDGet, sDPut, rEqL, rEqS, rBest, rRep, rCat, tSl, tPart, tNoPart, rSlL, capt, CDiv, scal_ii, scal_bb, scal_ss, scal_nn, scal_in, scal_ni, List.map_cons, List.map_nil, List.append_nil, List.nil_append, List.cons_append, List.length_cons, List.length_nil, List.length_map, Int.zero_add, List.getElem?_cons_zero, List.getElem?_cons_succ, List.set_cons_zero, List.set_cons_succ, Option.some.injEq, Option.join_some, Option.bind_some, Option.bind_none, V.int.injEq, V.bl.injEq, V.ref.injEq, V.str.injEq, V.ty.injEq, List.cons.injEq, and_true, true_and, exists_and_left, exists_eq_left', exists_eq_left, exists_eq_right, exists_eq_right', exists_eq, exists_eq', exists_const, eq_self, decide_true, decide_false, Option.isSome_none, Option.isSome_some, Bool.false_eq_true, Bool.not_true, Bool.not_false, reduceIte, reduceCtorEq, false_and, and_false, or_false, false_or, start_def, cxOf_K, cxComp_K, and_assoc, tyOf_int, kit_int_int, kit_int_bool, kit_list_list, rep0, rep1, rep2, rep3, rep4, rep5, rep6, rep7, rep8, rep9, rep10, rep11, rep12, rLen, rIsi, rListOf, rTupOf, rSum, rAll, rAny, rSorted, kit_tuple_tuple, Nat.sub_self, Nat.reduceAdd, Nat.reduceSub, Nat.reduceEqDiff])

def top (i : Nat) : Stmt := PySem.Challenge.pw_tossbook_k16_written.main.body.getD i (.Pass ⟨0, 0, 0, 0⟩)
/-- within the bounds of a throw -/
def inB (i : Int) : Prop := -1000000 ≤ i ∧ i ≤ 1000000
theorem inB_dec (i : Int) : (decide (-1000000 ≤ i) && decide (i ≤ 1000000)) = true ↔ inB i := by
  unfold inB
  simp
theorem ints_at {ns : List Int} {i : Nat} {x : V} (h : (ns.map V.int)[i]? = some x) : i < ns.length ∧ x = .int (ns.getD i 0) := by
  rw [List.getElem?_map] at h
  cases e : ns[i]? with
  | none => rw [e] at h; cases h
  | some z =>
    rw [e] at h
    have hi := (List.getElem?_eq_some_iff.mp e).1
    refine ⟨hi, ?_⟩
    rw [getD_some hi] at e
    cases e
    exact (Option.some.inj h).symm
theorem same_upd {H : Hp} {a : Addr} {o : HO} (h : H a = none) : Same H (upd H a o) := fun b u e => by
  rw [upd_ne (ne_of_none e h)]
  exact e
section
variable {P : Program} {w : World} {K : PySem.W.Frag} {mg : Str → Option Value} {base : Heap}

abbrev s_is_whole : Stmt := top 12
theorem sc_is_whole : FnScope ["value"] ["value"] (defScope s_is_whole) := ⟨rfl, rfl, rfl, by decide +kernel, rfl, by decide +kernel, by decide +kernel⟩
def spIsInt : Sp := fun vs H Q _ => ∃ i : Int, vs = [.int i] ∧ Q (.bl true) H
theorem ok_is_whole {f : Addr} {fd : FuncData} (h : Has K mg "is_whole" s_is_whole ["value"] f fd) (B : Blt mg) : Ok P w K mg base "is_whole" ["value"] 1 spIsInt := by
  refine h.ok sc_is_whole (fun vs H Q E h => ?_) (fun cdv A outer s H vs Q E hr h => ?_)
  · obtain ⟨i, rfl, _⟩ := h
    rfl
  · obtain ⟨i, rfl, q⟩ := h
    refine ⟨_, (pss_one (ps_ret (pe_and (pe_callB (call_isinstK (K := K) rfl) rfl B.isinstance_ bt_isinstance (pa_cons (pv 0) (pa_cons (pe_tyN B.int_ bt_int) pa_nil))) (pe_one (pe_not (pe_callB (call_isinstK (K := K) rfl) rfl B.isinstance_ bt_isinstance (pa_cons (pv 0) (pa_cons (pe_tyN B.bool_ bt_bool) pa_nil)))))))), ?_⟩
    walk_at "rd"
    exact q

abbrev s_is_between : Stmt := top 13
theorem sc_is_between : FnScope ["value", "least", "most"] ["value", "least", "most"] (defScope s_is_between) := ⟨rfl, rfl, rfl, by decide +kernel, rfl, by decide +kernel, by decide +kernel⟩
def spIsWhole : Sp := fun vs H Q _ => ∃ i a b : Int, vs = [.int i, .int a, .int b] ∧ Q (.bl (decide (a ≤ i) && decide (i ≤ b))) H
theorem ok_is_between {f : Addr} {fd : FuncData} (h : Has K mg "is_between" s_is_between ["value", "least", "most"] f fd) (o_is_whole : Ok P w K mg base "is_whole" ["value"] 1 spIsInt) : Ok P w K mg base "is_between" ["value", "least", "most"] 2 spIsWhole := by
  refine h.ok sc_is_between (fun vs H Q E h => ?_) (fun cdv A outer s H vs Q E hr h => ?_)
  · obtain ⟨i, a, b, rfl, _⟩ := h
    rfl
  · obtain ⟨i, a, b, rfl, q⟩ := h
    refine ⟨_, (pss_one (ps_ret (pe_and (pe_callO o_is_whole (hr.mono (by decide)) rfl passX (pa_cons (pv 0) pa_nil)) (pe_one (pe_chain op_le op_le (pv 1) (pv 0) (pv 2)))))), ?_⟩
    walk_at "rd"
    refine ⟨i, rfl, ?_⟩
    walk_at "rd"
    by_cases h1 : a ≤ i
    · simpa [h1] using q
    · simpa [h1] using q

abbrev s_is_throw : Stmt := top 14
theorem sc_is_throw : FnScope ["value"] ["value"] (defScope s_is_throw) := ⟨rfl, rfl, rfl, by decide +kernel, rfl, by decide +kernel, by decide +kernel⟩
def spIsThrow : Sp := fun vs H Q _ => ∃ i : Int, vs = [.int i] ∧ Q (.bl (decide (-1000000 ≤ i) && decide (i ≤ 1000000))) H
theorem ok_is_throw {f : Addr} {fd : FuncData} (h : Has K mg "is_throw" s_is_throw ["value"] f fd) (g_FARTHEST_THROW : GInt mg "FARTHEST_THROW" 1000000) (o_is_between : Ok P w K mg base "is_between" ["value", "least", "most"] 2 spIsWhole) : Ok P w K mg base "is_throw" ["value"] 3 spIsThrow := by
  refine h.ok sc_is_throw (fun vs H Q E h => ?_) (fun cdv A outer s H vs Q E hr h => ?_)
  · obtain ⟨i, rfl, _⟩ := h
    rfl
  · obtain ⟨i, rfl, q⟩ := h
    refine ⟨_, (pss_one (ps_ret (pe_callO o_is_between (hr.mono (by decide)) rfl passX (pa_cons (pv 0) (pa_cons (pe_un un_neg (pe_gi g_FARTHEST_THROW)) (pa_cons (pe_gi g_FARTHEST_THROW) pa_nil)))))), ?_⟩
    walk_at "rd"
    exact ⟨_, _, _, rfl, q⟩

abbrev s_check_row : Stmt := top 15
theorem sc_check_row : FnScope ["row"] ["row"] (defScope s_check_row) := ⟨rfl, rfl, rfl, by decide +kernel, rfl, by decide +kernel, by decide +kernel⟩
end
end Tb

namespace Tb
open PySem L2 TB
local macro_rules | `(tactic| walk_at "rd") => `(tactic| try simp only [rExtendT, rCount, iRevT, tSeq, tNext, tIfS, tRet, tRetN, tDrop, tAsg, gName, gNil, gCons, gSub, gTup, tVar, tC, tOp, tUn, rI, rI0, rU, rEq, rNe, tTest, tB, tChain, tChain3, rSortedB, rSortedP, rSortedD, rListD, rDictP, iDict, tThaw, rDClear, tDisp, tPairs, kit_dict_dict, rIndex, rIsX, rIsXT, rIsXd, rIsXV, rIsXTd, rIsO, rIxS2, rSlS, rFind, rIndexT, rLenT, rStrT, rIntT, rAddT, rMulT, rInT, iTxt, tx_str, tTxts, kit_str_str, rIn, tListRev, tAug, ipI, tAnd, tOr, tNot, tAndV, tOrV, tNotV, tIf, tIsN, tNotN, tCB, tNil, tCons, tTup, tLst, tTupG, tLstG, tCall, tRaise, tTryC, tXF, sXF, tRaiseI, tTryA, tTryE, thC, thA, thNil, Ends.less, tFor_eq, tComp_eq, iList, iTup, iRng1, iRng2, iEnum, iZip, tNoIf, rIxL, rIxT, rSetL, tBM, tBM0, rAppend, tFld, sFld, tMake, tMakeN, tMethD, tTryM, tNever, rExtend, rGeL, rInS, rClear, tDNewK, tDIn, tDNotIn, tDGet, sDPut, rEqL, rEqS, rBest, rRep, rCat, tSl, tPart, tNoPart, rSlL, capt, CDiv, scal_ii, scal_bb, scal_ss, scal_nn, scal_in, scal_ni, List.map_cons, List.map_nil, List.append_nil, List.nil_append, List.cons_append, List.length_cons, List.length_nil, List.length_map, Int.zero_add, List.getElem?_cons_zero, List.getElem?_cons_succ, List.set_cons_zero, List.set_cons_succ, Option.some.injEq, Option.join_some, Option.bind_some, Option.bind_none, V.int.injEq, V.bl.injEq, V.ref.injEq, V.str.injEq, V.ty.injEq, List.cons.injEq, and_true, true_and, exists_and_left, exists_eq_left', exists_eq_left, exists_eq_right, exists_eq_right', exists_eq, exists_eq', exists_const, eq_self, decide_true, decide_false, Option.isSome_none, Option.isSome_some, Bool.false_eq_true, Bool.not_true, Bool.not_false, reduceIte, reduceCtorEq, false_and, and_false, or_false, false_or, start_def, cxOf_K, cxComp_K, and_assoc, tyOf_int, kit_int_int, kit_int_bool, kit_list_list, rep0, rep1, rep2, rep3, rep4, rep5, rep6, rep7, rep8, rep9, rep10, rep11, rep12, rLen, rIsi, rListOf, rTupOf, rSum, rAll, rAny, rSorted, kit_tuple_tuple, Nat.sub_self, Nat.reduceAdd, Nat.reduceSub, Nat.reduceEqDiff])

section
variable {P : Program} {w : World} {K : PySem.W.Frag} {mg : Str → Option Value} {base : Heap}

abbrev s__law_cell_at : Stmt := top 26
theorem sc__law_cell_at : FnScope ["_law_script", "_law_k"] ["_law_script", "_law_k"] (defScope s__law_cell_at) := ⟨rfl, rfl, rfl, by decide +kernel, rfl, by decide +kernel, by decide +kernel⟩
def spCellAt (K : PySem.W.Frag) : Sp := fun vs H Q _ => ∃ (a : Addr) (ns : List Int) (i : Nat), vs = [.ref a, .int i] ∧ SqL K H a (ns.map V.int) ∧ ∀ v : Int, Q (.int v) H
theorem ok_cell_at {f : Addr} {fd : FuncData} (h : Has K mg "_law_cell_at" s__law_cell_at ["_law_script", "_law_k"] f fd) (B : Blt mg) : Ok P w K mg base "_law_cell_at" ["_law_script", "_law_k"] 2 (spCellAt K) := by
  refine h.ok sc__law_cell_at (fun vs H Q E h => ?_) (fun cdv A outer s H vs Q E hr h => ?_)
  · obtain ⟨a, ns, i, rfl, _⟩ := h
    rfl
  · obtain ⟨a, ns, i, rfl, ha, q⟩ := h
    refine ⟨_, (pss_cons (ps_if (pt_cmpR op_lt (pv 1) (pe_callB (call_len_seqK (K := K) rfl) rfl B.len_ bt_len (pa_cons (pv 0) pa_nil)) (nomark _)) (pss_one (ps_ret (pe_ix (ix_listK (K := K) rfl) (pv 0) (pv 1) (fun _ _ => rfl)))) pss_nil)
      (pss_one (ps_ret pe_int))), ?_⟩
    walk_at "rd"
    refine ⟨_, .inl ha, ?_⟩
    walk_at "rd"
    refine ite2 (fun hi => ⟨_, ha, _, atI_nat (j := i) (v := .int (ns.getD i 0)) ?_, q _⟩) (fun _ => q 0)
    have hi' : i < ns.length := by simpa using hi
    rw [List.getElem?_map, getD_some hi']
    rfl

abbrev s__law_mixed : Stmt := top 27
theorem sc__law_mixed : FnScope ["_law_cell", "_law_k", "_law_found"] ["_law_cell", "_law_k"] (defScope s__law_mixed) := ⟨rfl, rfl, rfl, by decide +kernel, rfl, by decide +kernel, by decide +kernel⟩
def spMixed : Sp := fun vs H Q _ => ∃ c k : Int, vs = [.int c, .int k] ∧ ∀ v : Int, 0 ≤ v → v < 2147483629 → Q (.int v) H
theorem ok_mixed {f : Addr} {fd : FuncData} (h : Has K mg "_law_mixed" s__law_mixed ["_law_cell", "_law_k"] f fd) : Ok P w K mg base "_law_mixed" ["_law_cell", "_law_k"] 2 spMixed := by
  refine h.ok sc__law_mixed (fun vs H Q E h => ?_) (fun cdv A outer s H vs Q E hr h => ?_)
  · obtain ⟨c, k, rfl, _⟩ := h
    rfl
  · obtain ⟨c, k, rfl, q⟩ := h
    refine ⟨_, (pss_cons (ps_set (i := 2) sc__law_mixed.nd rfl (by first | exact Or.inl rfl | exact Or.inr rfl) (pe_op op_mod (pe_op op_mul (pe_op op_add (pe_op op_add (pv 0) (pe_op op_mul pe_int (pv 1))) pe_int) pe_int) pe_int))
      (pss_one (ps_ret (pe_op op_mod (pe_op op_mul (pv 2) (pv 2)) pe_int)))), ?_⟩
    walk_at "rd"
    refine ⟨.inl ⟨by decide, by decide⟩, .inr ⟨by decide, by decide⟩, by decide, ?_⟩
    have h1 := Int.emod_nonneg ((c + 977 * k + 31) * 48271) (show (2147483647 : Int) ≠ 0 by decide)
    have h2 := Int.emod_lt_of_pos ((c + 977 * k + 31) * 48271) (show (0 : Int) < 2147483647 by decide)
    refine ⟨.inl ⟨by omega, by omega⟩, by decide, q _ (Int.emod_nonneg _ (by decide)) (Int.emod_lt_of_pos _ (by decide))⟩

theorem at_ints {ns : List Int} {i : Nat} (h : i < ns.length) : atI (ns.map V.int) (i : Int) = some (.int (ns.getD i 0)) := by
  refine atI_nat ?_
  rw [List.getElem?_map, getD_some h]
  rfl
end
end Tb

namespace Tb
open PySem L2 TB TM
local macro_rules | `(tactic| walk_at "rd") => `(tactic| try simp only [rExtendT, rCount, iRevT, tSeq, tNext, tIfS, tRet, tRetN, tDrop, tAsg, gName, gNil, gCons, gSub, gTup, tVar, tC, tOp, tUn, rI, rI0, rU, rEq, rNe, tTest, tB, tChain, tChain3, rSortedB, rSortedP, rSortedD, rListD, rDictP, iDict, tThaw, rDClear, tDisp, tPairs, kit_dict_dict, rIndex, rIsX, rIsXT, rIsXd, rIsXV, rIsXTd, rIsO, rIxS2, rSlS, rFind, rIndexT, rLenT, rStrT, rIntT, rAddT, rMulT, rInT, iTxt, tx_str, tTxts, kit_str_str, rIn, tListRev, tAug, ipI, tAnd, tOr, tNot, tAndV, tOrV, tNotV, tIf, tIsN, tNotN, tCB, tNil, tCons, tTup, tLst, tTupG, tLstG, tCall, tRaise, tTryC, tXF, sXF, tRaiseI, tTryA, tTryE, thC, thA, thNil, Ends.less, tFor_eq, tComp_eq, iList, iTup, iRng1, iRng2, iEnum, iZip, tNoIf, rIxL, rIxT, rSetL, tBM, tBM0, rAppend, tFld, sFld, tMake, tMakeN, tMethD, tTryM, tNever, rExtend, rGeL, rInS, rClear, tDNewK, tDIn, tDNotIn, tDGet, sDPut, rEqL, rEqS, rBest, rRep, rCat, tSl, tPart, tNoPart, rSlL, capt, CDiv, scal_ii, scal_bb, scal_ss, scal_nn, scal_in, scal_ni, List.map_cons, List.map_nil, List.append_nil, List.nil_append, List.cons_append, List.length_cons, List.length_nil, List.length_map, Int.zero_add, List.getElem?_cons_zero, List.getElem?_cons_succ, List.set_cons_zero, List.set_cons_succ, Option.some.injEq, Option.join_some, Option.bind_some, Option.bind_none, V.int.injEq, V.bl.injEq, V.ref.injEq, V.str.injEq, V.ty.injEq, List.cons.injEq, and_true, true_and, exists_and_left, exists_eq_left', exists_eq_left, exists_eq_right, exists_eq_right', exists_eq, exists_eq', exists_const, eq_self, decide_true, decide_false, Option.isSome_none, Option.isSome_some, Bool.false_eq_true, Bool.not_true, Bool.not_false, reduceIte, reduceCtorEq, false_and, and_false, or_false, false_or, start_def, cxOf_K, cxComp_K, and_assoc, tyOf_int, kit_int_int, kit_int_bool, kit_list_list, rep0, rep1, rep2, rep3, rep4, rep5, rep6, rep7, rep8, rep9, rep10, rep11, rep12, rLen, rIsi, rListOf, rTupOf, rSum, rAll, rAny, rSorted, kit_tuple_tuple, Nat.sub_self, Nat.reduceAdd, Nat.reduceSub, Nat.reduceEqDiff])

section
variable {P : Program} {w : World} {K : PySem.W.Frag} {mg : Str → Option Value} {base : Heap}
theorem line_big : 100000 ≤ sizeLine := by decide
theorem log_small {v : Int} (h : Bnd v) : v.natAbs.log2 < 1920 := by
  by_cases h0 : v.natAbs = 0
  · rw [h0]; decide
  · have h1 : v.natAbs.log2 < 20 := (Nat.log2_lt h0).mpr (by unfold Bnd at h; omega)
    omega

abbrev s__law_row_by : Stmt := top 31
theorem sc__law_row_by : FnScope ["_law_script", "_law_row", "_law_k", "_law_far"] ["_law_script"] (defScope s__law_row_by) := ⟨rfl, rfl, rfl, by decide +kernel, rfl, by decide +kernel, by decide +kernel⟩
def spRowBy (K : PySem.W.Frag) : Sp := fun vs H Q _ => ∃ (a : Addr) (ns : List Int), vs = [.ref a] ∧ SqL K H a (ns.map V.int) ∧ ∀ H' D (ms : List Int), Same H H' → H D = none → 1 ≤ ms.length → ms.length ≤ 60 → (∀ v ∈ ms, Bnd v) → H' D = some (.lst (ms.map V.int)) → Q (.ref D) H'
theorem ok_row_by {f : Addr} {fd : FuncData} (h : Has K mg "_law_row_by" s__law_row_by ["_law_script"] f fd) (B : Blt mg) (o__law_cell_at : Ok P w K mg base "_law_cell_at" ["_law_script", "_law_k"] 2 (spCellAt K)) (o__law_mixed : Ok P w K mg base "_law_mixed" ["_law_cell", "_law_k"] 2 spMixed) : Ok P w K mg base "_law_row_by" ["_law_script"] 3 (spRowBy K) := by
  refine h.ok sc__law_row_by (fun vs H Q E h => ?_) (fun cdv A outer s H vs Q E hr h => ?_)
  · obtain ⟨a, ns, rfl, _⟩ := h
    rfl
  · obtain ⟨a, ns, rfl, ha, q⟩ := h
    refine ⟨_, (pss_cons (ps_set (i := 1) sc__law_row_by.nd rfl (by first | exact Or.inl rfl | exact Or.inr rfl) (pe_lst pa_nil))
      (pss_cons (ps_for ownX rfl (pi_range1 rfl B.range_ (pa_cons (pe_op op_add pe_int (pe_op op_mod (pe_callO o__law_cell_at (hr.mono (by decide)) rfl passX (pa_cons (pv 0) (pa_cons pe_int pa_nil))) pe_int)) pa_nil)) (pg_name (i := 2) sc__law_row_by.nd rfl (by first | exact Or.inl rfl | exact Or.inr rfl)) (pss_cons (ps_set (i := 3) sc__law_row_by.nd rfl (by first | exact Or.inl rfl | exact Or.inr rfl) (pe_callO o__law_mixed (hr.mono (by decide)) rfl passX (pa_cons (pe_callO o__law_cell_at (hr.mono (by decide)) rfl passX (pa_cons (pv 0) (pa_cons pe_int pa_nil))) (pa_cons (pv 2) pa_nil))))
      (pss_one (ps_if (pt_cmpR op_eq (pe_op op_mod (pv 3) pe_int) pe_int (nomark _)) (pss_one (ps_expr (pe_bmK (K := K) rfl PySem.F.plainAttrs_list PySem.F.slot_list_append PySem.F.type_list_append mt_append (pv 1) (pa_cons (pe_op op_sub (pe_op op_mod (pe_op op_fdiv (pv 3) pe_int) pe_int) pe_int) pa_nil)))) (pss_one (ps_expr (pe_bmK (K := K) rfl PySem.F.plainAttrs_list PySem.F.slot_list_append PySem.F.type_list_append mt_append (pv 1) (pa_cons (pe_op op_sub (pe_op op_mod (pe_op op_fdiv (pv 3) pe_int) pe_int) pe_int) pa_nil))))))))
      (pss_one (ps_ret (pv 1))))), ?_⟩
    walk_at "rd"
    refine ⟨by decide, fun D hD => ?_⟩
    walk_at "rd"
    refine ⟨a, ns, 0, rfl, (same_upd hD).seq ha, fun v0 => ?_⟩
    walk_at "rd"
    have b0 := Int.emod_nonneg v0 (show (60 : Int) ≠ 0 by decide)
    have b1 := Int.emod_lt_of_pos v0 (show (0 : Int) < 60 by decide)
    obtain ⟨n, en, n1, n2⟩ : ∃ n : Nat, (1 + v0 % 60).toNat = n ∧ 1 ≤ n ∧ n ≤ 60 := ⟨_, rfl, by omega, by omega⟩
    rw [en]
    refine ⟨by decide, by omega, by omega, ?_⟩
    refine for_range (fun i σ H2 => i ≤ n ∧ (∃ o1 o2, σ = [some (V.ref a), some (V.ref D), o1, o2]) ∧ ∃ T : List Int, T.length = i ∧ (∀ v ∈ T, Bnd v) ∧ H2 = upd H D (.lst (T.map V.int))) ⟨Nat.zero_le _, ⟨_, _, rfl⟩, [], rfl, by simp, rfl⟩ (fun i σ H2 hlt pv => ?_) (fun σ H2 pv => ?_)
    · obtain ⟨_, ⟨o1, o2, rfl⟩, T, hl, hb, rfl⟩ := pv
      walk_at "rd"
      refine ⟨a, ns, 1, rfl, (same_upd hD).seq ha, fun v1 => ⟨v1, i, rfl, fun v h0 h1 => ?_⟩⟩
      walk_at "rd"
      have small : (T.map V.int).length < sizeLine := small1000 (by rw [List.length_map, hl]; omega)
      have fin : ∀ x : Int, Bnd x → ∃ U : List Int, U.length = i + 1 ∧ (∀ v ∈ U, Bnd v) ∧ upd (upd H D (.lst (T.map V.int))) D (.lst (T.map V.int ++ [V.int x])) = upd H D (.lst (U.map V.int)) := fun x b =>
        ⟨T ++ [x], by simp [hl], fun v hv => by rcases List.mem_append.mp hv with z | z; exact hb v z; rw [List.mem_singleton.mp z]; exact b, by rw [upd_upd, List.map_append]; rfl⟩
      have m1 := Int.emod_nonneg (v / 4) (show (2000001 : Int) ≠ 0 by decide)
      have m2 := Int.emod_lt_of_pos (v / 4) (show (0 : Int) < 2000001 by decide)
      have m3 := Int.emod_nonneg (v / 4) (show (50 : Int) ≠ 0 by decide)
      have m4 := Int.emod_lt_of_pos (v / 4) (show (0 : Int) < 50 by decide)
      refine ⟨by decide, ite2 (fun _ => ⟨.inl ⟨rfl, _, .of upd_same⟩, by decide, by decide, by decide, _, upd_same, small, hlt, fin _ ⟨by omega, by omega⟩⟩) (fun _ => ⟨.inl ⟨rfl, _, .of upd_same⟩, by decide, by decide, by decide, _, upd_same, small, hlt, fin _ ⟨by omega, by omega⟩⟩)⟩
    · obtain ⟨_, ⟨o1, o2, rfl⟩, T, hl, hb, rfl⟩ := pv
      walk_at "rd"
      exact q _ D T (same_upd hD) hD (by omega) (by omega) hb upd_same

abbrev s__law_text_of : Stmt := top 32
theorem sc__law_text_of : FnScope ["_law_row", "_law_text", "_law_one"] ["_law_row"] (defScope s__law_text_of) := ⟨rfl, rfl, rfl, by decide +kernel, rfl, by decide +kernel, by decide +kernel⟩
def spTextOf (K : PySem.W.Frag) : Sp := fun vs H Q _ => ∃ (a : Addr) (ns : List Int), vs = [.ref a] ∧ SqL K H a (ns.map V.int) ∧ ns.length ≤ 60 ∧ (∀ v ∈ ns, Bnd v) ∧ Q (.str (tx (wrL ns))) H
theorem ok_text_of {f : Addr} {fd : FuncData} (h : Has K mg "_law_text_of" s__law_text_of ["_law_row"] f fd) (B : Blt mg) (b_str : mg "str" = none) : Ok P w K mg base "_law_text_of" ["_law_row"] 2 (spTextOf K) := by
  refine h.ok sc__law_text_of (fun vs H Q E h => ?_) (fun cdv A outer s H vs Q E hr h => ?_)
  · obtain ⟨a, ns, rfl, _⟩ := h
    rfl
  · obtain ⟨a, ns, rfl, ha, hl, hb, q⟩ := h
    refine ⟨_, (pss_cons (ps_set (i := 1) sc__law_text_of.nd rfl (by first | exact Or.inl rfl | exact Or.inr rfl) (pe_txt [] (by decide +kernel)))
      (pss_cons (ps_for ownX rfl (pi_listK (K := K) rfl (pv 0)) (pg_name (i := 2) sc__law_text_of.nd rfl (by first | exact Or.inl rfl | exact Or.inr rfl)) (pss_one (ps_if (pt_chain op_le op_le pe_int (pv 2) pe_int) (pss_one (ps_set (i := 1) sc__law_text_of.nd rfl (by first | exact Or.inl rfl | exact Or.inr rfl) (pe_op op_addR (pv 1) (pe_ix ix_txt (pe_txt [48, 49, 50, 51, 52, 53, 54, 55, 56, 57, 97, 98, 99, 100, 101, 102, 103, 104, 105, 106, 107, 108, 109, 110, 111, 112, 113, 114, 115, 116, 117, 118, 119, 120, 121, 122] (by decide +kernel)) (pv 2) (fun _ _ => rfl))))) (pss_one (ps_set (i := 1) sc__law_text_of.nd rfl (by first | exact Or.inl rfl | exact Or.inr rfl) (pe_op op_addR (pe_op op_addR (pe_op op_addR (pv 1) (pe_txt [40] (by decide +kernel))) (pe_callTy call_strR rfl b_str bt_str (pa_cons (pv 2) pa_nil))) (pe_txt [41] (by decide +kernel))))))))
      (pss_one (ps_ret (pv 1))))), ?_⟩
    walk_at "rd"
    have big := line_big
    refine ⟨⟨_, ha⟩, for_list (xs := ns.map V.int) (fun i σ H2 => (∃ o, σ = [some (V.ref a), some (V.str (tx (wrL (ns.take i)))), o]) ∧ H2 = H) ⟨⟨_, rfl⟩, rfl⟩ (fun i σ H2 _ pv => by rw [pv.2]; exact ha) (fun i x σ H2 hx pv => ?_) (fun σ H2 pv => ?_)⟩
    · obtain ⟨⟨o, rfl⟩, rfl⟩ := pv
      obtain ⟨hi, rfl⟩ := ints_at hx
      have hv := hb _ (TB.getD_mem hi)
      have et : ns.take (i + 1) = ns.take i ++ [ns.getD i 0] := by rw [List.take_succ, getD_some hi]; rfl
      have ew : wrL (ns.take (i + 1)) = wrL (ns.take i) ++ wr1 (ns.getD i 0) := by rw [et, wrL_app, wrL_cons, wrL_nil, List.append_nil]
      have lw : (wrL (ns.take i)).length ≤ 600 := by
        have := wrL_len (ns := ns.take i) fun v hv => hb v (List.mem_of_mem_take hv)
        rw [List.length_take] at this
        omega
      generalize ns.getD i 0 = v at *
      walk_at "rd"
      by_cases low : Low v
      · rw [wr1_low low] at ew
        obtain ⟨l1, l2⟩ := id low
        obtain ⟨k, rfl⟩ := Int.eq_ofNat_of_zero_le l1
        have hk : k < 36 := by omega
        rw [decide_eq_true l1]
        walk_at "rd"
        rw [decide_eq_true l2]
        walk_at "rd"
        refine ⟨show 36 ≤ sizeLine by decide, sgn k, atI_nat (sgs_at k hk), ?_⟩
        walk_at "rd"
        exact ⟨by omega, by rw [ew]; rfl⟩
      · rw [wr1_par low] at ew
        have ld := decI_len hv
        have fin : (wrL (ns.take i)).length + 1 ≤ sizeLine ∧ v.natAbs.log2 < 1920 ∧ (wrL (ns.take i) ++ [40]).length + (decI v).length ≤ sizeLine ∧ (wrL (ns.take i) ++ [40] ++ decI v).length + 1 ≤ sizeLine ∧ wrL (ns.take i) ++ [40] ++ decI v ++ [41] = wrL (ns.take (i + 1)) := by
          refine ⟨by omega, log_small hv, ?_, ?_, ?_⟩
          · rw [List.length_append]; simp only [List.length_cons, List.length_nil]; omega
          · rw [List.length_append, List.length_append]; simp only [List.length_cons, List.length_nil]; omega
          · rw [ew]; simp
        exact ite2 (fun l1 => ite2 (fun l2 => absurd ⟨of_decide_eq_true l1, of_decide_eq_true l2⟩ low) (fun _ => fin)) (fun _ => fin)
    · obtain ⟨⟨o, rfl⟩, rfl⟩ := pv
      walk_at "rd"
      rw [List.take_length]
      exact q

theorem digit_mem {c : Nat} : c ∈ [48, 49, 50, 51, 52, 53, 54, 55, 56, 57] ↔ 48 ≤ c ∧ c ≤ 57 := by
  simp only [List.mem_cons, List.not_mem_nil, or_false]
  omega
theorem num_tail {l F : List Nat} {Q : VK} {H : Hp} (hF : F = figs l) (asc : Ascii F) (hl : l.length ≤ 2000) (q : ∀ H', Same H H' → (∀ n, NumOk l n → Q (.int n) H') ∧ ((∀ n, ¬ NumOk l n) → Q .non H')) :
    if decide (F = []) = true then Q V.non H
    else F.length ≤ sizeLine ∧ if decide (7 < (F.length : Int)) = true then Q V.non H
      else Ascii F ∧ CompW (Its F) (gName 0) tNoIf (tOp (rInT true) (tVar 0) (tC (V.str (tx [48, 49, 50, 51, 52, 53, 54, 55, 56, 57]))))
        (fun x H1 => ∃ a, x = V.ref a ∧ ∃ x, SqL K H1 a (List.map V.bl x) ∧ if x.any id = true then Q V.non H1
          else l.length ≤ 640 ∧ ∃ x, ReadI l x ∧ x.natAbs.log2 < 1920 ∧ if (!decide (decI x = l)) = true then Q V.non H1
            else if decide (0 ≤ x) = true then
                if decide (x ≤ 35) = true then Q V.non H1
                else if decide (-1000000 ≤ x) = true then if (!decide (x ≤ 1000000)) = true then Q V.non H1 else Q (V.int x) H1
                  else Q V.non H1
              else if decide (-1000000 ≤ x) = true then if (!decide (x ≤ 1000000)) = true then Q V.non H1 else Q (V.int x) H1
                else Q V.non H1) [none] H := by
  have big := line_big
  have lF : F.length ≤ l.length := by
    rw [hF]; unfold figs
    split
    · simp
    · exact Nat.le_refl _
  have q0 := (q H fun _ _ e => e).2
  have need : ∀ n, NumOk l n → F ≠ [] ∧ F.length ≤ 7 ∧ PySem.NumText.AllDigits F := fun n z => by rw [hF]; exact figs_dec z.2.2 z.1
  by_cases e : F = []
  · rw [if_pos (decide_eq_true e)]
    exact q0 fun n z => (need n z).1 e
  rw [if_neg (by rw [decide_eq_false e]; decide)]
  refine ⟨by omega, ?_⟩
  by_cases e7 : 7 < F.length
  · rw [if_pos (decide_eq_true (by omega))]
    exact q0 fun n z => by have := (need n z).2.1; omega
  rw [if_neg (by rw [decide_eq_false (by omega)]; decide)]
  refine ⟨asc, comp_txt (by omega) (fun i ys σ H' => (∃ o, σ = [o]) ∧ H' = H ∧ i ≤ F.length ∧ ys = ((F.take i).map fun c => !decide (c ∈ [48, 49, 50, 51, 52, 53, 54, 55, 56, 57])).map V.bl) ⟨⟨_, rfl⟩, rfl, Nat.zero_le _, rfl⟩ (fun i ys σ H' p => ?_) (fun i ys σ H' c hc pv => ?_) (fun ys σ H' D pv hD => ?_)⟩
  · rw [p.2.2.2, List.length_map, List.length_map, List.length_take, Nat.min_eq_left p.2.2.1]
  · obtain ⟨⟨o, rfl⟩, rfl, _, rfl⟩ := pv
    have hi := (List.getElem?_eq_some_iff.mp hc).1
    walk_at "rd"
    refine ⟨hi, ?_⟩
    rw [List.take_succ, hc, List.map_append, List.map_append]
    rfl
  obtain ⟨_, rfl, _, rfl⟩ := pv
  rw [List.take_length]
  have sm : Same H' (upd H' D (.lst ((F.map fun c => !decide (c ∈ [48, 49, 50, 51, 52, 53, 54, 55, 56, 57])).map V.bl))) := same_upd hD
  have ed : (upd H' D (.lst ((F.map fun c => !decide (c ∈ [48, 49, 50, 51, 52, 53, 54, 55, 56, 57])).map V.bl))) D = _ := upd_same
  generalize upd H' D (.lst ((F.map fun c => !decide (c ∈ [48, 49, 50, 51, 52, 53, 54, 55, 56, 57])).map V.bl)) = H1 at sm ed
  obtain ⟨qs, qn⟩ := q H1 sm
  refine ⟨D, rfl, _, .of ed, ?_⟩
  by_cases dg : PySem.NumText.AllDigits F
  · rw [if_neg (by
      rw [List.any_eq_true]
      rintro ⟨b, hb, e⟩
      obtain ⟨c, hc, rfl⟩ := List.mem_map.mp hb
      have := digit_mem.mpr (dg c hc)
      simp only [id, Bool.not_eq_true', decide_eq_false_iff_not] at e
      exact e this)]
    obtain ⟨v, hr, hv, hu⟩ := read_of (l := l) (by rw [← hF]; exact e) (by rw [← hF]; exact dg)
    have vl := val_lt dg
    rw [← hF] at hv
    have p7 : 10 ^ F.length ≤ 10 ^ 7 := Nat.pow_le_pow_right (by decide) (by omega)
    have hv7 : v.natAbs < 10 ^ 7 := by omega
    have ll := figs_len l
    rw [← hF] at ll
    refine ⟨by omega, v, hr, ?_, ?_⟩
    · by_cases h0 : v.natAbs = 0
      · rw [h0]; decide
      · have h1 : v.natAbs.log2 < 24 := (Nat.log2_lt h0).mpr (by omega)
        omega
    by_cases es : decI v = l
    · rw [if_neg (by rw [decide_eq_true es]; decide)]
      have no : ¬ (Bnd v ∧ ¬ Low v) → Q V.non H1 := fun z => qn fun n ⟨z1, z2, z3⟩ => z (by rw [← hu n z3]; exact ⟨z1, z2⟩)
      have yes : Bnd v → ¬ Low v → Q (V.int v) H1 := fun z1 z2 => qs v ⟨z1, z2, es.symm⟩
      have fin : ¬ Low v → if decide (-1000000 ≤ v) = true then if (!decide (v ≤ 1000000)) = true then Q V.non H1 else Q (V.int v) H1 else Q V.non H1 := fun nl => by
        refine ite2 (fun z1 => ite2 (fun z2 => no fun z => ?_) (fun z2 => yes ⟨of_decide_eq_true z1, ?_⟩ nl)) (fun z1 => no fun z => ?_)
        · simp only [Bool.not_eq_true', decide_eq_false_iff_not] at z2
          exact z2 z.1.2
        · simpa using z2
        · exact z1 (decide_eq_true z.1.1)
      exact ite2 (fun z1 => ite2 (fun z2 => no fun z => z.2 ⟨of_decide_eq_true z1, of_decide_eq_true z2⟩) (fun z2 => fin fun z => z2 (decide_eq_true z.2))) (fun z1 => fin fun z => z1 (decide_eq_true z.1))
    · rw [if_pos (by rw [decide_eq_false es]; rfl)]
      exact qn fun n z => es (by rw [← hu n z.2.2]; exact z.2.2.symm)
  · rw [if_pos]
    · exact qn fun n z => dg (need n z).2.2
    · rw [List.any_eq_true]
      refine Classical.byContradiction fun no => dg fun c hc => ?_
      refine digit_mem.mp (Classical.byContradiction fun nm => no ⟨true, List.mem_map.mpr ⟨c, hc, ?_⟩, rfl⟩)
      rw [decide_eq_false nm]; rfl

abbrev s__law_number_of : Stmt := top 35
theorem sc__law_number_of : FnScope ["_law_text", "_law_figures", "_law_number"] ["_law_text"] (defScope s__law_number_of) := ⟨rfl, rfl, rfl, by decide +kernel, rfl, by decide +kernel, by decide +kernel⟩
def spNumberOf : Sp := fun vs H Q _ => ∃ l : List Nat, vs = [.str (tx l)] ∧ Ascii l ∧ l.length ≤ 2000 ∧ ∀ H', Same H H' → (∀ n, NumOk l n → Q (.int n) H') ∧ ((∀ n, ¬ NumOk l n) → Q .non H')
theorem ok_number_of {f : Addr} {fd : FuncData} (h : Has K mg "_law_number_of" s__law_number_of ["_law_text"] f fd) (B : Blt mg) (b_str : mg "str" = none) : Ok P w K mg base "_law_number_of" ["_law_text"] 2 spNumberOf := by
  refine h.ok sc__law_number_of (fun vs H Q E h => ?_) (fun cdv A outer s H vs Q E hr h => ?_)
  · obtain ⟨l, rfl, _⟩ := h
    rfl
  · obtain ⟨l, rfl, asc, hl, q⟩ := h
    have big := line_big
    refine ⟨_, (pss_cons (ps_set (i := 1) sc__law_number_of.nd rfl (by first | exact Or.inl rfl | exact Or.inr rfl) (pv 0))
      (pss_cons (ps_if (pt_cmpR op_eq (pe_slice sl_txt (pv 0) po_none (po_some pe_int)) (pe_txt [45] (by decide +kernel)) (nomark _)) (pss_one (ps_set (i := 1) sc__law_number_of.nd rfl (by first | exact Or.inl rfl | exact Or.inr rfl) (pe_slice sl_txt (pv 0) (po_some pe_int) po_none))) pss_nil)
      (pss_cons (ps_if (PW.pt (pw_or (pt_cmpR op_eq (pv 1) (pe_txt [] (by decide +kernel)) (nomark _)) (pw_or (pt_cmpR op_gt (pe_callB call_lenT rfl B.len_ bt_len (pa_cons (pv 1) pa_nil)) pe_int (nomark _)) (pw_or1 (pt_val (pe_callB (call_anyLK (K := K) rfl rfl) rfl B.any_ bt_any (pa_cons (pe_comp (N' := ["_law_sign"]) (π := [none]) (CompScope.of (by kernel_rfl)) rfl (pi_txt (pv 1)) (fun _ _ _ _ _ => (pg_name (i := 0) (show List.Nodup (["_law_sign"] : List Str) by decide +kernel) rfl (by first | exact Or.inl rfl | exact Or.inr rfl))) (fun _ _ _ _ _ => pifs_nil) (fun _ _ _ _ _ => (pe_cmpR op_notinR (pv 0) (pe_txt [48, 49, 50, 51, 52, 53, 54, 55, 56, 57] (by decide +kernel)) (by with_unfolding_all rfl)))) pa_nil))))))) (pss_one (ps_ret pe_non)) pss_nil)
      (pss_cons (ps_set (i := 2) sc__law_number_of.nd rfl (by first | exact Or.inl rfl | exact Or.inr rfl) (pe_callTy call_intR rfl B.int_ bt_int (pa_cons (pv 0) pa_nil)))
      (pss_cons (ps_if (PW.pt (pw_or (pt_cmpR op_ne (pe_callTy call_strR rfl b_str bt_str (pa_cons (pv 2) pa_nil)) (pv 0) (nomark _)) (pw_or (pt_chain op_le op_le pe_int (pv 2) pe_int) (pw_or1 (pt_not (pt_chain op_le op_le (pe_un un_neg pe_int) (pv 2) pe_int)))))) (pss_one (ps_ret pe_non)) pss_nil)
      (pss_one (ps_ret (pv 2)))))))), ?_⟩
    walk_at "rd"
    refine ⟨by omega, ?_⟩
    rw [show cutN l none (some 1) = l.take 1 from cutN_to l 1, show cutN l (some 1) none = l.drop 1 from cutN_from l 1]
    by_cases c : l.take 1 = [45]
    · rw [if_pos (decide_eq_true c)]
      exact ⟨by omega, num_tail (by unfold figs; rw [if_pos c]) (fun z hz => asc z (List.mem_of_mem_drop hz)) hl q⟩
    · rw [if_neg (by rw [decide_eq_false c]; decide)]
      exact num_tail (by unfold figs; rw [if_neg c]) asc hl q

abbrev s__law_row_of : Stmt := top 36
theorem sc__law_row_of : FnScope ["_law_text", "_law_signs", "_law_row", "_law_left", "_law_end"] ["_law_text"] (defScope s__law_row_of) := ⟨rfl, rfl, rfl, by decide +kernel, rfl, by decide +kernel, by decide +kernel⟩
def spRowOf : Sp := fun vs H Q _ => ∃ l : List Nat, vs = [.str (tx l)] ∧ Ascii l ∧ l.length ≤ 2000 ∧ (∀ H' D ns, Same H H' → H D = none → Wr l ns → H' D = some (.lst (ns.map V.int)) → Q (.ref D) H') ∧ ∀ H', Same H H' → (∀ ns, ¬ Wr l ns) → Q .non H'
theorem ok_row_of {f : Addr} {fd : FuncData} (h : Has K mg "_law_row_of" s__law_row_of ["_law_text"] f fd) (B : Blt mg) (o__law_number_of : Ok P w K mg base "_law_number_of" ["_law_text"] 2 spNumberOf) : Ok P w K mg base "_law_row_of" ["_law_text"] 3 spRowOf := by
  refine h.ok sc__law_row_of (fun vs H Q E h => ?_) (fun cdv A outer s H vs Q E hr h => ?_)
  · obtain ⟨l, rfl, _⟩ := h
    rfl
  · obtain ⟨l, rfl, asc, hl, q1, q2⟩ := h
    have big := line_big
    refine ⟨_, (pss_cons (ps_set (i := 1) sc__law_row_of.nd rfl (by first | exact Or.inl rfl | exact Or.inr rfl) (pe_txt [48, 49, 50, 51, 52, 53, 54, 55, 56, 57, 97, 98, 99, 100, 101, 102, 103, 104, 105, 106, 107, 108, 109, 110, 111, 112, 113, 114, 115, 116, 117, 118, 119, 120, 121, 122] (by decide +kernel)))
      (pss_cons (ps_set (i := 2) sc__law_row_of.nd rfl (by first | exact Or.inl rfl | exact Or.inr rfl) (pe_lst pa_nil))
      (pss_cons (ps_set (i := 3) sc__law_row_of.nd rfl (by first | exact Or.inl rfl | exact Or.inr rfl) (pv 0))
      (pss_cons (ps_while ownX (pt_cmpR op_ne (pv 3) (pe_txt [] (by decide +kernel)) (nomark _)) (pss_one (ps_if (pt_cmpR op_inR (pe_ix ix_txt (pv 3) pe_int (fun _ _ => rfl)) (pv 1) (by with_unfolding_all rfl)) (pss_cons (ps_expr (pe_bmK (K := K) rfl PySem.F.plainAttrs_list PySem.F.slot_list_append PySem.F.type_list_append mt_append (pv 2) (pa_cons (pe_bmK (K := K) rfl PySem.F.plainAttrs_str PySem.F.slot_str_index PySem.F.type_str_index (mt_indexT rfl) (pv 1) (pa_cons (pe_ix ix_txt (pv 3) pe_int (fun _ _ => rfl)) pa_nil)) pa_nil)))
      (pss_one (ps_set (i := 3) sc__law_row_of.nd rfl (by first | exact Or.inl rfl | exact Or.inr rfl) (pe_slice sl_txt (pv 3) (po_some pe_int) po_none)))) (pss_cons (ps_set (i := 4) sc__law_row_of.nd rfl (by first | exact Or.inl rfl | exact Or.inr rfl) (pe_bmK (K := K) rfl PySem.F.plainAttrs_str PySem.F.slot_str_find PySem.F.type_str_find mt_find (pv 3) (pa_cons (pe_txt [41] (by decide +kernel)) pa_nil)))
      (pss_cons (ps_if (PW.pt (pw_or (pt_cmpR op_ne (pe_ix ix_txt (pv 3) pe_int (fun _ _ => rfl)) (pe_txt [40] (by decide +kernel)) (nomark _)) (pw_or (pt_cmpR op_lt (pv 4) pe_int (nomark _)) (pw_or1 (pt_cmp (pc_isN (pe_callO o__law_number_of (hr.mono (by decide)) rfl passX (pa_cons (pe_slice sl_txt (pv 3) (po_some pe_int) (po_some (pv 4))) pa_nil)))))))) (pss_one (ps_ret pe_non)) pss_nil)
      (pss_cons (ps_expr (pe_bmK (K := K) rfl PySem.F.plainAttrs_list PySem.F.slot_list_append PySem.F.type_list_append mt_append (pv 2) (pa_cons (pe_callO o__law_number_of (hr.mono (by decide)) rfl passX (pa_cons (pe_slice sl_txt (pv 3) (po_some pe_int) (po_some (pv 4))) pa_nil)) pa_nil)))
      (pss_one (ps_set (i := 3) sc__law_row_of.nd rfl (by first | exact Or.inl rfl | exact Or.inr rfl) (pe_slice sl_txt (pv 3) (po_some (pe_op op_add (pv 4) pe_int)) po_none)))))))))
      (pss_cons (ps_if (pt_not (pt_chain op_le op_le pe_int (pe_callB (call_len_seqK (K := K) rfl) rfl B.len_ bt_len (pa_cons (pv 2) pa_nil)) pe_int)) (pss_one (ps_ret pe_non)) pss_nil)
      (pss_one (ps_ret (pv 2)))))))), ?_⟩
    walk_at "rd"
    refine ⟨by decide, fun D hD => ?_⟩
    walk_at "rd"
    unfold tWhile
    refine ⟨fun m σ H2 => ∃ (ns : List Int) (r : List Nat) (o : Option V), m = r.length ∧ σ = [some (V.str (tx l)), some (V.str (tx sgs)), some (V.ref D), some (V.str (tx r)), o] ∧ l = wrL ns ++ r ∧ (∀ v ∈ ns, Bnd v) ∧ Same H H2 ∧ H2 D = some (.lst (ns.map V.int)), ⟨_, [], l, _, rfl, rfl, rfl, by simp, same_upd hD, upd_same⟩, ?_⟩
    rintro m σ H2 ⟨ns, r, o, rfl, rfl, el, hb, s2, hD2⟩
    have lr : r.length + ns.length ≤ l.length := by
      have := len_wrL ns
      rw [el, List.length_append]; omega
    walk_at "rd"
    cases r with
    | nil =>
      rw [decide_eq_true (rfl : ([] : List Nat) = [])]
      walk_at "rd"
      rw [List.append_nil] at el
      refine ⟨_, .inl (.of hD2), ?_⟩
      rw [List.length_map]
      have no : ¬ (1 ≤ ns.length ∧ ns.length ≤ 60) → Q V.non H2 := fun z => q2 H2 s2 fun ms w => z (by rw [wrL_inj (el.symm.trans w.2.2.2)]; exact ⟨w.1, w.2.1⟩)
      refine ite2 (fun z1 => ite2 (fun z2 => no fun z => ?_) (fun z2 => ?_)) (fun z1 => no fun z => z1 (decide_eq_true (by omega)))
      · simp only [Bool.not_eq_true', decide_eq_false_iff_not] at z2
        omega
      · have h1 := of_decide_eq_true z1
        have h2 : (ns.length : Int) ≤ 60 := by simpa using z2
        exact q1 H2 D ns s2 hD ⟨by omega, by omega, hb, el⟩ hD2
    | cons c r =>
      rw [decide_eq_false (show ¬ (c :: r = []) by simp)]
      walk_at "rd"
      have at0 : atI (c :: r) 0 = some c := atI_nat (j := 0) rfl
      have ascR : Ascii (c :: r) := fun z hz => asc z (by rw [el]; exact List.mem_append_right _ hz)
      have lr' : r.length + 1 + ns.length ≤ 2000 := by simp only [List.length_cons] at lr; omega
      have small : (ns.map V.int).length < sizeLine := by rw [List.length_map]; omega
      refine ⟨_, fun σ' H' z => z, by omega, c, at0, ?_⟩
      by_cases hc : c ∈ sgs
      · obtain ⟨e1, ix⟩ := first_sign (t := r) hc
        rw [if_pos (decide_eq_true hc)]
        refine ⟨.inl ⟨rfl, _, .of hD2⟩, rfl, by omega, c, at0, hc, _, hD2, small, by omega, r.length, by omega, ns ++ [(sgs.idxOf c : Int)], r, rfl, o, ?_, ?_, ?_, ?_, ?_⟩
        · rw [show cutN (c :: r) (some 1) none = (c :: r).drop 1 from cutN_from _ 1]; rfl
        · rw [el, wrL_app, wrL_cons, wrL_nil, List.append_nil, List.append_assoc, ← e1]
        · intro v hv
          rcases List.mem_append.mp hv with z | z
          · exact hb v z
          · rw [List.mem_singleton.mp z]; exact ⟨by omega, by omega⟩
        · exact fun b u e => by rw [upd_ne (ne_of_none e hD)]; exact s2 _ _ e
        · rw [upd_same, List.map_append]; rfl
      · rw [if_neg (by rw [decide_eq_false hc]; decide)]
        refine ⟨rfl, by omega, c, at0, ?_⟩
        have none_ : (∀ v s, Bnd v → c :: r ≠ wr1 v ++ s) → ∀ H', Same H H' → Q V.non H' := fun z H' s' => q2 H' s' fun ms w => no_rest el (by simp) z w.2.2.1 w.2.2.2
        by_cases h40 : c = 40
        · rw [if_neg (by rw [decide_eq_true h40]; decide)]
          by_cases h41 : 41 ∈ (c :: r)
          · have ef : findN (c :: r) 41 = ((c :: r).idxOf 41 : Nat) := by unfold findN; rw [if_pos h41]
            have il := List.idxOf_lt_length_of_mem h41
            have i1 : 1 ≤ (c :: r).idxOf 41 := by
              rw [List.idxOf_cons, show (c == 41) = false by simp [h40], cond_false]; omega
            rw [ef, if_neg (by rw [decide_eq_false (by omega)]; decide)]
            rw [show cutN (c :: r) (some 1) (some (((c :: r).idxOf 41 : Nat) : Int)) = ((c :: r).drop 1).take ((c :: r).idxOf 41 - 1) from cutN_mid _ (j := 1) (by simp) (by omega)]
            have e2 : cutN (c :: r) (some ((((c :: r).idxOf 41 : Nat) : Int) + 1)) none = (c :: r).drop ((c :: r).idxOf 41 + 1) := by
              rw [show ((((c :: r).idxOf 41 : Nat) : Int) + 1) = (((c :: r).idxOf 41 + 1 : Nat) : Int) by omega]; exact cutN_from _ _
            rw [e2]
            have ascM : Ascii (((c :: r).drop 1).take ((c :: r).idxOf 41 - 1)) := fun z hz => ascR z (List.mem_of_mem_drop (List.mem_of_mem_take hz))
            have lM : (((c :: r).drop 1).take ((c :: r).idxOf 41 - 1)).length ≤ 2000 := by rw [List.length_take, List.length_drop, List.length_cons]; omega
            refine ⟨by omega, _, rfl, ascM, lM, fun H3 s3 => ⟨fun n hn => ?_, fun hn => ?_⟩⟩
            · dsimp only
              rw [if_neg (by simp)]
              have hD3 := s3 _ _ hD2
              refine ⟨.inl ⟨rfl, _, .of hD3⟩, by omega, _, rfl, ascM, lM, fun H4 s4 => ⟨fun n' hn' => ?_, fun z => absurd hn (z n)⟩⟩
              have hD4 := s4 _ _ hD3
              have e3 := par_first (t := r) (by rw [← h40]; exact h41) (v := n') (by rw [← h40]; exact hn')
              rw [← h40] at e3
              refine ⟨_, hD4, small, by omega, ((c :: r).drop ((c :: r).idxOf 41 + 1)).length, ?_, ns ++ [n'], (c :: r).drop ((c :: r).idxOf 41 + 1), rfl, _, rfl, ?_, ?_, ?_, ?_⟩
              · rw [List.length_drop, List.length_cons]; omega
              · rw [wrL_app, wrL_cons, wrL_nil, List.append_nil, List.append_assoc, ← e3]; exact el
              · intro v hv
                rcases List.mem_append.mp hv with z | z
                · exact hb v z
                · rw [List.mem_singleton.mp z]; exact hn'.1
              · exact fun b u e => by rw [upd_ne (ne_of_none e hD)]; exact s4 _ _ (s3 _ _ (s2 _ _ e))
              · rw [upd_same, List.map_append]; rfl
            · dsimp only
              rw [if_pos (by simp)]
              exact none_ (fun v s b e => hn v (first_par hc b e).2.2.1) H3 fun b u e => s3 _ _ (s2 _ _ e)
          · have ef : findN (c :: r) 41 = -1 := by unfold findN; rw [if_neg h41]
            rw [ef, if_pos (by decide)]
            exact none_ (fun v s b e => h41 (first_par hc b e).2.1) H2 s2
        · rw [if_pos (by rw [decide_eq_false h40]; rfl)]
          exact none_ (fun v s b e => h40 (first_par hc b e).1) H2 s2
end
end Tb

namespace Tb
open PySem L2 TB TM
local macro_rules | `(tactic| walk_at "rd") => `(tactic| try simp only [tTryI, rFind3, rStarts, rJoin, tFstr, rExtendT, rCount, iRevT, tSeq, tNext, tIfS, tRet, tRetN, tDrop, tAsg, gName, gNil, gCons, gSub, gTup, tVar, tC, tOp, tUn, rI, rI0, rU, rEq, rNe, tTest, tB, tChain, tChain3, rSortedB, rSortedP, rSortedD, rListD, rDictP, iDict, tThaw, rDClear, tDisp, tPairs, kit_dict_dict, rIndex, rIsX, rIsXT, rIsXd, rIsXV, rIsXTd, rIsO, rIxS2, rSlS, rFind, rIndexT, rLenT, rStrT, rIntT, rAddT, rMulT, rInT, iTxt, tx_str, tTxts, kit_str_str, rIn, tListRev, tAug, ipI, tAnd, tOr, tNot, tAndV, tOrV, tNotV, tIf, tIsN, tNotN, tCB, tNil, tCons, tTup, tLst, tTupG, tLstG, tCall, tRaise, tTryC, tXF, sXF, tRaiseI, tTryA, tTryE, thC, thA, thNil, Ends.less, tFor_eq, tComp_eq, iList, iTup, iRng1, iRng2, iEnum, iZip, tNoIf, rIxL, rIxT, rSetL, tBM, tBM0, rAppend, tFld, sFld, tMake, tMakeN, tMethD, tTryM, tNever, rExtend, rGeL, rInS, rClear, tDNewK, tDIn, tDNotIn, tDGet, sDPut, rEqL, rEqS, rBest, rRep, rCat, tSl, tPart, tNoPart, rSlL, capt, CDiv, scal_ii, scal_bb, scal_ss, scal_nn, scal_in, scal_ni, List.map_cons, List.map_nil, List.append_nil, List.nil_append, List.cons_append, List.length_cons, List.length_nil, List.length_map, Int.zero_add, List.getElem?_cons_zero, List.getElem?_cons_succ, List.set_cons_zero, List.set_cons_succ, Option.some.injEq, Option.join_some, Option.bind_some, Option.bind_none, V.int.injEq, V.bl.injEq, V.ref.injEq, V.str.injEq, V.ty.injEq, List.cons.injEq, and_true, true_and, exists_and_left, exists_eq_left', exists_eq_left, exists_eq_right, exists_eq_right', exists_eq, exists_eq', exists_const, eq_self, decide_true, decide_false, Option.isSome_none, Option.isSome_some, Bool.false_eq_true, Bool.not_true, Bool.not_false, reduceIte, reduceCtorEq, false_and, and_false, or_false, false_or, start_def, cxOf_K, cxComp_K, and_assoc, tyOf_int, kit_int_int, kit_int_bool, kit_list_list, rep0, rep1, rep2, rep3, rep4, rep5, rep6, rep7, rep8, rep9, rep10, rep11, rep12, rLen, rIsi, rListOf, rTupOf, rSum, rAll, rAny, rSorted, kit_tuple_tuple, Nat.sub_self, Nat.reduceAdd, Nat.reduceSub, Nat.reduceEqDiff])

section
variable {P : Program} {w : World} {K : PySem.W.Frag} {mg : Str → Option Value} {base : Heap}
def RowI (ns : List Int) : Prop := 1 ≤ ns.length ∧ ns.length ≤ 60 ∧ ∀ v ∈ ns, Bnd v
def okI (v : Int) : Bool := decide (-1000000 ≤ v) && decide (v ≤ 1000000)
theorem okI_bnd {v : Int} : okI v = true ↔ Bnd v := inB_dec v
def spCheckC (NAR : Addr) : Sp := fun vs H Q E => ∃ (a : Addr) (ns : List Int), vs = [.ref a] ∧ H a = some (.lst (ns.map V.int)) ∧ ns.length ≤ 1000 ∧ ∀ H', Same H H' → (RowI ns → Q .non H') ∧ (¬ RowI ns → E (.ref NAR) none H')
theorem okc_check_row {f : Addr} {fd : FuncData} {NAR : Addr} (h : Has K mg "check_row" s_check_row ["row"] f fd) (B : Blt mg) (g_LONGEST_ROW : GInt mg "LONGEST_ROW" 60) (x_NotARow : ExcCls K NAR) (m_NotARow : mg "NotARow" = some (.ref NAR)) (o_is_throw : Ok P w K mg base "is_throw" ["value"] 3 spIsThrow) : OkC P w K mg base "check_row" ["row"] 4 (spCheckC NAR) := by
  refine h.okc sc_check_row (fun vs H Q E h => ?_) (fun cdv A outer s H vs Q E hr h => ?_)
  · obtain ⟨a, ns, rfl, _⟩ := h
    rfl
  · obtain ⟨a, ns, rfl, ha, hl, q⟩ := h
    refine ⟨_, (pss_cons (ps_if (pt_not (pt_val (pe_callB (call_isinstK (K := K) rfl) rfl B.isinstance_ bt_isinstance (pa_cons (pv 0) (pa_cons (pe_tyN B.list_ bt_list) pa_nil))))) (pss_one (ps_raiseC isDefC x_NotARow rfl landC rfl m_NotARow (pa_cons pe_str pa_nil))) pss_nil)
      (pss_cons (ps_if (pt_not (pt_chain op_le op_le pe_int (pe_callB (call_len_seqK (K := K) rfl) rfl B.len_ bt_len (pa_cons (pv 0) pa_nil)) (pe_gi g_LONGEST_ROW))) (pss_one (ps_raiseC isDefC x_NotARow rfl landC rfl m_NotARow (pa_cons pe_str pa_nil))) pss_nil)
      (pss_one (ps_if (pt_not (pt_val (pe_callB (call_allLK (K := K) rfl rfl) rfl B.all_ bt_all (pa_cons (pe_comp (N' := ["throw"]) (π := [none]) (CompScope.of (by kernel_rfl)) rfl (pi_listK (K := K) rfl (pv 0)) (fun _ _ _ _ _ => (pg_name (i := 0) (show List.Nodup (["throw"] : List Str) by decide +kernel) rfl (by first | exact Or.inl rfl | exact Or.inr rfl))) (fun _ _ _ _ _ => pifs_nil) (fun _ _ _ _ _ => (pe_callO o_is_throw (hr.mono (by decide)) rfl passE0 (pa_cons (pv 0) pa_nil)))) pa_nil)))) (pss_one (ps_raiseC isDefC x_NotARow rfl landC rfl m_NotARow (pa_cons pe_str pa_nil))) pss_nil)))), ?_⟩
    have lm : (ns.map V.int).length = ns.length := List.length_map _
    walk_at "rd"
    refine ⟨_, .lst ha, _, kit_list_list, ?_⟩
    walk_at "rd"
    refine ⟨_, .inl (.of ha), ?_⟩
    walk_at "rd"
    refine ite2 (fun l1 => ite2 (fun l2 => ⟨by decide, (q _ (Same.refl _)).2 fun z => ?_⟩) (fun l2 => ?_)) (fun l1 => ⟨by decide, (q _ (Same.refl _)).2 fun z => l1 (decide_eq_true (by have := z.1; omega))⟩)
    · simp only [Bool.not_eq_true', decide_eq_false_iff_not] at l2
      have := z.2.1
      omega
    · have n1 := of_decide_eq_true l1
      have n2 : (ns.length : Int) ≤ 60 := by simpa using l2
      refine ⟨⟨_, .of ha⟩, comp_list (xs := ns.map V.int) (by omega) (fun i ys σ H' => i ≤ ns.length ∧ (∃ o, σ = [o]) ∧ Same H H' ∧ ys = ((ns.take i).map okI).map V.bl) ⟨Nat.zero_le _, ⟨_, rfl⟩, Same.refl _, rfl⟩ (fun i ys σ H' p => ?_) (fun i ys σ H' _ p => .of (p.2.2.1 _ _ ha)) (fun i ys σ H' x hx p => ?_) (fun ys σ H' D p hD => ?_)⟩
      · obtain ⟨hi, _, _, rfl⟩ := p
        rw [List.length_map, List.length_map, List.length_take]; omega
      · obtain ⟨hi, ⟨o, rfl⟩, hs, rfl⟩ := p
        obtain ⟨hlt, rfl⟩ := ints_at hx
        walk_at "rd"
        refine ⟨_, rfl, hlt, hs, ?_⟩
        rw [List.take_succ, getD_some hlt, List.map_append, List.map_append]
        rfl
      · obtain ⟨_, _, hs, rfl⟩ := p
        rw [lm, List.take_length]
        obtain ⟨q1, q2⟩ := q _ (hs.trans (same_upd hD))
        refine ⟨D, rfl, _, .of upd_same, ite2 (fun z => ⟨by decide, q2 fun r => ?_⟩) (fun z => q1 ⟨by omega, by omega, fun x hx => ?_⟩)⟩
        · rw [show (ns.map okI).all id = true from ?_] at z
          · cases z
          · rw [List.all_eq_true]
            intro b hb
            obtain ⟨x, hx, rfl⟩ := List.mem_map.mp hb
            exact okI_bnd.mpr (r.2.2 x hx)
        · have z' : (ns.map okI).all id = true := by simpa using z
          exact okI_bnd.mp (List.all_eq_true.mp z' _ (List.mem_map_of_mem hx))

abbrev s_throw_written : Stmt := top 19
theorem sc_throw_written : FnScope ["throw"] ["throw"] (defScope s_throw_written) := ⟨rfl, rfl, rfl, by decide +kernel, rfl, by decide +kernel, by decide +kernel⟩
def spThrowW : Sp := fun vs H Q _ => ∃ v : Int, vs = [.int v] ∧ Bnd v ∧ Q (.str (tx (wr1 v))) H
theorem ok_throw_written {f : Addr} {fd : FuncData} (h : Has K mg "throw_written" s_throw_written ["throw"] f fd) (B : Blt mg) (t_SIGNS : GTxt mg "SIGNS" sgs) : Ok P w K mg base "throw_written" ["throw"] 1 spThrowW := by
  refine h.ok sc_throw_written (fun vs H Q E h => ?_) (fun cdv A outer s H vs Q E hr h => ?_)
  · obtain ⟨v, rfl, _⟩ := h
    rfl
  · obtain ⟨v, rfl, hb, q⟩ := h
    have big := line_big
    refine ⟨_, (pss_cons (ps_if (pt_chain op_le op_lt pe_int (pv 0) (pe_callB call_lenT rfl B.len_ bt_len (pa_cons (pe_gt t_SIGNS) pa_nil))) (pss_one (ps_ret (pe_ix ix_txt (pe_gt t_SIGNS) (pv 0) (fun _ _ => rfl)))) pss_nil)
      (pss_one (ps_ret (pe_fstr [40] [41] (by decide +kernel) (by decide +kernel) (by decide) (pv 0))))), ?_⟩
    walk_at "rd"
    have fin : ¬ Low v → v.natAbs.log2 < 1920 ∧ 1 + (decI v).length + 1 ≤ sizeLine ∧ Q (V.str (tx (40 :: (decI v ++ [41])))) H := fun z => ⟨log_small hb, by have := decI_len hb; omega, by rw [← wr1_par z]; exact q⟩
    refine ite2 (fun l1 => ⟨by decide, ite2 (fun l2 => ?_) (fun l2 => fin fun z => ?_)⟩) (fun l1 => fin fun z => l1 (decide_eq_true z.1))
    · have h1 := of_decide_eq_true l1
      have h2 : v < 36 := of_decide_eq_true l2
      obtain ⟨k, rfl⟩ := Int.eq_ofNat_of_zero_le h1
      refine ⟨by decide, sgn k, atI_nat (sgs_at k (by omega)), ?_⟩
      rw [wr1_low ⟨h1, by omega⟩] at q
      exact q
    · exact l2 (decide_eq_true (show v < 36 by have := z.2; omega))

abbrev s_written : Stmt := top 20
theorem sc_written : FnScope ["row"] ["row"] (defScope s_written) := ⟨rfl, rfl, rfl, by decide +kernel, rfl, by decide +kernel, by decide +kernel⟩
def spWritten (NAR : Addr) : Sp := fun vs H Q E => ∃ (a : Addr) (ns : List Int), vs = [.ref a] ∧ H a = some (.lst (ns.map V.int)) ∧ ns.length ≤ 1000 ∧ ∀ H', Same H H' → (RowI ns → Q (.str (tx (wrL ns))) H') ∧ (¬ RowI ns → E (.ref NAR) none H')
theorem okc_written {f : Addr} {fd : FuncData} {NAR : Addr} (h : Has K mg "written" s_written ["row"] f fd) (B : Blt mg) (o_check_row : OkC P w K mg base "check_row" ["row"] 4 (spCheckC NAR)) (o_throw_written : Ok P w K mg base "throw_written" ["throw"] 1 spThrowW) : OkC P w K mg base "written" ["row"] 5 (spWritten NAR) := by
  refine h.okc sc_written (fun vs H Q E h => ?_) (fun cdv A outer s H vs Q E hr h => ?_)
  · obtain ⟨a, ns, rfl, _⟩ := h
    rfl
  · obtain ⟨a, ns, rfl, ha, hl, q⟩ := h
    have lm : (ns.map V.int).length = ns.length := List.length_map _
    have big := line_big
    refine ⟨_, (pss_cons (ps_expr (pe_callC o_check_row (hr.mono (by decide)) rfl passC (pa_cons (pv 0) pa_nil)))
      (pss_one (ps_ret (pe_bmK (K := K) rfl PySem.F.plainAttrs_str PySem.F.slot_str_join PySem.F.type_str_join (mt_join (K := K) rfl) (pe_txt [] (by decide +kernel)) (pa_cons (pe_comp (N' := ["throw"]) (π := [none]) (CompScope.of (by kernel_rfl)) rfl (pi_listK (K := K) rfl (pv 0)) (fun _ _ _ _ _ => (pg_name (i := 0) (show List.Nodup (["throw"] : List Str) by decide +kernel) rfl (by first | exact Or.inl rfl | exact Or.inr rfl))) (fun _ _ _ _ _ => pifs_nil) (fun _ _ _ _ _ => (pe_callO o_throw_written (hr.mono (by decide)) rfl passE0 (pa_cons (pv 0) pa_nil)))) pa_nil))))), ?_⟩
    walk_at "rd"
    refine ⟨a, ns, rfl, ha, hl, fun H1 s1 => ⟨fun R => ?_, fun nR => (q H1 s1).2 nR⟩⟩
    have ha1 := s1 _ _ ha
    refine ⟨rfl, ⟨_, .of ha1⟩, comp_list (xs := ns.map V.int) (by rw [lm]; omega) (fun i ys σ H' => i ≤ ns.length ∧ (∃ o, σ = [o]) ∧ Same H1 H' ∧ ys = (ns.take i).map fun v => V.str (tx (wr1 v))) ⟨Nat.zero_le _, ⟨_, rfl⟩, Same.refl _, rfl⟩ (fun i ys σ H' p => ?_) (fun i ys σ H' _ p => .of (p.2.2.1 _ _ ha1)) (fun i ys σ H' x hx p => ?_) (fun ys σ H' D p hD => ?_)⟩
    · obtain ⟨hi, _, _, rfl⟩ := p
      rw [List.length_map, List.length_take]; omega
    · obtain ⟨hi, ⟨o, rfl⟩, hs, rfl⟩ := p
      obtain ⟨hlt, rfl⟩ := ints_at hx
      walk_at "rd"
      refine ⟨_, rfl, R.2.2 _ (TB.getD_mem hlt), hlt, hs, ?_⟩
      rw [List.take_succ, getD_some hlt, List.map_append]
      rfl
    · obtain ⟨_, _, hs, rfl⟩ := p
      rw [lm, List.take_length]
      refine ⟨D, rfl, ns.map wr1, .of (by rw [upd_same, List.map_map]; rfl), by rw [List.length_map]; exact hl, fun l hm => ?_, ?_⟩
      · obtain ⟨v, hv, rfl⟩ := List.mem_map.mp hm
        have := wr1_len (R.2.2 v hv)
        omega
      · rw [show (ns.map wr1).flatten = wrL ns from rfl]
        exact (q _ (s1.trans (hs.trans (same_upd hD)))).1 R

abbrev s_pieces_of : Stmt := top 21
theorem sc_pieces_of : FnScope ["text", "pieces", "place", "end"] ["text"] (defScope s_pieces_of) := ⟨rfl, rfl, rfl, by decide +kernel, rfl, by decide +kernel, by decide +kernel⟩
def spPieces (NW : Addr) : Sp := fun vs H Q E => ∃ l : List Nat, vs = [.str (tx l)] ∧ Ascii l ∧ l.length ≤ 600 ∧ (∀ H' D (ps : List (List Nat)), Same H H' → H D = none → ps.flatten = l → (∀ p ∈ ps, Piece p) → H' D = some (.lst (ps.map fun p => V.str (tx p))) → Q (.ref D) H') ∧ ∀ H', Same H H' → (∀ ns, ¬ Wr l ns) → E (.ref NW) none H'
theorem ok_pieces_of {f : Addr} {fd : FuncData} {NW : Addr} (h : Has K mg "pieces_of" s_pieces_of ["text"] f fd) (B : Blt mg) (x_NotWritten : ExcCls K NW) (m_NotWritten : mg "NotWritten" = some (.ref NW)) : Ok P w K mg base "pieces_of" ["text"] 2 (spPieces NW) := by
  refine h.ok sc_pieces_of (fun vs H Q E h => ?_) (fun cdv A outer s H vs Q E hr h => ?_)
  · obtain ⟨l, rfl, _⟩ := h
    rfl
  · obtain ⟨l, rfl, asc, hl, q1, q2⟩ := h
    have big := line_big
    refine ⟨_, (pss_cons (ps_set (i := 1) sc_pieces_of.nd rfl (by first | exact Or.inl rfl | exact Or.inr rfl) (pe_lst pa_nil))
      (pss_cons (ps_set (i := 2) sc_pieces_of.nd rfl (by first | exact Or.inl rfl | exact Or.inr rfl) pe_int)
      (pss_cons (ps_while ownX (pt_cmpR op_lt (pv 2) (pe_callB call_lenT rfl B.len_ bt_len (pa_cons (pv 0) pa_nil)) (nomark _)) (pss_cons (ps_set (i := 3) sc_pieces_of.nd rfl (by first | exact Or.inl rfl | exact Or.inr rfl) (pe_ifExp (pt_cmpR op_eq (pe_ix ix_txt (pv 0) (pv 2) (fun _ _ => rfl)) (pe_txt [40] (by decide +kernel)) (nomark _)) (pe_bmK (K := K) rfl PySem.F.plainAttrs_str PySem.F.slot_str_find PySem.F.type_str_find mt_find3 (pv 0) (pa_cons (pe_txt [41] (by decide +kernel)) (pa_cons (pv 2) pa_nil))) (pv 2)))
      (pss_cons (ps_if (pt_cmpR op_lt (pv 3) pe_int (nomark _)) (pss_one (ps_raise isDef_cxOf x_NotWritten rfl landX rfl m_NotWritten (pa_cons (pe_txt [97, 32, 98, 114, 97, 99, 107, 101, 116, 32, 105, 115, 32, 110, 111, 116, 32, 99, 108, 111, 115, 101, 100] (by decide +kernel)) pa_nil))) pss_nil)
      (pss_cons (ps_expr (pe_bmK (K := K) rfl PySem.F.plainAttrs_list PySem.F.slot_list_append PySem.F.type_list_append mt_append (pv 1) (pa_cons (pe_slice sl_txt (pv 0) (po_some (pv 2)) (po_some (pe_op op_add (pv 3) pe_int))) pa_nil)))
      (pss_one (ps_set (i := 2) sc_pieces_of.nd rfl (by first | exact Or.inl rfl | exact Or.inr rfl) (pe_op op_add (pv 3) pe_int)))))))
      (pss_one (ps_ret (pv 1)))))), ?_⟩
    walk_at "rd"
    refine ⟨by decide, fun D hD => ?_⟩
    walk_at "rd"
    unfold tWhile
    refine ⟨fun m σ H2 => ∃ (ps : List (List Nat)) (k : Nat) (o : Option V), m = l.length - k ∧ σ = [some (V.str (tx l)), some (V.ref D), some (V.int k), o] ∧ k ≤ l.length ∧ ps.flatten = l.take k ∧ ps.length ≤ k ∧ (∀ p ∈ ps, Piece p) ∧ Same H H2 ∧ H2 D = some (.lst (ps.map fun p => V.str (tx p))), ⟨_, [], 0, none, rfl, rfl, Nat.zero_le _, rfl, Nat.zero_le _, by simp, same_upd hD, upd_same⟩, ?_⟩
    rintro m σ H2 ⟨ps, k, o, rfl, rfl, hk, hf, hlen, hp, s2, hD2⟩
    walk_at "rd"
    have small : (ps.map fun p => V.str (tx p)).length < sizeLine := by rw [List.length_map]; omega
    refine ⟨by omega, ite2 (fun hlt => ?_) (fun hge => ?_)⟩
    · have hk' : k < l.length := by have := of_decide_eq_true hlt; omega
      have step : ∀ (e : Nat), k ≤ e → e < l.length → Piece ((l.drop k).take (e + 1 - k)) →
          ∃ m', m' < l.length - k ∧ ∃ (ps' : List (List Nat)) (k' : Nat), m' = l.length - k' ∧ ∃ x, [some (V.str (tx l)), some (V.ref D), some (V.int ((e : Int) + 1)), some (V.int e)] = [some (V.str (tx l)), some (V.ref D), some (V.int ↑k'), x] ∧ k' ≤ l.length ∧ ps'.flatten = l.take k' ∧ ps'.length ≤ k' ∧ (∀ p ∈ ps', Piece p) ∧ Same H (upd H2 D (.lst ((ps.map fun p => V.str (tx p)) ++ [V.str (tx (cutN l (some (k : Int)) (some ((e : Int) + 1))))]))) ∧
            (upd H2 D (.lst ((ps.map fun p => V.str (tx p)) ++ [V.str (tx (cutN l (some (k : Int)) (some ((e : Int) + 1))))]))) D = some (.lst (ps'.map fun p => V.str (tx p))) := fun e h1 h2 hpc => by
        have ec : cutN l (some (k : Int)) (some ((e : Int) + 1)) = (l.drop k).take (e + 1 - k) := by
          rw [show ((e : Int) + 1) = ((e + 1 : Nat) : Int) by omega]
          exact cutN_mid l hk (by omega)
        rw [ec]
        refine ⟨l.length - (e + 1), by omega, ps ++ [(l.drop k).take (e + 1 - k)], e + 1, rfl, _, rfl, by omega, ?_, ?_, ?_, ?_, ?_⟩
        · rw [List.flatten_append, hf]
          simp only [List.flatten_cons, List.flatten_nil, List.append_nil]
          rw [show e + 1 = k + (e + 1 - k) by omega, List.take_add]
          congr 2
          omega
        · rw [List.length_append]
          simp only [List.length_cons, List.length_nil]
          omega
        · intro p hm
          rcases List.mem_append.mp hm with z | z
          · exact hp p z
          · rw [List.mem_singleton.mp z]; exact hpc
        · exact fun b u z => by rw [upd_ne (ne_of_none z hD)]; exact s2 _ _ z
        · rw [upd_same, List.map_append]; rfl
      refine ⟨_, fun σ' H' z => z, by omega, l[k], atI_nat (List.getElem?_eq_getElem hk'), ?_⟩
      have ed : l.drop k = l[k] :: l.drop (k + 1) := List.drop_eq_getElem_cons hk'
      refine ite2 (fun h40 => ?_) (fun h40 => ?_)
      · have h40 := of_decide_eq_true h40
        refine ⟨rfl, k, rfl, by omega, ?_⟩
        by_cases h41 : 41 ∈ l.drop k
        · have ef : findF l 41 k = ((k + (l.drop k).idxOf 41 : Nat) : Int) := by unfold findF; rw [if_pos h41]
          have il := List.idxOf_lt_length_of_mem h41
          rw [List.length_drop] at il
          rw [ef, if_neg (by rw [decide_eq_false (by omega)]; decide)]
          refine ⟨.inl ⟨rfl, _, .of hD2⟩, by omega, _, hD2, small, step _ (by omega) (by omega) (.inr ?_)⟩
          have ht : 41 ∈ l.drop (k + 1) := by
            rw [ed, h40] at h41
            simpa using h41
          have ix : (l.drop k).idxOf 41 = (l.drop (k + 1)).idxOf 41 + 1 := by
            rw [ed, h40, List.idxOf_cons, show ((40 : Nat) == 41) = false from rfl, cond_false]
          have i1 : (l.drop (k + 1)).idxOf 41 < (l.drop (k + 1)).length := List.idxOf_lt_length_of_mem ht
          have i2 : (l.drop (k + 1))[(l.drop (k + 1)).idxOf 41] = 41 := List.getElem_idxOf i1
          refine ⟨(l.drop (k + 1)).take ((l.drop (k + 1)).idxOf 41), fun hm => ?_, ?_⟩
          · obtain ⟨j, hj, e⟩ := List.mem_iff_getElem.mp hm
            rw [List.length_take] at hj
            have q := List.not_of_lt_findIdx (p := (· == 41)) (xs := l.drop (k + 1)) (show j < (l.drop (k + 1)).idxOf 41 by omega)
            rw [List.getElem_take] at e
            simp [e] at q
          · rw [show k + (l.drop k).idxOf 41 + 1 - k = (l.drop (k + 1)).idxOf 41 + 1 + 1 by omega, ed, h40, List.take_succ_cons, List.take_succ, List.getElem?_eq_getElem i1, i2]
            rfl
        · have ef : findF l 41 k = -1 := by unfold findF; rw [if_neg h41]
          rw [ef, if_pos (by decide)]
          exact ⟨by decide, q2 H2 s2 (no_close hp (by rw [hf, List.take_append_drop]) (by rw [ed, h40]) h41)⟩
      · have h40 : l[k] ≠ 40 := fun z => h40 (decide_eq_true z)
        rw [if_neg (by rw [decide_eq_false (by omega)]; decide)]
        refine ⟨.inl ⟨rfl, _, .of hD2⟩, by omega, _, hD2, small, step k (Nat.le_refl _) hk' (.inl ⟨l[k], h40, ?_⟩)⟩
        rw [show k + 1 - k = 1 by omega, ed]
        rfl
    · have : k = l.length := by
        have h3 : ¬ ((k : Int) < (l.length : Int)) := fun z => hge (decide_eq_true z)
        omega
      rw [this, List.take_length] at hf
      exact q1 H2 D ps s2 hD hf hp hD2

end
end Tb

namespace Tb
open PySem L2 TB TM
local macro_rules | `(tactic| walk_at "rd") => `(tactic| try simp only [tTryI, rFind3, rStarts, rJoin, tFstr, rExtendT, rCount, iRevT, tSeq, tNext, tIfS, tRet, tRetN, tDrop, tAsg, gName, gNil, gCons, gSub, gTup, tVar, tC, tOp, tUn, rI, rI0, rU, rEq, rNe, tTest, tB, tChain, tChain3, rSortedB, rSortedP, rSortedD, rListD, rDictP, iDict, tThaw, rDClear, tDisp, tPairs, kit_dict_dict, rIndex, rIsX, rIsXT, rIsXd, rIsXV, rIsXTd, rIsO, rIxS2, rSlS, rFind, rIndexT, rLenT, rStrT, rIntT, rAddT, rMulT, rInT, iTxt, tx_str, tTxts, kit_str_str, rIn, tListRev, tAug, ipI, tAnd, tOr, tNot, tAndV, tOrV, tNotV, tIf, tIsN, tNotN, tCB, tNil, tCons, tTup, tLst, tTupG, tLstG, tCall, tRaise, tTryC, tXF, sXF, tRaiseI, tTryA, tTryE, thC, thA, thNil, Ends.less, tFor_eq, tComp_eq, iList, iTup, iRng1, iRng2, iEnum, iZip, tNoIf, rIxL, rIxT, rSetL, tBM, tBM0, rAppend, tFld, sFld, tMake, tMakeN, tMethD, tTryM, tNever, rExtend, rGeL, rInS, rClear, tDNewK, tDIn, tDNotIn, tDGet, sDPut, rEqL, rEqS, rBest, rRep, rCat, tSl, tPart, tNoPart, rSlL, capt, CDiv, scal_ii, scal_bb, scal_ss, scal_nn, scal_in, scal_ni, List.map_cons, List.map_nil, List.append_nil, List.nil_append, List.cons_append, List.length_cons, List.length_nil, List.length_map, Int.zero_add, List.getElem?_cons_zero, List.getElem?_cons_succ, List.set_cons_zero, List.set_cons_succ, Option.some.injEq, Option.join_some, Option.bind_some, Option.bind_none, V.int.injEq, V.bl.injEq, V.ref.injEq, V.str.injEq, V.ty.injEq, List.cons.injEq, and_true, true_and, exists_and_left, exists_eq_left', exists_eq_left, exists_eq_right, exists_eq_right', exists_eq, exists_eq', exists_const, eq_self, decide_true, decide_false, Option.isSome_none, Option.isSome_some, Bool.false_eq_true, Bool.not_true, Bool.not_false, reduceIte, reduceCtorEq, false_and, and_false, or_false, false_or, start_def, cxOf_K, cxComp_K, and_assoc, tyOf_int, kit_int_int, kit_int_bool, kit_list_list, rep0, rep1, rep2, rep3, rep4, rep5, rep6, rep7, rep8, rep9, rep10, rep11, rep12, rLen, rIsi, rListOf, rTupOf, rSum, rAll, rAny, rSorted, kit_tuple_tuple, Nat.sub_self, Nat.reduceAdd, Nat.reduceSub, Nat.reduceEqDiff])

section
variable {P : Program} {w : World} {K : PySem.W.Frag} {mg : Str → Option Value} {base : Heap}
abbrev s_number_of : Stmt := top 22
theorem sc_number_of : FnScope ["figures", "number"] ["figures"] (defScope s_number_of) := ⟨rfl, rfl, rfl, by decide +kernel, rfl, by decide +kernel, by decide +kernel⟩
def spNumber (NW : Addr) : Sp := fun vs H Q E => ∃ l : List Nat, vs = [.str (tx l)] ∧ Ascii l ∧ l.length ≤ 640 ∧ (∀ n, intText? (tx l) = some n → Q (.int n) H) ∧ (intText? (tx l) = none → E (.ref NW) none H)
theorem oku_number_of {f : Addr} {fd : FuncData} {NW : Addr} (h : Has K mg "number_of" s_number_of ["figures"] f fd) (B : Blt mg) (b_ValueError : mg "ValueError" = none) (x_NotWritten : ExcCls K NW) (m_NotWritten : mg "NotWritten" = some (.ref NW)) : OkU P w K mg base "number_of" ["figures"] 2 (spNumber NW) := by
  refine h.oku sc_number_of (fun vs H Q E h => ?_) (fun cdv A outer s H vs Q E hr h => ?_)
  · obtain ⟨l, rfl, _⟩ := h
    rfl
  · obtain ⟨l, rfl, asc, hl, q1, q2⟩ := h
    refine ⟨_, (pssU_cons (psU_tryI (i := 1) isDef_cxOf rfl rfl B.int_ (fun _ => (pa_cons (pv 0) pa_nil)) sc_number_of.nd rfl (by first | exact Or.inl rfl | exact Or.inr rfl) rfl b_ValueError ownAtX x_NotWritten landX rfl m_NotWritten (fun _ => (pa_cons (pe_txt [110, 111, 32, 110, 117, 109, 98, 101, 114, 32, 119, 105, 116, 104, 105, 110, 32, 98, 114, 97, 99, 107, 101, 116, 115] (by decide +kernel)) pa_nil)))
      (PSs.up (pss_one (ps_ret (pv 1))))), ?_⟩
    walk_at "rd"
    exact ⟨hl, asc, q1, fun z => ⟨by decide, q2 z⟩⟩

theorem cut_par (m : List Nat) : cutN (40 :: (m ++ [41])) (some 1) (some (-1)) = m := by
  have e1 : HT.sIx (40 :: (m ++ [41])).length 0 (some 1) = 1 := by
    rw [show (1 : Int) = ((1 : Nat) : Int) from rfl, HT.sIx_nat]
    simp
  have e2 : HT.sIx (40 :: (m ++ [41])).length (40 :: (m ++ [41])).length (some (-1)) = m.length + 1 := by
    unfold HT.sIx
    simp
    omega
  unfold cutN
  rw [e1, e2]
  simp
abbrev s_throw_of : Stmt := top 23
theorem sc_throw_of : FnScope ["piece"] ["piece"] (defScope s_throw_of) := ⟨rfl, rfl, rfl, by decide +kernel, rfl, by decide +kernel, by decide +kernel⟩
def spThrow (NW : Addr) : Sp := fun vs H Q E => ∃ p : List Nat, vs = [.str (tx p)] ∧ Piece p ∧ Ascii p ∧ p.length ≤ 640 ∧ (∀ v, TM.told p = some v → Q (.int v) H) ∧ (TM.told p = none → E (.ref NW) none H)
theorem oku_throw_of {f : Addr} {fd : FuncData} {NW : Addr} (h : Has K mg "throw_of" s_throw_of ["piece"] f fd) (t_SIGNS : GTxt mg "SIGNS" sgs) (x_NotWritten : ExcCls K NW) (m_NotWritten : mg "NotWritten" = some (.ref NW)) (o_number_of : OkU P w K mg base "number_of" ["figures"] 2 (spNumber NW)) : OkU P w K mg base "throw_of" ["piece"] 3 (spThrow NW) := by
  refine h.oku sc_throw_of (fun vs H Q E h => ?_) (fun cdv A outer s H vs Q E hr h => ?_)
  · obtain ⟨l, rfl, _⟩ := h
    rfl
  · obtain ⟨p, rfl, hp, asc, hl, q1, q2⟩ := h
    have big := line_big
    refine ⟨_, (pssU_cons (psU_if (PT.up (pt_val (pe_bmK (K := K) rfl PySem.F.plainAttrs_str PySem.F.slot_str_startswith PySem.F.type_str_startswith mt_starts (pv 0) (pa_cons (pe_txt [40] (by decide +kernel)) pa_nil)))) (pssU_one (psU_ret (peU_callO o_number_of (hr.mono (by decide)) rfl passX (PA.up (pa_cons (pe_slice sl_txt (pv 0) (po_some pe_int) (po_some (pe_un un_neg pe_int))) pa_nil))))) (PSs.up pss_nil))
      (PSs.up (pss_cons (ps_if (pt_cmpR op_notinR (pv 0) (pe_gt t_SIGNS) (by with_unfolding_all rfl)) (pss_one (ps_raise isDef_cxOf x_NotWritten rfl landX rfl m_NotWritten (pa_cons (pe_txt [97, 32, 115, 105, 103, 110, 32, 116, 104, 97, 116, 32, 116, 101, 108, 108, 115, 32, 110, 111, 32, 116, 104, 114, 111, 119] (by decide +kernel)) pa_nil))) pss_nil)
      (pss_one (ps_ret (pe_bmK (K := K) rfl PySem.F.plainAttrs_str PySem.F.slot_str_index PySem.F.type_str_index (mt_indexT rfl) (pe_gt t_SIGNS) (pa_cons (pv 0) pa_nil))))))), ?_⟩
    walk_at "rd"
    refine ⟨rfl, ?_⟩
    rcases hp with ⟨c, hc, rfl⟩ | ⟨m, hm, rfl⟩
    · have et : TM.told [c] = if c ∈ sgs then some ((sgs.idxOf c : Nat) : Int) else none := by rw [TM.told]; exact if_neg hc
      rw [if_neg (by rw [decide_eq_false (by simpa using hc)]; decide)]
      refine ⟨c, rfl, ite2 (fun z => ⟨by decide, q2 ?_⟩) (fun z => ⟨rfl, c, rfl, ?_, q1 _ ?_⟩)⟩
      · rw [et, if_neg (by simpa using z)]
      · simpa using z
      · rw [et, if_pos (by simpa using z)]
    · have et : TM.told (40 :: (m ++ [41])) = intText? (tx m) := by rw [TM.told, if_pos rfl, List.dropLast_concat]
      rw [if_pos (decide_eq_true (show List.take 1 (40 :: (m ++ [41])) = [40] from rfl)), cut_par]
      rw [et] at q1 q2
      have lm : m.length + 2 ≤ 640 := by simpa using hl
      exact ⟨by simpa using (by omega : m.length + 2 ≤ sizeLine), m, rfl, fun z hz => asc z (by simp [hz]), by omega, q1, q2⟩

theorem len_flat : ∀ {ps : List (List Nat)}, (∀ p ∈ ps, Piece p) → ps.length ≤ ps.flatten.length
  | [], _ => Nat.le_refl _
  | p :: ps, h => by
    have h1 := len_flat (ps := ps) fun q hq => h q (List.mem_cons_of_mem _ hq)
    have h2 := List.length_pos_iff.mpr (h p (List.mem_cons_self ..)).ne
    rw [List.flatten_cons, List.length_append, List.length_cons]
    omega
theorem piece_len {ps : List (List Nat)} {p : List Nat} (h : p ∈ ps) : p.length ≤ ps.flatten.length := by
  induction ps with
  | nil => cases h
  | cons q ps ih =>
    rw [List.flatten_cons, List.length_append]
    rcases List.mem_cons.mp h with rfl | h
    · omega
    · have := ih h
      omega
abbrev s_read : Stmt := top 24
theorem sc_read : FnScope ["text", "row", "again"] ["text"] (defScope s_read) := ⟨rfl, rfl, rfl, by decide +kernel, rfl, by decide +kernel, by decide +kernel⟩
def NotStr (K : PySem.W.Frag) (H : Hp) (x : V) : Prop := ∃ t, TyOf K H x t ∧ PySem.W.kitOne K t (.type "str") = some false
def spRead (K : PySem.W.Frag) (NW : Addr) : Sp := fun vs H Q E => ∃ x : V, vs = [x] ∧ ((NotStr K H x ∧ E (.ref NW) none H) ∨ ∃ l : List Nat, x = .str (tx l) ∧ Ascii l ∧ l.length ≤ 2000 ∧ (∀ H' D ns, Same H H' → H D = none → Wr l ns → H' D = some (.lst (ns.map V.int)) → Q (.ref D) H') ∧ ∀ H', Same H H' → (∀ ns, ¬ Wr l ns) → E (.ref NW) none H')
theorem oku_read {f : Addr} {fd : FuncData} {NW NAR : Addr} (h : Has K mg "read" s_read ["text"] f fd) (B : Blt mg) (b_str : mg "str" = none) (g_LONGEST_TEXT : GInt mg "LONGEST_TEXT" 600) (x_NotWritten : ExcCls K NW) (m_NotWritten : mg "NotWritten" = some (.ref NW)) (x_NotARow : ExcCls K NAR) (m_NotARow : mg "NotARow" = some (.ref NAR))
    (o_pieces_of : Ok P w K mg base "pieces_of" ["text"] 2 (spPieces NW)) (o_throw_of : OkU P w K mg base "throw_of" ["piece"] 3 (spThrow NW)) (o_written : OkC P w K mg base "written" ["row"] 5 (spWritten NAR)) : OkU P w K mg base "read" ["text"] 6 (spRead K NW) := by
  refine h.oku sc_read (fun vs H Q E h => ?_) (fun cdv A outer s H vs Q E hr h => ?_)
  · obtain ⟨l, rfl, _⟩ := h
    rfl
  · obtain ⟨x, rfl, h⟩ := h
    have big := line_big
    refine ⟨_, (pssU_cons (PS.up (ps_if (pt_not (pt_val (pe_callB (call_isinstK (K := K) rfl) rfl B.isinstance_ bt_isinstance (pa_cons (pv 0) (pa_cons (pe_tyN b_str bt_str) pa_nil))))) (pss_one (ps_raise isDef_cxOf x_NotWritten rfl landX rfl m_NotWritten (pa_cons (pe_txt [119, 104, 97, 116, 32, 105, 115, 32, 114, 101, 97, 100, 32, 105, 115, 32, 97, 32, 116, 101, 120, 116] (by decide +kernel)) pa_nil))) pss_nil))
      (pssU_cons (PS.up (ps_if (pt_cmpR op_gt (pe_callB call_lenT rfl B.len_ bt_len (pa_cons (pv 0) pa_nil)) (pe_gi g_LONGEST_TEXT) (nomark _)) (pss_one (ps_raise isDef_cxOf x_NotWritten rfl landX rfl m_NotWritten (pa_cons (pe_txt [108, 111, 110, 103, 101, 114, 32, 116, 104, 97, 110, 32, 97, 110, 121, 32, 114, 111, 119, 32, 105, 115, 32, 119, 114, 105, 116, 116, 101, 110] (by decide +kernel)) pa_nil))) pss_nil))
      (pssU_cons (psU_setC (i := 1) (N' := ["piece"]) (π := [none]) (CompScope.of (by kernel_rfl)) rfl isDef_cxOf passB sc_read.nd rfl rfl (pi_listK (K := K) rfl (pe_callO o_pieces_of (hr.mono (by decide)) rfl passX (pa_cons (pv 0) pa_nil))) (fun _ _ _ _ _ => (pg_name (i := 0) (show List.Nodup (["piece"] : List Str) by decide +kernel) rfl (by first | exact Or.inl rfl | exact Or.inr rfl))) (fun _ _ _ _ _ _ hp => (peU_callO o_throw_of (hr.mono (by decide)) rfl hp (PA.up (pa_cons (pv 0) pa_nil)))))
      (PSs.up (pss_cons (ps_tryF (i := 2) isDef_cxOf o_written (hr.mono (by decide)) rfl (fun _ => (pa_cons (pv 1) pa_nil)) sc_read.nd rfl (by first | exact Or.inl rfl | exact Or.inr rfl) (phc_from isDef_cxOf rfl rfl m_NotARow ownAtX x_NotWritten landX rfl m_NotWritten (fun _ => (pa_cons (pe_txt [97, 32, 114, 111, 119, 32, 104, 97, 115, 32, 49, 32, 116, 111, 32, 54, 48, 32, 116, 104, 114, 111, 119, 115, 32, 102, 114, 111, 109, 32, 45, 49, 48, 48, 48, 48, 48, 48, 32, 116, 111, 32, 49, 48, 48, 48, 48, 48, 48] (by decide +kernel)) pa_nil)) phc_nil))
      (pss_cons (ps_if (pt_cmpR op_ne (pv 2) (pv 0) (nomark _)) (pss_one (ps_raise isDef_cxOf x_NotWritten rfl landX rfl m_NotWritten (pa_cons (pe_txt [97, 32, 110, 117, 109, 98, 101, 114, 32, 105, 115, 32, 110, 111, 116, 32, 119, 114, 105, 116, 116, 101, 110, 32, 115, 111] (by decide +kernel)) pa_nil))) pss_nil)
      (pss_one (ps_ret (pv 1))))))))), ?_⟩
    rcases h with ⟨⟨t, h1, h2⟩, q⟩ | ⟨l, rfl, asc, hl, q1, q2⟩
    · walk_at "rd"
      refine ⟨_, h1, _, h2, ?_⟩
      walk_at "rd"
      exact ⟨by decide, q⟩
    walk_at "rd"
    refine ⟨_, .str _, _, kit_str_str, ?_⟩
    walk_at "rd"
    refine ⟨by omega, ite2 (fun z => ⟨by decide, q2 _ (Same.refl _) fun ns wr => ?_⟩) (fun z => ?_)⟩
    · have h1 := wrL_len wr.2.2.1
      rw [← wr.2.2.2] at h1
      have h2 := wr.2.1
      have h3 := of_decide_eq_true z
      omega
    have l6 : l.length ≤ 600 := by
      have h3 : ¬ (600 < (l.length : Int)) := fun y => z (decide_eq_true y)
      omega
    refine ⟨l, rfl, asc, l6, fun H1 D1 ps s1 hD1 hf hp hPD => ?_, fun H1 s1 hn => q2 H1 s1 hn⟩
    have lp : ps.length ≤ 600 := by
      have := len_flat hp
      rw [hf] at this
      omega
    refine ⟨D1, rfl, ⟨_, .of hPD⟩, comp_list (xs := ps.map fun p => V.str (tx p)) (by rw [List.length_map]; omega) (fun i ys σ H' => i ≤ ps.length ∧ (∃ o, σ = [o]) ∧ Same H1 H' ∧ ∃ vs : List Int, vs.length = i ∧ ys = vs.map V.int ∧ (ps.take i).map TM.told = vs.map some) ⟨Nat.zero_le _, ⟨_, rfl⟩, Same.refl _, [], rfl, rfl, rfl⟩ (fun i ys σ H' p => ?_) (fun i ys σ H' _ p => .of (p.2.2.1 _ _ hPD)) (fun i ys σ H' x hx p => ?_) (fun ys σ H' D p hD => ?_)⟩
    · obtain ⟨hi, _, _, vs, e, rfl, _⟩ := p
      rw [List.length_map, e]
    · obtain ⟨hi, ⟨o, rfl⟩, hs, vs, e, rfl, hv⟩ := p
      rw [List.getElem?_map] at hx
      cases ep : ps[i]? with
      | none => rw [ep] at hx; cases hx
      | some pc =>
        rw [ep] at hx
        cases Option.some.inj hx
        have hm := List.mem_of_getElem? ep
        have hlt := (List.getElem?_eq_some_iff.mp ep).1
        walk_at "rd"
        refine ⟨pc, rfl, hp pc hm, fun c hc => asc c ?_, ?_, fun v ev => ?_, fun en => q2 H' (s1.trans hs) (no_told hp hf hm en)⟩
        · rw [← hf]
          exact List.mem_flatten.mpr ⟨pc, hm, hc⟩
        · have := piece_len hm
          rw [hf] at this
          omega
        · refine ⟨hlt, hs, vs ++ [v], by rw [List.length_append, e]; rfl, by rw [List.map_append]; rfl, ?_⟩
          rw [List.take_succ, ep, List.map_append, List.map_append, hv]
          show vs.map some ++ [TM.told pc] = _
          rw [ev]
          rfl
    · obtain ⟨_, _, hs, vs, e, rfl, hv⟩ := p
      rw [List.length_map] at e
      rw [List.length_map, List.take_length] at hv
      have hD0 : H D = none := by
        cases eD : H D with
        | none => rfl
        | some u =>
          rw [hs _ _ (s1 _ _ eD)] at hD
          cases hD
      refine ⟨D, vs, rfl, upd_same, by omega, fun H2 s2 => ⟨fun R => ?_, fun nR => ?_⟩⟩
      · have s3 : Same H H2 := s1.trans (hs.trans ((same_upd hD).trans s2))
        walk_at "rd"
        refine ite2 (fun y => ⟨by decide, q2 H2 s3 fun ns wr => ?_⟩) (fun y => ?_)
        · rw [told_row hp hf hv wr] at wr
          rw [decide_eq_true wr.2.2.2.symm] at y
          cases y
        · have el : wrL vs = l := by simpa using y
          exact q1 H2 D vs s3 hD0 ⟨R.1, R.2.1, R.2.2, el.symm⟩ (s2 _ _ upd_same)
      · refine ⟨NAR, rfl, true, SubC.self x_NotARow, ?_⟩
        rw [if_pos rfl]
        exact ⟨by decide, q2 H2 (s1.trans (hs.trans ((same_upd hD).trans s2))) fun ns wr => nR (by rw [← told_row hp hf hv wr]; exact ⟨wr.1, wr.2.1, wr.2.2.1⟩)⟩
end
end Tb

namespace Tb
open PySem L2 TB TM
local macro_rules | `(tactic| walk_at "rd") => `(tactic| try simp only [rExtendT, rCount, iRevT, tSeq, tNext, tIfS, tRet, tRetN, tDrop, tAsg, gName, gNil, gCons, gSub, gTup, tVar, tC, tOp, tUn, rI, rI0, rU, rEq, rNe, tTest, tB, tChain, tChain3, rSortedB, rSortedP, rSortedD, rListD, rDictP, iDict, tThaw, rDClear, tDisp, tPairs, kit_dict_dict, rIndex, rIsX, rIsXT, rIsXd, rIsXV, rIsXTd, rIsO, rIxS2, rSlS, rFind, rIndexT, rLenT, rStrT, rIntT, rAddT, rMulT, rInT, iTxt, tx_str, tTxts, kit_str_str, rIn, tListRev, tAug, ipI, tAnd, tOr, tNot, tAndV, tOrV, tNotV, tIf, tIsN, tNotN, tCB, tNil, tCons, tTup, tLst, tTupG, tLstG, tCall, tRaise, tTryC, tXF, sXF, tRaiseI, tTryA, tTryE, thC, thA, thNil, Ends.less, tFor_eq, tComp_eq, iList, iTup, iRng1, iRng2, iEnum, iZip, tNoIf, rIxL, rIxT, rSetL, tBM, tBM0, rAppend, tFld, sFld, tMake, tMakeN, tMethD, tTryM, tNever, rExtend, rGeL, rInS, rClear, tDNewK, tDIn, tDNotIn, tDGet, sDPut, rEqL, rEqS, rBest, rRep, rCat, tSl, tPart, tNoPart, rSlL, capt, CDiv, scal_ii, scal_bb, scal_ss, scal_nn, scal_in, scal_ni, List.map_cons, List.map_nil, List.append_nil, List.nil_append, List.cons_append, List.length_cons, List.length_nil, List.length_map, Int.zero_add, List.getElem?_cons_zero, List.getElem?_cons_succ, List.set_cons_zero, List.set_cons_succ, Option.some.injEq, Option.join_some, Option.bind_some, Option.bind_none, V.int.injEq, V.bl.injEq, V.ref.injEq, V.str.injEq, V.ty.injEq, List.cons.injEq, and_true, true_and, exists_and_left, exists_eq_left', exists_eq_left, exists_eq_right, exists_eq_right', exists_eq, exists_eq', exists_const, eq_self, decide_true, decide_false, Option.isSome_none, Option.isSome_some, Bool.false_eq_true, Bool.not_true, Bool.not_false, reduceIte, reduceCtorEq, false_and, and_false, or_false, false_or, start_def, cxOf_K, cxComp_K, and_assoc, tyOf_int, kit_int_int, kit_int_bool, kit_list_list, rep0, rep1, rep2, rep3, rep4, rep5, rep6, rep7, rep8, rep9, rep10, rep11, rep12, rLen, rIsi, rListOf, rTupOf, rSum, rAll, rAny, rSorted, kit_tuple_tuple, Nat.sub_self, Nat.reduceAdd, Nat.reduceSub, Nat.reduceEqDiff])

section
variable {P : Program} {w : World} {K : PySem.W.Frag} {mg : Str → Option Value} {base : Heap}

theorem signs_at : ∀ k, k < 27 → ∃ x, [48, 49, 50, 51, 52, 53, 54, 55, 56, 57, 97, 98, 122, 40, 40, 40, 40, 41, 41, 41, 41, 32, 45, 43, 65, 90, 46][k]? = some x ∧ x < 128 := by
  intro k hk
  have h : ∀ k : Fin 27, ∃ x, [48, 49, 50, 51, 52, 53, 54, 55, 56, 57, 97, 98, 122, 40, 40, 40, 40, 41, 41, 41, 41, 32, 45, 43, 65, 90, 46][k.val]? = some x ∧ x < 128 := by
    intro k
    have hk : k.val < [48, 49, 50, 51, 52, 53, 54, 55, 56, 57, 97, 98, 122, 40, 40, 40, 40, 41, 41, 41, 41, 32, 45, 43, 65, 90, 46].length := k.isLt
    refine ⟨_, List.getElem?_eq_getElem hk, ?_⟩
    have : ∀ c ∈ [48, 49, 50, 51, 52, 53, 54, 55, 56, 57, 97, 98, 122, 40, 40, 40, 40, 41, 41, 41, 41, 32, 45, 43, 65, 90, 46], c < 128 := by decide
    exact this _ (List.getElem_mem hk)
  exact h ⟨k, hk⟩
abbrev s__law_other_by : Stmt := top 33
theorem sc__law_other_by : FnScope ["_law_text", "_law_script", "_law_at", "_law_sign", "_law_kind"] ["_law_text", "_law_script"] (defScope s__law_other_by) := ⟨rfl, rfl, rfl, by decide +kernel, rfl, by decide +kernel, by decide +kernel⟩
def spOtherBy (K : PySem.W.Frag) : Sp := fun vs H Q _ => ∃ (l : List Nat) (a : Addr) (ns : List Int), vs = [.str (tx l), .ref a] ∧ Ascii l ∧ l.length ≤ 700 ∧ SqL K H a (ns.map V.int) ∧ ∀ l' : List Nat, Ascii l' → l'.length ≤ 2000 → Q (.str (tx l')) H
theorem ok_other_by {f : Addr} {fd : FuncData} (h : Has K mg "_law_other_by" s__law_other_by ["_law_text", "_law_script"] f fd) (B : Blt mg) (o__law_cell_at : Ok P w K mg base "_law_cell_at" ["_law_script", "_law_k"] 2 (spCellAt K)) : Ok P w K mg base "_law_other_by" ["_law_text", "_law_script"] 3 (spOtherBy K) := by
  refine h.ok sc__law_other_by (fun vs H Q E h => ?_) (fun cdv A outer s H vs Q E hr h => ?_)
  · obtain ⟨l, a, ns, rfl, _⟩ := h
    rfl
  · obtain ⟨l, a, ns, rfl, asc, hl, ha, q⟩ := h
    have big := line_big
    refine ⟨_, (pss_cons (ps_set (i := 2) sc__law_other_by.nd rfl (by first | exact Or.inl rfl | exact Or.inr rfl) (pe_op op_mod (pe_callO o__law_cell_at (hr.mono (by decide)) rfl passX (pa_cons (pv 1) (pa_cons pe_int pa_nil))) (pe_op op_add (pe_callB call_lenT rfl B.len_ bt_len (pa_cons (pv 0) pa_nil)) pe_int)))
      (pss_cons (ps_set (i := 3) sc__law_other_by.nd rfl (by first | exact Or.inl rfl | exact Or.inr rfl) (pe_ix ix_txt (pe_txt [48, 49, 50, 51, 52, 53, 54, 55, 56, 57, 97, 98, 122, 40, 40, 40, 40, 41, 41, 41, 41, 32, 45, 43, 65, 90, 46] (by decide +kernel)) (pe_op op_mod (pe_callO o__law_cell_at (hr.mono (by decide)) rfl passX (pa_cons (pv 1) (pa_cons pe_int pa_nil))) pe_int) (fun _ _ => rfl)))
      (pss_cons (ps_set (i := 4) sc__law_other_by.nd rfl (by first | exact Or.inl rfl | exact Or.inr rfl) (pe_op op_mod (pe_callO o__law_cell_at (hr.mono (by decide)) rfl passX (pa_cons (pv 1) (pa_cons pe_int pa_nil))) pe_int))
      (pss_cons (ps_if (pt_cmpR op_eq (pv 4) pe_int (nomark _)) (pss_one (ps_ret (pe_op op_addR (pe_op op_addR (pe_slice sl_txt (pv 0) po_none (po_some (pv 2))) (pv 3)) (pe_slice sl_txt (pv 0) (po_some (pv 2)) po_none)))) pss_nil)
      (pss_cons (ps_if (pt_cmpR op_eq (pv 4) pe_int (nomark _)) (pss_one (ps_ret (pe_op op_addR (pe_slice sl_txt (pv 0) po_none (po_some (pv 2))) (pe_slice sl_txt (pv 0) (po_some (pe_op op_add (pv 2) pe_int)) po_none)))) pss_nil)
      (pss_cons (ps_if (pt_cmpR op_eq (pv 4) pe_int (nomark _)) (pss_one (ps_ret (pe_op op_addR (pe_op op_addR (pe_slice sl_txt (pv 0) po_none (po_some (pv 2))) (pv 3)) (pe_slice sl_txt (pv 0) (po_some (pe_op op_add (pv 2) pe_int)) po_none)))) pss_nil)
      (pss_one (ps_ret (pe_op op_addR (pv 0) (pv 0)))))))))), ?_⟩
    walk_at "rd"
    refine ⟨a, ns, 3, rfl, ha, fun v0 => ?_⟩
    walk_at "rd"
    refine ⟨by omega, by omega, a, ns, 4, rfl, ha, fun v1 => ?_⟩
    walk_at "rd"
    have k0 := Int.emod_nonneg v1 (show (27 : Int) ≠ 0 by decide)
    have k1 := Int.emod_lt_of_pos v1 (show (0 : Int) < 27 by decide)
    obtain ⟨k, ek⟩ := Int.eq_ofNat_of_zero_le k0
    rw [ek]
    have hk : k < 27 := by omega
    obtain ⟨x, hx, xa⟩ : ∃ x, [48, 49, 50, 51, 52, 53, 54, 55, 56, 57, 97, 98, 122, 40, 40, 40, 40, 41, 41, 41, 41, 32, 45, 43, 65, 90, 46][k]? = some x ∧ x < 128 := signs_at k hk
    have m0 := Int.emod_nonneg v0 (show ((l.length : Int) + 1) ≠ 0 by omega)
    have m1 := Int.emod_lt_of_pos v0 (show (0 : Int) < (l.length : Int) + 1 by omega)
    obtain ⟨m, em⟩ := Int.eq_ofNat_of_zero_le m0
    rw [em]
    refine ⟨by decide, by decide, x, atI_nat hx, a, ns, 2, rfl, ha, fun v2 => ?_⟩
    walk_at "rd"
    have em1 : cutN l (some ((m : Int) + 1)) none = l.drop (m + 1) := by rw [show ((m : Int) + 1) = ((m + 1 : Nat) : Int) by omega]; exact cutN_from _ _
    rw [show cutN l none (some (m : Int)) = l.take m from cutN_to l m, show cutN l (some (m : Int)) none = l.drop m from cutN_from l m, em1]
    have lt : (l.take m).length ≤ l.length := by rw [List.length_take]; omega
    have ld : (l.drop m).length ≤ l.length := by rw [List.length_drop]; omega
    have le : (l.drop (m + 1)).length ≤ l.length := by rw [List.length_drop]; omega
    have at_ : Ascii (l.take m) := fun z hz => asc z (List.mem_of_mem_take hz)
    have ad : Ascii (l.drop m) := fun z hz => asc z (List.mem_of_mem_drop hz)
    have ae : Ascii (l.drop (m + 1)) := fun z hz => asc z (List.mem_of_mem_drop hz)
    have ap : ∀ {p r : List Nat}, Ascii p → Ascii r → Ascii (p ++ r) := fun {p r} h1 h2 z hz => (List.mem_append.mp hz).elim (h1 z) (h2 z)
    have a1 : Ascii [x] := fun z hz => by rw [List.mem_singleton.mp hz]; exact xa
    have l1 : (l.take m ++ [x]).length ≤ l.length + 1 := by rw [List.length_append]; simp only [List.length_cons, List.length_nil]; omega
    refine ⟨by decide, ite2 (fun _ => ⟨by omega, by omega, by omega, by omega, q _ (ap (ap at_ a1) ad) ?_⟩) (fun _ => ite2 (fun _ => ⟨by omega, by omega, by omega, q _ (ap at_ ae) ?_⟩) (fun _ => ite2 (fun _ => ⟨by omega, by omega, by omega, by omega, q _ (ap (ap at_ a1) ae) ?_⟩) (fun _ => ⟨by omega, q _ (ap asc asc) ?_⟩)))⟩ <;> (rw [List.length_append]; omega)

end
end Tb

namespace Tb
open PySem L2 TB TM
local macro_rules | `(tactic| walk_at "rd") => `(tactic| try simp only [tTryI, rFind3, rStarts, rJoin, tFstr, rExtendT, rCount, iRevT, tSeq, tNext, tIfS, tRet, tRetN, tDrop, tAsg, gName, gNil, gCons, gSub, gTup, tVar, tC, tOp, tUn, rI, rI0, rU, rEq, rNe, tTest, tB, tChain, tChain3, rSortedB, rSortedP, rSortedD, rListD, rDictP, iDict, tThaw, rDClear, tDisp, tPairs, kit_dict_dict, rIndex, rIsX, rIsXT, rIsXd, rIsXV, rIsXTd, rIsO, rIxS2, rSlS, rFind, rIndexT, rLenT, rStrT, rIntT, rAddT, rMulT, rInT, iTxt, tx_str, tTxts, kit_str_str, rIn, tListRev, tAug, ipI, tAnd, tOr, tNot, tAndV, tOrV, tNotV, tIf, tIsN, tNotN, tCB, tNil, tCons, tTup, tLst, tTupG, tLstG, tCall, tRaise, tTryC, tXF, sXF, tRaiseI, tTryA, tTryE, thC, thA, thNil, Ends.less, tFor_eq, tComp_eq, iList, iTup, iRng1, iRng2, iEnum, iZip, tNoIf, rIxL, rIxT, rSetL, tBM, tBM0, rAppend, tFld, sFld, tMake, tMakeN, tMethD, tTryM, tNever, rExtend, rGeL, rInS, rClear, tDNewK, tDIn, tDNotIn, tDGet, sDPut, rEqL, rEqS, rBest, rRep, rCat, tSl, tPart, tNoPart, rSlL, capt, CDiv, scal_ii, scal_bb, scal_ss, scal_nn, scal_in, scal_ni, List.map_cons, List.map_nil, List.append_nil, List.nil_append, List.cons_append, List.length_cons, List.length_nil, List.length_map, Int.zero_add, List.getElem?_cons_zero, List.getElem?_cons_succ, List.set_cons_zero, List.set_cons_succ, Option.some.injEq, Option.join_some, Option.bind_some, Option.bind_none, V.int.injEq, V.bl.injEq, V.ref.injEq, V.str.injEq, V.ty.injEq, List.cons.injEq, and_true, true_and, exists_and_left, exists_eq_left', exists_eq_left, exists_eq_right, exists_eq_right', exists_eq, exists_eq', exists_const, eq_self, decide_true, decide_false, Option.isSome_none, Option.isSome_some, Bool.false_eq_true, Bool.not_true, Bool.not_false, reduceIte, reduceCtorEq, false_and, and_false, or_false, false_or, start_def, cxOf_K, cxComp_K, and_assoc, tyOf_int, kit_int_int, kit_int_bool, kit_list_list, rep0, rep1, rep2, rep3, rep4, rep5, rep6, rep7, rep8, rep9, rep10, rep11, rep12, rLen, rIsi, rListOf, rTupOf, rSum, rAll, rAny, rSorted, kit_tuple_tuple, Nat.sub_self, Nat.reduceAdd, Nat.reduceSub, Nat.reduceEqDiff])

section
variable {P : Program} {w : World} {K : PySem.W.Frag} {mg : Str → Option Value} {base : Heap}

/-- what the law asks of the class of the refusals -/
structure X16 (K : PySem.W.Frag) (TE NAR CL OL OOB NP NT NW : Addr) : Prop where
  st : SubC K NW TE true
  xi : XIs K NW
  no : PySem.W.kitAny K (.ref NW) ([CL, NT, NAR, NP, OL, OOB].map Value.ref) = some false
  self : PySem.W.kitOne K (.ref NW) (.ref NW) = some true
  kv : PySem.W.kitOne K (.ref NW) (.type "ValueError") = some true
theorem dictIn_none {H : Hp} : DictIn H none := fun _ e => by cases e
theorem none_of {H H' : Hp} {D : Addr} (s : Same H H') (h : H' D = none) : H D = none := by
  cases e : H D with
  | none => rfl
  | some u => rw [s _ _ e] at h; cases h
def fewL : List (List Nat) := [[], [40, 41], [40, 45, 48, 41], [40, 48, 48, 41], [40, 48, 51, 54, 41], [40, 51, 53, 41], [40, 51, 54, 41], [40, 49, 48, 48, 48, 48, 48, 49, 41], [40, 45, 49, 48, 48, 48, 48, 48, 48, 41], [40, 45, 49, 41, 40], [40, 40, 51, 54, 41, 41],
  List.replicate 61 48, List.replicate 60 122, [40, 48, 41], [40, 43, 52, 48, 41], [40, 45, 49, 48, 48, 48, 48, 48, 49, 41], [40, 32, 52, 48, 41], [40, 52, 48, 32, 41], [40, 52, 95, 48, 41], [122, 48, 40, 45, 53, 41], [40, 52, 48]]
theorem fewL_ok : ∀ l ∈ fewL, Ascii l ∧ l.length ≤ 2000 := by
  unfold Ascii
  decide +kernel
abbrev s__law_few : Stmt := top 34
theorem sc__law_few : FnScope ["_law_some"] [] (defScope s__law_few) := ⟨rfl, rfl, rfl, by decide +kernel, rfl, by decide +kernel, by decide +kernel⟩
def spFew : Sp := fun vs H Q _ => vs = [] ∧ ∀ H' D (ls : List (List Nat)), Same H H' → H D = none → (∀ l ∈ ls, Ascii l ∧ l.length ≤ 2000) → ls.length ≤ 100 → H' D = some (.lst (ls.map fun l => V.str (tx l))) → Q (.ref D) H'
theorem ok_few {f : Addr} {fd : FuncData} (h : Has K mg "_law_few" s__law_few [] f fd) (B : Blt mg) : Ok P w K mg base "_law_few" [] 2 spFew := by
  refine h.ok sc__law_few (fun vs H Q E h => ?_) (fun cdv A outer s H vs Q E hr h => ?_)
  · obtain ⟨rfl, _⟩ := h
    rfl
  · obtain ⟨rfl, q⟩ := h
    refine ⟨_, (@pss_cons _ _ _ _ _ (@ps_set _ _ 0 _ _ _ _ sc__law_few.nd rfl (by first | exact Or.inl rfl | exact Or.inr rfl) (@pe_lst _ _ _ _ (@pa_txts _ _ [[], [40, 41], [40, 45, 48, 41], [40, 48, 48, 41], [40, 48, 51, 54, 41], [40, 51, 53, 41], [40, 51, 54, 41], [40, 49, 48, 48, 48, 48, 48, 49, 41], [40, 45, 49, 48, 48, 48, 48, 48, 48, 41], [40, 45, 49, 41, 40], [40, 40, 51, 54, 41, 41]] (by decide +kernel))) (by rfl) (by first | exact .inl rfl | exact .inr rfl | assumption)) (@pss_one _ _ _ (@ps_ret _ _ _ _ (@pe_op _ _ _ _ _ _ _ _ op_cat (pv 0) (@pe_lst _ _ _ _ (@pa_cons _ _ _ _ _ (@pe_op _ _ _ _ _ _ _ _ op_mulR (@pe_txt _ _ _ _ [48] (by decide +kernel)) pe_int) (@pa_cons _ _ _ _ _ (@pe_op _ _ _ _ _ _ _ _ op_mulR (@pe_txt _ _ _ _ [122] (by decide +kernel)) pe_int) (@pa_txts _ _ [[40, 48, 41], [40, 43, 52, 48, 41], [40, 45, 49, 48, 48, 48, 48, 48, 49, 41], [40, 32, 52, 48, 41], [40, 52, 48, 32, 41], [40, 52, 95, 48, 41], [122, 48, 40, 45, 53, 41], [40, 52, 48]] (by decide +kernel)) (by rfl)) (by rfl))))))), ?_⟩
    walk_at "rd"
    refine ⟨by decide, fun p hp => ⟨61, rfl, by decide, by decide, 60, rfl, by decide, by decide, by decide, fun p1 hp1 => ?_⟩⟩
    have ne : p1 ≠ p := fun z => by rw [z, upd_same] at hp1; cases hp1
    have hp2 : H p1 = none := by rw [upd_ne ne] at hp1; exact hp1
    refine ⟨_, by rw [upd_ne (Ne.symm ne), upd_same], _, upd_same, ?_⟩
    walk_at "rd"
    refine ⟨by decide, fun p2 hp3 => ?_⟩
    exact q _ p2 fewL ((same_upd hp).trans ((same_upd hp1).trans (same_upd hp3))) (none_of (same_upd hp) (none_of (same_upd hp1) hp3)) fewL_ok (by decide) upd_same

abbrev s__law_refused : Stmt := top 37
theorem sc__law_refused : FnScope ["_law_text", "error"] ["_law_text"] (defScope s__law_refused) := ⟨rfl, rfl, rfl, by decide +kernel, rfl, by decide +kernel, by decide +kernel⟩
def spRefused (K : PySem.W.Frag) : Sp := fun vs H Q _ => ∃ x : V, vs = [x] ∧ (NotStr K H x ∨ ∃ l : List Nat, x = .str (tx l) ∧ Ascii l ∧ l.length ≤ 2000 ∧ ∀ ns, ¬ Wr l ns) ∧ ∀ H', Same H H' → Q (.bl true) H'
theorem oku_refused {f TE NAR CL OL OOB NP NT NW : Addr} {fd : FuncData} (h : Has K mg "_law_refused" s__law_refused ["_law_text"] f fd) (B : Blt mg) (b_ValueError : mg "ValueError" = none) (x16 : X16 K TE NAR CL OL OOB NP NT NW) (m_TossError : mg "TossError" = some (.ref TE)) (m_NotARow : mg "NotARow" = some (.ref NAR)) (m_Clash : mg "Clash" = some (.ref CL)) (m_OtherLength : mg "OtherLength" = some (.ref OL)) (m_OutOfBounds : mg "OutOfBounds" = some (.ref OOB)) (m_NotPlain : mg "NotPlain" = some (.ref NP)) (m_NoThrow : mg "NoThrow" = some (.ref NT)) (m_NotWritten : mg "NotWritten" = some (.ref NW))
    (o_read : OkU P w K mg base "read" ["text"] 6 (spRead K NW)) : OkU P w K mg base "_law_refused" ["_law_text"] 7 (spRefused K) := by
  refine h.oku sc__law_refused (fun vs H Q E h => ?_) (fun cdv A outer s H vs Q E hr h => ?_)
  · obtain ⟨x, rfl, _⟩ := h
    rfl
  · obtain ⟨x, rfl, hx, q⟩ := h
    refine ⟨_, (pssU_cons (psU_tryE isDef_cxOf o_read (hr.mono (by decide)) rfl (fun _ => (pa_cons (pv 0) pa_nil)) (ph_as (K := K) (i := 1) isDef_cxOf rfl rfl m_TossError sc__law_refused.nd rfl rfl (fun _ => (pss_cons (ps_if (pt_val (pe_callB (call_isXTd (K := K) rfl) rfl B.isinstance_ bt_isinstance (pa_cons (pv 1) (pa_cons (pe_tup (pa_cons (pe_cls m_Clash) (pa_cons (pe_cls m_NoThrow) (pa_cons (pe_cls m_NotARow) (pa_cons (pe_cls m_NotPlain) (pa_cons (pe_cls m_OtherLength) (pa_cons (pe_cls m_OutOfBounds) pa_nil))))))) pa_nil)))) (pss_one (ps_ret pe_bl)) pss_nil)
      (pss_one (ps_ret (pe_and (pe_callB (call_isXd (K := K) rfl) rfl B.isinstance_ bt_isinstance (pa_cons (pv 1) (pa_cons (pe_cls m_NotWritten) pa_nil))) (pe_one (pe_callB (call_isXV (K := K) rfl) rfl B.isinstance_ bt_isinstance (pa_cons (pv 1) (pa_cons (pe_tyN b_ValueError bt_ValueError) pa_nil))))))))) ph_nil))
      (PSs.up (pss_one (ps_ret pe_bl)))), ?_⟩
    walk_at "rd"
    have aux : ∀ EE : XK, (∀ H2, Same H H2 → EE (.ref NW) none H2) → spRead K NW [x] H (fun _ H2 => Q (V.bl false) H2) EE := fun EE hE => by
      rcases hx with ns | ⟨l, rfl, asc, hl, no⟩
      · exact ⟨x, rfl, .inl ⟨ns, hE _ (Same.refl _)⟩⟩
      · exact ⟨_, rfl, .inr ⟨l, rfl, asc, hl, fun _ _ ns _ _ wr _ => absurd wr (no ns), fun H2 s2 _ => hE H2 s2⟩⟩
    refine aux _ fun H2 s2 => ⟨NW, rfl, true, x16.st, ?_⟩
    rw [if_pos rfl]
    intro a ha
    refine ⟨by decide, fun p hp => ?_⟩
    have t2 : upd (upd H2 a (excO a NW none)) p (HO.tup [V.ref CL, V.ref NT, V.ref NAR, V.ref NP, V.ref OL, V.ref OOB]) a = some (excO a NW none) := (same_upd hp) _ _ upd_same
    have t1 := s2.trans ((same_upd ha).trans (same_upd (o := HO.tup [V.ref CL, V.ref NT, V.ref NAR, V.ref NP, V.ref OL, V.ref OOB]) hp))
    refine ⟨NW, [CL, NT, NAR, NP, OL, OOB], none, t2, dictIn_none, upd_same, x16.xi, false, x16.no, ?_⟩
    walk_at "rd"
    refine ⟨NW, none, t2, dictIn_none, x16.xi, true, x16.self, ?_⟩
    walk_at "rd"
    refine ⟨NW, none, t2, dictIn_none, x16.xi, true, x16.kv, ?_⟩
    exact q _ t1
end
end Tb

namespace Tb
open PySem L2 TB
local macro_rules | `(tactic| walk_at "rd") => `(tactic| try simp only [rExtendT, rCount, iRevT, tSeq, tNext, tIfS, tRet, tRetN, tDrop, tAsg, gName, gNil, gCons, gSub, gTup, tVar, tC, tOp, tUn, rI, rI0, rU, rEq, rNe, tTest, tB, tChain, tChain3, rSortedB, rSortedP, rSortedD, rListD, rDictP, iDict, tThaw, rDClear, tDisp, tPairs, kit_dict_dict, rIndex, rIsX, rIsXT, rIsXd, rIsXV, rIsXTd, rIsO, rIxS2, rSlS, rFind, rIndexT, rLenT, rStrT, rIntT, rAddT, rMulT, rInT, iTxt, tx_str, tTxts, kit_str_str, rIn, tListRev, tAug, ipI, tAnd, tOr, tNot, tAndV, tOrV, tNotV, tIf, tIsN, tNotN, tCB, tNil, tCons, tTup, tLst, tTupG, tLstG, tCall, tRaise, tTryC, tXF, sXF, tRaiseI, tTryA, tTryE, thC, thA, thNil, Ends.less, tFor_eq, tComp_eq, iList, iTup, iRng1, iRng2, iEnum, iZip, tNoIf, rIxL, rIxT, rSetL, tBM, tBM0, rAppend, tFld, sFld, tMake, tMakeN, tMethD, tTryM, tNever, rExtend, rGeL, rInS, rClear, tDNewK, tDIn, tDNotIn, tDGet, sDPut, rEqL, rEqS, rBest, rRep, rCat, tSl, tPart, tNoPart, rSlL, capt, CDiv, scal_ii, scal_bb, scal_ss, scal_nn, scal_in, scal_ni, List.map_cons, List.map_nil, List.append_nil, List.nil_append, List.cons_append, List.length_cons, List.length_nil, List.length_map, Int.zero_add, List.getElem?_cons_zero, List.getElem?_cons_succ, List.set_cons_zero, List.set_cons_succ, Option.some.injEq, Option.join_some, Option.bind_some, Option.bind_none, V.int.injEq, V.bl.injEq, V.ref.injEq, V.str.injEq, V.ty.injEq, List.cons.injEq, and_true, true_and, exists_and_left, exists_eq_left', exists_eq_left, exists_eq_right, exists_eq_right', exists_eq, exists_eq', exists_const, eq_self, decide_true, decide_false, Option.isSome_none, Option.isSome_some, Bool.false_eq_true, Bool.not_true, Bool.not_false, reduceIte, reduceCtorEq, false_and, and_false, or_false, false_or, start_def, cxOf_K, cxComp_K, and_assoc, tyOf_int, kit_int_int, kit_int_bool, kit_list_list, rep0, rep1, rep2, rep3, rep4, rep5, rep6, rep7, rep8, rep9, rep10, rep11, rep12, rLen, rIsi, rListOf, rTupOf, rSum, rAll, rAny, rSorted, kit_tuple_tuple, Nat.sub_self, Nat.reduceAdd, Nat.reduceSub, Nat.reduceEqDiff])

section
variable {P : Program} {w : World} {K : PySem.W.Frag} {mg : Str → Option Value} {base : Heap}

abbrev s__law_same : Stmt := top 30
theorem sc__law_same : FnScope ["_law_found", "_law_due", "_law_k"] ["_law_found", "_law_due"] (defScope s__law_same) := ⟨rfl, rfl, rfl, by decide +kernel, rfl, by decide +kernel, by decide +kernel⟩
def spSame : Sp := fun vs H Q _ => ∃ (a b : Addr) (xs ys : List Int), vs = [.ref a, .ref b] ∧ H a = some (.lst (xs.map V.int)) ∧ H b = some (.lst (ys.map V.int)) ∧ xs.length ≤ 1000 ∧ xs = ys ∧ Q (.bl true) H
theorem ok_same {f : Addr} {fd : FuncData} (h : Has K mg "_law_same" s__law_same ["_law_found", "_law_due"] f fd) (B : Blt mg) : Ok P w K mg base "_law_same" ["_law_found", "_law_due"] 2 spSame := by
  refine h.ok sc__law_same (fun vs H Q E h => ?_) (fun cdv A outer s H vs Q E hr h => ?_)
  · obtain ⟨a, b, xs, ys, rfl, _⟩ := h
    rfl
  · obtain ⟨a, b, xs, ys, rfl, ha, hb, hl, rfl, q⟩ := h
    refine ⟨_, (pss_cons (ps_if (PW.pt (pw_or (pt_not (pt_val (pe_callB (call_isinstK (K := K) rfl) rfl B.isinstance_ bt_isinstance (pa_cons (pv 0) (pa_cons (pe_tyN B.list_ bt_list) pa_nil))))) (pw_or1 (pt_cmpR op_ne (pe_callB (call_len_seqK (K := K) rfl) rfl B.len_ bt_len (pa_cons (pv 0) pa_nil)) (pe_callB (call_len_seqK (K := K) rfl) rfl B.len_ bt_len (pa_cons (pv 1) pa_nil)) (nomark _))))) (pss_one (ps_ret pe_bl)) pss_nil)
      (pss_cons (ps_for ownX rfl (pi_range1 rfl B.range_ (pa_cons (pe_callB (call_len_seqK (K := K) rfl) rfl B.len_ bt_len (pa_cons (pv 1) pa_nil)) pa_nil)) (pg_name (i := 2) sc__law_same.nd rfl (by first | exact Or.inl rfl | exact Or.inr rfl)) (pss_one (ps_if (PW.pt (pw_or (pt_not (pt_val (pe_callB (call_isinstK (K := K) rfl) rfl B.isinstance_ bt_isinstance (pa_cons (pe_ix (ix_listK (K := K) rfl) (pv 0) (pv 2) (fun _ _ => rfl)) (pa_cons (pe_tyN B.int_ bt_int) pa_nil))))) (pw_or (pt_val (pe_callB (call_isinstK (K := K) rfl) rfl B.isinstance_ bt_isinstance (pa_cons (pe_ix (ix_listK (K := K) rfl) (pv 0) (pv 2) (fun _ _ => rfl)) (pa_cons (pe_tyN B.bool_ bt_bool) pa_nil)))) (pw_or1 (pt_cmpR op_ne (pe_ix (ix_listK (K := K) rfl) (pv 0) (pv 2) (fun _ _ => rfl)) (pe_ix (ix_listK (K := K) rfl) (pv 1) (pv 2) (fun _ _ => rfl)) (nomark _)))))) (pss_one (ps_ret pe_bl)) pss_nil)))
      (pss_one (ps_ret pe_bl)))), ?_⟩
    walk_at "rd"
    refine ⟨_, .lst ha, _, kit_list_list, ?_⟩
    walk_at "rd"
    refine ⟨_, .inl (.of ha), _, .inl (.of hb), ?_⟩
    walk_at "rd"
    refine ⟨_, .inl (.of hb), ?_⟩
    walk_at "rd"
    refine ⟨by omega, by omega, for_range (fun i σ H' => H' = H ∧ ∃ o, σ = [some (V.ref a), some (V.ref b), o]) ⟨rfl, _, rfl⟩ (fun i σ H' hlt pv => ?_) (fun σ H' pv => ?_)⟩
    · obtain ⟨rfl, o, rfl⟩ := pv
      rw [Int.toNat_natCast] at hlt
      walk_at "rd"
      refine ⟨_, .of ha, _, at_ints hlt, ?_⟩
      walk_at "rd"
      refine ⟨_, .of ha, _, at_ints hlt, ?_⟩
      walk_at "rd"
      refine ⟨_, .of ha, _, at_ints hlt, _, .of hb, _, at_ints hlt, ?_⟩
      walk_at "rd"
    · obtain ⟨rfl, o, rfl⟩ := pv
      exact q

end
end Tb

namespace L2
open PySem PySem.Spec PyProof.Rows
theorem pe_callO0 {X : Cx} {k : Nat} {ps : List Str} {sp : Sp} {E : XK} {x : Str} {p pos : Pos} (o : Ok X.prog X.w X.K X.mg X.base x ps k sp) (hr : Room k X.A) (hg : Gl X x) (hx : Passes (CXf X.prog X.w) X E) (hdb : (x == ("__debug__" : Str)) = false := by decide) : PE X (.Call (.Name x p) [] [] pos) (tCall sp [] E tNil) := by
  obtain ⟨f, fd, F, hm, hk, hb⟩ := o
  exact pe_call0 F hr hg hm hk hb .nil hx hdb
theorem Has.fnu {P : Program} {w : World} {K : PySem.W.Frag} {mg : Str → Option Value} {base : Heap} {x : Str} {st : Stmt} {ps : List Str} {f : Addr} {fd : FuncData} {N : List Str} {k : Nat} {sp : Sp} (h : Has K mg x st ps f fd) (S : FnScope N ps (defScope st)) (len : ∀ vs H Q E, sp vs H Q E → vs.length = ps.length)
    (hbody : ∀ (cdv : Value) (A : Around) (outer : List Env) (s : Shared) (H : Hp) (vs : List V) (Q : VK) (E : XK), Room k (A.deeper (envOfC x (defScope st) s.heap.objs.size f cdv)) → sp vs H Q E →
      ∃ t, PSsU (cxOf (CXf P w) P w K mg base N x (defScope st) f cdv A outer s H E) (defBody st) t ∧ t { nx := fun _ H' => Q .non H', rt := Q } (start N vs) H) : FnU P w K mg base (CXf P w) (k + 1) f fd ps sp := by
  obtain ⟨oc, od, kV, doc, pm, an, cdv, ct, osl, rfl, lk, hcd⟩ := h.fn.ex
  exact fnU_of lk hcd S len fun A outer s H vs Q E hr hsp => hbody cdv A outer s H vs Q E hr hsp
end L2
namespace Tb
open PySem L2 TB TM
local macro_rules | `(tactic| walk_at "rd") => `(tactic| try simp only [tTryI, rFind3, rStarts, rJoin, tFstr, rExtendT, rCount, iRevT, tSeq, tNext, tIfS, tRet, tRetN, tDrop, tAsg, gName, gNil, gCons, gSub, gTup, tVar, tC, tOp, tUn, rI, rI0, rU, rEq, rNe, tTest, tB, tChain, tChain3, rSortedB, rSortedP, rSortedD, rListD, rDictP, iDict, tThaw, rDClear, tDisp, tPairs, kit_dict_dict, rIndex, rIsX, rIsXT, rIsXd, rIsXV, rIsXTd, rIsO, rIxS2, rSlS, rFind, rIndexT, rLenT, rStrT, rIntT, rAddT, rMulT, rInT, iTxt, tx_str, tTxts, kit_str_str, rIn, tListRev, tAug, ipI, tAnd, tOr, tNot, tAndV, tOrV, tNotV, tIf, tIsN, tNotN, tCB, tNil, tCons, tTup, tLst, tTupG, tLstG, tCall, tRaise, tTryC, tXF, sXF, tRaiseI, tTryA, tTryE, thC, thA, thNil, Ends.less, tFor_eq, tComp_eq, iList, iTup, iRng1, iRng2, iEnum, iZip, tNoIf, rIxL, rIxT, rSetL, tBM, tBM0, rAppend, tFld, sFld, tMake, tMakeN, tMethD, tTryM, tNever, rExtend, rGeL, rInS, rClear, tDNewK, tDIn, tDNotIn, tDGet, sDPut, rEqL, rEqS, rBest, rRep, rCat, tSl, tPart, tNoPart, rSlL, capt, CDiv, scal_ii, scal_bb, scal_ss, scal_nn, scal_in, scal_ni, List.map_cons, List.map_nil, List.append_nil, List.nil_append, List.cons_append, List.length_cons, List.length_nil, List.length_map, Int.zero_add, List.getElem?_cons_zero, List.getElem?_cons_succ, List.set_cons_zero, List.set_cons_succ, Option.some.injEq, Option.join_some, Option.bind_some, Option.bind_none, V.int.injEq, V.bl.injEq, V.ref.injEq, V.str.injEq, V.ty.injEq, List.cons.injEq, and_true, true_and, exists_and_left, exists_eq_left', exists_eq_left, exists_eq_right, exists_eq_right', exists_eq, exists_eq', exists_const, eq_self, decide_true, decide_false, Option.isSome_none, Option.isSome_some, Bool.false_eq_true, Bool.not_true, Bool.not_false, reduceIte, reduceCtorEq, false_and, and_false, or_false, false_or, start_def, cxOf_K, cxComp_K, and_assoc, tyOf_int, kit_int_int, kit_int_bool, kit_list_list, rep0, rep1, rep2, rep3, rep4, rep5, rep6, rep7, rep8, rep9, rep10, rep11, rep12, rLen, rIsi, rListOf, rTupOf, rSum, rAll, rAny, rSorted, kit_tuple_tuple, Nat.sub_self, Nat.reduceAdd, Nat.reduceSub, Nat.reduceEqDiff])

section
variable {P : Program} {w : World} {K : PySem.W.Frag} {mg : Str → Option Value} {base : Heap}


abbrev s_law : Stmt := top 38
theorem sc_law : FnScope ["_law_script", "_law_row", "_law_handed", "_law_text", "_law_thing", "_law_other", "_law_due"] ["_law_script"] (defScope s_law) := ⟨rfl, rfl, rfl, by decide +kernel, rfl, by decide +kernel, by decide +kernel⟩
def spLaw (K : PySem.W.Frag) : Sp := fun vs H Q _ => ∃ (a : Addr) (ns : List Int), vs = [.ref a] ∧ SqL K H a (ns.map V.int) ∧ ∀ H', Q (.bl true) H'
theorem oku_law {f : Addr} {fd : FuncData} {NW NAR : Addr} (h : Has K mg "law" s_law ["_law_script"] f fd) (B : Blt mg) (b_str : mg "str" = none) (o__law_row_by : Ok P w K mg base "_law_row_by" ["_law_script"] 3 (spRowBy K)) (o_written : Ok P w K mg base "written" ["row"] 5 (spWritten NAR)) (o__law_text_of : Ok P w K mg base "_law_text_of" ["_law_row"] 2 (spTextOf K)) (o__law_same : Ok P w K mg base "_law_same" ["_law_found", "_law_due"] 2 spSame) (o_read : OkU P w K mg base "read" ["text"] 6 (spRead K NW))
    (o__law_refused : OkU P w K mg base "_law_refused" ["_law_text"] 7 (spRefused K)) (o__law_other_by : Ok P w K mg base "_law_other_by" ["_law_text", "_law_script"] 3 (spOtherBy K)) (o__law_few : Ok P w K mg base "_law_few" [] 2 spFew) (o__law_row_of : Ok P w K mg base "_law_row_of" ["_law_text"] 3 spRowOf) : FnU P w K mg base (CXf P w) 8 f fd ["_law_script"] (spLaw K) := by
  refine h.fnu sc_law (fun vs H Q E h => ?_) (fun cdv A outer s H vs Q E hr h => ?_)
  · obtain ⟨a, ns, rfl, _⟩ := h
    rfl
  · obtain ⟨a, ns, rfl, ha, q⟩ := h
    have big := line_big
    refine ⟨_, (pssU_cons (PS.up (ps_set (i := 1) sc_law.nd rfl (by first | exact Or.inl rfl | exact Or.inr rfl) (pe_callO o__law_row_by (hr.mono (by decide)) rfl passX (pa_cons (pv 0) pa_nil))))
      (pssU_cons (PS.up (ps_set (i := 2) sc_law.nd rfl (by first | exact Or.inl rfl | exact Or.inr rfl) (pe_callTy (call_list_ofK (K := K) rfl) rfl B.list_ bt_list (pa_cons (pv 1) pa_nil))))
      (pssU_cons (PS.up (ps_set (i := 3) sc_law.nd rfl (by first | exact Or.inl rfl | exact Or.inr rfl) (pe_callO o_written (hr.mono (by decide)) rfl passX (pa_cons (pv 2) pa_nil))))
      (pssU_cons (psU_if (PWU.pt (pwU_or (PT.up (pt_not (pt_val (pe_callB (call_isinstK (K := K) rfl) rfl B.isinstance_ bt_isinstance (pa_cons (pv 3) (pa_cons (pe_tyN b_str bt_str) pa_nil)))))) (pwU_or (PT.up (pt_cmpR op_ne (pv 3) (pe_callO o__law_text_of (hr.mono (by decide)) rfl passX (pa_cons (pv 1) pa_nil)) (nomark _))) (pwU_or (PT.up (pt_cmpR (op_neLK (K := K) rfl hr.units) (pv 2) (pv 1) (nomark _))) (pwU_or1 (ptU_not (ptU_val (peU_callO (Ok.up o__law_same) (hr.mono (by decide)) rfl passX (paU_cons (peU_callO o_read (hr.mono (by decide)) rfl passX (PA.up (pa_cons (pv 3) pa_nil))) (PA.up (pa_cons (pv 1) pa_nil))))))))))) (PSs.up (pss_one (ps_ret pe_bl))) (PSs.up pss_nil))
      (pssU_cons (psU_for ownX rfl (pi_listK (K := K) rfl (pe_lst (pa_cons pe_non (pa_cons pe_int (pa_cons (pe_lst (pa_cons (pe_txt [53] (by decide +kernel)) pa_nil)) (pa_cons pe_bl pa_nil)))))) (pg_name (i := 4) sc_law.nd rfl (by first | exact Or.inl rfl | exact Or.inr rfl)) (pssU_one (psU_if (ptU_not (ptU_val (peU_callO o__law_refused (hr.mono (by decide)) rfl passX (PA.up (pa_cons (pv 4) pa_nil))))) (PSs.up (pss_one (ps_ret pe_bl))) (PSs.up pss_nil))))
      (pssU_cons (psU_for ownX rfl (pi_listK (K := K) rfl (pe_op op_cat (pe_lst (pa_cons (pe_callO o__law_other_by (hr.mono (by decide)) rfl passX (pa_cons (pv 3) (pa_cons (pv 0) pa_nil))) pa_nil)) (pe_callO0 o__law_few (hr.mono (by decide)) rfl passX))) (pg_name (i := 5) sc_law.nd rfl (by first | exact Or.inl rfl | exact Or.inr rfl)) (pssU_cons (PS.up (ps_set (i := 6) sc_law.nd rfl (by first | exact Or.inl rfl | exact Or.inr rfl) (pe_callO o__law_row_of (hr.mono (by decide)) rfl passX (pa_cons (pv 5) pa_nil))))
      (pssU_one (psU_if (PT.up (pt_cmp (pc_isN (pv 6)))) (pssU_one (psU_if (ptU_not (ptU_val (peU_callO o__law_refused (hr.mono (by decide)) rfl passX (PA.up (pa_cons (pv 5) pa_nil))))) (PSs.up (pss_one (ps_ret pe_bl))) (PSs.up pss_nil))) (pssU_one (psU_if (ptU_not (ptU_val (peU_callO (Ok.up o__law_same) (hr.mono (by decide)) rfl passX (paU_cons (peU_callO o_read (hr.mono (by decide)) rfl passX (PA.up (pa_cons (pv 5) pa_nil))) (PA.up (pa_cons (pv 6) pa_nil)))))) (PSs.up (pss_one (ps_ret pe_bl))) (PSs.up pss_nil)))))))
      (PSs.up (pss_one (ps_ret pe_bl))))))))), ?_⟩
    walk_at "rd"
    refine ⟨a, ns, rfl, ha, fun H1 D ms s1 hD l1 l2 hb hD1 => ⟨D, rfl, _, .inl (.of hD1), fun hh hl => ⟨hh, ms, rfl, upd_same, by omega, fun H2 s2 => ⟨fun _ => ?_, fun nR => absurd ⟨l1, l2, hb⟩ nR⟩⟩⟩⟩
    have hD2 := s2 _ _ ((same_upd (o := HO.lst (ms.map V.int)) hl) _ _ hD1)
    have hh2 := s2 _ _ (upd_same (H := H1) (a := hh) (o := HO.lst (ms.map V.int)))
    have S2 : Same H H2 := s1.trans ((same_upd hl).trans s2)
    clear s2
    have lw : (wrL ms).length ≤ 600 := by have := wrL_len hb; omega
    refine ⟨_, .str _, _, kit_str_str, ?_⟩
    walk_at "rd"
    refine ⟨D, ms, rfl, .of hD2, l2, hb, ?_⟩
    walk_at "rd"
    refine ⟨ms, .of hh2, ms, .of hD2, ?_⟩
    walk_at "rd"
    refine ⟨_, rfl, .inr ⟨wrL ms, rfl, wrL_ascii ms, by omega, fun H3 D3 ns3 s3 hD3 wr hD3' => ?_, fun H3 s3 no => absurd ⟨l1, l2, hb, rfl⟩ (no ms)⟩⟩
    obtain rfl : ms = ns3 := wrL_inj wr.2.2.2
    refine ⟨D3, D, ms, ms, rfl, hD3', s3 _ _ hD2, by omega, rfl, true, rfl, ?_⟩
    have S3 := S2.trans s3
    walk_at "rd"
    refine ⟨by decide, fun p hp => ⟨by decide, fun p1 hp1 => ⟨⟨_, .of upd_same⟩, ?_⟩⟩⟩
    have S4 : Same H (upd (upd H3 p (HO.lst [V.str (tx [53])])) p1 (HO.lst [V.non, V.int 5, V.ref p, V.bl true])) := S3.trans ((same_upd hp).trans (same_upd hp1))
    have eD : (upd (upd H3 p (HO.lst [V.str (tx [53])])) p1 (HO.lst [V.non, V.int 5, V.ref p, V.bl true])) p = some (HO.lst [V.str (tx [53])]) := (same_upd hp1) _ _ upd_same
    have e1 : (upd (upd H3 p (HO.lst [V.str (tx [53])])) p1 (HO.lst [V.non, V.int 5, V.ref p, V.bl true])) p1 = some (HO.lst [V.non, V.int 5, V.ref p, V.bl true]) := upd_same
    generalize upd (upd H3 p (HO.lst [V.str (tx [53])])) p1 (HO.lst [V.non, V.int 5, V.ref p, V.bl true]) = H4 at *
    refine for_list (xs := [V.non, V.int 5, V.ref p, V.bl true]) (fun i σ H' => (∃ o1 o2 o3, σ = [some (V.ref a), some (V.ref D), some (V.ref hh), some (V.str (tx (wrL ms))), o1, o2, o3]) ∧ Same H4 H') ⟨⟨_, _, _, rfl⟩, Same.refl _⟩ (fun i σ H' _ pv => .of (pv.2 _ _ e1)) (fun i x σ H' hx pv => ?_) (fun σ H' pv => ?_)
    · obtain ⟨⟨o1, o2, o3, rfl⟩, hs⟩ := pv
      walk_at "rd"
      have hns : NotStr K H' x := by
        have hm := List.mem_of_getElem? hx
        simp only [List.mem_cons, List.not_mem_nil, or_false] at hm
        rcases hm with rfl | rfl | rfl | rfl
        · exact ⟨_, .non, kit_none_str⟩
        · exact ⟨_, .int 5, kit_int_str⟩
        · exact ⟨_, .lst (hs _ _ eD), kit_list_str⟩
        · exact ⟨_, .bl true, kit_bool_str⟩
      exact ⟨x, rfl, .inl hns, fun H'' s'' => ⟨true, rfl, by rw [if_neg (by decide)]; exact hs.trans s''⟩⟩
    · obtain ⟨⟨o1, o2, o3, rfl⟩, hs⟩ := pv
      walk_at "rd"
      have S5 := S4.trans hs
      refine ⟨wrL ms, a, ns, rfl, wrL_ascii ms, by omega, S5.seq ha, fun l' asc' hl' => ⟨by decide, fun p2 hp2 => ⟨rfl, fun H5 D5 ls s5 hD5 hls hle h5 => ⟨D5, rfl, _, s5 _ _ upd_same, _, h5, ?_, fun p3 hp3 => ⟨⟨_, .of upd_same⟩, ?_⟩⟩⟩⟩⟩
      · simp only [List.length_cons, List.length_nil, List.length_map]
        omega
      have all : ∀ x ∈ V.str (tx l') :: ls.map (fun l => V.str (tx l)), ∃ lx, x = V.str (tx lx) ∧ Ascii lx ∧ lx.length ≤ 2000 := by
        intro x hx
        rcases List.mem_cons.mp hx with rfl | hx
        · exact ⟨l', rfl, asc', by omega⟩
        · obtain ⟨lx, hm, rfl⟩ := List.mem_map.mp hx
          exact ⟨lx, rfl, hls lx hm⟩
      have e6 : (upd H5 p3 (HO.lst ([V.str (tx l')] ++ ls.map fun l => V.str (tx l)))) p3 = some (HO.lst ([V.str (tx l')] ++ ls.map fun l => V.str (tx l))) := upd_same
      generalize upd H5 p3 (HO.lst ([V.str (tx l')] ++ ls.map fun l => V.str (tx l))) = H6 at *
      refine for_list (xs := [V.str (tx l')] ++ ls.map fun l => V.str (tx l)) (fun i σ H' => (∃ o1 o2 o3, σ = [some (V.ref a), some (V.ref D), some (V.ref hh), some (V.str (tx (wrL ms))), o1, o2, o3]) ∧ Same H6 H') ⟨⟨_, _, _, rfl⟩, Same.refl _⟩ (fun i σ H' _ pv => .of (pv.2 _ _ e6)) (fun i x σ H' hx pv => ?_) (fun σ H' pv => ?_)
      · obtain ⟨⟨o1, o2, o3, rfl⟩, hs⟩ := pv
        obtain ⟨lx, rfl, ax, lx2⟩ := all x (List.mem_of_getElem? hx)
        walk_at "rd"
        refine ⟨lx, rfl, ax, lx2, fun H7 D7 ns7 s7 hD7 wr7 h7 => ?_, fun H7 s7 no => ?_⟩
        · dsimp only
          rw [if_neg (by simp)]
          refine ⟨_, rfl, .inr ⟨lx, rfl, ax, lx2, fun H8 D8 ns8 s8 hD8 wr8 h8 => ?_, fun H8 s8 no => absurd wr7 (no ns7)⟩⟩
          obtain rfl : ns7 = ns8 := wrL_inj (wr7.2.2.2.symm.trans wr8.2.2.2)
          exact ⟨D8, D7, ns7, ns7, rfl, h8, s8 _ _ h7, by have := wr7.2.1; omega, rfl, true, rfl, by rw [if_neg (by decide)]; exact hs.trans (s7.trans s8)⟩
        · dsimp only
          rw [if_pos (by simp)]
          exact ⟨_, rfl, .inr ⟨lx, rfl, ax, lx2, no⟩, fun H8 s8 => ⟨true, rfl, by rw [if_neg (by decide)]; exact hs.trans (s7.trans s8)⟩⟩
      · obtain ⟨⟨o1, o2, o3, rfl⟩, hs⟩ := pv
        walk_at "rd"
        exact q _
end
end Tb

namespace Tb
open PySem L2 TB TM
theorem walk {l : PySem.W.OpenLaw} {q : Program} {loose : List Str} {XP : (Str → Option Value) → Heap → Prop} {YP : World → Heap → Prop} {d : DefRec} {K : Params → PySem.W.Frag} (hn : l.most = some 63) (hdf : d.params.defaults = [])
    (hY : ∀ (w : World) (h : Heap), YP w h → (K w.params).In h)
    (F : ∀ (w : World) (mg : Str → Option Value) (fa : Addr) (h : Heap), (K w.params).In h → h.Ns mainGlobals mg → mg d.name = some (.ref fa) →
      ∃ fd : FuncData, (∀ (s : Shared) (u : Value), BindsTo s fd ⟨[u], []⟩ [("_law_script", u)]) ∧ ∀ base : Heap, (K w.params).In base → base.Ns mainGlobals mg → FnU l.prog w (K w.params) mg base (CXf l.prog w) 8 fa fd ["_law_script"] (spLaw (K w.params))) :
    WalkU q loose XP YP l.row.toRowW d [] :=
  L2.walkU_of (n := 63) (k := 8) (x := "_law_script") (CX := fun w => CXf l.prog w) (sp := fun w => spLaw (K w.params)) hn (by decide) hdf ⟨rfl, by decide, by decide⟩ hY F (fun _ _ a ns _ _ hS => ⟨a, ns, rfl, hS, fun _ => rfl⟩) fun _ _ _ _ _ z => cxf_no z
theorem bind1 {K : PySem.W.Frag} {mg : Str → Option Value} {x : Str} {st : Stmt} {p : Str} {f : Addr} {fd : FuncData} (h : Has K mg x st [p] f fd) (hp : ∀ (kV doc pm : Value) (an : Option Addr) (cdv ct : Value) (u : Value), bindArgs (PySem.W.fnOf x x (defArgs st) (defBody st) (defScope st) .none kV doc pm an cdv ct) ⟨[u], []⟩ = pure [(p, u)]) (s : Shared) (u : Value) : BindsTo s fd ⟨[u], []⟩ [(p, u)] := by
  obtain ⟨oc, od, kV, doc, pm, an, cdv, ct, osl, rfl, lk, hcd⟩ := h.fn.ex
  exact .of_eq (hp kV doc pm an cdv ct u)
theorem mro_x {K : PySem.W.Frag} {C N : Addr} {nm qn : Str} {bs bm : List Value} {hd : Bool} {sn : List Str} {sub : List Value} {ab : Bool} {col : Option Bool} {dd : Option Addr} {k0 k1 k2 k3 k5 : Option Value} {i : String} (l : K.lookup C = some (excClassObj nm qn C N bs bm hd sn sub ab col dd k0 k1 k2 k3 k5 i)) (v : Value) : PySem.W.mroIn K C v = some ((Value.ref C :: bm).contains v) := by
  unfold PySem.W.mroIn PySem.W.clsIn
  rw [l]
  rfl
theorem cls_x {K : PySem.W.Frag} {C N : Addr} {nm qn : Str} {bs bm : List Value} {hd : Bool} {sn : List Str} {sub : List Value} {ab : Bool} {col : Option Bool} {dd : Option Addr} {k0 k1 k2 k3 k5 : Option Value} {i : String} (l : K.lookup C = some (excClassObj nm qn C N bs bm hd sn sub ab col dd k0 k1 k2 k3 k5 i)) : (PySem.W.clsIn K C).isSome = true := by
  unfold PySem.W.clsIn
  rw [l]
  rfl
theorem kit_x {K : PySem.W.Frag} {C D N M : Addr} {nm qn nm' qn' : Str} {bs bm bs' bm' : List Value} {hd hd' : Bool} {sn sn' : List Str} {sub sub' : List Value} {ab ab' : Bool} {col col' : Option Bool} {dd dd' : Option Addr} {k0 k1 k2 k3 k5 j0 j1 j2 j3 j5 : Option Value} {i i' : String} (l : K.lookup C = some (excClassObj nm qn C N bs bm hd sn sub ab col dd k0 k1 k2 k3 k5 i)) (l' : K.lookup D = some (excClassObj nm' qn' D M bs' bm' hd' sn' sub' ab' col' dd' j0 j1 j2 j3 j5 i')) (t : PySem.W.typeIn K (.ref D) = some (.type "type")) (b : Bool) (hb : (Value.ref C :: bm).contains (.ref D) = b) : PySem.W.kitOne K (.ref C) (.ref D) = some b := by
  unfold PySem.W.kitOne
  by_cases e : C = D
  · subst e
    rw [if_pos (by simp)]
    rw [← hb]
    simp
  · rw [if_neg (by simpa using e)]
    unfold PySem.W.kitCls
    dsimp only
    rw [cls_x l', t]
    unfold PySem.W.subIn
    dsimp only
    rw [mro_x l, hb]
    rfl
theorem kit_v {K : PySem.W.Frag} {TE C N : Addr} {nm qn : Str} {bs : List Value} {hd : Bool} {sn : List Str} {sub : List Value} {ab : Bool} {col : Option Bool} {dd : Option Addr} {k0 k1 k2 k3 k5 : Option Value} {i : String} (l : K.lookup C = some (excClassObj nm qn C N bs [.ref TE, .type "ValueError", .type "Exception", .type "BaseException", .type "object"] hd sn sub ab col dd k0 k1 k2 k3 k5 i)) : PySem.W.kitOne K (.ref C) (.type "ValueError") = some true := by
  unfold PySem.W.kitOne
  rw [if_neg (by simp)]
  unfold PySem.W.kitCls
  dsimp only
  rw [show PySem.W.kitMeta "ValueError" = true by decide +kernel, if_pos rfl]
  unfold PySem.W.subIn
  dsimp only
  rw [mro_x l]
  simp
theorem has_x {TE C D : Addr} (h1 : D ≠ TE) : (Value.ref C :: ([.ref TE, .type "ValueError", .type "Exception", .type "BaseException", .type "object"] : List Value)).contains (.ref D) = decide (C = D) := by
  by_cases e : C = D
  · subst e
    simp
  · simp [e, Ne.symm e, h1]
theorem has_te {TE C : Addr} : (Value.ref C :: ([.ref TE, .type "ValueError", .type "Exception", .type "BaseException", .type "object"] : List Value)).contains (.ref TE) = true := by simp
def X16Is (K : PySem.W.Frag) (mg : Str → Option Value) : Prop := ∃ TE NAR CL OL OOB NP NT NW : Addr, mg "TossError" = some (.ref TE) ∧ mg "NotARow" = some (.ref NAR) ∧ mg "Clash" = some (.ref CL) ∧ mg "OtherLength" = some (.ref OL) ∧ mg "OutOfBounds" = some (.ref OOB) ∧ mg "NotPlain" = some (.ref NP) ∧ mg "NoThrow" = some (.ref NT) ∧ mg "NotWritten" = some (.ref NW) ∧ X16 K TE NAR CL OL OOB NP NT NW
theorem x16_mk {K : PySem.W.Frag} {h : Heap} {mg : Str → Option Value} {TE NAR CL OL OOB NP NT NW : Addr} {nmTE qnTE : Str} {NTE : Addr} {bsTE : List Value} {hdTE : Bool} {snTE : List Str} {subTE : List Value} {abTE : Bool} {colTE : Option Bool} {ddTE : Option Addr} {k0TE k1TE k2TE k3TE k5TE : Option Value} {nmNAR qnNAR : Str} {NNAR : Addr} {bsNAR : List Value} {hdNAR : Bool} {snNAR : List Str} {subNAR : List Value} {abNAR : Bool} {colNAR : Option Bool} {ddNAR : Option Addr} {k0NAR k1NAR k2NAR k3NAR k5NAR : Option Value} {nmCL qnCL : Str} {NCL : Addr} {bsCL : List Value} {hdCL : Bool} {snCL : List Str} {subCL : List Value} {abCL : Bool} {colCL : Option Bool} {ddCL : Option Addr} {k0CL k1CL k2CL k3CL k5CL : Option Value} {nmOL qnOL : Str} {NOL : Addr} {bsOL : List Value} {hdOL : Bool} {snOL : List Str} {subOL : List Value} {abOL : Bool} {colOL : Option Bool} {ddOL : Option Addr} {k0OL k1OL k2OL k3OL k5OL : Option Value} {nmOOB qnOOB : Str} {NOOB : Addr} {bsOOB : List Value} {hdOOB : Bool} {snOOB : List Str} {subOOB : List Value} {abOOB : Bool} {colOOB : Option Bool} {ddOOB : Option Addr} {k0OOB k1OOB k2OOB k3OOB k5OOB : Option Value} {nmNP qnNP : Str} {NNP : Addr} {bsNP : List Value} {hdNP : Bool} {snNP : List Str} {subNP : List Value} {abNP : Bool} {colNP : Option Bool} {ddNP : Option Addr} {k0NP k1NP k2NP k3NP k5NP : Option Value} {nmNT qnNT : Str} {NNT : Addr} {bsNT : List Value} {hdNT : Bool} {snNT : List Str} {subNT : List Value} {abNT : Bool} {colNT : Option Bool} {ddNT : Option Addr} {k0NT k1NT k2NT k3NT k5NT : Option Value} {nmNW qnNW : Str} {NNW : Addr} {bsNW : List Value} {hdNW : Bool} {snNW : List Str} {subNW : List Value} {abNW : Bool} {colNW : Option Bool} {ddNW : Option Addr} {k0NW k1NW k2NW k3NW k5NW : Option Value}
    (X : K.In h) (G : h.Ns mainGlobals mg)
    (yTE : PySem.W.nsIn K mainGlobals "TossError" = some (some (.ref TE)))
    (yNAR : PySem.W.nsIn K mainGlobals "NotARow" = some (some (.ref NAR)))
    (yCL : PySem.W.nsIn K mainGlobals "Clash" = some (some (.ref CL)))
    (yOL : PySem.W.nsIn K mainGlobals "OtherLength" = some (some (.ref OL)))
    (yOOB : PySem.W.nsIn K mainGlobals "OutOfBounds" = some (some (.ref OOB)))
    (yNP : PySem.W.nsIn K mainGlobals "NotPlain" = some (some (.ref NP)))
    (yNT : PySem.W.nsIn K mainGlobals "NoThrow" = some (some (.ref NT)))
    (yNW : PySem.W.nsIn K mainGlobals "NotWritten" = some (some (.ref NW)))
    (lTE : K.lookup TE = some (excClassObj nmTE qnTE TE NTE bsTE [.type "ValueError", .type "Exception", .type "BaseException", .type "object"] hdTE snTE subTE abTE colTE ddTE k0TE k1TE k2TE k3TE k5TE "ValueError.__new__"))
    (tTE : PySem.W.typeIn K (.ref TE) = some (.type "type"))
    (lNAR : K.lookup NAR = some (excClassObj nmNAR qnNAR NAR NNAR bsNAR [.ref TE, .type "ValueError", .type "Exception", .type "BaseException", .type "object"] hdNAR snNAR subNAR abNAR colNAR ddNAR k0NAR k1NAR k2NAR k3NAR k5NAR "ValueError.__new__"))
    (tNAR : PySem.W.typeIn K (.ref NAR) = some (.type "type"))
    (lCL : K.lookup CL = some (excClassObj nmCL qnCL CL NCL bsCL [.ref TE, .type "ValueError", .type "Exception", .type "BaseException", .type "object"] hdCL snCL subCL abCL colCL ddCL k0CL k1CL k2CL k3CL k5CL "ValueError.__new__"))
    (tCL : PySem.W.typeIn K (.ref CL) = some (.type "type"))
    (lOL : K.lookup OL = some (excClassObj nmOL qnOL OL NOL bsOL [.ref TE, .type "ValueError", .type "Exception", .type "BaseException", .type "object"] hdOL snOL subOL abOL colOL ddOL k0OL k1OL k2OL k3OL k5OL "ValueError.__new__"))
    (tOL : PySem.W.typeIn K (.ref OL) = some (.type "type"))
    (lOOB : K.lookup OOB = some (excClassObj nmOOB qnOOB OOB NOOB bsOOB [.ref TE, .type "ValueError", .type "Exception", .type "BaseException", .type "object"] hdOOB snOOB subOOB abOOB colOOB ddOOB k0OOB k1OOB k2OOB k3OOB k5OOB "ValueError.__new__"))
    (tOOB : PySem.W.typeIn K (.ref OOB) = some (.type "type"))
    (lNP : K.lookup NP = some (excClassObj nmNP qnNP NP NNP bsNP [.ref TE, .type "ValueError", .type "Exception", .type "BaseException", .type "object"] hdNP snNP subNP abNP colNP ddNP k0NP k1NP k2NP k3NP k5NP "ValueError.__new__"))
    (tNP : PySem.W.typeIn K (.ref NP) = some (.type "type"))
    (lNT : K.lookup NT = some (excClassObj nmNT qnNT NT NNT bsNT [.ref TE, .type "ValueError", .type "Exception", .type "BaseException", .type "object"] hdNT snNT subNT abNT colNT ddNT k0NT k1NT k2NT k3NT k5NT "ValueError.__new__"))
    (tNT : PySem.W.typeIn K (.ref NT) = some (.type "type"))
    (lNW : K.lookup NW = some (excClassObj nmNW qnNW NW NNW bsNW [.ref TE, .type "ValueError", .type "Exception", .type "BaseException", .type "object"] hdNW snNW subNW abNW colNW ddNW k0NW k1NW k2NW k3NW k5NW "ValueError.__new__"))
    (tNW : PySem.W.typeIn K (.ref NW) = some (.type "type"))
    (cn : PySem.W.specialIn K (.builtin "object.__class__") "__get__" = some (some (.builtin "getset_descriptor.__get__")))
    (ct : PySem.W.takesIn K (.builtin "object.__class__") = some true)
    (gaNW : PySem.W.findIn K (.ref NW) "__getattribute__" = some (some (.builtin "BaseException.__getattribute__")))
    (gtNW : PySem.W.findIn K (.ref NW) "__getattr__" = some none)
    (caNW : PySem.W.findIn K (.ref NW) "__class__" = some (some (.builtin "object.__class__")))
    (nd : [TE, NAR, CL, OL, OOB, NP, NT, NW].Nodup) : X16Is K mg := by
  have nd0 := nd
  simp only [List.nodup_cons, List.mem_cons, List.not_mem_nil, or_false, not_or, List.nodup_nil, and_true, not_false_eq_true] at nd0
  obtain ⟨⟨a1, a2, a3, a4, a5, a6, a7⟩, ⟨b1, b2, b3, b4, b5, b6⟩, ⟨c1, c2, c3, c4, c5⟩, ⟨d1, d2, d3, d4⟩, ⟨e1, e2, e3⟩, ⟨f1, f2⟩, g1⟩ := nd0
  refine ⟨TE, NAR, CL, OL, OOB, NP, NT, NW, PySem.W.mg_of X G yTE, PySem.W.mg_of X G yNAR, PySem.W.mg_of X G yCL, PySem.W.mg_of X G yOL, PySem.W.mg_of X G yOOB, PySem.W.mg_of X G yNP, PySem.W.mg_of X G yNT, PySem.W.mg_of X G yNW, ?_⟩
  have cxTE : ∃ bm, ClsX K TE bm := ⟨_, _, _, _, _, _, _, _, _, _, _, _, _, _, _, _, lTE, rfl⟩
  have cxNW : ClsX K NW [.ref TE, .type "ValueError", .type "Exception", .type "BaseException", .type "object"] := ⟨_, _, _, _, _, _, _, _, _, _, _, _, _, _, _, lNW, rfl⟩
  have xiNW : XIs K NW := ⟨cls_x lNW, gaNW, gtNW, by rw [mro_x lNW]; simp, by rw [mro_x lNW]; simp, caNW, cn, ct⟩
  refine ⟨⟨⟨_, cxNW, has_te⟩, cxTE⟩, xiNW, ?_, kit_x lNW lNW tNW true (by rw [has_x (Ne.symm a7), decide_eq_true rfl]), kit_v lNW⟩
  simp only [List.map_cons, List.map_nil, PySem.W.kitAny, kit_x lNW lCL tCL false (by rw [has_x (Ne.symm a2), decide_eq_false (Ne.symm c5)]), kit_x lNW lNT tNT false (by rw [has_x (Ne.symm a6), decide_eq_false (Ne.symm g1)]), kit_x lNW lNAR tNAR false (by rw [has_x (Ne.symm a1), decide_eq_false (Ne.symm b6)]), kit_x lNW lNP tNP false (by rw [has_x (Ne.symm a5), decide_eq_false (Ne.symm f2)]), kit_x lNW lOL tOL false (by rw [has_x (Ne.symm a3), decide_eq_false (Ne.symm d4)]), kit_x lNW lOOB tOOB false (by rw [has_x (Ne.symm a4), decide_eq_false (Ne.symm e3)])]
theorem all_k16 {l : PySem.W.OpenLaw} {w : World} {K : PySem.W.Frag} {mg : Str → Option Value} {fa : Addr} (hfa : mg "law" = some (.ref fa)) (B : Blt mg) (b_str : mg "str" = none) (b_ValueError : mg "ValueError" = none) (g1 : GInt mg "LONGEST_ROW" 60) (g2 : GInt mg "FARTHEST_THROW" 1000000) (g3 : GInt mg "LONGEST_TEXT" 600)
    (e1 : ∃ C, ExcCls K C ∧ mg "NotARow" = some (.ref C)) (e2 : ∃ C, ExcCls K C ∧ mg "NotWritten" = some (.ref C)) (e3 : X16Is K mg) (t_SIGNS : GTxt mg "SIGNS" sgs)
    (h_is_whole : ∃ f fd, Has K mg "is_whole" s_is_whole ["value"] f fd)
    (h_is_between : ∃ f fd, Has K mg "is_between" s_is_between ["value", "least", "most"] f fd)
    (h_is_throw : ∃ f fd, Has K mg "is_throw" s_is_throw ["value"] f fd)
    (h_check_row : ∃ f fd, Has K mg "check_row" s_check_row ["row"] f fd)
    (h_throw_written : ∃ f fd, Has K mg "throw_written" s_throw_written ["throw"] f fd)
    (h_written : ∃ f fd, Has K mg "written" s_written ["row"] f fd)
    (h_pieces_of : ∃ f fd, Has K mg "pieces_of" s_pieces_of ["text"] f fd)
    (h_number_of : ∃ f fd, Has K mg "number_of" s_number_of ["figures"] f fd)
    (h_throw_of : ∃ f fd, Has K mg "throw_of" s_throw_of ["piece"] f fd)
    (h_read : ∃ f fd, Has K mg "read" s_read ["text"] f fd)
    (h__law_cell_at : ∃ f fd, Has K mg "_law_cell_at" s__law_cell_at ["_law_script", "_law_k"] f fd)
    (h__law_mixed : ∃ f fd, Has K mg "_law_mixed" s__law_mixed ["_law_cell", "_law_k"] f fd)
    (h__law_same : ∃ f fd, Has K mg "_law_same" s__law_same ["_law_found", "_law_due"] f fd)
    (h__law_row_by : ∃ f fd, Has K mg "_law_row_by" s__law_row_by ["_law_script"] f fd)
    (h__law_text_of : ∃ f fd, Has K mg "_law_text_of" s__law_text_of ["_law_row"] f fd)
    (h__law_other_by : ∃ f fd, Has K mg "_law_other_by" s__law_other_by ["_law_text", "_law_script"] f fd)
    (h__law_few : ∃ f fd, Has K mg "_law_few" s__law_few [] f fd)
    (h__law_number_of : ∃ f fd, Has K mg "_law_number_of" s__law_number_of ["_law_text"] f fd)
    (h__law_row_of : ∃ f fd, Has K mg "_law_row_of" s__law_row_of ["_law_text"] f fd)
    (h__law_refused : ∃ f fd, Has K mg "_law_refused" s__law_refused ["_law_text"] f fd)
    (h_law : ∃ f fd, Has K mg "law" s_law ["_law_script"] f fd)
    : ∃ fd : FuncData, (∀ (s : Shared) (u : Value), BindsTo s fd ⟨[u], []⟩ [("_law_script", u)]) ∧ ∀ base : Heap, FnU l.prog w K mg base (CXf l.prog w) 8 fa fd ["_law_script"] (spLaw K) := by
  obtain ⟨TE, NAR, CL, OL, OOB, NP, NT, NW, mTE, mNAR, mCL, mOL, mOOB, mNP, mNT, mNW, x16⟩ := e3
  obtain ⟨_, x1, m1⟩ := e1
  cases mNAR.symm.trans m1
  obtain ⟨_, x2, m2⟩ := e2
  cases mNW.symm.trans m2
  obtain ⟨f_is_whole, fd_is_whole, hh_is_whole⟩ := h_is_whole
  obtain ⟨f_is_between, fd_is_between, hh_is_between⟩ := h_is_between
  obtain ⟨f_is_throw, fd_is_throw, hh_is_throw⟩ := h_is_throw
  obtain ⟨f_check_row, fd_check_row, hh_check_row⟩ := h_check_row
  obtain ⟨f_throw_written, fd_throw_written, hh_throw_written⟩ := h_throw_written
  obtain ⟨f_written, fd_written, hh_written⟩ := h_written
  obtain ⟨f_pieces_of, fd_pieces_of, hh_pieces_of⟩ := h_pieces_of
  obtain ⟨f_number_of, fd_number_of, hh_number_of⟩ := h_number_of
  obtain ⟨f_throw_of, fd_throw_of, hh_throw_of⟩ := h_throw_of
  obtain ⟨f_read, fd_read, hh_read⟩ := h_read
  obtain ⟨f__law_cell_at, fd__law_cell_at, hh__law_cell_at⟩ := h__law_cell_at
  obtain ⟨f__law_mixed, fd__law_mixed, hh__law_mixed⟩ := h__law_mixed
  obtain ⟨f__law_same, fd__law_same, hh__law_same⟩ := h__law_same
  obtain ⟨f__law_row_by, fd__law_row_by, hh__law_row_by⟩ := h__law_row_by
  obtain ⟨f__law_text_of, fd__law_text_of, hh__law_text_of⟩ := h__law_text_of
  obtain ⟨f__law_other_by, fd__law_other_by, hh__law_other_by⟩ := h__law_other_by
  obtain ⟨f__law_few, fd__law_few, hh__law_few⟩ := h__law_few
  obtain ⟨f__law_number_of, fd__law_number_of, hh__law_number_of⟩ := h__law_number_of
  obtain ⟨f__law_row_of, fd__law_row_of, hh__law_row_of⟩ := h__law_row_of
  obtain ⟨f__law_refused, fd__law_refused, hh__law_refused⟩ := h__law_refused
  have hl := h_law
  obtain ⟨fl, fdl, hl⟩ := hl
  have e := hfa.symm.trans hl.at_
  cases e
  refine ⟨fdl, bind1 hl fun _ _ _ _ _ _ _ => rfl, fun base => ?_⟩
  have o0 := ok_is_whole (P := l.prog) (w := w) (base := base) hh_is_whole B
  have o1 := ok_is_between (P := l.prog) (w := w) (base := base) hh_is_between o0
  have o2 := ok_is_throw hh_is_throw g2 o1
  have o3 := okc_check_row hh_check_row B g1 x1 m1 o2
  have o4 := ok_throw_written (P := l.prog) (w := w) (base := base) hh_throw_written B t_SIGNS
  have o5 := okc_written hh_written B o3 o4
  have o6 := ok_pieces_of (P := l.prog) (w := w) (base := base) hh_pieces_of B x2 m2
  have o7 := oku_number_of (P := l.prog) (w := w) (base := base) hh_number_of B b_ValueError x2 m2
  have o8 := oku_throw_of hh_throw_of t_SIGNS x2 m2 o7
  have o9 := oku_read hh_read B b_str g3 x2 m2 x1 m1 o6 o8 o5
  have p1 := ok_cell_at (P := l.prog) (w := w) (base := base) hh__law_cell_at B
  have p2 := ok_mixed (P := l.prog) (w := w) (base := base) hh__law_mixed
  have p3 := ok_same (P := l.prog) (w := w) (base := base) hh__law_same B
  have p4 := ok_row_by hh__law_row_by B p1 p2
  have p5 := ok_text_of (P := l.prog) (w := w) (base := base) hh__law_text_of B b_str
  have p6 := ok_other_by hh__law_other_by B p1
  have p7 := ok_few (P := l.prog) (w := w) (base := base) hh__law_few B
  have p8 := ok_number_of (P := l.prog) (w := w) (base := base) hh__law_number_of B b_str
  have p9 := ok_row_of hh__law_row_of B p8
  have q1 := oku_refused hh__law_refused B b_ValueError x16 mTE m1 mCL mOL mOOB mNP mNT m2 o9
  exact oku_law hl B b_str p4 o5.ok p5 p3 o9 q1 p6 p7 p9
end Tb
open PySem PySem.W PyProof.Rows
namespace Uc
theorem PySem.W.holds_open : type_of% @L2.holdsU := @L2.holdsU
set_option maxRecDepth 100000 in
set_option maxHeartbeats 0 in
theorem top : PySem.Challenge.rw_tossbook_k16_written.Holds := by
  w_on; o_law; k_head; (case hw => w_witness2)
  k_fill
  refine Tb.walk (l := PySem.Challenge.rw_tossbook_k16_written) rfl rfl (fun w h Y => PySem.W.kIn_of Y) ?F
  case F =>
    intro w mg fa h KX G hmg
    have b_len : mg "len" = none := by
      refine' L2.none_mk KX G ?za
      (case za => k_is)
    have b_range : mg "range" = none := by
      refine' L2.none_mk KX G ?za
      (case za => k_is)
    have b_enumerate : mg "enumerate" = none := by
      refine' L2.none_mk KX G ?za
      (case za => k_is)
    have b_zip : mg "zip" = none := by
      refine' L2.none_mk KX G ?za
      (case za => k_is)
    have b_isinstance : mg "isinstance" = none := by
      refine' L2.none_mk KX G ?za
      (case za => k_is)
    have b_int : mg "int" = none := by
      refine' L2.none_mk KX G ?za
      (case za => k_is)
    have b_bool : mg "bool" = none := by
      refine' L2.none_mk KX G ?za
      (case za => k_is)
    have b_list : mg "list" = none := by
      refine' L2.none_mk KX G ?za
      (case za => k_is)
    have b_tuple : mg "tuple" = none := by
      refine' L2.none_mk KX G ?za
      (case za => k_is)
    have b_all : mg "all" = none := by
      refine' L2.none_mk KX G ?za
      (case za => k_is)
    have b_any : mg "any" = none := by
      refine' L2.none_mk KX G ?za
      (case za => k_is)
    have b_sum : mg "sum" = none := by
      refine' L2.none_mk KX G ?za
      (case za => k_is)
    have b_max : mg "max" = none := by
      refine' L2.none_mk KX G ?za
      (case za => k_is)
    have b_min : mg "min" = none := by
      refine' L2.none_mk KX G ?za
      (case za => k_is)
    have b_abs : mg "abs" = none := by
      refine' L2.none_mk KX G ?za
      (case za => k_is)
    have b_sorted : mg "sorted" = none := by
      refine' L2.none_mk KX G ?za
      (case za => k_is)
    have b_str : mg "str" = none := by
      refine' L2.none_mk KX G ?za
      (case za => k_is)
    have b_ValueError : mg "ValueError" = none := by
      refine' L2.none_mk KX G ?za
      (case za => k_is)
    have g_LONGEST_ROW : L2.GInt mg "LONGEST_ROW" 60 := by
      refine' L2.gint_mk KX G ?za
      (case za => k_is)
    have g_FARTHEST_THROW : L2.GInt mg "FARTHEST_THROW" 1000000 := by
      refine' L2.gint_mk KX G ?za
      (case za => k_is)
    have g_LONGEST_TEXT : L2.GInt mg "LONGEST_TEXT" 600 := by
      refine' L2.gint_mk KX G ?za
      (case za => k_is)
    have e_NotARow : ∃ C, L2.ExcCls (L2.KOf KX) C ∧ mg "NotARow" = some (.ref C) := by
      dsimp only [L2.KOf]
      refine' L2.exc_mk KX G ?za ?zq
      (case za => k_is); (case zq => k_exc)
    have e_NotWritten : ∃ C, L2.ExcCls (L2.KOf KX) C ∧ mg "NotWritten" = some (.ref C) := by
      dsimp only [L2.KOf]
      refine' L2.exc_mk KX G ?za ?zq
      (case za => k_is); (case zq => k_exc)
    have e_X16 : Tb.X16Is (L2.KOf KX) mg := by
      dsimp only [L2.KOf]
      refine' Tb.x16_mk KX G ?yTE ?yNAR ?yCL ?yOL ?yOOB ?yNP ?yNT ?yNW ?lTE ?tTE ?lNAR ?tNAR ?lCL ?tCL ?lOL ?tOL ?lOOB ?tOOB ?lNP ?tNP ?lNT ?tNT ?lNW ?tNW ?cn ?ct ?gaNW ?gtNW ?caNW ?nd
      (case yTE => k_is); (case yNAR => k_is); (case yCL => k_is); (case yOL => k_is); (case yOOB => k_is); (case yNP => k_is); (case yNT => k_is); (case yNW => k_is); (case lTE => k_is); (case tTE => k_is); (case lNAR => k_is); (case tNAR => k_is); (case lCL => k_is); (case tCL => k_is); (case lOL => k_is); (case tOL => k_is); (case lOOB => k_is); (case tOOB => k_is); (case lNP => k_is); (case tNP => k_is); (case lNT => k_is); (case tNT => k_is); (case lNW => k_is); (case tNW => k_is); (case cn => k_is); (case ct => k_is); (case gaNW => k_is); (case gtNW => k_is); (case caNW => k_is); (case nd => decide)
    have t_SIGNS : L2.GTxt mg "SIGNS" TM.sgs := by
      refine' L2.gtxt_mk KX G ?za ?zy
      (case za => k_is); (case zy => decide +kernel)
    have h_is_whole : ∃ f fd, L2.Has (L2.KOf KX) mg "is_whole" Tb.s_is_whole ["value"] f fd := by
      dsimp only [L2.KOf]
      refine' L2.has_mk KX G ?za ?zl ?zc ?zk ?zb
      (case za => k_is); (case zl => k_is); (case zc => k_is); (case zk => k_is); (case zb => exact fun _ _ _ _ _ _ us hl => match us, hl with | [_], _ => rfl)
    have h_is_between : ∃ f fd, L2.Has (L2.KOf KX) mg "is_between" Tb.s_is_between ["value", "least", "most"] f fd := by
      dsimp only [L2.KOf]
      refine' L2.has_mk KX G ?za ?zl ?zc ?zk ?zb
      (case za => k_is); (case zl => k_is); (case zc => k_is); (case zk => k_is); (case zb => exact fun _ _ _ _ _ _ us hl => match us, hl with | [_, _, _], _ => rfl)
    have h_is_throw : ∃ f fd, L2.Has (L2.KOf KX) mg "is_throw" Tb.s_is_throw ["value"] f fd := by
      dsimp only [L2.KOf]
      refine' L2.has_mk KX G ?za ?zl ?zc ?zk ?zb
      (case za => k_is); (case zl => k_is); (case zc => k_is); (case zk => k_is); (case zb => exact fun _ _ _ _ _ _ us hl => match us, hl with | [_], _ => rfl)
    have h_check_row : ∃ f fd, L2.Has (L2.KOf KX) mg "check_row" Tb.s_check_row ["row"] f fd := by
      dsimp only [L2.KOf]
      refine' L2.has_mk KX G ?za ?zl ?zc ?zk ?zb
      (case za => k_is); (case zl => k_is); (case zc => k_is); (case zk => k_is); (case zb => exact fun _ _ _ _ _ _ us hl => match us, hl with | [_], _ => rfl)
    have h_throw_written : ∃ f fd, L2.Has (L2.KOf KX) mg "throw_written" Tb.s_throw_written ["throw"] f fd := by
      dsimp only [L2.KOf]
      refine' L2.has_mk KX G ?za ?zl ?zc ?zk ?zb
      (case za => k_is); (case zl => k_is); (case zc => k_is); (case zk => k_is); (case zb => exact fun _ _ _ _ _ _ us hl => match us, hl with | [_], _ => rfl)
    have h_written : ∃ f fd, L2.Has (L2.KOf KX) mg "written" Tb.s_written ["row"] f fd := by
      dsimp only [L2.KOf]
      refine' L2.has_mk KX G ?za ?zl ?zc ?zk ?zb
      (case za => k_is); (case zl => k_is); (case zc => k_is); (case zk => k_is); (case zb => exact fun _ _ _ _ _ _ us hl => match us, hl with | [_], _ => rfl)
    have h_pieces_of : ∃ f fd, L2.Has (L2.KOf KX) mg "pieces_of" Tb.s_pieces_of ["text"] f fd := by
      dsimp only [L2.KOf]
      refine' L2.has_mk KX G ?za ?zl ?zc ?zk ?zb
      (case za => k_is); (case zl => k_is); (case zc => k_is); (case zk => k_is); (case zb => exact fun _ _ _ _ _ _ us hl => match us, hl with | [_], _ => rfl)
    have h_number_of : ∃ f fd, L2.Has (L2.KOf KX) mg "number_of" Tb.s_number_of ["figures"] f fd := by
      dsimp only [L2.KOf]
      refine' L2.has_mk KX G ?za ?zl ?zc ?zk ?zb
      (case za => k_is); (case zl => k_is); (case zc => k_is); (case zk => k_is); (case zb => exact fun _ _ _ _ _ _ us hl => match us, hl with | [_], _ => rfl)
    have h_throw_of : ∃ f fd, L2.Has (L2.KOf KX) mg "throw_of" Tb.s_throw_of ["piece"] f fd := by
      dsimp only [L2.KOf]
      refine' L2.has_mk KX G ?za ?zl ?zc ?zk ?zb
      (case za => k_is); (case zl => k_is); (case zc => k_is); (case zk => k_is); (case zb => exact fun _ _ _ _ _ _ us hl => match us, hl with | [_], _ => rfl)
    have h_read : ∃ f fd, L2.Has (L2.KOf KX) mg "read" Tb.s_read ["text"] f fd := by
      dsimp only [L2.KOf]
      refine' L2.has_mk KX G ?za ?zl ?zc ?zk ?zb
      (case za => k_is); (case zl => k_is); (case zc => k_is); (case zk => k_is); (case zb => exact fun _ _ _ _ _ _ us hl => match us, hl with | [_], _ => rfl)
    have h__law_cell_at : ∃ f fd, L2.Has (L2.KOf KX) mg "_law_cell_at" Tb.s__law_cell_at ["_law_script", "_law_k"] f fd := by
      dsimp only [L2.KOf]
      refine' L2.has_mk KX G ?za ?zl ?zc ?zk ?zb
      (case za => k_is); (case zl => k_is); (case zc => k_is); (case zk => k_is); (case zb => exact fun _ _ _ _ _ _ us hl => match us, hl with | [_, _], _ => rfl)
    have h__law_mixed : ∃ f fd, L2.Has (L2.KOf KX) mg "_law_mixed" Tb.s__law_mixed ["_law_cell", "_law_k"] f fd := by
      dsimp only [L2.KOf]
      refine' L2.has_mk KX G ?za ?zl ?zc ?zk ?zb
      (case za => k_is); (case zl => k_is); (case zc => k_is); (case zk => k_is); (case zb => exact fun _ _ _ _ _ _ us hl => match us, hl with | [_, _], _ => rfl)
    have h__law_same : ∃ f fd, L2.Has (L2.KOf KX) mg "_law_same" Tb.s__law_same ["_law_found", "_law_due"] f fd := by
      dsimp only [L2.KOf]
      refine' L2.has_mk KX G ?za ?zl ?zc ?zk ?zb
      (case za => k_is); (case zl => k_is); (case zc => k_is); (case zk => k_is); (case zb => exact fun _ _ _ _ _ _ us hl => match us, hl with | [_, _], _ => rfl)
    have h__law_row_by : ∃ f fd, L2.Has (L2.KOf KX) mg "_law_row_by" Tb.s__law_row_by ["_law_script"] f fd := by
      dsimp only [L2.KOf]
      refine' L2.has_mk KX G ?za ?zl ?zc ?zk ?zb
      (case za => k_is); (case zl => k_is); (case zc => k_is); (case zk => k_is); (case zb => exact fun _ _ _ _ _ _ us hl => match us, hl with | [_], _ => rfl)
    have h__law_text_of : ∃ f fd, L2.Has (L2.KOf KX) mg "_law_text_of" Tb.s__law_text_of ["_law_row"] f fd := by
      dsimp only [L2.KOf]
      refine' L2.has_mk KX G ?za ?zl ?zc ?zk ?zb
      (case za => k_is); (case zl => k_is); (case zc => k_is); (case zk => k_is); (case zb => exact fun _ _ _ _ _ _ us hl => match us, hl with | [_], _ => rfl)
    have h__law_other_by : ∃ f fd, L2.Has (L2.KOf KX) mg "_law_other_by" Tb.s__law_other_by ["_law_text", "_law_script"] f fd := by
      dsimp only [L2.KOf]
      refine' L2.has_mk KX G ?za ?zl ?zc ?zk ?zb
      (case za => k_is); (case zl => k_is); (case zc => k_is); (case zk => k_is); (case zb => exact fun _ _ _ _ _ _ us hl => match us, hl with | [_, _], _ => rfl)
    have h__law_few : ∃ f fd, L2.Has (L2.KOf KX) mg "_law_few" Tb.s__law_few [] f fd := by
      dsimp only [L2.KOf]
      refine' L2.has_mk KX G ?za ?zl ?zc ?zk ?zb
      (case za => k_is); (case zl => k_is); (case zc => k_is); (case zk => k_is); (case zb => exact fun _ _ _ _ _ _ us hl => match us, hl with | [], _ => rfl)
    have h__law_number_of : ∃ f fd, L2.Has (L2.KOf KX) mg "_law_number_of" Tb.s__law_number_of ["_law_text"] f fd := by
      dsimp only [L2.KOf]
      refine' L2.has_mk KX G ?za ?zl ?zc ?zk ?zb
      (case za => k_is); (case zl => k_is); (case zc => k_is); (case zk => k_is); (case zb => exact fun _ _ _ _ _ _ us hl => match us, hl with | [_], _ => rfl)
    have h__law_row_of : ∃ f fd, L2.Has (L2.KOf KX) mg "_law_row_of" Tb.s__law_row_of ["_law_text"] f fd := by
      dsimp only [L2.KOf]
      refine' L2.has_mk KX G ?za ?zl ?zc ?zk ?zb
      (case za => k_is); (case zl => k_is); (case zc => k_is); (case zk => k_is); (case zb => exact fun _ _ _ _ _ _ us hl => match us, hl with | [_], _ => rfl)
    have h__law_refused : ∃ f fd, L2.Has (L2.KOf KX) mg "_law_refused" Tb.s__law_refused ["_law_text"] f fd := by
      dsimp only [L2.KOf]
      refine' L2.has_mk KX G ?za ?zl ?zc ?zk ?zb
      (case za => k_is); (case zl => k_is); (case zc => k_is); (case zk => k_is); (case zb => exact fun _ _ _ _ _ _ us hl => match us, hl with | [_], _ => rfl)
    have h_law : ∃ f fd, L2.Has (L2.KOf KX) mg "law" Tb.s_law ["_law_script"] f fd := by
      dsimp only [L2.KOf]
      refine' L2.has_mk KX G ?za ?zl ?zc ?zk ?zb
      (case za => k_is); (case zl => k_is); (case zc => k_is); (case zk => k_is); (case zb => exact fun _ _ _ _ _ _ us hl => match us, hl with | [_], _ => rfl)
    obtain ⟨fd, hb, hF⟩ := Tb.all_k16 (l := PySem.Challenge.rw_tossbook_k16_written) (w := w) hmg ⟨b_len, b_range, b_enumerate, b_zip, b_isinstance, b_int, b_bool, b_list, b_tuple, b_all, b_any, b_sum, b_max, b_min, b_abs, b_sorted⟩ b_str b_ValueError g_LONGEST_ROW g_FARTHEST_THROW g_LONGEST_TEXT e_NotARow e_NotWritten e_X16 t_SIGNS h_is_whole h_is_between h_is_throw h_check_row h_throw_written h_written h_pieces_of h_number_of h_throw_of h_read h__law_cell_at h__law_mixed h__law_same h__law_row_by h__law_text_of h__law_other_by h__law_few h__law_number_of h__law_row_of h__law_refused h_law
    exact ⟨fd, hb, fun base _ _ => hF base⟩
end Uc
theorem PySem.Challenge.cw_tossbook_k16_written_holds : PySem.Challenge.rw_tossbook_k16_written.Holds :=
  Uc.top

