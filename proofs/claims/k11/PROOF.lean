import PyProof.Rows.All
import Wide.All
import OpenK.AllK
import Wide.FinOn
import Lean
import PyProof.EqAt
import PyProof.EqKinds
import PyProof.TupleCall
import PySem.Challenge.RW_tossbook_k11_whole_parted
set_option Elab.async false
set_option linter.all false
set_option maxRecDepth 100000
namespace L2
open PySem PySem.Spec PyProof.Rows

/-- a key: an int or a str -/
abbrev Key := Sum Int Str
def keyIs : Key → Value → Bool
  | .inl k, v => Value.isInt k v
  | .inr x, v => Value.isStrOf x v
def keyH (w : World) : Key → Int
  | .inl k => hashInt k
  | .inr x => hashStr w x
theorem keyIs_shape : ∀ {k : Key} {v : Value}, keyIs k v = true → (∃ i t, k = Sum.inl i ∧ v = Value.int i t) ∨ (∃ x t, k = Sum.inr x ∧ v = Value.str x t)
  | .inl i, v, h => by
    obtain ⟨t, e⟩ := Value.isInt_shape (k := i) (v := v) h
    exact .inl ⟨i, t, rfl, e⟩
  | .inr x, v, h => by
    obtain ⟨t, e⟩ := Value.isStrOf_shape (x := x) (v := v) h
    exact .inr ⟨x, t, rfl, e⟩
theorem keyIs_int (i : Int) (t : Tok) : keyIs (.inl i) (.int i t) = true := by simp [keyIs, Value.isInt]
theorem keyIs_str (x : Str) (t : Tok) : keyIs (.inr x) (.str x t) = true := by simp [keyIs, Value.isStrOf]
theorem key_ll (a b : Int) : decide ((Sum.inl a : Key) = Sum.inl b) = (a == b) := by
  by_cases e : a = b
  · subst e; simp
  · have h : ¬ (Sum.inl a : Key) = Sum.inl b := fun q => e (Sum.inl.inj q)
    rw [decide_eq_false h]
    exact (beq_eq_false_iff_ne.mpr e).symm
theorem key_rr (a b : Str) : decide ((Sum.inr a : Key) = Sum.inr b) = decide (a = b) := by
  by_cases e : a = b
  · subst e; simp
  · have h : ¬ (Sum.inr a : Key) = Sum.inr b := fun q => e (Sum.inr.inj q)
    rw [decide_eq_false h, decide_eq_false e]
theorem key_lr (a : Int) (b : Str) : decide ((Sum.inl a : Key) = Sum.inr b) = false := decide_eq_false (fun q => nomatch q)
theorem key_rl (a : Str) (b : Int) : decide ((Sum.inr a : Key) = Sum.inl b) = false := decide_eq_false (fun q => nomatch q)

def mixKind (prog : Program) (w : World) : PySem.KeyKind prog w Key where
  is := keyIs
  hash := keyH w
  inj := fun v a b ha hb => by
    rcases keyIs_shape ha with ⟨i, t, rfl, rfl⟩ | ⟨x, t, rfl, rfl⟩
    · rcases keyIs_shape hb with ⟨j, u, rfl, e⟩ | ⟨y, u, rfl, e⟩
      · injection e with e1 _; rw [e1]
      · exact nomatch e
    · rcases keyIs_shape hb with ⟨j, u, rfl, e⟩ | ⟨y, u, rfl, e⟩
      · exact nomatch e
      · injection e with e1 _; rw [e1]
  byValue := fun k v h => by
    rcases keyIs_shape h with ⟨i, t, rfl, rfl⟩ | ⟨x, t, rfl, rfl⟩ <;> rfl
  pyHash := fun hv h => by
    rcases keyIs_shape hv with ⟨i, t, rfl, rfl⟩ | ⟨x, t, rfl, rfl⟩
    · exact wpAny_pyHash_int h
    · exact wpAny_pyHash_str h
  eqBool := fun hu hv h => by
    rcases keyIs_shape hu with ⟨i, t, rfl, rfl⟩ | ⟨x, t, rfl, rfl⟩
    · rcases keyIs_shape hv with ⟨j, u, rfl, rfl⟩ | ⟨y, u, rfl, rfl⟩
      · rw [key_ll] at h; exact wpAny_eqBool_int h
      · rw [key_lr] at h; exact SeqAt.EqAt.int_str i t y u _ _ _ _ h
    · rcases keyIs_shape hv with ⟨j, u, rfl, rfl⟩ | ⟨y, u, rfl, rfl⟩
      · rw [key_rl] at h; exact SeqAt.EqAt.str_int x t j u _ _ _ _ h
      · rw [key_rr] at h; exact wpAny_eqBool_str h
  «strs» := fun k x t v h => by
    rcases keyIs_shape h with ⟨i, u, rfl, e⟩ | ⟨y, u, rfl, e⟩
    · exact nomatch e
    · injection e with e1 _
      subst e1
      cases v <;> rfl

theorem mixKind_int (prog : Program) (w : World) (i : Int) (t : Tok) : (mixKind prog w).is (.inl i) (.int i t) = true := keyIs_int i t
theorem mixKind_str (prog : Program) (w : World) (x : Str) (t : Tok) : (mixKind prog w).is (.inr x) (.str x t) = true := keyIs_str x t
end L2

namespace L2
open PySem PySem.Spec PyProof.Rows

/-- a value, without the heap -/
inductive V where
  | non | bl (b : Bool) | int (i : Int) | str (x : Str) | byt (b : Array UInt8) | flt (b : UInt64) | ref (a : Addr) | ty (n : String)
  deriving DecidableEq

def RelV : V → Value → Prop
  | .non, u => u = Value.none
  | .bl b, u => u = Value.bool b
  | .int i, u => ∃ t, u = Value.int i t
  | .str x, u => ∃ t, u = Value.str x t
  | .byt b, u => ∃ t, u = Value.bytes b t
  | .flt b, u => ∃ t, u = Value.float b t
  | .ref a, u => u = Value.ref a
  | .ty n, u => u = Value.type n

abbrev Vals : List V → List Value → Prop := Paired RelV
theorem Vals.length {xs : List V} {us : List Value} (r : Vals xs us) : xs.length = us.length := Paired.length r
theorem Vals.get : ∀ {xs : List V} {us : List Value} {i : Nat} {x : V}, Vals xs us → xs[i]? = some x → ∃ u, us[i]? = some u ∧ RelV x u
  | _, _, _, _, .nil, e => by simp at e
  | _, _, 0, _, .cons r _, e => by simp at e; subst e; exact ⟨_, rfl, r⟩
  | _, _, i + 1, x, .cons _ t, e => by
    obtain ⟨u, h1, h2⟩ := Vals.get (i := i) (x := x) t (by simpa using e)
    exact ⟨u, by simpa using h1, h2⟩
theorem Vals.set {x : V} {u : Value} (r : RelV x u) : ∀ {xs : List V} {us : List Value} (i : Nat), Vals xs us → Vals (xs.set i x) (us.set i u)
  | _, _, _, .nil => .nil
  | _, _, 0, .cons _ t => .cons r t
  | _, _, i + 1, .cons q t => .cons q (Vals.set r i t)
theorem Vals.append : ∀ {xs ys : List V} {us ws : List Value}, Vals xs us → Vals ys ws → Vals (xs ++ ys) (us ++ ws)
  | _, _, _, _, .nil, s => s
  | _, _, _, _, .cons r t, s => .cons r (Vals.append t s)
theorem Vals.take : ∀ {xs : List V} {us : List Value} (n : Nat), Vals xs us → Vals (xs.take n) (us.take n)
  | _, _, 0, _ => .nil
  | _, _, _ + 1, .nil => .nil
  | _, _, n + 1, .cons r t => .cons r (Vals.take n t)
theorem Vals.drop : ∀ {xs : List V} {us : List Value} (n : Nat), Vals xs us → Vals (xs.drop n) (us.drop n)
  | _, _, 0, r => r
  | _, _, _ + 1, .nil => .nil
  | _, _, n + 1, .cons _ t => Vals.drop n t
def RelO : Option V → Option Value → Prop
  | some v, some u => RelV v u
  | none, none => True
  | _, _ => False
def KV {κ : Type} : List (κ × V) → List (κ × Value) → Prop := Paired fun (p : κ × V) (q : κ × Value) => p.1 = q.1 ∧ RelV p.2 q.2

/-- a key of a dict (00_mix): an int or a text -/
def kV : Key → V
  | .inl i => .int i
  | .inr x => .str x

/-- what stands at a tracked address -/
inductive HO where
  /-- a list -/
  | lst (xs : List V)
  /-- a tuple (never changes) -/
  | tup (xs : List V)
  /-- a dict whose keys are ints and texts; one whose keys are tuples of ints and texts (the empty one is both) -/
  | dK (kvs : List (Key × V)) | dT (kvs : List (List Key × V))
  /-- a set of ints: its members, its size -/
  | set (S : Int → Bool) (n : Nat)
  /-- an instance of the class at C, its dict at dx, its attributes -/
  | ins (C dx : Addr) (fs : List (Str × V))
  /-- the dict of the instance at x -/
  | own (x : Addr)
  /-- the dict of an exception -/
  | xd (fs : List (Str × V))
  /-- a bound method, f of x -/
  | met (f x : Addr)
  /-- a range object lo, lo + 1, .. below hi -/
  | rng (lo hi : Int)
  /-- a thing that is known to the object (the script; a dict while a loop walks it): read, never written while it is so -/
  | frz (o : Obj) (u : HO)
  /-- a code object's table -/
  | tbl (ps : Array Value)
  /-- any other thing, by what is true of its one object (a def of one's own: SetO a S n := HO.ext fun h => ..) -/
  | ext (φ : Heap → Prop)

abbrev Hp := Addr → Option HO
def upd (H : Hp) (a : Addr) (o : HO) : Hp := fun b => if b = a then some o else H b
theorem upd_same {H : Hp} {a : Addr} {o : HO} : upd H a o a = some o := by unfold upd; rw [if_pos rfl]
theorem upd_ne {H : Hp} {a b : Addr} {o : HO} (h : b ≠ a) : upd H a o b = H b := by unfold upd; rw [if_neg h]
theorem upd_upd {H : Hp} {a : Addr} {o u : HO} : upd (upd H a o) a u = upd H a u := by
  funext b; unfold upd; split <;> rfl
/-- two objects of different content stand apart -/
theorem ne_of {H : Hp} {a b : Addr} {o u : HO} (h : H a = some o) (h' : H b = some u) (d : o ≠ u) : a ≠ b := by
  intro e; subst e; rw [h] at h'; exact d (Option.some.inj h')
theorem ne_of_none {H : Hp} {a b : Addr} {o : HO} (h : H a = some o) (h' : H b = none) : a ≠ b := by
  intro e; subst e; rw [h] at h'; cases h'

section
variable (P : Program) (w : World)
def ObjOk (H : Hp) (h : Heap) (a : Addr) : HO → Prop
  | .lst xs => xs.length ≤ sizeLine ∧ ∃ (its : List Value) (n : Nat), Vals xs its ∧ h.get? a = some { cls := .type "list", data := .seq its.toArray n }
  | .tup xs => xs.length ≤ sizeLine ∧ ∃ its : List Value, Vals xs its ∧ IsTup h a its.toArray
  | .dK kvs => kvs.length ≤ sizeLine ∧ (a == sysModules) = false ∧ ∃ vs, KV kvs vs ∧ h.DictOf (mixKind P w) a vs
  | .dT kvs => kvs.length ≤ sizeLine ∧ (a == sysModules) = false ∧ ∃ xs : List (List Key × Addr × Value),
      Paired (fun (p : List Key × V) (q : List Key × Addr × Value) => p.1 = q.1 ∧ H q.2.1 = some (.tup (p.1.map kV)) ∧ RelV p.2 q.2.2) kvs xs ∧
      ∃ o es ep, h.get? a = some o ∧ o.ExactDict ∧ o.data = .dict es ep ∧ es.toList = xs.map (entryOfKey (tupleKind (mixKind P w))) ∧ (xs.map (·.1)).Nodup
  | .set S n => h.SetOf (intKind P w) a S n
  | .ins C dx fs => H dx = some (.own a) ∧ fs.length ≤ 1000 ∧ dx ≠ a ∧ h.get? a = some (PySem.W.instObj C dx) ∧
      ∃ mA, h.Ns1 dx mA ∧ (∀ f, RelO (fs.lookup f) (mA f)) ∧ PySem.Within mA (fs.map (·.1))
  | .own _ => ∃ o, h.get? a = some o
  | .xd fs => ∃ mA, h.Ns1 a mA ∧ ∀ f, RelO (fs.lookup f) (mA f)
  | .rng lo hi => ∃ t u v, h.get? a = some { cls := .type "range", data := .fields #[.int lo t, .int hi u, .int 1 v] }
  | .frz o u => h.get? a = some o ∧ ObjOk H h a u
  | .tbl ps => h.get? a = some { cls := .none, data := .fields ps }
  | .met f x => h.get? a = some (PySem.W.methodObj (.ref f) (.ref x))
  | .ext φ => φ h ∧ (∃ o, h.get? a = some o) ∧ ∀ h1 h2 : Heap, φ h1 → (∀ o, h1.get? a = some o → h2.get? a = some o) → φ h2
/-- the abstract heap is held -/
def HOk (H : Hp) (h : Heap) : Prop := ∀ a o, H a = some o → ObjOk P w H h a o
end

section
variable {P : Program} {w : World} {H H' : Hp} {h h' : Heap} {a : Addr} {o : HO}
theorem ObjOk.lt (x : ObjOk P w H h a o) : a < h.objs.size := by
  cases o with
  | lst xs => obtain ⟨_, _, _, _, e⟩ := x; exact Heap.lt_size e
  | tup xs => obtain ⟨_, _, _, p⟩ := x; exact p.lt
  | dK kvs => obtain ⟨_, _, _, _, o, _, _, e, _⟩ := x; exact Heap.lt_size e
  | dT kvs => obtain ⟨_, _, _, _, o, _, _, e, _⟩ := x; exact Heap.lt_size e
  | set S n => obtain ⟨o, _, _, _, e, _⟩ := x; exact Heap.lt_size e
  | ins C dx fs => obtain ⟨_, _, _, e, _⟩ := x; exact Heap.lt_size e
  | own y => obtain ⟨_, e⟩ := x; exact Heap.lt_size e
  | xd fs => obtain ⟨_, ⟨_, _, _, e, _⟩, _⟩ := x; exact Heap.lt_size e
  | rng lo hi => obtain ⟨_, _, _, e⟩ := x; exact Heap.lt_size e
  | frz ob u => obtain ⟨e, _⟩ := x; exact Heap.lt_size e
  | tbl ps => exact Heap.lt_size (show h.get? a = some _ from x)
  | met f y => exact Heap.lt_size (show h.get? a = some _ from x)
  | ext φ => obtain ⟨_, ⟨_, e⟩, _⟩ := x; exact Heap.lt_size e
theorem Paired.mapP {α β : Type} {F G : α → β → Prop} : ∀ {l₁ : List α} {l₂ : List β}, Paired F l₁ l₂ → (∀ a b, F a b → G a b) → Paired G l₁ l₂
  | _, _, .nil, _ => .nil
  | _, _, .cons r t, f => .cons (f _ _ r) (Paired.mapP t f)
/-- what an object's description leans on: its own object, its own dict, the tuples -/
theorem ObjOk.stay (x : ObjOk P w H h a o) (k : ∀ b u, (b = a ∨ H b = some (.own a)) → h.get? b = some u → h'.get? b = some u)
    (ho : ∀ b, H b = some (.own a) → H' b = some (.own a)) (ht : ∀ b xs, H b = some (.tup xs) → H' b = some (.tup xs)) : ObjOk P w H' h' a o := by
  induction o with
  | lst xs => obtain ⟨z, its, n, r, e⟩ := x; exact ⟨z, its, n, r, k _ _ (.inl rfl) e⟩
  | tup xs => obtain ⟨z, its, r, ob, e, c⟩ := x; exact ⟨z, its, r, ob, k _ _ (.inl rfl) e, c⟩
  | dK kvs => obtain ⟨z, y, vs, r, ob, es, ep, e, c⟩ := x; exact ⟨z, y, vs, r, ob, es, ep, k _ _ (.inl rfl) e, c⟩
  | dT kvs =>
    obtain ⟨z, y, xs, r, ob, es, ep, e, c⟩ := x
    exact ⟨z, y, xs, Paired.mapP r fun p q z => ⟨z.1, ht _ _ z.2.1, z.2.2⟩, ob, es, ep, k _ _ (.inl rfl) e, c⟩
  | set S n => obtain ⟨ob, es, ep, t, e, c⟩ := x; exact ⟨ob, es, ep, t, k _ _ (.inl rfl) e, c⟩
  | ins C dx fs =>
    obtain ⟨d, z, ne, e, mA, ⟨od, es, ep, e2, c⟩, r⟩ := x
    exact ⟨ho _ d, z, ne, k _ _ (.inl rfl) e, mA, ⟨od, es, ep, k _ _ (.inr d) e2, c⟩, r⟩
  | own y => obtain ⟨ob, e⟩ := x; exact ⟨ob, k _ _ (.inl rfl) e⟩
  | xd fs => obtain ⟨mA, ⟨od, es, ep, e, c⟩, r⟩ := x; exact ⟨mA, ⟨od, es, ep, k _ _ (.inl rfl) e, c⟩, r⟩
  | rng lo hi => obtain ⟨t, u, v, e⟩ := x; exact ⟨t, u, v, k _ _ (.inl rfl) e⟩
  | frz ob u ih => obtain ⟨e, q⟩ := x; exact ⟨k _ _ (.inl rfl) e, ih q⟩
  | tbl ps =>
    have e : h.get? a = some { cls := .none, data := .fields ps } := x
    show h'.get? a = some { cls := .none, data := .fields ps }
    exact k a _ (.inl rfl) e
  | met f y =>
    have e : h.get? a = some (PySem.W.methodObj (.ref f) (.ref y)) := x
    show h'.get? a = some (PySem.W.methodObj (.ref f) (.ref y))
    exact k a _ (.inl rfl) e
  | ext φ => obtain ⟨p, ⟨o, e⟩, st⟩ := x; exact ⟨st _ _ p fun o q => k _ _ (.inl rfl) q, ⟨o, k _ _ (.inl rfl) e⟩, st⟩
theorem HOk.lt (x : HOk P w H h) (e : H a = some o) : a < h.objs.size := (x a o e).lt
theorem HOk.fresh (x : HOk P w H h) (e : h.objs.size ≤ a) : H a = none := by
  cases q : H a with
  | none => rfl
  | some u => exact absurd (Nat.lt_of_lt_of_le (x.lt q) e) (Nat.lt_irrefl _)
/-- every object of the heap is kept -/
theorem HOk.kept (x : HOk P w H h) (k : ∀ b u, h.get? b = some u → h'.get? b = some u) : HOk P w H h' := fun a o e =>
  (x a o e).stay (fun b u _ q => k b u q) (fun _ q => q) fun _ _ q => q
/-- a new object is laid and tracked -/
theorem HOk.laid (x : HOk P w H h) (k : ∀ b u, h.get? b = some u → h'.get? b = some u) (hp : h.objs.size ≤ a) (new : ObjOk P w (upd H a o) h' a o) : HOk P w (upd H a o) h' := fun b u e => by
  have hn := x.fresh hp
  by_cases hb : b = a
  · subst hb; rw [upd_same] at e; cases e; exact new
  · rw [upd_ne hb] at e
    exact (x b u e).stay (fun c v _ q => k c v q) (fun c q => by rw [upd_ne (ne_of_none q hn)]; exact q) fun c xs q => by rw [upd_ne (ne_of_none q hn)]; exact q
end

/-- what may be read as u: it is u, or a known u -/
def Rd (H : Hp) (a : Addr) (u : HO) : Prop := H a = some u ∨ ∃ o, H a = some (.frz o u)
theorem Rd.ok {P : Program} {w : World} {H : Hp} {h : Heap} {a : Addr} {u : HO} (r : Rd H a u) (x : HOk P w H h) : ObjOk P w H h a u := by
  rcases r with r | ⟨o, r⟩
  · exact x a u r
  · obtain ⟨_, q⟩ := x a _ r
    exact q
/-- what may be written -/
def Mut : Option HO → Prop
  | some (.lst _) => True
  | some (.dK _) => True
  | some (.dT _) => True
  | some (.set _ _) => True
  | some (.ins _ _ _) => True
  | some (.ext _) => True
  | _ => False
section
variable {P : Program} {w : World} {H : Hp} {h h' : Heap} {x e : Addr} {o' : HO}
/-- the object at e is changed: x itself, or the dict of the instance x -/
theorem HOk.write (ok : HOk P w H h) (mu : Mut (H x)) (he : e = x ∨ H e = some (.own x)) (k : ∀ b u, b ≠ e → h.get? b = some u → h'.get? b = some u) (heo : ∃ u, h'.get? e = some u)
    (new : ObjOk P w (upd H x o') h' x o') : HOk P w (upd H x o') h' := fun b u q => by
  have nown : ∀ c y, H c = some (.own y) → c ≠ x := fun c y r z => by subst z; rw [r] at mu; exact mu
  have ntup : ∀ c xs, H c = some (.tup xs) → c ≠ x := fun c xs r z => by subst z; rw [r] at mu; exact mu
  by_cases hb : b = x
  · subst hb; rw [upd_same] at q; cases q; exact new
  · rw [upd_ne hb] at q
    by_cases hbe : b = e
    · have q' : H b = some (.own x) := by
        rcases he with z | z
        · exact absurd (hbe.trans z) hb
        · rw [hbe]; exact z
      rw [q] at q'; cases q'
      obtain ⟨v, hv⟩ := heo
      exact ⟨v, by rw [hbe]; exact hv⟩
    · refine (ok b u q).stay (fun c v hc r => k c v ?_ r) (fun c r => by rw [upd_ne (nown c b r)]; exact r) fun c xs r => by rw [upd_ne (ntup c xs r)]; exact r
      rcases hc with rfl | hc
      · exact hbe
      · rintro rfl
        rcases he with z | z
        · exact nown c b hc z
        · rw [hc] at z; cases z; exact hb rfl
end

structure Un (fs ex : List Addr) (H H' : Hp) (h h' : Heap) : Prop where
  keep : ∀ b o, h.get? b = some o → H b = none → b ∉ fs → b ∉ ex → h'.get? b = some o
  slot : ∀ b o, h.get? b = some o → H b = none → b ∈ fs → b ∉ ex → ∃ sl, h'.get? b = some { o with slots := sl }
  free : ∀ b o, h.get? b = some o → H b = none → b ∉ ex → H' b = none
  there : ∀ b o, h.get? b = some o → b ∉ ex → ∃ o', h'.get? b = some o'
  tups : ∀ b xs, H b = some (.tup xs) → H' b = some (.tup xs)
  frzs : ∀ b o u, H b = some (.frz o u) → H' b = some (.frz o u)
  tbls : ∀ b ps, H b = some (.tbl ps) → ∃ more, H' b = some (.tbl (ps ++ more))
section
variable {fs fs' ex ex' : List Addr} {H H1 H2 : Hp} {h h1 h2 h' : Heap} {a x e : Addr} {o : HO}
theorem Un.any (u : Un fs ex H H1 h h1) {b : Addr} {ob : Obj} (q : h.get? b = some ob) (n : H b = none) (hx : b ∉ ex) : ∃ sl, h1.get? b = some { ob with slots := sl } := by
  by_cases hb : b ∈ fs
  · exact u.slot b ob q n hb hx
  · exact ⟨ob.slots, u.keep b ob q n hb hx⟩
theorem Un.kept (k : ∀ b u, h.get? b = some u → h'.get? b = some u) : Un fs ex H H h h' :=
  ⟨fun b ob q _ _ _ => k b ob q, fun b ob q _ _ _ => ⟨ob.slots, k b ob q⟩, fun _ _ _ n _ => n, fun b ob q _ => ⟨ob, k b ob q⟩, fun _ _ q => q, fun _ _ _ q => q, fun _ ps q => ⟨#[], by rw [q]; simp⟩⟩
theorem Un.refl : Un fs ex H H h h := Un.kept fun _ _ q => q
theorem Un.laid (k : ∀ b u, h.get? b = some u → h'.get? b = some u) (hp : h.objs.size ≤ a) (hn : H a = none) : Un fs ex H (upd H a o) h h' where
  keep := fun b u q _ _ _ => k b u q
  slot := fun b u q _ _ _ => ⟨u.slots, k b u q⟩
  free := fun b u q n _ => by rw [upd_ne (Nat.ne_of_lt (Nat.lt_of_lt_of_le (Heap.lt_size q) hp))]; exact n
  there := fun b u q _ => ⟨u, k b u q⟩
  tups := fun b xs q => by rw [upd_ne (ne_of_none q hn)]; exact q
  frzs := fun b u xs q => by rw [upd_ne (ne_of_none q hn)]; exact q
  tbls := fun b ps q => ⟨#[], by rw [upd_ne (ne_of_none q hn), q]; simp⟩
theorem Un.write (mu : Mut (H x)) (he : e = x ∨ H e = some (.own x)) (k : ∀ b u, b ≠ e → h.get? b = some u → h'.get? b = some u) (heo : ∃ u, h'.get? e = some u) : Un fs ex H (upd H x o) h h' := by
  have hx : ∀ b, H b = none → b ≠ x := fun b n z => by subst z; rw [n] at mu; exact mu
  have hb : ∀ b, H b = none → b ≠ e := fun b n z => by
    subst z
    rcases he with r | r
    · exact hx b n r
    · rw [n] at r; cases r
  have hm : ∀ b u, H b = some u → ¬ Mut (some u) → b ≠ x := fun b u q nm z => by subst z; rw [q] at mu; exact nm mu
  refine ⟨fun b u q n _ _ => k b u (hb b n) q, fun b u q n _ _ => ⟨u.slots, k b u (hb b n) q⟩, fun b u q n _ => by rw [upd_ne (hx b n)]; exact n, fun b u q _ => ?_,
    fun b xs q => by rw [upd_ne (hm b _ q fun z => z)]; exact q, fun b u xs q => by rw [upd_ne (hm b _ q fun z => z)]; exact q, fun b ps q => ⟨#[], by rw [upd_ne (hm b _ q fun z => z), q]; simp⟩⟩
  by_cases hbe : b = e
  · subst hbe; exact heo
  · exact ⟨u, k b u hbe q⟩
end

def trk (h : Heap) (H : Hp) : List Addr := (List.range h.objs.size).filter fun a => (H a).isSome
def hidT (h : Heap) (H : Hp) : Heap := PySem.W.hideAll h (trk h H)
theorem hidT_size (h : Heap) (H : Hp) : (hidT h H).objs.size = h.objs.size := PySem.W.hideAll_size _ _
theorem hidT_get {h : Heap} {H : Hp} {b : Addr} {o : Obj} (e : h.get? b = some o) (n : H b = none) : (hidT h H).get? b = some o :=
  PySem.W.hideAll_get _ e fun hm => by
    have q : (H b).isSome = true := (List.mem_filter.mp hm).2
    rw [n] at q; simp at q
theorem of_hidT {h : Heap} {H : Hp} {b : Addr} {o : Obj} (e : (hidT h H).get? b = some o) : h.get? b = some o ∧ H b = none := by
  have e' : h.get? b = some o := PySem.W.of_hideAll (trk h H) e
  refine ⟨e', ?_⟩
  cases q : H b with
  | none => rfl
  | some x =>
    have hm : b ∈ trk h H := List.mem_filter.mpr ⟨List.mem_range.mpr (Heap.lt_size e'), by simp [q]⟩
    have z : (hidT h H).get? b = none := PySem.W.hideAll_none (trk h H) hm
    rw [z] at e; cases e

def allNews (g h : Heap) (L : Addr) : List (Addr × Obj) := (List.range h.objs.size).filterMap fun a => if a = L ∨ (g.get? a).isSome = true then none else (h.get? a).map fun o => (a, o)
def rest (g h : Heap) (L d : Addr) : List (Addr × Obj) := (allNews g h L).filter fun p => decide (p.1 ≠ d)
end L2

namespace L2
open PySem PySem.Spec PyProof.Rows

/-- the module's facts, over the base: the heap at the law's entry without what is tracked there -/
structure Mod (K : PySem.W.Frag) (mg : Str → Option Value) (base : Heap) : Prop where
  kin : K.In base
  glob : base.Ns mainGlobals mg
  blt : ∃ mb, base.Ns builtinsNs mb ∧ ∀ x : Str, x ≠ "__name__" → mb x = bootBuiltins x
  nolimit : base.NoLimit

/-- the context: a def's body (or a comprehension's block) running. base: fixed through the whole law; s₀, H₀: the entry; outer: the frames whose slots others may change (a def's callers); stack: all frames that run;
   ex: iterators that were made ahead of the entry and are walked here (a comprehension's); fn: the names whose cells were made at the entry (a def: all; a comprehension's block: its own); calm: not within an except suite; pn: pins that every state bears; xe: what is wanted of an exception that leaves the code -/
structure Cx where
  prog : Program
  w : World
  K : PySem.W.Frag
  mg : Str → Option Value
  base : Heap
  A : Around
  N : List Str
  s₀ : Shared
  H₀ : Hp
  env : Env
  outer : List Env
  stack : List Env
  ex : List Addr
  fn : Str → Bool
  calm : Bool
  pn : List (Addr × Obj)
  xe : Value → Shared → Prop
/-- the callers' frames -/
def frs (l : List Env) : List Addr := l.filterMap (·.frame)
abbrev Cx.fs (X : Cx) : List Addr := frs X.outer

def Vis (sc : Scope) (x : Str) : Prop := sc.names.lookup x = some .local ∨ sc.names.lookup x = some .cell ∨ sc.names.lookup x = some .free
def Loc (sc : Scope) (x : Str) : Prop := sc.names.lookup x = some .local ∨ sc.names.lookup x = some .cell
def Look (env : Env) (h : Heap) (m : Str → Option Value) (x : Str) (u : Value) : Prop :=
  (env.kindOf x = some .local ∧ m x = some u) ∨ ((env.kindOf x = some .cell ∨ env.kindOf x = some .free) ∧ ∃ c, env.cells.lookup x = some c ∧ h.IsCell c (some u))

structure Cx.Ok (X : Cx) : Prop where
  mod : Mod X.K X.mg X.base
  kind : X.env.scope.kind = .function
  glob : X.env.globals = mainGlobals
  blt : X.env.builtins = builtinsNs
  above : X.s₀.heap.objs.size ≤ X.env.locals
  inj : ∀ x y c, X.env.cells.lookup x = some c → X.env.cells.lookup y = some c → x = y
  has : ∀ x, (X.env.kindOf x = some .cell ∨ X.env.kindOf x = some .free) → ∃ c, X.env.cells.lookup x = some c
  cab : ∀ x c, X.fn x = true → X.env.cells.lookup x = some c → X.s₀.heap.objs.size ≤ c
  hd : X.calm = true → X.A.handled = none
  frames : X.A.frames = some X.stack
  stk : X.stack = X.outer ∨ (X.stack = X.env :: X.outer ∧ X.env.frame = some X.env.locals)
  exf : ∀ b ∈ X.ex, b ≠ X.env.locals ∧ ∀ x c, X.env.cells.lookup x = some c → c ≠ b
  bs : ∀ b o, X.base.get? b = some o → X.s₀.heap.get? b = some o ∧ X.H₀ b = none
  bsz : X.base.objs.size ≤ X.s₀.heap.objs.size
  noex : ∀ b o, X.base.get? b = some o → b ∉ X.ex
  exfs : ∀ b ∈ X.ex, b ∉ X.fs
  funs : X.s₀.heap.FunFrames X.base X.outer
  frf : ∀ b ∈ X.fs, X.H₀ b = none

structure Inv (X : Cx) (pins : List (Addr × Obj)) (σ : List (Option V)) (H : Hp) (s : Shared) : Prop where
  ok : X.Ok
  os : s.os = X.s₀.os
  bare : AllBare s.gens
  base : Un X.fs X.ex X.H₀ H X.s₀.heap s.heap
  loc : ∃ m, s.heap.Ns X.env.locals m ∧ ∀ (i : Nat) (x : Str) (v : V), X.N[i]? = some x → σ[i]? = some (some v) → Vis X.env.scope x → ∃ u, RelV v u ∧ Look X.env s.heap m x u
  cell : ∀ x c, X.env.cells.lookup x = some c → ∃ v, s.heap.IsCell c v
  free : H X.env.locals = none
  freeC : ∀ x c, X.env.cells.lookup x = some c → H c = none
  pin : ∀ p ∈ X.pn ++ pins, s.heap.get? p.1 = some p.2 ∧ H p.1 = none ∧ p.1 ≠ X.env.locals ∧ p.1 ∉ X.fs ∧ ∀ v, p.2.data ≠ .cell v
  hok : HOk X.prog X.w H s.heap
  len : σ.length = X.N.length

section
variable {X : Cx} {pins : List (Addr × Obj)} {σ : List (Option V)} {H H' : Hp} {s : Shared} {h' : Heap}

theorem Cx.Ok.nofr (ok : X.Ok) {b : Addr} {o : Obj} (e : X.base.get? b = some o) : b ∉ X.fs := fun hb => by
  have := (ok.funs.mem hb).1
  rw [e] at this; cases this
theorem Inv.bs (I : Inv X pins σ H s) : ∀ b o, X.base.get? b = some o → s.heap.get? b = some o ∧ H b = none := fun b o e =>
  ⟨I.base.keep b o (I.ok.bs b o e).1 (I.ok.bs b o e).2 (I.ok.nofr e) (I.ok.noex b o e), I.base.free b o (I.ok.bs b o e).1 (I.ok.bs b o e).2 (I.ok.noex b o e)⟩
theorem Inv.bk (I : Inv X pins σ H s) : ∀ b o, X.base.get? b = some o → s.heap.get? b = some o := fun b o e => (I.bs b o e).1
theorem Inv.mod (I : Inv X pins σ H s) : Mod X.K X.mg X.base := I.ok.mod
theorem Inv.kIn (I : Inv X pins σ H s) : X.K.In s.heap := I.ok.mod.kin.keeps I.bk
theorem Inv.lt (I : Inv X pins σ H s) : X.env.locals < s.heap.objs.size := let ⟨_, hn, _⟩ := I.loc; hn.lt
theorem Inv.sz (I : Inv X pins σ H s) : X.s₀.heap.objs.size ≤ s.heap.objs.size := Nat.le_trans I.ok.above (Nat.le_of_lt I.lt)
theorem Inv.nofs (I : Inv X pins σ H s) {a : Addr} (h : s.heap.objs.size ≤ a) : a ∉ X.fs := fun hb => by
  obtain ⟨_, o, ho, _⟩ := I.ok.funs.mem hb
  exact absurd (Nat.lt_of_lt_of_le (Heap.lt_size ho) (Nat.le_trans I.sz h)) (Nat.lt_irrefl _)
theorem Inv.cne (I : Inv X pins σ H s) : ∀ x c, X.env.cells.lookup x = some c → c ≠ X.env.locals := fun x c e z => by
  obtain ⟨v, o, ho, hd⟩ := I.cell x c e
  obtain ⟨m, ⟨o', es, ep, ho', hd', _⟩, _⟩ := I.loc
  rw [z, ho'] at ho; cases ho; rw [hd'] at hd; cases hd
theorem Inv.funs (I : Inv X pins σ H s) : s.heap.FunFrames X.base X.outer := by
  have all : ∀ (l : List Env), (∀ b ∈ frs l, b ∈ X.fs) → X.s₀.heap.FunFrames X.base l → s.heap.FunFrames X.base l := by
    intro l
    induction l with
    | nil => intro _ _; trivial
    | cons env r ih =>
      intro hs hl
      obtain ⟨hk, ⟨L, o, hf, hn, ho, hd⟩, hr⟩ := hl
      have hL : L ∈ X.fs := hs L (by unfold frs; rw [List.filterMap_cons, hf]; exact List.mem_cons_self)
      obtain ⟨sl, e⟩ := I.base.slot L o ho (I.ok.frf L hL) hL fun z => I.ok.exfs L z hL
      exact ⟨hk, ⟨L, _, hf, hn, e, hd⟩, ih (fun b hb => hs b (by unfold frs; rw [List.filterMap_cons, hf]; exact List.mem_cons_of_mem _ hb)) hr⟩
  exact all X.outer (fun _ hb => hb) I.ok.funs

/-- the frames that run, for a call -/
theorem Inv.stack (I : Inv X pins σ H s) : s.heap.FunFrames X.base X.stack := by
  rcases I.ok.stk with e | ⟨e, hf⟩
  · rw [e]; exact I.funs
  · rw [e]
    obtain ⟨m, hn, _⟩ := I.loc
    refine .cons (by rw [I.ok.kind]; decide) hf hn ?_ I.funs
    exact Heap.get?_none_of_le (Nat.le_trans I.ok.bsz I.ok.above)
theorem Inv.stkSub (I : Inv X pins σ H s) : ∀ b ∈ frs X.stack, b ∈ X.env.locals :: X.fs := fun b hb => by
  rcases I.ok.stk with e | ⟨e, hf⟩
  · rw [e] at hb; exact List.mem_cons_of_mem _ hb
  · rw [e] at hb
    unfold frs at hb
    rw [List.filterMap_cons, hf] at hb
    exact hb
theorem Inv.stkFree (I : Inv X pins σ H s) : ∀ b ∈ frs X.stack, H b = none := fun b hb => by
  rcases List.mem_cons.mp (I.stkSub b hb) with e | hb
  · rw [e]; exact I.free
  · obtain ⟨_, o, ho, _⟩ := I.ok.funs.mem hb
    exact I.base.free b o ho (I.ok.frf b hb) fun z => I.ok.exfs b z hb

/-- THE STEP: the untracked objects but the frame and the records at ch are kept (the callers' frames up to slots), the frame's map is kept, the new abstract heap is held -/
theorem Inv.step {g' : Array GenState} {t' : Nat} {d' : Drawn} {ch : List Addr} (I : Inv X pins σ H s)
    (hch : ∀ b ∈ ch, (b ∈ X.ex ∨ X.s₀.heap.objs.size ≤ b) ∧ b ≠ X.env.locals ∧ (∀ x c, X.env.cells.lookup x = some c → c ≠ b) ∧ ∀ p ∈ X.pn ++ pins, p.1 ≠ b)
    (keep : ∀ b o, b ≠ X.env.locals → b ∉ X.fs → b ∉ ch → s.heap.get? b = some o → H b = none → h'.get? b = some o)
    (slot : ∀ b o, b ≠ X.env.locals → b ∈ X.fs → b ∉ ch → s.heap.get? b = some o → H b = none → ∃ sl, h'.get? b = some { o with slots := sl }) (free : ∀ b o, b ∉ ch → s.heap.get? b = some o → H b = none → H' b = none)
    (there : ∀ b o, b ∉ ch → s.heap.get? b = some o → ∃ o', h'.get? b = some o')
    (tups : ∀ b xs, H b = some (.tup xs) → H' b = some (.tup xs)) (frzs : ∀ b o u, H b = some (.frz o u) → H' b = some (.frz o u)) (tbls : ∀ b ps, H b = some (.tbl ps) → ∃ more, H' b = some (.tbl (ps ++ more)))
    (ns : ∀ m, s.heap.Ns X.env.locals m → h'.Ns X.env.locals m) (hok : HOk X.prog X.w H' h') (hg : AllBare g') :
    Inv X pins σ H' { s with heap := h', gens := g', drawn := d', toks := t' } := by
  have neL : ∀ b o, X.s₀.heap.get? b = some o → b ≠ X.env.locals := fun b o e => Nat.ne_of_lt (Nat.lt_of_lt_of_le (Heap.lt_size e) I.ok.above)
  have neC : ∀ b o, X.s₀.heap.get? b = some o → b ∉ X.ex → b ∉ ch := fun b o e hx hb => by
    rcases (hch b hb).1 with z | z
    · exact hx z
    · exact absurd (Nat.lt_of_lt_of_le (Heap.lt_size e) z) (Nat.lt_irrefl _)
  have cellK : ∀ x c, X.env.cells.lookup x = some c → ∀ v, s.heap.IsCell c v → h'.IsCell c v := fun x c e v ⟨o, ho, hd⟩ => by
    have nch : c ∉ ch := fun z => (hch c z).2.2.1 x c e rfl
    by_cases hc : c ∈ X.fs
    · obtain ⟨sl, q⟩ := slot c o (I.cne x c e) hc nch ho (I.freeC x c e)
      exact ⟨_, q, hd⟩
    · exact ⟨o, keep c o (I.cne x c e) hc nch ho (I.freeC x c e), hd⟩
  refine ⟨I.ok, I.os, hg, ⟨fun b o e n hb hx => ?_, fun b o e n hb hx => ?_, fun b o e n hx => ?_, fun b o e hx => ?_, fun b xs e => tups b xs (I.base.tups b xs e), fun b o xs e => frzs b o xs (I.base.frzs b o xs e), fun b ps e => ?_⟩, ?_, fun x c e => ?_, ?_, fun x c e => ?_, fun p hp => ?_, hok, I.len⟩
  · exact keep b o (neL b o e) hb (neC b o e hx) (I.base.keep b o e n hb hx) (I.base.free b o e n hx)
  · obtain ⟨sl, e1⟩ := I.base.slot b o e n hb hx
    obtain ⟨sl', e2⟩ := slot b _ (neL b o e) hb (neC b o e hx) e1 (I.base.free b o e n hx)
    exact ⟨sl', e2⟩
  · obtain ⟨o', e1⟩ := I.base.there b o e hx
    exact free b o' (neC b o e hx) e1 (I.base.free b o e n hx)
  · obtain ⟨o', e1⟩ := I.base.there b o e hx
    exact there b o' (neC b o e hx) e1
  · obtain ⟨m1, e1⟩ := I.base.tbls b ps e
    obtain ⟨m2, e2⟩ := tbls b _ e1
    exact ⟨m1 ++ m2, by rw [e2, Array.append_assoc]⟩
  · obtain ⟨m, hn, hl⟩ := I.loc
    refine ⟨m, ns m hn, fun i x v e1 e2 e3 => ?_⟩
    obtain ⟨u, r, l⟩ := hl i x v e1 e2 e3
    refine ⟨u, r, ?_⟩
    rcases l with l | ⟨k, c, e, z⟩
    · exact .inl l
    · exact .inr ⟨k, c, e, cellK x c e _ z⟩
  · obtain ⟨v, z⟩ := I.cell x c e
    exact ⟨v, cellK x c e v z⟩
  · obtain ⟨m, ⟨o, _, _, ho, _⟩, _⟩ := I.loc
    exact free _ o (fun z => (hch _ z).2.1 rfl) ho I.free
  · obtain ⟨v, o, ho, hd⟩ := I.cell x c e
    exact free c o (fun z => (hch c z).2.2.1 x c e rfl) ho (I.freeC x c e)
  · obtain ⟨e, n, ne, nf, d⟩ := I.pin p hp
    have nch : p.1 ∉ ch := fun z => (hch p.1 z).2.2.2 p hp rfl
    exact ⟨keep p.1 p.2 ne nf nch e n, free p.1 p.2 nch e n, ne, nf, d⟩
/-- .. where the frame's own object is kept too -/
theorem Inv.un {t' : Nat} (I : Inv X pins σ H s) (u : Un X.fs [] H H' s.heap h') (hok : HOk X.prog X.w H' h') : Inv X pins σ H' { s with heap := h', toks := t' } := by
  obtain ⟨m, ⟨o, es, ep, ho, r⟩, _⟩ := id I.loc
  obtain ⟨sl, hL⟩ := u.any ho I.free (by simp)
  exact I.step (g' := s.gens) (d' := s.drawn) (ch := []) (fun _ z => nomatch z) (fun b o _ hb _ e n => u.keep b o e n hb (by simp)) (fun b o _ hb _ e n => u.slot b o e n hb (by simp)) (fun b o _ e n => u.free b o e n (by simp)) (fun b o _ e => u.there b o e (by simp)) u.tups u.frzs u.tbls (fun m' hm => by
    obtain ⟨o', es', ep', ho', r'⟩ := hm
    rw [ho] at ho'; cases ho'
    exact ⟨_, es', ep', hL, r'⟩) hok I.bare
/-- behind a call (or a comprehension's block): the slots of this frame may have changed too, the records at ch may have turned -/
theorem Inv.call {g' : Array GenState} {t' : Nat} {d' : Drawn} {ch : List Addr} (I : Inv X pins σ H s) (u : Un (frs X.stack) ch H H' s.heap h') (hok : HOk X.prog X.w H' h') (hg : AllBare g')
    (hch : ∀ b ∈ ch, (b ∈ X.ex ∨ X.s₀.heap.objs.size ≤ b) ∧ b ≠ X.env.locals ∧ (∀ x c, X.env.cells.lookup x = some c → c ≠ b) ∧ ∀ p ∈ X.pn ++ pins, p.1 ≠ b) :
    Inv X pins σ H' { s with heap := h', gens := g', drawn := d', toks := t' } := by
  obtain ⟨m, ⟨o, es, ep, ho, r⟩, _⟩ := id I.loc
  obtain ⟨sl, hL⟩ := u.any ho I.free fun z => (hch _ z).2.1 rfl
  exact I.step (ch := ch) hch (fun b o hL hb hc e n => u.keep b o e n (fun z => (List.mem_cons.mp (I.stkSub b z)).elim hL hb) hc) (fun b o _ _ hc e n => u.any e n hc) (fun b o hc e n => u.free b o e n hc) (fun b o hc e => u.there b o e hc) u.tups u.frzs u.tbls (fun m' hm => by
    obtain ⟨o', es', ep', ho', r'⟩ := hm
    rw [ho] at ho'; cases ho'
    exact ⟨_, es', ep', hL, r'⟩) hok hg
/-- an untracked record of ours (an iterator) has turned -/
theorem Inv.turned {t' : Nat} {it : Addr} (I : Inv X pins σ H s) (k : ∀ b o, b ≠ it → s.heap.get? b = some o → h'.get? b = some o) (hn : H it = none) (hL : it ≠ X.env.locals)
    (h1 : it ∈ X.ex ∨ X.s₀.heap.objs.size ≤ it) (h2 : ∀ x c, X.env.cells.lookup x = some c → c ≠ it) (h3 : ∀ p ∈ X.pn ++ pins, p.1 ≠ it) : Inv X pins σ H { s with heap := h', toks := t' } := by
  have nit : ∀ b u, H b = some u → b ≠ it := fun b u e z => by rw [z, hn] at e; cases e
  refine I.step (g' := s.gens) (d' := s.drawn) (ch := [it]) (fun b hb => ?_) (fun b o _ _ hc e _ => k b o (fun z => hc (by simp [z])) e) (fun b o _ _ hc e _ => ⟨o.slots, k b o (fun z => hc (by simp [z])) e⟩) (fun _ _ _ _ n => n)
    (fun b o hc e => ⟨o, k b o (fun z => hc (by simp [z])) e⟩) (fun _ _ e => e) (fun _ _ _ e => e) (fun b ps e => ⟨#[], by rw [e]; simp⟩) (fun m hm => ?_) (fun b u e => ?_) I.bare
  · have e : b = it := by simpa using hb
    subst e
    exact ⟨h1, hL, h2, h3⟩
  · obtain ⟨o, es, ep, ho, r⟩ := hm
    exact ⟨o, es, ep, k _ o (Ne.symm hL) ho, r⟩
  · refine (I.hok b u e).stay (fun c v hc q => k c v ?_ q) (fun _ q => q) fun _ _ q => q
    rcases hc with z | z
    · rw [z]; exact nit b u e
    · exact nit c _ z
theorem Inv.tok (I : Inv X pins σ H s) (t : Nat) : Inv X pins σ H { s with toks := t } := I.un (h' := s.heap) (t' := t) Un.refl I.hok
/-- all objects kept -/
theorem Inv.kept {t' : Nat} (I : Inv X pins σ H s) (k : ∀ b u, s.heap.get? b = some u → h'.get? b = some u) : Inv X pins σ H { s with heap := h', toks := t' } := I.un (Un.kept k) (I.hok.kept k)
/-- a new object laid and tracked -/
theorem Inv.laid {a : Addr} {o : HO} {t' : Nat} (I : Inv X pins σ H s) (k : ∀ b u, s.heap.get? b = some u → h'.get? b = some u) (hp : s.heap.objs.size ≤ a) (new : ObjOk X.prog X.w (upd H a o) h' a o) :
    Inv X pins σ (upd H a o) { s with heap := h', toks := t' } := I.un (Un.laid k hp (I.hok.fresh hp)) (I.hok.laid k hp new)
/-- an object written -/
theorem Inv.write {x e : Addr} {o : HO} {t' : Nat} (I : Inv X pins σ H s) (mu : Mut (H x)) (he : e = x ∨ H e = some (.own x)) (k : ∀ b u, b ≠ e → s.heap.get? b = some u → h'.get? b = some u) (heo : ∃ u, h'.get? e = some u)
    (new : ObjOk X.prog X.w (upd H x o) h' x o) : Inv X pins σ (upd H x o) { s with heap := h', toks := t' } := I.un (Un.write mu he k heo) (I.hok.write mu he k heo new)
theorem Inv.pins_of {pins' : List (Addr × Obj)} (I : Inv X pins σ H s) (h : ∀ p ∈ pins', s.heap.get? p.1 = some p.2 ∧ H p.1 = none ∧ p.1 ≠ X.env.locals ∧ p.1 ∉ X.fs ∧ ∀ v, p.2.data ≠ .cell v) : Inv X pins' σ H s :=
  ⟨I.ok, I.os, I.bare, I.base, I.loc, I.cell, I.free, I.freeC, fun p hp => (List.mem_append.mp hp).elim (fun z => I.pin p (List.mem_append_left _ z)) (h p), I.hok, I.len⟩

theorem nodup_ix {N : List Str} (hN : N.Nodup) {i j : Nat} {x : Str} (a : N[i]? = some x) (b : N[j]? = some x) : i = j := by
  obtain ⟨h1, e1⟩ := List.getElem?_eq_some_iff.mp a
  obtain ⟨h2, e2⟩ := List.getElem?_eq_some_iff.mp b
  exact (List.getElem_inj hN).mp (e1.trans e2.symm)

/-- a name is stored; what changed -/
theorem store_ok2 {M : Model} {A : Around} {E : Value → Shared → Prop} {i : Nat} {x : Str} {v : V} {u : Value} {Q : Unit → Shared → Prop} (I : Inv X pins σ H s) (hN : X.N.Nodup) (hi : X.N[i]? = some x) (hx : Loc X.env.scope x) (r : RelV v u)
    (h : ∀ s', Inv X pins (σ.set i (some v)) H s' → (∃ a, Heap.SameBut a s.heap s'.heap ∧ (a = X.env.locals ∨ X.env.cells.lookup x = some a)) → Q () s') (hf : X.fn x = true ∨ X.env.scope.names.lookup x = some .local := by first | exact .inl rfl | exact .inr rfl | assumption) : wpAny M A (storeName X.env x u) Q E s := by
  obtain ⟨m, hn, hl⟩ := id I.loc
  have hcls : (X.env.scope.kind == .class || (X.env.scope.kind == .module && X.env.locals != X.env.globals)) = false := by rw [I.ok.kind]; rfl
  have hiσ : i < σ.length := by rw [I.len]; exact (List.getElem?_eq_some_iff.mp hi).1
  have cne := I.cne
  have tracked : ∀ {a : Addr} {h' : Heap}, (∃ o, s.heap.get? a = some o ∧ H a = none) → Heap.SameBut a s.heap h' → HOk X.prog X.w H h' := fun {a h'} ha hs b ob e => by
    obtain ⟨_, _, hfree⟩ := ha
    refine (I.hok b ob e).stay (fun c w' hc q => (hs.2 c ?_).trans q) (fun _ q => q) fun _ _ q => q
    rintro rfl
    rcases hc with rfl | hc
    · rw [hfree] at e; cases e
    · rw [hfree] at hc; cases hc
  rcases hx with hk | hk
  · refine wpAny_storeName_local hk hn (fun h' hn' hs => ?_) hcls
    obtain ⟨oL, _, _, hoL, _⟩ := id hn
    refine h _ ⟨I.ok, I.os, I.bare, ⟨fun b o e n hb hx => ?_, fun b o e n hb hx => ?_, I.base.free, fun b o e hx => ?_, I.base.tups, I.base.frzs, I.base.tbls⟩, ⟨_, hn', fun j y v' e1 e2 e3 => ?_⟩, fun y c e => ?_, I.free, I.freeC, fun p hp => ?_, tracked ⟨oL, hoL, I.free⟩ hs, by simpa using I.len⟩ ⟨_, hs, .inl rfl⟩
    · exact (hs.2 b (Nat.ne_of_lt (Nat.lt_of_lt_of_le (Heap.lt_size e) I.ok.above))).trans (I.base.keep b o e n hb hx)
    · obtain ⟨sl, e1⟩ := I.base.slot b o e n hb hx
      exact ⟨sl, (hs.2 b (Nat.ne_of_lt (Nat.lt_of_lt_of_le (Heap.lt_size e) I.ok.above))).trans e1⟩
    · obtain ⟨o', e1⟩ := I.base.there b o e hx
      exact ⟨o', (hs.2 b (Nat.ne_of_lt (Nat.lt_of_lt_of_le (Heap.lt_size e) I.ok.above))).trans e1⟩
    · by_cases hj : j = i
      · subst hj
        rw [hi] at e1; cases e1
        rw [List.getElem?_set_self hiσ] at e2
        cases e2
        exact ⟨u, r, .inl ⟨hk, by simp⟩⟩
      · rw [List.getElem?_set_ne (Ne.symm hj)] at e2
        obtain ⟨u', r', q⟩ := hl j y v' e1 e2 e3
        refine ⟨u', r', ?_⟩
        rcases q with ⟨k, e⟩ | ⟨k, c, e, z⟩
        · refine .inl ⟨k, ?_⟩
          have : y ≠ x := fun e => hj (nodup_ix hN e1 (e ▸ hi))
          simp [this, e]
        · exact .inr ⟨k, c, e, z.sameBut hs (cne y c e)⟩
    · obtain ⟨w', z⟩ := I.cell y c e
      exact ⟨w', z.sameBut hs (cne y c e)⟩
    · obtain ⟨e, n, ne, nf, d⟩ := I.pin p hp
      exact ⟨(hs.2 p.1 ne).trans e, n, ne, nf, d⟩
  · have hfn : X.fn x = true := by
      rcases hf with z | z
      · exact z
      · rw [z] at hk; cases hk
    obtain ⟨c, hc⟩ := I.ok.has x (.inl hk)
    obtain ⟨w', z⟩ := I.cell x c hc
    refine wpAny_storeName_cell I.ok.kind hk hc z (fun h' hc' hs => ?_)
    obtain ⟨oc, hoc, hocd⟩ := id z
    refine h { s with heap := h' } ⟨I.ok, I.os, I.bare, ⟨fun b o e n hb hx => ?_, fun b o e n hb hx => ?_, I.base.free, fun b o e hx => ?_, I.base.tups, I.base.frzs, I.base.tbls⟩, ⟨m, hn.sameBut hs (Ne.symm (cne x c hc)), fun j y v' e1 e2 e3 => ?_⟩, fun y c' e => ?_, I.free, I.freeC, fun p hp => ?_, tracked ⟨oc, hoc, I.freeC x c hc⟩ hs, by simpa using I.len⟩ ⟨c, hs, .inr hc⟩
    · exact (hs.2 b (Nat.ne_of_lt (Nat.lt_of_lt_of_le (Heap.lt_size e) (I.ok.cab x c hfn hc)))).trans (I.base.keep b o e n hb hx)
    · obtain ⟨sl, e1⟩ := I.base.slot b o e n hb hx
      exact ⟨sl, (hs.2 b (Nat.ne_of_lt (Nat.lt_of_lt_of_le (Heap.lt_size e) (I.ok.cab x c hfn hc)))).trans e1⟩
    · obtain ⟨o', e1⟩ := I.base.there b o e hx
      exact ⟨o', (hs.2 b (Nat.ne_of_lt (Nat.lt_of_lt_of_le (Heap.lt_size e) (I.ok.cab x c hfn hc)))).trans e1⟩
    · by_cases hj : j = i
      · subst hj
        rw [hi] at e1; cases e1
        rw [List.getElem?_set_self hiσ] at e2
        cases e2
        exact ⟨u, r, .inr ⟨.inl hk, c, hc, hc'⟩⟩
      · rw [List.getElem?_set_ne (Ne.symm hj)] at e2
        obtain ⟨u', r', q⟩ := hl j y v' e1 e2 e3
        refine ⟨u', r', ?_⟩
        rcases q with q | ⟨k, c', e, z'⟩
        · exact .inl q
        · refine .inr ⟨k, c', e, z'.sameBut hs ?_⟩
          rintro rfl
          exact hj (nodup_ix hN e1 (I.ok.inj _ _ _ e hc ▸ hi))
    · by_cases hcc : c' = c
      · subst hcc; exact ⟨_, hc'⟩
      · obtain ⟨w2, z2⟩ := I.cell y c' e
        exact ⟨w2, z2.sameBut hs hcc⟩
    · obtain ⟨e, n, ne, nf, d⟩ := I.pin p hp
      refine ⟨(hs.2 p.1 ?_).trans e, n, ne, nf, d⟩
      intro q
      rw [q, hoc] at e
      have q' : oc = p.2 := Option.some.inj e
      exact d w' (by rw [← q']; exact hocd)
theorem store_ok {M : Model} {A : Around} {E : Value → Shared → Prop} {i : Nat} {x : Str} {v : V} {u : Value} {Q : Unit → Shared → Prop} (I : Inv X pins σ H s) (hN : X.N.Nodup) (hi : X.N[i]? = some x) (hx : Loc X.env.scope x) (r : RelV v u)
    (h : ∀ s', Inv X pins (σ.set i (some v)) H s' → Q () s') (hf : X.fn x = true ∨ X.env.scope.names.lookup x = some .local := by first | exact .inl rfl | exact .inr rfl | assumption) : wpAny M A (storeName X.env x u) Q E s :=
  store_ok2 I hN hi hx r (fun s' I' _ => h s' I') hf
/-- behind a call or a block, the state as it is -/
theorem Inv.call' {s' : Shared} {ch : List Addr} (I : Inv X pins σ H s) (ho : s'.os = s.os) (u : Un (frs X.stack) ch H H' s.heap s'.heap) (hok : HOk X.prog X.w H' s'.heap) (hg : AllBare s'.gens)
    (hch : ∀ b ∈ ch, (b ∈ X.ex ∨ X.s₀.heap.objs.size ≤ b) ∧ b ≠ X.env.locals ∧ (∀ x c, X.env.cells.lookup x = some c → c ≠ b) ∧ ∀ p ∈ X.pn ++ pins, p.1 ≠ b) : Inv X pins σ H' s' := by
  obtain ⟨h', g', d', t', o'⟩ := s'
  have e : o' = s.os := ho
  subst e
  exact I.call (g' := g') (t' := t') (d' := d') u hok hg hch
end

/-- an exception: its class, its own dict's address (where it has one), the abstract heap behind it -/
abbrev XK := Value → Option Addr → Hp → Prop
abbrev St := List (Option V)
abbrev VK := V → Hp → Prop
/-- an expression's reading; a test's; an argument list's -/
abbrev TE := St → Hp → VK → Prop
abbrev TT := St → Hp → (Bool → Hp → Prop) → Prop
abbrev TA := St → Hp → (List V → Hp → Prop) → Prop
/-- what is wanted behind a statement -/
structure Ends where
  nx : St → Hp → Prop
  rt : VK
  bk : St → Hp → Prop := fun _ _ => False
  ct : St → Hp → Prop := fun _ _ => False
abbrev TS := Ends → St → Hp → Prop

def EP (X : Cx) (pins : List (Addr × Obj)) (σ : St) (Q : VK) (u : Value) (s' : Shared) : Prop := ∃ v H', Inv X pins σ H' s' ∧ RelV v u ∧ Q v H'
def TP (X : Cx) (pins : List (Addr × Obj)) (σ : St) (Q : Bool → Hp → Prop) (b : Bool) (s' : Shared) : Prop := ∃ H', Inv X pins σ H' s' ∧ Q b H'
def AP (X : Cx) (pins : List (Addr × Obj)) (σ : St) (Q : List V → Hp → Prop) (us : List Value) (s' : Shared) : Prop := ∃ vs H', Inv X pins σ H' s' ∧ Vals vs us ∧ Q vs H'
def SP (X : Cx) (pins : List (Addr × Obj)) (D : Ends) (f : Flow) (s' : Shared) : Prop :=
  match f with
  | .next => ∃ σ' H', Inv X pins σ' H' s' ∧ D.nx σ' H'
  | .brk => ∃ σ' H', Inv X pins σ' H' s' ∧ D.bk σ' H'
  | .cont => ∃ σ' H', Inv X pins σ' H' s' ∧ D.ct σ' H'
  | .ret u => ∃ v σ' H', Inv X pins σ' H' s' ∧ RelV v u ∧ D.rt v H'

def PE (X : Cx) (e : Expr) (t : TE) : Prop :=
  ∀ (pins : List (Addr × Obj)) (s : Shared) (σ : St) (H : Hp) (Q : VK), Inv X pins σ H s → t σ H Q → wpAny (model X.prog X.w) X.A (eval e X.env) (EP X pins σ Q) X.xe s
def PT (X : Cx) (e : Expr) (t : TT) : Prop :=
  ∀ (pins : List (Addr × Obj)) (s : Shared) (σ : St) (H : Hp) (Q : Bool → Hp → Prop), Inv X pins σ H s → t σ H Q → wpAny (model X.prog X.w) X.A (isTrue e X.env (eval e X.env)) (TP X pins σ Q) X.xe s
/-- a test whatever its 'whole' is (and, or) -/
def PW (X : Cx) (e : Expr) (t : TT) : Prop :=
  ∀ (whole : Sem Value) (pins : List (Addr × Obj)) (s : Shared) (σ : St) (H : Hp) (Q : Bool → Hp → Prop), Inv X pins σ H s → t σ H Q → wpAny (model X.prog X.w) X.A (isTrue e X.env whole) (TP X pins σ Q) X.xe s
theorem PW.pt {X : Cx} {e : Expr} {t : TT} (h : PW X e t) : PT X e t := h _
/-- an argument list (no star), from the left -/
def PA (X : Cx) (es : List Expr) (t : TA) : Prop :=
  ∀ (pos : Pos) (pins : List (Addr × Obj)) (s : Shared) (σ : St) (H : Hp) (Q : List V → Hp → Prop), Inv X pins σ H s → t σ H Q → wpAny (model X.prog X.w) X.A (spliced (backTo pos (starEach es X.env))) (AP X pins σ Q) X.xe s
def PS (X : Cx) (st : Stmt) (t : TS) : Prop :=
  ∀ (pins : List (Addr × Obj)) (s : Shared) (σ : St) (H : Hp) (D : Ends), Inv X pins σ H s → t D σ H → wpAny (model X.prog X.w) X.A (exec st X.env) (SP X pins D) X.xe s
def PSs (X : Cx) (st : List Stmt) (t : TS) : Prop :=
  ∀ (pins : List (Addr × Obj)) (s : Shared) (σ : St) (H : Hp) (D : Ends), Inv X pins σ H s → t D σ H → wpAny (model X.prog X.w) X.A (execs st X.env) (SP X pins D) X.xe s
/-- weaken the end -/
theorem thn {α : Type} {t : Sem α} {Q Q' : α → Shared → Prop} {M : Model} {A : Around} {E : Value → Shared → Prop} {s : Shared} (h : wpAny M A t Q E s) (hQ : ∀ a s, Q a s → Q' a s) : wpAny M A t Q' E s := wpAny_mono h hQ fun _ _ x => x
end L2

namespace L2
open PySem PySem.Spec PyProof.Rows
section
variable {X : Cx}

def tVar (i : Nat) : TE := fun σ H Q => ∃ v, σ[i]? = some (some v) ∧ Q v H
def tC (v : V) : TE := fun _ H Q => Q v H
theorem pe_var {i : Nat} {x : Str} {pos : Pos} (hN : X.N[i]? = some x) (hv : Vis X.env.scope x) (hd : (x == ("__debug__" : Str)) = false := by decide) (hcd : (x == ("__classdict__" : Str)) = false := by decide) : PE X (.Name x pos) (tVar i) := by
  intro pins s σ H Q I h
  obtain ⟨v, e, h⟩ := h
  obtain ⟨m, hn, hl⟩ := I.loc
  obtain ⟨u, r, l⟩ := hl i x v hN e hv
  have fin : EP X pins σ Q u s := ⟨v, H, I, r, h⟩
  rcases l with ⟨hk, hm⟩ | ⟨hk, c, hc, hcell⟩
  · exact wpAny_Name (wpAny_loadName_local I.ok.kind hk hn hm fin) hd
  · rcases hk with hk | hk
    · exact wpAny_Name (wpAny_loadName_cell I.ok.kind hk hc hcell fin) hd
    · exact wpAny_Name (wpAny_loadName_free I.ok.kind hk hc hcell fin hcd) hd
theorem pe_int {i j pos} : PE X (.Constant (.int i) j pos) (tC (.int i)) := fun _ _ _ H _ I h => wpAny_Constant_int ⟨.int i, H, I.tok _, ⟨_, rfl⟩, h⟩
theorem pe_bl {b j pos} : PE X (.Constant (.bool b) j pos) (tC (.bl b)) := fun _ _ _ H _ I h => Constant_bool ⟨.bl b, H, I, rfl, h⟩
theorem pe_non {j pos} : PE X (.Constant .none j pos) (tC .non) := fun _ _ _ H _ I h => Constant_none ⟨.non, H, I, rfl, h⟩
theorem pe_str {x j pos} : PE X (.Constant (.str x) j pos) (tC (.str x)) := fun _ _ _ H _ I h => Calls.Constant_str ⟨.str x, H, I.tok _, ⟨_, rfl⟩, h⟩

/-- a global name of the def -/
def Gl (X : Cx) (x : Str) : Prop := X.env.kindOf x = some .globalImplicit
theorem ld_glob {E : Value → Shared → Prop} {pins : List (Addr × Obj)} {s : Shared} {σ : St} {H : Hp} {x : Str} {u : Value} {pos : Pos} {Q : Value → Shared → Prop} (I : Inv X pins σ H s) (hg : Gl X x) (hm : X.mg x = some u) (h : Q u s)
    (hd : (x == ("__debug__" : Str)) = false := by decide) : wpAny (model X.prog X.w) X.A (eval (.Name x pos) X.env) Q E s :=
  Calls.Name_function_global I.ok.kind hg (Calls.loadGlobal_global (by rw [I.ok.glob]; exact I.mod.glob.keeps I.bk) hm h) hd
theorem ld_blt {E : Value → Shared → Prop} {pins : List (Addr × Obj)} {s : Shared} {σ : St} {H : Hp} {x : Str} {u : Value} {pos : Pos} {Q : Value → Shared → Prop} (I : Inv X pins σ H s) (hg : Gl X x) (hm : X.mg x = none) (hv : bootBuiltins x = some u) (h : Q u s)
    (hn : x ≠ "__name__" := by decide) (hd : (x == ("__debug__" : Str)) = false := by decide) : wpAny (model X.prog X.w) X.A (eval (.Name x pos) X.env) Q E s := by
  obtain ⟨mb, h1, h2⟩ := I.mod.blt
  exact Calls.Name_function_global I.ok.kind hg (Calls.loadGlobal_builtin (by rw [I.ok.glob]; exact I.mod.glob.keeps I.bk) hm (by rw [I.ok.blt]; exact h1.keeps I.bk) ((h2 x hn).trans hv) h) hd
/-- a module's constant, a class, a function, as a value -/
theorem pe_glob {x : Str} {v : V} {u : Value} {pos : Pos} (hg : Gl X x) (hm : X.mg x = some u) (r : RelV v u) (hd : (x == ("__debug__" : Str)) = false := by decide) : PE X (.Name x pos) (tC v) :=
  fun _ _ _ H _ I h => ld_glob I hg hm ⟨v, H, I, r, h⟩ hd
theorem pe_bltn {x : Str} {v : V} {u : Value} {pos : Pos} (hg : Gl X x) (hm : X.mg x = none) (hv : bootBuiltins x = some u) (r : RelV v u) (hn : x ≠ "__name__" := by decide) (hd : (x == ("__debug__" : Str)) = false := by decide) : PE X (.Name x pos) (tC v) :=
  fun _ _ _ H _ I h => ld_blt I hg hm hv ⟨v, H, I, r, h⟩ hn hd

variable {a b : Expr} {ta tb : TE} {pos : Pos}
def PC (X : Cx) (op : CmpOp) (a b : Expr) (t : TE) : Prop :=
  ∀ (pins : List (Addr × Obj)) (s : Shared) (σ : St) (H : Hp) (Q : VK), Inv X pins σ H s → t σ H Q →
    wpAny (model X.prog X.w) X.A (eval a X.env) (fun v s₁ => wpAny (model X.prog X.w) X.A (eval b X.env) (fun u s₂ => wpAny (model X.prog X.w) X.A (compareOp op v u) (EP X pins σ Q) X.xe s₂) X.xe s₁) X.xe s
theorem nobehind (b : Expr) {op : CmpOp} (h : op ≠ .In) (h2 : op ≠ .NotIn) : behindInMarks op b = false := by
  have e1 : (op == CmpOp.In) = false := by cases op <;> first | rfl | exact absurd rfl h
  have e2 : (op == CmpOp.NotIn) = false := by cases op <;> first | rfl | exact absurd rfl h2
  cases b <;> simp [behindInMarks, e1, e2]
/-- is None -/
def tIsN (ta : TE) : TE := fun σ H Q => ta σ H fun x H1 => Q (.bl (decide (x = .non))) H1
def tNotN (ta : TE) : TE := fun σ H Q => ta σ H fun x H1 => Q (.bl (!decide (x = .non))) H1
theorem RelV.none_iff {x : V} {v : Value} (r : RelV x v) : (v == Value.none) = decide (x = .non) := by
  cases x with
  | non => cases r; rfl
  | bl _ => cases r; rfl
  | int _ => obtain ⟨t, rfl⟩ := r; rfl
  | str _ => obtain ⟨t, rfl⟩ := r; rfl
  | byt _ => obtain ⟨t, rfl⟩ := r; rfl
  | flt _ => obtain ⟨t, rfl⟩ := r; rfl
  | ref _ => cases r; rfl
  | ty _ => cases r; rfl
theorem pc_isN {j pos'} (ha : PE X a ta) : PC X .Is a (.Constant .none j pos') (tIsN ta) := by
  intro pins s σ H Q I h
  refine thn (ha pins s σ H _ I h) fun v s1 ⟨x, H1, I1, r1, q1⟩ => ?_
  exact Constant_none (is_none_gen ⟨.bl _, H1, I1, by rw [r1.none_iff]; rfl, q1⟩)
theorem pc_notN {j pos'} (ha : PE X a ta) : PC X .IsNot a (.Constant .none j pos') (tNotN ta) := by
  intro pins s σ H Q I h
  refine thn (ha pins s σ H _ I h) fun v s1 ⟨x, H1, I1, r1, q1⟩ => ?_
  exact Constant_none (isnot_none_gen ⟨.bl _, H1, I1, by rw [r1.none_iff]; rfl, q1⟩)
/-- a comparison as a value, as a test -/
def tB (t : TE) : TT := fun σ H Q => t σ H fun x H1 => ∃ c, x = .bl c ∧ Q c H1
theorem pt_cmp {op : CmpOp} {t : TE} (h : PC X op a b t) (h1 : behindInMarks op b = false := by first | exact nobehind _ (by decide) (by decide) | rfl) : PT X (.Compare a [op] [b] pos) (tB t) := by
  intro pins s σ H Q I hw
  refine wpAny_isTrue_Compare1 (thn (h pins s σ H _ I hw) fun v s1 h1 => thn h1 fun u s2 h2 => thn h2 fun c s3 ⟨x, H1, I1, r1, q1⟩ => ?_) h1
  obtain ⟨d, rfl, q⟩ := q1
  cases r1
  exact wpAny_truthy_bool ⟨H1, I1, q⟩
/-- an expression whose value is a bool, as a test -/
theorem pt_val {e : Expr} {t : TE} (h : PE X e t) (he : ∀ whole, isTrue e X.env whole = (do let v ← whole; standAt e.pos; holding [v] (truthy v)) := by intro _; rfl) : PT X e (tB t) := by
  intro pins s σ H Q I hw
  refine isTrue_plain (thn (h pins s σ H _ I hw) fun v s1 ⟨x, H1, I1, r1, q1⟩ => ?_) (he _)
  obtain ⟨d, rfl, q⟩ := q1
  cases r1
  exact wpAny_truthy_bool ⟨H1, I1, q⟩

variable {tA tB' : TT} {rest : List Expr}
def tAnd (t u : TT) : TT := fun σ H Q => t σ H fun c H1 => if c = true then u σ H1 Q else Q false H1
def tOr (t u : TT) : TT := fun σ H Q => t σ H fun c H1 => if c = true then Q true H1 else u σ H1 Q
def tNot (t : TT) : TT := fun σ H Q => t σ H fun c H1 => Q (!c) H1
theorem pw_and1 (ha : PT X a tA) : PW X (.BoolOp .And [a] pos) tA := by
  intro wh pins s σ H Q I h
  refine isTrue_and (thn (ha pins s σ H Q I h) fun c s1 e => ?_)
  cases c with
  | true => exact isTrue_and_nil e
  | false => exact e
theorem pw_or1 (ha : PT X a tA) : PW X (.BoolOp .Or [a] pos) tA := by
  intro wh pins s σ H Q I h
  refine isTrue_or (thn (ha pins s σ H Q I h) fun c s1 e => ?_)
  cases c with
  | false => exact isTrue_or_nil e
  | true => exact e
theorem pw_and (ha : PT X a tA) (hb : PW X (.BoolOp .And (b :: rest) pos) tB') : PW X (.BoolOp .And (a :: b :: rest) pos) (tAnd tA tB') := by
  intro wh pins s σ H Q I h
  refine isTrue_and (thn (ha pins s σ H _ I h) fun c s1 ⟨H1, I1, q1⟩ => ?_)
  cases c with
  | true => exact hb wh pins s1 σ H1 Q I1 q1
  | false => exact ⟨H1, I1, q1⟩
theorem pw_or (ha : PT X a tA) (hb : PW X (.BoolOp .Or (b :: rest) pos) tB') : PW X (.BoolOp .Or (a :: b :: rest) pos) (tOr tA tB') := by
  intro wh pins s σ H Q I h
  refine isTrue_or (thn (ha pins s σ H _ I h) fun c s1 ⟨H1, I1, q1⟩ => ?_)
  cases c with
  | true => exact ⟨H1, I1, q1⟩
  | false => exact hb wh pins s1 σ H1 Q I1 q1
theorem pt_not (ha : PT X a tA) : PT X (.UnaryOp .Not a pos) (tNot tA) := by
  intro pins s σ H Q I h
  exact isTrue_not (ha pins s σ H (fun c H1 => Q (!c) H1) I h)
/-- .. as values (bools) -/
def tAndV (ta tb : TE) : TE := fun σ H Q => ta σ H fun x H1 => ∃ c, x = .bl c ∧ if c = true then tb σ H1 Q else Q (.bl false) H1
def tOrV (ta tb : TE) : TE := fun σ H Q => ta σ H fun x H1 => ∃ c, x = .bl c ∧ if c = true then Q (.bl true) H1 else tb σ H1 Q
def tNotV (ta : TE) : TE := fun σ H Q => ta σ H fun x H1 => ∃ c, x = .bl c ∧ Q (.bl (!c)) H1
theorem pe_one {op} {t : TE} (h : PE X a t) : PE X (.BoolOp op [a] pos) t := fun pins s σ H Q I hw => BoolOp_one (h pins s σ H Q I hw)
theorem pe_and (ha : PE X a ta) (hb : PE X (.BoolOp .And (b :: rest) pos) tb) : PE X (.BoolOp .And (a :: b :: rest) pos) (tAndV ta tb) := by
  intro pins s σ H Q I h
  refine BoolOp_and (thn (ha pins s σ H _ I h) fun v s1 ⟨x, H1, I1, r1, q1⟩ => ?_)
  obtain ⟨c, rfl, q1⟩ := q1
  cases r1
  refine wpAny_truthy_bool ?_
  cases c with
  | true => exact hb pins s1 σ H1 Q I1 q1
  | false => exact ⟨.bl false, H1, I1, rfl, q1⟩
theorem pe_not (ha : PE X a ta) : PE X (.UnaryOp .Not a pos) (tNotV ta) := by
  intro pins s σ H Q I h
  refine UnaryOp_ (thn (ha pins s σ H _ I h) fun v s1 ⟨x, H1, I1, r1, q1⟩ => ?_)
  obtain ⟨c, rfl, q1⟩ := q1
  cases r1
  exact not_of (wpAny_truthy_bool ⟨.bl (!c), H1, I1, rfl, q1⟩)
/-- a if t else b -/
def tIf (t : TT) (ta tb : TE) : TE := fun σ H Q => t σ H fun c H1 => if c = true then ta σ H1 Q else tb σ H1 Q
theorem pe_ifExp {c : Expr} (hc : PT X c tA) (ha : PE X a ta) (hb : PE X b tb) : PE X (.IfExp c a b pos) (tIf tA ta tb) := by
  intro pins s σ H Q I h
  refine wpAny_IfExp (thn (hc pins s σ H _ I h) fun d s1 ⟨H1, I1, q1⟩ => ?_)
  cases d with
  | true => exact ha pins s1 σ H1 Q I1 q1
  | false => exact hb pins s1 σ H1 Q I1 q1
end
end L2

namespace L2
open PySem PySem.Spec PyProof.Rows

def SqL (K : PySem.W.Frag) (H : Hp) (a : Addr) (xs : List V) : Prop :=
  Rd H a (.lst xs) ∨
    ∃ (o : Obj) (its : Array Value) (n : Nat), K.lookup a = some o ∧ o.cls = .type "list" ∧ o.dict = none ∧ o.data = .seq its n ∧ its.size ≤ sizeLine ∧ Vals xs its.toList
def SqT (K : PySem.W.Frag) (H : Hp) (a : Addr) (xs : List V) : Prop :=
  Rd H a (.tup xs) ∨
    ∃ (o : Obj) (its : Array Value) (n : Nat), K.lookup a = some o ∧ o.cls = .type "tuple" ∧ o.data = .seq its n ∧ its.size ≤ sizeLine ∧ Vals xs its.toList
def absV : Value → Option V
  | .none => some .non
  | .bool b => some (.bl b)
  | .int i _ => some (.int i)
  | .str x _ => some (.str x)
  | .bytes b _ => some (.byt b)
  | .float b _ => some (.flt b)
  | .ref a => some (.ref a)
  | .type n => some (.ty n)
  | _ => none
theorem RelV.abs {x : V} {u : Value} (r : RelV x u) : absV u = some x := by
  cases x with
  | non => cases r; rfl
  | bl _ => cases r; rfl
  | int _ => obtain ⟨t, rfl⟩ := r; rfl
  | str _ => obtain ⟨t, rfl⟩ := r; rfl
  | byt _ => obtain ⟨t, rfl⟩ := r; rfl
  | flt _ => obtain ⟨t, rfl⟩ := r; rfl
  | ref _ => cases r; rfl
  | ty _ => cases r; rfl
theorem RelV.inj {x y : V} {u : Value} (r : RelV x u) (q : RelV y u) : x = y := Option.some.inj (r.abs.symm.trans q.abs)
theorem Vals.inj : ∀ {xs ys : List V} {us : List Value}, Vals xs us → Vals ys us → xs = ys
  | _, _, _, .nil, .nil => rfl
  | _, _, _, .cons r t, .cons r' t' => by rw [r.inj r', Vals.inj t t']
section
variable {X : Cx} {pins : List (Addr × Obj)} {σ : St} {H : Hp} {s : Shared} {a : Addr} {xs ys : List V}
theorem SqL.of {K : PySem.W.Frag} (h : H a = some (.lst xs)) : SqL K H a xs := .inl (.inl h)
theorem SqT.of {K : PySem.W.Frag} (h : H a = some (.tup xs)) : SqT K H a xs := .inl (.inl h)
theorem Inv.list (I : Inv X pins σ H s) (h : SqL X.K H a xs) : ∃ its : List Value, Vals xs its ∧ PlainL s.heap a its.toArray ∧ xs.length ≤ sizeLine := by
  rcases h with h | ⟨o, its, n, hk, hc, hd, hs, hz, r⟩
  · obtain ⟨z, its, n, r, e⟩ := h.ok I.hok
    exact ⟨its, r, ⟨_, n, e, rfl, rfl, rfl⟩, z⟩
  · refine ⟨its.toList, r, ⟨o, n, I.kIn a o hk, hc, hd, by simpa using hs⟩, ?_⟩
    have e := r.length
    simp only [Array.length_toList] at e
    omega
theorem Inv.tuple (I : Inv X pins σ H s) (h : SqT X.K H a xs) : ∃ its : List Value, Vals xs its ∧ IsTup s.heap a its.toArray ∧ xs.length ≤ sizeLine := by
  rcases h with h | ⟨o, its, n, hk, hc, hs, hz, r⟩
  · obtain ⟨z, its, r, p⟩ := h.ok I.hok
    exact ⟨its, r, p, z⟩
  · refine ⟨its.toList, r, ⟨o, I.kIn a o hk, hc, n, by simpa using hs⟩, ?_⟩
    have e := r.length
    simp only [Array.length_toList] at e
    omega
theorem Inv.list_inj (I : Inv X pins σ H s) (h : SqL X.K H a xs) (h' : SqL X.K H a ys) : xs = ys := by
  obtain ⟨its, r, ⟨o, n, e, _, _, d⟩, _⟩ := I.list h
  obtain ⟨its', r', ⟨o', n', e', _, _, d'⟩, _⟩ := I.list h'
  rw [e] at e'; cases e'
  rw [d] at d'
  injection d' with d1 _
  have : its = its' := by simpa using congrArg Array.toList d1
  subst this
  exact r.inj r'
end

abbrev Cx.wish (X : Cx) (E : Value → Shared → Prop) : Cx := { X with xe := E }
/-- no exception leaves -/
abbrev Cx.nox (X : Cx) : Cx := X.wish fun _ _ => False
section
variable {X : Cx} {pins : List (Addr × Obj)} {σ : St} {H : Hp} {s : Shared} {E : Value → Shared → Prop}
end

section
variable {X : Cx} {st : Stmt} {rest : List Stmt} {t u : TS} {e : Expr} {te : TE} {pos : Pos}
def tNext : TS := fun D σ H => D.nx σ H
def tSeq (t u : TS) : TS := fun D σ H => t { D with nx := u D } σ H
theorem pss_nil : PSs X [] tNext := fun _ _ σ H _ I h => wpAny_execs_nil ⟨σ, H, I, h⟩
theorem pss_cons (h1 : PS X st t) (h2 : PSs X rest u) : PSs X (st :: rest) (tSeq t u) := by
  intro pins s σ H D I h
  refine wpAny_execs_cons (thn (h1 pins s σ H { D with nx := u D } I h) fun f s1 q => ?_)
  cases f with
  | next =>
    obtain ⟨σ', H', I', q⟩ := q
    exact h2 pins s1 σ' H' D I' q
  | ret v => exact q
  | brk => exact q
  | cont => exact q
theorem pss_one (h1 : PS X st t) : PSs X [st] t := by
  intro pins s σ H D I h
  refine wpAny_execs_cons (thn (h1 pins s σ H D I h) fun f s1 q => ?_)
  cases f with
  | next => exact wpAny_execs_nil q
  | ret v => exact q
  | brk => exact q
  | cont => exact q
/-- in a def's body nothing is shown -/
theorem Inv.quiet {pins : List (Addr × Obj)} {σ : St} {H : Hp} {s : Shared} (I : Inv X pins σ H s) : interactive X.env = false := by simp [interactive, I.ok.kind]
/-- an expression whose value is dropped -/
def tDrop (te : TE) : TS := fun D σ H => te σ H fun _ H1 => D.nx σ H1
theorem ps_expr (he : PE X e te) (hs : swapsWith e none pos.line X.env = pure false := by rfl) : PS X (.Expr e pos) (tDrop te) := by
  intro pins s σ H D I h
  exact wpAny_Expr_any (thn (he pins s σ H _ I h) fun v s1 ⟨x, H1, I1, r1, q1⟩ => ⟨σ, H1, I1, q1⟩) I.quiet hs
def tRet (te : TE) : TS := fun D σ H => te σ H D.rt
theorem ps_ret (he : PE X e te) : PS X (.Return (some e) pos) (tRet te) := by
  intro pins s σ H D I h
  exact wpAny_Return_some (thn (he pins s σ H _ I h) fun v s1 ⟨x, H1, I1, r1, q1⟩ => ⟨x, σ, H1, I1, r1, q1⟩)
def tRetN : TS := fun D _ H => D.rt .non H
def tIfS (c : TT) (t u : TS) : TS := fun D σ H => c σ H fun b H1 => if b = true then t D σ H1 else u D σ H1
theorem ps_if {c : Expr} {a b : List Stmt} {tc : TT} (hc : PT X c tc) (ha : PSs X a t) (hb : PSs X b u) : PS X (.If c a b pos) (tIfS tc t u) := by
  intro pins s σ H D I h
  refine wpAny_If (thn (hc pins s σ H _ I h) fun d s1 ⟨H1, I1, q1⟩ => ?_)
  cases d with
  | true => exact ha pins s1 σ H1 D I1 q1
  | false => exact hb pins s1 σ H1 D I1 q1
/-- code that the proof never comes to -/
def tNever : TS := fun _ _ _ => False
theorem ps_never : PS X st tNever := fun _ _ _ _ _ _ h => h.elim
end

abbrev TG := V → St → Hp → (St → Hp → Prop) → Prop
abbrev TGs := List V → St → Hp → (St → Hp → Prop) → Prop
def PG (X : Cx) (target : Expr) (t : TG) : Prop :=
  ∀ (pins : List (Addr × Obj)) (s : Shared) (σ : St) (H : Hp) (v : V) (u : Value) (Q : St → Hp → Prop), Inv X pins σ H s → RelV v u → t v σ H Q →
    wpAny (model X.prog X.w) X.A (assign target X.env u) (fun _ s' => ∃ σ' H', Inv X pins σ' H' s' ∧ Q σ' H') X.xe s
/-- several targets, one after another -/
def PGs (X : Cx) (ts : List Expr) (t : TGs) : Prop :=
  ∀ (pins : List (Addr × Obj)) (s : Shared) (σ : St) (H : Hp) (vs : List V) (us : List Value) (Q : St → Hp → Prop), Inv X pins σ H s → Vals vs us → t vs σ H Q →
    wpAny (model X.prog X.w) X.A (assignInOrder ((assignEach ts X.env).map (·.2)) us) (fun _ s' => ∃ σ' H', Inv X pins σ' H' s' ∧ Q σ' H') X.xe s
/-- o[i] = v, by values -/
abbrev TSet := V → V → V → Hp → (Hp → Prop) → Prop
def PSet (X : Cx) (t : TSet) : Prop :=
  ∀ (pins : List (Addr × Obj)) (s : Shared) (σ : St) (H : Hp) (o i v : V) (ov iv u : Value) (Q : Hp → Prop), Inv X pins σ H s → RelV o ov → RelV i iv → RelV v u → t o i v H Q →
    wpAny (model X.prog X.w) X.A (setItem ov iv u) (fun _ s' => ∃ H', Inv X pins σ H' s' ∧ Q H') X.xe s
/-- a op= b, by values -/
abbrev TIp := V → V → Hp → VK → Prop
def PIp (X : Cx) (op : Operator) (t : TIp) : Prop :=
  ∀ (pins : List (Addr × Obj)) (s : Shared) (σ : St) (H : Hp) (x y : V) (v u : Value) (Q : VK), Inv X pins σ H s → RelV x v → RelV y u → t x y H Q →
    wpAny (model X.prog X.w) X.A (inplaceOp op v u) (EP X pins σ Q) X.xe s
section
variable {X : Cx} {pos : Pos}
def gName (i : Nat) : TG := fun v σ H Q => Q (σ.set i (some v)) H
theorem pg_name {i : Nat} {x : Str} (hN : X.N.Nodup) (hi : X.N[i]? = some x) (hx : Loc X.env.scope x) (hf : X.fn x = true ∨ X.env.scope.names.lookup x = some .local := by first | exact .inl rfl | exact .inr rfl | assumption) : PG X (.Name x pos) (gName i) := by
  intro pins s σ H v u Q I r h
  exact wpAny_assign_Name (store_ok I hN hi hx r (fun s' I' => ⟨_, H, I', h⟩) hf)
def gNil : TGs := fun vs σ H Q => vs = [] ∧ Q σ H
def gCons (t : TG) (u : TGs) : TGs := fun vs σ H Q => ∃ v r, vs = v :: r ∧ t v σ H fun σ' H' => u r σ' H' Q
theorem pgs_nil : PGs X [] gNil := by
  intro pins s σ H vs us Q I r h
  obtain ⟨e, h⟩ := h
  subst e
  cases r
  exact assignInOrder_nil ⟨σ, H, I, h⟩
theorem pgs_cons {e : Expr} {es : List Expr} {t : TG} {u : TGs} (h1 : PG X e t) (h2 : PGs X es u)
    (hs : (assignEach (e :: es) X.env).map (·.2) = assign e X.env :: (assignEach es X.env).map (·.2) := by rfl) : PGs X (e :: es) (gCons t u) := by
  intro pins s σ H vs us Q I r h
  obtain ⟨v, vr, e1, h⟩ := h
  subst e1
  cases r with
  | cons r rr =>
    rw [hs]
    refine assignInOrder_cons (thn (h1 pins s σ H _ _ _ I r h) fun _ s1 ⟨σ1, H1, I1, q1⟩ => ?_)
    exact h2 pins s1 σ1 H1 _ _ Q I1 rr q1
/-- (a, b, ..) = a tuple of that length -/
def gTup (K : PySem.W.Frag) (n : Nat) (t : TGs) : TG := fun v σ H Q => ∃ a xs, v = .ref a ∧ SqT K H a xs ∧ xs.length = n ∧ t xs σ H Q
theorem pg_tup {es : List Expr} {k : Nat} {t : TGs} {n : Nat} (hc : X.calm = true) (h : PGs X es t)
    (hn : (assignEach es X.env).length = n := by rfl) (hst : (assignEach es X.env).findIdx? (·.1) = none := by rfl) : PG X (.Tuple es k pos) (gTup X.K n t) := by
  intro pins s σ H v u Q I r hw
  obtain ⟨a, xs, e1, hq, hl, hw⟩ := hw
  subst e1
  cases r
  obtain ⟨its, rv, ht, hz⟩ := I.tuple hq
  refine assign_Tuple_tuple (I.ok.hd hc) ht (by simp [hn, ← hl, rv.length]) hst fun h' hx => ?_
  have I1 : Inv X pins σ H { s with heap := h' } := I.kept (t' := s.toks) fun b o e => hx b o (Nat.ne_of_lt (Heap.lt_size e)) e
  exact h pins _ σ H xs _ Q I1 (by simpa using rv) hw
/-- o[i] = .. -/
def gSub (to ti : TE) (t : TSet) : TG := fun v σ H Q => to σ H fun o H1 => ti σ H1 fun i H2 => t o i v H2 fun H3 => Q σ H3
theorem pg_sub {o i : Expr} {to ti : TE} {t : TSet} (ho : PE X o to) (hi : PE X i ti) (hs : PSet X t)
    (ha : ∀ v, assign (.Subscript o i pos) X.env v = (do
      let ov ← holding [v] (eval o X.env)
      let iv ← holding [v, ov] (eval i X.env)
      standAt pos
      holding [v, ov, iv] (setItem ov iv v)
      release [v, ov, iv] []) := by intro _; rfl) : PG X (.Subscript o i pos) (gSub to ti t) := by
  intro pins s σ H v u Q I r h
  rw [ha]
  refine wpAny_bind (wpAny_holding (thn (ho pins s σ H _ I h) fun ov s1 ⟨x, H1, I1, r1, q1⟩ => ?_))
  refine wpAny_bind (wpAny_holding (thn (hi pins s1 σ H1 _ I1 q1) fun iv s2 ⟨y, H2, I2, r2, q2⟩ => ?_))
  refine wpAny_bind (wpAny_standAt (wpAny_bind (wpAny_holding (thn (hs pins s2 σ H2 x y v ov iv u _ I2 r1 r2 r q2) fun _ s3 ⟨H3, I3, q3⟩ => ?_))))
  exact wpAny_release ⟨σ, H3, I3, q3⟩
/-- target = value -/
def tAsg (te : TE) (g : TG) : TS := fun D σ H => te σ H fun x H1 => g x σ H1 D.nx
theorem ps_asg {tg e : Expr} {te : TE} {g : TG} (he : PE X e te) (hg : PG X tg g) (hs : swapsWithSole [tg] e pos.line X.env = pure false := by rfl) (hw : swappedStores [tg] e X.env = pure none := by rfl)
    (h1 : (assignEach [tg] X.env).map (·.2) = [assign tg X.env] := by rfl) : PS X (.Assign [tg] e pos) (tAsg te g) := by
  intro pins s σ H D I h
  refine wpAny_Assign_stores (thn (he pins s σ H _ I h) fun v s1 ⟨x, H1, I1, r1, q1⟩ => ?_) hs hw
  rw [h1]
  exact thn (hg pins s1 σ H1 x v _ I1 r1 q1) fun _ s2 q => q
/-- name = value -/
theorem ps_set {i : Nat} {x : Str} {e : Expr} {te : TE} {pos' : Pos} (hN : X.N.Nodup) (hi : X.N[i]? = some x) (hx : Loc X.env.scope x) (he : PE X e te) (hs : swapsWith e (some (.Name x pos')) pos.line X.env = pure false := by rfl) (hf : X.fn x = true ∨ X.env.scope.names.lookup x = some .local := by first | exact .inl rfl | exact .inr rfl | assumption) :
    PS X (.Assign [.Name x pos'] e pos) (tAsg te (gName i)) := by
  intro pins s σ H D I h
  refine wpAny_Assign_Name (thn (he pins s σ H _ I h) fun v s1 ⟨y, H1, I1, r1, q1⟩ => ?_) hs
  exact store_ok I1 hN hi hx r1 (fun s2 I2 => ⟨_, H1, I2, q1⟩) hf
/-- name op= e -/
def tAug (i : Nat) (te : TE) (ti : TIp) : TS := fun D σ H => ∃ x, σ[i]? = some (some x) ∧ te σ H fun y H1 => ti x y H1 fun z H2 => D.nx (σ.set i (some z)) H2
theorem ps_aug {i : Nat} {x : Str} {e : Expr} {te : TE} {op : Operator} {ti : TIp} {pos' : Pos} (hN : X.N.Nodup) (hi : X.N[i]? = some x) (hx : Loc X.env.scope x) (he : PE X e te) (ho : PIp X op ti) (hf : X.fn x = true ∨ X.env.scope.names.lookup x = some .local := by first | exact .inl rfl | exact .inr rfl | assumption) :
    PS X (.AugAssign (.Name x pos') op e pos) (tAug i te ti) := by
  intro pins s σ H D I h
  obtain ⟨v, e1, h⟩ := h
  obtain ⟨m, hn, hl⟩ := I.loc
  have vis : Vis X.env.scope x := by rcases hx with k | k; exact .inl k; exact .inr (.inl k)
  obtain ⟨u, r, l⟩ := hl i x v hi e1 vis
  refine wpAny_AugAssign_Name ?_
  have go : wpAny (model X.prog X.w) X.A (eval e X.env) (fun w s₂ => wpAny (model X.prog X.w) X.A (inplaceOp op u w) (fun r s₃ => wpAny (model X.prog X.w) X.A (storeName X.env x r) (fun _ => SP X pins D .next) X.xe s₃) X.xe s₂) X.xe s := by
    refine thn (he pins s σ H _ I h) fun w s1 ⟨y, H1, I1, r1, q1⟩ => ?_
    refine thn (ho pins s1 σ H1 v y u w _ I1 r r1 q1) fun z s2 ⟨zv, H2, I2, r2, q2⟩ => ?_
    exact store_ok I2 hN hi hx r2 (fun s3 I3 => ⟨_, H2, I3, q2⟩) hf
  rcases l with ⟨hk, hm⟩ | ⟨hk, c, hc, hcell⟩
  · exact wpAny_loadName_local I.ok.kind hk hn hm go
  · rcases hk with hk | hk
    · exact wpAny_loadName_cell I.ok.kind hk hc hcell go
    · rcases hx with k | k
      · have : X.env.scope.names.lookup x = some .free := hk
        rw [k] at this; cases this
      · have : X.env.scope.names.lookup x = some .free := hk
        rw [k] at this; cases this
/-- ints -/
def ipI (f : Int → Int → Int) : TIp := fun x y H Q => ∃ i j, x = .int i ∧ y = .int j ∧ Q (.int (f i j)) H
theorem ip_add : PIp X .Add (ipI fun i j => i + j) := by
  intro pins s σ H x y v u Q I r1 r2 h
  obtain ⟨i, j, e1, e2, q⟩ := h
  subst e1; subst e2
  obtain ⟨t, rfl⟩ := r1
  obtain ⟨t', rfl⟩ := r2
  exact iadd_int ⟨.int _, H, I.tok _, ⟨_, rfl⟩, q⟩
end

section
variable {X : Cx} {pos : Pos}
end

/-- at turn i: it yields x (the heap may grow), or it stops -/
structure It where
  go : Nat → Hp → Prop
  yld : Nat → Hp → V → Hp → Prop
  stop : Nat → Hp → Prop
/-- the iterator's own objects may turn: they are not the frame's, not pinned, younger than the entry (or a comprehension's own) -/
def FpOk (X : Cx) (pins : List (Addr × Obj)) (H : Hp) (b : Addr) : Prop :=
  H b = none ∧ b ≠ X.env.locals ∧ b ∉ X.fs ∧ (b ∈ X.ex ∨ X.s₀.heap.objs.size ≤ b) ∧ (∀ x c, X.env.cells.lookup x = some c → c ≠ b) ∧ ∀ p ∈ X.pn ++ pins, p.1 ≠ b
theorem Inv.fpOk {X : Cx} {pins : List (Addr × Obj)} {σ : St} {H H' : Hp} {s : Shared} {b : Addr} (I : Inv X pins σ H s) (hb : s.heap.objs.size ≤ b) (hn : H' b = none) : FpOk X pins H' b := by
  refine ⟨hn, Nat.ne_of_gt (Nat.lt_of_lt_of_le I.lt hb), I.nofs hb, .inr (Nat.le_trans I.sz hb), fun x c e z => ?_, fun p hp z => ?_⟩
  · obtain ⟨v, q⟩ := I.cell x c e
    exact absurd (Nat.lt_of_lt_of_le q.lt (by rw [z]; exact hb)) (Nat.lt_irrefl _)
  · exact absurd (Nat.lt_of_lt_of_le (Heap.lt_size (I.pin p hp).1) (by rw [z]; exact hb)) (Nat.lt_irrefl _)
structure Turn (P : Program) (w : World) (K : PySem.W.Frag) (tg : Expr) (J : It) (fp : List Addr) (it : Addr) (tn : Nat → Heap → Prop) : Prop where
  mem : it ∈ fp
  obj : ∀ i h, tn i h → ∀ b ∈ fp, ∃ o, h.get? b = some o ∧ ∀ v, o.data ≠ .cell v
  keep : ∀ i h h', tn i h → (∀ b ∈ fp, ∀ o, h.get? b = some o → h'.get? b = some o) → tn i h'
  item : ∀ (X : Cx), X.prog = P → X.w = w → X.K = K → X.calm = true → ∀ (i : Nat) (pins : List (Addr × Obj)) (s : Shared) (σ : St) (H : Hp) (E : Value → Shared → Prop), Inv X pins σ H s → (∀ b ∈ fp, FpOk X pins H b) → tn i s.heap → J.go i H →
    wpAny (model P w) X.A (pyNext (.ref it)) (fun r s1 => ∃ u, r = some u ∧
      wpAny (model P w) X.A (letOwnedTupleGo tg (.ref it) u) (fun _ s2 => ∃ x H', Inv X pins σ H' s2 ∧ RelV x u ∧ J.yld i H x H' ∧ tn (i + 1) s2.heap ∧ ∀ b ∈ fp, H' b = none) E s1) E s
  done : ∀ (X : Cx), X.prog = P → X.w = w → X.K = K → X.calm = true → ∀ (i : Nat) (pins : List (Addr × Obj)) (s : Shared) (σ : St) (H : Hp) (E : Value → Shared → Prop), Inv X pins σ H s → (∀ b ∈ fp, FpOk X pins H b) → tn i s.heap → J.stop i H →
    wpAny (model P w) X.A (pyNext (.ref it)) (fun r s1 => r = none ∧ Inv X pins σ H s1) E s
  self : ∀ (A : Around) (i : Nat) (s : Shared) (Q : Value → Shared → Prop) (E : Value → Shared → Prop), tn i s.heap → Q (.ref it) s → wpAny (model P w) A (pyIter (.ref it)) Q E s
abbrev TI := St → Hp → (It → Hp → Prop) → Prop
/-- an iterator has come -/
def PIE (X : Cx) (pins : List (Addr × Obj)) (σ : St) (tg : Expr) (R : It → Hp → Prop) (itv : Value) (s2 : Shared) : Prop :=
  ∃ (it : Addr) (fp : List Addr) (tn : Nat → Heap → Prop) (J : It) (H' : Hp), itv = .ref it ∧ Inv X pins σ H' s2 ∧ Turn X.prog X.w X.K tg J fp it tn ∧ tn 0 s2.heap ∧ (∀ b ∈ fp, FpOk X pins H' b) ∧ R J H'
def PI (X : Cx) (tg iter : Expr) (wi : TI) : Prop :=
  ∀ (pins : List (Addr × Obj)) (s : Shared) (σ : St) (H : Hp) (R : It → Hp → Prop), Inv X pins σ H s → wi σ H R →
    wpAny (model X.prog X.w) X.A (eval iter X.env) (fun v s1 => wpAny (model X.prog X.w) X.A (pyIter v) (PIE X pins σ tg R) X.xe s1) X.xe s

/-- the step ahead of the store is nothing for an iterator that keeps no tuple -/
theorem go_of {M : Model} {A : Around} {E : Value → Shared → Prop} {s : Shared} {tg : Expr} {it : Addr} {u : Value} {o : Obj} {n : String} {vs : Array Value} {Q : Unit → Shared → Prop} (ho : s.heap.get? it = some o) (hc : o.cls = .type n) (hd : o.data = .fields vs)
    (hn : ["enumerate", "zip", "dict_itemiterator", "dict_reverseitemiterator", "odict_iterator", "itertools.zip_longest", "itertools.pairwise"].contains n = false) (hQ : Q () s) : wpAny M A (letOwnedTupleGo tg (.ref it) u) Q E s := by
  unfold letOwnedTupleGo
  cases tg <;> first
    | exact wpAny_pure hQ
    | (cases u <;> first
        | exact wpAny_pure hQ
        | (refine wpAny_bind (wpAny_load ho ?_)
           rw [hc, hd]
           show wpAny M A (if (["enumerate", "zip", "dict_itemiterator", "dict_reverseitemiterator", "odict_iterator", "itertools.zip_longest", "itertools.pairwise"].contains n && vs[0]? == some (rawInt _)) = true then _ else _) Q E s
           rw [if_neg (by intro h; rw [hn, Bool.false_and] at h; cases h)]
           exact wpAny_pure hQ))

/-- the list at a, as it stands at each turn (a loop may append to it) -/
def Itl (K : PySem.W.Frag) (a : Addr) : It :=
  ⟨fun i H => ∃ xs x, SqL K H a xs ∧ xs[i]? = some x, fun i H x H' => H' = H ∧ ∀ xs, SqL K H a xs → xs[i]? = some x, fun i H => ∃ xs, SqL K H a xs ∧ xs.length ≤ i⟩
def Itt (K : PySem.W.Frag) (a : Addr) : It :=
  ⟨fun i H => ∃ xs x, SqT K H a xs ∧ xs[i]? = some x, fun i H x H' => H' = H ∧ ∀ xs, SqT K H a xs → xs[i]? = some x, fun i H => ∃ xs, SqT K H a xs ∧ xs.length ≤ i⟩
/-- lo, lo + 1, .. (n of them) -/
def Itr (lo : Int) (n : Nat) : It := ⟨fun i _ => i < n, fun i H x H' => H' = H ∧ x = .int (lo + i), fun i _ => n ≤ i⟩
theorem turn_list {P : Program} {w : World} {K : PySem.W.Frag} {tg : Expr} (a it : Addr) : Turn P w K tg (Itl K a) [it] it (fun i h => h.IsListIter it a i) where
  mem := by simp
  obj := fun i h st b hb => by
    have e : b = it := by simpa using hb
    subst e
    obtain ⟨o, e, c, d⟩ := st
    exact ⟨o, e, fun v z => by rw [d] at z; cases z⟩
  keep := fun i h h' st k => st.at fun o e => k it (by simp) o e
  item := by
    intro X hP hw hK hc i pins s σ H E I hf st hg
    subst hP hw hK
    obtain ⟨xs, x, hq, hx⟩ := hg
    obtain ⟨its, rv, p, hz⟩ := I.list hq
    obtain ⟨u, hu, ru⟩ := rv.get hx
    obtain ⟨f0, f1, f2, f3, f4, f5⟩ := hf it (by simp)
    refine wpAny_pyNext_list_item st p.isList (x := u) (by simpa using hu) fun h' st' sb => ?_
    have I1 : Inv X pins σ H { s with heap := h' } := I.turned (t' := s.toks) (fun b o hb e => (sb.2 b hb).trans e) f0 f1 f3 f4 f5
    obtain ⟨o, e, c, d⟩ := id st'
    exact ⟨u, rfl, go_of (s := { s with heap := h' }) e c d (by decide) ⟨x, H, I1, ru, ⟨rfl, fun ys hy => by rw [I.list_inj hy hq]; exact hx⟩, st', fun b hb => (hf b hb).1⟩⟩
  done := by
    intro X hP hw hK hc i pins s σ H E I hf st hg
    subst hP hw hK
    obtain ⟨xs, hq, hx⟩ := hg
    obtain ⟨its, rv, p, hz⟩ := I.list hq
    obtain ⟨f0, f1, f2, f3, f4, f5⟩ := hf it (by simp)
    have hl := rv.length
    exact wpAny_pyNext_list_end (I.ok.hd hc) st p.isList (by simp; omega) fun h' eb => ⟨rfl, I.turned (t' := s.toks) (fun b o hb e => eb b o hb e) f0 f1 f3 f4 f5⟩
  self := fun _ _ _ _ _ st h => wpAny_pyIter_listiter st h
theorem turn_range {P : Program} {w : World} {K : PySem.W.Frag} {tg : Expr} (it : Addr) (lo : Int) (n : Nat) : Turn P w K tg (Itr lo n) [it] it (fun i h => IsRangeIter h it (lo + (i : Nat) * 1) ((n : Int) - (i : Nat)) 1) where
  mem := by simp
  obj := fun i h st b hb => by
    have e : b = it := by simpa using hb
    subst e
    exact ⟨_, st, fun v z => by
      have z' : Data.fields _ = Data.cell v := z
      cases z'⟩
  keep := fun i h h' st k => k it (by simp) _ st
  item := by
    intro X hP hw hK hc i pins s σ H E I hf st hg
    subst hP hw hK
    obtain ⟨f0, f1, f2, f3, f4, f5⟩ := hf it (by simp)
    have W := Walks.range (prog := X.prog) (w := X.w) (I.ok.hd hc) it lo 1 n
    refine W.item i s _ _ hg st fun v h' tk hv st' kk => ?_
    obtain ⟨t, rfl⟩ := hv
    have I1 : Inv X pins σ H { s with heap := h', toks := tk } := I.turned (fun b o hb e => kk b o (by simpa using hb) e) f0 f1 f3 f4 f5
    refine ⟨_, rfl, go_of (s := { s with heap := h', toks := tk }) (n := "range_iterator") st' rfl rfl (by decide) ⟨.int (lo + i), H, I1, ⟨t, ?_⟩, ⟨rfl, rfl⟩, st', fun b hb => (hf b hb).1⟩⟩
    rw [Int.mul_one]
  done := by
    intro X hP hw hK hc i pins s σ H E I hf st hg
    subst hP hw hK
    obtain ⟨f0, f1, f2, f3, f4, f5⟩ := hf it (by simp)
    exact wpAny_pyNext_range_end (I.ok.hd hc) st (by have : n ≤ i := hg; omega) fun h' eb => ⟨rfl, I.turned (t' := s.toks) (fun b o hb e => eb b o hb e) f0 f1 f3 f4 f5⟩
  self := fun _ _ _ _ _ st h => wpAny_pyIter_rangeiter st h
end L2

namespace L2
open PySem PySem.Spec PyProof.Rows
section
variable {X : Cx} {tg : Expr}
def iList (K : PySem.W.Frag) (tl : TE) : TI := fun σ H R => tl σ H fun x H1 => ∃ a, x = .ref a ∧ (∃ xs, SqL K H1 a xs) ∧ R (Itl K a) H1
def iTup (K : PySem.W.Frag) (tl : TE) : TI := fun σ H R => tl σ H fun x H1 => ∃ a, x = .ref a ∧ (∃ xs, SqT K H1 a xs) ∧ R (Itt K a) H1
theorem pi_list {l : Expr} {tl : TE} (hl : PE X l tl) : PI X tg l (iList X.K tl) := by
  intro pins s σ H R I h
  refine thn (hl pins s σ H _ I h) fun v s1 ⟨x, H1, I1, r1, q1⟩ => ?_
  obtain ⟨a, e, ⟨xs, hq⟩, q⟩ := q1
  subst e
  cases r1
  obtain ⟨its, rv, p, hz⟩ := I1.list hq
  refine wpAny_pyIter_list p.isList ?_
  refine ⟨s1.heap.objs.size, [s1.heap.objs.size], _, _, H1, rfl, I1.kept (t' := s1.toks) fun b o e => Heap.get?_push_of_some _ e, turn_list a _, ⟨_, Heap.get?_push_size _ rfl, rfl, rfl⟩, fun b hb => ?_, q⟩
  have e : b = s1.heap.objs.size := by simpa using hb
  subst e
  exact I1.fpOk (Nat.le_refl _) (I1.hok.fresh (Nat.le_refl _))
/-- a range object just made, walked -/
theorem range_it {pins : List (Addr × Obj)} {σ : St} {H : Hp} {s : Shared} {R : It → Hp → Prop} {E : Value → Shared → Prop} {lo hi : Int} {t u v : Tok} {tk : Nat} (I : Inv X pins σ H s) (h1 : -(2 ^ 62) ≤ lo) (h2 : lo < 2 ^ 62) (h3 : -(2 ^ 62) ≤ hi) (h4 : hi < 2 ^ 62)
    (q : R (Itr lo (hi - lo).toNat) H) : wpAny (model X.prog X.w) X.A (pyIter (.ref s.heap.objs.size)) (PIE X pins σ tg R) E { s with heap := s.heap.push { cls := .type "range", data := .fields #[.int lo t, .int hi u, .int 1 v] }, toks := tk } := by
  refine wpAny_pyIter_range (IsRange.new ..) (small_one h1 h2 h3 h4) ?_
  have I1 : Inv X pins σ H { s with heap := s.heap.push { cls := .type "range", data := .fields #[.int lo t, .int hi u, .int 1 v] }, toks := tk } := I.kept fun b o e => Heap.get?_push_of_some _ e
  refine ⟨(s.heap.push { cls := .type "range", data := .fields #[.int lo t, .int hi u, .int 1 v] }).objs.size, [(s.heap.push { cls := .type "range", data := .fields #[.int lo t, .int hi u, .int 1 v] }).objs.size], _, _, H, rfl,
    I1.kept (t' := tk) fun b o e => Heap.get?_push_of_some _ e, turn_range _ lo (hi - lo).toNat, ?_, fun b hb => ?_, q⟩
  · have e1 : lo + ((0 : Nat) : Int) * 1 = lo := by simp
    have e2 : (((hi - lo).toNat : Nat) : Int) - ((0 : Nat) : Int) = Builtin.Range.rangeSize lo hi 1 := by rw [rangeSize_one]; split <;> omega
    show IsRangeIter _ _ (lo + ((0 : Nat) : Int) * 1) ((((hi - lo).toNat : Nat) : Int) - ((0 : Nat) : Int)) 1
    rw [e1, e2]
    exact Heap.get?_push_size _ rfl
  · have e : b = (s.heap.push { cls := .type "range", data := .fields #[.int lo t, .int hi u, .int 1 v] }).objs.size := by simpa using hb
    subst e
    exact I1.fpOk (Nat.le_refl _) (I1.hok.fresh (Nat.le_refl _))
def iRng1 (ta : TA) : TI := fun σ H R => ta σ H fun vs H1 => ∃ j : Int, vs = [.int j] ∧ -(2 ^ 62) ≤ j ∧ j < 2 ^ 62 ∧ R (Itr 0 j.toNat) H1
def iRng2 (ta : TA) : TI := fun σ H R => ta σ H fun vs H1 => ∃ i j : Int, vs = [.int i, .int j] ∧ (-(2 ^ 62) ≤ i ∧ i < 2 ^ 62 ∧ -(2 ^ 62) ≤ j ∧ j < 2 ^ 62) ∧ R (Itr i (j - i).toNat) H1
theorem pi_range1 {a : Expr} {ta : TA} {p pos : Pos} (hg : Gl X "range") (hm : X.mg "range" = none) (ha : PA X [a] ta) (hs : starEach [a] X.env = [(false, eval a X.env)] := by rfl) : PI X tg (.Call (.Name "range" p) [a] [] pos) (iRng1 ta) := by
  intro pins s σ H R I h
  refine Call_ (ld_blt I hg hm boot_range (PyProof.Rows.callWith_type1 (thn (ha pos pins s σ H _ I h) fun us s1 ⟨vs, H1, I1, r1, q1⟩ => ?_) hs rfl))
  obtain ⟨j, e, q1, q2, q⟩ := q1
  subst e
  cases r1 with
  | cons r rr =>
    cases rr
    obtain ⟨t, rfl⟩ := r
    exact call_range_1 (range_it I1 (by omega) (by omega) q1 q2 (by simpa using q))
theorem pi_range2 {a b : Expr} {ta : TA} {p pos : Pos} (hg : Gl X "range") (hm : X.mg "range" = none) (ha : PA X [a, b] ta) (hs : starEach [a, b] X.env = [(false, eval a X.env), (false, eval b X.env)] := by rfl) (hs2 : starEach [b] X.env = [(false, eval b X.env)] := by rfl) :
    PI X tg (.Call (.Name "range" p) [a, b] [] pos) (iRng2 ta) := by
  intro pins s σ H R I h
  refine Call_ (ld_blt I hg hm boot_range (PyProof.Rows.callWith_type1 (thn (ha pos pins s σ H _ I h) fun us s1 ⟨vs, H1, I1, r1, q1⟩ => ?_) (by rw [hs, hs2]) (by rw [hs2]; rfl)))
  obtain ⟨i, j, e, ⟨q1, q2, q3, q4⟩, q⟩ := q1
  subst e
  cases r1 with
  | cons r rr =>
    cases rr with
    | cons r' rr =>
      cases rr
      obtain ⟨t, rfl⟩ := r
      obtain ⟨t', rfl⟩ := r'
      exact call_range_2 (range_it I1 q1 q2 q3 q4 q)

/-- W: the invariant by the turn and a measure; N: what the body is to reach -/
def tFor (wi : TI) (g : TG) (tb : TS) : TS := fun D σ H => wi σ H fun J H1 => ∃ W : Nat → Nat → St → Hp → Prop, (∃ m, W 0 m σ H1) ∧ ∀ i m σ H, W i m σ H →
  (J.stop i H ∧ D.nx σ H) ∨ (J.go i H ∧ ∃ N : St → Hp → Prop, (∀ σ' H', N σ' H' → ∃ m', m' < m ∧ W (i + 1) m' σ' H') ∧ ∀ x H', J.yld i H x H' → g x σ H' fun σ2 H2 => tb { D with nx := N, ct := N, bk := D.nx } σ2 H2)
/-- the records at fp as they stand -/
def pinsAt (fp : List Addr) (h : Heap) : List (Addr × Obj) := fp.filterMap fun b => (h.get? b).map fun o => (b, o)
theorem mem_pinsAt {fp : List Addr} {h : Heap} {b : Addr} {o : Obj} (hb : b ∈ fp) (e : h.get? b = some o) : (b, o) ∈ pinsAt fp h := List.mem_filterMap.mpr ⟨b, hb, by rw [e]; rfl⟩
theorem of_pinsAt {fp : List Addr} {h : Heap} {p : Addr × Obj} (hp : p ∈ pinsAt fp h) : p.1 ∈ fp ∧ h.get? p.1 = some p.2 := by
  obtain ⟨b, hb, e⟩ := List.mem_filterMap.mp hp
  cases q : h.get? b with
  | none => rw [q] at e; cases e
  | some o =>
    rw [q] at e
    have e' : (b, o) = p := Option.some.inj e
    subst e'
    exact ⟨hb, q⟩
theorem Inv.pinned {pins : List (Addr × Obj)} {σ : St} {H : Hp} {s : Shared} {fp : List Addr} (I : Inv X pins σ H s) (hf : ∀ b ∈ fp, FpOk X pins H b) (ho : ∀ b ∈ fp, ∃ o, s.heap.get? b = some o ∧ ∀ v, o.data ≠ .cell v) : Inv X (pins ++ pinsAt fp s.heap) σ H s :=
  I.pins_of fun p hp => (List.mem_append.mp hp).elim (fun z => I.pin p (List.mem_append_right _ z)) fun z => by
    obtain ⟨hb, e⟩ := of_pinsAt z
    obtain ⟨f0, f1, f2, _⟩ := hf p.1 hb
    obtain ⟨o, e', d⟩ := ho p.1 hb
    rw [e] at e'; cases e'
    exact ⟨e, f0, f1, f2, d⟩
theorem Inv.unpinned {pins pl : List (Addr × Obj)} {σ : St} {H : Hp} {s : Shared} (I : Inv X (pins ++ pl) σ H s) : Inv X pins σ H s := I.pins_of fun p hp => I.pin p (List.mem_append_right _ (List.mem_append_left _ hp))
theorem ps_for {iter : Expr} {body : List Stmt} {wi : TI} {g : TG} {tb : TS} {pos : Pos} (hp : PassesOwn (model X.prog X.w) X.A X.env X.xe) (hc : X.calm = true) (hi : PI X tg iter wi) (hg : PG X tg g) (hb : PSs X body tb)
    (hs : ∀ x, foldedSetIterable iter X.env x = pure x := by intro _; rfl) : PS X (.For tg iter body [] pos) (tFor wi g tb) := by
  intro pins s σ H D I h
  refine wpAny_For (thn (hi pins s σ H _ I h) fun v s1 h1 => thn h1 fun itv s2 h2 => ?_) hs
  obtain ⟨it, fp, tn, J, H2, e, I2, T, st2, f2, W, ⟨m0, w0⟩, turn⟩ := h2
  subst e
  -- what stays true of the iterator's objects through the loop
  have stat : ∀ {H' : Hp}, (∀ b ∈ fp, H' b = none) → ∀ b ∈ fp, FpOk X pins H' b := fun hn b hb => ⟨hn b hb, (f2 b hb).2⟩
  refine codeAny_forLoop_any (fun n s' => ∃ i σ' H', Inv X pins σ' H' s' ∧ tn i s'.heap ∧ (∀ b ∈ fp, H' b = none) ∧ W i n σ' H') ?_ m0 ⟨0, σ, H2, I2, st2, fun b hb => (f2 b hb).1, w0⟩
  rintro n s3 ⟨i, σ3, H3, I3, st3, fr3, w3⟩
  rcases turn i n σ3 H3 w3 with ⟨stop, qn⟩ | ⟨go, N, hN, step⟩
  · refine wpAny_passesOwn hp (thn (T.done X rfl rfl rfl hc i pins s3 σ3 H3 X.xe I3 (stat fr3) st3 stop) fun r s4 ⟨hr, I4⟩ => ?_)
    subst hr
    exact wpAny_execs_nil ⟨σ3, H3, I4, qn⟩
  · refine wpAny_passesOwn hp (thn (T.item X rfl rfl rfl hc i pins s3 σ3 H3 X.xe I3 (stat fr3) st3 go) fun r s4 ⟨u, hr, h4⟩ => ?_)
    subst hr
    refine wpAny_passesOwn hp (thn h4 fun _ s5 ⟨x, H5, I5, r5, y5, st5, fr5⟩ => ?_)
    have I5' := I5.pinned (stat fr5) (T.obj _ _ st5)
    refine wpAny_passesOwn hp (thn (hg _ s5 σ3 H5 x u _ I5' r5 (step x H5 y5)) fun _ s6 ⟨σ6, H6, I6, q6⟩ => ?_)
    refine wpAny_passesOwn hp (thn (hb _ s6 σ6 H6 _ I6 q6) fun f s7 q7 => ?_)
    have again : ∀ {σ7 : St} {H7 : Hp}, Inv X (pins ++ pinsAt fp s5.heap) σ7 H7 s7 → N σ7 H7 → ∃ m, m < n ∧ ∃ i σ' H', Inv X pins σ' H' s7 ∧ tn i s7.heap ∧ (∀ b ∈ fp, H' b = none) ∧ W i m σ' H' := fun {σ7 H7} I7 n7 => by
      obtain ⟨m', hm, w7⟩ := hN σ7 H7 n7
      refine ⟨m', hm, i + 1, σ7, H7, I7.unpinned, T.keep _ _ _ st5 fun b hb o e => (I7.pin (b, o) (List.mem_append_right _ (List.mem_append_right _ (mem_pinsAt hb e)))).1, fun b hb => ?_, w7⟩
      obtain ⟨o, e, d⟩ := T.obj _ _ st5 b hb
      exact (I7.pin (b, o) (List.mem_append_right _ (List.mem_append_right _ (mem_pinsAt hb e)))).2.1
    cases f with
    | next => obtain ⟨σ7, H7, I7, n7⟩ := q7; exact again I7 n7
    | cont => obtain ⟨σ7, H7, I7, n7⟩ := q7; exact again I7 n7
    | brk => obtain ⟨σ7, H7, I7, q7⟩ := q7; exact ⟨σ7, H7, I7.unpinned, q7⟩
    | ret v => obtain ⟨x7, σ7, H7, I7, r7, q7⟩ := q7; exact ⟨x7, σ7, H7, I7.unpinned, r7, q7⟩
end

/-- over a list that the body leaves as it is -/
theorem for_list {K : PySem.W.Frag} {a : Addr} {xs : List V} {g : TG} {tb : TS} {D : Ends} {σ : St} {H : Hp} (Pv : Nat → St → Hp → Prop) (h0 : Pv 0 σ H) (hl : ∀ i σ H, i ≤ xs.length → Pv i σ H → SqL K H a xs)
    (hs : ∀ i x σ H, xs[i]? = some x → Pv i σ H → g x σ H fun σ2 H2 => tb { D with nx := Pv (i + 1), ct := Pv (i + 1), bk := D.nx } σ2 H2) (hd : ∀ σ H, Pv xs.length σ H → D.nx σ H) :
    ∃ W : Nat → Nat → St → Hp → Prop, (∃ m, W 0 m σ H) ∧ ∀ i m σ H, W i m σ H →
      ((Itl K a).stop i H ∧ D.nx σ H) ∨ ((Itl K a).go i H ∧ ∃ N : St → Hp → Prop, (∀ σ' H', N σ' H' → ∃ m', m' < m ∧ W (i + 1) m' σ' H') ∧ ∀ x H', (Itl K a).yld i H x H' → g x σ H' fun σ2 H2 => tb { D with nx := N, ct := N, bk := D.nx } σ2 H2) := by
  refine ⟨fun i m σ H => m = xs.length - i ∧ i ≤ xs.length ∧ Pv i σ H, ⟨xs.length, by simp, Nat.zero_le _, h0⟩, ?_⟩
  rintro i m σ H ⟨rfl, hi, p⟩
  have q := hl i σ H hi p
  by_cases hlt : i < xs.length
  · refine .inr ⟨⟨xs, xs[i], q, by simp [hlt]⟩, Pv (i + 1), fun σ' H' p' => ⟨xs.length - (i + 1), by omega, rfl, hlt, p'⟩, fun x H' y => ?_⟩
    obtain ⟨e, y⟩ := y
    subst e
    exact hs i x σ _ (y xs q) p
  · have e : i = xs.length := by omega
    subst e
    exact .inl ⟨⟨xs, q, Nat.le_refl _⟩, hd σ H p⟩
theorem for_range {lo : Int} {n : Nat} {g : TG} {tb : TS} {D : Ends} {σ : St} {H : Hp} (Pv : Nat → St → Hp → Prop) (h0 : Pv 0 σ H)
    (hs : ∀ i σ H, i < n → Pv i σ H → g (.int (lo + i)) σ H fun σ2 H2 => tb { D with nx := Pv (i + 1), ct := Pv (i + 1), bk := D.nx } σ2 H2) (hd : ∀ σ H, Pv n σ H → D.nx σ H) :
    ∃ W : Nat → Nat → St → Hp → Prop, (∃ m, W 0 m σ H) ∧ ∀ i m σ H, W i m σ H →
      ((Itr lo n).stop i H ∧ D.nx σ H) ∨ ((Itr lo n).go i H ∧ ∃ N : St → Hp → Prop, (∀ σ' H', N σ' H' → ∃ m', m' < m ∧ W (i + 1) m' σ' H') ∧ ∀ x H', (Itr lo n).yld i H x H' → g x σ H' fun σ2 H2 => tb { D with nx := N, ct := N, bk := D.nx } σ2 H2) := by
  refine ⟨fun i m σ H => m = n - i ∧ i ≤ n ∧ Pv i σ H, ⟨n, by simp, Nat.zero_le _, h0⟩, ?_⟩
  rintro i m σ H ⟨rfl, hi, p⟩
  by_cases hlt : i < n
  · refine .inr ⟨hlt, Pv (i + 1), fun σ' H' p' => ⟨n - (i + 1), by omega, rfl, hlt, p'⟩, fun x H' y => ?_⟩
    obtain ⟨e, y⟩ := y
    subst e y
    exact hs i σ _ hlt p
  · have e : i = n := by omega
    subst e
    exact .inl ⟨Nat.le_refl _, hd σ H p⟩
end L2

namespace L2
open PySem PySem.Spec PyProof.Rows

abbrev R2 := V → V → Hp → VK → Prop
/-- a two-place operation on values: f is binaryOp op, inplaceOp op or compareOp op -/
def OpR (X : Cx) (f : Value → Value → Sem Value) (r : R2) : Prop :=
  ∀ (pins : List (Addr × Obj)) (s : Shared) (σ : St) (H : Hp) (x y : V) (v u : Value) (Q : VK), Inv X pins σ H s → RelV x v → RelV y u → r x y H Q →
    wpAny (model X.prog X.w) X.A (f v u) (EP X pins σ Q) X.xe s
/-- a one-place operation -/
def UnR (X : Cx) (f : Value → Sem Value) (r : V → Hp → VK → Prop) : Prop :=
  ∀ (pins : List (Addr × Obj)) (s : Shared) (σ : St) (H : Hp) (x : V) (v : Value) (Q : VK), Inv X pins σ H s → RelV x v → r x H Q →
    wpAny (model X.prog X.w) X.A (f v) (EP X pins σ Q) X.xe s
/-- a call of a value that is known (a builtin, a type) with values -/
def CallR (X : Cx) (f : Value) (r : List V → Hp → VK → Prop) : Prop :=
  ∀ (pins : List (Addr × Obj)) (s : Shared) (σ : St) (H : Hp) (xs : List V) (us : List Value) (Q : VK), Inv X pins σ H s → Vals xs us → r xs H Q →
    wpAny (model X.prog X.w) X.A (call f us) (EP X pins σ Q) X.xe s
/-- a value's truth -/
def TruR (X : Cx) (r : V → Hp → (Bool → Hp → Prop) → Prop) : Prop :=
  ∀ (pins : List (Addr × Obj)) (s : Shared) (σ : St) (H : Hp) (x : V) (v : Value) (Q : Bool → Hp → Prop), Inv X pins σ H s → RelV x v → r x H Q →
    wpAny (model X.prog X.w) X.A (truthy v) (TP X pins σ Q) X.xe s

def tOp (r : R2) (ta tb : TE) : TE := fun σ H Q => ta σ H fun x H1 => tb σ H1 fun y H2 => r x y H2 Q
def tUn (r : V → Hp → VK → Prop) (ta : TE) : TE := fun σ H Q => ta σ H fun x H1 => r x H1 Q
/-- ints in, under C, and a value out -/
def rI (C : Int → Int → Prop) (g : Int → Int → V) : R2 := fun x y H Q => ∃ i j, x = .int i ∧ y = .int j ∧ C i j ∧ Q (g i j) H
def rI0 (g : Int → Int → V) : R2 := fun x y H Q => ∃ i j, x = .int i ∧ y = .int j ∧ Q (g i j) H
def rU (g : Int → V) : V → Hp → VK → Prop := fun x H Q => ∃ i, x = .int i ∧ Q (g i) H

section
variable {X : Cx} {a b c : Expr} {ta tb tc : TE} {pos : Pos}

theorem binT (ha : PE X a ta) (hb : PE X b tb) {pins : List (Addr × Obj)} {s : Shared} {σ : St} {H : Hp} {R : V → V → Hp → Prop} (I : Inv X pins σ H s)
    (h : ta σ H fun x H1 => tb σ H1 fun y H2 => R x y H2) {Q : Value → Shared → Prop} {f : Value → Value → Sem Value}
    (hf : ∀ v u s2 x y H2, Inv X pins σ H2 s2 → RelV x v → RelV y u → R x y H2 → wpAny (model X.prog X.w) X.A (f v u) Q X.xe s2) :
    wpAny (model X.prog X.w) X.A (eval a X.env) (fun v s₁ => wpAny (model X.prog X.w) X.A (eval b X.env) (fun u s₂ => wpAny (model X.prog X.w) X.A (f v u) Q X.xe s₂) X.xe s₁) X.xe s := by
  refine thn (ha pins s σ H _ I h) fun v s1 ⟨x, H1, I1, r1, q1⟩ => ?_
  refine thn (hb pins s1 σ H1 _ I1 q1) fun u s2 ⟨y, H2, I2, r2, q2⟩ => ?_
  exact hf v u s2 x y H2 I2 r1 r2 q2

theorem pe_op {op : Operator} {r : R2} (ho : OpR X (binaryOp op) r) (ha : PE X a ta) (hb : PE X b tb) : PE X (.BinOp a op b pos) (tOp r ta tb) := by
  intro pins s σ H Q I h
  exact wpAny_BinOp (binT ha hb I h fun v u s2 x y H2 I2 rx ry q => ho pins s2 σ H2 x y v u Q I2 rx ry q)
theorem pe_un {op : UnaryOp} {r : V → Hp → VK → Prop} (ho : UnR X (unaryOp op) r) (ha : PE X a ta) : PE X (.UnaryOp op a pos) (tUn r ta) := by
  intro pins s σ H Q I h
  exact UnaryOp_ (thn (ha pins s σ H _ I h) fun v s1 ⟨x, H1, I1, r1, q1⟩ => ho pins s1 σ H1 x v Q I1 r1 q1)
theorem opI {f : Value → Value → Sem Value} {C : Int → Int → Prop} {g : Int → Int → Int}
    (rule : ∀ (i j : Int) (t u : Tok) (s : Shared) (Q : Value → Shared → Prop) (E : Value → Shared → Prop), C i j → Q (.int (g i j) s.toks) { s with toks := s.toks + 1 } → wpAny (model X.prog X.w) X.A (f (.int i t) (.int j u)) Q E s) :
    OpR X f (rI C fun i j => .int (g i j)) := by
  intro pins s σ H x y v u Q I rx ry h
  obtain ⟨i, j, rfl, rfl, hc, q⟩ := h
  obtain ⟨t, rfl⟩ := rx
  obtain ⟨t', rfl⟩ := ry
  exact rule i j t t' s _ _ hc ⟨.int (g i j), H, I.tok _, ⟨_, rfl⟩, q⟩
theorem opI0 {f : Value → Value → Sem Value} {g : Int → Int → Int}
    (rule : ∀ (i j : Int) (t u : Tok) (s : Shared) (Q : Value → Shared → Prop) (E : Value → Shared → Prop), Q (.int (g i j) s.toks) { s with toks := s.toks + 1 } → wpAny (model X.prog X.w) X.A (f (.int i t) (.int j u)) Q E s) :
    OpR X f (rI0 fun i j => .int (g i j)) := by
  intro pins s σ H x y v u Q I rx ry h
  obtain ⟨i, j, rfl, rfl, q⟩ := h
  obtain ⟨t, rfl⟩ := rx
  obtain ⟨t', rfl⟩ := ry
  exact rule i j t t' s _ _ ⟨.int (g i j), H, I.tok _, ⟨_, rfl⟩, q⟩
theorem opB0 {f : Value → Value → Sem Value} {g : Int → Int → Bool}
    (rule : ∀ (i j : Int) (t u : Tok) (s : Shared) (Q : Value → Shared → Prop) (E : Value → Shared → Prop), Q (.bool (g i j)) s → wpAny (model X.prog X.w) X.A (f (.int i t) (.int j u)) Q E s) :
    OpR X f (rI0 fun i j => .bl (g i j)) := by
  intro pins s σ H x y v u Q I rx ry h
  obtain ⟨i, j, rfl, rfl, q⟩ := h
  obtain ⟨t, rfl⟩ := rx
  obtain ⟨t', rfl⟩ := ry
  exact rule i j t t' s _ _ ⟨.bl (g i j), H, I, rfl, q⟩

def CDiv (i j : Int) : Prop := 0 < j ∧ j < 1073741824
def CPow (i j : Int) : Prop := 0 ≤ j ∧ j ≤ 1000000 ∧ i.natAbs < 2 ^ 64
def CMul (i j : Int) : Prop := (-(2 ^ 64) < i ∧ i < 2 ^ 64) ∨ (-(2 ^ 64) < j ∧ j < 2 ^ 64)
theorem CMul.ok {i j : Int} (h : CMul i j) : IntMulOk i j := by
  rcases h with ⟨h1, h2⟩ | ⟨h1, h2⟩
  · exact .of_left (intBits_le_64 h1 h2)
  · exact .of_right (intBits_le_64 h1 h2)
theorem two_pow_nn (k : Nat) : (0 : Int) ≤ 2 ^ k := by
  rw [two_pow_cast]
  exact Int.natCast_nonneg _

theorem op_add : OpR X (binaryOp .Add) (rI0 fun i j => .int (i + j)) := opI0 fun _ _ _ _ _ _ _ q => add_int q
theorem op_sub : OpR X (binaryOp .Sub) (rI0 fun i j => .int (i - j)) := opI0 fun _ _ _ _ _ _ _ q => sub_int q
theorem op_mul : OpR X (binaryOp .Mult) (rI CMul fun i j => .int (i * j)) := opI fun _ _ _ _ _ _ _ hc q => mul_int q hc.ok
/-- // by a positive divisor -/
theorem op_fdiv : OpR X (binaryOp .FloorDiv) (rI CDiv fun i j => .int (i / j)) := opI fun i j _ _ _ _ _ hc q => by
  have h1 : (0 : Int) < j := hc.1
  have h2 : j < 1073741824 := hc.2
  exact floordiv_int (by omega) (by rw [Int.fdiv_eq_ediv_of_nonneg i (by omega)]; exact q) (.inl (PyProof.noPylong_small (by omega)))
/-- % by a positive divisor of any size -/
theorem op_mod : OpR X (binaryOp .Mod) (rI (fun _ j => 0 < j) fun i j => .int (i % j)) := opI fun i j _ _ _ _ _ hc q => by
  have h1 : (0 : Int) < j := hc
  exact mod_int' (by omega) (by rw [Int.fmod_eq_emod_of_nonneg i (by omega)]; exact q)
theorem op_pow : OpR X (binaryOp .Pow) (rI CPow fun i j => .int (i ^ j.toNat)) := opI fun _ _ _ _ _ _ _ hc q => pow_int_small hc.1 hc.2.1 hc.2.2 q
theorem op_shl : OpR X (binaryOp .LShift) (rI CPow fun i j => .int (i * 2 ^ j.toNat)) := opI fun _ _ _ _ _ _ _ hc q => lshift_int_small hc.1 hc.2.1 hc.2.2 q
theorem op_shr : OpR X (binaryOp .RShift) (rI (fun _ j => 0 ≤ j) fun i j => .int (i / 2 ^ j.toNat)) := opI fun i j _ _ _ _ _ hc q =>
  rshift_int hc (by rw [Int.fdiv_eq_ediv_of_nonneg i (two_pow_nn _)]; exact q)
theorem op_and : OpR X (binaryOp .BitAnd) (rI0 fun i j => .int (Builtin.bitAnd i j)) := opI0 fun _ _ _ _ _ _ _ q => and_int q
theorem unI {f : Value → Sem Value} {g : Int → Int}
    (rule : ∀ (i : Int) (t : Tok) (s : Shared) (Q : Value → Shared → Prop) (E : Value → Shared → Prop), Q (.int (g i) s.toks) { s with toks := s.toks + 1 } → wpAny (model X.prog X.w) X.A (f (.int i t)) Q E s) :
    UnR X f (rU fun i => .int (g i)) := by
  intro pins s σ H x v Q I rx h
  obtain ⟨i, rfl, q⟩ := h
  obtain ⟨t, rfl⟩ := rx
  exact rule i t s _ _ ⟨.int (g i), H, I.tok _, ⟨_, rfl⟩, q⟩
theorem un_neg : UnR X (unaryOp .USub) (rU fun i => .int (-i)) := unI fun _ _ _ _ _ q => neg_int q
end

/-- the scalars that == tells apart as data does -/
def scal : V → V → Bool
  | .non, .non => true | .non, .int _ => true | .int _, .non => true | .non, .bl _ => true | .bl _, .non => true | .non, .str _ => true | .str _, .non => true
  | .int _, .int _ => true | .bl _, .bl _ => true | .str _, .str _ => true | .byt _, .byt _ => true
  | .int _, .str _ => true | .str _, .int _ => true | .bl _, .str _ => true | .str _, .bl _ => true
  | _, _ => false
def rEq : R2 := fun x y H Q => scal x y = true ∧ Q (.bl (decide (x = y))) H
def rNe : R2 := fun x y H Q => scal x y = true ∧ Q (.bl (!decide (x = y))) H

theorem dec_int {i j : Int} : decide (V.int i = V.int j) = (i == j) := by
  rw [Bool.eq_iff_iff]
  simp
theorem dec_bl {i j : Bool} : decide (V.bl i = V.bl j) = (i == j) := by
  rw [Bool.eq_iff_iff]
  simp
theorem dec_str {i j : Str} : decide (V.str i = V.str j) = (i == j) := by
  rw [Bool.eq_iff_iff]
  simp
theorem dec_byt {i j : Array UInt8} : decide (V.byt i = V.byt j) = (i.toList == j.toList) := by
  rw [Bool.eq_iff_iff]
  cases i
  cases j
  simp

section
variable {X : Cx} {a b c : Expr} {ta tb tc : TE} {pos : Pos}
theorem fin_bl {pins : List (Addr × Obj)} {σ : St} {H : Hp} {s : Shared} {Q : VK} {k k' : Bool} (I : Inv X pins σ H s) (q : Q (.bl k) H) (e : k = k') : EP X pins σ Q (.bool k') s := by
  subst e
  exact ⟨.bl k, H, I, rfl, q⟩
theorem op_eq : OpR X (compareOp .Eq) rEq := by
  intro pins s σ H x y v u Q I rx ry h
  obtain ⟨hs, q⟩ := h
  cases x with
  | non =>
    cases rx
    cases y with
    | non => cases ry; exact PySem.EqNone.eq_none_none (fin_bl I q (by simp))
    | bl j => cases ry; exact PySem.EqNone.eq_none_bool (fin_bl I q (by simp))
    | int j => obtain ⟨t', rfl⟩ := ry; exact PySem.EqNone.eq_none_int (fin_bl I q (by simp))
    | str j => obtain ⟨t', rfl⟩ := ry; exact PySem.EqNone.eq_none_str (fin_bl I q (by simp))
    | _ => exact absurd (show false = true from hs) Bool.false_ne_true
  | bl i =>
    cases rx
    cases y with
    | non => cases ry; exact PySem.EqNone.eq_bool_none (fin_bl I q (by simp))
    | bl j => cases ry; exact eq_bool (fin_bl I q dec_bl)
    | str j => obtain ⟨t', rfl⟩ := ry; exact PySem.EqMixed.eq_bool_str (fin_bl I q (by simp))
    | _ => exact absurd (show false = true from hs) Bool.false_ne_true
  | int i =>
    obtain ⟨t, rfl⟩ := rx
    cases y with
    | non => cases ry; exact PySem.EqNone.eq_int_none (fin_bl I q (by simp))
    | int j => obtain ⟨t', rfl⟩ := ry; exact eq_int (fin_bl I q dec_int)
    | str j => obtain ⟨t', rfl⟩ := ry; exact PySem.EqMixed.eq_int_str (fin_bl I q (by simp))
    | _ => exact absurd (show false = true from hs) Bool.false_ne_true
  | str i =>
    obtain ⟨t, rfl⟩ := rx
    cases y with
    | non => cases ry; exact PySem.EqNone.eq_str_none (fin_bl I q (by simp))
    | bl j => cases ry; exact PySem.EqMixed.eq_str_bool (fin_bl I q (by simp))
    | int j => obtain ⟨t', rfl⟩ := ry; exact PySem.EqMixed.eq_str_int (fin_bl I q (by simp))
    | str j => obtain ⟨t', rfl⟩ := ry; exact eq_str (fin_bl I q dec_str)
    | _ => exact absurd (show false = true from hs) Bool.false_ne_true
  | byt i =>
    obtain ⟨t, rfl⟩ := rx
    cases y with
    | byt j => obtain ⟨t', rfl⟩ := ry; exact PySem.W.eq_bytes (fin_bl I q dec_byt)
    | _ => exact absurd (show false = true from hs) Bool.false_ne_true
  | _ => cases y <;> exact absurd (show false = true from hs) Bool.false_ne_true
theorem op_ne : OpR X (compareOp .NotEq) rNe := by
  intro pins s σ H x y v u Q I rx ry h
  obtain ⟨hs, q⟩ := h
  cases x with
  | non =>
    cases rx
    cases y with
    | non => cases ry; exact PySem.EqNone.ne_none_none (fin_bl I q (by simp))
    | bl j => cases ry; exact PySem.EqNone.ne_none_bool (fin_bl I q (by simp))
    | int j => obtain ⟨t', rfl⟩ := ry; exact PySem.EqNone.ne_none_int (fin_bl I q (by simp))
    | str j => obtain ⟨t', rfl⟩ := ry; exact PySem.EqNone.ne_none_str (fin_bl I q (by simp))
    | _ => exact absurd (show false = true from hs) Bool.false_ne_true
  | bl i =>
    cases rx
    cases y with
    | non => cases ry; exact PySem.EqNone.ne_bool_none (fin_bl I q (by simp))
    | bl j => cases ry; exact ne_bool (fin_bl I q (congrArg not dec_bl))
    | str j => obtain ⟨t', rfl⟩ := ry; exact PySem.EqMixed.ne_bool_str (fin_bl I q (by simp))
    | _ => exact absurd (show false = true from hs) Bool.false_ne_true
  | int i =>
    obtain ⟨t, rfl⟩ := rx
    cases y with
    | non => cases ry; exact PySem.EqNone.ne_int_none (fin_bl I q (by simp))
    | int j => obtain ⟨t', rfl⟩ := ry; exact ne_int (fin_bl I q (congrArg not dec_int))
    | str j => obtain ⟨t', rfl⟩ := ry; exact PySem.EqMixed.ne_int_str (fin_bl I q (by simp))
    | _ => exact absurd (show false = true from hs) Bool.false_ne_true
  | str i =>
    obtain ⟨t, rfl⟩ := rx
    cases y with
    | non => cases ry; exact PySem.EqNone.ne_str_none (fin_bl I q (by simp))
    | bl j => cases ry; exact PySem.EqMixed.ne_str_bool (fin_bl I q (by simp))
    | int j => obtain ⟨t', rfl⟩ := ry; exact PySem.EqMixed.ne_str_int (fin_bl I q (by simp))
    | str j => obtain ⟨t', rfl⟩ := ry; exact ne_str (fin_bl I q (congrArg not dec_str))
    | _ => exact absurd (show false = true from hs) Bool.false_ne_true
  | byt i =>
    obtain ⟨t, rfl⟩ := rx
    cases y with
    | byt j => obtain ⟨t', rfl⟩ := ry; exact PySem.W.ne_bytes (fin_bl I q (congrArg not dec_byt))
    | _ => exact absurd (show false = true from hs) Bool.false_ne_true
  | _ => cases y <;> exact absurd (show false = true from hs) Bool.false_ne_true

theorem op_lt : OpR X (compareOp .Lt) (rI0 fun i j => .bl (decide (i < j))) := opB0 fun _ _ _ _ _ _ _ q => lt_int q
theorem op_le : OpR X (compareOp .LtE) (rI0 fun i j => .bl (decide (i ≤ j))) := opB0 fun _ _ _ _ _ _ _ q => le_int q
theorem op_gt : OpR X (compareOp .Gt) (rI0 fun i j => .bl (decide (j < i))) := opB0 fun _ _ _ _ _ _ _ q => gt_int q
theorem op_ge : OpR X (compareOp .GtE) (rI0 fun i j => .bl (decide (j ≤ i))) := opB0 fun _ _ _ _ _ _ _ q => ge_int q
theorem nomark (b : Expr) {op : CmpOp} (h : op ≠ .In := by decide) (h2 : op ≠ .NotIn := by decide) : behindInMarks op b = false := by
  have e1 : (op == CmpOp.In) = false := by cases op <;> first | rfl | exact absurd rfl h
  have e2 : (op == CmpOp.NotIn) = false := by cases op <;> first | rfl | exact absurd rfl h2
  cases b <;> simp [behindInMarks, e1, e2]
/-- a reading of a value as a test -/
def tTest (t : TE) : TT := fun σ H Q => t σ H fun x H' => ∃ k, x = .bl k ∧ Q k H'
theorem pt_cmpR {op : CmpOp} {r : R2} (ho : OpR X (compareOp op) r) (ha : PE X a ta) (hb : PE X b tb) (hm : behindInMarks op b = false) : PT X (.Compare a [op] [b] pos) (tTest (tOp r ta tb)) := by
  intro pins s σ H Q I h
  refine wpAny_isTrue_Compare1 (thn (ha pins s σ H _ I h) fun v s1 ⟨x, H1, I1, r1, q1⟩ => thn (hb pins s1 σ H1 _ I1 q1) fun u s2 ⟨y, H2, I2, r2, q2⟩ =>
    thn (ho pins s2 σ H2 x y v u _ I2 r1 r2 q2) fun c s3 ⟨z, H3, I3, r3, k, e, q3⟩ => ?_) hm
  subst e
  cases r3
  exact wpAny_truthy_bool ⟨H3, I3, q3⟩
/-- a op1 b op2 c -/
def tChain (r r' : R2) (ta tb tc : TE) : TE := fun σ H Q => ta σ H fun x H1 => tb σ H1 fun y H2 => r x y H2 fun z H3 => ∃ k, z = .bl k ∧
  (if k = true then tc σ H3 fun w' H4 => r' y w' H4 Q else Q (.bl false) H3)
theorem pe_chain {op op' : CmpOp} {r r' : R2} (ho : OpR X (compareOp op) r) (ho' : OpR X (compareOp op') r') (ha : PE X a ta) (hb : PE X b tb) (hc : PE X c tc)
    (hm : lastMarks [op, op'] [b, c] = false := by with_unfolding_all rfl) : PE X (.Compare a [op, op'] [b, c] pos) (tChain r r' ta tb tc) := by
  intro pins s σ H Q I h
  refine Compare_chain (thn (ha pins s σ H _ I h) fun v s1 ⟨x, H1, I1, r1, q1⟩ => chain_link (thn (hb pins s1 σ H1 _ I1 q1) fun u s2 ⟨y, H2, I2, r2, q2⟩ =>
    thn (ho pins s2 σ H2 x y v u _ I2 r1 r2 q2) fun d s3 ⟨z, H3, I3, r3, k, e, q3⟩ => ?_)) hm
  subst e
  cases r3
  refine wpAny_truthy_bool ?_
  cases k with
  | false => exact ite_ff ⟨.bl false, H3, I3, rfl, q3⟩
  | true => exact ite_tt (chain_last (thn (hc pins s3 σ H3 _ I3 q3) fun w' s4 ⟨z', H4, I4, r4, q4⟩ => ho' pins s4 σ H4 y z' u w' Q I4 r2 r4 q4))
theorem pt_chain {op op' : CmpOp} {r r' : R2} (ho : OpR X (compareOp op) r) (ho' : OpR X (compareOp op') r') (ha : PE X a ta) (hb : PE X b tb) (hc : PE X c tc)
    (hm : lastMarks [op, op'] [b, c] = false := by with_unfolding_all rfl) : PT X (.Compare a [op, op'] [b, c] pos) (tTest (tChain r r' ta tb tc)) := by
  intro pins s σ H Q I h
  refine isTrue_chain (thn (ha pins s σ H _ I h) fun v s1 ⟨x, H1, I1, r1, q1⟩ => test_link (thn (hb pins s1 σ H1 _ I1 q1) fun u s2 ⟨y, H2, I2, r2, q2⟩ =>
    thn (ho pins s2 σ H2 x y v u _ I2 r1 r2 q2) fun d s3 ⟨z, H3, I3, r3, k, e, q3⟩ => ?_)) hm
  subst e
  cases r3
  refine wpAny_truthy_bool ?_
  cases k with
  | false =>
    obtain ⟨k', e', q'⟩ := q3
    cases e'
    exact ite_ff ⟨H3, I3, q'⟩
  | true =>
    refine ite_tt (test_last (thn (hc pins s3 σ H3 _ I3 q3) fun w' s4 ⟨z', H4, I4, r4, q4⟩ => thn (ho' pins s4 σ H4 y z' u w' _ I4 r2 r4 q4) fun d' s5 ⟨z2, H5, I5, r5, k2, e2, q5⟩ => ?_))
    subst e2
    cases r5
    exact wpAny_truthy_bool ⟨H5, I5, q5⟩

/-- a value's truth by the abstract heap -/
def TruV (K : PySem.W.Frag) (x : V) (H : Hp) (k : Bool) : Prop :=
  match x with
  | .non => k = false
  | .bl b => k = b
  | .int i => k = (i != 0)
  | .str y => y.length ≤ sizeLine ∧ k = ((y.length : Int) != 0)
  | .byt y => y.size ≤ sizeLine ∧ k = ((y.size : Int) != 0)
  | .ref p => (∃ xs, SqL K H p xs ∧ k = !xs.isEmpty) ∨ (∃ xs, SqT K H p xs ∧ k = !xs.isEmpty) ∨ ∃ kvs, H p = some (.dK kvs) ∧ k = !kvs.isEmpty
  | _ => False
theorem isEmpty_kv {κ : Type} {kvs : List (κ × V)} {vs : List (κ × Value)} (r : KV kvs vs) : (!vs.isEmpty) = !kvs.isEmpty := by
  cases r <;> rfl
theorem isEmpty_of {xs : List V} {its : List Value} (r : Vals xs its) : (!its.toArray.isEmpty) = !xs.isEmpty := by
  cases r <;> simp
theorem line63 : (sizeLine : Nat) < 2 ^ 63 := by rw [sizeLine_eq]; decide
theorem tru_ok : TruR X (fun x H Q => ∃ k, TruV X.K x H k ∧ Q k H) := by
  intro pins s σ H x v Q I rx h
  obtain ⟨k, e, q⟩ := h
  have hl := line63
  have hs : sizeLine = 16777216 := sizeLine_eq
  cases x with
  | non =>
    cases rx
    have e' : k = false := e
    subst e'
    exact truthy_none ⟨H, I, q⟩
  | bl b =>
    cases rx
    have e' : k = b := e
    subst e'
    exact wpAny_truthy_bool ⟨H, I, q⟩
  | int i =>
    obtain ⟨t, rfl⟩ := rx
    have e' : k = (i != 0) := e
    subst e'
    exact PySem.P.truthy_int ⟨H, I, q⟩
  | str y =>
    obtain ⟨t, rfl⟩ := rx
    obtain ⟨hy, e'⟩ : y.length ≤ sizeLine ∧ k = ((y.length : Int) != 0) := e
    subst e'
    exact PySem.P.truthy_str (by omega) ⟨H, I.tok _, q⟩
  | byt y =>
    obtain ⟨t, rfl⟩ := rx
    obtain ⟨hy, e'⟩ : y.size ≤ sizeLine ∧ k = ((y.size : Int) != 0) := e
    subst e'
    exact PySem.W.truthy_bytes (by omega) ⟨H, I.tok _, q⟩
  | ref p =>
    cases rx
    have e' : (∃ xs, SqL X.K H p xs ∧ k = !xs.isEmpty) ∨ (∃ xs, SqT X.K H p xs ∧ k = !xs.isEmpty) ∨ ∃ kvs, H p = some (.dK kvs) ∧ k = !kvs.isEmpty := e
    rcases e' with ⟨xs, hx, e'⟩ | ⟨xs, hx, e'⟩ | ⟨kvs, hx, e'⟩
    · subst e'
      obtain ⟨its, r, pl, hz⟩ := I.list hx
      have hlen := r.length
      exact wpAny_truthy_list pl.isList (by simp only [List.size_toArray]; omega) ⟨H, I.tok _, by rw [isEmpty_of r]; exact q⟩
    · subst e'
      obtain ⟨its, r, pl, hz⟩ := I.tuple hx
      have hlen := r.length
      exact truthy_tuple pl (by simp only [List.size_toArray]; omega) ⟨H, I.tok _, by rw [isEmpty_of r]; exact q⟩
    · subst e'
      obtain ⟨hz, hS, vs, r, m⟩ : kvs.length ≤ sizeLine ∧ (p == sysModules) = false ∧ ∃ vs, KV kvs vs ∧ s.heap.DictOf (mixKind X.prog X.w) p vs := I.hok p _ hx
      have hlen : kvs.length = vs.length := Paired.length r
      exact wpAny_truthy_dict hS m (by omega) ⟨H, I.tok _, by rw [isEmpty_kv r]; exact q⟩
  | _ => exact (show False from e).elim
/-- any expression whose test is its value's truth (a name, a call, a subscript, a field ..: he by fun _ => rfl) -/
theorem pt_truth (ha : PE X a ta) (he : ∀ whole, isTrue a X.env whole = (do let v ← whole; standAt a.pos; holding [v] (truthy v))) :
    PT X a (fun σ H Q => ta σ H fun x H' => ∃ k, TruV X.K x H' k ∧ Q k H') := by
  intro pins s σ H Q I h
  exact isTrue_plain (thn (ha pins s σ H _ I h) fun v s1 ⟨x, H1, I1, r1, q1⟩ => tru_ok pins s1 σ H1 x v Q I1 r1 q1) (he _)

theorem vals1 {x : V} {us : List Value} (r : Vals [x] us) : ∃ u, us = [u] ∧ RelV x u := by
  cases r with
  | cons r1 r2 => cases r2; exact ⟨_, rfl, r1⟩
theorem vals2 {x y : V} {us : List Value} (r : Vals [x, y] us) : ∃ u w', us = [u, w'] ∧ RelV x u ∧ RelV y w' := by
  cases r with
  | cons r1 r2 =>
    cases r2 with
    | cons r3 r4 => cases r4; exact ⟨_, _, rfl, r1, r3⟩
theorem call_min2 (hc : X.calm = true) : CallR X (.builtin "min") (fun xs H Q => ∃ i j, xs = [.int i, .int j] ∧ Q (.int (if j < i then j else i)) H) := by
  intro pins s σ H xs us Q I r h
  obtain ⟨i, j, rfl, q⟩ := h
  obtain ⟨u, w', rfl, ⟨t, rfl⟩, ⟨t', rfl⟩⟩ := vals2 r
  refine min_two_ints (I.ok.hd hc) fun h' tk k => ⟨_, H, I.kept k, ?_, q⟩
  by_cases hj : j < i
  · rw [if_pos hj, if_pos hj]; exact ⟨_, rfl⟩
  · rw [if_neg hj, if_neg hj]; exact ⟨_, rfl⟩
end
end L2

namespace L2
open PySem PySem.Spec PyProof.Rows

structure ObjM (h : Heap) (x dx C : Addr) (mA : Str → Option Value) : Prop where
  obj : h.get? x = some (PySem.W.instObj C dx)
  ns : h.Ns1 dx mA
  ne : dx ≠ x

theorem lookIn_ns {h : Heap} {dx : Addr} {mA : Str → Option Value} (n : h.Ns1 dx mA) : ∃ od, h.get? dx = some od ∧ ∀ name, PySem.W.lookIn name od = some (mA name) := by
  obtain ⟨o, es, ep, ho, hd, hk, _, hm⟩ := n
  refine ⟨o, ho, fun name => ?_⟩
  have e := hm name
  unfold nsFind findBy at e
  rw [← Array.find?_toList] at e
  unfold PySem.W.lookIn
  rw [hd]
  dsimp only
  split
  · rename_i y q
    rw [q] at e
    exact congrArg some e
  · rename_i q
    rw [q] at e
    have a : es.toList.any (·.refKey) = false := by
      rw [List.any_eq_false]
      intro y hy
      obtain ⟨z, t, hkey⟩ := hk y (Array.mem_toList_iff.mp hy)
      simp [DictEntry.refKey, hkey]
    have a' : ¬ es.toList.any (·.refKey) = true := by rw [a]; exact Bool.false_ne_true
    rw [if_neg a']
    exact congrArg some e

theorem ObjM.look {h : Heap} {x dx C : Addr} {mA : Str → Option Value} (I : ObjM h x dx C mA) : ∃ od, PySem.W.InstAt h x (PySem.W.instObj C dx) C (some od) ∧ ∀ name, PySem.W.lookIn name od = some (mA name) :=
  let ⟨od, ho, hl⟩ := lookIn_ns I.ns
  ⟨od, ⟨I.obj, rfl, rfl, ho⟩, hl⟩

section
variable {prog : Program} {w : World} {A : Around} {E : Value → Shared → Prop} {s : Shared} {K : PySem.W.Frag} {x dx C f : Addr} {mA : Str → Option Value} {name : Str} {v : Value}

end

def putF (f : Str) (v : V) : List (Str × V) → List (Str × V)
  | [] => [(f, v)]
  | (g, x) :: r => if g = f then (g, v) :: r else (g, x) :: putF f v r
theorem RelO.some_of {v : V} {o : Option Value} (r : RelO (some v) o) : ∃ u, o = some u ∧ RelV v u := by
  cases o with
  | none => exact (show False from r).elim
  | some u => exact ⟨u, rfl, r⟩
section
variable {P : Program} {w : World} {H H' : Hp} {h h' : Heap} {a C dx : Addr} {fs fs' : List (Str × V)}
theorem ins_get (hok : HOk P w H h) (e : H a = some (.ins C dx fs)) : ∃ mA, ObjM h a dx C mA ∧ (∀ f, RelO (fs.lookup f) (mA f)) ∧ PySem.Within mA (fs.map (·.1)) ∧ fs.length ≤ 1000 ∧ H dx = some (.own a) := by
  obtain ⟨d, z, ne, ob, mA, n, r, q⟩ := (show ObjOk P w H h a (.ins C dx fs) from hok a _ e)
  exact ⟨mA, ⟨ob, n, ne⟩, r, q, z, d⟩
end

structure Cls (K : PySem.W.Frag) (C : Addr) : Prop where
  pg : PySem.W.plainGet K C Str.empty = true
  hd : PySem.W.hasDictIn K C = true
  po : PySem.W.plainOver K C = true
  sa : PySem.W.findIn K (.ref C) "__setattr__" = some (some (.builtin "object.__setattr__"))
theorem Cls.get {K : PySem.W.Frag} {C : Addr} (c : Cls K C) (f : Str) : PySem.W.plainGet K C f = true := c.pg
/-- no class of it has the name -/
def NoAttr (K : PySem.W.Frag) (C : Addr) (f : Str) : Prop := PySem.W.findIn K (.ref C) f = some none
/-- a constant of the class -/
structure Con (K : PySem.W.Frag) (C : Addr) (f : Str) (v : V) (u : Value) : Prop where
  at_ : PySem.W.findIn K (.ref C) f = some (some u)
  rel : RelV v u
  get : PySem.W.specialIn K u "__get__" = some none
  cp : PySem.W.copiedNames.contains f = false
/-- a method: a plain def of the class or of one above it -/
structure Meth (K : PySem.W.Frag) (C : Addr) (m : Str) (f : Addr) : Prop where
  at_ : PySem.W.findIn K (.ref C) m = some (some (.ref f))
  fn : PySem.W.isFn K (.ref f) = true
  kp : PySem.W.keepIn K (.ref f) = true

section
variable {X : Cx} {pins : List (Addr × Obj)} {σ : St} {H : Hp} {s : Shared} {a C dx : Addr} {fs : List (Str × V)} {f : Str} {v : V} {A : Around} {E : Value → Shared → Prop}

end

/-- e.f, an attribute of the instance -/
def tFld (K : PySem.W.Frag) (ta : TE) (f : Str) : TE := fun σ H Q => ta σ H fun x H1 => ∃ a C dx fs v, x = .ref a ∧ H1 a = some (.ins C dx fs) ∧ Cls K C ∧ NoAttr K C f ∧ fs.lookup f = some v ∧ Q v H1
/-- e.f = value -/
def sFld (K : PySem.W.Frag) (ta tv : TE) (f : Str) : TS := fun D σ H => tv σ H fun y H1 => ta σ H1 fun x H2 => ∃ a C dx fs, x = .ref a ∧ H2 a = some (.ins C dx fs) ∧ Cls K C ∧ NoAttr K C f ∧ fs.length < 1000 ∧
  D.nx σ (upd H2 a (.ins C dx (putF f y fs)))
section
variable {X : Cx} {o e value : Expr} {f : Str} {pos pos' tpos : Pos} {ta tv : TE}
end

section
variable {X : Cx} {pins : List (Addr × Obj)} {σ : St} {H : Hp} {s : Shared} {A : Around} {E : Value → Shared → Prop} {Q : Value → Shared → Prop} {c : Value} {b : Bool}
/-- the type of a value, as the fragment's deciders take it; for an instance its class -/
inductive TyOf (K : PySem.W.Frag) (H : Hp) : V → Value → Prop where
  | non : TyOf K H .non (.type "NoneType")
  | bl (x : Bool) : TyOf K H (.bl x) (.type "bool")
  | int (i : Int) : TyOf K H (.int i) (.type "int")
  | str (x : Str) : TyOf K H (.str x) (.type "str")
  | flt (x : UInt64) : TyOf K H (.flt x) (.type "float")
  | lst {a : Addr} {xs : List V} (e : H a = some (.lst xs)) : TyOf K H (.ref a) (.type "list")
  | frz {a : Addr} {o : Obj} {xs : List V} (e : H a = some (.frz o (.lst xs))) : TyOf K H (.ref a) (.type "list")
  | tup {a : Addr} {xs : List V} (e : H a = some (.tup xs)) : TyOf K H (.ref a) (.type "tuple")
  | dK {a : Addr} {kvs : List (Key × V)} (e : H a = some (.dK kvs)) : TyOf K H (.ref a) (.type "dict")
  | dT {a : Addr} {kvs : List (List Key × V)} (e : H a = some (.dT kvs)) : TyOf K H (.ref a) (.type "dict")
  | ins {a C dx : Addr} {fs : List (Str × V)} (e : H a = some (.ins C dx fs)) (cl : Cls K C) (ha : PySem.W.findIn K (.ref C) "__class__" = some (some (.builtin "object.__class__")))
      (hn : PySem.W.specialIn K (.builtin "object.__class__") "__get__" = some (some (.builtin "getset_descriptor.__get__"))) (htk : PySem.W.takesIn K (.builtin "object.__class__") = some true)
      (hm : PySem.W.mroIn K C (.type "object") = some true) : TyOf K H (.ref a) (.ref C)
/-- isinstance(x, c) for one class c, a built-in or an own one: kitOne's answer -/
theorem isinst_ok {x : V} {u t : Value} (I : Inv X pins σ H s) (rx : RelV x u) (ty : TyOf X.K H x t) (e : PySem.W.kitOne X.K t c = some b) (h : ∀ tk, Q (.bool b) { s with toks := tk }) :
    wpAny (model X.prog X.w) A (call (.builtin "isinstance") [u, c]) Q E s := by
  cases ty with
  | non => cases (show u = Value.none from rx); exact PySem.W.kia_one PySem.W.kitx_none I.kIn True.intro e (fun z => nomatch z) h
  | bl y => cases (show u = Value.bool y from rx); exact PySem.W.kia_one PySem.W.kitx_bool I.kIn True.intro e (fun z => nomatch z) h
  | int i => obtain ⟨t, q⟩ := (show ∃ t, u = Value.int i t from rx); cases q; exact PySem.W.kia_one PySem.W.kitx_int I.kIn True.intro e (fun z => nomatch z) h
  | str y => obtain ⟨t, q⟩ := (show ∃ t, u = Value.str y t from rx); cases q; exact PySem.W.kia_one PySem.W.kitx_str I.kIn True.intro e (fun z => nomatch z) h
  | flt y => obtain ⟨t, q⟩ := (show ∃ t, u = Value.float y t from rx); cases q; exact PySem.W.kia_one PySem.W.kitx_float I.kIn True.intro e (fun z => nomatch z) h
  | @lst a xs ea =>
    cases (show u = Value.ref a from rx)
    obtain ⟨_, _, n, _, h1⟩ := (show ObjOk X.prog X.w H s.heap a (.lst xs) from I.hok a _ ea)
    exact PySem.W.kia_one PySem.W.kitx_list I.kIn ⟨_, h1, rfl⟩ e (fun z => nomatch z) h
  | @frz a ob xs ea =>
    cases (show u = Value.ref a from rx)
    obtain ⟨_, _, _, n, _, h1⟩ := (show ObjOk X.prog X.w H s.heap a (.frz ob (.lst xs)) from I.hok a _ ea)
    exact PySem.W.kia_one PySem.W.kitx_list I.kIn ⟨_, h1, rfl⟩ e (fun z => nomatch z) h
  | @tup a xs ea =>
    cases (show u = Value.ref a from rx)
    obtain ⟨_, _, _, p⟩ := (show ObjOk X.prog X.w H s.heap a (.tup xs) from I.hok a _ ea)
    obtain ⟨o, h1, h2, _⟩ := p
    exact PySem.W.kia_one PySem.W.kitx_tuple I.kIn ⟨o, h1, h2⟩ e (fun z => nomatch z) h
  | @dK a kvs ea =>
    cases (show u = Value.ref a from rx)
    obtain ⟨_, _, vs, _, p⟩ := (show ObjOk X.prog X.w H s.heap a (.dK kvs) from I.hok a _ ea)
    obtain ⟨o, es, ep, h1, h2, _⟩ := p
    exact PySem.W.kia_one PySem.W.kitx_dict I.kIn ⟨o, h1, h2.1⟩ e (fun z => nomatch z) h
  | @dT a kvs ea =>
    cases (show u = Value.ref a from rx)
    obtain ⟨_, _, xs, _, o, es, ep, h1, h2, _⟩ := (show ObjOk X.prog X.w H s.heap a (.dT kvs) from I.hok a _ ea)
    exact PySem.W.kia_one PySem.W.kitx_dict I.kIn ⟨o, h1, h2.1⟩ e (fun z => nomatch z) h
  | @ins a C dx fs ea cl ha hn htk hm =>
    cases (show u = Value.ref a from rx)
    obtain ⟨mA, O, _⟩ := ins_get I.hok ea
    obtain ⟨od, J, _⟩ := O.look
    exact PySem.W.kia_one (PySem.W.kitx_own (cl.get _) cl.hd ha hn htk hm) I.kIn J e (fun z => nomatch z) h
end
end L2

namespace L2
open PySem PySem.Spec PyProof.Rows

structure Room (k : Nat) (A : Around) : Prop where
  hd : A.handled = none
  dp : A.depth + 3 * k + 5 < recursionLimit
  un : A.units + 16 * k + 200 < cLine
theorem Room.mono {j k : Nat} {A : Around} (r : Room k A) (h : j ≤ k) : Room j A := ⟨r.hd, by have := r.dp; omega, by have := r.un; omega⟩
theorem Room.deeper {k : Nat} {A : Around} (r : Room (k + 1) A) (env : Env) : Room k (A.deeper env) :=
  ⟨r.hd, by have := r.dp; show A.depth + 1 + 3 * k + 5 < _; omega, by have := r.un; show A.units + 3 + 16 * k + 200 < _; omega⟩
theorem Room.depth {k : Nat} {A : Around} (r : Room k A) : A.depth < recursionLimit := by have := r.dp; omega
theorem Room.units {k : Nat} {A : Around} (r : Room k A) : A.units + 64 < cLine := by have := r.un; omega
def tNil : TA := fun _ H Q => Q [] H
def tCons (ta : TE) (tr : TA) : TA := fun σ H Q => ta σ H fun x H1 => tr σ H1 fun xs H2 => Q (x :: xs) H2
section
variable {X : Cx} {e : Expr} {es : List Expr} {te : TE} {t : TA} {pos : Pos}
theorem pa_nil : PA X [] tNil := fun _ _ _ _ H Q I h => Calls.spliced_nil ⟨[], H, I, .nil, h⟩
theorem pa_cons (ha : PE X e te) (hr : PA X es t) (hs : starEach (e :: es) X.env = (false, eval e X.env) :: starEach es X.env := by rfl) : PA X (e :: es) (tCons te t) := by
  intro pos pins s σ H Q I h
  rw [hs]
  show wpAny _ _ (spliced ((false, eval e X.env) :: backTo pos (starEach es X.env))) _ _ s
  refine Calls.spliced_cons (thn (ha pins s σ H _ I h) fun u s1 ⟨x, H1, I1, r1, q1⟩ => ?_)
  exact thn (hr pos pins s1 σ H1 _ I1 q1) fun us s2 ⟨xs, H2, I2, r2, q2⟩ => ⟨x :: xs, H2, I2, .cons r1 r2, q2⟩

/-- a tuple, a list of written items -/
def tTup (t : TA) : TE := fun σ H Q => t σ H fun xs H1 => xs.length ≤ sizeLine ∧ ∀ p, H1 p = none → Q (.ref p) (upd H1 p (.tup xs))
def tLst (t : TA) : TE := fun σ H Q => t σ H fun xs H1 => xs.length ≤ sizeLine ∧ ∀ p, H1 p = none → Q (.ref p) (upd H1 p (.lst xs))
theorem pe_tup {x1} (h : PA X es t) : PE X (.Tuple es x1 pos) (tTup t) := by
  intro pins s σ H Q I hq
  refine wpAny_Tuple_spliced (thn (h pos pins s σ H _ I hq) fun us s1 ⟨xs, H1, I1, r, z, q⟩ => ⟨by rw [← r.length]; exact z, ?_⟩)
  have hf : H1 s1.heap.objs.size = none := I1.hok.fresh (Nat.le_refl _)
  refine ⟨.ref s1.heap.objs.size, upd H1 s1.heap.objs.size (.tup xs), I1.laid (t' := s1.toks) (fun b u e => Heap.get?_push_of_some _ e) (Nat.le_refl _) ?_, rfl, q _ hf⟩
  exact ⟨z, us, r, ⟨_, Heap.get?_push_size _ rfl, rfl, _, rfl⟩⟩
theorem pe_lst (h : PA X es t) : PE X (.List es pos) (tLst t) := by
  intro pins s σ H Q I hq
  refine wpAny_List_spliced (thn (h pos pins s σ H _ I hq) fun us s1 ⟨xs, H1, I1, r, z, q⟩ => ⟨by rw [← r.length]; exact z, ?_⟩)
  have hf : H1 s1.heap.objs.size = none := I1.hok.fresh (Nat.le_refl _)
  refine ⟨.ref s1.heap.objs.size, upd H1 s1.heap.objs.size (.lst xs), I1.laid (t' := s1.toks) (fun b u e => Heap.get?_push_of_some _ e) (Nat.le_refl _) ?_, rfl, q _ hf⟩
  exact ⟨z, us, 0, r, Heap.get?_push_size _ rfl⟩
end

/-- a def's promise: the bound arguments in the parameters' order, the heap, the wanted end, the wanted exception -/
abbrev Sp := List V → Hp → VK → XK → Prop
/-- how an exception lies behind a call (file 08 gives it): the callers' frames, abstract heap and state ahead of the call, the wish, the exception, the state -/
abbrev CXT := List Env → Hp → Shared → XK → Value → Shared → Prop

/-- the state at a call -/
structure Env0 (P : Program) (w : World) (K : PySem.W.Frag) (mg : Str → Option Value) (base : Heap) (A : Around) (outer : List Env) (s : Shared) (H : Hp) : Prop where
  frames : A.frames = some outer
  mod : Mod K mg base
  bs : ∀ b o, base.get? b = some o → s.heap.get? b = some o ∧ H b = none
  bsz : base.objs.size ≤ s.heap.objs.size
  funs : s.heap.FunFrames base outer
  frf : ∀ b ∈ frs outer, H b = none
  hok : HOk P w H s.heap
  bare : AllBare s.gens
/-- a call's end -/
def CE (outer : List Env) (P : Program) (w : World) (H : Hp) (s : Shared) (Q : VK) (u : Value) (s' : Shared) : Prop :=
  ∃ v H', s'.os = s.os ∧ AllBare s'.gens ∧ Un (frs outer) [] H H' s.heap s'.heap ∧ HOk P w H' s'.heap ∧ RelV v u ∧ Q v H'
def CR (CX : CXT) (outer : List Env) (P : Program) (w : World) (H : Hp) (s : Shared) (Q : VK) (E : XK) (r : Result) (s' : Shared) : Prop :=
  match r with
  | .ok (.ret u) => CE outer P w H s Q u s'
  | .ok _ => False
  | .error e => CX outer H s E e s'
structure FnOk (P : Program) (w : World) (K : PySem.W.Frag) (mg : Str → Option Value) (base : Heap) (CX : CXT) (k : Nat) (f : Addr) (fd : FuncData) (ps : List Str) (sp : Sp) : Prop where
  len : ∀ vs H Q E, sp vs H Q E → vs.length = ps.length
  run : ∀ (A : Around) (outer : List Env) (s : Shared) (H : Hp) (args : Args) (us : List Value) (vs : List V) (Q : VK) (E : XK), Room k A → Env0 P w K mg base A outer s H → BindsTo s fd args (ps.zip us) → Vals vs us → sp vs H Q E →
    codeAny (model P w) A (.call (.ref f) args) (CR CX outer P w H s Q E) s
section
variable {X : Cx} {pins : List (Addr × Obj)} {σ : St} {H : Hp} {s s' : Shared}
/-- from a body: what a callee wants -/
theorem Inv.env0 (I : Inv X pins σ H s) : Env0 X.prog X.w X.K X.mg X.base X.A X.stack s H :=
  ⟨I.ok.frames, I.ok.mod, I.bs, Nat.le_trans I.ok.bsz I.sz, I.stack, I.stkFree, I.hok, I.bare⟩
/-- behind a call -/
theorem Inv.after {Q : VK} {u : Value} (I : Inv X pins σ H s) (h : CE X.stack X.prog X.w H s Q u s') : EP X pins σ Q u s' := by
  obtain ⟨v, H', os, bare, un, hok, r, q⟩ := h
  obtain ⟨hh, g, d, t, os'⟩ := s'
  obtain rfl : os' = s.os := os
  exact ⟨v, H', I.call (h' := hh) (g' := g) (d' := d) (t' := t) (ch := []) un hok bare (fun b z => absurd z (by simp)), r, q⟩
end

/-- f(..): the written arguments, then the defaults dvs; E: what is wanted of an exception -/
def tCall (sp : Sp) (dvs : List V) (E : XK) (t : TA) : TE := fun σ H Q => t σ H fun vs H1 => sp (vs ++ dvs) H1 Q E
/-- C(..): a new instance and its dict, then __init__ -/
def tMake (C : Addr) (sp : Sp) (dvs : List V) (E : XK) (t : TA) : TE := fun σ H Q => t σ H fun vs H1 => ∀ x dx, H1 x = none → H1 dx = none → dx ≠ x →
  sp (.ref x :: (vs ++ dvs)) (upd (upd H1 dx (.own x)) x (.ins C dx [])) (fun v H2 => v = .non ∧ Q (.ref x) H2) E

/-- how the parameters are bound: us the positional arguments, kw the keywords' values by name, ds the defaults that fill up -/
def Binds (K : PySem.W.Frag) (fd : FuncData) (ps : List Str) (ds : List Value) : Prop :=
  ∀ (s : Shared) (us : List Value), K.In s.heap → (us ++ ds).length = ps.length → BindsTo s fd ⟨us, []⟩ (ps.zip (us ++ ds))
/-- every parameter is given -/
theorem Binds.all {K : PySem.W.Frag} {fd : FuncData} {ps : List Str} (h : ∀ us : List Value, us.length = ps.length → bindArgs fd ⟨us, []⟩ = pure (ps.zip us)) : Binds K fd ps [] := fun s us _ hl => by
  rw [List.append_nil] at hl ⊢
  exact .of_eq (h us hl)

/-- an exception of a callee reaches what this body wants of exceptions -/
def Passes (CX : CXT) (X : Cx) (E : XK) : Prop := ∀ (pins : List (Addr × Obj)) (σ : St) (H : Hp) (s : Shared) (e : Value) (s' : Shared), Inv X pins σ H s → CX X.stack H s E e s' → X.xe e s'

section
variable {X : Cx} {CX : CXT} {k : Nat} {f C : Addr} {fd : FuncData} {ps : List Str} {sp : Sp} {dvs : List V} {ds : List Value} {E : XK} {x m : Str} {p pos apos : Pos} {e o : Expr} {es : List Expr} {ta : TE} {t : TA}

/-- the callee runs -/
theorem run_fn {pins : List (Addr × Obj)} {σ : St} {H : Hp} {s : Shared} {Q : VK} {us : List Value} {vs : List V} (F : FnOk X.prog X.w X.K X.mg X.base CX k f fd ps sp) (hr : Room k X.A) (hb : Binds X.K fd ps ds) (hd : Vals dvs ds) (hx : Passes CX X E)
    (I : Inv X pins σ H s) (r : Vals vs us) (h : sp (vs ++ dvs) H Q E) : wpAny (model X.prog X.w) X.A (call (.ref f) us) (EP X pins σ Q) X.xe s := by
  have r2 : Vals (vs ++ dvs) (us ++ ds) := r.append hd
  have hl : (us ++ ds).length = ps.length := by rw [← r2.length]; exact F.len _ _ _ _ h
  refine wpAny_call (codeAny_mono (F.run X.A X.stack s H ⟨us, []⟩ (us ++ ds) (vs ++ dvs) Q E hr I.env0 (hb s us I.kIn hl) r2 h) fun r s' hq => ?_)
  cases r with
  | error e => exact hx pins σ H s e s' I hq
  | ok fl =>
    cases fl with
    | ret u => exact I.after hq
    | next => exact False.elim hq
    | brk => exact False.elim hq
    | cont => exact False.elim hq

theorem pe_call (F : FnOk X.prog X.w X.K X.mg X.base CX k f fd ps sp) (hr : Room k X.A) (hg : Gl X x) (hm : X.mg x = some (.ref f)) (hk : PySem.W.keepIn X.K (.ref f) = true) (hb : Binds X.K fd ps ds) (hd : Vals dvs ds) (hx : Passes CX X E)
    (ha : PA X (e :: es) t) (hdb : (x == ("__debug__" : Str)) = false := by decide) (he : starEach (e :: es) X.env = (false, eval e X.env) :: starEach es X.env := by rfl) (hpl : (backTo pos (starEach es X.env)).any (·.1) = false := by rfl) :
    PE X (.Call (.Name x p) (e :: es) [] pos) (tCall sp dvs E t) := by
  intro pins s σ H Q I h
  refine wpAny_Call_Name_kw (ld_glob I hg hm ?_ hdb)
  refine PySem.W.callWith_K (h₀ := X.base) I.ok.mod.kin hk (thn (ha pos pins s σ H _ I h) fun us s1 ⟨vs, H1, I1, r, q⟩ => ⟨I1.kIn, ?_⟩) he hpl
  exact run_fn F hr hb hd hx I1 r q
/-- what a class must have to be made -/
structure Mk (K : PySem.W.Frag) (C f : Addr) : Prop where
  makes : PySem.W.makesIn K C = true
  init : PySem.W.findIn K (.ref C) "__init__" = some (some (.ref f))
  fn : PySem.W.isFn K (.ref f) = true
  kp : PySem.W.keepIn K (.ref C) = true

end

section
variable {X : Cx} {CX : CXT} {k : Nat} {f C : Addr} {fd : FuncData} {ps ks : List Str} {sp : Sp} {E : XK} {x m : Str} {p pos apos kpos : Pos} {e o : Expr} {es : List Expr} {kws : List Keyword} {te ta : TE} {t tk : TA} {nm : Option Str}
/-- how a call with keywords binds: g puts the positional values us and the keywords' values ws (names ks) in the parameters' order, defaults among them -/
structure KBinds (K : PySem.W.Frag) (fd : FuncData) (ps ks : List Str) (g : List Value → List Value → List Value) (gV : List V → List V → List V) : Prop where
  to : ∀ (s : Shared) (us ws : List Value), K.In s.heap → (g us ws).length = ps.length → BindsTo s fd ⟨us, ks.zip ws⟩ (ps.zip (g us ws))
  rel : ∀ {vs : List V} {us : List Value} {zs : List V} {ws : List Value}, Vals vs us → Vals zs ws → Vals (gV vs zs) (g us ws)
variable {g : List Value → List Value → List Value} {gV : List V → List V → List V}
end

/-- names: the parameters first -/
structure FnScope (N P : List Str) (sc : Scope) : Prop where
  kind : sc.kind = .function
  co : sc.isCoroutine = false
  gen : sc.isGenerator = false
  nd : N.Nodup
  pre : N.take P.length = P
  par : ∀ x ∈ P, sc.names.lookup x = some .local ∨ sc.names.lookup x = some .cell
  nofree : ∀ y ∈ sc.names, y.2 ≠ .free

theorem bindL_out {kindOf : Str → Option NameKind} {x : Str} : ∀ {binds : List (Str × Value)} {m : Str → Option Value}, (∀ v, (x, v) ∉ binds) → bindL kindOf binds m x = m x
  | [], _, _ => rfl
  | (n, v) :: r, m, h => by
    unfold bindL
    rw [bindL_out fun w hw => h w (List.mem_cons_of_mem _ hw)]
    split
    · have : x ≠ n := by rintro rfl; exact h v List.mem_cons_self
      simp [this]
    · rfl
theorem bindC_out {kindOf : Str → Option NameKind} {x : Str} : ∀ {binds : List (Str × Value)} {m : Str → Option Value}, (∀ v, (x, v) ∉ binds) → bindC kindOf binds m x = m x
  | [], _, _ => rfl
  | (n, v) :: r, m, h => by
    unfold bindC
    rw [bindC_out fun w hw => h w (List.mem_cons_of_mem _ hw)]
    split
    · rfl
    · have : x ≠ n := by rintro rfl; exact h v List.mem_cons_self
      simp [this]
theorem bindL_get {kindOf : Str → Option NameKind} {x : Str} {v : Value} : ∀ {P : List Str} {vs : List Value} {i : Nat} {m : Str → Option Value}, P.Nodup → P[i]? = some x → vs[i]? = some v → kindOf x = some .local →
    bindL kindOf (P.zip vs) m x = some v
  | [], _, _, _, _, h, _, _ => by simp at h
  | _ :: _, [], _, _, _, _, h, _ => by simp at h
  | p :: P, w :: vs, 0, m, nd, h1, h2, hk => by
    simp at h1 h2; subst h1; subst h2
    show bindL kindOf ((p, w) :: P.zip vs) m p = _
    unfold bindL
    rw [bindL_out fun v hv => (List.nodup_cons.mp nd).1 (List.of_mem_zip hv).1, if_pos hk]
    simp
  | p :: P, w :: vs, i + 1, m, nd, h1, h2, hk => by
    show bindL kindOf ((p, w) :: P.zip vs) m x = _
    unfold bindL
    exact bindL_get (i := i) (List.nodup_cons.mp nd).2 (by simpa using h1) (by simpa using h2) hk
theorem bindC_get {kindOf : Str → Option NameKind} {x : Str} {v : Value} : ∀ {P : List Str} {vs : List Value} {i : Nat} {m : Str → Option Value}, P.Nodup → P[i]? = some x → vs[i]? = some v → kindOf x ≠ some .local →
    bindC kindOf (P.zip vs) m x = some v
  | [], _, _, _, _, h, _, _ => by simp at h
  | _ :: _, [], _, _, _, _, h, _ => by simp at h
  | p :: P, w :: vs, 0, m, nd, h1, h2, hk => by
    simp at h1 h2; subst h1; subst h2
    show bindC kindOf ((p, w) :: P.zip vs) m p = _
    unfold bindC
    rw [bindC_out fun v hv => (List.nodup_cons.mp nd).1 (List.of_mem_zip hv).1, if_neg hk]
    simp
  | p :: P, w :: vs, i + 1, m, nd, h1, h2, hk => by
    show bindC kindOf ((p, w) :: P.zip vs) m x = _
    unfold bindC
    exact bindC_get (i := i) (List.nodup_cons.mp nd).2 (by simpa using h1) (by simpa using h2) hk

/-- the names' values at the entry -/
def start (N : List Str) (vs : List V) : St := vs.map some ++ List.replicate (N.length - vs.length) none

/-- the context of a def's body, at its entry; an exception leaves the frame, then lies as CX says -/
def cxOf (CX : CXT) (P : Program) (w : World) (K : PySem.W.Frag) (mg : Str → Option Value) (base : Heap) (N : List Str) (qual : Str) (scope : Scope) (f : Addr) (cd : Value) (A : Around) (outer : List Env) (s : Shared) (H : Hp) (E : XK) : Cx where
  prog := P
  w := w
  K := K
  mg := mg
  base := base
  A := A.deeper (envOfC qual scope s.heap.objs.size f cd)
  N := N
  s₀ := s
  H₀ := H
  env := envOfC qual scope s.heap.objs.size f cd
  outer := outer
  stack := envOfC qual scope s.heap.objs.size f cd :: outer
  ex := []
  calm := true
  fn := fun _ => true
  pn := []
  xe := fun e s' => wpAny (model P w) (A.deeper (envOfC qual scope s.heap.objs.size f cd)) (leaving (envOfC qual scope s.heap.objs.size f cd) e) (fun _ s'' => CX outer H s E e s'') (fun e' s'' => CX outer H s E e' s'') s'

theorem cell_has {sc : Scope} {n : Nat} {x : Str} (h : sc.names.lookup x = some .cell) : ∃ c, (cellsFrom n sc.names []).lookup x = some c := by
  have q := PySem.W.cellsFrom_some sc.names n [] (.inl h)
  exact Option.isSome_iff_exists.mp q

theorem inv_start {CX : CXT} {P : Program} {w : World} {K : PySem.W.Frag} {mg : Str → Option Value} {base : Heap} {N ps : List Str} {qual : Str} {scope : Scope} {f : Addr} {cd : Value} {A : Around} {outer : List Env} {s s1 : Shared} {H : Hp} {E : XK} {us : List Value} {vs : List V}
    (S : FnScope N ps scope) (hd : A.handled = none) (e0 : Env0 P w K mg base A outer s H) (hl : vs.length = ps.length) (r : Vals vs us)
    (x : InCallC s s.heap.objs.size (bindL (envOfC qual scope s.heap.objs.size f cd).kindOf (ps.zip us) fun _ => none) (cellsFrom (s.heap.objs.size + 1) scope.names []) (bindC (envOfC qual scope s.heap.objs.size f cd).kindOf (ps.zip us) fun _ => none) s1) :
    Inv (cxOf CX P w K mg base N qual scope f cd A outer s H E) [] (start N vs) H s1 := by
  have hpl : ps.length ≤ N.length := by have := congrArg List.length S.pre; rw [List.length_take] at this; omega
  obtain ⟨h1, tk, rfl, hk⟩ := x.done
  have noA : ∀ b : Addr, b ∉ (cxOf CX P w K mg base N qual scope f cd A outer s H E).ex := fun b z => absurd (show b ∈ ([] : List Addr) from z) (by simp)
  refine ⟨⟨e0.mod, S.kind, rfl, rfl, Nat.le_refl _, fun y z c h1 h2 => ?_, fun y hy => ?_, fun y c _ h => ?_, fun _ => hd, Around.frames_deeper e0.frames, .inr ⟨rfl, rfl⟩, fun b z => absurd z (noA b), e0.bs, e0.bsz, fun b _ _ => noA b, fun b z => absurd z (noA b), e0.funs, e0.frf⟩,
    rfl, e0.bare, Un.kept hk, ⟨_, x.toInCall.ns, fun i y v h1 h2 h3 => ?_⟩, fun y c h => ⟨_, x.cell y c h⟩, e0.hok.fresh (Nat.le_refl _), fun y c h => ?_, fun p hp => absurd (show p ∈ ([] : List (Addr × Obj)) from hp) (by simp), e0.hok.kept hk, ?_⟩
  · exact name_of_addr x.apart (PySem.mem_of_lookup h1) (PySem.mem_of_lookup h2)
  · have hy : scope.names.lookup y = some .cell ∨ scope.names.lookup y = some .free := hy
    rcases hy with hy | hy
    · exact cell_has hy
    · exact absurd rfl (S.nofree _ (PySem.mem_of_lookup hy))
  · exact Nat.le_of_lt (x.above y c (PySem.mem_of_lookup h))
  · have hi : i < vs.length := by
      unfold start at h2
      by_cases hi : i < vs.length
      · exact hi
      · rw [List.getElem?_append_right (by simpa using hi)] at h2
        rw [List.getElem?_replicate] at h2
        split at h2 <;> cases h2
    have ha : vs[i]? = some v := by
      unfold start at h2
      rw [List.getElem?_append_left (by simpa using hi), List.getElem?_map] at h2
      cases e : vs[i]? with
      | none => rw [e] at h2; cases h2
      | some a => rw [e] at h2; cases h2; rfl
    obtain ⟨u, hu, rv⟩ := r.get ha
    have hp : ps[i]? = some y := by
      rw [← S.pre, List.getElem?_take_of_lt (by omega)]; exact h1
    have ndP : ps.Nodup := by rw [← S.pre]; exact S.nd.sublist (List.take_sublist _ _)
    refine ⟨u, rv, ?_⟩
    rcases S.par y (List.mem_of_getElem? hp) with k | k
    · exact .inl ⟨k, bindL_get ndP hp hu k⟩
    · obtain ⟨c, e⟩ := cell_has (n := s.heap.objs.size + 1) k
      refine .inr ⟨.inl k, c, e, ?_⟩
      have q := x.cell y c e
      rw [bindC_get ndP hp hu (by show scope.names.lookup y ≠ _; rw [k]; decide)] at q
      exact q
  · exact e0.hok.fresh (Nat.le_of_lt (x.above y c (PySem.mem_of_lookup h)))
  · unfold start
    show _ = N.length
    rw [List.length_append, List.length_map, List.length_replicate]
    omega

/-- THE RULE: a def (or a method) of the text, by its body. The body's reading t is chosen for each entry; it is run at the parameters' values -/
theorem fn_of {CX : CXT} {P : Program} {w : World} {K : PySem.W.Frag} {mg : Str → Option Value} {base : Heap} {k : Nat} {f : Addr} {name qual : Str} {params : Arguments} {body : List Stmt} {scope : Scope} {dV kV doc pm cdv ct oc : Value} {an od : Option Addr}
    {osl : Array (Option Value)} {N ps : List Str} {sp : Sp} (lk : K.lookup f = some ⟨oc, od, .func (PySem.W.fnOf name qual params body scope dV kV doc pm an cdv ct), osl⟩) (hcd : PySem.W.codeIn K cdv qual = true) (S : FnScope N ps scope)
    (len : ∀ vs H Q E, sp vs H Q E → vs.length = ps.length)
    (hbody : ∀ (A : Around) (outer : List Env) (s : Shared) (H : Hp) (vs : List V) (Q : VK) (E : XK), Room k (A.deeper (envOfC qual scope s.heap.objs.size f cdv)) → sp vs H Q E →
      ∃ t, PSs (cxOf CX P w K mg base N qual scope f cdv A outer s H E) body t ∧ t { nx := fun _ H' => Q .non H', rt := Q } (start N vs) H) :
    FnOk P w K mg base CX (k + 1) f (PySem.W.fnOf name qual params body scope dV kV doc pm an cdv ct) ps sp := by
  refine ⟨len, fun A outer s H args us vs Q E hr e0 hb r hsp => ?_⟩
  have hl := len _ _ _ _ hsp
  have KX : K.In s.heap := e0.mod.kin.keeps fun b o e => (e0.bs b o e).1
  have lim : s.heap.NoLimit := e0.mod.nolimit.keeps fun b o e => (e0.bs b o e).1
  have hkind : ∀ y ∈ ps.zip us, scope.names.lookup y.1 = some .local ∨ (scope.names.lookup y.1 = some .cell ∧ ((cellsFrom (s.heap.objs.size + 1) scope.names []).lookup y.1).isSome = true) := fun ⟨n, v⟩ hy => by
    rcases S.par n (List.of_mem_zip hy).1 with q | q
    · exact .inl q
    · exact .inr ⟨q, PySem.W.cellsFrom_some _ _ _ (.inl q)⟩
  refine codeAny_call_function hr.depth (KX _ _ lk) rfl S.co S.gen rfl (PySem.W.codeRec_of KX hcd) (hb _ _ _ _ ?_)
  refine wpAny_newFunctionEnv_cells S.kind hkind fun env he s1 x => ?_
  subst he
  refine ⟨lim.keeps x.toInCall.keep, codeAny_func ?_⟩
  obtain ⟨t, ht, hq⟩ := hbody A outer s H vs Q E (hr.deeper _) hsp
  have I : Inv (cxOf CX P w K mg base N qual scope f cdv A outer s H E) [] (start N vs) H s1 := inv_start S hr.hd e0 hl r x
  refine wpAny_mono (ht [] s1 (start N vs) H _ I hq) (fun fl s' hs => ?_) fun e s' hs => hs
  have fin : ∀ {σ' : St} {H' : Hp} {v : V} {u : Value}, Inv (cxOf CX P w K mg base N qual scope f cdv A outer s H E) [] σ' H' s' → RelV v u → Q v H' → CE outer P w H s Q u s' :=
    fun {σ' H' v u} J rv q => ⟨v, H', J.os, J.bare, J.base, J.hok, rv, q⟩
  cases fl with
  | ret u =>
    obtain ⟨v, σ', H', J, rv, q⟩ := hs
    exact fin J rv q
  | next =>
    obtain ⟨σ', H', J, q⟩ := hs
    exact fin (v := V.non) (u := Value.none) J rfl q
  | brk =>
    obtain ⟨_, _, _, q⟩ := hs
    exact False.elim q
  | cont =>
    obtain ⟨_, _, _, q⟩ := hs
    exact False.elim q
end L2

namespace L2
open PySem PySem.Spec PyProof.Rows
section
variable {X : Cx} {x : Str} {p pos : Pos} {e : Expr} {es : List Expr} {t : TA} {id T : String} {r : List V → Hp → VK → Prop}

def tCB (r : List V → Hp → VK → Prop) (t : TA) : TE := fun σ H Q => t σ H fun vs H1 => r vs H1 Q
/-- f(e, ..), f a built-in function -/
theorem pe_callB (hc : CallR X (.builtin id) r) (hg : Gl X x) (hm : X.mg x = none) (hv : bootBuiltins x = some (.builtin id)) (ha : PA X (e :: es) t) (hn : x ≠ "__name__" := by decide) (hdb : (x == ("__debug__" : Str)) = false := by decide)
    (he : starEach (e :: es) X.env = (false, eval e X.env) :: starEach es X.env := by rfl) (hpl : (backTo pos (starEach es X.env)).any (·.1) = false := by rfl) : PE X (.Call (.Name x p) (e :: es) [] pos) (tCB r t) := by
  intro pins s σ H Q I h
  refine wpAny_Call_Name_kw (ld_blt I hg hm hv ?_ hn hdb)
  exact PyProof.Rows.callWith_builtin1 (thn (ha pos pins s σ H _ I h) fun us s1 ⟨vs, H1, I1, r1, q1⟩ => hc pins s1 σ H1 vs us Q I1 r1 q1) he hpl
/-- T(e, ..), T a built-in type -/
theorem pe_callTy (hc : CallR X (.type T) r) (hg : Gl X x) (hm : X.mg x = none) (hv : bootBuiltins x = some (.type T)) (ha : PA X (e :: es) t) (hn : x ≠ "__name__" := by decide) (hdb : (x == ("__debug__" : Str)) = false := by decide)
    (he : starEach (e :: es) X.env = (false, eval e X.env) :: starEach es X.env := by rfl) (hpl : (backTo pos (starEach es X.env)).any (·.1) = false := by rfl) : PE X (.Call (.Name x p) (e :: es) [] pos) (tCB r t) := by
  intro pins s σ H Q I h
  refine wpAny_Call_Name_kw (ld_blt I hg hm hv ?_ hn hdb)
  exact PyProof.Rows.callWith_type1 (thn (ha pos pins s σ H _ I h) fun us s1 ⟨vs, H1, I1, r1, q1⟩ => hc pins s1 σ H1 vs us Q I1 r1 q1) he hpl
end
end L2

namespace HT
open PySem PyProof.Rows

section
open PySem.SeqAt
open PySem.AutoSeq1 (wpAny_loadPart')
open PySem.MeetsSeq PySem.MeetsSeq2 PySem.MeetsSeq3

end

section
variable {prog : Program} {w : World} {A : Around} {E : Value → Shared → Prop} {s : Shared}

/-- a slice's bound as a place among n (d where it is left out) -/
def sIx (n d : Nat) : Option Int → Nat
  | none => d
  | some v => if v < 0 then (v + (n : Int)).toNat else min v.toNat n
theorem sIx_nat (n d k : Nat) : sIx n d (some (k : Int)) = min k n := by
  show (if (k : Int) < 0 then ((k : Int) + (n : Int)).toNat else min (k : Int).toNat n) = min k n
  rw [if_neg (by omega), Int.toNat_natCast]
end
end HT

namespace L2
open PySem PySem.Spec PyProof.Rows

abbrev TO := St → Hp → (Option Int → Hp → Prop) → Prop
/-- a slice's part (left out, or an int) -/
def PO (X : Cx) (e : Option Expr) (t : TO) : Prop :=
  ∀ (pins : List (Addr × Obj)) (s : Shared) (σ : St) (H : Hp) (Q : Option Int → Hp → Prop), Inv X pins σ H s → t σ H Q →
    wpAny (model X.prog X.w) X.A (evalPart e X.env) (fun u s' => ∃ o H', Inv X pins σ H' s' ∧ IsPart u o ∧ Q o H') X.xe s
def tNoPart : TO := fun _ H Q => Q none H
def tPart (t : TE) : TO := fun σ H Q => t σ H fun x H1 => ∃ i, x = .int i ∧ Q (some i) H1

theorem intsAre_of {ns : List Int} : ∀ {us : List Value}, Vals (ns.map V.int) us → IntsAre us ns := by
  induction ns with
  | nil => intro us r; rw [List.map_nil] at r; cases r; exact .nil
  | cons n ns ih =>
    intro us r
    rw [List.map_cons] at r
    cases r with
    | cons r1 r2 =>
      obtain ⟨t, e⟩ := r1
      subst e
      exact .cons n t (ih r2)

section
variable {X : Cx} {e : Expr} {te : TE} {lo hi : Option Expr} {tl th : TO} {pos p2 : Pos}

theorem po_none : PO X none tNoPart := by
  intro pins s σ H Q I h
  rw [evalPart_none]
  exact wpAny_pure ⟨none, H, I, .none, h⟩
theorem po_some (h : PE X e te) : PO X (some e) (tPart te) := by
  intro pins s σ H Q I hw
  rw [evalPart_some]
  refine thn (h pins s σ H _ I hw) fun u s1 ⟨x, H1, I1, r1, q1⟩ => ?_
  obtain ⟨i, rfl, q⟩ := q1
  obtain ⟨t, rfl⟩ := r1
  exact ⟨some i, H1, I1, .int i t, q⟩

/-- what a slice of a value is, by values: the slice object stands at sl -/
def SlR (X : Cx) (r : V → Option Int → Option Int → Hp → VK → Prop) : Prop :=
  ∀ (pins : List (Addr × Obj)) (s : Shared) (σ : St) (H : Hp) (x : V) (v vl vu : Value) (lo hi : Option Int) (sl : Addr) (Q : VK), Inv X pins σ H s → RelV x v → s.heap.IsSliceOf sl vl vu .none → IsPart vl lo → IsPart vu hi → r x lo hi H Q →
    ∃ T id, typeLookup (.type T) "__getitem__" = pure (some (.builtin id)) ∧ s.TypeIs v T ∧ wpAny (model X.prog X.w) X.A (getItem v (.ref sl)) (EP X pins σ Q) X.xe s
def tSl (r : V → Option Int → Option Int → Hp → VK → Prop) (te : TE) (tl th : TO) : TE := fun σ H Q => te σ H fun x H1 => tl σ H1 fun l H2 => th σ H2 fun u H3 => r x l u H3 Q
/-- a[lo:hi], any a -/
theorem pe_slice {r : V → Option Int → Option Int → Hp → VK → Prop} (hr : SlR X r) (he : PE X e te) (hl : PO X lo tl) (hu : PO X hi th) : PE X (.Subscript e (.Slice lo hi none p2) pos) (tSl r te tl th) := by
  intro pins s σ H Q I h
  refine Subscript_ (thn (he pins s σ H _ I h) fun v s1 ⟨x, H1, I1, r1, q1⟩ => ?_)
  refine wpAny_Slice (thn (hl pins s1 σ H1 _ I1 q1) fun vl s2 ⟨l, H2, I2, pl, q2⟩ => thn (hu pins s2 σ H2 _ I2 q2) fun vu s3 ⟨u, H3, I3, pu, q3⟩ => ?_)
  rw [evalPart_none]
  refine wpAny_pure ?_
  have I4 : Inv X pins σ H3 { s3 with heap := s3.heap.push { cls := .type "slice", data := .fields #[vl, vu, .none] } } := I3.kept (t' := s3.toks) fun b ob q => Heap.get?_push_of_some _ q
  obtain ⟨T, id, hT, ht, hg⟩ := hr pins { s3 with heap := s3.heap.push { cls := .type "slice", data := .fields #[vl, vu, .none] } } σ H3 x v vl vu l u s3.heap.objs.size Q I4 r1 (Heap.IsSliceOf.new ..) pl pu q3
  show wpAny (model X.prog X.w) X.A (subscriptTail e (.Slice lo hi none p2) v (.ref s3.heap.objs.size)) (EP X pins σ Q) X.xe { s3 with heap := s3.heap.push { cls := .type "slice", data := .fields #[vl, vu, .none] } }
  exact tail_any (ops := [.ref s3.heap.objs.size, v]) ht hT hg (by with_unfolding_all rfl)

/-- the items of xs[lo:hi] -/
def cutV (xs : List V) (lo hi : Option Int) : List V := (xs.drop (HT.sIx xs.length 0 lo)).take (HT.sIx xs.length xs.length hi - HT.sIx xs.length 0 lo)
theorem cutV_length (xs : List V) (lo hi : Option Int) : (cutV xs lo hi).length ≤ xs.length := by
  unfold cutV
  rw [List.length_take, List.length_drop]
  omega
end
end L2

namespace L2
open PySem PySem.Spec PyProof.Rows

/-- the place that an index of any sign means -/
def ixN (n : Nat) (i : Int) : Option Nat := if 0 ≤ i then (if i < n then some i.toNat else none) else if -(n : Int) ≤ i then some (i + n).toNat else none
def atI {α : Type} (xs : List α) (i : Int) : Option α := (ixN xs.length i).bind fun j => xs[j]?
theorem ixN_seq {n : Nat} {i : Int} {j : Nat} (h : ixN n i = some j) : seqIndex? i n = some j ∧ j < n ∧ -(n : Int) ≤ i ∧ i < n := by
  unfold ixN at h
  by_cases h0 : 0 ≤ i
  · rw [if_pos h0] at h
    by_cases h1 : i < n
    · rw [if_pos h1] at h
      have e : i.toNat = j := Option.some.inj h
      exact ⟨by rw [seqIndex_of h0 h1, e], by omega, by omega, h1⟩
    · rw [if_neg h1] at h; cases h
  · rw [if_neg h0] at h
    by_cases h1 : -(n : Int) ≤ i
    · rw [if_pos h1] at h
      have e : (i + n).toNat = j := Option.some.inj h
      exact ⟨by rw [seqIndex_neg (by omega) h1, e], by omega, h1, by omega⟩
    · rw [if_neg h1] at h; cases h
theorem atI_get {α : Type} {xs : List α} {i : Int} {v : α} (h : atI xs i = some v) : ∃ j, seqIndex? i xs.length = some j ∧ xs[j]? = some v ∧ j < xs.length ∧ -(xs.length : Int) ≤ i ∧ i < xs.length := by
  unfold atI at h
  cases e : ixN xs.length i with
  | none => rw [e] at h; cases h
  | some j =>
    rw [e] at h
    obtain ⟨h1, h2, h3, h4⟩ := ixN_seq e
    exact ⟨j, h1, h, h2, h3, h4⟩
theorem atI_nat {α : Type} {xs : List α} {j : Nat} {v : α} (h : xs[j]? = some v) : atI xs (j : Int) = some v := by
  have hj : j < xs.length := (List.getElem?_eq_some_iff.mp h).1
  have e : ixN xs.length (j : Int) = some j := by
    unfold ixN
    rw [if_pos (by omega), if_pos (by omega)]; simp
  unfold atI; rw [e]; exact h
/-- what stands as an index of a plain subscript -/
def PlainIx (b : Expr) : Prop := ∀ o i, subscripted b false o i = operate [o, i] (getItem o i)
/-- a subscript by values -/
def IxR (X : Cx) (r : R2) : Prop :=
  ∀ (value slice : Expr) (pins : List (Addr × Obj)) (s : Shared) (σ : St) (H : Hp) (x y : V) (v u : Value) (Q : VK), Inv X pins σ H s → RelV x v → RelV y u → r x y H Q →
    subscripted slice false v u = operate [v, u] (getItem v u) → wpAny (model X.prog X.w) X.A (subscriptTail value slice v u) (EP X pins σ Q) X.xe s
/-- a call of a builtin's method by values: the receiver, the arguments -/
def MtR (X : Cx) (id : String) (r : V → List V → Hp → VK → Prop) : Prop :=
  ∀ (pins : List (Addr × Obj)) (s : Shared) (σ : St) (H : Hp) (x : V) (xs : List V) (v : Value) (us : List Value) (Q : VK), Inv X pins σ H s → RelV x v → Vals xs us → r x xs H Q →
    wpAny (model X.prog X.w) X.A (call (.builtin id) (v :: us)) (EP X pins σ Q) X.xe s
section
variable {X : Cx} {a b : Expr} {ta tb : TE} {pos : Pos}
/-- a[b] -/
theorem pe_ix {r : R2} (hr : IxR X r) (ha : PE X a ta) (hb : PE X b tb) (hs : PlainIx b) : PE X (.Subscript a b pos) (tOp r ta tb) := by
  intro pins s σ H Q I h
  exact Subscript_ (binT ha hb I h fun v u s2 x y H2 I2 rx ry q => hr a b pins s2 σ H2 x y v u Q I2 rx ry q (hs _ _))

def rIxL (K : PySem.W.Frag) : R2 := fun x y H Q => ∃ p xs i v, x = .ref p ∧ y = .int i ∧ SqL K H p xs ∧ atI xs i = some v ∧ Q v H
def rIxT (K : PySem.W.Frag) : R2 := fun x y H Q => ∃ p xs i v, x = .ref p ∧ y = .int i ∧ SqT K H p xs ∧ atI xs i = some v ∧ Q v H
theorem ix_list : IxR X (rIxL X.K) := by
  intro value slice pins s σ H x y v u Q I rx ry h hs
  obtain ⟨p, xs, i, z, rfl, rfl, hq, he, q⟩ := h
  cases rx
  obtain ⟨t, rfl⟩ := ry
  obtain ⟨its, r, pl, hz⟩ := I.list hq
  obtain ⟨j, h1, h2, h3, h4, h5⟩ := atI_get he
  obtain ⟨w, ew, rw'⟩ := r.get h2
  have hl := r.length
  have hn := line63
  have fin : EP X pins σ Q w s := ⟨z, H, I, rw', q⟩
  by_cases h0 : 0 ≤ i
  · have hj : i.toNat = j := by
      rw [seqIndex_of h0 h5] at h1
      exact Option.some.inj h1
    exact item_listR pl.isList h0 (by omega) (by rw [hj]; simpa using ew) fin hs
  · have hj : (i + (its.toArray.size : Int)).toNat = j := by
      rw [seqIndex_neg (by omega) h4] at h1
      rw [List.size_toArray, ← hl]
      exact Option.some.inj h1
    exact subscriptTail_builtinR (x := w) pl.isList.typeIs slot_list_getitem.lookup
      (wpAny_getItem_list_neg (Q := fun r s' => r = w ∧ EP X pins σ Q r s') pl.isList (by omega) (by rw [List.size_toArray] <;> omega) (by omega) (by rw [hj]; simpa using ew) ⟨rfl, fin⟩) hs
theorem ix_tup : IxR X (rIxT X.K) := by
  intro value slice pins s σ H x y v u Q I rx ry h hs
  obtain ⟨p, xs, i, z, rfl, rfl, hq, he, q⟩ := h
  cases rx
  obtain ⟨t, rfl⟩ := ry
  obtain ⟨its, r, pl, hz⟩ := I.tuple hq
  obtain ⟨j, h1, h2, h3, h4, h5⟩ := atI_get he
  obtain ⟨w, ew, rw'⟩ := r.get h2
  have hl := r.length
  have hn := line63
  have fin : EP X pins σ Q w s := ⟨z, H, I, rw', q⟩
  exact subscriptTail_builtinR (x := w) pl.typeIs slot_tuple_getitem.lookup
    (getItem_tuple (j := j) (Q := fun r s' => r = w ∧ EP X pins σ Q r s') pl (by omega) (by omega) (by rw [List.size_toArray, ← hl]; exact h1) (by simpa using ew) ⟨rfl, fin⟩) hs
/-- the list's object behind a store -/
theorem mapSeq_set (its : List Value) (n j : Nat) (u : Value) : Obj.mapSeq (·.setIfInBounds j u) { cls := .type "list", data := .seq its.toArray n } = { cls := .type "list", data := .seq (its.set j u).toArray n } := by
  simp [Obj.mapSeq]
theorem Inv.lst {pins : List (Addr × Obj)} {σ : St} {H : Hp} {s : Shared} {p : Addr} {xs : List V} (I : Inv X pins σ H s) (h : H p = some (.lst xs)) :
    ∃ (its : List Value) (n : Nat), Vals xs its ∧ s.heap.get? p = some { cls := .type "list", data := .seq its.toArray n } ∧ xs.length ≤ sizeLine := by
  obtain ⟨z, its, n, r, e⟩ := I.hok p _ h
  exact ⟨its, n, r, e, z⟩
/-- the list at p is written by an update of its object -/
theorem Inv.lstUpd {pins : List (Addr × Obj)} {σ : St} {H : Hp} {s : Shared} {p : Addr} {xs ys : List V} {its its' : List Value} {n n' : Nat} {f : Obj → Obj} (I : Inv X pins σ H s) (h : H p = some (.lst xs))
    (ho : s.heap.get? p = some { cls := .type "list", data := .seq its.toArray n }) (hf : f { cls := .type "list", data := .seq its.toArray n } = { cls := .type "list", data := .seq its'.toArray n' }) (r : Vals ys its') (hz : ys.length ≤ sizeLine) (t : Nat) :
    Inv X pins σ (upd H p (.lst ys)) { s with heap := s.heap.update p f, toks := t } := by
  have e : (s.heap.update p f).get? p = some { cls := .type "list", data := .seq its'.toArray n' } := by
    rw [Heap.get?_update_self f ho (by rw [hf] <;> rfl), hf]
  refine I.write (x := p) (e := p) (by rw [h]; trivial) (.inl rfl) (fun b u hb q => (Heap.get?_update_other _ _ (Ne.symm hb)).trans q) ⟨_, e⟩ ?_
  exact ⟨hz, its', n', r, e⟩
def rSetL : V → V → V → Hp → (Hp → Prop) → Prop := fun o i v H Q => ∃ p xs k j, o = .ref p ∧ i = .int k ∧ H p = some (.lst xs) ∧ ixN xs.length k = some j ∧ Q (upd H p (.lst (xs.set j v)))
theorem set_list : PSet X rSetL := by
  intro pins s σ H o i v ov iv u Q I ro ri rv h
  obtain ⟨p, xs, k, j, rfl, rfl, hp, hj, q⟩ := h
  cases ro
  obtain ⟨t, rfl⟩ := ri
  obtain ⟨its, n, r, ho, hz⟩ := I.lst hp
  obtain ⟨h1, h2, h3, h4⟩ := ixN_seq hj
  have hl := r.length
  have hn := line63
  have I' : Inv X pins σ (upd H p (.lst (xs.set j v))) { s with heap := s.heap.update p (Obj.mapSeq (·.setIfInBounds j u)) } :=
    I.lstUpd hp ho (mapSeq_set its n j u) (r.set rv j) (by rw [List.length_set]; exact hz) s.toks
  by_cases h0 : 0 ≤ k
  · have hk : k.toNat = j := by
      rw [seqIndex_of h0 h4] at h1
      exact Option.some.inj h1
    exact PySem.W.ki_setAt ho h0 (by omega) (by rw [List.size_toArray, ← hl]; exact h4) (by rw [hk]; exact ⟨_, I', q⟩)
  · have hk : (k + (its.toArray.size : Int)).toNat = j := by
      rw [seqIndex_neg (by omega) h3] at h1
      rw [List.size_toArray, ← hl]
      exact Option.some.inj h1
    exact PySem.W.ki_setBack ho (by omega) (by rw [List.size_toArray, ← hl]; exact h3) (by omega) (by rw [hk]; exact ⟨_, I', q⟩)

theorem slice_bounds (lo hi : Option Int) (n : Nat) : (sliceBounds lo hi none n).1 = ((HT.sIx n 0 lo : Nat) : Int) ∧ (sliceBounds lo hi none n).2.1 = ((HT.sIx n n hi : Nat) : Int) ∧ (sliceBounds lo hi none n).2.2 = 1 := by
  refine ⟨?_, ?_, rfl⟩
  · cases lo with
    | none => simp [sliceBounds, HT.sIx]
    | some i =>
      simp only [sliceBounds, HT.sIx, Option.getD_none, show (1 : Int) > 0 by decide, if_true]
      by_cases h : i < 0
      · simp only [h, if_true] <;> omega
      · simp only [h, if_false] <;> omega
  · cases hi with
    | none => simp [sliceBounds, HT.sIx]
    | some i =>
      simp only [sliceBounds, HT.sIx, Option.getD_none, show (1 : Int) > 0 by decide, if_true]
      by_cases h : i < 0
      · simp only [h, if_true] <;> omega
      · simp only [h, if_false] <;> omega
theorem slicePick_cut (its : List Value) (lo hi : Option Int) : slicePick its.toArray lo hi none = ((its.drop (HT.sIx its.length 0 lo)).take (HT.sIx its.length its.length hi - HT.sIx its.length 0 lo)).toArray := by
  obtain ⟨h1, h2, h3⟩ := slice_bounds lo hi its.toArray.size
  unfold slicePick
  rw [h1, h2, h3]
  simp only [sliceRange_one, pick_run, List.size_toArray] <;> rfl
/-- xs[lo:hi] of a list: a new list -/
def rSlL (K : PySem.W.Frag) : V → Option Int → Option Int → Hp → VK → Prop := fun x lo hi H Q => ∃ a xs, x = .ref a ∧ SqL K H a xs ∧ ∀ p, H p = none → Q (.ref p) (upd H p (.lst (cutV xs lo hi)))
theorem sl_list : SlR X (rSlL X.K) := by
  intro pins s σ H x v vl vu lo hi sl Q I rx hs pl pu h
  obtain ⟨a, xs, rfl, hx, q⟩ := h
  cases rx
  obtain ⟨its, r, ht, hz⟩ := I.list hx
  have hlen := r.length
  refine ⟨"list", _, slot_list_getitem.lookup, ht.isList.typeIs, ?_⟩
  refine wpAny_getItem_list_slice ht.isList hs pl pu .none (by simp) ?_ (by rw [List.size_toArray] <;> omega)
  rw [slicePick_cut, ← hlen]
  refine ⟨.ref s.heap.objs.size, _, I.laid (t' := s.toks) (o := .lst (cutV xs lo hi)) (fun b ob q => Heap.get?_push_of_some _ q) (Nat.le_refl _) ?_, rfl, q _ (I.hok.fresh (Nat.le_refl _))⟩
  exact ⟨Nat.le_trans (cutV_length xs lo hi) hz, _, 0, (r.drop (HT.sIx xs.length 0 lo)).take (HT.sIx xs.length xs.length hi - HT.sIx xs.length 0 lo), Heap.get?_push_size _ rfl⟩

def flatV : V → Bool
  | .non => true
  | .bl _ => true
  | .int _ => true
  | .str _ => true
  | _ => false
/-- == of flat values -/
def eqV : V → V → Bool
  | .non, .non => true
  | .bl a, .bl b => a == b
  | .bl a, .int b => (if a then 1 else 0) == b
  | .int a, .bl b => a == (if b then 1 else 0)
  | .int a, .int b => a == b
  | .str a, .str b => a == b
  | _, _ => false
theorem eqAt_V {A : Around} {s : Shared} {y x : V} {u v : Value} (ry : RelV y u) (rx : RelV x v) (fy : flatV y = true) (fx : flatV x = true) : SeqAt.EqAt A s u v (eqV y x) := by
  cases y with
  | non =>
    cases ry
    cases x with
    | non => cases rx; exact SeqAt.EqAt.same _
    | bl b => cases rx; exact SeqAt.EqAt.none_bool b
    | int b => obtain ⟨t, rfl⟩ := rx; exact SeqAt.EqAt.none_int b t
    | str b => obtain ⟨t, rfl⟩ := rx; exact SeqAt.EqAt.none_str b t
    | _ => exact absurd (show false = true from fx) Bool.false_ne_true
  | bl a =>
    cases ry
    cases x with
    | non => cases rx; exact SeqAt.EqAt.bool_none a
    | bl b => cases rx; exact SeqAt.EqAt.bool_bool a b
    | int b => obtain ⟨t, rfl⟩ := rx; exact SeqAt.EqAt.bool_int a b t
    | str b => obtain ⟨t, rfl⟩ := rx; exact SeqAt.EqAt.bool_str a b t
    | _ => exact absurd (show false = true from fx) Bool.false_ne_true
  | int a =>
    obtain ⟨t', rfl⟩ := ry
    cases x with
    | non => cases rx; exact SeqAt.EqAt.int_none a t'
    | bl b => cases rx; exact SeqAt.EqAt.int_bool a t' b
    | int b => obtain ⟨t, rfl⟩ := rx; exact SeqAt.EqAt.int_int a t' b t
    | str b => obtain ⟨t, rfl⟩ := rx; exact SeqAt.EqAt.int_str a t' b t
    | _ => exact absurd (show false = true from fx) Bool.false_ne_true
  | str a =>
    obtain ⟨t', rfl⟩ := ry
    cases x with
    | non => cases rx; exact SeqAt.EqAt.str_none a t'
    | bl b => cases rx; exact SeqAt.EqAt.str_bool a t' b
    | int b => obtain ⟨t, rfl⟩ := rx; exact SeqAt.EqAt.str_int a t' b t
    | str b => obtain ⟨t, rfl⟩ := rx; exact SeqAt.EqAt.str_str a t' b t
    | _ => exact absurd (show false = true from fx) Bool.false_ne_true
  | _ => exact absurd (show false = true from fy) Bool.false_ne_true
/-- the items' answers, read off the values (a value's own answer does not lean on its token) -/
def eqU (x : V) (u : Value) : Bool := match u with
  | .none => eqV .non x
  | .bool b => eqV (.bl b) x
  | .int i _ => eqV (.int i) x
  | .str z _ => eqV (.str z) x
  | _ => false
theorem eqU_of {x y : V} {u : Value} (r : RelV y u) (f : flatV y = true) : eqU x u = eqV y x := by
  cases y with
  | non => cases r; rfl
  | bl b => cases r; rfl
  | int i => obtain ⟨t, rfl⟩ := r; rfl
  | str z => obtain ⟨t, rfl⟩ := r; rfl
  | _ => exact absurd (show false = true from f) Bool.false_ne_true
theorem any_eqU {x : V} : ∀ {xs : List V} {us : List Value}, Vals xs us → xs.all flatV = true → us.any (eqU x) = xs.any fun y => eqV y x
  | _, _, .nil, _ => rfl
  | y :: xs, u :: us, .cons r t, f => by
    rw [List.all_cons, Bool.and_eq_true] at f
    rw [List.any_cons, List.any_cons, eqU_of r f.1, any_eqU t f.2]
theorem mem_eqAt {A : Around} {s : Shared} {x : V} {v : Value} (rx : RelV x v) (fx : flatV x = true) : ∀ {xs : List V} {us : List Value}, Vals xs us → xs.all flatV = true → ∀ u ∈ us, SeqAt.EqAt A s u v (eqU x u)
  | _, _, .nil, _ => fun u hu => by cases hu
  | y :: xs, u :: us, .cons r t, f => fun u' hu => by
    rw [List.all_cons, Bool.and_eq_true] at f
    rcases List.mem_cons.mp hu with rfl | hu
    · rw [eqU_of r f.1]; exact eqAt_V r rx f.1 fx
    · exact mem_eqAt rx fx t f.2 u' hu
def inV (x : V) (xs : List V) : Bool := xs.any fun y => eqV y x
/-- x in a list or tuple of flat items -/
def rIn (K : PySem.W.Frag) (neg : Bool) : R2 := fun x y H Q => ∃ p xs, y = .ref p ∧ (SqL K H p xs ∨ SqT K H p xs) ∧ flatV x = true ∧ xs.all flatV = true ∧ Q (.bl (if neg then !inV x xs else inV x xs)) H
theorem op_in_seq : OpR X (compareOp .In) (rIn X.K false) := by
  intro pins s σ H x y v u Q I rx ry h
  obtain ⟨p, xs, rfl, hq, fx, fs, q⟩ := h
  cases ry
  rcases hq with hq | hq
  · obtain ⟨its, r, pl, hz⟩ := I.list hq
    refine SeqAt.in_listAt (eqU x) pl.isList (fun w hw => mem_eqAt rx fx r fs w (by simpa using hw)) ⟨.bl _, H, I, rfl, ?_⟩
    rw [show its.toArray.any (eqU x) = its.any (eqU x) by simp, any_eqU r fs]
    exact q
  · obtain ⟨its, r, pl, hz⟩ := I.tuple hq
    refine SeqAt.in_tupleAt (eqU x) pl (fun w hw => mem_eqAt rx fx r fs w (by simpa using hw)) ⟨.bl _, H, I, rfl, ?_⟩
    rw [show its.toArray.any (eqU x) = its.any (eqU x) by simp, any_eqU r fs]
    exact q
theorem call_len_seq : CallR X (.builtin "len") (fun xs H Q => ∃ p ys, xs = [.ref p] ∧ (SqL X.K H p ys ∨ SqT X.K H p ys) ∧ Q (.int ys.length) H) := by
  intro pins s σ H xs us Q I r h
  obtain ⟨p, ys, rfl, hq, q⟩ := h
  obtain ⟨u, rfl, rx⟩ := vals1 r
  cases rx
  have hn := line63
  rcases hq with hq | hq
  · obtain ⟨its, r', pl, hz⟩ := I.list hq
    have hlen := r'.length
    exact Calls.call_len_list pl.isList (by simp only [List.size_toArray] <;> omega) ⟨.int ys.length, H, I.tok _, ⟨s.toks + 1, by rw [List.size_toArray, hlen]⟩, q⟩
  · obtain ⟨its, r', pl, hz⟩ := I.tuple hq
    have hlen := r'.length
    exact len_tuple pl (by simp only [List.size_toArray] <;> omega) ⟨.int ys.length, H, I.tok _, ⟨s.toks + 1, by rw [List.size_toArray, hlen]⟩, q⟩
theorem call_list_of : CallR X (.type "list") (fun xs H Q => ∃ p ys, xs = [.ref p] ∧ (SqL X.K H p ys ∨ SqT X.K H p ys) ∧ ∀ l, H l = none → Q (.ref l) (upd H l (.lst ys))) := by
  intro pins s σ H xs us Q I r h
  obtain ⟨p, ys, rfl, hq, q⟩ := h
  obtain ⟨u, rfl, rx⟩ := vals1 r
  cases rx
  have fin : ∀ (its : List Value), Vals ys its → ys.length ≤ sizeLine → ∀ (h' : Heap) (c' : Nat), (∀ b o', s.heap.get? b = some o' → h'.get? b = some o') →
      h'.get? s.heap.objs.size = some { cls := .type "list", dict := none, data := .seq its.toArray c', slots := #[] } → EP X pins σ Q (.ref s.heap.objs.size) { s with heap := h' } := fun its r' hz h' c' kp e =>
    ⟨.ref s.heap.objs.size, _, I.laid (t' := s.toks) kp (Nat.le_refl _) (show ObjOk X.prog X.w _ h' _ (.lst ys) from ⟨hz, its, c', r', e⟩), rfl, q _ (I.hok.fresh (Nat.le_refl _))⟩
  rcases hq with hq | hq
  · obtain ⟨its, r', pl, hz⟩ := I.list hq
    have hlen := r'.length
    obtain ⟨o, ho, hc, n, hd⟩ := pl.isList
    exact call_list_seq p (.inl rfl) ho hc hd (fun h' c' kp e => fin its r' hz h' c' kp e) (by simp only [List.size_toArray] <;> omega)
  · obtain ⟨its, r', pl, hz⟩ := I.tuple hq
    have hlen := r'.length
    obtain ⟨o, ho, hc, n, hd⟩ := pl
    exact call_list_seq p (.inr rfl) ho hc hd (fun h' c' kp e => fin its r' hz h' c' kp e) (by simp only [List.size_toArray] <;> omega)
/-- the value is of that builtin type -/
def tyV (K : PySem.W.Frag) (T : String) (x : V) (H : Hp) : Prop := match x with
  | .str _ => T = "str"
  | .int _ => T = "int"
  | .ref p => (T = "list" ∧ ∃ xs, SqL K H p xs) ∨ (T = "tuple" ∧ ∃ o, K.lookup p = some o ∧ o.cls = .type "tuple" ∧ o.dict = none) ∨
      (T = "dict" ∧ ((∃ kvs, H p = some (.dK kvs)) ∨ ∃ kvs, H p = some (.dT kvs))) ∨ (T = "set" ∧ ∃ S n, H p = some (.set S n))
  | _ => False
theorem tyV_is {pins : List (Addr × Obj)} {σ : St} {H : Hp} {s : Shared} {T : String} {x : V} {v : Value} (I : Inv X pins σ H s) (r : RelV x v) (ty : tyV X.K T x H) :
    s.TypeIs v T ∧ ∀ a, v = .ref a → ∃ ob, s.heap.get? a = some ob ∧ ob.dict = none := by
  cases x with
  | str z =>
    obtain ⟨t, rfl⟩ := r
    cases (show T = "str" from ty)
    exact ⟨typeIs_str s z t, fun _ e => nomatch e⟩
  | int i =>
    obtain ⟨t, rfl⟩ := r
    cases (show T = "int" from ty)
    exact ⟨typeIs_int s i t, fun _ e => nomatch e⟩
  | ref p =>
    cases r
    rcases ty with ⟨rfl, xs, hq⟩ | ⟨rfl, o, hk, hc, hd⟩ | ⟨rfl, hk⟩ | ⟨rfl, S, n, hk⟩
    · obtain ⟨its, _, pl, _⟩ := I.list hq
      refine ⟨pl.isList.typeIs, fun a e => ?_⟩
      cases e
      obtain ⟨o, n, e, c, hd, _⟩ := pl
      exact ⟨o, e, hd⟩
    · refine ⟨⟨o, I.kIn p o hk, hc⟩, fun a e => ?_⟩
      cases e
      exact ⟨o, I.kIn _ o hk, hd⟩
    · have z : ∃ o, s.heap.get? p = some o ∧ o.ExactDict := by
        rcases hk with ⟨kvs, hk⟩ | ⟨kvs, hk⟩
        · obtain ⟨_, _, _, _, o, _, _, e, ex, _⟩ := I.hok p _ hk
          exact ⟨o, e, ex⟩
        · obtain ⟨_, _, _, _, o, _, _, e, ex, _⟩ := I.hok p _ hk
          exact ⟨o, e, ex⟩
      obtain ⟨o, e, ex⟩ := z
      refine ⟨⟨o, e, ex.1⟩, fun a e2 => ?_⟩
      cases e2
      exact ⟨o, e, ex.2.1⟩
    · obtain ⟨o, _, _, _, e, ex, _⟩ := I.hok p _ hk
      refine ⟨⟨o, e, ex.1⟩, fun a e2 => ?_⟩
      cases e2
      exact ⟨o, e, ex.2.1⟩
  | _ => exact False.elim ty
def tBM0 (K : PySem.W.Frag) (T : String) (r : V → List V → Hp → VK → Prop) (to : TE) : TE := fun σ H Q => to σ H fun x H1 => tyV K T x H1 ∧ r x [] H1 Q
def tBM (K : PySem.W.Frag) (T : String) (r : V → List V → Hp → VK → Prop) (to : TE) (t : TA) : TE := fun σ H Q => to σ H fun x H1 => tyV K T x H1 ∧ t σ H1 fun xs H2 => r x xs H2 Q
variable {o e : Expr} {es : List Expr} {to : TE} {t : TA} {name : Str} {apos cpos : Pos} {T id : String} {r : V → List V → Hp → VK → Prop}
theorem pe_bm0 (pa : PlainAttrs T) (slot : Slot T name id) (hty : typeOf (.builtin id) = pure (.type "method_descriptor")) (hm : MtR X id r) (ho : PE X o to)
    (hbase : attributeBase o name X.env (eval o X.env) = eval o X.env := by rfl) (hline : (apos.endLine == cpos.line) = true := by rfl) : PE X (.Call (.Attribute o name apos) [] [] cpos) (tBM0 X.K T r to) := by
  intro pins s σ H Q I h
  refine wpAny_Call_method0_late hbase hline (thn (ho pins s σ H _ I h) fun v s1 ⟨x, H1, I1, r1, ty, q1⟩ => ?_)
  obtain ⟨h1, h2⟩ := tyV_is I1 r1 ty
  exact ⟨T, id, pa, slot, hty, h1, h2, Calls.callWith_builtin rfl (PySem.evalArgs_none (hm pins s1 σ H1 x [] v [] Q I1 r1 .nil q1))⟩
theorem pe_bm (pa : PlainAttrs T) (slot : Slot T name id) (hty : typeOf (.builtin id) = pure (.type "method_descriptor")) (hm : MtR X id r) (ho : PE X o to) (ha : PA X (e :: es) t)
    (hbase : attributeBase o name X.env (eval o X.env) = eval o X.env := by rfl)
    (hfew : ((backTo cpos (starEach (e :: es) X.env)).all (fun x => !x.1) && (backToKw cpos (keywordEach [] X.env)).all (fun x => x.1.isSome)
      && decide ((e :: es).length + ([] : List Keyword).length + (if ([] : List Keyword).isEmpty then 0 else 1) < 30)) = true := by rfl)
    (hline : (apos.endLine == cpos.line) = true := by rfl) (hs : starEach (e :: es) X.env = (false, eval e X.env) :: starEach es X.env := by rfl) (hplain : (backTo cpos (starEach es X.env)).any (·.1) = false := by rfl) :
    PE X (.Call (.Attribute o name apos) (e :: es) [] cpos) (tBM X.K T r to t) := by
  intro pins s σ H Q I h
  refine wpAny_Call_method_late hbase hfew hline rfl (thn (ho pins s σ H _ I h) fun v s1 ⟨x, H1, I1, r1, ty, q1⟩ => ?_)
  obtain ⟨h1, h2⟩ := tyV_is I1 r1 ty
  refine ⟨T, id, pa, slot, hty, h1, h2, ?_⟩
  have hA := ha cpos pins s1 σ H1 _ I1 q1
  rw [hs] at hA ⊢
  refine Calls.callWith_builtin (by show (false || (backTo cpos (starEach es X.env)).any (·.1)) = false; rw [hplain] <;> rfl) (Calls.evalArgs_plain ?_)
  exact thn hA fun us s2 ⟨vs, H2, I2, r2, q2⟩ => hm pins s2 σ H2 x vs v us Q I2 r1 r2 q2
/- xs.append(e), list.index on a module's tuple .. are MtR facts of 06m -/
end
end L2

namespace L2
open PySem PySem.Spec PyProof.Rows

def MtM (X : Cx) (id : String) (r : V → List V → Hp → VK → Prop) : Prop :=
  ∀ (pins : List (Addr × Obj)) (s : Shared) (σ : St) (H : Hp) (x : V) (xs : List V) (v : Value) (us : List Value) (Q : VK), Inv X pins σ H s → RelV x v → Vals xs us → r x xs H Q →
    wpAny (model X.prog X.w) X.A (call (.builtin id) (v :: us)) (EP X pins σ Q) X.xe s

theorem Vals.one : ∀ {x : V} {us : List Value}, Vals [x] us → ∃ u, us = [u] ∧ RelV x u
  | _, _, .cons r .nil => ⟨_, rfl, r⟩
theorem Vals.zero : ∀ {us : List Value}, Vals [] us → us = []
  | _, .nil => rfl
theorem Vals.rep {xs : List V} {us : List Value} (h : Vals xs us) : ∀ k : Nat, Vals (List.replicate k xs).flatten (List.replicate k us).flatten
  | 0 => .nil
  | k + 1 => by
    rw [List.replicate_succ, List.replicate_succ, List.flatten_cons, List.flatten_cons]
    exact Vals.append h (Vals.rep h k)
theorem foldl_rep (its : List Value) : ∀ (k : Nat) (acc : List Value),
    List.foldl (fun x1 x2 => x1 ++ x2) acc.toArray (List.replicate k its.toArray) = (acc ++ (List.replicate k its).flatten).toArray
  | 0, acc => by simp
  | k + 1, acc => by
    have e : acc.toArray ++ its.toArray = (acc ++ its).toArray := by simp
    have e2 : (acc ++ its) ++ (List.replicate k its).flatten = acc ++ (List.replicate (k + 1) its).flatten := by
      rw [List.replicate_succ, List.flatten_cons, List.append_assoc]
    rw [← e2, ← foldl_rep its k (acc ++ its), ← e, List.replicate_succ, List.foldl_cons]

section
variable {X : Cx} {pins : List (Addr × Obj)} {σ : St} {H : Hp} {s : Shared} {l b : Addr} {xs ys zs : List V}

theorem Inv.lset {its its' : List Value} {n : Nat} {f : Array Value → Array Value} {t' : Nat} (I : Inv X pins σ H s) (hH : H l = some (.lst xs))
    (e : s.heap.get? l = some { cls := .type "list", data := .seq its.toArray n }) (hf : f its.toArray = its'.toArray) (hv : Vals ys its') (hz : ys.length ≤ sizeLine) :
    Inv X pins σ (upd H l (.lst ys)) { s with heap := s.heap.update l (Obj.mapSeq f), toks := t' } := by
  have q := PySem.IsL.update e f
  rw [hf] at q
  refine I.write (x := l) (e := l) (by rw [hH]; exact trivial) (.inl rfl) (fun b' u hb hu => (Heap.get?_update_other s.heap (Obj.mapSeq f) (Ne.symm hb)).trans hu) ⟨_, q⟩ ?_
  exact ⟨hz, its', _, hv, q⟩
theorem Inv.lnew {its : List Value} {t' : Nat} (I : Inv X pins σ H s) (hv : Vals ys its) (hz : ys.length ≤ sizeLine) :
    Inv X pins σ (upd H s.heap.objs.size (.lst ys)) { s with heap := s.heap.push { cls := .type "list", data := .seq its.toArray }, toks := t' } :=
  I.laid (fun _ _ q => Heap.get?_push_of_some _ q) (Nat.le_refl _) ⟨hz, its, 0, hv, Heap.get?_push_size _ rfl⟩
theorem Inv.fresh (I : Inv X pins σ H s) : H s.heap.objs.size = none := I.hok.fresh (Nat.le_refl _)
theorem Inv.lstM (I : Inv X pins σ H s) (hH : H l = some (.lst xs)) : xs.length ≤ sizeLine ∧ ∃ (its : List Value) (n : Nat), Vals xs its ∧ xs.length = its.length ∧ s.heap.get? l = some { cls := .type "list", data := .seq its.toArray n } := by
  obtain ⟨z, its, n, r, e⟩ := I.hok l _ hH
  exact ⟨z, its, n, r, r.length, e⟩

theorem notLongL {n : Nat} (h : n ≤ sizeLine) : Builtin.List.listTooLong n = false := by
  unfold Builtin.List.listTooLong
  exact decide_eq_false (by omega)
end

section
variable {X : Cx}

def rAppend : V → List V → Hp → VK → Prop := fun x vs H Q => ∃ l xs y, x = .ref l ∧ vs = [y] ∧ H l = some (.lst xs) ∧ xs.length < sizeLine ∧ Q .non (upd H l (.lst (xs ++ [y])))
theorem mt_append : MtM X "list.append" rAppend := by
  intro pins s σ H x vs v us Q I rx rv h
  obtain ⟨l, xs, y, rfl, rfl, hH, hz, q⟩ := h
  cases rx
  obtain ⟨u, rfl, ru⟩ := rv.one
  obtain ⟨z, its, n, r, hl, e⟩ := I.lstM hH
  refine call_meets F.slot_list_append ⟨_, e, rfl⟩ F.entry_list_append (F.args_list_append_2 _ _) (PySem.list_append l its.toArray n u (by rw [List.size_toArray]; omega)) ⟨e, ?_⟩
  refine ⟨.non, _, I.lset (its' := its ++ [u]) hH e (by simp) (r.append (.cons ru .nil)) ?_, rfl, q⟩
  rw [List.length_append, List.length_singleton]
  omega

def rExtend : V → List V → Hp → VK → Prop := fun x vs H Q => ∃ l b xs zs, x = .ref l ∧ vs = [.ref b] ∧ H l = some (.lst xs) ∧ H b = some (.lst zs) ∧ xs.length + zs.length ≤ sizeLine ∧ Q .non (upd H l (.lst (xs ++ zs)))
def rClear : V → List V → Hp → VK → Prop := fun x vs H Q => ∃ l xs, x = .ref l ∧ vs = [] ∧ H l = some (.lst xs) ∧ Q .non (upd H l (.lst []))
theorem mt_clear : MtM X "list.clear" rClear := by
  intro pins s σ H x vs v us Q I rx rv h
  obtain ⟨l, xs, rfl, rfl, hH, q⟩ := h
  cases rx
  have hus := rv.zero
  subst hus
  obtain ⟨z, its, n, r, hl, e⟩ := I.lstM hH
  refine call_meets F.slot_list_clear ⟨_, e, rfl⟩ F.entry_list_clear (F.args_list_clear_1 _) (AutoSeq1.list_clear_list_0 l its.toArray n (by rw [List.size_toArray]; omega)) ⟨e, ?_⟩
  exact ⟨.non, _, I.lset (its' := []) (ys := []) hH e rfl .nil (Nat.zero_le _), rfl, q⟩

def rCat : R2 := fun x y H Q => ∃ l b xs zs, x = .ref l ∧ y = .ref b ∧ H l = some (.lst xs) ∧ H b = some (.lst zs) ∧ xs.length + zs.length ≤ sizeLine ∧ ∀ p, H p = none → Q (.ref p) (upd H p (.lst (xs ++ zs)))
theorem op_cat : OpR X (binaryOp .Add) rCat := by
  intro pins s σ H x y v u Q I rx ry h
  obtain ⟨l, b, xs, zs, rfl, rfl, hH, hB, hz, q⟩ := h
  cases rx
  cases ry
  obtain ⟨z, its, n, r, hl, e⟩ := I.lstM hH
  obtain ⟨z2, its2, n2, r2, hl2, e2⟩ := I.lstM hB
  refine PySem.P.add_list e e2 ?_ (by rw [List.size_toArray, List.size_toArray]; omega)
  have ea : its.toArray ++ its2.toArray = (its ++ its2).toArray := by simp
  rw [ea]
  exact ⟨.ref _, _, I.lnew (t' := s.toks) (r.append r2) (by rw [List.length_append]; omega), rfl, q _ I.fresh⟩
/-- a list times an int (a negative one is nothing) -/
def rRep : R2 := fun x y H Q => ∃ l k xs, x = .ref l ∧ y = .int k ∧ H l = some (.lst xs) ∧ -(2 ^ 63) ≤ k ∧ k < 2 ^ 63 ∧ xs.length * k.toNat ≤ sizeLine ∧
  ∀ p, H p = none → Q (.ref p) (upd H p (.lst (List.replicate k.toNat xs).flatten))
theorem len_rep {α : Type} (xs : List α) (k : Nat) : (List.replicate k xs).flatten.length = k * xs.length := by
  induction k with
  | zero => simp
  | succ k ih => rw [List.replicate_succ, List.flatten_cons, List.length_append, ih, Nat.succ_mul, Nat.add_comm]
theorem op_rep : OpR X (binaryOp .Mult) rRep := by
  intro pins s σ H x y v u Q I rx ry h
  obtain ⟨l, k, xs, rfl, rfl, hH, h1, h2, hz, q⟩ := h
  cases rx
  obtain ⟨t, rfl⟩ := ry
  obtain ⟨z, its, n, r, hl, e⟩ := I.lstM hH
  have hlen : its.toArray.size * k.toNat ≤ sizeLine := by rw [List.size_toArray, ← hl]; exact hz
  have hcap : ¬ its.toArray.size * k.toNat > (2 ^ 63 - 1) / 8 := by
    have : (sizeLine : Nat) ≤ (2 ^ 63 - 1) / 8 := by decide
    omega
  have hfit : ¬ (!Builtin.List.listFitsIndex k) = true := by
    rw [fitsIndex_both h1 h2]
    exact Bool.false_ne_true
  have hlong : ¬ Builtin.List.listTooLong (its.toArray.size * k.toNat) = true := by
    rw [notLongL hlen]
    exact Bool.false_ne_true
  have hnew : List.foldl (fun x1 x2 => x1 ++ x2) #[] (List.replicate (if its.toArray.isEmpty = true then 0 else k.toNat) its.toArray) = (List.replicate k.toNat its).flatten.toArray := by
    have f0 : ∀ m : Nat, List.foldl (fun x1 x2 => x1 ++ x2) #[] (List.replicate m its.toArray) = (List.replicate m its).flatten.toArray := fun m => by
      have := foldl_rep its m []
      rw [List.nil_append] at this
      exact this
    rw [f0]
    cases its with
    | nil => simp
    | cons a r' => rw [if_neg (by simp)]
  refine wpAny_binaryOp_repeat_ref (T := "list") (U := "int") (by decide) ⟨_, e, rfl⟩ (fun s' => typeIs_int s' k t) noFill_list_mul F.fills_int_mul F.slot_int_rmul repeat_list F.slot_int_index.lookup
    (call_meets F.slot_int_rmul (typeIs_int s k t) F.entry_int_rmul (F.args_int_rmul_2 _ _) (int___rmul___int_list k t l its.toArray n)
      ⟨e, rfl, ⟨_, e, rfl⟩, call_meets F.slot_list_mul ⟨_, e, rfl⟩ F.entry_list_mul (F.args_list_mul_2 _ _) (AutoListH.list___mul___list_int_3 l its.toArray n k t hfit hcap hlong) ⟨e, ?_⟩⟩)
  rw [hnew]
  exact ⟨.ref _, _, I.lnew (t' := s.toks) (r.rep k.toNat) (by rw [len_rep, Nat.mul_comm]; exact hz), rfl, q _ I.fresh⟩

end

section
variable {prog : Program} {w : World} {A : Around} {E : Value → Shared → Prop} {s : Shared}
set_option maxRecDepth 100000 in
end

section
variable {X : Cx}
end
end L2

namespace L2
open PySem PySem.Spec PyProof.Rows

section
variable {κ : Type} [DecidableEq κ]
def valV (kvs : List (κ × V)) (k : κ) : Option V := (kvs.find? fun kv => decide (kv.1 = k)).map (·.2)
/-- in its place, or at the end -/
def putK (kvs : List (κ × V)) (k : κ) (v : V) : List (κ × V) :=
  if (kvs.any fun kv => decide (kv.1 = k)) = true then kvs.map (fun kv => if kv.1 = k then (kv.1, v) else kv) else kvs ++ [(k, v)]
def dropK (kvs : List (κ × V)) (k : κ) : List (κ × V) := kvs.filter fun kv => decide (kv.1 ≠ k)

theorem valV_pos {p : κ × V} {r : List (κ × V)} {k : κ} (e : p.1 = k) : valV (p :: r) k = some p.2 := by simp [valV, List.find?_cons, e]
theorem valV_neg {p : κ × V} {r : List (κ × V)} {k : κ} (e : ¬ p.1 = k) : valV (p :: r) k = valV r k := by simp [valV, List.find?_cons, e]
theorem valV_any (k : κ) : ∀ kvs : List (κ × V), (kvs.any fun kv => decide (kv.1 = k)) = (valV kvs k).isSome
  | [] => rfl
  | p :: r => by
    rw [List.any_cons]
    by_cases e : p.1 = k
    · simp only [valV_pos e, decide_eq_true e, Bool.true_or, Option.isSome_some]
    · rw [valV_neg e, decide_eq_false e, Bool.false_or]; exact valV_any k r
theorem length_putK (kvs : List (κ × V)) (k : κ) (v : V) : (putK kvs k v).length ≤ kvs.length + 1 := by
  unfold putK
  split
  · rw [List.length_map]; omega
  · rw [List.length_append, List.length_cons, List.length_nil]; omega
theorem putK_new {kvs : List (κ × V)} {k : κ} (v : V) (h : valV kvs k = none) : putK kvs k v = kvs ++ [(k, v)] := by
  unfold putK
  rw [valV_any, h]
  exact if_neg (by decide)

theorem RelO.isSome_eq {o : Option V} {u : Option Value} (r : RelO o u) : o.isSome = u.isSome := by
  cases o with
  | none => cases u with
    | none => rfl
    | some _ => exact (show False from r).elim
  | some _ => cases u with
    | none => exact (show False from r).elim
    | some _ => rfl
/-- raw tables of the same keys -/
theorem KV.val {kvs : List (κ × V)} {vs : List (κ × Value)} (r : KV kvs vs) (k : κ) : RelO (valV kvs k) (valueAt vs k) := by
  unfold KV at r
  induction r with
  | nil => exact True.intro
  | @cons p q ps qs h t ih =>
    obtain ⟨h1, h2⟩ := h
    by_cases e : p.1 = k
    · have e' : q.1 = k := h1.symm.trans e
      have b : valueAt (q :: qs) k = some q.2 := by simp [valueAt, List.find?_cons, e']
      rw [valV_pos e, b]; exact h2
    · have e' : ¬ q.1 = k := fun z => e (h1.trans z)
      have b : valueAt (q :: qs) k = valueAt qs k := by simp [valueAt, List.find?_cons, e']
      rw [valV_neg e, b]; exact ih
theorem KV.any {kvs : List (κ × V)} {vs : List (κ × Value)} (r : KV kvs vs) (k : κ) : (kvs.any fun kv => decide (kv.1 = k)) = vs.any fun kv => decide (kv.1 = k) := by
  unfold KV at r
  induction r with
  | nil => rfl
  | cons h t ih => rw [List.any_cons, List.any_cons, ih, h.1]
theorem KV.repl {kvs : List (κ × V)} {vs : List (κ × Value)} (r : KV kvs vs) (k : κ) {y : V} {u : Value} (ry : RelV y u) :
    KV (kvs.map fun kv => if kv.1 = k then (kv.1, y) else kv) (vs.map fun kv => if kv.1 = k then (kv.1, u) else kv) := by
  unfold KV at r ⊢
  induction r with
  | nil => exact .nil
  | @cons p q ps qs h t ih =>
    rw [List.map_cons, List.map_cons]
    refine .cons ?_ ih
    obtain ⟨h1, h2⟩ := h
    by_cases e : p.1 = k
    · rw [if_pos e, if_pos (h1.symm.trans e)]; exact ⟨h1, ry⟩
    · rw [if_neg e, if_neg (fun z => e (h1.trans z))]; exact ⟨h1, h2⟩
theorem KV.put {kvs : List (κ × V)} {vs : List (κ × Value)} (r : KV kvs vs) (k : κ) {y : V} {u : Value} (ry : RelV y u) : KV (putK kvs k y) (stored vs k u) := by
  unfold putK stored
  rw [r.any k]
  by_cases e : (vs.any fun kv => decide (kv.1 = k)) = true
  · rw [if_pos e, if_pos e]; exact r.repl k ry
  · rw [if_neg e, if_neg e]; exact Paired.snoc r ⟨rfl, ry⟩
theorem KV.length {kvs : List (κ × V)} {vs : List (κ × Value)} (r : KV kvs vs) : kvs.length = vs.length := Paired.length r
end


theorem kV_is {P : Program} {w : World} {k : Key} {u : Value} (r : RelV (kV k) u) : (mixKind P w).is k u = true := by
  cases k with
  | inl i => obtain ⟨t, e⟩ := (show ∃ t, u = Value.int i t from r); subst e; exact mixKind_int P w i t
  | inr x => obtain ⟨t, e⟩ := (show ∃ t, u = Value.str x t from r); subst e; exact mixKind_str P w x t
theorem items_are {P : Program} {w : World} : ∀ {ks : List Key} {us : List Value}, Vals (ks.map kV) us → ItemsAre (mixKind P w) ks us
  | [], _, r => by rw [List.map_nil] at r; cases r; exact .nil
  | k :: ks, _, r => by
    rw [List.map_cons] at r
    cases r with
    | cons h t => exact .cons (kV_is h) (items_are t)

/-- raw entries of a dict with tuple keys -/
abbrev KT (H : Hp) : List (List Key × V) → List (List Key × Addr × Value) → Prop := Paired fun p q => p.1 = q.1 ∧ H q.2.1 = some (.tup (p.1.map kV)) ∧ RelV p.2 q.2.2
theorem KT.val {H : Hp} {kvs : List (List Key × V)} {xs : List (List Key × Addr × Value)} (r : KT H kvs xs) (k : List Key) : RelO (valV kvs k) ((atKey xs k).map (·.2)) := by
  induction r with
  | nil => exact True.intro
  | @cons p q ps qs h t ih =>
    obtain ⟨h1, _, h2⟩ := h
    by_cases e : p.1 = k
    · have e' : q.1 = k := h1.symm.trans e
      have b : atKey (q :: qs) k = some q.2 := by simp [atKey, List.find?_cons, e']
      rw [valV_pos e, b]; exact h2
    · have e' : ¬ q.1 = k := fun z => e (h1.trans z)
      have b : atKey (q :: qs) k = atKey qs k := by simp [atKey, List.find?_cons, e']
      rw [valV_neg e, b]; exact ih
theorem KT.repl {H : Hp} {kvs : List (List Key × V)} {xs : List (List Key × Addr × Value)} (r : KT H kvs xs) (k : List Key) {y : V} {u : Value} (ry : RelV y u) :
    KT H (kvs.map fun kv => if kv.1 = k then (kv.1, y) else kv) (xs.map (putAt k u)) := by
  induction r with
  | nil => exact .nil
  | @cons p q ps qs h t ih =>
    rw [List.map_cons, List.map_cons]
    refine .cons ?_ ih
    obtain ⟨h1, h2, h3⟩ := h
    unfold putAt
    by_cases e : p.1 = k
    · rw [if_pos e, if_pos (h1.symm.trans e)]; exact ⟨h1, h2, ry⟩
    · rw [if_neg e, if_neg (fun z => e (h1.trans z))]; exact ⟨h1, h2, h3⟩
theorem KT.put {H : Hp} {kvs : List (List Key × V)} {xs : List (List Key × Addr × Value)} (r : KT H kvs xs) (k : List Key) {b : Addr} {y : V} {u : Value} (hb : H b = some (.tup (k.map kV))) (ry : RelV y u) :
    KT H (putK kvs k y) (storedH xs k b u) := by
  have e : (kvs.any fun kv => decide (kv.1 = k)) = (atKey xs k).isSome := by
    rw [valV_any, (r.val k).isSome_eq, Option.isSome_map]
  unfold putK storedH
  rw [e]
  by_cases q : (atKey xs k).isSome = true
  · rw [if_pos q, if_pos q]; exact r.repl k ry
  · rw [if_neg q, if_neg q]; exact Paired.snoc r ⟨rfl, hb, ry⟩
theorem KT.keeps {H H' : Hp} {kvs : List (List Key × V)} {xs : List (List Key × Addr × Value)} (r : KT H kvs xs) (ht : ∀ b ys, H b = some (.tup ys) → H' b = some (.tup ys)) : KT H' kvs xs :=
  Paired.mapP r fun _ _ z => ⟨z.1, ht _ _ z.2.1, z.2.2⟩

section
variable {P : Program} {w : World} {H : Hp} {h : Heap} {a : Addr}
theorem rd_of {u : HO} (ok : HOk P w H h) (e : Rd H a u) : ObjOk P w H h a u := e.ok ok
theorem dk_rd {kvs : List (Key × V)} (ok : HOk P w H h) (e : Rd H a (.dK kvs)) : kvs.length ≤ sizeLine ∧ (a == sysModules) = false ∧ ∃ vs, KV kvs vs ∧ h.DictOf (mixKind P w) a vs :=
  show ObjOk P w H h a (.dK kvs) from rd_of ok e
theorem dk_of {kvs : List (Key × V)} (ok : HOk P w H h) (e : H a = some (.dK kvs)) : kvs.length ≤ sizeLine ∧ (a == sysModules) = false ∧ ∃ vs, KV kvs vs ∧ h.DictOf (mixKind P w) a vs := dk_rd ok (.inl e)
/-- a tracked tuple of ints and texts is a key -/
theorem key_of {ks : List Key} (ok : HOk P w H h) (e : H a = some (.tup (ks.map kV))) : (tupleKind (mixKind P w)).is h ks a := by
  obtain ⟨_, its, r, o, h1, h2, n, h3⟩ := (show ObjOk P w H h a (.tup (ks.map kV)) from ok a _ e)
  exact ⟨o, its.toArray, n, h1, h2, h3, by simpa using items_are r⟩
theorem dt_rd {kvs : List (List Key × V)} (ok : HOk P w H h) (e : Rd H a (.dT kvs)) : kvs.length ≤ sizeLine ∧ (a == sysModules) = false ∧
    ∃ xs, KT H kvs xs ∧ h.DictOfH (tupleKind (mixKind P w)) a xs := by
  obtain ⟨z, y, xs, r, o, es, ep, h1, h2, h3, h4, h5⟩ := (show ObjOk P w H h a (.dT kvs) from rd_of ok e)
  refine ⟨z, y, xs, r, o, es, ep, h1, h2, h3, h4, fun x hx => ?_, h5⟩
  have all : ∀ {l : List (List Key × V)} {m : List (List Key × Addr × Value)}, KT H l m → ∀ x ∈ m, (tupleKind (mixKind P w)).is h x.1 x.2.1 := by
    intro l m q
    induction q with
    | nil => intro x hx; exact nomatch hx
    | @cons p q ps qs hq t ih =>
      intro x hx
      rcases List.mem_cons.mp hx with e | hx
      · subst e
        exact key_of ok (by rw [← hq.1]; exact hq.2.1)
      · exact ih x hx
  exact all r x hx
theorem dt_of {kvs : List (List Key × V)} (ok : HOk P w H h) (e : H a = some (.dT kvs)) : kvs.length ≤ sizeLine ∧ (a == sysModules) = false ∧
    ∃ xs, KT H kvs xs ∧ h.DictOfH (tupleKind (mixKind P w)) a xs := dt_rd ok (.inl e)
end

/-- what the dict at a holds at the key y -/
def DGet (H : Hp) (a : Addr) (y : V) (r : Option V) : Prop :=
  (∃ kvs k, Rd H a (.dK kvs) ∧ y = kV k ∧ r = valV kvs k) ∨ ∃ kvs k b, Rd H a (.dT kvs) ∧ y = .ref b ∧ H b = some (.tup (k.map kV)) ∧ r = valV kvs k
/-- the heap behind a[y] = v -/
def DPut (H : Hp) (a : Addr) (y v : V) (H' : Hp) : Prop :=
  (∃ kvs k, H a = some (.dK kvs) ∧ y = kV k ∧ kvs.length < sizeLine ∧ H' = upd H a (.dK (putK kvs k v))) ∨
  ∃ kvs k b, H a = some (.dT kvs) ∧ y = .ref b ∧ H b = some (.tup (k.map kV)) ∧ kvs.length < sizeLine ∧ H' = upd H a (.dT (putK kvs k v))
theorem DGet.k {H : Hp} {a : Addr} {kvs : List (Key × V)} {k : Key} (e : H a = some (.dK kvs)) : DGet H a (kV k) (valV kvs k) := .inl ⟨kvs, k, .inl e, rfl, rfl⟩
theorem DPut.k {H : Hp} {a : Addr} {kvs : List (Key × V)} {k : Key} {v : V} (e : H a = some (.dK kvs)) (hl : kvs.length < sizeLine) : DPut H a (kV k) v (upd H a (.dK (putK kvs k v))) := .inl ⟨kvs, k, e, rfl, hl, rfl⟩
section
variable {X : Cx} {pins : List (Addr × Obj)} {σ : St} {H : Hp} {s : Shared} {a : Addr} {y v : V} {u r : Value} {o : Option V} {A : Around} {E : Value → Shared → Prop}

theorem Inv.big (I : Inv X pins σ H s) : sysModules < s.heap.objs.size := by
  have h : mainGlobals < s.heap.objs.size := (I.mod.glob.keeps I.bk).lt
  exact Nat.lt_trans (by decide) h

/-- d[y], there -/
theorem d_getItem {Q : Value → Shared → Prop} (hu : A.units + 1 < cLine) (I : Inv X pins σ H s) (g : DGet H a y (some v)) (ry : RelV y u) (h : ∀ w' s', Inv X pins σ H s' → RelV v w' → Q w' s') :
    wpAny (model X.prog X.w) A (getItem (.ref a) u) Q E s := by
  rcases g with ⟨kvs, k, e, ey, l⟩ | ⟨kvs, k, b, e, ey, eb, l⟩
  · subst ey
    obtain ⟨z, hd, vs, rel, dd⟩ := dk_rd I.hok e
    obtain ⟨w', hw, rw'⟩ := RelO.some_of (v := v) (o := valueAt vs k) (by rw [l]; exact rel.val k)
    exact wpAny_getItem_of (kV_is ry) dd.mapOf hw (h w' _ (I.tok _) rw')
  · subst ey
    cases (show u = Value.ref b from ry)
    obtain ⟨z, hd, xs, rel, dd⟩ := dt_rd I.hok e
    obtain ⟨w', hw, rw'⟩ := RelO.some_of (v := v) (o := (atKey xs k).map (·.2)) (by rw [l]; exact rel.val k)
    obtain ⟨p, hp, hp2⟩ := Option.map_eq_some_iff.mp hw
    refine wpAny_getItem_heap (tupleKind_room_in1 hu) (key_of I.hok eb) dd hp ?_
    rw [hp2]
    exact h w' _ (I.tok _) rw'
/-- y in d -/
theorem d_in {Q : Value → Shared → Prop} (hu : A.units + 1 < cLine) (I : Inv X pins σ H s) (g : DGet H a y o) (ry : RelV y u) (h : ∀ s', Inv X pins σ H s' → Q (.bool o.isSome) s') :
    wpAny (model X.prog X.w) A (compareOp .In u (.ref a)) Q E s := by
  rcases g with ⟨kvs, k, e, ey, l⟩ | ⟨kvs, k, b, e, ey, eb, l⟩
  · subst ey
    obtain ⟨z, hd, vs, rel, dd⟩ := dk_rd I.hok e
    refine wpAny_in_of (kV_is ry) hd dd.mapOf ?_
    rw [← (rel.val k).isSome_eq, ← l]
    exact h _ (I.tok _)
  · subst ey
    cases (show u = Value.ref b from ry)
    obtain ⟨z, hd, xs, rel, dd⟩ := dt_rd I.hok e
    refine wpAny_in_heap (tupleKind_room_in1 hu) (key_of I.hok eb) hd dd ?_
    have q := (rel.val k).isSome_eq
    rw [Option.isSome_map] at q
    rw [← q, ← l]
    exact h _ (I.tok _)
/-- a dict's object is replaced -/
theorem d_write {h' : Heap} {t' : Nat} {ob : HO} (I : Inv X pins σ H s) (mu : Mut (H a)) (hs : Heap.SameBut a s.heap h') (he : ∃ q, h'.get? a = some q) (new : ObjOk X.prog X.w (upd H a ob) h' a ob) :
    Inv X pins σ (upd H a ob) { s with heap := h', toks := t' } :=
  I.write (x := a) (e := a) mu (.inl rfl) (fun b q hb z => (hs.2 b hb).trans z) he new
theorem dk_new {P : Program} {w : World} {H' : Hp} {h' : Heap} {kvs : List (Key × V)} {vs : List (Key × Value)} (z : kvs.length ≤ sizeLine) (hd : (a == sysModules) = false) (rel : KV kvs vs) (dd : h'.DictOf (mixKind P w) a vs) :
    ObjOk P w H' h' a (.dK kvs) := ⟨z, hd, vs, rel, dd⟩
/-- d[y] = v -/
theorem d_setItem {H' : Hp} {Q : Unit → Shared → Prop} (hu : A.units + 1 < cLine) (I : Inv X pins σ H s) (g : DPut H a y v H') (ry : RelV y u) (rv : RelV v r) (h : ∀ s', Inv X pins σ H' s' → Q () s') :
    wpAny (model X.prog X.w) A (setItem (.ref a) u r) Q E s := by
  rcases g with ⟨kvs, k, e, ey, l, eH⟩ | ⟨kvs, k, b, e, ey, eb, l, eH⟩
  · subst ey eH
    obtain ⟨z, hd, vs, rel, dd⟩ := dk_of I.hok e
    have hz : vs.length ≤ sizeLine := by rw [← rel.length]; exact z
    have hl : (putK kvs k v).length ≤ sizeLine := by have := length_putK kvs k v; omega
    refine wpAny_setItem_pairs (hsz := hz) (kV_is ry) dd fun h' dd' hs => h _ ?_
    have he : ∃ q, h'.get? a = some q := let ⟨q, _, _, hq, _⟩ := dd'; ⟨q, hq⟩
    exact d_write I (by rw [e]; exact True.intro) hs he (dk_new hl hd (rel.put k rv) dd')
  · subst ey eH
    cases (show u = Value.ref b from ry)
    obtain ⟨z, hd, xs, rel, dd⟩ := dt_of I.hok e
    have hz : xs.length ≤ sizeLine := by rw [← Paired.length rel]; exact z
    have hl : (putK kvs k v).length ≤ sizeLine := by have := length_putK kvs k v; omega
    refine wpAny_setItem_heap (hsz := hz) (tupleKind_room_in1 hu) (key_of I.hok eb) dd fun h' dd' hs => h _ ?_
    obtain ⟨q, es, ep, hq, h2, h3, h4, _, h5⟩ := dd'
    refine d_write I (by rw [e]; exact True.intro) hs ⟨q, hq⟩ ⟨hl, hd, _, (rel.put k eb rv).keeps fun c ys ec => ?_, q, es, ep, hq, h2, h3, h4, h5⟩
    rw [upd_ne (ne_of ec e (fun z => nomatch z))]
    exact ec
end

section
variable {X : Cx} {pins : List (Addr × Obj)} {σ : St} {H : Hp} {s : Shared} {a : Addr} {kvs : List (Key × V)} {k : Key} {u : Value} {A : Around} {E : Value → Shared → Prop}
end


/-- the element of a subscription, not a slice -/
def NoSl (i : Expr) : Prop := ∀ ov iv, subscripted i false ov iv = operate [ov, iv] (getItem ov iv)
theorem subD_of {prog : Program} {w : World} {A : Around} {E : Value → Shared → Prop} {s : Shared} {env : Env} {value slice : Expr} {pos : Pos} {T id : String} {Q : Value → Shared → Prop}
    (hl : typeLookup (.type T) "__getitem__" = pure (some (.builtin id))) (hs : NoSl slice)
    (h : wpAny (model prog w) A (eval value env) (fun o s₁ => wpAny (model prog w) A (eval slice env) (fun i s₂ => s₂.TypeIs o T ∧ wpAny (model prog w) A (getItem o i) Q E s₂) E s₁) E s) :
    wpAny (model prog w) A (eval (.Subscript value slice pos) env) Q E s := by
  refine Subscript_ (wpAny_mono h (fun o s₁ h₁ => wpAny_mono h₁ (fun i s₂ h₂ => ?_) fun _ _ x => x) fun _ _ x => x)
  obtain ⟨hT, h₂⟩ := h₂
  unfold subscriptTail
  refine wpAny_bind ?_
  rw [getitemInPython_of_ne hT.not_modules]
  refine wpAny_bind (wpAny_specialOf hT hl ?_)
  have fin : wpAny (model prog w) A (subscripted slice false o i) (fun r s₃ => wpAny (model prog w) A (letTemporaryGo value o r >>= fun _ => pure r) Q E s₃) E s₂ := by
    rw [hs o i]
    exact wpAny_operating (wpAny_mono h₂ (fun r s₃ h₃ => wpAny_bind (wpAny_letTemporaryGo (wpAny_pure h₃))) fun _ _ x => x)
  first
    | exact wpAny_pure (wpAny_bind fin)
    | exact wpAny_bind (wpAny_pure (wpAny_bind fin))
    | exact wpAny_bind fin

theorem dict_typeIs {X : Cx} {pins : List (Addr × Obj)} {σ : St} {H : Hp} {s : Shared} {a : Addr} {y : V} {o : Option V} (I : Inv X pins σ H s) (g : DGet H a y o) : s.TypeIs (.ref a) "dict" := by
  rcases g with ⟨kvs, k, e, _, _⟩ | ⟨kvs, k, b, e, _, _, _⟩
  · obtain ⟨_, _, vs, _, dd⟩ := dk_rd I.hok e
    exact dd.typeIs
  · obtain ⟨_, _, xs, _, dd⟩ := dt_rd I.hok e
    exact dd.typeIs
/-- d[y] -/
def tDGet (td ty : TE) : TE := fun σ H Q => td σ H fun x H1 => ty σ H1 fun y H2 => ∃ a v, x = .ref a ∧ DGet H2 a y (some v) ∧ Q v H2
/-- y in d, y not in d -/
def tDIn (ty td : TE) : TE := fun σ H Q => ty σ H fun y H1 => td σ H1 fun x H2 => ∃ a o, x = .ref a ∧ DGet H2 a y o ∧ Q (.bl o.isSome) H2
def tDNotIn (ty td : TE) : TE := fun σ H Q => ty σ H fun y H1 => td σ H1 fun x H2 => ∃ a o, x = .ref a ∧ DGet H2 a y o ∧ Q (.bl (!o.isSome)) H2
/-- d[y] = v -/
def sDPut (td ty tv : TE) : TS := fun D σ H => tv σ H fun v H1 => td σ H1 fun x H2 => ty σ H2 fun y H3 => ∃ a H4, x = .ref a ∧ DPut H3 a y v H4 ∧ D.nx σ H4
section
variable {X : Cx} {o i e value : Expr} {pos pos' tpos : Pos} {td ty tv : TE}
theorem pe_dget (hu : X.A.units + 1 < cLine) (ho : PE X o td) (hi : PE X i ty) (hs : NoSl i) : PE X (.Subscript o i pos) (tDGet td ty) := by
  intro pins s σ H Q I h
  refine subD_of PySem.F.slot_dict_getitem.lookup hs (thn (ho pins s σ H _ I h) fun u s1 ⟨x, H1, I1, rx, q1⟩ => thn (hi pins s1 σ H1 _ I1 q1) fun iv s2 ⟨y, H2, I2, ry, a, v, ex, g, q2⟩ => ?_)
  subst ex
  obtain rfl : u = Value.ref a := rx
  exact ⟨dict_typeIs I2 g, d_getItem hu I2 g ry fun w' s3 I3 rw' => ⟨v, H2, I3, rw', q2⟩⟩
theorem pc_din (hu : X.A.units + 1 < cLine) (hi : PE X i ty) (ho : PE X o td) : PC X .In i o (tDIn ty td) := by
  intro pins s σ H Q I h
  refine thn (hi pins s σ H _ I h) fun iv s1 ⟨y, H1, I1, ry, q1⟩ => thn (ho pins s1 σ H1 _ I1 q1) fun u s2 ⟨x, H2, I2, rx, a, ov, ex, g, q2⟩ => ?_
  subst ex
  obtain rfl : u = Value.ref a := rx
  exact d_in hu I2 g ry fun s3 I3 => ⟨.bl ov.isSome, H2, I3, rfl, q2⟩
theorem ps_dput (hu : X.A.units + 1 < cLine) (ho : PE X o td) (hi : PE X i ty) (hv : PE X value tv) (hs : swapsWith value (some (.Subscript o i pos')) pos.line X.env = pure false) :
    PS X (.Assign [.Subscript o i pos'] value pos) (sDPut td ty tv) := by
  intro pins s σ H D I h
  refine wpAny_Assign_Subscript (thn (hv pins s σ H _ I h) fun r s1 ⟨v, H1, I1, rv, q1⟩ => thn (ho pins s1 σ H1 _ I1 q1) fun u s2 ⟨x, H2, I2, rx, q2⟩ => thn (hi pins s2 σ H2 _ I2 q2) fun iv s3 ⟨y, H3, I3, ry, a, H4, ex, g, q3⟩ => ?_) hs
  subst ex
  obtain rfl : u = Value.ref a := rx
  exact d_setItem hu I3 g ry rv fun s4 I4 => ⟨σ, H4, I4, q3⟩
end


theorem dk_empty {P : Program} {w : World} {H : Hp} (h : Heap) (hb : sysModules < h.objs.size) : ObjOk P w H (h.push { cls := .type "dict", data := .dict #[] }) h.objs.size (.dK []) :=
  ⟨Nat.zero_le _, beq_eq_false_iff_ne.mpr (Ne.symm (Nat.ne_of_lt hb)), [], .nil, Heap.DictOf.new h⟩
/-- {}, to be a dict of the kind that is wanted -/
def tDNewK : TE := fun _ H Q => ∀ p, H p = none → Q (.ref p) (upd H p (.dK []))
section
variable {X : Cx} {pos : Pos}
theorem pe_dnewK : PE X (.Dict [] [] pos) tDNewK := fun pins s σ H Q I h =>
  wpAny_Dict_empty ⟨.ref s.heap.objs.size, _, I.laid (a := s.heap.objs.size) (o := .dK []) (t' := s.toks) (fun _ _ q => Heap.get?_push_of_some _ q) (Nat.le_refl _) (dk_empty s.heap I.big), rfl, h _ (I.hok.fresh (Nat.le_refl _))⟩
end

/-- the pairs of a display, from the left -/
def tPairs : List (TE × TE) → St → Hp → (List (V × V) → Hp → Prop) → Prop
  | [], _, H, Q => Q [] H
  | (tk, tv) :: r, σ, H, Q => tk σ H fun x H1 => tv σ H1 fun y H2 => tPairs r σ H2 fun ps H3 => Q ((x, y) :: ps) H3
def mergeK (kvs more : List (Key × V)) : List (Key × V) := more.foldl (fun acc kv => putK acc kv.1 kv.2) kvs
/-- {k: v, ..} with keys ints and texts; the new dict stands empty while the pairs are made -/
def tDisp (trs : List (TE × TE)) : TE := fun σ H Q => ∀ p, H p = none → tPairs trs σ (upd H p (.dK [])) fun ps H2 => H2 p = some (.dK []) ∧ ∃ kvs : List (Key × V), ps = kvs.map (fun kv => (kV kv.1, kv.2)) ∧ kvs.length ≤ 15 ∧ Q (.ref p) (upd H2 p (.dK (mergeK [] kvs)))
/-- a method call o.m(e) of a built-in, with one argument: what must be seen of the text -/
structure M1 (X : Cx) (o : Expr) (m : Str) (apos : Pos) (e : Expr) (cpos : Pos) : Prop where
  base : attributeBase o m X.env (eval o X.env) = eval o X.env
  few : ((backTo cpos (starEach [e] X.env)).all (fun x => !x.1) && (backToKw cpos (keywordEach [] X.env)).all (fun x => x.1.isSome)
    && decide (([e] : List Expr).length + ([] : List Keyword).length + (if ([] : List Keyword).isEmpty then 0 else 1) < 30)) = true
  line : (apos.endLine == cpos.line) = true
  trees : backTo cpos (starEach [e] X.env) = [(false, eval e X.env)]
structure M2 (X : Cx) (o : Expr) (m : Str) (apos : Pos) (e f : Expr) (cpos : Pos) : Prop where
  base : attributeBase o m X.env (eval o X.env) = eval o X.env
  few : ((backTo cpos (starEach [e, f] X.env)).all (fun x => !x.1) && (backToKw cpos (keywordEach [] X.env)).all (fun x => x.1.isSome)
    && decide (([e, f] : List Expr).length + ([] : List Keyword).length + (if ([] : List Keyword).isEmpty then 0 else 1) < 30)) = true
  line : (apos.endLine == cpos.line) = true
  trees : backTo cpos (starEach [e, f] X.env) = [(false, eval e X.env), (false, eval f X.env)]

section
variable {X : Cx} {pins : List (Addr × Obj)} {σ : St} {H : Hp} {s : Shared} {a : Addr} {y d : V} {u r : Value} {o : Option V} {A : Around} {E : Value → Shared → Prop}
end

section
variable {X : Cx} {o e f : Expr} {apos cpos : Pos} {td ty tx : TE}
end

section
variable {X : Cx} {pins : List (Addr × Obj)} {σ : St} {H : Hp} {s : Shared} {a : Addr} {kvs : List (Key × V)} {A : Around} {E : Value → Shared → Prop}
end


section
variable {X : Cx} {pins : List (Addr × Obj)} {σ : St} {H : Hp} {s : Shared} {a : Addr} {y : V} {u : Value} {A : Around} {E : Value → Shared → Prop}
end
end L2

namespace Att
open PySem PySem.W PySem.Calls PyProof.Rows

theorem ints_of_wellAll {P : Params} {h : Heap} : ∀ (ns : List Int) (vs : List Value), WellAll P h vs (ns.map WData.int) → IntsAre vs ns := by
  intro ns
  induction ns with
  | nil =>
    intro vs w
    rw [List.map_nil] at w
    cases w
    exact .nil
  | cons n ns ih =>
    intro vs w
    rw [List.map_cons] at w
    cases w with
    | cons a b =>
      cases a
      exact .cons _ _ (ih _ b)

theorem script_of {l : OpenLaw} {n : Nat} (hn : l.most = some n) {P : Params} {h : Heap} {args : List WData} {vals : List Value}
    (hpre : l.row.toRowW.claim.pre args = true) (hwl : WellAll P h vals args) :
    ∃ a vs ns, vals = [Value.ref a] ∧ args = [WData.list (ns.map WData.int)] ∧ h.get? a = some { cls := .type "list", data := .seq vs.toArray } ∧ IntsAre vs ns ∧ ns.length ≤ n := by
  have hsh : WShape.hasAll [] args [.list .int] = true := (pre_splitW hpre).1
  have hc : l.pre.holds [] { args := args } = true := (pre_splitW hpre).2
  obtain ⟨d, r, rfl, h1, h2⟩ := hasAllW_cons hsh
  obtain rfl := hasAllW_nil h2
  obtain ⟨xs, rfl, h3⟩ := hasW_list h1
  obtain ⟨ns, rfl⟩ := items_int h3
  have hlen : ns.length ≤ n := by
    unfold OpenLaw.pre at hc
    have h4 : (WTm.not (.lt (.lit (.int (n : Int))) (.len (.arg 0)))).holds [] { args := [.list (ns.map .int)] } = true := by
      have h4 := (holds_andW hc).1
      rw [hn] at h4
      exact h4
    have h5 := condW_of h4 (w_not (w_lt w_lit (w_len_list (w_arg rfl))))
    rw [List.length_map] at h5
    refine Nat.le_of_not_lt fun q => ?_
    have q' : (n : Int) < ((ns.length : Nat) : Int) := by omega
    first
      | (rw [decide_eq_true q'] at h5; exact absurd h5 (by decide))
      | (simp at h5; omega)
  cases hwl with
  | cons w1 w2 =>
    cases w2
    cases w1 with
    | list ho hall => exact ⟨_, _, ns, rfl, rfl, ho, ints_of_wellAll ns _ hall, hlen⟩

theorem post_true (l : OpenLaw) (args : List WData) : l.row.toRowW.claim.post args (.bool true) args = true :=
  postW_of (r := l.row.toRowW) (X := (true == true))
    (show WShape.has [] (.bool true) .bool = true by first | rfl | decide | simp [WShape.has, WShape.arms, WShape.armsAll])
    (show (WTm.eq .res (.lit (.bool true))).value [] { args := args, res := some (.bool true), after := args } = some (.bool (true == true)) from w_eq_bool (w_res rfl) w_lit) rfl

/-- the same from a codeAny of the CALL (for a layer whose function contracts speak of calls) -/
theorem attach_call {l : OpenLaw} {n : Nat} {q : Program} {loose : List Str} {XP : (Str → Option Value) → Heap → Prop} {YP : World → Heap → Prop} {d : DefRec}
    (hn : l.most = some n) (hdf : d.params.defaults = [])
    (call : ∀ (w : World) (s₀ s₁ : Shared) (mg mb : Str → Option Value) (fa : Addr) (o : Obj) (pm cd doc : Value) (a : Addr) (vs : List Value) (ns : List Int),
      Ground q loose [] XP w s₀ mg mb s₁.heap → YP w s₁.heap →
      s₁.heap.get? fa = some o → o.data = .func (docDef d.name d.params d.body d.scope pm cd doc) → s₁.heap.CodeRec cd d.name → mg d.name = some (.ref fa) →
      s₁.heap.get? a = some { cls := .type "list", data := .seq vs.toArray } → IntsAre vs ns → ns.length ≤ n → s₁.gens = #[] →
      codeAny (model l.prog w) callerA (.call (.ref fa) ⟨[.ref a], []⟩) (fun r s' => r = .ok (.ret (.bool true)) ∧ OldK s₁.heap s'.heap ∧ s'.os = s₁.os ∧ AllBare s'.gens) s₁) :
    WalkO q loose XP YP l.row.toRowW d [] (fun f vs => PySem.call f vs) := by
  intro w s₀ s₁ mg mb G Y fa o pm cd doc dV kV ho hd hcd hD hmg hg args vals as hpre hlay hrd hwl hlo
  obtain rfl : dV = .none := Dflts.none hD hdf
  obtain rfl : kV = .none := Dflts.noKw hD
  obtain ⟨a, vs, ns, rfl, rfl, hobj, hints, hlen⟩ := script_of hn hpre hwl
  refine enter_call (codeAny_mono (call w s₀ s₁ mg mb fa o pm cd doc a vs ns G Y ho (fd_plain hd) hcd hmg hobj hints hlen hg) fun r s' hq => ?_)
  obtain ⟨rfl, h2, h3, h4⟩ := hq
  exact ⟨.inl ⟨.bool true, .bool true, [], rfl, fun _ => rfl, .bool true, post_true l _, fun _ => ⟨List.Pairwise.nil, fun _ hm => (nomatch hm)⟩⟩, h2, h3, h4⟩

section
variable {prog : Program} {w : World} {A : Around} {E : Value → Shared → Prop} {s : Shared} {K : Frag}

end
end Att

namespace L2
open PySem PySem.Spec PyProof.Rows

theorem vals_ints : ∀ {vs : List Value} {ns : List Int}, IntsAre vs ns → Vals (ns.map V.int) vs
  | _, _, .nil => .nil
  | _, _, .cons n t h => .cons ⟨t, rfl⟩ (vals_ints h)

/-- nothing is tracked but the script, known to the object (or it is an object of the module) -/
def Only (H : Hp) : Prop := ∀ b, H b = none ∨ ∃ o xs, H b = some (.frz o (.lst xs))

/-- THE HEAD: the law's promise, at the heap behind the top. F, the promise of the law's def, may use that base is part of the heap (so K.In base, base.Ns mainGlobals mg stand in Mod) -/
theorem law_call {P : Program} {w : World} {K : PySem.W.Frag} {mg mb : Str → Option Value} {CX : CXT} {k : Nat} {fa a : Addr} {fd : FuncData} {x : Str} {sp : Sp} {s₁ : Shared} {vs : List Value} {ns : List Int}
    (KX : K.In s₁.heap) (hns : s₁.heap.Ns mainGlobals mg) (hb : s₁.heap.Ns builtinsNs mb) (hbb : ∀ x : Str, x ≠ "__name__" → mb x = bootBuiltins x) (hlim : s₁.heap.NoLimit) (hg : s₁.gens = #[])
    (ha : s₁.heap.get? a = some { cls := .type "list", data := .seq vs.toArray }) (hi : IntsAre vs ns) (hl : ns.length ≤ sizeLine) (hr : Room k callerA)
    (F : ∀ base : Heap, K.In base → base.Ns mainGlobals mg → FnOk P w K mg base CX k fa fd [x] sp) (hbind : ∀ (s : Shared) (u : Value), BindsTo s fd ⟨[u], []⟩ [(x, u)])
    (hsp : ∀ H : Hp, Only H → SqL K H a (ns.map V.int) → sp [.ref a] H (fun v _ => v = .bl true) fun _ _ _ => False)
    (hCX : ∀ H e s', CX [] H s₁ (fun _ _ _ => False) e s' → False) :
    codeAny (model P w) callerA (.call (.ref fa) ⟨[.ref a], []⟩) (fun r s' => r = .ok (.ret (.bool true)) ∧ OldK s₁.heap s'.heap ∧ s'.os = s₁.os ∧ AllBare s'.gens) s₁ := by
  have rv := vals_ints hi
  have lenV := hi.length
  -- from an abstract heap in which nothing but the script may be tracked
  have core : ∀ H : Hp, Only H → SqL K H a (ns.map V.int) → HOk P w H s₁.heap → (∀ b, H b ≠ none → b = a) → (H a ≠ none → K.lookup a = none) →
      codeAny (model P w) callerA (.call (.ref fa) ⟨[.ref a], []⟩) (fun r s' => r = .ok (.ret (.bool true)) ∧ OldK s₁.heap s'.heap ∧ s'.os = s₁.os ∧ AllBare s'.gens) s₁ := by
    intro H hO hS hok hA hK
    have base_of : ∀ {b : Addr} {o : Obj}, s₁.heap.get? b = some o → H b = none → (hidT s₁.heap H).get? b = some o := fun e n => hidT_get e n
    have noA : ∀ {b : Addr} {o : Obj} {es : Array DictEntry} {ep : Nat}, s₁.heap.get? b = some o → o.data = .dict es ep → H b = none := fun {b o es ep} e d => by
      cases q : H b with
      | none => rfl
      | some u =>
        have e' : b = a := hA b (by rw [q]; simp)
        subst e'
        rw [ha] at e; cases e
        have d' : Data.seq vs.toArray _ = Data.dict es ep := d
        cases d'
    have nsK : ∀ {b : Addr} {m : Str → Option Value}, s₁.heap.Ns b m → (hidT s₁.heap H).Ns b m := fun {b m} ⟨o, es, ep, e, d, r⟩ => ⟨o, es, ep, base_of e (noA e d), d, r⟩
    have hKb : K.In (hidT s₁.heap H) := fun b o e => base_of (KX b o e) (by
      cases q : H b with
      | none => rfl
      | some u =>
        have e' : b = a := hA b (by rw [q]; simp)
        subst e'
        rw [hK (by rw [q]; simp)] at e; cases e)
    have hM : Mod K mg (hidT s₁.heap H) := ⟨hKb, nsK hns, ⟨mb, nsK hb, hbb⟩, let ⟨mc, h1, h2⟩ := hlim; ⟨mc, nsK h1, h2⟩⟩
    have e0 : Env0 P w K mg (hidT s₁.heap H) callerA [] s₁ H := ⟨rfl, hM, fun b o e => of_hidT e, Nat.le_of_eq (hidT_size _ _), trivial, fun b hb => absurd (show b ∈ ([] : List Addr) from hb) (by simp), hok, .of_eq hg⟩
    refine codeAny_mono ((F _ hKb (nsK hns)).run callerA [] s₁ H ⟨[.ref a], []⟩ [.ref a] [.ref a] _ _ hr e0 (hbind s₁ (.ref a)) (.cons rfl .nil) (hsp H hO hS)) fun r s' h => ?_
    cases r with
    | error e => exact (hCX H e s' h).elim
    | ok fl =>
      cases fl with
      | next => exact False.elim h
      | brk => exact False.elim h
      | cont => exact False.elim h
      | ret u =>
        obtain ⟨v, H', os, bare, un, hok', r', q⟩ := h
        have q' : v = .bl true := q
        subst q'
        obtain rfl : u = Value.bool true := r'
        refine ⟨rfl, OldK.of_keep fun b o e => ?_, os, bare⟩
        cases q : H b with
        | none => exact un.keep b o e q (by intro z; exact absurd (show b ∈ ([] : List Addr) from z) (by simp)) (by simp)
        | some u =>
          rcases hO b with z | ⟨ob, xs, z⟩
          · rw [q] at z; cases z
          · have z2 := un.frzs b ob _ z
            obtain ⟨e1, _⟩ := hok b _ z
            obtain ⟨e2, _⟩ := hok' b _ z2
            rw [e] at e1; cases e1
            exact e2
  cases hk : K.lookup a with
  | some o =>
    -- the script is one of the module's own objects
    have e := KX a o hk
    rw [ha] at e
    cases e
    refine core (fun _ => none) (fun _ => .inl rfl) (.inr ⟨_, vs.toArray, _, hk, rfl, rfl, rfl, by rw [List.size_toArray, lenV]; exact hl, by simpa using rv⟩) (fun b u z => by have z' : (none : Option HO) = some u := z; cases z') (fun b z => absurd rfl z) fun z => absurd rfl z
  | none =>
    refine core (fun b => if b = a then some (.frz { cls := .type "list", data := .seq vs.toArray } (.lst (ns.map V.int))) else none) (fun b => ?_) (.inl (.inr ⟨{ cls := .type "list", data := .seq vs.toArray }, if_pos rfl⟩)) (fun b u z => ?_) (fun b z => ?_) fun _ => hk
    · by_cases hb : b = a
      · exact .inr ⟨_, _, if_pos hb⟩
      · exact .inl (if_neg hb)
    · by_cases hb : b = a
      · have z' := (if_pos hb).symm.trans z
        cases z'
        subst hb
        exact ⟨ha, by rw [List.length_map]; exact hl, vs, _, rv, ha⟩
      · have z' := (if_neg hb).symm.trans z
        cases z'
    · by_cases hb : b = a
      · exact hb
      · exact absurd (if_neg hb) z
end L2

namespace L2
open PySem PySem.Spec PyProof.Rows

abbrev KOf {K : PySem.W.Frag} {h : Heap} (_ : K.In h) : PySem.W.Frag := K

/-- the goal that k_head leaves (case hc), from the law's promise. F gives the function object fd (K's own) once, then the promise over every base -/
theorem walk_of {l : PySem.W.OpenLaw} {n k : Nat} {q : Program} {loose : List Str} {XP : (Str → Option Value) → Heap → Prop} {YP : World → Heap → Prop} {d : DefRec} {K : Params → PySem.W.Frag} {CX : World → CXT} {sp : World → Sp} {x : Str}
    (hn : l.most = some n) (hn2 : n ≤ sizeLine) (hdf : d.params.defaults = []) (hr : Room k callerA)
    (hY : ∀ (w : World) (h : Heap), YP w h → (K w.params).In h)
    (F : ∀ (w : World) (mg : Str → Option Value) (fa : Addr) (h : Heap), (K w.params).In h → h.Ns mainGlobals mg → mg d.name = some (.ref fa) →
      ∃ fd : FuncData, (∀ (s : Shared) (u : Value), BindsTo s fd ⟨[u], []⟩ [(x, u)]) ∧
        ∀ base : Heap, (K w.params).In base → base.Ns mainGlobals mg → FnOk l.prog w (K w.params) mg base (CX w) k fa fd [x] (sp w))
    (hsp : ∀ (w : World) (H : Hp) (a : Addr) (ns : List Int), ns.length ≤ n → Only H → SqL (K w.params) H a (ns.map V.int) → sp w [.ref a] H (fun v _ => v = .bl true) fun _ _ _ => False)
    (hCX : ∀ (w : World) (H : Hp) (s : Shared) (e : Value) (s' : Shared), CX w [] H s (fun _ _ _ => False) e s' → False) :
    PySem.W.WalkO q loose XP YP l.row.toRowW d [] (fun f vs => PySem.call f vs) := by
  refine Att.attach_call hn hdf fun w s₀ s₁ mg mb fa o pm cd doc a vs ns G Y ho hd hcd hmg hobj hints hlen hg => ?_
  have KX := hY w _ Y
  obtain ⟨fd, hb, hF⟩ := F w mg fa _ KX G.T.g hmg
  exact law_call KX G.T.g G.T.b G.T.builtins G.T.nolimit hg hobj hints (Nat.le_trans hlen hn2) hr hF hb (fun H hO hS => hsp w H a ns hlen hO hS) fun H e s' => hCX w H s₁ e s'
end L2


namespace L2
open PySem PySem.Spec PyProof.Rows

def defArgs (s : Stmt) : Arguments := match s with
  | .FunctionDef _ a _ _ _ _ _ _ _ _ => a
  | _ => { posonlyargs := [], args := [], vararg := none, kwonlyargs := [], kw_defaults := [], kwarg := none, defaults := [] }
def defBody (s : Stmt) : List Stmt := match s with
  | .FunctionDef _ _ b _ _ _ _ _ _ _ => b
  | _ => []
def defScope (s : Stmt) : Scope := match s with
  | .FunctionDef _ _ _ _ _ _ sc _ _ _ => sc
  | _ => { kind := .function, names := [], isGenerator := false, isCoroutine := false }

abbrev CX0 : CXT := fun _ _ _ _ _ _ => False
abbrev E0 : XK := fun _ _ _ => False
structure Fun (K : PySem.W.Frag) (x qual : Str) (st : Stmt) (f : Addr) (fd : FuncData) : Prop where
  ex : ∃ (oc : Value) (od : Option Addr) (kV doc pm : Value) (an : Option Addr) (cdv ct : Value) (osl : Array (Option Value)),
    fd = PySem.W.fnOf x qual (defArgs st) (defBody st) (defScope st) .none kV doc pm an cdv ct ∧ K.lookup f = some ⟨oc, od, .func fd, osl⟩ ∧ PySem.W.codeIn K cdv qual = true
  kp : PySem.W.keepIn K (.ref f) = true
section
variable {P : Program} {w : World} {K : PySem.W.Frag} {mg : Str → Option Value} {base : Heap}
/-- how its arguments bind (no defaults): h is «fun _ _ _ _ _ _ us hl => match us, hl with | [_, _], _ => rfl», one _ a parameter -/
theorem Fun.binds {x qual : Str} {st : Stmt} {f : Addr} {fd : FuncData} {ps : List Str} (F : Fun K x qual st f fd)
    (h : ∀ (kV doc pm : Value) (an : Option Addr) (cdv ct : Value) (us : List Value), us.length = ps.length → bindArgs (PySem.W.fnOf x qual (defArgs st) (defBody st) (defScope st) .none kV doc pm an cdv ct) ⟨us, []⟩ = pure (ps.zip us)) : Binds K fd ps [] := by
  obtain ⟨oc, od, kV, doc, pm, an, cdv, ct, osl, rfl, lk, hcd⟩ := F.ex
  exact .all (h kV doc pm an cdv ct)
theorem fun_mk {x qual : Str} {st : Stmt} {f : Addr} {oc : Value} {od an : Option Addr} {osl : Array (Option Value)} {kV doc pm cdv ct : Value} (l : K.lookup f = some ⟨oc, od, .func (PySem.W.fnOf x qual (defArgs st) (defBody st) (defScope st) .none kV doc pm an cdv ct), osl⟩)
    (c : PySem.W.codeIn K cdv qual = true) (k : PySem.W.keepIn K (.ref f) = true) : Fun K x qual st f (PySem.W.fnOf x qual (defArgs st) (defBody st) (defScope st) .none kV doc pm an cdv ct) := ⟨⟨oc, od, kV, doc, pm, an, cdv, ct, osl, rfl, l, c⟩, k⟩
end
theorem hu_of {A : Around} {k : Nat} (hr : Room k A) : A.units + 1 < cLine := Nat.lt_of_le_of_lt (Nat.add_le_add_left (by decide : 1 ≤ 64) _) hr.units
theorem small1000 {n : Nat} (h : n ≤ 1000) : n < sizeLine := Nat.lt_of_le_of_lt h (by decide)

section
variable {X : Cx}
theorem pv (i : Nat) {x : Str} {pos : Pos} (hN : X.N[i]? = some x := by rfl) (hv : Vis X.env.scope x := by first | exact Or.inl rfl | exact Or.inr (Or.inl rfl) | exact Or.inr (Or.inr rfl)) (hd : (x == ("__debug__" : Str)) = false := by decide)
    (hcd : (x == ("__classdict__" : Str)) = false := by decide) : PE X (.Name x pos) (tVar i) := pe_var hN hv hd hcd
end

theorem ite2 {c A B : Prop} [Decidable c] (h1 : c → A) (h2 : ¬ c → B) : if c then A else B := by
  by_cases h : c
  · rw [if_pos h]
    exact h1 h
  · rw [if_neg h]
    exact h2 h
/-- all that was tracked is as it was -/
def Same (H H' : Hp) : Prop := ∀ b o, H b = some o → H' b = some o
theorem Same.refl (H : Hp) : Same H H := fun _ _ h => h
theorem Same.trans {H H1 H2 : Hp} (a : Same H H1) (b : Same H1 H2) : Same H H2 := fun c o h => b c o (a c o h)
theorem Same.free {H H' : Hp} (e : Same H H') {l : Addr} (h : H' l = Option.none) : H l = Option.none := by
  cases q : H l with
  | none => rfl
  | some o =>
    rw [e l o q] at h
    cases h
theorem Same.seq {K : PySem.W.Frag} {H H' : Hp} {a : Addr} {xs : List V} (e : Same H H') (h : SqL K H a xs) : SqL K H' a xs := by
  rcases h with (h | ⟨o, h⟩) | h
  · exact .inl (.inl (e _ _ h))
  · exact .inl (.inr ⟨o, e _ _ h⟩)
  · exact .inr h

section
variable {κ : Type} [DecidableEq κ]
end
end L2


namespace L2
open PySem PySem.Spec PyProof.Rows

/-- the cells that a block takes along -/
def closOf (cells : List (Str × Addr)) : List (Str × NameKind) → List (Str × Addr) → List (Str × Addr)
  | [], acc => acc
  | y :: r, acc => closOf cells r (if y.2 == .free then (y.1, (cells.lookup y.1).getD 0) :: acc else acc)

theorem closOf_cons {cells : List (Str × Addr)} {y : Str × NameKind} {r : List (Str × NameKind)} {acc : List (Str × Addr)} : closOf cells (y :: r) acc = closOf cells r (if y.2 == .free then (y.1, (cells.lookup y.1).getD 0) :: acc else acc) := rfl
theorem clos_run {env : Env} (F : Str × NameKind → List (Str × Addr) → Sem (ForInStep (List (Str × Addr))))
    (hF : ∀ y c, F y c = if (y.2 == NameKind.free) = true then (cellOf env y.1 >>= fun a => pure (ForInStep.yield ((y.1, a) :: c))) else pure (ForInStep.yield c)) :
    ∀ (ns : List (Str × NameKind)) (acc : List (Str × Addr)), (∀ y ∈ ns, y.2 = .free → ∃ c, env.cells.lookup y.1 = some c) → forIn ns acc F = (pure (closOf env.cells ns acc) : Sem (List (Str × Addr)))
  | [], acc, _ => rfl
  | y :: r, acc, h => by
    rw [List.forIn_cons, hF]
    by_cases k : y.2 = NameKind.free
    · obtain ⟨c, hc⟩ := h y List.mem_cons_self k
      have hk : (y.2 == NameKind.free) = true := by rw [k]; rfl
      have e : cellOf env y.1 = pure c := by unfold cellOf; rw [hc]
      rw [if_pos hk, e]
      simp only [pure_bind]
      rw [clos_run F hF r _ fun z hz => h z (List.mem_cons_of_mem _ hz)]
      rw [closOf_cons, if_pos hk, hc]
      rfl
    · have hk : ¬ (y.2 == NameKind.free) = true := by simpa using k
      rw [if_neg hk]
      simp only [pure_bind]
      rw [clos_run F hF r _ fun z hz => h z (List.mem_cons_of_mem _ hz)]
      rw [closOf_cons, if_neg hk]

theorem clos_is {scope : Scope} {env : Env} (h : ∀ y ∈ scope.names, y.2 = .free → ∃ c, env.cells.lookup y.1 = some c) : closureFor scope env = pure (closOf env.cells scope.names []) := by
  unfold closureFor
  have q := clos_run (env := env) _ (fun y c => rfl) scope.names [] h
  simp only [bind_pure]
  exact q

theorem closOf_sub {cells : List (Str × Addr)} : ∀ {ns : List (Str × NameKind)} {acc : List (Str × Addr)}, (∀ y ∈ ns, y.2 = .free → ∃ c, cells.lookup y.1 = some c) →
    (∀ p ∈ acc, cells.lookup p.1 = some p.2) → ∀ p ∈ closOf cells ns acc, cells.lookup p.1 = some p.2
  | [], _, _, ha => ha
  | y :: r, acc, h, ha => by
    rw [closOf_cons]
    refine closOf_sub (fun z hz => h z (List.mem_cons_of_mem _ hz)) ?_
    split
    · rename_i k
      intro p hp
      rcases List.mem_cons.mp hp with rfl | hp
      · obtain ⟨c, hc⟩ := h y List.mem_cons_self (by simpa using k)
        show cells.lookup y.1 = some ((cells.lookup y.1).getD 0)
        rw [hc]; rfl
      · exact ha p hp
    · exact ha

theorem closOf_mono {cells : List (Str × Addr)} {p : Str × Addr} : ∀ {ns : List (Str × NameKind)} {acc : List (Str × Addr)}, p ∈ acc → p ∈ closOf cells ns acc
  | [], _, h => h
  | y :: r, acc, h => by
    rw [closOf_cons]
    refine closOf_mono ?_
    split
    · exact List.mem_cons_of_mem _ h
    · exact h

theorem closOf_has {cells : List (Str × Addr)} {x : Str} {c : Addr} (hc : cells.lookup x = some c) : ∀ {ns : List (Str × NameKind)} {acc : List (Str × Addr)}, (x, NameKind.free) ∈ ns → (x, c) ∈ closOf cells ns acc
  | y :: r, acc, h => by
    rw [closOf_cons]
    rcases List.mem_cons.mp h with e | h
    · subst e
      refine closOf_mono ?_
      rw [if_pos (show ((x, NameKind.free).2 == NameKind.free) = true from rfl)]
      show (x, c) ∈ (x, (cells.lookup x).getD 0) :: acc
      rw [hc]
      exact List.mem_cons_self
    · exact closOf_has hc h

theorem lookup_mem_some {x : Str} {c : Addr} : ∀ {l : List (Str × Addr)}, (x, c) ∈ l → ∃ d, l.lookup x = some d
  | p :: r, h => by
    rw [List.lookup_cons]
    cases e : x == p.1 with
    | true => exact ⟨_, rfl⟩
    | false =>
      rcases List.mem_cons.mp h with q | q
      · subst q; simp at e
      · exact lookup_mem_some q

/-- the block's scope against the def's: N' the block's names, π where a captured one stands among the def's -/
structure CompScope (osc : Scope) (N : List Str) (scope : Scope) (N' : List Str) (π : List (Option Nat)) : Prop where
  ok : osc.kind = .function
  kind : scope.kind = .function
  nocell : ∀ y ∈ scope.names, y.2 ≠ .cell
  loc : ∀ y ∈ scope.names, y.2 = .local → scope.names.lookup y.1 = some .local
  fr : ∀ y ∈ scope.names, y.2 = .free → osc.names.lookup y.1 = some .cell
  nd : N'.Nodup
  len : π.length = N'.length
  cap : ∀ (i j : Nat) (x : Str), N'[i]? = some x → π[i]? = some (some j) → N[j]? = some x ∧ scope.names.lookup x = some .free

def capt (π : List (Option Nat)) (σ : St) : St := π.map fun o => o.bind fun j => (σ[j]?).join

/-- the block's context -/
def cxComp (X : Cx) (N' : List Str) (scope : Scope) (s : Shared) (H : Hp) (C : Addr) (fp : List Addr) (pn : List (Addr × Obj)) : Cx where
  prog := X.prog
  w := X.w
  K := X.K
  mg := X.mg
  base := X.base
  A := X.A
  N := N'
  s₀ := s
  H₀ := H
  env := compEnvC scope (closOf X.env.cells scope.names []) C X.env
  outer := X.stack
  stack := X.stack
  ex := fp
  fn := fun _ => false
  calm := X.calm
  pn := X.pn ++ pn
  xe := fun _ _ => False

theorem relabel_free {env : Env} {x : Str} (hf : env.scope.kind = .function) (hx : env.scope.names.lookup x = some .cell) : ∀ {ns : List (Str × NameKind)}, ns.lookup x = some .free →
    (ns.map fun y => if (y.2 == NameKind.free && env.scope.kind == .function && env.kindOf y.1 == some .cell) then (y.1, NameKind.cell) else (y.1, y.2)).lookup x = some .cell
  | [], h => by simp at h
  | y :: r, h => by
    rw [List.lookup_cons] at h
    rw [List.map_cons, List.lookup_cons]
    have hx' : env.kindOf x = some .cell := hx
    cases e : x == y.1 with
    | true =>
      rw [e] at h
      have en : x = y.1 := by simpa using e
      have hk : y.2 = .free := by simpa using h
      rw [hk, hf, ← en, hx']
      simp
    | false =>
      rw [e] at h
      have ih := relabel_free hf hx h
      by_cases q : (y.2 == NameKind.free && env.scope.kind == .function && env.kindOf y.1 == some .cell) = true
      · rw [if_pos q]
        simp only [e]
        exact ih
      · rw [if_neg q]
        simp only [e]
        exact ih

section
variable {X : Cx} {scope : Scope} {N' : List Str} {π : List (Option Nat)} {pins : List (Addr × Obj)} {σ : St} {H : Hp} {s : Shared} {fp : List Addr}

theorem capt_get {π : List (Option Nat)} {σ : St} {i : Nat} {v : V} (h : (capt π σ)[i]? = some (some v)) : ∃ j, π[i]? = some (some j) ∧ σ[j]? = some (some v) := by
  unfold capt at h
  rw [List.getElem?_map] at h
  cases e : π[i]? with
  | none => rw [e] at h; cases h
  | some o =>
    rw [e] at h
    cases o with
    | none => cases h
    | some j =>
      refine ⟨j, rfl, ?_⟩
      have h' : (σ[j]?).join = some v := Option.some.inj h
      cases q : σ[j]? with
      | none => rw [q] at h'; cases h'
      | some u => rw [q] at h'; exact congrArg some h'

/-- the block begins -/
theorem comp_start (S : CompScope X.env.scope X.N scope N' π) (hX : X.calm = true) (I : Inv X pins σ H s) (hf : ∀ b ∈ fp, FpOk X pins H b) (hfo : ∀ b ∈ fp, ∃ o, s.heap.get? b = some o) {h1 : Heap} {tk : Nat} {C : Addr} {m : Str → Option Value}
    (hk : ∀ b o, s.heap.get? b = some o → h1.get? b = some o) (hC : s.heap.objs.size ≤ C) (hn : h1.Ns C m) : Inv (cxComp X N' scope s H C fp pins) [] (capt π σ) H { s with heap := h1, toks := tk } := by
  have hfr : ∀ y ∈ scope.names, y.2 = .free → ∃ c, X.env.cells.lookup y.1 = some c := fun y hy k => I.ok.has y.1 (.inl (S.fr y hy k))
  have sub : ∀ x c, (closOf X.env.cells scope.names []).lookup x = some c → X.env.cells.lookup x = some c := fun x c e =>
    closOf_sub hfr (fun p hp => absurd hp (by simp)) _ (PySem.mem_of_lookup e)
  have stk := I.stkSub
  have nC : ∀ b o, s.heap.get? b = some o → b ≠ C := fun b o e => Nat.ne_of_lt (Nat.lt_of_lt_of_le (Heap.lt_size e) hC)
  have nofr : ∀ b, b ∈ fp → b ∉ frs X.stack := fun b hb z => by
    rcases List.mem_cons.mp (stk b z) with e | e
    · exact (hf b hb).2.1 e
    · exact (hf b hb).2.2.1 e
  refine ⟨⟨I.ok.mod, S.kind, I.ok.glob, I.ok.blt, hC, fun x y c e1 e2 => I.ok.inj x y c (sub _ _ e1) (sub _ _ e2), fun x hx => ?_, fun x c z => absurd z Bool.false_ne_true, fun _ => I.ok.hd hX, I.ok.frames, .inl rfl,
    fun b hb => ⟨fun e => ?_, fun x c e q => (hf b hb).2.2.2.2.1 x c (sub _ _ e) q⟩, fun b o e => I.bs b o e, Nat.le_trans I.ok.bsz I.sz, fun b o e hb => ?_, fun b hb => nofr b hb, I.stack, I.stkFree⟩, rfl, I.bare, Un.kept hk, ⟨m, hn, fun i x v e1 e2 e3 => ?_⟩, fun x c e => ?_, I.hok.fresh hC, fun x c e => I.freeC x c (sub _ _ e), fun p hp => ?_, I.hok.kept hk, ?_⟩
  · -- the cells are there
    have hx : (relabel scope X.env).names.lookup x = some .cell ∨ (relabel scope X.env).names.lookup x = some .free := hx
    have hmem : ∀ k, (relabel scope X.env).names.lookup x = some k → ∃ k', (x, k') ∈ scope.names ∧ (k = k' ∨ (k = .cell ∧ k' = .free)) := fun k e => by
      have := PySem.mem_of_lookup e
      obtain ⟨⟨n, k'⟩, hm, q⟩ := List.mem_map.mp this
      dsimp only at q
      split at q
      · rename_i z
        injection q with q1 q2
        subst q1
        refine ⟨k', hm, .inr ⟨q2.symm, ?_⟩⟩
        simp only [Bool.and_eq_true, beq_iff_eq] at z
        exact z.1.1
      · injection q with q1 q2
        subst q1
        exact ⟨k', hm, .inl q2.symm⟩
    have hfree : (x, NameKind.free) ∈ scope.names := by
      rcases hx with e | e
      · obtain ⟨k', hm, q | ⟨_, q⟩⟩ := hmem _ e
        · subst q; exact absurd rfl (S.nocell _ hm)
        · subst q; exact hm
      · obtain ⟨k', hm, q | ⟨q, _⟩⟩ := hmem _ e
        · subst q; exact hm
        · cases q
    obtain ⟨c, hc⟩ := hfr _ hfree rfl
    exact lookup_mem_some (closOf_has hc hfree)
  · obtain ⟨o, e'⟩ := hfo b hb
    exact nC b o e' e
  · rcases (hf b hb).2.2.2.1 with z | z
    · exact I.ok.noex b o e z
    · exact absurd (Heap.lt_size (I.ok.bs b o e).1) (Nat.not_lt.mpr z)
  · obtain ⟨j, e4, e5⟩ := capt_get e2
    obtain ⟨hN, hfree⟩ := S.cap i j x e1 e4
    have hcell := S.fr _ (PySem.mem_of_lookup hfree) rfl
    obtain ⟨m0, hn0, hl0⟩ := I.loc
    obtain ⟨u, ru, q⟩ := hl0 j x v hN e5 (.inr (.inl hcell))
    refine ⟨u, ru, ?_⟩
    rcases q with ⟨k, _⟩ | ⟨_, c, hc, z⟩
    · have k' : X.env.scope.names.lookup x = some .local := k
      rw [hcell] at k'
      cases k'
    · obtain ⟨d, hd⟩ := lookup_mem_some (closOf_has hc (PySem.mem_of_lookup hfree) (acc := []))
      have e6 := sub _ _ hd
      rw [hc] at e6
      cases e6
      exact .inr ⟨.inl (relabel_free S.ok hcell hfree), c, hd, z.keeps hk⟩
  · obtain ⟨v, z⟩ := I.cell x c (sub _ _ e)
    exact ⟨v, z.keeps hk⟩
  · have hp' : p ∈ X.pn ++ pins := by
      rcases List.mem_append.mp hp with z | z
      · exact z
      · cases z
    obtain ⟨e, n, ne, nf, d⟩ := I.pin p hp'
    refine ⟨hk _ _ e, n, nC _ _ e, fun z => ?_, d⟩
    rcases List.mem_cons.mp (stk _ z) with q | q
    · exact ne q
    · exact nf q
  · show (capt π σ).length = N'.length
    unfold capt
    rw [List.length_map, S.len]

/-- a list that no one tracked is tracked -/
theorem hok_lst {P : Program} {w : World} {h : Heap} {D : Addr} {ys : List V} {its : List Value} {n : Nat} (ok : HOk P w H h) (hD : H D = none) (ho : h.get? D = some { cls := .type "list", data := .seq its.toArray n })
    (r : Vals ys its) (hz : ys.length ≤ sizeLine) : HOk P w (upd H D (.lst ys)) h := by
  intro b ob e
  have ne : ∀ c u, H c = some u → c ≠ D := fun c u q z => by rw [z, hD] at q; cases q
  by_cases hb : b = D
  · subst hb
    rw [upd_same] at e
    cases e
    exact ⟨hz, its, n, r, ho⟩
  · rw [upd_ne hb] at e
    exact (ok b ob e).stay (fun _ _ _ q => q) (fun c q => by rw [upd_ne (ne _ _ q)]; exact q) fun c xs q => by rw [upd_ne (ne _ _ q)]; exact q

/-- the block's end, its list tracked -/
theorem comp_end (I : Inv X pins σ H s) (hf : ∀ b ∈ fp, FpOk X pins H b) {C D : Addr} {pins' : List (Addr × Obj)} {σ' : St} {H' : Hp} {s' : Shared} (J : Inv (cxComp X N' scope s H C fp pins) pins' σ' H' s')
    (hD : H' D = none) (hDs : s.heap.objs.size ≤ D) {ys : List V} {its : List Value} {n : Nat} (ho : s'.heap.get? D = some { cls := .type "list", data := .seq its.toArray n }) (r : Vals ys its) (hz : ys.length ≤ sizeLine) :
    Inv X pins σ (upd H' D (.lst ys)) s' := by
  have nD : ∀ b o, s.heap.get? b = some o → b ≠ D := fun b o e => Nat.ne_of_lt (Nat.lt_of_lt_of_le (Heap.lt_size e) hDs)
  have ne : ∀ c u, H' c = some u → c ≠ D := fun c u q z => by rw [z, hD] at q; cases q
  have u : Un (frs X.stack) fp H H' s.heap s'.heap := J.base
  refine I.call' (ch := fp) J.os ⟨u.keep, u.slot, fun b o e h1 h2 => ?_, u.there, fun b xs q => ?_, fun b o v q => ?_, fun b ps q => ?_⟩ (hok_lst J.hok hD ho r hz) J.bare fun b hb => ⟨(hf b hb).2.2.2.1, (hf b hb).2.1, (hf b hb).2.2.2.2.1, (hf b hb).2.2.2.2.2⟩
  · rw [upd_ne (nD b o e)]
    exact u.free b o e h1 h2
  · have z := u.tups b xs q
    rw [upd_ne (ne _ _ z)]; exact z
  · have z := u.frzs b o v q
    rw [upd_ne (ne _ _ z)]; exact z
  · obtain ⟨more, z⟩ := u.tbls b ps q
    exact ⟨more, by rw [upd_ne (ne _ _ z)]; exact z⟩
end

/-- the tests of a clause -/
def PIfs (X : Cx) (ifs : List Expr) (t : TT) : Prop :=
  ∀ (pins : List (Addr × Obj)) (s : Shared) (σ : St) (H : Hp) (Q : Bool → Hp → Prop), Inv X pins σ H s → t σ H Q →
    wpAny (model X.prog X.w) X.A (forIn ifs true fun c r => if r = true then do let ok ← isTrue c X.env (eval c X.env); pure (ForInStep.yield ok) else pure (ForInStep.yield r)) (TP X pins σ Q) X.xe s
def tNoIf : TT := fun _ H Q => Q true H
theorem pifs_nil {X : Cx} : PIfs X [] tNoIf := fun _ _ _ H _ I h => wpAny_tests_nil ⟨H, I, h⟩
theorem comp_turns {prog : Program} {w : World} {A : Around} {R : Result → Shared → Prop} {s : Shared} {elt tg iter : Expr} {ifs : List Expr} {scope : Scope} {pos : Pos} {it acc : Value} {env : Env} (I : Nat → Shared → Prop)
    (turn : ∀ n s, I n s → wpAny (model prog w) A (pyNext it) (fun r s1 => match r with
      | none => R (.ok .next) s1
      | some v => wpAny (model prog w) A (letOwnedTupleGo tg it v) (fun _ s2 => wpAny (model prog w) A (assign tg env v) (fun _ s3 =>
          wpAny (model prog w) A (forIn ifs true fun c r => if r = true then do let ok ← isTrue c env (eval c env); pure (ForInStep.yield ok) else pure (ForInStep.yield r)) (fun ok s4 =>
            if ok = true then wpAny (model prog w) A (eval elt env) (fun x s5 => wpAny (model prog w) A (call (.builtin "list.append") [acc, x]) (fun _ s6 => ∃ m, m < n ∧ I m s6) (fun _ _ => False) s5) (fun _ _ => False) s4
            else ∃ m, m < n ∧ I m s4) (fun _ _ => False) s3) (fun _ _ => False) s2) (fun _ _ => False) s1) (fun _ _ => False) s)
    (n : Nat) (h : I n s) : codeAny (model prog w) A (.compLoop (.ListComp elt [⟨tg, iter, ifs, 0⟩] scope pos) 0 it acc env) R s := by
  refine codeAny_loop rfl I (fun n s hI => ?_) n h
  refine wpAny_noted (m := compTurn (.ListComp elt [⟨tg, iter, ifs, 0⟩] scope pos) 0 it acc env) ?_
  rw [compTurn_list]
  have no : ∀ {E : Value → Shared → Prop} (x : Value) (s : Shared), False → E x s := fun _ _ f => f.elim
  refine wpAny_bind (wpAny_standAt (wpAny_bind (wpAny_mono (turn n s hI) (fun r s1 h1 => ?_) no)))
  cases r with
  | none => exact wpAny_pure h1
  | some v =>
    refine wpAny_bind (wpAny_mono h1 (fun _ s2 h2 => ?_) no)
    refine wpAny_bind (wpAny_mono h2 (fun _ s3 h3 => ?_) no)
    refine wpAny_bind (wpAny_mono h3 (fun ok s4 h4 => ?_) no)
    cases ok with
    | false => exact wpAny_pure ⟨rfl, h4⟩
    | true =>
      refine wpAny_bind (wpAny_bind (wpAny_mono h4 (fun x s5 h5 => ?_) no))
      exact wpAny_bind (wpAny_mono h5 (fun _ s6 h6 => wpAny_pure (wpAny_pure ⟨rfl, h6⟩)) no)

/-- W: the turn, a measure, what is gathered, the block's names, the heap -/
def tComp (wi : TI) (π : List (Option Nat)) (g : TG) (tt : TT) (te : TE) : TE := fun σ H Q => wi σ H fun J H1 =>
  ∃ W : Nat → Nat → List V → St → Hp → Prop, (∃ m, W 0 m [] (capt π σ) H1) ∧ ∀ i m ys σ' H', W i m ys σ' H' →
    (J.stop i H' ∧ ∀ D, H' D = none → Q (.ref D) (upd H' D (.lst ys))) ∨
    (J.go i H' ∧ ys.length < sizeLine ∧ ∃ N : List V → St → Hp → Prop, (∀ ys' σ2 H2, N ys' σ2 H2 → ∃ m', m' < m ∧ W (i + 1) m' ys' σ2 H2) ∧ ∀ x H2, J.yld i H' x H2 → g x σ' H2 fun σ2 H3 => tt σ2 H3 fun c H4 =>
      if c = true then te σ2 H4 fun y H5 => N (ys ++ [y]) σ2 H5 else N ys σ2 H4)

section
variable {X : Cx} {scope : Scope} {N' : List Str} {π : List (Option Nat)} {tg iter elt : Expr} {ifs : List Expr} {pos : Pos} {wi : TI} {g : TG} {tt : TT} {te : TE}

/-- the block, from its iterator on: D its list, C its frame -/
theorem comp_block (S : CompScope X.env.scope X.N scope N' π) (hc : X.calm = true) {pins : List (Addr × Obj)} {σ : St} {Q : VK} {itv : Value} {s : Shared} {E : Value → Shared → Prop} {RR : Value → Addr → Result → Shared → Prop}
    (hg : ∀ s H C fp pn, PG (cxComp X N' scope s H C fp pn) tg g) (ht : ∀ s H C fp pn, PIfs (cxComp X N' scope s H C fp pn) ifs tt) (he : ∀ s H C fp pn, PE (cxComp X N' scope s H C fp pn) elt te)
    (h : PIE X pins σ tg (fun J H1 => ∃ W : Nat → Nat → List V → St → Hp → Prop, (∃ m, W 0 m [] (capt π σ) H1) ∧ ∀ i m ys σ' H', W i m ys σ' H' →
      (J.stop i H' ∧ ∀ D, H' D = none → Q (.ref D) (upd H' D (.lst ys))) ∨
      (J.go i H' ∧ ys.length < sizeLine ∧ ∃ N : List V → St → Hp → Prop, (∀ ys' σ2 H2, N ys' σ2 H2 → ∃ m', m' < m ∧ W (i + 1) m' ys' σ2 H2) ∧ ∀ x H2, J.yld i H' x H2 → g x σ' H2 fun σ2 H3 => tt σ2 H3 fun c H4 =>
        if c = true then te σ2 H4 fun y H5 => N (ys ++ [y]) σ2 H5 else N ys σ2 H4)) itv s)
    (hRR : ∀ D C s' H', Inv X pins σ H' s' → Q (.ref D) H' → (∃ m, s'.heap.Ns C m) → FpOk X pins H' C → RR (.ref D) C (.ok .next) s') :
    wpAny (model X.prog X.w) X.A (newList []) (fun acc s3 => wpAny (model X.prog X.w) X.A (newFunctionEnv scope X.env.globals (closOf X.env.cells scope.names []) [] X.env.qual none .none (some X.env)) (fun cenv s4 =>
      codeAny (model X.prog X.w) X.A (.compStart (.ListComp elt [⟨tg, iter, ifs, 0⟩] scope pos) 0 itv acc { cenv with scope := relabel scope X.env }) (RR acc cenv.locals) s4) E s3) E s := by
  obtain ⟨it, fp, tn, J, H2, e, I2, T, st2, f2, W, ⟨m0, w0⟩, turn⟩ := h
  subst e
  have fo := T.obj _ _ st2
  refine wpAny_newObj_type (wpAny_newFunctionEnv S.nocell (by intro y hy; cases hy) (fun h1 hns1 hsb1 => ?_) S.kind)
  dsimp only at hns1 hsb1 ⊢
  generalize hG : s.heap.push { cls := .type "list", dict := none, data := .seq ([] : List Value).toArray } = G at hns1 hsb1 ⊢
  have hGs : G.objs.size = s.heap.objs.size + 1 := by rw [← hG, Heap.size_push]
  have hDC : s.heap.objs.size ≠ G.objs.size := by rw [hGs]; exact Nat.ne_of_lt (Nat.lt_succ_self _)
  have ltG : ∀ b o, s.heap.get? b = some o → b ≠ G.objs.size := fun b o e => by rw [hGs]; exact Nat.ne_of_lt (Nat.lt_succ_of_lt (Heap.lt_size e))
  have leG : s.heap.objs.size ≤ G.objs.size := by rw [hGs]; exact Nat.le_succ _
  have old : ∀ b o, s.heap.get? b = some o → h1.get? b = some o := fun b o e =>
    (hsb1.2 b (ltG b o e)).trans (Heap.get?_push_of_some _ (hG ▸ Heap.get?_push_of_some _ e))
  have hacc : h1.get? s.heap.objs.size = some { cls := .type "list", data := .seq ([] : List Value).toArray } :=
    (hsb1.2 _ hDC).trans (Heap.get?_push_of_some _ (hG ▸ Heap.get?_push_size _ rfl))
  have I3 : Inv (cxComp X N' scope s H2 G.objs.size fp pins) [] (capt π σ) H2 { s with heap := h1, toks := s.toks + ([] : List (Str × Value)).length } :=
    comp_start S hc I2 f2 (fun b hb => let ⟨o, e, _⟩ := fo b hb; ⟨o, e⟩) old leG hns1
  have st3 : tn 0 h1 := T.keep _ _ _ st2 fun b _ o e => old b o e
  have dlt : ∀ b o, s.heap.get? b = some o → b ≠ s.heap.objs.size := fun b o e => Nat.ne_of_lt (Heap.lt_size e)
  have fpD : ∀ b ∈ fp, b ≠ s.heap.objs.size := fun b hb => let ⟨o, e, _⟩ := fo b hb; dlt b o e
  have celD : ∀ x c, (closOf X.env.cells scope.names []).lookup x = some c → c ≠ s.heap.objs.size ∧ ∀ b ∈ fp, c ≠ b := fun x c e => by
    have e1 := closOf_sub (fun y hy k => I2.ok.has y.1 (.inl (S.fr y hy k))) (fun p hp => absurd hp (by simp)) _ (PySem.mem_of_lookup e)
    obtain ⟨v, o, z, _⟩ := I2.cell x c e1
    exact ⟨dlt c o z, fun b hb => (f2 b hb).2.2.2.2.1 x c e1⟩
  have pnD : ∀ p ∈ X.pn ++ pins, p.1 ≠ s.heap.objs.size := fun p hp => dlt _ _ (I2.pin p hp).1
  have stkD : s.heap.objs.size ∉ frs X.stack := fun z => by
    obtain ⟨_, o, ho, _⟩ := I2.stack.mem z
    exact dlt _ _ ho rfl
  have fpS : ∀ b ∈ fp, b ∉ frs X.stack := fun b hb z => by
    rcases List.mem_cons.mp (I2.stkSub b z) with e | e
    · exact (f2 b hb).2.1 e
    · exact (f2 b hb).2.2.1 e
  have fpC : ∀ b ∈ fp, b ≠ G.objs.size := fun b hb => by
    obtain ⟨o, e, _⟩ := fo b hb
    exact ltG b o e
  -- the block's iterator, its list pinned
  have fpk : ∀ (ob : Obj) {H' : Hp}, (∀ b ∈ fp, H' b = none) → ∀ b ∈ fp, FpOk (cxComp X N' scope s H2 G.objs.size fp pins) [(s.heap.objs.size, ob)] H' b := fun ob H' hn b hb =>
    ⟨hn b hb, fpC b hb, fpS b hb, .inl hb, fun x c e => (celD x c e).2 b hb, fun p hp => by
      rcases List.mem_append.mp hp with z | z
      · exact (f2 b hb).2.2.2.2.2 p z
      · rw [List.mem_singleton.mp z]; exact (fpD b hb).symm⟩
  have pinD : ∀ {σ' : St} {H' : Hp} {s' : Shared} {its : List Value} {k : Nat}, Inv (cxComp X N' scope s H2 G.objs.size fp pins) [] σ' H' s' → H' s.heap.objs.size = none →
      s'.heap.get? s.heap.objs.size = some { cls := .type "list", data := .seq its.toArray k } → Inv (cxComp X N' scope s H2 G.objs.size fp pins) [(s.heap.objs.size, { cls := .type "list", data := .seq its.toArray k })] σ' H' s' :=
    fun {σ' H' s' its k} J hD ho => J.pins_of fun p hp => by
      rw [List.mem_singleton.mp hp]
      exact ⟨ho, hD, hDC, stkD, fun v z => by cases z⟩
  have main : codeAny (model X.prog X.w) X.A (.compLoop (.ListComp elt [⟨tg, iter, ifs, 0⟩] scope pos) 0 (.ref it) (.ref s.heap.objs.size) (compEnvC scope (closOf X.env.cells scope.names []) G.objs.size X.env)) (RR (.ref s.heap.objs.size) G.objs.size)
      { s with heap := h1, toks := s.toks + ([] : List (Str × Value)).length } := by
    refine comp_turns (fun n s' => ∃ i ys its k σ' H', Inv (cxComp X N' scope s H2 G.objs.size fp pins) [] σ' H' s' ∧ tn i s'.heap ∧ (∀ b ∈ fp, H' b = none) ∧ s'.heap.get? s.heap.objs.size = some { cls := .type "list", data := .seq its.toArray k } ∧ H' s.heap.objs.size = none ∧ Vals ys its ∧ ys.length ≤ sizeLine ∧ W i n ys σ' H') ?_ m0
      ⟨0, [], [], 0, capt π σ, H2, I3, st3, fun b hb => (f2 b hb).1, hacc, I2.hok.fresh (Nat.le_refl _), .nil, Nat.zero_le _, w0⟩
    rintro n s4 ⟨i, ys, its, k, σ4, H4, I4, st4, fr4, ho4, hD4, r4, z4, w4⟩
    have I4' := pinD I4 hD4 ho4
    rcases turn i n ys σ4 H4 w4 with ⟨stop, qn⟩ | ⟨go, hlen, N, hN, step⟩
    · refine thn (T.done (cxComp X N' scope s H2 G.objs.size fp pins) rfl rfl rfl hc i _ s4 σ4 H4 (fun _ _ => False) I4' (fpk _ fr4) st4 stop) fun r s5 ⟨hr, I5⟩ => ?_
      subst hr
      have p5 := I5.pin _ (List.mem_append_right _ (List.mem_singleton.mpr rfl))
      have I6 := comp_end I2 f2 I5 hD4 (Nat.le_refl _) p5.1 r4 z4
      refine hRR _ _ s5 _ I6 (qn _ hD4) (let ⟨m, hn, _⟩ := I5.loc; ⟨m, hn⟩) (I2.fpOk leG ?_)
      rw [upd_ne (Ne.symm hDC)]
      exact I5.free
    · refine thn (T.item (cxComp X N' scope s H2 G.objs.size fp pins) rfl rfl rfl hc i _ s4 σ4 H4 (fun _ _ => False) I4' (fpk _ fr4) st4 go) fun r s5 ⟨u, hr, h5⟩ => ?_
      subst hr
      refine thn h5 fun _ s6 ⟨x, H6, I6, r6, y6, st6, fr6⟩ => ?_
      have I6' := I6.pinned (fpk _ fr6) (T.obj _ _ st6)
      refine thn (hg _ _ _ _ _ _ s6 σ4 H6 x u _ I6' r6 (step x H6 y6)) fun _ s7 ⟨σ7, H7, I7, q7⟩ => ?_
      refine thn (ht _ _ _ _ _ _ s7 σ7 H7 _ I7 q7) fun ok s8 ⟨H8, I8, q8⟩ => ?_
      -- what stands behind the turn's code
      have rest : ∀ {s9 : Shared} {H9 : Hp}, Inv (cxComp X N' scope s H2 G.objs.size fp pins) ([(s.heap.objs.size, { cls := .type "list", data := .seq its.toArray k })] ++ pinsAt fp s6.heap) σ7 H9 s9 →
          s9.heap.get? s.heap.objs.size = some { cls := .type "list", data := .seq its.toArray k } ∧ H9 s.heap.objs.size = none ∧ (∀ b ∈ fp, ∀ o, s6.heap.get? b = some o → s9.heap.get? b = some o) ∧ ∀ b ∈ fp, H9 b = none := fun {s9 H9} I9 => by
        have p9 := I9.pin _ (List.mem_append_right _ (List.mem_append_left _ (List.mem_singleton.mpr rfl)))
        refine ⟨p9.1, p9.2.1, fun b hb o e => (I9.pin (b, o) (List.mem_append_right _ (List.mem_append_right _ (mem_pinsAt hb e)))).1, fun b hb => ?_⟩
        obtain ⟨o, e, _⟩ := T.obj _ _ st6 b hb
        exact (I9.pin (b, o) (List.mem_append_right _ (List.mem_append_right _ (mem_pinsAt hb e)))).2.1
      cases ok with
      | false =>
        obtain ⟨m', hm, w8⟩ := hN _ _ _ (show N ys σ7 H8 from q8)
        obtain ⟨a1, a2, a3, a4⟩ := rest I8
        exact ⟨m', hm, i + 1, ys, its, k, σ7, H8, I8.pins_of (fun p hp => by cases hp), T.keep _ _ _ st6 a3, a4, a1, a2, r4, z4, w8⟩
      | true =>
        refine thn (he _ _ _ _ _ _ s8 σ7 H8 _ I8 q8) fun y s9 ⟨v, H9, I9, r9, q9⟩ => ?_
        obtain ⟨m', hm, w9⟩ := hN _ _ _ q9
        obtain ⟨a1, a2, a3, a4⟩ := rest I9
        have hl : its.length = ys.length := r4.length.symm
        refine wpAny_list_append_plain (items := its.toArray) ⟨k, a1⟩ (fun h' hl' hs' => ?_) (by rw [List.size_toArray]; omega)
        obtain ⟨k', ho'⟩ := hl'
        have I10 : Inv (cxComp X N' scope s H2 G.objs.size fp pins) [] σ7 H9 { s9 with heap := h' } := (I9.pins_of (pins' := []) fun p hp => by cases hp).turned (t' := s9.toks) (it := s.heap.objs.size) (fun b o hb e => (hs'.2 b hb).trans e) a2 hDC (.inr (Nat.le_refl _))
          (fun x c e => (celD x c e).1) fun p hp => by
            rcases List.mem_append.mp hp with z | z
            · exact pnD p z
            · cases z
        refine ⟨m', hm, i + 1, ys ++ [v], its ++ [y], k', σ7, H9, I10, T.keep _ _ _ st6 fun b hb o e => (hs'.2 b (fpD b hb)).trans (a3 b hb o e), a4, ?_, a2, r4.append (.cons r9 .nil), by rw [List.length_append, List.length_singleton]; omega, w9⟩
        rw [show (its ++ [y]).toArray = its.toArray.push y by simp]
        exact ho'
  exact codeAny_compStart_list main (T.self _ 0 _ _ _ st3 main)

variable {spos pos' : Pos} {x : Str} {i : Nat}

theorem pe_comp (S : CompScope X.env.scope X.N scope N' π) (hc : X.calm = true) (hi : PI X tg iter wi) (hg : ∀ s H C fp pn, PG (cxComp X N' scope s H C fp pn) tg g) (ht : ∀ s H C fp pn, PIfs (cxComp X N' scope s H C fp pn) ifs tt)
    (he : ∀ s H C fp pn, PE (cxComp X N' scope s H C fp pn) elt te) (hs : ∀ x, foldedSetIterable iter X.env x = pure x := by intro _; rfl) : PE X (.ListComp elt [⟨tg, iter, ifs, 0⟩] scope pos) (tComp wi π g tt te) := by
  intro pins s σ H Q I h
  rw [eval_ListComp]
  refine wpAny_comprehension_free (use := none) rfl hs (clos_is fun y hy k => I.ok.has y.1 (.inl (S.fr y hy k))) S.kind S.loc (thn (hi pins s σ H _ I h) fun v s1 h1 => thn h1 fun itv s2 h2 => ?_)
  refine comp_block (RR := fun acc C => compPost (model X.prog X.w) X.A X.xe none (EP X pins σ Q) acc C) S hc hg ht he h2 fun D C s' H' I' q hn f => ?_
  obtain ⟨m, hn⟩ := hn
  exact ⟨m, hn, fun h' hs' => ⟨.ref D, H', I'.turned (t' := s'.toks) (it := C) (fun b o hb e => (hs'.2 b hb).trans e) f.1 f.2.1 f.2.2.2.1 f.2.2.2.2.1 f.2.2.2.2.2, rfl, q⟩⟩

/-- name = [..], the name a local of the def -/
theorem ps_setC (S : CompScope X.env.scope X.N scope N' π) (hc : X.calm = true) (hN : X.N.Nodup) (hix : X.N[i]? = some x) (hx : X.env.scope.names.lookup x = some .local) (hi : PI X tg iter wi) (hg : ∀ s H C fp pn, PG (cxComp X N' scope s H C fp pn) tg g)
    (ht : ∀ s H C fp pn, PIfs (cxComp X N' scope s H C fp pn) ifs tt) (he : ∀ s H C fp pn, PE (cxComp X N' scope s H C fp pn) elt te)
    (hsw : swapsWith (.ListComp elt [⟨tg, iter, ifs, 0⟩] scope pos) (some (.Name x pos')) spos.line X.env = pure true := by rfl) (hs : ∀ x, foldedSetIterable iter X.env x = pure x := by intro _; rfl) :
    PS X (.Assign [.Name x pos'] (.ListComp elt [⟨tg, iter, ifs, 0⟩] scope pos) spos) (tAsg (tComp wi π g tt te) (gName i)) := by
  intro pins s σ H D0 I h
  rw [exec_Assign_Name_used _ _ _ _ hsw]
  refine wpAny_bind (wpAny_standAt (wpAny_bind ?_))
  rw [arm_evalThenUse_ListComp]
  refine wpAny_bind (wpAny_mono (wpAny_comprehension_free (use := some (assign (.Name x pos') X.env)) (Q := fun _ s' => SP X pins D0 .next s') rfl hs (clos_is fun y hy k => I.ok.has y.1 (.inl (S.fr y hy k))) S.kind S.loc
    (thn (hi pins s σ H _ I h) fun v s1 h1 => thn h1 fun itv s2 h2 => ?_)) (fun _ s' hq => wpAny_pure (wpAny_pure hq)) fun _ _ e => e)
  refine comp_block (Q := fun x H1 => gName i x σ H1 D0.nx) (RR := fun acc C => compPost (model X.prog X.w) X.A X.xe (some (assign (.Name x pos') X.env)) (fun _ s' => SP X pins D0 .next s') acc C) S hc hg ht he h2 fun D C s' H' I' q hn f => ?_
  obtain ⟨m, hn⟩ := hn
  show wpAny _ _ (assign (.Name x pos') X.env (.ref D)) _ _ s'
  refine wpAny_assign_Name (store_ok2 I' hN hix (.inl hx) (v := .ref D) rfl (fun s'' I'' hch => ?_) (.inr hx))
  obtain ⟨a, hsb, ha⟩ := hch
  have haC : C ≠ a := by
    rcases ha with e | e
    · rw [e]; exact f.2.1
    · exact Ne.symm (f.2.2.2.2.1 x a e)
  refine ⟨m, hn.sameBut hsb haC, fun h' hs' => ⟨_, H', I''.turned (t' := s''.toks) (it := C) (fun b o hb e => (hs'.2 b hb).trans e) f.1 f.2.1 f.2.2.2.1 f.2.2.2.2.1 f.2.2.2.2.2, q⟩⟩
end
end L2

namespace L2
open PySem PySem.Spec PyProof.Rows

section
variable {X : Cx} {pins : List (Addr × Obj)} {σ : St} {H : Hp} {s : Shared} {h' : Heap} {ch : List Addr}

/-- records of ours have turned, and a tuple is laid behind the heap's end -/
theorem Inv.drew {T : Addr} {xs : List V} {its : List Value} {t' : Nat} (I : Inv X pins σ H s) (hf : ∀ b ∈ ch, FpOk X pins H b) (k : ∀ b o, b ∉ ch → s.heap.get? b = some o → h'.get? b = some o)
    (hT : s.heap.objs.size ≤ T) (r : Vals xs its) (ho : IsTup h' T its.toArray) (hz : xs.length ≤ sizeLine) : Inv X pins σ (upd H T (.tup xs)) { s with heap := h', toks := t' } := by
  have nT : ∀ b o, s.heap.get? b = some o → b ≠ T := fun b o e => Nat.ne_of_lt (Nat.lt_of_lt_of_le (Heap.lt_size e) hT)
  have hHT : H T = none := I.hok.fresh hT
  have ne : ∀ c u, H c = some u → c ≠ T := fun c u q z => by rw [z, hHT] at q; cases q
  have nch : ∀ c u, H c = some u → c ∉ ch := fun c u q z => by rw [(hf c z).1] at q; cases q
  refine I.step (g' := s.gens) (d' := s.drawn) (ch := ch) (fun b hb => ⟨(hf b hb).2.2.2.1, (hf b hb).2.1, (hf b hb).2.2.2.2.1, (hf b hb).2.2.2.2.2⟩) (fun b o _ _ hb e _ => k b o hb e) (fun b o _ _ hb e _ => ⟨o.slots, k b o hb e⟩)
    (fun b o hb e n => by rw [upd_ne (nT b o e)]; exact n) (fun b o hb e => ⟨o, k b o hb e⟩) (fun b ys q => by rw [upd_ne (ne _ _ q)]; exact q) (fun b o u q => by rw [upd_ne (ne _ _ q)]; exact q)
    (fun b ps q => ⟨#[], by rw [upd_ne (ne _ _ q)]; simpa using q⟩) (fun m hn => hn.at fun o e => k _ o (fun z => (hf _ z).2.1 rfl) e) ?_ I.bare
  intro b ob e
  by_cases hb : b = T
  · subst hb
    rw [upd_same] at e
    cases e
    exact ⟨hz, its, r, ho⟩
  · rw [upd_ne hb] at e
    refine (I.hok b ob e).stay (fun c u hc q => k c u ?_ q) (fun c q => by rw [upd_ne (ne _ _ q)]; exact q) fun c ys q => by rw [upd_ne (ne _ _ q)]; exact q
    rcases hc with rfl | hc
    · exact nch _ _ e
    · exact nch _ _ hc

/-- records of ours have turned -/
theorem Inv.turnedL {t' : Nat} (I : Inv X pins σ H s) (hf : ∀ b ∈ ch, FpOk X pins H b) (k : ∀ b o, b ∉ ch → s.heap.get? b = some o → h'.get? b = some o) : Inv X pins σ H { s with heap := h', toks := t' } := by
  have nch : ∀ c u, H c = some u → c ∉ ch := fun c u q z => by rw [(hf c z).1] at q; cases q
  refine I.step (g' := s.gens) (d' := s.drawn) (ch := ch) (fun b hb => ⟨(hf b hb).2.2.2.1, (hf b hb).2.1, (hf b hb).2.2.2.2.1, (hf b hb).2.2.2.2.2⟩) (fun b o _ _ hb e _ => k b o hb e) (fun b o _ _ hb e _ => ⟨o.slots, k b o hb e⟩)
    (fun b o hb e n => n) (fun b o hb e => ⟨o, k b o hb e⟩) (fun b ys q => q) (fun b o u q => q) (fun b ps q => ⟨#[], by simpa using q⟩) (fun m hn => hn.at fun o e => k _ o (fun z => (hf _ z).2.1 rfl) e) ?_ I.bare
  intro b ob e
  refine (I.hok b ob e).stay (fun c u hc q => k c u ?_ q) (fun c q => q) fun c ys q => q
  rcases hc with rfl | hc
  · exact nch _ _ e
  · exact nch _ _ hc
end

/-- the pairs of a list with their places -/
def Ite (K : PySem.W.Frag) (a : Addr) : It :=
  ⟨fun i H => ∃ xs x, SqL K H a xs ∧ xs[i]? = some x, fun i H x H' => ∃ T v, x = .ref T ∧ H T = none ∧ H' = upd H T (.tup [.int i, v]) ∧ ∀ xs, SqL K H a xs → xs[i]? = some v, fun i H => ∃ xs, SqL K H a xs ∧ xs.length ≤ i⟩

theorem turn_enum {P : Program} {w : World} {K : PySem.W.Frag} {elts : List Expr} {x1 : Nat} {tp : Pos} (a e it : Addr) (hei : e ≠ it) :
    Turn P w K (.Tuple elts x1 tp) (Ite K a) [e, it] e (fun i h => (∃ old, IsEnum h e it i old) ∧ h.IsListIter it a i) where
  mem := by simp
  obj := fun i h st b hb => by
    obtain ⟨⟨old, he⟩, o, ho, _, hd⟩ := st
    rcases List.mem_cons.mp hb with q | q
    · subst q
      exact ⟨_, he, fun v z => by cases z⟩
    · rw [List.mem_singleton.mp q]
      exact ⟨o, ho, fun v z => by rw [hd] at z; cases z⟩
  keep := fun i h h' st k => by
    obtain ⟨⟨old, he⟩, hit⟩ := st
    exact ⟨⟨old, k e (by simp) _ he⟩, hit.at fun o q => k it (by simp) o q⟩
  item := by
    intro X hP hw hK hc i pins s σ H E I hf st hg
    subst hP hw hK
    obtain ⟨⟨old, he⟩, hit⟩ := st
    obtain ⟨xs, x, hq, hx⟩ := hg
    obtain ⟨its, rv, p, hz⟩ := I.list hq
    obtain ⟨u, hu, ru⟩ := rv.get hx
    refine wpAny_pyNext_enum_item he hit p.isList (x := u) (by simpa using hu) hei fun h1 ho hit1 hT hsz hk => ?_
    have I1 : Inv X pins σ (upd H s.heap.objs.size (.tup [.int i, x])) { s with heap := h1, toks := s.toks + 1 } :=
      I.drew (ch := [e, it]) hf (fun b o hb q => hk b o (fun z => hb (by simp [z])) (fun z => hb (by simp [z])) q) (Nat.le_refl _) (its := [.int i s.toks, u]) (.cons ⟨_, rfl⟩ (.cons ru .nil)) ⟨_, hT, rfl, _, rfl⟩ (by show 2 ≤ sizeLine; decide)
    have hTn : H s.heap.objs.size = none := I.hok.fresh (Nat.le_refl _)
    have heT : e ≠ s.heap.objs.size := Nat.ne_of_lt (Heap.lt_size he)
    have hiT : it ≠ s.heap.objs.size := by obtain ⟨o, q, _⟩ := hit; exact Nat.ne_of_lt (Heap.lt_size q)
    refine ⟨_, rfl, wpAny_letOwnedTupleGo_enum ho fun h2 he2 hs2 => ?_⟩
    have f1 := hf e (by simp)
    have I2 : Inv X pins σ (upd H s.heap.objs.size (.tup [.int i, x])) { s with heap := h2, toks := s.toks + 1 } :=
      Inv.turned (s := { s with heap := h1, toks := s.toks + 1 }) I1 (t' := s.toks + 1) (it := e) (fun b o hb q => (hs2.2 b hb).trans q) (by rw [upd_ne heT]; exact f1.1) f1.2.1 f1.2.2.2.1 f1.2.2.2.2.1 f1.2.2.2.2.2
    refine ⟨.ref s.heap.objs.size, _, I2, rfl, ⟨_, x, rfl, hTn, rfl, fun ys hy => by rw [I.list_inj hy hq]; exact hx⟩, ⟨⟨_, by simpa using he2⟩, hit1.at fun o q => (hs2.2 it hei.symm).trans q⟩, fun b hb => ?_⟩
    rcases List.mem_cons.mp hb with q | q
    · rw [q, upd_ne heT]; exact f1.1
    · rw [List.mem_singleton.mp q, upd_ne hiT]; exact (hf it (by simp)).1
  done := by
    intro X hP hw hK hc i pins s σ H E I hf st hg
    subst hP hw hK
    obtain ⟨⟨old, he⟩, hit⟩ := st
    obtain ⟨xs, hq, hx⟩ := hg
    obtain ⟨its, rv, p, hz⟩ := I.list hq
    have hl := rv.length
    obtain ⟨f0, f1, f2, f3, f4, f5⟩ := hf it (by simp)
    exact wpAny_pyNext_enum_end (I.ok.hd hc) he hit p.isList (by simp; omega) fun h1 eb => ⟨rfl, I.turned (t' := s.toks) (fun b o hb q => eb b o hb q) f0 f1 f3 f4 f5⟩
  self := fun _ _ _ _ _ st h => by
    obtain ⟨⟨old, he⟩, _⟩ := st
    exact wpAny_pyIter_enum he h

/-- the pairs of two lists -/
def Itz (K : PySem.W.Frag) (a b : Addr) : It :=
  ⟨fun i H => ∃ xs ys x y, SqL K H a xs ∧ SqL K H b ys ∧ xs[i]? = some x ∧ ys[i]? = some y,
   fun i H x H' => ∃ T v w, x = .ref T ∧ H T = none ∧ H' = upd H T (.tup [v, w]) ∧ (∀ xs, SqL K H a xs → xs[i]? = some v) ∧ ∀ ys, SqL K H b ys → ys[i]? = some w,
   fun i H => ∃ xs ys, SqL K H a xs ∧ SqL K H b ys ∧ (xs.length ≤ i ∨ ys.length ≤ i)⟩

section
variable {X : Cx}
def iEnum (K : PySem.W.Frag) (ta : TA) : TI := fun σ H R => ta σ H fun vs H1 => ∃ a, vs = [.ref a] ∧ (∃ xs, SqL K H1 a xs) ∧ R (Ite K a) H1
theorem pi_enum {a : Expr} {ta : TA} {p pos tp : Pos} {elts : List Expr} {x1 : Nat} (hg : Gl X "enumerate") (hm : X.mg "enumerate" = none) (ha : PA X [a] ta) (hs : starEach [a] X.env = [(false, eval a X.env)] := by rfl) :
    PI X (.Tuple elts x1 tp) (.Call (.Name "enumerate" p) [a] [] pos) (iEnum X.K ta) := by
  intro pins s σ H R I h
  refine Call_ (ld_blt I hg hm boot_enumerate (PyProof.Rows.callWith_type1 (thn (ha pos pins s σ H _ I h) fun us s1 ⟨vs, H1, I1, r1, q1⟩ => ?_) hs rfl))
  obtain ⟨l, ev, ⟨xs, hq⟩, q⟩ := q1
  subst ev
  obtain ⟨u, rfl, ru⟩ := vals1 r1
  cases ru
  obtain ⟨its, rv, pl, hz⟩ := I1.list hq
  refine call_enumerate_list pl.isList fun h1 he hit hsz hk => ?_
  refine wpAny_pyIter_enum he ?_
  have I2 : Inv X pins σ H1 { s1 with heap := h1 } := I1.kept (t' := s1.toks) hk
  refine ⟨s1.heap.objs.size + 1, [s1.heap.objs.size + 1, s1.heap.objs.size], _, _, H1, rfl, I2, turn_enum l _ _ (Nat.succ_ne_self _), ⟨⟨_, he⟩, hit⟩, fun b hb => ?_, q⟩
  rcases List.mem_cons.mp hb with e | e
  · subst e
    exact I1.fpOk (Nat.le_succ _) (I1.hok.fresh (Nat.le_succ _))
  · rw [List.mem_singleton.mp e]
    exact I1.fpOk (Nat.le_refl _) (I1.hok.fresh (Nat.le_refl _))
end

theorem nolist (T : String) (h : T ≠ "list") : Value.type T = .type "list" → False := fun e => h (by injection e)
theorem nA {a b : Nat} (h : a < b ∨ b < a) : a ≠ b := by omega
theorem turn_zip {P : Program} {w : World} {K : PySem.W.Frag} {elts : List Expr} {x1 : Nat} {tp : Pos} (a b : Addr) (n : Nat) :
    Turn P w K (.Tuple elts x1 tp) (Itz K a b) [n + 4, n + 2, n + 3, n, n + 1] (n + 4)
      (fun i h => IsZip h (n + 4) (n + 2) (n + 3) .none ∧ IsPair h (n + 2) (.ref n) (.ref (n + 1)) ∧ (∃ u v, IsPair h (n + 3) u v) ∧ h.IsListIter n a i ∧ h.IsListIter (n + 1) b i) where
  mem := by simp
  obj := fun i h st c hc => by
    obtain ⟨h1, h2, ⟨u, v, h3⟩, ⟨o4, h4, _, d4⟩, ⟨o5, h5, _, d5⟩⟩ := st
    simp only [List.mem_cons, List.not_mem_nil, or_false] at hc
    rcases hc with q | q | q | q | q
    · rw [q]; exact ⟨_, h1, fun v z => by cases z⟩
    · rw [q]; exact ⟨_, h2, fun v z => by cases z⟩
    · rw [q]; exact ⟨_, h3, fun v z => by cases z⟩
    · rw [q]; exact ⟨_, h4, fun v z => by rw [d4] at z; cases z⟩
    · rw [q]; exact ⟨_, h5, fun v z => by rw [d5] at z; cases z⟩
  keep := fun i h h' st k => by
    obtain ⟨h1, h2, ⟨u, v, h3⟩, h4, h5⟩ := st
    exact ⟨k _ (by simp) _ h1, k _ (by simp) _ h2, ⟨u, v, k _ (by simp) _ h3⟩, h4.at fun o q => k _ (by simp) o q, h5.at fun o q => k _ (by simp) o q⟩
  item := by
    intro X hP hw hK hc i pins s σ H E I hf st hg
    subst hP hw hK
    obtain ⟨z1, z2, ⟨u0, v0, z3⟩, z4, z5⟩ := st
    obtain ⟨xs, ys, x, y, hq, hq', hx, hy⟩ := hg
    obtain ⟨its, rv, p, hz⟩ := I.list hq
    obtain ⟨its', rv', p', hz'⟩ := I.list hq'
    obtain ⟨u, hu, ru⟩ := rv.get hx
    obtain ⟨v, hv, rv2⟩ := rv'.get hy
    have apart : ∀ {l : Addr} {jts : List Value}, s.heap.IsList l jts.toArray → l ≠ n + 4 ∧ l ≠ n + 3 ∧ l ≠ n ∧ l ≠ n + 1 := fun {l jts} hl => by
      obtain ⟨o, ho, hcl, _⟩ := hl
      obtain ⟨o4, h4, c4, _⟩ := z4
      obtain ⟨o5, h5, c5, _⟩ := z5
      refine ⟨fun q => ?_, fun q => ?_, fun q => ?_, fun q => ?_⟩
      · rw [q, z1] at ho; cases ho; exact nolist _ (by decide) hcl
      · rw [q, z3] at ho; cases ho; exact nolist _ (by decide) hcl
      · rw [q, h4] at ho; cases ho; rw [c4] at hcl; exact nolist _ (by decide) hcl
      · rw [q, h5] at ho; cases ho; rw [c5] at hcl; exact nolist _ (by decide) hcl
    obtain ⟨a1, a2, a3, a4⟩ := apart p.isList
    obtain ⟨b1, b2, b3, b4⟩ := apart p'.isList
    have D : ZipApart (n + 4) (n + 2) (n + 3) n (n + 1) a b := ⟨nA (by omega), nA (by omega), nA (by omega), nA (by omega), nA (by omega), nA (by omega), nA (by omega), nA (by omega), nA (by omega), nA (by omega), a1, a2, a3, a4, b1, b2, b3, b4⟩
    refine wpAny_pyNext_zip_item D z1 z2 z3 z4 z5 p.isList p'.isList (x := u) (y := v) (by simpa using hu) (by simpa using hv) fun h1 ho hp h4' h5' hT hsz hk => ?_
    have I1 : Inv X pins σ (upd H s.heap.objs.size (.tup [x, y])) { s with heap := h1 } :=
      I.drew (t' := s.toks) (ch := [n + 4, n + 2, n + 3, n, n + 1]) hf (fun b o hb q => hk b o (fun z => hb (by simp [z])) (fun z => hb (by simp [z])) (fun z => hb (by simp [z])) (fun z => hb (by simp [z])) q) (Nat.le_refl _) (its := [u, v]) (.cons ru (.cons rv2 .nil)) ⟨_, hT, rfl, _, rfl⟩ (by show 2 ≤ sizeLine; decide)
    have hTn : H s.heap.objs.size = none := I.hok.fresh (Nat.le_refl _)
    have lt4 : n + 4 < s.heap.objs.size := Heap.lt_size z1
    refine ⟨_, rfl, wpAny_letOwnedTupleGo_zip ho fun h2 he2 hs2 => ?_⟩
    have f1 := hf (n + 4) (by simp)
    have I2 : Inv X pins σ (upd H s.heap.objs.size (.tup [x, y])) { s with heap := h2 } :=
      Inv.turned (s := { s with heap := h1 }) I1 (t' := s.toks) (it := n + 4) (fun b o hb q => (hs2.2 b hb).trans q) (by rw [upd_ne (Nat.ne_of_lt lt4)]; exact f1.1) f1.2.1 f1.2.2.2.1 f1.2.2.2.2.1 f1.2.2.2.2.2
    refine ⟨.ref s.heap.objs.size, _, I2, rfl, ⟨_, x, y, rfl, hTn, rfl, fun ys hy => by rw [I.list_inj hy hq]; exact hx, fun ys2 hy2 => by rw [I.list_inj hy2 hq']; exact hy⟩,
      ⟨he2, ?_, ⟨u, v, ?_⟩, h4'.at fun o q => (hs2.2 n (nA (by omega))).trans q, h5'.at fun o q => (hs2.2 (n + 1) (nA (by omega))).trans q⟩, fun b hb => ?_⟩
    · exact (hs2.2 (n + 2) (nA (by omega))).trans (hk _ _ (nA (by omega)) (nA (by omega)) (nA (by omega)) (nA (by omega)) z2)
    · exact (hs2.2 (n + 3) (nA (by omega))).trans hp
    · rw [upd_ne]
      · exact (hf b hb).1
      · simp only [List.mem_cons, List.not_mem_nil, or_false] at hb
        have lt4' : (n : Nat) + 4 < s.heap.objs.size := lt4
        rcases hb with q | q | q | q | q <;> rw [q] <;> exact nA (by omega)
  done := by
    intro X hP hw hK hc i pins s σ H E I hf st hg
    subst hP hw hK
    obtain ⟨z1, z2, ⟨u0, v0, z3⟩, z4, z5⟩ := st
    obtain ⟨xs, ys, hq, hq', hx⟩ := hg
    obtain ⟨its, rv, p, hz⟩ := I.list hq
    obtain ⟨its', rv', p', hz'⟩ := I.list hq'
    have hl := rv.length
    have hl' := rv'.length
    have apart : ∀ {l : Addr} {jts : List Value}, s.heap.IsList l jts.toArray → l ≠ n + 4 ∧ l ≠ n + 3 ∧ l ≠ n ∧ l ≠ n + 1 := fun {l jts} hl => by
      obtain ⟨o, ho, hcl, _⟩ := hl
      obtain ⟨o4, h4, c4, _⟩ := z4
      obtain ⟨o5, h5, c5, _⟩ := z5
      refine ⟨fun q => ?_, fun q => ?_, fun q => ?_, fun q => ?_⟩
      · rw [q, z1] at ho; cases ho; exact nolist _ (by decide) hcl
      · rw [q, z3] at ho; cases ho; exact nolist _ (by decide) hcl
      · rw [q, h4] at ho; cases ho; rw [c4] at hcl; exact nolist _ (by decide) hcl
      · rw [q, h5] at ho; cases ho; rw [c5] at hcl; exact nolist _ (by decide) hcl
    obtain ⟨a1, a2, a3, a4⟩ := apart p.isList
    obtain ⟨b1, b2, b3, b4⟩ := apart p'.isList
    have D : ZipApart (n + 4) (n + 2) (n + 3) n (n + 1) a b := ⟨nA (by omega), nA (by omega), nA (by omega), nA (by omega), nA (by omega), nA (by omega), nA (by omega), nA (by omega), nA (by omega), nA (by omega), a1, a2, a3, a4, b1, b2, b3, b4⟩
    refine wpAny_pyNext_zip_end (I.ok.hd hc) D z1 z2 z3 z4 z5 p.isList p'.isList ?_ fun h1 hk => ⟨rfl, I.turnedL (t' := s.toks) (ch := [n + 4, n + 2, n + 3, n, n + 1]) hf fun b o hb q => hk b o (fun z => hb (by simp [z])) (fun z => hb (by simp [z])) (fun z => hb (by simp [z])) (fun z => hb (by simp [z])) q⟩
    rcases hx with hx | hx
    · exact .inl (by simp; omega)
    · exact .inr (by simp; omega)
  self := fun _ _ _ _ _ st h => wpAny_pyIter_zip st.1 h

theorem boot_zip2 : bootBuiltins "zip" = some (.type "zip") := by decide +kernel
section
variable {X : Cx}
def iZip (K : PySem.W.Frag) (ta : TA) : TI := fun σ H R => ta σ H fun vs H1 => ∃ a b, vs = [.ref a, .ref b] ∧ (∃ xs, SqL K H1 a xs) ∧ (∃ ys, SqL K H1 b ys) ∧ R (Itz K a b) H1
theorem pi_zip {a b : Expr} {ta : TA} {p pos tp : Pos} {elts : List Expr} {x1 : Nat} (hg : Gl X "zip") (hm : X.mg "zip" = none) (ha : PA X [a, b] ta) (hs : starEach [a, b] X.env = [(false, eval a X.env), (false, eval b X.env)] := by rfl) (hs2 : starEach [b] X.env = [(false, eval b X.env)] := by rfl) :
    PI X (.Tuple elts x1 tp) (.Call (.Name "zip" p) [a, b] [] pos) (iZip X.K ta) := by
  intro pins s σ H R I h
  refine Call_ (ld_blt I hg hm boot_zip2 (PyProof.Rows.callWith_type1 (thn (ha pos pins s σ H _ I h) fun us s1 ⟨vs, H1, I1, r1, q1⟩ => ?_) (by rw [hs, hs2]) (by rw [hs2]; rfl)))
  obtain ⟨l, l', ev, ⟨xs, hq⟩, ⟨ys, hq'⟩, q⟩ := q1
  subst ev
  obtain ⟨u, u', rfl, ru, ru'⟩ := vals2 r1
  cases ru
  cases ru'
  obtain ⟨its, rv, pl, hz⟩ := I1.list hq
  obtain ⟨its', rv', pl', hz'⟩ := I1.list hq'
  refine call_zip_2 pl.isList pl'.isList fun h1 z1 z2 z3 z4 z5 hsz hk => ?_
  refine wpAny_pyIter_zip z1 ?_
  have I2 : Inv X pins σ H1 { s1 with heap := h1 } := I1.kept (t' := s1.toks) hk
  refine ⟨s1.heap.objs.size + 4, _, _, _, H1, rfl, I2, turn_zip l l' s1.heap.objs.size, ⟨z1, z2, ⟨_, _, z3⟩, z4, z5⟩, fun b hb => ?_, q⟩
  have hle : s1.heap.objs.size ≤ b := by
    simp only [List.mem_cons, List.not_mem_nil, or_false] at hb
    rcases hb with q | q | q | q | q <;> rw [q] <;> first | exact Nat.le_add_right _ _ | exact Nat.le_refl _
  exact I1.fpOk hle (I1.hok.fresh hle)
end

/-- what a loop's reading asks -/
abbrev ForW (J : It) (g : TG) (tb : TS) (D : Ends) (σ : St) (H : Hp) : Prop := ∃ W : Nat → Nat → St → Hp → Prop, (∃ m, W 0 m σ H) ∧ ∀ i m σ H, W i m σ H →
  (J.stop i H ∧ D.nx σ H) ∨ (J.go i H ∧ ∃ N : St → Hp → Prop, (∀ σ' H', N σ' H' → ∃ m', m' < m ∧ W (i + 1) m' σ' H') ∧ ∀ x H', J.yld i H x H' → g x σ H' fun σ2 H2 => tb { D with nx := N, ct := N, bk := D.nx } σ2 H2)
theorem for_enum {K : PySem.W.Frag} {a : Addr} {xs : List V} {g : TG} {tb : TS} {D : Ends} {σ : St} {H : Hp} (Pv : Nat → St → Hp → Prop) (h0 : Pv 0 σ H) (hl : ∀ i σ H, i ≤ xs.length → Pv i σ H → SqL K H a xs)
    (hs : ∀ i x σ H T, xs[i]? = some x → Pv i σ H → H T = none → g (.ref T) σ (upd H T (.tup [.int i, x])) fun σ2 H2 => tb { D with nx := Pv (i + 1), ct := Pv (i + 1), bk := D.nx } σ2 H2) (hd : ∀ σ H, Pv xs.length σ H → D.nx σ H) :
    ForW (Ite K a) g tb D σ H := by
  refine ⟨fun i m σ H => m = xs.length - i ∧ i ≤ xs.length ∧ Pv i σ H, ⟨xs.length, by simp, Nat.zero_le _, h0⟩, ?_⟩
  rintro i m σ H ⟨rfl, hi, p⟩
  have q := hl i σ H hi p
  by_cases hlt : i < xs.length
  · refine .inr ⟨⟨xs, xs[i], q, by simp [hlt]⟩, Pv (i + 1), fun σ' H' p' => ⟨xs.length - (i + 1), by omega, rfl, hlt, p'⟩, fun x H' y => ?_⟩
    obtain ⟨T, v, e, hT, e2, hv⟩ := y
    subst e e2
    exact hs i v σ H T (hv xs q) p hT
  · obtain rfl : i = xs.length := by omega
    exact .inl ⟨⟨xs, q, Nat.le_refl _⟩, hd σ H p⟩
theorem for_zip {K : PySem.W.Frag} {a b : Addr} {xs ys : List V} {g : TG} {tb : TS} {D : Ends} {σ : St} {H : Hp} (hlen : xs.length = ys.length) (Pv : Nat → St → Hp → Prop) (h0 : Pv 0 σ H) (hl : ∀ i σ H, i ≤ xs.length → Pv i σ H → SqL K H a xs ∧ SqL K H b ys)
    (hs : ∀ i x y σ H T, xs[i]? = some x → ys[i]? = some y → Pv i σ H → H T = none → g (.ref T) σ (upd H T (.tup [x, y])) fun σ2 H2 => tb { D with nx := Pv (i + 1), ct := Pv (i + 1), bk := D.nx } σ2 H2) (hd : ∀ σ H, Pv xs.length σ H → D.nx σ H) :
    ForW (Itz K a b) g tb D σ H := by
  refine ⟨fun i m σ H => m = xs.length - i ∧ i ≤ xs.length ∧ Pv i σ H, ⟨xs.length, by simp, Nat.zero_le _, h0⟩, ?_⟩
  rintro i m σ H ⟨rfl, hi, p⟩
  obtain ⟨q, q'⟩ := hl i σ H hi p
  by_cases hlt : i < xs.length
  · have hlt' : i < ys.length := by omega
    refine .inr ⟨⟨xs, ys, xs[i], ys[i], q, q', by simp [hlt], by simp [hlt']⟩, Pv (i + 1), fun σ' H' p' => ⟨xs.length - (i + 1), by omega, rfl, hlt, p'⟩, fun x H' y => ?_⟩
    obtain ⟨T, v, u, e, hT, e2, hv, hu⟩ := y
    subst e e2
    exact hs i v u σ H T (hv xs q) (hu ys q') p hT
  · obtain rfl : i = xs.length := by omega
    exact .inl ⟨⟨xs, ys, q, q', .inl (Nat.le_refl _)⟩, hd σ H p⟩

/-- what a comprehension's reading asks -/
abbrev CompW (J : It) (g : TG) (tt : TT) (te : TE) (Q : VK) (σ : St) (H : Hp) : Prop := ∃ W : Nat → Nat → List V → St → Hp → Prop, (∃ m, W 0 m [] σ H) ∧ ∀ i m ys σ' H', W i m ys σ' H' →
    (J.stop i H' ∧ ∀ D, H' D = none → Q (.ref D) (upd H' D (.lst ys))) ∨
    (J.go i H' ∧ ys.length < sizeLine ∧ ∃ N : List V → St → Hp → Prop, (∀ ys' σ2 H2, N ys' σ2 H2 → ∃ m', m' < m ∧ W (i + 1) m' ys' σ2 H2) ∧ ∀ x H2, J.yld i H' x H2 → g x σ' H2 fun σ2 H3 => tt σ2 H3 fun c H4 =>
      if c = true then te σ2 H4 fun y H5 => N (ys ++ [y]) σ2 H5 else N ys σ2 H4)
/-- a comprehension without a test of n turns: over a list, a range, places -/
theorem comp_by {J : It} {n : Nat} {g : TG} {te : TE} {Q : VK} {σ : St} {H : Hp} (hn : n ≤ 1000000) (Pv : Nat → List V → St → Hp → Prop) (h0 : Pv 0 [] σ H) (hlen : ∀ i ys σ H, Pv i ys σ H → ys.length = i)
    (hgo : ∀ i ys σ H, i < n → Pv i ys σ H → J.go i H) (hstop : ∀ ys σ H, Pv n ys σ H → J.stop n H)
    (hs : ∀ i ys σ H x H2, i < n → Pv i ys σ H → J.yld i H x H2 → g x σ H2 fun σ2 H3 => te σ2 H3 fun y H5 => Pv (i + 1) (ys ++ [y]) σ2 H5)
    (hd : ∀ ys σ H D, Pv n ys σ H → H D = none → Q (.ref D) (upd H D (.lst ys))) : CompW J g tNoIf te Q σ H := by
  refine ⟨fun i m ys σ H => m = n - i ∧ i ≤ n ∧ Pv i ys σ H, ⟨n, by simp, Nat.zero_le _, h0⟩, ?_⟩
  rintro i m ys σ H ⟨rfl, hi, p⟩
  by_cases hlt : i < n
  · exact .inr ⟨hgo i ys σ H hlt p, by rw [hlen _ _ _ _ p]; exact Nat.lt_of_lt_of_le hlt (Nat.le_trans hn (by decide)), fun ys' σ' H' => Pv (i + 1) ys' σ' H', fun ys' σ' H' p' => ⟨n - (i + 1), by omega, rfl, hlt, p'⟩, fun x H2 y => hs i ys σ H x H2 hlt p y⟩
  · obtain rfl : i = n := by omega
    exact .inl ⟨hstop ys σ H p, fun D hD => hd ys σ H D p hD⟩
/-- over range(n) -/
theorem comp_range {lo : Int} {n : Nat} {g : TG} {te : TE} {Q : VK} {σ : St} {H : Hp} (hn : n ≤ 1000000) (Pv : Nat → List V → St → Hp → Prop) (h0 : Pv 0 [] σ H) (hlen : ∀ i ys σ H, Pv i ys σ H → ys.length = i)
    (hs : ∀ i ys σ H, i < n → Pv i ys σ H → g (.int (lo + i)) σ H fun σ2 H3 => te σ2 H3 fun y H5 => Pv (i + 1) (ys ++ [y]) σ2 H5)
    (hd : ∀ ys σ H D, Pv n ys σ H → H D = none → Q (.ref D) (upd H D (.lst ys))) : CompW (Itr lo n) g tNoIf te Q σ H :=
  comp_by hn Pv h0 hlen (fun i _ _ _ h _ => h) (fun _ _ _ _ => Nat.le_refl n) (fun i ys σ H x H2 h p y => by obtain ⟨e, e2⟩ := y; subst e e2; exact hs i ys σ _ h p) hd
/-- over a list that stays -/
theorem comp_list {K : PySem.W.Frag} {a : Addr} {xs : List V} {g : TG} {te : TE} {Q : VK} {σ : St} {H : Hp} (hn : xs.length ≤ 1000000) (Pv : Nat → List V → St → Hp → Prop) (h0 : Pv 0 [] σ H) (hlen : ∀ i ys σ H, Pv i ys σ H → ys.length = i)
    (hl : ∀ i ys σ H, i ≤ xs.length → Pv i ys σ H → SqL K H a xs)
    (hs : ∀ i ys σ H x, xs[i]? = some x → Pv i ys σ H → g x σ H fun σ2 H3 => te σ2 H3 fun y H5 => Pv (i + 1) (ys ++ [y]) σ2 H5)
    (hd : ∀ ys σ H D, Pv xs.length ys σ H → H D = none → Q (.ref D) (upd H D (.lst ys))) : CompW (Itl K a) g tNoIf te Q σ H :=
  comp_by hn Pv h0 hlen (fun i ys σ H h p => ⟨xs, xs[i], hl i ys σ H (Nat.le_of_lt h) p, by simp [h]⟩) (fun ys σ H p => ⟨xs, hl _ ys σ H (Nat.le_refl _) p, Nat.le_refl _⟩)
    (fun i ys σ H x H2 h p y => by obtain ⟨e, y⟩ := y; subst e; exact hs i ys σ _ x (y xs (hl i ys σ _ (Nat.le_of_lt h) p)) p) hd
/-- over enumerate(list) -/
theorem comp_enum {K : PySem.W.Frag} {a : Addr} {xs : List V} {g : TG} {te : TE} {Q : VK} {σ : St} {H : Hp} (hn : xs.length ≤ 1000000) (Pv : Nat → List V → St → Hp → Prop) (h0 : Pv 0 [] σ H) (hlen : ∀ i ys σ H, Pv i ys σ H → ys.length = i)
    (hl : ∀ i ys σ H, i ≤ xs.length → Pv i ys σ H → SqL K H a xs)
    (hs : ∀ i ys σ H x T, xs[i]? = some x → Pv i ys σ H → H T = none → g (.ref T) σ (upd H T (.tup [.int i, x])) fun σ2 H3 => te σ2 H3 fun y H5 => Pv (i + 1) (ys ++ [y]) σ2 H5)
    (hd : ∀ ys σ H D, Pv xs.length ys σ H → H D = none → Q (.ref D) (upd H D (.lst ys))) : CompW (Ite K a) g tNoIf te Q σ H :=
  comp_by hn Pv h0 hlen (fun i ys σ H h p => ⟨xs, xs[i], hl i ys σ H (Nat.le_of_lt h) p, by simp [h]⟩) (fun ys σ H p => ⟨xs, hl _ ys σ H (Nat.le_refl _) p, Nat.le_refl _⟩)
    (fun i ys σ H x H2 h p y => by obtain ⟨T, v, e, hT, e2, hv⟩ := y; subst e e2; exact hs i ys σ _ v T (hv xs (hl i ys σ _ (Nat.le_of_lt h) p)) p hT) hd
end L2

namespace L2
open PySem PySem.Spec PyProof.Rows
/-- writes no dict of an object, frees nothing, calls nothing -/
def Kd {α : Type} : Sem α → Prop
  | .pure _ => True
  | .raise _ => True
  | .unsupported _ => True
  | .finish _ => True
  | .rule _ k => Kd (k ())
  | .at _ k => Kd (k ())
  | .load _ _ k => ∀ o, Kd (k o)
  | .update _ _ f k => (∀ o, (f o).dict = o.dict ∧ (f o).isFreed = o.isFreed) ∧ Kd (k ())
  | .alloc _ k => ∀ a, Kd (k a)
  | .loadIfAlive _ k => ∀ o, Kd (k o)
  | .point _ k => Kd (k ())
  | .register _ _ => False
  | .fresh k => ∀ t, Kd (k t)
  | .ask k => ∀ x, Kd (k x)
  | .choose _ _ k => ∀ x, Kd (k x)
  | .os _ _ _ => False
  | .call _ _ _ _ _ => False
  | .handled _ k => ∀ x, Kd (k x)
  | .newGen _ _ => False
  | .genState _ _ => False
  | .resume _ _ _ _ => False
  | .yield _ _ _ _ => False
  | .stack k => ∀ x, Kd (k x)
  | .fork _ _ => False
  | .thread k => ∀ x, Kd (k x)
  | .await _ _ _ _ _ => False
theorem Kd.bind {α β : Type} {m : Sem α} {f : α → Sem β} (hm : Kd m) (hf : ∀ a, Kd (f a)) : Kd (m >>= f) := by
  show Kd (m.bind f)
  induction m with
  | pure a => exact hf a
  | raise e => trivial
  | unsupported w => trivial
  | finish e => trivial
  | rule t k ih => exact ih () hm
  | «at» p k ih => exact ih () hm
  | load a p k ih => exact fun o => ih o (hm o)
  | update a p g k ih => exact ⟨hm.1, ih () hm.2⟩
  | alloc o k ih => exact fun a => ih a (hm a)
  | loadIfAlive a k ih => exact fun o => ih o (hm o)
  | point l k ih => exact ih () hm
  | register a k ih => exact hm
  | fresh k ih => exact fun t => ih t (hm t)
  | ask k ih => exact fun x => ih x (hm x)
  | choose s n k ih => exact fun x => ih x (hm x)
  | os q l k ih => exact hm
  | call c h g l k ih => exact hm
  | handled o k ih => exact fun x => ih x (hm x)
  | newGen c k ih => exact hm
  | genState g k ih => exact hm
  | resume g r l k ih => exact hm
  | yield v g l k ih => exact hm
  | stack k ih => exact fun x => ih x (hm x)
  | fork c k ih => exact hm
  | thread k ih => exact fun x => ih x (hm x)
  | await a t d l k ih => exact hm
/-- the object at e has the dict d -/
def DictIs (e : Addr) (d : Option Addr) (s : Shared) : Prop := ∃ o, s.heap.get? e = some o ∧ o.dict = d
theorem DictIs.push {e : Addr} {d : Option Addr} {s : Shared} (o : Obj) (h : DictIs e d s) : DictIs e d { s with heap := s.heap.push o } := by
  obtain ⟨u, hu, hd⟩ := h
  exact ⟨u, Heap.get?_push_of_some _ hu, hd⟩
theorem get_notFreed {h : Heap} {a : Addr} {o : Obj} (e : h.get? a = some o) : o.isFreed = false := by
  unfold Heap.get? at e
  split at e
  · cases e
  · rename_i x hx
    obtain ⟨c, d, dt, sl⟩ := o
    cases dt <;> first | rfl | skip
    exact (hx c d sl e).elim
theorem DictIs.update {e a : Addr} {d : Option Addr} {s : Shared} {f : Obj → Obj} (hf : ∀ o, (f o).dict = o.dict ∧ (f o).isFreed = o.isFreed) (h : DictIs e d s) : DictIs e d { s with heap := s.heap.update a f } := by
  obtain ⟨u, hu, hd⟩ := h
  by_cases ea : a = e
  · subst ea
    exact ⟨f u, Heap.get?_update_self f hu (by rw [(hf u).2]; exact get_notFreed hu), (hf u).1.trans hd⟩
  · exact ⟨u, (Heap.get?_update_other _ f ea).trans hu, hd⟩
theorem wp_kd {α : Type} {M : Model} {Γ : PySem.Ctx} {Q : α → Pos → Shared → Prop} {E : Value → Pos → Shared → Prop} {e : Addr} {d : Option Addr} (t : Sem α) : ∀ {p : Pos} {s : Shared}, Kd t → Sem.wp M Γ t Q E p s → DictIs e d s →
    Sem.wp M Γ t (fun a p s' => Q a p s' ∧ DictIs e d s') (fun x p s' => E x p s' ∧ DictIs e d s') p s := by
  induction t with
  | pure a => intro p s _ h i; rw [Sem.wp] at h ⊢; exact ⟨h, i⟩
  | raise x => intro p s _ h i; rw [Sem.wp] at h ⊢; exact ⟨h, i⟩
  | unsupported w => intro p s _ h i; rw [Sem.wp] at h; exact h.elim
  | finish x => intro p s _ h i; rw [Sem.wp] at h; exact h.elim
  | rule t k ih => intro p s hk h i; rw [Sem.wp] at h ⊢; exact ih () hk h i
  | «at» q k ih => intro p s hk h i; rw [Sem.wp] at h ⊢; exact ih () hk h i
  | load a q k ih => intro p s hk h i; rw [Sem.wp] at h ⊢; obtain ⟨o, e1, h⟩ := h; exact ⟨o, e1, ih o (hk o) h i⟩
  | update a q g k ih => intro p s hk h i; rw [Sem.wp] at h ⊢; exact ⟨h.1, ih () hk.2 h.2 (i.update hk.1)⟩
  | alloc o k ih => intro p s hk h i; rw [Sem.wp] at h ⊢; exact ih _ (hk _) h (i.push o)
  | loadIfAlive a k ih => intro p s hk h i; rw [Sem.wp] at h ⊢; exact ih _ (hk _) h i
  | point l k ih => intro p s hk h i; rw [Sem.wp] at h ⊢; exact ih () hk h i
  | register a k ih => intro p s hk; exact hk.elim
  | fresh k ih => intro p s hk h i; rw [Sem.wp] at h ⊢; exact ih _ (hk _) h i
  | ask k ih => intro p s hk h i; rw [Sem.wp] at h ⊢; exact ih _ (hk _) h i
  | choose q n k ih => intro p s hk h i; rw [Sem.wp] at h ⊢; exact ⟨h.1, ih _ (hk _) h.2 i⟩
  | os q l k ih => intro p s hk; exact hk.elim
  | call c h g l k ih => intro p s hk; exact hk.elim
  | handled o k ih => intro p s hk h i; rw [Sem.wp] at h ⊢; exact ih _ (hk _) h i
  | newGen c k ih => intro p s hk; exact hk.elim
  | genState g k ih => intro p s hk; exact hk.elim
  | resume g r l k ih => intro p s hk; exact hk.elim
  | yield v g l k ih => intro p s hk; exact hk.elim
  | stack k ih => intro p s hk h i; rw [Sem.wp] at h ⊢; exact ih _ (hk _) h i
  | fork c k ih => intro p s hk; exact hk.elim
  | thread k ih => intro p s hk h i; rw [Sem.wp] at h ⊢; exact ih _ (hk _) h i
  | await a t d l k ih => intro p s hk; exact hk.elim
theorem wpAny_kd {α : Type} {M : Model} {A : Around} {t : Sem α} {Q : α → Shared → Prop} {E : Value → Shared → Prop} {e : Addr} {d : Option Addr} {s : Shared} (hk : Kd t) (i : DictIs e d s) (h : wpAny M A t Q E s) :
    wpAny M A t (fun a s' => Q a s' ∧ DictIs e d s') (fun x s' => E x s' ∧ DictIs e d s') s := fun Γ p hΓ => wp_kd t hk (h Γ p hΓ) i
theorem kd_load (a : Addr) : Kd (load a) := fun _ => trivial
theorem kd_field (v : Value) (i : Nat) : Kd (field v i) := by
  unfold field fieldsOf
  refine Kd.bind ?_ fun vs => ?_
  · cases v <;> first | trivial | skip
    refine Kd.bind (kd_load _) fun o => ?_
    split <;> trivial
  · split <;> trivial
theorem mapFields_kd (f : Array Value → Array Value) (o : Obj) : (Obj.mapFields f o).dict = o.dict ∧ (Obj.mapFields f o).isFreed = o.isFreed := by
  obtain ⟨c, d, dt, sl⟩ := o
  cases dt <;> exact ⟨rfl, rfl⟩
theorem kd_setField (v : Value) (i : Nat) (x : Value) : Kd (setField v i x) := by
  unfold setField updateField
  cases v <;> first | trivial | skip
  refine Kd.bind (kd_load _) fun o => ?_
  split
  · split
    · exact ⟨mapFields_kd _, trivial⟩
    · trivial
  · trivial
theorem kd_setFlight (e : Value) (x : Option Addr) : Kd (setFlight e x) := by
  unfold setFlight
  refine Kd.bind (kd_field _ _) fun tb => ?_
  split
  · exact kd_setField _ _ _
  · trivial
theorem kd_stack : Kd (stack : Sem (List (Code × Pos))) := fun _ => trivial
theorem kd_readyFrames : ∀ l : List Env, Kd (readyFrames l)
  | [] => trivial
  | env :: outer => by
    unfold readyFrames
    split
    · refine Kd.bind (kd_load _) fun o => ?_
      split
      · trivial
      · refine Kd.bind ?_ fun _ => Kd.bind ?_ fun _ => Kd.bind ?_ fun _ => kd_readyFrames outer
        · unfold behindIsImport
          split
          · trivial
          · split
            · trivial
            · exact Kd.bind (kd_field _ _) fun _ => trivial
        · unfold keptBack
          split
          · split
            · trivial
            · exact Kd.bind (Kd.bind kd_stack fun _ => trivial) fun _ => trivial
          · trivial
        · exact ⟨fun o => ⟨rfl, by obtain ⟨c, d, dt, sl⟩ := o; cases dt <;> rfl⟩, trivial⟩
    · trivial
theorem kd_frameOf (env : Env) : Kd (PySem.frameOf env) := by
  unfold PySem.frameOf
  refine Kd.bind (Kd.bind kd_stack fun _ => trivial) fun l => Kd.bind ?_ fun o => ?_
  · unfold frameObject
    split
    · trivial
    · exact Kd.bind (kd_readyFrames _) fun _ => trivial
  · split <;> trivial
theorem kd_entryPlaceOf (f : Addr) (b : Bool) : Kd (entryPlaceOf f b) := by
  unfold entryPlaceOf
  refine Kd.bind kd_stack fun l => ?_
  split <;> trivial
theorem kd_made (x : String) (d : Data) : Kd (newObjAsIs (.type x) d none) := fun _ => trivial
theorem kd_newEntry (a b c d e : Value) (l : List Value) : Kd (EntryCells.newEntry a b c d e l) := by
  unfold EntryCells.newEntry newFields newObj
  dsimp only
  split <;> split <;> first | exact True.intro | exact kd_made _ _
theorem kd_noteFrame (e : Value) (env : Env) : Kd (noteFrame e env) := by
  unfold noteFrame
  split
  · refine Kd.bind (kd_field _ _) fun head => ?_
    have fin : ∀ (f : Addr) (b : Bool), Kd (do let a ← PySem.frameOf env; let pl ← entryPlaceOf f b; let x ← EntryCells.newEntry head a .none (rawInt f) .none pl; setField e 1 x) := fun f b =>
      Kd.bind (kd_frameOf env) fun _ => Kd.bind (kd_entryPlaceOf _ _) fun _ => Kd.bind (kd_newEntry _ _ _ _ _ _) fun _ => kd_setField _ _ _
    split
    · refine Kd.bind (kd_field _ _) fun x => ?_
      split
      · trivial
      · exact Kd.bind (kd_setField _ _ _) fun _ => fin _ _
    · exact fin _ _
  · trivial
theorem kd_leaving (env : Env) (e : Value) : Kd (leaving env e) := Kd.bind (kd_noteFrame e env) fun _ => kd_setFlight _ _
end L2

namespace L2
open PySem PySem.Spec PyProof.Rows

/-- an exception of the class cls stands at a, its traceback behind it; neither was there in h₀ -/
def Flies (h₀ : Heap) (H : Hp) (a : Addr) (cls : Value) (da : Option Addr) (h : Heap) : Prop :=
  ∃ oe vs T oT ts a0, h.get? a = some oe ∧ oe.cls = cls ∧ oe.data = .fields vs ∧ vs[0]? = some a0 ∧ vs[1]? = some (.ref T) ∧ T ≠ a ∧ h.get? T = some oT ∧ oT.data = .fields ts ∧ ts[3]? = some .none ∧
    h₀.get? a = none ∧ h₀.get? T = none ∧ H a = none ∧ H T = none ∧ oe.dict = da
/-- how an exception lies behind a call -/
def CXf (P : Program) (w : World) : CXT := fun outer H s E e s' => ∃ a cls da H', e = .ref a ∧ E cls da H' ∧ s'.os = s.os ∧ AllBare s'.gens ∧ Un (frs outer) [] H H' s.heap s'.heap ∧ HOk P w H' s'.heap ∧ Flies s.heap H' a cls da s'.heap
theorem passE0 {P : Program} {w : World} {X : Cx} : Passes (CXf P w) X E0 := fun _ _ _ _ _ _ _ ⟨_, _, _, _, _, f, _⟩ => f.elim

/-- the context of a def's body -/
structure IsDef (X : Cx) : Prop where
  st : X.stack = X.env :: X.outer
  fr : X.env.frame = some X.env.locals
  ex : X.ex = []

/-- a record of the exception: no one else's -/
def FlyOk (X : Cx) (pins : List (Addr × Obj)) (H : Hp) (b : Addr) : Prop :=
  H b = none ∧ X.s₀.heap.get? b = none ∧ b ≠ X.env.locals ∧ (∀ x c, X.env.cells.lookup x = some c → c ≠ b) ∧ ∀ p ∈ X.pn ++ pins, p.1 ≠ b

section
variable {X : Cx} {pins : List (Addr × Obj)} {σ : St} {H : Hp} {s : Shared} {h' : Heap} {bad : List Addr}

theorem ns_slots {h h' : Heap} {a : Addr} {m : Str → Option Value} (hn : h.Ns a m) (k : ∀ o, h.get? a = some o → ∃ q, h'.get? a = some { o with slots := q }) : h'.Ns a m := by
  obtain ⟨o, es, ep, e, r⟩ := hn
  obtain ⟨q, e'⟩ := k o e
  exact ⟨_, es, ep, e', r⟩
theorem cell_slots {h h' : Heap} {c : Addr} {v : Option Value} (z : h.IsCell c v) (k : ∀ o, h.get? c = some o → ∃ q, h'.get? c = some { o with slots := q }) : h'.IsCell c v := by
  obtain ⟨o, e, d⟩ := z
  obtain ⟨q, e'⟩ := k o e
  exact ⟨_, e', d⟩

/-- an exception has passed: the frames' slots and the records at bad may have changed -/
theorem Inv.fly (I : Inv X pins σ H s) (k : ∀ b o, s.heap.get? b = some o → b ∉ bad → b ∉ frs X.stack → h'.get? b = some o) (sl : ∀ b o, s.heap.get? b = some o → b ∈ frs X.stack → ∃ q, h'.get? b = some { o with slots := q })
    (hb : ∀ b ∈ bad, FlyOk X pins H b) : Inv X pins σ H { s with heap := h' } := by
  have any : ∀ b o, s.heap.get? b = some o → b ∉ bad → ∃ q, h'.get? b = some { o with slots := q } := fun b o e nb => by
    by_cases hf : b ∈ frs X.stack
    · exact sl b o e hf
    · exact ⟨o.slots, k b o e nb hf⟩
  have fsub : ∀ b, b ∈ X.fs → b ∈ frs X.stack := fun b hb => by
    rcases I.ok.stk with e | ⟨e, _⟩
    · rw [e]; exact hb
    · rw [e]
      obtain ⟨env, he, hf⟩ := List.mem_filterMap.mp hb
      exact List.mem_filterMap.mpr ⟨env, List.mem_cons_of_mem _ he, hf⟩
  have old : ∀ b o, X.s₀.heap.get? b = some o → b ∉ bad := fun b o e z => by rw [(hb b z).2.1] at e; cases e
  have nst : ∀ b o, X.s₀.heap.get? b = some o → b ∉ X.fs → b ∉ frs X.stack := fun b o e nf z => by
    rcases List.mem_cons.mp (I.stkSub b z) with q | q
    · exact Nat.ne_of_lt (Nat.lt_of_lt_of_le (Heap.lt_size e) I.ok.above) q
    · exact nf q
  obtain ⟨m, hn, hl⟩ := I.loc
  have hL : X.env.locals ∉ bad := fun z => (hb _ z).2.2.1 rfl
  have hC : ∀ x c, X.env.cells.lookup x = some c → c ∉ bad := fun x c e z => (hb _ z).2.2.2.1 x c e rfl
  refine ⟨I.ok, I.os, I.bare, ⟨fun b o e n nf nx => k b o (I.base.keep b o e n nf nx) (old b o e) (nst b o e nf), fun b o e n hf nx => ?_, I.base.free, fun b o e nx => ?_, I.base.tups, I.base.frzs, I.base.tbls⟩,
    ⟨m, ns_slots hn fun o e => any _ o e hL, fun i x v e1 e2 e3 => ?_⟩, fun x c e => ?_, I.free, I.freeC, fun p hp => ?_, ?_, I.len⟩
  · obtain ⟨q, e1⟩ := I.base.slot b o e n hf nx
    obtain ⟨q2, e2⟩ := sl b _ e1 (fsub b hf)
    exact ⟨q2, e2⟩
  · obtain ⟨o1, e1⟩ := I.base.there b o e nx
    obtain ⟨q, e2⟩ := any b o1 e1 (old b o e)
    exact ⟨_, e2⟩
  · obtain ⟨u, ru, q⟩ := hl i x v e1 e2 e3
    refine ⟨u, ru, ?_⟩
    rcases q with q | ⟨kk, c, e, z⟩
    · exact .inl q
    · exact .inr ⟨kk, c, e, cell_slots z fun o e' => any c o e' (hC x c e)⟩
  · obtain ⟨v, z⟩ := I.cell x c e
    exact ⟨v, cell_slots z fun o e' => any c o e' (hC x c e)⟩
  · obtain ⟨e, n, ne, nf, d⟩ := I.pin p hp
    refine ⟨k _ _ e (fun z => (hb _ z).2.2.2.2 p hp rfl) fun z => ?_, n, ne, nf, d⟩
    rcases List.mem_cons.mp (I.stkSub _ z) with q | q
    · exact ne q
    · exact nf q
  · intro b ob e
    have good : ∀ c u, H c = some u → c ∉ bad ∧ c ∉ frs X.stack := fun c u q => ⟨fun z => (by rw [(hb c z).1] at q; cases q), fun z => (by rw [I.stkFree c z] at q; cases q)⟩
    refine (I.hok b ob e).stay (fun c u hc q => ?_) (fun _ q => q) fun _ _ q => q
    rcases hc with rfl | hc
    · exact k _ u q (good _ _ e).1 (good _ _ e).2
    · exact k _ u q (good _ _ hc).1 (good _ _ hc).2

/-- the hidden base: all but the frames and the exception's records -/
abbrev bareOf (h : Heap) (l : List Addr) : Heap := PySem.W.hideAll h l

/-- an exception that stands at a in X's frame: its records are no one's -/
structure XIn (X : Cx) (pins : List (Addr × Obj)) (σ : St) (H : Hp) (a : Addr) (cls : Value) (da : Option Addr) (s : Shared) : Prop where
  inv : Inv X pins σ H s
  fl : ∃ oe vs T oT ts a0, s.heap.get? a = some oe ∧ oe.cls = cls ∧ oe.data = .fields vs ∧ vs[0]? = some a0 ∧ vs[1]? = some (.ref T) ∧ T ≠ a ∧ s.heap.get? T = some oT ∧ oT.data = .fields ts ∧ ts[3]? = some .none ∧
    FlyOk X pins H a ∧ FlyOk X pins H T ∧ oe.dict = da

theorem objOk_there {P : Program} {w : World} {h : Heap} {a : Addr} {o : HO} (x : ObjOk P w H h a o) : ∃ ob, h.get? a = some ob := by
  cases o with
  | lst _ => exact let ⟨_, _, _, _, e⟩ := x; ⟨_, e⟩
  | tup _ => exact let ⟨_, _, _, _, e, _⟩ := x; ⟨_, e⟩
  | dK _ => exact let ⟨_, _, _, _, _, _, _, e, _⟩ := x; ⟨_, e⟩
  | dT _ => exact let ⟨_, _, _, _, _, _, _, e, _⟩ := x; ⟨_, e⟩
  | set _ _ => exact let ⟨_, _, _, _, e, _⟩ := x; ⟨_, e⟩
  | ins _ _ _ => exact let ⟨_, _, _, e, _⟩ := x; ⟨_, e⟩
  | own _ => exact x
  | xd _ => exact let ⟨_, ⟨_, _, _, e, _⟩, _⟩ := x; ⟨_, e⟩
  | rng _ _ => exact let ⟨_, _, _, e⟩ := x; ⟨_, e⟩
  | frz _ _ => exact ⟨_, x.1⟩
  | tbl _ => exact ⟨_, x⟩
  | met _ _ => exact ⟨_, x⟩
  | ext _ => exact x.2.1
theorem untracked_of {P : Program} {w : World} {h : Heap} {b : Addr} (ok : HOk P w H h) (e : h.get? b = none) : H b = none := by
  cases q : H b with
  | none => rfl
  | some u =>
    obtain ⟨ob, z⟩ := objOk_there (ok b u q)
    rw [e] at z
    cases z

theorem none_old (I : Inv X pins σ H s) (d : IsDef X) {b : Addr} (e : s.heap.get? b = none) : X.s₀.heap.get? b = none := by
  cases q : X.s₀.heap.get? b with
  | none => rfl
  | some o =>
    obtain ⟨o', e'⟩ := I.base.there b o q (by rw [d.ex]; simp)
    rw [e] at e'; cases e'

/-- what is new behind a state of the body is no one's there -/
theorem flyOk_new (I : Inv X pins σ H s) (d : IsDef X) {H' : Hp} {b : Addr} (e : s.heap.get? b = none) (hn : H' b = none) : FlyOk X pins H' b := by
  refine ⟨hn, none_old I d e, fun q => ?_, fun x c hc q => ?_, fun p hp q => ?_⟩
  · obtain ⟨m, ⟨o, _, _, ho, _⟩, _⟩ := I.loc
    rw [← q, e] at ho; cases ho
  · obtain ⟨v, o, ho, _⟩ := I.cell x c hc
    rw [q, e] at ho; cases ho
  · have := (I.pin p hp).1
    rw [q, e] at this; cases this

/-- an exception has come out of a call -/
theorem XIn.ofCall {E : XK} {e : Value} {s' : Shared} (d : IsDef X) (I : Inv X pins σ H s) (h : CXf X.prog X.w X.stack H s E e s') : ∃ a cls da H', e = .ref a ∧ E cls da H' ∧ XIn X pins σ H' a cls da s' := by
  obtain ⟨a, cls, da, H', ee, hE, hos, hg, un, hok, oe, vs, T, oT, ts, a0, f1, f2, f3, f4, f5, f6, f7, f8, f9, n1, n2, n3, n4, n5⟩ := h
  exact ⟨a, cls, da, H', ee, hE, I.call' (ch := []) hos un hok hg (fun b z => absurd z (by simp)), oe, vs, T, oT, ts, a0, f1, f2, f3, f4, f5, f6, f7, f8, f9, flyOk_new I d n1 n3, flyOk_new I d n2 n4, n5⟩

theorem frames_hide {h base : Heap} {l : List Env} {as : List Addr} (hl : h.FunFrames base l) (hin : ∀ b ∈ frs l, b ∈ as) : h.FunFrames (bareOf h as) l :=
  PySem.W.funFrames_hide hl fun env he b hb => hin b (List.mem_filterMap.mpr ⟨env, he, hb⟩)

/-- its records, hidden -/
theorem XIn.flying {a : Addr} {cls : Value} {da : Option Addr} (x : XIn X pins σ H a cls da s) : ∃ T a0, (∀ b ∈ [a, T], FlyOk X pins H b) ∧ DictIs a da s ∧ Heap.FlyingW (bareOf s.heap ([a, T] ++ frs X.stack)) X.stack a cls a0 s.heap := by
  obtain ⟨I, oe, vs, T, oT, ts, a0, f1, f2, f3, f4, f5, f6, f7, f8, f9, n1, n2, n3⟩ := x
  refine ⟨T, a0, fun b hb => ?_, ⟨oe, f1, n3⟩, fun b o q => PySem.W.of_hideAll _ q, PySem.W.hideAll_none _ (by simp), frames_hide I.stack (fun b hb => by simp [hb]), oe, vs, T, oT, ts, f1, ⟨f2, f4⟩, f3, f5, PySem.W.hideAll_none _ (by simp), f6, f7, f8, f9⟩
  simp only [List.mem_cons, List.not_mem_nil, or_false] at hb
  rcases hb with rfl | rfl
  · exact n1
  · exact n2

/-- the record that a traceback begins with -/
theorem traceback_ok {T' : Addr} {ts : Array Value} {oT : Obj} {bad : List Addr} (I : Inv X pins σ H s) (d : IsDef X) (hb : ∀ b ∈ bad, FlyOk X pins H b) (slot : ∀ b o, s.heap.get? b = some o → b ∈ frs X.stack → ∃ q, h'.get? b = some { o with slots := q })
    (bT : (bareOf s.heap (bad ++ frs X.stack)).get? T' = none) (f7 : h'.get? T' = some oT) (f8 : oT.data = .fields ts) : FlyOk X pins H T' := by
  cases e : s.heap.get? T' with
  | none => exact flyOk_new I d e (untracked_of I.hok e)
  | some o =>
    have hm : T' ∈ bad ++ frs X.stack := by
      refine Classical.byContradiction fun hn => ?_
      rw [PySem.W.hideAll_get _ e hn] at bT
      cases bT
    rcases List.mem_append.mp hm with hm | hm
    · exact hb _ hm
    · obtain ⟨_, o', e', nf⟩ := I.stack.mem hm
      obtain ⟨q, e2⟩ := slot T' o' e' hm
      rw [f7] at e2
      cases e2
      exact absurd f8 (nf ts)

theorem slot_of (I : Inv X pins σ H s) (up : s.heap.UpToSlots h') : ∀ b o, s.heap.get? b = some o → b ∈ frs X.stack → ∃ q, h'.get? b = some { o with slots := q } := fun b o e hb => by
  obtain ⟨_, o', e', nf⟩ := I.stack.mem hb
  rw [e] at e'; cases e'
  exact up b o e nf

/-- behind a step of the exception's way: the body's state, the exception's place again -/
theorem XIn.on {a : Addr} {cls a0 : Value} {da : Option Addr} {l : List Env} {bad : List Addr} (x : Inv X pins σ H s) (d : IsDef X) (hb : ∀ b ∈ bad, FlyOk X pins H b) (ha : a ∈ bad)
    (hf : Heap.FlyingW (bareOf s.heap (bad ++ frs X.stack)) l a cls a0 h') (up : s.heap.UpToSlots h') (hd : DictIs a da { s with heap := h' }) : XIn X pins σ H a cls da { s with heap := h' } := by
  obtain ⟨st, _, fr, oe, vs, T', oT, ts, f1, ⟨f2, f4⟩, f3, f5, bT, f6, f7, f8, f9⟩ := hf
  have slot := slot_of x up
  have keep : ∀ b o, s.heap.get? b = some o → b ∉ bad → b ∉ frs X.stack → h'.get? b = some o := fun b o e nb nf => st b o (PySem.W.hideAll_get _ e (by
    rw [List.mem_append, not_or]
    exact ⟨nb, nf⟩))
  obtain ⟨o2, e2, hd2⟩ := hd
  have e3 : some oe = some o2 := f1.symm.trans e2
  cases e3
  exact ⟨x.fly (bad := bad) keep slot hb, oe, vs, T', oT, ts, a0, f1, f2, f3, f4, f5, f6, f7, f8, f9, hb a ha, traceback_ok (bad := bad) x d hb slot bT f7 f8, hd2⟩

/-- .. and the frame -/
theorem XIn.leave {E : XK} {a : Addr} {cls : Value} {da : Option Addr} (d : IsDef X) (x : XIn X pins σ H a cls da s) (hE : E cls da H) : CXf X.prog X.w X.outer X.H₀ X.s₀ E (.ref a) s := by
  obtain ⟨I, oe, vs, T, oT, ts, a0, f1, f2, f3, f4, f5, f6, f7, f8, f9, n1, n2, n3⟩ := x
  refine ⟨a, cls, da, H, rfl, hE, I.os, I.bare, ?_, I.hok, oe, vs, T, oT, ts, a0, f1, f2, f3, f4, f5, f6, f7, f8, f9, n1.2.1, n2.2.1, n1.1, n2.1, n3⟩
  have u := I.base
  rw [d.ex] at u
  exact u
end

/-- a new exception meets the body's wish -/
def Lands (X : Cx) (E : XK) : Prop := ∀ (pins : List (Addr × Obj)) (σ : St) (H : Hp) (s : Shared) (a : Addr) (cls : Value) (da : Option Addr) (oe : Obj) (vs : Array Value) (a0 : Value), Inv X pins σ H s → s.heap.get? a = some oe → oe.cls = cls → oe.data = .fields vs → vs[1]? = some .none → vs[0]? = some a0 → oe.dict = da →
  FlyOk X pins H a → E cls da H → X.xe (.ref a) s

section
variable {P : Program} {w : World} {K : PySem.W.Frag} {mg : Str → Option Value} {base : Heap} {N : List Str} {qual : Str} {scope : Scope} {f : Addr} {cd : Value} {A : Around} {outer : List Env} {s : Shared} {H : Hp} {E : XK}
theorem isDef_cxOf : IsDef (cxOf (CXf P w) P w K mg base N qual scope f cd A outer s H E) := ⟨rfl, rfl, rfl⟩
theorem passX : Passes (CXf P w) (cxOf (CXf P w) P w K mg base N qual scope f cd A outer s H E) E := by
  intro pins σ H1 s1 e s' I h
  obtain ⟨a, cls, da, H', rfl, hE, x⟩ := XIn.ofCall isDef_cxOf I h
  obtain ⟨T, a0, hb, hd, fl⟩ := x.flying
  have z := wpAny_kd (M := model P w) (E := fun _ _ => False) (kd_leaving _ (.ref a)) hd (wpAny_leaves_onW (Q := fun _ s2 => ∃ h', s2 = { s' with heap := h' } ∧ Heap.FlyingW (bareOf s'.heap ([a, T] ++ frs (cxOf (CXf P w) P w K mg base N qual scope f cd A outer s H E).stack)) outer a cls a0 h' ∧ s'.heap.UpToSlots h') x.inv.ok.frames rfl fl fun h' f2 up => ⟨h', rfl, f2, up⟩)
  refine wpAny_mono z (fun _ s2 q => ?_) (fun _ _ q => q.1.elim)
  obtain ⟨⟨h', rfl, f2, up⟩, hd2⟩ := q
  exact XIn.leave isDef_cxOf (XIn.on x.inv isDef_cxOf hb (by simp) f2 up hd2) hE
theorem landX : Lands (cxOf (CXf P w) P w K mg base N qual scope f cd A outer s H E) E := by
  intro pins σ H1 s1 a cls da oe vs a0 I he hc hd h1 h0 hda na hE
  subst hc
  have hb : ∀ b ∈ [a], FlyOk (cxOf (CXf P w) P w K mg base N qual scope f cd A outer s H E) pins H1 b := fun b z => by rw [List.mem_singleton.mp z]; exact na
  have hen : (bareOf s1.heap ([a] ++ frs (cxOf (CXf P w) P w K mg base N qual scope f cd A outer s H E).stack)).get? a = none := PySem.W.hideAll_none _ (by simp)
  have z := wpAny_kd (M := model P w) (E := fun _ _ => False) (kd_leaving _ (.ref a)) (show DictIs a da s1 from ⟨oe, he, hda⟩) (wpAny_leaving_firstW (base := bareOf s1.heap ([a] ++ frs (cxOf (CXf P w) P w K mg base N qual scope f cd A outer s H E).stack)) (Q := fun _ s2 => ∃ h', s2 = { s1 with heap := h' } ∧ Heap.FlyingW (bareOf s1.heap ([a] ++ frs (cxOf (CXf P w) P w K mg base N qual scope f cd A outer s H E).stack)) outer a oe.cls a0 h' ∧ s1.heap.UpToSlots h') I.ok.frames (frames_hide I.stack fun b hb => List.mem_append_right _ hb) rfl he (fun b o q => PySem.W.of_hideAll _ q) hen hd h1 h0
    fun h' ⟨k1, ⟨_, _, k2⟩, k3, k4⟩ => ⟨h', rfl, ⟨k1, hen, k2, k3⟩, k4⟩)
  refine wpAny_mono z (fun _ s2 q => ?_) (fun _ _ q => q.1.elim)
  obtain ⟨⟨h', rfl, f2, up⟩, hd2⟩ := q
  exact XIn.leave isDef_cxOf (XIn.on I isDef_cxOf hb (by simp) f2 up hd2) hE
theorem ownX : PassesOwn (model P w) (cxOf (CXf P w) P w K mg base N qual scope f cd A outer s H E).A (cxOf (CXf P w) P w K mg base N qual scope f cd A outer s H E).env (cxOf (CXf P w) P w K mg base N qual scope f cd A outer s H E).xe := PassesOwn.leaving
end

/-- an own class of exceptions under ValueError, without an __init__ -/
def ExcCls (K : PySem.W.Frag) (C : Addr) : Prop := PySem.W.excIn K C [.type "ValueError", .type "Exception", .type "BaseException", .type "object"] "ValueError.__new__" = true

theorem excObj {K : PySem.W.Frag} {h : Heap} {C : Addr} (X : K.In h) (q : ExcCls K C) : ∃ bm N nm qn bs hdct sn sub ab col dd k0 k1 k2 k3 k5 mN, h.get? C = some (excClassObj nm qn C N bs bm hdct sn sub ab col dd k0 k1 k2 k3 k5 "ValueError.__new__") ∧ h.Ns N mN ∧ mN "__init__" = none ∧
    OwnTail h [.type "ValueError", .type "Exception", .type "BaseException", .type "object"] bm := by
  unfold ExcCls PySem.W.excIn at q
  split at q
  · rename_i dd cd sl ho
    split at q
    · rename_i C' bm k0 k1 k2 k3 n k5 hm hs
      simp only [Bool.and_eq_true, beq_iff_eq, Bool.not_eq_true'] at q
      obtain ⟨⟨⟨⟨⟨rfl, rfl⟩, hdel⟩, ht⟩, hok⟩, hni⟩ := q
      obtain ⟨nm, bs, mro, ns, qn, hd, sn, sub, ab, col, del⟩ := cd
      dsimp only at hm hdel hok hni
      subst hm hdel
      have hsl : sl = #[k0, k1, k2, k3, some (.builtin "ValueError.__new__"), k5] := by
        obtain ⟨l⟩ := sl
        simp only at hs
        rw [hs]
      subst hsl
      exact ⟨bm, ns, nm, qn, bs, hd, sn, sub, ab, col, dd, k0, k1, k2, k3, k5, _, X _ _ ho, .of_isNs (PySem.W.isNs_of_in X hok), PySem.W.nsMap_none_of_in X hok hni, PySem.W.tail_of_in X ht⟩
    · cases q
  · cases q

def tRaise (t : TA) (C : Addr) (E : XK) : TS := fun _ σ H => t σ H fun vs H1 => vs.length ≤ 10 ∧ E (.ref C) none H1
section
variable {X : Cx}
theorem ps_raise (d : IsDef X) {x : Str} {np cpos pos : Pos} {e : Expr} {es : List Expr} {t : TA} {C : Addr} {E : XK} (O : ExcCls X.K C) (hc : X.calm = true) (hE : Lands X E) (hg : Gl X x) (hm : X.mg x = some (.ref C)) (ha : PA X (e :: es) t)
    (he : starEach (e :: es) X.env = (false, eval e X.env) :: starEach es X.env := by rfl) (hpl : (backTo cpos (starEach es X.env)).any (·.1) = false := by rfl) (hdb : (x == ("__debug__" : Str)) = false := by decide) :
    PS X (.Raise (some (.Call (.Name x np) (e :: es) [] cpos)) none pos) (tRaise t C E) := by
  intro pins s σ H D I h
  obtain ⟨bm, N, nm, qn, bs, hdct, sn, sub, ab, col, dd, k0, k1, k2, k3, k5, mN, hC, hN, hni, TL⟩ := excObj I.kIn O
  refine wpAny_Raise_call_subT (C := C) (nm := nm) (q := qn) (N := N) (bs := bs) (bm := bm) (hdct := hdct) (sn := sn) (sub := sub) (ab := ab) (col := col) (dd := dd) (k0 := k0) (k1 := k1) (k2 := k2) (k3 := k3) (k5 := k5) (mN := mN)
    PySem.F.excBase_ValueError (TL.hasType PySem.F.excBase_ValueError.hasBase) (I.ok.hd hc) ?_ hni (ld_glob I hg hm ⟨rfl, ?_⟩ hdb)
  · rw [he]
    show (false || (backTo cpos (starEach es X.env)).any (·.1)) = false
    rw [hpl]; rfl
  · have ha' := ha cpos pins s σ H _ I h
    rw [he] at ha' ⊢
    refine Calls.evalArgs_plain (wpAny_mono ha' (fun us s2 q => ?_) fun _ _ y => y)
    obtain ⟨vs, H2, I2, r, hlen, hEE⟩ := q
    obtain ⟨bm', N', nm', qn', bs', hdct', sn', sub', ab', col', dd', k0', k1', k2', k3', k5', mN', hC', hN', hni', TL'⟩ := excObj I2.kIn O
    have kb : ∀ b o, X.base.get? b = some o → s2.heap.get? b = some o := I2.bk
    obtain ⟨bm1, N1, nm1, qn1, bs1, hdct1, sn1, sub1, ab1, col1, dd1, k01, k11, k21, k31, k51, mN1, hC1, hN1, hni1, TL1⟩ := excObj I.ok.mod.kin O
    have e1 := (I.bk _ _ hC1).symm.trans hC
    injection e1 with e1
    injection e1 with c1 c2 c3 c4
    injection c3 with c3
    injection c3 with d1 d2 d3 d4 d5 d6 d7 d8 d9 d10 d11
    subst d4
    injection d3 with d31 d32
    subst d32
    have hmN : mN = mN1 := by
      obtain ⟨o1, es1, ep1, ho1, hd1, hk1, hf1⟩ := hN
      obtain ⟨o2, es2, ep2, ho2, hd2, hk2, hf2⟩ := hN1
      have := I.bk _ _ ho2
      rw [ho1] at this
      cases this
      rw [hd1] at hd2
      cases hd2
      funext n
      rw [← hf1, ← hf2]
    subst hmN
    refine ⟨rfl, ?_, ?_, hN1.keeps kb, TL1.keeps kb, fun h1 a hx => ?_⟩
    · have := r.length
      exact Nat.le_trans (by omega : us.length ≤ 10) (by decide)
    · have h0 := I.bk _ _ hC1
      rw [hC] at h0
      have h1 := kb _ _ hC1
      rw [← h0] at h1
      exact h1
    · obtain ⟨t0, he, htn, ht⟩ := hx.there
      exact hE pins σ H2 { s2 with heap := h1 } a _ none _ _ (.ref t0) (I2.kept (t' := s2.toks) hx.keeps) he rfl rfl rfl rfl rfl (flyOk_new I2 d hx.new (untracked_of I2.hok hx.new)) hEE
end

section
variable {P : Program} {w : World} {K : PySem.W.Frag} {mg : Str → Option Value} {base : Heap}
theorem Fun.okX {x qual : Str} {st : Stmt} {f : Addr} {fd : FuncData} {N ps : List Str} {k : Nat} {sp : Sp} (F : Fun K x qual st f fd) (S : FnScope N ps (defScope st)) (len : ∀ vs H Q E, sp vs H Q E → vs.length = ps.length)
    (hbody : ∀ (cdv : Value) (A : Around) (outer : List Env) (s : Shared) (H : Hp) (vs : List V) (Q : VK) (E : XK), Room k (A.deeper (envOfC qual (defScope st) s.heap.objs.size f cdv)) → sp vs H Q E →
      ∃ t, PSs (cxOf (CXf P w) P w K mg base N qual (defScope st) f cdv A outer s H E) (defBody st) t ∧ t { nx := fun _ H' => Q .non H', rt := Q } (start N vs) H) : FnOk P w K mg base (CXf P w) (k + 1) f fd ps sp := by
  obtain ⟨oc, od, kV, doc, pm, an, cdv, ct, osl, rfl, lk, hcd⟩ := F.ex
  exact fn_of lk hcd S len fun A outer s H vs Q E hr hsp => hbody cdv A outer s H vs Q E hr hsp
end
end L2

namespace L2
open PySem PySem.Spec PyProof.Rows
section
variable {X : Cx}
/-- isinstance(x, T), T a built-in type -/
theorem call_isinst : CallR X (.builtin "isinstance") (fun xs H Q => ∃ x n t b, xs = [x, .ty n] ∧ TyOf X.K H x t ∧ PySem.W.kitOne X.K t (.type n) = some b ∧ Q (.bl b) H) := by
  intro pins s σ H xs us Q I r h
  obtain ⟨x, n, t, b, rfl, ty, e, q⟩ := h
  obtain ⟨u, w, rfl, ru, rw'⟩ := vals2 r
  cases rw'
  exact isinst_ok I ru ty e fun tk => ⟨.bl b, H, I.tok tk, rfl, q⟩
def rEqL (K : PySem.W.Frag) (neg : Bool) : R2 := fun x y H Q => ∃ (a b : Addr) (ns ms : List Int), x = .ref a ∧ y = .ref b ∧ SqL K H a (ns.map V.int) ∧ SqL K H b (ms.map V.int) ∧ Q (.bl (if neg then !decide (ns = ms) else decide (ns = ms))) H
theorem op_neL (hu : X.A.units + 64 < cLine) : OpR X (compareOp .NotEq) (rEqL X.K true) := by
  intro pins s σ H x y v u Q I rx ry h
  obtain ⟨a, b, ns, ms, rfl, rfl, ha, hb, q⟩ := h
  cases rx
  cases ry
  obtain ⟨its, r1, p1, _⟩ := I.list ha
  obtain ⟨jts, r2, p2, _⟩ := I.list hb
  exact PySem.W.ne_intsK p1.isList (intsAre_of r1) p2.isList (intsAre_of r2) hu ⟨.bl _, H, I, rfl, q⟩
def rBest (K : PySem.W.Frag) (R : Int → Int → Prop) : List V → Hp → VK → Prop := fun xs H Q => ∃ (a : Addr) (ns : List Int), xs = [.ref a] ∧ SqL K H a (ns.map V.int) ∧ 0 < ns.length ∧ ∀ M, M ∈ ns → (∀ x ∈ ns, R x M) → Q (.int M) H
theorem call_maxL (hc : X.calm = true) : CallR X (.builtin "max") (rBest X.K fun x M => x ≤ M) := by
  intro pins s σ H xs us Q I r h
  obtain ⟨a, ns, rfl, hq, hne, q⟩ := h
  obtain ⟨u, rfl, ru⟩ := vals1 r
  cases ru
  obtain ⟨its, rv, p, _⟩ := I.list hq
  have hi := intsAre_of rv
  obtain ⟨ys, e⟩ := hi.allInts.items
  have e2 : ns = ys.toList.map (·.1) := by rw [← hi.numsOf, ← nums_intItems, ← e]
  have hl := p.isList
  rw [e] at hl
  have hsz : 0 < ys.size := by rw [e2, List.length_map, Array.length_toList] at hne; exact hne
  refine max_intList (I.ok.hd hc) hl hsz fun v h' tk hv hk => ?_
  obtain ⟨t, rfl⟩ := intItems_at hv
  obtain ⟨g1, g2⟩ := argBest_gt (numAt ys) (ys.size - 1)
  refine ⟨.int _, H, I.kept hk, ⟨t, rfl⟩, q _ ?_ fun x hx => ?_⟩
  · rw [e2, numAt_eq]; refine PySem.getD_mem (by rw [List.length_map, Array.length_toList]; omega)
  · rw [e2] at hx
    obtain ⟨j, hj, rfl⟩ := mem_getD hx
    rw [List.length_map, Array.length_toList] at hj
    rw [← numAt_eq]; exact g2 j (by omega)
theorem call_minL (hc : X.calm = true) : CallR X (.builtin "min") (rBest X.K fun x M => M ≤ x) := by
  intro pins s σ H xs us Q I r h
  obtain ⟨a, ns, rfl, hq, hne, q⟩ := h
  obtain ⟨u, rfl, ru⟩ := vals1 r
  cases ru
  obtain ⟨its, rv, p, _⟩ := I.list hq
  have hi := intsAre_of rv
  obtain ⟨ys, e⟩ := hi.allInts.items
  have e2 : ns = ys.toList.map (·.1) := by rw [← hi.numsOf, ← nums_intItems, ← e]
  have hl := p.isList
  rw [e] at hl
  have hsz : 0 < ys.size := by rw [e2, List.length_map, Array.length_toList] at hne; exact hne
  refine min_intList (I.ok.hd hc) hl hsz fun v h' tk hv hk => ?_
  obtain ⟨t, rfl⟩ := intItems_at hv
  obtain ⟨g1, g2⟩ := argBest_lt (numAt ys) (ys.size - 1)
  refine ⟨.int _, H, I.kept hk, ⟨t, rfl⟩, q _ ?_ fun x hx => ?_⟩
  · rw [e2, numAt_eq]; refine PySem.getD_mem (by rw [List.length_map, Array.length_toList]; omega)
  · rw [e2] at hx
    obtain ⟨j, hj, rfl⟩ := mem_getD hx
    rw [List.length_map, Array.length_toList] at hj
    rw [← numAt_eq]; exact g2 j (by omega)
/-- all, any of a list of bools -/
theorem bools_walk {prog : Program} {w : World} {A : Around} {bs : List Bool} {its : List Value} (r : Vals (bs.map V.bl) its) : TruthOf prog w A (fun i v => its.toArray[i]? = some v) (fun i => bs.getD i false) := by
  intro i v s Q E hv hq
  have hv' : its[i]? = some v := by simpa using hv
  have hl := r.length
  rw [List.length_map] at hl
  have hi : i < bs.length := by rw [hl]; exact (List.getElem?_eq_some_iff.mp hv').1
  obtain ⟨u, hu, ru⟩ := r.get (i := i) (x := V.bl (bs[i])) (by rw [List.getElem?_map, List.getElem?_eq_getElem hi]; rfl)
  rw [hv'] at hu
  cases hu
  cases ru
  have e : bs.getD i false = bs[i] := by rw [List.getD_eq_getElem?_getD, List.getElem?_eq_getElem hi]; rfl
  simp only [e] at hq
  exact wpAny_pure hq
theorem range_all {bs : List Bool} : (List.range bs.length).all (fun i => bs.getD i false) = bs.all id := by
  have e : (List.range bs.length).map (fun i => bs.getD i false) = bs := by
    apply List.ext_getElem?
    intro i
    rw [List.getElem?_map]
    by_cases h : i < bs.length
    · rw [List.getElem?_range h, List.getElem?_eq_getElem h]
      simp [List.getD_eq_getElem?_getD, h]
    · rw [List.getElem?_eq_none (by simpa using h), List.getElem?_eq_none (by simpa using h)]
      rfl
  conv => rhs; rw [← e]
  rw [List.all_map]
  rfl
theorem call_allL (hc : X.calm = true) : CallR X (.builtin "all") (fun xs H Q => ∃ (a : Addr) (bs : List Bool), xs = [.ref a] ∧ SqL X.K H a (bs.map V.bl) ∧ Q (.bl (bs.all id)) H) := by
  intro pins s σ H xs us Q I r h
  obtain ⟨a, bs, rfl, hq, q⟩ := h
  obtain ⟨u, rfl, ru⟩ := vals1 r
  cases ru
  obtain ⟨its, rv, p, _⟩ := I.list hq
  have hlen : its.length = bs.length := by have := rv.length; rw [List.length_map] at this; exact this.symm
  have hlt : a < s.heap.objs.size := by obtain ⟨o, e, _⟩ := p.isList; exact Heap.lt_size e
  refine call_all_walk (wpAny_pyIter_list p.isList ?_)
  refine ⟨_, _, _, _, _, _, fun i => bs.getD i false, rfl, Walks.list (A := X.A.in1) (I.ok.hd hc) s.heap.objs.size a (Nat.ne_of_lt hlt) its.toArray, ⟨⟨_, Heap.get?_push_size _ rfl, rfl, rfl⟩, p.isList.at fun o e => Heap.get?_push_of_some _ e⟩, bools_walk rv, fun h' tk hk => ?_⟩
  refine ⟨.bl (bs.all id), H, I.kept fun b o e => hk b o (fun z => ?_) (Heap.get?_push_of_some _ e), ?_, q⟩
  · rw [List.mem_singleton.mp z] at e
    exact absurd (Heap.lt_size e) (Nat.lt_irrefl _)
  · show Value.bool _ = Value.bool _
    rw [List.size_toArray, hlen, range_all]
end
/-- what a built-in type is of another -/
theorem kit_int_int {K : PySem.W.Frag} : PySem.W.kitOne K (.type "int") (.type "int") = some true := by rfl
theorem kit_int_bool {K : PySem.W.Frag} : PySem.W.kitOne K (.type "int") (.type "bool") = some false := by rfl
theorem kit_list_list {K : PySem.W.Frag} : PySem.W.kitOne K (.type "list") (.type "list") = some true := by rfl
end L2

namespace L2
open PySem PySem.Spec PyProof.Rows

/-- the def x of the text keeps its promise -/
def Ok (P : Program) (w : World) (K : PySem.W.Frag) (mg : Str → Option Value) (base : Heap) (x : Str) (ps : List Str) (k : Nat) (sp : Sp) : Prop :=
  ∃ f fd, FnOk P w K mg base (CXf P w) k f fd ps sp ∧ mg x = some (.ref f) ∧ PySem.W.keepIn K (.ref f) = true ∧ Binds K fd ps []
/-- the def x stands in the text -/
structure Has (K : PySem.W.Frag) (mg : Str → Option Value) (x : Str) (st : Stmt) (ps : List Str) (f : Addr) (fd : FuncData) : Prop where
  fn : Fun K x x st f fd
  bd : Binds K fd ps []
  at_ : mg x = some (.ref f)
/-- no name of the text hides these -/
structure Blt (mg : Str → Option Value) : Prop where
  len_ : mg "len" = none
  range_ : mg "range" = none
  enumerate_ : mg "enumerate" = none
  zip_ : mg "zip" = none
  isinstance_ : mg "isinstance" = none
  int_ : mg "int" = none
  bool_ : mg "bool" = none
  list_ : mg "list" = none
  tuple_ : mg "tuple" = none
  all_ : mg "all" = none
  any_ : mg "any" = none
  sum_ : mg "sum" = none
  max_ : mg "max" = none
  min_ : mg "min" = none
  abs_ : mg "abs" = none
  sorted_ : mg "sorted" = none
theorem bt_len : bootBuiltins "len" = some (.builtin "len") := by decide +kernel
theorem bt_isinstance : bootBuiltins "isinstance" = some (.builtin "isinstance") := by decide +kernel
theorem bt_all : bootBuiltins "all" = some (.builtin "all") := by decide +kernel
theorem bt_max : bootBuiltins "max" = some (.builtin "max") := by decide +kernel
theorem bt_min : bootBuiltins "min" = some (.builtin "min") := by decide +kernel
theorem bt_sorted : bootBuiltins "sorted" = some (.builtin "sorted") := by decide +kernel
theorem bt_int : bootBuiltins "int" = some (.type "int") := by decide +kernel
theorem bt_bool : bootBuiltins "bool" = some (.type "bool") := by decide +kernel
theorem bt_list : bootBuiltins "list" = some (.type "list") := by decide +kernel
theorem bt_tuple : bootBuiltins "tuple" = some (.type "tuple") := by decide +kernel
def GInt (mg : Str → Option Value) (x : Str) (i : Int) : Prop := ∃ t, mg x = some (.int i t)

section
variable {P : Program} {w : World} {K : PySem.W.Frag} {mg : Str → Option Value} {base : Heap}
theorem Has.ok {x : Str} {st : Stmt} {ps : List Str} {f : Addr} {fd : FuncData} {N : List Str} {k : Nat} {sp : Sp} (h : Has K mg x st ps f fd) (S : FnScope N ps (defScope st)) (len : ∀ vs H Q E, sp vs H Q E → vs.length = ps.length)
    (hbody : ∀ (cdv : Value) (A : Around) (outer : List Env) (s : Shared) (H : Hp) (vs : List V) (Q : VK) (E : XK), Room k (A.deeper (envOfC x (defScope st) s.heap.objs.size f cdv)) → sp vs H Q E →
      ∃ t, PSs (cxOf (CXf P w) P w K mg base N x (defScope st) f cdv A outer s H E) (defBody st) t ∧ t { nx := fun _ H' => Q .non H', rt := Q } (start N vs) H) : Ok P w K mg base x ps (k + 1) sp :=
  ⟨f, fd, h.fn.okX S len hbody, h.at_, h.fn.kp, h.bd⟩
end

section
variable {X : Cx} {k : Nat} {ps : List Str} {sp : Sp} {E : XK} {x y c : Str} {p pos apos cpos py np hpos : Pos} {e : Expr} {es : List Expr} {t : TA} {i : Nat} {C : Addr} {b0 : Stmt} {suite : List Stmt} {ts : TS}
theorem pe_callO (o : Ok X.prog X.w X.K X.mg X.base x ps k sp) (hr : Room k X.A) (hg : Gl X x) (hx : Passes (CXf X.prog X.w) X E) (ha : PA X (e :: es) t) (hdb : (x == ("__debug__" : Str)) = false := by decide)
    (he : starEach (e :: es) X.env = (false, eval e X.env) :: starEach es X.env := by rfl) (hpl : (backTo pos (starEach es X.env)).any (·.1) = false := by rfl) : PE X (.Call (.Name x p) (e :: es) [] pos) (tCall sp [] E t) := by
  obtain ⟨f, fd, F, hm, hk, hb⟩ := o
  exact pe_call F hr hg hm hk hb .nil hx ha hdb he hpl
theorem pe_gi {n : Int} (h : GInt X.mg x n) (hg : Gl X x := by rfl) (hd : (x == ("__debug__" : Str)) = false := by decide) : PE X (.Name x pos) (tC (.int n)) := by
  obtain ⟨tk, hm⟩ := h
  exact pe_glob hg hm ⟨tk, rfl⟩ hd
theorem pe_tyN {T : String} (hm : X.mg x = none) (hv : bootBuiltins x = some (.type T)) (hg : Gl X x := by rfl) (hn : x ≠ "__name__" := by decide) (hd : (x == ("__debug__" : Str)) = false := by decide) : PE X (.Name x pos) (tC (.ty T)) :=
  pe_bltn hg hm hv rfl hn hd
end

/-- a block's scope, by a check -/
def compOk (osc : Scope) (N : List Str) (scope : Scope) (N' : List Str) (π : List (Option Nat)) : Bool :=
  osc.kind == .function && scope.kind == .function &&
  scope.names.all (fun y => y.2 != .cell && (y.2 != .local || scope.names.lookup y.1 == some .local) && (y.2 != .free || osc.names.lookup y.1 == some .cell)) &&
  decide N'.Nodup && π.length == N'.length && (N'.zip π).all (fun p => match p.2 with | none => true | some j => N[j]? == some p.1 && scope.names.lookup p.1 == some .free)
theorem CompScope.of {osc : Scope} {N : List Str} {scope : Scope} {N' : List Str} {π : List (Option Nat)} (h : compOk osc N scope N' π = true) : CompScope osc N scope N' π := by
  unfold compOk at h
  simp only [Bool.and_eq_true, beq_iff_eq, decide_eq_true_eq, List.all_eq_true, Bool.or_eq_true, bne_iff_ne, ne_eq] at h
  obtain ⟨⟨⟨⟨⟨h1, h2⟩, h3⟩, h4⟩, h5⟩, h6⟩ := h
  refine ⟨h1, h2, fun y hy => (h3 y hy).1.1, fun y hy k => ?_, fun y hy k => ?_, h4, h5, fun i j x e1 e2 => ?_⟩
  · rcases (h3 y hy).1.2 with z | z
    · exact absurd k z
    · exact z
  · rcases (h3 y hy).2 with z | z
    · exact absurd k z
    · exact z
  · have hz : (N'.zip π)[i]? = some (x, some j) := by rw [List.getElem?_zip_eq_some]; exact ⟨e1, e2⟩
    have q := h6 _ (List.mem_of_getElem? hz)
    simp only [Bool.and_eq_true, beq_iff_eq] at q
    exact q
end L2

namespace L2
open PySem PySem.Spec PyProof.Rows
theorem tFor_eq {wi : TI} {g : TG} {tb : TS} {D : Ends} {σ : St} {H : Hp} : tFor wi g tb D σ H = wi σ H fun J H1 => ForW J g tb D σ H1 := rfl
theorem tComp_eq {wi : TI} {π : List (Option Nat)} {g : TG} {tt : TT} {te : TE} {σ : St} {H : Hp} {Q : VK} : tComp wi π g tt te σ H Q = wi σ H fun J H1 => CompW J g tt te Q (capt π σ) H1 := rfl
theorem start_def {N : List Str} {vs : List V} : start N vs = vs.map some ++ List.replicate (N.length - vs.length) none := rfl
end L2
namespace L2
open PySem PySem.Spec PyProof.Rows
theorem cxOf_K {CX : CXT} {P : Program} {w : World} {K : PySem.W.Frag} {mg : Str → Option Value} {base : Heap} {N : List Str} {qual : Str} {scope : Scope} {f : Addr} {cd : Value} {A : Around} {outer : List Env} {s : Shared} {H : Hp} {E : XK} :
    (cxOf CX P w K mg base N qual scope f cd A outer s H E).K = K := rfl
theorem cxComp_K {X : Cx} {N' : List Str} {scope : Scope} {s : Shared} {H : Hp} {C : Addr} {fp : List Addr} {pn : List (Addr × Obj)} : (cxComp X N' scope s H C fp pn).K = X.K := rfl
end L2
namespace L2
open PySem PySem.Spec PyProof.Rows
theorem tyOf_int {K : PySem.W.Frag} {H : Hp} {i : Int} {t : Value} : TyOf K H (.int i) t ↔ t = .type "int" := by
  constructor
  · intro h
    cases h
    rfl
  · intro h
    subst h
    exact .int i
end L2
namespace L2
open PySem PySem.Spec PyProof.Rows
section
variable {X : Cx} {K : PySem.W.Frag}
theorem ix_listK (h : X.K = K) : IxR X (rIxL K) := by subst h; exact ix_list
theorem ix_tupK (h : X.K = K) : IxR X (rIxT K) := by subst h; exact ix_tup
theorem sl_listK (h : X.K = K) : SlR X (rSlL K) := by subst h; exact sl_list
def rLen (K : PySem.W.Frag) : List V → Hp → VK → Prop := fun xs H Q => ∃ p ys, xs = [.ref p] ∧ (SqL K H p ys ∨ SqT K H p ys) ∧ Q (.int ys.length) H
theorem call_len_seqK (h : X.K = K) : CallR X (.builtin "len") (rLen K) := by subst h; exact call_len_seq
def rIsi (K : PySem.W.Frag) : List V → Hp → VK → Prop := fun xs H Q => ∃ x n t b, xs = [x, .ty n] ∧ TyOf K H x t ∧ PySem.W.kitOne K t (.type n) = some b ∧ Q (.bl b) H
theorem call_isinstK (h : X.K = K) : CallR X (.builtin "isinstance") (rIsi K) := by subst h; exact call_isinst
def rListOf (K : PySem.W.Frag) : List V → Hp → VK → Prop := fun xs H Q => ∃ p ys, xs = [.ref p] ∧ (SqL K H p ys ∨ SqT K H p ys) ∧ ∀ l, H l = none → Q (.ref l) (upd H l (.lst ys))
theorem call_list_ofK (h : X.K = K) : CallR X (.type "list") (rListOf K) := by subst h; exact call_list_of
theorem op_neLK (h : X.K = K) (hu : X.A.units + 64 < cLine) : OpR X (compareOp .NotEq) (rEqL K true) := by subst h; exact op_neL hu
def rSum (K : PySem.W.Frag) : List V → Hp → VK → Prop := fun xs H Q => ∃ (a : Addr) (ns : List Int), xs = [.ref a] ∧ SqL K H a (ns.map V.int) ∧ Q (.int ns.sum) H
theorem call_maxLK (h : X.K = K) (hc : X.calm = true) : CallR X (.builtin "max") (rBest K fun x M => x ≤ M) := by subst h; exact call_maxL hc
theorem call_minLK (h : X.K = K) (hc : X.calm = true) : CallR X (.builtin "min") (rBest K fun x M => M ≤ x) := by subst h; exact call_minL hc
def rAll (K : PySem.W.Frag) : List V → Hp → VK → Prop := fun xs H Q => ∃ (a : Addr) (bs : List Bool), xs = [.ref a] ∧ SqL K H a (bs.map V.bl) ∧ Q (.bl (bs.all id)) H
theorem call_allLK (h : X.K = K) (hc : X.calm = true) : CallR X (.builtin "all") (rAll K) := by subst h; exact call_allL hc
def rAny (K : PySem.W.Frag) : List V → Hp → VK → Prop := fun xs H Q => ∃ (a : Addr) (bs : List Bool), xs = [.ref a] ∧ SqL K H a (bs.map V.bl) ∧ Q (.bl (bs.any id)) H
theorem op_in_seqK (h : X.K = K) : OpR X (compareOp .In) (rIn K false) := by subst h; exact op_in_seq
theorem pg_tupK {es : List Expr} {k : Nat} {t : TGs} {n : Nat} {pos : Pos} (h : X.K = K) (hc : X.calm = true) (hh : PGs X es t)
    (hn : (assignEach es X.env).length = n := by rfl) (hst : (assignEach es X.env).findIdx? (·.1) = none := by rfl) : PG X (.Tuple es k pos) (gTup K n t) := by subst h; exact pg_tup hc hh hn hst
theorem pi_listK {tg l : Expr} {tl : TE} (h : X.K = K) (hl : PE X l tl) : PI X tg l (iList K tl) := by subst h; exact pi_list hl
theorem pi_enumK {a : Expr} {ta : TA} {p pos tp : Pos} {elts : List Expr} {x1 : Nat} (h : X.K = K) (hg : Gl X "enumerate") (hm : X.mg "enumerate" = none) (ha : PA X [a] ta) (hs : starEach [a] X.env = [(false, eval a X.env)] := by rfl) :
    PI X (.Tuple elts x1 tp) (.Call (.Name "enumerate" p) [a] [] pos) (iEnum K ta) := by subst h; exact pi_enum hg hm ha hs
theorem pi_zipK {a b : Expr} {ta : TA} {p pos tp : Pos} {elts : List Expr} {x1 : Nat} (h : X.K = K) (hg : Gl X "zip") (hm : X.mg "zip" = none) (ha : PA X [a, b] ta) (hs : starEach [a, b] X.env = [(false, eval a X.env), (false, eval b X.env)] := by rfl) (hs2 : starEach [b] X.env = [(false, eval b X.env)] := by rfl) :
    PI X (.Tuple elts x1 tp) (.Call (.Name "zip" p) [a, b] [] pos) (iZip K ta) := by subst h; exact pi_zip hg hm ha hs hs2
theorem pt_truthK {a : Expr} {ta : TE} (h : X.K = K) (ha : PE X a ta) (he : ∀ whole, isTrue a X.env whole = (do let v ← whole; standAt a.pos; holding [v] (truthy v))) :
    PT X a (fun σ H Q => ta σ H fun x H' => ∃ k, TruV K x H' k ∧ Q k H') := by subst h; exact pt_truth ha he
variable {o e : Expr} {es : List Expr} {to : TE} {t : TA} {name : Str} {apos cpos : Pos} {T id : String} {r : V → List V → Hp → VK → Prop}
theorem pe_bm0K (h : X.K = K) (pa : PlainAttrs T) (slot : Slot T name id) (hty : typeOf (.builtin id) = pure (.type "method_descriptor")) (hm : MtR X id r) (ho : PE X o to)
    (hbase : attributeBase o name X.env (eval o X.env) = eval o X.env := by rfl) (hline : (apos.endLine == cpos.line) = true := by rfl) : PE X (.Call (.Attribute o name apos) [] [] cpos) (tBM0 K T r to) := by subst h; exact pe_bm0 pa slot hty hm ho hbase hline
theorem pe_bmK (h : X.K = K) (pa : PlainAttrs T) (slot : Slot T name id) (hty : typeOf (.builtin id) = pure (.type "method_descriptor")) (hm : MtR X id r) (ho : PE X o to) (ha : PA X (e :: es) t)
    (hbase : attributeBase o name X.env (eval o X.env) = eval o X.env := by rfl)
    (hfew : ((backTo cpos (starEach (e :: es) X.env)).all (fun x => !x.1) && (backToKw cpos (keywordEach [] X.env)).all (fun x => x.1.isSome)
      && decide ((e :: es).length + ([] : List Keyword).length + (if ([] : List Keyword).isEmpty then 0 else 1) < 30)) = true := by rfl)
    (hline : (apos.endLine == cpos.line) = true := by rfl) (hs : starEach (e :: es) X.env = (false, eval e X.env) :: starEach es X.env := by rfl) (hplain : (backTo cpos (starEach es X.env)).any (·.1) = false := by rfl) :
    PE X (.Call (.Attribute o name apos) (e :: es) [] cpos) (tBM K T r to t) := by subst h; exact pe_bm pa slot hty hm ho ha hbase hfew hline hs hplain
end
/-- nothing bound yet -/
theorem rep0 : List.replicate 0 (none : Option V) = [] := rfl
theorem rep1 : List.replicate 1 (none : Option V) = [none] := rfl
theorem rep2 : List.replicate 2 (none : Option V) = [none, none] := rfl
theorem rep3 : List.replicate 3 (none : Option V) = [none, none, none] := rfl
theorem rep4 : List.replicate 4 (none : Option V) = [none, none, none, none] := rfl
theorem rep5 : List.replicate 5 (none : Option V) = [none, none, none, none, none] := rfl
theorem rep6 : List.replicate 6 (none : Option V) = [none, none, none, none, none, none] := rfl
theorem rep7 : List.replicate 7 (none : Option V) = [none, none, none, none, none, none, none] := rfl
theorem rep8 : List.replicate 8 (none : Option V) = [none, none, none, none, none, none, none, none] := rfl
theorem rep9 : List.replicate 9 (none : Option V) = [none, none, none, none, none, none, none, none, none] := rfl
theorem rep10 : List.replicate 10 (none : Option V) = [none, none, none, none, none, none, none, none, none, none] := rfl
theorem rep11 : List.replicate 11 (none : Option V) = [none, none, none, none, none, none, none, none, none, none, none] := rfl
theorem rep12 : List.replicate 12 (none : Option V) = [none, none, none, none, none, none, none, none, none, none, none, none] := rfl
end L2
namespace L2
open PySem
theorem scal_ii {i j : Int} : scal (.int i) (.int j) = true := rfl
theorem scal_bb {i j : Bool} : scal (.bl i) (.bl j) = true := rfl
theorem scal_ss {i j : Str} : scal (.str i) (.str j) = true := rfl
theorem scal_nn : scal .non .non = true := rfl
theorem scal_in {i : Int} : scal (.int i) .non = true := rfl
theorem scal_ni {i : Int} : scal .non (.int i) = true := rfl
end L2

namespace L2
open PySem PySem.Spec PyProof.Rows
section
variable {K : PySem.W.Frag} {h : Heap} {mg : Str → Option Value}
theorem has_mk {x : Str} {st : Stmt} {ps : List Str} {f : Addr} {oc kV doc pm cd ct : Value} {od an : Option Addr} {sl : Array (Option Value)} (X : K.In h) (G : h.Ns mainGlobals mg) (a : PySem.W.nsIn K mainGlobals x = some (some (.ref f)))
    (l : K.lookup f = some ⟨oc, od, .func (PySem.W.fnOf x x (defArgs st) (defBody st) (defScope st) .none kV doc pm an cd ct), sl⟩) (c : PySem.W.codeIn K cd x = true) (k : PySem.W.keepIn K (.ref f) = true)
    (hb : ∀ (kV doc pm : Value) (an : Option Addr) (cdv ct : Value) (us : List Value), us.length = ps.length → bindArgs (PySem.W.fnOf x x (defArgs st) (defBody st) (defScope st) .none kV doc pm an cdv ct) ⟨us, []⟩ = pure (ps.zip us)) : ∃ f fd, Has K mg x st ps f fd := by
  have F := fun_mk (x := x) (qual := x) (st := st) l c k
  exact ⟨f, _, F, F.binds hb, PySem.W.mg_of X G a⟩
theorem exc_mk {x : Str} {C : Addr} (X : K.In h) (G : h.Ns mainGlobals mg) (a : PySem.W.nsIn K mainGlobals x = some (some (.ref C)))
    (q : PySem.W.excIn K C [.type "ValueError", .type "Exception", .type "BaseException", .type "object"] "ValueError.__new__" = true) : ∃ C, ExcCls K C ∧ mg x = some (.ref C) := ⟨C, q, PySem.W.mg_of X G a⟩
theorem gint_mk {x : Str} {i : Int} {t : Tok} (X : K.In h) (G : h.Ns mainGlobals mg) (a : PySem.W.nsIn K mainGlobals x = some (some (.int i t))) : GInt mg x i := ⟨t, PySem.W.mg_of X G a⟩
theorem none_mk {x : Str} (X : K.In h) (G : h.Ns mainGlobals mg) (a : PySem.W.nsIn K mainGlobals x = some none) : mg x = none := PySem.W.mg_none_of X G a
end
theorem cxf_no {P : Program} {w : World} {H : Hp} {s : Shared} {e : Value} {s' : Shared} (z : CXf P w [] H s (fun _ _ _ => False) e s') : False := by
  obtain ⟨_, _, _, _, _, f, _⟩ := z
  exact f
end L2

namespace L2
open PySem PySem.Spec PyProof.Rows PySem.SeqAt
mutual
inductive Dp (K : PySem.W.Frag) (H : Hp) : V → PyData → Prop
  | int (i : Int) : Dp K H (.int i) (.int i)
  | bl (b : Bool) : Dp K H (.bl b) (.bool b)
  | str (x : Str) : Dp K H (.str x) (.str x)
  | non : Dp K H .non .none
  | lst {a : Addr} {xs : List V} {ds : List PyData} : SqL K H a xs → DpAll K H xs ds → Dp K H (.ref a) (.list ds)
  | tup {a : Addr} {xs : List V} {ds : List PyData} : SqT K H a xs → DpAll K H xs ds → Dp K H (.ref a) (.tuple ds)
inductive DpAll (K : PySem.W.Frag) (H : Hp) : List V → List PyData → Prop
  | nil : DpAll K H [] []
  | cons {x : V} {d : PyData} {xs : List V} {ds : List PyData} : Dp K H x d → DpAll K H xs ds → DpAll K H (x :: xs) (d :: ds)
end
section
variable {X : Cx} {pins : List (Addr × Obj)} {σ : St} {H : Hp} {s : Shared}
mutual
theorem Dp.reads {K : PySem.W.Frag} {x : V} {d : PyData} (e : X.K = K) (I : Inv X pins σ H s) : Dp K H x d → ∀ v, RelV x v → ∃ as, Reads s.heap v d as
  | .int i, v, r => by obtain ⟨t, rfl⟩ := r; exact ⟨_, .int i t⟩
  | .bl b, v, r => by cases r; exact ⟨_, .bool b⟩
  | .str x, v, r => by obtain ⟨t, rfl⟩ := r; exact ⟨_, .str x t⟩
  | .non, v, r => by cases r; exact ⟨_, .none⟩
  | .lst h q, v, r => by
    subst e
    cases r
    obtain ⟨its, rv, ⟨o, n, e, hc, _, hd⟩, _⟩ := I.list h
    obtain ⟨as, ra⟩ := DpAll.reads rfl I q its rv
    exact ⟨_, .list e hc hd (by simpa using ra)⟩
  | .tup h q, v, r => by
    subst e
    cases r
    obtain ⟨its, rv, ⟨o, e, hc, n, hd⟩, _⟩ := I.tuple h
    obtain ⟨as, ra⟩ := DpAll.reads rfl I q its rv
    exact ⟨_, .tuple e hc hd (by simpa using ra)⟩
theorem DpAll.reads {K : PySem.W.Frag} {xs : List V} {ds : List PyData} (e : X.K = K) (I : Inv X pins σ H s) : DpAll K H xs ds → ∀ vs, Vals xs vs → ∃ as, ReadsAll s.heap vs ds as
  | .nil, vs, r => by cases r; exact ⟨_, .nil⟩
  | .cons h t, vs, r => by
    cases r with
    | cons r1 r2 =>
      obtain ⟨as, ra⟩ := Dp.reads e I h _ r1
      obtain ⟨bs, rb⟩ := DpAll.reads e I t _ r2
      exact ⟨_, .cons ra rb⟩
end
end
mutual
theorem noMix_self : ∀ d : PyData, d.canLay0 = true → noMix d d = true
  | .none, _ => by simp [noMix]
  | .bool _, _ => by simp [noMix]
  | .int _, _ => by simp [noMix]
  | .str _, _ => by simp [noMix]
  | .list xs, h => by rw [noMix]; exact noMixAll_self xs (by rwa [PyData.canLay0] at h)
  | .tuple xs, h => by rw [noMix]; exact noMixAll_self xs (by rwa [PyData.canLay0] at h)
  | .dict _, h => by simp [PyData.canLay0] at h
theorem noMixAll_self : ∀ ds : List PyData, PyData.canLayAll0 ds = true → noMixAll ds ds = true
  | [], _ => by simp [noMixAll]
  | d :: r, h => by
    rw [PyData.canLayAll0, Bool.and_eq_true] at h
    rw [noMixAll, noMix_self d h.1, noMixAll_self r h.2]
    rfl
end
def rEqS (K : PySem.W.Frag) (neg : Bool) : R2 := fun x y H Q => ∃ d, Dp K H x d ∧ Dp K H y d ∧ shaped d = true ∧ Q (.bl (!neg)) H
section
variable {X : Cx} {K : PySem.W.Frag}
theorem op_neS (e : X.K = K) (hu : X.A.units + 64 < cLine) : OpR X (compareOp .NotEq) (rEqS K true) := by
  intro pins s σ H x y v u Q I rx ry h
  obtain ⟨d, hx, hy, hs, q⟩ := h
  obtain ⟨_, ra⟩ := hx.reads e I v rx
  obtain ⟨_, rb⟩ := hy.reads e I u ry
  exact ne_dataH_same ra rb hs hs hu (noMix_self d (canLay_of_shaped hs)) ⟨.bl false, H, I, by rw [same_self]; rfl, q⟩
end
theorem canLayAll_of {ds : List PyData} (h : ∀ d ∈ ds, d.canLay0 = true) : PyData.canLayAll0 ds = true := by
  induction ds with
  | nil => rfl
  | cons d r ih =>
    rw [PyData.canLayAll0, h d List.mem_cons_self, ih fun x hx => h x (List.mem_cons_of_mem _ hx)]
    rfl
theorem depthAll_of {k : Nat} {ds : List PyData} (h : ∀ d ∈ ds, d.depth ≤ k) : PyData.depthAll ds ≤ k := by
  induction ds with
  | nil => simp [PyData.depthAll]
  | cons d r ih =>
    rw [PyData.depthAll]
    exact Nat.max_le.mpr ⟨h d List.mem_cons_self, ih fun x hx => h x (List.mem_cons_of_mem _ hx)⟩
theorem shaped_of {d : PyData} (h1 : d.canLay0 = true) (h2 : d.depth ≤ 64) : shaped d = true := by
  unfold shaped
  rw [h1, decide_eq_true h2]
  rfl
end L2

namespace L2
open PySem PySem.Spec PyProof.Rows
def rSorted (K : PySem.W.Frag) : List V → Hp → VK → Prop := fun xs H Q => ∃ (a : Addr) (ns : List Int), xs = [.ref a] ∧ SqL K H a (ns.map V.int) ∧ ns.length < 64 ∧
  ∀ (l : Addr) (ms : List Int), H l = none → ms.Perm ns → ms.Pairwise (· ≤ ·) → Q (.ref l) (upd H l (.lst (ms.map V.int)))
theorem kit_tuple_tuple {K : PySem.W.Frag} : PySem.W.kitOne K (.type "tuple") (.type "tuple") = some true := by rfl
end L2

namespace L2
open PySem PySem.Spec PyProof.Rows
section
variable {X : Cx} {pins : List (Addr × Obj)} {σ : St} {H : Hp} {s : Shared}
end
/-- an own class of exceptions: what stands behind it in its row of classes -/
def ClsX (K : PySem.W.Frag) (C : Addr) (bm : List Value) : Prop := ∃ nm qn N bs hdct sn sub ab col dd k0 k1 k2 k3 k5, K.lookup C = some (excClassObj nm qn C N bs bm hdct sn sub ab col dd k0 k1 k2 k3 k5 "ValueError.__new__") ∧ bm.contains (.type "BaseException") = true
/-- whether the one is of the other -/
def SubC (K : PySem.W.Frag) (C C1 : Addr) (b : Bool) : Prop := (∃ bm, ClsX K C bm ∧ (Value.ref C :: bm).contains (.ref C1) = b) ∧ ∃ bm, ClsX K C1 bm
/-- what is wanted of the clauses, by the exception's class and dict -/
abbrev TH := Addr → Option Addr → TS
/-- an exception under a name -/
def excO (a C : Addr) (da : Option Addr) : HO := .ext fun h => ∃ oe vs, h.get? a = some oe ∧ oe.cls = .ref C ∧ oe.dict = da ∧ oe.data = .fields vs
/-- the name goes at the end -/
def Ends.less (D : Ends) (i : Nat) : Ends := { nx := fun σ H => D.nx (σ.set i none) H, rt := D.rt, bk := fun σ H => D.bk (σ.set i none) H, ct := fun σ H => D.ct (σ.set i none) H }
def thNil : TH := fun _ _ _ _ _ => False
def thC (K : PySem.W.Frag) (C1 : Addr) (ts : TS) (th : TH) : TH := fun C da D σ H => ∃ b, SubC K C C1 b ∧ if b = true then ts D σ H else th C da D σ H
def thA (K : PySem.W.Frag) (C1 : Addr) (i : Nat) (ts : TS) (th : TH) : TH := fun C da D σ H => ∃ b, SubC K C C1 b ∧ if b = true then ∀ a, H a = none → ts (D.less i) (σ.set i (some (.ref a))) (upd H a (excO a C da)) else th C da D σ H
section
variable {X : Cx} {hs : List ExceptHandler} {th : TH} {C1 : Addr} {c y : Str} {np hpos : Pos} {b0 : Stmt} {suite : List Stmt} {ts : TS} {i : Nat} {K : PySem.W.Frag}
end
section
variable {X : Cx} {k : Nat} {f : Addr} {fd : FuncData} {ps : List Str} {sp : Sp} {fx y : Str} {p pos apos cpos py : Pos} {e : Expr} {es : List Expr} {t : TA} {i : Nat} {h0 : ExceptHandler} {hs : List ExceptHandler} {th : TH}
def tTryA (t : TA) (sp : Sp) (i : Nat) (th : TH) : TS := fun D σ H => t σ H fun vs H1 => sp vs H1 (fun v H2 => D.nx (σ.set i (some v)) H2) fun cls da H2 => ∃ C, cls = .ref C ∧ th C da D σ H2
def tTryE (t : TA) (sp : Sp) (th : TH) : TS := fun D σ H => t σ H fun vs H1 => sp vs H1 (fun _ H2 => D.nx σ H2) fun cls da H2 => ∃ C, cls = .ref C ∧ th C da D σ H2
end
def tTryC (t : TA) (sp : Sp) (dvs : List V) (i : Nat) (C : Addr) (ts : TS) : TS := fun D σ H => t σ H fun vs H1 => sp (vs ++ dvs) H1 (fun v H2 => D.nx (σ.set i (some v)) H2) fun cls _ H2 => cls = .ref C ∧ ts D σ H2
section
variable {X : Cx} {k : Nat} {C : Addr} {ps : List Str} {sp : Sp} {x y c : Str} {p pos apos cpos py np hpos : Pos} {e : Expr} {es : List Expr} {t : TA} {i : Nat} {b0 : Stmt} {suite : List Stmt} {ts : TS}
end
end L2

namespace L2
open PySem PySem.Spec PyProof.Rows
end L2

namespace L2
open PySem PySem.Spec PyProof.Rows PySem.W
section
variable {prog : Program} {w : World} {A : Around} {E : Value → Shared → Prop} {s : Shared} {K : PySem.W.Frag} {x C B : Addr} {name : Str} {v : Value} {ox : Obj} {cd : ClassData}
end
end L2

namespace L2
open PySem PySem.Spec PyProof.Rows PySem.W
/-- a class under a class under ValueError, whose instances have a dict -/
structure XCls (K : PySem.W.Frag) (C B : Addr) : Prop where
  ga : findIn K (.ref C) "__getattribute__" = some (some (.builtin "BaseException.__getattribute__"))
  gt : findIn K (.ref C) "__getattr__" = some none
  sa : findIn K (.ref C) "__setattr__" = some (some (.builtin "object.__setattr__"))
  cl : ∃ cd, clsIn K C = some cd ∧ cd.mro = [.ref C, .ref B, .type "ValueError", .type "Exception", .type "BaseException", .type "object"] ∧ cd.hasDict = true
/-- no attribute f in its classes -/
def NoX (K : PySem.W.Frag) (C : Addr) (f : Str) : Prop := findIn K (.ref C) f = some none
/-- e.f, a field of a caught exception -/
def tXF (K : PySem.W.Frag) (ta : TE) (f : Str) : TE := fun σ H Q => ta σ H fun x H1 => ∃ a C B dx fs v, x = .ref a ∧ H1 a = some (excO a C (some dx)) ∧ H1 dx = some (.xd fs) ∧ XCls K C B ∧ NoX K C f ∧ fs.lookup f = some v ∧ Q v H1
section
variable {X : Cx} {e o value : Expr} {f : Str} {pos pos' : Pos} {ta tv : TE} {K : PySem.W.Frag}
end
/-- a new exception, its dict not yet made; the same with its dict -/
def excN (a C : Addr) (a0 : Value) : HO := .ext fun h => h.get? a = some { cls := .ref C, data := .fields #[a0, .none, .none, .none, .bool false, .none] }
def excD (a C : Addr) (a0 : Value) (dx : Addr) : HO := .ext fun h => h.get? a = some { cls := .ref C, dict := some dx, data := .fields #[a0, .none, .none, .none, .bool false, .none] }
/-- e.f = value, the first field of a new exception -/
def sXF (K : PySem.W.Frag) (ta tv : TE) (f : Str) : TS := fun D σ H => tv σ H fun y H1 => ta σ H1 fun x H2 => ∃ a C B a0, x = .ref a ∧ H2 a = some (excN a C a0) ∧ XCls K C B ∧ NoX K C f ∧ ∀ dx, H2 dx = none → D.nx σ (upd (upd H2 a (excD a C a0 dx)) dx (.xd [(f, y)]))
section
variable {X : Cx} {e o value : Expr} {f : Str} {pos pos' : Pos} {ta tv : TE} {K : PySem.W.Frag}
end
/-- no longer held -/
def cutH (H : Hp) (a : Addr) : Hp := fun b => if b = a then none else H b
section
variable {X : Cx} {pins : List (Addr × Obj)} {σ : St} {H : Hp} {s : Shared} {a : Addr} {φ : Heap → Prop}
end
end L2

namespace L2
open PySem PySem.Spec PyProof.Rows PySem.W
section
variable {prog : Program} {w : World} {A : Around} {E : Value → Shared → Prop} {h : Heap} {g : Array GenState} {d : Drawn} {t : Nat} {os : OsState} {K : PySem.W.Frag}
variable {nm q : Str} {C N f : Addr} {bs bm bmB : List Value} {hdct : Bool} {sn : List Str} {sub : List Value} {ab : Bool} {col : Option Bool} {dd : Option Addr} {k0 k1 k2 k3 k5 : Option Value} {B newId initId : String}
end
end L2

namespace L2
open PySem PySem.Spec PyProof.Rows PySem.W
/-- a class of exceptions whose __init__ is the def f -/
structure InitX (K : PySem.W.Frag) (C f : Addr) : Prop where
  kp : keepIn K (.ref C) = true
  ini : findIn K (.ref C) "__init__" = some (some (.ref f))
  fn : typeIn K (.ref f) = some (.type "function")
  cl : ∃ nm qn N bs bm hdct sn sub ab col dd k0 k1 k2 k3 k5, K.lookup C = some (excClassObj nm qn C N bs bm hdct sn sub ab col dd k0 k1 k2 k3 k5 "ValueError.__new__") ∧ tailIn K [.type "ValueError", .type "Exception", .type "BaseException", .type "object"] bm = true
section
variable {M : Model} {A : Around} {E : Value → Shared → Prop} {env : Env} {K : PySem.W.Frag} {C f : Addr}
end
/-- what is wanted of raise C(..): the __init__'s promise over the new exception -/
def tRaiseI (t : TA) (C : Addr) (sp : Sp) (E : XK) : TS := fun _ σ H => t σ H fun vs H1 => vs.length ≤ 10 ∧ ∀ a a0, H1 a = none → sp (.ref a :: vs) (upd H1 a (excN a C a0)) (fun v H2 => v = .non ∧ ∃ dx, H2 a = some (excD a C a0 dx) ∧ E (.ref C) (some dx) (cutH H2 a)) (fun _ _ _ => False)
section
variable {X : Cx} {k : Nat} {f C : Addr} {fd : FuncData} {ps : List Str} {sp : Sp} {E : XK} {x : Str} {np cpos pos : Pos} {e : Expr} {es : List Expr} {t : TA}
end
end L2

namespace L2
open PySem PySem.Spec PyProof.Rows
section
variable {X : Cx}
/-- a op1 b op2 c op3 d -/
def tChain3 (r1 r2 r3 : R2) (ta tb tc td : TE) : TE := fun σ H Q => ta σ H fun x H1 => tb σ H1 fun y H2 => r1 x y H2 fun z H3 => ∃ k, z = .bl k ∧
  (if k = true then tc σ H3 fun v H4 => r2 y v H4 fun z2 H5 => ∃ k2, z2 = .bl k2 ∧ (if k2 = true then td σ H5 fun u H6 => r3 v u H6 Q else Q (.bl false) H5) else Q (.bl false) H3)
end
end L2

namespace PySem
namespace F
end F
section
variable {prog : Program} {w : World} {A : Around} {E : Value → Shared → Prop} {s : Shared}
end
end PySem
namespace L2
open PySem PySem.Spec PyProof.Rows
section
variable {X : Cx} {K : PySem.W.Frag} {e : Expr} {te : TE} {p1 p2 pos1 pos2 : Pos}
def tListRev (K : PySem.W.Frag) (te : TE) : TE := fun σ H Q => te σ H fun x H1 => ∃ p ys, x = .ref p ∧ SqL K H1 p ys ∧ ∀ l, H1 l = none → Q (.ref l) (upd H1 l (.lst ys.reverse))
end
end L2

namespace L2
open PySem PySem.Spec PyProof.Rows PySem.W
section
variable {prog : Program} {w : World} {A : Around} {E : Value → Shared → Prop} {s : Shared} {K : PySem.W.Frag} {x C : Addr} {name : Str} {ox : Obj} {od : Option Obj}
/-- what isinstance asks of the class of an exception -/
structure XIs (K : PySem.W.Frag) (C : Addr) : Prop where
  cl : (clsIn K C).isSome = true
  ga : findIn K (.ref C) "__getattribute__" = some (some (.builtin "BaseException.__getattribute__"))
  gt : findIn K (.ref C) "__getattr__" = some none
  mb : mroIn K C (.type "BaseException") = some true
  mo : mroIn K C (.type "object") = some true
  ca : findIn K (.ref C) "__class__" = some (some (.builtin "object.__class__"))
  cn : specialIn K (.builtin "object.__class__") "__get__" = some (some (.builtin "getset_descriptor.__get__"))
  ct : takesIn K (.builtin "object.__class__") = some true
end
section
variable {X : Cx} {K : PySem.W.Frag}
def rIsX (K : PySem.W.Frag) : List V → Hp → VK → Prop := fun xs H Q => ∃ (a C C1 : Addr) (b : Bool), xs = [.ref a, .ref C1] ∧ H a = some (excO a C none) ∧ XIs K C ∧ kitOne K (.ref C) (.ref C1) = some b ∧ Q (.bl b) H
def rIsXT (K : PySem.W.Frag) : List V → Hp → VK → Prop := fun xs H Q => ∃ (a C t : Addr) (cs : List Addr) (b : Bool), xs = [.ref a, .ref t] ∧ H a = some (excO a C none) ∧ H t = some (.tup (cs.map V.ref)) ∧ XIs K C ∧ kitAny K (.ref C) (cs.map Value.ref) = some b ∧ Q (.bl b) H
theorem vals_refs : ∀ {cs : List Addr} {us : List Value}, Vals (cs.map V.ref) us → us = cs.map Value.ref
  | [], _, .nil => rfl
  | _ :: _, _, .cons h q => by
    cases h
    rw [vals_refs q]
    rfl
end
end L2

namespace L2
open PySem PySem.Spec PyProof.Rows
section
variable {X : Cx}
def rIndex : V → List V → Hp → VK → Prop := fun x vs H Q => ∃ (l : Addr) (ns : List Int) (k : Int) (j : Nat), x = .ref l ∧ vs = [.int k] ∧ H l = some (.lst (ns.map V.int)) ∧ ns[j]? = some k ∧ (∀ m, m < j → ns[m]? ≠ some k) ∧ Q (.int j) H
theorem mt_index : MtM X "list.index" rIndex := by
  intro pins s σ H x vs v us Q I rx rv h
  obtain ⟨l, ns, k, j, rfl, rfl, hH, hj, hno, q⟩ := h
  cases rx
  obtain ⟨u, rfl, ru⟩ := rv.one
  obtain ⟨z, its, n, r, hl, e⟩ := I.lstM hH
  have hlen := r.length
  have hjl := (List.getElem?_eq_some_iff.mp hj).1
  have hjs : j < its.toArray.size := by rw [List.size_toArray, ← hlen, List.length_map]; exact hjl
  have zb : ns.length ≤ sizeLine := by simpa using z
  have at_ : ∀ m (hm : m < its.toArray.size), ∃ t, its.toArray[m] = .int (ns.getD m 0) t := fun m hm => by
    have hm' : m < ns.length := by rw [List.size_toArray, ← hlen, List.length_map] at hm; exact hm
    obtain ⟨w', e1, e2⟩ := r.get (i := m) (x := V.int (ns.getD m 0)) (by rw [List.getElem?_map, List.getElem?_eq_getElem hm']; simp [List.getD_eq_getElem?_getD, List.getElem?_eq_getElem hm'])
    obtain ⟨t, e2⟩ := (show ∃ t, w' = Value.int (ns.getD m 0) t from e2)
    refine ⟨t, ?_⟩
    rw [List.getElem_toArray, ← e2]
    exact Option.some.inj ((List.getElem?_eq_getElem _).symm.trans e1)
  have eqi : ∀ a b : Int, eqV (.int a) (.int b) = decide (a = b) := fun a b => by
    unfold eqV
    by_cases h : a = b
    · simp [h]
    · simp [h]
  have fl : (ns.map V.int).all flatV = true := by simp [List.all_eq_true, flatV]
  have hsm : (j : Int) < 2 ^ 63 - 1 := by
    have : sizeLine < 2 ^ 62 := by decide
    omega
  refine call_meets F.slot_list_index ⟨_, e, rfl⟩ F.entry_list_index (F.args_list_index_2 _ _) (SeqAt.list_indexAt l its.toArray n none #[] u (eqU (.int k)) j hjs hsm ?_ ?_) ⟨e, fun y hy => mem_eqAt ru rfl r fl y (by simpa using hy), ⟨.int j, H, I.tok _, ⟨_, rfl⟩, q⟩⟩
  · obtain ⟨t, et⟩ := at_ j hjs
    rw [et]
    show eqV (.int (ns.getD j 0)) (.int k) = true
    rw [eqi, List.getD_eq_getElem?_getD, hj]
    simp
  · intro m hm hmj
    obtain ⟨t, et⟩ := at_ m hm
    rw [et]
    show eqV (.int (ns.getD m 0)) (.int k) = false
    rw [eqi]
    refine decide_eq_false fun ez => hno m hmj ?_
    have hm' : m < ns.length := by omega
    rw [List.getD_eq_getElem?_getD, List.getElem?_eq_getElem hm'] at ez
    rw [List.getElem?_eq_getElem hm']
    exact congrArg some ez
end
end L2

namespace PyProof.Rows.TS
open PySem PyProof.Rows
/-- by what is sorted: the kind, the key, what may stand there -/
class KeyC where
  κ : SortKind
  kf : Keyed → Int
  ok : Keyed → Prop
class KeyLt (prog : Program) (w : World) (A : Around) (E : Value → Shared → Prop) (s : Shared) [KeyC] : Prop where
  lt : ∀ {st : SortSt} {x y : Keyed} {Q : Option Bool → SortSt → Prop}, kindOf st = KeyC.κ → KeyC.ok x → KeyC.ok y → Q (some (decide (KeyC.kf x < KeyC.kf y))) st → wpS (model prog w) A E s (lt' x y) Q st
variable [KeyC]
def IntK (p : Keyed) : Prop := KeyC.ok p
def keyOf (p : Keyed) : Int := KeyC.kf p
def K (xs : Array Keyed) (i : Nat) : Int := match xs[i]? with
  | some p => keyOf p
  | none => 0
theorem K_congr {xs ys : Array Keyed} {i j : Nat} (h : xs[i]? = ys[j]?) : K xs i = K ys j := by
  show (match xs[i]? with | some p => keyOf p | none => 0) = (match ys[j]? with | some p => keyOf p | none => 0)
  rw [h]
theorem K_mirror {xs : Array Keyed} {i j : Nat} (hj : j ≤ xs.size) (k : Nat) : K (mirror xs i j ((j - i) / 2)) k = if i ≤ k ∧ k < j then K xs (i + j - 1 - k) else K xs k := by
  have e := getElem?_mirror_all (i := i) hj k
  by_cases c : i ≤ k ∧ k < j
  · rw [if_pos c] at e ⊢
    exact K_congr e
  · rw [if_neg c] at e ⊢
    exact K_congr e
theorem K_mirror_equal {xs : Array Keyed} {i j : Nat} (hj : j ≤ xs.size) (q : ∀ k, i ≤ k → k < j → K xs k = K xs (j - 1)) (k : Nat) : K (mirror xs i j ((j - i) / 2)) k = K xs k := by
  rw [K_mirror hj]
  by_cases c : i ≤ k ∧ k < j
  · rw [if_pos c, q _ (by omega) (by omega), q k c.1 c.2]
  · rw [if_neg c]
theorem K_bubble {xs : Array Keyed} {src d : Nat} (hs : src < xs.size) (hd : d ≤ src) (k : Nat) : K (bubble xs src d) k = if k = src - d then K xs src else if src - d < k ∧ k ≤ src then K xs (k - 1) else K xs k := by
  have e := getElem?_bubble hs d hd k
  by_cases c : k = src - d
  · rw [if_pos c] at e ⊢
    exact K_congr e
  · rw [if_neg c] at e ⊢
    by_cases c' : src - d < k ∧ k ≤ src
    · rw [if_pos c'] at e ⊢
      exact K_congr e
    · rw [if_neg c'] at e ⊢
      exact K_congr e
def gallop' : Bool → Keyed → Array Keyed → Nat → Nat → Nat → StateT SortSt Sem (Option Nat) := sortPriv% PySem.Builtin.gallop
def mergeLo' : Array Keyed → Array Keyed → StateT SortSt Sem (Array Keyed) := sortPriv% PySem.Builtin.mergeLo
def mergeHi' : Array Keyed → Array Keyed → StateT SortSt Sem (Array Keyed) := sortPriv% PySem.Builtin.mergeHi
theorem gallop'_eq (left : Bool) (key : Keyed) (arr : Array Keyed) (base n hint : Nat) : gallop' left key arr base n hint = (do
  let beyond (i : Nat) : StateT SortSt Sem (Option Bool) := do
    let x ← elem' arr (base + i)
    if left then lt' x key else return (← lt' key x).map (!·)
  let mut lst := 0
  let mut of_ := 1
  let mut lo := 0
  let mut hi := 0
  let some rt_ ← beyond hint | return none
  if rt_ then
    let mx := n - hint
    for _ in [0:n] do
      if of_ ≥ mx then break
      let some more ← beyond (hint + of_) | return none
      if !more then break
      lst := of_
      of_ := 2 * of_ + 1
    lo := hint + lst + 1
    hi := hint + min of_ mx
  else
    let mx := hint + 1
    for _ in [0:n] do
      if of_ ≥ mx then break
      let some found ← beyond (hint - of_) | return none
      if found then break
      lst := of_
      of_ := 2 * of_ + 1
    lo := hint + 1 - min of_ mx
    hi := hint - lst
  for _ in [0:n] do
    if lo ≥ hi then break
    let m := lo + (hi - lo) / 2
    let some more ← beyond m | return none
    if more then lo := m + 1 else hi := m
  return some hi) := rfl
section
variable {prog : Program} {w : World} {A : Around} {E : Value → Shared → Prop} {s : Shared} [KeyLt prog w A E s]
theorem wpS_lt {st : SortSt} {x y : Keyed} {Q : Option Bool → SortSt → Prop} (hk : kindOf st = KeyC.κ) (hx : IntK x) (hy : IntK y) (h : Q (some (decide (keyOf x < keyOf y))) st) : wpS (model prog w) A E s (lt' x y) Q st := KeyLt.lt hk hx hy h
end
/-- whether an element lies ahead of the place -/
def bey (left : Bool) (key : Keyed) (arr : Array Keyed) (base : Nat) (i : Nat) : Bool := match arr[base + i]? with
  | some x => if left then decide (keyOf x < keyOf key) else !decide (keyOf key < keyOf x)
  | none => false
section
variable {prog : Program} {w : World} {A : Around} {E : Value → Shared → Prop} {s : Shared} [KeyLt prog w A E s]
theorem wpS_beyond {st : SortSt} {left : Bool} {key : Keyed} {arr : Array Keyed} {base i : Nat} {Q : Option Bool → SortSt → Prop} (hk : kindOf st = KeyC.κ) (hkey : IntK key) (hx : ∃ x, arr[base + i]? = some x ∧ IntK x)
    (h : Q (some (bey left key arr base i)) st) : wpS (model prog w) A E s (do let x ← elem' arr (base + i); if left then lt' x key else return (← lt' key x).map (!·)) Q st := by
  obtain ⟨x, ex, ix⟩ := hx
  unfold bey at h
  rw [ex] at h
  rw [elem'_eq, ex]
  refine wpS_bind (wpS_pure ?_)
  cases left with
  | true =>
    simp only [if_true] at h ⊢
    exact wpS_lt hk ix hkey h
  | false =>
    simp only [Bool.false_eq_true, if_false] at h ⊢
    exact wpS_bind (wpS_lt hk hkey ix (wpS_pure h))
theorem wpS_gallop {st : SortSt} {left : Bool} {key : Keyed} {arr : Array Keyed} {base n hint : Nat} {Q : Option Nat → SortSt → Prop} (hk : kindOf st = KeyC.κ) (hkey : IntK key) (hh : hint < n) (hx : ∀ i, i < n → ∃ x, arr[base + i]? = some x ∧ IntK x)
    (anti : ∀ i j, i ≤ j → j < n → bey left key arr base j = true → bey left key arr base i = true)
    (h : ∀ k, k ≤ n → (∀ i, i < k → bey left key arr base i = true) → (∀ i, k ≤ i → i < n → bey left key arr base i = false) → Q (some k) st) : wpS (model prog w) A E s (gallop' left key arr base n hint) Q st := by
  have down : ∀ i j, i ≤ j → j < n → bey left key arr base i = false → bey left key arr base j = false := fun i j hij hj hf => by
    cases e : bey left key arr base j with
    | false => rfl
    | true => rw [anti i j hij hj e] at hf; cases hf
  rw [gallop'_eq]
  dsimp only
  refine wpS_bind (wpS_beyond hk hkey (hx _ hh) ?_)
  dsimp only
  have st1 : ∀ lo hi : Nat, lo ≤ hi → hi ≤ n → (∀ i, i < lo → bey left key arr base i = true) → (∀ i, hi ≤ i → i < n → bey left key arr base i = false) → ∀ (f : Nat → Option (Option Nat) × Nat × Nat → StateT SortSt Sem (ForInStep (Option (Option Nat) × Nat × Nat))) (g : Option (Option Nat) × Nat × Nat → StateT SortSt Sem (Option Nat)),
      (∀ x c, f x c = if c.2.1 ≥ c.2.2 then pure (ForInStep.done (none, c.2.1, c.2.2)) else (do let x ← elem' arr (base + (c.2.1 + (c.2.2 - c.2.1) / 2)); if left then lt' x key else return (← lt' key x).map (!·)) >>= fun y => match y with
        | some more => if more = true then pure (ForInStep.yield (none, c.2.1 + (c.2.2 - c.2.1) / 2 + 1, c.2.2)) else pure (ForInStep.yield (none, c.2.1, c.2.1 + (c.2.2 - c.2.1) / 2))
        | none => pure (ForInStep.done (some none, c.2.1, c.2.2))) → (∀ l : Nat, g (none, l, l) = pure (some l)) →
      wpS (model prog w) A E s (forIn [0:n] ((none : Option (Option Nat)), lo, hi) f >>= g) Q st := by
    intro lo hi hlh hhn b1 b2 f g hf hg
    refine wpS_bind (wpS_mono (wpS_forRange (I := fun x c st' => st' = st ∧ ∃ l r, c = (none, l, r) ∧ l ≤ r ∧ r ≤ n ∧ r - l ≤ n - x ∧ (∀ i, i < l → bey left key arr base i = true) ∧ (∀ i, r ≤ i → i < n → bey left key arr base i = false))
      (Q := fun c st' => st' = st ∧ ∃ l, c = (none, l, l) ∧ l ≤ n ∧ (∀ i, i < l → bey left key arr base i = true) ∧ (∀ i, l ≤ i → i < n → bey left key arr base i = false)) ?step ?fin ?init) ?post)
    case init => exact ⟨rfl, lo, hi, rfl, hlh, hhn, by omega, b1, b2⟩
    case fin =>
      rintro c st' ⟨rfl, l, r, rfl, h1, h2, h3, h4, h5⟩
      have e : l = r := by omega
      subst e
      exact ⟨rfl, l, rfl, h2, h4, h5⟩
    case post =>
      rintro c st' ⟨rfl, l, rfl, h2, h4, h5⟩
      rw [hg]
      exact wpS_pure (h l h2 h4 h5)
    case step =>
      rintro x c st' _ hx' ⟨rfl, l, r, rfl, h1, h2, h3, h4, h5⟩
      rw [hf]
      dsimp only
      by_cases hge : l ≥ r
      · rw [if_pos hge]
        have e : l = r := by omega
        subst e
        exact wpS_pure ⟨rfl, l, rfl, h2, h4, h5⟩
      · rw [if_neg hge]
        refine wpS_bind (wpS_beyond hk hkey (hx _ (by omega)) ?_)
        dsimp only
        cases e : bey left key arr base (l + (r - l) / 2) with
        | true =>
          simp only [if_true]
          exact wpS_pure ⟨rfl, l + (r - l) / 2 + 1, r, rfl, by omega, h2, by omega, fun i hi' => anti i _ (by omega) (by omega) e, h5⟩
        | false =>
          simp only [Bool.false_eq_true, if_false]
          exact wpS_pure ⟨rfl, l, l + (r - l) / 2, rfl, by omega, by omega, by omega, h4, fun i hi' hn' => down _ i hi' hn' e⟩
  cases e0 : bey left key arr base hint with
  | true =>
    simp only [if_true]
    refine wpS_bind (wpS_mono (wpS_forRange (I := fun x c st' => st' = st ∧ ∃ lo ofs, c = (none, lo, ofs) ∧ lo < ofs ∧ x + 1 ≤ ofs ∧ hint + lo < n ∧ bey left key arr base (hint + lo) = true)
      (Q := fun c st' => st' = st ∧ ∃ lo ofs, c = (none, lo, ofs) ∧ lo < ofs ∧ hint + lo < n ∧ bey left key arr base (hint + lo) = true ∧ (n - hint ≤ ofs ∨ (hint + ofs < n ∧ bey left key arr base (hint + ofs) = false))) ?step ?fin ?init) ?post)
    case init => exact ⟨rfl, 0, 1, rfl, by omega, by omega, by omega, e0⟩
    case fin =>
      rintro c st' ⟨rfl, lo, ofs, rfl, h1, h2, h3, h4⟩
      exact ⟨rfl, lo, ofs, rfl, h1, h3, h4, .inl (by omega)⟩
    case step =>
      rintro x c st' _ hx' ⟨rfl, lo, ofs, rfl, h1, h2, h3, h4⟩
      dsimp only
      by_cases hge : ofs ≥ n - hint
      · rw [if_pos hge]
        exact wpS_pure ⟨rfl, lo, ofs, rfl, h1, h3, h4, .inl hge⟩
      · rw [if_neg hge]
        refine wpS_bind (wpS_beyond hk hkey (hx _ (by omega)) ?_)
        dsimp only
        cases e : bey left key arr base (hint + ofs) with
        | true =>
          simp only [Bool.not_true, Bool.false_eq_true, if_false]
          exact wpS_pure ⟨rfl, ofs, 2 * ofs + 1, rfl, by omega, by omega, by omega, e⟩
        | false =>
          simp only [Bool.not_false, if_true]
          exact wpS_pure ⟨rfl, lo, ofs, rfl, h1, h3, h4, .inr ⟨by omega, e⟩⟩
    case post =>
      rintro c st' ⟨rfl, lo, ofs, rfl, h1, h3, h4, h5⟩
      dsimp only
      refine st1 _ _ (by omega) (by omega) (fun i hi' => anti i _ (by omega) h3 h4) (fun i hi' hn' => ?_) _ _ (fun x c => ?_) (fun l => rfl)
      · rcases h5 with h5 | ⟨h5, h6⟩
        · omega
        · exact down _ i (by omega) hn' h6
      · by_cases hc : c.2.1 ≥ c.2.2
        · rw [if_pos hc, if_pos hc]
        · rw [if_neg hc, if_neg hc]
          refine congrArg _ (funext fun y => ?_)
          cases y <;> rfl
  | false =>
    simp only [Bool.false_eq_true, if_false]
    refine wpS_bind (wpS_mono (wpS_forRange (I := fun x c st' => st' = st ∧ ∃ lo ofs, c = (none, lo, ofs) ∧ lo < ofs ∧ x + 1 ≤ ofs ∧ lo ≤ hint ∧ bey left key arr base (hint - lo) = false)
      (Q := fun c st' => st' = st ∧ ∃ lo ofs, c = (none, lo, ofs) ∧ lo < ofs ∧ lo ≤ hint ∧ bey left key arr base (hint - lo) = false ∧ (hint + 1 ≤ ofs ∨ (ofs ≤ hint ∧ bey left key arr base (hint - ofs) = true))) ?step ?fin ?init) ?post)
    case init => exact ⟨rfl, 0, 1, rfl, by omega, by omega, by omega, e0⟩
    case fin =>
      rintro c st' ⟨rfl, lo, ofs, rfl, h1, h2, h3, h4⟩
      exact ⟨rfl, lo, ofs, rfl, h1, h3, h4, .inl (by omega)⟩
    case step =>
      rintro x c st' _ hx' ⟨rfl, lo, ofs, rfl, h1, h2, h3, h4⟩
      dsimp only
      by_cases hge : ofs ≥ hint + 1
      · rw [if_pos hge]
        exact wpS_pure ⟨rfl, lo, ofs, rfl, h1, h3, h4, .inl hge⟩
      · rw [if_neg hge]
        refine wpS_bind (wpS_beyond hk hkey (hx _ (by omega)) ?_)
        dsimp only
        cases e : bey left key arr base (hint - ofs) with
        | true =>
          simp only [if_true]
          exact wpS_pure ⟨rfl, lo, ofs, rfl, h1, h3, h4, .inr ⟨by omega, e⟩⟩
        | false =>
          simp only [Bool.false_eq_true, if_false]
          exact wpS_pure ⟨rfl, ofs, 2 * ofs + 1, rfl, by omega, by omega, by omega, e⟩
    case post =>
      rintro c st' ⟨rfl, lo, ofs, rfl, h1, h3, h4, h5⟩
      dsimp only
      refine st1 _ _ (by omega) (by omega) (fun i hi' => ?_) (fun i hi' hn' => down _ i (by omega) hn' h4) _ _ (fun x c => ?_) (fun l => rfl)
      · rcases h5 with h5 | ⟨h5, h6⟩
        · omega
        · exact anti i _ (by omega) (by omega) h6
      · by_cases hc : c.2.1 ≥ c.2.2
        · rw [if_pos hc, if_pos hc]
        · rw [if_neg hc, if_neg hc]
          refine congrArg _ (funext fun y => ?_)
          cases y <;> rfl
end
def LeK (x y : Keyed) : Prop := keyOf x ≤ keyOf y
/-- a merge under way: what is out, and what is left of both -/
structure MgL (out ra rb all : List Keyed) : Prop where
  perm : (out ++ (ra ++ rb)).Perm all
  srt : out.Pairwise LeK
  low : ∀ x ∈ out, ∀ y ∈ ra ++ rb, LeK x y
  sa : ra.Pairwise LeK
  sb : rb.Pairwise LeK
theorem MgL.takeA {out u ra rb all : List Keyed} (m : MgL out (u ++ ra) rb all) (h : ∀ x ∈ u, ∀ y ∈ rb, LeK x y) : MgL (out ++ u) ra rb all := by
  have sa := List.pairwise_append.mp m.sa
  refine ⟨?_, ?_, fun x hx y hy => ?_, sa.2.1, m.sb⟩
  · have := m.perm
    simpa [List.append_assoc] using this
  · refine List.pairwise_append.mpr ⟨m.srt, sa.1, fun x hx y hy => m.low x hx y ?_⟩
    exact List.mem_append_left _ (List.mem_append_left _ hy)
  · rcases List.mem_append.mp hx with hx | hx
    · refine m.low x hx y ?_
      rcases List.mem_append.mp hy with hy | hy
      · exact List.mem_append_left _ (List.mem_append_right _ hy)
      · exact List.mem_append_right _ hy
    · rcases List.mem_append.mp hy with hy | hy
      · exact sa.2.2 x hx y hy
      · exact h x hx y hy
theorem MgL.swap {out ra rb all : List Keyed} (m : MgL out ra rb all) : MgL out rb ra all :=
  ⟨(List.Perm.append_left _ List.perm_append_comm).trans m.perm, m.srt, fun x hx y hy => m.low x hx y (by rcases List.mem_append.mp hy with z | z; exact List.mem_append_right _ z; exact List.mem_append_left _ z), m.sb, m.sa⟩
theorem MgL.takeB {out u ra rb all : List Keyed} (m : MgL out ra (u ++ rb) all) (h : ∀ x ∈ u, ∀ y ∈ ra, LeK x y) : MgL (out ++ u) ra rb all := (m.swap.takeA h).swap
def Srt (all res : List Keyed) : Prop := res.Perm all ∧ res.Pairwise LeK
theorem MgL.endA {out ra all : List Keyed} (m : MgL out ra [] all) : Srt all (out ++ ra) := by
  have p := m.perm
  rw [List.append_nil] at p
  exact ⟨p, List.pairwise_append.mpr ⟨m.srt, m.sa, fun x hx y hy => m.low x hx y (List.mem_append_left _ hy)⟩⟩
theorem MgL.endB {out rb all : List Keyed} (m : MgL out [] rb all) : Srt all (out ++ rb) := m.swap.endA
theorem MgL.lastA {out rb all : List Keyed} {x : Keyed} (m : MgL out [x] rb all) (h : ∀ y ∈ rb, LeK y x) : Srt all (out ++ rb ++ [x]) := by
  have m2 := MgL.takeB (u := rb) (rb := []) (by rw [List.append_nil]; exact m) (fun y hy z hz => by rw [List.mem_singleton.mp hz]; exact h y hy)
  exact m2.endA
theorem mergeLo'_eq (a b : Array Keyed) : mergeLo' a b = (do
  rule "list.sort.merge-lo"
  let tot := a.size + b.size
  let fin_ (o_ : Array Keyed) (p_ q_ : Nat) := o_ ++ a.extract p_ a.size ++ b.extract q_ b.size
  let lastA_ (o_ : Array Keyed) (p_ q_ : Nat) := o_ ++ b.extract q_ b.size ++ a.extract p_ a.size
  let mut o_ : Array Keyed := #[← elem' b 0]
  let mut p_ := 0
  let mut q_ := 1
  if q_ == b.size then return fin_ o_ p_ q_
  if p_ + 1 == a.size then return lastA_ o_ p_ q_
  let mut mg_ := gallopOf (← get)
  for _ in [0:tot] do
    let mut ca_ := 0
    let mut cb_ := 0
    for _ in [0:tot] do
      let some bw_ ← lt' (← elem' b q_) (← elem' a p_) | return fin_ o_ p_ q_
      if bw_ then
        o_ := o_.push (← elem' b q_); q_ := q_ + 1; cb_ := cb_ + 1; ca_ := 0
        if q_ == b.size then return fin_ o_ p_ q_
        if cb_ ≥ mg_ then break
      else
        o_ := o_.push (← elem' a p_); p_ := p_ + 1; ca_ := ca_ + 1; cb_ := 0
        if p_ + 1 == a.size then return lastA_ o_ p_ q_
        if ca_ ≥ mg_ then break
    rule "list.sort.gallop"
    mg_ := mg_ + 1
    for _ in [0:tot] do
      if mg_ > 1 then mg_ := mg_ - 1
      modify fun s => SortSt.mk' (kindOf s) (arrOf s) (pendingOf s) mg_ (failedOf s)
      let some k ← gallop' false (← elem' b q_) a p_ (a.size - p_) 0 | return fin_ o_ p_ q_
      ca_ := k
      if k > 0 then
        o_ := o_ ++ a.extract p_ (p_ + k); p_ := p_ + k
        if p_ + 1 == a.size then return lastA_ o_ p_ q_
        if p_ == a.size then return fin_ o_ p_ q_
      o_ := o_.push (← elem' b q_); q_ := q_ + 1
      if q_ == b.size then return fin_ o_ p_ q_
      let some k ← gallop' true (← elem' a p_) b q_ (b.size - q_) 0 | return fin_ o_ p_ q_
      cb_ := k
      if k > 0 then
        o_ := o_ ++ b.extract q_ (q_ + k); q_ := q_ + k
        if q_ == b.size then return fin_ o_ p_ q_
      o_ := o_.push (← elem' a p_); p_ := p_ + 1
      if p_ + 1 == a.size then return lastA_ o_ p_ q_
      if ca_ < 7 && cb_ < 7 then break
    mg_ := mg_ + 1
    modify fun s => SortSt.mk' (kindOf s) (arrOf s) (pendingOf s) mg_ (failedOf s)
  unsupported "internal:list.sort.merge-bound") := rfl
section
variable {prog : Program} {w : World} {A : Around} {E : Value → Shared → Prop} {s : Shared} [KeyLt prog w A E s]
theorem wpS_elem {st : SortSt} {arr : Array Keyed} {i : Nat} {Q : Keyed → SortSt → Prop} (hi : i < arr.size) (h : Q arr[i] st) : wpS (model prog w) A E s (elem' arr i) Q st := by
  rw [elem'_eq, Array.getElem?_eq_getElem hi]
  exact wpS_pure h
def sameSt (st st' : SortSt) : Prop := kindOf st' = kindOf st ∧ arrOf st' = arrOf st ∧ pendingOf st' = pendingOf st ∧ failedOf st' = failedOf st
theorem drop_cons {arr : Array Keyed} {i : Nat} (hi : i < arr.size) : arr.toList.drop i = arr[i] :: arr.toList.drop (i + 1) := by
  rw [List.drop_eq_getElem_cons (by simpa using hi)]
  simp
theorem drop_split {arr : Array Keyed} (i k : Nat) : arr.toList.drop i = (arr.toList.drop i).take k ++ arr.toList.drop (i + k) := by
  rw [← List.drop_drop, List.take_append_drop]
theorem ext_toList (arr : Array Keyed) (i k : Nat) : (arr.extract i (i + k)).toList = (arr.toList.drop i).take k := by
  rw [Array.toList_extract, List.extract_eq_drop_take]
  congr 1
  omega
theorem ext_end (arr : Array Keyed) (i : Nat) : (arr.extract i arr.size).toList = arr.toList.drop i := by
  rw [Array.toList_extract, List.extract_eq_drop_take]
  exact List.take_of_length_le (by simp)
theorem mem_drop_le {l : List Keyed} {i : Nat} (h : l.Pairwise LeK) {x : Keyed} {r : List Keyed} (e : l.drop i = x :: r) : ∀ y ∈ l.drop i, LeK x y := by
  have hp : (l.drop i).Pairwise LeK := h.sublist (List.drop_sublist i l)
  rw [e] at hp ⊢
  intro y hy
  rcases List.mem_cons.mp hy with z | z
  · rw [z]; exact Int.le_refl _
  · exact (List.pairwise_cons.mp hp).1 y z
abbrev MgA (a b : Array Keyed) (out : Array Keyed) (ia ib : Nat) : Prop := MgL out.toList (a.toList.drop ia) (b.toList.drop ib) (a.toList ++ b.toList)
section
variable {a b out : Array Keyed} {ia ib : Nat}
theorem MgA.pushB (m : MgA a b out ia ib) (hb : ib < b.size) (h : ∀ y ∈ a.toList.drop ia, LeK b[ib] y) : MgA a b (out.push b[ib]) ia (ib + 1) := by
  unfold MgA at m ⊢
  rw [drop_cons hb] at m
  rw [Array.toList_push]
  exact MgL.takeB (u := [b[ib]]) m fun x hx y hy => by rw [List.mem_singleton.mp hx]; exact h y hy
theorem MgA.pushA (m : MgA a b out ia ib) (ha : ia < a.size) (h : ∀ y ∈ b.toList.drop ib, LeK a[ia] y) : MgA a b (out.push a[ia]) (ia + 1) ib := by
  unfold MgA at m ⊢
  rw [drop_cons ha] at m
  rw [Array.toList_push]
  exact MgL.takeA (u := [a[ia]]) m fun x hx y hy => by rw [List.mem_singleton.mp hx]; exact h y hy
theorem MgA.runA {k : Nat} (m : MgA a b out ia ib) (h : ∀ x ∈ (a.toList.drop ia).take k, ∀ y ∈ b.toList.drop ib, LeK x y) : MgA a b (out ++ a.extract ia (ia + k)) (ia + k) ib := by
  unfold MgA at m ⊢
  rw [drop_split ia k] at m
  rw [Array.toList_append, ext_toList]
  exact MgL.takeA m h
theorem MgA.runB {k : Nat} (m : MgA a b out ia ib) (h : ∀ x ∈ (b.toList.drop ib).take k, ∀ y ∈ a.toList.drop ia, LeK x y) : MgA a b (out ++ b.extract ib (ib + k)) ia (ib + k) := by
  unfold MgA at m ⊢
  rw [drop_split (arr := b) ib k] at m
  rw [Array.toList_append, ext_toList]
  exact MgL.takeB m h
theorem MgA.done (m : MgA a b out ia ib) (h : ib = b.size ∨ ia = a.size) : Srt (a.toList ++ b.toList) (out ++ a.extract ia a.size ++ b.extract ib b.size).toList := by
  unfold MgA at m
  rw [Array.toList_append, Array.toList_append, ext_end, ext_end]
  rcases h with h | h
  · have e : b.toList.drop ib = [] := List.drop_of_length_le (by rw [h]; simp)
    rw [e] at m ⊢
    rw [List.append_nil]
    exact m.endA
  · have e : a.toList.drop ia = [] := List.drop_of_length_le (by rw [h]; simp)
    rw [e] at m ⊢
    rw [List.append_nil]
    exact m.endB
theorem MgA.last (m : MgA a b out ia ib) (h : ia + 1 = a.size) (hhi : ∀ y ∈ b.toList, LeK y (a[a.size - 1]'(by omega))) : Srt (a.toList ++ b.toList) (out ++ b.extract ib b.size ++ a.extract ia a.size).toList := by
  unfold MgA at m
  rw [Array.toList_append, Array.toList_append, ext_end, ext_end]
  have e : a.toList.drop ia = [a[a.size - 1]'(by omega)] := by
    rw [drop_cons (by omega), List.drop_of_length_le (by simp; omega)]
    congr 2
    omega
  rw [e] at m ⊢
  exact m.lastA fun y hy => hhi y (List.mem_of_mem_drop hy)
end
theorem srt_at {arr : Array Keyed} (h : arr.toList.Pairwise LeK) {i j : Nat} (hij : i ≤ j) (hj : j < arr.size) : keyOf (arr[i]'(by omega)) ≤ keyOf arr[j] := by
  rcases Nat.lt_or_ge i j with hlt | hge
  · have := List.pairwise_iff_getElem.mp h i j (by simp; omega) (by simpa using hj) hlt
    simpa [LeK] using this
  · have e : i = j := by omega
    subst e
    exact Int.le_refl _
theorem mem_take_drop {arr : Array Keyed} {base k : Nat} {x : Keyed} (hx : x ∈ (arr.toList.drop base).take k) : ∃ i, ∃ (_ : i < k) (hi : base + i < arr.size), x = arr[base + i] := by
  obtain ⟨i, hi, e⟩ := List.getElem_of_mem hx
  rw [List.length_take, List.length_drop] at hi
  have hs : base + i < arr.size := by
    have : arr.toList.length = arr.size := by simp
    omega
  refine ⟨i, by omega, hs, ?_⟩
  rw [← e, List.getElem_take, List.getElem_drop]
  simp
theorem bey_false {key : Keyed} {arr : Array Keyed} {base i : Nat} (hi : base + i < arr.size) : bey false key arr base i = !decide (keyOf key < keyOf arr[base + i]) := by
  unfold bey
  rw [Array.getElem?_eq_getElem hi]
  rfl
theorem bey_true {key : Keyed} {arr : Array Keyed} {base i : Nat} (hi : base + i < arr.size) : bey true key arr base i = decide (keyOf arr[base + i] < keyOf key) := by
  unfold bey
  rw [Array.getElem?_eq_getElem hi]
  rfl
/-- behind all that are not above -/
theorem wpS_galR {st : SortSt} {key : Keyed} {arr : Array Keyed} {base n hint : Nat} {Q : Option Nat → SortSt → Prop} (hk : kindOf st = KeyC.κ) (hkey : IntK key) (ik : ∀ x ∈ arr.toList, IntK x) (srt : arr.toList.Pairwise LeK) (hh : hint < n) (hn : base + n ≤ arr.size)
    (h : ∀ k, k ≤ n → (∀ x ∈ (arr.toList.drop base).take k, LeK x key) → (∀ i (hi : i < arr.size), base + k ≤ i → i < base + n → keyOf key < keyOf arr[i]) → Q (some k) st) : wpS (model prog w) A E s (gallop' false key arr base n hint) Q st := by
  refine wpS_gallop hk hkey hh (fun i hi => ⟨arr[base + i], Array.getElem?_eq_getElem (by omega), ik _ (by simp)⟩) (fun i j hij hj e => ?_) fun k hk' h1 h2 => h k hk' (fun x hx => ?_) (fun i hi h3 h4 => ?_)
  · rw [bey_false (by omega)] at e ⊢
    have := srt_at srt (i := base + i) (j := base + j) (by omega) (by omega)
    simp only [Bool.not_eq_true', decide_eq_false_iff_not] at e ⊢
    omega
  · obtain ⟨i, hik, hi, rfl⟩ := mem_take_drop hx
    have e := h1 i hik
    rw [bey_false hi] at e
    simp only [Bool.not_eq_true', decide_eq_false_iff_not] at e
    unfold LeK
    omega
  · have e := h2 (i - base) (by omega) (by omega)
    rw [bey_false (by omega)] at e
    simp only [Bool.not_eq_false', decide_eq_true_eq] at e
    have e2 : base + (i - base) = i := by omega
    simpa [e2] using e
/-- ahead of all that are not below -/
theorem wpS_galL {st : SortSt} {key : Keyed} {arr : Array Keyed} {base n hint : Nat} {Q : Option Nat → SortSt → Prop} (hk : kindOf st = KeyC.κ) (hkey : IntK key) (ik : ∀ x ∈ arr.toList, IntK x) (srt : arr.toList.Pairwise LeK) (hh : hint < n) (hn : base + n ≤ arr.size)
    (h : ∀ k, k ≤ n → (∀ x ∈ (arr.toList.drop base).take k, keyOf x < keyOf key) → (∀ i (hi : i < arr.size), base + k ≤ i → i < base + n → keyOf key ≤ keyOf arr[i]) → Q (some k) st) : wpS (model prog w) A E s (gallop' true key arr base n hint) Q st := by
  refine wpS_gallop hk hkey hh (fun i hi => ⟨arr[base + i], Array.getElem?_eq_getElem (by omega), ik _ (by simp)⟩) (fun i j hij hj e => ?_) fun k hk' h1 h2 => h k hk' (fun x hx => ?_) (fun i hi h3 h4 => ?_)
  · rw [bey_true (by omega)] at e ⊢
    have := srt_at srt (i := base + i) (j := base + j) (by omega) (by omega)
    simp only [decide_eq_true_eq] at e ⊢
    omega
  · obtain ⟨i, hik, hi, rfl⟩ := mem_take_drop hx
    have e := h1 i hik
    rw [bey_true hi] at e
    simpa using e
  · have e := h2 (i - base) (by omega) (by omega)
    rw [bey_true (by omega)] at e
    simp only [decide_eq_false_iff_not, Int.not_lt] at e
    have e2 : base + (i - base) = i := by omega
    simpa [e2] using e
theorem wpS_mergeLo {st : SortSt} {a b : Array Keyed} {Q : Array Keyed → SortSt → Prop} (hk : kindOf st = KeyC.κ) (ia : ∀ x ∈ a.toList, IntK x) (ib : ∀ x ∈ b.toList, IntK x) (sa : a.toList.Pairwise LeK) (sb : b.toList.Pairwise LeK) (na : 0 < a.size) (nb : 0 < b.size)
    (hlo : ∀ x ∈ a.toList, LeK b[0] x) (hhi : ∀ y ∈ b.toList, LeK y a[a.size - 1])
    (h : ∀ res st', sameSt st st' → Srt (a.toList ++ b.toList) res.toList → Q res st') : wpS (model prog w) A E s (mergeLo' a b) Q st := by
  have m0 : MgA a b #[b[0]] 0 1 := by
    have mm : MgA a b #[] 0 0 := ⟨by simp, by simp, by simp, by simpa using sa, by simpa using sb⟩
    exact mm.pushB nb (by simpa using hlo)
  rw [mergeLo'_eq]
  refine wpS_bind (wpS_lift (wpAny_rule ⟨rfl, ?_⟩))
  dsimp only
  refine wpS_bind (wpS_elem nb ?_)
  by_cases hb1 : 1 = b.size
  · rw [if_pos (by simpa using hb1)]
    exact wpS_pure (h _ _ ⟨rfl, rfl, rfl, rfl⟩ (m0.done (.inl hb1)))
  rw [if_neg (by simpa using hb1)]
  by_cases ha1 : 0 + 1 = a.size
  · rw [if_pos (by simpa using ha1)]
    exact wpS_pure (h _ _ ⟨rfl, rfl, rfl, rfl⟩ (m0.last ha1 hhi))
  rw [if_neg (by simpa using ha1)]
  refine wpS_bind (wpS_get ?_)
  refine wpS_bind (wpS_mono (wpS_forRange (I := fun x c st' => sameSt st st' ∧ ∃ out i j mg, c = (none, out, i, j, mg) ∧ i + 1 < a.size ∧ j < b.size ∧ x + 1 ≤ i + j ∧ MgA a b out i j)
    (Q := fun c st' => sameSt st st' ∧ ∃ res out i j mg, c = (some res, out, i, j, mg) ∧ Srt (a.toList ++ b.toList) res.toList) ?step ?fin ?init) ?post)
  case init => exact ⟨⟨rfl, rfl, rfl, rfl⟩, _, _, _, _, rfl, by omega, by omega, by omega, m0⟩
  case fin =>
    rintro c st' ⟨_, out, i, j, mg, _, h1, h2, h3, _⟩
    omega
  case post =>
    rintro c st' ⟨hs, res, out, i, j, mg, rfl, hr⟩
    exact wpS_pure (h res st' hs hr)
  case step =>
    rintro x c st' _ hx ⟨hs, out, i, j, mg, rfl, h1, h2, h3, m⟩
    dsimp only
    have leB : ∀ {i j : Nat} (hi : i < a.size) (hj : j < b.size), keyOf b[j] ≤ keyOf a[i] → ∀ y ∈ a.toList.drop i, LeK b[j] y := fun hi hj e y hy => Int.le_trans e (mem_drop_le sa (drop_cons hi) y hy)
    have leA : ∀ {i j : Nat} (hi : i < a.size) (hj : j < b.size), keyOf a[i] ≤ keyOf b[j] → ∀ y ∈ b.toList.drop j, LeK a[i] y := fun hi hj e y hy => Int.le_trans e (mem_drop_le sb (drop_cons hj) y hy)
    refine wpS_bind (wpS_mono (wpS_forRange (I := fun x' c st' => sameSt st st' ∧ ∃ out i' j' ac bc, c = (none, out, i', j', ac, bc) ∧ i' + 1 < a.size ∧ j' < b.size ∧ i + j + x' ≤ i' + j' ∧ MgA a b out i' j')
      (Q := fun c st' => sameSt st st' ∧ ((∃ res r, c = (some res, r) ∧ Srt (a.toList ++ b.toList) res.toList) ∨ ∃ out i' j' ac bc, c = (none, out, i', j', ac, bc) ∧ i' + 1 < a.size ∧ j' < b.size ∧ i + j + 1 ≤ i' + j' ∧ MgA a b out i' j')) ?step1 ?fin1 ?init1) ?post1)
    case init1 => exact ⟨hs, _, _, _, _, _, rfl, h1, h2, by omega, m⟩
    case fin1 =>
      rintro c st' ⟨hs, out, i', j', ac, bc, rfl, g1, g2, g3, m⟩
      exact ⟨hs, .inr ⟨out, i', j', ac, bc, rfl, g1, g2, by omega, m⟩⟩
    case step1 =>
      rintro x' c st' _ hx' ⟨hs, out, i', j', ac, bc, rfl, g1, g2, g3, m⟩
      dsimp only
      have hi' : i' < a.size := by omega
      refine wpS_bind (wpS_elem g2 (wpS_bind (wpS_elem hi' (wpS_bind (wpS_lt (hs.1.trans hk) (ib _ (by simp)) (ia _ (by simp)) ?_)))))
      dsimp only
      by_cases hw : keyOf b[j'] < keyOf a[i']
      · simp only [hw, decide_true, if_true]
        have m2 := m.pushB g2 (leB hi' g2 (Int.le_of_lt hw))
        refine wpS_bind (wpS_elem g2 ?_)
        by_cases e1 : j' + 1 = b.size
        · rw [if_pos (by simpa using e1)]
          exact wpS_pure ⟨hs, .inl ⟨_, _, rfl, m2.done (.inl e1)⟩⟩
        rw [if_neg (by simpa using e1)]
        by_cases e2 : bc + 1 ≥ mg
        · rw [if_pos e2]
          exact wpS_pure ⟨hs, .inr ⟨_, _, _, _, _, rfl, g1, by omega, by omega, m2⟩⟩
        · rw [if_neg e2]
          exact wpS_pure ⟨hs, _, _, _, _, _, rfl, g1, by omega, by omega, m2⟩
      · simp only [hw, decide_false, Bool.false_eq_true, if_false]
        have m2 := m.pushA hi' (leA hi' g2 (Int.not_lt.mp hw))
        refine wpS_bind (wpS_elem hi' ?_)
        by_cases e1 : i' + 1 + 1 = a.size
        · rw [if_pos (by simpa using e1)]
          exact wpS_pure ⟨hs, .inl ⟨_, _, rfl, m2.last e1 hhi⟩⟩
        rw [if_neg (by simpa using e1)]
        by_cases e2 : ac + 1 ≥ mg
        · rw [if_pos e2]
          exact wpS_pure ⟨hs, .inr ⟨_, _, _, _, _, rfl, by omega, by omega, by omega, m2⟩⟩
        · rw [if_neg e2]
          exact wpS_pure ⟨hs, _, _, _, _, _, rfl, by omega, by omega, by omega, m2⟩
    case post1 =>
      rintro c st' ⟨hs, ⟨res, r, rfl, hr⟩ | ⟨out, i', j', ac, bc, rfl, g1, g2, g3, m⟩⟩
      · dsimp only
        exact wpS_pure ⟨hs, res, _, _, _, _, rfl, hr⟩
      dsimp only
      refine wpS_bind (wpS_lift (wpAny_rule ⟨rfl, ?_⟩))
      refine wpS_bind (wpS_mono (wpS_forRange (I := fun x' c st' => sameSt st st' ∧ ∃ out i' j' mg ac bc, c = (none, out, i', j', mg, ac, bc) ∧ i' + 1 < a.size ∧ j' < b.size ∧ i + j + 1 ≤ i' + j' ∧ MgA a b out i' j')
        (Q := fun c st' => sameSt st st' ∧ ((∃ res r, c = (some res, r) ∧ Srt (a.toList ++ b.toList) res.toList) ∨ ∃ out i' j' mg ac bc, c = (none, out, i', j', mg, ac, bc) ∧ i' + 1 < a.size ∧ j' < b.size ∧ i + j + 1 ≤ i' + j' ∧ MgA a b out i' j')) ?step2 ?fin2 ?init2) ?post2)
      case init2 => exact ⟨hs, _, _, _, _, _, _, rfl, g1, g2, g3, m⟩
      case fin2 =>
        rintro c st' ⟨hs, out, i', j', mg, ac, bc, rfl, g1, g2, g3, m⟩
        exact ⟨hs, .inr ⟨out, i', j', mg, ac, bc, rfl, g1, g2, g3, m⟩⟩
      case post2 =>
        rintro c st' ⟨hs, ⟨res, r, rfl, hr⟩ | ⟨out, i', j', mg, ac, bc, rfl, g1, g2, g3, m⟩⟩
        · dsimp only
          exact wpS_pure ⟨hs, res, _, _, _, _, rfl, hr⟩
        · dsimp only
          exact wpS_bind (wpS_modify (wpS_pure ⟨hs, _, _, _, _, rfl, g1, g2, by omega, m⟩))
      case step2 =>
        rintro x' c st' _ hx' ⟨hs, out, i', j', mg, ac, bc, rfl, g1, g2, g3, m⟩
        dsimp only
        have hi' : i' < a.size := by omega
        by_cases hmg : mg > 1
        · rw [if_pos hmg]
          refine wpS_bind (wpS_modify ?_)
          refine wpS_bind (wpS_elem g2 ?_)
          refine wpS_bind (wpS_galR (by exact hs.1.trans hk) (ib _ (by simp)) ia sa (by omega) (by omega) fun k hkn hk1 hk2 => ?_)
          dsimp only
          by_cases hk0 : k > 0
          · rw [if_pos hk0]
            have m2 := m.runA (k := k) fun x hx y hy => Int.le_trans (hk1 x hx) (mem_drop_le sb (drop_cons g2) y hy)
            by_cases e1 : i' + k + 1 = a.size
            · rw [if_pos (by simpa using e1)]
              exact wpS_pure ⟨hs, .inl ⟨_, _, rfl, m2.last e1 hhi⟩⟩
            rw [if_neg (by simpa using e1)]
            by_cases e2 : i' + k = a.size
            · rw [if_pos (by simpa using e2)]
              exact wpS_pure ⟨hs, .inl ⟨_, _, rfl, m2.done (.inr e2)⟩⟩
            rw [if_neg (by simpa using e2)]
            have hi2 : i' + k < a.size := by omega
            have m3 := m2.pushB g2 (leB hi2 g2 (Int.le_of_lt (hk2 _ hi2 (by omega) (by omega))))
            refine wpS_bind (wpS_elem g2 ?_)
            by_cases e3 : j' + 1 = b.size
            · rw [if_pos (by simpa using e3)]
              exact wpS_pure ⟨hs, .inl ⟨_, _, rfl, m3.done (.inl e3)⟩⟩
            rw [if_neg (by simpa using e3)]
            refine wpS_bind (wpS_elem hi2 ?_)
            refine wpS_bind (wpS_galL (by exact hs.1.trans hk) (ia _ (by simp)) ib sb (by omega) (by omega) fun k2 hkn2 hk3 hk4 => ?_)
            dsimp only
            by_cases hk20 : k2 > 0
            · rw [if_pos hk20]
              have m4 := m3.runB (k := k2) fun x hx y hy => Int.le_trans (Int.le_of_lt (hk3 x hx)) (mem_drop_le sa (drop_cons hi2) y hy)
              by_cases e4 : j' + 1 + k2 = b.size
              · rw [if_pos (by simpa using e4)]
                exact wpS_pure ⟨hs, .inl ⟨_, _, rfl, m4.done (.inl e4)⟩⟩
              rw [if_neg (by simpa using e4)]
              have hj2 : j' + 1 + k2 < b.size := by omega
              have m5 := m4.pushA hi2 (leA hi2 hj2 (hk4 _ hj2 (by omega) (by omega)))
              refine wpS_bind (wpS_elem hi2 ?_)
              by_cases e5 : i' + k + 1 + 1 = a.size
              · rw [if_pos (by simpa using e5)]
                exact wpS_pure ⟨hs, .inl ⟨_, _, rfl, m5.last e5 hhi⟩⟩
              rw [if_neg (by simpa using e5)]
              by_cases e6 : (decide (k < 7) && decide (k2 < 7)) = true
              · rw [if_pos e6]
                exact wpS_pure ⟨hs, .inr ⟨_, _, _, _, _, _, rfl, by omega, by omega, by omega, m5⟩⟩
              · rw [if_neg e6]
                exact wpS_pure ⟨hs, _, _, _, _, _, _, rfl, by omega, by omega, by omega, m5⟩
            · rw [if_neg hk20]
              have hj2 : j' + 1 < b.size := by omega
              have m5 := m3.pushA hi2 (leA hi2 hj2 (hk4 _ hj2 (by omega) (by omega)))
              refine wpS_bind (wpS_elem hi2 ?_)
              by_cases e5 : i' + k + 1 + 1 = a.size
              · rw [if_pos (by simpa using e5)]
                exact wpS_pure ⟨hs, .inl ⟨_, _, rfl, m5.last e5 hhi⟩⟩
              rw [if_neg (by simpa using e5)]
              by_cases e6 : (decide (k < 7) && decide (k2 < 7)) = true
              · rw [if_pos e6]
                exact wpS_pure ⟨hs, .inr ⟨_, _, _, _, _, _, rfl, by omega, by omega, by omega, m5⟩⟩
              · rw [if_neg e6]
                exact wpS_pure ⟨hs, _, _, _, _, _, _, rfl, by omega, by omega, by omega, m5⟩
          · rw [if_neg hk0]
            have hi2 : i' < a.size := by omega
            have m3 := m.pushB g2 (leB hi2 g2 (Int.le_of_lt (hk2 _ hi2 (by omega) (by omega))))
            refine wpS_bind (wpS_elem g2 ?_)
            by_cases e3 : j' + 1 = b.size
            · rw [if_pos (by simpa using e3)]
              exact wpS_pure ⟨hs, .inl ⟨_, _, rfl, m3.done (.inl e3)⟩⟩
            rw [if_neg (by simpa using e3)]
            refine wpS_bind (wpS_elem hi2 ?_)
            refine wpS_bind (wpS_galL (by exact hs.1.trans hk) (ia _ (by simp)) ib sb (by omega) (by omega) fun k2 hkn2 hk3 hk4 => ?_)
            dsimp only
            by_cases hk20 : k2 > 0
            · rw [if_pos hk20]
              have m4 := m3.runB (k := k2) fun x hx y hy => Int.le_trans (Int.le_of_lt (hk3 x hx)) (mem_drop_le sa (drop_cons hi2) y hy)
              by_cases e4 : j' + 1 + k2 = b.size
              · rw [if_pos (by simpa using e4)]
                exact wpS_pure ⟨hs, .inl ⟨_, _, rfl, m4.done (.inl e4)⟩⟩
              rw [if_neg (by simpa using e4)]
              have hj2 : j' + 1 + k2 < b.size := by omega
              have m5 := m4.pushA hi2 (leA hi2 hj2 (hk4 _ hj2 (by omega) (by omega)))
              refine wpS_bind (wpS_elem hi2 ?_)
              by_cases e5 : i' + 1 + 1 = a.size
              · rw [if_pos (by simpa using e5)]
                exact wpS_pure ⟨hs, .inl ⟨_, _, rfl, m5.last e5 hhi⟩⟩
              rw [if_neg (by simpa using e5)]
              by_cases e6 : (decide (k < 7) && decide (k2 < 7)) = true
              · rw [if_pos e6]
                exact wpS_pure ⟨hs, .inr ⟨_, _, _, _, _, _, rfl, by omega, by omega, by omega, m5⟩⟩
              · rw [if_neg e6]
                exact wpS_pure ⟨hs, _, _, _, _, _, _, rfl, by omega, by omega, by omega, m5⟩
            · rw [if_neg hk20]
              have hj2 : j' + 1 < b.size := by omega
              have m5 := m3.pushA hi2 (leA hi2 hj2 (hk4 _ hj2 (by omega) (by omega)))
              refine wpS_bind (wpS_elem hi2 ?_)
              by_cases e5 : i' + 1 + 1 = a.size
              · rw [if_pos (by simpa using e5)]
                exact wpS_pure ⟨hs, .inl ⟨_, _, rfl, m5.last e5 hhi⟩⟩
              rw [if_neg (by simpa using e5)]
              by_cases e6 : (decide (k < 7) && decide (k2 < 7)) = true
              · rw [if_pos e6]
                exact wpS_pure ⟨hs, .inr ⟨_, _, _, _, _, _, rfl, by omega, by omega, by omega, m5⟩⟩
              · rw [if_neg e6]
                exact wpS_pure ⟨hs, _, _, _, _, _, _, rfl, by omega, by omega, by omega, m5⟩
        · rw [if_neg hmg]
          refine wpS_bind (wpS_modify ?_)
          refine wpS_bind (wpS_elem g2 ?_)
          refine wpS_bind (wpS_galR (by exact hs.1.trans hk) (ib _ (by simp)) ia sa (by omega) (by omega) fun k hkn hk1 hk2 => ?_)
          dsimp only
          by_cases hk0 : k > 0
          · rw [if_pos hk0]
            have m2 := m.runA (k := k) fun x hx y hy => Int.le_trans (hk1 x hx) (mem_drop_le sb (drop_cons g2) y hy)
            by_cases e1 : i' + k + 1 = a.size
            · rw [if_pos (by simpa using e1)]
              exact wpS_pure ⟨hs, .inl ⟨_, _, rfl, m2.last e1 hhi⟩⟩
            rw [if_neg (by simpa using e1)]
            by_cases e2 : i' + k = a.size
            · rw [if_pos (by simpa using e2)]
              exact wpS_pure ⟨hs, .inl ⟨_, _, rfl, m2.done (.inr e2)⟩⟩
            rw [if_neg (by simpa using e2)]
            have hi2 : i' + k < a.size := by omega
            have m3 := m2.pushB g2 (leB hi2 g2 (Int.le_of_lt (hk2 _ hi2 (by omega) (by omega))))
            refine wpS_bind (wpS_elem g2 ?_)
            by_cases e3 : j' + 1 = b.size
            · rw [if_pos (by simpa using e3)]
              exact wpS_pure ⟨hs, .inl ⟨_, _, rfl, m3.done (.inl e3)⟩⟩
            rw [if_neg (by simpa using e3)]
            refine wpS_bind (wpS_elem hi2 ?_)
            refine wpS_bind (wpS_galL (by exact hs.1.trans hk) (ia _ (by simp)) ib sb (by omega) (by omega) fun k2 hkn2 hk3 hk4 => ?_)
            dsimp only
            by_cases hk20 : k2 > 0
            · rw [if_pos hk20]
              have m4 := m3.runB (k := k2) fun x hx y hy => Int.le_trans (Int.le_of_lt (hk3 x hx)) (mem_drop_le sa (drop_cons hi2) y hy)
              by_cases e4 : j' + 1 + k2 = b.size
              · rw [if_pos (by simpa using e4)]
                exact wpS_pure ⟨hs, .inl ⟨_, _, rfl, m4.done (.inl e4)⟩⟩
              rw [if_neg (by simpa using e4)]
              have hj2 : j' + 1 + k2 < b.size := by omega
              have m5 := m4.pushA hi2 (leA hi2 hj2 (hk4 _ hj2 (by omega) (by omega)))
              refine wpS_bind (wpS_elem hi2 ?_)
              by_cases e5 : i' + k + 1 + 1 = a.size
              · rw [if_pos (by simpa using e5)]
                exact wpS_pure ⟨hs, .inl ⟨_, _, rfl, m5.last e5 hhi⟩⟩
              rw [if_neg (by simpa using e5)]
              by_cases e6 : (decide (k < 7) && decide (k2 < 7)) = true
              · rw [if_pos e6]
                exact wpS_pure ⟨hs, .inr ⟨_, _, _, _, _, _, rfl, by omega, by omega, by omega, m5⟩⟩
              · rw [if_neg e6]
                exact wpS_pure ⟨hs, _, _, _, _, _, _, rfl, by omega, by omega, by omega, m5⟩
            · rw [if_neg hk20]
              have hj2 : j' + 1 < b.size := by omega
              have m5 := m3.pushA hi2 (leA hi2 hj2 (hk4 _ hj2 (by omega) (by omega)))
              refine wpS_bind (wpS_elem hi2 ?_)
              by_cases e5 : i' + k + 1 + 1 = a.size
              · rw [if_pos (by simpa using e5)]
                exact wpS_pure ⟨hs, .inl ⟨_, _, rfl, m5.last e5 hhi⟩⟩
              rw [if_neg (by simpa using e5)]
              by_cases e6 : (decide (k < 7) && decide (k2 < 7)) = true
              · rw [if_pos e6]
                exact wpS_pure ⟨hs, .inr ⟨_, _, _, _, _, _, rfl, by omega, by omega, by omega, m5⟩⟩
              · rw [if_neg e6]
                exact wpS_pure ⟨hs, _, _, _, _, _, _, rfl, by omega, by omega, by omega, m5⟩
          · rw [if_neg hk0]
            have hi2 : i' < a.size := by omega
            have m3 := m.pushB g2 (leB hi2 g2 (Int.le_of_lt (hk2 _ hi2 (by omega) (by omega))))
            refine wpS_bind (wpS_elem g2 ?_)
            by_cases e3 : j' + 1 = b.size
            · rw [if_pos (by simpa using e3)]
              exact wpS_pure ⟨hs, .inl ⟨_, _, rfl, m3.done (.inl e3)⟩⟩
            rw [if_neg (by simpa using e3)]
            refine wpS_bind (wpS_elem hi2 ?_)
            refine wpS_bind (wpS_galL (by exact hs.1.trans hk) (ia _ (by simp)) ib sb (by omega) (by omega) fun k2 hkn2 hk3 hk4 => ?_)
            dsimp only
            by_cases hk20 : k2 > 0
            · rw [if_pos hk20]
              have m4 := m3.runB (k := k2) fun x hx y hy => Int.le_trans (Int.le_of_lt (hk3 x hx)) (mem_drop_le sa (drop_cons hi2) y hy)
              by_cases e4 : j' + 1 + k2 = b.size
              · rw [if_pos (by simpa using e4)]
                exact wpS_pure ⟨hs, .inl ⟨_, _, rfl, m4.done (.inl e4)⟩⟩
              rw [if_neg (by simpa using e4)]
              have hj2 : j' + 1 + k2 < b.size := by omega
              have m5 := m4.pushA hi2 (leA hi2 hj2 (hk4 _ hj2 (by omega) (by omega)))
              refine wpS_bind (wpS_elem hi2 ?_)
              by_cases e5 : i' + 1 + 1 = a.size
              · rw [if_pos (by simpa using e5)]
                exact wpS_pure ⟨hs, .inl ⟨_, _, rfl, m5.last e5 hhi⟩⟩
              rw [if_neg (by simpa using e5)]
              by_cases e6 : (decide (k < 7) && decide (k2 < 7)) = true
              · rw [if_pos e6]
                exact wpS_pure ⟨hs, .inr ⟨_, _, _, _, _, _, rfl, by omega, by omega, by omega, m5⟩⟩
              · rw [if_neg e6]
                exact wpS_pure ⟨hs, _, _, _, _, _, _, rfl, by omega, by omega, by omega, m5⟩
            · rw [if_neg hk20]
              have hj2 : j' + 1 < b.size := by omega
              have m5 := m3.pushA hi2 (leA hi2 hj2 (hk4 _ hj2 (by omega) (by omega)))
              refine wpS_bind (wpS_elem hi2 ?_)
              by_cases e5 : i' + 1 + 1 = a.size
              · rw [if_pos (by simpa using e5)]
                exact wpS_pure ⟨hs, .inl ⟨_, _, rfl, m5.last e5 hhi⟩⟩
              rw [if_neg (by simpa using e5)]
              by_cases e6 : (decide (k < 7) && decide (k2 < 7)) = true
              · rw [if_pos e6]
                exact wpS_pure ⟨hs, .inr ⟨_, _, _, _, _, _, rfl, by omega, by omega, by omega, m5⟩⟩
              · rw [if_neg e6]
                exact wpS_pure ⟨hs, _, _, _, _, _, _, rfl, by omega, by omega, by omega, m5⟩
end
/-- a merge from the end: what is out (the greatest), and what is left of both -/
structure MgR (tail ra rb all : List Keyed) : Prop where
  perm : ((ra ++ rb) ++ tail).Perm all
  srt : tail.Pairwise LeK
  high : ∀ x ∈ tail, ∀ y ∈ ra ++ rb, LeK y x
  sa : ra.Pairwise LeK
  sb : rb.Pairwise LeK
theorem MgR.takeB {tail u ra rb all : List Keyed} (m : MgR tail ra (rb ++ u) all) (h : ∀ x ∈ u, ∀ y ∈ ra, LeK y x) : MgR (u ++ tail) ra rb all := by
  have sb := List.pairwise_append.mp m.sb
  refine ⟨?_, ?_, fun x hx y hy => ?_, m.sa, sb.1⟩
  · have := m.perm
    simpa [List.append_assoc] using this
  · refine List.pairwise_append.mpr ⟨sb.2.1, m.srt, fun x hx y hy => m.high y hy x ?_⟩
    exact List.mem_append_right _ (List.mem_append_right _ hx)
  · rcases List.mem_append.mp hx with hx | hx
    · rcases List.mem_append.mp hy with hy | hy
      · exact h x hx y hy
      · exact sb.2.2 y hy x hx
    · refine m.high x hx y ?_
      rcases List.mem_append.mp hy with hy | hy
      · exact List.mem_append_left _ hy
      · exact List.mem_append_right _ (List.mem_append_left _ hy)
theorem MgR.swap {tail ra rb all : List Keyed} (m : MgR tail ra rb all) : MgR tail rb ra all :=
  ⟨(List.Perm.append_right _ List.perm_append_comm).trans m.perm, m.srt, fun x hx y hy => m.high x hx y (by rcases List.mem_append.mp hy with z | z; exact List.mem_append_right _ z; exact List.mem_append_left _ z), m.sb, m.sa⟩
theorem MgR.takeA {tail u ra rb all : List Keyed} (m : MgR tail (ra ++ u) rb all) (h : ∀ x ∈ u, ∀ y ∈ rb, LeK y x) : MgR (u ++ tail) ra rb all := (m.swap.takeB h).swap
theorem MgR.endA {tail ra all : List Keyed} (m : MgR tail ra [] all) : Srt all (ra ++ tail) := by
  have p := m.perm
  rw [List.append_nil] at p
  exact ⟨p, List.pairwise_append.mpr ⟨m.sa, m.srt, fun x hx y hy => m.high y hy x (List.mem_append_left _ hx)⟩⟩
theorem MgR.endB {tail rb all : List Keyed} (m : MgR tail [] rb all) : Srt all (rb ++ tail) := m.swap.endA
theorem MgR.firstB {tail ra all : List Keyed} {x : Keyed} (m : MgR tail ra [x] all) (h : ∀ y ∈ ra, LeK x y) : Srt all ([x] ++ ra ++ tail) := by
  have m2 := MgR.takeA (u := ra) (ra := []) (by rw [List.nil_append]; exact m) (fun y hy z hz => by rw [List.mem_singleton.mp hz]; exact h y hy)
  have := m2.endB
  rwa [← List.append_assoc] at this
theorem mergeHi'_eq (a b : Array Keyed) : mergeHi' a b = (do
  rule "list.sort.merge-hi"
  let tot := a.size + b.size
  let fin_ (o_ : Array Keyed) (p_ q_ : Nat) := a.extract 0 p_ ++ b.extract 0 q_ ++ o_.reverse
  let firstB_ (o_ : Array Keyed) (p_ q_ : Nat) := b.extract 0 q_ ++ a.extract 0 p_ ++ o_.reverse
  let mut p_ := a.size - 1
  let mut q_ := b.size
  let mut o_ : Array Keyed := #[← elem' a p_]
  if p_ == 0 then return fin_ o_ p_ q_
  if q_ == 1 then return firstB_ o_ p_ q_
  let mut mg_ := gallopOf (← get)
  for _ in [0:tot] do
    let mut ca_ := 0
    let mut cb_ := 0
    for _ in [0:tot] do
      let some aw_ ← lt' (← elem' b (q_ - 1)) (← elem' a (p_ - 1)) | return fin_ o_ p_ q_
      if aw_ then
        p_ := p_ - 1; o_ := o_.push (← elem' a p_); ca_ := ca_ + 1; cb_ := 0
        if p_ == 0 then return fin_ o_ p_ q_
        if ca_ ≥ mg_ then break
      else
        q_ := q_ - 1; o_ := o_.push (← elem' b q_); cb_ := cb_ + 1; ca_ := 0
        if q_ == 1 then return firstB_ o_ p_ q_
        if cb_ ≥ mg_ then break
    rule "list.sort.gallop"
    mg_ := mg_ + 1
    for _ in [0:tot] do
      if mg_ > 1 then mg_ := mg_ - 1
      modify fun s => SortSt.mk' (kindOf s) (arrOf s) (pendingOf s) mg_ (failedOf s)
      let some at1_ ← gallop' false (← elem' b (q_ - 1)) a 0 p_ (p_ - 1) | return fin_ o_ p_ q_
      let k := p_ - at1_
      ca_ := k
      if k > 0 then
        o_ := o_ ++ (a.extract at1_ p_).reverse; p_ := at1_
        if p_ == 0 then return fin_ o_ p_ q_
      q_ := q_ - 1; o_ := o_.push (← elem' b q_)
      if q_ == 1 then return firstB_ o_ p_ q_
      let some at1_ ← gallop' true (← elem' a (p_ - 1)) b 0 q_ (q_ - 1) | return fin_ o_ p_ q_
      let k := q_ - at1_
      cb_ := k
      if k > 0 then
        o_ := o_ ++ (b.extract at1_ q_).reverse; q_ := at1_
        if q_ == 1 then return firstB_ o_ p_ q_
        if q_ == 0 then return fin_ o_ p_ q_
      p_ := p_ - 1; o_ := o_.push (← elem' a p_)
      if p_ == 0 then return fin_ o_ p_ q_
      if ca_ < 7 && cb_ < 7 then break
    mg_ := mg_ + 1
    modify fun s => SortSt.mk' (kindOf s) (arrOf s) (pendingOf s) mg_ (failedOf s)
  unsupported "internal:list.sort.merge-bound") := rfl
theorem take_snoc {arr : Array Keyed} {i : Nat} (hi : i < arr.size) : arr.toList.take (i + 1) = arr.toList.take i ++ [arr[i]] := by
  rw [List.take_succ, List.getElem?_eq_getElem (by simpa using hi)]
  simp
theorem take_split {arr : Array Keyed} {i n : Nat} (h : i ≤ n) : arr.toList.take n = arr.toList.take i ++ (arr.toList.drop i).take (n - i) := by
  rw [show n = i + (n - i) by omega, List.take_add]
  congr 2
  omega
theorem ext_zero (arr : Array Keyed) (n : Nat) : (arr.extract 0 n).toList = arr.toList.take n := by
  rw [Array.toList_extract, List.extract_eq_drop_take]
  simp
theorem ext_mid (arr : Array Keyed) (i n : Nat) : (arr.extract i n).toList = (arr.toList.drop i).take (n - i) := by
  rw [Array.toList_extract, List.extract_eq_drop_take]
abbrev MgB (a b : Array Keyed) (out : Array Keyed) (na nb : Nat) : Prop := MgR out.toList.reverse (a.toList.take na) (b.toList.take nb) (a.toList ++ b.toList)
theorem mem_take_le {arr : Array Keyed} (h : arr.toList.Pairwise LeK) {i : Nat} (hi : i < arr.size) : ∀ y ∈ arr.toList.take (i + 1), LeK y arr[i] := by
  intro y hy
  rw [← List.drop_zero (l := arr.toList)] at hy
  obtain ⟨k, hk, hs, rfl⟩ := mem_take_drop hy
  exact srt_at h (by omega) hi
section
variable {a b out : Array Keyed} {na nb : Nat}
theorem MgB.pushA (m : MgB a b out (na + 1) nb) (ha : na < a.size) (h : ∀ y ∈ b.toList.take nb, LeK y a[na]) : MgB a b (out.push a[na]) na nb := by
  unfold MgB at m ⊢
  rw [take_snoc ha] at m
  rw [Array.toList_push, List.reverse_append]
  exact MgR.takeA (u := [a[na]]) m fun x hx y hy => by rw [List.mem_singleton.mp hx]; exact h y hy
theorem MgB.pushB (m : MgB a b out na (nb + 1)) (hb : nb < b.size) (h : ∀ y ∈ a.toList.take na, LeK y b[nb]) : MgB a b (out.push b[nb]) na nb := by
  unfold MgB at m ⊢
  rw [take_snoc hb] at m
  rw [Array.toList_push, List.reverse_append]
  exact MgR.takeB (u := [b[nb]]) m fun x hx y hy => by rw [List.mem_singleton.mp hx]; exact h y hy
theorem MgB.runA {i : Nat} (m : MgB a b out na nb) (hi : i ≤ na) (h : ∀ x ∈ (a.toList.drop i).take (na - i), ∀ y ∈ b.toList.take nb, LeK y x) : MgB a b (out ++ (a.extract i na).reverse) i nb := by
  unfold MgB at m ⊢
  rw [take_split hi] at m
  rw [Array.toList_append, Array.toList_reverse, ext_mid, List.reverse_append, List.reverse_reverse]
  exact MgR.takeA m h
theorem MgB.runB {i : Nat} (m : MgB a b out na nb) (hi : i ≤ nb) (h : ∀ x ∈ (b.toList.drop i).take (nb - i), ∀ y ∈ a.toList.take na, LeK y x) : MgB a b (out ++ (b.extract i nb).reverse) na i := by
  unfold MgB at m ⊢
  rw [take_split (arr := b) hi] at m
  rw [Array.toList_append, Array.toList_reverse, ext_mid, List.reverse_append, List.reverse_reverse]
  exact MgR.takeB m h
theorem MgB.done (m : MgB a b out na nb) (h : na = 0 ∨ nb = 0) : Srt (a.toList ++ b.toList) (a.extract 0 na ++ b.extract 0 nb ++ out.reverse).toList := by
  unfold MgB at m
  rw [Array.toList_append, Array.toList_append, Array.toList_reverse, ext_zero, ext_zero]
  rcases h with h | h
  · subst h
    rw [List.take_zero] at m ⊢
    rw [List.nil_append]
    exact m.endB
  · subst h
    rw [List.take_zero] at m ⊢
    rw [List.append_nil]
    exact m.endA
theorem MgB.first (m : MgB a b out na nb) (h : nb = 1) (hb : 0 < b.size) (hlo : ∀ x ∈ a.toList, LeK b[0] x) : Srt (a.toList ++ b.toList) (b.extract 0 nb ++ a.extract 0 na ++ out.reverse).toList := by
  unfold MgB at m
  subst h
  rw [Array.toList_append, Array.toList_append, Array.toList_reverse, ext_zero, ext_zero]
  have e : b.toList.take 1 = [b[0]] := by
    rw [take_snoc hb, List.take_zero]
    rfl
  rw [e] at m ⊢
  exact m.firstB fun y hy => hlo y (List.mem_of_mem_take hy)
end
section
variable {prog : Program} {w : World} {A : Around} {E : Value → Shared → Prop} {s : Shared} [KeyLt prog w A E s]
theorem wpS_mergeHi {st : SortSt} {a b : Array Keyed} {Q : Array Keyed → SortSt → Prop} (hk : kindOf st = KeyC.κ) (ia : ∀ x ∈ a.toList, IntK x) (ib : ∀ x ∈ b.toList, IntK x) (sa : a.toList.Pairwise LeK) (sb : b.toList.Pairwise LeK) (na : 0 < a.size) (nb : 0 < b.size)
    (hlo : ∀ x ∈ a.toList, LeK b[0] x) (hhi : ∀ y ∈ b.toList, LeK y a[a.size - 1])
    (h : ∀ res st', sameSt st st' → Srt (a.toList ++ b.toList) res.toList → Q res st') : wpS (model prog w) A E s (mergeHi' a b) Q st := by
  have hl1 : a.size - 1 < a.size := by omega
  have m0 : MgB a b #[a[a.size - 1]] (a.size - 1) b.size := by
    have mm : MgB a b #[] (a.size - 1 + 1) b.size := by
      refine ⟨?_, by simp, by simp, ?_, ?_⟩
      · rw [show a.size - 1 + 1 = a.size by omega, List.take_of_length_le (by simp), List.take_of_length_le (by simp)]; simp
      · rw [show a.size - 1 + 1 = a.size by omega, List.take_of_length_le (by simp)]; exact sa
      · rw [List.take_of_length_le (by simp)]; exact sb
    exact mm.pushA hl1 (fun y hy => hhi y (List.mem_of_mem_take hy))
  rw [mergeHi'_eq]
  refine wpS_bind (wpS_lift (wpAny_rule ⟨rfl, ?_⟩))
  dsimp only
  refine wpS_bind (wpS_elem hl1 ?_)
  by_cases ha1 : a.size - 1 = 0
  · rw [if_pos (by simpa using ha1)]
    exact wpS_pure (h _ _ ⟨rfl, rfl, rfl, rfl⟩ (m0.done (.inl ha1)))
  rw [if_neg (by simpa using ha1)]
  by_cases hb1 : b.size = 1
  · rw [if_pos (by simpa using hb1)]
    exact wpS_pure (h _ _ ⟨rfl, rfl, rfl, rfl⟩ (m0.first hb1 nb hlo))
  rw [if_neg (by simpa using hb1)]
  refine wpS_bind (wpS_get ?_)
  refine wpS_bind (wpS_mono (wpS_forRange (I := fun x c st' => sameSt st st' ∧ ∃ out i j mg, c = (none, i, j, out, mg) ∧ 0 < i ∧ i ≤ a.size ∧ 1 < j ∧ j ≤ b.size ∧ i + j + x + 1 ≤ a.size + b.size ∧ MgB a b out i j)
    (Q := fun c st' => sameSt st st' ∧ ∃ res r, c = (some res, r) ∧ Srt (a.toList ++ b.toList) res.toList) ?step ?fin ?init) ?post)
  case init => exact ⟨⟨rfl, rfl, rfl, rfl⟩, _, _, _, _, rfl, by omega, by omega, by omega, by omega, by omega, m0⟩
  case fin =>
    rintro c st' ⟨_, out, i, j, mg, _, h1, h2, h3, h4, h5, _⟩
    omega
  case post =>
    rintro c st' ⟨hs, res, r, rfl, hr⟩
    exact wpS_pure (h res st' hs hr)
  case step =>
    rintro x c st' _ hx ⟨hs, out, i, j, mg, rfl, h1, h1', h2, h2', h3, m⟩
    dsimp only
    refine wpS_bind (wpS_mono (wpS_forRange (I := fun x' c st' => sameSt st st' ∧ ∃ out i' j' ac bc, c = (none, i', j', out, ac, bc) ∧ 0 < i' ∧ i' ≤ a.size ∧ 1 < j' ∧ j' ≤ b.size ∧ i' + j' + x' ≤ i + j ∧ MgB a b out i' j')
      (Q := fun c st' => sameSt st st' ∧ ((∃ res r, c = (some res, r) ∧ Srt (a.toList ++ b.toList) res.toList) ∨ ∃ out i' j' ac bc, c = (none, i', j', out, ac, bc) ∧ 0 < i' ∧ i' ≤ a.size ∧ 1 < j' ∧ j' ≤ b.size ∧ i' + j' + 1 ≤ i + j ∧ MgB a b out i' j')) ?step1 ?fin1 ?init1) ?post1)
    case init1 => exact ⟨hs, _, _, _, _, _, rfl, h1, h1', h2, h2', by omega, m⟩
    case fin1 =>
      rintro c st' ⟨hs, out, i', j', ac, bc, rfl, g1, g1', g2, g2', g3, m⟩
      exact ⟨hs, .inr ⟨out, i', j', ac, bc, rfl, g1, g1', g2, g2', by omega, m⟩⟩
    case step1 =>
      rintro x' c st' _ hx' ⟨hs, out, i', j', ac, bc, rfl, g1, g1', g2, g2', g3, m⟩
      dsimp only
      obtain ⟨i1, rfl⟩ : ∃ i1, i' = i1 + 1 := ⟨i' - 1, by omega⟩
      obtain ⟨j1, rfl⟩ : ∃ j1, j' = j1 + 1 := ⟨j' - 1, by omega⟩
      have hi1 : i1 < a.size := by omega
      have hj1 : j1 < b.size := by omega
      simp only [Nat.add_sub_cancel]
      refine wpS_bind (wpS_elem hj1 (wpS_bind (wpS_elem hi1 (wpS_bind (wpS_lt (hs.1.trans hk) (ib _ (by simp)) (ia _ (by simp)) ?_)))))
      dsimp only
      by_cases hw : keyOf b[j1] < keyOf a[i1]
      · simp only [hw, decide_true, if_true]
        have m2 := m.pushA hi1 (fun y hy => Int.le_trans (mem_take_le sb hj1 y hy) (Int.le_of_lt hw))
        refine wpS_bind (wpS_elem hi1 ?_)
        by_cases e1 : i1 = 0
        · rw [if_pos (by simpa using e1)]
          exact wpS_pure ⟨hs, .inl ⟨_, _, rfl, m2.done (.inl e1)⟩⟩
        rw [if_neg (by simpa using e1)]
        by_cases e2 : ac + 1 ≥ mg
        · rw [if_pos e2]
          exact wpS_pure ⟨hs, .inr ⟨_, _, _, _, _, rfl, by omega, by omega, by omega, by omega, by omega, m2⟩⟩
        · rw [if_neg e2]
          exact wpS_pure ⟨hs, _, _, _, _, _, rfl, by omega, by omega, by omega, by omega, by omega, m2⟩
      · simp only [hw, decide_false, Bool.false_eq_true, if_false]
        have m2 := m.pushB hj1 (fun y hy => Int.le_trans (mem_take_le sa hi1 y hy) (Int.not_lt.mp hw))
        refine wpS_bind (wpS_elem hj1 ?_)
        by_cases e1 : j1 = 1
        · rw [if_pos (by simpa using e1)]
          exact wpS_pure ⟨hs, .inl ⟨_, _, rfl, m2.first e1 nb hlo⟩⟩
        rw [if_neg (by simpa using e1)]
        by_cases e2 : bc + 1 ≥ mg
        · rw [if_pos e2]
          exact wpS_pure ⟨hs, .inr ⟨_, _, _, _, _, rfl, by omega, by omega, by omega, by omega, by omega, m2⟩⟩
        · rw [if_neg e2]
          exact wpS_pure ⟨hs, _, _, _, _, _, rfl, by omega, by omega, by omega, by omega, by omega, m2⟩
    case post1 =>
      rintro c st' ⟨hs, ⟨res, r, rfl, hr⟩ | ⟨out, i', j', ac, bc, rfl, g1, g1', g2, g2', g3, m⟩⟩
      · dsimp only
        exact wpS_pure ⟨hs, res, _, rfl, hr⟩
      dsimp only
      refine wpS_bind (wpS_lift (wpAny_rule ⟨rfl, ?_⟩))
      refine wpS_bind (wpS_mono (wpS_forRange (I := fun x' c st' => sameSt st st' ∧ ∃ out i' j' mg ac bc, c = (none, i', j', out, mg, ac, bc) ∧ 0 < i' ∧ i' ≤ a.size ∧ 1 < j' ∧ j' ≤ b.size ∧ i' + j' + 1 ≤ i + j ∧ MgB a b out i' j')
        (Q := fun c st' => sameSt st st' ∧ ((∃ res r, c = (some res, r) ∧ Srt (a.toList ++ b.toList) res.toList) ∨ ∃ out i' j' mg ac bc, c = (none, i', j', out, mg, ac, bc) ∧ 0 < i' ∧ i' ≤ a.size ∧ 1 < j' ∧ j' ≤ b.size ∧ i' + j' + 1 ≤ i + j ∧ MgB a b out i' j')) ?step2 ?fin2 ?init2) ?post2)
      case init2 => exact ⟨hs, _, _, _, _, _, _, rfl, g1, g1', g2, g2', g3, m⟩
      case fin2 =>
        rintro c st' ⟨hs, out, i', j', mg, ac, bc, rfl, g1, g1', g2, g2', g3, m⟩
        exact ⟨hs, .inr ⟨out, i', j', mg, ac, bc, rfl, g1, g1', g2, g2', g3, m⟩⟩
      case post2 =>
        rintro c st' ⟨hs, ⟨res, r, rfl, hr⟩ | ⟨out, i', j', mg, ac, bc, rfl, g1, g1', g2, g2', g3, m⟩⟩
        · dsimp only
          exact wpS_pure ⟨hs, res, _, rfl, hr⟩
        · dsimp only
          exact wpS_bind (wpS_modify (wpS_pure ⟨hs, _, _, _, _, rfl, g1, g1', g2, g2', by omega, m⟩))
      case step2 =>
        rintro x' c st' _ hx' ⟨hs, out, i', j', mg, ac, bc, rfl, g1, g1', g2, g2', g3, m⟩
        dsimp only
        obtain ⟨i1, rfl⟩ : ∃ i1, i' = i1 + 1 := ⟨i' - 1, by omega⟩
        obtain ⟨j1, rfl⟩ : ∃ j1, j' = j1 + 1 := ⟨j' - 1, by omega⟩
        have hi1 : i1 < a.size := by omega
        have hj1 : j1 < b.size := by omega
        simp only [Nat.add_sub_cancel]
        by_cases hmg : mg > 1
        · rw [if_pos hmg]
          refine wpS_bind (wpS_modify ?_)
          refine wpS_bind (wpS_elem hj1 ?_)
          refine wpS_bind (wpS_galR (by exact hs.1.trans hk) (ib _ (by simp)) ia sa (by omega) (by omega) fun at1 hat1 hk1 hk2 => ?_)
          dsimp only
          by_cases hk0 : i1 + 1 - at1 > 0
          · rw [if_pos hk0]
            have m2 := m.runA (i := at1) (by omega) fun x hx y hy => by
              obtain ⟨q, hq, hs', rfl⟩ := mem_take_drop hx
              exact Int.le_trans (mem_take_le sb hj1 y hy) (Int.le_of_lt (hk2 _ hs' (by omega) (by omega)))
            by_cases e1 : at1 = 0
            · rw [if_pos (by simpa using e1)]
              exact wpS_pure ⟨hs, .inl ⟨_, _, rfl, m2.done (.inl e1)⟩⟩
            rw [if_neg (by simpa using e1)]
            obtain ⟨i2, rfl⟩ : ∃ i2, at1 = i2 + 1 := ⟨at1 - 1, by omega⟩
            have hi2 : i2 < a.size := by omega
            have hle3 : ∀ y ∈ a.toList.take (i2 + 1), LeK y b[j1] := fun y hy => hk1 y (by rw [List.drop_zero]; exact hy)
            simp only [Nat.add_sub_cancel]
            have m3 := m2.pushB hj1 hle3
            refine wpS_bind (wpS_elem hj1 ?_)
            by_cases e3 : j1 = 1
            · rw [if_pos (by simpa using e3)]
              exact wpS_pure ⟨hs, .inl ⟨_, _, rfl, m3.first e3 nb hlo⟩⟩
            rw [if_neg (by simpa using e3)]
            refine wpS_bind (wpS_elem hi2 ?_)
            refine wpS_bind (wpS_galL (by exact hs.1.trans hk) (ia _ (by simp)) ib sb (by omega) (by omega) fun at2 hat2 hk3 hk4 => ?_)
            dsimp only
            by_cases hk20 : j1 - at2 > 0
            · rw [if_pos hk20]
              have m4 := m3.runB (i := at2) hat2 fun x hx y hy => by
                obtain ⟨q, hq, hs', rfl⟩ := mem_take_drop hx
                exact Int.le_trans (mem_take_le sa hi2 y hy) (hk4 _ hs' (by omega) (by omega))
              by_cases e4 : at2 = 1
              · rw [if_pos (by simpa using e4)]
                exact wpS_pure ⟨hs, .inl ⟨_, _, rfl, m4.first e4 nb hlo⟩⟩
              rw [if_neg (by simpa using e4)]
              by_cases e7 : at2 = 0
              · rw [if_pos (by simpa using e7)]
                exact wpS_pure ⟨hs, .inl ⟨_, _, rfl, m4.done (.inr e7)⟩⟩
              rw [if_neg (by simpa using e7)]
              have hle5 : ∀ y ∈ b.toList.take at2, LeK y a[i2] := fun y hy => Int.le_of_lt (hk3 y (by rw [List.drop_zero]; exact hy))
              have m5 := m4.pushA hi2 hle5
              refine wpS_bind (wpS_elem hi2 ?_)
              by_cases e5 : i2 = 0
              · rw [if_pos (by simpa using e5)]
                exact wpS_pure ⟨hs, .inl ⟨_, _, rfl, m5.done (.inl e5)⟩⟩
              rw [if_neg (by simpa using e5)]
              by_cases e6 : (decide (i1 + 1 - (i2 + 1) < 7) && decide (j1 - at2 < 7)) = true
              · rw [if_pos e6]
                exact wpS_pure ⟨hs, .inr ⟨_, _, _, _, _, _, rfl, by omega, by omega, by omega, by omega, by omega, m5⟩⟩
              · rw [if_neg e6]
                exact wpS_pure ⟨hs, _, _, _, _, _, _, rfl, by omega, by omega, by omega, by omega, by omega, m5⟩
            · rw [if_neg hk20]
              have hle5 : ∀ y ∈ b.toList.take j1, LeK y a[i2] := fun y hy => Int.le_of_lt (hk3 y (by rw [List.drop_zero, show at2 = j1 by omega]; exact hy))
              have m5 := m3.pushA hi2 hle5
              refine wpS_bind (wpS_elem hi2 ?_)
              by_cases e5 : i2 = 0
              · rw [if_pos (by simpa using e5)]
                exact wpS_pure ⟨hs, .inl ⟨_, _, rfl, m5.done (.inl e5)⟩⟩
              rw [if_neg (by simpa using e5)]
              by_cases e6 : (decide (i1 + 1 - (i2 + 1) < 7) && decide (j1 - at2 < 7)) = true
              · rw [if_pos e6]
                exact wpS_pure ⟨hs, .inr ⟨_, _, _, _, _, _, rfl, by omega, by omega, by omega, by omega, by omega, m5⟩⟩
              · rw [if_neg e6]
                exact wpS_pure ⟨hs, _, _, _, _, _, _, rfl, by omega, by omega, by omega, by omega, by omega, m5⟩
          · rw [if_neg hk0]
            have hat : at1 = i1 + 1 := by omega
            have hle3 : ∀ y ∈ a.toList.take (i1 + 1), LeK y b[j1] := fun y hy => hk1 y (by rw [List.drop_zero, hat]; exact hy)
            obtain ⟨i2, rfl⟩ : ∃ i2, i1 = i2 := ⟨i1, rfl⟩
            have hi2 : i1 < a.size := hi1
            have m3 := m.pushB hj1 hle3
            refine wpS_bind (wpS_elem hj1 ?_)
            by_cases e3 : j1 = 1
            · rw [if_pos (by simpa using e3)]
              exact wpS_pure ⟨hs, .inl ⟨_, _, rfl, m3.first e3 nb hlo⟩⟩
            rw [if_neg (by simpa using e3)]
            refine wpS_bind (wpS_elem hi1 ?_)
            refine wpS_bind (wpS_galL (by exact hs.1.trans hk) (ia _ (by simp)) ib sb (by omega) (by omega) fun at2 hat2 hk3 hk4 => ?_)
            dsimp only
            by_cases hk20 : j1 - at2 > 0
            · rw [if_pos hk20]
              have m4 := m3.runB (i := at2) hat2 fun x hx y hy => by
                obtain ⟨q, hq, hs', rfl⟩ := mem_take_drop hx
                exact Int.le_trans (mem_take_le sa hi1 y hy) (hk4 _ hs' (by omega) (by omega))
              by_cases e4 : at2 = 1
              · rw [if_pos (by simpa using e4)]
                exact wpS_pure ⟨hs, .inl ⟨_, _, rfl, m4.first e4 nb hlo⟩⟩
              rw [if_neg (by simpa using e4)]
              by_cases e7 : at2 = 0
              · rw [if_pos (by simpa using e7)]
                exact wpS_pure ⟨hs, .inl ⟨_, _, rfl, m4.done (.inr e7)⟩⟩
              rw [if_neg (by simpa using e7)]
              have hle5 : ∀ y ∈ b.toList.take at2, LeK y a[i1] := fun y hy => Int.le_of_lt (hk3 y (by rw [List.drop_zero]; exact hy))
              have m5 := m4.pushA hi1 hle5
              refine wpS_bind (wpS_elem hi1 ?_)
              by_cases e5 : i1 = 0
              · rw [if_pos (by simpa using e5)]
                exact wpS_pure ⟨hs, .inl ⟨_, _, rfl, m5.done (.inl e5)⟩⟩
              rw [if_neg (by simpa using e5)]
              by_cases e6 : (decide (i1 + 1 - at1 < 7) && decide (j1 - at2 < 7)) = true
              · rw [if_pos e6]
                exact wpS_pure ⟨hs, .inr ⟨_, _, _, _, _, _, rfl, by omega, by omega, by omega, by omega, by omega, m5⟩⟩
              · rw [if_neg e6]
                exact wpS_pure ⟨hs, _, _, _, _, _, _, rfl, by omega, by omega, by omega, by omega, by omega, m5⟩
            · rw [if_neg hk20]
              have hle5 : ∀ y ∈ b.toList.take j1, LeK y a[i1] := fun y hy => Int.le_of_lt (hk3 y (by rw [List.drop_zero, show at2 = j1 by omega]; exact hy))
              have m5 := m3.pushA hi1 hle5
              refine wpS_bind (wpS_elem hi1 ?_)
              by_cases e5 : i1 = 0
              · rw [if_pos (by simpa using e5)]
                exact wpS_pure ⟨hs, .inl ⟨_, _, rfl, m5.done (.inl e5)⟩⟩
              rw [if_neg (by simpa using e5)]
              by_cases e6 : (decide (i1 + 1 - at1 < 7) && decide (j1 - at2 < 7)) = true
              · rw [if_pos e6]
                exact wpS_pure ⟨hs, .inr ⟨_, _, _, _, _, _, rfl, by omega, by omega, by omega, by omega, by omega, m5⟩⟩
              · rw [if_neg e6]
                exact wpS_pure ⟨hs, _, _, _, _, _, _, rfl, by omega, by omega, by omega, by omega, by omega, m5⟩
        · rw [if_neg hmg]
          refine wpS_bind (wpS_modify ?_)
          refine wpS_bind (wpS_elem hj1 ?_)
          refine wpS_bind (wpS_galR (by exact hs.1.trans hk) (ib _ (by simp)) ia sa (by omega) (by omega) fun at1 hat1 hk1 hk2 => ?_)
          dsimp only
          by_cases hk0 : i1 + 1 - at1 > 0
          · rw [if_pos hk0]
            have m2 := m.runA (i := at1) (by omega) fun x hx y hy => by
              obtain ⟨q, hq, hs', rfl⟩ := mem_take_drop hx
              exact Int.le_trans (mem_take_le sb hj1 y hy) (Int.le_of_lt (hk2 _ hs' (by omega) (by omega)))
            by_cases e1 : at1 = 0
            · rw [if_pos (by simpa using e1)]
              exact wpS_pure ⟨hs, .inl ⟨_, _, rfl, m2.done (.inl e1)⟩⟩
            rw [if_neg (by simpa using e1)]
            obtain ⟨i2, rfl⟩ : ∃ i2, at1 = i2 + 1 := ⟨at1 - 1, by omega⟩
            have hi2 : i2 < a.size := by omega
            have hle3 : ∀ y ∈ a.toList.take (i2 + 1), LeK y b[j1] := fun y hy => hk1 y (by rw [List.drop_zero]; exact hy)
            simp only [Nat.add_sub_cancel]
            have m3 := m2.pushB hj1 hle3
            refine wpS_bind (wpS_elem hj1 ?_)
            by_cases e3 : j1 = 1
            · rw [if_pos (by simpa using e3)]
              exact wpS_pure ⟨hs, .inl ⟨_, _, rfl, m3.first e3 nb hlo⟩⟩
            rw [if_neg (by simpa using e3)]
            refine wpS_bind (wpS_elem hi2 ?_)
            refine wpS_bind (wpS_galL (by exact hs.1.trans hk) (ia _ (by simp)) ib sb (by omega) (by omega) fun at2 hat2 hk3 hk4 => ?_)
            dsimp only
            by_cases hk20 : j1 - at2 > 0
            · rw [if_pos hk20]
              have m4 := m3.runB (i := at2) hat2 fun x hx y hy => by
                obtain ⟨q, hq, hs', rfl⟩ := mem_take_drop hx
                exact Int.le_trans (mem_take_le sa hi2 y hy) (hk4 _ hs' (by omega) (by omega))
              by_cases e4 : at2 = 1
              · rw [if_pos (by simpa using e4)]
                exact wpS_pure ⟨hs, .inl ⟨_, _, rfl, m4.first e4 nb hlo⟩⟩
              rw [if_neg (by simpa using e4)]
              by_cases e7 : at2 = 0
              · rw [if_pos (by simpa using e7)]
                exact wpS_pure ⟨hs, .inl ⟨_, _, rfl, m4.done (.inr e7)⟩⟩
              rw [if_neg (by simpa using e7)]
              have hle5 : ∀ y ∈ b.toList.take at2, LeK y a[i2] := fun y hy => Int.le_of_lt (hk3 y (by rw [List.drop_zero]; exact hy))
              have m5 := m4.pushA hi2 hle5
              refine wpS_bind (wpS_elem hi2 ?_)
              by_cases e5 : i2 = 0
              · rw [if_pos (by simpa using e5)]
                exact wpS_pure ⟨hs, .inl ⟨_, _, rfl, m5.done (.inl e5)⟩⟩
              rw [if_neg (by simpa using e5)]
              by_cases e6 : (decide (i1 + 1 - (i2 + 1) < 7) && decide (j1 - at2 < 7)) = true
              · rw [if_pos e6]
                exact wpS_pure ⟨hs, .inr ⟨_, _, _, _, _, _, rfl, by omega, by omega, by omega, by omega, by omega, m5⟩⟩
              · rw [if_neg e6]
                exact wpS_pure ⟨hs, _, _, _, _, _, _, rfl, by omega, by omega, by omega, by omega, by omega, m5⟩
            · rw [if_neg hk20]
              have hle5 : ∀ y ∈ b.toList.take j1, LeK y a[i2] := fun y hy => Int.le_of_lt (hk3 y (by rw [List.drop_zero, show at2 = j1 by omega]; exact hy))
              have m5 := m3.pushA hi2 hle5
              refine wpS_bind (wpS_elem hi2 ?_)
              by_cases e5 : i2 = 0
              · rw [if_pos (by simpa using e5)]
                exact wpS_pure ⟨hs, .inl ⟨_, _, rfl, m5.done (.inl e5)⟩⟩
              rw [if_neg (by simpa using e5)]
              by_cases e6 : (decide (i1 + 1 - (i2 + 1) < 7) && decide (j1 - at2 < 7)) = true
              · rw [if_pos e6]
                exact wpS_pure ⟨hs, .inr ⟨_, _, _, _, _, _, rfl, by omega, by omega, by omega, by omega, by omega, m5⟩⟩
              · rw [if_neg e6]
                exact wpS_pure ⟨hs, _, _, _, _, _, _, rfl, by omega, by omega, by omega, by omega, by omega, m5⟩
          · rw [if_neg hk0]
            have hat : at1 = i1 + 1 := by omega
            have hle3 : ∀ y ∈ a.toList.take (i1 + 1), LeK y b[j1] := fun y hy => hk1 y (by rw [List.drop_zero, hat]; exact hy)
            obtain ⟨i2, rfl⟩ : ∃ i2, i1 = i2 := ⟨i1, rfl⟩
            have hi2 : i1 < a.size := hi1
            have m3 := m.pushB hj1 hle3
            refine wpS_bind (wpS_elem hj1 ?_)
            by_cases e3 : j1 = 1
            · rw [if_pos (by simpa using e3)]
              exact wpS_pure ⟨hs, .inl ⟨_, _, rfl, m3.first e3 nb hlo⟩⟩
            rw [if_neg (by simpa using e3)]
            refine wpS_bind (wpS_elem hi1 ?_)
            refine wpS_bind (wpS_galL (by exact hs.1.trans hk) (ia _ (by simp)) ib sb (by omega) (by omega) fun at2 hat2 hk3 hk4 => ?_)
            dsimp only
            by_cases hk20 : j1 - at2 > 0
            · rw [if_pos hk20]
              have m4 := m3.runB (i := at2) hat2 fun x hx y hy => by
                obtain ⟨q, hq, hs', rfl⟩ := mem_take_drop hx
                exact Int.le_trans (mem_take_le sa hi1 y hy) (hk4 _ hs' (by omega) (by omega))
              by_cases e4 : at2 = 1
              · rw [if_pos (by simpa using e4)]
                exact wpS_pure ⟨hs, .inl ⟨_, _, rfl, m4.first e4 nb hlo⟩⟩
              rw [if_neg (by simpa using e4)]
              by_cases e7 : at2 = 0
              · rw [if_pos (by simpa using e7)]
                exact wpS_pure ⟨hs, .inl ⟨_, _, rfl, m4.done (.inr e7)⟩⟩
              rw [if_neg (by simpa using e7)]
              have hle5 : ∀ y ∈ b.toList.take at2, LeK y a[i1] := fun y hy => Int.le_of_lt (hk3 y (by rw [List.drop_zero]; exact hy))
              have m5 := m4.pushA hi1 hle5
              refine wpS_bind (wpS_elem hi1 ?_)
              by_cases e5 : i1 = 0
              · rw [if_pos (by simpa using e5)]
                exact wpS_pure ⟨hs, .inl ⟨_, _, rfl, m5.done (.inl e5)⟩⟩
              rw [if_neg (by simpa using e5)]
              by_cases e6 : (decide (i1 + 1 - at1 < 7) && decide (j1 - at2 < 7)) = true
              · rw [if_pos e6]
                exact wpS_pure ⟨hs, .inr ⟨_, _, _, _, _, _, rfl, by omega, by omega, by omega, by omega, by omega, m5⟩⟩
              · rw [if_neg e6]
                exact wpS_pure ⟨hs, _, _, _, _, _, _, rfl, by omega, by omega, by omega, by omega, by omega, m5⟩
            · rw [if_neg hk20]
              have hle5 : ∀ y ∈ b.toList.take j1, LeK y a[i1] := fun y hy => Int.le_of_lt (hk3 y (by rw [List.drop_zero, show at2 = j1 by omega]; exact hy))
              have m5 := m3.pushA hi1 hle5
              refine wpS_bind (wpS_elem hi1 ?_)
              by_cases e5 : i1 = 0
              · rw [if_pos (by simpa using e5)]
                exact wpS_pure ⟨hs, .inl ⟨_, _, rfl, m5.done (.inl e5)⟩⟩
              rw [if_neg (by simpa using e5)]
              by_cases e6 : (decide (i1 + 1 - at1 < 7) && decide (j1 - at2 < 7)) = true
              · rw [if_pos e6]
                exact wpS_pure ⟨hs, .inr ⟨_, _, _, _, _, _, rfl, by omega, by omega, by omega, by omega, by omega, m5⟩⟩
              · rw [if_neg e6]
                exact wpS_pure ⟨hs, _, _, _, _, _, _, rfl, by omega, by omega, by omega, by omega, by omega, m5⟩
end
/-- changed within a slice only, and there in order alone -/
structure Sl (lo hi : Nat) (xs ys : Array Keyed) : Prop where
  perm : ys.Perm xs
  out : ∀ i, i < lo ∨ hi ≤ i → ys[i]? = xs[i]?
theorem Sl.refl (lo hi : Nat) (xs : Array Keyed) : Sl lo hi xs xs := ⟨.refl _, fun _ _ => rfl⟩
theorem Sl.trans {lo hi : Nat} {xs ys zs : Array Keyed} (h : Sl lo hi xs ys) (h' : Sl lo hi ys zs) : Sl lo hi xs zs := ⟨h'.perm.trans h.perm, fun i hi' => (h'.out i hi').trans (h.out i hi')⟩
theorem Sl.size {lo hi : Nat} {xs ys : Array Keyed} (h : Sl lo hi xs ys) : ys.size = xs.size := h.perm.size_eq
theorem Sl.rev {lo hi i j : Nat} {xs : Array Keyed} (h1 : lo ≤ i) (h2 : j ≤ hi) (h3 : j ≤ xs.size) : Sl lo hi xs (mirror xs i j ((j - i) / 2)) := by
  refine ⟨mirror_perm _ _ _ _, fun k hk => ?_⟩
  rw [getElem?_mirror_all h3, if_neg (by omega)]
theorem Sl.bub {lo hi src d : Nat} {xs : Array Keyed} (h1 : lo + d ≤ src) (h2 : src < hi) (h3 : src < xs.size) : Sl lo hi xs (bubble xs src d) := by
  refine ⟨bubble_perm _ _ _, fun k hk => ?_⟩
  rw [getElem?_bubble h3 d (by omega), if_neg (by omega), if_neg (by omega)]
def AllI (xs : Array Keyed) : Prop := ∀ x ∈ xs.toList, IntK x
theorem AllI.perm {xs ys : Array Keyed} (h : AllI xs) (p : ys.Perm xs) : AllI ys := fun x hx => h x ((Array.perm_iff_toList_perm.mp p).mem_iff.mp hx)
/-- rising, falling on a slice -/
def Up (xs : Array Keyed) (lo hi : Nat) : Prop := ∀ i j, lo ≤ i → i ≤ j → j < hi → K xs i ≤ K xs j
def Dn (xs : Array Keyed) (lo hi : Nat) : Prop := ∀ i j, lo ≤ i → i ≤ j → j < hi → K xs j ≤ K xs i
theorem Up.snoc {xs : Array Keyed} {lo hi : Nat} (h : Up xs lo hi) (hlt : lo < hi) (e : K xs (hi - 1) ≤ K xs hi) : Up xs lo (hi + 1) := by
  intro i j h1 h2 h3
  by_cases hj : j < hi
  · exact h i j h1 h2 hj
  · have ej : j = hi := by omega
    subst ej
    by_cases hi' : i = j
    · subst hi'; exact Int.le_refl _
    · exact Int.le_trans (h i (j - 1) h1 (by omega) (by omega)) e
theorem Dn.snoc {xs : Array Keyed} {lo hi : Nat} (h : Dn xs lo hi) (hlt : lo < hi) (e : K xs hi ≤ K xs (hi - 1)) : Dn xs lo (hi + 1) := by
  intro i j h1 h2 h3
  by_cases hj : j < hi
  · exact h i j h1 h2 hj
  · have ej : j = hi := by omega
    subst ej
    by_cases hi' : i = j
    · subst hi'; exact Int.le_refl _
    · exact Int.le_trans e (h i (j - 1) h1 (by omega) (by omega))
theorem Dn.mirror {xs : Array Keyed} {lo hi : Nat} (h : Dn xs lo hi) (hs : hi ≤ xs.size) : Up (mirror xs lo hi ((hi - lo) / 2)) lo hi := by
  intro i j h1 h2 h3
  rw [K_mirror hs, K_mirror hs, if_pos (by omega), if_pos (by omega)]
  exact h _ _ (by omega) (by omega) (by omega)
/-- the state but for the array -/
def armed (st st' : SortSt) : Prop := kindOf st' = kindOf st ∧ pendingOf st' = pendingOf st ∧ failedOf st' = failedOf st
section
variable {prog : Program} {w : World} {A : Around} {E : Value → Shared → Prop} {s : Shared} [KeyLt prog w A E s]
theorem wpS_ltI {st : SortSt} {i j : Nat} {Q : Option Bool → SortSt → Prop} (hk : kindOf st = KeyC.κ) (hI : AllI (arrOf st)) (hi : i < (arrOf st).size) (hj : j < (arrOf st).size) (h : Q (some (decide (K (arrOf st) i < K (arrOf st) j))) st) : wpS (model prog w) A E s (ltAt' i j) Q st := by
  have ei : K (arrOf st) i = keyOf (arrOf st)[i] := by unfold K; rw [getElem?_pos _ i hi]
  have ej : K (arrOf st) j = keyOf (arrOf st)[j] := by unfold K; rw [getElem?_pos _ j hj]
  rw [ei, ej] at h
  rw [ltAt'_eq]
  refine wpS_bind (wpS_get ?_)
  exact wpS_bind (wpS_elem hi (wpS_bind (wpS_elem hj (wpS_lt hk (hI _ (by simp)) (hI _ (by simp)) h))))

abbrev AscS := Option (Option Nat) × Nat
def ascF (lo : Nat) : Nat → AscS → StateT SortSt Sem (ForInStep AscS) := fun _ c => do
  let x ← ltAt' (lo + c.2) (lo + c.2 - 1)
  match x with
  | some b => if b = true then pure (ForInStep.done (none, c.2)) else pure (ForInStep.yield (none, c.2 + 1))
  | _ => pure (ForInStep.done (some none, c.2))
theorem wpS_asc {st : SortSt} {lo a nrem : Nat} {Q : AscS → SortSt → Prop} (hk : kindOf st = KeyC.κ) (hI : AllI (arrOf st)) (hn : lo + nrem ≤ (arrOf st).size) (ha : 1 ≤ a) (han : a ≤ nrem) (hs : Up (arrOf st) lo (lo + a))
    (h : ∀ n, a ≤ n → n ≤ nrem → Up (arrOf st) lo (lo + n) → (n = nrem ∨ K (arrOf st) (lo + n) < K (arrOf st) (lo + n - 1)) → Q (none, n) st) : wpS (model prog w) A E s (forIn [a:nrem] ((none, a) : AscS) (ascF lo)) Q st := by
  refine wpS_forRange (I := fun x c st' => st' = st ∧ c = (none, x) ∧ Up (arrOf st) lo (lo + x)) ?step ?fin ⟨rfl, rfl, hs⟩
  case fin =>
    rintro c st' ⟨rfl, rfl, hs'⟩
    rw [show max a nrem = nrem by omega] at hs' ⊢
    exact h nrem han (Nat.le_refl _) hs' (.inl rfl)
  case step =>
    rintro x c st' h1 h2 ⟨rfl, rfl, hs'⟩
    unfold ascF
    dsimp only
    refine wpS_bind (wpS_ltI hk hI (by omega) (by omega) ?_)
    by_cases e : K (arrOf st') (lo + x) < K (arrOf st') (lo + x - 1)
    · simp only [e, decide_true, if_true]
      exact wpS_pure (h x h1 (by omega) hs' (.inr e))
    · simp only [e, decide_false, Bool.false_eq_true, if_false]
      refine wpS_pure ⟨rfl, rfl, ?_⟩
      exact hs'.snoc (by omega) (Int.not_lt.mp e)
abbrev DscS := Option (Option Nat) × Nat × Nat
def dscF (lo : Nat) : Nat → DscS → StateT SortSt Sem (ForInStep DscS) := fun _ c => do
  let x ← ltAt' (lo + c.2.1) (lo + c.2.1 - 1)
  match x with
  | some b =>
    if b = true then
      if c.2.2 > 0 then do
        reverseSlice' (lo + c.2.1 - (c.2.2 + 1)) (lo + c.2.1)
        pure (ForInStep.yield (none, c.2.1 + 1, 0))
      else pure (ForInStep.yield (none, c.2.1 + 1, 0))
    else do
      let y ← ltAt' (lo + c.2.1 - 1) (lo + c.2.1)
      match y with
      | some d => if d = true then pure (ForInStep.done (none, c.2.1, c.2.2)) else pure (ForInStep.yield (none, c.2.1 + 1, c.2.2 + 1))
      | _ => pure (ForInStep.done (some none, c.2.1, c.2.2))
  | _ => pure (ForInStep.done (some none, c.2.1, c.2.2))
/-- the array alone is another, within the slice -/
def Moved2 (lo hi : Nat) (st st' : SortSt) : Prop := armed st st' ∧ Sl lo hi (arrOf st) (arrOf st')
theorem Moved2.set {lo hi : Nat} {st st' : SortSt} (m : Moved2 lo hi st st') {xs : Array Keyed} (h : Sl lo hi (arrOf st') xs) : Moved2 lo hi st (setArr st' xs) := ⟨m.1, m.2.trans h⟩
theorem Moved2.all {lo hi : Nat} {st st' : SortSt} (m : Moved2 lo hi st st') (h : AllI (arrOf st)) : AllI (arrOf st') := h.perm m.2.perm
theorem wpS_rev {st : SortSt} {i j : Nat} {Q : Unit → SortSt → Prop} (h : Q () (setArr st (mirror (arrOf st) i j ((j - i) / 2)))) : wpS (model prog w) A E s (reverseSlice' i j) Q st := by
  rw [reverseSlice'_eq]
  exact wpS_modify h
theorem wpS_dsc {st₀ st : SortSt} {lo n nrem : Nat} {Q : DscS → SortSt → Prop} (m : Moved2 lo (lo + nrem) st₀ st) (hk : kindOf st₀ = KeyC.κ) (hI : AllI (arrOf st₀)) (hn : lo + nrem ≤ (arrOf st₀).size) (h1 : 1 ≤ n) (hnn : n ≤ nrem) (hs : Dn (arrOf st) lo (lo + n))
    (h : ∀ k q st', Moved2 lo (lo + nrem) st₀ st' → n ≤ k → k ≤ nrem → Dn (arrOf st') lo (lo + k) → q + 1 ≤ k → (∀ i, lo + k - (q + 1) ≤ i → i < lo + k → K (arrOf st') i = K (arrOf st') (lo + k - 1)) → Q (none, k, q) st') :
    wpS (model prog w) A E s (forIn [n:nrem] ((none, n, 0) : DscS) (dscF lo)) Q st := by
  refine wpS_forRange (I := fun x c st' => ∃ q, c = (none, x, q) ∧ Moved2 lo (lo + nrem) st₀ st' ∧ Dn (arrOf st') lo (lo + x) ∧ q + 1 ≤ x ∧ (∀ i, lo + x - (q + 1) ≤ i → i < lo + x → K (arrOf st') i = K (arrOf st') (lo + x - 1))) ?step ?fin ⟨0, rfl, m, hs, by omega, fun i h1 h2 => by congr 1; omega⟩
  case fin =>
    rintro c st' ⟨q, rfl, m', hs', hq, he⟩
    rw [show max n nrem = nrem by omega] at hs' hq he ⊢
    exact h nrem q st' m' hnn (Nat.le_refl _) hs' hq he
  case step =>
    rintro x c st' hax hxn ⟨q, rfl, m', hs', hq, he⟩
    unfold dscF
    dsimp only
    have hsz := m'.2.size
    refine wpS_bind (wpS_ltI (m'.1.1.trans hk) (m'.all hI) (by omega) (by omega) ?_)
    by_cases hless : K (arrOf st') (lo + x) < K (arrOf st') (lo + x - 1)
    · simp only [hless, decide_true, if_true]
      have dn := hs'.snoc (by omega) (Int.le_of_lt hless)
      by_cases hq0 : q > 0
      · rw [if_pos hq0]
        refine wpS_bind (wpS_rev (wpS_pure ⟨0, rfl, m'.set (Sl.rev (by omega) (by omega) (by omega)), ?_, by omega, fun i h1 h2 => by congr 1; omega⟩))
        intro i j a1 a2 a3
        show K (mirror (arrOf st') _ _ _) j ≤ K (mirror (arrOf st') _ _ _) i
        rw [K_mirror_equal (by omega) he, K_mirror_equal (by omega) he]
        exact dn i j a1 a2 a3
      · rw [if_neg hq0]
        exact wpS_pure ⟨0, rfl, m', dn, by omega, fun i h1 h2 => by congr 1; omega⟩
    · simp only [hless, decide_false, Bool.false_eq_true, if_false]
      refine wpS_bind (wpS_ltI (m'.1.1.trans hk) (m'.all hI) (by omega) (by omega) ?_)
      by_cases hl2 : K (arrOf st') (lo + x - 1) < K (arrOf st') (lo + x)
      · simp only [hl2, decide_true, if_true]
        exact wpS_pure (h x q st' m' hax (by omega) hs' hq he)
      · simp only [hl2, decide_false, Bool.false_eq_true, if_false]
        have ex : K (arrOf st') (lo + x) = K (arrOf st') (lo + x - 1) := by omega
        refine wpS_pure ⟨q + 1, rfl, m', hs'.snoc (by omega) (by omega), by omega, fun i b1 b2 => ?_⟩
        rw [show lo + (x + 1) - 1 = lo + x by omega]
        by_cases hix : i = lo + x
        · rw [hix]
        · rw [ex]; exact he i (by omega) (by omega)
end
section
variable {prog : Program} {w : World} {A : Around} {E : Value → Shared → Prop} {s : Shared} [KeyLt prog w A E s]
theorem wpS_count {st : SortSt} {lo nrem : Nat} {Q : Option Nat → SortSt → Prop} (hk : kindOf st = KeyC.κ) (hI : AllI (arrOf st)) (hn : lo + nrem ≤ (arrOf st).size) (h1 : 1 ≤ nrem)
    (h : ∀ m st', Moved2 lo (lo + nrem) st st' → 1 ≤ m → m ≤ nrem → Up (arrOf st') lo (lo + m) → Q (some m) st') : wpS (model prog w) A E s (countRun' lo nrem) Q st := by
  have m0 : Moved2 lo (lo + nrem) st st := ⟨⟨rfl, rfl, rfl⟩, .refl _ _ _⟩
  rw [countRun'_eq]
  have up1 : Up (arrOf st) lo (lo + 1) := fun i j a b c => by
    have e : i = j := by omega
    rw [e]
    exact Int.le_refl _
  refine wpS_bind (wpS_asc hk hI hn (Nat.le_refl 1) h1 up1 fun n hn1 hn2 hsn hor => ?_)
  dsimp only
  by_cases e0 : n = nrem
  · rw [if_pos (by simpa using e0)]
    exact wpS_pure (h n st m0 hn1 hn2 hsn)
  rw [if_neg (by simpa using e0)]
  have hlt : K (arrOf st) (lo + n) < K (arrOf st) (lo + n - 1) := hor.resolve_left e0
  by_cases hgt : n > 1
  · rw [if_pos hgt]
    refine wpS_bind (wpS_ltI hk hI (by omega) (by omega) ?_)
    dsimp only
    by_cases hrose : K (arrOf st) lo < K (arrOf st) (lo + n - 1)
    · simp only [hrose, decide_true, if_true]
      exact wpS_pure (h n st m0 hn1 hn2 hsn)
    · simp only [hrose, decide_false, Bool.false_eq_true, if_false]
      have hall : ∀ k, lo ≤ k → k < lo + n → K (arrOf st) k = K (arrOf st) (lo + n - 1) := by
        intro k b1 b2
        have a1 := hsn lo k (Nat.le_refl _) b1 b2
        have a2 := hsn k (lo + n - 1) b1 (by omega) (by omega)
        omega
      refine wpS_bind (wpS_rev ?_)
      have m1 := m0.set (Sl.rev (lo := lo) (hi := lo + nrem) (i := lo) (j := lo + n) (xs := arrOf st) (Nat.le_refl _) (by omega) (by omega))
      have dn : Dn (mirror (arrOf st) lo (lo + n) ((lo + n - lo) / 2)) lo (lo + (n + 1)) := by
        intro i j a1 a2 a3
        rw [K_mirror_equal (by omega) hall, K_mirror_equal (by omega) hall]
        by_cases hjn : j < lo + n
        · rw [hall i (by omega) (by omega), hall j (by omega) hjn]; exact Int.le_refl _
        · have ej : j = lo + n := by omega
          subst ej
          by_cases ei : i = lo + n
          · subst ei; exact Int.le_refl _
          · rw [hall i (by omega) (by omega)]; exact Int.le_of_lt hlt
      refine wpS_bind (wpS_lift (wpAny_rule ⟨rfl, ?_⟩))
      refine wpS_bind (wpS_dsc m1 hk hI hn (by omega) (by omega) dn fun k q st2 m2 k1 k2 d2 q1 q2 => ?_)
      dsimp only
      have hz := m2.2.size
      by_cases hq0 : q > 0
      · rw [if_pos hq0]
        refine wpS_bind (wpS_rev ?_)
        have m4 := m2.set (Sl.rev (lo := lo) (hi := lo + nrem) (i := lo + k - (q + 1)) (j := lo + k) (xs := arrOf st2) (by omega) (by omega) (by omega))
        have d4 : Dn (mirror (arrOf st2) (lo + k - (q + 1)) (lo + k) ((lo + k - (lo + k - (q + 1))) / 2)) lo (lo + k) := by
          intro i j a1 a2 a3
          rw [K_mirror_equal (by omega) q2, K_mirror_equal (by omega) q2]
          exact d2 i j a1 a2 a3
        generalize hst4 : setArr st2 (mirror (arrOf st2) (lo + k - (q + 1)) (lo + k) ((lo + k - (lo + k - (q + 1))) / 2)) = st4 at m4 ⊢
        have d5 : Dn (arrOf st4) lo (lo + k) := by rw [← hst4]; exact d4
        have hz4 := m4.2.size
        refine wpS_bind (wpS_rev ?_)
        have m3 := m4.set (Sl.rev (lo := lo) (hi := lo + nrem) (i := lo) (j := lo + k) (xs := arrOf st4) (Nat.le_refl _) (by omega) (by omega))
        refine wpS_bind (wpS_asc (m3.1.1.trans hk) (m3.all hI) (by have := m3.2.size; omega) (by omega) (by omega) ?_ fun n' a1 a2 a3 _ => ?_)
        · exact Dn.mirror d5 (by omega)
        · exact wpS_pure (h n' _ m3 (by omega) a2 a3)
      · rw [if_neg hq0]
        refine wpS_bind (wpS_rev ?_)
        have m3 := m2.set (Sl.rev (lo := lo) (hi := lo + nrem) (i := lo) (j := lo + k) (xs := arrOf st2) (Nat.le_refl _) (by omega) (by omega))
        refine wpS_bind (wpS_asc (m3.1.1.trans hk) (m3.all hI) (by have := m3.2.size; omega) (by omega) (by omega) ?_ fun n' a1 a2 a3 _ => ?_)
        · exact Dn.mirror d2 (by omega)
        · exact wpS_pure (h n' _ m3 (by omega) a2 a3)
  · rw [if_neg hgt]
    refine wpS_bind (wpS_lift (wpAny_rule ⟨rfl, ?_⟩))
    have dn1 : Dn (arrOf st) lo (lo + (n + 1)) := by
      have en : n = 1 := by omega
      subst en
      intro i j a1 a2 a3
      by_cases ei : i = j
      · subst ei; exact Int.le_refl _
      · have e1 : i = lo := by omega
        have e2 : j = lo + 1 := by omega
        subst e1 e2
        exact Int.le_of_lt hlt
    refine wpS_bind (wpS_dsc m0 hk hI hn (by omega) (by omega) dn1 fun k q st2 m2 k1 k2 d2 q1 q2 => ?_)
    dsimp only
    have hz := m2.2.size
    by_cases hq0 : q > 0
    · rw [if_pos hq0]
      refine wpS_bind (wpS_rev ?_)
      have m4 := m2.set (Sl.rev (lo := lo) (hi := lo + nrem) (i := lo + k - (q + 1)) (j := lo + k) (xs := arrOf st2) (by omega) (by omega) (by omega))
      have d4 : Dn (mirror (arrOf st2) (lo + k - (q + 1)) (lo + k) ((lo + k - (lo + k - (q + 1))) / 2)) lo (lo + k) := by
        intro i j a1 a2 a3
        rw [K_mirror_equal (by omega) q2, K_mirror_equal (by omega) q2]
        exact d2 i j a1 a2 a3
      generalize hst4 : setArr st2 (mirror (arrOf st2) (lo + k - (q + 1)) (lo + k) ((lo + k - (lo + k - (q + 1))) / 2)) = st4 at m4 ⊢
      have d5 : Dn (arrOf st4) lo (lo + k) := by rw [← hst4]; exact d4
      have hz4 := m4.2.size
      refine wpS_bind (wpS_rev ?_)
      have m3 := m4.set (Sl.rev (lo := lo) (hi := lo + nrem) (i := lo) (j := lo + k) (xs := arrOf st4) (Nat.le_refl _) (by omega) (by omega))
      refine wpS_bind (wpS_asc (m3.1.1.trans hk) (m3.all hI) (by have := m3.2.size; omega) (by omega) (by omega) ?_ fun n' a1 a2 a3 _ => ?_)
      · exact Dn.mirror d5 (by omega)
      · exact wpS_pure (h n' _ m3 (by omega) a2 a3)
    · rw [if_neg hq0]
      refine wpS_bind (wpS_rev ?_)
      have m3 := m2.set (Sl.rev (lo := lo) (hi := lo + nrem) (i := lo) (j := lo + k) (xs := arrOf st2) (Nat.le_refl _) (by omega) (by omega))
      refine wpS_bind (wpS_asc (m3.1.1.trans hk) (m3.all hI) (by have := m3.2.size; omega) (by omega) (by omega) ?_ fun n' a1 a2 a3 _ => ?_)
      · exact Dn.mirror d2 (by omega)
      · exact wpS_pure (h n' _ m3 (by omega) a2 a3)
end
end PyProof.Rows.TS

namespace PyProof.Rows.TS
open PySem PyProof.Rows
variable [KeyC]
section
variable {prog : Program} {w : World} {A : Around} {E : Value → Shared → Prop} {s : Shared} [KeyLt prog w A E s]
theorem wpS_bin {st₀ st : SortSt} {lo n ok hi : Nat} {Q : Bool → SortSt → Prop} (m : Moved2 lo hi st₀ st) (hk : kindOf st₀ = KeyC.κ) (hI : AllI (arrOf st₀)) (hh : lo + n ≤ hi) (hn : lo + n ≤ (arrOf st₀).size) (hok : ok ≤ n) (hs : Up (arrOf st) lo (lo + ok))
    (h : ∀ st', Moved2 lo hi st₀ st' → Up (arrOf st') lo (lo + n) → Q true st') : wpS (model prog w) A E s (binarySort' lo n ok) Q st := by
  rw [binarySort'_eq]
  refine wpS_bind (wpS_mono (wpS_forRange (I := fun k c st' => c = (none, ()) ∧ Moved2 lo hi st₀ st' ∧ Up (arrOf st') lo (lo + min k n))
    (Q := fun c st' => c = (none, ()) ∧ Moved2 lo hi st₀ st' ∧ Up (arrOf st') lo (lo + n)) ?step ?fin ?init) ?post)
  case post =>
    rintro c st' ⟨rfl, m', u'⟩
    exact wpS_pure (h st' m' u')
  case init =>
    refine ⟨rfl, m, fun i j a b c => ?_⟩
    by_cases e : ok = 0
    · have : i = j := by omega
      rw [this]
      exact Int.le_refl _
    · exact hs i j a b (by omega)
  case fin =>
    rintro c st' ⟨e, m', u'⟩
    rw [show min (max (max ok 1) n) n = n by omega] at u'
    exact ⟨e, m', u'⟩
  case step =>
    rintro k c st' h1 h2 ⟨rfl, m', u'⟩
    rw [show min k n = k by omega] at u'
    have hz := m'.2.size
    have hkk := m'.1.1.trans hk
    have hII := m'.all hI
    have hks : lo + k < (arrOf st').size := by omega
    refine wpS_bind (wpS_mono (wpS_forRange (I := fun x c st'' => st'' = st' ∧ ∃ l r, c = (none, l, r) ∧ l ≤ r ∧ r ≤ k ∧ r - l ≤ k - x ∧ (∀ i, i < l → K (arrOf st') (lo + i) ≤ K (arrOf st') (lo + k)) ∧ (∀ i, r ≤ i → i < k → K (arrOf st') (lo + k) < K (arrOf st') (lo + i)))
      (Q := fun c st'' => st'' = st' ∧ ∃ l r, c = (none, l, r) ∧ l ≤ k ∧ (∀ i, i < l → K (arrOf st') (lo + i) ≤ K (arrOf st') (lo + k)) ∧ (∀ i, l ≤ i → i < k → K (arrOf st') (lo + k) < K (arrOf st') (lo + i))) ?s2 ?f2 ?i2) ?p2)
    case i2 => exact ⟨rfl, 0, k, rfl, by omega, by omega, by omega, fun i hi => by omega, fun i a b => by omega⟩
    case f2 =>
      rintro c st'' ⟨rfl, l, r, rfl, a1, a2, a3, a4, a5⟩
      have e : l = r := by omega
      subst e
      exact ⟨rfl, l, l, rfl, a2, a4, a5⟩
    case s2 =>
      rintro x c st'' _ hx ⟨rfl, l, r, rfl, a1, a2, a3, a4, a5⟩
      dsimp only
      by_cases hge : l ≥ r
      · rw [if_pos hge]
        have e : l = r := by omega
        subst e
        exact wpS_pure ⟨rfl, l, l, rfl, a2, a4, a5⟩
      rw [if_neg hge]
      refine wpS_bind (wpS_ltI hkk hII hks (by omega) ?_)
      by_cases e : K (arrOf st'') (lo + k) < K (arrOf st'') (lo + (l + r) / 2)
      · simp only [e, decide_true, if_true]
        refine wpS_pure ⟨rfl, l, (l + r) / 2, rfl, by omega, by omega, by omega, a4, fun i b1 b2 => ?_⟩
        exact Int.lt_of_lt_of_le e (u' _ _ (by omega) (by omega) (by omega))
      · simp only [e, decide_false, Bool.false_eq_true, if_false]
        refine wpS_pure ⟨rfl, (l + r) / 2 + 1, r, rfl, by omega, by omega, by omega, fun i b1 => ?_, a5⟩
        exact Int.le_trans (u' (lo + i) (lo + (l + r) / 2) (by omega) (by omega) (by omega)) (Int.not_lt.mp e)
    case p2 =>
      rintro c st'' ⟨rfl, l, r, rfl, a2, a4, a5⟩
      dsimp only
      rw [moveDown'_eq]
      refine wpS_bind (wpS_modify (wpS_pure ⟨rfl, m'.set (Sl.bub (by omega) (by omega) hks), ?_⟩))
      rw [show min (k + 1) n = k + 1 by omega]
      intro i j b1 b2 b3
      show K (bubble (arrOf st'') (lo + k) (lo + k - (lo + l))) i ≤ K (bubble (arrOf st'') (lo + k) (lo + k - (lo + l))) j
      rw [K_bubble hks (by omega), K_bubble hks (by omega), show lo + k - (lo + k - (lo + l)) = lo + l by omega]
      have A4 : ∀ i, lo ≤ i → i < lo + l → K (arrOf st'') i ≤ K (arrOf st'') (lo + k) := fun i y1 y2 => by
        have := a4 (i - lo) (by omega)
        rwa [show lo + (i - lo) = i by omega] at this
      have A5 : ∀ i, lo + l ≤ i → i < lo + k → K (arrOf st'') (lo + k) < K (arrOf st'') i := fun i y1 y2 => by
        have := a5 (i - lo) (by omega) (by omega)
        rwa [show lo + (i - lo) = i by omega] at this
      by_cases c1 : i = lo + l
      · rw [if_pos c1]
        by_cases c2 : j = lo + l
        · rw [if_pos c2]; exact Int.le_refl _
        · rw [if_neg c2, if_pos (by omega)]
          exact Int.le_of_lt (A5 _ (by omega) (by omega))
      · rw [if_neg c1]
        by_cases c2 : j = lo + l
        · rw [if_pos c2, if_neg (by omega)]
          exact A4 i b1 (by omega)
        · rw [if_neg c2]
          by_cases d1 : lo + l < i ∧ i ≤ lo + k
          · rw [if_pos d1, if_pos (by omega)]
            exact u' _ _ (by omega) (by omega) (by omega)
          · rw [if_neg d1]
            by_cases d2 : lo + l < j ∧ j ≤ lo + k
            · rw [if_pos d2]
              exact u' _ _ (by omega) (by omega) (by omega)
            · rw [if_neg d2]
              exact u' _ _ (by omega) (by omega) (by omega)
end
end PyProof.Rows.TS
namespace PyProof.Rows.TS
open PySem PyProof.Rows
/-- a list written over a slice -/
def wr (arr : Array Keyed) (o : Nat) (l : List Keyed) (k : Nat) : Array Keyed := (l.zipIdx k).foldl (fun a (p : Keyed × Nat) => a.setIfInBounds (o + p.2) p.1) arr
theorem wr_nil (arr : Array Keyed) (o k : Nat) : wr arr o [] k = arr := rfl
theorem wr_cons (arr : Array Keyed) (o : Nat) (x : Keyed) (l : List Keyed) (k : Nat) : wr arr o (x :: l) k = wr (arr.setIfInBounds (o + k) x) o l (k + 1) := rfl
theorem wr_get : ∀ (l : List Keyed) (arr : Array Keyed) (o k : Nat), o + k + l.length ≤ arr.size → ∀ i, (wr arr o l k)[i]? = if o + k ≤ i ∧ i < o + k + l.length then l[i - (o + k)]? else arr[i]?
  | [], arr, o, k, _, i => by
    rw [wr_nil, if_neg (by simp)]
  | x :: l, arr, o, k, h, i => by
    rw [List.length_cons] at h ⊢
    rw [wr_cons, wr_get l _ o (k + 1) (by simp; omega) i, Array.getElem?_setIfInBounds]
    by_cases c1 : o + k = i
    · rw [if_neg (by omega), if_pos c1, if_pos (by omega), if_pos (by omega), show i - (o + k) = 0 by omega]
      rfl
    · by_cases c2 : o + (k + 1) ≤ i ∧ i < o + (k + 1) + l.length
      · rw [if_pos c2, if_pos (by omega), show i - (o + k) = (i - (o + (k + 1))) + 1 by omega, List.getElem?_cons_succ]
      · rw [if_neg c2, if_neg c1, if_neg (by omega)]
theorem wr_list {arr : Array Keyed} {o : Nat} {l : List Keyed} (h : o + l.length ≤ arr.size) : (wr arr o l 0).toList = arr.toList.take o ++ (l ++ arr.toList.drop (o + l.length)) := by
  refine List.ext_getElem? fun i => ?_
  rw [Array.getElem?_toList, wr_get l arr o 0 (by omega) i, Nat.add_zero]
  have ls : arr.toList.length = arr.size := by simp
  by_cases c1 : i < o
  · rw [if_neg (by omega), List.getElem?_append_left (by rw [List.length_take]; omega), List.getElem?_take_of_lt c1, Array.getElem?_toList]
  · rw [List.getElem?_append_right (by rw [List.length_take]; omega), List.length_take, show i - min o arr.toList.length = i - o by omega]
    by_cases c2 : i < o + l.length
    · rw [if_pos (by omega), List.getElem?_append_left (by omega)]
    · rw [if_neg (by omega), List.getElem?_append_right (by omega), List.getElem?_drop, Array.getElem?_toList]
      congr 1
      omega
theorem mergeAt'_eq (n : Nat) : mergeAt' n = (do
  let s ← get
  let (some (u, a, pw), some (v, b, _)) := ((pendingOf s)[n]?, (pendingOf s)[n + 1]?) | unsupported "internal:list.sort.pending"
  set (SortSt.mk' (kindOf s) (arrOf s) (((pendingOf s).setIfInBounds n (u, a + b, pw)).eraseIdxIfInBounds (n + 1)) (gallopOf s) (failedOf s))
  let some k ← gallop' false (← elem' (arrOf s) v) (arrOf s) u a 0 | return false
  let (u, a) := (u + k, a - k)
  if a == 0 then return true
  let some b ← gallop' true (← elem' (arrOf s) (u + a - 1)) (arrOf s) v b (b - 1) | return false
  if b == 0 then return true
  let x := (arrOf s).extract u v
  let y := (arrOf s).extract v (v + b)
  let made ← if a ≤ b then mergeLo' x y else mergeHi' x y
  modify fun s => setArr s (made.toList.zipIdx.foldl (fun z (p, j) => z.setIfInBounds (u + j) p) (arrOf s))
  return (failedOf (← get)).isNone) := rfl
variable [KeyC]
theorem K_at {xs : Array Keyed} {i : Nat} (hi : i < xs.size) : K xs i = keyOf xs[i] := by unfold K; rw [getElem?_pos _ i hi]
section
variable {prog : Program} {w : World} {A : Around} {E : Value → Shared → Prop} {s : Shared} [KeyLt prog w A E s]
theorem wpS_galR2 {st : SortSt} {key : Keyed} {arr : Array Keyed} {base n hint : Nat} {Q : Option Nat → SortSt → Prop} (hk : kindOf st = KeyC.κ) (hkey : IntK key) (ik : AllI arr) (up : Up arr base (base + n)) (hh : hint < n) (hn : base + n ≤ arr.size)
    (h : ∀ k, k ≤ n → (∀ i, base ≤ i → i < base + k → K arr i ≤ keyOf key) → (∀ i, base + k ≤ i → i < base + n → keyOf key < K arr i) → Q (some k) st) : wpS (model prog w) A E s (gallop' false key arr base n hint) Q st := by
  have eb : ∀ i, i < n → bey false key arr base i = !decide (keyOf key < K arr (base + i)) := fun i hi => by rw [bey_false (by omega), K_at (by omega)]
  refine wpS_gallop hk hkey hh (fun i hi => ⟨arr[base + i], Array.getElem?_eq_getElem (by omega), ik _ (by simp)⟩) (fun i j hij hj e => ?_) fun k hk' h1 h2 => h k hk' (fun i a b => ?_) (fun i a b => ?_)
  · rw [eb _ (by omega)] at e ⊢
    have := up (base + i) (base + j) (by omega) (by omega) (by omega)
    simp only [Bool.not_eq_true', decide_eq_false_iff_not] at e ⊢
    omega
  · have e := h1 (i - base) (by omega)
    rw [eb _ (by omega), show base + (i - base) = i by omega] at e
    simp only [Bool.not_eq_true', decide_eq_false_iff_not] at e
    omega
  · have e := h2 (i - base) (by omega) (by omega)
    rw [eb _ (by omega), show base + (i - base) = i by omega] at e
    simpa using e
theorem wpS_galL2 {st : SortSt} {key : Keyed} {arr : Array Keyed} {base n hint : Nat} {Q : Option Nat → SortSt → Prop} (hk : kindOf st = KeyC.κ) (hkey : IntK key) (ik : AllI arr) (up : Up arr base (base + n)) (hh : hint < n) (hn : base + n ≤ arr.size)
    (h : ∀ k, k ≤ n → (∀ i, base ≤ i → i < base + k → K arr i < keyOf key) → (∀ i, base + k ≤ i → i < base + n → keyOf key ≤ K arr i) → Q (some k) st) : wpS (model prog w) A E s (gallop' true key arr base n hint) Q st := by
  have eb : ∀ i, i < n → bey true key arr base i = decide (K arr (base + i) < keyOf key) := fun i hi => by rw [bey_true (by omega), K_at (by omega)]
  refine wpS_gallop hk hkey hh (fun i hi => ⟨arr[base + i], Array.getElem?_eq_getElem (by omega), ik _ (by simp)⟩) (fun i j hij hj e => ?_) fun k hk' h1 h2 => h k hk' (fun i a b => ?_) (fun i a b => ?_)
  · rw [eb _ (by omega)] at e ⊢
    have := up (base + i) (base + j) (by omega) (by omega) (by omega)
    simp only [decide_eq_true_eq] at e ⊢
    omega
  · have e := h1 (i - base) (by omega)
    rw [eb _ (by omega), show base + (i - base) = i by omega] at e
    simpa using e
  · have e := h2 (i - base) (by omega) (by omega)
    rw [eb _ (by omega), show base + (i - base) = i by omega] at e
    simp only [decide_eq_false_iff_not, Int.not_lt] at e
    exact e
/-- a slice of a rising stretch -/
theorem up_extract {arr : Array Keyed} {a b : Nat} (h : Up arr a b) (hb : b ≤ arr.size) : (arr.extract a b).toList.Pairwise LeK := by
  rw [List.pairwise_iff_getElem]
  intro i j hi hj hij
  simp only [Array.length_toList, Array.size_extract] at hi hj
  have e : ∀ k (hk : k < (arr.extract a b).toList.length), keyOf (arr.extract a b).toList[k] = K arr (a + k) := fun k hk => by
    simp only [Array.length_toList, Array.size_extract] at hk
    rw [K_at (by omega)]
    simp
  unfold LeK
  rw [e, e]
  exact h _ _ (by omega) (by omega) (by omega)
theorem mem_extract {arr : Array Keyed} {a b : Nat} (hb : b ≤ arr.size) {x : Keyed} (hx : x ∈ (arr.extract a b).toList) : ∃ i, a ≤ i ∧ i < b ∧ keyOf x = K arr i ∧ ∃ h : i < arr.size, x = arr[i] := by
  obtain ⟨k, hk, e⟩ := List.getElem_of_mem hx
  simp only [Array.length_toList, Array.size_extract] at hk
  refine ⟨a + k, by omega, by omega, ?_, by omega, ?_⟩
  · rw [K_at (by omega), ← e]
    simp
  · rw [← e]
    simp
theorem wpS_set {σ : Type} {M : Model} {A' : Around} {E' : Value → Shared → Prop} {s' : Shared} {x : σ} {Q : PUnit → σ → Prop} {st : σ} (h : Q ⟨⟩ x) : wpS M A' E' s' (set x : StateT σ Sem PUnit) Q st := by
  unfold wpS
  rw [StateT.run_set]
  exact wpAny_pure ⟨rfl, h⟩
theorem wpS_mergeAt {st : SortSt} {n u a v b pw pw' : Nat} {Q : Bool → SortSt → Prop} (hk : kindOf st = KeyC.κ) (hf : failedOf st = none) (hI : AllI (arrOf st)) (p1 : (pendingOf st)[n]? = some (u, a, pw)) (p2 : (pendingOf st)[n + 1]? = some (v, b, pw')) (huv : v = u + a) (ha : 0 < a) (hb : 0 < b) (hsz : v + b ≤ (arrOf st).size) (ua : Up (arrOf st) u v) (ub : Up (arrOf st) v (v + b))
    (h : ∀ st', kindOf st' = kindOf st → failedOf st' = none → pendingOf st' = ((pendingOf st).setIfInBounds n (u, a + b, pw)).eraseIdxIfInBounds (n + 1) → Sl u (v + b) (arrOf st) (arrOf st') → Up (arrOf st') u (v + b) → Q true st') : wpS (model prog w) A E s (mergeAt' n) Q st := by
  rw [mergeAt'_eq]
  refine wpS_bind (wpS_get ?_)
  rw [p1, p2]
  dsimp only
  subst huv
  refine wpS_bind (wpS_set ?_)
  have hv : u + a < (arrOf st).size := by omega
  refine wpS_bind (wpS_elem hv ?_)
  have kv : K (arrOf st) (u + a) = keyOf (arrOf st)[u + a] := K_at hv
  refine wpS_bind (wpS_galR2 hk (hI _ (by simp)) hI ua ha (by omega) fun k hka g1 g2 => ?_)
  dsimp only
  rw [← kv] at g1 g2
  by_cases c1 : a - k = 0
  · rw [if_pos (by simpa using c1)]
    refine wpS_pure (h _ rfl hf rfl (.refl _ _ _) fun i j b1 b2 b3 => ?_)
    show K (arrOf st) i ≤ K (arrOf st) j
    by_cases d1 : j < u + a
    · exact ua i j b1 b2 d1
    · by_cases d2 : i < u + a
      · exact Int.le_trans (g1 i b1 (by omega)) (ub (u + a) j (Nat.le_refl _) (by omega) b3)
      · exact ub i j (by omega) b2 b3
  rw [if_neg (by simpa using c1)]
  have hl : u + k + (a - k) - 1 < (arrOf st).size := by omega
  refine wpS_bind (wpS_elem hl ?_)
  have kl : K (arrOf st) (u + a - 1) = keyOf (arrOf st)[u + k + (a - k) - 1] := by rw [← K_at hl]; congr 1; omega
  refine wpS_bind (wpS_galL2 hk (hI _ (by simp)) hI ub (by omega) (by omega) fun b' hb' g3 g4 => ?_)
  dsimp only
  rw [← kl] at g3 g4
  by_cases c2 : b' = 0
  · rw [if_pos (by simpa using c2)]
    refine wpS_pure (h _ rfl hf rfl (.refl _ _ _) fun i j b1 b2 b3 => ?_)
    show K (arrOf st) i ≤ K (arrOf st) j
    by_cases d1 : j < u + a
    · exact ua i j b1 b2 d1
    · by_cases d2 : i < u + a
      · exact Int.le_trans (ua i (u + a - 1) b1 (by omega) (by omega)) (g4 j (by omega) b3)
      · exact ub i j (by omega) b2 b3
  rw [if_neg (by simpa using c2)]
  -- the two slices
  have ux : ((arrOf st).extract (u + k) (u + a)).toList.Pairwise LeK := up_extract (fun i j b1 b2 b3 => ua i j (by omega) b2 b3) (by omega)
  have uy : ((arrOf st).extract (u + a) (u + a + b')).toList.Pairwise LeK := up_extract (fun i j b1 b2 b3 => ub i j b1 b2 (by omega)) (by omega)
  have ix : ∀ z ∈ ((arrOf st).extract (u + k) (u + a)).toList, IntK z := fun z hz => by
    obtain ⟨i, _, _, _, hi, rfl⟩ := mem_extract (by omega) hz
    exact hI _ (by simp)
  have iy : ∀ z ∈ ((arrOf st).extract (u + a) (u + a + b')).toList, IntK z := fun z hz => by
    obtain ⟨i, _, _, _, hi, rfl⟩ := mem_extract (by omega) hz
    exact hI _ (by simp)
  have sx : ((arrOf st).extract (u + k) (u + a)).size = a - k := by rw [Array.size_extract]; omega
  have sy : ((arrOf st).extract (u + a) (u + a + b')).size = b' := by rw [Array.size_extract]; omega
  have y0 : keyOf (((arrOf st).extract (u + a) (u + a + b'))[0]'(by omega)) = K (arrOf st) (u + a) := by
    rw [kv]
    congr 1
    simp
  have xl : keyOf (((arrOf st).extract (u + k) (u + a))[((arrOf st).extract (u + k) (u + a)).size - 1]'(by omega)) = K (arrOf st) (u + a - 1) := by
    rw [K_at (by omega)]
    congr 1
    simp only [Array.getElem_extract]
    congr 1
    omega
  have hlo : ∀ z ∈ ((arrOf st).extract (u + k) (u + a)).toList, LeK (((arrOf st).extract (u + a) (u + a + b'))[0]'(by omega)) z := fun z hz => by
    obtain ⟨i, i1, i2, i3, _⟩ := mem_extract (by omega) hz
    unfold LeK
    rw [y0, i3]
    exact Int.le_of_lt (g2 i i1 i2)
  have hhi : ∀ z ∈ ((arrOf st).extract (u + a) (u + a + b')).toList, LeK z (((arrOf st).extract (u + k) (u + a))[((arrOf st).extract (u + k) (u + a)).size - 1]'(by omega)) := fun z hz => by
    obtain ⟨i, i1, i2, i3, _⟩ := mem_extract (by omega) hz
    unfold LeK
    rw [xl, i3]
    exact Int.le_of_lt (g3 i i1 i2)
  -- what is written back
  have fin : ∀ (res : Array Keyed) (st' : SortSt), sameSt (SortSt.mk' (kindOf st) (arrOf st) (((pendingOf st).setIfInBounds n (u, a + b, pw)).eraseIdxIfInBounds (n + 1)) (gallopOf st) (failedOf st)) st' → Srt (((arrOf st).extract (u + k) (u + a)).toList ++ ((arrOf st).extract (u + a) (u + a + b')).toList) res.toList →
      wpS (model prog w) A E s (do
        modify fun s => setArr s (List.foldl (fun z (x : Keyed × Nat) => z.setIfInBounds (u + k + x.2) x.1) (arrOf s) res.toList.zipIdx)
        let z ← get
        pure (failedOf z).isNone) Q st' := by
    intro res st' hs hr
    obtain ⟨s1, s2, s3, s4⟩ := hs
    have s2' : arrOf st' = arrOf st := s2
    have s4' : failedOf st' = none := s4.trans hf
    refine wpS_bind (wpS_modify (wpS_bind (wpS_get (wpS_pure ?_))))
    have ew : List.foldl (fun z (x : Keyed × Nat) => z.setIfInBounds (u + k + x.2) x.1) (arrOf st') res.toList.zipIdx = wr (arrOf st') (u + k) res.toList 0 := rfl
    have el : res.toList.length = (a - k) + b' := by
      rw [hr.1.length_eq, List.length_append, Array.length_toList, Array.length_toList, sx, sy]
    have hfit : u + k + res.toList.length ≤ (arrOf st).size := by omega
    show Q (failedOf st').isNone (setArr st' (List.foldl (fun z (x : Keyed × Nat) => z.setIfInBounds (u + k + x.2) x.1) (arrOf st') res.toList.zipIdx))
    rw [s4', ew, s2']
    have gw := wr_get res.toList (arrOf st) (u + k) 0 (by omega)
    have kw : ∀ i, K (wr (arrOf st) (u + k) res.toList 0) i = if u + k ≤ i ∧ i < u + a + b' then keyOf (res.toList.getD (i - (u + k)) (Value.none, Value.none)) else K (arrOf st) i := fun i => by
      have e := gw i
      rw [Nat.add_zero] at e
      by_cases c : u + k ≤ i ∧ i < u + a + b'
      · rw [if_pos (by omega)] at e
        rw [if_pos c]
        have hlt : i - (u + k) < res.toList.length := by omega
        rw [List.getElem?_eq_getElem hlt] at e
        unfold K
        rw [e, List.getD_eq_getElem?_getD, List.getElem?_eq_getElem hlt]
        rfl
      · rw [if_neg (by omega)] at e
        rw [if_neg c]
        exact K_congr e
    have memr : ∀ i, u + k ≤ i → i < u + a + b' → ∃ j, u + k ≤ j ∧ j < u + a + b' ∧ keyOf (res.toList.getD (i - (u + k)) (Value.none, Value.none)) = K (arrOf st) j := fun i i1 i2 => by
      have hlt : i - (u + k) < res.toList.length := by omega
      have hm : res.toList[i - (u + k)] ∈ res.toList := List.getElem_mem hlt
      rw [List.getD_eq_getElem?_getD, List.getElem?_eq_getElem hlt]
      rcases List.mem_append.mp (hr.1.mem_iff.mp hm) with z | z
      · obtain ⟨j, j1, j2, j3, _⟩ := mem_extract (by omega) z
        exact ⟨j, by omega, by omega, j3⟩
      · obtain ⟨j, j1, j2, j3, _⟩ := mem_extract (by omega) z
        exact ⟨j, by omega, by omega, j3⟩
    -- the bounds of what was merged
    have lowm : ∀ j, u + k ≤ j → j < u + a + b' → K (arrOf st) (u + a) ≤ K (arrOf st) j := fun j j1 j2 => by
      by_cases c : j < u + a
      · exact Int.le_of_lt (g2 j j1 c)
      · exact ub _ _ (Nat.le_refl _) (by omega) (by omega)
    have highm : ∀ j, u + k ≤ j → j < u + a + b' → K (arrOf st) j ≤ K (arrOf st) (u + a - 1) := fun j j1 j2 => by
      by_cases c : j < u + a
      · exact ua _ _ (by omega) (by omega) (by omega)
      · exact Int.le_of_lt (g3 j (by omega) j2)
    refine h _ s1 s4' s3 ⟨?_, fun i hi => ?_⟩ fun i j b1 b2 b3 => ?_
    · show (wr (arrOf st) (u + k) res.toList 0).Perm (arrOf st)
      rw [Array.perm_iff_toList_perm, wr_list hfit]
      have e1 : (arrOf st).toList = (arrOf st).toList.take (u + k) ++ ((((arrOf st).extract (u + k) (u + a)).toList ++ ((arrOf st).extract (u + a) (u + a + b')).toList) ++ (arrOf st).toList.drop (u + k + res.toList.length)) := by
        rw [ext_mid, ext_mid, el]
        have d1 := drop_split (arr := arrOf st) (u + k) (a - k)
        have d2 := drop_split (arr := arrOf st) (u + a) b'
        rw [show u + k + (a - k) = u + a by omega] at d1
        rw [show u + a - (u + k) = a - k by omega, show u + a + b' - (u + a) = b' by omega, show u + k + (a - k + b') = u + a + b' by omega, List.append_assoc, ← d2, ← d1, List.take_append_drop]
      conv => rhs; rw [e1]
      exact List.Perm.append_left _ (List.Perm.append_right _ hr.1)
    · show (wr (arrOf st) (u + k) res.toList 0)[i]? = (arrOf st)[i]?
      rw [gw i, if_neg (by omega)]
    · show K (wr (arrOf st) (u + k) res.toList 0) i ≤ K (wr (arrOf st) (u + k) res.toList 0) j
      rw [kw i, kw j]
      by_cases ci : u + k ≤ i ∧ i < u + a + b'
      · rw [if_pos ci]
        by_cases cj : u + k ≤ j ∧ j < u + a + b'
        · rw [if_pos cj]
          have l1 : i - (u + k) < res.toList.length := by omega
          have l2 : j - (u + k) < res.toList.length := by omega
          rw [List.getD_eq_getElem?_getD, List.getElem?_eq_getElem l1, List.getD_eq_getElem?_getD, List.getElem?_eq_getElem l2]
          by_cases e : i = j
          · subst e; exact Int.le_refl _
          · exact List.pairwise_iff_getElem.mp hr.2 _ _ l1 l2 (by omega)
        · rw [if_neg cj]
          obtain ⟨q, q1, q2, q3⟩ := memr i ci.1 ci.2
          rw [q3]
          exact Int.le_trans (highm q q1 q2) (g4 j (by omega) b3)
      · rw [if_neg ci]
        by_cases cj : u + k ≤ j ∧ j < u + a + b'
        · rw [if_pos cj]
          obtain ⟨q, q1, q2, q3⟩ := memr j cj.1 cj.2
          rw [q3]
          exact Int.le_trans (g1 i b1 (by omega)) (lowm q q1 q2)
        · rw [if_neg cj]
          by_cases d1 : j < u + k
          · exact ua i j b1 b2 (by omega)
          · by_cases d2 : i < u + k
            · exact Int.le_trans (g1 i b1 d2) (ub (u + a) j (Nat.le_refl _) (by omega) b3)
            · exact ub i j (by omega) b2 b3
  by_cases c3 : a - k ≤ b'
  · rw [if_pos c3]
    exact wpS_bind (wpS_mergeLo hk ix iy ux uy (by omega) (by omega) hlo hhi fun res st' hs hr => fin res st' hs hr)
  · rw [if_neg c3]
    exact wpS_bind (wpS_mergeHi hk ix iy ux uy (by omega) (by omega) hlo hhi fun res st' hs hr => fin res st' hs hr)
end
end PyProof.Rows.TS
namespace PyProof.Rows.TS
open PySem PyProof.Rows
variable [KeyC]
/-- rising stretches, one behind the other -/
def Runs (arr : Array Keyed) : Nat → List (Nat × Nat × Nat) → Nat → Prop
  | s, [], e => s = e
  | s, r :: l, e => r.1 = s ∧ 0 < r.2.1 ∧ Up arr s (s + r.2.1) ∧ Runs arr (s + r.2.1) l e
theorem Runs.le {arr : Array Keyed} : ∀ {l : List (Nat × Nat × Nat)} {s e : Nat}, Runs arr s l e → s + l.length ≤ e
  | [], _, _, h => by cases h; simp
  | _ :: l, s, e, ⟨_, h2, _, h4⟩ => by
    have := Runs.le h4
    rw [List.length_cons]
    omega
theorem Runs.congr {arr arr' : Array Keyed} : ∀ {l : List (Nat × Nat × Nat)} {s e : Nat}, Runs arr s l e → (∀ i, s ≤ i → i < e → K arr' i = K arr i) → Runs arr' s l e
  | [], _, _, h, _ => h
  | _ :: l, s, e, ⟨h1, h2, h3, h4⟩, k => by
    have le := Runs.le h4
    refine ⟨h1, h2, fun i j a b c => ?_, Runs.congr h4 fun i a b => k i (by omega) b⟩
    rw [k i (by omega) (by omega), k j (by omega) (by omega)]
    exact h3 i j a b c
theorem Runs.append {arr : Array Keyed} : ∀ {l1 l2 : List (Nat × Nat × Nat)} {s m e : Nat}, Runs arr s l1 m → Runs arr m l2 e → Runs arr s (l1 ++ l2) e
  | [], _, _, _, _, h, h' => by cases h; exact h'
  | _ :: _, _, _, _, _, ⟨h1, h2, h3, h4⟩, h' => ⟨h1, h2, h3, Runs.append h4 h'⟩
theorem Runs.split {arr : Array Keyed} : ∀ {l1 l2 : List (Nat × Nat × Nat)} {s e : Nat}, Runs arr s (l1 ++ l2) e → ∃ m, Runs arr s l1 m ∧ Runs arr m l2 e
  | [], _, s, _, h => ⟨s, rfl, h⟩
  | _ :: _, _, _, _, ⟨h1, h2, h3, h4⟩ => by
    obtain ⟨m, a, b⟩ := Runs.split h4
    exact ⟨m, ⟨h1, h2, h3, a⟩, b⟩
theorem at_split {α : Type} {p : List α} {n : Nat} (h : n + 1 < p.length) : ∃ l1 x y l2, p = l1 ++ (x :: y :: l2) ∧ l1.length = n := by
  refine ⟨p.take n, p[n], p[n + 1], p.drop (n + 2), ?_, by rw [List.length_take]; omega⟩
  rw [← List.drop_eq_getElem_cons (by omega), ← List.drop_eq_getElem_cons (by omega), List.take_append_drop]
theorem set_erase {α : Type} {p : Array α} {l1 l2 : List α} {x y z : α} (e : p.toList = l1 ++ (x :: y :: l2)) : ((p.setIfInBounds l1.length z).eraseIdxIfInBounds (l1.length + 1)).toList = l1 ++ (z :: l2) := by
  have hs : p.size = (l1 ++ (x :: y :: l2)).length := by rw [← e]; simp
  simp only [List.length_append, List.length_cons] at hs
  unfold Array.eraseIdxIfInBounds
  rw [dif_pos (by simp; omega)]
  rw [Array.toList_eraseIdx, Array.toList_setIfInBounds, e]
  rw [List.set_append_right _ _ (Nat.le_refl _), Nat.sub_self, List.set_cons_zero]
  rw [List.eraseIdx_append_of_length_le (by omega), show l1.length + 1 - l1.length = 1 by omega]
  rfl
theorem Runs.same {arr : Array Keyed} : ∀ {l l' : List (Nat × Nat × Nat)} {s e : Nat}, l.map (fun r => (r.1, r.2.1)) = l'.map (fun r => (r.1, r.2.1)) → Runs arr s l e → Runs arr s l' e
  | [], [], _, _, _, h => h
  | [], _ :: _, _, _, q, _ => by simp at q
  | _ :: _, [], _, _, q, _ => by simp at q
  | r :: l, r' :: l', s, e, q, ⟨h1, h2, h3, h4⟩ => by
    rw [List.map_cons, List.map_cons, List.cons.injEq, Prod.mk.injEq] at q
    obtain ⟨⟨q1, q2⟩, q3⟩ := q
    refine ⟨q1 ▸ h1, q2 ▸ h2, q2 ▸ h3, ?_⟩
    rw [← q2]
    exact Runs.same q3 h4
theorem modify_same {p : Array (Nat × Nat × Nat)} {i : Nat} {f : Nat × Nat × Nat → Nat × Nat × Nat} (hf : ∀ x, ((f x).1, (f x).2.1) = (x.1, x.2.1)) : p.toList.map (fun r => (r.1, r.2.1)) = (p.modify i f).toList.map (fun r => (r.1, r.2.1)) := by
  refine List.ext_getElem? fun j => ?_
  rw [List.getElem?_map, List.getElem?_map, Array.getElem?_toList, Array.getElem?_toList, Array.getElem?_modify]
  by_cases c : i = j
  · rw [if_pos c]
    cases p[j]? with
    | none => rfl
    | some x => simp only [Option.map_some]; rw [hf]
  · rw [if_neg c]
/-- the sort under way -/
structure Sx (st₀ st : SortSt) (e : Nat) : Prop where
  kind : kindOf st = kindOf st₀
  fl : failedOf st = none
  perm : (arrOf st).Perm (arrOf st₀)
  runs : Runs (arrOf st) 0 (pendingOf st).toList e
  le : e ≤ (arrOf st₀).size
theorem Sx.size {st₀ st : SortSt} {e : Nat} (x : Sx st₀ st e) : (arrOf st).size = (arrOf st₀).size := x.perm.size_eq
section
variable {prog : Program} {w : World} {A : Around} {E : Value → Shared → Prop} {s : Shared} [KeyLt prog w A E s]
theorem wpS_join {st₀ st : SortSt} {e n : Nat} {Q : Bool → SortSt → Prop} (hk : kindOf st₀ = KeyC.κ) (hI : AllI (arrOf st₀)) (x : Sx st₀ st e) (hn : n + 1 < (pendingOf st).size)
    (h : ∀ st', Sx st₀ st' e → (pendingOf st').size + 1 = (pendingOf st).size → (∀ i, e ≤ i → K (arrOf st') i = K (arrOf st) i) → Q true st') : wpS (model prog w) A E s (mergeAt' n) Q st := by
  obtain ⟨l1, ⟨u, a, pw⟩, ⟨v, b, pw'⟩, l2, ep, el⟩ := at_split (p := (pendingOf st).toList) (n := n) (by simpa using hn)
  have hr := x.runs
  rw [ep] at hr
  obtain ⟨m, r1, r2⟩ := Runs.split hr
  obtain ⟨e1, h1, u1, e2, h2, u2, r3⟩ := r2
  dsimp only at e1 h1 u1 e2 h2 u2 r3
  subst e1
  subst e2
  have le3 := Runs.le r3
  have hsz := x.size
  have hle := x.le
  have p1 : (pendingOf st)[n]? = some (u, a, pw) := by
    rw [← Array.getElem?_toList, ep, List.getElem?_append_right (by omega), el, Nat.sub_self]
    rfl
  have p2 : (pendingOf st)[n + 1]? = some (u + a, b, pw') := by
    rw [← Array.getElem?_toList, ep, List.getElem?_append_right (by omega), el, show n + 1 - n = 1 by omega]
    rfl
  refine wpS_mergeAt (x.kind.trans hk) x.fl (hI.perm x.perm) p1 p2 rfl h1 h2 (by omega) u1 u2 fun st' k1 k2 k3 k4 k5 => ?_
  have ep' : (pendingOf st').toList = l1 ++ ((u, a + b, pw) :: l2) := by
    rw [k3, ← el]
    exact set_erase ep
  have ko : ∀ i, i < u ∨ u + a + b ≤ i → K (arrOf st') i = K (arrOf st) i := fun i hi => K_congr (k4.out i hi)
  refine h st' ⟨k1.trans x.kind, k2, k4.perm.trans x.perm, ?_, x.le⟩ ?_ fun i hi => ko i (.inr (by omega))
  · rw [ep']
    refine Runs.append (r1.congr fun i _ b2 => ko i (.inl b2)) ⟨rfl, by dsimp only; omega, ?_, ?_⟩
    · dsimp only
      rw [← Nat.add_assoc]
      exact k5
    · dsimp only
      rw [← Nat.add_assoc]
      exact r3.congr fun i b1 _ => ko i (.inr b1)
  · have z1 : (pendingOf st').size = (l1 ++ ((u, a + b, pw) :: l2)).length := by rw [← ep']; simp
    have z2 : (pendingOf st).size = (l1 ++ ((u, a, pw) :: (u + a, b, pw') :: l2)).length := by rw [← ep]; simp
    rw [z1, z2]
    simp
    omega
theorem wpS_all {st : SortSt} {Q : Unit → SortSt → Prop} (hk : kindOf st = KeyC.κ) (hf : failedOf st = none) (hp : pendingOf st = #[]) (hI : AllI (arrOf st)) (h2 : 2 ≤ (arrOf st).size)
    (h : ∀ st', (arrOf st').Perm (arrOf st) → failedOf st' = none → Up (arrOf st') 0 (arrOf st).size → Q () st') : wpS (model prog w) A E s sortRuns' Q st := by
  rw [sortRuns'_eq]
  refine wpS_bind (wpS_get ?_)
  dsimp only
  have x0 : Sx st st 0 := ⟨rfl, hf, .refl _, by rw [hp]; rfl, Nat.zero_le _⟩
  refine wpS_bind (wpS_mono (wpS_forRange (I := fun x c st' => ∃ lo, c = (none, lo) ∧ Sx st st' lo ∧ (x ≤ lo ∨ (arrOf st).size ≤ lo)) (Q := fun c st' => ∃ lo, c = (none, lo) ∧ Sx st st' (arrOf st).size) ?step ?fin ⟨0, rfl, x0, .inl (Nat.le_refl _)⟩) ?post)
  case fin =>
    rintro c st' ⟨lo, rfl, x', hl⟩
    have e : lo = (arrOf st).size := by have := x'.le; omega
    rw [e] at x'
    exact ⟨lo, rfl, x'⟩
  case step =>
    rintro x c st1 _ hx ⟨lo, rfl, x1, hl⟩
    dsimp only
    have hle := x1.le
    have hz := x1.size
    by_cases c0 : lo ≥ (arrOf st).size
    · rw [if_pos c0]
      have e : lo = (arrOf st).size := by omega
      rw [e] at x1
      exact wpS_pure ⟨lo, rfl, x1⟩
    rw [if_neg c0]
    refine wpS_bind (wpS_count (x1.kind.trans hk) (hI.perm x1.perm) (by omega) (by omega) fun n st2 m2 n1 n2 u2 => ?_)
    dsimp only
    have keep : ∀ st', Moved2 lo (lo + ((arrOf st).size - lo)) st1 st' → Sx st st' lo := fun st' m' =>
      ⟨m'.1.1.trans x1.kind, m'.1.2.2.trans x1.fl, m'.2.perm.trans x1.perm, by
        rw [m'.1.2.1]
        exact x1.runs.congr fun i _ b2 => K_congr (m'.2.out i (.inl b2)), x1.le⟩
    have x2 := keep st2 m2
    generalize minRun' (arrOf st).size (arrOf st).size 0 = mr
    by_cases c1 : n < mr
    · rw [if_pos c1]
      refine wpS_bind (wpS_lift (wpAny_rule ⟨rfl, ?_⟩))
      generalize hfo : min ((arrOf st).size - lo) mr = fo
      refine wpS_bind (wpS_bin m2 (x1.kind.trans hk) (hI.perm x1.perm) (by omega) (by omega) (by omega) u2 fun st3 m3 u3 => ?_)
      have x3 := keep st3 m3
      simp only [Bool.not_true, Bool.false_eq_true, if_false]
      refine wpS_bind (wpS_get ?_)
      cases hb : (pendingOf st3).back? with
      | none =>
        dsimp only
        refine wpS_bind (wpS_modify (wpS_pure ⟨lo + fo, rfl, ?_, by omega⟩))
        have pe : pendingOf st3 = #[] := Array.back?_eq_none_iff.mp hb
        refine ⟨x3.kind, x3.fl, x3.perm, ?_, by omega⟩
        show Runs (arrOf st3) 0 ((pendingOf st3).push (lo, fo, 0)).toList (lo + fo)
        rw [Array.toList_push]
        exact Runs.append x3.runs ⟨rfl, by dsimp only; omega, u3, rfl⟩
      | some r =>
        obtain ⟨s1, n1, z1⟩ := r
        dsimp only
        refine wpS_bind (wpS_mono (wpS_forRange (I := fun _ c st' => c = (none, ()) ∧ Sx st st' lo ∧ Up (arrOf st') lo (lo + fo)) (Q := fun c st' => c = (none, ()) ∧ Sx st st' lo ∧ Up (arrOf st') lo (lo + fo)) ?_ (fun _ _ z => z) ⟨rfl, x3, u3⟩) ?_)
        · rintro y c st5 _ _ ⟨rfl, x5, u5⟩
          refine wpS_bind (wpS_get ?_)
          by_cases c1 : (pendingOf st5).size > 1
          · rw [if_pos c1]
            have hlt : (pendingOf st5).size - 2 < (pendingOf st5).size := by omega
            rw [Array.getElem?_eq_getElem hlt]
            generalize (pendingOf st5)[(pendingOf st5).size - 2] = rr
            obtain ⟨f1, f2, older⟩ := rr
            dsimp only
            split
            · exact wpS_pure ⟨rfl, x5, u5⟩
            · refine wpS_bind (wpS_join hk hI x5 (by omega) fun st4 x4 _ k4 => ?_)
              simp only [Bool.not_true, Bool.false_eq_true, if_false]
              refine wpS_pure ⟨rfl, x4, fun i j b1 b2 b3 => ?_⟩
              rw [k4 i b1, k4 j (by omega)]
              exact u5 i j b1 b2 b3
          · rw [if_neg c1]
            exact wpS_pure ⟨rfl, x5, u5⟩
        · rintro c st3 ⟨rfl, x3, u3⟩
          dsimp only
          refine wpS_bind (wpS_modify (wpS_bind (wpS_modify (wpS_pure ⟨lo + fo, rfl, ?_, by omega⟩))))
          refine ⟨x3.kind, x3.fl, x3.perm, ?_, by omega⟩
          show Runs (arrOf st3) 0 (((pendingOf st3).modify ((pendingOf st3).size - 1) _).push (lo, fo, 0)).toList (lo + fo)
          rw [Array.toList_push]
          exact Runs.append (Runs.same (modify_same fun _ => rfl) x3.runs) ⟨rfl, by dsimp only; omega, u3, rfl⟩
    · rw [if_neg c1]
      refine wpS_bind (wpS_get ?_)
      cases hb : (pendingOf st2).back? with
      | none =>
        dsimp only
        refine wpS_bind (wpS_modify (wpS_pure ⟨lo + n, rfl, ?_, by omega⟩))
        have pe : pendingOf st2 = #[] := Array.back?_eq_none_iff.mp hb
        refine ⟨x2.kind, x2.fl, x2.perm, ?_, by omega⟩
        show Runs (arrOf st2) 0 ((pendingOf st2).push (lo, n, 0)).toList (lo + n)
        rw [Array.toList_push]
        exact Runs.append x2.runs ⟨rfl, by dsimp only; omega, u2, rfl⟩
      | some r =>
        obtain ⟨s1, n1, z1⟩ := r
        dsimp only
        refine wpS_bind (wpS_mono (wpS_forRange (I := fun _ c st' => c = (none, ()) ∧ Sx st st' lo ∧ Up (arrOf st') lo (lo + n)) (Q := fun c st' => c = (none, ()) ∧ Sx st st' lo ∧ Up (arrOf st') lo (lo + n)) ?_ (fun _ _ z => z) ⟨rfl, x2, u2⟩) ?_)
        · rintro y c st3 _ _ ⟨rfl, x3, u3⟩
          refine wpS_bind (wpS_get ?_)
          by_cases c1 : (pendingOf st3).size > 1
          · rw [if_pos c1]
            have hlt : (pendingOf st3).size - 2 < (pendingOf st3).size := by omega
            rw [Array.getElem?_eq_getElem hlt]
            generalize (pendingOf st3)[(pendingOf st3).size - 2] = rr
            obtain ⟨f1, f2, older⟩ := rr
            dsimp only
            split
            · exact wpS_pure ⟨rfl, x3, u3⟩
            · refine wpS_bind (wpS_join hk hI x3 (by omega) fun st4 x4 _ k4 => ?_)
              simp only [Bool.not_true, Bool.false_eq_true, if_false]
              refine wpS_pure ⟨rfl, x4, fun i j b1 b2 b3 => ?_⟩
              rw [k4 i b1, k4 j (by omega)]
              exact u3 i j b1 b2 b3
          · rw [if_neg c1]
            exact wpS_pure ⟨rfl, x3, u3⟩
        · rintro c st3 ⟨rfl, x3, u3⟩
          dsimp only
          refine wpS_bind (wpS_modify (wpS_bind (wpS_modify (wpS_pure ⟨lo + n, rfl, ?_, by omega⟩))))
          refine ⟨x3.kind, x3.fl, x3.perm, ?_, by omega⟩
          show Runs (arrOf st3) 0 (((pendingOf st3).modify ((pendingOf st3).size - 1) _).push (lo, n, 0)).toList (lo + n)
          rw [Array.toList_push]
          exact Runs.append (Runs.same (modify_same fun _ => rfl) x3.runs) ⟨rfl, by dsimp only; omega, u3, rfl⟩
  case post =>
    rintro c st1 ⟨lo, rfl, x1⟩
    dsimp only
    have hz := x1.size
    have hl1 := Runs.le x1.runs
    rw [Array.length_toList] at hl1
    refine wpS_bind (wpS_mono (wpS_forRange (I := fun x c st' => c = (none, ()) ∧ Sx st st' (arrOf st).size ∧ ((pendingOf st').size + x ≤ (arrOf st).size ∨ (pendingOf st').size ≤ 1)) (Q := fun c st' => c = (none, ()) ∧ Sx st st' (arrOf st).size ∧ (pendingOf st').size ≤ 1) ?_ ?_ ⟨rfl, x1, .inl (by omega)⟩) ?_)
    · rintro y c st2 _ hy ⟨rfl, x2, hq⟩
      refine wpS_bind (wpS_get ?_)
      by_cases c1 : (pendingOf st2).size ≤ 1
      · rw [if_pos c1]
        exact wpS_pure ⟨rfl, x2, c1⟩
      rw [if_neg c1]
      refine wpS_bind (wpS_join hk hI x2 ?_ fun st3 x3 k3 _ => ?_)
      · (repeat' split) <;> omega
      simp only [Bool.not_true, Bool.false_eq_true, if_false]
      exact wpS_pure ⟨rfl, x3, by omega⟩
    · rintro c st2 ⟨e, x2, hq⟩
      exact ⟨e, x2, by omega⟩
    · rintro c st2 ⟨rfl, x2, hq⟩
      dsimp only
      refine wpS_pure (h st2 x2.perm x2.fl ?_)
      have hr := x2.runs
      have hlen : (pendingOf st2).toList.length ≤ 1 := by rw [Array.length_toList]; exact hq
      cases hpl : (pendingOf st2).toList with
      | nil =>
        rw [hpl] at hr
        have : (0 : Nat) = (arrOf st).size := hr
        omega
      | cons r l =>
        rw [hpl] at hr hlen
        have hl0 : l = [] := by
          cases l with
          | nil => rfl
          | cons _ _ => simp at hlen
        subst hl0
        obtain ⟨_, _, u, e⟩ := hr
        have e' : 0 + r.2.1 = (arrOf st).size := e
        rw [e'] at u
        exact u
end
end PyProof.Rows.TS
namespace PyProof.Rows.TS
open PySem PyProof.Rows
theorem zip_snd (vs : List Value) : (pairsOf vs).toList.map (·.2) = vs := by
  rw [pairsOf_toList, List.map_snd_zip (Nat.le_refl _)]
variable [KeyC]
theorem up_pairwise {arr : Array Keyed} (h : Up arr 0 arr.size) : arr.toList.Pairwise fun x y => keyOf x ≤ keyOf y := by
  rw [List.pairwise_iff_getElem]
  intro i j hi hj hij
  rw [Array.length_toList] at hi hj
  have := h i j (Nat.zero_le _) (Nat.le_of_lt hij) hj
  rw [K_at hi, K_at hj] at this
  simpa using this
section
variable {prog : Program} {w : World} {A : Around} {E : Value → Shared → Prop} {s : Shared}
/-- all but one place kept -/
abbrev But (a : Addr) (s s' : Shared) : Prop := ∀ b o, b ≠ a → s.heap.get? b = some o → s'.heap.get? b = some o
theorem out_of {vs : List Value} {arr : Array Keyed} (hp : arr.Perm (pairsOf vs)) (hu : Up arr 0 arr.size) : (arr.map (·.2)).toList.Perm vs ∧ (arr.map (·.2)).toList.Pairwise fun x y => KeyC.kf (x, x) ≤ KeyC.kf (y, y) := by
  have hl := Array.perm_iff_toList_perm.mp hp
  have same : ∀ p ∈ arr.toList, p.1 = p.2 := fun p hm => by
    have := hl.mem_iff.mp hm
    rw [pairsOf_toList] at this
    exact (mem_zip_self this).1
  constructor
  · have := hl.map (·.2)
    rw [zip_snd] at this
    rw [Array.toList_map]
    exact this
  · rw [Array.toList_map, List.pairwise_map]
    refine (up_pairwise hu).imp_of_mem fun {x y} hx hy h => ?_
    have e1 : x = (x.2, x.2) := Prod.ext (same x hx) rfl
    have e2 : y = (y.2, y.2) := Prod.ext (same y hy) rfl
    rw [← e1, ← e2]
    exact h
theorem sort_by {a : Addr} {vs : List Value} {n : Nat} {P : PySem.Fin → Shared → Prop} (ho : s.heap.get? a = some (seqObj "list" vs.toArray n)) (hz : vs.length ≤ 100000)
    (hkk : 2 ≤ vs.length → ∀ s' : Shared, But a s s' → ∀ {Q : SortKind → Shared → Prop}, Q KeyC.κ s' → wpAny (model prog w) A (keyKind' vs.toArray) Q E s') (hlt : ∀ s' : Shared, But a s s' → KeyLt prog w A E s') (hok : ∀ v ∈ vs, KeyC.ok (v, v))
    (h : ∀ out : Array Value, out.toList.Perm vs → (out.toList.Pairwise fun x y => KeyC.kf (x, x) ≤ KeyC.kf (y, y)) → P (.done (.ret .none)) { s with heap := sortedHeap s.heap a vs out }) :
    wpAny (model prog w) A (Builtin.«list.sort» ⟨[.ref a], []⟩) P E s := by
  rw [list_sort_plain]
  have ha : a < s.heap.objs.size := Heap.lt_size ho
  have line : (100000 : Nat) ≤ sizeLine := by decide
  refine wpAny_bind (listItems_at ho rfl ?_)
  refine wpAny_bind (listUpdate_at ho rfl ?_ (by simp only [List.size_toArray]; omega))
  obtain ⟨e1, ho1⟩ : ∃ e1, (s.heap.update a (Obj.mapSeq fun _ => #[])).get? a = some (seqObj "list" #[] e1) := ⟨_, get?_update_seq ho (fun _ => #[])⟩
  refine wpAny_bind (seqEpoch_at ho1 rfl ?_)
  refine wpAny_bind (wpAny_newTuple ?_ (by simp; omega))
  refine wpAny_bind (wpAny_newList ?_)
  refine wpAny_holding ?_
  have bt : But a s { s with heap := ((s.heap.update a (Obj.mapSeq fun _ => #[])).push (seqObj "tuple" vs.toArray 0)).push (seqObj "list" #[] 0) } := fun b o hb e =>
    Heap.get?_push_of_some _ (Heap.get?_push_of_some _ ((Heap.get?_update_other _ _ (Ne.symm hb)).trans e))
  have ho6 : (((s.heap.update a (Obj.mapSeq fun _ => #[])).push (seqObj "tuple" vs.toArray 0)).push (seqObj "list" #[] 0)).get? a = some (seqObj "list" #[] e1) := Heap.get?_push_of_some _ (Heap.get?_push_of_some _ ho1)
  show wpAny (model prog w) A _ P E { s with heap := ((s.heap.update a (Obj.mapSeq fun _ => #[])).push (seqObj "tuple" vs.toArray 0)).push (seqObj "list" #[] 0) }
  dsimp only
  have hsz : vs.toArray.size = vs.length := by simp
  by_cases h2 : vs.toArray.size < 2
  · rw [if_pos h2, if_pos h2]
    refine wpAny_bind (wpAny_pure ?_)
    rw [StateT.run_pure]
    refine wpAny_bind (wpAny_pure ?_)
    dsimp only
    refine wpAny_bind (seqEpoch_at ho6 rfl ?_)
    refine wpAny_bind (listUpdate_at ho6 rfl ?_ (hsz2 := by rw [Array.size_map]; show (pairsOf vs).size ≤ _; rw [pairsOf_size]; omega))
    simp only [bne_self_eq_false, Bool.false_eq_true, if_false]
    obtain ⟨q1, q2⟩ := out_of (vs := vs) (arr := pairsOf vs) (.refl _) (fun i j _ b c => by
      have e : i = j := by rw [pairsOf_size] at c; omega
      rw [e]
      exact Int.le_refl _)
    exact wpAny_pure (h _ q1 q2)
  · rw [if_neg h2, if_neg h2]
    refine wpAny_bind (hkk (by omega) _ bt ?_)
    haveI := hlt _ bt
    refine wpAny_bind (wpAny_mono (wpS_all (st := SortSt.mk' KeyC.κ (vs.toArray.zip vs.toArray) #[] 7 none)
      (Q := fun _ st' => (arrOf st').Perm (pairsOf vs) ∧ failedOf st' = none ∧ Up (arrOf st') 0 (pairsOf vs).size)
      rfl rfl rfl (fun p hp => ?_) (by show 2 ≤ (pairsOf vs).size; rw [pairsOf_size]; omega) fun st' a1 a2 a3 => ⟨a1, a2, a3⟩) ?_ fun _ _ e => e)
    · have hp' : p ∈ (pairsOf vs).toList := hp
      rw [pairsOf_toList] at hp'
      obtain ⟨e, hm⟩ := mem_zip_self hp'
      have ep : p = (p.1, p.1) := Prod.ext rfl e.symm
      rw [ep]
      exact hok p.1 hm
    rintro ⟨⟨⟩, st'⟩ s' ⟨rfl, hp, hf, hs⟩
    dsimp only
    refine wpAny_bind (seqEpoch_at ho6 rfl ?_)
    refine wpAny_bind (listUpdate_at ho6 rfl ?_ (hsz2 := by rw [Array.size_map, hp.size_eq, pairsOf_size]; omega))
    rw [hf]
    simp only [bne_self_eq_false, Bool.false_eq_true, if_false]
    rw [← hp.size_eq] at hs
    obtain ⟨q1, q2⟩ := out_of hp hs
    exact wpAny_pure (h _ q1 q2)
theorem sorted_by {l : Addr} {vs : List Value} {Q : Value → Shared → Prop} (hl : s.heap.IsList l vs.toArray) (hz : vs.length ≤ 100000)
    (hkk : 2 ≤ vs.length → ∀ (A' : Around) (E' : Value → Shared → Prop) (s' : Shared), (∀ b o, s.heap.get? b = some o → s'.heap.get? b = some o) → ∀ {Q' : SortKind → Shared → Prop}, Q' KeyC.κ s' → wpAny (model prog w) A' (keyKind' vs.toArray) Q' E' s') (hlt : ∀ (A' : Around) (E' : Value → Shared → Prop) (s' : Shared), (∀ b o, s.heap.get? b = some o → s'.heap.get? b = some o) → KeyLt prog w A' E' s') (hok : ∀ v ∈ vs, KeyC.ok (v, v))
    (h : ∀ out : Array Value, out.toList.Perm vs → (out.toList.Pairwise fun x y => KeyC.kf (x, x) ≤ KeyC.kf (y, y)) → Q (.ref (s.heap.objs.size + 1)) { s with heap := sortedAll s.heap vs out }) :
    wpAny (model prog w) A (call (.builtin "sorted") [.ref l]) Q E s := by
  have line : (100000 : Nat) ≤ sizeLine := by decide
  refine Calls.call_function_entry kind_sorted plain_sorted entry_sorted (args_sorted1 _) ?_
  unfold Builtin.«sorted»
  refine wpAny_bind (m := checkCount "sorted" 1 1 _) (wpAny_pure ?_)
  refine wpAny_bind (collect_list hl ?_ (by omega))
  refine wpAny_bind (wpAny_newList ?_ (by omega))
  have hs1 : ((s.heap.push (seqObj "list" #[] 0)).update s.heap.objs.size (Obj.mapSeq (· ++ vs.toArray))).objs.size = s.heap.objs.size + 1 := by
    rw [Heap.size_update, size_push']
  have hoL : (((s.heap.push (seqObj "list" #[] 0)).update s.heap.objs.size (Obj.mapSeq (· ++ vs.toArray))).push (seqObj "list" vs.toArray 0)).get? (s.heap.objs.size + 1) = some (seqObj "list" vs.toArray 0) := by
    rw [← hs1]; exact Heap.get?_push_size _ rfl
  have old : ∀ b o, s.heap.get? b = some o → (((s.heap.push (seqObj "list" #[] 0)).update s.heap.objs.size (Obj.mapSeq (· ++ vs.toArray))).push (seqObj "list" vs.toArray 0)).get? b = some o := fun b o e =>
    Heap.get?_push_of_some _ ((Heap.get?_update_other _ _ (Ne.symm (Nat.ne_of_lt (Heap.lt_size e)))).trans (Heap.get?_push_of_some _ e))
  have nb : ∀ b o, s.heap.get? b = some o → b ≠ s.heap.objs.size + 1 := fun b o e => Nat.ne_of_lt (Nat.lt_succ_of_lt (Heap.lt_size e))
  show wpAny _ _ _ _ _ { s with heap := ((s.heap.push (seqObj "list" #[] 0)).update s.heap.objs.size (Obj.mapSeq (· ++ vs.toArray))).push (seqObj "list" vs.toArray 0) }
  rw [hs1]
  refine wpAny_bind (wpAny_holding (wpAny_call_entry slot_list_sort ⟨_, hoL, rfl⟩ entry_list_sort (sort_by hoL hz (fun h2 s' bt => hkk h2 _ _ s' fun b o e => bt b o (nb b o e) (old b o e)) (fun s' bt => hlt _ _ s' fun b o e => bt b o (nb b o e) (old b o e)) hok fun out a1 a2 => ⟨_, rfl, ?_⟩) (args_list_sort _)))
  exact wpAny_pure ⟨_, rfl, h out a1 a2⟩
end
end PyProof.Rows.TS

namespace L2
open PySem PySem.Spec PyProof.Rows PySem.W
/-- by pairs, the first one first -/
def pairKey (hp : Heap) (f : Addr → Int) : TS.KeyC := ⟨tuples' true, fun p => (match p.1 with | .ref t => f t | _ => 0),
  fun p => ∃ t o x y tx ty n, p.1 = .ref t ∧ hp.get? t = some o ∧ o.cls = .type "tuple" ∧ o.data = .seq #[.int x tx, .int y ty] n ∧ f t = x * 64 + y ∧ 0 ≤ y ∧ y < 64⟩
theorem pairKey_lt {prog : Program} {w : World} {A : Around} {E : Value → Shared → Prop} {s : Shared} {hp : Heap} {f : Addr → Int} (kp : ∀ b o, hp.get? b = some o → s.heap.get? b = some o) : @TS.KeyLt prog w A E s (pairKey hp f) := by
  letI := pairKey hp f
  refine ⟨fun {st x y Q} hk hx hy h => ?_⟩
  obtain ⟨v1, v2⟩ := x
  obtain ⟨u1, u2⟩ := y
  obtain ⟨t, o, a, b, ta, tb, n, rfl, e1, _, d1, f1, b0, b1⟩ := hx
  obtain ⟨t', o', a', b', ta', tb', n', rfl, e1', _, d1', f1', b0', b1'⟩ := hy
  have h' : Q (some (decide (f t < f t'))) st := h
  rw [lt'_eq]
  refine wpS_bind (wpS_get ?_)
  rw [hk, show (TS.KeyC.κ : SortKind) = tuples' true from rfl]
  refine wpS_bind (wpS_lift (wpAny_attempt (kat_lt (kp _ _ e1) d1 (kp _ _ e1') d1' ?_)))
  refine kat_cons (wpAny_eqBool_int ?_)
  by_cases c : a = a'
  · rw [show (a == a') = true by simp [c]]
    refine kat_yes (kat_cons (wpAny_eqBool_int ?_))
    by_cases c2 : b = b'
    · rw [show (b == b') = true by simp [c2]]
      refine kat_yes (kat_nil ⟨rfl, wpS_pure ?_⟩)
      rw [decide_eq_false (show ¬ f t < f t' by rw [f1, f1', c, c2]; omega)] at h'
      exact h'
    · rw [show (b == b') = false by simp [c2]]
      refine kat_no (kat_one _ _ (PyProof.Rows.lt_int (show W.BoolBack _ (Value.bool (decide (b < b'))) _ from ⟨rfl, wpS_pure ?_⟩)))
      rw [show decide (b < b') = decide (f t < f t') by rw [f1, f1', c, decide_eq_decide]; omega]
      exact h'
  · rw [show (a == a') = false by simp [c]]
    refine kat_no (oneLt_int ⟨rfl, wpS_pure ?_⟩)
    by_cases c2 : a < a'
    · rw [decide_eq_true c2]
      rw [decide_eq_true (show f t < f t' by rw [f1, f1']; omega)] at h'
      exact h'
    · rw [decide_eq_false c2]
      rw [decide_eq_false (show ¬ f t < f t' by rw [f1, f1']; omega)] at h'
      exact h'
section
variable {X : Cx} {K : PySem.W.Frag}
def rSortedB (K : PySem.W.Frag) : List V → Hp → VK → Prop := fun xs H Q => ∃ (a : Addr) (ns : List Int), xs = [.ref a] ∧ SqL K H a (ns.map V.int) ∧ ns.length ≤ 100000 ∧
  ∀ (l : Addr) (ms : List Int), H l = none → ms.Perm ns → ms.Pairwise (· ≤ ·) → Q (.ref l) (upd H l (.lst (ms.map V.int)))
/-- pairs of ints -/
def rSortedP (K : PySem.W.Frag) : List V → Hp → VK → Prop := fun xs H Q => ∃ (a : Addr) (ts : List Addr) (f : Addr → Int), xs = [.ref a] ∧ SqL K H a (ts.map V.ref) ∧ ts.length ≤ 1000 ∧ (∀ t ∈ ts, ∃ x y : Int, H t = some (.tup [.int x, .int y]) ∧ f t = x * 64 + y ∧ 0 ≤ y ∧ y < 64) ∧
  ∀ (l : Addr) (us : List Addr), H l = none → us.Perm ts → us.Pairwise (fun t u => f t ≤ f u) → Q (.ref l) (upd H l (.lst (us.map V.ref)))
theorem refs_are : ∀ {cs : List Addr}, Vals (cs.map V.ref) (cs.map Value.ref)
  | [] => .nil
  | _ :: _ => .cons rfl refs_are
theorem call_sortedP (e : X.K = K) (hc : X.calm = true) : CallR X (.builtin "sorted") (rSortedP K) := by
  subst e
  intro pins s σ H xs us Q I r h
  obtain ⟨a, ts, f, rfl, hq, hn, hts, q⟩ := h
  obtain ⟨u, rfl, ru⟩ := vals1 r
  cases ru
  obtain ⟨its, rv, p, _⟩ := I.list hq
  have e := vals_refs rv
  subst e
  have tup : ∀ t ∈ ts, ∃ o x y tx ty n, s.heap.get? t = some o ∧ o.cls = .type "tuple" ∧ o.data = .seq #[Value.int x tx, Value.int y ty] n ∧ f t = x * 64 + y ∧ 0 ≤ y ∧ y < 64 := fun t ht => by
    obtain ⟨x, y, e1, e2, e3, e4⟩ := hts t ht
    obtain ⟨its', rv', pl', _⟩ := I.tuple (.of e1)
    obtain ⟨o, ho, hc', n, hd⟩ := pl'
    obtain ⟨u1, u2, rfl, ⟨tx, rfl⟩, ⟨ty, rfl⟩⟩ := vals2 rv'
    exact ⟨o, x, y, tx, ty, n, ho, hc', hd, e2, e3, e4⟩
  letI := pairKey s.heap f
  refine TS.sorted_by p.isList (by rw [List.length_map]; omega) (fun h2 A' E' s' kp {Q'} q' => ?_) (fun A' E' s' kp => pairKey_lt kp) (fun v hv => ?_) fun out hp hs => ?_
  · have go : ∀ (cs : List Addr), (∀ t ∈ cs, t ∈ ts) → ∃ fs, KatTups s'.heap (cs.map Value.ref) fs ∧ fs.length = cs.length ∧ ∀ v ∈ fs, ∃ n t, v = Value.int n t := by
      intro cs hcs
      induction cs with
      | nil => exact ⟨[], .nil, rfl, fun v hv => by cases hv⟩
      | cons c cs ih =>
        obtain ⟨fs, k1, k2, k3⟩ := ih fun t ht => hcs t (List.mem_cons_of_mem _ ht)
        obtain ⟨o, x, y, tx, ty, n, ho, hc', hd, _⟩ := tup c (hcs c (List.mem_cons_self ..))
        refine ⟨Value.int x tx :: fs, .cons (kp _ _ ho) hc' hd rfl k1, by simp [k2], fun v hv => ?_⟩
        rcases List.mem_cons.mp hv with z | z
        · exact ⟨x, tx, z⟩
        · exact k3 v z
    obtain ⟨fs, k1, k2, k3⟩ := go ts fun t ht => ht
    rw [List.length_map] at h2
    refine kat_kind (T := .type "int") k1 (by omega) (fun v hv => ?_) rfl q'
    obtain ⟨n, t, rfl⟩ := k3 v hv
    exact Looks.of_pure rfl
  · obtain ⟨t, ht, rfl⟩ := List.mem_map.mp hv
    obtain ⟨o, x, y, tx, ty, n, ho, hc', hd, r1, r2, r3⟩ := tup t ht
    exact ⟨t, o, x, y, tx, ty, n, rfl, ho, hc', hd, r1, r2, r3⟩
  obtain ⟨c, hc'⟩ := sortedAll_at s.heap (ts.map Value.ref) out
  obtain ⟨us, eu⟩ : ∃ us : List Addr, out.toList = us.map Value.ref := by
    have : ∀ v ∈ out.toList, ∃ t, v = Value.ref t := fun v hv => by
      obtain ⟨t, _, e⟩ := List.mem_map.mp (hp.mem_iff.mp hv)
      exact ⟨t, e.symm⟩
    generalize out.toList = L at this
    induction L with
    | nil => exact ⟨[], rfl⟩
    | cons v L ih =>
      obtain ⟨t, rfl⟩ := this v (List.mem_cons_self ..)
      obtain ⟨us, e⟩ := ih fun x hx => this x (List.mem_cons_of_mem _ hx)
      exact ⟨t :: us, by rw [e]; rfl⟩
  rw [eu] at hp hs
  have hpu : us.Perm ts := by
    have := hp.map (fun v : Value => match v with | .ref t => t | _ => 0)
    simpa [List.map_map, Function.comp_def] using this
  have hl : (us.map V.ref).length ≤ sizeLine := by
    rw [List.length_map, hpu.length_eq]
    exact Nat.le_of_lt (Nat.lt_of_le_of_lt hn (by decide))
  refine ⟨.ref (s.heap.objs.size + 1), _, I.laid (t' := s.toks) (fun _ _ => sortedAll_old) (Nat.le_succ _) (show ObjOk X.prog X.w _ _ _ (.lst (us.map V.ref)) from ⟨hl, out.toList, c, by rw [eu]; exact refs_are, hc'⟩), rfl, q _ _ (I.hok.fresh (Nat.le_succ _)) hpu ?_⟩
  rw [List.pairwise_map] at hs
  exact hs
end
end L2

namespace L2
open PySem
variable {a1 a2 a3 a4 a5 a6 b : TS} {D : Ends} {σ : St} {H : Hp}
theorem cut4 (M : St → Hp → Prop) (h1 : ∀ t : TS, (∀ σ H, M σ H → t D σ H) → tSeq a1 (tSeq a2 (tSeq a3 (tSeq a4 t))) D σ H) (h2 : ∀ σ H, M σ H → b D σ H) : tSeq a1 (tSeq a2 (tSeq a3 (tSeq a4 b))) D σ H := h1 b h2
theorem cut1 (M : St → Hp → Prop) (h1 : ∀ t : TS, (∀ σ H, M σ H → t D σ H) → tSeq a1 t D σ H) (h2 : ∀ σ H, M σ H → b D σ H) : tSeq a1 b D σ H := h1 b h2
end L2

namespace L2
open PySem PySem.Spec PyProof.Rows
section
variable {X : Cx} {pins : List (Addr × Obj)} {σ : St} {H : Hp} {s : Shared} {a : Addr} {kvs : List (Key × V)}
def tThaw (te : TE) : TE := fun σ H Q => te σ H fun x H' => ∃ a o kvs, H a = some (.dK kvs) ∧ H' a = some (.frz o (.dK kvs)) ∧ Q x (upd H' a (.dK kvs))
def Itd (a : Addr) (o : Obj) (kvs : List (Key × V)) : It :=
  ⟨fun i H => H a = some (.frz o (.dK kvs)) ∧ i < kvs.length, fun i H x H' => H' = H ∧ ∃ kv, kvs[i]? = some kv ∧ x = kV kv.1, fun i H => H a = some (.frz o (.dK kvs)) ∧ kvs.length ≤ i⟩
def iDict (tl : TE) : TI := fun σ H R => tl σ H fun x H1 => ∃ a kvs, x = .ref a ∧ H1 a = some (.dK kvs) ∧ ∀ o, R (Itd a o kvs) (upd H1 a (.frz o (.dK kvs)))
/-- list(d) -/
def rListD : List V → Hp → VK → Prop := fun xs H Q => ∃ (a : Addr) (kvs : List (Key × V)), xs = [V.ref a] ∧ H a = some (.dK kvs) ∧ ∀ l, H l = none → Q (.ref l) (upd H l (.lst (kvs.map fun kv => kV kv.1)))
end
end L2

namespace PyProof.Rows.TS
open PySem PySem.Spec PyProof.Rows PySem.W
section
variable {prog : Program} {w : World} {A : Around} {E : Value → Shared → Prop} {s : Shared} {Kk : Type} [DecidableEq Kk] {knd : PySem.KeyKind prog w Kk}
end
section
variable [KeyC] {prog : Program} {w : World} {A : Around} {E : Value → Shared → Prop} {s : Shared}
end
end PyProof.Rows.TS
namespace L2
open PySem PySem.Spec PyProof.Rows PySem.W
section
variable {X : Cx}
def rSortedD : List V → Hp → VK → Prop := fun xs H Q => ∃ (a : Addr) (kvs : List (Key × V)) (ns : List Int), xs = [V.ref a] ∧ H a = some (.dK kvs) ∧ kvs.map (fun kv => kV kv.1) = ns.map V.int ∧ ns.length ≤ 100000 ∧
  ∀ (l : Addr) (ms : List Int), H l = none → ms.Perm ns → ms.Pairwise (· ≤ ·) → Q (.ref l) (upd H l (.lst (ms.map V.int)))
end
end L2

namespace PySem
open Sem (wp)
section
variable {prog : Program} {w : World} {A : Around} {E : Value → Shared → Prop} {s : Shared}
end
end PySem
namespace PySem
open Sem (wp)
namespace F
end F
section
variable {prog : Program} {w : World} {A : Around} {E : Value → Shared → Prop} {Kk : Type} [DecidableEq Kk] {knd : KeyKind prog w Kk}
end
end PySem
namespace L2
open PySem PySem.Spec PyProof.Rows
section
variable {X : Cx} {K : PySem.W.Frag}
/-- dict(l), l a list of pairs of an int and a value -/
def rDictP (K : PySem.W.Frag) : List V → Hp → VK → Prop := fun xs H Q => ∃ (a : Addr) (ts : List Addr) (kvs : List (Key × V)), xs = [V.ref a] ∧ SqL K H a (ts.map V.ref) ∧ kvs.length ≤ 100000 ∧ ts.length = kvs.length ∧
  (∀ (i : Nat) (t : Addr) (kv : Key × V), ts[i]? = some t → kvs[i]? = some kv → H t = some (.tup [kV kv.1, kv.2])) ∧ ∀ l, H l = none → Q (.ref l) (upd H l (.dK (mergeK [] kvs)))
end
end L2

namespace L2
open PySem PySem.Spec PyProof.Rows
section
variable {X : Cx}
def rDClear : V → List V → Hp → VK → Prop := fun x vs H Q => ∃ l kvs, x = .ref l ∧ vs = [] ∧ H l = some (.dK kvs) ∧ Q .non (upd H l (.dK []))
end
theorem kit_dict_dict {K : PySem.W.Frag} : PySem.W.kitOne K (.type "dict") (.type "dict") = some true := by rfl
end L2

namespace L2
open PySem PySem.Spec PyProof.Rows
/-- the text of these signs -/
def tx (l : List Nat) : Str := ⟨l.toArray⟩
theorem tx_list (l : List Nat) : (tx l).cps.toList = l := by show l.toArray.toList = l; simp
theorem tx_inj {a b : List Nat} (h : tx a = tx b) : a = b := by rw [← tx_list a, h, tx_list]
/-- a part of the signs -/
def cutN (xs : List Nat) (lo hi : Option Int) : List Nat := (xs.drop (HT.sIx xs.length 0 lo)).take (HT.sIx xs.length xs.length hi - HT.sIx xs.length 0 lo)
/-- where a sign stands first, or -1 -/
def findN (l : List Nat) (c : Nat) : Int := if c ∈ l then (l.idxOf c : Nat) else -1
section
variable {X : Cx}
def rIxS2 : R2 := fun x y H Q => ∃ (l : List Nat) (i : Int) (c : Nat), x = .str (tx l) ∧ y = .int i ∧ l.length ≤ sizeLine ∧ atI l i = some c ∧ Q (.str (tx [c])) H
def rSlS : V → Option Int → Option Int → Hp → VK → Prop := fun x lo hi H Q => ∃ l : List Nat, x = .str (tx l) ∧ l.length ≤ sizeLine ∧ Q (.str (tx (cutN l lo hi))) H
def rFind : V → List V → Hp → VK → Prop := fun x vs H Q => ∃ (l : List Nat) (c : Nat), x = .str (tx l) ∧ vs = [.str (tx [c])] ∧ Q (.int (findN l c)) H
def rIndexT : V → List V → Hp → VK → Prop := fun x vs H Q => ∃ (l : List Nat) (c : Nat), x = .str (tx l) ∧ vs = [.str (tx [c])] ∧ c ∈ l ∧ Q (.int (l.idxOf c : Nat)) H
/-- the signs of a whole number -/
def decN (n : Nat) : List Nat := (Nat.toDigits 10 n).map Char.toNat
def decI (i : Int) : List Nat := if i < 0 then 45 :: decN i.natAbs else decN i.natAbs
/-- int(text), the text of figures, with a - ahead or not -/
def ReadI (l : List Nat) (n : Int) : Prop := (PySem.NumText.AllDigits l ∧ l ≠ [] ∧ n = (PySem.NumText.digitsVal l : Nat)) ∨ ∃ cs, l = 45 :: cs ∧ PySem.NumText.AllDigits cs ∧ cs ≠ [] ∧ n = -((PySem.NumText.digitsVal cs : Nat) : Int)
def Its (l : List Nat) : It := ⟨fun i _ => i < l.length, fun i H x H' => H' = H ∧ ∃ c, l[i]? = some c ∧ x = .str (tx [c]), fun i _ => l.length ≤ i⟩
def Ascii (l : List Nat) : Prop := ∀ c ∈ l, c < 128
def iTxt (tl : TE) : TI := fun σ H R => tl σ H fun x H1 => ∃ l, x = .str (tx l) ∧ Ascii l ∧ R (Its l) H1
def rLenT : List V → Hp → VK → Prop := fun xs H Q => ∃ l : List Nat, xs = [.str (tx l)] ∧ l.length ≤ sizeLine ∧ Q (.int l.length) H
def rStrT : List V → Hp → VK → Prop := fun xs H Q => ∃ i, xs = [.int i] ∧ i.natAbs.log2 < 1920 ∧ Q (.str (tx (decI i))) H
def rIntT : List V → Hp → VK → Prop := fun xs H Q => ∃ l n, xs = [.str (tx l)] ∧ l.length ≤ 640 ∧ ReadI l n ∧ Q (.int n) H
def rAddT : R2 := fun x y H Q => ∃ i j, x = .str (tx i) ∧ y = .str (tx j) ∧ i.length + j.length ≤ sizeLine ∧ Q (.str (tx (i ++ j))) H
def rMulT : R2 := fun x y H Q => ∃ (c n : Nat), x = .str (tx [c]) ∧ y = .int n ∧ 2 ≤ n ∧ n ≤ 1000000 ∧ Q (.str (tx (List.replicate n c))) H
def rInT (neg : Bool) : R2 := fun x y H Q => ∃ (c : Nat) (l : List Nat), x = .str (tx [c]) ∧ y = .str (tx l) ∧ Q (.bl (if neg then !decide (c ∈ l) else decide (c ∈ l))) H
end
def tTxts (ls : List (List Nat)) : TA := fun _ H Q => Q (ls.map fun l => V.str (tx l)) H
theorem kit_str_str {K : PySem.W.Frag} : PySem.W.kitOne K (.type "str") (.type "str") = some true := by rfl
theorem tx_str {a b : List Nat} : (tx a = tx b) = (a = b) := propext ⟨tx_inj, fun h => by rw [h]⟩
end L2

namespace PySem.SeqAt
open PySem PySem.AutoSeq1 PySem.MeetsSeq PySem.MeetsSeq2 PySem.MeetsSeq3
end PySem.SeqAt
namespace L2
open PySem PySem.Spec PyProof.Rows PySem.SeqAt
section
variable {X : Cx} {K : PySem.W.Frag}
def rGeL (K : PySem.W.Frag) : R2 := fun x y H Q => ∃ (a b : Addr) (ns ms : List Int) (j : Nat), x = .ref a ∧ y = .ref b ∧ SqL K H a (ns.map V.int) ∧ SqL K H b (ms.map V.int) ∧ j < ns.length ∧ j < ms.length ∧ (∀ m, m < j → ns.getD m 0 = ms.getD m 0) ∧ ns.getD j 0 < ms.getD j 0 ∧ Q (.bl false) H
/-- x in a list of like ones -/
def rInS (K : PySem.W.Frag) (neg : Bool) : R2 := fun x y H Q => ∃ d ds, Dp K H x d ∧ Dp K H y (.list ds) ∧ shaped (.list ds) = true ∧ d ∈ ds ∧ Q (.bl (!neg)) H
end
end L2
namespace L2
open PySem
end L2

namespace L2
open PySem PySem.Spec PyProof.Rows PySem.W
section
variable {X : Cx} {K : PySem.W.Frag}
end
/-- an own class as the text has it: to be made, to be asked -/
structure OCls (K : PySem.W.Frag) (C : Addr) : Prop where
  cl : Cls K C
  mks : makesIn K C = true
  kp : keepIn K (.ref C) = true
  ca : findIn K (.ref C) "__class__" = some (some (.builtin "object.__class__"))
  sp : specialIn K (.builtin "object.__class__") "__get__" = some (some (.builtin "getset_descriptor.__get__"))
  tk : takesIn K (.builtin "object.__class__") = some true
  mr : mroIn K C (.type "object") = some true
theorem OCls.ty {K : PySem.W.Frag} {C a dx : Addr} {fs : List (Str × V)} {H : Hp} (c : OCls K C) (e : H a = some (.ins C dx fs)) : TyOf K H (.ref a) (.ref C) := .ins e c.cl c.ca c.sp c.tk c.mr
section
variable {X : Cx} {K : PySem.W.Frag} {C : Addr} {k : Nat} {sp : Sp} {E : XK} {x m : Str} {p pos apos : Pos} {e o : Expr} {es : List Expr} {ta : TE} {t : TA}
/-- C() of a class without an __init__ of its own -/
def tMakeN (C : Addr) : TE := fun _ H Q => ∀ x dx, H x = none → H dx = none → dx ≠ x → Q (.ref x) (upd (upd H dx (.own x)) x (.ins C dx []))
/-- o.m(..), the method by the class of what stands there -/
def tMethD (m : Str) (R : Addr → Sp → Prop) (E : XK) (ta : TE) (t : TA) : TE := fun σ H Q => ta σ H fun x H1 => ∃ a C dx fs sp, x = .ref a ∧ H1 a = some (.ins C dx fs) ∧ fs.lookup m = none ∧ R C sp ∧ t σ H1 fun vs H2 => sp (x :: vs) H2 Q E
end
/-- try: o.m(..) -/
def tTryM (m : Str) (R : Addr → Sp → Prop) (ta : TE) (t : TA) (th : TH) : TS := fun D σ H => tMethD m R (fun cls da H2 => ∃ C, cls = .ref C ∧ th C da D σ H2) ta t σ H fun _ H2 => D.nx σ H2
section
variable {X : Cx} {k : Nat} {m : Str} {h0 : ExceptHandler} {hs : List ExceptHandler} {th : TH} {R : Addr → Sp → Prop} {cpos apos pos mpos : Pos} {o e : Expr} {es : List Expr} {ta : TE} {t : TA}
end
end L2
namespace L2
open PySem PySem.Spec PyProof.Rows
def rTupOf (K : PySem.W.Frag) : List V → Hp → VK → Prop := fun xs H Q => ∃ p ys, xs = [.ref p] ∧ ((SqL K H p ys ∧ ∀ l, H l = none → Q (.ref l) (upd H l (.tup ys))) ∨ (SqT K H p ys ∧ Q (.ref p) H))
end L2

namespace L2
open PySem PySem.Spec PyProof.Rows PySem.W
section
variable {X : Cx} {K : PySem.W.Frag}
/-- the dict, where the exception has one, is there -/
def DictIn (H : Hp) (da : Option Addr) : Prop := ∀ dx, da = some dx → ∃ fs, H dx = some (.xd fs)
def rIsXd (K : PySem.W.Frag) : List V → Hp → VK → Prop := fun xs H Q => ∃ (a C C1 : Addr) (da : Option Addr) (b : Bool), xs = [.ref a, .ref C1] ∧ H a = some (excO a C da) ∧ DictIn H da ∧ XIs K C ∧ kitOne K (.ref C) (.ref C1) = some b ∧ Q (.bl b) H
def rIsXV (K : PySem.W.Frag) : List V → Hp → VK → Prop := fun xs H Q => ∃ (a C : Addr) (n : String) (da : Option Addr) (b : Bool), xs = [.ref a, .ty n] ∧ H a = some (excO a C da) ∧ DictIn H da ∧ XIs K C ∧ kitOne K (.ref C) (.type n) = some b ∧ Q (.bl b) H
def rIsXTd (K : PySem.W.Frag) : List V → Hp → VK → Prop := fun xs H Q => ∃ (a C t : Addr) (cs : List Addr) (da : Option Addr) (b : Bool), xs = [.ref a, .ref t] ∧ H a = some (excO a C da) ∧ DictIn H da ∧ H t = some (.tup (cs.map V.ref)) ∧ XIs K C ∧ kitAny K (.ref C) (cs.map Value.ref) = some b ∧ Q (.bl b) H
/-- isinstance(x, C) of an instance of an own class -/
def rIsO (K : PySem.W.Frag) : List V → Hp → VK → Prop := fun xs H Q => ∃ (x : V) (C1 : Addr) (t : Value) (b : Bool), xs = [x, .ref C1] ∧ TyOf K H x t ∧ kitOne K t (.ref C1) = some b ∧ Q (.bl b) H
end
end L2

namespace L2
open PySem
def tLstG (t : TA) : TE := fun σ H Q => t σ H fun xs H1 => xs.length ≤ sizeLine ∧ ∀ p G, H1 p = none → Same H1 G → G p = some (.lst xs) → Q (.ref p) G
def tTupG (t : TA) : TE := fun σ H Q => t σ H fun xs H1 => xs.length ≤ sizeLine ∧ ∀ p G, H1 p = none → Same H1 G → G p = some (.tup xs) → Q (.ref p) G
section
variable {X : Cx} {es : List Expr} {t : TA} {pos : Pos}
end
end L2
namespace L2
open PySem PySem.W
section
variable {K : PySem.W.Frag} {h : Heap} {mg : Str → Option Value} {x : Str} {C : Addr}
variable {f : Addr} {m qual : Str} {st : Stmt} {ps : List Str} {oc kV doc pm cd ct : Value} {od an : Option Addr} {sl : Array (Option Value)}
end
end L2

namespace L2
open PySem PySem.Spec PyProof.Rows
section
variable {X : Cx} {K : PySem.W.Frag}
end
end L2

namespace PySem
namespace F
end F
section
variable {prog : Program} {w : World} {A : Around} {E : Value → Shared → Prop} {s : Shared}
def Heap.IsRevT (h : Heap) (a t : Addr) (i : Int) : Prop := ∃ o, h.get? a = some o ∧ o.cls = .type "reversed" ∧ o.data = .fields #[.ref t, rawInt i]
theorem Heap.IsRevT.typeIs {a l : Addr} {i : Int} (x : s.heap.IsRevT a l i) : s.TypeIs (.ref a) "reversed" := let ⟨o, ho, hc, _⟩ := x; ⟨o, ho, hc⟩
theorem Heap.IsRevT.at {h h' : Heap} {a l : Addr} {i : Int} (x : h.IsRevT a l i) (e : ∀ o, h.get? a = some o → h'.get? a = some o) : h'.IsRevT a l i := let ⟨o, ho, r⟩ := x; ⟨o, e _ ho, r⟩
end
end PySem
namespace L2
open PySem PySem.Spec PyProof.Rows
end L2

namespace TB

/-- what the landing of beat i leaves by the length -/
def land (P : List Int) (i : Nat) : Int := ((i : Int) + P.getD i 0) % (P.length : Int)

structure Row (P : List Int) : Prop where
  lo : 1 ≤ P.length
  hi : P.length ≤ 60
  bd : ∀ x ∈ P, -1000000 ≤ x ∧ x ≤ 1000000

structure Pat (P : List Int) : Prop extends Row P where
  inj : ∀ i j : Nat, i < P.length → j < P.length → land P i = land P j → i = j

theorem getD_get {P : List Int} {i : Nat} (h : i < P.length) : P.getD i 0 = P[i] := by
  rw [List.getD_eq_getElem?_getD, List.getElem?_eq_getElem h]
  rfl

theorem getD_mem {P : List Int} {i : Nat} (h : i < P.length) : P.getD i 0 ∈ P := by
  rw [getD_get h]
  exact List.getElem_mem h

theorem getD_some {P : List Int} {i : Nat} (h : i < P.length) : P[i]? = some (P.getD i 0) := by
  rw [getD_get h]
  exact List.getElem?_eq_getElem h

theorem land_lt {P : List Int} (h : 1 ≤ P.length) (i : Nat) : 0 ≤ land P i ∧ land P i < (P.length : Int) := by
  unfold land
  exact ⟨Int.emod_nonneg _ (by omega), Int.emod_lt_of_pos _ (by omega)⟩

/-- the spots: a row of the beats in some order -/
structure Spots (n : Nat) (sp : List Int) : Prop where
  len : sp.length = n
  rng : ∀ k : Nat, k < n → 0 ≤ sp.getD k 0 ∧ sp.getD k 0 < (n : Int)
  inj : ∀ i j : Nat, i < n → j < n → sp.getD i 0 = sp.getD j 0 → i = j

theorem range_getD (n k : Nat) (h : k < n) : ((List.range n).map fun i : Nat => (i : Int)).getD k 0 = (k : Int) := by
  rw [getD_get (by simpa using h)]
  simp

theorem Spots.range (n : Nat) : Spots n ((List.range n).map fun i : Nat => (i : Int)) where
  len := by simp
  rng := fun k h => by rw [range_getD n k h]; omega
  inj := fun i j hi hj e => by rw [range_getD n i hi, range_getD n j hj] at e; omega

theorem getD_set {l : List Int} {a i : Nat} {x : Int} : (l.set a x).getD i 0 = if i = a ∧ a < l.length then x else l.getD i 0 := by
  rw [List.getD_eq_getElem?_getD, List.getD_eq_getElem?_getD, List.getElem?_set]
  by_cases h : a = i
  · subst h
    by_cases h2 : a < l.length
    · simp [h2]
    · simp [h2]
  · rw [if_neg h, if_neg]
    rintro ⟨e, _⟩
    exact h e.symm

theorem Spots.swap {n : Nat} {sp : List Int} (S : Spots n sp) {k o : Nat} (hk : k < n) (ho : o < n) :
    Spots n ((sp.set k (sp.getD o 0)).set o (sp.getD k 0)) := by
  have hl := S.len
  have g : ∀ i, ((sp.set k (sp.getD o 0)).set o (sp.getD k 0)).getD i 0 = if i = o then sp.getD k 0 else if i = k then sp.getD o 0 else sp.getD i 0 := by
    intro i
    rw [getD_set, getD_set, List.length_set]
    by_cases h1 : i = o
    · rw [if_pos ⟨h1, by omega⟩, if_pos h1]
    · rw [if_neg (fun h => h1 h.1), if_neg h1]
      by_cases h2 : i = k
      · rw [if_pos ⟨h2, by omega⟩, if_pos h2]
      · rw [if_neg (fun h => h2 h.1), if_neg h2]
  refine ⟨by simp [hl], fun i hi => ?_, fun i j hi hj e => ?_⟩
  · rw [g i]
    split
    · exact S.rng k hk
    · split
      · exact S.rng o ho
      · exact S.rng i hi
  · have gp : ∀ m : Nat, ((sp.set k (sp.getD o 0)).set o (sp.getD k 0)).getD m 0 = sp.getD (if m = o then k else if m = k then o else m) 0 := by
      intro m
      rw [g m]
      split
      · rfl
      · split <;> rfl
    rw [gp i, gp j] at e
    have q := S.inj _ _ (by split; exact hk; split; exact ho; exact hi) (by split; exact hk; split; exact ho; exact hj) e
    revert q
    split <;> split <;> (try split) <;> (try split) <;> omega

theorem land_of {P : List Int} {i : Nat} {s q : Int} (h : P.getD i 0 = s - i + q * (P.length : Int)) (h0 : 0 ≤ s) (h1 : s < (P.length : Int)) : land P i = s := by
  unfold land
  rw [h]
  have e : (i : Int) + (s - i + q * (P.length : Int)) = s + q * (P.length : Int) := by omega
  rw [e, Int.add_mul_emod_self_right]
  exact Int.emod_eq_of_lt h0 h1

theorem Pat.of {n : Nat} {P sp : List Int} (h1 : 1 ≤ n) (h2 : n ≤ 60) (hl : P.length = n) (bd : ∀ x ∈ P, -1000000 ≤ x ∧ x ≤ 1000000) (S : Spots n sp)
    (h : ∀ k : Nat, k < n → ∃ q : Int, P.getD k 0 = sp.getD k 0 - k + q * (n : Int)) : Pat P := by
  subst hl
  have e : ∀ k : Nat, k < P.length → land P k = sp.getD k 0 := fun k hk => by
    obtain ⟨q, hq⟩ := h k hk
    exact land_of hq (S.rng k hk).1 (S.rng k hk).2
  exact ⟨⟨h1, h2, bd⟩, fun i j hi hj ee => S.inj i j hi hj (by rw [← e i hi, ← e j hj]; exact ee)⟩

/-- the throw that the three kinds make -/
theorem kind0 (s k f n : Int) : (s - k) % n + f * n = s - k + (f - (s - k) / n) * n := by
  have h := Int.emod_add_mul_ediv (s - k) n
  have e : (f - (s - k) / n) * n = f * n - n * ((s - k) / n) := by rw [Int.sub_mul, Int.mul_comm n]
  omega

theorem emod_shift {a b k n : Int} (h : (a + k) % n = (b + k) % n) : a % n = b % n := by
  have := Int.emod_emod_of_dvd
  have h2 : ((a + k) - k) % n = ((b + k) - k) % n := by
    rw [Int.sub_emod, h, ← Int.sub_emod]
  have e1 : a + k - k = a := by omega
  have e2 : b + k - k = b := by omega
  rwa [e1, e2] at h2

end TB

namespace TB

theorem nodup_len : ∀ (n : Nat) (l : List Nat), l.Nodup → (∀ x ∈ l, x < n) → l.length ≤ n
  | 0, l, _, h => by
    cases l with
    | nil => exact Nat.le_refl _
    | cons a r => exact absurd (h a List.mem_cons_self) (Nat.not_lt_zero _)
  | n + 1, l, nd, h => by
    by_cases hm : n ∈ l
    · have h1 := nodup_len n (l.erase n) (nd.erase n) fun x hx => by
        have hx1 := h x (List.mem_of_mem_erase hx)
        have hx2 : x ≠ n := fun e => by
          subst e
          exact nd.not_mem_erase hx
        omega
      rw [List.length_erase_of_mem hm] at h1
      omega
    · have h1 := nodup_len n l nd fun x hx => by
        have hx1 := h x hx
        have hx2 : x ≠ n := fun e => hm (e ▸ hx)
        omega
      omega

theorem perm_range : ∀ (n : Nat) (l : List Nat), l.Nodup → (∀ x ∈ l, x < n) → l.length = n → l.Perm (List.range n)
  | 0, l, _, _, hl => by
    rw [List.eq_nil_of_length_eq_zero hl]
    exact List.Perm.refl _
  | n + 1, l, nd, h, hl => by
    have hm : n ∈ l := Classical.byContradiction fun hm => by
      have h1 := nodup_len n l nd fun x hx => by
        have hx1 := h x hx
        have hx2 : x ≠ n := fun e => hm (e ▸ hx)
        omega
      omega
    have p1 := List.perm_cons_erase hm
    have p2 := perm_range n (l.erase n) (nd.erase n) (fun x hx => by
      have hx1 := h x (List.mem_of_mem_erase hx)
      have hx2 : x ≠ n := fun e => by
        subst e
        exact nd.not_mem_erase hx
      omega) (by rw [List.length_erase_of_mem hm]; omega)
    rw [List.range_succ]
    exact p1.trans ((List.Perm.cons n p2).trans (List.perm_append_comm (l₁ := [n]) (l₂ := List.range n)))

/-- an injective map of the beats is a permutation -/
theorem map_perm {n : Nat} {f : Nat → Nat} (hf : ∀ i, i < n → f i < n) (inj : ∀ i j, i < n → j < n → f i = f j → i = j) : ((List.range n).map f).Perm (List.range n) := by
  refine perm_range n _ ?_ (fun x hx => ?_) (by simp)
  · unfold List.Nodup
    rw [List.pairwise_map]
    refine List.Pairwise.imp_of_mem ?_ List.nodup_range
    intro a b ha hb hab e
    exact hab (inj a b (List.mem_range.mp ha) (List.mem_range.mp hb) e)
  · obtain ⟨i, hi, rfl⟩ := List.mem_map.mp hx
    exact hf i (List.mem_range.mp hi)
theorem surj_of {n : Nat} {f : Nat → Nat} (hf : ∀ i, i < n → f i < n) (inj : ∀ i j, i < n → j < n → f i = f j → i = j) {y : Nat} (hy : y < n) : ∃ i, i < n ∧ f i = y := by
  have h := (map_perm hf inj).mem_iff (a := y)
  obtain ⟨i, hi, e⟩ := List.mem_map.mp (h.mpr (List.mem_range.mpr hy))
  exact ⟨i, List.mem_range.mp hi, e⟩
theorem map_range_getD {n i : Nat} (h : i < n) (g : Nat → Int) : ((List.range n).map g).getD i 0 = g i := by
  rw [List.getD_eq_getElem?_getD, List.getElem?_map, List.getElem?_range h]
  rfl
theorem sum_add_map (f g : Nat → Int) : ∀ l : List Nat, (l.map fun i => f i + g i).sum = (l.map f).sum + (l.map g).sum
  | [] => by simp
  | a :: r => by simp only [List.map_cons, List.sum_cons, sum_add_map f g r]; omega
theorem sum_mul_map (n : Int) (f : Nat → Int) : ∀ l : List Nat, (l.map fun i => n * f i).sum = n * (l.map f).sum
  | [] => by simp
  | a :: r => by simp only [List.map_cons, List.sum_cons, sum_mul_map n f r, Int.mul_add]

/-- the landing as a number of the row -/
def landN (P : List Int) (i : Nat) : Nat := (land P i).toNat
theorem landN_cast {P : List Int} (h : 1 ≤ P.length) (i : Nat) : (landN P i : Int) = land P i := Int.toNat_of_nonneg (land_lt h i).1
theorem landN_lt {P : List Int} (h : 1 ≤ P.length) (i : Nat) : landN P i < P.length := by
  have h1 := landN_cast h i
  have h2 := (land_lt h i).2
  omega
theorem Pat.landN_inj {P : List Int} (p : Pat P) {i j : Nat} (hi : i < P.length) (hj : j < P.length) (e : landN P i = landN P j) : i = j := by
  refine p.inj i j hi hj ?_
  rw [← landN_cast p.lo, ← landN_cast p.lo, e]

def opp (n : Nat) (b : Int) : Nat := ((-b) % (n : Int)).toNat
structure Mir (P M : List Int) : Prop where
  len : M.length = P.length
  bd : ∀ x ∈ M, x ∈ P
  at_ : ∀ j, j < P.length → M.getD (opp P.length (land P j)) 0 = P.getD j 0
def slot (P : List Int) (j : Nat) : Nat := opp P.length (land P j)
end TB

namespace TB
/-- the throw back -/
structure Bk (P M : List Int) : Prop where
  len : M.length = P.length
  bd : ∀ x ∈ M, -1000000 ≤ x ∧ x ≤ 1000000
  at_ : ∀ j, j < P.length → M.getD (landN P j) 0 = -P.getD j 0
end TB

namespace TB
def it (f : Nat → Nat) : Nat → Nat → Nat
  | 0, a => a
  | k + 1, a => f (it f k a)
structure Pm (n : Nat) (f : Nat → Nat) : Prop where
  lt : ∀ i, i < n → f i < n
  inj : ∀ i j, i < n → j < n → f i = f j → i = j
section
variable {n : Nat} {f : Nat → Nat} (F : Pm n f)
include F
end
/-- k is the first time that a comes back -/
structure Per (f : Nat → Nat) (a k : Nat) : Prop where
  pos : 1 ≤ k
  back : it f k a = a
  first : ∀ j, 1 ≤ j → j < k → it f j a ≠ a
open Classical in
noncomputable def per (f : Nat → Nat) (a : Nat) : Nat := if h : ∃ k, Per f a k then choose h else 1
/-- the beats of a's round -/
noncomputable def orb (f : Nat → Nat) (a : Nat) : List Nat := (List.range (per f a)).map fun j => it f j a
section
variable {n : Nat} {f : Nat → Nat} (F : Pm n f)
include F
end
/-- the first beats of the rounds, of the beats below i -/
noncomputable def heads (f : Nat → Nat) : Nat → List Nat
  | 0 => []
  | i + 1 => if i ∈ (heads f i).flatMap (orb f) then heads f i else heads f i ++ [i]
noncomputable abbrev told (f : Nat → Nat) (i : Nat) : List Nat := (heads f i).flatMap (orb f)
structure Hd (n : Nat) (f : Nat → Nat) (i : Nat) : Prop where
  lt : ∀ a ∈ heads f i, a < i
  rise : (heads f i).Pairwise (· < ·)
  nd : ((heads f i).flatMap (orb f)).Nodup
  all : ∀ j, j < i → j ∈ (heads f i).flatMap (orb f)
  step : ∀ c, c < n → (c ∈ (heads f i).flatMap (orb f) ↔ f c ∈ (heads f i).flatMap (orb f))
  least : ∀ a ∈ heads f i, ∀ b ∈ orb f a, a ≤ b
end TB

namespace TB
def swapL (P : List Int) (i j : Nat) : List Int := (P.set i ((j : Int) + P.getD (j % P.length) 0 - i)).set (j % P.length) ((i : Int) + P.getD i 0 - j)
theorem swap_len (P : List Int) (i j : Nat) : (swapL P i j).length = P.length := by simp [swapL]
theorem swap_at {P : List Int} {i j : Nat} (hi : i < P.length) (b : Nat) : (swapL P i j).getD b 0 = if b = j % P.length then (i : Int) + P.getD i 0 - j else if b = i then (j : Int) + P.getD (j % P.length) 0 - i else P.getD b 0 := by
  have hc : j % P.length < P.length := Nat.mod_lt _ (by omega)
  unfold swapL
  rw [getD_set, getD_set, List.length_set]
  by_cases h1 : b = j % P.length
  · rw [if_pos ⟨h1, hc⟩, if_pos h1]
  · rw [if_neg (fun h => h1 h.1), if_neg h1]
    by_cases h2 : b = i
    · rw [if_pos ⟨h2, hi⟩, if_pos h2]
    · rw [if_neg (fun h => h2 h.1), if_neg h2]
/-- which beat a beat of the swapped one lands as -/
def swB (c i b : Nat) : Nat := if b = c then i else if b = i then c else b
theorem swB_lt {n c i b : Nat} (hc : c < n) (hi : i < n) (hb : b < n) : swB c i b < n := by
  unfold swB
  split
  · exact hi
  · split
    · exact hc
    · exact hb
theorem swB_inj {c i a b : Nat} (e : swB c i a = swB c i b) : a = b := by
  revert e
  unfold swB
  split <;> split <;> (try split) <;> (try split) <;> omega
theorem nat_mod_cast (j n : Nat) : ((j % n : Nat) : Int) = (j : Int) - (n : Int) * ((j / n : Nat) : Int) := by
  have := Nat.mod_add_div j n
  have e : ((j % n + n * (j / n) : Nat) : Int) = (j : Int) := by rw [this]
  push_cast at e ⊢
  omega
theorem swap_land {P : List Int} {i j : Nat} (hi : i < P.length) (b : Nat) : land (swapL P i j) b = land P (swB (j % P.length) i b) := by
  unfold land swB
  rw [swap_at hi, swap_len]
  have e := nat_mod_cast j P.length
  generalize hc : j % P.length = c at *
  generalize ((j / P.length : Nat) : Int) = q at *
  by_cases h1 : b = c
  · rw [if_pos h1, if_pos h1, h1]
    rw [show (c : Int) + ((i : Int) + P.getD i 0 - j) = (i : Int) + P.getD i 0 + (P.length : Int) * (-q) by rw [Int.mul_neg]; omega, Int.add_mul_emod_self_left]
  · rw [if_neg h1, if_neg h1]
    by_cases h2 : b = i
    · rw [if_pos h2, if_pos h2, h2]
      rw [show (i : Int) + ((j : Int) + P.getD c 0 - i) = (c : Int) + P.getD c 0 + (P.length : Int) * q by omega, Int.add_mul_emod_self_left]
    · rw [if_neg h2, if_neg h2]
theorem swap_pat {P : List Int} (p : Pat P) {i j : Nat} (hi : i < P.length) (bd : ∀ x ∈ swapL P i j, -1000000 ≤ x ∧ x ≤ 1000000) : Pat (swapL P i j) := by
  have lo := p.lo
  refine ⟨⟨by rw [swap_len]; exact p.lo, by rw [swap_len]; exact p.hi, bd⟩, fun a b ha hb e => ?_⟩
  rw [swap_len] at ha hb
  rw [swap_land hi, swap_land hi] at e
  have hc : j % P.length < P.length := Nat.mod_lt _ (by omega)
  exact swB_inj (p.inj _ _ (swB_lt hc hi ha) (swB_lt hc hi hb) e)
end TB

namespace TB
def Apart (P : List Int) : Prop := ∀ i j : Nat, i < P.length → j < P.length → land P i = land P j → i = j
def F (P : List Int) (m : Int) : Int := m + P.getD (m % (P.length : Int)).toNat 0
def T (P : List Int) (i j : Int) : Int := max 0 ((F P i - F P j - 1) / (P.length : Int) - (i - j) / (P.length : Int))
def cr (P : List Int) : Int := ((List.range P.length).map fun i : Nat => ((List.range P.length).map fun j : Nat => T P i j).sum).sum

theorem F_nat {P : List Int} {i : Nat} (h : i < P.length) : F P i = i + P.getD i 0 := by
  unfold F
  rw [Int.emod_eq_of_lt (by omega) (by omega), Int.toNat_natCast]
theorem F_add (P : List Int) (m q : Int) : F P (m + (P.length : Int) * q) = F P m + (P.length : Int) * q := by
  unfold F
  rw [Int.add_mul_emod_self_left]
  omega
theorem mod_form (i n : Int) : i % n = i + n * (-(i / n)) := by
  have := Int.emod_add_mul_ediv i n
  rw [Int.mul_neg]
  omega
theorem div0 {x n : Int} (h0 : 0 ≤ x) (h1 : x < n) : x / n = 0 := Int.ediv_eq_zero_of_lt h0 h1
theorem sum_zero {l : List Nat} {g : Nat → Int} (h : ∀ i ∈ l, g i = 0) : (l.map g).sum = 0 := by
  induction l with
  | nil => rfl
  | cons a l ih =>
    rw [List.map_cons, List.sum_cons, h a (List.mem_cons_self ..), ih fun i hi => h i (List.mem_cons_of_mem _ hi)]
    rfl
theorem sum_congr {n : Nat} {f g : Nat → Int} (h : ∀ i, i < n → f i = g i) : ((List.range n).map f).sum = ((List.range n).map g).sum := by
  rw [List.map_congr_left fun i hi => h i (List.mem_range.mp hi)]
theorem sum_single : ∀ {n : Nat} {g : Nat → Int} {a : Nat}, a < n → (∀ i, i < n → i ≠ a → g i = 0) → ((List.range n).map g).sum = g a
  | 0, _, _, h, _ => absurd h (Nat.not_lt_zero _)
  | n + 1, g, a, h, z => by
    rw [List.range_succ, List.map_append, List.sum_append]
    simp only [List.map_cons, List.map_nil, List.sum_cons, List.sum_nil, Int.add_zero]
    by_cases e : a = n
    · subst e
      rw [sum_zero fun i hi => z i (by have := List.mem_range.mp hi; omega) (by have := List.mem_range.mp hi; omega)]
      omega
    · rw [sum_single (n := n) (a := a) (by omega) fun i hi hne => z i (by omega) hne, z n (by omega) (fun h => e h.symm)]
      omega
end TB

namespace TB
theorem Pat.apart {P : List Int} (p : Pat P) : Apart P := p.inj
abbrev nextN (n k : Nat) : Nat := (k + 1) % n
/-- the beat whose landing a beat of the swapped row has -/
def tau (n k b : Nat) : Int := if b = nextN n k then (b : Int) - 1 else if b = k then (k : Int) + 1 else b
theorem land_F {P : List Int} {i : Nat} (hi : i < P.length) : land P i = F P i % (P.length : Int) := by
  rw [F_nat hi]; rfl
end TB

namespace TB
theorem sum_snoc (n : Nat) (f : Nat → Int) : ((List.range (n + 1)).map f).sum = ((List.range n).map f).sum + f n := by
  rw [List.range_succ, List.map_append, List.sum_append]
  simp
end TB

namespace TB
/-- the number whose bits are c -/
def W (c : Nat → Int) (n : Nat) : Int := ((List.range n).map fun k => c k * 2 ^ k).sum
def Bits (c : Nat → Int) : Prop := ∀ k, c k = 0 ∨ c k = 1
theorem W_succ (c : Nat → Int) (n : Nat) : W c (n + 1) = W c n + c n * 2 ^ n := sum_snoc n _
theorem two_pos (n : Nat) : (0 : Int) < 2 ^ n := Int.pow_pos (by decide)
theorem W_bd {c : Nat → Int} (h : Bits c) : ∀ n, 0 ≤ W c n ∧ W c n < 2 ^ n
  | 0 => by simp [W]
  | n + 1 => by
    have ih := W_bd h n
    have p := two_pos n
    rw [W_succ, Int.pow_succ]
    rcases h n with e | e <;> rw [e] <;> omega
theorem W_cut (c : Nat → Int) (t : Nat) : ∀ m, W c (t + m) = W c t + 2 ^ t * W (fun k => c (t + k)) m
  | 0 => by simp [W]
  | m + 1 => by
    rw [show t + (m + 1) = t + m + 1 by omega, W_succ, W_cut c t m, W_succ, Int.mul_add, Int.pow_add]
    rw [show (2 : Int) ^ t * (c (t + m) * 2 ^ m) = c (t + m) * (2 ^ t * 2 ^ m) by rw [Int.mul_left_comm]]
    omega
theorem W_parity {c : Nat → Int} (h : Bits c) (m : Nat) : W c (m + 1) % 2 = c 0 := by
  have e := W_cut c 1 m
  rw [Nat.add_comm 1 m] at e
  rw [e, show (2 : Int) ^ 1 = 2 by decide, Int.add_mul_emod_self_left, W_succ]
  simp only [W, List.range_zero, List.map_nil, List.sum_nil, Int.pow_zero, Int.mul_one, Int.zero_add]
  rcases h 0 with e | e <;> rw [e] <;> decide
theorem W_div {c : Nat → Int} (h : Bits c) {t n : Nat} (ht : t ≤ n) : W c n / 2 ^ t = W (fun k => c (t + k)) (n - t) := by
  have e := W_cut c t (n - t)
  rw [show t + (n - t) = n by omega] at e
  have b := W_bd h t
  rw [e, Int.add_mul_ediv_left _ _ (by have := two_pos t; omega), div0 b.1 b.2]
  omega
theorem W_bit {c : Nat → Int} (h : Bits c) {t n : Nat} (ht : t < n) : W c n / 2 ^ t % 2 = c t := by
  rw [W_div h (by omega), show n - t = (n - t - 1) + 1 by omega, W_parity (fun k => h (t + k))]
  rfl
theorem W_bit_hi {c : Nat → Int} (h : Bits c) {t n : Nat} (ht : n ≤ t) : W c n / 2 ^ t % 2 = 0 := by
  have b := W_bd h n
  have le : (2 : Int) ^ n ≤ 2 ^ t := by
    rw [show t = n + (t - n) by omega, Int.pow_add]
    have h1 := two_pos n
    have h2 := two_pos (t - n)
    have h3 := Int.mul_le_mul_of_nonneg_left (show (1 : Int) ≤ 2 ^ (t - n) by omega) (Int.le_of_lt h1)
    omega
  rw [div0 b.1 (by omega)]
  rfl
/-- a number by its bits -/
def bitI (z : Int) (k : Nat) : Int := z / 2 ^ k % 2
structure Plain (P : List Int) : Prop extends Pat P where
  pl : ∀ x ∈ P, 0 ≤ x ∧ x ≤ 60
theorem F_at {P : List Int} (lo : 1 ≤ P.length) (m : Int) : ∃ i : Nat, i < P.length ∧ F P m = m + P.getD i 0 ∧ (i : Int) = m % (P.length : Int) := by
  have h0 := Int.emod_nonneg m (show (P.length : Int) ≠ 0 by omega)
  have h1 := Int.emod_lt_of_pos m (show (0 : Int) < P.length by omega)
  exact ⟨(m % (P.length : Int)).toNat, by omega, rfl, by omega⟩
theorem Plain.F_bd {P : List Int} (p : Plain P) (m : Int) : m ≤ F P m ∧ F P m ≤ m + 60 := by
  obtain ⟨i, hi, e, _⟩ := F_at p.lo m
  have := p.pl _ (getD_mem hi)
  omega
theorem Apart.F_inj {P : List Int} (p : Apart P) (lo : 1 ≤ P.length) {a b : Int} (e : F P a = F P b) : a = b := by
  obtain ⟨i, hi, ei, mi⟩ := F_at lo a
  obtain ⟨j, hj, ej, mj⟩ := F_at lo b
  have hl : land P i = land P j := by
    unfold land
    rw [mi, mj, Int.emod_add_emod, Int.emod_add_emod, ← ei, ← ej, e]
  have := p i j hi hj hl
  subst this
  omega
theorem Pat.F_surj {P : List Int} (p : Pat P) (y : Int) : ∃ m : Int, F P m = y := by
  have lo := p.lo
  have h0 := Int.emod_nonneg y (show (P.length : Int) ≠ 0 by omega)
  have h1 := Int.emod_lt_of_pos y (show (0 : Int) < P.length by omega)
  obtain ⟨j, hj, e⟩ := surj_of (n := P.length) (f := landN P) (fun i _ => landN_lt lo i) (fun i j hi hj => p.landN_inj hi hj) (y := (y % (P.length : Int)).toNat) (by omega)
  have e2 : land P j = y % (P.length : Int) := by rw [← landN_cast lo, e]; omega
  have e3 := mod_form (F P j) (P.length : Int)
  have e4 := mod_form y (P.length : Int)
  rw [land_F hj, e3, e4] at e2
  refine ⟨j + (P.length : Int) * (-(F P j / (P.length : Int)) - -(y / (P.length : Int))), ?_⟩
  rw [F_add, Int.mul_sub]
  omega
/-- does a ball thrown so long ago land k beats from beat b on -/
def lnd (P : List Int) (b : Int) (k ago : Nat) : Int := if F P (b - ago - 1) = b + k then 1 else 0
def cS (P : List Int) (b : Int) (k : Nat) : Int := ((List.range 60).map fun ago : Nat => lnd P b k ago).sum
def S (P : List Int) (b : Int) : Int := W (cS P b) 60
theorem cS_one {P : List Int} (p : Apart P) (lo : 1 ≤ P.length) {b : Int} {k ago : Nat} (ha : ago < 60) (h : F P (b - ago - 1) = b + k) : cS P b k = 1 := by
  unfold cS
  rw [sum_single (a := ago) ha fun i _ hne => ?_]
  · unfold lnd; rw [if_pos h]
  · unfold lnd
    rw [if_neg]
    intro e
    have := p.F_inj lo (e.trans h.symm)
    omega
theorem cS_zero {P : List Int} {b : Int} {k : Nat} (h : ∀ ago : Nat, ago < 60 → F P (b - ago - 1) ≠ b + k) : cS P b k = 0 :=
  sum_zero fun i hi => by unfold lnd; exact if_neg (h i (List.mem_range.mp hi))
theorem cS_bits {P : List Int} (p : Apart P) (lo : 1 ≤ P.length) (b : Int) : Bits (cS P b) := fun k => by
  by_cases h : ∃ ago : Nat, ago < 60 ∧ F P (b - ago - 1) = b + k
  · obtain ⟨ago, ha, e⟩ := h
    exact .inr (cS_one p lo ha e)
  · exact .inl (cS_zero fun ago ha e => h ⟨ago, ha, e⟩)
theorem Plain.cS_iff {P : List Int} (p : Plain P) {b : Int} {k : Nat} : cS P b k = 1 ↔ ∃ m : Int, m < b ∧ F P m = b + k := by
  constructor
  · intro h
    refine Classical.byContradiction fun hn => ?_
    rw [cS_zero fun ago _ e => hn ⟨_, by omega, e⟩] at h
    omega
  · rintro ⟨m, hm, e⟩
    have := p.F_bd m
    exact cS_one p.apart p.lo (ago := (b - m - 1).toNat) (by omega) (by rw [show b - ((b - m - 1).toNat : Int) - 1 = m by omega]; exact e)
theorem Plain.cS_eq0 {P : List Int} (p : Plain P) {b : Int} {k : Nat} (h : ∀ m : Int, m < b → F P m ≠ b + k) : cS P b k = 0 := by
  rcases cS_bits p.apart p.lo b k with e | e
  · exact e
  · obtain ⟨m, hm, e2⟩ := p.cS_iff.mp e
    exact absurd e2 (h m hm)
/-- one beat on -/
theorem Plain.cS_next {P : List Int} (p : Plain P) (b : Int) (k : Nat) : cS P (b + 1) k = cS P b (k + 1) + if F P b = b + 1 + k then 1 else 0 := by
  by_cases h : F P b = b + 1 + k
  · rw [if_pos h, p.cS_iff.mpr ⟨b, by omega, h⟩, p.cS_eq0 fun m hm e => ?_]
    · rfl
    · have := p.apart.F_inj p.lo (e.trans (show b + ((k + 1 : Nat) : Int) = F P b by omega))
      omega
  · rw [if_neg h, Int.add_zero]
    by_cases g : ∃ m : Int, m < b ∧ F P m = b + ((k + 1 : Nat) : Int)
    · rw [p.cS_iff.mpr g, p.cS_iff.mpr (by obtain ⟨m, hm, e⟩ := g; exact ⟨m, by omega, by omega⟩)]
    · rw [p.cS_eq0 (b := b) fun m hm e => g ⟨m, hm, e⟩, p.cS_eq0 fun m hm e => ?_]
      by_cases hm2 : m = b
      · subst hm2; exact h e
      · exact g ⟨m, by omega, by omega⟩
theorem W_add (c d : Nat → Int) (n : Nat) : W (fun k => c k + d k) n = W c n + W d n := by
  unfold W
  rw [← sum_add_map]
  refine sum_congr fun k _ => ?_
  rw [Int.add_mul]
theorem Plain.S_next {P : List Int} (p : Plain P) (b : Int) : S P (b + 1) = S P b / 2 + if F P b = b then 0 else 2 ^ (F P b - b - 1).toNat := by
  have hb := cS_bits p.apart p.lo b
  have bd := p.F_bd b
  unfold S
  have e0 : W (cS P (b + 1)) 60 = W (fun k => cS P b (1 + k) + if F P b = b + 1 + k then 1 else 0) 60 := by
    unfold W
    refine sum_congr fun k _ => ?_
    rw [p.cS_next b k, Nat.add_comm k 1]
  rw [e0, W_add]
  have e1 := W_div hb (t := 1) (n := 60) (by decide)
  rw [show (2 : Int) ^ 1 = 2 by decide] at e1
  have e2 : W (fun k => cS P b (1 + k)) 60 = W (fun k => cS P b (1 + k)) 59 := by
    rw [W_succ (fun k => cS P b (1 + k)) 59, p.cS_eq0 fun m hm e => ?_]
    · omega
    · have := p.F_bd m
      omega
  rw [e1, e2]
  congr 1
  by_cases h : F P b = b
  · rw [if_pos h]
    refine sum_zero fun k _ => ?_
    show (if F P b = b + 1 + (k : Int) then (1 : Int) else 0) * 2 ^ k = 0
    rw [if_neg (by omega)]
    exact Int.zero_mul _
  · rw [if_neg h]
    unfold W
    rw [sum_single (a := (F P b - b - 1).toNat) (by omega) fun k _ hne => ?_]
    · show (if F P b = b + 1 + (((F P b - b - 1).toNat : Nat) : Int) then (1 : Int) else 0) * 2 ^ (F P b - b - 1).toNat = _
      rw [if_pos (by omega)]
      exact Int.one_mul _
    · show (if F P b = b + 1 + (k : Int) then (1 : Int) else 0) * 2 ^ k = 0
      rw [if_neg (by omega)]
      exact Int.zero_mul _
theorem Plain.S_bd {P : List Int} (p : Plain P) (b : Int) : 0 ≤ S P b ∧ S P b < 2 ^ 60 := W_bd (cS_bits p.apart p.lo b) 60
theorem Plain.S_even {P : List Int} (p : Plain P) {b : Int} (h : F P b = b) : S P b % 2 = 0 := by
  unfold S
  rw [W_parity (cS_bits p.apart p.lo b) 59]
  refine p.cS_eq0 fun m hm e => ?_
  have := p.apart.F_inj p.lo (e.trans (show b + ((0 : Nat) : Int) = F P b by omega))
  omega
theorem Plain.S_odd {P : List Int} (p : Plain P) {b : Int} (h : F P b ≠ b) : S P b % 2 = 1 := by
  unfold S
  rw [W_parity (cS_bits p.apart p.lo b) 59]
  obtain ⟨m, e⟩ := p.toPat.F_surj b
  have := p.F_bd m
  have hne : m ≠ b := fun z => h (by rw [← z]; rw [z] at e ⊢; exact e)
  exact p.cS_iff.mpr ⟨m, by omega, by omega⟩
theorem Plain.S_clear {P : List Int} (p : Plain P) {b : Int} {t : Nat} (h : F P b = b + t) : S P b / 2 ^ t % 2 = 0 := by
  unfold S
  by_cases ht : t < 60
  · rw [W_bit (cS_bits p.apart p.lo b) ht]
    refine p.cS_eq0 fun m hm e => ?_
    have := p.apart.F_inj p.lo (e.trans h.symm)
    omega
  · exact W_bit_hi (cS_bits p.apart p.lo b) (by omega)
theorem S_round (P : List Int) (b : Int) : S P (b + P.length) = S P b := by
  unfold S W
  refine sum_congr fun k _ => ?_
  congr 1
  unfold cS
  refine sum_congr fun ago _ => ?_
  unfold lnd
  have e := F_add P (b - ago - 1) 1
  rw [Int.mul_one] at e
  rw [show b + (P.length : Int) - ago - 1 = b - ago - 1 + P.length by omega, e]
  by_cases h : F P (b - ago - 1) = b + k
  · rw [if_pos h, if_pos (by omega)]
  · rw [if_neg h, if_neg (by omega)]
end TB

namespace TB
theorem sum_swap (g : Nat → Nat → Int) (n : Nat) : ∀ m : Nat, ((List.range m).map fun i => ((List.range n).map fun j => g i j).sum).sum = ((List.range n).map fun j => ((List.range m).map fun i => g i j).sum).sum
  | 0 => by
    exact (sum_zero (l := List.range n) (g := fun j => ((List.range 0).map fun i => g i j).sum) fun j _ => rfl).symm
  | m + 1 => by
    rw [sum_snoc, sum_swap g n m, ← sum_add_map]
    exact sum_congr fun j _ => (sum_snoc m fun i => g i j).symm
theorem sum_mulr (f : Nat → Int) (x : Int) (n : Nat) : ((List.range n).map fun i => f i * x).sum = ((List.range n).map f).sum * x := by
  have h := sum_mul_map x f (List.range n)
  rw [Int.mul_comm] at h
  rw [← h]
  exact sum_congr fun i _ => Int.mul_comm _ _
/-- what a ball thrown so long ago is worth -/
def wth (P : List Int) (b : Int) (ago : Nat) : Int := if b ≤ F P (b - ago - 1) then 2 ^ (F P (b - ago - 1) - b).toNat else 0
theorem Plain.S_wth {P : List Int} (p : Plain P) (b : Int) : S P b = ((List.range 60).map fun ago : Nat => wth P b ago).sum := by
  unfold S W cS
  have e : ((List.range 60).map fun k : Nat => ((List.range 60).map fun ago : Nat => lnd P b k ago).sum * 2 ^ k).sum = ((List.range 60).map fun k : Nat => ((List.range 60).map fun ago : Nat => lnd P b k ago * 2 ^ k).sum).sum :=
    sum_congr fun k _ => (sum_mulr (fun ago => lnd P b k ago) (2 ^ k) 60).symm
  rw [e, sum_swap (fun k ago => lnd P b k ago * 2 ^ k)]
  refine sum_congr fun ago ha => ?_
  have bd := p.F_bd (b - ago - 1)
  unfold wth
  by_cases h : b ≤ F P (b - ago - 1)
  · rw [if_pos h, sum_single (a := (F P (b - ago - 1) - b).toNat) (by omega) fun k _ hne => ?_]
    · unfold lnd
      rw [if_pos (by omega)]
      exact Int.one_mul _
    · unfold lnd
      rw [if_neg (by omega)]
      exact Int.zero_mul _
  · rw [if_neg h]
    refine sum_zero fun k _ => ?_
    unfold lnd
    rw [if_neg (by omega)]
    exact Int.zero_mul _
theorem sum_short {n m : Nat} {f : Nat → Int} (h : m ≤ n) (z : ∀ i, m ≤ i → i < n → f i = 0) : ((List.range n).map f).sum = ((List.range m).map f).sum := by
  induction n with
  | zero => rw [show m = 0 by omega]
  | succ n ih =>
    by_cases e : m = n + 1
    · rw [e]
    · rw [sum_snoc, z n (by omega) (by omega), ih (by omega) fun i a b => z i a (by omega)]
      omega
/-- thrown so far and landing here: by the throw, then by the beats -/
theorem Plain.S_byThrow {P : List Int} (p : Plain P) (b : Int) : S P b = ((List.range 60).map fun t : Nat => ((List.range (t + 1)).map fun i : Nat => if F P (b - i - 1) = b - i - 1 + ((t : Int) + 1) then (2 : Int) ^ (t - i) else 0).sum).sum := by
  have e : ((List.range 60).map fun t : Nat => ((List.range (t + 1)).map fun i : Nat => if F P (b - i - 1) = b - i - 1 + ((t : Int) + 1) then (2 : Int) ^ (t - i) else 0).sum).sum
      = ((List.range 60).map fun t : Nat => ((List.range 60).map fun i : Nat => if F P (b - i - 1) = b - i - 1 + ((t : Int) + 1) ∧ i ≤ t then (2 : Int) ^ (t - i) else 0).sum).sum := sum_congr fun t ht => by
    rw [sum_short (n := 60) (m := t + 1) (by omega) fun i h _ => if_neg (by omega)]
    refine sum_congr fun i hi => ?_
    by_cases h : F P (b - i - 1) = b - i - 1 + ((t : Int) + 1)
    · rw [if_pos h, if_pos ⟨h, by omega⟩]
    · rw [if_neg h, if_neg fun z => h z.1]
  rw [e, sum_swap (fun t i : Nat => if F P (b - i - 1) = b - i - 1 + ((t : Int) + 1) ∧ i ≤ t then (2 : Int) ^ (t - i) else 0), p.S_wth]
  refine sum_congr fun i hi => ?_
  have bd := p.F_bd (b - i - 1)
  unfold wth
  by_cases h : b ≤ F P (b - i - 1)
  · rw [if_pos h, sum_single (a := (F P (b - i - 1) - (b - i - 1) - 1).toNat) (by omega) fun t _ hne => if_neg (by omega), if_pos ⟨by omega, by omega⟩]
    congr 1
    omega
  · rw [if_neg h]
    exact (sum_zero fun t _ => if_neg (by omega)).symm
end TB

namespace TB
def letsI (s : Int) (x : Nat) : Prop := (x = 0 → s % 2 = 0) ∧ (x ≠ 0 → s % 2 = 1 ∧ s / 2 ^ x % 2 = 0)
def ledI (s : Int) (x : Nat) : Int := s / 2 + if x = 0 then 0 else 2 ^ (x - 1)
def Step (m : Nat) (s t : Int) : Prop := ∃ x : Nat, x ≤ m ∧ letsI s x ∧ t = ledI s x
def pc (z : Int) (n : Nat) : Int := ((List.range n).map fun k => bitI z k).sum
/-- the bits of what a throw leads to -/
def ledB (s : Int) (x : Nat) (k : Nat) : Int := bitI s (k + 1) + if k + 1 = x then 1 else 0
end TB

namespace TB
/-- from P by undoing crossings at the places, one by one, to Q -/
inductive Und : List Int → List Nat → List Int → Prop
  | nil (P : List Int) : Und P [] P
  | snoc {P Q : List Int} {pl : List Nat} {k : Nat} (u : Und P pl Q) (hk : k < Q.length) (h : Q.getD k 0 > Q.getD (nextN Q.length k) 0 + 1) : Und P (pl ++ [k]) (swapL Q k (k + 1))
/-- by the places' swaps, each of them a crossing more -/
inductive Wk : List Int → List Nat → List Int → Prop
  | nil (P : List Int) : Wk P [] P
  | cons {R P : List Int} {ps : List Nat} {k : Nat} (hk : k < R.length) (h2 : 2 ≤ R.length) (h : ¬ R.getD k 0 > R.getD (nextN R.length k) 0 + 1) (w : Wk (swapL R k (k + 1)) ps P) : Wk R (k :: ps) P
end TB

namespace TB
abbrev Stp := Int × Int
/-- the steps begin at s and lead to x -/
def leads (L : Int → Int → Int) : Int → List Stp → Int → Prop
  | s, [], x => s = x
  | s, p :: w, x => p.1 = s ∧ leads L (L p.1 p.2) w x
theorem leads_append {L : Int → Int → Int} : ∀ {s x y : Int} {u v : List Stp}, leads L s u x → leads L x v y → leads L s (u ++ v) y
  | _, _, _, [], _, h, h' => by cases h; exact h'
  | _, _, _, _ :: _, _, h, h' => ⟨h.1, leads_append h.2 h'⟩
theorem leads_split {L : Int → Int → Int} : ∀ {s y : Int} {u v : List Stp}, leads L s (u ++ v) y → ∃ x, leads L s u x ∧ leads L x v y
  | s, _, [], _, h => ⟨s, rfl, h⟩
  | _, _, _ :: _, _, h => by
    obtain ⟨x, a, b⟩ := leads_split h.2
    exact ⟨x, ⟨h.1, a⟩, b⟩
theorem leads_one {L : Int → Int → Int} {s t : Int} : leads L s [(s, t)] (L s t) := ⟨rfl, rfl⟩
/-- a least loop -/
structure Loop (L : Int → Int → Int) (w : List Stp) : Prop where
  ne : w ≠ []
  nd : (w.map Prod.fst).Nodup
  cl : ∃ c, leads L c w c
/-- cut so far -/
structure Cut (L : Int → Int → Int) (s0 x : Int) (done : List Stp) (loops : List (List Stp)) (w : List Stp) : Prop where
  ok : ∀ l ∈ loops, Loop L l
  nd : (w.map Prod.fst).Nodup
  ld : leads L s0 w x
  pm : (loops.flatten ++ w).Perm done
theorem Cut.nil (L : Int → Int → Int) (s0 : Int) : Cut L s0 s0 [] [] [] := ⟨fun _ h => (List.not_mem_nil h).elim, List.nodup_nil, rfl, .refl _⟩
theorem Cut.push {L : Int → Int → Int} {s0 x t : Int} {done : List Stp} {loops : List (List Stp)} {w : List Stp} (c : Cut L s0 x done loops w) (h : x ∉ w.map Prod.fst) : Cut L s0 (L x t) (done ++ [(x, t)]) loops (w ++ [(x, t)]) := by
  refine ⟨c.ok, ?_, leads_append c.ld leads_one, ?_⟩
  · rw [List.map_append, List.nodup_append]
    refine ⟨c.nd, by simp, fun a ha b hb => ?_⟩
    simp at hb
    rw [hb]
    exact fun e => h (e ▸ ha)
  · rw [← List.append_assoc]
    exact c.pm.append_right _
theorem Cut.cut {L : Int → Int → Int} {s0 x : Int} {done : List Stp} {loops : List (List Stp)} {w : List Stp} {i : Nat} (c : Cut L s0 x done loops w) (h : (w.map Prod.fst)[i]? = some x) (hf : ∀ j, j < i → (w.map Prod.fst)[j]? ≠ some x) :
    Cut L s0 x done (loops ++ [w.drop i]) (w.take i) ∧ x ∉ (w.take i).map Prod.fst ∧ Loop L (w.drop i) ∧ leads L x (w.drop i) x := by
  have e : w = w.take i ++ w.drop i := (List.take_append_drop i w).symm
  have ld := c.ld
  rw [e] at ld
  obtain ⟨y, l1, l2⟩ := leads_split ld
  have hi : i < w.length := by
    have := (List.getElem?_eq_some_iff.mp h).1
    simpa using this
  have hd : w.drop i = w[i] :: w.drop (i + 1) := List.drop_eq_getElem_cons hi
  have hx : (w[i]).1 = x := by
    rw [List.getElem?_map, List.getElem?_eq_getElem hi] at h
    exact Option.some.inj h
  have hy : y = x := by
    rw [hd] at l2
    exact l2.1.symm.trans hx
  subst hy
  have nd := c.nd
  rw [e, List.map_append, List.nodup_append] at nd
  have lp : Loop L (w.drop i) := ⟨by rw [hd]; exact List.cons_ne_nil _ _, nd.2.1, y, l2⟩
  refine ⟨⟨fun l hl => ?_, nd.1, l1, ?_⟩, fun hm => ?_, lp, l2⟩
  · rcases List.mem_append.mp hl with z | z
    · exact c.ok l z
    · rw [List.mem_singleton.mp z]; exact lp
  · rw [List.flatten_append]
    simp only [List.flatten_cons, List.flatten_nil, List.append_nil]
    refine List.Perm.trans ?_ c.pm
    conv => rhs; rw [e]
    rw [List.append_assoc]
    exact List.Perm.append_left _ List.perm_append_comm
  · obtain ⟨j, hj⟩ := List.mem_iff_getElem?.mp hm
    have hjl := (List.getElem?_eq_some_iff.mp hj).1
    rw [List.length_map, List.length_take] at hjl
    refine hf j (by omega) ?_
    rw [List.map_take, List.getElem?_take_of_lt (by omega)] at hj
    exact hj
theorem Cut.last {L : Int → Int → Int} {s0 : Int} {done : List Stp} {loops : List (List Stp)} {w : List Stp} (c : Cut L s0 s0 done loops w) (h : w ≠ []) : (∀ l ∈ loops ++ [w], Loop L l) ∧ (loops ++ [w]).flatten.Perm done := by
  refine ⟨fun l hl => ?_, ?_⟩
  · rcases List.mem_append.mp hl with z | z
    · exact c.ok l z
    · rw [List.mem_singleton.mp z]; exact ⟨h, c.nd, s0, c.ld⟩
  · rw [List.flatten_append]
    simp only [List.flatten_cons, List.flatten_nil, List.append_nil]
    exact c.pm
end TB

namespace TB
theorem replicate_getD {n : Nat} {b : Int} {i : Nat} (h : i < n) : (List.replicate n b).getD i 0 = b := by
  rw [List.getD_eq_getElem?_getD, List.getElem?_replicate, if_pos h]
  rfl
theorem even_pat {n : Nat} {b : Int} (lo : 1 ≤ n) (hi : n ≤ 60) (hb : -1000000 ≤ b ∧ b ≤ 1000000) : Pat (List.replicate n b) := by
  refine ⟨⟨by simpa using lo, by simpa using hi, fun x hx => by rw [List.eq_of_mem_replicate hx]; exact hb⟩, fun i j h1 h2 e => ?_⟩
  rw [List.length_replicate] at h1 h2
  unfold land at e
  rw [List.length_replicate, replicate_getD h1, replicate_getD h2] at e
  have := emod_shift e
  rw [Int.emod_eq_of_lt (by omega) (by omega), Int.emod_eq_of_lt (by omega) (by omega)] at this
  omega
end TB

namespace TB
abbrev repL (m : Nat) (T : List Int) : List Int := (List.replicate m T).flatten
theorem repL_len (m : Nat) (T : List Int) : (repL m T).length = m * T.length := by simp [repL]
theorem repL_succ (m : Nat) (T : List Int) : repL (m + 1) T = T ++ repL m T := by simp [repL, List.replicate_succ]
theorem repL_at : ∀ {m : Nat} {T : List Int} {i : Nat}, i < m * T.length → (repL m T).getD i 0 = T.getD (i % T.length) 0
  | 0, _, _, h => by omega
  | m + 1, T, i, h => by
    rw [repL_succ]
    by_cases c : i < T.length
    · rw [Nat.mod_eq_of_lt c, List.getD_eq_getElem?_getD, List.getElem?_append_left c, List.getD_eq_getElem?_getD]
    · have h2 : i - T.length < m * T.length := by rw [Nat.succ_mul] at h; omega
      have := repL_at h2
      rw [List.getD_eq_getElem?_getD, List.getElem?_append_right (by omega), ← List.getD_eq_getElem?_getD, this, Nat.mod_eq_sub_mod (by omega : T.length ≤ i)]
theorem repL_take : ∀ (r k : Nat) (T : List Int), (repL r T).take (k * T.length) = repL (min r k) T
  | 0, k, T => by simp [repL]
  | r + 1, 0, T => by simp [repL]
  | r + 1, k + 1, T => by
    rw [repL_succ, Nat.succ_mul, Nat.add_comm (k * T.length), List.take_length_add_append, repL_take r k T, ← repL_succ]
    congr 1
    omega
theorem repL_plain {T : List Int} (p : Plain T) {m : Nat} (lo : 1 ≤ m) (hi : m * T.length ≤ 60) : Plain (repL m T) := by
  have l1 := p.lo
  have bd : ∀ x ∈ repL m T, 0 ≤ x ∧ x ≤ 60 := fun x hx => by
    simp only [repL, List.mem_flatten, List.mem_replicate] at hx
    obtain ⟨l, ⟨_, rfl⟩, hx⟩ := hx
    exact p.pl x hx
  have lm : 1 ≤ m * T.length := Nat.mul_pos lo l1
  refine ⟨⟨⟨by rw [repL_len]; exact lm, by rw [repL_len]; exact hi, fun x hx => by have := bd x hx; omega⟩, fun i j h1 h2 e => ?_⟩, bd⟩
  rw [repL_len] at h1 h2
  unfold land at e
  rw [repL_len, repL_at h1, repL_at h2] at e
  have n0 : (T.length : Int) ≠ 0 := by omega
  have key : ∀ a b : Int, a % ((m * T.length : Nat) : Int) = b % ((m * T.length : Nat) : Int) → a % (T.length : Int) = b % (T.length : Int) := fun a b h => by
    have d : (T.length : Int) ∣ ((m * T.length : Nat) : Int) := ⟨m, by push_cast; rw [Int.mul_comm]⟩
    rw [← Int.emod_emod_of_dvd a d, h, Int.emod_emod_of_dvd b d]
  have e2 := key _ _ e
  have lz : ∀ i : Nat, land T (i % T.length) = ((i : Int) + T.getD (i % T.length) 0) % (T.length : Int) := fun i => by
    unfold land
    have := nat_mod_cast i T.length
    rw [this, show (i : Int) - (T.length : Int) * ((i / T.length : Nat) : Int) + T.getD (i % T.length) 0 = (i : Int) + T.getD (i % T.length) 0 + (T.length : Int) * (-((i / T.length : Nat) : Int)) by rw [Int.mul_neg]; omega, Int.add_mul_emod_self_left]
  have e3 : i % T.length = j % T.length := p.inj _ _ (Nat.mod_lt _ l1) (Nat.mod_lt _ l1) (by rw [lz, lz]; exact e2)
  rw [e3] at e
  have e4 := emod_shift e
  rw [Int.emod_eq_of_lt (by omega) (by omega), Int.emod_eq_of_lt (by omega) (by omega)] at e4
  omega
/-- the code of a pair -/
def code (p : Int × Int) : Int := p.1 * 64 + p.2
theorem sorted_eq : ∀ {l m : List Int}, l.Perm m → l.Pairwise (· ≤ ·) → m.Pairwise (· ≤ ·) → l = m := fun h a b =>
  h.eq_of_pairwise (le := (· ≤ ·)) (fun _ _ _ _ x y => Int.le_antisymm x y) a b
end TB

namespace TB
def Pre (m : Nat) (s t : Int) : Prop := 0 ≤ s ∧ s < 2 ^ m ∧ Step m s t
/-- told so far: each state and how far it is; of those of D the states ahead are told -/
structure Bfs (m : Nat) (t0 : Int) (F : List Stp) (D : Int → Prop) : Prop where
  nd : (F.map Prod.fst).Nodup
  st : ∀ p ∈ F, 0 ≤ p.1 ∧ p.1 < 2 ^ m ∧ pc p.1 m = pc t0 m ∧ 0 ≤ p.2
  zero : (t0, 0) ∈ F
  one0 : ∀ p ∈ F, p.2 = 0 → p.1 = t0
  back : ∀ p ∈ F, 0 < p.2 → ∃ x : Nat, x ≤ m ∧ letsI p.1 x ∧ (ledI p.1 x, p.2 - 1) ∈ F
  cl : ∀ t d, (t, d) ∈ F → D t → ∀ s, Pre m s t → ∃ e, (s, e) ∈ F ∧ e ≤ d + 1
/-- all told -/
structure Dist (m : Nat) (t0 : Int) (F : List Stp) : Prop where
  nd : (F.map Prod.fst).Nodup
  all : ∀ s, s ∈ F.map Prod.fst ↔ 0 ≤ s ∧ s < 2 ^ m ∧ pc s m = pc t0 m
  pos : ∀ p ∈ F, 0 ≤ p.2
  zero : (t0, 0) ∈ F
  one0 : ∀ p ∈ F, p.2 = 0 → p.1 = t0
  back : ∀ p ∈ F, 0 < p.2 → ∃ x : Nat, x ≤ m ∧ letsI p.1 x ∧ (ledI p.1 x, p.2 - 1) ∈ F
  cl : ∀ t d, (t, d) ∈ F → ∀ s, Pre m s t → ∃ e, (s, e) ∈ F ∧ e ≤ d + 1
end TB

namespace TB
end TB

set_option maxHeartbeats 4000000
namespace Tb
open PySem L2 TB
local macro_rules | `(tactic| walk_at "rd") => `(tactic| try simp only [tSeq, tNext, tIfS, tRet, tRetN, tDrop, tAsg, gName, gNil, gCons, gSub, gTup, tVar, tC, tOp, tUn, rI, rI0, rU, rEq, rNe, tTest, tB, tChain, tChain3, rSortedB, rSortedP, rSortedD, rListD, rDictP, iDict, tThaw, rDClear, tDisp, tPairs, kit_dict_dict, rIndex, rIsX, rIsXT, rIsXd, rIsXV, rIsXTd, rIsO, rIxS2, rSlS, rFind, rIndexT, rLenT, rStrT, rIntT, rAddT, rMulT, rInT, iTxt, tx_str, tTxts, kit_str_str, rIn, tListRev, tAug, ipI, tAnd, tOr, tNot, tAndV, tOrV, tNotV, tIf, tIsN, tNotN, tCB, tNil, tCons, tTup, tLst, tTupG, tLstG, tCall, tRaise, tTryC, tXF, sXF, tRaiseI, tTryA, tTryE, thC, thA, thNil, Ends.less, tFor_eq, tComp_eq, iList, iTup, iRng1, iRng2, iEnum, iZip, tNoIf, rIxL, rIxT, rSetL, tBM, tBM0, rAppend, tFld, sFld, tMake, tMakeN, tMethD, tTryM, tNever, rExtend, rGeL, rInS, rClear, tDNewK, tDIn, tDNotIn, tDGet, sDPut, rEqL, rEqS, rBest, rRep, rCat, tSl, tPart, tNoPart, rSlL, capt, CDiv, scal_ii, scal_bb, scal_ss, scal_nn, scal_in, scal_ni, List.map_cons, List.map_nil, List.append_nil, List.nil_append, List.cons_append, List.length_cons, List.length_nil, List.length_map, Int.zero_add, List.getElem?_cons_zero, List.getElem?_cons_succ, List.set_cons_zero, List.set_cons_succ, Option.some.injEq, Option.join_some, Option.bind_some, Option.bind_none, V.int.injEq, V.bl.injEq, V.ref.injEq, V.str.injEq, V.ty.injEq, List.cons.injEq, and_true, true_and, exists_and_left, exists_eq_left', exists_eq_left, exists_eq_right, exists_eq_right', exists_eq, exists_eq', exists_const, eq_self, decide_true, decide_false, Option.isSome_none, Option.isSome_some, Bool.false_eq_true, Bool.not_true, Bool.not_false, reduceIte, reduceCtorEq, false_and, and_false, or_false, false_or, start_def, cxOf_K, cxComp_K, and_assoc, tyOf_int, kit_int_int, kit_int_bool, kit_list_list, rep0, rep1, rep2, rep3, rep4, rep5, rep6, rep7, rep8, rep9, rep10, rep11, rep12, rLen, rIsi, rListOf, rTupOf, rSum, rAll, rAny, rSorted, kit_tuple_tuple, Nat.sub_self, Nat.reduceAdd, Nat.reduceSub, Nat.reduceEqDiff])

def top (i : Nat) : Stmt := PySem.Challenge.pw_tossbook_k11_whole_parted.main.body.getD i (.Pass ⟨0, 0, 0, 0⟩)
/-- within the bounds of a throw -/
def inB (i : Int) : Prop := -1000000 ≤ i ∧ i ≤ 1000000
theorem inB_dec (i : Int) : (decide (-1000000 ≤ i) && decide (i ≤ 1000000)) = true ↔ inB i := by
  unfold inB
  simp
theorem ints_at {ns : List Int} {i : Nat} {x : V} (h : (ns.map V.int)[i]? = some x) : i < ns.length ∧ x = .int (ns.getD i 0) := by
  rw [List.getElem?_map] at h
  cases e : ns[i]? with
  | none => rw [e] at h; cases h
  | some z =>
    rw [e] at h
    have hi := (List.getElem?_eq_some_iff.mp e).1
    refine ⟨hi, ?_⟩
    rw [getD_some hi] at e
    cases e
    exact (Option.some.inj h).symm
theorem same_upd {H : Hp} {a : Addr} {o : HO} (h : H a = none) : Same H (upd H a o) := fun b u e => by
  rw [upd_ne (ne_of_none e h)]
  exact e
section
variable {P : Program} {w : World} {K : PySem.W.Frag} {mg : Str → Option Value} {base : Heap}

abbrev s_is_whole : Stmt := top 9
theorem sc_is_whole : FnScope ["value"] ["value"] (defScope s_is_whole) := ⟨rfl, rfl, rfl, by decide +kernel, rfl, by decide +kernel, by decide +kernel⟩
def spIsInt : Sp := fun vs H Q _ => ∃ i : Int, vs = [.int i] ∧ Q (.bl true) H
theorem ok_is_whole {f : Addr} {fd : FuncData} (h : Has K mg "is_whole" s_is_whole ["value"] f fd) (B : Blt mg) : Ok P w K mg base "is_whole" ["value"] 1 spIsInt := by
  refine h.ok sc_is_whole (fun vs H Q E h => ?_) (fun cdv A outer s H vs Q E hr h => ?_)
  · obtain ⟨i, rfl, _⟩ := h
    rfl
  · obtain ⟨i, rfl, q⟩ := h
    refine ⟨_, (pss_one (ps_ret (pe_and (pe_callB (call_isinstK (K := K) rfl) rfl B.isinstance_ bt_isinstance (pa_cons (pv 0) (pa_cons (pe_tyN B.int_ bt_int) pa_nil))) (pe_one (pe_not (pe_callB (call_isinstK (K := K) rfl) rfl B.isinstance_ bt_isinstance (pa_cons (pv 0) (pa_cons (pe_tyN B.bool_ bt_bool) pa_nil)))))))), ?_⟩
    walk_at "rd"
    exact q

abbrev s_is_between : Stmt := top 10
theorem sc_is_between : FnScope ["value", "least", "most"] ["value", "least", "most"] (defScope s_is_between) := ⟨rfl, rfl, rfl, by decide +kernel, rfl, by decide +kernel, by decide +kernel⟩
def spIsWhole : Sp := fun vs H Q _ => ∃ i a b : Int, vs = [.int i, .int a, .int b] ∧ Q (.bl (decide (a ≤ i) && decide (i ≤ b))) H
theorem ok_is_between {f : Addr} {fd : FuncData} (h : Has K mg "is_between" s_is_between ["value", "least", "most"] f fd) (o_is_whole : Ok P w K mg base "is_whole" ["value"] 1 spIsInt) : Ok P w K mg base "is_between" ["value", "least", "most"] 2 spIsWhole := by
  refine h.ok sc_is_between (fun vs H Q E h => ?_) (fun cdv A outer s H vs Q E hr h => ?_)
  · obtain ⟨i, a, b, rfl, _⟩ := h
    rfl
  · obtain ⟨i, a, b, rfl, q⟩ := h
    refine ⟨_, (pss_one (ps_ret (pe_and (pe_callO o_is_whole (hr.mono (by decide)) rfl passX (pa_cons (pv 0) pa_nil)) (pe_one (pe_chain op_le op_le (pv 1) (pv 0) (pv 2)))))), ?_⟩
    walk_at "rd"
    refine ⟨i, rfl, ?_⟩
    walk_at "rd"
    by_cases h1 : a ≤ i
    · simpa [h1] using q
    · simpa [h1] using q

abbrev s_is_throw : Stmt := top 11
theorem sc_is_throw : FnScope ["value"] ["value"] (defScope s_is_throw) := ⟨rfl, rfl, rfl, by decide +kernel, rfl, by decide +kernel, by decide +kernel⟩
def spIsThrow : Sp := fun vs H Q _ => ∃ i : Int, vs = [.int i] ∧ Q (.bl (decide (-1000000 ≤ i) && decide (i ≤ 1000000))) H
theorem ok_is_throw {f : Addr} {fd : FuncData} (h : Has K mg "is_throw" s_is_throw ["value"] f fd) (g_FARTHEST_THROW : GInt mg "FARTHEST_THROW" 1000000) (o_is_between : Ok P w K mg base "is_between" ["value", "least", "most"] 2 spIsWhole) : Ok P w K mg base "is_throw" ["value"] 3 spIsThrow := by
  refine h.ok sc_is_throw (fun vs H Q E h => ?_) (fun cdv A outer s H vs Q E hr h => ?_)
  · obtain ⟨i, rfl, _⟩ := h
    rfl
  · obtain ⟨i, rfl, q⟩ := h
    refine ⟨_, (pss_one (ps_ret (pe_callO o_is_between (hr.mono (by decide)) rfl passX (pa_cons (pv 0) (pa_cons (pe_un un_neg (pe_gi g_FARTHEST_THROW)) (pa_cons (pe_gi g_FARTHEST_THROW) pa_nil)))))), ?_⟩
    walk_at "rd"
    exact ⟨_, _, _, rfl, q⟩

abbrev s_check_row : Stmt := top 12
theorem sc_check_row : FnScope ["row"] ["row"] (defScope s_check_row) := ⟨rfl, rfl, rfl, by decide +kernel, rfl, by decide +kernel, by decide +kernel⟩
def spCheckRow : Sp := fun vs H Q _ => ∃ (a : Addr) (ns : List Int), vs = [.ref a] ∧ H a = some (.lst (ns.map V.int)) ∧ Row ns ∧ ∀ H', Same H H' → Q .non H'
theorem ok_check_row {f : Addr} {fd : FuncData} {NAR : Addr} (h : Has K mg "check_row" s_check_row ["row"] f fd) (B : Blt mg) (g_LONGEST_ROW : GInt mg "LONGEST_ROW" 60) (x_NotARow : ExcCls K NAR) (m_NotARow : mg "NotARow" = some (.ref NAR)) (o_is_throw : Ok P w K mg base "is_throw" ["value"] 3 spIsThrow) : Ok P w K mg base "check_row" ["row"] 4 spCheckRow := by
  refine h.ok sc_check_row (fun vs H Q E h => ?_) (fun cdv A outer s H vs Q E hr h => ?_)
  · obtain ⟨a, ns, rfl, _⟩ := h
    rfl
  · obtain ⟨a, ns, rfl, ha, R, q⟩ := h
    refine ⟨_, (pss_cons (ps_if (pt_not (pt_val (pe_callB (call_isinstK (K := K) rfl) rfl B.isinstance_ bt_isinstance (pa_cons (pv 0) (pa_cons (pe_tyN B.list_ bt_list) pa_nil))))) (pss_one (ps_raise isDef_cxOf x_NotARow rfl landX rfl m_NotARow (pa_cons pe_str pa_nil))) pss_nil)
      (pss_cons (ps_if (pt_not (pt_chain op_le op_le pe_int (pe_callB (call_len_seqK (K := K) rfl) rfl B.len_ bt_len (pa_cons (pv 0) pa_nil)) (pe_gi g_LONGEST_ROW))) (pss_one (ps_raise isDef_cxOf x_NotARow rfl landX rfl m_NotARow (pa_cons pe_str pa_nil))) pss_nil)
      (pss_one (ps_if (pt_not (pt_val (pe_callB (call_allLK (K := K) rfl rfl) rfl B.all_ bt_all (pa_cons (pe_comp (N' := ["throw"]) (π := [none]) (CompScope.of (by kernel_rfl)) rfl (pi_listK (K := K) rfl (pv 0)) (fun _ _ _ _ _ => (pg_name (i := 0) (show List.Nodup (["throw"] : List Str) by decide +kernel) rfl (by first | exact Or.inl rfl | exact Or.inr rfl))) (fun _ _ _ _ _ => pifs_nil) (fun _ _ _ _ _ => (pe_callO o_is_throw (hr.mono (by decide)) rfl passE0 (pa_cons (pv 0) pa_nil)))) pa_nil)))) (pss_one (ps_raise isDef_cxOf x_NotARow rfl landX rfl m_NotARow (pa_cons pe_str pa_nil))) pss_nil)))), ?_⟩
    walk_at "rd"
    have hl : (ns.map V.int).length = ns.length := List.length_map _
    have h1 : (1 : Int) ≤ ((ns.map V.int).length : Int) := by rw [hl]; have := R.lo; omega
    have h2 : ((ns.map V.int).length : Int) ≤ 60 := by rw [hl]; have := R.hi; omega
    refine ⟨_, .lst ha, _, kit_list_list, ?_⟩
    walk_at "rd"
    refine ⟨_, .inl (.of ha), ?_⟩
    rw [decide_eq_true h1, decide_eq_true h2]
    walk_at "rd"
    refine ⟨⟨_, .of ha⟩, comp_list (xs := ns.map V.int) (by omega) (fun i ys σ H' => i ≤ ns.length ∧ σ.length = 1 ∧ Same H H' ∧ ys = (List.replicate i true).map V.bl) ⟨Nat.zero_le _, rfl, Same.refl _, rfl⟩ (fun i ys σ H' p => ?_) (fun i ys σ H' _ p => .of (p.2.2.1 _ _ ha)) (fun i ys σ H' x hx p => ?_) (fun ys σ H' D p hD => ?_)⟩
    · rw [p.2.2.2]; simp
    · obtain ⟨hi, hσ, hs, rfl⟩ := p
      obtain ⟨o, rfl⟩ : ∃ o, σ = [o] := List.length_eq_one_iff.mp hσ
      obtain ⟨hlt, rfl⟩ := ints_at hx
      walk_at "rd"
      refine ⟨_, rfl, hlt, hs, ?_⟩
      rw [(inB_dec _).mpr (R.bd _ (TB.getD_mem hlt)), List.replicate_succ', List.map_append]
      rfl
    · obtain ⟨_, _, hs, rfl⟩ := p
      refine ⟨D, rfl, _, .of upd_same, ?_⟩
      rw [show (List.replicate (ns.map V.int).length true).all id = true by simp]
      walk_at "rd"
      exact q _ (hs.trans (same_upd hD))

/-- where the throws land -/
def lands (ns : List Int) : List Int := (List.range ns.length).map (land ns)
theorem lands_len (ns : List Int) : (lands ns).length = ns.length := by simp [lands]

abbrev s_landings : Stmt := top 14
theorem sc_landings : FnScope ["row"] ["row"] (defScope s_landings) := ⟨rfl, rfl, rfl, by decide +kernel, rfl, by decide +kernel, by decide +kernel⟩
def spLandings : Sp := fun vs H Q _ => ∃ (a : Addr) (ns : List Int), vs = [.ref a] ∧ H a = some (.lst (ns.map V.int)) ∧ 1 ≤ ns.length ∧ ns.length ≤ 60 ∧ ∀ H' D, Same H H' → H D = none → H' D = some (.lst ((lands ns).map V.int)) → Q (.ref D) H'
theorem ok_landings {f : Addr} {fd : FuncData} (h : Has K mg "landings" s_landings ["row"] f fd) (B : Blt mg) : Ok P w K mg base "landings" ["row"] 2 spLandings := by
  refine h.ok sc_landings (fun vs H Q E h => ?_) (fun cdv A outer s H vs Q E hr h => ?_)
  · obtain ⟨a, ns, rfl, _⟩ := h
    rfl
  · obtain ⟨a, ns, rfl, ha, lo, hi, q⟩ := h
    refine ⟨_, (pss_one (ps_ret (pe_comp (N' := ["beat", "throw", "row"]) (π := [none, none, some 0]) (CompScope.of (by kernel_rfl)) rfl (pi_enumK (K := K) rfl rfl B.enumerate_ (pa_cons (pv 0) pa_nil)) (fun _ _ _ _ _ => (pg_tupK (K := K) (n := 2) rfl rfl (pgs_cons (pg_name (i := 0) (show List.Nodup (["beat", "throw", "row"] : List Str) by decide +kernel) rfl (by first | exact Or.inl rfl | exact Or.inr rfl)) (pgs_cons (pg_name (i := 1) (show List.Nodup (["beat", "throw", "row"] : List Str) by decide +kernel) rfl (by first | exact Or.inl rfl | exact Or.inr rfl)) pgs_nil)))) (fun _ _ _ _ _ => pifs_nil) (fun _ _ _ _ _ => (pe_op op_mod (pe_op op_add (pv 0) (pv 1)) (pe_callB (call_len_seqK (K := K) rfl) rfl B.len_ bt_len (pa_cons (pv 2) pa_nil))))))), ?_⟩
    walk_at "rd"
    refine ⟨⟨_, .of ha⟩, comp_enum (xs := ns.map V.int) (by rw [List.length_map]; omega) (fun i ys σ H' => i ≤ ns.length ∧ (∃ o1 o2, σ = [o1, o2, some (V.ref a)]) ∧ Same H H' ∧ ys = ((List.range i).map (land ns)).map V.int) ⟨Nat.zero_le _, ⟨_, _, rfl⟩, Same.refl _, rfl⟩ (fun i ys σ H' p => ?_) (fun i ys σ H' _ p => .of (p.2.2.1 _ _ ha)) (fun i ys σ H' x T hx p hT => ?_) (fun ys σ H' D p hD => ?_)⟩
    · rw [p.2.2.2]; simp
    · obtain ⟨hi', ⟨o1, o2, rfl⟩, hs, rfl⟩ := p
      obtain ⟨hlt, rfl⟩ := ints_at hx
      have hs2 : Same H (upd H' T (.tup [.int i, .int (ns.getD i 0)])) := hs.trans (same_upd hT)
      walk_at "rd"
      refine ⟨_, .of upd_same, rfl, ?_⟩
      walk_at "rd"
      refine ⟨_, .inl (.of (hs2 _ _ ha)), ?_⟩
      walk_at "rd"
      refine ⟨by omega, hlt, hs2, ?_⟩
      rw [List.range_succ, List.map_append, List.map_append]
      rfl
    · obtain ⟨_, _, hs, rfl⟩ := p
      refine q _ D (hs.trans (same_upd hD)) (hs.free hD) ?_
      rw [upd_same, List.length_map]
      rfl

abbrev takenK (ns : List Int) (j : Nat) : List (Key × V) := (List.range j).map fun i => ((Sum.inl (land ns i) : Key), V.int i)
theorem taken_none {ns : List Int} {x : Int} : ∀ {j : Nat}, (∀ i, i < j → land ns i ≠ x) → valV (takenK ns j) (Sum.inl x : Key) = none := by
  intro j h
  unfold valV
  rw [Option.map_eq_none_iff, List.find?_eq_none]
  intro p hp
  obtain ⟨i, hi, rfl⟩ := List.mem_map.mp hp
  simp only [decide_eq_true_eq, Sum.inl.injEq]
  exact h i (List.mem_range.mp hi)
theorem taken_put {ns : List Int} {j : Nat} (h : ∀ i, i < j → land ns i ≠ land ns j) : putK (takenK ns j) (Sum.inl (land ns j) : Key) (V.int j) = takenK ns (j + 1) := by
  rw [putK_new _ (taken_none h)]
  unfold takenK
  rw [List.range_succ, List.map_append]
  rfl
theorem lands_at {ns : List Int} {i : Nat} {x : V} (h : ((lands ns).map V.int)[i]? = some x) : i < ns.length ∧ x = .int (land ns i) := by
  rw [List.getElem?_map] at h
  cases e : (lands ns)[i]? with
  | none => rw [e] at h; cases h
  | some z =>
    rw [e] at h
    have hi := (List.getElem?_eq_some_iff.mp e).1
    rw [lands_len] at hi
    refine ⟨hi, ?_⟩
    unfold lands at e
    rw [List.getElem?_map, List.getElem?_range hi] at e
    cases e
    exact (Option.some.inj h).symm

abbrev s_clash_of : Stmt := top 15
theorem sc_clash_of : FnScope ["row", "taken", "beat", "landing"] ["row"] (defScope s_clash_of) := ⟨rfl, rfl, rfl, by decide +kernel, rfl, by decide +kernel, by decide +kernel⟩
def spClashOf : Sp := fun vs H Q _ => ∃ (a : Addr) (ns : List Int), vs = [.ref a] ∧ H a = some (.lst (ns.map V.int)) ∧ Pat ns ∧ ∀ H', Same H H' → Q .non H'
theorem ok_clash_of {f : Addr} {fd : FuncData} (h : Has K mg "clash_of" s_clash_of ["row"] f fd) (B : Blt mg) (o_check_row : Ok P w K mg base "check_row" ["row"] 4 spCheckRow) (o_landings : Ok P w K mg base "landings" ["row"] 2 spLandings) : Ok P w K mg base "clash_of" ["row"] 5 spClashOf := by
  refine h.ok sc_clash_of (fun vs H Q E h => ?_) (fun cdv A outer s H vs Q E hr h => ?_)
  · obtain ⟨a, ns, rfl, _⟩ := h
    rfl
  · obtain ⟨a, ns, rfl, ha, p, q⟩ := h
    refine ⟨_, (pss_cons (ps_expr (pe_callO o_check_row (hr.mono (by decide)) rfl passX (pa_cons (pv 0) pa_nil)))
      (pss_cons (ps_set (i := 1) sc_clash_of.nd rfl (by first | exact Or.inl rfl | exact Or.inr rfl) pe_dnewK)
      (pss_cons (ps_for ownX rfl (pi_enumK (K := K) rfl rfl B.enumerate_ (pa_cons (pe_callO o_landings (hr.mono (by decide)) rfl passX (pa_cons (pv 0) pa_nil)) pa_nil)) (pg_tupK (K := K) (n := 2) rfl rfl (pgs_cons (pg_name (i := 2) sc_clash_of.nd rfl (by first | exact Or.inl rfl | exact Or.inr rfl)) (pgs_cons (pg_name (i := 3) sc_clash_of.nd rfl (by first | exact Or.inl rfl | exact Or.inr rfl)) pgs_nil))) (pss_cons (ps_if (pt_cmp (pc_din (hu_of hr) (pv 3) (pv 1))) (pss_one (ps_ret (pe_tup (pa_cons (pe_dget (hu_of hr) (pv 1) (pv 3) (fun _ _ => rfl)) (pa_cons (pv 2) pa_nil))))) pss_nil)
      (pss_one (ps_dput (hu_of hr) (pv 1) (pv 3) (pv 2) rfl))))
      (pss_one (ps_ret pe_non))))), ?_⟩
    walk_at "rd"
    refine ⟨a, ns, rfl, ha, p.toRow, fun H1 s1 d hd => ?_⟩
    have s2 : Same H (upd H1 d (.dK [])) := s1.trans (same_upd hd)
    refine ⟨a, ns, rfl, s2 _ _ ha, p.lo, p.hi, fun H3 D s3 hD hD3 => ?_⟩
    have hd3 : H3 d = some (.dK []) := s3 _ _ upd_same
    refine ⟨D, rfl, ⟨_, .of hD3⟩, for_enum (xs := (lands ns).map V.int) (fun i σ H' => i ≤ ns.length ∧ (∃ o1 o2, σ = [some (V.ref a), some (V.ref d), o1, o2]) ∧ Same H H' ∧ H' D = some (.lst ((lands ns).map V.int)) ∧ H' d = some (.dK (takenK ns i)))
      ⟨Nat.zero_le _, ⟨_, _, rfl⟩, s2.trans s3, hD3, hd3⟩ (fun i σ H' _ p => .of p.2.2.2.1) (fun i x σ H' T hx pv hT => ?_) (fun σ H' pv => ?_)⟩
    · obtain ⟨hi, ⟨o1, o2, rfl⟩, hs, hDD, hdd⟩ := pv
      obtain ⟨hlt, rfl⟩ := lands_at hx
      have hno : ∀ j, j < i → land ns j ≠ land ns i := fun j hj e => by
        have := p.inj j i (by omega) hlt e
        omega
      have hTd : d ≠ T := ne_of_none hdd hT
      have hTD : D ≠ T := ne_of_none hDD hT
      have hdD : D ≠ d := ne_of hDD hdd (by intro z; cases z)
      walk_at "rd"
      refine ⟨_, .of upd_same, rfl, ?_⟩
      walk_at "rd"
      refine ⟨none, ?_, ?_⟩
      · have g := DGet.k (k := (Sum.inl (land ns i) : Key)) (show (upd H' T (.tup [.int i, .int (land ns i)])) d = some (.dK (takenK ns i)) by rw [upd_ne hTd]; exact hdd)
        rw [taken_none hno] at g
        exact g
      walk_at "rd"
      refine ⟨_, DPut.k (k := (Sum.inl (land ns i) : Key)) (show (upd H' T (.tup [.int i, .int (land ns i)])) d = some (.dK (takenK ns i)) by rw [upd_ne hTd]; exact hdd) (small1000 (by simp [takenK]; have := p.hi; omega)), ?_⟩
      refine ⟨hlt, fun b o e => ?_, ?_, ?_⟩
      · have e' := hs b o e
        rw [upd_ne (fun z => by subst z; rw [s1.free hd] at e; cases e), upd_ne (ne_of_none e' hT)]
        exact e'
      · rw [upd_ne hdD, upd_ne hTD]; exact hDD
      · rw [upd_same, taken_put hno]
    · obtain ⟨hi, ⟨o1, o2, rfl⟩, hs, hDD, hdd⟩ := pv
      exact q _ hs
end
end Tb

namespace Tb
open PySem L2 TB
local macro_rules | `(tactic| walk_at "rd") => `(tactic| try simp only [tSeq, tNext, tIfS, tRet, tRetN, tDrop, tAsg, gName, gNil, gCons, gSub, gTup, tVar, tC, tOp, tUn, rI, rI0, rU, rEq, rNe, tTest, tB, tChain, tChain3, rSortedB, rSortedP, rSortedD, rListD, rDictP, iDict, tThaw, rDClear, tDisp, tPairs, kit_dict_dict, rIndex, rIsX, rIsXT, rIsXd, rIsXV, rIsXTd, rIsO, rIxS2, rSlS, rFind, rIndexT, rLenT, rStrT, rIntT, rAddT, rMulT, rInT, iTxt, tx_str, tTxts, kit_str_str, rIn, tListRev, tAug, ipI, tAnd, tOr, tNot, tAndV, tOrV, tNotV, tIf, tIsN, tNotN, tCB, tNil, tCons, tTup, tLst, tTupG, tLstG, tCall, tRaise, tTryC, tXF, sXF, tRaiseI, tTryA, tTryE, thC, thA, thNil, Ends.less, tFor_eq, tComp_eq, iList, iTup, iRng1, iRng2, iEnum, iZip, tNoIf, rIxL, rIxT, rSetL, tBM, tBM0, rAppend, tFld, sFld, tMake, tMakeN, tMethD, tTryM, tNever, rExtend, rGeL, rInS, rClear, tDNewK, tDIn, tDNotIn, tDGet, sDPut, rEqL, rEqS, rBest, rRep, rCat, tSl, tPart, tNoPart, rSlL, capt, CDiv, scal_ii, scal_bb, scal_ss, scal_nn, scal_in, scal_ni, List.map_cons, List.map_nil, List.append_nil, List.nil_append, List.cons_append, List.length_cons, List.length_nil, List.length_map, Int.zero_add, List.getElem?_cons_zero, List.getElem?_cons_succ, List.set_cons_zero, List.set_cons_succ, Option.some.injEq, Option.join_some, Option.bind_some, Option.bind_none, V.int.injEq, V.bl.injEq, V.ref.injEq, V.str.injEq, V.ty.injEq, List.cons.injEq, and_true, true_and, exists_and_left, exists_eq_left', exists_eq_left, exists_eq_right, exists_eq_right', exists_eq, exists_eq', exists_const, eq_self, decide_true, decide_false, Option.isSome_none, Option.isSome_some, Bool.false_eq_true, Bool.not_true, Bool.not_false, reduceIte, reduceCtorEq, false_and, and_false, or_false, false_or, start_def, cxOf_K, cxComp_K, and_assoc, tyOf_int, kit_int_int, kit_int_bool, kit_list_list, rep0, rep1, rep2, rep3, rep4, rep5, rep6, rep7, rep8, rep9, rep10, rep11, rep12, rLen, rIsi, rListOf, rTupOf, rSum, rAll, rAny, rSorted, kit_tuple_tuple, Nat.sub_self, Nat.reduceAdd, Nat.reduceSub, Nat.reduceEqDiff])

section
variable {P : Program} {w : World} {K : PySem.W.Frag} {mg : Str → Option Value} {base : Heap}

theorem atI_mod {ns : List Int} (lo : 1 ≤ ns.length) (z : Int) : atI (ns.map V.int) (z % (ns.length : Int)) = some (.int (ns.getD (z % (ns.length : Int)).toNat 0)) := by
  have h0 := Int.emod_nonneg z (show (ns.length : Int) ≠ 0 by omega)
  have h1 := Int.emod_lt_of_pos z (show (0 : Int) < ns.length by omega)
  obtain ⟨j, hj⟩ := Int.eq_ofNat_of_zero_le h0
  rw [hj] at h1 ⊢
  have hlt : j < ns.length := by omega
  refine atI_nat ?_
  rw [List.getElem?_map, getD_some hlt]
  rfl

abbrev s_check_pattern : Stmt := top 13
theorem sc_check_pattern : FnScope ["pattern", "pair"] ["pattern"] (defScope s_check_pattern) := ⟨rfl, rfl, rfl, by decide +kernel, rfl, by decide +kernel, by decide +kernel⟩
def spCheckPattern : Sp := fun vs H Q _ => ∃ (a : Addr) (ns : List Int), vs = [.ref a] ∧ H a = some (.lst (ns.map V.int)) ∧ Pat ns ∧ ∀ H', Same H H' → Q .non H'
theorem ok_check_pattern {f : Addr} {fd : FuncData} (h : Has K mg "check_pattern" s_check_pattern ["pattern"] f fd) (o_clash_of : Ok P w K mg base "clash_of" ["row"] 5 spClashOf) : Ok P w K mg base "check_pattern" ["pattern"] 6 spCheckPattern := by
  refine h.ok sc_check_pattern (fun vs H Q E h => ?_) (fun cdv A outer s H vs Q E hr h => ?_)
  · obtain ⟨a, ns, rfl, _⟩ := h
    rfl
  · obtain ⟨a, ns, rfl, ha, p, q⟩ := h
    refine ⟨_, (pss_cons (ps_set (i := 1) sc_check_pattern.nd rfl (by first | exact Or.inl rfl | exact Or.inr rfl) (pe_callO o_clash_of (hr.mono (by decide)) rfl passX (pa_cons (pv 0) pa_nil)))
      (pss_one (ps_if (pt_cmp (pc_notN (pv 1))) (pss_one ps_never) pss_nil))), ?_⟩
    walk_at "rd"
    refine ⟨a, ns, rfl, ha, p, fun H1 s1 => ?_⟩
    walk_at "rd"
    exact q _ s1

end
end Tb

namespace Tb
open PySem L2 TB
local macro_rules | `(tactic| walk_at "rd") => `(tactic| try simp only [tSeq, tNext, tIfS, tRet, tRetN, tDrop, tAsg, gName, gNil, gCons, gSub, gTup, tVar, tC, tOp, tUn, rI, rI0, rU, rEq, rNe, tTest, tB, tChain, tChain3, rSortedB, rSortedP, rSortedD, rListD, rDictP, iDict, tThaw, rDClear, tDisp, tPairs, kit_dict_dict, rIndex, rIsX, rIsXT, rIsXd, rIsXV, rIsXTd, rIsO, rIxS2, rSlS, rFind, rIndexT, rLenT, rStrT, rIntT, rAddT, rMulT, rInT, iTxt, tx_str, tTxts, kit_str_str, rIn, tListRev, tAug, ipI, tAnd, tOr, tNot, tAndV, tOrV, tNotV, tIf, tIsN, tNotN, tCB, tNil, tCons, tTup, tLst, tTupG, tLstG, tCall, tRaise, tTryC, tXF, sXF, tRaiseI, tTryA, tTryE, thC, thA, thNil, Ends.less, tFor_eq, tComp_eq, iList, iTup, iRng1, iRng2, iEnum, iZip, tNoIf, rIxL, rIxT, rSetL, tBM, tBM0, rAppend, tFld, sFld, tMake, tMakeN, tMethD, tTryM, tNever, rExtend, rGeL, rInS, rClear, tDNewK, tDIn, tDNotIn, tDGet, sDPut, rEqL, rEqS, rBest, rRep, rCat, tSl, tPart, tNoPart, rSlL, capt, CDiv, scal_ii, scal_bb, scal_ss, scal_nn, scal_in, scal_ni, List.map_cons, List.map_nil, List.append_nil, List.nil_append, List.cons_append, List.length_cons, List.length_nil, List.length_map, Int.zero_add, List.getElem?_cons_zero, List.getElem?_cons_succ, List.set_cons_zero, List.set_cons_succ, Option.some.injEq, Option.join_some, Option.bind_some, Option.bind_none, V.int.injEq, V.bl.injEq, V.ref.injEq, V.str.injEq, V.ty.injEq, List.cons.injEq, and_true, true_and, exists_and_left, exists_eq_left', exists_eq_left, exists_eq_right, exists_eq_right', exists_eq, exists_eq', exists_const, eq_self, decide_true, decide_false, Option.isSome_none, Option.isSome_some, Bool.false_eq_true, Bool.not_true, Bool.not_false, reduceIte, reduceCtorEq, false_and, and_false, or_false, false_or, start_def, cxOf_K, cxComp_K, and_assoc, tyOf_int, kit_int_int, kit_int_bool, kit_list_list, rep0, rep1, rep2, rep3, rep4, rep5, rep6, rep7, rep8, rep9, rep10, rep11, rep12, rLen, rIsi, rListOf, rTupOf, rSum, rAll, rAny, rSorted, kit_tuple_tuple, Nat.sub_self, Nat.reduceAdd, Nat.reduceSub, Nat.reduceEqDiff])

section
variable {P : Program} {w : World} {K : PySem.W.Frag} {mg : Str → Option Value} {base : Heap}

abbrev s__law_cell_at : Stmt := top 24
theorem sc__law_cell_at : FnScope ["_law_script", "_law_k"] ["_law_script", "_law_k"] (defScope s__law_cell_at) := ⟨rfl, rfl, rfl, by decide +kernel, rfl, by decide +kernel, by decide +kernel⟩
def spCellAt (K : PySem.W.Frag) : Sp := fun vs H Q _ => ∃ (a : Addr) (ns : List Int) (i : Nat), vs = [.ref a, .int i] ∧ SqL K H a (ns.map V.int) ∧ ∀ v : Int, Q (.int v) H
theorem ok_cell_at {f : Addr} {fd : FuncData} (h : Has K mg "_law_cell_at" s__law_cell_at ["_law_script", "_law_k"] f fd) (B : Blt mg) : Ok P w K mg base "_law_cell_at" ["_law_script", "_law_k"] 2 (spCellAt K) := by
  refine h.ok sc__law_cell_at (fun vs H Q E h => ?_) (fun cdv A outer s H vs Q E hr h => ?_)
  · obtain ⟨a, ns, i, rfl, _⟩ := h
    rfl
  · obtain ⟨a, ns, i, rfl, ha, q⟩ := h
    refine ⟨_, (pss_cons (ps_if (pt_cmpR op_lt (pv 1) (pe_callB (call_len_seqK (K := K) rfl) rfl B.len_ bt_len (pa_cons (pv 0) pa_nil)) (nomark _)) (pss_one (ps_ret (pe_ix (ix_listK (K := K) rfl) (pv 0) (pv 1) (fun _ _ => rfl)))) pss_nil)
      (pss_one (ps_ret pe_int))), ?_⟩
    walk_at "rd"
    refine ⟨_, .inl ha, ?_⟩
    walk_at "rd"
    refine ite2 (fun hi => ⟨_, ha, _, atI_nat (j := i) (v := .int (ns.getD i 0)) ?_, q _⟩) (fun _ => q 0)
    have hi' : i < ns.length := by simpa using hi
    rw [List.getElem?_map, getD_some hi']
    rfl

abbrev s__law_mixed : Stmt := top 25
theorem sc__law_mixed : FnScope ["_law_cell", "_law_k", "_law_found"] ["_law_cell", "_law_k"] (defScope s__law_mixed) := ⟨rfl, rfl, rfl, by decide +kernel, rfl, by decide +kernel, by decide +kernel⟩
def spMixed : Sp := fun vs H Q _ => ∃ c k : Int, vs = [.int c, .int k] ∧ ∀ v : Int, 0 ≤ v → v < 2147483629 → Q (.int v) H
theorem ok_mixed {f : Addr} {fd : FuncData} (h : Has K mg "_law_mixed" s__law_mixed ["_law_cell", "_law_k"] f fd) : Ok P w K mg base "_law_mixed" ["_law_cell", "_law_k"] 2 spMixed := by
  refine h.ok sc__law_mixed (fun vs H Q E h => ?_) (fun cdv A outer s H vs Q E hr h => ?_)
  · obtain ⟨c, k, rfl, _⟩ := h
    rfl
  · obtain ⟨c, k, rfl, q⟩ := h
    refine ⟨_, (pss_cons (ps_set (i := 2) sc__law_mixed.nd rfl (by first | exact Or.inl rfl | exact Or.inr rfl) (pe_op op_mod (pe_op op_mul (pe_op op_add (pe_op op_add (pv 0) (pe_op op_mul pe_int (pv 1))) pe_int) pe_int) pe_int))
      (pss_one (ps_ret (pe_op op_mod (pe_op op_mul (pv 2) (pv 2)) pe_int)))), ?_⟩
    walk_at "rd"
    refine ⟨.inl ⟨by decide, by decide⟩, .inr ⟨by decide, by decide⟩, by decide, ?_⟩
    have h1 := Int.emod_nonneg ((c + 977 * k + 31) * 48271) (show (2147483647 : Int) ≠ 0 by decide)
    have h2 := Int.emod_lt_of_pos ((c + 977 * k + 31) * 48271) (show (0 : Int) < 2147483647 by decide)
    refine ⟨.inl ⟨by omega, by omega⟩, by decide, q _ (Int.emod_nonneg _ (by decide)) (Int.emod_lt_of_pos _ (by decide))⟩

abbrev s__law_size_by : Stmt := top 26
theorem sc__law_size_by : FnScope ["_law_cell"] ["_law_cell"] (defScope s__law_size_by) := ⟨rfl, rfl, rfl, by decide +kernel, rfl, by decide +kernel, by decide +kernel⟩
def spSizeBy : Sp := fun vs H Q _ => ∃ c : Int, vs = [.int c] ∧ ∀ n : Nat, 1 ≤ n → n ≤ 60 → Q (.int n) H
theorem ok_size_by {f : Addr} {fd : FuncData} (h : Has K mg "_law_size_by" s__law_size_by ["_law_cell"] f fd) : Ok P w K mg base "_law_size_by" ["_law_cell"] 2 spSizeBy := by
  refine h.ok sc__law_size_by (fun vs H Q E h => ?_) (fun cdv A outer s H vs Q E hr h => ?_)
  · obtain ⟨c, rfl, _⟩ := h
    rfl
  · obtain ⟨c, rfl, q⟩ := h
    have key : ∀ z : Int, 1 ≤ z → z ≤ 60 → Q (.int z) H := fun z h1 h2 => by
      obtain ⟨n, rfl⟩ := Int.eq_ofNat_of_zero_le (show 0 ≤ z by omega)
      exact q n (by omega) (by omega)
    refine ⟨_, (pss_cons (ps_if (pt_cmpR op_eq (pe_op op_mod (pv 0) pe_int) pe_int (nomark _)) (pss_one (ps_ret (pe_op op_add pe_int (pe_op op_mod (pe_op op_fdiv (pv 0) pe_int) pe_int)))) pss_nil)
      (pss_one (ps_ret (pe_op op_add pe_int (pe_op op_mod (pe_op op_fdiv (pv 0) pe_int) pe_int))))), ?_⟩
    walk_at "rd"
    refine ⟨by decide, ite2 (fun _ => ⟨by decide, by decide, by decide, key _ ?_ ?_⟩) (fun _ => ⟨by decide, by decide, by decide, key _ ?_ ?_⟩)⟩ <;> omega

abbrev s__law_spots_by : Stmt := top 27
theorem sc__law_spots_by : FnScope ["_law_size", "_law_cell", "_law_spots", "_law_k", "_law_other", "_law_first"] ["_law_size", "_law_cell"] (defScope s__law_spots_by) := ⟨rfl, rfl, rfl, by decide +kernel, rfl, by decide +kernel, by decide +kernel⟩
def spSpotsBy : Sp := fun vs H Q _ => ∃ (n : Nat) (c : Int), vs = [.int n, .int c] ∧ 1 ≤ n ∧ n ≤ 60 ∧ ∀ H' D sp, Same H H' → H D = none → Spots n sp → H' D = some (.lst (sp.map V.int)) → Q (.ref D) H'
theorem at_ints {ns : List Int} {i : Nat} (h : i < ns.length) : atI (ns.map V.int) (i : Int) = some (.int (ns.getD i 0)) := by
  refine atI_nat ?_
  rw [List.getElem?_map, getD_some h]
  rfl
theorem ixN_nat {n i : Nat} (h : i < n) : ixN n (i : Int) = some i := by
  unfold ixN
  rw [if_pos (by omega), if_pos (by omega), Int.toNat_natCast]
theorem map_set_int (l : List Int) (i : Nat) (x : Int) : (l.map V.int).set i (.int x) = (l.set i x).map V.int := by rw [List.map_set]
theorem ok_spots_by {f : Addr} {fd : FuncData} (h : Has K mg "_law_spots_by" s__law_spots_by ["_law_size", "_law_cell"] f fd) (B : Blt mg) (o__law_mixed : Ok P w K mg base "_law_mixed" ["_law_cell", "_law_k"] 2 spMixed) : Ok P w K mg base "_law_spots_by" ["_law_size", "_law_cell"] 3 spSpotsBy := by
  refine h.ok sc__law_spots_by (fun vs H Q E h => ?_) (fun cdv A outer s H vs Q E hr h => ?_)
  · obtain ⟨n, c, rfl, _⟩ := h
    rfl
  · obtain ⟨n, c, rfl, lo, hi, q⟩ := h
    refine ⟨_, (pss_cons (ps_setC (i := 2) (N' := ["_law_k"]) (π := [none]) (CompScope.of (by kernel_rfl)) rfl sc__law_spots_by.nd rfl rfl (pi_range1 rfl B.range_ (pa_cons (pv 0) pa_nil)) (fun _ _ _ _ _ => (pg_name (i := 0) (show List.Nodup (["_law_k"] : List Str) by decide +kernel) rfl (by first | exact Or.inl rfl | exact Or.inr rfl))) (fun _ _ _ _ _ => pifs_nil) (fun _ _ _ _ _ => (pv 0)))
      (pss_cons (ps_for ownX rfl (pi_range1 rfl B.range_ (pa_cons (pv 0) pa_nil)) (pg_name (i := 3) sc__law_spots_by.nd rfl (by first | exact Or.inl rfl | exact Or.inr rfl)) (pss_cons (ps_set (i := 4) sc__law_spots_by.nd rfl (by first | exact Or.inl rfl | exact Or.inr rfl) (pe_op op_mod (pe_callO o__law_mixed (hr.mono (by decide)) rfl passX (pa_cons (pv 1) (pa_cons (pv 3) pa_nil))) (pv 0)))
      (pss_cons (ps_set (i := 5) sc__law_spots_by.nd rfl (by first | exact Or.inl rfl | exact Or.inr rfl) (pe_ix (ix_listK (K := K) rfl) (pv 2) (pv 3) (fun _ _ => rfl)))
      (pss_cons (ps_asg (pe_ix (ix_listK (K := K) rfl) (pv 2) (pv 4) (fun _ _ => rfl)) (pg_sub (pv 2) (pv 3) set_list))
      (pss_one (ps_asg (pv 5) (pg_sub (pv 2) (pv 4) set_list)))))))
      (pss_one (ps_ret (pv 2))))), ?_⟩
    walk_at "rd"
    refine ⟨by omega, by omega, ?_⟩
    rw [Int.toNat_natCast]
    refine comp_range (by omega) (fun i ys σ H' => i ≤ n ∧ (∃ o, σ = [o]) ∧ H' = H ∧ ys = ((List.range i).map fun j : Nat => (j : Int)).map V.int) ⟨Nat.zero_le _, ⟨_, rfl⟩, rfl, rfl⟩ (fun i ys σ H' p => ?_) (fun i ys σ H' hlt pv => ?_) (fun ys σ H' D pv hD => ?_)
    · rw [p.2.2.2]; simp
    · obtain ⟨hi', ⟨o, rfl⟩, rfl, rfl⟩ := pv
      walk_at "rd"
      refine ⟨hlt, ?_⟩
      rw [List.range_succ, List.map_append, List.map_append]
      simp
    · obtain ⟨_, _, rfl, rfl⟩ := pv
      walk_at "rd"
      refine ⟨by omega, by omega, for_range (fun i σ H2 => i ≤ n ∧ (∃ o1 o2 o3, σ = [some (V.int n), some (V.int c), some (V.ref D), o1, o2, o3]) ∧ ∃ sp, Spots n sp ∧ H2 = upd H' D (.lst (sp.map V.int))) ⟨Nat.zero_le _, ⟨_, _, _, rfl⟩, _, Spots.range n, rfl⟩ (fun i σ H2 hlt pv => ?_) (fun σ H2 pv => ?_)⟩
      · obtain ⟨_, ⟨o1, o2, o3, rfl⟩, sp, S, rfl⟩ := pv
        walk_at "rd"
        refine ⟨_, _, rfl, fun v h0 h1 => ?_⟩
        walk_at "rd"
        obtain ⟨m, hm⟩ := Int.eq_ofNat_of_zero_le (Int.emod_nonneg v (show (n : Int) ≠ 0 by omega))
        have hm2 := Int.emod_lt_of_pos v (show (0 : Int) < n by omega)
        rw [hm] at hm2 ⊢
        have hmn : m < n := by omega
        refine ⟨by omega, _, .of upd_same, _, at_ints (by rw [S.len]; exact hlt), _, .of upd_same, _, at_ints (by rw [S.len]; exact hmn), _, upd_same, i, ixN_nat (by rw [List.length_map, S.len]; exact hlt), ?_⟩
        walk_at "rd"
        refine ⟨_, upd_same, m, ixN_nat (by rw [List.length_set, List.length_map, S.len]; exact hmn), hlt, _, S.swap hlt hmn, ?_⟩
        rw [upd_upd, upd_upd, map_set_int, map_set_int]
      · obtain ⟨_, ⟨o1, o2, o3, rfl⟩, sp, S, rfl⟩ := pv
        walk_at "rd"
        exact q _ D sp (same_upd hD) hD S upd_same
end
end Tb

namespace Tb
open PySem L2 TB
local macro_rules | `(tactic| walk_at "rd") => `(tactic| try simp only [tSeq, tNext, tIfS, tRet, tRetN, tDrop, tAsg, gName, gNil, gCons, gSub, gTup, tVar, tC, tOp, tUn, rI, rI0, rU, rEq, rNe, tTest, tB, tChain, tChain3, rSortedB, rSortedP, rSortedD, rListD, rDictP, iDict, tThaw, rDClear, tDisp, tPairs, kit_dict_dict, rIndex, rIsX, rIsXT, rIsXd, rIsXV, rIsXTd, rIsO, rIxS2, rSlS, rFind, rIndexT, rLenT, rStrT, rIntT, rAddT, rMulT, rInT, iTxt, tx_str, tTxts, kit_str_str, rIn, tListRev, tAug, ipI, tAnd, tOr, tNot, tAndV, tOrV, tNotV, tIf, tIsN, tNotN, tCB, tNil, tCons, tTup, tLst, tTupG, tLstG, tCall, tRaise, tTryC, tXF, sXF, tRaiseI, tTryA, tTryE, thC, thA, thNil, Ends.less, tFor_eq, tComp_eq, iList, iTup, iRng1, iRng2, iEnum, iZip, tNoIf, rIxL, rIxT, rSetL, tBM, tBM0, rAppend, tFld, sFld, tMake, tMakeN, tMethD, tTryM, tNever, rExtend, rGeL, rInS, rClear, tDNewK, tDIn, tDNotIn, tDGet, sDPut, rEqL, rEqS, rBest, rRep, rCat, tSl, tPart, tNoPart, rSlL, capt, CDiv, scal_ii, scal_bb, scal_ss, scal_nn, scal_in, scal_ni, List.map_cons, List.map_nil, List.append_nil, List.nil_append, List.cons_append, List.length_cons, List.length_nil, List.length_map, Int.zero_add, List.getElem?_cons_zero, List.getElem?_cons_succ, List.set_cons_zero, List.set_cons_succ, Option.some.injEq, Option.join_some, Option.bind_some, Option.bind_none, V.int.injEq, V.bl.injEq, V.ref.injEq, V.str.injEq, V.ty.injEq, List.cons.injEq, and_true, true_and, exists_and_left, exists_eq_left', exists_eq_left, exists_eq_right, exists_eq_right', exists_eq, exists_eq', exists_const, eq_self, decide_true, decide_false, Option.isSome_none, Option.isSome_some, Bool.false_eq_true, Bool.not_true, Bool.not_false, reduceIte, reduceCtorEq, false_and, and_false, or_false, false_or, start_def, cxOf_K, cxComp_K, and_assoc, tyOf_int, kit_int_int, kit_int_bool, kit_list_list, rep0, rep1, rep2, rep3, rep4, rep5, rep6, rep7, rep8, rep9, rep10, rep11, rep12, rLen, rIsi, rListOf, rTupOf, rSum, rAll, rAny, rSorted, kit_tuple_tuple, Nat.sub_self, Nat.reduceAdd, Nat.reduceSub, Nat.reduceEqDiff])

section
variable {P : Program} {w : World} {K : PySem.W.Frag} {mg : Str → Option Value} {base : Heap}

abbrev s_led_to : Stmt := top 18
theorem sc_led_to : FnScope ["state", "throw", "nearer"] ["state", "throw"] (defScope s_led_to) := ⟨rfl, rfl, rfl, by decide +kernel, rfl, by decide +kernel, by decide +kernel⟩
def spLed : Sp := fun vs H Q _ => ∃ (s : Int) (x : Nat), vs = [.int s, .int x] ∧ x ≤ 100 ∧ Q (.int (ledI s x)) H
theorem ok_led_to {f : Addr} {fd : FuncData} (h : Has K mg "led_to" s_led_to ["state", "throw"] f fd) : Ok P w K mg base "led_to" ["state", "throw"] 2 spLed := by
  refine h.ok sc_led_to (fun vs H Q E h => ?_) (fun cdv A outer s H vs Q E hr h => ?_)
  · obtain ⟨s, x, rfl, _⟩ := h
    rfl
  · obtain ⟨z, x, rfl, hx, q⟩ := h
    refine ⟨_, (pss_cons (ps_set (i := 2) sc_led_to.nd rfl (by first | exact Or.inl rfl | exact Or.inr rfl) (pe_op op_shr (pv 0) pe_int))
      (pss_cons (ps_if (pt_cmpR op_eq (pv 1) pe_int (nomark _)) (pss_one (ps_ret (pv 2))) pss_nil)
      (pss_one (ps_ret (pe_op op_add (pv 2) (pe_op op_shl pe_int (pe_op op_sub (pv 1) pe_int))))))), ?_⟩
    walk_at "rd"
    refine ⟨by decide, ?_⟩
    unfold ledI at q
    rw [show z / 2 ^ Int.toNat 1 = z / 2 from rfl]
    by_cases h0 : x = 0
    · rw [if_pos h0] at q
      rw [decide_eq_true (show ((x : Nat) : Int) = 0 by omega)]
      simpa using q
    · rw [if_neg h0] at q
      rw [decide_eq_false (show ¬ ((x : Nat) : Int) = 0 by omega)]
      refine ⟨⟨by omega, by omega, by decide⟩, ?_⟩
      rw [show ((x : Nat) : Int) - 1 = ((x - 1 : Nat) : Int) by omega, Int.toNat_natCast, Int.one_mul]
      exact q

end
end Tb

namespace Tb
open PySem L2 TB
local macro_rules | `(tactic| walk_at "rd") => `(tactic| try simp only [tSeq, tNext, tIfS, tRet, tRetN, tDrop, tAsg, gName, gNil, gCons, gSub, gTup, tVar, tC, tOp, tUn, rI, rI0, rU, rEq, rNe, tTest, tB, tChain, tChain3, rSortedB, rSortedP, rSortedD, rListD, rDictP, iDict, tThaw, rDClear, tDisp, tPairs, kit_dict_dict, rIndex, rIsX, rIsXT, rIsXd, rIsXV, rIsXTd, rIsO, rIxS2, rSlS, rFind, rIndexT, rLenT, rStrT, rIntT, rAddT, rMulT, rInT, iTxt, tx_str, tTxts, kit_str_str, rIn, tListRev, tAug, ipI, tAnd, tOr, tNot, tAndV, tOrV, tNotV, tIf, tIsN, tNotN, tCB, tNil, tCons, tTup, tLst, tTupG, tLstG, tCall, tRaise, tTryC, tXF, sXF, tRaiseI, tTryA, tTryE, thC, thA, thNil, Ends.less, tFor_eq, tComp_eq, iList, iTup, iRng1, iRng2, iEnum, iZip, tNoIf, rIxL, rIxT, rSetL, tBM, tBM0, rAppend, tFld, sFld, tMake, tMakeN, tMethD, tTryM, tNever, rExtend, rGeL, rInS, rClear, tDNewK, tDIn, tDNotIn, tDGet, sDPut, rEqL, rEqS, rBest, rRep, rCat, tSl, tPart, tNoPart, rSlL, capt, CDiv, scal_ii, scal_bb, scal_ss, scal_nn, scal_in, scal_ni, List.map_cons, List.map_nil, List.append_nil, List.nil_append, List.cons_append, List.length_cons, List.length_nil, List.length_map, Int.zero_add, List.getElem?_cons_zero, List.getElem?_cons_succ, List.set_cons_zero, List.set_cons_succ, Option.some.injEq, Option.join_some, Option.bind_some, Option.bind_none, V.int.injEq, V.bl.injEq, V.ref.injEq, V.str.injEq, V.ty.injEq, List.cons.injEq, and_true, true_and, exists_and_left, exists_eq_left', exists_eq_left, exists_eq_right, exists_eq_right', exists_eq, exists_eq', exists_const, eq_self, decide_true, decide_false, Option.isSome_none, Option.isSome_some, Bool.false_eq_true, Bool.not_true, Bool.not_false, reduceIte, reduceCtorEq, false_and, and_false, or_false, false_or, start_def, cxOf_K, cxComp_K, and_assoc, tyOf_int, kit_int_int, kit_int_bool, kit_list_list, rep0, rep1, rep2, rep3, rep4, rep5, rep6, rep7, rep8, rep9, rep10, rep11, rep12, rLen, rIsi, rListOf, rTupOf, rSum, rAll, rAny, rSorted, kit_tuple_tuple, Nat.sub_self, Nat.reduceAdd, Nat.reduceSub, Nat.reduceEqDiff])

section
variable {P : Program} {w : World} {K : PySem.W.Frag} {mg : Str → Option Value} {base : Heap}
/-- refused as not plain, or as beyond the bounds; else -/
def PlainOr (ns : List Int) (np oob ok : Prop) : Prop := ((∃ x ∈ ns, x < 0) → np) ∧ ((∀ x ∈ ns, 0 ≤ x) → (∃ x ∈ ns, 60 < x) → oob) ∧ (Plain ns → ok)

abbrev s_check_plain : Stmt := top 19
theorem sc_check_plain : FnScope ["pattern"] ["pattern"] (defScope s_check_plain) := ⟨rfl, rfl, rfl, by decide +kernel, rfl, by decide +kernel, by decide +kernel⟩
def spCheckPlain (NP OOB : Addr) : Sp := fun vs H Q E => ∃ (a : Addr) (ns : List Int), vs = [.ref a] ∧ H a = some (.lst (ns.map V.int)) ∧ Pat ns ∧ PlainOr ns (∀ H', Same H H' → E (.ref NP) none H') (∀ H', Same H H' → E (.ref OOB) none H') (∀ H', Same H H' → Q .non H')
theorem ok_check_plain {f : Addr} {fd : FuncData} {NP OOB : Addr} (h : Has K mg "check_plain" s_check_plain ["pattern"] f fd) (B : Blt mg) (g_GREATEST_THROW : GInt mg "GREATEST_THROW" 60) (x_NotPlain : ExcCls K NP) (m_NotPlain : mg "NotPlain" = some (.ref NP)) (x_OutOfBounds : ExcCls K OOB) (m_OutOfBounds : mg "OutOfBounds" = some (.ref OOB)) (o_check_pattern : Ok P w K mg base "check_pattern" ["pattern"] 6 spCheckPattern) : Ok P w K mg base "check_plain" ["pattern"] 7 (spCheckPlain NP OOB) := by
  refine h.ok sc_check_plain (fun vs H Q E h => ?_) (fun cdv A outer s H vs Q E hr h => ?_)
  · obtain ⟨a, ns, rfl, _⟩ := h
    rfl
  · obtain ⟨a, ns, rfl, ha, p, q1, q2, q3⟩ := h
    have lo := p.lo
    refine ⟨_, (pss_cons (ps_expr (pe_callO o_check_pattern (hr.mono (by decide)) rfl passX (pa_cons (pv 0) pa_nil)))
      (pss_cons (ps_if (pt_cmpR op_lt (pe_callB (call_minLK (K := K) rfl rfl) rfl B.min_ bt_min (pa_cons (pv 0) pa_nil)) pe_int (nomark _)) (pss_one (ps_raise isDef_cxOf x_NotPlain rfl landX rfl m_NotPlain (pa_cons pe_str pa_nil))) pss_nil)
      (pss_one (ps_if (pt_cmpR op_gt (pe_callB (call_maxLK (K := K) rfl rfl) rfl B.max_ bt_max (pa_cons (pv 0) pa_nil)) (pe_gi g_GREATEST_THROW) (nomark _)) (pss_one (ps_raise isDef_cxOf x_OutOfBounds rfl landX rfl m_OutOfBounds (pa_cons pe_str pa_nil))) pss_nil)))), ?_⟩
    walk_at "rd"
    refine ⟨a, ns, rfl, ha, p, fun H1 s1 => ?_⟩
    have ha1 := s1 _ _ ha
    walk_at "rd"
    refine ⟨_, .of ha1, by omega, fun M hM hMin => ?_⟩
    walk_at "rd"
    by_cases hm : M < 0
    · rw [decide_eq_true hm]
      exact ⟨by decide, q1 ⟨M, hM, hm⟩ _ s1⟩
    rw [decide_eq_false hm]
    walk_at "rd"
    have pos : ∀ x ∈ ns, 0 ≤ x := fun x hx => by have := hMin x hx; omega
    refine ⟨_, .of ha1, by omega, fun M' hM' hMax => ?_⟩
    walk_at "rd"
    by_cases hx : 60 < M'
    · rw [decide_eq_true hx]
      exact ⟨by decide, q2 pos ⟨M', hM', hx⟩ _ s1⟩
    rw [decide_eq_false hx]
    walk_at "rd"
    exact q3 ⟨p, fun x hx' => ⟨pos x hx', by have := hMax x hx'; omega⟩⟩ _ s1

abbrev s_first_state : Stmt := top 20
theorem sc_first_state : FnScope ["pattern", "state", "ago", "throw"] ["pattern"] (defScope s_first_state) := ⟨rfl, rfl, rfl, by decide +kernel, rfl, by decide +kernel, by decide +kernel⟩
def spFirst : Sp := fun vs H Q _ => ∃ (a : Addr) (ns : List Int), vs = [.ref a] ∧ H a = some (.lst (ns.map V.int)) ∧ Plain ns ∧ Q (.int (S ns 0)) H
theorem ok_first_state {f : Addr} {fd : FuncData} (h : Has K mg "first_state" s_first_state ["pattern"] f fd) (B : Blt mg) (g_GREATEST_THROW : GInt mg "GREATEST_THROW" 60) : Ok P w K mg base "first_state" ["pattern"] 2 spFirst := by
  refine h.ok sc_first_state (fun vs H Q E h => ?_) (fun cdv A outer s H vs Q E hr h => ?_)
  · obtain ⟨a, ns, rfl, _⟩ := h
    rfl
  · obtain ⟨a, ns, rfl, ha, p, q⟩ := h
    have lo := p.lo
    have hi := p.hi
    refine ⟨_, (pss_cons (ps_set (i := 1) sc_first_state.nd rfl (by first | exact Or.inl rfl | exact Or.inr rfl) pe_int)
      (pss_cons (ps_for ownX rfl (pi_range2 rfl B.range_ (pa_cons pe_int (pa_cons (pe_op op_add (pe_gi g_GREATEST_THROW) pe_int) pa_nil))) (pg_name (i := 2) sc_first_state.nd rfl (by first | exact Or.inl rfl | exact Or.inr rfl)) (pss_cons (ps_set (i := 3) sc_first_state.nd rfl (by first | exact Or.inl rfl | exact Or.inr rfl) (pe_ix (ix_listK (K := K) rfl) (pv 0) (pe_op op_mod (pe_un un_neg (pv 2)) (pe_callB (call_len_seqK (K := K) rfl) rfl B.len_ bt_len (pa_cons (pv 0) pa_nil))) (fun _ _ => rfl)))
      (pss_one (ps_if (pt_cmpR op_ge (pv 3) (pv 2) (nomark _)) (pss_one (ps_aug (i := 1) sc_first_state.nd rfl (by first | exact Or.inl rfl | exact Or.inr rfl) (pe_op op_shl pe_int (pe_op op_sub (pv 3) (pv 2))) ip_add)) pss_nil))))
      (pss_one (ps_ret (pv 1))))), ?_⟩
    walk_at "rd"
    refine ⟨by decide, by decide, by decide, by decide, ?_⟩
    rw [show ((60 : Int) + 1 - 1).toNat = 60 from rfl]
    refine for_range (fun i σ H' => (∃ o1 o2, σ = [some (V.ref a), some (V.int ((List.range i).map fun ago : Nat => wth ns 0 ago).sum), o1, o2]) ∧ H' = H) ⟨⟨_, _, rfl⟩, rfl⟩ (fun i σ H' hlt pv => ?_) (fun σ H' pv => ?_)
    · obtain ⟨⟨o1, o2, rfl⟩, rfl⟩ := pv
      walk_at "rd"
      refine ⟨_, .inl (.of ha), ?_⟩
      walk_at "rd"
      refine ⟨by omega, _, .of ha, _, atI_mod lo _, ?_⟩
      walk_at "rd"
      have eF : F ns (0 - i - 1) = -(1 + (i : Int)) + ns.getD ((-(1 + (i : Int))) % (ns.length : Int)).toNat 0 := by
        unfold F
        rw [show (0 : Int) - i - 1 = -(1 + (i : Int)) by omega]
      have bd := p.F_bd (0 - i - 1)
      rw [sum_snoc]
      have ew : wth ns 0 i = if (0 : Int) ≤ F ns (0 - i - 1) then 2 ^ (F ns (0 - i - 1) - 0).toNat else 0 := rfl
      rw [ew]
      generalize ns.getD ((-(1 + (i : Int))) % (ns.length : Int)).toNat 0 = t at eF ⊢
      by_cases hc : 1 + (i : Int) ≤ t
      · rw [decide_eq_true hc, if_pos (show (0 : Int) ≤ F ns (0 - i - 1) by omega)]
        walk_at "rd"
        refine ⟨⟨by omega, by omega, by decide⟩, ?_⟩
        rw [Int.one_mul, show t - (1 + (i : Int)) = F ns (0 - i - 1) - 0 by omega]
      · rw [decide_eq_false hc, if_neg (show ¬ (0 : Int) ≤ F ns (0 - i - 1) by omega)]
        walk_at "rd"
        rw [Int.add_zero]
    · obtain ⟨⟨o1, o2, rfl⟩, rfl⟩ := pv
      walk_at "rd"
      rw [← p.S_wth]
      exact q

def stL (ns : List Int) : List Int := (List.range ns.length).map fun k : Nat => S ns k
theorem stL_len (ns : List Int) : (stL ns).length = ns.length := by simp [stL]
theorem plain_led {ns : List Int} (p : Plain ns) {i : Nat} (hi : i < ns.length) : ledI (S ns i) (ns.getD i 0).toNat = S ns ((i + 1 : Nat) : Int) := by
  have b := p.pl _ (TB.getD_mem hi)
  have e := p.S_next (i : Int)
  rw [F_nat hi] at e
  unfold ledI
  push_cast
  rw [e]
  by_cases h : ns.getD i 0 = 0
  · rw [if_pos (by omega), if_pos (by omega)]
  · rw [if_neg (by omega), if_neg (by omega)]
    congr 2
    omega

abbrev s_states_of : Stmt := top 21
theorem sc_states_of : FnScope ["pattern", "state", "answer", "throw"] ["pattern"] (defScope s_states_of) := ⟨rfl, rfl, rfl, by decide +kernel, rfl, by decide +kernel, by decide +kernel⟩
def spStatesOf (NP OOB : Addr) : Sp := fun vs H Q E => ∃ (a : Addr) (ns : List Int), vs = [.ref a] ∧ H a = some (.lst (ns.map V.int)) ∧ Pat ns ∧ PlainOr ns (∀ H', Same H H' → E (.ref NP) none H') (∀ H', Same H H' → E (.ref OOB) none H')
  (∀ H' D, Same H H' → H D = none → H' D = some (.lst ((stL ns).map V.int)) → Q (.ref D) H')
theorem ok_states_of {f : Addr} {fd : FuncData} {NP OOB : Addr} (h : Has K mg "states_of" s_states_of ["pattern"] f fd) (B : Blt mg) (o_check_plain : Ok P w K mg base "check_plain" ["pattern"] 7 (spCheckPlain NP OOB)) (o_first_state : Ok P w K mg base "first_state" ["pattern"] 2 spFirst) (o_led_to : Ok P w K mg base "led_to" ["state", "throw"] 2 spLed) : Ok P w K mg base "states_of" ["pattern"] 8 (spStatesOf NP OOB) := by
  refine h.ok sc_states_of (fun vs H Q E h => ?_) (fun cdv A outer s H vs Q E hr h => ?_)
  · obtain ⟨a, ns, rfl, _⟩ := h
    rfl
  · obtain ⟨a, ns, rfl, ha, p, q1, q2, q3⟩ := h
    have lo := p.lo
    have hi := p.hi
    refine ⟨_, (pss_cons (ps_expr (pe_callO o_check_plain (hr.mono (by decide)) rfl passX (pa_cons (pv 0) pa_nil)))
      (pss_cons (ps_set (i := 1) sc_states_of.nd rfl (by first | exact Or.inl rfl | exact Or.inr rfl) (pe_callO o_first_state (hr.mono (by decide)) rfl passX (pa_cons (pv 0) pa_nil)))
      (pss_cons (ps_set (i := 2) sc_states_of.nd rfl (by first | exact Or.inl rfl | exact Or.inr rfl) (pe_lst pa_nil))
      (pss_cons (ps_for ownX rfl (pi_listK (K := K) rfl (pv 0)) (pg_name (i := 3) sc_states_of.nd rfl (by first | exact Or.inl rfl | exact Or.inr rfl)) (pss_cons (ps_expr (pe_bmK (K := K) rfl PySem.F.plainAttrs_list PySem.F.slot_list_append PySem.F.type_list_append mt_append (pv 2) (pa_cons (pv 1) pa_nil)))
      (pss_one (ps_set (i := 1) sc_states_of.nd rfl (by first | exact Or.inl rfl | exact Or.inr rfl) (pe_callO o_led_to (hr.mono (by decide)) rfl passX (pa_cons (pv 1) (pa_cons (pv 3) pa_nil)))))))
      (pss_one (ps_ret (pv 2))))))), ?_⟩
    walk_at "rd"
    refine ⟨a, ns, rfl, ha, p, q1, q2, fun pl H1 s1 => ?_⟩
    have ha1 := s1 _ _ ha
    walk_at "rd"
    refine ⟨a, ns, rfl, ha1, pl, ?_⟩
    walk_at "rd"
    refine ⟨by decide, fun D hD => ?_⟩
    have haD : a ≠ D := ne_of_none ha1 hD
    refine ⟨⟨_, .of (same_upd hD _ _ ha1)⟩, for_list (xs := ns.map V.int) (fun i σ H' => i ≤ ns.length ∧ (∃ o, σ = [some (V.ref a), some (V.int (S ns i)), some (V.ref D), o]) ∧ H' = upd H1 D (.lst (((List.range i).map fun k : Nat => S ns k).map V.int))) ⟨Nat.zero_le _, ⟨_, rfl⟩, rfl⟩ (fun i σ H' _ p => by rw [p.2.2]; exact .of (by rw [upd_ne haD]; exact ha1)) (fun i x σ H' hx pv => ?_) (fun σ H' pv => ?_)⟩
    · obtain ⟨_, ⟨o, rfl⟩, rfl⟩ := pv
      obtain ⟨hlt, rfl⟩ := ints_at hx
      have b := pl.pl _ (TB.getD_mem hlt)
      walk_at "rd"
      refine ⟨.inl ⟨rfl, _, .of upd_same⟩, _, upd_same, small1000 (by simp; omega), ?_⟩
      rw [upd_upd]
      refine ⟨_, (ns.getD i 0).toNat, by rw [Int.toNat_of_nonneg b.1], by omega, ?_⟩
      rw [plain_led pl hlt]
      walk_at "rd"
      refine ⟨hlt, ?_⟩
      rw [List.range_succ, List.map_append, List.map_append]
      rfl
    · obtain ⟨_, ⟨o, rfl⟩, rfl⟩ := pv
      walk_at "rd"
      refine q3 pl _ D (s1.trans (same_upd hD)) (s1.free hD) ?_
      rw [upd_same]
      rfl
end
end Tb

namespace Tb
open PySem L2 TB
local macro_rules | `(tactic| walk_at "rd") => `(tactic| try simp only [tSeq, tNext, tIfS, tRet, tRetN, tDrop, tAsg, gName, gNil, gCons, gSub, gTup, tVar, tC, tOp, tUn, rI, rI0, rU, rEq, rNe, tTest, tB, tChain, tChain3, rSortedB, rSortedP, rSortedD, rListD, rDictP, iDict, tThaw, rDClear, tDisp, tPairs, kit_dict_dict, rIndex, rIsX, rIsXT, rIsXd, rIsXV, rIsXTd, rIsO, rIxS2, rSlS, rFind, rIndexT, rLenT, rStrT, rIntT, rAddT, rMulT, rInT, iTxt, tx_str, tTxts, kit_str_str, rIn, tListRev, tAug, ipI, tAnd, tOr, tNot, tAndV, tOrV, tNotV, tIf, tIsN, tNotN, tCB, tNil, tCons, tTup, tLst, tTupG, tLstG, tCall, tRaise, tTryC, tXF, sXF, tRaiseI, tTryA, tTryE, thC, thA, thNil, Ends.less, tFor_eq, tComp_eq, iList, iTup, iRng1, iRng2, iEnum, iZip, tNoIf, rIxL, rIxT, rSetL, tBM, tBM0, rAppend, tFld, sFld, tMake, tMakeN, tMethD, tTryM, tNever, rExtend, rGeL, rInS, rClear, tDNewK, tDIn, tDNotIn, tDGet, sDPut, rEqL, rEqS, rBest, rRep, rCat, tSl, tPart, tNoPart, rSlL, capt, CDiv, scal_ii, scal_bb, scal_ss, scal_nn, scal_in, scal_ni, List.map_cons, List.map_nil, List.append_nil, List.nil_append, List.cons_append, List.length_cons, List.length_nil, List.length_map, Int.zero_add, List.getElem?_cons_zero, List.getElem?_cons_succ, List.set_cons_zero, List.set_cons_succ, Option.some.injEq, Option.join_some, Option.bind_some, Option.bind_none, V.int.injEq, V.bl.injEq, V.ref.injEq, V.str.injEq, V.ty.injEq, List.cons.injEq, and_true, true_and, exists_and_left, exists_eq_left', exists_eq_left, exists_eq_right, exists_eq_right', exists_eq, exists_eq', exists_const, eq_self, decide_true, decide_false, Option.isSome_none, Option.isSome_some, Bool.false_eq_true, Bool.not_true, Bool.not_false, reduceIte, reduceCtorEq, false_and, and_false, or_false, false_or, start_def, cxOf_K, cxComp_K, and_assoc, tyOf_int, kit_int_int, kit_int_bool, kit_list_list, rep0, rep1, rep2, rep3, rep4, rep5, rep6, rep7, rep8, rep9, rep10, rep11, rep12, rLen, rIsi, rListOf, rTupOf, rSum, rAll, rAny, rSorted, kit_tuple_tuple, Nat.sub_self, Nat.reduceAdd, Nat.reduceSub, Nat.reduceEqDiff])

section
variable {P : Program} {w : World} {K : PySem.W.Frag} {mg : Str → Option Value} {base : Heap}
theorem inV_ints (k : Int) (ns : List Int) : inV (.int k) (ns.map V.int) = decide (k ∈ ns) := by
  unfold inV
  induction ns with
  | nil => rfl
  | cons a l ih =>
    rw [List.map_cons, List.any_cons, ih]
    have e : eqV (.int a) (.int k) = decide (a = k) := by
      unfold eqV
      by_cases h : a = k
      · simp [h]
      · simp [h]
    rw [e]
    by_cases h : a = k
    · simp [h]
    · simp [h, Ne.symm h]
theorem flat_ints (ns : List Int) : (ns.map V.int).all flatV = true := by
  simp [List.all_eq_true, flatV]
abbrev ledT (s t : Int) : Int := ledI s t.toNat
def fsts (w : List Stp) : List Int := w.map Prod.fst
def snds (w : List Stp) : List Int := w.map Prod.snd
/-- pairs of a state and a list of throws, at places of a kind -/
inductive Lps (fr : Addr → Prop) (H : Hp) : List V → List (List Stp) → Prop
  | nil : Lps fr H [] []
  | cons {t b : Addr} {s : Int} {l : List Stp} {ts : List V} {ls : List (List Stp)} (f1 : fr t) (f2 : fr b) (ht : H t = some (.tup [.int s, .ref b])) (hb : H b = some (.lst ((snds l).map V.int))) (hl : leads ledT s l s) (r : Lps fr H ts ls) : Lps fr H (.ref t :: ts) (l :: ls)
theorem Lps.mono {fr fr' : Addr → Prop} {H H' : Hp} (k : ∀ x o, fr x → H x = some o → fr' x ∧ H' x = some o) : ∀ {ts : List V} {ls : List (List Stp)}, Lps fr H ts ls → Lps fr' H' ts ls
  | _, _, .nil => .nil
  | _, _, .cons f1 f2 ht hb hl r => .cons (k _ _ f1 ht).1 (k _ _ f2 hb).1 (k _ _ f1 ht).2 (k _ _ f2 hb).2 hl (r.mono k)
theorem Lps.snoc {fr : Addr → Prop} {H : Hp} {t b : Addr} {s : Int} {l : List Stp} (f1 : fr t) (f2 : fr b) (ht : H t = some (.tup [.int s, .ref b])) (hb : H b = some (.lst ((snds l).map V.int))) (hl : leads ledT s l s) : ∀ {ts : List V} {ls : List (List Stp)}, Lps fr H ts ls → Lps fr H (ts ++ [.ref t]) (ls ++ [l])
  | _, _, .nil => .cons f1 f2 ht hb hl .nil
  | _, _, .cons g1 g2 e1 e2 e3 r => .cons g1 g2 e1 e2 e3 (r.snoc f1 f2 ht hb hl)
theorem first_ix {l : List Int} {x : Int} (h : x ∈ l) : ∃ j : Nat, l[j]? = some x ∧ ∀ m : Nat, m < j → l[m]? ≠ some x := by
  induction l with
  | nil => cases h
  | cons a l ih =>
    by_cases e : a = x
    · exact ⟨0, by simp [e], fun m hm => absurd hm (Nat.not_lt_zero _)⟩
    · obtain ⟨j, h1, h2⟩ := ih ((List.mem_cons.mp h).resolve_left fun z => e z.symm)
      refine ⟨j + 1, by simpa using h1, fun m hm => ?_⟩
      cases m with
      | zero => simpa using e
      | succ m => simpa using h2 m (by omega)
theorem cut_from (l : List Int) (j : Nat) (h : j ≤ l.length) : cutV (l.map V.int) (some (j : Int)) none = (l.drop j).map V.int := by
  unfold cutV
  rw [HT.sIx_nat]
  simp only [HT.sIx, List.length_map]
  rw [Nat.min_eq_left h, List.map_drop, List.take_of_length_le (by simp)]
theorem cut_to (l : List Int) (j : Nat) (h : j ≤ l.length) : cutV (l.map V.int) none (some (j : Int)) = (l.take j).map V.int := by
  unfold cutV
  rw [HT.sIx_nat]
  simp only [HT.sIx, List.length_map, List.drop_zero, Nat.sub_zero]
  rw [Nat.min_eq_left h, List.map_take]
def stps (ns : List Int) (i : Nat) : List Stp := (List.range i).map fun k : Nat => (S ns k, ns.getD k 0)

abbrev s_parted : Stmt := top 22
theorem sc_parted : FnScope ["pattern", "loops", "on_the_way", "throws", "state", "throw", "first"] ["pattern"] (defScope s_parted) := ⟨rfl, rfl, rfl, by decide +kernel, rfl, by decide +kernel, by decide +kernel⟩
def spParted (NP OOB : Addr) : Sp := fun vs H Q E => ∃ (a : Addr) (ns : List Int), vs = [.ref a] ∧ H a = some (.lst (ns.map V.int)) ∧ Pat ns ∧ PlainOr ns (∀ H', Same H H' → E (.ref NP) none H') (∀ H', Same H H' → E (.ref OOB) none H')
  (∀ H' D ts ls, Same H H' → H D = none → H' D = some (.lst ts) → Lps (fun x => H x = none ∧ x ≠ D) H' ts ls → (∀ l ∈ ls, Loop ledT l) → ls.flatten.Perm (stps ns ns.length) → Q (.ref D) H')
theorem ok_parted {f : Addr} {fd : FuncData} {NP OOB : Addr} (h : Has K mg "parted" s_parted ["pattern"] f fd) (B : Blt mg) (o_states_of : Ok P w K mg base "states_of" ["pattern"] 8 (spStatesOf NP OOB)) : Ok P w K mg base "parted" ["pattern"] 9 (spParted NP OOB) := by
  refine h.ok sc_parted (fun vs H Q E h => ?_) (fun cdv A outer s H vs Q E hr h => ?_)
  · obtain ⟨a, ns, rfl, _⟩ := h
    rfl
  · obtain ⟨a, ns, rfl, ha, p, q1, q2, q3⟩ := h
    have lo := p.lo
    have hi := p.hi
    refine ⟨_, (pss_cons (ps_set (i := 1) sc_parted.nd rfl (by first | exact Or.inl rfl | exact Or.inr rfl) (pe_lst pa_nil))
      (pss_cons (ps_set (i := 2) sc_parted.nd rfl (by first | exact Or.inl rfl | exact Or.inr rfl) (pe_lst pa_nil))
      (pss_cons (ps_set (i := 3) sc_parted.nd rfl (by first | exact Or.inl rfl | exact Or.inr rfl) (pe_lst pa_nil))
      (pss_cons (ps_for ownX rfl (pi_zipK (K := K) rfl rfl B.zip_ (pa_cons (pe_callO o_states_of (hr.mono (by decide)) rfl passX (pa_cons (pv 0) pa_nil)) (pa_cons (pv 0) pa_nil))) (pg_tupK (K := K) (n := 2) rfl rfl (pgs_cons (pg_name (i := 4) sc_parted.nd rfl (by first | exact Or.inl rfl | exact Or.inr rfl)) (pgs_cons (pg_name (i := 5) sc_parted.nd rfl (by first | exact Or.inl rfl | exact Or.inr rfl)) pgs_nil))) (pss_cons (ps_if (pt_cmpR (op_in_seqK (K := K) rfl) (pv 4) (pv 2) (by with_unfolding_all rfl)) (pss_cons (ps_set (i := 6) sc_parted.nd rfl (by first | exact Or.inl rfl | exact Or.inr rfl) (pe_bmK (K := K) rfl PySem.F.plainAttrs_list PySem.F.slot_list_index PySem.F.type_list_index mt_index (pv 2) (pa_cons (pv 4) pa_nil)))
      (pss_cons (ps_expr (pe_bmK (K := K) rfl PySem.F.plainAttrs_list PySem.F.slot_list_append PySem.F.type_list_append mt_append (pv 1) (pa_cons (pe_tup (pa_cons (pv 4) (pa_cons (pe_slice (sl_listK (K := K) rfl) (pv 3) (po_some (pv 6)) po_none) pa_nil))) pa_nil)))
      (pss_cons (ps_set (i := 2) sc_parted.nd rfl (by first | exact Or.inl rfl | exact Or.inr rfl) (pe_slice (sl_listK (K := K) rfl) (pv 2) po_none (po_some (pv 6))))
      (pss_one (ps_set (i := 3) sc_parted.nd rfl (by first | exact Or.inl rfl | exact Or.inr rfl) (pe_slice (sl_listK (K := K) rfl) (pv 3) po_none (po_some (pv 6)))))))) pss_nil)
      (pss_cons (ps_expr (pe_bmK (K := K) rfl PySem.F.plainAttrs_list PySem.F.slot_list_append PySem.F.type_list_append mt_append (pv 2) (pa_cons (pv 4) pa_nil)))
      (pss_one (ps_expr (pe_bmK (K := K) rfl PySem.F.plainAttrs_list PySem.F.slot_list_append PySem.F.type_list_append mt_append (pv 3) (pa_cons (pv 5) pa_nil)))))))
      (pss_cons (ps_expr (pe_bmK (K := K) rfl PySem.F.plainAttrs_list PySem.F.slot_list_append PySem.F.type_list_append mt_append (pv 1) (pa_cons (pe_tup (pa_cons (pe_ix (ix_listK (K := K) rfl) (pv 2) pe_int (fun _ _ => rfl)) (pa_cons (pv 3) pa_nil))) pa_nil)))
      (pss_one (ps_ret (pv 1)))))))), ?_⟩
    walk_at "rd"
    refine ⟨by decide, fun D1 hD1 => ⟨by decide, fun D2 hD2 => ⟨by decide, fun D3 hD3 => ?_⟩⟩⟩
    have n12 : D1 ≠ D2 := fun e => by rw [← e, upd_same] at hD2; cases hD2
    have n13 : D1 ≠ D3 := fun e => by rw [← e, upd_ne n12, upd_same] at hD3; cases hD3
    have n23 : D2 ≠ D3 := fun e => by rw [← e, upd_same] at hD3; cases hD3
    have hD2' : H D2 = none := by rw [upd_ne (Ne.symm n12)] at hD2; exact hD2
    have hD3' : H D3 = none := by rw [upd_ne (Ne.symm n23), upd_ne (Ne.symm n13)] at hD3; exact hD3
    have s1 : Same H (upd (upd (upd H D1 (.lst [])) D2 (.lst [])) D3 (.lst [])) := (same_upd hD1).trans ((same_upd hD2).trans (same_upd hD3))
    have e1 : (upd (upd (upd H D1 (.lst [])) D2 (.lst [])) D3 (.lst [])) D1 = some (.lst []) := by rw [upd_ne n13, upd_ne n12, upd_same]
    have e2 : (upd (upd (upd H D1 (.lst [])) D2 (.lst [])) D3 (.lst [])) D2 = some (.lst []) := by rw [upd_ne n23, upd_same]
    have e3 : (upd (upd (upd H D1 (.lst [])) D2 (.lst [])) D3 (.lst [])) D3 = some (.lst []) := upd_same
    generalize upd (upd (upd H D1 (.lst [])) D2 (.lst [])) D3 (.lst []) = H1 at s1 e1 e2 e3 ⊢
    refine ⟨a, ns, rfl, s1 _ _ ha, p, fun z H' s' => q1 z H' (s1.trans s'), fun z z2 H' s' => q2 z z2 H' (s1.trans s'), fun pl H2 DS s2 hDS h2 => ?_⟩
    have nS1 : DS ≠ D1 := fun e => by rw [e, e1] at hDS; cases hDS
    have nS2 : DS ≠ D2 := fun e => by rw [e, e2] at hDS; cases hDS
    have nS3 : DS ≠ D3 := fun e => by rw [e, e3] at hDS; cases hDS
    have hDS0 : H DS = none := s1.free hDS
    refine ⟨DS, rfl, ⟨_, .of h2⟩, ⟨_, .of (s2 _ _ (s1 _ _ ha))⟩, for_zip (xs := (stL ns).map V.int) (ys := ns.map V.int) (by rw [List.length_map, List.length_map, stL_len])
      (fun i σ H' => i ≤ ns.length ∧ ∃ D2 D3 o1 o2 o3 w ls ts, σ = [some (V.ref a), some (V.ref D1), some (V.ref D2), some (V.ref D3), o1, o2, o3] ∧ Same H H' ∧ H' DS = some (.lst ((stL ns).map V.int)) ∧ H' D1 = some (.lst ts) ∧ H' D2 = some (.lst ((fsts w).map V.int)) ∧ H' D3 = some (.lst ((snds w).map V.int)) ∧ H D2 = none ∧ H D3 = none ∧ D1 ≠ D2 ∧ D1 ≠ D3 ∧ D2 ≠ D3 ∧ DS ≠ D2 ∧ DS ≠ D3 ∧
        Lps (fun x => H x = none ∧ x ≠ D1 ∧ x ≠ D2 ∧ x ≠ D3) H' ts ls ∧ Cut ledT (S ns 0) (S ns i) (stps ns i) ls w ∧ (0 < i → w ≠ []) ∧ ts.length ≤ i ∧ w.length ≤ i)
      ⟨Nat.zero_le _, D2, D3, none, none, none, [], [], [], rfl, s1.trans s2, h2, s2 _ _ e1, s2 _ _ e2, s2 _ _ e3, hD2', hD3', n12, n13, n23, nS2, nS3, .nil, .nil _ _, fun z => absurd z (Nat.lt_irrefl _), Nat.le_refl _, Nat.le_refl _⟩
      (fun i σ H' _ pv => ?_) (fun i x y σ H' T hx hy pv hT => ?_) (fun σ H' pv => ?_)⟩
    · obtain ⟨_, D2, D3, o1, o2, o3, w, ls, ts, rfl, sH, hS, _⟩ := pv
      exact ⟨.of hS, .of (sH _ _ ha)⟩
    · obtain ⟨_, D2, D3, o1, o2, o3, w, ls, ts, rfl, sH, hS, k1, k2, k3, f2, f3, n12, n13, n23, nS2, nS3, lp, cu, _, lts, lw⟩ := pv
      obtain ⟨hlt, rfl⟩ := ints_at hy
      obtain ⟨_, rfl⟩ := ints_at hx
      have est : (stL ns).getD i 0 = S ns i := map_range_getD hlt _
      rw [est]
      generalize hth : ns.getD i 0 = th
      have led : ledT (S ns i) th = S ns ((i + 1 : Nat) : Int) := by rw [← hth]; exact plain_led pl hlt
      have esn : stps ns (i + 1) = stps ns i ++ [(S ns i, th)] := by
        unfold stps
        rw [List.range_succ, List.map_append, ← hth]
        rfl
      generalize hx0 : S ns (i : Int) = x0 at cu led esn ⊢
      have sT : Same H' (upd H' T (.tup [.int x0, .int th])) := same_upd hT
      have hTT : (upd H' T (.tup [.int x0, .int th])) T = some (.tup [.int x0, .int th]) := upd_same
      generalize upd H' T (.tup [.int x0, .int th]) = H3 at sT hTT ⊢
      have lp3 : Lps (fun x => H x = none ∧ x ≠ D1 ∧ x ≠ D2 ∧ x ≠ D3) H3 ts ls := lp.mono fun x o f e => ⟨f, sT _ _ e⟩
      have g1 := sT _ _ k1
      have g2 := sT _ _ k2
      have g3 := sT _ _ k3
      have gS := sT _ _ hS
      have sH3 := sH.trans sT
      walk_at "rd"
      refine ⟨_, .of hTT, rfl, ?_⟩
      walk_at "rd"
      refine ⟨_, .inl (.of g2), rfl, flat_ints _, ?_⟩
      rw [inV_ints]
      by_cases hm : x0 ∈ fsts w
      · rw [decide_eq_true hm]
        walk_at "rd"
        obtain ⟨j, j1, j2⟩ := first_ix hm
        have jl : j < w.length := by have := (List.getElem?_eq_some_iff.mp j1).1; simpa [fsts] using this
        refine ⟨.inl ⟨rfl, _, .of g2⟩, fsts w, g2, j, j1, j2, ?_⟩
        walk_at "rd"
        obtain ⟨cu2, hm2, _, ld2⟩ := cu.cut j1 j2
        have lf : (fsts w).length = w.length := by simp [fsts]
        have ls_ : (snds w).length = w.length := by simp [snds]
        refine ⟨.inl ⟨rfl, _, .of g1⟩, _, .of g3, fun p hp => ⟨by decide, fun t ht => ?_⟩⟩
        rw [cut_from _ _ (by omega)] at ht ⊢
        have kp4 : Same H3 (upd H3 p (.lst (((snds w).drop j).map V.int))) := same_upd hp
        have e4 : (upd H3 p (.lst (((snds w).drop j).map V.int))) p = some (.lst (((snds w).drop j).map V.int)) := upd_same
        generalize upd H3 p (.lst (((snds w).drop j).map V.int)) = H4 at kp4 e4 ht ⊢
        have kp5 : Same H4 (upd H4 t (.tup [.int x0, .ref p])) := same_upd ht
        have e5 : (upd H4 t (.tup [.int x0, .ref p])) t = some (.tup [.int x0, .ref p]) := upd_same
        generalize upd H4 t (.tup [.int x0, .ref p]) = H5 at kp5 e5 ⊢
        have d1 := kp5 _ _ (kp4 _ _ g1)
        have np : p ≠ D1 := fun e => by rw [e, g1] at hp; cases hp
        have nt : t ≠ D1 := fun e => by rw [e, kp4 _ _ g1] at ht; cases ht
        refine ⟨ts, d1, small1000 (by omega), ?_⟩
        have e6 : (upd H5 D1 (.lst (ts ++ [.ref t]))) D1 = some (.lst (ts ++ [.ref t])) := upd_same
        have kp6 : ∀ z o, z ≠ D1 → H5 z = some o → (upd H5 D1 (.lst (ts ++ [.ref t]))) z = some o := fun z o hz e => by rw [upd_ne hz]; exact e
        generalize upd H5 D1 (.lst (ts ++ [.ref t])) = H6 at e6 kp6 ⊢
        have a2 := kp6 _ _ (Ne.symm n12) (kp5 _ _ (kp4 _ _ g2))
        have a3 := kp6 _ _ (Ne.symm n13) (kp5 _ _ (kp4 _ _ g3))
        refine ⟨_, .of a2, fun E2 hE2 => ?_⟩
        rw [cut_to _ _ (by omega)]
        have kp7 : Same H6 (upd H6 E2 (.lst (((fsts w).take j).map V.int))) := same_upd hE2
        have e7 : (upd H6 E2 (.lst (((fsts w).take j).map V.int))) E2 = some (.lst (((fsts w).take j).map V.int)) := upd_same
        generalize upd H6 E2 (.lst (((fsts w).take j).map V.int)) = H7 at kp7 e7 ⊢
        refine ⟨_, .of (kp7 _ _ a3), fun E3 hE3 => ?_⟩
        rw [cut_to _ _ (by omega)]
        have kp8 : Same H7 (upd H7 E3 (.lst (((snds w).take j).map V.int))) := same_upd hE3
        have e8 : (upd H7 E3 (.lst (((snds w).take j).map V.int))) E3 = some (.lst (((snds w).take j).map V.int)) := upd_same
        generalize upd H7 E3 (.lst (((snds w).take j).map V.int)) = H8 at kp8 e8 ⊢
        have all8 : ∀ z o, z ≠ D1 → H3 z = some o → H8 z = some o := fun z o hz e => kp8 _ _ (kp7 _ _ (kp6 _ _ hz (kp5 _ _ (kp4 _ _ e))))
        have h8D1 := kp8 _ _ (kp7 _ _ e6)
        have h8E2 : H8 E2 = some (.lst ((fsts (w.take j)).map V.int)) := by
          have := kp8 _ _ e7
          simpa [fsts, List.map_take] using this
        have h8E3 : H8 E3 = some (.lst ((snds (w.take j)).map V.int)) := by
          have := e8
          simpa [snds, List.map_take] using this
        have h8p : H8 p = some (.lst ((snds (w.drop j)).map V.int)) := by
          have := kp8 _ _ (kp7 _ _ (kp6 _ _ np (kp5 _ _ e4)))
          simpa [snds, List.map_drop] using this
        have h8t := kp8 _ _ (kp7 _ _ (kp6 _ _ nt e5))
        have m1E2 : D1 ≠ E2 := fun e => by rw [← e, e6] at hE2; cases hE2
        have m1E3 : D1 ≠ E3 := fun e => by rw [← e, kp7 _ _ e6] at hE3; cases hE3
        have mE : E2 ≠ E3 := fun e => by rw [← e, e7] at hE3; cases hE3
        have notE2 : ∀ z o, z ≠ D1 → H5 z = some o → z ≠ E2 := fun z o hz e ez => by rw [← ez, kp6 _ _ hz e] at hE2; cases hE2
        have notE3 : ∀ z o, z ≠ D1 → H5 z = some o → z ≠ E3 := fun z o hz e ez => by rw [← ez, kp7 _ _ (kp6 _ _ hz e)] at hE3; cases hE3
        have free2 : H E2 = none := by
          cases e : H E2 with
          | none => rfl
          | some o => exact absurd rfl (notE2 E2 o (fun z => m1E2 z.symm) (kp5 _ _ (kp4 _ _ (sH3 _ _ e))))
        have free3 : H E3 = none := by
          cases e : H E3 with
          | none => rfl
          | some o => exact absurd rfl (notE3 E3 o (fun z => m1E3 z.symm) (kp5 _ _ (kp4 _ _ (sH3 _ _ e))))
        have s8 : Same H H8 := fun b o e => all8 b o (ne_of_none e hD1) (sH3 _ _ e)
        have lp8 : Lps (fun x => H x = none ∧ x ≠ D1 ∧ x ≠ E2 ∧ x ≠ E3) H8 (ts ++ [.ref t]) (ls ++ [w.drop j]) := by
          refine Lps.snoc ⟨(sH3.trans kp4).free ht, nt, notE2 _ _ nt e5, notE3 _ _ nt e5⟩ ⟨sH3.free hp, np, notE2 _ _ np (kp5 _ _ e4), notE3 _ _ np (kp5 _ _ e4)⟩ h8t h8p ld2 (lp3.mono fun x o f e => ⟨⟨f.1, f.2.1, notE2 _ _ f.2.1 (kp5 _ _ (kp4 _ _ e)), notE3 _ _ f.2.1 (kp5 _ _ (kp4 _ _ e))⟩, all8 _ _ f.2.1 e⟩)
        have g8S := all8 _ _ nS1 gS
        have q2' := notE2 _ _ nS1 (kp5 _ _ (kp4 _ _ gS))
        have q3' := notE3 _ _ nS1 (kp5 _ _ (kp4 _ _ gS))
        have lw2 : (w.take j).length ≤ i := by rw [List.length_take]; omega
        have cu' := (cu2).push (t := th) hm2
        rw [led, ← esn] at cu'
        have rd3 : ∀ A, (upd H8 E2 A) E3 = some (.lst ((snds (w.take j)).map V.int)) := fun A => by rw [upd_ne (Ne.symm mE)]; exact h8E3
        have oth : ∀ A B z o, z ≠ E2 → z ≠ E3 → H8 z = some o → (upd (upd H8 E2 A) E3 B) z = some o := fun A B z o h1 h2 e => by rw [upd_ne h2, upd_ne h1]; exact e
        refine ⟨.inl ⟨rfl, _, .of h8E2⟩, _, h8E2, small1000 (by simp [fsts]; omega), .inl ⟨rfl, _, .of (rd3 _)⟩, _, rd3 _, small1000 (by simp [snds]; omega), hlt, fun b o e => oth _ _ b o (ne_of_none e free2) (ne_of_none e free3) (s8 _ _ e), oth _ _ _ _ q2' q3' g8S, (w.take j) ++ [(x0, th)], (ls ++ [w.drop j]), (ts ++ [V.ref t]), oth _ _ _ _ m1E2 m1E3 h8D1, ?_, ?_, free2, free3, m1E2, m1E3, mE, q2', q3', (lp8).mono fun x o f e => ⟨f, oth _ _ _ _ f.2.2.1 f.2.2.2 e⟩, cu', fun _ => by simp, by simp; omega, by simp; omega⟩
        · rw [upd_ne mE, upd_same]
          simp [fsts]
        · rw [upd_same]
          simp [snds]
      · rw [decide_eq_false hm]
        walk_at "rd"
        have cu' := (cu).push (t := th) hm
        rw [led, ← esn] at cu'
        have rd3 : ∀ A, (upd H3 D2 A) D3 = some (.lst ((snds w).map V.int)) := fun A => by rw [upd_ne (Ne.symm n23)]; exact g3
        have oth : ∀ A B z o, z ≠ D2 → z ≠ D3 → H3 z = some o → (upd (upd H3 D2 A) D3 B) z = some o := fun A B z o h1 h2 e => by rw [upd_ne h2, upd_ne h1]; exact e
        refine ⟨.inl ⟨rfl, _, .of g2⟩, _, g2, small1000 (by simp [fsts]; omega), .inl ⟨rfl, _, .of (rd3 _)⟩, _, rd3 _, small1000 (by simp [snds]; omega), hlt, fun b o e => oth _ _ b o (ne_of_none e f2) (ne_of_none e f3) (sH3 _ _ e), oth _ _ _ _ nS2 nS3 gS, w ++ [(x0, th)], ls, ts, oth _ _ _ _ n12 n13 g1, ?_, ?_, f2, f3, n12, n13, n23, nS2, nS3, (lp3).mono fun x o f e => ⟨f, oth _ _ _ _ f.2.2.1 f.2.2.2 e⟩, cu', fun _ => by simp, by omega, by simp; omega⟩
        · rw [upd_ne n23, upd_same]
          simp [fsts]
        · rw [upd_same]
          simp [snds]
    · obtain ⟨_, D2, D3, o1, o2, o3, w, ls, ts, rfl, sH, hS, k1, k2, k3, f2, f3, n12, n13, n23, nS2, nS3, lp, cu, wne, lts, lw⟩ := pv
      have wn := wne (by rw [List.length_map, stL_len]; omega)
      rw [List.length_map, stL_len] at cu
      have er : S ns (ns.length : Int) = S ns 0 := by have := S_round ns 0; rwa [Int.zero_add] at this
      rw [er] at cu
      obtain ⟨ca, cp⟩ := cu.last wn
      obtain ⟨x0, w', ew⟩ := List.exists_cons_of_ne_nil wn
      have e0 : x0.1 = S ns 0 := by
        have := cu.ld
        rw [ew] at this
        exact this.1
      walk_at "rd"
      refine ⟨.inl ⟨rfl, _, .of k1⟩, _, .of k2, .int (S ns 0), ?_, by decide, fun t ht => ?_⟩
      · rw [show (0 : Int) = ((0 : Nat) : Int) from rfl, ew]
        refine atI_nat ?_
        simp [fsts, e0]
      have nt : D1 ≠ t := ne_of_none k1 ht
      refine ⟨ts, by rw [upd_ne nt]; exact k1, small1000 (by rw [List.length_map, stL_len] at lts; omega), ?_⟩
      have oth : ∀ A B z o, z ≠ D1 → H' z = some o → (upd (upd H' t A) D1 B) z = some o := fun A B z o h1 e => by rw [upd_ne h1, upd_ne (ne_of_none e ht)]; exact e
      refine q3 pl _ D1 (ts ++ [.ref t]) (ls ++ [w]) (fun b o e => oth _ _ b o (ne_of_none e hD1) (sH _ _ e)) hD1 upd_same ?_ ca cp
      refine Lps.snoc ⟨sH.free ht, Ne.symm nt⟩ ⟨f3, Ne.symm n13⟩ ?_ (oth _ _ _ _ (Ne.symm n13) k3) cu.ld (lp.mono fun x o f e => ⟨⟨f.1, f.2.1⟩, oth _ _ _ _ f.2.1 e⟩)
      rw [upd_ne (Ne.symm nt), upd_same]
end
end Tb

namespace Tb
open PySem L2 TB
local macro_rules | `(tactic| walk_at "rd") => `(tactic| try simp only [tSeq, tNext, tIfS, tRet, tRetN, tDrop, tAsg, gName, gNil, gCons, gSub, gTup, tVar, tC, tOp, tUn, rI, rI0, rU, rEq, rNe, tTest, tB, tChain, tChain3, rSortedB, rSortedP, rSortedD, rListD, rDictP, iDict, tThaw, rDClear, tDisp, tPairs, kit_dict_dict, rIndex, rIsX, rIsXT, rIsXd, rIsXV, rIsXTd, rIsO, rIxS2, rSlS, rFind, rIndexT, rLenT, rStrT, rIntT, rAddT, rMulT, rInT, iTxt, tx_str, tTxts, kit_str_str, rIn, tListRev, tAug, ipI, tAnd, tOr, tNot, tAndV, tOrV, tNotV, tIf, tIsN, tNotN, tCB, tNil, tCons, tTup, tLst, tTupG, tLstG, tCall, tRaise, tTryC, tXF, sXF, tRaiseI, tTryA, tTryE, thC, thA, thNil, Ends.less, tFor_eq, tComp_eq, iList, iTup, iRng1, iRng2, iEnum, iZip, tNoIf, rIxL, rIxT, rSetL, tBM, tBM0, rAppend, tFld, sFld, tMake, tMakeN, tMethD, tTryM, tNever, rExtend, rGeL, rInS, rClear, tDNewK, tDIn, tDNotIn, tDGet, sDPut, rEqL, rEqS, rBest, rRep, rCat, tSl, tPart, tNoPart, rSlL, capt, CDiv, scal_ii, scal_bb, scal_ss, scal_nn, scal_in, scal_ni, List.map_cons, List.map_nil, List.append_nil, List.nil_append, List.cons_append, List.length_cons, List.length_nil, List.length_map, Int.zero_add, List.getElem?_cons_zero, List.getElem?_cons_succ, List.set_cons_zero, List.set_cons_succ, Option.some.injEq, Option.join_some, Option.bind_some, Option.bind_none, V.int.injEq, V.bl.injEq, V.ref.injEq, V.str.injEq, V.ty.injEq, List.cons.injEq, and_true, true_and, exists_and_left, exists_eq_left', exists_eq_left, exists_eq_right, exists_eq_right', exists_eq, exists_eq', exists_const, eq_self, decide_true, decide_false, Option.isSome_none, Option.isSome_some, Bool.false_eq_true, Bool.not_true, Bool.not_false, reduceIte, reduceCtorEq, false_and, and_false, or_false, false_or, start_def, cxOf_K, cxComp_K, and_assoc, tyOf_int, kit_int_int, kit_int_bool, kit_list_list, rep0, rep1, rep2, rep3, rep4, rep5, rep6, rep7, rep8, rep9, rep10, rep11, rep12, rLen, rIsi, rListOf, rTupOf, rSum, rAll, rAny, rSorted, kit_tuple_tuple, Nat.sub_self, Nat.reduceAdd, Nat.reduceSub, Nat.reduceEqDiff])

section
variable {P : Program} {w : World} {K : PySem.W.Frag} {mg : Str → Option Value} {base : Heap}
theorem bitAnd_one (z : Int) : Builtin.bitAnd z 1 = z % 2 := PyProof.Rows.bitAnd_m1 z
abbrev s__law_plain_by : Stmt := top 28
theorem sc__law_plain_by : FnScope ["_law_size", "_law_cell", "_law_most", "_law_spots", "_law_made", "_law_k", "_law_near", "_law_far"] ["_law_size", "_law_cell", "_law_most"] (defScope s__law_plain_by) := ⟨rfl, rfl, rfl, by decide +kernel, rfl, by decide +kernel, by decide +kernel⟩
structure MadeP (n : Nat) (sp P : List Int) (i : Nat) : Prop where
  len : P.length = i
  bd : ∀ x ∈ P, 0 ≤ x ∧ x ≤ 60
  at_ : ∀ k : Nat, k < i → ∃ q : Int, P.getD k 0 = sp.getD k 0 - k + q * (n : Int)
theorem MadeP.snoc {n : Nat} {sp P : List Int} {i : Nat} (m : MadeP n sp P i) {x : Int} (b : 0 ≤ x ∧ x ≤ 60) {q : Int} (e : x = sp.getD i 0 - i + q * (n : Int)) : MadeP n sp (P ++ [x]) (i + 1) := by
  refine ⟨by simp [m.len], fun y hy => ?_, fun k hk => ?_⟩
  · rcases List.mem_append.mp hy with z | z
    · exact m.bd y z
    · rw [List.mem_singleton.mp z]; exact b
  · have hl := m.len
    by_cases hki : k = i
    · subst hki
      refine ⟨q, ?_⟩
      rw [List.getD_eq_getElem?_getD, List.getElem?_append_right (by omega), hl]
      simp only [Nat.sub_self, List.getElem?_cons_zero, Option.getD_some]
      exact e
    · obtain ⟨z, hz⟩ := m.at_ k (by omega)
      refine ⟨z, ?_⟩
      rw [← hz, List.getD_eq_getElem?_getD, List.getElem?_append_left (by omega), ← List.getD_eq_getElem?_getD]
def spPlainBy : Sp := fun vs H Q _ => ∃ (n : Nat) (c m : Int), vs = [.int n, .int c, .int m] ∧ 1 ≤ n ∧ n ≤ 60 ∧ 1 ≤ m ∧ ∀ H' D T, Same H H' → H D = none → Plain T → T.length = n → H' D = some (.lst (T.map V.int)) → Q (.ref D) H'
theorem ok_plain_by {f : Addr} {fd : FuncData} (h : Has K mg "_law_plain_by" s__law_plain_by ["_law_size", "_law_cell", "_law_most"] f fd) (B : Blt mg) (o__law_mixed : Ok P w K mg base "_law_mixed" ["_law_cell", "_law_k"] 2 spMixed) (o__law_spots_by : Ok P w K mg base "_law_spots_by" ["_law_size", "_law_cell"] 3 spSpotsBy) : Ok P w K mg base "_law_plain_by" ["_law_size", "_law_cell", "_law_most"] 4 spPlainBy := by
  refine h.ok sc__law_plain_by (fun vs H Q E h => ?_) (fun cdv A outer s H vs Q E hr h => ?_)
  · obtain ⟨n, c, m, rfl, _⟩ := h
    rfl
  · obtain ⟨n, c, m, rfl, lo, hi, m1, q⟩ := h
    refine ⟨_, (pss_cons (ps_set (i := 3) sc__law_plain_by.nd rfl (by first | exact Or.inl rfl | exact Or.inr rfl) (pe_callO o__law_spots_by (hr.mono (by decide)) rfl passX (pa_cons (pv 0) (pa_cons (pv 1) pa_nil))))
      (pss_cons (ps_set (i := 4) sc__law_plain_by.nd rfl (by first | exact Or.inl rfl | exact Or.inr rfl) (pe_lst pa_nil))
      (pss_cons (ps_for ownX rfl (pi_range1 rfl B.range_ (pa_cons (pv 0) pa_nil)) (pg_name (i := 5) sc__law_plain_by.nd rfl (by first | exact Or.inl rfl | exact Or.inr rfl)) (pss_cons (ps_set (i := 6) sc__law_plain_by.nd rfl (by first | exact Or.inl rfl | exact Or.inr rfl) (pe_op op_mod (pe_op op_sub (pe_ix (ix_listK (K := K) rfl) (pv 3) (pv 5) (fun _ _ => rfl)) (pv 5)) (pv 0)))
      (pss_cons (ps_set (i := 7) sc__law_plain_by.nd rfl (by first | exact Or.inl rfl | exact Or.inr rfl) (pe_callB (call_min2 rfl) rfl B.min_ bt_min (pa_cons (pv 2) (pa_cons (pe_op op_add (pe_op op_fdiv (pe_op op_sub pe_int (pv 6)) (pv 0)) pe_int) pa_nil))))
      (pss_one (ps_expr (pe_bmK (K := K) rfl PySem.F.plainAttrs_list PySem.F.slot_list_append PySem.F.type_list_append mt_append (pv 4) (pa_cons (pe_op op_add (pv 6) (pe_op op_mul (pe_op op_mod (pe_callO o__law_mixed (hr.mono (by decide)) rfl passX (pa_cons (pe_op op_fdiv (pv 1) pe_int) (pa_cons (pe_op op_add (pv 5) pe_int) pa_nil))) (pv 7)) (pv 0))) pa_nil)))))))
      (pss_one (ps_ret (pv 4)))))), ?_⟩
    walk_at "rd"
    refine ⟨n, c, rfl, lo, hi, fun H1 S1 sp s1 hS1 S hsp => ⟨by decide, fun D hD => ⟨by omega, by omega, ?_⟩⟩⟩
    have hne : S1 ≠ D := ne_of_none hsp hD
    refine for_range (fun i σ H2 => i ≤ n ∧ (∃ o1 o2 o3, σ = [some (V.int n), some (V.int c), some (V.int m), some (V.ref S1), some (V.ref D), o1, o2, o3]) ∧ ∃ T, MadeP n sp T i ∧ H2 = upd H1 D (.lst (T.map V.int))) ⟨Nat.zero_le _, ⟨_, _, _, rfl⟩, [], ⟨rfl, by simp, fun k hk => absurd hk (Nat.not_lt_zero _)⟩, rfl⟩ (fun i σ H2 hlt pv => ?_) (fun σ H2 pv => ?_)
    · rw [Int.toNat_natCast] at hlt
      obtain ⟨_, ⟨o1, o2, o3, rfl⟩, T, M, rfl⟩ := pv
      have hl := M.len
      have hS : (upd H1 D (.lst (T.map V.int))) S1 = some (.lst (sp.map V.int)) := by rw [upd_ne hne]; exact hsp
      have hat : atI (sp.map V.int) (i : Int) = some (.int (sp.getD i 0)) := at_ints (by rw [S.len]; exact hlt)
      have n0 : (0 : Int) < n := by omega
      have g0 := Int.emod_nonneg (sp.getD i 0 - i) (show (n : Int) ≠ 0 by omega)
      have g1 := Int.emod_lt_of_pos (sp.getD i 0 - i) n0
      walk_at "rd"
      refine ⟨_, .of hS, _, hat, ?_⟩
      walk_at "rd"
      have km := kind0 (sp.getD i 0) i
      generalize hnr : (sp.getD i 0 - i) % (n : Int) = nr at g0 g1 km ⊢
      have d0 : 0 ≤ (60 - nr) / (n : Int) := Int.ediv_nonneg (by omega) (by omega)
      have d1 : (60 - nr) / (n : Int) * (n : Int) ≤ 60 - nr := Int.ediv_mul_le _ (by omega)
      refine ⟨n0, n0, by omega, .inl ⟨rfl, _, .of upd_same⟩, by decide, by decide, _, _, rfl, fun v h0 h1 => ⟨v, rfl, ?_⟩⟩
      obtain ⟨fr, hfr, f0, f1⟩ : ∃ fr : Int, (if (60 - nr) / (n : Int) + 1 < m then (60 - nr) / (n : Int) + 1 else m) = fr ∧ 0 < fr ∧ fr ≤ (60 - nr) / (n : Int) + 1 := ⟨_, rfl, by split <;> omega, by split <;> omega⟩
      rw [hfr]
      have r0 := Int.emod_nonneg v (show fr ≠ 0 by omega)
      have r1 := Int.emod_lt_of_pos v f0
      generalize v % fr = r at r0 r1 ⊢
      have b1 : 0 ≤ r * (n : Int) := Int.mul_nonneg r0 (by omega)
      have b2 : r * (n : Int) ≤ (60 - nr) / (n : Int) * (n : Int) := Int.mul_le_mul_of_nonneg_right (by omega) (by omega)
      refine ⟨f0, .inr ⟨by omega, by omega⟩, _, upd_same, small1000 (by rw [List.length_map, hl]; omega), hlt, T ++ [nr + r * (n : Int)], M.snoc ⟨by omega, by omega⟩ (q := r - (sp.getD i 0 - i) / (n : Int)) ?_, ?_⟩
      · have := km r n
        rw [hnr] at this
        exact this
      · rw [upd_upd, List.map_append]
        rfl
    · obtain ⟨_, ⟨o1, o2, o3, rfl⟩, T, M, rfl⟩ := pv
      walk_at "rd"
      rw [Int.toNat_natCast] at M
      exact q _ D T (s1.trans (same_upd hD)) (s1.free hD) ⟨Pat.of lo hi M.len (fun x hx => by have := M.bd x hx; omega) S M.at_, M.bd⟩ M.len upd_same

abbrev s__law_first_state : Stmt := top 31
theorem sc__law_first_state : FnScope ["_law_pattern", "_law_size", "_law_found", "_law_throw", "_law_beats"] ["_law_pattern"] (defScope s__law_first_state) := ⟨rfl, rfl, rfl, by decide +kernel, rfl, by decide +kernel, by decide +kernel⟩
def spLawFirst : Sp := fun vs H Q _ => ∃ (a : Addr) (ns : List Int), vs = [.ref a] ∧ H a = some (.lst (ns.map V.int)) ∧ Plain ns ∧ Q (.int (S ns 0)) H
theorem ok_law_first {f : Addr} {fd : FuncData} (h : Has K mg "_law_first_state" s__law_first_state ["_law_pattern"] f fd) (B : Blt mg) : Ok P w K mg base "_law_first_state" ["_law_pattern"] 2 spLawFirst := by
  refine h.ok sc__law_first_state (fun vs H Q E h => ?_) (fun cdv A outer s H vs Q E hr h => ?_)
  · obtain ⟨a, ns, rfl, _⟩ := h
    rfl
  · obtain ⟨a, ns, rfl, ha, p, q⟩ := h
    have lo := p.lo
    have hi := p.hi
    refine ⟨_, (pss_cons (ps_set (i := 1) sc__law_first_state.nd rfl (by first | exact Or.inl rfl | exact Or.inr rfl) (pe_callB (call_len_seqK (K := K) rfl) rfl B.len_ bt_len (pa_cons (pv 0) pa_nil)))
      (pss_cons (ps_set (i := 2) sc__law_first_state.nd rfl (by first | exact Or.inl rfl | exact Or.inr rfl) pe_int)
      (pss_cons (ps_for ownX rfl (pi_range2 rfl B.range_ (pa_cons pe_int (pa_cons pe_int pa_nil))) (pg_name (i := 3) sc__law_first_state.nd rfl (by first | exact Or.inl rfl | exact Or.inr rfl)) (pss_one (ps_for ownX rfl (pi_range2 rfl B.range_ (pa_cons pe_int (pa_cons (pe_op op_add (pv 3) pe_int) pa_nil))) (pg_name (i := 4) sc__law_first_state.nd rfl (by first | exact Or.inl rfl | exact Or.inr rfl)) (pss_one (ps_if (pt_cmpR op_eq (pe_ix (ix_listK (K := K) rfl) (pv 0) (pe_op op_mod (pe_un un_neg (pv 4)) (pv 1)) (fun _ _ => rfl)) (pv 3) (nomark _)) (pss_one (ps_set (i := 2) sc__law_first_state.nd rfl (by first | exact Or.inl rfl | exact Or.inr rfl) (pe_op op_add (pv 2) (pe_op op_shl pe_int (pe_op op_sub (pv 3) (pv 4)))))) pss_nil)))))
      (pss_one (ps_ret (pv 2)))))), ?_⟩
    walk_at "rd"
    refine ⟨_, .inl (.of ha), ?_⟩
    walk_at "rd"
    refine ⟨by decide, by decide, by decide, by decide, ?_⟩
    rw [show ((61 : Int) - 1).toNat = 60 from rfl]
    refine for_range (fun t σ H' => t ≤ 60 ∧ (∃ o1 o2, σ = [some (V.ref a), some (V.int ns.length), some (V.int ((List.range t).map fun t : Nat => ((List.range (t + 1)).map fun i : Nat => if F ns (0 - i - 1) = 0 - i - 1 + ((t : Int) + 1) then (2 : Int) ^ (t - i) else 0).sum).sum), o1, o2]) ∧ H' = H) ⟨Nat.zero_le _, ⟨_, _, rfl⟩, rfl⟩ (fun t σ H' hlt pv => ?_) (fun σ H' pv => ?_)
    · obtain ⟨_, ⟨o1, o2, rfl⟩, rfl⟩ := pv
      walk_at "rd"
      refine ⟨by decide, by decide, by omega, by omega, ?_⟩
      rw [show (1 + (t : Int) + 1 - 1).toNat = t + 1 by omega]
      generalize hSm : ((List.range t).map fun t : Nat => ((List.range (t + 1)).map fun i : Nat => if F ns (0 - i - 1) = 0 - i - 1 + ((t : Int) + 1) then (2 : Int) ^ (t - i) else 0).sum).sum = Sm
      refine for_range (fun i σ H2 => (∃ o2, σ = [some (V.ref a), some (V.int ns.length), some (V.int (Sm + ((List.range i).map fun i : Nat => if F ns (0 - i - 1) = 0 - i - 1 + ((t : Int) + 1) then (2 : Int) ^ (t - i) else 0).sum)), some (V.int (1 + t)), o2]) ∧ H2 = H') ⟨⟨o2, by simp⟩, rfl⟩ (fun i σ H2 hlt2 pv => ?_) (fun σ H2 pv => ?_)
      · obtain ⟨⟨o2, rfl⟩, rfl⟩ := pv
        walk_at "rd"
        refine ⟨by omega, _, .of ha, _, atI_mod lo _, ?_⟩
        walk_at "rd"
        have eF : F ns (0 - i - 1) = -(1 + (i : Int)) + ns.getD ((-(1 + (i : Int))) % (ns.length : Int)).toNat 0 := by
          unfold F
          rw [show (0 : Int) - i - 1 = -(1 + (i : Int)) by omega]
        rw [sum_snoc]
        generalize ns.getD ((-(1 + (i : Int))) % (ns.length : Int)).toNat 0 = g at eF ⊢
        by_cases hc : g = 1 + (t : Int)
        · rw [decide_eq_true hc, if_pos (show F ns (0 - i - 1) = 0 - i - 1 + ((t : Int) + 1) by omega)]
          walk_at "rd"
          refine ⟨⟨by omega, by omega, by decide⟩, ?_⟩
          rw [Int.one_mul, show 1 + (t : Int) - (1 + (i : Int)) = ((t - i : Nat) : Int) by omega, Int.toNat_natCast, Int.add_assoc]
        · rw [decide_eq_false hc, if_neg (show ¬ F ns (0 - i - 1) = 0 - i - 1 + ((t : Int) + 1) by omega)]
          walk_at "rd"
          rw [Int.add_zero]
      · obtain ⟨⟨o2, rfl⟩, rfl⟩ := pv
        walk_at "rd"
        refine ⟨hlt, ?_⟩
        rw [sum_snoc t fun t : Nat => ((List.range (t + 1)).map fun i : Nat => if F ns (0 - i - 1) = 0 - i - 1 + ((t : Int) + 1) then (2 : Int) ^ (t - i) else 0).sum, hSm]
    · obtain ⟨_, ⟨o1, o2, rfl⟩, rfl⟩ := pv
      walk_at "rd"
      rw [← p.S_byThrow 0]
      exact q

abbrev s__law_led : Stmt := top 30
theorem sc__law_led : FnScope ["_law_state", "_law_throw"] ["_law_state", "_law_throw"] (defScope s__law_led) := ⟨rfl, rfl, rfl, by decide +kernel, rfl, by decide +kernel, by decide +kernel⟩
def spLawLed : Sp := fun vs H Q _ => ∃ (s : Int) (n : Nat), vs = [.int s, .int n] ∧ n ≤ 60 ∧ letsI s n ∧ Q (.int (ledI s n)) H
theorem ok_law_led {f : Addr} {fd : FuncData} (h : Has K mg "_law_led" s__law_led ["_law_state", "_law_throw"] f fd) (B : Blt mg) : Ok P w K mg base "_law_led" ["_law_state", "_law_throw"] 2 spLawLed := by
  refine h.ok sc__law_led (fun vs H Q E h => ?_) (fun cdv A outer s H vs Q E hr h => ?_)
  · obtain ⟨s, n, rfl, _⟩ := h
    rfl
  · obtain ⟨z, n, rfl, hn, hl, q⟩ := h
    refine ⟨_, (pss_cons (ps_if (PW.pt (pw_or (pt_not (pt_val (pe_callB (call_isinstK (K := K) rfl) rfl B.isinstance_ bt_isinstance (pa_cons (pv 1) (pa_cons (pe_tyN B.int_ bt_int) pa_nil))))) (pw_or (pt_val (pe_callB (call_isinstK (K := K) rfl) rfl B.isinstance_ bt_isinstance (pa_cons (pv 1) (pa_cons (pe_tyN B.bool_ bt_bool) pa_nil)))) (pw_or1 (pt_not (pt_chain op_le op_le pe_int (pv 1) pe_int)))))) (pss_one (ps_ret (pe_un un_neg pe_int))) pss_nil)
      (pss_cons (ps_if (pt_cmpR op_eq (pv 1) pe_int (nomark _)) (pss_one (ps_ret (pe_ifExp (pt_cmpR op_eq (pe_op op_and (pv 0) pe_int) pe_int (nomark _)) (pe_op op_shr (pv 0) pe_int) (pe_un un_neg pe_int)))) pss_nil)
      (pss_cons (ps_if (PW.pt (pw_or (pt_cmpR op_eq (pe_op op_and (pv 0) pe_int) pe_int (nomark _)) (pw_or1 (pt_cmpR op_eq (pe_op op_and (pe_op op_shr (pv 0) (pv 1)) pe_int) pe_int (nomark _))))) (pss_one (ps_ret (pe_un un_neg pe_int))) pss_nil)
      (pss_one (ps_ret (pe_op op_add (pe_op op_shr (pv 0) pe_int) (pe_op op_shl pe_int (pe_op op_sub (pv 1) pe_int)))))))), ?_⟩
    walk_at "rd"
    rw [decide_eq_true (show (0 : Int) ≤ n by omega), decide_eq_true (show (n : Int) ≤ 60 by omega)]
    walk_at "rd"
    rw [bitAnd_one, bitAnd_one, Int.toNat_natCast, show z / 2 ^ Int.toNat 1 = z / 2 from rfl]
    unfold ledI at q
    by_cases h0 : n = 0
    · have := hl.1 h0
      rw [decide_eq_true (show ((n : Nat) : Int) = 0 by omega), decide_eq_true this]
      rw [if_pos h0, Int.add_zero] at q
      exact ⟨by decide, q⟩
    · obtain ⟨l1, l2⟩ := hl.2 h0
      rw [decide_eq_false (show ¬ ((n : Nat) : Int) = 0 by omega), decide_eq_false (show ¬ z % 2 = 0 by omega), decide_eq_false (show ¬ z / 2 ^ n % 2 = 1 by omega)]
      rw [if_neg h0] at q
      refine ⟨by omega, by decide, ⟨by omega, by omega, by decide⟩, ?_⟩
      rw [show ((n : Nat) : Int) - 1 = ((n - 1 : Nat) : Int) by omega, Int.toNat_natCast, Int.one_mul]
      exact q
end
end Tb

namespace Tb
open PySem L2 TB
local macro_rules | `(tactic| walk_at "rd") => `(tactic| try simp only [tSeq, tNext, tIfS, tRet, tRetN, tDrop, tAsg, gName, gNil, gCons, gSub, gTup, tVar, tC, tOp, tUn, rI, rI0, rU, rEq, rNe, tTest, tB, tChain, tChain3, rSortedB, rSortedP, rSortedD, rListD, rDictP, iDict, tThaw, rDClear, tDisp, tPairs, kit_dict_dict, rIndex, rIsX, rIsXT, rIsXd, rIsXV, rIsXTd, rIsO, rIxS2, rSlS, rFind, rIndexT, rLenT, rStrT, rIntT, rAddT, rMulT, rInT, iTxt, tx_str, tTxts, kit_str_str, rIn, tListRev, tAug, ipI, tAnd, tOr, tNot, tAndV, tOrV, tNotV, tIf, tIsN, tNotN, tCB, tNil, tCons, tTup, tLst, tTupG, tLstG, tCall, tRaise, tTryC, tXF, sXF, tRaiseI, tTryA, tTryE, thC, thA, thNil, Ends.less, tFor_eq, tComp_eq, iList, iTup, iRng1, iRng2, iEnum, iZip, tNoIf, rIxL, rIxT, rSetL, tBM, tBM0, rAppend, tFld, sFld, tMake, tMakeN, tMethD, tTryM, tNever, rExtend, rGeL, rInS, rClear, tDNewK, tDIn, tDNotIn, tDGet, sDPut, rEqL, rEqS, rBest, rRep, rCat, tSl, tPart, tNoPart, rSlL, capt, CDiv, scal_ii, scal_bb, scal_ss, scal_nn, scal_in, scal_ni, List.map_cons, List.map_nil, List.append_nil, List.nil_append, List.cons_append, List.length_cons, List.length_nil, List.length_map, Int.zero_add, List.getElem?_cons_zero, List.getElem?_cons_succ, List.set_cons_zero, List.set_cons_succ, Option.some.injEq, Option.join_some, Option.bind_some, Option.bind_none, V.int.injEq, V.bl.injEq, V.ref.injEq, V.str.injEq, V.ty.injEq, List.cons.injEq, and_true, true_and, exists_and_left, exists_eq_left', exists_eq_left, exists_eq_right, exists_eq_right', exists_eq, exists_eq', exists_const, eq_self, decide_true, decide_false, Option.isSome_none, Option.isSome_some, Bool.false_eq_true, Bool.not_true, Bool.not_false, reduceIte, reduceCtorEq, false_and, and_false, or_false, false_or, start_def, cxOf_K, cxComp_K, and_assoc, tyOf_int, kit_int_int, kit_int_bool, kit_list_list, rep0, rep1, rep2, rep3, rep4, rep5, rep6, rep7, rep8, rep9, rep10, rep11, rep12, rLen, rIsi, rListOf, rTupOf, rSum, rAll, rAny, rSorted, kit_tuple_tuple, Nat.sub_self, Nat.reduceAdd, Nat.reduceSub, Nat.reduceEqDiff])

section
variable {P : Program} {w : World} {K : PySem.W.Frag} {mg : Str → Option Value} {base : Heap}
def mixV (c k : Int) : Int := (c + 977 * k + 31) * 48271 % 2147483647 * ((c + 977 * k + 31) * 48271 % 2147483647) % 2147483629
def spMix : Sp := fun vs H Q _ => ∃ c k : Int, vs = [.int c, .int k] ∧ Q (.int (mixV c k)) H
theorem ok_mix {f : Addr} {fd : FuncData} (h : Has K mg "_law_mixed" s__law_mixed ["_law_cell", "_law_k"] f fd) : Ok P w K mg base "_law_mixed" ["_law_cell", "_law_k"] 2 spMix := by
  refine h.ok sc__law_mixed (fun vs H Q E h => ?_) (fun cdv A outer s H vs Q E hr h => ?_)
  · obtain ⟨c, k, rfl, _⟩ := h
    rfl
  · obtain ⟨c, k, rfl, q⟩ := h
    refine ⟨_, (pss_cons (ps_set (i := 2) sc__law_mixed.nd rfl (by first | exact Or.inl rfl | exact Or.inr rfl) (pe_op op_mod (pe_op op_mul (pe_op op_add (pe_op op_add (pv 0) (pe_op op_mul pe_int (pv 1))) pe_int) pe_int) pe_int))
      (pss_one (ps_ret (pe_op op_mod (pe_op op_mul (pv 2) (pv 2)) pe_int)))), ?_⟩
    walk_at "rd"
    refine ⟨.inl ⟨by decide, by decide⟩, .inr ⟨by decide, by decide⟩, by decide, ?_⟩
    have h1 := Int.emod_nonneg ((c + 977 * k + 31) * 48271) (show (2147483647 : Int) ≠ 0 by decide)
    have h2 := Int.emod_lt_of_pos ((c + 977 * k + 31) * 48271) (show (0 : Int) < 2147483647 by decide)
    exact ⟨.inl ⟨by omega, by omega⟩, by decide, q⟩

abbrev s__law_near_even : Stmt := top 29
theorem sc__law_near_even : FnScope ["_law_size", "_law_cell", "_law_row", "_law_k", "_law_i", "_law_j", "_law_first"] ["_law_size", "_law_cell"] (defScope s__law_near_even) := ⟨rfl, rfl, rfl, by decide +kernel, rfl, by decide +kernel, by decide +kernel⟩
def spNearEven : Sp := fun vs H Q _ => ∃ (n : Nat) (c : Int), vs = [.int n, .int c] ∧ 1 ≤ n ∧ n ≤ 60 ∧ ∀ H' D T, Same H H' → H D = none → Plain T → T.length = n → H' D = some (.lst (T.map V.int)) → Q (.ref D) H'
theorem ok_near_even {f : Addr} {fd : FuncData} (h : Has K mg "_law_near_even" s__law_near_even ["_law_size", "_law_cell"] f fd) (B : Blt mg) (o__law_mixed : Ok P w K mg base "_law_mixed" ["_law_cell", "_law_k"] 2 spMix) : Ok P w K mg base "_law_near_even" ["_law_size", "_law_cell"] 3 spNearEven := by
  refine h.ok sc__law_near_even (fun vs H Q E h => ?_) (fun cdv A outer s H vs Q E hr h => ?_)
  · obtain ⟨n, c, rfl, _⟩ := h
    rfl
  · obtain ⟨n, c, rfl, lo, hi, q⟩ := h
    have e0 : 0 ≤ mixV c 0 % 6 ∧ mixV c 0 % 6 ≤ 5 := by omega
    refine ⟨_, (pss_cons (ps_setC (i := 2) (N' := ["_law_k", "_law_cell"]) (π := [none, some 1]) (CompScope.of (by kernel_rfl)) rfl sc__law_near_even.nd rfl rfl (pi_range1 rfl B.range_ (pa_cons (pv 0) pa_nil)) (fun _ _ _ _ _ => (pg_name (i := 0) (show List.Nodup (["_law_k", "_law_cell"] : List Str) by decide +kernel) rfl (by first | exact Or.inl rfl | exact Or.inr rfl))) (fun _ _ _ _ _ => pifs_nil) (fun _ _ _ _ _ => (pe_op op_mod (pe_callO o__law_mixed (hr.mono (by decide)) rfl passE0 (pa_cons (pv 1) (pa_cons pe_int pa_nil))) pe_int)))
      (pss_cons (ps_for ownX rfl (pi_range1 rfl B.range_ (pa_cons (pe_op op_mod (pe_callO o__law_mixed (hr.mono (by decide)) rfl passX (pa_cons (pv 1) (pa_cons pe_int pa_nil))) pe_int) pa_nil)) (pg_name (i := 3) sc__law_near_even.nd rfl (by first | exact Or.inl rfl | exact Or.inr rfl)) (pss_cons (ps_set (i := 4) sc__law_near_even.nd rfl (by first | exact Or.inl rfl | exact Or.inr rfl) (pe_op op_mod (pe_callO o__law_mixed (hr.mono (by decide)) rfl passX (pa_cons (pv 1) (pa_cons (pe_op op_add (pv 3) pe_int) pa_nil))) (pv 0)))
      (pss_cons (ps_set (i := 5) sc__law_near_even.nd rfl (by first | exact Or.inl rfl | exact Or.inr rfl) (pe_op op_add (pe_op op_add (pv 4) pe_int) (pe_op op_mod (pe_callO o__law_mixed (hr.mono (by decide)) rfl passX (pa_cons (pv 1) (pa_cons (pe_op op_add (pv 3) pe_int) pa_nil))) pe_int)))
      (pss_one (ps_if (PW.pt (pw_and (pt_cmpR op_lt (pv 5) (pv 0) (nomark _)) (pw_and1 (pt_cmpR op_ge (pe_op op_sub (pe_op op_add (pe_ix (ix_listK (K := K) rfl) (pv 2) (pv 4) (fun _ _ => rfl)) (pv 4)) (pv 5)) pe_int (nomark _))))) (pss_cons (ps_set (i := 6) sc__law_near_even.nd rfl (by first | exact Or.inl rfl | exact Or.inr rfl) (pe_ix (ix_listK (K := K) rfl) (pv 2) (pv 4) (fun _ _ => rfl)))
      (pss_cons (ps_asg (pe_op op_sub (pe_op op_add (pe_ix (ix_listK (K := K) rfl) (pv 2) (pv 5) (fun _ _ => rfl)) (pv 5)) (pv 4)) (pg_sub (pv 2) (pv 4) set_list))
      (pss_one (ps_asg (pe_op op_sub (pe_op op_add (pv 6) (pv 4)) (pv 5)) (pg_sub (pv 2) (pv 5) set_list))))) pss_nil)))))
      (pss_one (ps_ret (pv 2))))), ?_⟩
    walk_at "rd"
    refine ⟨by omega, by omega, ?_⟩
    rw [Int.toNat_natCast]
    refine comp_range (by omega) (fun i ys σ H' => i ≤ n ∧ (∃ o, σ = [o, some (V.int c)]) ∧ H' = H ∧ ys = (List.replicate i (mixV c 0 % 6)).map V.int) ⟨Nat.zero_le _, ⟨_, rfl⟩, rfl, rfl⟩ (fun i ys σ H' p => ?_) (fun i ys σ H' hlt pv => ?_) (fun ys σ H' D pv hD => ?_)
    · rw [p.2.2.2]; simp
    · obtain ⟨_, ⟨o, rfl⟩, rfl, rfl⟩ := pv
      walk_at "rd"
      refine ⟨c, 0, rfl, ?_⟩
      walk_at "rd"
      refine ⟨by decide, hlt, ?_⟩
      rw [List.replicate_succ', List.map_append]
      rfl
    obtain ⟨_, _, rfl, rfl⟩ := pv
    walk_at "rd"
    refine ⟨c, 1, rfl, ?_⟩
    walk_at "rd"
    have m9 : 0 ≤ mixV c 1 % 9 ∧ mixV c 1 % 9 ≤ 8 := by omega
    refine ⟨by decide, by omega, by omega, ?_⟩
    obtain ⟨N, hN⟩ := Int.eq_ofNat_of_zero_le m9.1
    rw [hN, Int.toNat_natCast]
    have N8 : N ≤ 8 := by omega
    refine for_range (fun k σ H2 => k ≤ N ∧ (∃ o1 o2 o3 o4, σ = [some (V.int n), some (V.int c), some (V.ref D), o1, o2, o3, o4]) ∧ ∃ T, Pat T ∧ T.length = n ∧ (∀ x ∈ T, 0 ≤ x ∧ x ≤ 5 + 4 * (k : Int)) ∧ H2 = upd H' D (.lst (T.map V.int))) ⟨Nat.zero_le _, ⟨_, _, _, _, rfl⟩, _, even_pat lo hi ⟨by omega, by omega⟩, by simp, fun x hx => by rw [List.eq_of_mem_replicate hx]; omega, rfl⟩ (fun k σ H2 hlt pv => ?_) (fun σ H2 pv => ?_)
    · obtain ⟨_, ⟨o1, o2, o3, o4, rfl⟩, T, pT, lT, bT, rfl⟩ := pv
      have n0 : (0 : Int) < n := by omega
      walk_at "rd"
      refine ⟨_, _, rfl, ?_⟩
      walk_at "rd"
      have g0 := Int.emod_nonneg (mixV c (k + 2)) (show (n : Int) ≠ 0 by omega)
      have g1 := Int.emod_lt_of_pos (mixV c (k + 2)) n0
      obtain ⟨i, hi'⟩ := Int.eq_ofNat_of_zero_le g0
      rw [hi'] at g1 ⊢
      refine ⟨n0, _, _, rfl, ?_⟩
      walk_at "rd"
      have g2 : 0 ≤ mixV c (k + 12) % 4 ∧ mixV c (k + 12) % 4 ≤ 3 := by omega
      obtain ⟨d, hd⟩ := Int.eq_ofNat_of_zero_le g2.1
      rw [hd, show (i : Int) + 1 + (d : Int) = ((i + 1 + d : Nat) : Int) by push_cast; rfl]
      refine ⟨by decide, ?_⟩
      have hiT : i < T.length := by omega
      have keep : ∃ U, Pat U ∧ U.length = n ∧ (∀ x ∈ U, 0 ≤ x ∧ x ≤ 5 + 4 * ((k + 1 : Nat) : Int)) ∧ upd H' D (.lst (T.map V.int)) = upd H' D (.lst (U.map V.int)) := ⟨T, pT, lT, fun x hx => by have := bT x hx; omega, rfl⟩
      by_cases c1 : ((i + 1 + d : Nat) : Int) < n
      case neg =>
        rw [decide_eq_false c1]
        walk_at "rd"
        exact ⟨hlt, keep⟩
      rw [decide_eq_true c1]
      walk_at "rd"
      have hjT : i + 1 + d < T.length := by omega
      refine ⟨_, .of upd_same, _, at_ints hiT, ?_⟩
      walk_at "rd"
      by_cases c2 : 0 ≤ T.getD i 0 + (i : Int) - ((i + 1 + d : Nat) : Int)
      case neg =>
        rw [decide_eq_false c2]
        walk_at "rd"
        exact ⟨hlt, keep⟩
      rw [decide_eq_true c2]
      walk_at "rd"
      refine ⟨_, .of upd_same, _, at_ints hiT, _, .of upd_same, _, at_ints hjT, ?_⟩
      walk_at "rd"
      have hm : (i + 1 + d) % T.length = i + 1 + d := Nat.mod_eq_of_lt hjT
      have bd : ∀ x ∈ swapL T i (i + 1 + d), 0 ≤ x ∧ x ≤ 5 + 4 * ((k + 1 : Nat) : Int) := by
        intro x hx
        obtain ⟨b, hb, rfl⟩ := List.getElem_of_mem hx
        rw [swap_len] at hb
        have e : (swapL T i (i + 1 + d))[b]'(by rw [swap_len]; exact hb) = (swapL T i (i + 1 + d)).getD b 0 := (getD_get (by rw [swap_len]; exact hb)).symm
        rw [e, swap_at hiT, hm]
        have h1 := bT _ (TB.getD_mem hiT)
        have h2 := bT _ (TB.getD_mem hjT)
        have h3 := bT _ (TB.getD_mem hb)
        split
        · omega
        · split
          · omega
          · omega
      have hjT' : i + 1 + d < ((T.map V.int).set i (V.int (T.getD (i + 1 + d) 0 + ((i + 1 + d : Nat) : Int) - (i : Int)))).length := by rw [List.length_set, List.length_map]; exact hjT
      refine ⟨_, upd_same, _, ixN_nat (by rw [List.length_map]; exact hiT), _, upd_same, _, ixN_nat hjT', hlt, swapL T i (i + 1 + d), swap_pat pT hiT (fun x hx => by have := bd x hx; omega), by rw [swap_len]; exact lT, bd, ?_⟩
      rw [upd_upd, upd_upd]
      unfold swapL
      rw [hm, map_set_int, map_set_int, Int.add_comm (T.getD (i + 1 + d) 0), Int.add_comm (T.getD i 0)]
    · obtain ⟨_, ⟨o1, o2, o3, o4, rfl⟩, T, pT, lT, bT, rfl⟩ := pv
      walk_at "rd"
      exact q _ D T (same_upd hD) hD ⟨pT, fun x hx => by have := bT x hx; omega⟩ lT upd_same
end
end Tb

namespace Tb
open PySem L2 TB
local macro_rules | `(tactic| walk_at "rd") => `(tactic| try simp only [tSeq, tNext, tIfS, tRet, tRetN, tDrop, tAsg, gName, gNil, gCons, gSub, gTup, tVar, tC, tOp, tUn, rI, rI0, rU, rEq, rNe, tTest, tB, tChain, tChain3, rSortedB, rSortedP, rSortedD, rListD, rDictP, iDict, tThaw, rDClear, tDisp, tPairs, kit_dict_dict, rIndex, rIsX, rIsXT, rIsXd, rIsXV, rIsXTd, rIsO, rIxS2, rSlS, rFind, rIndexT, rLenT, rStrT, rIntT, rAddT, rMulT, rInT, iTxt, tx_str, tTxts, kit_str_str, rIn, tListRev, tAug, ipI, tAnd, tOr, tNot, tAndV, tOrV, tNotV, tIf, tIsN, tNotN, tCB, tNil, tCons, tTup, tLst, tTupG, tLstG, tCall, tRaise, tTryC, tXF, sXF, tRaiseI, tTryA, tTryE, thC, thA, thNil, Ends.less, tFor_eq, tComp_eq, iList, iTup, iRng1, iRng2, iEnum, iZip, tNoIf, rIxL, rIxT, rSetL, tBM, tBM0, rAppend, tFld, sFld, tMake, tMakeN, tMethD, tTryM, tNever, rExtend, rGeL, rInS, rClear, tDNewK, tDIn, tDNotIn, tDGet, sDPut, rEqL, rEqS, rBest, rRep, rCat, tSl, tPart, tNoPart, rSlL, capt, CDiv, scal_ii, scal_bb, scal_ss, scal_nn, scal_in, scal_ni, List.map_cons, List.map_nil, List.append_nil, List.nil_append, List.cons_append, List.length_cons, List.length_nil, List.length_map, Int.zero_add, List.getElem?_cons_zero, List.getElem?_cons_succ, List.set_cons_zero, List.set_cons_succ, Option.some.injEq, Option.join_some, Option.bind_some, Option.bind_none, V.int.injEq, V.bl.injEq, V.ref.injEq, V.str.injEq, V.ty.injEq, List.cons.injEq, and_true, true_and, exists_and_left, exists_eq_left', exists_eq_left, exists_eq_right, exists_eq_right', exists_eq, exists_eq', exists_const, eq_self, decide_true, decide_false, Option.isSome_none, Option.isSome_some, Bool.false_eq_true, Bool.not_true, Bool.not_false, reduceIte, reduceCtorEq, false_and, and_false, or_false, false_or, start_def, cxOf_K, cxComp_K, and_assoc, tyOf_int, kit_int_int, kit_int_bool, kit_list_list, rep0, rep1, rep2, rep3, rep4, rep5, rep6, rep7, rep8, rep9, rep10, rep11, rep12, rLen, rIsi, rListOf, rTupOf, rSum, rAll, rAny, rSorted, kit_tuple_tuple, Nat.sub_self, Nat.reduceAdd, Nat.reduceSub, Nat.reduceEqDiff])

section
variable {P : Program} {w : World} {K : PySem.W.Frag} {mg : Str → Option Value} {base : Heap}
/-- pairs of a state and a throw, at places of a kind -/
inductive Tps (fr : Addr → Prop) (H : Hp) : List Addr → List Stp → Prop
  | nil : Tps fr H [] []
  | cons {u : Addr} {p : Stp} {us : List Addr} {l : List Stp} (f : fr u) (h : H u = some (.tup [.int p.1, .int p.2])) (r : Tps fr H us l) : Tps fr H (u :: us) (p :: l)
theorem Tps.mono {fr fr' : Addr → Prop} {H H' : Hp} (k : ∀ x o, fr x → H x = some o → fr' x ∧ H' x = some o) : ∀ {us : List Addr} {l : List Stp}, Tps fr H us l → Tps fr' H' us l
  | _, _, .nil => .nil
  | _, _, .cons f h r => .cons (k _ _ f h).1 (k _ _ f h).2 (r.mono k)
theorem Tps.append {fr : Addr → Prop} {H : Hp} : ∀ {us vs : List Addr} {l m : List Stp}, Tps fr H us l → Tps fr H vs m → Tps fr H (us ++ vs) (l ++ m)
  | _, _, _, _, .nil, h => h
  | _, _, _, _, .cons f h r, g => .cons f h (r.append g)
theorem Tps.snoc {fr : Addr → Prop} {H : Hp} {us : List Addr} {l : List Stp} {u : Addr} {p : Stp} (t : Tps fr H us l) (f : fr u) (h : H u = some (.tup [.int p.1, .int p.2])) : Tps fr H (us ++ [u]) (l ++ [p]) := t.append (.cons f h .nil)
theorem Tps.len {fr : Addr → Prop} {H : Hp} : ∀ {us : List Addr} {l : List Stp}, Tps fr H us l → us.length = l.length
  | _, _, .nil => rfl
  | _, _, .cons _ _ r => by simp [r.len]
theorem Tps.at_ {fr : Addr → Prop} {H : Hp} : ∀ {us : List Addr} {l : List Stp}, Tps fr H us l → ∀ (i : Nat) (x : V), (us.map V.ref)[i]? = some x → ∃ (u : Addr) (p : Stp), x = V.ref u ∧ l[i]? = some p ∧ us[i]? = some u ∧ H u = some (.tup [.int p.1, .int p.2])
  | _, _, .nil, _, _, h => by simp at h
  | _, _, .cons (u := u) (p := p) f h r, 0, x, e => by
    simp at e
    exact ⟨u, p, e.symm, rfl, rfl, h⟩
  | _, _, .cons _ _ r, i + 1, x, e => by
    obtain ⟨u, p, h1, h2, h3, h4⟩ := r.at_ i x (by simpa using e)
    exact ⟨u, p, h1, by simpa using h2, by simpa using h3, h4⟩
/-- a step that may be done -/
def OkStp (p : Stp) : Prop := 0 ≤ p.1 ∧ p.1 < 2 ^ 60 ∧ 0 ≤ p.2 ∧ p.2 ≤ 60 ∧ letsI p.1 p.2.toNat
theorem leads_at {L : Int → Int → Int} : ∀ {s x : Int} {l : List Stp}, leads L s l x → ∀ (i : Nat) (p : Stp), l[i]? = some p → ∃ c, leads L s (l.take i) c ∧ p.1 = c
  | _, _, [], _, _, _, h => by simp at h
  | s, _, q :: l, h, 0, p, e => by
    simp at e
    exact ⟨s, rfl, e ▸ h.1⟩
  | s, _, q :: l, h, i + 1, p, e => by
    obtain ⟨c, h1, h2⟩ := leads_at h.2 i p (by simpa using e)
    exact ⟨c, ⟨h.1, h1⟩, h2⟩
theorem leads_fun {L : Int → Int → Int} : ∀ {s x y : Int} {l : List Stp}, leads L s l x → leads L s l y → x = y
  | _, _, _, [], h, h' => h.symm.trans h'
  | _, _, _, _ :: _, h, h' => leads_fun h.2 h'.2

abbrev s__law_loop_steps : Stmt := top 32
theorem sc__law_loop_steps : FnScope ["_law_loop", "_law_state", "_law_steps", "_law_throw"] ["_law_loop"] (defScope s__law_loop_steps) := ⟨rfl, rfl, rfl, by decide +kernel, rfl, by decide +kernel, by decide +kernel⟩
def spSteps : Sp := fun vs H Q _ => ∃ (t b : Addr) (s : Int) (l : List Stp), vs = [.ref t] ∧ H t = some (.tup [.int s, .ref b]) ∧ H b = some (.lst ((snds l).map V.int)) ∧ leads ledT s l s ∧ Loop ledT l ∧ (∀ p ∈ l, OkStp p) ∧ l.length ≤ 60 ∧
  ∀ H' D us, Same H H' → H D = none → H' D = some (.lst (us.map V.ref)) → Tps (fun x => H x = none ∧ x ≠ D) H' us l → Q (.ref D) H'
theorem ok_loop_steps {f : Addr} {fd : FuncData} (h : Has K mg "_law_loop_steps" s__law_loop_steps ["_law_loop"] f fd) (B : Blt mg) (o__law_led : Ok P w K mg base "_law_led" ["_law_state", "_law_throw"] 2 spLawLed) : Ok P w K mg base "_law_loop_steps" ["_law_loop"] 3 spSteps := by
  refine h.ok sc__law_loop_steps (fun vs H Q E h => ?_) (fun cdv A outer s H vs Q E hr h => ?_)
  · obtain ⟨t, b, s, l, rfl, _⟩ := h
    rfl
  · obtain ⟨t, b, z, l, rfl, ht, hb, ld, lp, hok, hlen, q⟩ := h
    have lne : (snds l).map V.int ≠ [] := fun e => lp.ne (by simpa [snds] using e)
    have at0 : atI [V.int z, V.ref b] 0 = some (V.int z) := rfl
    have at1 : atI [V.int z, V.ref b] 1 = some (V.ref b) := rfl
    have z0 : OkStp (z, 0) ∨ True := .inr trivial
    have zb : 0 ≤ z ∧ z < 2 ^ 60 := by
      cases l with
      | nil => exact absurd rfl lp.ne
      | cons p l => have := hok p (List.mem_cons_self ..); rw [← ld.1]; exact ⟨this.1, this.2.1⟩
    refine ⟨_, (pss_cons (ps_if (PW.pt (pw_or (pt_not (pt_val (pe_callB (call_isinstK (K := K) rfl) rfl B.isinstance_ bt_isinstance (pa_cons (pv 0) (pa_cons (pe_tyN B.tuple_ bt_tuple) pa_nil))))) (pw_or (pt_cmpR op_ne (pe_callB (call_len_seqK (K := K) rfl) rfl B.len_ bt_len (pa_cons (pv 0) pa_nil)) pe_int (nomark _)) (pw_or (pt_not (pt_val (pe_callB (call_isinstK (K := K) rfl) rfl B.isinstance_ bt_isinstance (pa_cons (pe_ix (ix_tupK (K := K) rfl) (pv 0) pe_int (fun _ _ => rfl)) (pa_cons (pe_tyN B.list_ bt_list) pa_nil))))) (pw_or1 (pt_not (pt_truthK (K := K) rfl (pe_ix (ix_tupK (K := K) rfl) (pv 0) pe_int (fun _ _ => rfl)) (fun _ => rfl)))))))) (pss_one (ps_ret pe_non)) pss_nil)
      (pss_cons (ps_set (i := 1) sc__law_loop_steps.nd rfl (by first | exact Or.inl rfl | exact Or.inr rfl) (pe_ix (ix_tupK (K := K) rfl) (pv 0) pe_int (fun _ _ => rfl)))
      (pss_cons (ps_if (PW.pt (pw_or (pt_not (pt_val (pe_callB (call_isinstK (K := K) rfl) rfl B.isinstance_ bt_isinstance (pa_cons (pv 1) (pa_cons (pe_tyN B.int_ bt_int) pa_nil))))) (pw_or (pt_val (pe_callB (call_isinstK (K := K) rfl) rfl B.isinstance_ bt_isinstance (pa_cons (pv 1) (pa_cons (pe_tyN B.bool_ bt_bool) pa_nil)))) (pw_or1 (pt_not (pt_chain op_le op_lt pe_int (pv 1) (pe_op op_pow pe_int pe_int))))))) (pss_one (ps_ret pe_non)) pss_nil)
      (pss_cons (ps_set (i := 2) sc__law_loop_steps.nd rfl (by first | exact Or.inl rfl | exact Or.inr rfl) (pe_lst pa_nil))
      (pss_cons (ps_for ownX rfl (pi_listK (K := K) rfl (pe_ix (ix_tupK (K := K) rfl) (pv 0) pe_int (fun _ _ => rfl))) (pg_name (i := 3) sc__law_loop_steps.nd rfl (by first | exact Or.inl rfl | exact Or.inr rfl)) (pss_cons (ps_if (PW.pt (pw_or (pt_cmpR op_lt (pv 1) pe_int (nomark _)) (pw_or1 (pt_cmpR (op_in_seqK (K := K) rfl) (pv 1) (pe_comp (N' := ["_law_step"]) (π := [none]) (CompScope.of (by kernel_rfl)) rfl (pi_listK (K := K) rfl (pv 2)) (fun _ _ _ _ _ => (pg_name (i := 0) (show List.Nodup (["_law_step"] : List Str) by decide +kernel) rfl (by first | exact Or.inl rfl | exact Or.inr rfl))) (fun _ _ _ _ _ => pifs_nil) (fun _ _ _ _ _ => (pe_ix (ix_tupK (K := K) rfl) (pv 0) pe_int (fun _ _ => rfl)))) (by with_unfolding_all rfl))))) (pss_one (ps_ret pe_non)) pss_nil)
      (pss_cons (ps_expr (pe_bmK (K := K) rfl PySem.F.plainAttrs_list PySem.F.slot_list_append PySem.F.type_list_append mt_append (pv 2) (pa_cons (pe_tup (pa_cons (pv 1) (pa_cons (pv 3) pa_nil))) pa_nil)))
      (pss_one (ps_set (i := 1) sc__law_loop_steps.nd rfl (by first | exact Or.inl rfl | exact Or.inr rfl) (pe_callO o__law_led (hr.mono (by decide)) rfl passX (pa_cons (pv 1) (pa_cons (pv 3) pa_nil))))))))
      (pss_cons (ps_if (pt_cmpR op_ne (pv 1) (pe_ix (ix_tupK (K := K) rfl) (pv 0) pe_int (fun _ _ => rfl)) (nomark _)) (pss_one (ps_ret pe_non)) pss_nil)
      (pss_one (ps_ret (pv 2))))))))), ?_⟩
    walk_at "rd"
    refine ⟨_, .tup ht, _, kit_tuple_tuple, ?_⟩
    walk_at "rd"
    refine ⟨_, .inr (.of ht), ?_⟩
    walk_at "rd"
    refine ⟨_, .of ht, _, at1, _, .lst hb, _, kit_list_list, ?_⟩
    walk_at "rd"
    refine ⟨_, .of ht, _, at1, true, .inl ⟨_, .of hb, by cases hz : (snds l).map V.int with | nil => exact absurd hz lne | cons x r => rfl⟩, _, .of ht, _, at0, _, .int z, _, kit_int_int, ?_⟩
    walk_at "rd"
    rw [decide_eq_true zb.1]
    walk_at "rd"
    refine ⟨⟨by decide, by decide, by decide⟩, ?_⟩
    rw [decide_eq_true (show z < 2 ^ Int.toNat 60 from zb.2)]
    walk_at "rd"
    refine ⟨by decide, fun D hD => ?_⟩
    have s1 : Same H (upd H D (.lst [])) := same_upd hD
    have e1 : (upd H D (.lst [])) D = some (.lst []) := upd_same
    generalize upd H D (.lst []) = H1 at s1 e1 ⊢
    refine ⟨_, .of (s1 _ _ ht), _, at1, ?_⟩
    walk_at "rd"
    refine ⟨⟨_, .of (s1 _ _ hb)⟩, for_list (xs := (snds l).map V.int) (fun i σ H' => i ≤ l.length ∧ ∃ c us o, σ = [some (V.ref t), some (V.int c), some (V.ref D), o] ∧ Same H H' ∧ H' D = some (.lst (us.map V.ref)) ∧ Tps (fun x => H x = none ∧ x ≠ D) H' us (l.take i) ∧ leads ledT z (l.take i) c) ⟨Nat.zero_le _, z, [], none, rfl, s1, e1, .nil, rfl⟩ (fun i σ H' _ pv => ?_) (fun i x σ H' hx pv => ?_) (fun σ H' pv => ?_)⟩
    · obtain ⟨_, c, us, o, rfl, sH, _⟩ := pv
      exact .of (sH _ _ hb)
    · obtain ⟨_, c, us, o, rfl, sH, hD', tp, ldc⟩ := pv
      obtain ⟨hi, rfl⟩ := ints_at hx
      have hil : i < l.length := by simpa [snds] using hi
      have hp : l[i]? = some l[i] := List.getElem?_eq_getElem hil
      have eth : (snds l).getD i 0 = (l[i]).2 := by simp [snds, List.getD_eq_getElem?_getD, hil]
      rw [eth]
      obtain ⟨c', l1, l2⟩ := leads_at ld i _ hp
      have ec : (l[i]).1 = c := l2.trans (leads_fun l1 ldc)
      have okp := hok _ (List.getElem_mem hil)
      obtain ⟨p, ep⟩ : ∃ p, l[i] = p := ⟨_, rfl⟩
      have ent : l.take (i + 1) = l.take i ++ [p] := by rw [List.take_succ, hp, ep]; rfl
      have nin : c ∉ fsts (l.take i) := fun hm => by
        have nd := lp.nd
        rw [← List.take_append_drop i l, List.map_append, List.nodup_append] at nd
        refine nd.2.2 c hm c ?_ rfl
        rw [List.drop_eq_getElem_cons hil, List.map_cons, ec]
        exact List.mem_cons_self ..
      rw [ep] at ec okp ⊢
      obtain ⟨k0, k1, k2, k3, k4⟩ := okp
      rw [ec] at k0 k1 k4
      obtain ⟨n, hn⟩ := Int.eq_ofNat_of_zero_le k2
      have lus := tp.len
      have lti : (l.take i).length = i := by rw [List.length_take]; omega
      walk_at "rd"
      rw [decide_eq_false (show ¬ c < 0 by omega)]
      walk_at "rd"
      refine ⟨⟨_, .of hD'⟩, comp_list (xs := us.map V.ref) (by rw [List.length_map]; omega) (fun j ys σ H2 => j ≤ i ∧ (∃ o, σ = [o]) ∧ H2 = H' ∧ ys = ((fsts (l.take i)).take j).map V.int) ⟨Nat.zero_le _, ⟨_, rfl⟩, rfl, rfl⟩ (fun j ys σ H2 pv => ?_) (fun j ys σ H2 _ pv => by rw [pv.2.2.1]; exact .of hD') (fun j ys σ H2 x hx pv => ?_) (fun ys σ H2 E2 pv hE2 => ?_)⟩
      · rw [pv.2.2.2]
        simp [fsts, lti]
        omega
      · obtain ⟨_, ⟨o, rfl⟩, rfl, rfl⟩ := pv
        obtain ⟨u, pj, rfl, h1, h2, h3⟩ := tp.at_ j x hx
        have hj : j < (l.take i).length := (List.getElem?_eq_some_iff.mp h1).1
        walk_at "rd"
        refine ⟨_, .of h3, _, rfl, by omega, ?_⟩
        have h5 : (fsts (l.take i))[j]? = some pj.1 := by unfold fsts; rw [List.getElem?_map, h1]; rfl
        rw [List.take_succ, h5, List.map_append]
        rfl
      obtain ⟨_, _, rfl, rfl⟩ := pv
      rw [show (fsts (l.take i)).take (us.map V.ref).length = fsts (l.take i) from List.take_of_length_le (by simp [fsts]; omega)]
      have sE : Same H2 (upd H2 E2 (.lst ((fsts (l.take i)).map V.int))) := same_upd hE2
      have eE : (upd H2 E2 (.lst ((fsts (l.take i)).map V.int))) E2 = some (.lst ((fsts (l.take i)).map V.int)) := upd_same
      generalize upd H2 E2 (.lst ((fsts (l.take i)).map V.int)) = H3 at sE eE ⊢
      refine ⟨_, rfl, _, .inl (.of eE), rfl, flat_ints _, ?_⟩
      rw [inV_ints, decide_eq_false nin]
      walk_at "rd"
      have g1 := sE _ _ hD'
      refine ⟨.inl ⟨rfl, _, .of g1⟩, by decide, fun T hT => ?_⟩
      have sT : Same H3 (upd H3 T (.tup [.int c, .int p.2])) := same_upd hT
      have eT : (upd H3 T (.tup [.int c, .int p.2])) T = some (.tup [.int c, .int p.2]) := upd_same
      generalize upd H3 T (.tup [.int c, .int p.2]) = H4 at sT eT ⊢
      have g2 := sT _ _ g1
      have nTD : T ≠ D := fun e => by rw [e, g1] at hT; cases hT
      have s4 : Same H H4 := sH.trans (sE.trans sT)
      refine ⟨_, g2, small1000 (by rw [List.length_map]; omega), c, n, by rw [hn], by omega, by rw [hn] at k4; exact k4, hil, _, rfl, fun b o e => by rw [upd_ne (ne_of_none e hD)]; exact s4 _ _ e, us ++ [T], ?_, ?_, ?_⟩
      · rw [upd_same, List.map_append]
        rfl
      · rw [ent]
        refine Tps.snoc (tp.mono fun x o f e => ⟨f, by rw [upd_ne f.2]; exact sT _ _ (sE _ _ e)⟩) ⟨(sH.trans sE).free hT, nTD⟩ ?_
        rw [upd_ne nTD, ec]
        exact eT
      · rw [ent]
        have := leads_append ldc (leads_one (L := ledT) (s := c) (t := p.2))
        rw [show p = (c, p.2) from by rw [← ec]]
        rw [show ledT c p.2 = ledI c n by unfold ledT; rw [hn]; rfl] at this
        exact this
    · obtain ⟨_, c, us, o, rfl, sH, hD', tp, ldc⟩ := pv
      have el : l.take ((snds l).map V.int).length = l := List.take_of_length_le (by simp [snds])
      rw [el] at tp ldc
      have ec : c = z := leads_fun ldc ld
      walk_at "rd"
      refine ⟨_, .of (sH _ _ ht), _, at0, rfl, ?_⟩
      rw [ec]
      walk_at "rd"
      exact q H' D us sH hD hD' tp
end
end Tb

namespace Tb
open PySem L2 TB
local macro_rules | `(tactic| walk_at "rd") => `(tactic| try simp only [tSeq, tNext, tIfS, tRet, tRetN, tDrop, tAsg, gName, gNil, gCons, gSub, gTup, tVar, tC, tOp, tUn, rI, rI0, rU, rEq, rNe, tTest, tB, tChain, tChain3, rSortedB, rSortedP, rSortedD, rListD, rDictP, iDict, tThaw, rDClear, tDisp, tPairs, kit_dict_dict, rIndex, rIsX, rIsXT, rIsXd, rIsXV, rIsXTd, rIsO, rIxS2, rSlS, rFind, rIndexT, rLenT, rStrT, rIntT, rAddT, rMulT, rInT, iTxt, tx_str, tTxts, kit_str_str, rIn, tListRev, tAug, ipI, tAnd, tOr, tNot, tAndV, tOrV, tNotV, tIf, tIsN, tNotN, tCB, tNil, tCons, tTup, tLst, tTupG, tLstG, tCall, tRaise, tTryC, tXF, sXF, tRaiseI, tTryA, tTryE, thC, thA, thNil, Ends.less, tFor_eq, tComp_eq, iList, iTup, iRng1, iRng2, iEnum, iZip, tNoIf, rIxL, rIxT, rSetL, tBM, tBM0, rAppend, tFld, sFld, tMake, tMakeN, tMethD, tTryM, tNever, rExtend, rGeL, rInS, rClear, tDNewK, tDIn, tDNotIn, tDGet, sDPut, rEqL, rEqS, rBest, rRep, rCat, tSl, tPart, tNoPart, rSlL, capt, CDiv, scal_ii, scal_bb, scal_ss, scal_nn, scal_in, scal_ni, List.map_cons, List.map_nil, List.append_nil, List.nil_append, List.cons_append, List.length_cons, List.length_nil, List.length_map, Int.zero_add, List.getElem?_cons_zero, List.getElem?_cons_succ, List.set_cons_zero, List.set_cons_succ, Option.some.injEq, Option.join_some, Option.bind_some, Option.bind_none, V.int.injEq, V.bl.injEq, V.ref.injEq, V.str.injEq, V.ty.injEq, List.cons.injEq, and_true, true_and, exists_and_left, exists_eq_left', exists_eq_left, exists_eq_right, exists_eq_right', exists_eq, exists_eq', exists_const, eq_self, decide_true, decide_false, Option.isSome_none, Option.isSome_some, Bool.false_eq_true, Bool.not_true, Bool.not_false, reduceIte, reduceCtorEq, false_and, and_false, or_false, false_or, start_def, cxOf_K, cxComp_K, and_assoc, tyOf_int, kit_int_int, kit_int_bool, kit_list_list, rep0, rep1, rep2, rep3, rep4, rep5, rep6, rep7, rep8, rep9, rep10, rep11, rep12, rLen, rIsi, rListOf, rTupOf, rSum, rAll, rAny, rSorted, kit_tuple_tuple, Nat.sub_self, Nat.reduceAdd, Nat.reduceSub, Nat.reduceEqDiff])

section
variable {P : Program} {w : World} {K : PySem.W.Frag} {mg : Str → Option Value} {base : Heap}
def codeAt (H : Hp) (t : Addr) : Int := match H t with | some (.tup [.int x, .int y]) => x * 64 + y | _ => 0
theorem codeAt_of {H : Hp} {t : Addr} {x y : Int} (h : H t = some (.tup [.int x, .int y])) : codeAt H t = x * 64 + y := by
  unfold codeAt
  rw [h]
theorem Tps.codes {fr : Addr → Prop} {H : Hp} : ∀ {us : List Addr} {l : List Stp}, Tps fr H us l → us.map (codeAt H) = l.map TB.code
  | _, _, .nil => rfl
  | _, _, .cons f h r => by rw [List.map_cons, List.map_cons, codeAt_of h, r.codes]; rfl
theorem Tps.tups {fr : Addr → Prop} {H : Hp} : ∀ {us : List Addr} {l : List Stp}, Tps fr H us l → (∀ p ∈ l, 0 ≤ p.2 ∧ p.2 ≤ 60) → ∀ t ∈ us, ∃ x y : Int, H t = some (.tup [.int x, .int y]) ∧ codeAt H t = x * 64 + y ∧ 0 ≤ y ∧ y < 64
  | _, _, .nil, _ => fun _ h => by cases h
  | _, _, .cons (p := p) f h r, b => fun t ht => by
    rcases List.mem_cons.mp ht with e | e
    · subst e
      have := b p (List.mem_cons_self ..)
      exact ⟨_, _, h, codeAt_of h, this.1, by omega⟩
    · exact r.tups (fun p hp => b p (List.mem_cons_of_mem _ hp)) t e
def dPair (c : Int) : PyData := .tuple [.int (c / 64), .int (c % 64)]
theorem dp_pairs {K : PySem.W.Frag} {H : Hp} {f : Addr → Int} : ∀ {us : List Addr}, (∀ t ∈ us, ∃ x y : Int, H t = some (.tup [.int x, .int y]) ∧ f t = x * 64 + y ∧ 0 ≤ y ∧ y < 64) → DpAll K H (us.map V.ref) ((us.map f).map dPair)
  | [], _ => .nil
  | t :: us, h => by
    obtain ⟨x, y, h1, h2, h3, h4⟩ := h t (List.mem_cons_self ..)
    refine .cons ?_ (dp_pairs fun u hu => h u (List.mem_cons_of_mem _ hu))
    unfold dPair
    rw [h2, show (x * 64 + y) / 64 = x by omega, show (x * 64 + y) % 64 = y by omega]
    exact .tup (.of h1) (.cons (.int x) (.cons (.int y) .nil))
theorem shaped_pairs (cs : List Int) : SeqAt.shaped (.list (cs.map dPair)) = true := by
  refine shaped_of ?_ ?_
  · rw [PyData.canLay0]
    refine canLayAll_of fun d hd => ?_
    obtain ⟨c, _, rfl⟩ := List.mem_map.mp hd
    rfl
  · simp only [PyData.depth]
    have : PyData.depthAll (cs.map dPair) ≤ 2 := depthAll_of fun d hd => by
      obtain ⟨c, _, rfl⟩ := List.mem_map.mp hd
      simp [dPair, PyData.depth, PyData.depthAll]
    omega
theorem cut_toN (l : List Int) (j : Nat) : cutV (l.map V.int) none (some (j : Int)) = (l.take j).map V.int := by
  unfold cutV
  rw [HT.sIx_nat]
  simp only [HT.sIx, List.length_map, List.drop_zero, Nat.sub_zero]
  by_cases h : j ≤ l.length
  · rw [Nat.min_eq_left h, List.map_take]
  · rw [Nat.min_eq_right (by omega), List.take_of_length_le (by simp), List.take_of_length_le (by omega)]
theorem rep_ints (r : Nat) (T : List Int) : (List.replicate r (T.map V.int)).flatten = (repL r T).map V.int := by simp [repL]
theorem stps_len (ns : List Int) (i : Nat) : (stps ns i).length = i := by simp [stps]
theorem stps_snoc (ns : List Int) (i : Nat) : stps ns (i + 1) = stps ns i ++ [(S ns i, ns.getD i 0)] := by
  unfold stps
  rw [List.range_succ, List.map_append]
  rfl
theorem Lps.at_ {fr : Addr → Prop} {H : Hp} : ∀ {ts : List V} {ls : List (List Stp)}, Lps fr H ts ls → ∀ (i : Nat) (x : V), ts[i]? = some x → ∃ (t b : Addr) (s : Int) (l : List Stp), x = V.ref t ∧ ls[i]? = some l ∧ fr t ∧ fr b ∧ H t = some (.tup [.int s, .ref b]) ∧ H b = some (.lst ((snds l).map V.int)) ∧ leads ledT s l s
  | _, _, .nil, _, _, e => by simp at e
  | _, _, .cons (t := t) (b := b) (s := s) (l := l) f1 f2 ht hb hl r, 0, x, e => by
    simp at e
    exact ⟨t, b, s, l, e.symm, rfl, f1, f2, ht, hb, hl⟩
  | _, _, .cons f1 f2 ht hb hl r, i + 1, x, e => by
    obtain ⟨t, b, s, l, h1, h2, h3⟩ := r.at_ i x (by simpa using e)
    exact ⟨t, b, s, l, h1, by simpa using h2, h3⟩
theorem Lps.len {fr : Addr → Prop} {H : Hp} : ∀ {ts : List V} {ls : List (List Stp)}, Lps fr H ts ls → ts.length = ls.length
  | _, _, .nil => rfl
  | _, _, .cons _ _ _ _ _ r => by simp [r.len]
/-- what the loops' places hold, be their lists empty or not -/
def Lpw (fr : Addr → Prop) (H : Hp) (ts : List V) : Prop := ∀ x ∈ ts, ∃ (t b : Addr) (s : Int) (xs : List V), x = V.ref t ∧ fr b ∧ H t = some (.tup [.int s, .ref b]) ∧ H b = some (.lst xs)
theorem Lps.lpw {fr : Addr → Prop} {H : Hp} {ts : List V} {ls : List (List Stp)} (h : Lps fr H ts ls) : Lpw fr H ts := fun x hx => by
  obtain ⟨i, hi⟩ := List.mem_iff_getElem?.mp hx
  obtain ⟨t, b, s, l, h1, h2, f1, f2, h3, h4, _⟩ := h.at_ i x hi
  exact ⟨t, b, s, _, h1, f2, h3, h4⟩
theorem Lpw.clear {fr : Addr → Prop} {H : Hp} {ts : List V} (h : Lpw fr H ts) {c : Addr} {ys : List V} (hc : H c = some (.lst ys)) : Lpw fr (upd H c (.lst [])) ts := fun x hx => by
  obtain ⟨t, b, s, xs, h1, h2, h3, h4⟩ := h x hx
  have nt : t ≠ c := fun e => by rw [e, hc] at h3; cases h3
  by_cases e : b = c
  · exact ⟨t, b, s, [], h1, h2, by rw [upd_ne nt]; exact h3, by rw [e]; exact upd_same⟩
  · exact ⟨t, b, s, xs, h1, h2, by rw [upd_ne nt]; exact h3, by rw [upd_ne e]; exact h4⟩
theorem flat_take {α : Type} {ls : List (List α)} {i : Nat} {l : List α} (h : ls[i]? = some l) : (ls.take (i + 1)).flatten = (ls.take i).flatten ++ l := by
  rw [List.take_succ, h]
  simp
theorem flat_le {α : Type} (ls : List (List α)) (i : Nat) : (ls.take i).flatten.length ≤ ls.flatten.length := by
  conv => rhs; rw [← List.take_append_drop i ls]
  rw [List.flatten_append, List.length_append]
  omega
theorem stps_ok {ns : List Int} (p : Plain ns) : ∀ x ∈ stps ns ns.length, OkStp x := fun x hx => by
  unfold stps at hx
  obtain ⟨k, hk, rfl⟩ := List.mem_map.mp hx
  have hk := List.mem_range.mp hk
  have bd := p.S_bd k
  have b := p.pl _ (TB.getD_mem hk)
  refine ⟨bd.1, bd.2, b.1, b.2, fun z => ?_, fun z => ⟨?_, ?_⟩⟩
  · exact p.S_even (by rw [F_nat hk]; omega)
  · exact p.S_odd (by rw [F_nat hk]; omega)
  · exact p.S_clear (by rw [F_nat hk]; omega)
abbrev s_law : Stmt := top 33
theorem sc_law : FnScope ["_law_script", "_law_size", "_law_most", "_law_pattern", "_law_due", "_law_state", "_law_throw", "_law_handed", "_law_again", "_law_found", "_law_steps", "_law_loop", "_law_more"] ["_law_script"] (defScope s_law) := ⟨rfl, rfl, rfl, by decide +kernel, rfl, by decide +kernel, by decide +kernel⟩
def spLaw (K : PySem.W.Frag) : Sp := fun vs H Q _ => ∃ (a : Addr) (ns : List Int), vs = [.ref a] ∧ SqL K H a (ns.map V.int) ∧ ∀ H', Q (.bl true) H'
theorem ok_law {f : Addr} {fd : FuncData} {NP OOB : Addr} (h : Has K mg "law" s_law ["_law_script"] f fd) (B : Blt mg) (o__law_cell_at : Ok P w K mg base "_law_cell_at" ["_law_script", "_law_k"] 2 (spCellAt K)) (o__law_size_by : Ok P w K mg base "_law_size_by" ["_law_cell"] 2 spSizeBy) (o__law_plain_by : Ok P w K mg base "_law_plain_by" ["_law_size", "_law_cell", "_law_most"] 4 spPlainBy) (o__law_near_even : Ok P w K mg base "_law_near_even" ["_law_size", "_law_cell"] 3 spNearEven) (o__law_first_state : Ok P w K mg base "_law_first_state" ["_law_pattern"] 2 spLawFirst) (o__law_led : Ok P w K mg base "_law_led" ["_law_state", "_law_throw"] 2 spLawLed) (o__law_loop_steps : Ok P w K mg base "_law_loop_steps" ["_law_loop"] 3 spSteps) (o_parted : Ok P w K mg base "parted" ["pattern"] 9 (spParted NP OOB)) :
    FnOk P w K mg base (CXf P w) 11 f fd ["_law_script"] (spLaw K) := by
  refine h.fn.okX sc_law (fun vs H Q E h => ?_) (fun cdv A outer s H vs Q E hr h => ?_)
  · obtain ⟨a, ns, rfl, _⟩ := h
    rfl
  · obtain ⟨a, ns, rfl, ha, q⟩ := h
    refine ⟨_, (pss_cons (ps_set (i := 1) sc_law.nd rfl (by first | exact Or.inl rfl | exact Or.inr rfl) (pe_callO o__law_size_by (hr.mono (by decide)) rfl passX (pa_cons (pe_callO o__law_cell_at (hr.mono (by decide)) rfl passX (pa_cons (pv 0) (pa_cons pe_int pa_nil))) pa_nil)))
      (pss_cons (ps_set (i := 2) sc_law.nd rfl (by first | exact Or.inl rfl | exact Or.inr rfl) pe_int)
      (pss_cons (ps_if (pt_cmpR op_eq (pe_op op_mod (pe_callO o__law_cell_at (hr.mono (by decide)) rfl passX (pa_cons (pv 0) (pa_cons pe_int pa_nil))) pe_int) pe_int (nomark _)) (pss_one (ps_set (i := 2) sc_law.nd rfl (by first | exact Or.inl rfl | exact Or.inr rfl) pe_int)) pss_nil)
      (pss_cons (ps_set (i := 3) sc_law.nd rfl (by first | exact Or.inl rfl | exact Or.inr rfl) (pe_callO o__law_plain_by (hr.mono (by decide)) rfl passX (pa_cons (pv 1) (pa_cons (pe_callO o__law_cell_at (hr.mono (by decide)) rfl passX (pa_cons (pv 0) (pa_cons pe_int pa_nil))) (pa_cons (pv 2) pa_nil)))))
      (pss_cons (ps_if (pt_cmpR op_eq (pe_op op_mod (pe_callO o__law_cell_at (hr.mono (by decide)) rfl passX (pa_cons (pv 0) (pa_cons pe_int pa_nil))) pe_int) pe_int (nomark _)) (pss_cons (ps_set (i := 1) sc_law.nd rfl (by first | exact Or.inl rfl | exact Or.inr rfl) (pe_op op_add pe_int (pe_op op_mod (pe_callO o__law_cell_at (hr.mono (by decide)) rfl passX (pa_cons (pv 0) (pa_cons pe_int pa_nil))) pe_int)))
      (pss_one (ps_set (i := 3) sc_law.nd rfl (by first | exact Or.inl rfl | exact Or.inr rfl) (pe_callO o__law_near_even (hr.mono (by decide)) rfl passX (pa_cons (pv 1) (pa_cons (pe_callO o__law_cell_at (hr.mono (by decide)) rfl passX (pa_cons (pv 0) (pa_cons pe_int pa_nil))) pa_nil)))))) pss_nil)
      (pss_cons (ps_if (pt_cmpR op_eq (pe_op op_mod (pe_op op_fdiv (pe_callO o__law_cell_at (hr.mono (by decide)) rfl passX (pa_cons (pv 0) (pa_cons pe_int pa_nil))) pe_int) pe_int) pe_int (nomark _)) (pss_one (ps_set (i := 3) sc_law.nd rfl (by first | exact Or.inl rfl | exact Or.inr rfl) (pe_slice (sl_listK (K := K) rfl) (pe_op op_rep (pv 3) (pe_op op_add pe_int (pe_op op_mod (pe_op op_fdiv (pe_callO o__law_cell_at (hr.mono (by decide)) rfl passX (pa_cons (pv 0) (pa_cons pe_int pa_nil))) pe_int) pe_int))) po_none (po_some (pe_op op_mul (pe_op op_fdiv pe_int (pv 1)) (pv 1)))))) pss_nil)
      (pss_cons (ps_set (i := 4) sc_law.nd rfl (by first | exact Or.inl rfl | exact Or.inr rfl) (pe_lst pa_nil))
      (pss_cons (ps_set (i := 5) sc_law.nd rfl (by first | exact Or.inl rfl | exact Or.inr rfl) (pe_callO o__law_first_state (hr.mono (by decide)) rfl passX (pa_cons (pv 3) pa_nil)))
      (pss_cons (ps_for ownX rfl (pi_listK (K := K) rfl (pv 3)) (pg_name (i := 6) sc_law.nd rfl (by first | exact Or.inl rfl | exact Or.inr rfl)) (pss_cons (ps_expr (pe_bmK (K := K) rfl PySem.F.plainAttrs_list PySem.F.slot_list_append PySem.F.type_list_append mt_append (pv 4) (pa_cons (pe_tup (pa_cons (pv 5) (pa_cons (pv 6) pa_nil))) pa_nil)))
      (pss_one (ps_set (i := 5) sc_law.nd rfl (by first | exact Or.inl rfl | exact Or.inr rfl) (pe_callO o__law_led (hr.mono (by decide)) rfl passX (pa_cons (pv 5) (pa_cons (pv 6) pa_nil)))))))
      (pss_cons (ps_set (i := 7) sc_law.nd rfl (by first | exact Or.inl rfl | exact Or.inr rfl) (pe_callTy (call_list_ofK (K := K) rfl) rfl B.list_ bt_list (pa_cons (pv 3) pa_nil)))
      (pss_cons (ps_for ownX rfl (pi_range1 rfl B.range_ (pa_cons pe_int pa_nil)) (pg_name (i := 8) sc_law.nd rfl (by first | exact Or.inl rfl | exact Or.inr rfl)) (pss_cons (ps_set (i := 9) sc_law.nd rfl (by first | exact Or.inl rfl | exact Or.inr rfl) (pe_callO o_parted (hr.mono (by decide)) rfl passX (pa_cons (pv 7) pa_nil)))
      (pss_cons (ps_if (PW.pt (pw_or (pt_not (pt_val (pe_callB (call_isinstK (K := K) rfl) rfl B.isinstance_ bt_isinstance (pa_cons (pv 9) (pa_cons (pe_tyN B.list_ bt_list) pa_nil))))) (pw_or1 (pt_cmpR (op_neLK (K := K) rfl hr.units) (pv 7) (pv 3) (nomark _))))) (pss_one (ps_ret pe_bl)) pss_nil)
      (pss_cons (ps_set (i := 10) sc_law.nd rfl (by first | exact Or.inl rfl | exact Or.inr rfl) (pe_lst pa_nil))
      (pss_cons (ps_for ownX rfl (pi_listK (K := K) rfl (pv 9)) (pg_name (i := 11) sc_law.nd rfl (by first | exact Or.inl rfl | exact Or.inr rfl)) (pss_cons (ps_set (i := 12) sc_law.nd rfl (by first | exact Or.inl rfl | exact Or.inr rfl) (pe_callO o__law_loop_steps (hr.mono (by decide)) rfl passX (pa_cons (pv 11) pa_nil)))
      (pss_cons (ps_if (pt_cmp (pc_isN (pv 12))) (pss_one (ps_ret pe_bl)) pss_nil)
      (pss_one (ps_set (i := 10) sc_law.nd rfl (by first | exact Or.inl rfl | exact Or.inr rfl) (pe_op op_cat (pv 10) (pv 12)))))))
      (pss_cons (ps_if (pt_cmpR (op_neS (K := K) rfl hr.units) (pe_callB (call_sortedP (K := K) rfl rfl) rfl B.sorted_ bt_sorted (pa_cons (pv 10) pa_nil)) (pe_callB (call_sortedP (K := K) rfl rfl) rfl B.sorted_ bt_sorted (pa_cons (pv 4) pa_nil)) (nomark _)) (pss_one (ps_ret pe_bl)) pss_nil)
      (pss_cons (ps_for ownX rfl (pi_listK (K := K) rfl (pv 9)) (pg_name (i := 11) sc_law.nd rfl (by first | exact Or.inl rfl | exact Or.inr rfl)) (pss_one (ps_expr (pe_bm0K (K := K) rfl PySem.F.plainAttrs_list PySem.F.slot_list_clear PySem.F.type_list_clear mt_clear (pe_ix (ix_tupK (K := K) rfl) (pv 11) pe_int (fun _ _ => rfl))))))
      (pss_one (ps_expr (pe_bm0K (K := K) rfl PySem.F.plainAttrs_list PySem.F.slot_list_clear PySem.F.type_list_clear mt_clear (pv 9)))))))))))
      (pss_one (ps_ret pe_bl))))))))))))), ?_⟩
    refine cut4 (fun σ H2 => ∃ (D1 : Addr) (T : List Int) (p2 : Option V), σ = [some (V.ref a), some (V.int T.length), p2, some (V.ref D1), none, none, none, none, none, none, none, none, none] ∧ SqL K H2 a (ns.map V.int) ∧ Plain T ∧ H2 D1 = some (.lst (T.map V.int))) (fun t ht => ?_) (fun σ H2 m => ?_)
    · walk_at "rd"
      refine ⟨a, ns, 0, rfl, ha, fun v0 => ⟨v0, rfl, fun n ln un => ?_⟩⟩
      refine ⟨a, ns, 2, rfl, ha, fun v2 => ?_⟩
      walk_at "rd"
      refine ⟨by decide, ?_⟩
      by_cases c : v2 % 4 = 1
      · rw [decide_eq_true c]
        refine ⟨a, ns, 1, rfl, ha, fun v1 => ⟨n, v1, 61, rfl, ln, un, by decide, fun H1 D1 T s1 hD1 pl lT h1 => ?_⟩⟩
        exact ht _ _ ⟨D1, T, _, by rw [lT], s1.seq ha, pl, h1⟩
      · rw [decide_eq_false c]
        refine ⟨a, ns, 1, rfl, ha, fun v1 => ⟨n, v1, 2, rfl, ln, un, by decide, fun H1 D1 T s1 hD1 pl lT h1 => ?_⟩⟩
        exact ht _ _ ⟨D1, T, _, by rw [lT], s1.seq ha, pl, h1⟩
    obtain ⟨D1, T, p2, rfl, ha, pl, h1⟩ := m
    refine cut1 (fun σ H2 => ∃ (D1 : Addr) (T : List Int) (p2 : Option V), σ = [some (V.ref a), some (V.int T.length), p2, some (V.ref D1), none, none, none, none, none, none, none, none, none] ∧ SqL K H2 a (ns.map V.int) ∧ Plain T ∧ H2 D1 = some (.lst (T.map V.int))) (fun t ht => ?_) (fun σ H2 m => ?_)
    · walk_at "rd"
      refine ⟨a, ns, 3, rfl, ha, fun v3 => ?_⟩
      walk_at "rd"
      refine ⟨by decide, ?_⟩
      by_cases c : v3 % 2 = 0
      · rw [decide_eq_true c]
        refine ⟨a, ns, 0, rfl, ha, fun v0 => ?_⟩
        walk_at "rd"
        have hz : 0 ≤ 1 + v0 % 60 := by omega
        obtain ⟨m, hm⟩ := Int.eq_ofNat_of_zero_le hz
        rw [hm]
        refine ⟨by decide, a, ns, 1, rfl, ha, fun v1 => ⟨m, v1, rfl, by omega, by omega, fun H3 D3 U s3 hD3 pU lU h3 => ?_⟩⟩
        exact ht _ _ ⟨D3, U, _, by rw [lU], s3.seq ha, pU, h3⟩
      · rw [decide_eq_false c]
        exact ht _ _ ⟨D1, T, _, rfl, ha, pl, h1⟩
    clear ha pl h1 D1 T p2
    obtain ⟨D1, T, p2, rfl, ha, pl, h1⟩ := m
    refine cut1 (fun σ H2 => ∃ (D1 : Addr) (T : List Int) (p0 p1 p2 : Option V), σ = [p0, p1, p2, some (V.ref D1), none, none, none, none, none, none, none, none, none] ∧ Plain T ∧ H2 D1 = some (.lst (T.map V.int))) (fun t ht => ?_) (fun σ H2 m => ?_)
    · have lo := pl.lo
      have hi := pl.hi
      walk_at "rd"
      refine ⟨a, ns, 2, rfl, ha, fun v2 => ?_⟩
      walk_at "rd"
      refine ⟨by decide, by decide, by decide, ?_⟩
      by_cases c : v2 / 4 % 2 = 0
      · rw [decide_eq_true c]
        refine ⟨a, ns, 2, rfl, ha, fun v2 => ?_⟩
        walk_at "rd"
        have hz : 0 ≤ 1 + v2 / 8 % 7 := by omega
        obtain ⟨r, hr⟩ := Int.eq_ofNat_of_zero_le hz
        have r1 : 1 ≤ r ∧ r ≤ 7 := by omega
        rw [hr, Int.toNat_natCast]
        refine ⟨by decide, by decide, by decide, _, h1, by omega, by omega, Nat.le_of_lt (small1000 (by rw [List.length_map]; have := Nat.mul_le_mul hi r1.2; omega)), fun p hp => ?_⟩
        rw [rep_ints] at *
        refine ⟨by omega, by omega, .inr ⟨by omega, by omega⟩, _, .of upd_same, fun p3 hp3 => ?_⟩
        have e60 : (60 : Int) / (T.length : Int) * (T.length : Int) = ((60 / T.length * T.length : Nat) : Int) := by push_cast; rfl
        rw [e60, cut_toN, repL_take]
        have k1 : 1 ≤ 60 / T.length := (Nat.le_div_iff_mul_le lo).mpr (by omega)
        have k2 : 60 / T.length * T.length ≤ 60 := Nat.div_mul_le_self _ _
        refine ht _ _ ⟨p3, repL (min r (60 / T.length)) T, _, _, _, rfl, repL_plain pl (by omega) ?_, upd_same⟩
        exact Nat.le_trans (Nat.mul_le_mul_right _ (Nat.min_le_right _ _)) k2
      · rw [decide_eq_false c]
        exact ht _ _ ⟨D1, T, _, _, _, rfl, pl, h1⟩
    clear ha pl h1 D1 T p2
    obtain ⟨D1, T, p0, p1, p2, rfl, pl, h1⟩ := m
    have lo := pl.lo
    have hi := pl.hi
    walk_at "rd"
    refine ⟨by decide, fun D2 hD2 => ?_⟩
    have s3 : Same H2 (upd H2 D2 (.lst [])) := same_upd hD2
    have e3 : (upd H2 D2 (.lst [])) D2 = some (.lst []) := upd_same
    generalize upd H2 D2 (.lst []) = H3 at s3 e3 ⊢
    have h3 := s3 _ _ h1
    refine ⟨D1, T, rfl, h3, pl, ⟨_, .of h3⟩, for_list (xs := T.map V.int) (fun i σ H' => i ≤ T.length ∧ ∃ us o, σ = [p0, p1, p2, some (V.ref D1), some (V.ref D2), some (V.int (S T i)), o, none, none, none, none, none, none] ∧ Same H2 H' ∧ H' D2 = some (.lst (us.map V.ref)) ∧ Tps (fun x => x ≠ D2) H' us (stps T i)) ⟨Nat.zero_le _, [], none, rfl, s3, e3, .nil⟩ (fun i σ H' _ pv => ?_) (fun i x σ H' hx pv => ?_) (fun σ H' pv => ?_)⟩
    · obtain ⟨_, us, o, rfl, sH, _⟩ := pv
      exact .of (sH _ _ h1)
    · obtain ⟨_, us, o, rfl, sH, hD', tp⟩ := pv
      obtain ⟨hlt, rfl⟩ := ints_at hx
      have lus := tp.len
      rw [stps_len] at lus
      obtain ⟨_, _, k2, k3, k4⟩ := stps_ok pl (S T i, T.getD i 0) (List.mem_map.mpr ⟨i, List.mem_range.mpr hlt, rfl⟩)
      have led := plain_led pl hlt
      generalize hth : T.getD i 0 = th at k2 k3 k4 led ⊢
      have esn := stps_snoc T i
      rw [hth] at esn
      obtain ⟨n, rfl⟩ : ∃ n : Nat, th = n := Int.eq_ofNat_of_zero_le k2
      walk_at "rd"
      refine ⟨.inl ⟨rfl, _, .of hD'⟩, by decide, fun p hp => ?_⟩
      have nD : D2 ≠ p := ne_of_none hD' hp
      refine ⟨_, by rw [upd_ne nD]; exact hD', small1000 (by rw [List.length_map]; omega), S T i, n, rfl, by have : (n : Int) ≤ 60 := k3; omega, k4, hlt, ?_, fun b o e => ?_, us ++ [p], ?_, ?_⟩
      · rw [← led]
        rfl
      · rw [upd_ne (ne_of_none e hD2), upd_ne (ne_of_none (sH _ _ e) hp)]
        exact sH _ _ e
      · rw [upd_same, List.map_append]
        rfl
      · rw [esn]
        refine Tps.snoc (tp.mono fun x o f e => ⟨f, by rw [upd_ne f, upd_ne (ne_of_none e hp)]; exact e⟩) (Ne.symm nD) ?_
        rw [upd_ne (Ne.symm nD), upd_same]
    obtain ⟨_, due, o, rfl, sH, hD', tp⟩ := pv
    rw [List.length_map] at tp
    walk_at "rd"
    refine ⟨_, .inl (.of (sH _ _ h1)), fun D3 hD3 => ⟨by decide, by decide, ?_⟩⟩
    rw [show Int.toNat 2 = 2 from rfl]
    have s4 : Same H' (upd H' D3 (.lst (T.map V.int))) := same_upd hD3
    have g3 : (upd H' D3 (.lst (T.map V.int))) D3 = some (.lst (T.map V.int)) := upd_same
    generalize upd H' D3 (.lst (T.map V.int)) = H4 at s4 g3 ⊢
    have g1 := s4 _ _ (sH _ _ h1)
    have g2 := s4 _ _ hD'
    have tp4 : Tps (fun _ => True) H4 due (stps T T.length) := tp.mono fun x o _ e => ⟨trivial, s4 _ _ e⟩
    have ldue := tp4.len
    rw [stps_len] at ldue
    refine for_range (fun j σ H5 => (∃ o5 o6 o8 o9 o10 o11 o12, σ = [p0, p1, p2, some (V.ref D1), some (V.ref D2), o5, o6, some (V.ref D3), o8, o9, o10, o11, o12]) ∧ Same H4 H5) ⟨⟨_, _, _, _, _, _, _, rfl⟩, Same.refl _⟩ (fun j σ H5 hlt pv => ?_) (fun σ H5 pv => ?_)
    · obtain ⟨⟨o5, o6, o8, o9, o10, o11, o12, rfl⟩, s5⟩ := pv
      have f1 := s5 _ _ g1
      have f2 := s5 _ _ g2
      have f3 := s5 _ _ g3
      walk_at "rd"
      refine ⟨D3, T, rfl, f3, pl.toPat, fun neg => ?_, fun _ big => ?_, fun _ H6 F ts ls s6 hF h6 lp lpok pm => ?_⟩
      · obtain ⟨x, hx, x0⟩ := neg
        exact absurd (pl.pl x hx).1 (by omega)
      · obtain ⟨x, hx, x0⟩ := big
        exact absurd (pl.pl x hx).2 (by omega)
      walk_at "rd"
      refine ⟨_, .lst h6, _, kit_list_list, ?_⟩
      walk_at "rd"
      refine ⟨T, .of (s6 _ _ f3), T, .of (s6 _ _ f1), ?_⟩
      walk_at "rd"
      refine ⟨by decide, fun D7 hD7 => ?_⟩
      have s7 : Same H6 (upd H6 D7 (.lst [])) := same_upd hD7
      have e7 : (upd H6 D7 (.lst [])) D7 = some (.lst []) := upd_same
      generalize upd H6 D7 (.lst []) = H7 at s7 e7 ⊢
      have fl : ls.flatten.length = T.length := by rw [pm.length_eq, stps_len]
      have okp : ∀ p ∈ ls.flatten, OkStp p := fun p hp => stps_ok pl p (pm.mem_iff.mp hp)
      have llen := lp.len
      refine ⟨⟨_, .of (s7 _ _ h6)⟩, for_list (xs := ts) (fun i σ H8 => ∃ DS us o11 o12, σ = [p0, p1, p2, some (V.ref D1), some (V.ref D2), o5, o6, some (V.ref D3), some (V.int j), some (V.ref F), some (V.ref DS), o11, o12] ∧ Same H6 H8 ∧ H8 DS = some (.lst (us.map V.ref)) ∧ Tps (fun _ => True) H8 us (ls.take i).flatten) ⟨D7, [], _, _, rfl, s7, e7, .nil⟩ (fun i σ H8 _ pv => ?_) (fun i x σ H8 hx pv => ?_) (fun σ H8 pv => ?_)⟩
      · obtain ⟨DS, us, o11, o12, rfl, s8, _⟩ := pv
        exact .of (s8 _ _ h6)
      · obtain ⟨DS, us, o11, o12, rfl, s8, h8, tp8⟩ := pv
        obtain ⟨t, b, z, l, rfl, hl, ft, fb, ht, hb, ld⟩ := lp.at_ i x hx
        have lm : l ∈ ls := List.mem_of_getElem? hl
        have lmf : ∀ p ∈ l, p ∈ ls.flatten := fun p hp => List.mem_flatten.mpr ⟨l, lm, hp⟩
        have f8 := flat_take hl
        have f9 := flat_le ls (i + 1)
        rw [f8, List.length_append] at f9
        have lus := tp8.len
        walk_at "rd"
        refine ⟨t, b, z, l, rfl, s8 _ _ ht, s8 _ _ hb, ld, lpok l lm, fun p hp => okp p (lmf p hp), by omega, fun H9 D9 vs s9 hD9 h9 tp9 => ?_⟩
        have lvs := tp9.len
        walk_at "rd"
        refine ⟨_, s9 _ _ h8, _, h9, Nat.le_of_lt (small1000 (by rw [List.length_map, List.length_map]; omega)), fun DA hDA => ?_⟩
        have sA : Same H9 (upd H9 DA (.lst (us.map V.ref ++ vs.map V.ref))) := same_upd hDA
        refine ⟨s8.trans (s9.trans sA), us ++ vs, ?_, ?_⟩
        · rw [upd_same, List.map_append]
        · rw [f8]
          exact (tp8.mono fun x o _ e => ⟨trivial, sA _ _ (s9 _ _ e)⟩).append (tp9.mono fun x o _ e => ⟨trivial, sA _ _ e⟩)
      obtain ⟨DS, us, o11', o12', rfl, s8, h8, tp8⟩ := pv
      rw [show ls.take ts.length = ls from List.take_of_length_le (by omega)] at tp8
      have lus := tp8.len
      walk_at "rd"
      have s68 := s6.trans s8
      have tpd : Tps (fun _ => True) H8 due (stps T T.length) := tp4.mono fun x o _ e => ⟨trivial, s68 _ _ (s5 _ _ e)⟩
      have tu8 := tp8.tups fun p hp => by have := okp p hp; exact ⟨this.2.2.1, this.2.2.2.1⟩
      have td8 := tpd.tups fun p hp => by have := stps_ok pl p hp; exact ⟨this.2.2.1, this.2.2.2.1⟩
      have c8 := tp8.codes
      have cd := tpd.codes
      refine ⟨us, .of h8, by omega, codeAt H8, tu8, fun L1 us1 hL1 pm1 so1 => ?_⟩
      have sL : Same H8 (upd H8 L1 (.lst (us1.map V.ref))) := same_upd hL1
      have eL : (upd H8 L1 (.lst (us1.map V.ref))) L1 = some (.lst (us1.map V.ref)) := upd_same
      generalize upd H8 L1 (.lst (us1.map V.ref)) = H9 at sL eL ⊢
      refine ⟨due, .of (sL _ _ (s68 _ _ f2)), by omega, codeAt H8, fun t ht => ?_, fun L2 us2 hL2 pm2 so2 => ?_⟩
      · obtain ⟨x, y, z1, z2⟩ := td8 t ht
        exact ⟨x, y, sL _ _ z1, z2⟩
      have sM : Same H9 (upd H9 L2 (.lst (us2.map V.ref))) := same_upd hL2
      have eM : (upd H9 L2 (.lst (us2.map V.ref))) L2 = some (.lst (us2.map V.ref)) := upd_same
      generalize upd H9 L2 (.lst (us2.map V.ref)) = HA at sM eM ⊢
      have same : us1.map (codeAt H8) = us2.map (codeAt H8) := by
        refine TB.sorted_eq ?_ (List.pairwise_map.mpr so1) (List.pairwise_map.mpr so2)
        refine (pm1.map _).trans (List.Perm.trans ?_ (pm2.map _).symm)
        rw [c8, cd]
        exact pm.map _
      refine ⟨.list ((us1.map (codeAt H8)).map dPair), .lst (.of (sM _ _ eL)) (dp_pairs fun t ht => ?_), .lst (.of eM) ?_, shaped_pairs _, ?_⟩
      · obtain ⟨x, y, z1, z2⟩ := tu8 t (pm1.mem_iff.mp ht)
        exact ⟨x, y, sM _ _ (sL _ _ z1), z2⟩
      · rw [same]
        refine dp_pairs fun t ht => ?_
        obtain ⟨x, y, z1, z2⟩ := td8 t (pm2.mem_iff.mp ht)
        exact ⟨x, y, sM _ _ (sL _ _ z1), z2⟩
      walk_at "rd"
      have sA : Same H6 HA := s8.trans (sL.trans sM)
      have lpA : Lpw (fun x => H5 x = none ∧ x ≠ F) HA ts := (lp.mono fun x o f e => ⟨f, sA _ _ e⟩).lpw
      refine ⟨⟨_, .of (sA _ _ h6)⟩, for_list (xs := ts) (fun i σ HB => (∃ o5 o6 o8 o10 o11 o12, σ = [p0, p1, p2, some (V.ref D1), some (V.ref D2), o5, o6, some (V.ref D3), o8, some (V.ref F), o10, o11, o12]) ∧ Same H5 HB ∧ HB F = some (.lst ts) ∧ Lpw (fun x => H5 x = none ∧ x ≠ F) HB ts) ⟨⟨_, _, _, _, _, _, rfl⟩, s6.trans sA, sA _ _ h6, lpA⟩ (fun i σ HB _ pv => .of pv.2.2.1) (fun i x σ HB hx pv => ?_) (fun σ HB pv => ?_)⟩
      · obtain ⟨⟨o5, o6, o8, o10, o11, o12, rfl⟩, sB, hB, lpB⟩ := pv
        obtain ⟨t, b, z, xs, rfl, fb, ht, hb⟩ := lpB x (List.mem_of_getElem? hx)
        walk_at "rd"
        refine ⟨_, .of ht, _, rfl, .inl ⟨rfl, _, .of hb⟩, b, rfl, xs, hb, ?_⟩
        exact ⟨fun c o e => by rw [upd_ne (ne_of_none e fb.1)]; exact sB _ _ e, by rw [upd_ne (Ne.symm fb.2)]; exact hB, lpB.clear hb⟩
      obtain ⟨⟨o5, o6, o8, o10, o11, o12, rfl⟩, sB, hB, lpB⟩ := pv
      walk_at "rd"
      refine ⟨.inl ⟨rfl, _, .of hB⟩, _, hB, ?_⟩
      exact fun c o e => by rw [upd_ne (ne_of_none (s5 _ _ e) hF)]; exact sB _ _ (s5 _ _ e)
    · obtain ⟨⟨o5, o6, o8, o9, o10, o11, o12, rfl⟩, s5⟩ := pv
      walk_at "rd"
      exact q _
end
end Tb

namespace Tb
open PySem L2 TB
theorem walk {l : PySem.W.OpenLaw} {q : Program} {loose : List Str} {XP : (Str → Option Value) → Heap → Prop} {YP : World → Heap → Prop} {d : DefRec} {K : Params → PySem.W.Frag} (hn : l.most = some 63) (hdf : d.params.defaults = [])
    (hY : ∀ (w : World) (h : Heap), YP w h → (K w.params).In h)
    (F : ∀ (w : World) (mg : Str → Option Value) (fa : Addr) (h : Heap), (K w.params).In h → h.Ns mainGlobals mg → mg d.name = some (.ref fa) →
      ∃ fd : FuncData, (∀ (s : Shared) (u : Value), BindsTo s fd ⟨[u], []⟩ [("_law_script", u)]) ∧ ∀ base : Heap, (K w.params).In base → base.Ns mainGlobals mg → FnOk l.prog w (K w.params) mg base (CXf l.prog w) 11 fa fd ["_law_script"] (spLaw (K w.params))) :
    PySem.W.WalkO q loose XP YP l.row.toRowW d [] (fun f vs => PySem.call f vs) :=
  L2.walk_of (n := 63) (k := 11) (x := "_law_script") (CX := fun w => CXf l.prog w) (sp := fun w => spLaw (K w.params)) hn (by decide) hdf ⟨rfl, by decide, by decide⟩ hY F (fun _ _ a ns _ _ hS => ⟨a, ns, rfl, hS, fun _ => rfl⟩) fun _ _ _ _ _ z => cxf_no z
theorem bind1 {K : PySem.W.Frag} {mg : Str → Option Value} {x : Str} {st : Stmt} {p : Str} {f : Addr} {fd : FuncData} (h : Has K mg x st [p] f fd) (hp : ∀ (kV doc pm : Value) (an : Option Addr) (cdv ct : Value) (u : Value), bindArgs (PySem.W.fnOf x x (defArgs st) (defBody st) (defScope st) .none kV doc pm an cdv ct) ⟨[u], []⟩ = pure [(p, u)]) (s : Shared) (u : Value) : BindsTo s fd ⟨[u], []⟩ [(p, u)] := by
  obtain ⟨oc, od, kV, doc, pm, an, cdv, ct, osl, rfl, lk, hcd⟩ := h.fn.ex
  exact .of_eq (hp kV doc pm an cdv ct u)
theorem all_k11 {l : PySem.W.OpenLaw} {w : World} {K : PySem.W.Frag} {mg : Str → Option Value} {fa : Addr} (hfa : mg "law" = some (.ref fa)) (B : Blt mg) (g1 : GInt mg "LONGEST_ROW" 60) (g2 : GInt mg "FARTHEST_THROW" 1000000) (g3 : GInt mg "GREATEST_THROW" 60)
    (e1 : ∃ C, ExcCls K C ∧ mg "NotARow" = some (.ref C)) (e2 : ∃ C, ExcCls K C ∧ mg "OutOfBounds" = some (.ref C)) (e3 : ∃ C, ExcCls K C ∧ mg "NotPlain" = some (.ref C))
    (h_is_whole : ∃ f fd, Has K mg "is_whole" s_is_whole ["value"] f fd)
    (h_is_between : ∃ f fd, Has K mg "is_between" s_is_between ["value", "least", "most"] f fd)
    (h_is_throw : ∃ f fd, Has K mg "is_throw" s_is_throw ["value"] f fd)
    (h_check_row : ∃ f fd, Has K mg "check_row" s_check_row ["row"] f fd)
    (h_check_pattern : ∃ f fd, Has K mg "check_pattern" s_check_pattern ["pattern"] f fd)
    (h_landings : ∃ f fd, Has K mg "landings" s_landings ["row"] f fd)
    (h_clash_of : ∃ f fd, Has K mg "clash_of" s_clash_of ["row"] f fd)
    (h_led_to : ∃ f fd, Has K mg "led_to" s_led_to ["state", "throw"] f fd)
    (h_check_plain : ∃ f fd, Has K mg "check_plain" s_check_plain ["pattern"] f fd)
    (h_first_state : ∃ f fd, Has K mg "first_state" s_first_state ["pattern"] f fd)
    (h_states_of : ∃ f fd, Has K mg "states_of" s_states_of ["pattern"] f fd)
    (h_parted : ∃ f fd, Has K mg "parted" s_parted ["pattern"] f fd)
    (h__law_cell_at : ∃ f fd, Has K mg "_law_cell_at" s__law_cell_at ["_law_script", "_law_k"] f fd)
    (h__law_mixed : ∃ f fd, Has K mg "_law_mixed" s__law_mixed ["_law_cell", "_law_k"] f fd)
    (h__law_size_by : ∃ f fd, Has K mg "_law_size_by" s__law_size_by ["_law_cell"] f fd)
    (h__law_spots_by : ∃ f fd, Has K mg "_law_spots_by" s__law_spots_by ["_law_size", "_law_cell"] f fd)
    (h__law_plain_by : ∃ f fd, Has K mg "_law_plain_by" s__law_plain_by ["_law_size", "_law_cell", "_law_most"] f fd)
    (h__law_near_even : ∃ f fd, Has K mg "_law_near_even" s__law_near_even ["_law_size", "_law_cell"] f fd)
    (h__law_led : ∃ f fd, Has K mg "_law_led" s__law_led ["_law_state", "_law_throw"] f fd)
    (h__law_first_state : ∃ f fd, Has K mg "_law_first_state" s__law_first_state ["_law_pattern"] f fd)
    (h__law_loop_steps : ∃ f fd, Has K mg "_law_loop_steps" s__law_loop_steps ["_law_loop"] f fd)
    (h_law : ∃ f fd, Has K mg "law" s_law ["_law_script"] f fd)
    : ∃ fd : FuncData, (∀ (s : Shared) (u : Value), BindsTo s fd ⟨[u], []⟩ [("_law_script", u)]) ∧ ∀ base : Heap, FnOk l.prog w K mg base (CXf l.prog w) 11 fa fd ["_law_script"] (spLaw K) := by
  obtain ⟨C1, x1, m1⟩ := e1
  obtain ⟨C2, x2, m2⟩ := e2
  obtain ⟨C3, x3, m3⟩ := e3
  obtain ⟨f_is_whole, fd_is_whole, hh_is_whole⟩ := h_is_whole
  obtain ⟨f_is_between, fd_is_between, hh_is_between⟩ := h_is_between
  obtain ⟨f_is_throw, fd_is_throw, hh_is_throw⟩ := h_is_throw
  obtain ⟨f_check_row, fd_check_row, hh_check_row⟩ := h_check_row
  obtain ⟨f_check_pattern, fd_check_pattern, hh_check_pattern⟩ := h_check_pattern
  obtain ⟨f_landings, fd_landings, hh_landings⟩ := h_landings
  obtain ⟨f_clash_of, fd_clash_of, hh_clash_of⟩ := h_clash_of
  obtain ⟨f_led_to, fd_led_to, hh_led_to⟩ := h_led_to
  obtain ⟨f_check_plain, fd_check_plain, hh_check_plain⟩ := h_check_plain
  obtain ⟨f_first_state, fd_first_state, hh_first_state⟩ := h_first_state
  obtain ⟨f_states_of, fd_states_of, hh_states_of⟩ := h_states_of
  obtain ⟨f_parted, fd_parted, hh_parted⟩ := h_parted
  obtain ⟨f__law_cell_at, fd__law_cell_at, hh__law_cell_at⟩ := h__law_cell_at
  obtain ⟨f__law_mixed, fd__law_mixed, hh__law_mixed⟩ := h__law_mixed
  obtain ⟨f__law_size_by, fd__law_size_by, hh__law_size_by⟩ := h__law_size_by
  obtain ⟨f__law_spots_by, fd__law_spots_by, hh__law_spots_by⟩ := h__law_spots_by
  obtain ⟨f__law_plain_by, fd__law_plain_by, hh__law_plain_by⟩ := h__law_plain_by
  obtain ⟨f__law_near_even, fd__law_near_even, hh__law_near_even⟩ := h__law_near_even
  obtain ⟨f__law_led, fd__law_led, hh__law_led⟩ := h__law_led
  obtain ⟨f__law_first_state, fd__law_first_state, hh__law_first_state⟩ := h__law_first_state
  obtain ⟨f__law_loop_steps, fd__law_loop_steps, hh__law_loop_steps⟩ := h__law_loop_steps
  have hl := h_law
  obtain ⟨fl, fdl, hl⟩ := hl
  have e := hfa.symm.trans hl.at_
  cases e
  refine ⟨fdl, bind1 hl fun _ _ _ _ _ _ _ => rfl, fun base => ?_⟩
  have o0 := ok_is_whole (P := l.prog) (w := w) (base := base) hh_is_whole B
  have o1 := ok_is_between (P := l.prog) (w := w) (base := base) hh_is_between o0
  have o2 := ok_is_throw hh_is_throw g2 o1
  have o4 := ok_check_row hh_check_row B g1 x1 m1 o2
  have o5 := ok_landings (P := l.prog) (w := w) (base := base) hh_landings B
  have o6 := ok_clash_of hh_clash_of B o4 o5
  have o7 := ok_check_pattern hh_check_pattern o6
  have o9 := ok_led_to (P := l.prog) (w := w) (base := base) hh_led_to
  have o10 := ok_check_plain hh_check_plain B g3 x3 m3 x2 m2 o7
  have o11 := ok_first_state (P := l.prog) (w := w) (base := base) hh_first_state B g3
  have o12 := ok_states_of hh_states_of B o10 o11 o9
  have o13 := ok_parted hh_parted B o12
  have p1 := ok_cell_at (P := l.prog) (w := w) (base := base) hh__law_cell_at B
  have p2 := ok_mixed (P := l.prog) (w := w) (base := base) hh__law_mixed
  have p2b := ok_mix (P := l.prog) (w := w) (base := base) hh__law_mixed
  have p3 := ok_size_by (P := l.prog) (w := w) (base := base) hh__law_size_by
  have p4 := ok_spots_by hh__law_spots_by B p2
  have p5 := ok_plain_by hh__law_plain_by B p2 p4
  have p6 := ok_near_even hh__law_near_even B p2b
  have p7 := ok_law_first (P := l.prog) (w := w) (base := base) hh__law_first_state B
  have p8 := ok_law_led (P := l.prog) (w := w) (base := base) hh__law_led B
  have p9 := ok_loop_steps hh__law_loop_steps B p8
  exact ok_law hl B p1 p3 p5 p6 p7 p8 p9 o13
end Tb
open PySem PySem.W PyProof.Rows
set_option maxRecDepth 100000 in
set_option maxHeartbeats 0 in
theorem PySem.Challenge.cw_tossbook_k11_whole_parted_holds : PySem.Challenge.rw_tossbook_k11_whole_parted.Holds := by
  w_on; o_law; k_head; (case hw => w_witness2)
  k_fill
  refine Tb.walk (l := PySem.Challenge.rw_tossbook_k11_whole_parted) rfl rfl (fun w h Y => PySem.W.kIn_of Y) ?F
  case F =>
    intro w mg fa h KX G hmg
    have b_len : mg "len" = none := by
      refine' L2.none_mk KX G ?za
      (case za => k_is)
    have b_range : mg "range" = none := by
      refine' L2.none_mk KX G ?za
      (case za => k_is)
    have b_enumerate : mg "enumerate" = none := by
      refine' L2.none_mk KX G ?za
      (case za => k_is)
    have b_zip : mg "zip" = none := by
      refine' L2.none_mk KX G ?za
      (case za => k_is)
    have b_isinstance : mg "isinstance" = none := by
      refine' L2.none_mk KX G ?za
      (case za => k_is)
    have b_int : mg "int" = none := by
      refine' L2.none_mk KX G ?za
      (case za => k_is)
    have b_bool : mg "bool" = none := by
      refine' L2.none_mk KX G ?za
      (case za => k_is)
    have b_list : mg "list" = none := by
      refine' L2.none_mk KX G ?za
      (case za => k_is)
    have b_tuple : mg "tuple" = none := by
      refine' L2.none_mk KX G ?za
      (case za => k_is)
    have b_all : mg "all" = none := by
      refine' L2.none_mk KX G ?za
      (case za => k_is)
    have b_any : mg "any" = none := by
      refine' L2.none_mk KX G ?za
      (case za => k_is)
    have b_sum : mg "sum" = none := by
      refine' L2.none_mk KX G ?za
      (case za => k_is)
    have b_max : mg "max" = none := by
      refine' L2.none_mk KX G ?za
      (case za => k_is)
    have b_min : mg "min" = none := by
      refine' L2.none_mk KX G ?za
      (case za => k_is)
    have b_abs : mg "abs" = none := by
      refine' L2.none_mk KX G ?za
      (case za => k_is)
    have b_sorted : mg "sorted" = none := by
      refine' L2.none_mk KX G ?za
      (case za => k_is)
    have g_LONGEST_ROW : L2.GInt mg "LONGEST_ROW" 60 := by
      refine' L2.gint_mk KX G ?za
      (case za => k_is)
    have g_FARTHEST_THROW : L2.GInt mg "FARTHEST_THROW" 1000000 := by
      refine' L2.gint_mk KX G ?za
      (case za => k_is)
    have g_GREATEST_THROW : L2.GInt mg "GREATEST_THROW" 60 := by
      refine' L2.gint_mk KX G ?za
      (case za => k_is)
    have e_NotARow : ∃ C, L2.ExcCls (L2.KOf KX) C ∧ mg "NotARow" = some (.ref C) := by
      dsimp only [L2.KOf]
      refine' L2.exc_mk KX G ?za ?zq
      (case za => k_is); (case zq => k_exc)
    have e_OutOfBounds : ∃ C, L2.ExcCls (L2.KOf KX) C ∧ mg "OutOfBounds" = some (.ref C) := by
      dsimp only [L2.KOf]
      refine' L2.exc_mk KX G ?za ?zq
      (case za => k_is); (case zq => k_exc)
    have e_NotPlain : ∃ C, L2.ExcCls (L2.KOf KX) C ∧ mg "NotPlain" = some (.ref C) := by
      dsimp only [L2.KOf]
      refine' L2.exc_mk KX G ?za ?zq
      (case za => k_is); (case zq => k_exc)
    have h_is_whole : ∃ f fd, L2.Has (L2.KOf KX) mg "is_whole" Tb.s_is_whole ["value"] f fd := by
      dsimp only [L2.KOf]
      refine' L2.has_mk KX G ?za ?zl ?zc ?zk ?zb
      (case za => k_is); (case zl => k_is); (case zc => k_is); (case zk => k_is); (case zb => exact fun _ _ _ _ _ _ us hl => match us, hl with | [_], _ => rfl)
    have h_is_between : ∃ f fd, L2.Has (L2.KOf KX) mg "is_between" Tb.s_is_between ["value", "least", "most"] f fd := by
      dsimp only [L2.KOf]
      refine' L2.has_mk KX G ?za ?zl ?zc ?zk ?zb
      (case za => k_is); (case zl => k_is); (case zc => k_is); (case zk => k_is); (case zb => exact fun _ _ _ _ _ _ us hl => match us, hl with | [_, _, _], _ => rfl)
    have h_is_throw : ∃ f fd, L2.Has (L2.KOf KX) mg "is_throw" Tb.s_is_throw ["value"] f fd := by
      dsimp only [L2.KOf]
      refine' L2.has_mk KX G ?za ?zl ?zc ?zk ?zb
      (case za => k_is); (case zl => k_is); (case zc => k_is); (case zk => k_is); (case zb => exact fun _ _ _ _ _ _ us hl => match us, hl with | [_], _ => rfl)
    have h_check_row : ∃ f fd, L2.Has (L2.KOf KX) mg "check_row" Tb.s_check_row ["row"] f fd := by
      dsimp only [L2.KOf]
      refine' L2.has_mk KX G ?za ?zl ?zc ?zk ?zb
      (case za => k_is); (case zl => k_is); (case zc => k_is); (case zk => k_is); (case zb => exact fun _ _ _ _ _ _ us hl => match us, hl with | [_], _ => rfl)
    have h_check_pattern : ∃ f fd, L2.Has (L2.KOf KX) mg "check_pattern" Tb.s_check_pattern ["pattern"] f fd := by
      dsimp only [L2.KOf]
      refine' L2.has_mk KX G ?za ?zl ?zc ?zk ?zb
      (case za => k_is); (case zl => k_is); (case zc => k_is); (case zk => k_is); (case zb => exact fun _ _ _ _ _ _ us hl => match us, hl with | [_], _ => rfl)
    have h_landings : ∃ f fd, L2.Has (L2.KOf KX) mg "landings" Tb.s_landings ["row"] f fd := by
      dsimp only [L2.KOf]
      refine' L2.has_mk KX G ?za ?zl ?zc ?zk ?zb
      (case za => k_is); (case zl => k_is); (case zc => k_is); (case zk => k_is); (case zb => exact fun _ _ _ _ _ _ us hl => match us, hl with | [_], _ => rfl)
    have h_clash_of : ∃ f fd, L2.Has (L2.KOf KX) mg "clash_of" Tb.s_clash_of ["row"] f fd := by
      dsimp only [L2.KOf]
      refine' L2.has_mk KX G ?za ?zl ?zc ?zk ?zb
      (case za => k_is); (case zl => k_is); (case zc => k_is); (case zk => k_is); (case zb => exact fun _ _ _ _ _ _ us hl => match us, hl with | [_], _ => rfl)
    have h_led_to : ∃ f fd, L2.Has (L2.KOf KX) mg "led_to" Tb.s_led_to ["state", "throw"] f fd := by
      dsimp only [L2.KOf]
      refine' L2.has_mk KX G ?za ?zl ?zc ?zk ?zb
      (case za => k_is); (case zl => k_is); (case zc => k_is); (case zk => k_is); (case zb => exact fun _ _ _ _ _ _ us hl => match us, hl with | [_, _], _ => rfl)
    have h_check_plain : ∃ f fd, L2.Has (L2.KOf KX) mg "check_plain" Tb.s_check_plain ["pattern"] f fd := by
      dsimp only [L2.KOf]
      refine' L2.has_mk KX G ?za ?zl ?zc ?zk ?zb
      (case za => k_is); (case zl => k_is); (case zc => k_is); (case zk => k_is); (case zb => exact fun _ _ _ _ _ _ us hl => match us, hl with | [_], _ => rfl)
    have h_first_state : ∃ f fd, L2.Has (L2.KOf KX) mg "first_state" Tb.s_first_state ["pattern"] f fd := by
      dsimp only [L2.KOf]
      refine' L2.has_mk KX G ?za ?zl ?zc ?zk ?zb
      (case za => k_is); (case zl => k_is); (case zc => k_is); (case zk => k_is); (case zb => exact fun _ _ _ _ _ _ us hl => match us, hl with | [_], _ => rfl)
    have h_states_of : ∃ f fd, L2.Has (L2.KOf KX) mg "states_of" Tb.s_states_of ["pattern"] f fd := by
      dsimp only [L2.KOf]
      refine' L2.has_mk KX G ?za ?zl ?zc ?zk ?zb
      (case za => k_is); (case zl => k_is); (case zc => k_is); (case zk => k_is); (case zb => exact fun _ _ _ _ _ _ us hl => match us, hl with | [_], _ => rfl)
    have h_parted : ∃ f fd, L2.Has (L2.KOf KX) mg "parted" Tb.s_parted ["pattern"] f fd := by
      dsimp only [L2.KOf]
      refine' L2.has_mk KX G ?za ?zl ?zc ?zk ?zb
      (case za => k_is); (case zl => k_is); (case zc => k_is); (case zk => k_is); (case zb => exact fun _ _ _ _ _ _ us hl => match us, hl with | [_], _ => rfl)
    have h__law_cell_at : ∃ f fd, L2.Has (L2.KOf KX) mg "_law_cell_at" Tb.s__law_cell_at ["_law_script", "_law_k"] f fd := by
      dsimp only [L2.KOf]
      refine' L2.has_mk KX G ?za ?zl ?zc ?zk ?zb
      (case za => k_is); (case zl => k_is); (case zc => k_is); (case zk => k_is); (case zb => exact fun _ _ _ _ _ _ us hl => match us, hl with | [_, _], _ => rfl)
    have h__law_mixed : ∃ f fd, L2.Has (L2.KOf KX) mg "_law_mixed" Tb.s__law_mixed ["_law_cell", "_law_k"] f fd := by
      dsimp only [L2.KOf]
      refine' L2.has_mk KX G ?za ?zl ?zc ?zk ?zb
      (case za => k_is); (case zl => k_is); (case zc => k_is); (case zk => k_is); (case zb => exact fun _ _ _ _ _ _ us hl => match us, hl with | [_, _], _ => rfl)
    have h__law_size_by : ∃ f fd, L2.Has (L2.KOf KX) mg "_law_size_by" Tb.s__law_size_by ["_law_cell"] f fd := by
      dsimp only [L2.KOf]
      refine' L2.has_mk KX G ?za ?zl ?zc ?zk ?zb
      (case za => k_is); (case zl => k_is); (case zc => k_is); (case zk => k_is); (case zb => exact fun _ _ _ _ _ _ us hl => match us, hl with | [_], _ => rfl)
    have h__law_spots_by : ∃ f fd, L2.Has (L2.KOf KX) mg "_law_spots_by" Tb.s__law_spots_by ["_law_size", "_law_cell"] f fd := by
      dsimp only [L2.KOf]
      refine' L2.has_mk KX G ?za ?zl ?zc ?zk ?zb
      (case za => k_is); (case zl => k_is); (case zc => k_is); (case zk => k_is); (case zb => exact fun _ _ _ _ _ _ us hl => match us, hl with | [_, _], _ => rfl)
    have h__law_plain_by : ∃ f fd, L2.Has (L2.KOf KX) mg "_law_plain_by" Tb.s__law_plain_by ["_law_size", "_law_cell", "_law_most"] f fd := by
      dsimp only [L2.KOf]
      refine' L2.has_mk KX G ?za ?zl ?zc ?zk ?zb
      (case za => k_is); (case zl => k_is); (case zc => k_is); (case zk => k_is); (case zb => exact fun _ _ _ _ _ _ us hl => match us, hl with | [_, _, _], _ => rfl)
    have h__law_near_even : ∃ f fd, L2.Has (L2.KOf KX) mg "_law_near_even" Tb.s__law_near_even ["_law_size", "_law_cell"] f fd := by
      dsimp only [L2.KOf]
      refine' L2.has_mk KX G ?za ?zl ?zc ?zk ?zb
      (case za => k_is); (case zl => k_is); (case zc => k_is); (case zk => k_is); (case zb => exact fun _ _ _ _ _ _ us hl => match us, hl with | [_, _], _ => rfl)
    have h__law_led : ∃ f fd, L2.Has (L2.KOf KX) mg "_law_led" Tb.s__law_led ["_law_state", "_law_throw"] f fd := by
      dsimp only [L2.KOf]
      refine' L2.has_mk KX G ?za ?zl ?zc ?zk ?zb
      (case za => k_is); (case zl => k_is); (case zc => k_is); (case zk => k_is); (case zb => exact fun _ _ _ _ _ _ us hl => match us, hl with | [_, _], _ => rfl)
    have h__law_first_state : ∃ f fd, L2.Has (L2.KOf KX) mg "_law_first_state" Tb.s__law_first_state ["_law_pattern"] f fd := by
      dsimp only [L2.KOf]
      refine' L2.has_mk KX G ?za ?zl ?zc ?zk ?zb
      (case za => k_is); (case zl => k_is); (case zc => k_is); (case zk => k_is); (case zb => exact fun _ _ _ _ _ _ us hl => match us, hl with | [_], _ => rfl)
    have h__law_loop_steps : ∃ f fd, L2.Has (L2.KOf KX) mg "_law_loop_steps" Tb.s__law_loop_steps ["_law_loop"] f fd := by
      dsimp only [L2.KOf]
      refine' L2.has_mk KX G ?za ?zl ?zc ?zk ?zb
      (case za => k_is); (case zl => k_is); (case zc => k_is); (case zk => k_is); (case zb => exact fun _ _ _ _ _ _ us hl => match us, hl with | [_], _ => rfl)
    have h_law : ∃ f fd, L2.Has (L2.KOf KX) mg "law" Tb.s_law ["_law_script"] f fd := by
      dsimp only [L2.KOf]
      refine' L2.has_mk KX G ?za ?zl ?zc ?zk ?zb
      (case za => k_is); (case zl => k_is); (case zc => k_is); (case zk => k_is); (case zb => exact fun _ _ _ _ _ _ us hl => match us, hl with | [_], _ => rfl)
    obtain ⟨fd, hb, hF⟩ := Tb.all_k11 (l := PySem.Challenge.rw_tossbook_k11_whole_parted) (w := w) hmg ⟨b_len, b_range, b_enumerate, b_zip, b_isinstance, b_int, b_bool, b_list, b_tuple, b_all, b_any, b_sum, b_max, b_min, b_abs, b_sorted⟩  g_LONGEST_ROW g_FARTHEST_THROW g_GREATEST_THROW e_NotARow e_OutOfBounds e_NotPlain h_is_whole h_is_between h_is_throw h_check_row h_check_pattern h_landings h_clash_of h_led_to h_check_plain h_first_state h_states_of h_parted h__law_cell_at h__law_mixed h__law_size_by h__law_spots_by h__law_plain_by h__law_near_even h__law_led h__law_first_state h__law_loop_steps h_law
    exact ⟨fd, hb, fun base _ _ => hF base⟩

