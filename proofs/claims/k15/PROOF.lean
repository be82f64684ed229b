import PyProof.Rows.All
import Wide.All
import OpenK.AllK
import Wide.FinOn
import Lean
import PyProof.EqAt
import PyProof.EqKinds
import PyProof.TupleCall
import PySem.Challenge.RW_tossbook_k15_whole_changes
set_option Elab.async false
set_option linter.all false
set_option maxRecDepth 100000
namespace L2
open PySem PySem.Spec PyProof.Rows

/-- a key: an int or a str -/
abbrev Key := Sum Int Str
def keyIs : Key → Value → Bool
  | .inl k, v => Value.isInt k v
  | .inr x, v => Value.isStrOf x v
def keyH (w : World) : Key → Int
  | .inl k => hashInt k
  | .inr x => hashStr w x
theorem keyIs_shape : ∀ {k : Key} {v : Value}, keyIs k v = true → (∃ i t, k = Sum.inl i ∧ v = Value.int i t) ∨ (∃ x t, k = Sum.inr x ∧ v = Value.str x t)
  | .inl i, v, h => by
    obtain ⟨t, e⟩ := Value.isInt_shape (k := i) (v := v) h
    exact .inl ⟨i, t, rfl, e⟩
  | .inr x, v, h => by
    obtain ⟨t, e⟩ := Value.isStrOf_shape (x := x) (v := v) h
    exact .inr ⟨x, t, rfl, e⟩
theorem keyIs_int (i : Int) (t : Tok) : keyIs (.inl i) (.int i t) = true := by simp [keyIs, Value.isInt]
theorem keyIs_str (x : Str) (t : Tok) : keyIs (.inr x) (.str x t) = true := by simp [keyIs, Value.isStrOf]
theorem key_ll (a b : Int) : decide ((Sum.inl a : Key) = Sum.inl b) = (a == b) := by
  by_cases e : a = b
  · subst e; simp
  · have h : ¬ (Sum.inl a : Key) = Sum.inl b := fun q => e (Sum.inl.inj q)
    rw [decide_eq_false h]
    exact (beq_eq_false_iff_ne.mpr e).symm
theorem key_rr (a b : Str) : decide ((Sum.inr a : Key) = Sum.inr b) = decide (a = b) := by
  by_cases e : a = b
  · subst e; simp
  · have h : ¬ (Sum.inr a : Key) = Sum.inr b := fun q => e (Sum.inr.inj q)
    rw [decide_eq_false h, decide_eq_false e]
theorem key_lr (a : Int) (b : Str) : decide ((Sum.inl a : Key) = Sum.inr b) = false := decide_eq_false (fun q => nomatch q)
theorem key_rl (a : Str) (b : Int) : decide ((Sum.inr a : Key) = Sum.inl b) = false := decide_eq_false (fun q => nomatch q)

def mixKind (prog : Program) (w : World) : PySem.KeyKind prog w Key where
  is := keyIs
  hash := keyH w
  inj := fun v a b ha hb => by
    rcases keyIs_shape ha with ⟨i, t, rfl, rfl⟩ | ⟨x, t, rfl, rfl⟩
    · rcases keyIs_shape hb with ⟨j, u, rfl, e⟩ | ⟨y, u, rfl, e⟩
      · injection e with e1 _; rw [e1]
      · exact nomatch e
    · rcases keyIs_shape hb with ⟨j, u, rfl, e⟩ | ⟨y, u, rfl, e⟩
      · exact nomatch e
      · injection e with e1 _; rw [e1]
  byValue := fun k v h => by
    rcases keyIs_shape h with ⟨i, t, rfl, rfl⟩ | ⟨x, t, rfl, rfl⟩ <;> rfl
  pyHash := fun hv h => by
    rcases keyIs_shape hv with ⟨i, t, rfl, rfl⟩ | ⟨x, t, rfl, rfl⟩
    · exact wpAny_pyHash_int h
    · exact wpAny_pyHash_str h
  eqBool := fun hu hv h => by
    rcases keyIs_shape hu with ⟨i, t, rfl, rfl⟩ | ⟨x, t, rfl, rfl⟩
    · rcases keyIs_shape hv with ⟨j, u, rfl, rfl⟩ | ⟨y, u, rfl, rfl⟩
      · rw [key_ll] at h; exact wpAny_eqBool_int h
      · rw [key_lr] at h; exact SeqAt.EqAt.int_str i t y u _ _ _ _ h
    · rcases keyIs_shape hv with ⟨j, u, rfl, rfl⟩ | ⟨y, u, rfl, rfl⟩
      · rw [key_rl] at h; exact SeqAt.EqAt.str_int x t j u _ _ _ _ h
      · rw [key_rr] at h; exact wpAny_eqBool_str h
  «strs» := fun k x t v h => by
    rcases keyIs_shape h with ⟨i, u, rfl, e⟩ | ⟨y, u, rfl, e⟩
    · exact nomatch e
    · injection e with e1 _
      subst e1
      cases v <;> rfl

theorem mixKind_int (prog : Program) (w : World) (i : Int) (t : Tok) : (mixKind prog w).is (.inl i) (.int i t) = true := keyIs_int i t
theorem mixKind_str (prog : Program) (w : World) (x : Str) (t : Tok) : (mixKind prog w).is (.inr x) (.str x t) = true := keyIs_str x t
end L2

namespace L2
open PySem PySem.Spec PyProof.Rows

/-- a value, without the heap -/
inductive V where
  | non | bl (b : Bool) | int (i : Int) | str (x : Str) | byt (b : Array UInt8) | flt (b : UInt64) | ref (a : Addr) | ty (n : String)
  deriving DecidableEq

def RelV : V → Value → Prop
  | .non, u => u = Value.none
  | .bl b, u => u = Value.bool b
  | .int i, u => ∃ t, u = Value.int i t
  | .str x, u => ∃ t, u = Value.str x t
  | .byt b, u => ∃ t, u = Value.bytes b t
  | .flt b, u => ∃ t, u = Value.float b t
  | .ref a, u => u = Value.ref a
  | .ty n, u => u = Value.type n

abbrev Vals : List V → List Value → Prop := Paired RelV
theorem Vals.length {xs : List V} {us : List Value} (r : Vals xs us) : xs.length = us.length := Paired.length r
theorem Vals.get : ∀ {xs : List V} {us : List Value} {i : Nat} {x : V}, Vals xs us → xs[i]? = some x → ∃ u, us[i]? = some u ∧ RelV x u
  | _, _, _, _, .nil, e => by simp at e
  | _, _, 0, _, .cons r _, e => by simp at e; subst e; exact ⟨_, rfl, r⟩
  | _, _, i + 1, x, .cons _ t, e => by
    obtain ⟨u, h1, h2⟩ := Vals.get (i := i) (x := x) t (by simpa using e)
    exact ⟨u, by simpa using h1, h2⟩
theorem Vals.set {x : V} {u : Value} (r : RelV x u) : ∀ {xs : List V} {us : List Value} (i : Nat), Vals xs us → Vals (xs.set i x) (us.set i u)
  | _, _, _, .nil => .nil
  | _, _, 0, .cons _ t => .cons r t
  | _, _, i + 1, .cons q t => .cons q (Vals.set r i t)
theorem Vals.append : ∀ {xs ys : List V} {us ws : List Value}, Vals xs us → Vals ys ws → Vals (xs ++ ys) (us ++ ws)
  | _, _, _, _, .nil, s => s
  | _, _, _, _, .cons r t, s => .cons r (Vals.append t s)
theorem Vals.take : ∀ {xs : List V} {us : List Value} (n : Nat), Vals xs us → Vals (xs.take n) (us.take n)
  | _, _, 0, _ => .nil
  | _, _, _ + 1, .nil => .nil
  | _, _, n + 1, .cons r t => .cons r (Vals.take n t)
theorem Vals.drop : ∀ {xs : List V} {us : List Value} (n : Nat), Vals xs us → Vals (xs.drop n) (us.drop n)
  | _, _, 0, r => r
  | _, _, _ + 1, .nil => .nil
  | _, _, n + 1, .cons _ t => Vals.drop n t
theorem Vals.none_of : ∀ {xs : List V} {us : List Value} {i : Nat}, Vals xs us → xs[i]? = none → us[i]? = none := fun {xs us i} r e => by
  have h1 := r.length
  have h2 : xs.length ≤ i := List.getElem?_eq_none_iff.mp e
  exact List.getElem?_eq_none_iff.mpr (by omega)

def RelO : Option V → Option Value → Prop
  | some v, some u => RelV v u
  | none, none => True
  | _, _ => False
def KV {κ : Type} : List (κ × V) → List (κ × Value) → Prop := Paired fun (p : κ × V) (q : κ × Value) => p.1 = q.1 ∧ RelV p.2 q.2

/-- a key of a dict (00_mix): an int or a text -/
def kV : Key → V
  | .inl i => .int i
  | .inr x => .str x

/-- what stands at a tracked address -/
inductive HO where
  /-- a list -/
  | lst (xs : List V)
  /-- a tuple (never changes) -/
  | tup (xs : List V)
  /-- a dict whose keys are ints and texts; one whose keys are tuples of ints and texts (the empty one is both) -/
  | dK (kvs : List (Key × V)) | dT (kvs : List (List Key × V))
  /-- a set of ints: its members, its size -/
  | set (S : Int → Bool) (n : Nat)
  /-- an instance of the class at C, its dict at dx, its attributes -/
  | ins (C dx : Addr) (fs : List (Str × V))
  /-- the dict of the instance at x -/
  | own (x : Addr)
  /-- the dict of an exception -/
  | xd (fs : List (Str × V))
  /-- a bound method, f of x -/
  | met (f x : Addr)
  /-- a range object lo, lo + 1, .. below hi -/
  | rng (lo hi : Int)
  /-- a thing that is known to the object (the script; a dict while a loop walks it): read, never written while it is so -/
  | frz (o : Obj) (u : HO)
  /-- a code object's table -/
  | tbl (ps : Array Value)
  /-- any other thing, by what is true of its one object (a def of one's own: SetO a S n := HO.ext fun h => ..) -/
  | ext (φ : Heap → Prop)

abbrev Hp := Addr → Option HO
def upd (H : Hp) (a : Addr) (o : HO) : Hp := fun b => if b = a then some o else H b
theorem upd_same {H : Hp} {a : Addr} {o : HO} : upd H a o a = some o := by unfold upd; rw [if_pos rfl]
theorem upd_ne {H : Hp} {a b : Addr} {o : HO} (h : b ≠ a) : upd H a o b = H b := by unfold upd; rw [if_neg h]
theorem upd_upd {H : Hp} {a : Addr} {o u : HO} : upd (upd H a o) a u = upd H a u := by
  funext b; unfold upd; split <;> rfl
/-- two objects of different content stand apart -/
theorem ne_of {H : Hp} {a b : Addr} {o u : HO} (h : H a = some o) (h' : H b = some u) (d : o ≠ u) : a ≠ b := by
  intro e; subst e; rw [h] at h'; exact d (Option.some.inj h')
theorem ne_of_none {H : Hp} {a b : Addr} {o : HO} (h : H a = some o) (h' : H b = none) : a ≠ b := by
  intro e; subst e; rw [h] at h'; cases h'

section
variable (P : Program) (w : World)
def ObjOk (H : Hp) (h : Heap) (a : Addr) : HO → Prop
  | .lst xs => xs.length ≤ sizeLine ∧ ∃ (its : List Value) (n : Nat), Vals xs its ∧ h.get? a = some { cls := .type "list", data := .seq its.toArray n }
  | .tup xs => xs.length ≤ sizeLine ∧ ∃ its : List Value, Vals xs its ∧ IsTup h a its.toArray
  | .dK kvs => kvs.length ≤ sizeLine ∧ (a == sysModules) = false ∧ ∃ vs, KV kvs vs ∧ h.DictOf (mixKind P w) a vs
  | .dT kvs => kvs.length ≤ sizeLine ∧ (a == sysModules) = false ∧ ∃ xs : List (List Key × Addr × Value),
      Paired (fun (p : List Key × V) (q : List Key × Addr × Value) => p.1 = q.1 ∧ H q.2.1 = some (.tup (p.1.map kV)) ∧ RelV p.2 q.2.2) kvs xs ∧
      ∃ o es ep, h.get? a = some o ∧ o.ExactDict ∧ o.data = .dict es ep ∧ es.toList = xs.map (entryOfKey (tupleKind (mixKind P w))) ∧ (xs.map (·.1)).Nodup
  | .set S n => h.SetOf (intKind P w) a S n
  | .ins C dx fs => H dx = some (.own a) ∧ fs.length ≤ 1000 ∧ dx ≠ a ∧ h.get? a = some (PySem.W.instObj C dx) ∧
      ∃ mA, h.Ns1 dx mA ∧ (∀ f, RelO (fs.lookup f) (mA f)) ∧ PySem.Within mA (fs.map (·.1))
  | .own _ => ∃ o, h.get? a = some o
  | .xd fs => ∃ mA, h.Ns1 a mA ∧ ∀ f, RelO (fs.lookup f) (mA f)
  | .rng lo hi => ∃ t u v, h.get? a = some { cls := .type "range", data := .fields #[.int lo t, .int hi u, .int 1 v] }
  | .frz o u => h.get? a = some o ∧ ObjOk H h a u
  | .tbl ps => h.get? a = some { cls := .none, data := .fields ps }
  | .met f x => h.get? a = some (PySem.W.methodObj (.ref f) (.ref x))
  | .ext φ => φ h ∧ (∃ o, h.get? a = some o) ∧ ∀ h1 h2 : Heap, φ h1 → (∀ o, h1.get? a = some o → h2.get? a = some o) → φ h2
/-- the abstract heap is held -/
def HOk (H : Hp) (h : Heap) : Prop := ∀ a o, H a = some o → ObjOk P w H h a o
end

section
variable {P : Program} {w : World} {H H' : Hp} {h h' : Heap} {a : Addr} {o : HO}
theorem ObjOk.lt (x : ObjOk P w H h a o) : a < h.objs.size := by
  cases o with
  | lst xs => obtain ⟨_, _, _, _, e⟩ := x; exact Heap.lt_size e
  | tup xs => obtain ⟨_, _, _, p⟩ := x; exact p.lt
  | dK kvs => obtain ⟨_, _, _, _, o, _, _, e, _⟩ := x; exact Heap.lt_size e
  | dT kvs => obtain ⟨_, _, _, _, o, _, _, e, _⟩ := x; exact Heap.lt_size e
  | set S n => obtain ⟨o, _, _, _, e, _⟩ := x; exact Heap.lt_size e
  | ins C dx fs => obtain ⟨_, _, _, e, _⟩ := x; exact Heap.lt_size e
  | own y => obtain ⟨_, e⟩ := x; exact Heap.lt_size e
  | xd fs => obtain ⟨_, ⟨_, _, _, e, _⟩, _⟩ := x; exact Heap.lt_size e
  | rng lo hi => obtain ⟨_, _, _, e⟩ := x; exact Heap.lt_size e
  | frz ob u => obtain ⟨e, _⟩ := x; exact Heap.lt_size e
  | tbl ps => exact Heap.lt_size (show h.get? a = some _ from x)
  | met f y => exact Heap.lt_size (show h.get? a = some _ from x)
  | ext φ => obtain ⟨_, ⟨_, e⟩, _⟩ := x; exact Heap.lt_size e
theorem Paired.mapP {α β : Type} {F G : α → β → Prop} : ∀ {l₁ : List α} {l₂ : List β}, Paired F l₁ l₂ → (∀ a b, F a b → G a b) → Paired G l₁ l₂
  | _, _, .nil, _ => .nil
  | _, _, .cons r t, f => .cons (f _ _ r) (Paired.mapP t f)
/-- what an object's description leans on: its own object, its own dict, the tuples -/
theorem ObjOk.stay (x : ObjOk P w H h a o) (k : ∀ b u, (b = a ∨ H b = some (.own a)) → h.get? b = some u → h'.get? b = some u)
    (ho : ∀ b, H b = some (.own a) → H' b = some (.own a)) (ht : ∀ b xs, H b = some (.tup xs) → H' b = some (.tup xs)) : ObjOk P w H' h' a o := by
  induction o with
  | lst xs => obtain ⟨z, its, n, r, e⟩ := x; exact ⟨z, its, n, r, k _ _ (.inl rfl) e⟩
  | tup xs => obtain ⟨z, its, r, ob, e, c⟩ := x; exact ⟨z, its, r, ob, k _ _ (.inl rfl) e, c⟩
  | dK kvs => obtain ⟨z, y, vs, r, ob, es, ep, e, c⟩ := x; exact ⟨z, y, vs, r, ob, es, ep, k _ _ (.inl rfl) e, c⟩
  | dT kvs =>
    obtain ⟨z, y, xs, r, ob, es, ep, e, c⟩ := x
    exact ⟨z, y, xs, Paired.mapP r fun p q z => ⟨z.1, ht _ _ z.2.1, z.2.2⟩, ob, es, ep, k _ _ (.inl rfl) e, c⟩
  | set S n => obtain ⟨ob, es, ep, t, e, c⟩ := x; exact ⟨ob, es, ep, t, k _ _ (.inl rfl) e, c⟩
  | ins C dx fs =>
    obtain ⟨d, z, ne, e, mA, ⟨od, es, ep, e2, c⟩, r⟩ := x
    exact ⟨ho _ d, z, ne, k _ _ (.inl rfl) e, mA, ⟨od, es, ep, k _ _ (.inr d) e2, c⟩, r⟩
  | own y => obtain ⟨ob, e⟩ := x; exact ⟨ob, k _ _ (.inl rfl) e⟩
  | xd fs => obtain ⟨mA, ⟨od, es, ep, e, c⟩, r⟩ := x; exact ⟨mA, ⟨od, es, ep, k _ _ (.inl rfl) e, c⟩, r⟩
  | rng lo hi => obtain ⟨t, u, v, e⟩ := x; exact ⟨t, u, v, k _ _ (.inl rfl) e⟩
  | frz ob u ih => obtain ⟨e, q⟩ := x; exact ⟨k _ _ (.inl rfl) e, ih q⟩
  | tbl ps =>
    have e : h.get? a = some { cls := .none, data := .fields ps } := x
    show h'.get? a = some { cls := .none, data := .fields ps }
    exact k a _ (.inl rfl) e
  | met f y =>
    have e : h.get? a = some (PySem.W.methodObj (.ref f) (.ref y)) := x
    show h'.get? a = some (PySem.W.methodObj (.ref f) (.ref y))
    exact k a _ (.inl rfl) e
  | ext φ => obtain ⟨p, ⟨o, e⟩, st⟩ := x; exact ⟨st _ _ p fun o q => k _ _ (.inl rfl) q, ⟨o, k _ _ (.inl rfl) e⟩, st⟩
theorem HOk.lt (x : HOk P w H h) (e : H a = some o) : a < h.objs.size := (x a o e).lt
theorem HOk.fresh (x : HOk P w H h) (e : h.objs.size ≤ a) : H a = none := by
  cases q : H a with
  | none => rfl
  | some u => exact absurd (Nat.lt_of_lt_of_le (x.lt q) e) (Nat.lt_irrefl _)
/-- every object of the heap is kept -/
theorem HOk.kept (x : HOk P w H h) (k : ∀ b u, h.get? b = some u → h'.get? b = some u) : HOk P w H h' := fun a o e =>
  (x a o e).stay (fun b u _ q => k b u q) (fun _ q => q) fun _ _ q => q
/-- a new object is laid and tracked -/
theorem HOk.laid (x : HOk P w H h) (k : ∀ b u, h.get? b = some u → h'.get? b = some u) (hp : h.objs.size ≤ a) (new : ObjOk P w (upd H a o) h' a o) : HOk P w (upd H a o) h' := fun b u e => by
  have hn := x.fresh hp
  by_cases hb : b = a
  · subst hb; rw [upd_same] at e; cases e; exact new
  · rw [upd_ne hb] at e
    exact (x b u e).stay (fun c v _ q => k c v q) (fun c q => by rw [upd_ne (ne_of_none q hn)]; exact q) fun c xs q => by rw [upd_ne (ne_of_none q hn)]; exact q
end

/-- what may be read as u: it is u, or a known u -/
def Rd (H : Hp) (a : Addr) (u : HO) : Prop := H a = some u ∨ ∃ o, H a = some (.frz o u)
theorem Rd.of {H : Hp} {a : Addr} {u : HO} (h : H a = some u) : Rd H a u := .inl h
theorem Rd.ok {P : Program} {w : World} {H : Hp} {h : Heap} {a : Addr} {u : HO} (r : Rd H a u) (x : HOk P w H h) : ObjOk P w H h a u := by
  rcases r with r | ⟨o, r⟩
  · exact x a u r
  · obtain ⟨_, q⟩ := x a _ r
    exact q
/-- what may be written -/
def Mut : Option HO → Prop
  | some (.lst _) => True
  | some (.dK _) => True
  | some (.dT _) => True
  | some (.set _ _) => True
  | some (.ins _ _ _) => True
  | some (.ext _) => True
  | _ => False
section
variable {P : Program} {w : World} {H : Hp} {h h' : Heap} {x e : Addr} {o' : HO}
/-- the object at e is changed: x itself, or the dict of the instance x -/
theorem HOk.write (ok : HOk P w H h) (mu : Mut (H x)) (he : e = x ∨ H e = some (.own x)) (k : ∀ b u, b ≠ e → h.get? b = some u → h'.get? b = some u) (heo : ∃ u, h'.get? e = some u)
    (new : ObjOk P w (upd H x o') h' x o') : HOk P w (upd H x o') h' := fun b u q => by
  have nown : ∀ c y, H c = some (.own y) → c ≠ x := fun c y r z => by subst z; rw [r] at mu; exact mu
  have ntup : ∀ c xs, H c = some (.tup xs) → c ≠ x := fun c xs r z => by subst z; rw [r] at mu; exact mu
  by_cases hb : b = x
  · subst hb; rw [upd_same] at q; cases q; exact new
  · rw [upd_ne hb] at q
    by_cases hbe : b = e
    · have q' : H b = some (.own x) := by
        rcases he with z | z
        · exact absurd (hbe.trans z) hb
        · rw [hbe]; exact z
      rw [q] at q'; cases q'
      obtain ⟨v, hv⟩ := heo
      exact ⟨v, by rw [hbe]; exact hv⟩
    · refine (ok b u q).stay (fun c v hc r => k c v ?_ r) (fun c r => by rw [upd_ne (nown c b r)]; exact r) fun c xs r => by rw [upd_ne (ntup c xs r)]; exact r
      rcases hc with rfl | hc
      · exact hbe
      · rintro rfl
        rcases he with z | z
        · exact nown c b hc z
        · rw [hc] at z; cases z; exact hb rfl
end

structure Un (fs ex : List Addr) (H H' : Hp) (h h' : Heap) : Prop where
  keep : ∀ b o, h.get? b = some o → H b = none → b ∉ fs → b ∉ ex → h'.get? b = some o
  slot : ∀ b o, h.get? b = some o → H b = none → b ∈ fs → b ∉ ex → ∃ sl, h'.get? b = some { o with slots := sl }
  free : ∀ b o, h.get? b = some o → H b = none → b ∉ ex → H' b = none
  there : ∀ b o, h.get? b = some o → b ∉ ex → ∃ o', h'.get? b = some o'
  tups : ∀ b xs, H b = some (.tup xs) → H' b = some (.tup xs)
  frzs : ∀ b o u, H b = some (.frz o u) → H' b = some (.frz o u)
  tbls : ∀ b ps, H b = some (.tbl ps) → ∃ more, H' b = some (.tbl (ps ++ more))
section
variable {fs fs' ex ex' : List Addr} {H H1 H2 : Hp} {h h1 h2 h' : Heap} {a x e : Addr} {o : HO}
theorem Un.any (u : Un fs ex H H1 h h1) {b : Addr} {ob : Obj} (q : h.get? b = some ob) (n : H b = none) (hx : b ∉ ex) : ∃ sl, h1.get? b = some { ob with slots := sl } := by
  by_cases hb : b ∈ fs
  · exact u.slot b ob q n hb hx
  · exact ⟨ob.slots, u.keep b ob q n hb hx⟩
theorem Un.trans (a : Un fs ex H H1 h h1) (b : Un fs ex H1 H2 h1 h2) : Un fs ex H H2 h h2 where
  keep := fun c ob q n hc hx => b.keep c ob (a.keep c ob q n hc hx) (a.free c ob q n hx) hc hx
  slot := fun c ob q n hc hx => by
    obtain ⟨sl, e1⟩ := a.slot c ob q n hc hx
    obtain ⟨sl', e2⟩ := b.slot c _ e1 (a.free c ob q n hx) hc hx
    exact ⟨sl', e2⟩
  free := fun c ob q n hx => by
    obtain ⟨o', e1⟩ := a.there c ob q hx
    exact b.free c o' e1 (a.free c ob q n hx) hx
  there := fun c ob q hx => by
    obtain ⟨o', e1⟩ := a.there c ob q hx
    exact b.there c o' e1 hx
  tups := fun c xs q => b.tups c xs (a.tups c xs q)
  frzs := fun c ob xs q => b.frzs c ob xs (a.frzs c ob xs q)
  tbls := fun c ps q => by
    obtain ⟨m1, e1⟩ := a.tbls c ps q
    obtain ⟨m2, e2⟩ := b.tbls c _ e1
    exact ⟨m1 ++ m2, by rw [e2, Array.append_assoc]⟩
theorem Un.kept (k : ∀ b u, h.get? b = some u → h'.get? b = some u) : Un fs ex H H h h' :=
  ⟨fun b ob q _ _ _ => k b ob q, fun b ob q _ _ _ => ⟨ob.slots, k b ob q⟩, fun _ _ _ n _ => n, fun b ob q _ => ⟨ob, k b ob q⟩, fun _ _ q => q, fun _ _ _ q => q, fun _ ps q => ⟨#[], by rw [q]; simp⟩⟩
theorem Un.refl : Un fs ex H H h h := Un.kept fun _ _ q => q
theorem Un.laid (k : ∀ b u, h.get? b = some u → h'.get? b = some u) (hp : h.objs.size ≤ a) (hn : H a = none) : Un fs ex H (upd H a o) h h' where
  keep := fun b u q _ _ _ => k b u q
  slot := fun b u q _ _ _ => ⟨u.slots, k b u q⟩
  free := fun b u q n _ => by rw [upd_ne (Nat.ne_of_lt (Nat.lt_of_lt_of_le (Heap.lt_size q) hp))]; exact n
  there := fun b u q _ => ⟨u, k b u q⟩
  tups := fun b xs q => by rw [upd_ne (ne_of_none q hn)]; exact q
  frzs := fun b u xs q => by rw [upd_ne (ne_of_none q hn)]; exact q
  tbls := fun b ps q => ⟨#[], by rw [upd_ne (ne_of_none q hn), q]; simp⟩
theorem Un.write (mu : Mut (H x)) (he : e = x ∨ H e = some (.own x)) (k : ∀ b u, b ≠ e → h.get? b = some u → h'.get? b = some u) (heo : ∃ u, h'.get? e = some u) : Un fs ex H (upd H x o) h h' := by
  have hx : ∀ b, H b = none → b ≠ x := fun b n z => by subst z; rw [n] at mu; exact mu
  have hb : ∀ b, H b = none → b ≠ e := fun b n z => by
    subst z
    rcases he with r | r
    · exact hx b n r
    · rw [n] at r; cases r
  have hm : ∀ b u, H b = some u → ¬ Mut (some u) → b ≠ x := fun b u q nm z => by subst z; rw [q] at mu; exact nm mu
  refine ⟨fun b u q n _ _ => k b u (hb b n) q, fun b u q n _ _ => ⟨u.slots, k b u (hb b n) q⟩, fun b u q n _ => by rw [upd_ne (hx b n)]; exact n, fun b u q _ => ?_,
    fun b xs q => by rw [upd_ne (hm b _ q fun z => z)]; exact q, fun b u xs q => by rw [upd_ne (hm b _ q fun z => z)]; exact q, fun b ps q => ⟨#[], by rw [upd_ne (hm b _ q fun z => z), q]; simp⟩⟩
  by_cases hbe : b = e
  · subst hbe; exact heo
  · exact ⟨u, k b u hbe q⟩
theorem Un.mono (u : Un fs ex H H1 h h1) (hs : ∀ b ∈ fs, b ∈ fs') (hx : ∀ b ∈ ex, b ∈ ex') : Un fs' ex' H H1 h h1 :=
  ⟨fun b ob q n hb he => u.keep b ob q n (fun z => hb (hs b z)) fun z => he (hx b z), fun _ _ q n _ he => u.any q n fun z => he (hx _ z), fun b ob q n he => u.free b ob q n fun z => he (hx b z), fun b ob q he => u.there b ob q fun z => he (hx b z), u.tups, u.frzs, u.tbls⟩
end

def trk (h : Heap) (H : Hp) : List Addr := (List.range h.objs.size).filter fun a => (H a).isSome
def hidT (h : Heap) (H : Hp) : Heap := PySem.W.hideAll h (trk h H)
theorem hidT_size (h : Heap) (H : Hp) : (hidT h H).objs.size = h.objs.size := PySem.W.hideAll_size _ _
theorem hidT_get {h : Heap} {H : Hp} {b : Addr} {o : Obj} (e : h.get? b = some o) (n : H b = none) : (hidT h H).get? b = some o :=
  PySem.W.hideAll_get _ e fun hm => by
    have q : (H b).isSome = true := (List.mem_filter.mp hm).2
    rw [n] at q; simp at q
theorem of_hidT {h : Heap} {H : Hp} {b : Addr} {o : Obj} (e : (hidT h H).get? b = some o) : h.get? b = some o ∧ H b = none := by
  have e' : h.get? b = some o := PySem.W.of_hideAll (trk h H) e
  refine ⟨e', ?_⟩
  cases q : H b with
  | none => rfl
  | some x =>
    have hm : b ∈ trk h H := List.mem_filter.mpr ⟨List.mem_range.mpr (Heap.lt_size e'), by simp [q]⟩
    have z : (hidT h H).get? b = none := PySem.W.hideAll_none (trk h H) hm
    rw [z] at e; cases e

def allNews (g h : Heap) (L : Addr) : List (Addr × Obj) := (List.range h.objs.size).filterMap fun a => if a = L ∨ (g.get? a).isSome = true then none else (h.get? a).map fun o => (a, o)
def rest (g h : Heap) (L d : Addr) : List (Addr × Obj) := (allNews g h L).filter fun p => decide (p.1 ≠ d)
end L2

namespace L2
open PySem PySem.Spec PyProof.Rows

/-- the module's facts, over the base: the heap at the law's entry without what is tracked there -/
structure Mod (K : PySem.W.Frag) (mg : Str → Option Value) (base : Heap) : Prop where
  kin : K.In base
  glob : base.Ns mainGlobals mg
  blt : ∃ mb, base.Ns builtinsNs mb ∧ ∀ x : Str, x ≠ "__name__" → mb x = bootBuiltins x
  nolimit : base.NoLimit

/-- the context: a def's body (or a comprehension's block) running. base: fixed through the whole law; s₀, H₀: the entry; outer: the frames whose slots others may change (a def's callers); stack: all frames that run;
   ex: iterators that were made ahead of the entry and are walked here (a comprehension's); fn: the names whose cells were made at the entry (a def: all; a comprehension's block: its own); calm: not within an except suite; pn: pins that every state bears; xe: what is wanted of an exception that leaves the code -/
structure Cx where
  prog : Program
  w : World
  K : PySem.W.Frag
  mg : Str → Option Value
  base : Heap
  A : Around
  N : List Str
  s₀ : Shared
  H₀ : Hp
  env : Env
  outer : List Env
  stack : List Env
  ex : List Addr
  fn : Str → Bool
  calm : Bool
  pn : List (Addr × Obj)
  xe : Value → Shared → Prop
/-- the callers' frames -/
def frs (l : List Env) : List Addr := l.filterMap (·.frame)
abbrev Cx.fs (X : Cx) : List Addr := frs X.outer

def Vis (sc : Scope) (x : Str) : Prop := sc.names.lookup x = some .local ∨ sc.names.lookup x = some .cell ∨ sc.names.lookup x = some .free
def Loc (sc : Scope) (x : Str) : Prop := sc.names.lookup x = some .local ∨ sc.names.lookup x = some .cell
def Look (env : Env) (h : Heap) (m : Str → Option Value) (x : Str) (u : Value) : Prop :=
  (env.kindOf x = some .local ∧ m x = some u) ∨ ((env.kindOf x = some .cell ∨ env.kindOf x = some .free) ∧ ∃ c, env.cells.lookup x = some c ∧ h.IsCell c (some u))

structure Cx.Ok (X : Cx) : Prop where
  mod : Mod X.K X.mg X.base
  kind : X.env.scope.kind = .function
  glob : X.env.globals = mainGlobals
  blt : X.env.builtins = builtinsNs
  above : X.s₀.heap.objs.size ≤ X.env.locals
  inj : ∀ x y c, X.env.cells.lookup x = some c → X.env.cells.lookup y = some c → x = y
  has : ∀ x, (X.env.kindOf x = some .cell ∨ X.env.kindOf x = some .free) → ∃ c, X.env.cells.lookup x = some c
  cab : ∀ x c, X.fn x = true → X.env.cells.lookup x = some c → X.s₀.heap.objs.size ≤ c
  hd : X.calm = true → X.A.handled = none
  frames : X.A.frames = some X.stack
  stk : X.stack = X.outer ∨ (X.stack = X.env :: X.outer ∧ X.env.frame = some X.env.locals)
  exf : ∀ b ∈ X.ex, b ≠ X.env.locals ∧ ∀ x c, X.env.cells.lookup x = some c → c ≠ b
  bs : ∀ b o, X.base.get? b = some o → X.s₀.heap.get? b = some o ∧ X.H₀ b = none
  bsz : X.base.objs.size ≤ X.s₀.heap.objs.size
  noex : ∀ b o, X.base.get? b = some o → b ∉ X.ex
  exfs : ∀ b ∈ X.ex, b ∉ X.fs
  funs : X.s₀.heap.FunFrames X.base X.outer
  frf : ∀ b ∈ X.fs, X.H₀ b = none

structure Inv (X : Cx) (pins : List (Addr × Obj)) (σ : List (Option V)) (H : Hp) (s : Shared) : Prop where
  ok : X.Ok
  os : s.os = X.s₀.os
  bare : AllBare s.gens
  base : Un X.fs X.ex X.H₀ H X.s₀.heap s.heap
  loc : ∃ m, s.heap.Ns X.env.locals m ∧ ∀ (i : Nat) (x : Str) (v : V), X.N[i]? = some x → σ[i]? = some (some v) → Vis X.env.scope x → ∃ u, RelV v u ∧ Look X.env s.heap m x u
  cell : ∀ x c, X.env.cells.lookup x = some c → ∃ v, s.heap.IsCell c v
  free : H X.env.locals = none
  freeC : ∀ x c, X.env.cells.lookup x = some c → H c = none
  pin : ∀ p ∈ X.pn ++ pins, s.heap.get? p.1 = some p.2 ∧ H p.1 = none ∧ p.1 ≠ X.env.locals ∧ p.1 ∉ X.fs ∧ ∀ v, p.2.data ≠ .cell v
  hok : HOk X.prog X.w H s.heap
  len : σ.length = X.N.length

section
variable {X : Cx} {pins : List (Addr × Obj)} {σ : List (Option V)} {H H' : Hp} {s : Shared} {h' : Heap}

theorem Cx.Ok.nofr (ok : X.Ok) {b : Addr} {o : Obj} (e : X.base.get? b = some o) : b ∉ X.fs := fun hb => by
  have := (ok.funs.mem hb).1
  rw [e] at this; cases this
theorem Inv.bs (I : Inv X pins σ H s) : ∀ b o, X.base.get? b = some o → s.heap.get? b = some o ∧ H b = none := fun b o e =>
  ⟨I.base.keep b o (I.ok.bs b o e).1 (I.ok.bs b o e).2 (I.ok.nofr e) (I.ok.noex b o e), I.base.free b o (I.ok.bs b o e).1 (I.ok.bs b o e).2 (I.ok.noex b o e)⟩
theorem Inv.bk (I : Inv X pins σ H s) : ∀ b o, X.base.get? b = some o → s.heap.get? b = some o := fun b o e => (I.bs b o e).1
theorem Inv.mod (I : Inv X pins σ H s) : Mod X.K X.mg X.base := I.ok.mod
theorem Inv.kIn (I : Inv X pins σ H s) : X.K.In s.heap := I.ok.mod.kin.keeps I.bk
theorem Inv.nolimit (I : Inv X pins σ H s) : s.heap.NoLimit := I.ok.mod.nolimit.keeps I.bk
/-- the frame over the base: for OpenK's rules (K.In X.base is I.mod.kin) -/
theorem Inv.fr (I : Inv X pins σ H s) : ∃ m, Fr X.base X.env.locals s.heap m :=
  let ⟨m, hn, _⟩ := I.loc
  ⟨m, hn, I.bk, Nat.le_trans I.ok.bsz I.ok.above⟩
theorem Inv.lt (I : Inv X pins σ H s) : X.env.locals < s.heap.objs.size := let ⟨_, hn, _⟩ := I.loc; hn.lt
theorem Inv.sz (I : Inv X pins σ H s) : X.s₀.heap.objs.size ≤ s.heap.objs.size := Nat.le_trans I.ok.above (Nat.le_of_lt I.lt)
theorem Inv.nofs (I : Inv X pins σ H s) {a : Addr} (h : s.heap.objs.size ≤ a) : a ∉ X.fs := fun hb => by
  obtain ⟨_, o, ho, _⟩ := I.ok.funs.mem hb
  exact absurd (Nat.lt_of_lt_of_le (Heap.lt_size ho) (Nat.le_trans I.sz h)) (Nat.lt_irrefl _)
theorem Inv.cne (I : Inv X pins σ H s) : ∀ x c, X.env.cells.lookup x = some c → c ≠ X.env.locals := fun x c e z => by
  obtain ⟨v, o, ho, hd⟩ := I.cell x c e
  obtain ⟨m, ⟨o', es, ep, ho', hd', _⟩, _⟩ := I.loc
  rw [z, ho'] at ho; cases ho; rw [hd'] at hd; cases hd
theorem Inv.funs (I : Inv X pins σ H s) : s.heap.FunFrames X.base X.outer := by
  have all : ∀ (l : List Env), (∀ b ∈ frs l, b ∈ X.fs) → X.s₀.heap.FunFrames X.base l → s.heap.FunFrames X.base l := by
    intro l
    induction l with
    | nil => intro _ _; trivial
    | cons env r ih =>
      intro hs hl
      obtain ⟨hk, ⟨L, o, hf, hn, ho, hd⟩, hr⟩ := hl
      have hL : L ∈ X.fs := hs L (by unfold frs; rw [List.filterMap_cons, hf]; exact List.mem_cons_self)
      obtain ⟨sl, e⟩ := I.base.slot L o ho (I.ok.frf L hL) hL fun z => I.ok.exfs L z hL
      exact ⟨hk, ⟨L, _, hf, hn, e, hd⟩, ih (fun b hb => hs b (by unfold frs; rw [List.filterMap_cons, hf]; exact List.mem_cons_of_mem _ hb)) hr⟩
  exact all X.outer (fun _ hb => hb) I.ok.funs

/-- the frames that run, for a call -/
theorem Inv.stack (I : Inv X pins σ H s) : s.heap.FunFrames X.base X.stack := by
  rcases I.ok.stk with e | ⟨e, hf⟩
  · rw [e]; exact I.funs
  · rw [e]
    obtain ⟨m, hn, _⟩ := I.loc
    refine .cons (by rw [I.ok.kind]; decide) hf hn ?_ I.funs
    exact Heap.get?_none_of_le (Nat.le_trans I.ok.bsz I.ok.above)
theorem Inv.stkSub (I : Inv X pins σ H s) : ∀ b ∈ frs X.stack, b ∈ X.env.locals :: X.fs := fun b hb => by
  rcases I.ok.stk with e | ⟨e, hf⟩
  · rw [e] at hb; exact List.mem_cons_of_mem _ hb
  · rw [e] at hb
    unfold frs at hb
    rw [List.filterMap_cons, hf] at hb
    exact hb
theorem Inv.stkFree (I : Inv X pins σ H s) : ∀ b ∈ frs X.stack, H b = none := fun b hb => by
  rcases List.mem_cons.mp (I.stkSub b hb) with e | hb
  · rw [e]; exact I.free
  · obtain ⟨_, o, ho, _⟩ := I.ok.funs.mem hb
    exact I.base.free b o ho (I.ok.frf b hb) fun z => I.ok.exfs b z hb

/-- THE STEP: the untracked objects but the frame and the records at ch are kept (the callers' frames up to slots), the frame's map is kept, the new abstract heap is held -/
theorem Inv.step {g' : Array GenState} {t' : Nat} {d' : Drawn} {ch : List Addr} (I : Inv X pins σ H s)
    (hch : ∀ b ∈ ch, (b ∈ X.ex ∨ X.s₀.heap.objs.size ≤ b) ∧ b ≠ X.env.locals ∧ (∀ x c, X.env.cells.lookup x = some c → c ≠ b) ∧ ∀ p ∈ X.pn ++ pins, p.1 ≠ b)
    (keep : ∀ b o, b ≠ X.env.locals → b ∉ X.fs → b ∉ ch → s.heap.get? b = some o → H b = none → h'.get? b = some o)
    (slot : ∀ b o, b ≠ X.env.locals → b ∈ X.fs → b ∉ ch → s.heap.get? b = some o → H b = none → ∃ sl, h'.get? b = some { o with slots := sl }) (free : ∀ b o, b ∉ ch → s.heap.get? b = some o → H b = none → H' b = none)
    (there : ∀ b o, b ∉ ch → s.heap.get? b = some o → ∃ o', h'.get? b = some o')
    (tups : ∀ b xs, H b = some (.tup xs) → H' b = some (.tup xs)) (frzs : ∀ b o u, H b = some (.frz o u) → H' b = some (.frz o u)) (tbls : ∀ b ps, H b = some (.tbl ps) → ∃ more, H' b = some (.tbl (ps ++ more)))
    (ns : ∀ m, s.heap.Ns X.env.locals m → h'.Ns X.env.locals m) (hok : HOk X.prog X.w H' h') (hg : AllBare g') :
    Inv X pins σ H' { s with heap := h', gens := g', drawn := d', toks := t' } := by
  have neL : ∀ b o, X.s₀.heap.get? b = some o → b ≠ X.env.locals := fun b o e => Nat.ne_of_lt (Nat.lt_of_lt_of_le (Heap.lt_size e) I.ok.above)
  have neC : ∀ b o, X.s₀.heap.get? b = some o → b ∉ X.ex → b ∉ ch := fun b o e hx hb => by
    rcases (hch b hb).1 with z | z
    · exact hx z
    · exact absurd (Nat.lt_of_lt_of_le (Heap.lt_size e) z) (Nat.lt_irrefl _)
  have cellK : ∀ x c, X.env.cells.lookup x = some c → ∀ v, s.heap.IsCell c v → h'.IsCell c v := fun x c e v ⟨o, ho, hd⟩ => by
    have nch : c ∉ ch := fun z => (hch c z).2.2.1 x c e rfl
    by_cases hc : c ∈ X.fs
    · obtain ⟨sl, q⟩ := slot c o (I.cne x c e) hc nch ho (I.freeC x c e)
      exact ⟨_, q, hd⟩
    · exact ⟨o, keep c o (I.cne x c e) hc nch ho (I.freeC x c e), hd⟩
  refine ⟨I.ok, I.os, hg, ⟨fun b o e n hb hx => ?_, fun b o e n hb hx => ?_, fun b o e n hx => ?_, fun b o e hx => ?_, fun b xs e => tups b xs (I.base.tups b xs e), fun b o xs e => frzs b o xs (I.base.frzs b o xs e), fun b ps e => ?_⟩, ?_, fun x c e => ?_, ?_, fun x c e => ?_, fun p hp => ?_, hok, I.len⟩
  · exact keep b o (neL b o e) hb (neC b o e hx) (I.base.keep b o e n hb hx) (I.base.free b o e n hx)
  · obtain ⟨sl, e1⟩ := I.base.slot b o e n hb hx
    obtain ⟨sl', e2⟩ := slot b _ (neL b o e) hb (neC b o e hx) e1 (I.base.free b o e n hx)
    exact ⟨sl', e2⟩
  · obtain ⟨o', e1⟩ := I.base.there b o e hx
    exact free b o' (neC b o e hx) e1 (I.base.free b o e n hx)
  · obtain ⟨o', e1⟩ := I.base.there b o e hx
    exact there b o' (neC b o e hx) e1
  · obtain ⟨m1, e1⟩ := I.base.tbls b ps e
    obtain ⟨m2, e2⟩ := tbls b _ e1
    exact ⟨m1 ++ m2, by rw [e2, Array.append_assoc]⟩
  · obtain ⟨m, hn, hl⟩ := I.loc
    refine ⟨m, ns m hn, fun i x v e1 e2 e3 => ?_⟩
    obtain ⟨u, r, l⟩ := hl i x v e1 e2 e3
    refine ⟨u, r, ?_⟩
    rcases l with l | ⟨k, c, e, z⟩
    · exact .inl l
    · exact .inr ⟨k, c, e, cellK x c e _ z⟩
  · obtain ⟨v, z⟩ := I.cell x c e
    exact ⟨v, cellK x c e v z⟩
  · obtain ⟨m, ⟨o, _, _, ho, _⟩, _⟩ := I.loc
    exact free _ o (fun z => (hch _ z).2.1 rfl) ho I.free
  · obtain ⟨v, o, ho, hd⟩ := I.cell x c e
    exact free c o (fun z => (hch c z).2.2.1 x c e rfl) ho (I.freeC x c e)
  · obtain ⟨e, n, ne, nf, d⟩ := I.pin p hp
    have nch : p.1 ∉ ch := fun z => (hch p.1 z).2.2.2 p hp rfl
    exact ⟨keep p.1 p.2 ne nf nch e n, free p.1 p.2 nch e n, ne, nf, d⟩
/-- .. where the frame's own object is kept too -/
theorem Inv.un {t' : Nat} (I : Inv X pins σ H s) (u : Un X.fs [] H H' s.heap h') (hok : HOk X.prog X.w H' h') : Inv X pins σ H' { s with heap := h', toks := t' } := by
  obtain ⟨m, ⟨o, es, ep, ho, r⟩, _⟩ := id I.loc
  obtain ⟨sl, hL⟩ := u.any ho I.free (by simp)
  exact I.step (g' := s.gens) (d' := s.drawn) (ch := []) (fun _ z => nomatch z) (fun b o _ hb _ e n => u.keep b o e n hb (by simp)) (fun b o _ hb _ e n => u.slot b o e n hb (by simp)) (fun b o _ e n => u.free b o e n (by simp)) (fun b o _ e => u.there b o e (by simp)) u.tups u.frzs u.tbls (fun m' hm => by
    obtain ⟨o', es', ep', ho', r'⟩ := hm
    rw [ho] at ho'; cases ho'
    exact ⟨_, es', ep', hL, r'⟩) hok I.bare
/-- behind a call (or a comprehension's block): the slots of this frame may have changed too, the records at ch may have turned -/
theorem Inv.call {g' : Array GenState} {t' : Nat} {d' : Drawn} {ch : List Addr} (I : Inv X pins σ H s) (u : Un (frs X.stack) ch H H' s.heap h') (hok : HOk X.prog X.w H' h') (hg : AllBare g')
    (hch : ∀ b ∈ ch, (b ∈ X.ex ∨ X.s₀.heap.objs.size ≤ b) ∧ b ≠ X.env.locals ∧ (∀ x c, X.env.cells.lookup x = some c → c ≠ b) ∧ ∀ p ∈ X.pn ++ pins, p.1 ≠ b) :
    Inv X pins σ H' { s with heap := h', gens := g', drawn := d', toks := t' } := by
  obtain ⟨m, ⟨o, es, ep, ho, r⟩, _⟩ := id I.loc
  obtain ⟨sl, hL⟩ := u.any ho I.free fun z => (hch _ z).2.1 rfl
  exact I.step (ch := ch) hch (fun b o hL hb hc e n => u.keep b o e n (fun z => (List.mem_cons.mp (I.stkSub b z)).elim hL hb) hc) (fun b o _ _ hc e n => u.any e n hc) (fun b o hc e n => u.free b o e n hc) (fun b o hc e => u.there b o e hc) u.tups u.frzs u.tbls (fun m' hm => by
    obtain ⟨o', es', ep', ho', r'⟩ := hm
    rw [ho] at ho'; cases ho'
    exact ⟨_, es', ep', hL, r'⟩) hok hg
/-- an untracked record of ours (an iterator) has turned -/
theorem Inv.turned {t' : Nat} {it : Addr} (I : Inv X pins σ H s) (k : ∀ b o, b ≠ it → s.heap.get? b = some o → h'.get? b = some o) (hn : H it = none) (hL : it ≠ X.env.locals)
    (h1 : it ∈ X.ex ∨ X.s₀.heap.objs.size ≤ it) (h2 : ∀ x c, X.env.cells.lookup x = some c → c ≠ it) (h3 : ∀ p ∈ X.pn ++ pins, p.1 ≠ it) : Inv X pins σ H { s with heap := h', toks := t' } := by
  have nit : ∀ b u, H b = some u → b ≠ it := fun b u e z => by rw [z, hn] at e; cases e
  refine I.step (g' := s.gens) (d' := s.drawn) (ch := [it]) (fun b hb => ?_) (fun b o _ _ hc e _ => k b o (fun z => hc (by simp [z])) e) (fun b o _ _ hc e _ => ⟨o.slots, k b o (fun z => hc (by simp [z])) e⟩) (fun _ _ _ _ n => n)
    (fun b o hc e => ⟨o, k b o (fun z => hc (by simp [z])) e⟩) (fun _ _ e => e) (fun _ _ _ e => e) (fun b ps e => ⟨#[], by rw [e]; simp⟩) (fun m hm => ?_) (fun b u e => ?_) I.bare
  · have e : b = it := by simpa using hb
    subst e
    exact ⟨h1, hL, h2, h3⟩
  · obtain ⟨o, es, ep, ho, r⟩ := hm
    exact ⟨o, es, ep, k _ o (Ne.symm hL) ho, r⟩
  · refine (I.hok b u e).stay (fun c v hc q => k c v ?_ q) (fun _ q => q) fun _ _ q => q
    rcases hc with z | z
    · rw [z]; exact nit b u e
    · exact nit c _ z
theorem Inv.tok (I : Inv X pins σ H s) (t : Nat) : Inv X pins σ H { s with toks := t } := I.un (h' := s.heap) (t' := t) Un.refl I.hok
/-- all objects kept -/
theorem Inv.kept {t' : Nat} (I : Inv X pins σ H s) (k : ∀ b u, s.heap.get? b = some u → h'.get? b = some u) : Inv X pins σ H { s with heap := h', toks := t' } := I.un (Un.kept k) (I.hok.kept k)
/-- a new object laid and tracked -/
theorem Inv.laid {a : Addr} {o : HO} {t' : Nat} (I : Inv X pins σ H s) (k : ∀ b u, s.heap.get? b = some u → h'.get? b = some u) (hp : s.heap.objs.size ≤ a) (new : ObjOk X.prog X.w (upd H a o) h' a o) :
    Inv X pins σ (upd H a o) { s with heap := h', toks := t' } := I.un (Un.laid k hp (I.hok.fresh hp)) (I.hok.laid k hp new)
/-- an object written -/
theorem Inv.write {x e : Addr} {o : HO} {t' : Nat} (I : Inv X pins σ H s) (mu : Mut (H x)) (he : e = x ∨ H e = some (.own x)) (k : ∀ b u, b ≠ e → s.heap.get? b = some u → h'.get? b = some u) (heo : ∃ u, h'.get? e = some u)
    (new : ObjOk X.prog X.w (upd H x o) h' x o) : Inv X pins σ (upd H x o) { s with heap := h', toks := t' } := I.un (Un.write mu he k heo) (I.hok.write mu he k heo new)
theorem Inv.pins_of {pins' : List (Addr × Obj)} (I : Inv X pins σ H s) (h : ∀ p ∈ pins', s.heap.get? p.1 = some p.2 ∧ H p.1 = none ∧ p.1 ≠ X.env.locals ∧ p.1 ∉ X.fs ∧ ∀ v, p.2.data ≠ .cell v) : Inv X pins' σ H s :=
  ⟨I.ok, I.os, I.bare, I.base, I.loc, I.cell, I.free, I.freeC, fun p hp => (List.mem_append.mp hp).elim (fun z => I.pin p (List.mem_append_left _ z)) (h p), I.hok, I.len⟩

theorem nodup_ix {N : List Str} (hN : N.Nodup) {i j : Nat} {x : Str} (a : N[i]? = some x) (b : N[j]? = some x) : i = j := by
  obtain ⟨h1, e1⟩ := List.getElem?_eq_some_iff.mp a
  obtain ⟨h2, e2⟩ := List.getElem?_eq_some_iff.mp b
  exact (List.getElem_inj hN).mp (e1.trans e2.symm)

/-- a name is stored; what changed -/
theorem store_ok2 {M : Model} {A : Around} {E : Value → Shared → Prop} {i : Nat} {x : Str} {v : V} {u : Value} {Q : Unit → Shared → Prop} (I : Inv X pins σ H s) (hN : X.N.Nodup) (hi : X.N[i]? = some x) (hx : Loc X.env.scope x) (r : RelV v u)
    (h : ∀ s', Inv X pins (σ.set i (some v)) H s' → (∃ a, Heap.SameBut a s.heap s'.heap ∧ (a = X.env.locals ∨ X.env.cells.lookup x = some a)) → Q () s') (hf : X.fn x = true ∨ X.env.scope.names.lookup x = some .local := by first | exact .inl rfl | exact .inr rfl | assumption) : wpAny M A (storeName X.env x u) Q E s := by
  obtain ⟨m, hn, hl⟩ := id I.loc
  have hcls : (X.env.scope.kind == .class || (X.env.scope.kind == .module && X.env.locals != X.env.globals)) = false := by rw [I.ok.kind]; rfl
  have hiσ : i < σ.length := by rw [I.len]; exact (List.getElem?_eq_some_iff.mp hi).1
  have cne := I.cne
  have tracked : ∀ {a : Addr} {h' : Heap}, (∃ o, s.heap.get? a = some o ∧ H a = none) → Heap.SameBut a s.heap h' → HOk X.prog X.w H h' := fun {a h'} ha hs b ob e => by
    obtain ⟨_, _, hfree⟩ := ha
    refine (I.hok b ob e).stay (fun c w' hc q => (hs.2 c ?_).trans q) (fun _ q => q) fun _ _ q => q
    rintro rfl
    rcases hc with rfl | hc
    · rw [hfree] at e; cases e
    · rw [hfree] at hc; cases hc
  rcases hx with hk | hk
  · refine wpAny_storeName_local hk hn (fun h' hn' hs => ?_) hcls
    obtain ⟨oL, _, _, hoL, _⟩ := id hn
    refine h _ ⟨I.ok, I.os, I.bare, ⟨fun b o e n hb hx => ?_, fun b o e n hb hx => ?_, I.base.free, fun b o e hx => ?_, I.base.tups, I.base.frzs, I.base.tbls⟩, ⟨_, hn', fun j y v' e1 e2 e3 => ?_⟩, fun y c e => ?_, I.free, I.freeC, fun p hp => ?_, tracked ⟨oL, hoL, I.free⟩ hs, by simpa using I.len⟩ ⟨_, hs, .inl rfl⟩
    · exact (hs.2 b (Nat.ne_of_lt (Nat.lt_of_lt_of_le (Heap.lt_size e) I.ok.above))).trans (I.base.keep b o e n hb hx)
    · obtain ⟨sl, e1⟩ := I.base.slot b o e n hb hx
      exact ⟨sl, (hs.2 b (Nat.ne_of_lt (Nat.lt_of_lt_of_le (Heap.lt_size e) I.ok.above))).trans e1⟩
    · obtain ⟨o', e1⟩ := I.base.there b o e hx
      exact ⟨o', (hs.2 b (Nat.ne_of_lt (Nat.lt_of_lt_of_le (Heap.lt_size e) I.ok.above))).trans e1⟩
    · by_cases hj : j = i
      · subst hj
        rw [hi] at e1; cases e1
        rw [List.getElem?_set_self hiσ] at e2
        cases e2
        exact ⟨u, r, .inl ⟨hk, by simp⟩⟩
      · rw [List.getElem?_set_ne (Ne.symm hj)] at e2
        obtain ⟨u', r', q⟩ := hl j y v' e1 e2 e3
        refine ⟨u', r', ?_⟩
        rcases q with ⟨k, e⟩ | ⟨k, c, e, z⟩
        · refine .inl ⟨k, ?_⟩
          have : y ≠ x := fun e => hj (nodup_ix hN e1 (e ▸ hi))
          simp [this, e]
        · exact .inr ⟨k, c, e, z.sameBut hs (cne y c e)⟩
    · obtain ⟨w', z⟩ := I.cell y c e
      exact ⟨w', z.sameBut hs (cne y c e)⟩
    · obtain ⟨e, n, ne, nf, d⟩ := I.pin p hp
      exact ⟨(hs.2 p.1 ne).trans e, n, ne, nf, d⟩
  · have hfn : X.fn x = true := by
      rcases hf with z | z
      · exact z
      · rw [z] at hk; cases hk
    obtain ⟨c, hc⟩ := I.ok.has x (.inl hk)
    obtain ⟨w', z⟩ := I.cell x c hc
    refine wpAny_storeName_cell I.ok.kind hk hc z (fun h' hc' hs => ?_)
    obtain ⟨oc, hoc, hocd⟩ := id z
    refine h { s with heap := h' } ⟨I.ok, I.os, I.bare, ⟨fun b o e n hb hx => ?_, fun b o e n hb hx => ?_, I.base.free, fun b o e hx => ?_, I.base.tups, I.base.frzs, I.base.tbls⟩, ⟨m, hn.sameBut hs (Ne.symm (cne x c hc)), fun j y v' e1 e2 e3 => ?_⟩, fun y c' e => ?_, I.free, I.freeC, fun p hp => ?_, tracked ⟨oc, hoc, I.freeC x c hc⟩ hs, by simpa using I.len⟩ ⟨c, hs, .inr hc⟩
    · exact (hs.2 b (Nat.ne_of_lt (Nat.lt_of_lt_of_le (Heap.lt_size e) (I.ok.cab x c hfn hc)))).trans (I.base.keep b o e n hb hx)
    · obtain ⟨sl, e1⟩ := I.base.slot b o e n hb hx
      exact ⟨sl, (hs.2 b (Nat.ne_of_lt (Nat.lt_of_lt_of_le (Heap.lt_size e) (I.ok.cab x c hfn hc)))).trans e1⟩
    · obtain ⟨o', e1⟩ := I.base.there b o e hx
      exact ⟨o', (hs.2 b (Nat.ne_of_lt (Nat.lt_of_lt_of_le (Heap.lt_size e) (I.ok.cab x c hfn hc)))).trans e1⟩
    · by_cases hj : j = i
      · subst hj
        rw [hi] at e1; cases e1
        rw [List.getElem?_set_self hiσ] at e2
        cases e2
        exact ⟨u, r, .inr ⟨.inl hk, c, hc, hc'⟩⟩
      · rw [List.getElem?_set_ne (Ne.symm hj)] at e2
        obtain ⟨u', r', q⟩ := hl j y v' e1 e2 e3
        refine ⟨u', r', ?_⟩
        rcases q with q | ⟨k, c', e, z'⟩
        · exact .inl q
        · refine .inr ⟨k, c', e, z'.sameBut hs ?_⟩
          rintro rfl
          exact hj (nodup_ix hN e1 (I.ok.inj _ _ _ e hc ▸ hi))
    · by_cases hcc : c' = c
      · subst hcc; exact ⟨_, hc'⟩
      · obtain ⟨w2, z2⟩ := I.cell y c' e
        exact ⟨w2, z2.sameBut hs hcc⟩
    · obtain ⟨e, n, ne, nf, d⟩ := I.pin p hp
      refine ⟨(hs.2 p.1 ?_).trans e, n, ne, nf, d⟩
      intro q
      rw [q, hoc] at e
      have q' : oc = p.2 := Option.some.inj e
      exact d w' (by rw [← q']; exact hocd)
theorem store_ok {M : Model} {A : Around} {E : Value → Shared → Prop} {i : Nat} {x : Str} {v : V} {u : Value} {Q : Unit → Shared → Prop} (I : Inv X pins σ H s) (hN : X.N.Nodup) (hi : X.N[i]? = some x) (hx : Loc X.env.scope x) (r : RelV v u)
    (h : ∀ s', Inv X pins (σ.set i (some v)) H s' → Q () s') (hf : X.fn x = true ∨ X.env.scope.names.lookup x = some .local := by first | exact .inl rfl | exact .inr rfl | assumption) : wpAny M A (storeName X.env x u) Q E s :=
  store_ok2 I hN hi hx r (fun s' I' _ => h s' I') hf
/-- behind a call or a block, the state as it is -/
theorem Inv.call' {s' : Shared} {ch : List Addr} (I : Inv X pins σ H s) (ho : s'.os = s.os) (u : Un (frs X.stack) ch H H' s.heap s'.heap) (hok : HOk X.prog X.w H' s'.heap) (hg : AllBare s'.gens)
    (hch : ∀ b ∈ ch, (b ∈ X.ex ∨ X.s₀.heap.objs.size ≤ b) ∧ b ≠ X.env.locals ∧ (∀ x c, X.env.cells.lookup x = some c → c ≠ b) ∧ ∀ p ∈ X.pn ++ pins, p.1 ≠ b) : Inv X pins σ H' s' := by
  obtain ⟨h', g', d', t', o'⟩ := s'
  have e : o' = s.os := ho
  subst e
  exact I.call (g' := g') (t' := t') (d' := d') u hok hg hch
end

/-- an exception: its class, its own dict's address (where it has one), the abstract heap behind it -/
abbrev XK := Value → Option Addr → Hp → Prop
abbrev St := List (Option V)
abbrev VK := V → Hp → Prop
/-- an expression's reading; a test's; an argument list's -/
abbrev TE := St → Hp → VK → Prop
abbrev TT := St → Hp → (Bool → Hp → Prop) → Prop
abbrev TA := St → Hp → (List V → Hp → Prop) → Prop
/-- what is wanted behind a statement -/
structure Ends where
  nx : St → Hp → Prop
  rt : VK
  bk : St → Hp → Prop := fun _ _ => False
  ct : St → Hp → Prop := fun _ _ => False
abbrev TS := Ends → St → Hp → Prop

def EP (X : Cx) (pins : List (Addr × Obj)) (σ : St) (Q : VK) (u : Value) (s' : Shared) : Prop := ∃ v H', Inv X pins σ H' s' ∧ RelV v u ∧ Q v H'
def TP (X : Cx) (pins : List (Addr × Obj)) (σ : St) (Q : Bool → Hp → Prop) (b : Bool) (s' : Shared) : Prop := ∃ H', Inv X pins σ H' s' ∧ Q b H'
def AP (X : Cx) (pins : List (Addr × Obj)) (σ : St) (Q : List V → Hp → Prop) (us : List Value) (s' : Shared) : Prop := ∃ vs H', Inv X pins σ H' s' ∧ Vals vs us ∧ Q vs H'
def SP (X : Cx) (pins : List (Addr × Obj)) (D : Ends) (f : Flow) (s' : Shared) : Prop :=
  match f with
  | .next => ∃ σ' H', Inv X pins σ' H' s' ∧ D.nx σ' H'
  | .brk => ∃ σ' H', Inv X pins σ' H' s' ∧ D.bk σ' H'
  | .cont => ∃ σ' H', Inv X pins σ' H' s' ∧ D.ct σ' H'
  | .ret u => ∃ v σ' H', Inv X pins σ' H' s' ∧ RelV v u ∧ D.rt v H'

def PE (X : Cx) (e : Expr) (t : TE) : Prop :=
  ∀ (pins : List (Addr × Obj)) (s : Shared) (σ : St) (H : Hp) (Q : VK), Inv X pins σ H s → t σ H Q → wpAny (model X.prog X.w) X.A (eval e X.env) (EP X pins σ Q) X.xe s
def PT (X : Cx) (e : Expr) (t : TT) : Prop :=
  ∀ (pins : List (Addr × Obj)) (s : Shared) (σ : St) (H : Hp) (Q : Bool → Hp → Prop), Inv X pins σ H s → t σ H Q → wpAny (model X.prog X.w) X.A (isTrue e X.env (eval e X.env)) (TP X pins σ Q) X.xe s
/-- a test whatever its 'whole' is (and, or) -/
def PW (X : Cx) (e : Expr) (t : TT) : Prop :=
  ∀ (whole : Sem Value) (pins : List (Addr × Obj)) (s : Shared) (σ : St) (H : Hp) (Q : Bool → Hp → Prop), Inv X pins σ H s → t σ H Q → wpAny (model X.prog X.w) X.A (isTrue e X.env whole) (TP X pins σ Q) X.xe s
theorem PW.pt {X : Cx} {e : Expr} {t : TT} (h : PW X e t) : PT X e t := h _
/-- an argument list (no star), from the left -/
def PA (X : Cx) (es : List Expr) (t : TA) : Prop :=
  ∀ (pos : Pos) (pins : List (Addr × Obj)) (s : Shared) (σ : St) (H : Hp) (Q : List V → Hp → Prop), Inv X pins σ H s → t σ H Q → wpAny (model X.prog X.w) X.A (spliced (backTo pos (starEach es X.env))) (AP X pins σ Q) X.xe s
def PS (X : Cx) (st : Stmt) (t : TS) : Prop :=
  ∀ (pins : List (Addr × Obj)) (s : Shared) (σ : St) (H : Hp) (D : Ends), Inv X pins σ H s → t D σ H → wpAny (model X.prog X.w) X.A (exec st X.env) (SP X pins D) X.xe s
def PSs (X : Cx) (st : List Stmt) (t : TS) : Prop :=
  ∀ (pins : List (Addr × Obj)) (s : Shared) (σ : St) (H : Hp) (D : Ends), Inv X pins σ H s → t D σ H → wpAny (model X.prog X.w) X.A (execs st X.env) (SP X pins D) X.xe s
/-- weaken the end -/
theorem thn {α : Type} {t : Sem α} {Q Q' : α → Shared → Prop} {M : Model} {A : Around} {E : Value → Shared → Prop} {s : Shared} (h : wpAny M A t Q E s) (hQ : ∀ a s, Q a s → Q' a s) : wpAny M A t Q' E s := wpAny_mono h hQ fun _ _ x => x
end L2

namespace L2
open PySem PySem.Spec PyProof.Rows
section
variable {X : Cx}

def tVar (i : Nat) : TE := fun σ H Q => ∃ v, σ[i]? = some (some v) ∧ Q v H
def tC (v : V) : TE := fun _ H Q => Q v H
theorem pe_var {i : Nat} {x : Str} {pos : Pos} (hN : X.N[i]? = some x) (hv : Vis X.env.scope x) (hd : (x == ("__debug__" : Str)) = false := by decide) (hcd : (x == ("__classdict__" : Str)) = false := by decide) : PE X (.Name x pos) (tVar i) := by
  intro pins s σ H Q I h
  obtain ⟨v, e, h⟩ := h
  obtain ⟨m, hn, hl⟩ := I.loc
  obtain ⟨u, r, l⟩ := hl i x v hN e hv
  have fin : EP X pins σ Q u s := ⟨v, H, I, r, h⟩
  rcases l with ⟨hk, hm⟩ | ⟨hk, c, hc, hcell⟩
  · exact wpAny_Name (wpAny_loadName_local I.ok.kind hk hn hm fin) hd
  · rcases hk with hk | hk
    · exact wpAny_Name (wpAny_loadName_cell I.ok.kind hk hc hcell fin) hd
    · exact wpAny_Name (wpAny_loadName_free I.ok.kind hk hc hcell fin hcd) hd
theorem pe_int {i j pos} : PE X (.Constant (.int i) j pos) (tC (.int i)) := fun _ _ _ H _ I h => wpAny_Constant_int ⟨.int i, H, I.tok _, ⟨_, rfl⟩, h⟩
theorem pe_bl {b j pos} : PE X (.Constant (.bool b) j pos) (tC (.bl b)) := fun _ _ _ H _ I h => Constant_bool ⟨.bl b, H, I, rfl, h⟩
theorem pe_non {j pos} : PE X (.Constant .none j pos) (tC .non) := fun _ _ _ H _ I h => Constant_none ⟨.non, H, I, rfl, h⟩
theorem pe_str {x j pos} : PE X (.Constant (.str x) j pos) (tC (.str x)) := fun _ _ _ H _ I h => Calls.Constant_str ⟨.str x, H, I.tok _, ⟨_, rfl⟩, h⟩

/-- a global name of the def -/
def Gl (X : Cx) (x : Str) : Prop := X.env.kindOf x = some .globalImplicit
theorem ld_glob {E : Value → Shared → Prop} {pins : List (Addr × Obj)} {s : Shared} {σ : St} {H : Hp} {x : Str} {u : Value} {pos : Pos} {Q : Value → Shared → Prop} (I : Inv X pins σ H s) (hg : Gl X x) (hm : X.mg x = some u) (h : Q u s)
    (hd : (x == ("__debug__" : Str)) = false := by decide) : wpAny (model X.prog X.w) X.A (eval (.Name x pos) X.env) Q E s :=
  Calls.Name_function_global I.ok.kind hg (Calls.loadGlobal_global (by rw [I.ok.glob]; exact I.mod.glob.keeps I.bk) hm h) hd
theorem ld_blt {E : Value → Shared → Prop} {pins : List (Addr × Obj)} {s : Shared} {σ : St} {H : Hp} {x : Str} {u : Value} {pos : Pos} {Q : Value → Shared → Prop} (I : Inv X pins σ H s) (hg : Gl X x) (hm : X.mg x = none) (hv : bootBuiltins x = some u) (h : Q u s)
    (hn : x ≠ "__name__" := by decide) (hd : (x == ("__debug__" : Str)) = false := by decide) : wpAny (model X.prog X.w) X.A (eval (.Name x pos) X.env) Q E s := by
  obtain ⟨mb, h1, h2⟩ := I.mod.blt
  exact Calls.Name_function_global I.ok.kind hg (Calls.loadGlobal_builtin (by rw [I.ok.glob]; exact I.mod.glob.keeps I.bk) hm (by rw [I.ok.blt]; exact h1.keeps I.bk) ((h2 x hn).trans hv) h) hd
/-- a module's constant, a class, a function, as a value -/
theorem pe_glob {x : Str} {v : V} {u : Value} {pos : Pos} (hg : Gl X x) (hm : X.mg x = some u) (r : RelV v u) (hd : (x == ("__debug__" : Str)) = false := by decide) : PE X (.Name x pos) (tC v) :=
  fun _ _ _ H _ I h => ld_glob I hg hm ⟨v, H, I, r, h⟩ hd
theorem pe_bltn {x : Str} {v : V} {u : Value} {pos : Pos} (hg : Gl X x) (hm : X.mg x = none) (hv : bootBuiltins x = some u) (r : RelV v u) (hn : x ≠ "__name__" := by decide) (hd : (x == ("__debug__" : Str)) = false := by decide) : PE X (.Name x pos) (tC v) :=
  fun _ _ _ H _ I h => ld_blt I hg hm hv ⟨v, H, I, r, h⟩ hn hd

variable {a b : Expr} {ta tb : TE} {pos : Pos}
def PC (X : Cx) (op : CmpOp) (a b : Expr) (t : TE) : Prop :=
  ∀ (pins : List (Addr × Obj)) (s : Shared) (σ : St) (H : Hp) (Q : VK), Inv X pins σ H s → t σ H Q →
    wpAny (model X.prog X.w) X.A (eval a X.env) (fun v s₁ => wpAny (model X.prog X.w) X.A (eval b X.env) (fun u s₂ => wpAny (model X.prog X.w) X.A (compareOp op v u) (EP X pins σ Q) X.xe s₂) X.xe s₁) X.xe s
theorem nobehind (b : Expr) {op : CmpOp} (h : op ≠ .In) (h2 : op ≠ .NotIn) : behindInMarks op b = false := by
  have e1 : (op == CmpOp.In) = false := by cases op <;> first | rfl | exact absurd rfl h
  have e2 : (op == CmpOp.NotIn) = false := by cases op <;> first | rfl | exact absurd rfl h2
  cases b <;> simp [behindInMarks, e1, e2]
/-- is None -/
def tIsN (ta : TE) : TE := fun σ H Q => ta σ H fun x H1 => Q (.bl (decide (x = .non))) H1
def tNotN (ta : TE) : TE := fun σ H Q => ta σ H fun x H1 => Q (.bl (!decide (x = .non))) H1
theorem RelV.none_iff {x : V} {v : Value} (r : RelV x v) : (v == Value.none) = decide (x = .non) := by
  cases x with
  | non => cases r; rfl
  | bl _ => cases r; rfl
  | int _ => obtain ⟨t, rfl⟩ := r; rfl
  | str _ => obtain ⟨t, rfl⟩ := r; rfl
  | byt _ => obtain ⟨t, rfl⟩ := r; rfl
  | flt _ => obtain ⟨t, rfl⟩ := r; rfl
  | ref _ => cases r; rfl
  | ty _ => cases r; rfl
theorem pc_notN {j pos'} (ha : PE X a ta) : PC X .IsNot a (.Constant .none j pos') (tNotN ta) := by
  intro pins s σ H Q I h
  refine thn (ha pins s σ H _ I h) fun v s1 ⟨x, H1, I1, r1, q1⟩ => ?_
  exact Constant_none (isnot_none_gen ⟨.bl _, H1, I1, by rw [r1.none_iff]; rfl, q1⟩)
/-- a comparison as a value, as a test -/
def tB (t : TE) : TT := fun σ H Q => t σ H fun x H1 => ∃ c, x = .bl c ∧ Q c H1
theorem pt_cmp {op : CmpOp} {t : TE} (h : PC X op a b t) (h1 : behindInMarks op b = false := by first | exact nobehind _ (by decide) (by decide) | rfl) : PT X (.Compare a [op] [b] pos) (tB t) := by
  intro pins s σ H Q I hw
  refine wpAny_isTrue_Compare1 (thn (h pins s σ H _ I hw) fun v s1 h1 => thn h1 fun u s2 h2 => thn h2 fun c s3 ⟨x, H1, I1, r1, q1⟩ => ?_) h1
  obtain ⟨d, rfl, q⟩ := q1
  cases r1
  exact wpAny_truthy_bool ⟨H1, I1, q⟩
/-- an expression whose value is a bool, as a test -/
theorem pt_val {e : Expr} {t : TE} (h : PE X e t) (he : ∀ whole, isTrue e X.env whole = (do let v ← whole; standAt e.pos; holding [v] (truthy v)) := by intro _; rfl) : PT X e (tB t) := by
  intro pins s σ H Q I hw
  refine isTrue_plain (thn (h pins s σ H _ I hw) fun v s1 ⟨x, H1, I1, r1, q1⟩ => ?_) (he _)
  obtain ⟨d, rfl, q⟩ := q1
  cases r1
  exact wpAny_truthy_bool ⟨H1, I1, q⟩

variable {tA tB' : TT} {rest : List Expr}
def tAnd (t u : TT) : TT := fun σ H Q => t σ H fun c H1 => if c = true then u σ H1 Q else Q false H1
def tOr (t u : TT) : TT := fun σ H Q => t σ H fun c H1 => if c = true then Q true H1 else u σ H1 Q
def tNot (t : TT) : TT := fun σ H Q => t σ H fun c H1 => Q (!c) H1
theorem pw_and1 (ha : PT X a tA) : PW X (.BoolOp .And [a] pos) tA := by
  intro wh pins s σ H Q I h
  refine isTrue_and (thn (ha pins s σ H Q I h) fun c s1 e => ?_)
  cases c with
  | true => exact isTrue_and_nil e
  | false => exact e
theorem pw_or1 (ha : PT X a tA) : PW X (.BoolOp .Or [a] pos) tA := by
  intro wh pins s σ H Q I h
  refine isTrue_or (thn (ha pins s σ H Q I h) fun c s1 e => ?_)
  cases c with
  | false => exact isTrue_or_nil e
  | true => exact e
theorem pw_and (ha : PT X a tA) (hb : PW X (.BoolOp .And (b :: rest) pos) tB') : PW X (.BoolOp .And (a :: b :: rest) pos) (tAnd tA tB') := by
  intro wh pins s σ H Q I h
  refine isTrue_and (thn (ha pins s σ H _ I h) fun c s1 ⟨H1, I1, q1⟩ => ?_)
  cases c with
  | true => exact hb wh pins s1 σ H1 Q I1 q1
  | false => exact ⟨H1, I1, q1⟩
theorem pw_or (ha : PT X a tA) (hb : PW X (.BoolOp .Or (b :: rest) pos) tB') : PW X (.BoolOp .Or (a :: b :: rest) pos) (tOr tA tB') := by
  intro wh pins s σ H Q I h
  refine isTrue_or (thn (ha pins s σ H _ I h) fun c s1 ⟨H1, I1, q1⟩ => ?_)
  cases c with
  | true => exact ⟨H1, I1, q1⟩
  | false => exact hb wh pins s1 σ H1 Q I1 q1
theorem pt_not (ha : PT X a tA) : PT X (.UnaryOp .Not a pos) (tNot tA) := by
  intro pins s σ H Q I h
  exact isTrue_not (ha pins s σ H (fun c H1 => Q (!c) H1) I h)
/-- .. as values (bools) -/
def tAndV (ta tb : TE) : TE := fun σ H Q => ta σ H fun x H1 => ∃ c, x = .bl c ∧ if c = true then tb σ H1 Q else Q (.bl false) H1
def tOrV (ta tb : TE) : TE := fun σ H Q => ta σ H fun x H1 => ∃ c, x = .bl c ∧ if c = true then Q (.bl true) H1 else tb σ H1 Q
def tNotV (ta : TE) : TE := fun σ H Q => ta σ H fun x H1 => ∃ c, x = .bl c ∧ Q (.bl (!c)) H1
theorem pe_one {op} {t : TE} (h : PE X a t) : PE X (.BoolOp op [a] pos) t := fun pins s σ H Q I hw => BoolOp_one (h pins s σ H Q I hw)
theorem pe_and (ha : PE X a ta) (hb : PE X (.BoolOp .And (b :: rest) pos) tb) : PE X (.BoolOp .And (a :: b :: rest) pos) (tAndV ta tb) := by
  intro pins s σ H Q I h
  refine BoolOp_and (thn (ha pins s σ H _ I h) fun v s1 ⟨x, H1, I1, r1, q1⟩ => ?_)
  obtain ⟨c, rfl, q1⟩ := q1
  cases r1
  refine wpAny_truthy_bool ?_
  cases c with
  | true => exact hb pins s1 σ H1 Q I1 q1
  | false => exact ⟨.bl false, H1, I1, rfl, q1⟩
theorem pe_not (ha : PE X a ta) : PE X (.UnaryOp .Not a pos) (tNotV ta) := by
  intro pins s σ H Q I h
  refine UnaryOp_ (thn (ha pins s σ H _ I h) fun v s1 ⟨x, H1, I1, r1, q1⟩ => ?_)
  obtain ⟨c, rfl, q1⟩ := q1
  cases r1
  exact not_of (wpAny_truthy_bool ⟨.bl (!c), H1, I1, rfl, q1⟩)
/-- a if t else b -/
def tIf (t : TT) (ta tb : TE) : TE := fun σ H Q => t σ H fun c H1 => if c = true then ta σ H1 Q else tb σ H1 Q
theorem pe_ifExp {c : Expr} (hc : PT X c tA) (ha : PE X a ta) (hb : PE X b tb) : PE X (.IfExp c a b pos) (tIf tA ta tb) := by
  intro pins s σ H Q I h
  refine wpAny_IfExp (thn (hc pins s σ H _ I h) fun d s1 ⟨H1, I1, q1⟩ => ?_)
  cases d with
  | true => exact ha pins s1 σ H1 Q I1 q1
  | false => exact hb pins s1 σ H1 Q I1 q1
end
end L2

namespace L2
open PySem PySem.Spec PyProof.Rows

def SqL (K : PySem.W.Frag) (H : Hp) (a : Addr) (xs : List V) : Prop :=
  Rd H a (.lst xs) ∨
    ∃ (o : Obj) (its : Array Value) (n : Nat), K.lookup a = some o ∧ o.cls = .type "list" ∧ o.dict = none ∧ o.data = .seq its n ∧ its.size ≤ sizeLine ∧ Vals xs its.toList
def SqT (K : PySem.W.Frag) (H : Hp) (a : Addr) (xs : List V) : Prop :=
  Rd H a (.tup xs) ∨
    ∃ (o : Obj) (its : Array Value) (n : Nat), K.lookup a = some o ∧ o.cls = .type "tuple" ∧ o.data = .seq its n ∧ its.size ≤ sizeLine ∧ Vals xs its.toList
def absV : Value → Option V
  | .none => some .non
  | .bool b => some (.bl b)
  | .int i _ => some (.int i)
  | .str x _ => some (.str x)
  | .bytes b _ => some (.byt b)
  | .float b _ => some (.flt b)
  | .ref a => some (.ref a)
  | .type n => some (.ty n)
  | _ => none
theorem RelV.abs {x : V} {u : Value} (r : RelV x u) : absV u = some x := by
  cases x with
  | non => cases r; rfl
  | bl _ => cases r; rfl
  | int _ => obtain ⟨t, rfl⟩ := r; rfl
  | str _ => obtain ⟨t, rfl⟩ := r; rfl
  | byt _ => obtain ⟨t, rfl⟩ := r; rfl
  | flt _ => obtain ⟨t, rfl⟩ := r; rfl
  | ref _ => cases r; rfl
  | ty _ => cases r; rfl
theorem RelV.inj {x y : V} {u : Value} (r : RelV x u) (q : RelV y u) : x = y := Option.some.inj (r.abs.symm.trans q.abs)
theorem Vals.inj : ∀ {xs ys : List V} {us : List Value}, Vals xs us → Vals ys us → xs = ys
  | _, _, _, .nil, .nil => rfl
  | _, _, _, .cons r t, .cons r' t' => by rw [r.inj r', Vals.inj t t']
section
variable {X : Cx} {pins : List (Addr × Obj)} {σ : St} {H : Hp} {s : Shared} {a : Addr} {xs ys : List V}
theorem SqL.of {K : PySem.W.Frag} (h : H a = some (.lst xs)) : SqL K H a xs := .inl (.inl h)
theorem SqT.of {K : PySem.W.Frag} (h : H a = some (.tup xs)) : SqT K H a xs := .inl (.inl h)
theorem Inv.list (I : Inv X pins σ H s) (h : SqL X.K H a xs) : ∃ its : List Value, Vals xs its ∧ PlainL s.heap a its.toArray ∧ xs.length ≤ sizeLine := by
  rcases h with h | ⟨o, its, n, hk, hc, hd, hs, hz, r⟩
  · obtain ⟨z, its, n, r, e⟩ := h.ok I.hok
    exact ⟨its, r, ⟨_, n, e, rfl, rfl, rfl⟩, z⟩
  · refine ⟨its.toList, r, ⟨o, n, I.kIn a o hk, hc, hd, by simpa using hs⟩, ?_⟩
    have e := r.length
    simp only [Array.length_toList] at e
    omega
theorem Inv.tuple (I : Inv X pins σ H s) (h : SqT X.K H a xs) : ∃ its : List Value, Vals xs its ∧ IsTup s.heap a its.toArray ∧ xs.length ≤ sizeLine := by
  rcases h with h | ⟨o, its, n, hk, hc, hs, hz, r⟩
  · obtain ⟨z, its, r, p⟩ := h.ok I.hok
    exact ⟨its, r, p, z⟩
  · refine ⟨its.toList, r, ⟨o, I.kIn a o hk, hc, n, by simpa using hs⟩, ?_⟩
    have e := r.length
    simp only [Array.length_toList] at e
    omega
theorem Inv.list_inj (I : Inv X pins σ H s) (h : SqL X.K H a xs) (h' : SqL X.K H a ys) : xs = ys := by
  obtain ⟨its, r, ⟨o, n, e, _, _, d⟩, _⟩ := I.list h
  obtain ⟨its', r', ⟨o', n', e', _, _, d'⟩, _⟩ := I.list h'
  rw [e] at e'; cases e'
  rw [d] at d'
  injection d' with d1 _
  have : its = its' := by simpa using congrArg Array.toList d1
  subst this
  exact r.inj r'
theorem Inv.tuple_inj (I : Inv X pins σ H s) (h : SqT X.K H a xs) (h' : SqT X.K H a ys) : xs = ys := by
  obtain ⟨its, r, ⟨o, e, _, n, d⟩, _⟩ := I.tuple h
  obtain ⟨its', r', ⟨o', e', _, n', d'⟩, _⟩ := I.tuple h'
  rw [e] at e'; cases e'
  rw [d] at d'
  injection d' with d1 _
  have : its = its' := by simpa using congrArg Array.toList d1
  subst this
  exact r.inj r'
end

abbrev Cx.wish (X : Cx) (E : Value → Shared → Prop) : Cx := { X with xe := E }
/-- no exception leaves -/
abbrev Cx.nox (X : Cx) : Cx := X.wish fun _ _ => False
theorem Cx.Ok.wish {X : Cx} (ok : X.Ok) (E : Value → Shared → Prop) : (X.wish E).Ok :=
  ⟨ok.mod, ok.kind, ok.glob, ok.blt, ok.above, ok.inj, ok.has, ok.cab, ok.hd, ok.frames, ok.stk, ok.exf, ok.bs, ok.bsz, ok.noex, ok.exfs, ok.funs, ok.frf⟩
theorem Cx.Ok.unwish {X : Cx} {E : Value → Shared → Prop} (ok : (X.wish E).Ok) : X.Ok :=
  ⟨ok.mod, ok.kind, ok.glob, ok.blt, ok.above, ok.inj, ok.has, ok.cab, ok.hd, ok.frames, ok.stk, ok.exf, ok.bs, ok.bsz, ok.noex, ok.exfs, ok.funs, ok.frf⟩
section
variable {X : Cx} {pins : List (Addr × Obj)} {σ : St} {H : Hp} {s : Shared} {E : Value → Shared → Prop}
theorem Inv.wish (I : Inv X pins σ H s) (E : Value → Shared → Prop) : Inv (X.wish E) pins σ H s := ⟨I.ok.wish E, I.os, I.bare, I.base, I.loc, I.cell, I.free, I.freeC, I.pin, I.hok, I.len⟩
theorem Inv.unwish (I : Inv (X.wish E) pins σ H s) : Inv X pins σ H s := ⟨I.ok.unwish, I.os, I.bare, I.base, I.loc, I.cell, I.free, I.freeC, I.pin, I.hok, I.len⟩
theorem SP.unwish {D : Ends} {f : Flow} {s' : Shared} (h : SP (X.wish E) pins D f s') : SP X pins D f s' := by
  cases f with
  | next => obtain ⟨σ', H', I, q⟩ := h; exact ⟨σ', H', I.unwish, q⟩
  | brk => obtain ⟨σ', H', I, q⟩ := h; exact ⟨σ', H', I.unwish, q⟩
  | cont => obtain ⟨σ', H', I, q⟩ := h; exact ⟨σ', H', I.unwish, q⟩
  | ret u => obtain ⟨v, σ', H', I, r, q⟩ := h; exact ⟨v, σ', H', I.unwish, r, q⟩
theorem PE.nox {e : Expr} {t : TE} (h : PE X.nox e t) : PE X e t := fun pins s σ H Q I hw =>
  wpAny_mono (h pins s σ H Q (I.wish _) hw) (fun _ _ ⟨v, H', I', r, q⟩ => ⟨v, H', I'.unwish, r, q⟩) fun _ _ z => False.elim z
theorem PT.nox {e : Expr} {t : TT} (h : PT X.nox e t) : PT X e t := fun pins s σ H Q I hw =>
  wpAny_mono (h pins s σ H Q (I.wish _) hw) (fun _ _ ⟨H', I', q⟩ => ⟨H', I'.unwish, q⟩) fun _ _ z => False.elim z
theorem PSs.nox {st : List Stmt} {t : TS} (h : PSs X.nox st t) : PSs X st t := fun pins s σ H D I hw =>
  wpAny_mono (h pins s σ H D (I.wish _) hw) (fun _ _ q => q.unwish) fun _ _ z => False.elim z
end

section
variable {X : Cx} {st : Stmt} {rest : List Stmt} {t u : TS} {e : Expr} {te : TE} {pos : Pos}
def tNext : TS := fun D σ H => D.nx σ H
def tSeq (t u : TS) : TS := fun D σ H => t { D with nx := u D } σ H
theorem pss_nil : PSs X [] tNext := fun _ _ σ H _ I h => wpAny_execs_nil ⟨σ, H, I, h⟩
theorem pss_cons (h1 : PS X st t) (h2 : PSs X rest u) : PSs X (st :: rest) (tSeq t u) := by
  intro pins s σ H D I h
  refine wpAny_execs_cons (thn (h1 pins s σ H { D with nx := u D } I h) fun f s1 q => ?_)
  cases f with
  | next =>
    obtain ⟨σ', H', I', q⟩ := q
    exact h2 pins s1 σ' H' D I' q
  | ret v => exact q
  | brk => exact q
  | cont => exact q
theorem pss_one (h1 : PS X st t) : PSs X [st] t := by
  intro pins s σ H D I h
  refine wpAny_execs_cons (thn (h1 pins s σ H D I h) fun f s1 q => ?_)
  cases f with
  | next => exact wpAny_execs_nil q
  | ret v => exact q
  | brk => exact q
  | cont => exact q
/-- in a def's body nothing is shown -/
theorem Inv.quiet {pins : List (Addr × Obj)} {σ : St} {H : Hp} {s : Shared} (I : Inv X pins σ H s) : interactive X.env = false := by simp [interactive, I.ok.kind]
/-- an expression whose value is dropped -/
def tDrop (te : TE) : TS := fun D σ H => te σ H fun _ H1 => D.nx σ H1
theorem ps_expr (he : PE X e te) (hs : swapsWith e none pos.line X.env = pure false := by rfl) : PS X (.Expr e pos) (tDrop te) := by
  intro pins s σ H D I h
  exact wpAny_Expr_any (thn (he pins s σ H _ I h) fun v s1 ⟨x, H1, I1, r1, q1⟩ => ⟨σ, H1, I1, q1⟩) I.quiet hs
def tRet (te : TE) : TS := fun D σ H => te σ H D.rt
theorem ps_ret (he : PE X e te) : PS X (.Return (some e) pos) (tRet te) := by
  intro pins s σ H D I h
  exact wpAny_Return_some (thn (he pins s σ H _ I h) fun v s1 ⟨x, H1, I1, r1, q1⟩ => ⟨x, σ, H1, I1, r1, q1⟩)
def tRetN : TS := fun D _ H => D.rt .non H
def tIfS (c : TT) (t u : TS) : TS := fun D σ H => c σ H fun b H1 => if b = true then t D σ H1 else u D σ H1
theorem ps_if {c : Expr} {a b : List Stmt} {tc : TT} (hc : PT X c tc) (ha : PSs X a t) (hb : PSs X b u) : PS X (.If c a b pos) (tIfS tc t u) := by
  intro pins s σ H D I h
  refine wpAny_If (thn (hc pins s σ H _ I h) fun d s1 ⟨H1, I1, q1⟩ => ?_)
  cases d with
  | true => exact ha pins s1 σ H1 D I1 q1
  | false => exact hb pins s1 σ H1 D I1 q1
/-- code that the proof never comes to -/
def tNever : TS := fun _ _ _ => False
theorem ps_never : PS X st tNever := fun _ _ _ _ _ _ h => h.elim
end

abbrev TG := V → St → Hp → (St → Hp → Prop) → Prop
abbrev TGs := List V → St → Hp → (St → Hp → Prop) → Prop
def PG (X : Cx) (target : Expr) (t : TG) : Prop :=
  ∀ (pins : List (Addr × Obj)) (s : Shared) (σ : St) (H : Hp) (v : V) (u : Value) (Q : St → Hp → Prop), Inv X pins σ H s → RelV v u → t v σ H Q →
    wpAny (model X.prog X.w) X.A (assign target X.env u) (fun _ s' => ∃ σ' H', Inv X pins σ' H' s' ∧ Q σ' H') X.xe s
/-- several targets, one after another -/
def PGs (X : Cx) (ts : List Expr) (t : TGs) : Prop :=
  ∀ (pins : List (Addr × Obj)) (s : Shared) (σ : St) (H : Hp) (vs : List V) (us : List Value) (Q : St → Hp → Prop), Inv X pins σ H s → Vals vs us → t vs σ H Q →
    wpAny (model X.prog X.w) X.A (assignInOrder ((assignEach ts X.env).map (·.2)) us) (fun _ s' => ∃ σ' H', Inv X pins σ' H' s' ∧ Q σ' H') X.xe s
/-- o[i] = v, by values -/
abbrev TSet := V → V → V → Hp → (Hp → Prop) → Prop
def PSet (X : Cx) (t : TSet) : Prop :=
  ∀ (pins : List (Addr × Obj)) (s : Shared) (σ : St) (H : Hp) (o i v : V) (ov iv u : Value) (Q : Hp → Prop), Inv X pins σ H s → RelV o ov → RelV i iv → RelV v u → t o i v H Q →
    wpAny (model X.prog X.w) X.A (setItem ov iv u) (fun _ s' => ∃ H', Inv X pins σ H' s' ∧ Q H') X.xe s
/-- a op= b, by values -/
abbrev TIp := V → V → Hp → VK → Prop
section
variable {X : Cx} {pos : Pos}
def gName (i : Nat) : TG := fun v σ H Q => Q (σ.set i (some v)) H
theorem pg_name {i : Nat} {x : Str} (hN : X.N.Nodup) (hi : X.N[i]? = some x) (hx : Loc X.env.scope x) (hf : X.fn x = true ∨ X.env.scope.names.lookup x = some .local := by first | exact .inl rfl | exact .inr rfl | assumption) : PG X (.Name x pos) (gName i) := by
  intro pins s σ H v u Q I r h
  exact wpAny_assign_Name (store_ok I hN hi hx r (fun s' I' => ⟨_, H, I', h⟩) hf)
def gNil : TGs := fun vs σ H Q => vs = [] ∧ Q σ H
def gCons (t : TG) (u : TGs) : TGs := fun vs σ H Q => ∃ v r, vs = v :: r ∧ t v σ H fun σ' H' => u r σ' H' Q
theorem pgs_nil : PGs X [] gNil := by
  intro pins s σ H vs us Q I r h
  obtain ⟨e, h⟩ := h
  subst e
  cases r
  exact assignInOrder_nil ⟨σ, H, I, h⟩
theorem pgs_cons {e : Expr} {es : List Expr} {t : TG} {u : TGs} (h1 : PG X e t) (h2 : PGs X es u)
    (hs : (assignEach (e :: es) X.env).map (·.2) = assign e X.env :: (assignEach es X.env).map (·.2) := by rfl) : PGs X (e :: es) (gCons t u) := by
  intro pins s σ H vs us Q I r h
  obtain ⟨v, vr, e1, h⟩ := h
  subst e1
  cases r with
  | cons r rr =>
    rw [hs]
    refine assignInOrder_cons (thn (h1 pins s σ H _ _ _ I r h) fun _ s1 ⟨σ1, H1, I1, q1⟩ => ?_)
    exact h2 pins s1 σ1 H1 _ _ Q I1 rr q1
/-- (a, b, ..) = a tuple of that length -/
def gTup (K : PySem.W.Frag) (n : Nat) (t : TGs) : TG := fun v σ H Q => ∃ a xs, v = .ref a ∧ SqT K H a xs ∧ xs.length = n ∧ t xs σ H Q
theorem pg_tup {es : List Expr} {k : Nat} {t : TGs} {n : Nat} (hc : X.calm = true) (h : PGs X es t)
    (hn : (assignEach es X.env).length = n := by rfl) (hst : (assignEach es X.env).findIdx? (·.1) = none := by rfl) : PG X (.Tuple es k pos) (gTup X.K n t) := by
  intro pins s σ H v u Q I r hw
  obtain ⟨a, xs, e1, hq, hl, hw⟩ := hw
  subst e1
  cases r
  obtain ⟨its, rv, ht, hz⟩ := I.tuple hq
  refine assign_Tuple_tuple (I.ok.hd hc) ht (by simp [hn, ← hl, rv.length]) hst fun h' hx => ?_
  have I1 : Inv X pins σ H { s with heap := h' } := I.kept (t' := s.toks) fun b o e => hx b o (Nat.ne_of_lt (Heap.lt_size e)) e
  exact h pins _ σ H xs _ Q I1 (by simpa using rv) hw
/-- o[i] = .. -/
def gSub (to ti : TE) (t : TSet) : TG := fun v σ H Q => to σ H fun o H1 => ti σ H1 fun i H2 => t o i v H2 fun H3 => Q σ H3
theorem pg_sub {o i : Expr} {to ti : TE} {t : TSet} (ho : PE X o to) (hi : PE X i ti) (hs : PSet X t)
    (ha : ∀ v, assign (.Subscript o i pos) X.env v = (do
      let ov ← holding [v] (eval o X.env)
      let iv ← holding [v, ov] (eval i X.env)
      standAt pos
      holding [v, ov, iv] (setItem ov iv v)
      release [v, ov, iv] []) := by intro _; rfl) : PG X (.Subscript o i pos) (gSub to ti t) := by
  intro pins s σ H v u Q I r h
  rw [ha]
  refine wpAny_bind (wpAny_holding (thn (ho pins s σ H _ I h) fun ov s1 ⟨x, H1, I1, r1, q1⟩ => ?_))
  refine wpAny_bind (wpAny_holding (thn (hi pins s1 σ H1 _ I1 q1) fun iv s2 ⟨y, H2, I2, r2, q2⟩ => ?_))
  refine wpAny_bind (wpAny_standAt (wpAny_bind (wpAny_holding (thn (hs pins s2 σ H2 x y v ov iv u _ I2 r1 r2 r q2) fun _ s3 ⟨H3, I3, q3⟩ => ?_))))
  exact wpAny_release ⟨σ, H3, I3, q3⟩
/-- target = value -/
def tAsg (te : TE) (g : TG) : TS := fun D σ H => te σ H fun x H1 => g x σ H1 D.nx
theorem ps_asg {tg e : Expr} {te : TE} {g : TG} (he : PE X e te) (hg : PG X tg g) (hs : swapsWithSole [tg] e pos.line X.env = pure false := by rfl) (hw : swappedStores [tg] e X.env = pure none := by rfl)
    (h1 : (assignEach [tg] X.env).map (·.2) = [assign tg X.env] := by rfl) : PS X (.Assign [tg] e pos) (tAsg te g) := by
  intro pins s σ H D I h
  refine wpAny_Assign_stores (thn (he pins s σ H _ I h) fun v s1 ⟨x, H1, I1, r1, q1⟩ => ?_) hs hw
  rw [h1]
  exact thn (hg pins s1 σ H1 x v _ I1 r1 q1) fun _ s2 q => q
/-- name = value -/
theorem ps_set {i : Nat} {x : Str} {e : Expr} {te : TE} {pos' : Pos} (hN : X.N.Nodup) (hi : X.N[i]? = some x) (hx : Loc X.env.scope x) (he : PE X e te) (hs : swapsWith e (some (.Name x pos')) pos.line X.env = pure false := by rfl) (hf : X.fn x = true ∨ X.env.scope.names.lookup x = some .local := by first | exact .inl rfl | exact .inr rfl | assumption) :
    PS X (.Assign [.Name x pos'] e pos) (tAsg te (gName i)) := by
  intro pins s σ H D I h
  refine wpAny_Assign_Name (thn (he pins s σ H _ I h) fun v s1 ⟨y, H1, I1, r1, q1⟩ => ?_) hs
  exact store_ok I1 hN hi hx r1 (fun s2 I2 => ⟨_, H1, I2, q1⟩) hf
/-- name op= e -/
def tAug (i : Nat) (te : TE) (ti : TIp) : TS := fun D σ H => ∃ x, σ[i]? = some (some x) ∧ te σ H fun y H1 => ti x y H1 fun z H2 => D.nx (σ.set i (some z)) H2
/-- ints -/
def ipI (f : Int → Int → Int) : TIp := fun x y H Q => ∃ i j, x = .int i ∧ y = .int j ∧ Q (.int (f i j)) H
end

section
variable {X : Cx} {pos : Pos}
end

/-- at turn i: it yields x (the heap may grow), or it stops -/
structure It where
  go : Nat → Hp → Prop
  yld : Nat → Hp → V → Hp → Prop
  stop : Nat → Hp → Prop
/-- the iterator's own objects may turn: they are not the frame's, not pinned, younger than the entry (or a comprehension's own) -/
def FpOk (X : Cx) (pins : List (Addr × Obj)) (H : Hp) (b : Addr) : Prop :=
  H b = none ∧ b ≠ X.env.locals ∧ b ∉ X.fs ∧ (b ∈ X.ex ∨ X.s₀.heap.objs.size ≤ b) ∧ (∀ x c, X.env.cells.lookup x = some c → c ≠ b) ∧ ∀ p ∈ X.pn ++ pins, p.1 ≠ b
theorem Inv.fpOk {X : Cx} {pins : List (Addr × Obj)} {σ : St} {H H' : Hp} {s : Shared} {b : Addr} (I : Inv X pins σ H s) (hb : s.heap.objs.size ≤ b) (hn : H' b = none) : FpOk X pins H' b := by
  refine ⟨hn, Nat.ne_of_gt (Nat.lt_of_lt_of_le I.lt hb), I.nofs hb, .inr (Nat.le_trans I.sz hb), fun x c e z => ?_, fun p hp z => ?_⟩
  · obtain ⟨v, q⟩ := I.cell x c e
    exact absurd (Nat.lt_of_lt_of_le q.lt (by rw [z]; exact hb)) (Nat.lt_irrefl _)
  · exact absurd (Nat.lt_of_lt_of_le (Heap.lt_size (I.pin p hp).1) (by rw [z]; exact hb)) (Nat.lt_irrefl _)
structure Turn (P : Program) (w : World) (K : PySem.W.Frag) (tg : Expr) (J : It) (fp : List Addr) (it : Addr) (tn : Nat → Heap → Prop) : Prop where
  mem : it ∈ fp
  obj : ∀ i h, tn i h → ∀ b ∈ fp, ∃ o, h.get? b = some o ∧ ∀ v, o.data ≠ .cell v
  keep : ∀ i h h', tn i h → (∀ b ∈ fp, ∀ o, h.get? b = some o → h'.get? b = some o) → tn i h'
  item : ∀ (X : Cx), X.prog = P → X.w = w → X.K = K → X.calm = true → ∀ (i : Nat) (pins : List (Addr × Obj)) (s : Shared) (σ : St) (H : Hp) (E : Value → Shared → Prop), Inv X pins σ H s → (∀ b ∈ fp, FpOk X pins H b) → tn i s.heap → J.go i H →
    wpAny (model P w) X.A (pyNext (.ref it)) (fun r s1 => ∃ u, r = some u ∧
      wpAny (model P w) X.A (letOwnedTupleGo tg (.ref it) u) (fun _ s2 => ∃ x H', Inv X pins σ H' s2 ∧ RelV x u ∧ J.yld i H x H' ∧ tn (i + 1) s2.heap ∧ ∀ b ∈ fp, H' b = none) E s1) E s
  done : ∀ (X : Cx), X.prog = P → X.w = w → X.K = K → X.calm = true → ∀ (i : Nat) (pins : List (Addr × Obj)) (s : Shared) (σ : St) (H : Hp) (E : Value → Shared → Prop), Inv X pins σ H s → (∀ b ∈ fp, FpOk X pins H b) → tn i s.heap → J.stop i H →
    wpAny (model P w) X.A (pyNext (.ref it)) (fun r s1 => r = none ∧ Inv X pins σ H s1) E s
  self : ∀ (A : Around) (i : Nat) (s : Shared) (Q : Value → Shared → Prop) (E : Value → Shared → Prop), tn i s.heap → Q (.ref it) s → wpAny (model P w) A (pyIter (.ref it)) Q E s
abbrev TI := St → Hp → (It → Hp → Prop) → Prop
/-- an iterator has come -/
def PIE (X : Cx) (pins : List (Addr × Obj)) (σ : St) (tg : Expr) (R : It → Hp → Prop) (itv : Value) (s2 : Shared) : Prop :=
  ∃ (it : Addr) (fp : List Addr) (tn : Nat → Heap → Prop) (J : It) (H' : Hp), itv = .ref it ∧ Inv X pins σ H' s2 ∧ Turn X.prog X.w X.K tg J fp it tn ∧ tn 0 s2.heap ∧ (∀ b ∈ fp, FpOk X pins H' b) ∧ R J H'
def PI (X : Cx) (tg iter : Expr) (wi : TI) : Prop :=
  ∀ (pins : List (Addr × Obj)) (s : Shared) (σ : St) (H : Hp) (R : It → Hp → Prop), Inv X pins σ H s → wi σ H R →
    wpAny (model X.prog X.w) X.A (eval iter X.env) (fun v s1 => wpAny (model X.prog X.w) X.A (pyIter v) (PIE X pins σ tg R) X.xe s1) X.xe s

/-- the step ahead of the store is nothing for an iterator that keeps no tuple -/
theorem go_of {M : Model} {A : Around} {E : Value → Shared → Prop} {s : Shared} {tg : Expr} {it : Addr} {u : Value} {o : Obj} {n : String} {vs : Array Value} {Q : Unit → Shared → Prop} (ho : s.heap.get? it = some o) (hc : o.cls = .type n) (hd : o.data = .fields vs)
    (hn : ["enumerate", "zip", "dict_itemiterator", "dict_reverseitemiterator", "odict_iterator", "itertools.zip_longest", "itertools.pairwise"].contains n = false) (hQ : Q () s) : wpAny M A (letOwnedTupleGo tg (.ref it) u) Q E s := by
  unfold letOwnedTupleGo
  cases tg <;> first
    | exact wpAny_pure hQ
    | (cases u <;> first
        | exact wpAny_pure hQ
        | (refine wpAny_bind (wpAny_load ho ?_)
           rw [hc, hd]
           show wpAny M A (if (["enumerate", "zip", "dict_itemiterator", "dict_reverseitemiterator", "odict_iterator", "itertools.zip_longest", "itertools.pairwise"].contains n && vs[0]? == some (rawInt _)) = true then _ else _) Q E s
           rw [if_neg (by intro h; rw [hn, Bool.false_and] at h; cases h)]
           exact wpAny_pure hQ))

/-- the list at a, as it stands at each turn (a loop may append to it) -/
def Itl (K : PySem.W.Frag) (a : Addr) : It :=
  ⟨fun i H => ∃ xs x, SqL K H a xs ∧ xs[i]? = some x, fun i H x H' => H' = H ∧ ∀ xs, SqL K H a xs → xs[i]? = some x, fun i H => ∃ xs, SqL K H a xs ∧ xs.length ≤ i⟩
def Itt (K : PySem.W.Frag) (a : Addr) : It :=
  ⟨fun i H => ∃ xs x, SqT K H a xs ∧ xs[i]? = some x, fun i H x H' => H' = H ∧ ∀ xs, SqT K H a xs → xs[i]? = some x, fun i H => ∃ xs, SqT K H a xs ∧ xs.length ≤ i⟩
/-- lo, lo + 1, .. (n of them) -/
def Itr (lo : Int) (n : Nat) : It := ⟨fun i _ => i < n, fun i H x H' => H' = H ∧ x = .int (lo + i), fun i _ => n ≤ i⟩
theorem turn_list {P : Program} {w : World} {K : PySem.W.Frag} {tg : Expr} (a it : Addr) : Turn P w K tg (Itl K a) [it] it (fun i h => h.IsListIter it a i) where
  mem := by simp
  obj := fun i h st b hb => by
    have e : b = it := by simpa using hb
    subst e
    obtain ⟨o, e, c, d⟩ := st
    exact ⟨o, e, fun v z => by rw [d] at z; cases z⟩
  keep := fun i h h' st k => st.at fun o e => k it (by simp) o e
  item := by
    intro X hP hw hK hc i pins s σ H E I hf st hg
    subst hP hw hK
    obtain ⟨xs, x, hq, hx⟩ := hg
    obtain ⟨its, rv, p, hz⟩ := I.list hq
    obtain ⟨u, hu, ru⟩ := rv.get hx
    obtain ⟨f0, f1, f2, f3, f4, f5⟩ := hf it (by simp)
    refine wpAny_pyNext_list_item st p.isList (x := u) (by simpa using hu) fun h' st' sb => ?_
    have I1 : Inv X pins σ H { s with heap := h' } := I.turned (t' := s.toks) (fun b o hb e => (sb.2 b hb).trans e) f0 f1 f3 f4 f5
    obtain ⟨o, e, c, d⟩ := id st'
    exact ⟨u, rfl, go_of (s := { s with heap := h' }) e c d (by decide) ⟨x, H, I1, ru, ⟨rfl, fun ys hy => by rw [I.list_inj hy hq]; exact hx⟩, st', fun b hb => (hf b hb).1⟩⟩
  done := by
    intro X hP hw hK hc i pins s σ H E I hf st hg
    subst hP hw hK
    obtain ⟨xs, hq, hx⟩ := hg
    obtain ⟨its, rv, p, hz⟩ := I.list hq
    obtain ⟨f0, f1, f2, f3, f4, f5⟩ := hf it (by simp)
    have hl := rv.length
    exact wpAny_pyNext_list_end (I.ok.hd hc) st p.isList (by simp; omega) fun h' eb => ⟨rfl, I.turned (t' := s.toks) (fun b o hb e => eb b o hb e) f0 f1 f3 f4 f5⟩
  self := fun _ _ _ _ _ st h => wpAny_pyIter_listiter st h
theorem turn_tuple {P : Program} {w : World} {K : PySem.W.Frag} {tg : Expr} (a it : Addr) : Turn P w K tg (Itt K a) [it] it (fun i h => h.IsTupleIter it a i) where
  mem := by simp
  obj := fun i h st b hb => by
    have e : b = it := by simpa using hb
    subst e
    obtain ⟨o, e, c, d⟩ := st
    exact ⟨o, e, fun v z => by rw [d] at z; cases z⟩
  keep := fun i h h' st k => st.at fun o e => k it (by simp) o e
  item := by
    intro X hP hw hK hc i pins s σ H E I hf st hg
    subst hP hw hK
    obtain ⟨xs, x, hq, hx⟩ := hg
    obtain ⟨its, rv, p, hz⟩ := I.tuple hq
    obtain ⟨u, hu, ru⟩ := rv.get hx
    obtain ⟨f0, f1, f2, f3, f4, f5⟩ := hf it (by simp)
    refine wpAny_pyNext_tuple_item st (show s.heap.IsTuple a its.toArray from p) (x := u) (by simpa using hu) fun h' st' sb => ?_
    have I1 : Inv X pins σ H { s with heap := h' } := I.turned (t' := s.toks) (fun b o hb e => (sb.2 b hb).trans e) f0 f1 f3 f4 f5
    obtain ⟨o, e, c, d⟩ := id st'
    exact ⟨u, rfl, go_of (s := { s with heap := h' }) e c d (by decide) ⟨x, H, I1, ru, ⟨rfl, fun ys hy => by rw [I.tuple_inj hy hq]; exact hx⟩, st', fun b hb => (hf b hb).1⟩⟩
  done := by
    intro X hP hw hK hc i pins s σ H E I hf st hg
    subst hP hw hK
    obtain ⟨xs, hq, hx⟩ := hg
    obtain ⟨its, rv, p, hz⟩ := I.tuple hq
    obtain ⟨f0, f1, f2, f3, f4, f5⟩ := hf it (by simp)
    have hl := rv.length
    exact wpAny_pyNext_tuple_end (I.ok.hd hc) st (show s.heap.IsTuple a its.toArray from p) (by simp; omega) fun h' eb => ⟨rfl, I.turned (t' := s.toks) (fun b o hb e => eb b o hb e) f0 f1 f3 f4 f5⟩
  self := fun _ _ _ _ _ st h => wpAny_pyIter_tupleiter st h
theorem turn_range {P : Program} {w : World} {K : PySem.W.Frag} {tg : Expr} (it : Addr) (lo : Int) (n : Nat) : Turn P w K tg (Itr lo n) [it] it (fun i h => IsRangeIter h it (lo + (i : Nat) * 1) ((n : Int) - (i : Nat)) 1) where
  mem := by simp
  obj := fun i h st b hb => by
    have e : b = it := by simpa using hb
    subst e
    exact ⟨_, st, fun v z => by
      have z' : Data.fields _ = Data.cell v := z
      cases z'⟩
  keep := fun i h h' st k => k it (by simp) _ st
  item := by
    intro X hP hw hK hc i pins s σ H E I hf st hg
    subst hP hw hK
    obtain ⟨f0, f1, f2, f3, f4, f5⟩ := hf it (by simp)
    have W := Walks.range (prog := X.prog) (w := X.w) (I.ok.hd hc) it lo 1 n
    refine W.item i s _ _ hg st fun v h' tk hv st' kk => ?_
    obtain ⟨t, rfl⟩ := hv
    have I1 : Inv X pins σ H { s with heap := h', toks := tk } := I.turned (fun b o hb e => kk b o (by simpa using hb) e) f0 f1 f3 f4 f5
    refine ⟨_, rfl, go_of (s := { s with heap := h', toks := tk }) (n := "range_iterator") st' rfl rfl (by decide) ⟨.int (lo + i), H, I1, ⟨t, ?_⟩, ⟨rfl, rfl⟩, st', fun b hb => (hf b hb).1⟩⟩
    rw [Int.mul_one]
  done := by
    intro X hP hw hK hc i pins s σ H E I hf st hg
    subst hP hw hK
    obtain ⟨f0, f1, f2, f3, f4, f5⟩ := hf it (by simp)
    exact wpAny_pyNext_range_end (I.ok.hd hc) st (by have : n ≤ i := hg; omega) fun h' eb => ⟨rfl, I.turned (t' := s.toks) (fun b o hb e => eb b o hb e) f0 f1 f3 f4 f5⟩
  self := fun _ _ _ _ _ st h => wpAny_pyIter_rangeiter st h
end L2

namespace L2
open PySem PySem.Spec PyProof.Rows
section
variable {X : Cx} {tg : Expr}
def iList (K : PySem.W.Frag) (tl : TE) : TI := fun σ H R => tl σ H fun x H1 => ∃ a, x = .ref a ∧ (∃ xs, SqL K H1 a xs) ∧ R (Itl K a) H1
def iTup (K : PySem.W.Frag) (tl : TE) : TI := fun σ H R => tl σ H fun x H1 => ∃ a, x = .ref a ∧ (∃ xs, SqT K H1 a xs) ∧ R (Itt K a) H1
theorem pi_list {l : Expr} {tl : TE} (hl : PE X l tl) : PI X tg l (iList X.K tl) := by
  intro pins s σ H R I h
  refine thn (hl pins s σ H _ I h) fun v s1 ⟨x, H1, I1, r1, q1⟩ => ?_
  obtain ⟨a, e, ⟨xs, hq⟩, q⟩ := q1
  subst e
  cases r1
  obtain ⟨its, rv, p, hz⟩ := I1.list hq
  refine wpAny_pyIter_list p.isList ?_
  refine ⟨s1.heap.objs.size, [s1.heap.objs.size], _, _, H1, rfl, I1.kept (t' := s1.toks) fun b o e => Heap.get?_push_of_some _ e, turn_list a _, ⟨_, Heap.get?_push_size _ rfl, rfl, rfl⟩, fun b hb => ?_, q⟩
  have e : b = s1.heap.objs.size := by simpa using hb
  subst e
  exact I1.fpOk (Nat.le_refl _) (I1.hok.fresh (Nat.le_refl _))
theorem pi_tup {l : Expr} {tl : TE} (hl : PE X l tl) : PI X tg l (iTup X.K tl) := by
  intro pins s σ H R I h
  refine thn (hl pins s σ H _ I h) fun v s1 ⟨x, H1, I1, r1, q1⟩ => ?_
  obtain ⟨a, e, ⟨xs, hq⟩, q⟩ := q1
  subst e
  cases r1
  obtain ⟨its, rv, p, hz⟩ := I1.tuple hq
  refine wpAny_pyIter_tuple (show s1.heap.IsTuple a its.toArray from p) ?_
  refine ⟨s1.heap.objs.size, [s1.heap.objs.size], _, _, H1, rfl, I1.kept (t' := s1.toks) fun b o e => Heap.get?_push_of_some _ e, turn_tuple a _, ⟨_, Heap.get?_push_size _ rfl, rfl, rfl⟩, fun b hb => ?_, q⟩
  have e : b = s1.heap.objs.size := by simpa using hb
  subst e
  exact I1.fpOk (Nat.le_refl _) (I1.hok.fresh (Nat.le_refl _))
/-- a range object just made, walked -/
theorem range_it {pins : List (Addr × Obj)} {σ : St} {H : Hp} {s : Shared} {R : It → Hp → Prop} {E : Value → Shared → Prop} {lo hi : Int} {t u v : Tok} {tk : Nat} (I : Inv X pins σ H s) (h1 : -(2 ^ 62) ≤ lo) (h2 : lo < 2 ^ 62) (h3 : -(2 ^ 62) ≤ hi) (h4 : hi < 2 ^ 62)
    (q : R (Itr lo (hi - lo).toNat) H) : wpAny (model X.prog X.w) X.A (pyIter (.ref s.heap.objs.size)) (PIE X pins σ tg R) E { s with heap := s.heap.push { cls := .type "range", data := .fields #[.int lo t, .int hi u, .int 1 v] }, toks := tk } := by
  refine wpAny_pyIter_range (IsRange.new ..) (small_one h1 h2 h3 h4) ?_
  have I1 : Inv X pins σ H { s with heap := s.heap.push { cls := .type "range", data := .fields #[.int lo t, .int hi u, .int 1 v] }, toks := tk } := I.kept fun b o e => Heap.get?_push_of_some _ e
  refine ⟨(s.heap.push { cls := .type "range", data := .fields #[.int lo t, .int hi u, .int 1 v] }).objs.size, [(s.heap.push { cls := .type "range", data := .fields #[.int lo t, .int hi u, .int 1 v] }).objs.size], _, _, H, rfl,
    I1.kept (t' := tk) fun b o e => Heap.get?_push_of_some _ e, turn_range _ lo (hi - lo).toNat, ?_, fun b hb => ?_, q⟩
  · have e1 : lo + ((0 : Nat) : Int) * 1 = lo := by simp
    have e2 : (((hi - lo).toNat : Nat) : Int) - ((0 : Nat) : Int) = Builtin.Range.rangeSize lo hi 1 := by rw [rangeSize_one]; split <;> omega
    show IsRangeIter _ _ (lo + ((0 : Nat) : Int) * 1) ((((hi - lo).toNat : Nat) : Int) - ((0 : Nat) : Int)) 1
    rw [e1, e2]
    exact Heap.get?_push_size _ rfl
  · have e : b = (s.heap.push { cls := .type "range", data := .fields #[.int lo t, .int hi u, .int 1 v] }).objs.size := by simpa using hb
    subst e
    exact I1.fpOk (Nat.le_refl _) (I1.hok.fresh (Nat.le_refl _))
def iRng1 (ta : TA) : TI := fun σ H R => ta σ H fun vs H1 => ∃ j : Int, vs = [.int j] ∧ -(2 ^ 62) ≤ j ∧ j < 2 ^ 62 ∧ R (Itr 0 j.toNat) H1
def iRng2 (ta : TA) : TI := fun σ H R => ta σ H fun vs H1 => ∃ i j : Int, vs = [.int i, .int j] ∧ (-(2 ^ 62) ≤ i ∧ i < 2 ^ 62 ∧ -(2 ^ 62) ≤ j ∧ j < 2 ^ 62) ∧ R (Itr i (j - i).toNat) H1
theorem pi_range1 {a : Expr} {ta : TA} {p pos : Pos} (hg : Gl X "range") (hm : X.mg "range" = none) (ha : PA X [a] ta) (hs : starEach [a] X.env = [(false, eval a X.env)] := by rfl) : PI X tg (.Call (.Name "range" p) [a] [] pos) (iRng1 ta) := by
  intro pins s σ H R I h
  refine Call_ (ld_blt I hg hm boot_range (PyProof.Rows.callWith_type1 (thn (ha pos pins s σ H _ I h) fun us s1 ⟨vs, H1, I1, r1, q1⟩ => ?_) hs rfl))
  obtain ⟨j, e, q1, q2, q⟩ := q1
  subst e
  cases r1 with
  | cons r rr =>
    cases rr
    obtain ⟨t, rfl⟩ := r
    exact call_range_1 (range_it I1 (by omega) (by omega) q1 q2 (by simpa using q))
/-- W: the invariant by the turn and a measure; N: what the body is to reach -/
def tFor (wi : TI) (g : TG) (tb : TS) : TS := fun D σ H => wi σ H fun J H1 => ∃ W : Nat → Nat → St → Hp → Prop, (∃ m, W 0 m σ H1) ∧ ∀ i m σ H, W i m σ H →
  (J.stop i H ∧ D.nx σ H) ∨ (J.go i H ∧ ∃ N : St → Hp → Prop, (∀ σ' H', N σ' H' → ∃ m', m' < m ∧ W (i + 1) m' σ' H') ∧ ∀ x H', J.yld i H x H' → g x σ H' fun σ2 H2 => tb { D with nx := N, ct := N, bk := D.nx } σ2 H2)
/-- the records at fp as they stand -/
def pinsAt (fp : List Addr) (h : Heap) : List (Addr × Obj) := fp.filterMap fun b => (h.get? b).map fun o => (b, o)
theorem mem_pinsAt {fp : List Addr} {h : Heap} {b : Addr} {o : Obj} (hb : b ∈ fp) (e : h.get? b = some o) : (b, o) ∈ pinsAt fp h := List.mem_filterMap.mpr ⟨b, hb, by rw [e]; rfl⟩
theorem of_pinsAt {fp : List Addr} {h : Heap} {p : Addr × Obj} (hp : p ∈ pinsAt fp h) : p.1 ∈ fp ∧ h.get? p.1 = some p.2 := by
  obtain ⟨b, hb, e⟩ := List.mem_filterMap.mp hp
  cases q : h.get? b with
  | none => rw [q] at e; cases e
  | some o =>
    rw [q] at e
    have e' : (b, o) = p := Option.some.inj e
    subst e'
    exact ⟨hb, q⟩
theorem Inv.pinned {pins : List (Addr × Obj)} {σ : St} {H : Hp} {s : Shared} {fp : List Addr} (I : Inv X pins σ H s) (hf : ∀ b ∈ fp, FpOk X pins H b) (ho : ∀ b ∈ fp, ∃ o, s.heap.get? b = some o ∧ ∀ v, o.data ≠ .cell v) : Inv X (pins ++ pinsAt fp s.heap) σ H s :=
  I.pins_of fun p hp => (List.mem_append.mp hp).elim (fun z => I.pin p (List.mem_append_right _ z)) fun z => by
    obtain ⟨hb, e⟩ := of_pinsAt z
    obtain ⟨f0, f1, f2, _⟩ := hf p.1 hb
    obtain ⟨o, e', d⟩ := ho p.1 hb
    rw [e] at e'; cases e'
    exact ⟨e, f0, f1, f2, d⟩
theorem Inv.unpinned {pins pl : List (Addr × Obj)} {σ : St} {H : Hp} {s : Shared} (I : Inv X (pins ++ pl) σ H s) : Inv X pins σ H s := I.pins_of fun p hp => I.pin p (List.mem_append_right _ (List.mem_append_left _ hp))
theorem ps_for {iter : Expr} {body : List Stmt} {wi : TI} {g : TG} {tb : TS} {pos : Pos} (hp : PassesOwn (model X.prog X.w) X.A X.env X.xe) (hc : X.calm = true) (hi : PI X tg iter wi) (hg : PG X tg g) (hb : PSs X body tb)
    (hs : ∀ x, foldedSetIterable iter X.env x = pure x := by intro _; rfl) : PS X (.For tg iter body [] pos) (tFor wi g tb) := by
  intro pins s σ H D I h
  refine wpAny_For (thn (hi pins s σ H _ I h) fun v s1 h1 => thn h1 fun itv s2 h2 => ?_) hs
  obtain ⟨it, fp, tn, J, H2, e, I2, T, st2, f2, W, ⟨m0, w0⟩, turn⟩ := h2
  subst e
  -- what stays true of the iterator's objects through the loop
  have stat : ∀ {H' : Hp}, (∀ b ∈ fp, H' b = none) → ∀ b ∈ fp, FpOk X pins H' b := fun hn b hb => ⟨hn b hb, (f2 b hb).2⟩
  refine codeAny_forLoop_any (fun n s' => ∃ i σ' H', Inv X pins σ' H' s' ∧ tn i s'.heap ∧ (∀ b ∈ fp, H' b = none) ∧ W i n σ' H') ?_ m0 ⟨0, σ, H2, I2, st2, fun b hb => (f2 b hb).1, w0⟩
  rintro n s3 ⟨i, σ3, H3, I3, st3, fr3, w3⟩
  rcases turn i n σ3 H3 w3 with ⟨stop, qn⟩ | ⟨go, N, hN, step⟩
  · refine wpAny_passesOwn hp (thn (T.done X rfl rfl rfl hc i pins s3 σ3 H3 X.xe I3 (stat fr3) st3 stop) fun r s4 ⟨hr, I4⟩ => ?_)
    subst hr
    exact wpAny_execs_nil ⟨σ3, H3, I4, qn⟩
  · refine wpAny_passesOwn hp (thn (T.item X rfl rfl rfl hc i pins s3 σ3 H3 X.xe I3 (stat fr3) st3 go) fun r s4 ⟨u, hr, h4⟩ => ?_)
    subst hr
    refine wpAny_passesOwn hp (thn h4 fun _ s5 ⟨x, H5, I5, r5, y5, st5, fr5⟩ => ?_)
    have I5' := I5.pinned (stat fr5) (T.obj _ _ st5)
    refine wpAny_passesOwn hp (thn (hg _ s5 σ3 H5 x u _ I5' r5 (step x H5 y5)) fun _ s6 ⟨σ6, H6, I6, q6⟩ => ?_)
    refine wpAny_passesOwn hp (thn (hb _ s6 σ6 H6 _ I6 q6) fun f s7 q7 => ?_)
    have again : ∀ {σ7 : St} {H7 : Hp}, Inv X (pins ++ pinsAt fp s5.heap) σ7 H7 s7 → N σ7 H7 → ∃ m, m < n ∧ ∃ i σ' H', Inv X pins σ' H' s7 ∧ tn i s7.heap ∧ (∀ b ∈ fp, H' b = none) ∧ W i m σ' H' := fun {σ7 H7} I7 n7 => by
      obtain ⟨m', hm, w7⟩ := hN σ7 H7 n7
      refine ⟨m', hm, i + 1, σ7, H7, I7.unpinned, T.keep _ _ _ st5 fun b hb o e => (I7.pin (b, o) (List.mem_append_right _ (List.mem_append_right _ (mem_pinsAt hb e)))).1, fun b hb => ?_, w7⟩
      obtain ⟨o, e, d⟩ := T.obj _ _ st5 b hb
      exact (I7.pin (b, o) (List.mem_append_right _ (List.mem_append_right _ (mem_pinsAt hb e)))).2.1
    cases f with
    | next => obtain ⟨σ7, H7, I7, n7⟩ := q7; exact again I7 n7
    | cont => obtain ⟨σ7, H7, I7, n7⟩ := q7; exact again I7 n7
    | brk => obtain ⟨σ7, H7, I7, q7⟩ := q7; exact ⟨σ7, H7, I7.unpinned, q7⟩
    | ret v => obtain ⟨x7, σ7, H7, I7, r7, q7⟩ := q7; exact ⟨x7, σ7, H7, I7.unpinned, r7, q7⟩
end

/-- over a list that the body leaves as it is -/
theorem for_list {K : PySem.W.Frag} {a : Addr} {xs : List V} {g : TG} {tb : TS} {D : Ends} {σ : St} {H : Hp} (Pv : Nat → St → Hp → Prop) (h0 : Pv 0 σ H) (hl : ∀ i σ H, i ≤ xs.length → Pv i σ H → SqL K H a xs)
    (hs : ∀ i x σ H, xs[i]? = some x → Pv i σ H → g x σ H fun σ2 H2 => tb { D with nx := Pv (i + 1), ct := Pv (i + 1), bk := D.nx } σ2 H2) (hd : ∀ σ H, Pv xs.length σ H → D.nx σ H) :
    ∃ W : Nat → Nat → St → Hp → Prop, (∃ m, W 0 m σ H) ∧ ∀ i m σ H, W i m σ H →
      ((Itl K a).stop i H ∧ D.nx σ H) ∨ ((Itl K a).go i H ∧ ∃ N : St → Hp → Prop, (∀ σ' H', N σ' H' → ∃ m', m' < m ∧ W (i + 1) m' σ' H') ∧ ∀ x H', (Itl K a).yld i H x H' → g x σ H' fun σ2 H2 => tb { D with nx := N, ct := N, bk := D.nx } σ2 H2) := by
  refine ⟨fun i m σ H => m = xs.length - i ∧ i ≤ xs.length ∧ Pv i σ H, ⟨xs.length, by simp, Nat.zero_le _, h0⟩, ?_⟩
  rintro i m σ H ⟨rfl, hi, p⟩
  have q := hl i σ H hi p
  by_cases hlt : i < xs.length
  · refine .inr ⟨⟨xs, xs[i], q, by simp [hlt]⟩, Pv (i + 1), fun σ' H' p' => ⟨xs.length - (i + 1), by omega, rfl, hlt, p'⟩, fun x H' y => ?_⟩
    obtain ⟨e, y⟩ := y
    subst e
    exact hs i x σ _ (y xs q) p
  · have e : i = xs.length := by omega
    subst e
    exact .inl ⟨⟨xs, q, Nat.le_refl _⟩, hd σ H p⟩
theorem for_tup {K : PySem.W.Frag} {a : Addr} {xs : List V} {g : TG} {tb : TS} {D : Ends} {σ : St} {H : Hp} (Pv : Nat → St → Hp → Prop) (h0 : Pv 0 σ H) (hl : ∀ i σ H, i ≤ xs.length → Pv i σ H → SqT K H a xs)
    (hs : ∀ i x σ H, xs[i]? = some x → Pv i σ H → g x σ H fun σ2 H2 => tb { D with nx := Pv (i + 1), ct := Pv (i + 1), bk := D.nx } σ2 H2) (hd : ∀ σ H, Pv xs.length σ H → D.nx σ H) :
    ∃ W : Nat → Nat → St → Hp → Prop, (∃ m, W 0 m σ H) ∧ ∀ i m σ H, W i m σ H →
      ((Itt K a).stop i H ∧ D.nx σ H) ∨ ((Itt K a).go i H ∧ ∃ N : St → Hp → Prop, (∀ σ' H', N σ' H' → ∃ m', m' < m ∧ W (i + 1) m' σ' H') ∧ ∀ x H', (Itt K a).yld i H x H' → g x σ H' fun σ2 H2 => tb { D with nx := N, ct := N, bk := D.nx } σ2 H2) := by
  refine ⟨fun i m σ H => m = xs.length - i ∧ i ≤ xs.length ∧ Pv i σ H, ⟨xs.length, by simp, Nat.zero_le _, h0⟩, ?_⟩
  rintro i m σ H ⟨rfl, hi, p⟩
  have q := hl i σ H hi p
  by_cases hlt : i < xs.length
  · refine .inr ⟨⟨xs, xs[i], q, by simp [hlt]⟩, Pv (i + 1), fun σ' H' p' => ⟨xs.length - (i + 1), by omega, rfl, hlt, p'⟩, fun x H' y => ?_⟩
    obtain ⟨e, y⟩ := y
    subst e
    exact hs i x σ _ (y xs q) p
  · have e : i = xs.length := by omega
    subst e
    exact .inl ⟨⟨xs, q, Nat.le_refl _⟩, hd σ H p⟩
theorem for_range {lo : Int} {n : Nat} {g : TG} {tb : TS} {D : Ends} {σ : St} {H : Hp} (Pv : Nat → St → Hp → Prop) (h0 : Pv 0 σ H)
    (hs : ∀ i σ H, i < n → Pv i σ H → g (.int (lo + i)) σ H fun σ2 H2 => tb { D with nx := Pv (i + 1), ct := Pv (i + 1), bk := D.nx } σ2 H2) (hd : ∀ σ H, Pv n σ H → D.nx σ H) :
    ∃ W : Nat → Nat → St → Hp → Prop, (∃ m, W 0 m σ H) ∧ ∀ i m σ H, W i m σ H →
      ((Itr lo n).stop i H ∧ D.nx σ H) ∨ ((Itr lo n).go i H ∧ ∃ N : St → Hp → Prop, (∀ σ' H', N σ' H' → ∃ m', m' < m ∧ W (i + 1) m' σ' H') ∧ ∀ x H', (Itr lo n).yld i H x H' → g x σ H' fun σ2 H2 => tb { D with nx := N, ct := N, bk := D.nx } σ2 H2) := by
  refine ⟨fun i m σ H => m = n - i ∧ i ≤ n ∧ Pv i σ H, ⟨n, by simp, Nat.zero_le _, h0⟩, ?_⟩
  rintro i m σ H ⟨rfl, hi, p⟩
  by_cases hlt : i < n
  · refine .inr ⟨hlt, Pv (i + 1), fun σ' H' p' => ⟨n - (i + 1), by omega, rfl, hlt, p'⟩, fun x H' y => ?_⟩
    obtain ⟨e, y⟩ := y
    subst e y
    exact hs i σ _ hlt p
  · have e : i = n := by omega
    subst e
    exact .inl ⟨Nat.le_refl _, hd σ H p⟩
end L2

namespace L2
open PySem PySem.Spec PyProof.Rows

abbrev R2 := V → V → Hp → VK → Prop
/-- a two-place operation on values: f is binaryOp op, inplaceOp op or compareOp op -/
def OpR (X : Cx) (f : Value → Value → Sem Value) (r : R2) : Prop :=
  ∀ (pins : List (Addr × Obj)) (s : Shared) (σ : St) (H : Hp) (x y : V) (v u : Value) (Q : VK), Inv X pins σ H s → RelV x v → RelV y u → r x y H Q →
    wpAny (model X.prog X.w) X.A (f v u) (EP X pins σ Q) X.xe s
/-- a one-place operation -/
def UnR (X : Cx) (f : Value → Sem Value) (r : V → Hp → VK → Prop) : Prop :=
  ∀ (pins : List (Addr × Obj)) (s : Shared) (σ : St) (H : Hp) (x : V) (v : Value) (Q : VK), Inv X pins σ H s → RelV x v → r x H Q →
    wpAny (model X.prog X.w) X.A (f v) (EP X pins σ Q) X.xe s
/-- a call of a value that is known (a builtin, a type) with values -/
def CallR (X : Cx) (f : Value) (r : List V → Hp → VK → Prop) : Prop :=
  ∀ (pins : List (Addr × Obj)) (s : Shared) (σ : St) (H : Hp) (xs : List V) (us : List Value) (Q : VK), Inv X pins σ H s → Vals xs us → r xs H Q →
    wpAny (model X.prog X.w) X.A (call f us) (EP X pins σ Q) X.xe s
def tOp (r : R2) (ta tb : TE) : TE := fun σ H Q => ta σ H fun x H1 => tb σ H1 fun y H2 => r x y H2 Q
def tUn (r : V → Hp → VK → Prop) (ta : TE) : TE := fun σ H Q => ta σ H fun x H1 => r x H1 Q
/-- ints in, under C, and a value out -/
def rI (C : Int → Int → Prop) (g : Int → Int → V) : R2 := fun x y H Q => ∃ i j, x = .int i ∧ y = .int j ∧ C i j ∧ Q (g i j) H
def rI0 (g : Int → Int → V) : R2 := fun x y H Q => ∃ i j, x = .int i ∧ y = .int j ∧ Q (g i j) H
def rU (g : Int → V) : V → Hp → VK → Prop := fun x H Q => ∃ i, x = .int i ∧ Q (g i) H

section
variable {X : Cx} {a b c : Expr} {ta tb tc : TE} {pos : Pos}

theorem binT (ha : PE X a ta) (hb : PE X b tb) {pins : List (Addr × Obj)} {s : Shared} {σ : St} {H : Hp} {R : V → V → Hp → Prop} (I : Inv X pins σ H s)
    (h : ta σ H fun x H1 => tb σ H1 fun y H2 => R x y H2) {Q : Value → Shared → Prop} {f : Value → Value → Sem Value}
    (hf : ∀ v u s2 x y H2, Inv X pins σ H2 s2 → RelV x v → RelV y u → R x y H2 → wpAny (model X.prog X.w) X.A (f v u) Q X.xe s2) :
    wpAny (model X.prog X.w) X.A (eval a X.env) (fun v s₁ => wpAny (model X.prog X.w) X.A (eval b X.env) (fun u s₂ => wpAny (model X.prog X.w) X.A (f v u) Q X.xe s₂) X.xe s₁) X.xe s := by
  refine thn (ha pins s σ H _ I h) fun v s1 ⟨x, H1, I1, r1, q1⟩ => ?_
  refine thn (hb pins s1 σ H1 _ I1 q1) fun u s2 ⟨y, H2, I2, r2, q2⟩ => ?_
  exact hf v u s2 x y H2 I2 r1 r2 q2

theorem pe_op {op : Operator} {r : R2} (ho : OpR X (binaryOp op) r) (ha : PE X a ta) (hb : PE X b tb) : PE X (.BinOp a op b pos) (tOp r ta tb) := by
  intro pins s σ H Q I h
  exact wpAny_BinOp (binT ha hb I h fun v u s2 x y H2 I2 rx ry q => ho pins s2 σ H2 x y v u Q I2 rx ry q)
theorem pe_un {op : UnaryOp} {r : V → Hp → VK → Prop} (ho : UnR X (unaryOp op) r) (ha : PE X a ta) : PE X (.UnaryOp op a pos) (tUn r ta) := by
  intro pins s σ H Q I h
  exact UnaryOp_ (thn (ha pins s σ H _ I h) fun v s1 ⟨x, H1, I1, r1, q1⟩ => ho pins s1 σ H1 x v Q I1 r1 q1)
theorem opI {f : Value → Value → Sem Value} {C : Int → Int → Prop} {g : Int → Int → Int}
    (rule : ∀ (i j : Int) (t u : Tok) (s : Shared) (Q : Value → Shared → Prop) (E : Value → Shared → Prop), C i j → Q (.int (g i j) s.toks) { s with toks := s.toks + 1 } → wpAny (model X.prog X.w) X.A (f (.int i t) (.int j u)) Q E s) :
    OpR X f (rI C fun i j => .int (g i j)) := by
  intro pins s σ H x y v u Q I rx ry h
  obtain ⟨i, j, rfl, rfl, hc, q⟩ := h
  obtain ⟨t, rfl⟩ := rx
  obtain ⟨t', rfl⟩ := ry
  exact rule i j t t' s _ _ hc ⟨.int (g i j), H, I.tok _, ⟨_, rfl⟩, q⟩
theorem opI0 {f : Value → Value → Sem Value} {g : Int → Int → Int}
    (rule : ∀ (i j : Int) (t u : Tok) (s : Shared) (Q : Value → Shared → Prop) (E : Value → Shared → Prop), Q (.int (g i j) s.toks) { s with toks := s.toks + 1 } → wpAny (model X.prog X.w) X.A (f (.int i t) (.int j u)) Q E s) :
    OpR X f (rI0 fun i j => .int (g i j)) := by
  intro pins s σ H x y v u Q I rx ry h
  obtain ⟨i, j, rfl, rfl, q⟩ := h
  obtain ⟨t, rfl⟩ := rx
  obtain ⟨t', rfl⟩ := ry
  exact rule i j t t' s _ _ ⟨.int (g i j), H, I.tok _, ⟨_, rfl⟩, q⟩
theorem opB0 {f : Value → Value → Sem Value} {g : Int → Int → Bool}
    (rule : ∀ (i j : Int) (t u : Tok) (s : Shared) (Q : Value → Shared → Prop) (E : Value → Shared → Prop), Q (.bool (g i j)) s → wpAny (model X.prog X.w) X.A (f (.int i t) (.int j u)) Q E s) :
    OpR X f (rI0 fun i j => .bl (g i j)) := by
  intro pins s σ H x y v u Q I rx ry h
  obtain ⟨i, j, rfl, rfl, q⟩ := h
  obtain ⟨t, rfl⟩ := rx
  obtain ⟨t', rfl⟩ := ry
  exact rule i j t t' s _ _ ⟨.bl (g i j), H, I, rfl, q⟩

def CDiv (i j : Int) : Prop := 0 < j ∧ j < 1073741824
def CMul (i j : Int) : Prop := (-(2 ^ 64) < i ∧ i < 2 ^ 64) ∨ (-(2 ^ 64) < j ∧ j < 2 ^ 64)
theorem CMul.ok {i j : Int} (h : CMul i j) : IntMulOk i j := by
  rcases h with ⟨h1, h2⟩ | ⟨h1, h2⟩
  · exact .of_left (intBits_le_64 h1 h2)
  · exact .of_right (intBits_le_64 h1 h2)
theorem op_add : OpR X (binaryOp .Add) (rI0 fun i j => .int (i + j)) := opI0 fun _ _ _ _ _ _ _ q => add_int q
theorem op_sub : OpR X (binaryOp .Sub) (rI0 fun i j => .int (i - j)) := opI0 fun _ _ _ _ _ _ _ q => sub_int q
theorem op_mul : OpR X (binaryOp .Mult) (rI CMul fun i j => .int (i * j)) := opI fun _ _ _ _ _ _ _ hc q => mul_int q hc.ok
/-- // by a positive divisor -/
theorem op_fdiv : OpR X (binaryOp .FloorDiv) (rI CDiv fun i j => .int (i / j)) := opI fun i j _ _ _ _ _ hc q => by
  have h1 : (0 : Int) < j := hc.1
  have h2 : j < 1073741824 := hc.2
  exact floordiv_int (by omega) (by rw [Int.fdiv_eq_ediv_of_nonneg i (by omega)]; exact q) (.inl (PyProof.noPylong_small (by omega)))
/-- % by a positive divisor of any size -/
theorem op_mod : OpR X (binaryOp .Mod) (rI (fun _ j => 0 < j) fun i j => .int (i % j)) := opI fun i j _ _ _ _ _ hc q => by
  have h1 : (0 : Int) < j := hc
  exact mod_int' (by omega) (by rw [Int.fmod_eq_emod_of_nonneg i (by omega)]; exact q)
theorem unI {f : Value → Sem Value} {g : Int → Int}
    (rule : ∀ (i : Int) (t : Tok) (s : Shared) (Q : Value → Shared → Prop) (E : Value → Shared → Prop), Q (.int (g i) s.toks) { s with toks := s.toks + 1 } → wpAny (model X.prog X.w) X.A (f (.int i t)) Q E s) :
    UnR X f (rU fun i => .int (g i)) := by
  intro pins s σ H x v Q I rx h
  obtain ⟨i, rfl, q⟩ := h
  obtain ⟨t, rfl⟩ := rx
  exact rule i t s _ _ ⟨.int (g i), H, I.tok _, ⟨_, rfl⟩, q⟩
theorem un_neg : UnR X (unaryOp .USub) (rU fun i => .int (-i)) := unI fun _ _ _ _ _ q => neg_int q
end

/-- the scalars that == tells apart as data does -/
def scal : V → V → Bool
  | .non, .non => true | .non, .int _ => true | .int _, .non => true | .non, .bl _ => true | .bl _, .non => true | .non, .str _ => true | .str _, .non => true
  | .int _, .int _ => true | .bl _, .bl _ => true | .str _, .str _ => true | .byt _, .byt _ => true
  | .int _, .str _ => true | .str _, .int _ => true | .bl _, .str _ => true | .str _, .bl _ => true
  | _, _ => false
def rEq : R2 := fun x y H Q => scal x y = true ∧ Q (.bl (decide (x = y))) H
def rNe : R2 := fun x y H Q => scal x y = true ∧ Q (.bl (!decide (x = y))) H

theorem dec_int {i j : Int} : decide (V.int i = V.int j) = (i == j) := by
  rw [Bool.eq_iff_iff]
  simp
theorem dec_bl {i j : Bool} : decide (V.bl i = V.bl j) = (i == j) := by
  rw [Bool.eq_iff_iff]
  simp
theorem dec_str {i j : Str} : decide (V.str i = V.str j) = (i == j) := by
  rw [Bool.eq_iff_iff]
  simp
theorem dec_byt {i j : Array UInt8} : decide (V.byt i = V.byt j) = (i.toList == j.toList) := by
  rw [Bool.eq_iff_iff]
  cases i
  cases j
  simp

section
variable {X : Cx} {a b c : Expr} {ta tb tc : TE} {pos : Pos}
theorem fin_bl {pins : List (Addr × Obj)} {σ : St} {H : Hp} {s : Shared} {Q : VK} {k k' : Bool} (I : Inv X pins σ H s) (q : Q (.bl k) H) (e : k = k') : EP X pins σ Q (.bool k') s := by
  subst e
  exact ⟨.bl k, H, I, rfl, q⟩
theorem op_eq : OpR X (compareOp .Eq) rEq := by
  intro pins s σ H x y v u Q I rx ry h
  obtain ⟨hs, q⟩ := h
  cases x with
  | non =>
    cases rx
    cases y with
    | non => cases ry; exact PySem.EqNone.eq_none_none (fin_bl I q (by simp))
    | bl j => cases ry; exact PySem.EqNone.eq_none_bool (fin_bl I q (by simp))
    | int j => obtain ⟨t', rfl⟩ := ry; exact PySem.EqNone.eq_none_int (fin_bl I q (by simp))
    | str j => obtain ⟨t', rfl⟩ := ry; exact PySem.EqNone.eq_none_str (fin_bl I q (by simp))
    | _ => exact absurd (show false = true from hs) Bool.false_ne_true
  | bl i =>
    cases rx
    cases y with
    | non => cases ry; exact PySem.EqNone.eq_bool_none (fin_bl I q (by simp))
    | bl j => cases ry; exact eq_bool (fin_bl I q dec_bl)
    | str j => obtain ⟨t', rfl⟩ := ry; exact PySem.EqMixed.eq_bool_str (fin_bl I q (by simp))
    | _ => exact absurd (show false = true from hs) Bool.false_ne_true
  | int i =>
    obtain ⟨t, rfl⟩ := rx
    cases y with
    | non => cases ry; exact PySem.EqNone.eq_int_none (fin_bl I q (by simp))
    | int j => obtain ⟨t', rfl⟩ := ry; exact eq_int (fin_bl I q dec_int)
    | str j => obtain ⟨t', rfl⟩ := ry; exact PySem.EqMixed.eq_int_str (fin_bl I q (by simp))
    | _ => exact absurd (show false = true from hs) Bool.false_ne_true
  | str i =>
    obtain ⟨t, rfl⟩ := rx
    cases y with
    | non => cases ry; exact PySem.EqNone.eq_str_none (fin_bl I q (by simp))
    | bl j => cases ry; exact PySem.EqMixed.eq_str_bool (fin_bl I q (by simp))
    | int j => obtain ⟨t', rfl⟩ := ry; exact PySem.EqMixed.eq_str_int (fin_bl I q (by simp))
    | str j => obtain ⟨t', rfl⟩ := ry; exact eq_str (fin_bl I q dec_str)
    | _ => exact absurd (show false = true from hs) Bool.false_ne_true
  | byt i =>
    obtain ⟨t, rfl⟩ := rx
    cases y with
    | byt j => obtain ⟨t', rfl⟩ := ry; exact PySem.W.eq_bytes (fin_bl I q dec_byt)
    | _ => exact absurd (show false = true from hs) Bool.false_ne_true
  | _ => cases y <;> exact absurd (show false = true from hs) Bool.false_ne_true
theorem op_ne : OpR X (compareOp .NotEq) rNe := by
  intro pins s σ H x y v u Q I rx ry h
  obtain ⟨hs, q⟩ := h
  cases x with
  | non =>
    cases rx
    cases y with
    | non => cases ry; exact PySem.EqNone.ne_none_none (fin_bl I q (by simp))
    | bl j => cases ry; exact PySem.EqNone.ne_none_bool (fin_bl I q (by simp))
    | int j => obtain ⟨t', rfl⟩ := ry; exact PySem.EqNone.ne_none_int (fin_bl I q (by simp))
    | str j => obtain ⟨t', rfl⟩ := ry; exact PySem.EqNone.ne_none_str (fin_bl I q (by simp))
    | _ => exact absurd (show false = true from hs) Bool.false_ne_true
  | bl i =>
    cases rx
    cases y with
    | non => cases ry; exact PySem.EqNone.ne_bool_none (fin_bl I q (by simp))
    | bl j => cases ry; exact ne_bool (fin_bl I q (congrArg not dec_bl))
    | str j => obtain ⟨t', rfl⟩ := ry; exact PySem.EqMixed.ne_bool_str (fin_bl I q (by simp))
    | _ => exact absurd (show false = true from hs) Bool.false_ne_true
  | int i =>
    obtain ⟨t, rfl⟩ := rx
    cases y with
    | non => cases ry; exact PySem.EqNone.ne_int_none (fin_bl I q (by simp))
    | int j => obtain ⟨t', rfl⟩ := ry; exact ne_int (fin_bl I q (congrArg not dec_int))
    | str j => obtain ⟨t', rfl⟩ := ry; exact PySem.EqMixed.ne_int_str (fin_bl I q (by simp))
    | _ => exact absurd (show false = true from hs) Bool.false_ne_true
  | str i =>
    obtain ⟨t, rfl⟩ := rx
    cases y with
    | non => cases ry; exact PySem.EqNone.ne_str_none (fin_bl I q (by simp))
    | bl j => cases ry; exact PySem.EqMixed.ne_str_bool (fin_bl I q (by simp))
    | int j => obtain ⟨t', rfl⟩ := ry; exact PySem.EqMixed.ne_str_int (fin_bl I q (by simp))
    | str j => obtain ⟨t', rfl⟩ := ry; exact ne_str (fin_bl I q (congrArg not dec_str))
    | _ => exact absurd (show false = true from hs) Bool.false_ne_true
  | byt i =>
    obtain ⟨t, rfl⟩ := rx
    cases y with
    | byt j => obtain ⟨t', rfl⟩ := ry; exact PySem.W.ne_bytes (fin_bl I q (congrArg not dec_byt))
    | _ => exact absurd (show false = true from hs) Bool.false_ne_true
  | _ => cases y <;> exact absurd (show false = true from hs) Bool.false_ne_true

theorem op_lt : OpR X (compareOp .Lt) (rI0 fun i j => .bl (decide (i < j))) := opB0 fun _ _ _ _ _ _ _ q => lt_int q
theorem op_le : OpR X (compareOp .LtE) (rI0 fun i j => .bl (decide (i ≤ j))) := opB0 fun _ _ _ _ _ _ _ q => le_int q
theorem op_gt : OpR X (compareOp .Gt) (rI0 fun i j => .bl (decide (j < i))) := opB0 fun _ _ _ _ _ _ _ q => gt_int q
theorem op_ge : OpR X (compareOp .GtE) (rI0 fun i j => .bl (decide (j ≤ i))) := opB0 fun _ _ _ _ _ _ _ q => ge_int q
theorem nomark (b : Expr) {op : CmpOp} (h : op ≠ .In := by decide) (h2 : op ≠ .NotIn := by decide) : behindInMarks op b = false := by
  have e1 : (op == CmpOp.In) = false := by cases op <;> first | rfl | exact absurd rfl h
  have e2 : (op == CmpOp.NotIn) = false := by cases op <;> first | rfl | exact absurd rfl h2
  cases b <;> simp [behindInMarks, e1, e2]
/-- a comparison as a value; hm: nomark b, or (for in, not in) by with_unfolding_all rfl -/
theorem pe_cmpR {op : CmpOp} {r : R2} (ho : OpR X (compareOp op) r) (ha : PE X a ta) (hb : PE X b tb) (hm : behindInMarks op b = false) : PE X (.Compare a [op] [b] pos) (tOp r ta tb) := by
  intro pins s σ H Q I h
  exact wpAny_Compare1 (binT ha hb I h fun v u s2 x y H2 I2 rx ry q => ho pins s2 σ H2 x y v u Q I2 rx ry q) hm
/-- a reading of a value as a test -/
def tTest (t : TE) : TT := fun σ H Q => t σ H fun x H' => ∃ k, x = .bl k ∧ Q k H'
theorem pt_cmpR {op : CmpOp} {r : R2} (ho : OpR X (compareOp op) r) (ha : PE X a ta) (hb : PE X b tb) (hm : behindInMarks op b = false) : PT X (.Compare a [op] [b] pos) (tTest (tOp r ta tb)) := by
  intro pins s σ H Q I h
  refine wpAny_isTrue_Compare1 (thn (ha pins s σ H _ I h) fun v s1 ⟨x, H1, I1, r1, q1⟩ => thn (hb pins s1 σ H1 _ I1 q1) fun u s2 ⟨y, H2, I2, r2, q2⟩ =>
    thn (ho pins s2 σ H2 x y v u _ I2 r1 r2 q2) fun c s3 ⟨z, H3, I3, r3, k, e, q3⟩ => ?_) hm
  subst e
  cases r3
  exact wpAny_truthy_bool ⟨H3, I3, q3⟩
/-- a op1 b op2 c -/
def tChain (r r' : R2) (ta tb tc : TE) : TE := fun σ H Q => ta σ H fun x H1 => tb σ H1 fun y H2 => r x y H2 fun z H3 => ∃ k, z = .bl k ∧
  (if k = true then tc σ H3 fun w' H4 => r' y w' H4 Q else Q (.bl false) H3)
theorem pe_chain {op op' : CmpOp} {r r' : R2} (ho : OpR X (compareOp op) r) (ho' : OpR X (compareOp op') r') (ha : PE X a ta) (hb : PE X b tb) (hc : PE X c tc)
    (hm : lastMarks [op, op'] [b, c] = false := by with_unfolding_all rfl) : PE X (.Compare a [op, op'] [b, c] pos) (tChain r r' ta tb tc) := by
  intro pins s σ H Q I h
  refine Compare_chain (thn (ha pins s σ H _ I h) fun v s1 ⟨x, H1, I1, r1, q1⟩ => chain_link (thn (hb pins s1 σ H1 _ I1 q1) fun u s2 ⟨y, H2, I2, r2, q2⟩ =>
    thn (ho pins s2 σ H2 x y v u _ I2 r1 r2 q2) fun d s3 ⟨z, H3, I3, r3, k, e, q3⟩ => ?_)) hm
  subst e
  cases r3
  refine wpAny_truthy_bool ?_
  cases k with
  | false => exact ite_ff ⟨.bl false, H3, I3, rfl, q3⟩
  | true => exact ite_tt (chain_last (thn (hc pins s3 σ H3 _ I3 q3) fun w' s4 ⟨z', H4, I4, r4, q4⟩ => ho' pins s4 σ H4 y z' u w' Q I4 r2 r4 q4))
theorem pt_chain {op op' : CmpOp} {r r' : R2} (ho : OpR X (compareOp op) r) (ho' : OpR X (compareOp op') r') (ha : PE X a ta) (hb : PE X b tb) (hc : PE X c tc)
    (hm : lastMarks [op, op'] [b, c] = false := by with_unfolding_all rfl) : PT X (.Compare a [op, op'] [b, c] pos) (tTest (tChain r r' ta tb tc)) := by
  intro pins s σ H Q I h
  refine isTrue_chain (thn (ha pins s σ H _ I h) fun v s1 ⟨x, H1, I1, r1, q1⟩ => test_link (thn (hb pins s1 σ H1 _ I1 q1) fun u s2 ⟨y, H2, I2, r2, q2⟩ =>
    thn (ho pins s2 σ H2 x y v u _ I2 r1 r2 q2) fun d s3 ⟨z, H3, I3, r3, k, e, q3⟩ => ?_)) hm
  subst e
  cases r3
  refine wpAny_truthy_bool ?_
  cases k with
  | false =>
    obtain ⟨k', e', q'⟩ := q3
    cases e'
    exact ite_ff ⟨H3, I3, q'⟩
  | true =>
    refine ite_tt (test_last (thn (hc pins s3 σ H3 _ I3 q3) fun w' s4 ⟨z', H4, I4, r4, q4⟩ => thn (ho' pins s4 σ H4 y z' u w' _ I4 r2 r4 q4) fun d' s5 ⟨z2, H5, I5, r5, k2, e2, q5⟩ => ?_))
    subst e2
    cases r5
    exact wpAny_truthy_bool ⟨H5, I5, q5⟩

theorem line63 : (sizeLine : Nat) < 2 ^ 63 := by rw [sizeLine_eq]; decide
theorem vals1 {x : V} {us : List Value} (r : Vals [x] us) : ∃ u, us = [u] ∧ RelV x u := by
  cases r with
  | cons r1 r2 => cases r2; exact ⟨_, rfl, r1⟩
theorem vals2 {x y : V} {us : List Value} (r : Vals [x, y] us) : ∃ u w', us = [u, w'] ∧ RelV x u ∧ RelV y w' := by
  cases r with
  | cons r1 r2 =>
    cases r2 with
    | cons r3 r4 => cases r4; exact ⟨_, _, rfl, r1, r3⟩
end
end L2

namespace L2
open PySem PySem.Spec PyProof.Rows

structure ObjM (h : Heap) (x dx C : Addr) (mA : Str → Option Value) : Prop where
  obj : h.get? x = some (PySem.W.instObj C dx)
  ns : h.Ns1 dx mA
  ne : dx ≠ x

theorem lookIn_ns {h : Heap} {dx : Addr} {mA : Str → Option Value} (n : h.Ns1 dx mA) : ∃ od, h.get? dx = some od ∧ ∀ name, PySem.W.lookIn name od = some (mA name) := by
  obtain ⟨o, es, ep, ho, hd, hk, _, hm⟩ := n
  refine ⟨o, ho, fun name => ?_⟩
  have e := hm name
  unfold nsFind findBy at e
  rw [← Array.find?_toList] at e
  unfold PySem.W.lookIn
  rw [hd]
  dsimp only
  split
  · rename_i y q
    rw [q] at e
    exact congrArg some e
  · rename_i q
    rw [q] at e
    have a : es.toList.any (·.refKey) = false := by
      rw [List.any_eq_false]
      intro y hy
      obtain ⟨z, t, hkey⟩ := hk y (Array.mem_toList_iff.mp hy)
      simp [DictEntry.refKey, hkey]
    have a' : ¬ es.toList.any (·.refKey) = true := by rw [a]; exact Bool.false_ne_true
    rw [if_neg a']
    exact congrArg some e

theorem ObjM.look {h : Heap} {x dx C : Addr} {mA : Str → Option Value} (I : ObjM h x dx C mA) : ∃ od, PySem.W.InstAt h x (PySem.W.instObj C dx) C (some od) ∧ ∀ name, PySem.W.lookIn name od = some (mA name) :=
  let ⟨od, ho, hl⟩ := lookIn_ns I.ns
  ⟨od, ⟨I.obj, rfl, rfl, ho⟩, hl⟩

section
variable {prog : Program} {w : World} {A : Around} {E : Value → Shared → Prop} {s : Shared} {K : PySem.W.Frag} {x dx C f : Addr} {mA : Str → Option Value} {name : Str} {v : Value}

theorem get_map {expr : Bool} {Q : Value → Shared → Prop} (X : K.In s.heap) (I : ObjM s.heap x dx C mA) (hg : PySem.W.plainGet K C name = true) (hh : PySem.W.hasDictIn K C = true)
    (ha : PySem.W.findIn K (.ref C) name = some none) (hv : mA name = some v) (hv' : PySem.W.handedIn v = true) (h : Q v { s with toks := s.toks + 1 }) :
    wpAny (model prog w) A (getAttr (.ref x) name expr) Q E s := by
  obtain ⟨od, J, hl⟩ := I.look
  exact PySem.W.get_value X J (PySem.W.plainGet_of hg).1 (PySem.W.findObj_own hh ha rfl (by rw [hl, hv])) hv' h

theorem get_meth {pl : Sem Bool} {Q : Value × List Value → Shared → Prop} (X : K.In s.heap) (I : ObjM s.heap x dx C mA) (hg : PySem.W.plainGet K C name = true)
    (hf : PySem.W.findIn K (.ref C) name = some (some (.ref f))) (ht : PySem.W.isFn K (.ref f) = true) (hv : mA name = none) (h : Q (.ref f, [.ref x]) s) :
    wpAny (model prog w) A (getMethod (.ref x) name pl) Q E s := by
  obtain ⟨od, J, hl⟩ := I.look
  exact PySem.W.method_fn X J (PySem.W.plainGet_of hg).1 (PySem.W.plainGet_of hg).2 hf (beq_iff_eq.mp ht) (by show (PySem.W.lookIn name od).map (·.isSome) = some false; rw [hl, hv]; rfl) h

theorem set_map {ns : List Str} {Q : Unit → Shared → Prop} (X : K.In s.heap) (I : ObjM s.heap x dx C mA)
    (hs : PySem.W.findIn K (.ref C) "__setattr__" = some (some (.builtin "object.__setattr__"))) (hp : PySem.W.plainOver K C = true) (ht : PySem.W.takerIn K C name = some none) (hh : PySem.W.hasDictIn K C = true)
    (hw : PySem.Within mA ns) (hsz : ns.length ≤ sizeLine)
    (h : ∀ h', ObjM h' x dx C (fun y => if y = name then some v else mA y) → Heap.SameBut dx s.heap h' → Q () { s with heap := h', toks := s.toks + 2 }) :
    wpAny (model prog w) A (setAttr (.ref x) name v) Q E s := by
  obtain ⟨od, J, hl⟩ := I.look
  refine PySem.W.set_plain X J hs (PySem.W.osa_open (s := { s with toks := s.toks + 1 }) (r := none) X J hp ht fun b => ?_)
  obtain ⟨cd, hc, hd'⟩ := PySem.W.any_some hh
  have hx : s.heap.get? x = some ⟨.ref C, some dx, .plain, #[]⟩ := I.obj
  refine wpAny_bind (wpAny_pure (wpAny_bind (wpAny_bind (wpAny_loadPart hx (wpAny_bind (PySem.W.Looks.here (s := { s with toks := s.toks + 1 }) (PySem.W.looks_clsIn X hc) ?_))))))
  rw [hd']
  refine wpAny_pure (a := some dx) (wpAny_bind (wpAny_pure (wpAny_bind ?_)))
  refine wpAny_nsSet1 (s := { s with toks := s.toks + 1 }) I.ns fun h' hn2 hs2 => ?_
  obtain ⟨oD, esD, epD, hoD, hdD, hcD⟩ := hn2.count (PySem.Within.cons name v hw)
  refine wpAny_bind (wpAny_lookBehind hoD (by rw [hdD]; exact pastItsLine_dict (Nat.le_trans hcD (by rw [List.length_cons]; omega))) ?_)
  exact wpAny_pure (h _ ⟨(hs2.2 _ (Ne.symm I.ne)).trans I.obj, hn2, I.ne⟩ hs2)

/-- C(..): the dict at the heap's end, the instance behind it; then its __init__ -/
theorem make_map {R : Result → Shared → Prop} {vs : List Value} {kw : List (Str × Value)} (X : K.In s.heap) (hm : PySem.W.makesIn K C = true)
    (hi : PySem.W.findIn K (.ref C) "__init__" = some (some (.ref f))) (hf : PySem.W.typeIn K (.ref f) = some (.type "function"))
    (h : codeAny (model prog w) (A.under (.builtin "type.__call__" ⟨.ref C :: vs, kw⟩)) (.call (.ref f) ⟨.ref (s.heap.objs.size + 1) :: vs, kw⟩) (PySem.W.InitBack (s.heap.objs.size + 1) R)
      { s with heap := (s.heap.push PySem.W.emptyDict).push (PySem.W.instObj C s.heap.objs.size) }) :
    codeAny (model prog w) A (.call (.ref C) ⟨vs, kw⟩) R s := by
  obtain ⟨hh, g, d, t, os⟩ := s
  exact PySem.W.make_core (PySem.W.makes_of X hm) (PySem.W.looks_findIn X hi) (fun self => PySem.W.bind_fn X self hf) (.inl rfl) h
/-- C() where there is no __init__ but object's -/
theorem make_map0 {R : Result → Shared → Prop} (X : K.In s.heap) (hm : PySem.W.makesIn K C = true)
    (hi : PySem.W.findIn K (.ref C) "__init__" = some (some (.builtin "object.__init__")))
    (hb : ∀ self, PySem.W.Looks (model prog w) s.heap (bindSpecial (.builtin "object.__init__") self) (.builtin "object.__init__", [self]))
    (h : codeAny (model prog w) (A.under (.builtin "type.__call__" ⟨[.ref C], []⟩)) (.call (.builtin "object.__init__") ⟨[.ref (s.heap.objs.size + 1)], []⟩) (PySem.W.InitBack (s.heap.objs.size + 1) R)
      { s with heap := (s.heap.push PySem.W.emptyDict).push (PySem.W.instObj C s.heap.objs.size) }) :
    codeAny (model prog w) A (.call (.ref C) ⟨[], []⟩) R s := by
  obtain ⟨hh, g, d, t, os⟩ := s
  exact PySem.W.make_core (PySem.W.makes_of X hm) (PySem.W.looks_findIn X hi) hb (.inr ⟨rfl, rfl⟩) h
end

def putF (f : Str) (v : V) : List (Str × V) → List (Str × V)
  | [] => [(f, v)]
  | (g, x) :: r => if g = f then (g, v) :: r else (g, x) :: putF f v r
theorem lookup_putF (f g : Str) (v : V) : ∀ fs : List (Str × V), (putF f v fs).lookup g = if g = f then some v else fs.lookup g
  | [] => by
    show List.lookup g [(f, v)] = _
    by_cases h : g = f
    · have hb : (g == f) = true := beq_iff_eq.mpr h
      simp only [List.lookup, hb, if_pos h]
    · have hb : (g == f) = false := beq_eq_false_iff_ne.mpr h
      simp only [List.lookup, hb, if_neg h]
  | (k, x) :: r => by
    have ih := lookup_putF f g v r
    rw [show putF f v ((k, x) :: r) = (if k = f then (k, v) :: r else (k, x) :: putF f v r) from rfl]
    by_cases hk : k = f
    · rw [if_pos hk]
      by_cases h : g = k
      · have hb : (g == k) = true := beq_iff_eq.mpr h
        simp only [List.lookup, hb, if_pos (h.trans hk)]
      · have hb : (g == k) = false := beq_eq_false_iff_ne.mpr h
        simp only [List.lookup, hb, if_neg (fun e : g = f => h (e.trans hk.symm))]
    · rw [if_neg hk]
      by_cases h : g = k
      · have hb : (g == k) = true := beq_iff_eq.mpr h
        simp only [List.lookup, hb, if_neg (fun e : g = f => hk (h.symm.trans e))]
      · have hb : (g == k) = false := beq_eq_false_iff_ne.mpr h
        simp only [List.lookup, hb]
        exact ih
theorem keys_putF (f : Str) (v : V) : ∀ fs : List (Str × V), f ∈ (putF f v fs).map (·.1) ∧ ∀ g, g ∈ fs.map (·.1) → g ∈ (putF f v fs).map (·.1)
  | [] => ⟨by simp [putF], fun g h => by simp at h⟩
  | (k, x) :: r => by
    obtain ⟨i1, i2⟩ := keys_putF f v r
    rw [show putF f v ((k, x) :: r) = (if k = f then (k, v) :: r else (k, x) :: putF f v r) from rfl]
    by_cases hk : k = f
    · rw [if_pos hk]
      subst hk
      exact ⟨by simp, fun g h => by simpa using h⟩
    · rw [if_neg hk]
      refine ⟨?_, fun g h => ?_⟩
      · rw [List.map_cons]
        exact List.mem_cons_of_mem _ i1
      · rw [List.map_cons] at h ⊢
        rcases List.mem_cons.mp h with e | e
        · exact List.mem_cons.mpr (.inl e)
        · exact List.mem_cons_of_mem _ (i2 g e)
theorem length_putF (f : Str) (v : V) : ∀ fs : List (Str × V), (putF f v fs).length ≤ fs.length + 1
  | [] => by simp [putF]
  | (k, x) :: r => by
    have ih := length_putF f v r
    rw [show putF f v ((k, x) :: r) = (if k = f then (k, v) :: r else (k, x) :: putF f v r) from rfl]
    by_cases hk : k = f
    · rw [if_pos hk, List.length_cons, List.length_cons]; omega
    · rw [if_neg hk, List.length_cons, List.length_cons]; omega

theorem RelO.some_of {v : V} {o : Option Value} (r : RelO (some v) o) : ∃ u, o = some u ∧ RelV v u := by
  cases o with
  | none => exact (show False from r).elim
  | some u => exact ⟨u, rfl, r⟩
theorem RelO.none_of {o : Option Value} (r : RelO none o) : o = none := by
  cases o with
  | none => rfl
  | some u => exact (show False from r).elim
theorem handed_of {v : V} {u : Value} (r : RelV v u) : PySem.W.handedIn u = true := by
  cases v with
  | non => cases (show u = Value.none from r); rfl
  | bl b => cases (show u = Value.bool b from r); rfl
  | int i => obtain ⟨t, e⟩ := (show ∃ t, u = Value.int i t from r); cases e; rfl
  | str x => obtain ⟨t, e⟩ := (show ∃ t, u = Value.str x t from r); cases e; rfl
  | byt b => obtain ⟨t, e⟩ := (show ∃ t, u = Value.bytes b t from r); cases e; rfl
  | flt b => obtain ⟨t, e⟩ := (show ∃ t, u = Value.float b t from r); cases e; rfl
  | ref a => cases (show u = Value.ref a from r); rfl
  | ty n => cases (show u = Value.type n from r); rfl

section
variable {P : Program} {w : World} {H H' : Hp} {h h' : Heap} {a C dx : Addr} {fs fs' : List (Str × V)}
theorem ins_get (hok : HOk P w H h) (e : H a = some (.ins C dx fs)) : ∃ mA, ObjM h a dx C mA ∧ (∀ f, RelO (fs.lookup f) (mA f)) ∧ PySem.Within mA (fs.map (·.1)) ∧ fs.length ≤ 1000 ∧ H dx = some (.own a) := by
  obtain ⟨d, z, ne, ob, mA, n, r, q⟩ := (show ObjOk P w H h a (.ins C dx fs) from hok a _ e)
  exact ⟨mA, ⟨ob, n, ne⟩, r, q, z, d⟩
end

structure Cls (K : PySem.W.Frag) (C : Addr) : Prop where
  pg : PySem.W.plainGet K C Str.empty = true
  hd : PySem.W.hasDictIn K C = true
  po : PySem.W.plainOver K C = true
  sa : PySem.W.findIn K (.ref C) "__setattr__" = some (some (.builtin "object.__setattr__"))
theorem Cls.get {K : PySem.W.Frag} {C : Addr} (c : Cls K C) (f : Str) : PySem.W.plainGet K C f = true := c.pg
/-- no class of it has the name -/
def NoAttr (K : PySem.W.Frag) (C : Addr) (f : Str) : Prop := PySem.W.findIn K (.ref C) f = some none
theorem NoAttr.taker {K : PySem.W.Frag} {C : Addr} {f : Str} (n : NoAttr K C f) : PySem.W.takerIn K C f = some none := by
  unfold PySem.W.takerIn
  rw [show PySem.W.findIn K (.ref C) f = some none from n]
  rfl
/-- a constant of the class -/
structure Con (K : PySem.W.Frag) (C : Addr) (f : Str) (v : V) (u : Value) : Prop where
  at_ : PySem.W.findIn K (.ref C) f = some (some u)
  rel : RelV v u
  get : PySem.W.specialIn K u "__get__" = some none
  cp : PySem.W.copiedNames.contains f = false
/-- a method: a plain def of the class or of one above it -/
structure Meth (K : PySem.W.Frag) (C : Addr) (m : Str) (f : Addr) : Prop where
  at_ : PySem.W.findIn K (.ref C) m = some (some (.ref f))
  fn : PySem.W.isFn K (.ref f) = true
  kp : PySem.W.keepIn K (.ref f) = true

section
variable {X : Cx} {pins : List (Addr × Obj)} {σ : St} {H : Hp} {s : Shared} {a C dx : Addr} {fs : List (Str × V)} {f : Str} {v : V} {A : Around} {E : Value → Shared → Prop}

theorem getattr_ok {b : Bool} {Q : Value → Shared → Prop} (I : Inv X pins σ H s) (e : H a = some (.ins C dx fs)) (c : Cls X.K C) (n : NoAttr X.K C f) (l : fs.lookup f = some v)
    (h : ∀ u s', Inv X pins σ H s' → RelV v u → Q u s') : wpAny (model X.prog X.w) A (getAttr (.ref a) f b) Q E s := by
  obtain ⟨mA, O, r, _, _, _⟩ := ins_get I.hok e
  obtain ⟨u, hu, ru⟩ := RelO.some_of (v := v) (o := mA f) (by rw [← l]; exact r f)
  exact get_map I.kIn O (c.get f) c.hd n hu (handed_of ru) (h u _ (I.tok _) ru)

theorem getmeth_ok {m : Str} {g : Addr} {pl : Sem Bool} {Q : Value × List Value → Shared → Prop} (I : Inv X pins σ H s) (e : H a = some (.ins C dx fs)) (c : Cls X.K C) (k : Meth X.K C m g) (l : fs.lookup m = none)
    (h : Q (.ref g, [.ref a]) s) : wpAny (model X.prog X.w) A (getMethod (.ref a) m pl) Q E s := by
  obtain ⟨mA, O, r, _, _, _⟩ := ins_get I.hok e
  have hn : mA m = none := RelO.none_of (by rw [← l]; exact r m)
  exact get_meth I.kIn O (c.get m) k.at_ k.fn hn h

theorem setattr_ok {y : V} {u : Value} {Q : Unit → Shared → Prop} (I : Inv X pins σ H s) (e : H a = some (.ins C dx fs)) (c : Cls X.K C) (n : NoAttr X.K C f) (hl : fs.length < 1000) (ry : RelV y u)
    (h : ∀ s', Inv X pins σ (upd H a (.ins C dx (putF f y fs))) s' → Q () s') : wpAny (model X.prog X.w) A (setAttr (.ref a) f u) Q E s := by
  obtain ⟨mA, O, r, wi, _, ho⟩ := ins_get I.hok e
  have hz : (fs.map (·.1)).length ≤ sizeLine := by rw [List.length_map, sizeLine_eq]; omega
  refine set_map I.kIn O c.sa c.po n.taker c.hd wi hz fun h' O' sb => h _ ?_
  have hd : ∃ o, h'.get? dx = some o := let ⟨o, _, _, e', _⟩ := O'.ns; ⟨o, e'⟩
  refine I.write (x := a) (e := dx) (by rw [e]; exact True.intro) (.inr ho) (fun b q hb z => (sb.2 b hb).trans z) hd ?_
  refine ⟨by rw [upd_ne O.ne]; exact ho, ?_, O.ne, O'.obj, _, O'.ns, fun g => ?_, fun g hg => ?_⟩
  · have := length_putF f y fs; omega
  · show RelO ((putF f y fs).lookup g) (if g = f then some u else mA g)
    rw [lookup_putF]
    by_cases q : g = f
    · rw [if_pos q, if_pos q]; exact ry
    · rw [if_neg q, if_neg q]; exact r g
  · by_cases q : g = f
    · rw [q]; exact (keys_putF f y fs).1
    · refine (keys_putF f y fs).2 g (wi g fun z => hg ?_)
      show (if g = f then some u else mA g) = none
      rw [if_neg q]; exact z

/-- a new instance, tracked, without attributes -/
theorem Inv.made (I : Inv X pins σ H s) : Inv X pins σ (upd (upd H s.heap.objs.size (.own (s.heap.objs.size + 1))) (s.heap.objs.size + 1) (.ins C s.heap.objs.size []))
    { s with heap := (s.heap.push PySem.W.emptyDict).push (PySem.W.instObj C s.heap.objs.size) } := by
  have e1 : (s.heap.push PySem.W.emptyDict).get? s.heap.objs.size = some PySem.W.emptyDict := Heap.get?_push_size s.heap rfl
  have e2 : ((s.heap.push PySem.W.emptyDict).push (PySem.W.instObj C s.heap.objs.size)).get? (s.heap.objs.size + 1) = some (PySem.W.instObj C s.heap.objs.size) := by
    have := Heap.get?_push_size (s.heap.push PySem.W.emptyDict) (o := PySem.W.instObj C s.heap.objs.size) rfl
    rwa [Heap.size_push] at this
  have e3 : (s.heap.push PySem.W.emptyDict).Ns s.heap.objs.size (fun _ => none) := ⟨PySem.W.emptyDict, #[], _, e1, rfl, (fun e he => absurd he (by simp)), fun _ => rfl⟩
  have I1 := I.laid (a := s.heap.objs.size) (o := .own (s.heap.objs.size + 1)) (h' := s.heap.push PySem.W.emptyDict) (t' := s.toks) (fun b u q => Heap.get?_push_of_some _ q) (Nat.le_refl _) ⟨_, e1⟩
  refine I1.laid (a := s.heap.objs.size + 1) (o := .ins C s.heap.objs.size []) (t' := s.toks) (fun b u q => Heap.get?_push_of_some _ q) (Nat.le_of_eq (Heap.size_push _ _)) ?_
  have ne : s.heap.objs.size ≠ s.heap.objs.size + 1 := Nat.ne_of_lt (Nat.lt_succ_self _)
  refine ⟨by rw [upd_ne ne, upd_same], Nat.zero_le _, ne, e2, fun _ => none, (Heap.Ns1.of_empty e3).at fun o q => Heap.get?_push_of_some _ q, fun _ => True.intro, fun y hy => absurd rfl hy⟩

/-- e.f where nothing but the object is asked: through attributeBase (super) and the last hold -/
theorem attr_of {prog : Program} {w : World} {env : Env} {e : Expr} {f : Str} {pos : Pos} {s : Shared} {Q : Value → Shared → Prop} (hb : attributeBase e f env (eval e env) = eval e env)
    (h : wpAny (model prog w) A (eval e env) (fun o s₁ => wpAny (model prog w) A (getAttr o f true) Q E s₁) E s) : wpAny (model prog w) A (eval (.Attribute e f pos) env) Q E s :=
  Attribute_any_ h (by rw [arm_eval_Attribute, hb])
end

/-- e.f, an attribute of the instance -/
def tFld (K : PySem.W.Frag) (ta : TE) (f : Str) : TE := fun σ H Q => ta σ H fun x H1 => ∃ a C dx fs v, x = .ref a ∧ H1 a = some (.ins C dx fs) ∧ Cls K C ∧ NoAttr K C f ∧ fs.lookup f = some v ∧ Q v H1
/-- e.f = value -/
def sFld (K : PySem.W.Frag) (ta tv : TE) (f : Str) : TS := fun D σ H => tv σ H fun y H1 => ta σ H1 fun x H2 => ∃ a C dx fs, x = .ref a ∧ H2 a = some (.ins C dx fs) ∧ Cls K C ∧ NoAttr K C f ∧ fs.length < 1000 ∧
  D.nx σ (upd H2 a (.ins C dx (putF f y fs)))
section
variable {X : Cx} {o e value : Expr} {f : Str} {pos pos' tpos : Pos} {ta tv : TE}
theorem pe_fld (he : PE X e ta) (hb : attributeBase e f X.env (eval e X.env) = eval e X.env) : PE X (.Attribute e f pos) (tFld X.K ta f) := by
  intro pins s σ H Q I h
  refine attr_of hb (thn (he pins s σ H _ I h) fun u s1 ⟨x, H1, I1, rx, a, C, dx, fs, v, ex, ea, c, n, l, q⟩ => ?_)
  subst ex
  obtain rfl : u = Value.ref a := rx
  exact getattr_ok I1 ea c n l fun u' s2 I2 ru => ⟨v, H1, I2, ru, q⟩
theorem ps_fld (ha : PE X o ta) (hv : PE X value tv) (hs : swapsWith value (some (.Attribute o f pos')) pos.line X.env = pure false) : PS X (.Assign [.Attribute o f pos'] value pos) (sFld X.K ta tv f) := by
  intro pins s σ H D I h
  refine plainObj_wpAny_Assign_Attribute (thn (hv pins s σ H _ I h) fun u s1 ⟨y, H1, I1, ry, q⟩ => thn (ha pins s1 σ H1 _ I1 q) fun ov s2 ⟨x, H2, I2, rx, a, C, dx, fs, ex, ea, c, n, l, q2⟩ => ?_) hs
  subst ex
  obtain rfl : ov = Value.ref a := rx
  exact setattr_ok I2 ea c n l ry fun s3 I3 => ⟨σ, _, I3, q2⟩
end

section
variable {X : Cx} {pins : List (Addr × Obj)} {σ : St} {H : Hp} {s : Shared} {A : Around} {E : Value → Shared → Prop} {Q : Value → Shared → Prop} {c : Value} {b : Bool}
/-- the type of a value, as the fragment's deciders take it; for an instance its class -/
inductive TyOf (K : PySem.W.Frag) (H : Hp) : V → Value → Prop where
  | non : TyOf K H .non (.type "NoneType")
  | bl (x : Bool) : TyOf K H (.bl x) (.type "bool")
  | int (i : Int) : TyOf K H (.int i) (.type "int")
  | str (x : Str) : TyOf K H (.str x) (.type "str")
  | flt (x : UInt64) : TyOf K H (.flt x) (.type "float")
  | lst {a : Addr} {xs : List V} (e : H a = some (.lst xs)) : TyOf K H (.ref a) (.type "list")
  | frz {a : Addr} {o : Obj} {xs : List V} (e : H a = some (.frz o (.lst xs))) : TyOf K H (.ref a) (.type "list")
  | tup {a : Addr} {xs : List V} (e : H a = some (.tup xs)) : TyOf K H (.ref a) (.type "tuple")
  | dK {a : Addr} {kvs : List (Key × V)} (e : H a = some (.dK kvs)) : TyOf K H (.ref a) (.type "dict")
  | dT {a : Addr} {kvs : List (List Key × V)} (e : H a = some (.dT kvs)) : TyOf K H (.ref a) (.type "dict")
  | ins {a C dx : Addr} {fs : List (Str × V)} (e : H a = some (.ins C dx fs)) (cl : Cls K C) (ha : PySem.W.findIn K (.ref C) "__class__" = some (some (.builtin "object.__class__")))
      (hn : PySem.W.specialIn K (.builtin "object.__class__") "__get__" = some (some (.builtin "getset_descriptor.__get__"))) (htk : PySem.W.takesIn K (.builtin "object.__class__") = some true)
      (hm : PySem.W.mroIn K C (.type "object") = some true) : TyOf K H (.ref a) (.ref C)
/-- isinstance(x, c) for one class c, a built-in or an own one: kitOne's answer -/
theorem isinst_ok {x : V} {u t : Value} (I : Inv X pins σ H s) (rx : RelV x u) (ty : TyOf X.K H x t) (e : PySem.W.kitOne X.K t c = some b) (h : ∀ tk, Q (.bool b) { s with toks := tk }) :
    wpAny (model X.prog X.w) A (call (.builtin "isinstance") [u, c]) Q E s := by
  cases ty with
  | non => cases (show u = Value.none from rx); exact PySem.W.kia_one PySem.W.kitx_none I.kIn True.intro e (fun z => nomatch z) h
  | bl y => cases (show u = Value.bool y from rx); exact PySem.W.kia_one PySem.W.kitx_bool I.kIn True.intro e (fun z => nomatch z) h
  | int i => obtain ⟨t, q⟩ := (show ∃ t, u = Value.int i t from rx); cases q; exact PySem.W.kia_one PySem.W.kitx_int I.kIn True.intro e (fun z => nomatch z) h
  | str y => obtain ⟨t, q⟩ := (show ∃ t, u = Value.str y t from rx); cases q; exact PySem.W.kia_one PySem.W.kitx_str I.kIn True.intro e (fun z => nomatch z) h
  | flt y => obtain ⟨t, q⟩ := (show ∃ t, u = Value.float y t from rx); cases q; exact PySem.W.kia_one PySem.W.kitx_float I.kIn True.intro e (fun z => nomatch z) h
  | @lst a xs ea =>
    cases (show u = Value.ref a from rx)
    obtain ⟨_, _, n, _, h1⟩ := (show ObjOk X.prog X.w H s.heap a (.lst xs) from I.hok a _ ea)
    exact PySem.W.kia_one PySem.W.kitx_list I.kIn ⟨_, h1, rfl⟩ e (fun z => nomatch z) h
  | @frz a ob xs ea =>
    cases (show u = Value.ref a from rx)
    obtain ⟨_, _, _, n, _, h1⟩ := (show ObjOk X.prog X.w H s.heap a (.frz ob (.lst xs)) from I.hok a _ ea)
    exact PySem.W.kia_one PySem.W.kitx_list I.kIn ⟨_, h1, rfl⟩ e (fun z => nomatch z) h
  | @tup a xs ea =>
    cases (show u = Value.ref a from rx)
    obtain ⟨_, _, _, p⟩ := (show ObjOk X.prog X.w H s.heap a (.tup xs) from I.hok a _ ea)
    obtain ⟨o, h1, h2, _⟩ := p
    exact PySem.W.kia_one PySem.W.kitx_tuple I.kIn ⟨o, h1, h2⟩ e (fun z => nomatch z) h
  | @dK a kvs ea =>
    cases (show u = Value.ref a from rx)
    obtain ⟨_, _, vs, _, p⟩ := (show ObjOk X.prog X.w H s.heap a (.dK kvs) from I.hok a _ ea)
    obtain ⟨o, es, ep, h1, h2, _⟩ := p
    exact PySem.W.kia_one PySem.W.kitx_dict I.kIn ⟨o, h1, h2.1⟩ e (fun z => nomatch z) h
  | @dT a kvs ea =>
    cases (show u = Value.ref a from rx)
    obtain ⟨_, _, xs, _, o, es, ep, h1, h2, _⟩ := (show ObjOk X.prog X.w H s.heap a (.dT kvs) from I.hok a _ ea)
    exact PySem.W.kia_one PySem.W.kitx_dict I.kIn ⟨o, h1, h2.1⟩ e (fun z => nomatch z) h
  | @ins a C dx fs ea cl ha hn htk hm =>
    cases (show u = Value.ref a from rx)
    obtain ⟨mA, O, _⟩ := ins_get I.hok ea
    obtain ⟨od, J, _⟩ := O.look
    exact PySem.W.kia_one (PySem.W.kitx_own (cl.get _) cl.hd ha hn htk hm) I.kIn J e (fun z => nomatch z) h
end
end L2

namespace L2
open PySem PySem.Spec PyProof.Rows

structure Room (k : Nat) (A : Around) : Prop where
  hd : A.handled = none
  dp : A.depth + 3 * k + 5 < recursionLimit
  un : A.units + 16 * k + 200 < cLine
theorem Room.mono {j k : Nat} {A : Around} (r : Room k A) (h : j ≤ k) : Room j A := ⟨r.hd, by have := r.dp; omega, by have := r.un; omega⟩
theorem Room.deeper {k : Nat} {A : Around} (r : Room (k + 1) A) (env : Env) : Room k (A.deeper env) :=
  ⟨r.hd, by have := r.dp; show A.depth + 1 + 3 * k + 5 < _; omega, by have := r.un; show A.units + 3 + 16 * k + 200 < _; omega⟩
theorem Room.in1 {k : Nat} {A : Around} (r : Room (k + 1) A) : Room k A.in1 :=
  ⟨r.hd, by have := r.dp; show A.depth + 3 * k + 5 < _; omega, by have := r.un; show A.units + 1 + 16 * k + 200 < _; omega⟩
theorem make_depth {A : Around} {C : Addr} {us : List Value} {kw : List (Str × Value)} : (A.under (.builtin "type.__call__" ⟨.ref C :: us, kw⟩)).depth = A.depth + 1 := by
  first | rfl | simp [Around.under, Code.weight, Code.isCreation, Code.isGuard, Code.isCaller, Code.frames, Code.isFrame, guardIds]
theorem make_units {A : Around} {C : Addr} {us : List Value} {kw : List (Str × Value)} : (A.under (.builtin "type.__call__" ⟨.ref C :: us, kw⟩)).units = A.units + 1 := by
  first | rfl | simp [Around.under, Code.cUnits, Code.frames, Code.isFrame]
theorem Room.make {k : Nat} {A : Around} (r : Room (k + 1) A) (C : Addr) (us : List Value) (kw : List (Str × Value)) : Room k (A.under (.builtin "type.__call__" ⟨.ref C :: us, kw⟩)) :=
  ⟨r.hd, by have := r.dp; rw [make_depth]; omega, by have := r.un; rw [make_units]; omega⟩
theorem Room.depth {k : Nat} {A : Around} (r : Room k A) : A.depth < recursionLimit := by have := r.dp; omega
theorem Room.units {k : Nat} {A : Around} (r : Room k A) : A.units + 64 < cLine := by have := r.un; omega
def tNil : TA := fun _ H Q => Q [] H
def tCons (ta : TE) (tr : TA) : TA := fun σ H Q => ta σ H fun x H1 => tr σ H1 fun xs H2 => Q (x :: xs) H2
section
variable {X : Cx} {e : Expr} {es : List Expr} {te : TE} {t : TA} {pos : Pos}
theorem pa_nil : PA X [] tNil := fun _ _ _ _ H Q I h => Calls.spliced_nil ⟨[], H, I, .nil, h⟩
theorem pa_cons (ha : PE X e te) (hr : PA X es t) (hs : starEach (e :: es) X.env = (false, eval e X.env) :: starEach es X.env := by rfl) : PA X (e :: es) (tCons te t) := by
  intro pos pins s σ H Q I h
  rw [hs]
  show wpAny _ _ (spliced ((false, eval e X.env) :: backTo pos (starEach es X.env))) _ _ s
  refine Calls.spliced_cons (thn (ha pins s σ H _ I h) fun u s1 ⟨x, H1, I1, r1, q1⟩ => ?_)
  exact thn (hr pos pins s1 σ H1 _ I1 q1) fun us s2 ⟨xs, H2, I2, r2, q2⟩ => ⟨x :: xs, H2, I2, .cons r1 r2, q2⟩

/-- a tuple, a list of written items -/
def tTup (t : TA) : TE := fun σ H Q => t σ H fun xs H1 => xs.length ≤ sizeLine ∧ ∀ p, H1 p = none → Q (.ref p) (upd H1 p (.tup xs))
def tLst (t : TA) : TE := fun σ H Q => t σ H fun xs H1 => xs.length ≤ sizeLine ∧ ∀ p, H1 p = none → Q (.ref p) (upd H1 p (.lst xs))
theorem pe_tup {x1} (h : PA X es t) : PE X (.Tuple es x1 pos) (tTup t) := by
  intro pins s σ H Q I hq
  refine wpAny_Tuple_spliced (thn (h pos pins s σ H _ I hq) fun us s1 ⟨xs, H1, I1, r, z, q⟩ => ⟨by rw [← r.length]; exact z, ?_⟩)
  have hf : H1 s1.heap.objs.size = none := I1.hok.fresh (Nat.le_refl _)
  refine ⟨.ref s1.heap.objs.size, upd H1 s1.heap.objs.size (.tup xs), I1.laid (t' := s1.toks) (fun b u e => Heap.get?_push_of_some _ e) (Nat.le_refl _) ?_, rfl, q _ hf⟩
  exact ⟨z, us, r, ⟨_, Heap.get?_push_size _ rfl, rfl, _, rfl⟩⟩
theorem pe_lst (h : PA X es t) : PE X (.List es pos) (tLst t) := by
  intro pins s σ H Q I hq
  refine wpAny_List_spliced (thn (h pos pins s σ H _ I hq) fun us s1 ⟨xs, H1, I1, r, z, q⟩ => ⟨by rw [← r.length]; exact z, ?_⟩)
  have hf : H1 s1.heap.objs.size = none := I1.hok.fresh (Nat.le_refl _)
  refine ⟨.ref s1.heap.objs.size, upd H1 s1.heap.objs.size (.lst xs), I1.laid (t' := s1.toks) (fun b u e => Heap.get?_push_of_some _ e) (Nat.le_refl _) ?_, rfl, q _ hf⟩
  exact ⟨z, us, 0, r, Heap.get?_push_size _ rfl⟩
end

/-- a def's promise: the bound arguments in the parameters' order, the heap, the wanted end, the wanted exception -/
abbrev Sp := List V → Hp → VK → XK → Prop
/-- how an exception lies behind a call (file 08 gives it): the callers' frames, abstract heap and state ahead of the call, the wish, the exception, the state -/
abbrev CXT := List Env → Hp → Shared → XK → Value → Shared → Prop

/-- the state at a call -/
structure Env0 (P : Program) (w : World) (K : PySem.W.Frag) (mg : Str → Option Value) (base : Heap) (A : Around) (outer : List Env) (s : Shared) (H : Hp) : Prop where
  frames : A.frames = some outer
  mod : Mod K mg base
  bs : ∀ b o, base.get? b = some o → s.heap.get? b = some o ∧ H b = none
  bsz : base.objs.size ≤ s.heap.objs.size
  funs : s.heap.FunFrames base outer
  frf : ∀ b ∈ frs outer, H b = none
  hok : HOk P w H s.heap
  bare : AllBare s.gens
/-- a call's end -/
def CE (outer : List Env) (P : Program) (w : World) (H : Hp) (s : Shared) (Q : VK) (u : Value) (s' : Shared) : Prop :=
  ∃ v H', s'.os = s.os ∧ AllBare s'.gens ∧ Un (frs outer) [] H H' s.heap s'.heap ∧ HOk P w H' s'.heap ∧ RelV v u ∧ Q v H'
def CR (CX : CXT) (outer : List Env) (P : Program) (w : World) (H : Hp) (s : Shared) (Q : VK) (E : XK) (r : Result) (s' : Shared) : Prop :=
  match r with
  | .ok (.ret u) => CE outer P w H s Q u s'
  | .ok _ => False
  | .error e => CX outer H s E e s'
structure FnOk (P : Program) (w : World) (K : PySem.W.Frag) (mg : Str → Option Value) (base : Heap) (CX : CXT) (k : Nat) (f : Addr) (fd : FuncData) (ps : List Str) (sp : Sp) : Prop where
  len : ∀ vs H Q E, sp vs H Q E → vs.length = ps.length
  run : ∀ (A : Around) (outer : List Env) (s : Shared) (H : Hp) (args : Args) (us : List Value) (vs : List V) (Q : VK) (E : XK), Room k A → Env0 P w K mg base A outer s H → BindsTo s fd args (ps.zip us) → Vals vs us → sp vs H Q E →
    codeAny (model P w) A (.call (.ref f) args) (CR CX outer P w H s Q E) s
theorem FnOk.mono {P : Program} {w : World} {K : PySem.W.Frag} {mg : Str → Option Value} {base : Heap} {CX : CXT} {j k : Nat} {f : Addr} {fd : FuncData} {ps : List Str} {sp : Sp} (F : FnOk P w K mg base CX j f fd ps sp) (h : j ≤ k) :
    FnOk P w K mg base CX k f fd ps sp := ⟨F.len, fun A outer s H args us vs Q E hr => F.run A outer s H args us vs Q E (hr.mono h)⟩
theorem Env0.make {P : Program} {w : World} {K : PySem.W.Frag} {mg : Str → Option Value} {base : Heap} {A : Around} {outer : List Env} {s : Shared} {H : Hp} (e : Env0 P w K mg base A outer s H) (C : Addr) (us : List Value) (kw : List (Str × Value)) :
    Env0 P w K mg base (A.under (.builtin "type.__call__" ⟨.ref C :: us, kw⟩)) outer s H := ⟨by first | exact e.frames | (simpa [Around.under, Code.envs, Code.isFrame, pushEnvs] using e.frames), e.mod, e.bs, e.bsz, e.funs, e.frf, e.hok, e.bare⟩
theorem Env0.in1 {P : Program} {w : World} {K : PySem.W.Frag} {mg : Str → Option Value} {base : Heap} {A : Around} {outer : List Env} {s : Shared} {H : Hp} (e : Env0 P w K mg base A outer s H) :
    Env0 P w K mg base A.in1 outer s H := ⟨e.frames, e.mod, e.bs, e.bsz, e.funs, e.frf, e.hok, e.bare⟩

section
variable {X : Cx} {pins : List (Addr × Obj)} {σ : St} {H : Hp} {s s' : Shared}
/-- from a body: what a callee wants -/
theorem Inv.env0 (I : Inv X pins σ H s) : Env0 X.prog X.w X.K X.mg X.base X.A X.stack s H :=
  ⟨I.ok.frames, I.ok.mod, I.bs, Nat.le_trans I.ok.bsz I.sz, I.stack, I.stkFree, I.hok, I.bare⟩
/-- behind a call -/
theorem Inv.after {Q : VK} {u : Value} (I : Inv X pins σ H s) (h : CE X.stack X.prog X.w H s Q u s') : EP X pins σ Q u s' := by
  obtain ⟨v, H', os, bare, un, hok, r, q⟩ := h
  obtain ⟨hh, g, d, t, os'⟩ := s'
  obtain rfl : os' = s.os := os
  exact ⟨v, H', I.call (h' := hh) (g' := g) (d' := d) (t' := t) (ch := []) un hok bare (fun b z => absurd z (by simp)), r, q⟩
end

/-- f(..): the written arguments, then the defaults dvs; E: what is wanted of an exception -/
def tCall (sp : Sp) (dvs : List V) (E : XK) (t : TA) : TE := fun σ H Q => t σ H fun vs H1 => sp (vs ++ dvs) H1 Q E
/-- C(..): a new instance and its dict, then __init__ -/
def tMake (C : Addr) (sp : Sp) (dvs : List V) (E : XK) (t : TA) : TE := fun σ H Q => t σ H fun vs H1 => ∀ x dx, H1 x = none → H1 dx = none → dx ≠ x →
  sp (.ref x :: (vs ++ dvs)) (upd (upd H1 dx (.own x)) x (.ins C dx [])) (fun v H2 => v = .non ∧ Q (.ref x) H2) E

/-- how the parameters are bound: us the positional arguments, kw the keywords' values by name, ds the defaults that fill up -/
def Binds (K : PySem.W.Frag) (fd : FuncData) (ps : List Str) (ds : List Value) : Prop :=
  ∀ (s : Shared) (us : List Value), K.In s.heap → (us ++ ds).length = ps.length → BindsTo s fd ⟨us, []⟩ (ps.zip (us ++ ds))
/-- every parameter is given -/
theorem Binds.all {K : PySem.W.Frag} {fd : FuncData} {ps : List Str} (h : ∀ us : List Value, us.length = ps.length → bindArgs fd ⟨us, []⟩ = pure (ps.zip us)) : Binds K fd ps [] := fun s us _ hl => by
  rw [List.append_nil] at hl ⊢
  exact .of_eq (h us hl)

/-- an exception of a callee reaches what this body wants of exceptions -/
def Passes (CX : CXT) (X : Cx) (E : XK) : Prop := ∀ (pins : List (Addr × Obj)) (σ : St) (H : Hp) (s : Shared) (e : Value) (s' : Shared), Inv X pins σ H s → CX X.stack H s E e s' → X.xe e s'

section
variable {X : Cx} {CX : CXT} {k : Nat} {f C : Addr} {fd : FuncData} {ps : List Str} {sp : Sp} {dvs : List V} {ds : List Value} {E : XK} {x m : Str} {p pos apos : Pos} {e o : Expr} {es : List Expr} {ta : TE} {t : TA}

/-- the callee runs -/
theorem run_fn {pins : List (Addr × Obj)} {σ : St} {H : Hp} {s : Shared} {Q : VK} {us : List Value} {vs : List V} (F : FnOk X.prog X.w X.K X.mg X.base CX k f fd ps sp) (hr : Room k X.A) (hb : Binds X.K fd ps ds) (hd : Vals dvs ds) (hx : Passes CX X E)
    (I : Inv X pins σ H s) (r : Vals vs us) (h : sp (vs ++ dvs) H Q E) : wpAny (model X.prog X.w) X.A (call (.ref f) us) (EP X pins σ Q) X.xe s := by
  have r2 : Vals (vs ++ dvs) (us ++ ds) := r.append hd
  have hl : (us ++ ds).length = ps.length := by rw [← r2.length]; exact F.len _ _ _ _ h
  refine wpAny_call (codeAny_mono (F.run X.A X.stack s H ⟨us, []⟩ (us ++ ds) (vs ++ dvs) Q E hr I.env0 (hb s us I.kIn hl) r2 h) fun r s' hq => ?_)
  cases r with
  | error e => exact hx pins σ H s e s' I hq
  | ok fl =>
    cases fl with
    | ret u => exact I.after hq
    | next => exact False.elim hq
    | brk => exact False.elim hq
    | cont => exact False.elim hq

theorem pe_call (F : FnOk X.prog X.w X.K X.mg X.base CX k f fd ps sp) (hr : Room k X.A) (hg : Gl X x) (hm : X.mg x = some (.ref f)) (hk : PySem.W.keepIn X.K (.ref f) = true) (hb : Binds X.K fd ps ds) (hd : Vals dvs ds) (hx : Passes CX X E)
    (ha : PA X (e :: es) t) (hdb : (x == ("__debug__" : Str)) = false := by decide) (he : starEach (e :: es) X.env = (false, eval e X.env) :: starEach es X.env := by rfl) (hpl : (backTo pos (starEach es X.env)).any (·.1) = false := by rfl) :
    PE X (.Call (.Name x p) (e :: es) [] pos) (tCall sp dvs E t) := by
  intro pins s σ H Q I h
  refine wpAny_Call_Name_kw (ld_glob I hg hm ?_ hdb)
  refine PySem.W.callWith_K (h₀ := X.base) I.ok.mod.kin hk (thn (ha pos pins s σ H _ I h) fun us s1 ⟨vs, H1, I1, r, q⟩ => ⟨I1.kIn, ?_⟩) he hpl
  exact run_fn F hr hb hd hx I1 r q
/-- what a class must have to be made -/
structure Mk (K : PySem.W.Frag) (C f : Addr) : Prop where
  makes : PySem.W.makesIn K C = true
  init : PySem.W.findIn K (.ref C) "__init__" = some (some (.ref f))
  fn : PySem.W.isFn K (.ref f) = true
  kp : PySem.W.keepIn K (.ref C) = true

theorem run_make {pins : List (Addr × Obj)} {σ : St} {H : Hp} {s : Shared} {Q : VK} {us : List Value} {vs : List V} (M : Mk X.K C f) (F : FnOk X.prog X.w X.K X.mg X.base CX k f fd ps sp) (hr : Room (k + 1) X.A) (hb : Binds X.K fd ps ds) (hd : Vals dvs ds)
    (hx : Passes CX X E) (I : Inv X pins σ H s) (r : Vals vs us)
    (h : ∀ x dx, H x = none → H dx = none → dx ≠ x → sp (.ref x :: (vs ++ dvs)) (upd (upd H dx (.own x)) x (.ins C dx [])) (fun v H2 => v = .non ∧ Q (.ref x) H2) E) :
    wpAny (model X.prog X.w) X.A (call (.ref C) us) (EP X pins σ Q) X.xe s := by
  have hq := h (s.heap.objs.size + 1) s.heap.objs.size (I.hok.fresh (Nat.le_succ _)) (I.hok.fresh (Nat.le_refl _)) (Nat.ne_of_lt (Nat.lt_succ_self _))
  have I2 := Inv.made (C := C) I
  have r2 : Vals (V.ref (s.heap.objs.size + 1) :: (vs ++ dvs)) (Value.ref (s.heap.objs.size + 1) :: (us ++ ds)) := .cons rfl (r.append hd)
  have hl : (Value.ref (s.heap.objs.size + 1) :: us ++ ds).length = ps.length := by
    have e := r2.length
    rw [F.len _ _ _ _ hq] at e
    exact e.symm
  refine wpAny_call (make_map (f := f) I.kIn M.makes M.init (beq_iff_eq.mp M.fn) (codeAny_mono (F.run _ X.stack _ _ ⟨Value.ref (s.heap.objs.size + 1) :: us, []⟩ (Value.ref (s.heap.objs.size + 1) :: (us ++ ds)) _ _ E (hr.make C us [])
    (I2.env0.make C us []) (hb _ (Value.ref (s.heap.objs.size + 1) :: us) I2.kIn hl) r2 hq) fun r s' hq' => ?_))
  cases r with
  | error e => exact hx pins σ _ _ e s' I2 hq'
  | ok fl =>
    cases fl with
    | ret u =>
      obtain ⟨v, H', I3, rv, ev, q3⟩ := I2.after hq'
      subst ev
      exact ⟨rv, ⟨V.ref (s.heap.objs.size + 1), H', I3, rfl, q3⟩⟩
    | next => exact False.elim hq'
    | brk => exact False.elim hq'
    | cont => exact False.elim hq'
theorem pe_make (M : Mk X.K C f) (F : FnOk X.prog X.w X.K X.mg X.base CX k f fd ps sp) (hr : Room (k + 1) X.A) (hg : Gl X x) (hm : X.mg x = some (.ref C)) (hb : Binds X.K fd ps ds) (hd : Vals dvs ds) (hx : Passes CX X E)
    (ha : PA X (e :: es) t) (hdb : (x == ("__debug__" : Str)) = false := by decide) (he : starEach (e :: es) X.env = (false, eval e X.env) :: starEach es X.env := by rfl) (hpl : (backTo pos (starEach es X.env)).any (·.1) = false := by rfl) :
    PE X (.Call (.Name x p) (e :: es) [] pos) (tMake C sp dvs E t) := by
  intro pins s σ H Q I h
  refine wpAny_Call_Name_kw (ld_glob I hg hm ?_ hdb)
  refine PySem.W.callWith_K (h₀ := X.base) I.ok.mod.kin M.kp (thn (ha pos pins s σ H _ I h) fun us s1 ⟨vs, H1, I1, r, q⟩ => ⟨I1.kIn, ?_⟩) he hpl
  exact run_make M F hr hb hd hx I1 r q
end

section
variable {X : Cx} {CX : CXT} {k : Nat} {f C : Addr} {fd : FuncData} {ps ks : List Str} {sp : Sp} {E : XK} {x m : Str} {p pos apos kpos : Pos} {e o : Expr} {es : List Expr} {kws : List Keyword} {te ta : TE} {t tk : TA} {nm : Option Str}
/-- how a call with keywords binds: g puts the positional values us and the keywords' values ws (names ks) in the parameters' order, defaults among them -/
structure KBinds (K : PySem.W.Frag) (fd : FuncData) (ps ks : List Str) (g : List Value → List Value → List Value) (gV : List V → List V → List V) : Prop where
  to : ∀ (s : Shared) (us ws : List Value), K.In s.heap → (g us ws).length = ps.length → BindsTo s fd ⟨us, ks.zip ws⟩ (ps.zip (g us ws))
  rel : ∀ {vs : List V} {us : List Value} {zs : List V} {ws : List Value}, Vals vs us → Vals zs ws → Vals (gV vs zs) (g us ws)
variable {g : List Value → List Value → List Value} {gV : List V → List V → List V}
end

/-- names: the parameters first -/
structure FnScope (N P : List Str) (sc : Scope) : Prop where
  kind : sc.kind = .function
  co : sc.isCoroutine = false
  gen : sc.isGenerator = false
  nd : N.Nodup
  pre : N.take P.length = P
  par : ∀ x ∈ P, sc.names.lookup x = some .local ∨ sc.names.lookup x = some .cell
  nofree : ∀ y ∈ sc.names, y.2 ≠ .free

theorem bindL_out {kindOf : Str → Option NameKind} {x : Str} : ∀ {binds : List (Str × Value)} {m : Str → Option Value}, (∀ v, (x, v) ∉ binds) → bindL kindOf binds m x = m x
  | [], _, _ => rfl
  | (n, v) :: r, m, h => by
    unfold bindL
    rw [bindL_out fun w hw => h w (List.mem_cons_of_mem _ hw)]
    split
    · have : x ≠ n := by rintro rfl; exact h v List.mem_cons_self
      simp [this]
    · rfl
theorem bindC_out {kindOf : Str → Option NameKind} {x : Str} : ∀ {binds : List (Str × Value)} {m : Str → Option Value}, (∀ v, (x, v) ∉ binds) → bindC kindOf binds m x = m x
  | [], _, _ => rfl
  | (n, v) :: r, m, h => by
    unfold bindC
    rw [bindC_out fun w hw => h w (List.mem_cons_of_mem _ hw)]
    split
    · rfl
    · have : x ≠ n := by rintro rfl; exact h v List.mem_cons_self
      simp [this]
theorem bindL_get {kindOf : Str → Option NameKind} {x : Str} {v : Value} : ∀ {P : List Str} {vs : List Value} {i : Nat} {m : Str → Option Value}, P.Nodup → P[i]? = some x → vs[i]? = some v → kindOf x = some .local →
    bindL kindOf (P.zip vs) m x = some v
  | [], _, _, _, _, h, _, _ => by simp at h
  | _ :: _, [], _, _, _, _, h, _ => by simp at h
  | p :: P, w :: vs, 0, m, nd, h1, h2, hk => by
    simp at h1 h2; subst h1; subst h2
    show bindL kindOf ((p, w) :: P.zip vs) m p = _
    unfold bindL
    rw [bindL_out fun v hv => (List.nodup_cons.mp nd).1 (List.of_mem_zip hv).1, if_pos hk]
    simp
  | p :: P, w :: vs, i + 1, m, nd, h1, h2, hk => by
    show bindL kindOf ((p, w) :: P.zip vs) m x = _
    unfold bindL
    exact bindL_get (i := i) (List.nodup_cons.mp nd).2 (by simpa using h1) (by simpa using h2) hk
theorem bindC_get {kindOf : Str → Option NameKind} {x : Str} {v : Value} : ∀ {P : List Str} {vs : List Value} {i : Nat} {m : Str → Option Value}, P.Nodup → P[i]? = some x → vs[i]? = some v → kindOf x ≠ some .local →
    bindC kindOf (P.zip vs) m x = some v
  | [], _, _, _, _, h, _, _ => by simp at h
  | _ :: _, [], _, _, _, _, h, _ => by simp at h
  | p :: P, w :: vs, 0, m, nd, h1, h2, hk => by
    simp at h1 h2; subst h1; subst h2
    show bindC kindOf ((p, w) :: P.zip vs) m p = _
    unfold bindC
    rw [bindC_out fun v hv => (List.nodup_cons.mp nd).1 (List.of_mem_zip hv).1, if_neg hk]
    simp
  | p :: P, w :: vs, i + 1, m, nd, h1, h2, hk => by
    show bindC kindOf ((p, w) :: P.zip vs) m x = _
    unfold bindC
    exact bindC_get (i := i) (List.nodup_cons.mp nd).2 (by simpa using h1) (by simpa using h2) hk

/-- the names' values at the entry -/
def start (N : List Str) (vs : List V) : St := vs.map some ++ List.replicate (N.length - vs.length) none

/-- the context of a def's body, at its entry; an exception leaves the frame, then lies as CX says -/
def cxOf (CX : CXT) (P : Program) (w : World) (K : PySem.W.Frag) (mg : Str → Option Value) (base : Heap) (N : List Str) (qual : Str) (scope : Scope) (f : Addr) (cd : Value) (A : Around) (outer : List Env) (s : Shared) (H : Hp) (E : XK) : Cx where
  prog := P
  w := w
  K := K
  mg := mg
  base := base
  A := A.deeper (envOfC qual scope s.heap.objs.size f cd)
  N := N
  s₀ := s
  H₀ := H
  env := envOfC qual scope s.heap.objs.size f cd
  outer := outer
  stack := envOfC qual scope s.heap.objs.size f cd :: outer
  ex := []
  calm := true
  fn := fun _ => true
  pn := []
  xe := fun e s' => wpAny (model P w) (A.deeper (envOfC qual scope s.heap.objs.size f cd)) (leaving (envOfC qual scope s.heap.objs.size f cd) e) (fun _ s'' => CX outer H s E e s'') (fun e' s'' => CX outer H s E e' s'') s'

theorem cell_has {sc : Scope} {n : Nat} {x : Str} (h : sc.names.lookup x = some .cell) : ∃ c, (cellsFrom n sc.names []).lookup x = some c := by
  have q := PySem.W.cellsFrom_some sc.names n [] (.inl h)
  exact Option.isSome_iff_exists.mp q

theorem inv_start {CX : CXT} {P : Program} {w : World} {K : PySem.W.Frag} {mg : Str → Option Value} {base : Heap} {N ps : List Str} {qual : Str} {scope : Scope} {f : Addr} {cd : Value} {A : Around} {outer : List Env} {s s1 : Shared} {H : Hp} {E : XK} {us : List Value} {vs : List V}
    (S : FnScope N ps scope) (hd : A.handled = none) (e0 : Env0 P w K mg base A outer s H) (hl : vs.length = ps.length) (r : Vals vs us)
    (x : InCallC s s.heap.objs.size (bindL (envOfC qual scope s.heap.objs.size f cd).kindOf (ps.zip us) fun _ => none) (cellsFrom (s.heap.objs.size + 1) scope.names []) (bindC (envOfC qual scope s.heap.objs.size f cd).kindOf (ps.zip us) fun _ => none) s1) :
    Inv (cxOf CX P w K mg base N qual scope f cd A outer s H E) [] (start N vs) H s1 := by
  have hpl : ps.length ≤ N.length := by have := congrArg List.length S.pre; rw [List.length_take] at this; omega
  obtain ⟨h1, tk, rfl, hk⟩ := x.done
  have noA : ∀ b : Addr, b ∉ (cxOf CX P w K mg base N qual scope f cd A outer s H E).ex := fun b z => absurd (show b ∈ ([] : List Addr) from z) (by simp)
  refine ⟨⟨e0.mod, S.kind, rfl, rfl, Nat.le_refl _, fun y z c h1 h2 => ?_, fun y hy => ?_, fun y c _ h => ?_, fun _ => hd, Around.frames_deeper e0.frames, .inr ⟨rfl, rfl⟩, fun b z => absurd z (noA b), e0.bs, e0.bsz, fun b _ _ => noA b, fun b z => absurd z (noA b), e0.funs, e0.frf⟩,
    rfl, e0.bare, Un.kept hk, ⟨_, x.toInCall.ns, fun i y v h1 h2 h3 => ?_⟩, fun y c h => ⟨_, x.cell y c h⟩, e0.hok.fresh (Nat.le_refl _), fun y c h => ?_, fun p hp => absurd (show p ∈ ([] : List (Addr × Obj)) from hp) (by simp), e0.hok.kept hk, ?_⟩
  · exact name_of_addr x.apart (PySem.mem_of_lookup h1) (PySem.mem_of_lookup h2)
  · have hy : scope.names.lookup y = some .cell ∨ scope.names.lookup y = some .free := hy
    rcases hy with hy | hy
    · exact cell_has hy
    · exact absurd rfl (S.nofree _ (PySem.mem_of_lookup hy))
  · exact Nat.le_of_lt (x.above y c (PySem.mem_of_lookup h))
  · have hi : i < vs.length := by
      unfold start at h2
      by_cases hi : i < vs.length
      · exact hi
      · rw [List.getElem?_append_right (by simpa using hi)] at h2
        rw [List.getElem?_replicate] at h2
        split at h2 <;> cases h2
    have ha : vs[i]? = some v := by
      unfold start at h2
      rw [List.getElem?_append_left (by simpa using hi), List.getElem?_map] at h2
      cases e : vs[i]? with
      | none => rw [e] at h2; cases h2
      | some a => rw [e] at h2; cases h2; rfl
    obtain ⟨u, hu, rv⟩ := r.get ha
    have hp : ps[i]? = some y := by
      rw [← S.pre, List.getElem?_take_of_lt (by omega)]; exact h1
    have ndP : ps.Nodup := by rw [← S.pre]; exact S.nd.sublist (List.take_sublist _ _)
    refine ⟨u, rv, ?_⟩
    rcases S.par y (List.mem_of_getElem? hp) with k | k
    · exact .inl ⟨k, bindL_get ndP hp hu k⟩
    · obtain ⟨c, e⟩ := cell_has (n := s.heap.objs.size + 1) k
      refine .inr ⟨.inl k, c, e, ?_⟩
      have q := x.cell y c e
      rw [bindC_get ndP hp hu (by show scope.names.lookup y ≠ _; rw [k]; decide)] at q
      exact q
  · exact e0.hok.fresh (Nat.le_of_lt (x.above y c (PySem.mem_of_lookup h)))
  · unfold start
    show _ = N.length
    rw [List.length_append, List.length_map, List.length_replicate]
    omega

/-- THE RULE: a def (or a method) of the text, by its body. The body's reading t is chosen for each entry; it is run at the parameters' values -/
theorem fn_of {CX : CXT} {P : Program} {w : World} {K : PySem.W.Frag} {mg : Str → Option Value} {base : Heap} {k : Nat} {f : Addr} {name qual : Str} {params : Arguments} {body : List Stmt} {scope : Scope} {dV kV doc pm cdv ct oc : Value} {an od : Option Addr}
    {osl : Array (Option Value)} {N ps : List Str} {sp : Sp} (lk : K.lookup f = some ⟨oc, od, .func (PySem.W.fnOf name qual params body scope dV kV doc pm an cdv ct), osl⟩) (hcd : PySem.W.codeIn K cdv qual = true) (S : FnScope N ps scope)
    (len : ∀ vs H Q E, sp vs H Q E → vs.length = ps.length)
    (hbody : ∀ (A : Around) (outer : List Env) (s : Shared) (H : Hp) (vs : List V) (Q : VK) (E : XK), Room k (A.deeper (envOfC qual scope s.heap.objs.size f cdv)) → sp vs H Q E →
      ∃ t, PSs (cxOf CX P w K mg base N qual scope f cdv A outer s H E) body t ∧ t { nx := fun _ H' => Q .non H', rt := Q } (start N vs) H) :
    FnOk P w K mg base CX (k + 1) f (PySem.W.fnOf name qual params body scope dV kV doc pm an cdv ct) ps sp := by
  refine ⟨len, fun A outer s H args us vs Q E hr e0 hb r hsp => ?_⟩
  have hl := len _ _ _ _ hsp
  have KX : K.In s.heap := e0.mod.kin.keeps fun b o e => (e0.bs b o e).1
  have lim : s.heap.NoLimit := e0.mod.nolimit.keeps fun b o e => (e0.bs b o e).1
  have hkind : ∀ y ∈ ps.zip us, scope.names.lookup y.1 = some .local ∨ (scope.names.lookup y.1 = some .cell ∧ ((cellsFrom (s.heap.objs.size + 1) scope.names []).lookup y.1).isSome = true) := fun ⟨n, v⟩ hy => by
    rcases S.par n (List.of_mem_zip hy).1 with q | q
    · exact .inl q
    · exact .inr ⟨q, PySem.W.cellsFrom_some _ _ _ (.inl q)⟩
  refine codeAny_call_function hr.depth (KX _ _ lk) rfl S.co S.gen rfl (PySem.W.codeRec_of KX hcd) (hb _ _ _ _ ?_)
  refine wpAny_newFunctionEnv_cells S.kind hkind fun env he s1 x => ?_
  subst he
  refine ⟨lim.keeps x.toInCall.keep, codeAny_func ?_⟩
  obtain ⟨t, ht, hq⟩ := hbody A outer s H vs Q E (hr.deeper _) hsp
  have I : Inv (cxOf CX P w K mg base N qual scope f cdv A outer s H E) [] (start N vs) H s1 := inv_start S hr.hd e0 hl r x
  refine wpAny_mono (ht [] s1 (start N vs) H _ I hq) (fun fl s' hs => ?_) fun e s' hs => hs
  have fin : ∀ {σ' : St} {H' : Hp} {v : V} {u : Value}, Inv (cxOf CX P w K mg base N qual scope f cdv A outer s H E) [] σ' H' s' → RelV v u → Q v H' → CE outer P w H s Q u s' :=
    fun {σ' H' v u} J rv q => ⟨v, H', J.os, J.bare, J.base, J.hok, rv, q⟩
  cases fl with
  | ret u =>
    obtain ⟨v, σ', H', J, rv, q⟩ := hs
    exact fin J rv q
  | next =>
    obtain ⟨σ', H', J, q⟩ := hs
    exact fin (v := V.non) (u := Value.none) J rfl q
  | brk =>
    obtain ⟨_, _, _, q⟩ := hs
    exact False.elim q
  | cont =>
    obtain ⟨_, _, _, q⟩ := hs
    exact False.elim q
end L2

namespace L2
open PySem PySem.Spec PyProof.Rows
section
variable {X : Cx} {x : Str} {p pos : Pos} {e : Expr} {es : List Expr} {t : TA} {id T : String} {r : List V → Hp → VK → Prop}

def tCB (r : List V → Hp → VK → Prop) (t : TA) : TE := fun σ H Q => t σ H fun vs H1 => r vs H1 Q
/-- f(e, ..), f a built-in function -/
theorem pe_callB (hc : CallR X (.builtin id) r) (hg : Gl X x) (hm : X.mg x = none) (hv : bootBuiltins x = some (.builtin id)) (ha : PA X (e :: es) t) (hn : x ≠ "__name__" := by decide) (hdb : (x == ("__debug__" : Str)) = false := by decide)
    (he : starEach (e :: es) X.env = (false, eval e X.env) :: starEach es X.env := by rfl) (hpl : (backTo pos (starEach es X.env)).any (·.1) = false := by rfl) : PE X (.Call (.Name x p) (e :: es) [] pos) (tCB r t) := by
  intro pins s σ H Q I h
  refine wpAny_Call_Name_kw (ld_blt I hg hm hv ?_ hn hdb)
  exact PyProof.Rows.callWith_builtin1 (thn (ha pos pins s σ H _ I h) fun us s1 ⟨vs, H1, I1, r1, q1⟩ => hc pins s1 σ H1 vs us Q I1 r1 q1) he hpl
/-- T(e, ..), T a built-in type -/
theorem pe_callTy (hc : CallR X (.type T) r) (hg : Gl X x) (hm : X.mg x = none) (hv : bootBuiltins x = some (.type T)) (ha : PA X (e :: es) t) (hn : x ≠ "__name__" := by decide) (hdb : (x == ("__debug__" : Str)) = false := by decide)
    (he : starEach (e :: es) X.env = (false, eval e X.env) :: starEach es X.env := by rfl) (hpl : (backTo pos (starEach es X.env)).any (·.1) = false := by rfl) : PE X (.Call (.Name x p) (e :: es) [] pos) (tCB r t) := by
  intro pins s σ H Q I h
  refine wpAny_Call_Name_kw (ld_blt I hg hm hv ?_ hn hdb)
  exact PyProof.Rows.callWith_type1 (thn (ha pos pins s σ H _ I h) fun us s1 ⟨vs, H1, I1, r1, q1⟩ => hc pins s1 σ H1 vs us Q I1 r1 q1) he hpl
end
end L2

namespace HT
open PySem PyProof.Rows

section
open PySem.SeqAt
open PySem.AutoSeq1 (wpAny_loadPart')
open PySem.MeetsSeq PySem.MeetsSeq2 PySem.MeetsSeq3

end

section
variable {prog : Program} {w : World} {A : Around} {E : Value → Shared → Prop} {s : Shared}

/-- a slice's bound as a place among n (d where it is left out) -/
def sIx (n d : Nat) : Option Int → Nat
  | none => d
  | some v => if v < 0 then (v + (n : Int)).toNat else min v.toNat n
end
end HT

namespace L2
open PySem PySem.Spec PyProof.Rows

abbrev TO := St → Hp → (Option Int → Hp → Prop) → Prop
/-- a slice's part (left out, or an int) -/
def PO (X : Cx) (e : Option Expr) (t : TO) : Prop :=
  ∀ (pins : List (Addr × Obj)) (s : Shared) (σ : St) (H : Hp) (Q : Option Int → Hp → Prop), Inv X pins σ H s → t σ H Q →
    wpAny (model X.prog X.w) X.A (evalPart e X.env) (fun u s' => ∃ o H', Inv X pins σ H' s' ∧ IsPart u o ∧ Q o H') X.xe s
def tNoPart : TO := fun _ H Q => Q none H
def tPart (t : TE) : TO := fun σ H Q => t σ H fun x H1 => ∃ i, x = .int i ∧ Q (some i) H1

theorem intsAre_of {ns : List Int} : ∀ {us : List Value}, Vals (ns.map V.int) us → IntsAre us ns := by
  induction ns with
  | nil => intro us r; rw [List.map_nil] at r; cases r; exact .nil
  | cons n ns ih =>
    intro us r
    rw [List.map_cons] at r
    cases r with
    | cons r1 r2 =>
      obtain ⟨t, e⟩ := r1
      subst e
      exact .cons n t (ih r2)

section
variable {X : Cx} {e : Expr} {te : TE} {lo hi : Option Expr} {tl th : TO} {pos p2 : Pos}

theorem po_some (h : PE X e te) : PO X (some e) (tPart te) := by
  intro pins s σ H Q I hw
  rw [evalPart_some]
  refine thn (h pins s σ H _ I hw) fun u s1 ⟨x, H1, I1, r1, q1⟩ => ?_
  obtain ⟨i, rfl, q⟩ := q1
  obtain ⟨t, rfl⟩ := r1
  exact ⟨some i, H1, I1, .int i t, q⟩

/-- what a slice of a value is, by values: the slice object stands at sl -/
def SlR (X : Cx) (r : V → Option Int → Option Int → Hp → VK → Prop) : Prop :=
  ∀ (pins : List (Addr × Obj)) (s : Shared) (σ : St) (H : Hp) (x : V) (v vl vu : Value) (lo hi : Option Int) (sl : Addr) (Q : VK), Inv X pins σ H s → RelV x v → s.heap.IsSliceOf sl vl vu .none → IsPart vl lo → IsPart vu hi → r x lo hi H Q →
    ∃ T id, typeLookup (.type T) "__getitem__" = pure (some (.builtin id)) ∧ s.TypeIs v T ∧ wpAny (model X.prog X.w) X.A (getItem v (.ref sl)) (EP X pins σ Q) X.xe s
def tSl (r : V → Option Int → Option Int → Hp → VK → Prop) (te : TE) (tl th : TO) : TE := fun σ H Q => te σ H fun x H1 => tl σ H1 fun l H2 => th σ H2 fun u H3 => r x l u H3 Q
/-- a[lo:hi], any a -/
theorem pe_slice {r : V → Option Int → Option Int → Hp → VK → Prop} (hr : SlR X r) (he : PE X e te) (hl : PO X lo tl) (hu : PO X hi th) : PE X (.Subscript e (.Slice lo hi none p2) pos) (tSl r te tl th) := by
  intro pins s σ H Q I h
  refine Subscript_ (thn (he pins s σ H _ I h) fun v s1 ⟨x, H1, I1, r1, q1⟩ => ?_)
  refine wpAny_Slice (thn (hl pins s1 σ H1 _ I1 q1) fun vl s2 ⟨l, H2, I2, pl, q2⟩ => thn (hu pins s2 σ H2 _ I2 q2) fun vu s3 ⟨u, H3, I3, pu, q3⟩ => ?_)
  rw [evalPart_none]
  refine wpAny_pure ?_
  have I4 : Inv X pins σ H3 { s3 with heap := s3.heap.push { cls := .type "slice", data := .fields #[vl, vu, .none] } } := I3.kept (t' := s3.toks) fun b ob q => Heap.get?_push_of_some _ q
  obtain ⟨T, id, hT, ht, hg⟩ := hr pins { s3 with heap := s3.heap.push { cls := .type "slice", data := .fields #[vl, vu, .none] } } σ H3 x v vl vu l u s3.heap.objs.size Q I4 r1 (Heap.IsSliceOf.new ..) pl pu q3
  show wpAny (model X.prog X.w) X.A (subscriptTail e (.Slice lo hi none p2) v (.ref s3.heap.objs.size)) (EP X pins σ Q) X.xe { s3 with heap := s3.heap.push { cls := .type "slice", data := .fields #[vl, vu, .none] } }
  exact tail_any (ops := [.ref s3.heap.objs.size, v]) ht hT hg (by with_unfolding_all rfl)

/-- the items of xs[lo:hi] -/
def cutV (xs : List V) (lo hi : Option Int) : List V := (xs.drop (HT.sIx xs.length 0 lo)).take (HT.sIx xs.length xs.length hi - HT.sIx xs.length 0 lo)
theorem cutV_length (xs : List V) (lo hi : Option Int) : (cutV xs lo hi).length ≤ xs.length := by
  unfold cutV
  rw [List.length_take, List.length_drop]
  omega
end
end L2

namespace L2
open PySem PySem.Spec PyProof.Rows

/-- the place that an index of any sign means -/
def ixN (n : Nat) (i : Int) : Option Nat := if 0 ≤ i then (if i < n then some i.toNat else none) else if -(n : Int) ≤ i then some (i + n).toNat else none
def atI {α : Type} (xs : List α) (i : Int) : Option α := (ixN xs.length i).bind fun j => xs[j]?
theorem ixN_seq {n : Nat} {i : Int} {j : Nat} (h : ixN n i = some j) : seqIndex? i n = some j ∧ j < n ∧ -(n : Int) ≤ i ∧ i < n := by
  unfold ixN at h
  by_cases h0 : 0 ≤ i
  · rw [if_pos h0] at h
    by_cases h1 : i < n
    · rw [if_pos h1] at h
      have e : i.toNat = j := Option.some.inj h
      exact ⟨by rw [seqIndex_of h0 h1, e], by omega, by omega, h1⟩
    · rw [if_neg h1] at h; cases h
  · rw [if_neg h0] at h
    by_cases h1 : -(n : Int) ≤ i
    · rw [if_pos h1] at h
      have e : (i + n).toNat = j := Option.some.inj h
      exact ⟨by rw [seqIndex_neg (by omega) h1, e], by omega, h1, by omega⟩
    · rw [if_neg h1] at h; cases h
theorem atI_get {α : Type} {xs : List α} {i : Int} {v : α} (h : atI xs i = some v) : ∃ j, seqIndex? i xs.length = some j ∧ xs[j]? = some v ∧ j < xs.length ∧ -(xs.length : Int) ≤ i ∧ i < xs.length := by
  unfold atI at h
  cases e : ixN xs.length i with
  | none => rw [e] at h; cases h
  | some j =>
    rw [e] at h
    obtain ⟨h1, h2, h3, h4⟩ := ixN_seq e
    exact ⟨j, h1, h, h2, h3, h4⟩
theorem atI_nat {α : Type} {xs : List α} {j : Nat} {v : α} (h : xs[j]? = some v) : atI xs (j : Int) = some v := by
  have hj : j < xs.length := (List.getElem?_eq_some_iff.mp h).1
  have e : ixN xs.length (j : Int) = some j := by
    unfold ixN
    rw [if_pos (by omega), if_pos (by omega)]; simp
  unfold atI; rw [e]; exact h
/-- what stands as an index of a plain subscript -/
def PlainIx (b : Expr) : Prop := ∀ o i, subscripted b false o i = operate [o, i] (getItem o i)
/-- a subscript by values -/
def IxR (X : Cx) (r : R2) : Prop :=
  ∀ (value slice : Expr) (pins : List (Addr × Obj)) (s : Shared) (σ : St) (H : Hp) (x y : V) (v u : Value) (Q : VK), Inv X pins σ H s → RelV x v → RelV y u → r x y H Q →
    subscripted slice false v u = operate [v, u] (getItem v u) → wpAny (model X.prog X.w) X.A (subscriptTail value slice v u) (EP X pins σ Q) X.xe s
/-- a call of a builtin's method by values: the receiver, the arguments -/
def MtR (X : Cx) (id : String) (r : V → List V → Hp → VK → Prop) : Prop :=
  ∀ (pins : List (Addr × Obj)) (s : Shared) (σ : St) (H : Hp) (x : V) (xs : List V) (v : Value) (us : List Value) (Q : VK), Inv X pins σ H s → RelV x v → Vals xs us → r x xs H Q →
    wpAny (model X.prog X.w) X.A (call (.builtin id) (v :: us)) (EP X pins σ Q) X.xe s
section
variable {X : Cx} {a b : Expr} {ta tb : TE} {pos : Pos}
/-- a[b] -/
theorem pe_ix {r : R2} (hr : IxR X r) (ha : PE X a ta) (hb : PE X b tb) (hs : PlainIx b) : PE X (.Subscript a b pos) (tOp r ta tb) := by
  intro pins s σ H Q I h
  exact Subscript_ (binT ha hb I h fun v u s2 x y H2 I2 rx ry q => hr a b pins s2 σ H2 x y v u Q I2 rx ry q (hs _ _))

def rIxL (K : PySem.W.Frag) : R2 := fun x y H Q => ∃ p xs i v, x = .ref p ∧ y = .int i ∧ SqL K H p xs ∧ atI xs i = some v ∧ Q v H
def rIxT (K : PySem.W.Frag) : R2 := fun x y H Q => ∃ p xs i v, x = .ref p ∧ y = .int i ∧ SqT K H p xs ∧ atI xs i = some v ∧ Q v H
theorem ix_list : IxR X (rIxL X.K) := by
  intro value slice pins s σ H x y v u Q I rx ry h hs
  obtain ⟨p, xs, i, z, rfl, rfl, hq, he, q⟩ := h
  cases rx
  obtain ⟨t, rfl⟩ := ry
  obtain ⟨its, r, pl, hz⟩ := I.list hq
  obtain ⟨j, h1, h2, h3, h4, h5⟩ := atI_get he
  obtain ⟨w, ew, rw'⟩ := r.get h2
  have hl := r.length
  have hn := line63
  have fin : EP X pins σ Q w s := ⟨z, H, I, rw', q⟩
  by_cases h0 : 0 ≤ i
  · have hj : i.toNat = j := by
      rw [seqIndex_of h0 h5] at h1
      exact Option.some.inj h1
    exact item_listR pl.isList h0 (by omega) (by rw [hj]; simpa using ew) fin hs
  · have hj : (i + (its.toArray.size : Int)).toNat = j := by
      rw [seqIndex_neg (by omega) h4] at h1
      rw [List.size_toArray, ← hl]
      exact Option.some.inj h1
    exact subscriptTail_builtinR (x := w) pl.isList.typeIs slot_list_getitem.lookup
      (wpAny_getItem_list_neg (Q := fun r s' => r = w ∧ EP X pins σ Q r s') pl.isList (by omega) (by rw [List.size_toArray] <;> omega) (by omega) (by rw [hj]; simpa using ew) ⟨rfl, fin⟩) hs
theorem ix_tup : IxR X (rIxT X.K) := by
  intro value slice pins s σ H x y v u Q I rx ry h hs
  obtain ⟨p, xs, i, z, rfl, rfl, hq, he, q⟩ := h
  cases rx
  obtain ⟨t, rfl⟩ := ry
  obtain ⟨its, r, pl, hz⟩ := I.tuple hq
  obtain ⟨j, h1, h2, h3, h4, h5⟩ := atI_get he
  obtain ⟨w, ew, rw'⟩ := r.get h2
  have hl := r.length
  have hn := line63
  have fin : EP X pins σ Q w s := ⟨z, H, I, rw', q⟩
  exact subscriptTail_builtinR (x := w) pl.typeIs slot_tuple_getitem.lookup
    (getItem_tuple (j := j) (Q := fun r s' => r = w ∧ EP X pins σ Q r s') pl (by omega) (by omega) (by rw [List.size_toArray, ← hl]; exact h1) (by simpa using ew) ⟨rfl, fin⟩) hs
/-- the list's object behind a store -/
theorem mapSeq_set (its : List Value) (n j : Nat) (u : Value) : Obj.mapSeq (·.setIfInBounds j u) { cls := .type "list", data := .seq its.toArray n } = { cls := .type "list", data := .seq (its.set j u).toArray n } := by
  simp [Obj.mapSeq]
theorem Inv.lst {pins : List (Addr × Obj)} {σ : St} {H : Hp} {s : Shared} {p : Addr} {xs : List V} (I : Inv X pins σ H s) (h : H p = some (.lst xs)) :
    ∃ (its : List Value) (n : Nat), Vals xs its ∧ s.heap.get? p = some { cls := .type "list", data := .seq its.toArray n } ∧ xs.length ≤ sizeLine := by
  obtain ⟨z, its, n, r, e⟩ := I.hok p _ h
  exact ⟨its, n, r, e, z⟩
/-- the list at p is written by an update of its object -/
theorem Inv.lstUpd {pins : List (Addr × Obj)} {σ : St} {H : Hp} {s : Shared} {p : Addr} {xs ys : List V} {its its' : List Value} {n n' : Nat} {f : Obj → Obj} (I : Inv X pins σ H s) (h : H p = some (.lst xs))
    (ho : s.heap.get? p = some { cls := .type "list", data := .seq its.toArray n }) (hf : f { cls := .type "list", data := .seq its.toArray n } = { cls := .type "list", data := .seq its'.toArray n' }) (r : Vals ys its') (hz : ys.length ≤ sizeLine) (t : Nat) :
    Inv X pins σ (upd H p (.lst ys)) { s with heap := s.heap.update p f, toks := t } := by
  have e : (s.heap.update p f).get? p = some { cls := .type "list", data := .seq its'.toArray n' } := by
    rw [Heap.get?_update_self f ho (by rw [hf] <;> rfl), hf]
  refine I.write (x := p) (e := p) (by rw [h]; trivial) (.inl rfl) (fun b u hb q => (Heap.get?_update_other _ _ (Ne.symm hb)).trans q) ⟨_, e⟩ ?_
  exact ⟨hz, its', n', r, e⟩
def rSetL : V → V → V → Hp → (Hp → Prop) → Prop := fun o i v H Q => ∃ p xs k j, o = .ref p ∧ i = .int k ∧ H p = some (.lst xs) ∧ ixN xs.length k = some j ∧ Q (upd H p (.lst (xs.set j v)))
theorem set_list : PSet X rSetL := by
  intro pins s σ H o i v ov iv u Q I ro ri rv h
  obtain ⟨p, xs, k, j, rfl, rfl, hp, hj, q⟩ := h
  cases ro
  obtain ⟨t, rfl⟩ := ri
  obtain ⟨its, n, r, ho, hz⟩ := I.lst hp
  obtain ⟨h1, h2, h3, h4⟩ := ixN_seq hj
  have hl := r.length
  have hn := line63
  have I' : Inv X pins σ (upd H p (.lst (xs.set j v))) { s with heap := s.heap.update p (Obj.mapSeq (·.setIfInBounds j u)) } :=
    I.lstUpd hp ho (mapSeq_set its n j u) (r.set rv j) (by rw [List.length_set]; exact hz) s.toks
  by_cases h0 : 0 ≤ k
  · have hk : k.toNat = j := by
      rw [seqIndex_of h0 h4] at h1
      exact Option.some.inj h1
    exact PySem.W.ki_setAt ho h0 (by omega) (by rw [List.size_toArray, ← hl]; exact h4) (by rw [hk]; exact ⟨_, I', q⟩)
  · have hk : (k + (its.toArray.size : Int)).toNat = j := by
      rw [seqIndex_neg (by omega) h3] at h1
      rw [List.size_toArray, ← hl]
      exact Option.some.inj h1
    exact PySem.W.ki_setBack ho (by omega) (by rw [List.size_toArray, ← hl]; exact h3) (by omega) (by rw [hk]; exact ⟨_, I', q⟩)

theorem slice_bounds (lo hi : Option Int) (n : Nat) : (sliceBounds lo hi none n).1 = ((HT.sIx n 0 lo : Nat) : Int) ∧ (sliceBounds lo hi none n).2.1 = ((HT.sIx n n hi : Nat) : Int) ∧ (sliceBounds lo hi none n).2.2 = 1 := by
  refine ⟨?_, ?_, rfl⟩
  · cases lo with
    | none => simp [sliceBounds, HT.sIx]
    | some i =>
      simp only [sliceBounds, HT.sIx, Option.getD_none, show (1 : Int) > 0 by decide, if_true]
      by_cases h : i < 0
      · simp only [h, if_true] <;> omega
      · simp only [h, if_false] <;> omega
  · cases hi with
    | none => simp [sliceBounds, HT.sIx]
    | some i =>
      simp only [sliceBounds, HT.sIx, Option.getD_none, show (1 : Int) > 0 by decide, if_true]
      by_cases h : i < 0
      · simp only [h, if_true] <;> omega
      · simp only [h, if_false] <;> omega
theorem slicePick_cut (its : List Value) (lo hi : Option Int) : slicePick its.toArray lo hi none = ((its.drop (HT.sIx its.length 0 lo)).take (HT.sIx its.length its.length hi - HT.sIx its.length 0 lo)).toArray := by
  obtain ⟨h1, h2, h3⟩ := slice_bounds lo hi its.toArray.size
  unfold slicePick
  rw [h1, h2, h3]
  simp only [sliceRange_one, pick_run, List.size_toArray] <;> rfl
/-- xs[lo:hi] of a list: a new list -/
def rSlL (K : PySem.W.Frag) : V → Option Int → Option Int → Hp → VK → Prop := fun x lo hi H Q => ∃ a xs, x = .ref a ∧ SqL K H a xs ∧ ∀ p, H p = none → Q (.ref p) (upd H p (.lst (cutV xs lo hi)))
theorem sl_list : SlR X (rSlL X.K) := by
  intro pins s σ H x v vl vu lo hi sl Q I rx hs pl pu h
  obtain ⟨a, xs, rfl, hx, q⟩ := h
  cases rx
  obtain ⟨its, r, ht, hz⟩ := I.list hx
  have hlen := r.length
  refine ⟨"list", _, slot_list_getitem.lookup, ht.isList.typeIs, ?_⟩
  refine wpAny_getItem_list_slice ht.isList hs pl pu .none (by simp) ?_ (by rw [List.size_toArray] <;> omega)
  rw [slicePick_cut, ← hlen]
  refine ⟨.ref s.heap.objs.size, _, I.laid (t' := s.toks) (o := .lst (cutV xs lo hi)) (fun b ob q => Heap.get?_push_of_some _ q) (Nat.le_refl _) ?_, rfl, q _ (I.hok.fresh (Nat.le_refl _))⟩
  exact ⟨Nat.le_trans (cutV_length xs lo hi) hz, _, 0, (r.drop (HT.sIx xs.length 0 lo)).take (HT.sIx xs.length xs.length hi - HT.sIx xs.length 0 lo), Heap.get?_push_size _ rfl⟩

def flatV : V → Bool
  | .non => true
  | .bl _ => true
  | .int _ => true
  | .str _ => true
  | _ => false
/-- == of flat values -/
def eqV : V → V → Bool
  | .non, .non => true
  | .bl a, .bl b => a == b
  | .bl a, .int b => (if a then 1 else 0) == b
  | .int a, .bl b => a == (if b then 1 else 0)
  | .int a, .int b => a == b
  | .str a, .str b => a == b
  | _, _ => false
def inV (x : V) (xs : List V) : Bool := xs.any fun y => eqV y x
/-- x in a list or tuple of flat items -/
def rIn (K : PySem.W.Frag) (neg : Bool) : R2 := fun x y H Q => ∃ p xs, y = .ref p ∧ (SqL K H p xs ∨ SqT K H p xs) ∧ flatV x = true ∧ xs.all flatV = true ∧ Q (.bl (if neg then !inV x xs else inV x xs)) H
theorem call_len_seq : CallR X (.builtin "len") (fun xs H Q => ∃ p ys, xs = [.ref p] ∧ (SqL X.K H p ys ∨ SqT X.K H p ys) ∧ Q (.int ys.length) H) := by
  intro pins s σ H xs us Q I r h
  obtain ⟨p, ys, rfl, hq, q⟩ := h
  obtain ⟨u, rfl, rx⟩ := vals1 r
  cases rx
  have hn := line63
  rcases hq with hq | hq
  · obtain ⟨its, r', pl, hz⟩ := I.list hq
    have hlen := r'.length
    exact Calls.call_len_list pl.isList (by simp only [List.size_toArray] <;> omega) ⟨.int ys.length, H, I.tok _, ⟨s.toks + 1, by rw [List.size_toArray, hlen]⟩, q⟩
  · obtain ⟨its, r', pl, hz⟩ := I.tuple hq
    have hlen := r'.length
    exact len_tuple pl (by simp only [List.size_toArray] <;> omega) ⟨.int ys.length, H, I.tok _, ⟨s.toks + 1, by rw [List.size_toArray, hlen]⟩, q⟩
theorem call_list_of : CallR X (.type "list") (fun xs H Q => ∃ p ys, xs = [.ref p] ∧ (SqL X.K H p ys ∨ SqT X.K H p ys) ∧ ∀ l, H l = none → Q (.ref l) (upd H l (.lst ys))) := by
  intro pins s σ H xs us Q I r h
  obtain ⟨p, ys, rfl, hq, q⟩ := h
  obtain ⟨u, rfl, rx⟩ := vals1 r
  cases rx
  have fin : ∀ (its : List Value), Vals ys its → ys.length ≤ sizeLine → ∀ (h' : Heap) (c' : Nat), (∀ b o', s.heap.get? b = some o' → h'.get? b = some o') →
      h'.get? s.heap.objs.size = some { cls := .type "list", dict := none, data := .seq its.toArray c', slots := #[] } → EP X pins σ Q (.ref s.heap.objs.size) { s with heap := h' } := fun its r' hz h' c' kp e =>
    ⟨.ref s.heap.objs.size, _, I.laid (t' := s.toks) kp (Nat.le_refl _) (show ObjOk X.prog X.w _ h' _ (.lst ys) from ⟨hz, its, c', r', e⟩), rfl, q _ (I.hok.fresh (Nat.le_refl _))⟩
  rcases hq with hq | hq
  · obtain ⟨its, r', pl, hz⟩ := I.list hq
    have hlen := r'.length
    obtain ⟨o, ho, hc, n, hd⟩ := pl.isList
    exact call_list_seq p (.inl rfl) ho hc hd (fun h' c' kp e => fin its r' hz h' c' kp e) (by simp only [List.size_toArray] <;> omega)
  · obtain ⟨its, r', pl, hz⟩ := I.tuple hq
    have hlen := r'.length
    obtain ⟨o, ho, hc, n, hd⟩ := pl
    exact call_list_seq p (.inr rfl) ho hc hd (fun h' c' kp e => fin its r' hz h' c' kp e) (by simp only [List.size_toArray] <;> omega)
theorem call_tuple_of : CallR X (.type "tuple") (fun xs H Q => ∃ p ys, xs = [.ref p] ∧ ((SqL X.K H p ys ∧ ∀ l, H l = none → Q (.ref l) (upd H l (.tup ys))) ∨ (SqT X.K H p ys ∧ Q (.ref p) H))) := by
  intro pins s σ H xs us Q I r h
  obtain ⟨p, ys, rfl, h⟩ := h
  obtain ⟨u, rfl, rx⟩ := vals1 r
  cases rx
  rcases h with ⟨hq, q⟩ | ⟨hq, q⟩
  · obtain ⟨its, r', pl, hz⟩ := I.list hq
    have hlen := r'.length
    refine call_tuple_list pl.isList (fun h' kp => ?_) (by simp only [List.size_toArray] <;> omega)
    have I1 : Inv X pins σ H { s with heap := h' } := I.kept (t' := s.toks) kp
    have I2 : Inv X pins σ (upd H h'.objs.size (.tup ys)) { s with heap := h'.push { cls := .type "tuple", data := .seq its.toArray } } :=
      I1.laid (t' := s.toks) (fun b o e => Heap.get?_push_of_some _ e) (Nat.le_refl _) (show ObjOk X.prog X.w _ _ _ (.tup ys) from ⟨hz, its, r', IsTup.new _ _⟩)
    exact ⟨.ref h'.objs.size, _, I2, rfl, q _ (I1.hok.fresh (Nat.le_refl _))⟩
  · obtain ⟨its, r', pl, hz⟩ := I.tuple hq
    exact call_tuple_same pl ⟨.ref p, H, I, rfl, q⟩

/-- the value is of that builtin type -/
def tyV (K : PySem.W.Frag) (T : String) (x : V) (H : Hp) : Prop := match x with
  | .str _ => T = "str"
  | .int _ => T = "int"
  | .ref p => (T = "list" ∧ ∃ xs, SqL K H p xs) ∨ (T = "tuple" ∧ ∃ o, K.lookup p = some o ∧ o.cls = .type "tuple" ∧ o.dict = none) ∨
      (T = "dict" ∧ ((∃ kvs, H p = some (.dK kvs)) ∨ ∃ kvs, H p = some (.dT kvs))) ∨ (T = "set" ∧ ∃ S n, H p = some (.set S n))
  | _ => False
theorem tyV_is {pins : List (Addr × Obj)} {σ : St} {H : Hp} {s : Shared} {T : String} {x : V} {v : Value} (I : Inv X pins σ H s) (r : RelV x v) (ty : tyV X.K T x H) :
    s.TypeIs v T ∧ ∀ a, v = .ref a → ∃ ob, s.heap.get? a = some ob ∧ ob.dict = none := by
  cases x with
  | str z =>
    obtain ⟨t, rfl⟩ := r
    cases (show T = "str" from ty)
    exact ⟨typeIs_str s z t, fun _ e => nomatch e⟩
  | int i =>
    obtain ⟨t, rfl⟩ := r
    cases (show T = "int" from ty)
    exact ⟨typeIs_int s i t, fun _ e => nomatch e⟩
  | ref p =>
    cases r
    rcases ty with ⟨rfl, xs, hq⟩ | ⟨rfl, o, hk, hc, hd⟩ | ⟨rfl, hk⟩ | ⟨rfl, S, n, hk⟩
    · obtain ⟨its, _, pl, _⟩ := I.list hq
      refine ⟨pl.isList.typeIs, fun a e => ?_⟩
      cases e
      obtain ⟨o, n, e, c, hd, _⟩ := pl
      exact ⟨o, e, hd⟩
    · refine ⟨⟨o, I.kIn p o hk, hc⟩, fun a e => ?_⟩
      cases e
      exact ⟨o, I.kIn _ o hk, hd⟩
    · have z : ∃ o, s.heap.get? p = some o ∧ o.ExactDict := by
        rcases hk with ⟨kvs, hk⟩ | ⟨kvs, hk⟩
        · obtain ⟨_, _, _, _, o, _, _, e, ex, _⟩ := I.hok p _ hk
          exact ⟨o, e, ex⟩
        · obtain ⟨_, _, _, _, o, _, _, e, ex, _⟩ := I.hok p _ hk
          exact ⟨o, e, ex⟩
      obtain ⟨o, e, ex⟩ := z
      refine ⟨⟨o, e, ex.1⟩, fun a e2 => ?_⟩
      cases e2
      exact ⟨o, e, ex.2.1⟩
    · obtain ⟨o, _, _, _, e, ex, _⟩ := I.hok p _ hk
      refine ⟨⟨o, e, ex.1⟩, fun a e2 => ?_⟩
      cases e2
      exact ⟨o, e, ex.2.1⟩
  | _ => exact False.elim ty
def tBM0 (K : PySem.W.Frag) (T : String) (r : V → List V → Hp → VK → Prop) (to : TE) : TE := fun σ H Q => to σ H fun x H1 => tyV K T x H1 ∧ r x [] H1 Q
def tBM (K : PySem.W.Frag) (T : String) (r : V → List V → Hp → VK → Prop) (to : TE) (t : TA) : TE := fun σ H Q => to σ H fun x H1 => tyV K T x H1 ∧ t σ H1 fun xs H2 => r x xs H2 Q
variable {o e : Expr} {es : List Expr} {to : TE} {t : TA} {name : Str} {apos cpos : Pos} {T id : String} {r : V → List V → Hp → VK → Prop}
theorem pe_bm0 (pa : PlainAttrs T) (slot : Slot T name id) (hty : typeOf (.builtin id) = pure (.type "method_descriptor")) (hm : MtR X id r) (ho : PE X o to)
    (hbase : attributeBase o name X.env (eval o X.env) = eval o X.env := by rfl) (hline : (apos.endLine == cpos.line) = true := by rfl) : PE X (.Call (.Attribute o name apos) [] [] cpos) (tBM0 X.K T r to) := by
  intro pins s σ H Q I h
  refine wpAny_Call_method0_late hbase hline (thn (ho pins s σ H _ I h) fun v s1 ⟨x, H1, I1, r1, ty, q1⟩ => ?_)
  obtain ⟨h1, h2⟩ := tyV_is I1 r1 ty
  exact ⟨T, id, pa, slot, hty, h1, h2, Calls.callWith_builtin rfl (PySem.evalArgs_none (hm pins s1 σ H1 x [] v [] Q I1 r1 .nil q1))⟩
theorem pe_bm (pa : PlainAttrs T) (slot : Slot T name id) (hty : typeOf (.builtin id) = pure (.type "method_descriptor")) (hm : MtR X id r) (ho : PE X o to) (ha : PA X (e :: es) t)
    (hbase : attributeBase o name X.env (eval o X.env) = eval o X.env := by rfl)
    (hfew : ((backTo cpos (starEach (e :: es) X.env)).all (fun x => !x.1) && (backToKw cpos (keywordEach [] X.env)).all (fun x => x.1.isSome)
      && decide ((e :: es).length + ([] : List Keyword).length + (if ([] : List Keyword).isEmpty then 0 else 1) < 30)) = true := by rfl)
    (hline : (apos.endLine == cpos.line) = true := by rfl) (hs : starEach (e :: es) X.env = (false, eval e X.env) :: starEach es X.env := by rfl) (hplain : (backTo cpos (starEach es X.env)).any (·.1) = false := by rfl) :
    PE X (.Call (.Attribute o name apos) (e :: es) [] cpos) (tBM X.K T r to t) := by
  intro pins s σ H Q I h
  refine wpAny_Call_method_late hbase hfew hline rfl (thn (ho pins s σ H _ I h) fun v s1 ⟨x, H1, I1, r1, ty, q1⟩ => ?_)
  obtain ⟨h1, h2⟩ := tyV_is I1 r1 ty
  refine ⟨T, id, pa, slot, hty, h1, h2, ?_⟩
  have hA := ha cpos pins s1 σ H1 _ I1 q1
  rw [hs] at hA ⊢
  refine Calls.callWith_builtin (by show (false || (backTo cpos (starEach es X.env)).any (·.1)) = false; rw [hplain] <;> rfl) (Calls.evalArgs_plain ?_)
  exact thn hA fun us s2 ⟨vs, H2, I2, r2, q2⟩ => hm pins s2 σ H2 x vs v us Q I2 r1 r2 q2
/- xs.append(e), list.index on a module's tuple .. are MtR facts of 06m -/
end
end L2

namespace L2
open PySem PySem.Spec PyProof.Rows

def MtM (X : Cx) (id : String) (r : V → List V → Hp → VK → Prop) : Prop :=
  ∀ (pins : List (Addr × Obj)) (s : Shared) (σ : St) (H : Hp) (x : V) (xs : List V) (v : Value) (us : List Value) (Q : VK), Inv X pins σ H s → RelV x v → Vals xs us → r x xs H Q →
    wpAny (model X.prog X.w) X.A (call (.builtin id) (v :: us)) (EP X pins σ Q) X.xe s

theorem Vals.one : ∀ {x : V} {us : List Value}, Vals [x] us → ∃ u, us = [u] ∧ RelV x u
  | _, _, .cons r .nil => ⟨_, rfl, r⟩
theorem Vals.zero : ∀ {us : List Value}, Vals [] us → us = []
  | _, .nil => rfl
theorem Vals.reverse {xs : List V} {us : List Value} (h : Vals xs us) : Vals xs.reverse us.reverse := by
  induction h with
  | nil => exact .nil
  | cons r t ih => rw [List.reverse_cons, List.reverse_cons]; exact Vals.append ih (.cons r .nil)
section
variable {X : Cx} {pins : List (Addr × Obj)} {σ : St} {H : Hp} {s : Shared} {l b : Addr} {xs ys zs : List V}

theorem Inv.lset {its its' : List Value} {n : Nat} {f : Array Value → Array Value} {t' : Nat} (I : Inv X pins σ H s) (hH : H l = some (.lst xs))
    (e : s.heap.get? l = some { cls := .type "list", data := .seq its.toArray n }) (hf : f its.toArray = its'.toArray) (hv : Vals ys its') (hz : ys.length ≤ sizeLine) :
    Inv X pins σ (upd H l (.lst ys)) { s with heap := s.heap.update l (Obj.mapSeq f), toks := t' } := by
  have q := PySem.IsL.update e f
  rw [hf] at q
  refine I.write (x := l) (e := l) (by rw [hH]; exact trivial) (.inl rfl) (fun b' u hb hu => (Heap.get?_update_other s.heap (Obj.mapSeq f) (Ne.symm hb)).trans hu) ⟨_, q⟩ ?_
  exact ⟨hz, its', _, hv, q⟩
theorem Inv.lnew {its : List Value} {t' : Nat} (I : Inv X pins σ H s) (hv : Vals ys its) (hz : ys.length ≤ sizeLine) :
    Inv X pins σ (upd H s.heap.objs.size (.lst ys)) { s with heap := s.heap.push { cls := .type "list", data := .seq its.toArray }, toks := t' } :=
  I.laid (fun _ _ q => Heap.get?_push_of_some _ q) (Nat.le_refl _) ⟨hz, its, 0, hv, Heap.get?_push_size _ rfl⟩
theorem Inv.fresh (I : Inv X pins σ H s) : H s.heap.objs.size = none := I.hok.fresh (Nat.le_refl _)
theorem Inv.lstM (I : Inv X pins σ H s) (hH : H l = some (.lst xs)) : xs.length ≤ sizeLine ∧ ∃ (its : List Value) (n : Nat), Vals xs its ∧ xs.length = its.length ∧ s.heap.get? l = some { cls := .type "list", data := .seq its.toArray n } := by
  obtain ⟨z, its, n, r, e⟩ := I.hok l _ hH
  exact ⟨z, its, n, r, r.length, e⟩

theorem notLongL {n : Nat} (h : n ≤ sizeLine) : Builtin.List.listTooLong n = false := by
  unfold Builtin.List.listTooLong
  exact decide_eq_false (by omega)
end

section
variable {X : Cx}

def rAppend : V → List V → Hp → VK → Prop := fun x vs H Q => ∃ l xs y, x = .ref l ∧ vs = [y] ∧ H l = some (.lst xs) ∧ xs.length < sizeLine ∧ Q .non (upd H l (.lst (xs ++ [y])))
theorem mt_append : MtM X "list.append" rAppend := by
  intro pins s σ H x vs v us Q I rx rv h
  obtain ⟨l, xs, y, rfl, rfl, hH, hz, q⟩ := h
  cases rx
  obtain ⟨u, rfl, ru⟩ := rv.one
  obtain ⟨z, its, n, r, hl, e⟩ := I.lstM hH
  refine call_meets F.slot_list_append ⟨_, e, rfl⟩ F.entry_list_append (F.args_list_append_2 _ _) (PySem.list_append l its.toArray n u (by rw [List.size_toArray]; omega)) ⟨e, ?_⟩
  refine ⟨.non, _, I.lset (its' := its ++ [u]) hH e (by simp) (r.append (.cons ru .nil)) ?_, rfl, q⟩
  rw [List.length_append, List.length_singleton]
  omega

def rExtend : V → List V → Hp → VK → Prop := fun x vs H Q => ∃ l b xs zs, x = .ref l ∧ vs = [.ref b] ∧ H l = some (.lst xs) ∧ H b = some (.lst zs) ∧ xs.length + zs.length ≤ sizeLine ∧ Q .non (upd H l (.lst (xs ++ zs)))
def rClear : V → List V → Hp → VK → Prop := fun x vs H Q => ∃ l xs, x = .ref l ∧ vs = [] ∧ H l = some (.lst xs) ∧ Q .non (upd H l (.lst []))
theorem mt_clear : MtM X "list.clear" rClear := by
  intro pins s σ H x vs v us Q I rx rv h
  obtain ⟨l, xs, rfl, rfl, hH, q⟩ := h
  cases rx
  have hus := rv.zero
  subst hus
  obtain ⟨z, its, n, r, hl, e⟩ := I.lstM hH
  refine call_meets F.slot_list_clear ⟨_, e, rfl⟩ F.entry_list_clear (F.args_list_clear_1 _) (AutoSeq1.list_clear_list_0 l its.toArray n (by rw [List.size_toArray]; omega)) ⟨e, ?_⟩
  exact ⟨.non, _, I.lset (its' := []) (ys := []) hH e rfl .nil (Nat.zero_le _), rfl, q⟩

def rCat : R2 := fun x y H Q => ∃ l b xs zs, x = .ref l ∧ y = .ref b ∧ H l = some (.lst xs) ∧ H b = some (.lst zs) ∧ xs.length + zs.length ≤ sizeLine ∧ ∀ p, H p = none → Q (.ref p) (upd H p (.lst (xs ++ zs)))
theorem op_cat : OpR X (binaryOp .Add) rCat := by
  intro pins s σ H x y v u Q I rx ry h
  obtain ⟨l, b, xs, zs, rfl, rfl, hH, hB, hz, q⟩ := h
  cases rx
  cases ry
  obtain ⟨z, its, n, r, hl, e⟩ := I.lstM hH
  obtain ⟨z2, its2, n2, r2, hl2, e2⟩ := I.lstM hB
  refine PySem.P.add_list e e2 ?_ (by rw [List.size_toArray, List.size_toArray]; omega)
  have ea : its.toArray ++ its2.toArray = (its ++ its2).toArray := by simp
  rw [ea]
  exact ⟨.ref _, _, I.lnew (t' := s.toks) (r.append r2) (by rw [List.length_append]; omega), rfl, q _ I.fresh⟩
/-- a list times an int (a negative one is nothing) -/
def rRep : R2 := fun x y H Q => ∃ l k xs, x = .ref l ∧ y = .int k ∧ H l = some (.lst xs) ∧ -(2 ^ 63) ≤ k ∧ k < 2 ^ 63 ∧ xs.length * k.toNat ≤ sizeLine ∧
  ∀ p, H p = none → Q (.ref p) (upd H p (.lst (List.replicate k.toNat xs).flatten))
end

section
variable {prog : Program} {w : World} {A : Around} {E : Value → Shared → Prop} {s : Shared}
set_option maxRecDepth 100000 in
end

section
variable {X : Cx}
end
end L2

namespace L2
open PySem PySem.Spec PyProof.Rows

section
variable {κ : Type} [DecidableEq κ]
def valV (kvs : List (κ × V)) (k : κ) : Option V := (kvs.find? fun kv => decide (kv.1 = k)).map (·.2)
/-- in its place, or at the end -/
def putK (kvs : List (κ × V)) (k : κ) (v : V) : List (κ × V) :=
  if (kvs.any fun kv => decide (kv.1 = k)) = true then kvs.map (fun kv => if kv.1 = k then (kv.1, v) else kv) else kvs ++ [(k, v)]
def dropK (kvs : List (κ × V)) (k : κ) : List (κ × V) := kvs.filter fun kv => decide (kv.1 ≠ k)

theorem valV_pos {p : κ × V} {r : List (κ × V)} {k : κ} (e : p.1 = k) : valV (p :: r) k = some p.2 := by simp [valV, List.find?_cons, e]
theorem valV_neg {p : κ × V} {r : List (κ × V)} {k : κ} (e : ¬ p.1 = k) : valV (p :: r) k = valV r k := by simp [valV, List.find?_cons, e]
theorem valV_any (k : κ) : ∀ kvs : List (κ × V), (kvs.any fun kv => decide (kv.1 = k)) = (valV kvs k).isSome
  | [] => rfl
  | p :: r => by
    rw [List.any_cons]
    by_cases e : p.1 = k
    · simp only [valV_pos e, decide_eq_true e, Bool.true_or, Option.isSome_some]
    · rw [valV_neg e, decide_eq_false e, Bool.false_or]; exact valV_any k r
theorem length_putK (kvs : List (κ × V)) (k : κ) (v : V) : (putK kvs k v).length ≤ kvs.length + 1 := by
  unfold putK
  split
  · rw [List.length_map]; omega
  · rw [List.length_append, List.length_cons, List.length_nil]; omega
theorem putK_new {kvs : List (κ × V)} {k : κ} (v : V) (h : valV kvs k = none) : putK kvs k v = kvs ++ [(k, v)] := by
  unfold putK
  rw [valV_any, h]
  exact if_neg (by decide)

theorem RelO.isSome_eq {o : Option V} {u : Option Value} (r : RelO o u) : o.isSome = u.isSome := by
  cases o with
  | none => cases u with
    | none => rfl
    | some _ => exact (show False from r).elim
  | some _ => cases u with
    | none => exact (show False from r).elim
    | some _ => rfl
theorem RelO.getD {o : Option V} {u : Option Value} {d : V} {d' : Value} (r : RelO o u) (rd : RelV d d') : RelV (o.getD d) (u.getD d') := by
  cases o with
  | none => cases u with
    | none => exact rd
    | some _ => exact (show False from r).elim
  | some _ => cases u with
    | none => exact (show False from r).elim
    | some _ => exact r

/-- raw tables of the same keys -/
theorem KV.val {kvs : List (κ × V)} {vs : List (κ × Value)} (r : KV kvs vs) (k : κ) : RelO (valV kvs k) (valueAt vs k) := by
  unfold KV at r
  induction r with
  | nil => exact True.intro
  | @cons p q ps qs h t ih =>
    obtain ⟨h1, h2⟩ := h
    by_cases e : p.1 = k
    · have e' : q.1 = k := h1.symm.trans e
      have b : valueAt (q :: qs) k = some q.2 := by simp [valueAt, List.find?_cons, e']
      rw [valV_pos e, b]; exact h2
    · have e' : ¬ q.1 = k := fun z => e (h1.trans z)
      have b : valueAt (q :: qs) k = valueAt qs k := by simp [valueAt, List.find?_cons, e']
      rw [valV_neg e, b]; exact ih
theorem KV.any {kvs : List (κ × V)} {vs : List (κ × Value)} (r : KV kvs vs) (k : κ) : (kvs.any fun kv => decide (kv.1 = k)) = vs.any fun kv => decide (kv.1 = k) := by
  unfold KV at r
  induction r with
  | nil => rfl
  | cons h t ih => rw [List.any_cons, List.any_cons, ih, h.1]
theorem KV.repl {kvs : List (κ × V)} {vs : List (κ × Value)} (r : KV kvs vs) (k : κ) {y : V} {u : Value} (ry : RelV y u) :
    KV (kvs.map fun kv => if kv.1 = k then (kv.1, y) else kv) (vs.map fun kv => if kv.1 = k then (kv.1, u) else kv) := by
  unfold KV at r ⊢
  induction r with
  | nil => exact .nil
  | @cons p q ps qs h t ih =>
    rw [List.map_cons, List.map_cons]
    refine .cons ?_ ih
    obtain ⟨h1, h2⟩ := h
    by_cases e : p.1 = k
    · rw [if_pos e, if_pos (h1.symm.trans e)]; exact ⟨h1, ry⟩
    · rw [if_neg e, if_neg (fun z => e (h1.trans z))]; exact ⟨h1, h2⟩
theorem KV.put {kvs : List (κ × V)} {vs : List (κ × Value)} (r : KV kvs vs) (k : κ) {y : V} {u : Value} (ry : RelV y u) : KV (putK kvs k y) (stored vs k u) := by
  unfold putK stored
  rw [r.any k]
  by_cases e : (vs.any fun kv => decide (kv.1 = k)) = true
  · rw [if_pos e, if_pos e]; exact r.repl k ry
  · rw [if_neg e, if_neg e]; exact Paired.snoc r ⟨rfl, ry⟩
theorem KV.drop {kvs : List (κ × V)} {vs : List (κ × Value)} (r : KV kvs vs) (k : κ) : KV (dropK kvs k) (without vs k) := by
  unfold KV at r ⊢
  unfold dropK without
  induction r with
  | nil => exact .nil
  | @cons p q ps qs h t ih =>
    obtain ⟨h1, h2⟩ := h
    rw [List.filter_cons, List.filter_cons]
    by_cases e : p.1 = k
    · have a : ¬ decide (p.1 ≠ k) = true := by simp [e]
      have b : ¬ decide (q.1 ≠ k) = true := by simp [h1.symm.trans e]
      rw [if_neg a, if_neg b]; exact ih
    · have e' : ¬ q.1 = k := fun z => e (h1.trans z)
      have a : decide (p.1 ≠ k) = true := by simp [e]
      have b : decide (q.1 ≠ k) = true := by simp [e']
      rw [if_pos a, if_pos b]; exact .cons ⟨h1, h2⟩ ih
theorem KV.length {kvs : List (κ × V)} {vs : List (κ × Value)} (r : KV kvs vs) : kvs.length = vs.length := Paired.length r
end


theorem kV_is {P : Program} {w : World} {k : Key} {u : Value} (r : RelV (kV k) u) : (mixKind P w).is k u = true := by
  cases k with
  | inl i => obtain ⟨t, e⟩ := (show ∃ t, u = Value.int i t from r); subst e; exact mixKind_int P w i t
  | inr x => obtain ⟨t, e⟩ := (show ∃ t, u = Value.str x t from r); subst e; exact mixKind_str P w x t
theorem items_are {P : Program} {w : World} : ∀ {ks : List Key} {us : List Value}, Vals (ks.map kV) us → ItemsAre (mixKind P w) ks us
  | [], _, r => by rw [List.map_nil] at r; cases r; exact .nil
  | k :: ks, _, r => by
    rw [List.map_cons] at r
    cases r with
    | cons h t => exact .cons (kV_is h) (items_are t)

/-- raw entries of a dict with tuple keys -/
abbrev KT (H : Hp) : List (List Key × V) → List (List Key × Addr × Value) → Prop := Paired fun p q => p.1 = q.1 ∧ H q.2.1 = some (.tup (p.1.map kV)) ∧ RelV p.2 q.2.2
theorem KT.val {H : Hp} {kvs : List (List Key × V)} {xs : List (List Key × Addr × Value)} (r : KT H kvs xs) (k : List Key) : RelO (valV kvs k) ((atKey xs k).map (·.2)) := by
  induction r with
  | nil => exact True.intro
  | @cons p q ps qs h t ih =>
    obtain ⟨h1, _, h2⟩ := h
    by_cases e : p.1 = k
    · have e' : q.1 = k := h1.symm.trans e
      have b : atKey (q :: qs) k = some q.2 := by simp [atKey, List.find?_cons, e']
      rw [valV_pos e, b]; exact h2
    · have e' : ¬ q.1 = k := fun z => e (h1.trans z)
      have b : atKey (q :: qs) k = atKey qs k := by simp [atKey, List.find?_cons, e']
      rw [valV_neg e, b]; exact ih
theorem KT.repl {H : Hp} {kvs : List (List Key × V)} {xs : List (List Key × Addr × Value)} (r : KT H kvs xs) (k : List Key) {y : V} {u : Value} (ry : RelV y u) :
    KT H (kvs.map fun kv => if kv.1 = k then (kv.1, y) else kv) (xs.map (putAt k u)) := by
  induction r with
  | nil => exact .nil
  | @cons p q ps qs h t ih =>
    rw [List.map_cons, List.map_cons]
    refine .cons ?_ ih
    obtain ⟨h1, h2, h3⟩ := h
    unfold putAt
    by_cases e : p.1 = k
    · rw [if_pos e, if_pos (h1.symm.trans e)]; exact ⟨h1, h2, ry⟩
    · rw [if_neg e, if_neg (fun z => e (h1.trans z))]; exact ⟨h1, h2, h3⟩
theorem KT.put {H : Hp} {kvs : List (List Key × V)} {xs : List (List Key × Addr × Value)} (r : KT H kvs xs) (k : List Key) {b : Addr} {y : V} {u : Value} (hb : H b = some (.tup (k.map kV))) (ry : RelV y u) :
    KT H (putK kvs k y) (storedH xs k b u) := by
  have e : (kvs.any fun kv => decide (kv.1 = k)) = (atKey xs k).isSome := by
    rw [valV_any, (r.val k).isSome_eq, Option.isSome_map]
  unfold putK storedH
  rw [e]
  by_cases q : (atKey xs k).isSome = true
  · rw [if_pos q, if_pos q]; exact r.repl k ry
  · rw [if_neg q, if_neg q]; exact Paired.snoc r ⟨rfl, hb, ry⟩
theorem KT.keeps {H H' : Hp} {kvs : List (List Key × V)} {xs : List (List Key × Addr × Value)} (r : KT H kvs xs) (ht : ∀ b ys, H b = some (.tup ys) → H' b = some (.tup ys)) : KT H' kvs xs :=
  Paired.mapP r fun _ _ z => ⟨z.1, ht _ _ z.2.1, z.2.2⟩

section
variable {P : Program} {w : World} {H : Hp} {h : Heap} {a : Addr}
theorem rd_of {u : HO} (ok : HOk P w H h) (e : Rd H a u) : ObjOk P w H h a u := e.ok ok
theorem dk_rd {kvs : List (Key × V)} (ok : HOk P w H h) (e : Rd H a (.dK kvs)) : kvs.length ≤ sizeLine ∧ (a == sysModules) = false ∧ ∃ vs, KV kvs vs ∧ h.DictOf (mixKind P w) a vs :=
  show ObjOk P w H h a (.dK kvs) from rd_of ok e
theorem dk_of {kvs : List (Key × V)} (ok : HOk P w H h) (e : H a = some (.dK kvs)) : kvs.length ≤ sizeLine ∧ (a == sysModules) = false ∧ ∃ vs, KV kvs vs ∧ h.DictOf (mixKind P w) a vs := dk_rd ok (.inl e)
/-- a tracked tuple of ints and texts is a key -/
theorem key_of {ks : List Key} (ok : HOk P w H h) (e : H a = some (.tup (ks.map kV))) : (tupleKind (mixKind P w)).is h ks a := by
  obtain ⟨_, its, r, o, h1, h2, n, h3⟩ := (show ObjOk P w H h a (.tup (ks.map kV)) from ok a _ e)
  exact ⟨o, its.toArray, n, h1, h2, h3, by simpa using items_are r⟩
theorem dt_rd {kvs : List (List Key × V)} (ok : HOk P w H h) (e : Rd H a (.dT kvs)) : kvs.length ≤ sizeLine ∧ (a == sysModules) = false ∧
    ∃ xs, KT H kvs xs ∧ h.DictOfH (tupleKind (mixKind P w)) a xs := by
  obtain ⟨z, y, xs, r, o, es, ep, h1, h2, h3, h4, h5⟩ := (show ObjOk P w H h a (.dT kvs) from rd_of ok e)
  refine ⟨z, y, xs, r, o, es, ep, h1, h2, h3, h4, fun x hx => ?_, h5⟩
  have all : ∀ {l : List (List Key × V)} {m : List (List Key × Addr × Value)}, KT H l m → ∀ x ∈ m, (tupleKind (mixKind P w)).is h x.1 x.2.1 := by
    intro l m q
    induction q with
    | nil => intro x hx; exact nomatch hx
    | @cons p q ps qs hq t ih =>
      intro x hx
      rcases List.mem_cons.mp hx with e | hx
      · subst e
        exact key_of ok (by rw [← hq.1]; exact hq.2.1)
      · exact ih x hx
  exact all r x hx
theorem dt_of {kvs : List (List Key × V)} (ok : HOk P w H h) (e : H a = some (.dT kvs)) : kvs.length ≤ sizeLine ∧ (a == sysModules) = false ∧
    ∃ xs, KT H kvs xs ∧ h.DictOfH (tupleKind (mixKind P w)) a xs := dt_rd ok (.inl e)
end

/-- what the dict at a holds at the key y -/
def DGet (H : Hp) (a : Addr) (y : V) (r : Option V) : Prop :=
  (∃ kvs k, Rd H a (.dK kvs) ∧ y = kV k ∧ r = valV kvs k) ∨ ∃ kvs k b, Rd H a (.dT kvs) ∧ y = .ref b ∧ H b = some (.tup (k.map kV)) ∧ r = valV kvs k
/-- the heap behind a[y] = v -/
def DPut (H : Hp) (a : Addr) (y v : V) (H' : Hp) : Prop :=
  (∃ kvs k, H a = some (.dK kvs) ∧ y = kV k ∧ kvs.length < sizeLine ∧ H' = upd H a (.dK (putK kvs k v))) ∨
  ∃ kvs k b, H a = some (.dT kvs) ∧ y = .ref b ∧ H b = some (.tup (k.map kV)) ∧ kvs.length < sizeLine ∧ H' = upd H a (.dT (putK kvs k v))
theorem DGet.k {H : Hp} {a : Addr} {kvs : List (Key × V)} {k : Key} (e : H a = some (.dK kvs)) : DGet H a (kV k) (valV kvs k) := .inl ⟨kvs, k, .inl e, rfl, rfl⟩
theorem DGet.t {H : Hp} {a b : Addr} {kvs : List (List Key × V)} {k : List Key} (e : H a = some (.dT kvs)) (eb : H b = some (.tup (k.map kV))) : DGet H a (.ref b) (valV kvs k) := .inr ⟨kvs, k, b, .inl e, rfl, eb, rfl⟩
theorem DPut.k {H : Hp} {a : Addr} {kvs : List (Key × V)} {k : Key} {v : V} (e : H a = some (.dK kvs)) (hl : kvs.length < sizeLine) : DPut H a (kV k) v (upd H a (.dK (putK kvs k v))) := .inl ⟨kvs, k, e, rfl, hl, rfl⟩
theorem DPut.t {H : Hp} {a b : Addr} {kvs : List (List Key × V)} {k : List Key} {v : V} (e : H a = some (.dT kvs)) (eb : H b = some (.tup (k.map kV))) (hl : kvs.length < sizeLine) :
    DPut H a (.ref b) v (upd H a (.dT (putK kvs k v))) := .inr ⟨kvs, k, b, e, rfl, eb, hl, rfl⟩


section
variable {X : Cx} {pins : List (Addr × Obj)} {σ : St} {H : Hp} {s : Shared} {a : Addr} {y v : V} {u r : Value} {o : Option V} {A : Around} {E : Value → Shared → Prop}

theorem Inv.big (I : Inv X pins σ H s) : sysModules < s.heap.objs.size := by
  have h : mainGlobals < s.heap.objs.size := (I.mod.glob.keeps I.bk).lt
  exact Nat.lt_trans (by decide) h

/-- d[y], there -/
theorem d_getItem {Q : Value → Shared → Prop} (hu : A.units + 1 < cLine) (I : Inv X pins σ H s) (g : DGet H a y (some v)) (ry : RelV y u) (h : ∀ w' s', Inv X pins σ H s' → RelV v w' → Q w' s') :
    wpAny (model X.prog X.w) A (getItem (.ref a) u) Q E s := by
  rcases g with ⟨kvs, k, e, ey, l⟩ | ⟨kvs, k, b, e, ey, eb, l⟩
  · subst ey
    obtain ⟨z, hd, vs, rel, dd⟩ := dk_rd I.hok e
    obtain ⟨w', hw, rw'⟩ := RelO.some_of (v := v) (o := valueAt vs k) (by rw [l]; exact rel.val k)
    exact wpAny_getItem_of (kV_is ry) dd.mapOf hw (h w' _ (I.tok _) rw')
  · subst ey
    cases (show u = Value.ref b from ry)
    obtain ⟨z, hd, xs, rel, dd⟩ := dt_rd I.hok e
    obtain ⟨w', hw, rw'⟩ := RelO.some_of (v := v) (o := (atKey xs k).map (·.2)) (by rw [l]; exact rel.val k)
    obtain ⟨p, hp, hp2⟩ := Option.map_eq_some_iff.mp hw
    refine wpAny_getItem_heap (tupleKind_room_in1 hu) (key_of I.hok eb) dd hp ?_
    rw [hp2]
    exact h w' _ (I.tok _) rw'
/-- y in d -/
theorem d_in {Q : Value → Shared → Prop} (hu : A.units + 1 < cLine) (I : Inv X pins σ H s) (g : DGet H a y o) (ry : RelV y u) (h : ∀ s', Inv X pins σ H s' → Q (.bool o.isSome) s') :
    wpAny (model X.prog X.w) A (compareOp .In u (.ref a)) Q E s := by
  rcases g with ⟨kvs, k, e, ey, l⟩ | ⟨kvs, k, b, e, ey, eb, l⟩
  · subst ey
    obtain ⟨z, hd, vs, rel, dd⟩ := dk_rd I.hok e
    refine wpAny_in_of (kV_is ry) hd dd.mapOf ?_
    rw [← (rel.val k).isSome_eq, ← l]
    exact h _ (I.tok _)
  · subst ey
    cases (show u = Value.ref b from ry)
    obtain ⟨z, hd, xs, rel, dd⟩ := dt_rd I.hok e
    refine wpAny_in_heap (tupleKind_room_in1 hu) (key_of I.hok eb) hd dd ?_
    have q := (rel.val k).isSome_eq
    rw [Option.isSome_map] at q
    rw [← q, ← l]
    exact h _ (I.tok _)
/-- a dict's object is replaced -/
theorem d_write {h' : Heap} {t' : Nat} {ob : HO} (I : Inv X pins σ H s) (mu : Mut (H a)) (hs : Heap.SameBut a s.heap h') (he : ∃ q, h'.get? a = some q) (new : ObjOk X.prog X.w (upd H a ob) h' a ob) :
    Inv X pins σ (upd H a ob) { s with heap := h', toks := t' } :=
  I.write (x := a) (e := a) mu (.inl rfl) (fun b q hb z => (hs.2 b hb).trans z) he new
theorem dk_new {P : Program} {w : World} {H' : Hp} {h' : Heap} {kvs : List (Key × V)} {vs : List (Key × Value)} (z : kvs.length ≤ sizeLine) (hd : (a == sysModules) = false) (rel : KV kvs vs) (dd : h'.DictOf (mixKind P w) a vs) :
    ObjOk P w H' h' a (.dK kvs) := ⟨z, hd, vs, rel, dd⟩
/-- d[y] = v -/
theorem d_setItem {H' : Hp} {Q : Unit → Shared → Prop} (hu : A.units + 1 < cLine) (I : Inv X pins σ H s) (g : DPut H a y v H') (ry : RelV y u) (rv : RelV v r) (h : ∀ s', Inv X pins σ H' s' → Q () s') :
    wpAny (model X.prog X.w) A (setItem (.ref a) u r) Q E s := by
  rcases g with ⟨kvs, k, e, ey, l, eH⟩ | ⟨kvs, k, b, e, ey, eb, l, eH⟩
  · subst ey eH
    obtain ⟨z, hd, vs, rel, dd⟩ := dk_of I.hok e
    have hz : vs.length ≤ sizeLine := by rw [← rel.length]; exact z
    have hl : (putK kvs k v).length ≤ sizeLine := by have := length_putK kvs k v; omega
    refine wpAny_setItem_pairs (hsz := hz) (kV_is ry) dd fun h' dd' hs => h _ ?_
    have he : ∃ q, h'.get? a = some q := let ⟨q, _, _, hq, _⟩ := dd'; ⟨q, hq⟩
    exact d_write I (by rw [e]; exact True.intro) hs he (dk_new hl hd (rel.put k rv) dd')
  · subst ey eH
    cases (show u = Value.ref b from ry)
    obtain ⟨z, hd, xs, rel, dd⟩ := dt_of I.hok e
    have hz : xs.length ≤ sizeLine := by rw [← Paired.length rel]; exact z
    have hl : (putK kvs k v).length ≤ sizeLine := by have := length_putK kvs k v; omega
    refine wpAny_setItem_heap (hsz := hz) (tupleKind_room_in1 hu) (key_of I.hok eb) dd fun h' dd' hs => h _ ?_
    obtain ⟨q, es, ep, hq, h2, h3, h4, _, h5⟩ := dd'
    refine d_write I (by rw [e]; exact True.intro) hs ⟨q, hq⟩ ⟨hl, hd, _, (rel.put k eb rv).keeps fun c ys ec => ?_, q, es, ep, hq, h2, h3, h4, h5⟩
    rw [upd_ne (ne_of ec e (fun z => nomatch z))]
    exact ec
end

section
variable {X : Cx} {pins : List (Addr × Obj)} {σ : St} {H : Hp} {s : Shared} {a : Addr} {kvs : List (Key × V)} {k : Key} {u : Value} {A : Around} {E : Value → Shared → Prop}
end


/-- the element of a subscription, not a slice -/
def NoSl (i : Expr) : Prop := ∀ ov iv, subscripted i false ov iv = operate [ov, iv] (getItem ov iv)
theorem subD_of {prog : Program} {w : World} {A : Around} {E : Value → Shared → Prop} {s : Shared} {env : Env} {value slice : Expr} {pos : Pos} {T id : String} {Q : Value → Shared → Prop}
    (hl : typeLookup (.type T) "__getitem__" = pure (some (.builtin id))) (hs : NoSl slice)
    (h : wpAny (model prog w) A (eval value env) (fun o s₁ => wpAny (model prog w) A (eval slice env) (fun i s₂ => s₂.TypeIs o T ∧ wpAny (model prog w) A (getItem o i) Q E s₂) E s₁) E s) :
    wpAny (model prog w) A (eval (.Subscript value slice pos) env) Q E s := by
  refine Subscript_ (wpAny_mono h (fun o s₁ h₁ => wpAny_mono h₁ (fun i s₂ h₂ => ?_) fun _ _ x => x) fun _ _ x => x)
  obtain ⟨hT, h₂⟩ := h₂
  unfold subscriptTail
  refine wpAny_bind ?_
  rw [getitemInPython_of_ne hT.not_modules]
  refine wpAny_bind (wpAny_specialOf hT hl ?_)
  have fin : wpAny (model prog w) A (subscripted slice false o i) (fun r s₃ => wpAny (model prog w) A (letTemporaryGo value o r >>= fun _ => pure r) Q E s₃) E s₂ := by
    rw [hs o i]
    exact wpAny_operating (wpAny_mono h₂ (fun r s₃ h₃ => wpAny_bind (wpAny_letTemporaryGo (wpAny_pure h₃))) fun _ _ x => x)
  first
    | exact wpAny_pure (wpAny_bind fin)
    | exact wpAny_bind (wpAny_pure (wpAny_bind fin))
    | exact wpAny_bind fin

theorem dict_typeIs {X : Cx} {pins : List (Addr × Obj)} {σ : St} {H : Hp} {s : Shared} {a : Addr} {y : V} {o : Option V} (I : Inv X pins σ H s) (g : DGet H a y o) : s.TypeIs (.ref a) "dict" := by
  rcases g with ⟨kvs, k, e, _, _⟩ | ⟨kvs, k, b, e, _, _, _⟩
  · obtain ⟨_, _, vs, _, dd⟩ := dk_rd I.hok e
    exact dd.typeIs
  · obtain ⟨_, _, xs, _, dd⟩ := dt_rd I.hok e
    exact dd.typeIs
/-- d[y] -/
def tDGet (td ty : TE) : TE := fun σ H Q => td σ H fun x H1 => ty σ H1 fun y H2 => ∃ a v, x = .ref a ∧ DGet H2 a y (some v) ∧ Q v H2
/-- y in d, y not in d -/
def tDIn (ty td : TE) : TE := fun σ H Q => ty σ H fun y H1 => td σ H1 fun x H2 => ∃ a o, x = .ref a ∧ DGet H2 a y o ∧ Q (.bl o.isSome) H2
def tDNotIn (ty td : TE) : TE := fun σ H Q => ty σ H fun y H1 => td σ H1 fun x H2 => ∃ a o, x = .ref a ∧ DGet H2 a y o ∧ Q (.bl (!o.isSome)) H2
/-- d[y] = v -/
def sDPut (td ty tv : TE) : TS := fun D σ H => tv σ H fun v H1 => td σ H1 fun x H2 => ty σ H2 fun y H3 => ∃ a H4, x = .ref a ∧ DPut H3 a y v H4 ∧ D.nx σ H4
section
variable {X : Cx} {o i e value : Expr} {pos pos' tpos : Pos} {td ty tv : TE}
theorem pe_dget (hu : X.A.units + 1 < cLine) (ho : PE X o td) (hi : PE X i ty) (hs : NoSl i) : PE X (.Subscript o i pos) (tDGet td ty) := by
  intro pins s σ H Q I h
  refine subD_of PySem.F.slot_dict_getitem.lookup hs (thn (ho pins s σ H _ I h) fun u s1 ⟨x, H1, I1, rx, q1⟩ => thn (hi pins s1 σ H1 _ I1 q1) fun iv s2 ⟨y, H2, I2, ry, a, v, ex, g, q2⟩ => ?_)
  subst ex
  obtain rfl : u = Value.ref a := rx
  exact ⟨dict_typeIs I2 g, d_getItem hu I2 g ry fun w' s3 I3 rw' => ⟨v, H2, I3, rw', q2⟩⟩
theorem pc_din (hu : X.A.units + 1 < cLine) (hi : PE X i ty) (ho : PE X o td) : PC X .In i o (tDIn ty td) := by
  intro pins s σ H Q I h
  refine thn (hi pins s σ H _ I h) fun iv s1 ⟨y, H1, I1, ry, q1⟩ => thn (ho pins s1 σ H1 _ I1 q1) fun u s2 ⟨x, H2, I2, rx, a, ov, ex, g, q2⟩ => ?_
  subst ex
  obtain rfl : u = Value.ref a := rx
  exact d_in hu I2 g ry fun s3 I3 => ⟨.bl ov.isSome, H2, I3, rfl, q2⟩
theorem ps_dput (hu : X.A.units + 1 < cLine) (ho : PE X o td) (hi : PE X i ty) (hv : PE X value tv) (hs : swapsWith value (some (.Subscript o i pos')) pos.line X.env = pure false) :
    PS X (.Assign [.Subscript o i pos'] value pos) (sDPut td ty tv) := by
  intro pins s σ H D I h
  refine wpAny_Assign_Subscript (thn (hv pins s σ H _ I h) fun r s1 ⟨v, H1, I1, rv, q1⟩ => thn (ho pins s1 σ H1 _ I1 q1) fun u s2 ⟨x, H2, I2, rx, q2⟩ => thn (hi pins s2 σ H2 _ I2 q2) fun iv s3 ⟨y, H3, I3, ry, a, H4, ex, g, q3⟩ => ?_) hs
  subst ex
  obtain rfl : u = Value.ref a := rx
  exact d_setItem hu I3 g ry rv fun s4 I4 => ⟨σ, H4, I4, q3⟩
end


theorem dk_empty {P : Program} {w : World} {H : Hp} (h : Heap) (hb : sysModules < h.objs.size) : ObjOk P w H (h.push { cls := .type "dict", data := .dict #[] }) h.objs.size (.dK []) :=
  ⟨Nat.zero_le _, beq_eq_false_iff_ne.mpr (Ne.symm (Nat.ne_of_lt hb)), [], .nil, Heap.DictOf.new h⟩
/-- {}, to be a dict of the kind that is wanted -/
def tDNewK : TE := fun _ H Q => ∀ p, H p = none → Q (.ref p) (upd H p (.dK []))
section
variable {X : Cx} {pos : Pos}
theorem pe_dnewK : PE X (.Dict [] [] pos) tDNewK := fun pins s σ H Q I h =>
  wpAny_Dict_empty ⟨.ref s.heap.objs.size, _, I.laid (a := s.heap.objs.size) (o := .dK []) (t' := s.toks) (fun _ _ q => Heap.get?_push_of_some _ q) (Nat.le_refl _) (dk_empty s.heap I.big), rfl, h _ (I.hok.fresh (Nat.le_refl _))⟩
end

/-- the pairs of a display, from the left -/
def tPairs : List (TE × TE) → St → Hp → (List (V × V) → Hp → Prop) → Prop
  | [], _, H, Q => Q [] H
  | (tk, tv) :: r, σ, H, Q => tk σ H fun x H1 => tv σ H1 fun y H2 => tPairs r σ H2 fun ps H3 => Q ((x, y) :: ps) H3
def mergeK (kvs more : List (Key × V)) : List (Key × V) := more.foldl (fun acc kv => putK acc kv.1 kv.2) kvs
/-- {k: v, ..} with keys ints and texts; the new dict stands empty while the pairs are made -/
def tDisp (trs : List (TE × TE)) : TE := fun σ H Q => ∀ p, H p = none → tPairs trs σ (upd H p (.dK [])) fun ps H2 => H2 p = some (.dK []) ∧ ∃ kvs : List (Key × V), ps = kvs.map (fun kv => (kV kv.1, kv.2)) ∧ kvs.length ≤ 15 ∧ Q (.ref p) (upd H2 p (.dK (mergeK [] kvs)))
/-- a method call o.m(e) of a built-in, with one argument: what must be seen of the text -/
structure M1 (X : Cx) (o : Expr) (m : Str) (apos : Pos) (e : Expr) (cpos : Pos) : Prop where
  base : attributeBase o m X.env (eval o X.env) = eval o X.env
  few : ((backTo cpos (starEach [e] X.env)).all (fun x => !x.1) && (backToKw cpos (keywordEach [] X.env)).all (fun x => x.1.isSome)
    && decide (([e] : List Expr).length + ([] : List Keyword).length + (if ([] : List Keyword).isEmpty then 0 else 1) < 30)) = true
  line : (apos.endLine == cpos.line) = true
  trees : backTo cpos (starEach [e] X.env) = [(false, eval e X.env)]
structure M2 (X : Cx) (o : Expr) (m : Str) (apos : Pos) (e f : Expr) (cpos : Pos) : Prop where
  base : attributeBase o m X.env (eval o X.env) = eval o X.env
  few : ((backTo cpos (starEach [e, f] X.env)).all (fun x => !x.1) && (backToKw cpos (keywordEach [] X.env)).all (fun x => x.1.isSome)
    && decide (([e, f] : List Expr).length + ([] : List Keyword).length + (if ([] : List Keyword).isEmpty then 0 else 1) < 30)) = true
  line : (apos.endLine == cpos.line) = true
  trees : backTo cpos (starEach [e, f] X.env) = [(false, eval e X.env), (false, eval f X.env)]

section
variable {X : Cx} {pins : List (Addr × Obj)} {σ : St} {H : Hp} {s : Shared} {a : Addr} {y d : V} {u r : Value} {o : Option V} {A : Around} {E : Value → Shared → Prop}
end

section
variable {X : Cx} {o e f : Expr} {apos cpos : Pos} {td ty tx : TE}
end

section
variable {X : Cx} {pins : List (Addr × Obj)} {σ : St} {H : Hp} {s : Shared} {a : Addr} {kvs : List (Key × V)} {A : Around} {E : Value → Shared → Prop}
end


section
variable {X : Cx} {pins : List (Addr × Obj)} {σ : St} {H : Hp} {s : Shared} {a : Addr} {y : V} {u : Value} {A : Around} {E : Value → Shared → Prop}
end
end L2

namespace Att
open PySem PySem.W PySem.Calls PyProof.Rows

theorem ints_of_wellAll {P : Params} {h : Heap} : ∀ (ns : List Int) (vs : List Value), WellAll P h vs (ns.map WData.int) → IntsAre vs ns := by
  intro ns
  induction ns with
  | nil =>
    intro vs w
    rw [List.map_nil] at w
    cases w
    exact .nil
  | cons n ns ih =>
    intro vs w
    rw [List.map_cons] at w
    cases w with
    | cons a b =>
      cases a
      exact .cons _ _ (ih _ b)

theorem script_of {l : OpenLaw} {n : Nat} (hn : l.most = some n) {P : Params} {h : Heap} {args : List WData} {vals : List Value}
    (hpre : l.row.toRowW.claim.pre args = true) (hwl : WellAll P h vals args) :
    ∃ a vs ns, vals = [Value.ref a] ∧ args = [WData.list (ns.map WData.int)] ∧ h.get? a = some { cls := .type "list", data := .seq vs.toArray } ∧ IntsAre vs ns ∧ ns.length ≤ n := by
  have hsh : WShape.hasAll [] args [.list .int] = true := (pre_splitW hpre).1
  have hc : l.pre.holds [] { args := args } = true := (pre_splitW hpre).2
  obtain ⟨d, r, rfl, h1, h2⟩ := hasAllW_cons hsh
  obtain rfl := hasAllW_nil h2
  obtain ⟨xs, rfl, h3⟩ := hasW_list h1
  obtain ⟨ns, rfl⟩ := items_int h3
  have hlen : ns.length ≤ n := by
    unfold OpenLaw.pre at hc
    have h4 : (WTm.not (.lt (.lit (.int (n : Int))) (.len (.arg 0)))).holds [] { args := [.list (ns.map .int)] } = true := by
      have h4 := (holds_andW hc).1
      rw [hn] at h4
      exact h4
    have h5 := condW_of h4 (w_not (w_lt w_lit (w_len_list (w_arg rfl))))
    rw [List.length_map] at h5
    refine Nat.le_of_not_lt fun q => ?_
    have q' : (n : Int) < ((ns.length : Nat) : Int) := by omega
    first
      | (rw [decide_eq_true q'] at h5; exact absurd h5 (by decide))
      | (simp at h5; omega)
  cases hwl with
  | cons w1 w2 =>
    cases w2
    cases w1 with
    | list ho hall => exact ⟨_, _, ns, rfl, rfl, ho, ints_of_wellAll ns _ hall, hlen⟩

theorem post_true (l : OpenLaw) (args : List WData) : l.row.toRowW.claim.post args (.bool true) args = true :=
  postW_of (r := l.row.toRowW) (X := (true == true))
    (show WShape.has [] (.bool true) .bool = true by first | rfl | decide | simp [WShape.has, WShape.arms, WShape.armsAll])
    (show (WTm.eq .res (.lit (.bool true))).value [] { args := args, res := some (.bool true), after := args } = some (.bool (true == true)) from w_eq_bool (w_res rfl) w_lit) rfl

/-- the same from a codeAny of the CALL (for a layer whose function contracts speak of calls) -/
theorem attach_call {l : OpenLaw} {n : Nat} {q : Program} {loose : List Str} {XP : (Str → Option Value) → Heap → Prop} {YP : World → Heap → Prop} {d : DefRec}
    (hn : l.most = some n) (hdf : d.params.defaults = [])
    (call : ∀ (w : World) (s₀ s₁ : Shared) (mg mb : Str → Option Value) (fa : Addr) (o : Obj) (pm cd doc : Value) (a : Addr) (vs : List Value) (ns : List Int),
      Ground q loose [] XP w s₀ mg mb s₁.heap → YP w s₁.heap →
      s₁.heap.get? fa = some o → o.data = .func (docDef d.name d.params d.body d.scope pm cd doc) → s₁.heap.CodeRec cd d.name → mg d.name = some (.ref fa) →
      s₁.heap.get? a = some { cls := .type "list", data := .seq vs.toArray } → IntsAre vs ns → ns.length ≤ n → s₁.gens = #[] →
      codeAny (model l.prog w) callerA (.call (.ref fa) ⟨[.ref a], []⟩) (fun r s' => r = .ok (.ret (.bool true)) ∧ OldK s₁.heap s'.heap ∧ s'.os = s₁.os ∧ AllBare s'.gens) s₁) :
    WalkO q loose XP YP l.row.toRowW d [] (fun f vs => PySem.call f vs) := by
  intro w s₀ s₁ mg mb G Y fa o pm cd doc dV kV ho hd hcd hD hmg hg args vals as hpre hlay hrd hwl hlo
  obtain rfl : dV = .none := Dflts.none hD hdf
  obtain rfl : kV = .none := Dflts.noKw hD
  obtain ⟨a, vs, ns, rfl, rfl, hobj, hints, hlen⟩ := script_of hn hpre hwl
  refine enter_call (codeAny_mono (call w s₀ s₁ mg mb fa o pm cd doc a vs ns G Y ho (fd_plain hd) hcd hmg hobj hints hlen hg) fun r s' hq => ?_)
  obtain ⟨rfl, h2, h3, h4⟩ := hq
  exact ⟨.inl ⟨.bool true, .bool true, [], rfl, fun _ => rfl, .bool true, post_true l _, fun _ => ⟨List.Pairwise.nil, fun _ hm => (nomatch hm)⟩⟩, h2, h3, h4⟩

section
variable {prog : Program} {w : World} {A : Around} {E : Value → Shared → Prop} {s : Shared} {K : Frag}

end
end Att

namespace L2
open PySem PySem.Spec PyProof.Rows

theorem vals_ints : ∀ {vs : List Value} {ns : List Int}, IntsAre vs ns → Vals (ns.map V.int) vs
  | _, _, .nil => .nil
  | _, _, .cons n t h => .cons ⟨t, rfl⟩ (vals_ints h)

/-- nothing is tracked but the script, known to the object (or it is an object of the module) -/
def Only (H : Hp) : Prop := ∀ b, H b = none ∨ ∃ o xs, H b = some (.frz o (.lst xs))

/-- THE HEAD: the law's promise, at the heap behind the top. F, the promise of the law's def, may use that base is part of the heap (so K.In base, base.Ns mainGlobals mg stand in Mod) -/
theorem law_call {P : Program} {w : World} {K : PySem.W.Frag} {mg mb : Str → Option Value} {CX : CXT} {k : Nat} {fa a : Addr} {fd : FuncData} {x : Str} {sp : Sp} {s₁ : Shared} {vs : List Value} {ns : List Int}
    (KX : K.In s₁.heap) (hns : s₁.heap.Ns mainGlobals mg) (hb : s₁.heap.Ns builtinsNs mb) (hbb : ∀ x : Str, x ≠ "__name__" → mb x = bootBuiltins x) (hlim : s₁.heap.NoLimit) (hg : s₁.gens = #[])
    (ha : s₁.heap.get? a = some { cls := .type "list", data := .seq vs.toArray }) (hi : IntsAre vs ns) (hl : ns.length ≤ sizeLine) (hr : Room k callerA)
    (F : ∀ base : Heap, K.In base → base.Ns mainGlobals mg → FnOk P w K mg base CX k fa fd [x] sp) (hbind : ∀ (s : Shared) (u : Value), BindsTo s fd ⟨[u], []⟩ [(x, u)])
    (hsp : ∀ H : Hp, Only H → SqL K H a (ns.map V.int) → sp [.ref a] H (fun v _ => v = .bl true) fun _ _ _ => False)
    (hCX : ∀ H e s', CX [] H s₁ (fun _ _ _ => False) e s' → False) :
    codeAny (model P w) callerA (.call (.ref fa) ⟨[.ref a], []⟩) (fun r s' => r = .ok (.ret (.bool true)) ∧ OldK s₁.heap s'.heap ∧ s'.os = s₁.os ∧ AllBare s'.gens) s₁ := by
  have rv := vals_ints hi
  have lenV := hi.length
  -- from an abstract heap in which nothing but the script may be tracked
  have core : ∀ H : Hp, Only H → SqL K H a (ns.map V.int) → HOk P w H s₁.heap → (∀ b, H b ≠ none → b = a) → (H a ≠ none → K.lookup a = none) →
      codeAny (model P w) callerA (.call (.ref fa) ⟨[.ref a], []⟩) (fun r s' => r = .ok (.ret (.bool true)) ∧ OldK s₁.heap s'.heap ∧ s'.os = s₁.os ∧ AllBare s'.gens) s₁ := by
    intro H hO hS hok hA hK
    have base_of : ∀ {b : Addr} {o : Obj}, s₁.heap.get? b = some o → H b = none → (hidT s₁.heap H).get? b = some o := fun e n => hidT_get e n
    have noA : ∀ {b : Addr} {o : Obj} {es : Array DictEntry} {ep : Nat}, s₁.heap.get? b = some o → o.data = .dict es ep → H b = none := fun {b o es ep} e d => by
      cases q : H b with
      | none => rfl
      | some u =>
        have e' : b = a := hA b (by rw [q]; simp)
        subst e'
        rw [ha] at e; cases e
        have d' : Data.seq vs.toArray _ = Data.dict es ep := d
        cases d'
    have nsK : ∀ {b : Addr} {m : Str → Option Value}, s₁.heap.Ns b m → (hidT s₁.heap H).Ns b m := fun {b m} ⟨o, es, ep, e, d, r⟩ => ⟨o, es, ep, base_of e (noA e d), d, r⟩
    have hKb : K.In (hidT s₁.heap H) := fun b o e => base_of (KX b o e) (by
      cases q : H b with
      | none => rfl
      | some u =>
        have e' : b = a := hA b (by rw [q]; simp)
        subst e'
        rw [hK (by rw [q]; simp)] at e; cases e)
    have hM : Mod K mg (hidT s₁.heap H) := ⟨hKb, nsK hns, ⟨mb, nsK hb, hbb⟩, let ⟨mc, h1, h2⟩ := hlim; ⟨mc, nsK h1, h2⟩⟩
    have e0 : Env0 P w K mg (hidT s₁.heap H) callerA [] s₁ H := ⟨rfl, hM, fun b o e => of_hidT e, Nat.le_of_eq (hidT_size _ _), trivial, fun b hb => absurd (show b ∈ ([] : List Addr) from hb) (by simp), hok, .of_eq hg⟩
    refine codeAny_mono ((F _ hKb (nsK hns)).run callerA [] s₁ H ⟨[.ref a], []⟩ [.ref a] [.ref a] _ _ hr e0 (hbind s₁ (.ref a)) (.cons rfl .nil) (hsp H hO hS)) fun r s' h => ?_
    cases r with
    | error e => exact (hCX H e s' h).elim
    | ok fl =>
      cases fl with
      | next => exact False.elim h
      | brk => exact False.elim h
      | cont => exact False.elim h
      | ret u =>
        obtain ⟨v, H', os, bare, un, hok', r', q⟩ := h
        have q' : v = .bl true := q
        subst q'
        obtain rfl : u = Value.bool true := r'
        refine ⟨rfl, OldK.of_keep fun b o e => ?_, os, bare⟩
        cases q : H b with
        | none => exact un.keep b o e q (by intro z; exact absurd (show b ∈ ([] : List Addr) from z) (by simp)) (by simp)
        | some u =>
          rcases hO b with z | ⟨ob, xs, z⟩
          · rw [q] at z; cases z
          · have z2 := un.frzs b ob _ z
            obtain ⟨e1, _⟩ := hok b _ z
            obtain ⟨e2, _⟩ := hok' b _ z2
            rw [e] at e1; cases e1
            exact e2
  cases hk : K.lookup a with
  | some o =>
    -- the script is one of the module's own objects
    have e := KX a o hk
    rw [ha] at e
    cases e
    refine core (fun _ => none) (fun _ => .inl rfl) (.inr ⟨_, vs.toArray, _, hk, rfl, rfl, rfl, by rw [List.size_toArray, lenV]; exact hl, by simpa using rv⟩) (fun b u z => by have z' : (none : Option HO) = some u := z; cases z') (fun b z => absurd rfl z) fun z => absurd rfl z
  | none =>
    refine core (fun b => if b = a then some (.frz { cls := .type "list", data := .seq vs.toArray } (.lst (ns.map V.int))) else none) (fun b => ?_) (.inl (.inr ⟨{ cls := .type "list", data := .seq vs.toArray }, if_pos rfl⟩)) (fun b u z => ?_) (fun b z => ?_) fun _ => hk
    · by_cases hb : b = a
      · exact .inr ⟨_, _, if_pos hb⟩
      · exact .inl (if_neg hb)
    · by_cases hb : b = a
      · have z' := (if_pos hb).symm.trans z
        cases z'
        subst hb
        exact ⟨ha, by rw [List.length_map]; exact hl, vs, _, rv, ha⟩
      · have z' := (if_neg hb).symm.trans z
        cases z'
    · by_cases hb : b = a
      · exact hb
      · exact absurd (if_neg hb) z
end L2

namespace L2
open PySem PySem.Spec PyProof.Rows

abbrev KOf {K : PySem.W.Frag} {h : Heap} (_ : K.In h) : PySem.W.Frag := K

/-- the goal that k_head leaves (case hc), from the law's promise. F gives the function object fd (K's own) once, then the promise over every base -/
theorem walk_of {l : PySem.W.OpenLaw} {n k : Nat} {q : Program} {loose : List Str} {XP : (Str → Option Value) → Heap → Prop} {YP : World → Heap → Prop} {d : DefRec} {K : Params → PySem.W.Frag} {CX : World → CXT} {sp : World → Sp} {x : Str}
    (hn : l.most = some n) (hn2 : n ≤ sizeLine) (hdf : d.params.defaults = []) (hr : Room k callerA)
    (hY : ∀ (w : World) (h : Heap), YP w h → (K w.params).In h)
    (F : ∀ (w : World) (mg : Str → Option Value) (fa : Addr) (h : Heap), (K w.params).In h → h.Ns mainGlobals mg → mg d.name = some (.ref fa) →
      ∃ fd : FuncData, (∀ (s : Shared) (u : Value), BindsTo s fd ⟨[u], []⟩ [(x, u)]) ∧
        ∀ base : Heap, (K w.params).In base → base.Ns mainGlobals mg → FnOk l.prog w (K w.params) mg base (CX w) k fa fd [x] (sp w))
    (hsp : ∀ (w : World) (H : Hp) (a : Addr) (ns : List Int), ns.length ≤ n → Only H → SqL (K w.params) H a (ns.map V.int) → sp w [.ref a] H (fun v _ => v = .bl true) fun _ _ _ => False)
    (hCX : ∀ (w : World) (H : Hp) (s : Shared) (e : Value) (s' : Shared), CX w [] H s (fun _ _ _ => False) e s' → False) :
    PySem.W.WalkO q loose XP YP l.row.toRowW d [] (fun f vs => PySem.call f vs) := by
  refine Att.attach_call hn hdf fun w s₀ s₁ mg mb fa o pm cd doc a vs ns G Y ho hd hcd hmg hobj hints hlen hg => ?_
  have KX := hY w _ Y
  obtain ⟨fd, hb, hF⟩ := F w mg fa _ KX G.T.g hmg
  exact law_call KX G.T.g G.T.b G.T.builtins G.T.nolimit hg hobj hints (Nat.le_trans hlen hn2) hr hF hb (fun H hO hS => hsp w H a ns hlen hO hS) fun H e s' => hCX w H s₁ e s'
end L2


namespace L2
open PySem PySem.Spec PyProof.Rows

/-- the j-th statement of a class's body -/
def inClass (s : Stmt) (j : Nat) : Stmt := match s with
  | .ClassDef _ _ _ body _ _ _ _ _ _ _ => body.getD j (.Pass ⟨0, 0, 0, 0⟩)
  | _ => .Pass ⟨0, 0, 0, 0⟩
def defArgs (s : Stmt) : Arguments := match s with
  | .FunctionDef _ a _ _ _ _ _ _ _ _ => a
  | _ => { posonlyargs := [], args := [], vararg := none, kwonlyargs := [], kw_defaults := [], kwarg := none, defaults := [] }
def defBody (s : Stmt) : List Stmt := match s with
  | .FunctionDef _ _ b _ _ _ _ _ _ _ => b
  | _ => []
def defScope (s : Stmt) : Scope := match s with
  | .FunctionDef _ _ _ _ _ _ sc _ _ _ => sc
  | _ => { kind := .function, names := [], isGenerator := false, isCoroutine := false }

abbrev CX0 : CXT := fun _ _ _ _ _ _ => False
abbrev E0 : XK := fun _ _ _ => False
structure Fun (K : PySem.W.Frag) (x qual : Str) (st : Stmt) (f : Addr) (fd : FuncData) : Prop where
  ex : ∃ (oc : Value) (od : Option Addr) (kV doc pm : Value) (an : Option Addr) (cdv ct : Value) (osl : Array (Option Value)),
    fd = PySem.W.fnOf x qual (defArgs st) (defBody st) (defScope st) .none kV doc pm an cdv ct ∧ K.lookup f = some ⟨oc, od, .func fd, osl⟩ ∧ PySem.W.codeIn K cdv qual = true
  kp : PySem.W.keepIn K (.ref f) = true
section
variable {P : Program} {w : World} {K : PySem.W.Frag} {mg : Str → Option Value} {base : Heap}
/-- THE RULE for a def: its body as a term of rules, and the reading of that term -/
theorem Fun.ok {x qual : Str} {st : Stmt} {f : Addr} {fd : FuncData} {N ps : List Str} {k : Nat} {sp : Sp} (F : Fun K x qual st f fd) (S : FnScope N ps (defScope st)) (len : ∀ vs H Q E, sp vs H Q E → vs.length = ps.length)
    (hbody : ∀ (cdv : Value) (A : Around) (outer : List Env) (s : Shared) (H : Hp) (vs : List V) (Q : VK) (E : XK), Room k (A.deeper (envOfC qual (defScope st) s.heap.objs.size f cdv)) → sp vs H Q E →
      ∃ t, PSs (cxOf CX0 P w K mg base N qual (defScope st) f cdv A outer s H E).nox (defBody st) t ∧ t { nx := fun _ H' => Q .non H', rt := Q } (start N vs) H) : FnOk P w K mg base CX0 (k + 1) f fd ps sp := by
  obtain ⟨oc, od, kV, doc, pm, an, cdv, ct, osl, rfl, lk, hcd⟩ := F.ex
  refine fn_of lk hcd S len fun A outer s H vs Q E hr hsp => ?_
  obtain ⟨t, h, q⟩ := hbody cdv A outer s H vs Q E hr hsp
  exact ⟨t, h.nox, q⟩
/-- how its arguments bind (no defaults): h is «fun _ _ _ _ _ _ us hl => match us, hl with | [_, _], _ => rfl», one _ a parameter -/
theorem Fun.binds {x qual : Str} {st : Stmt} {f : Addr} {fd : FuncData} {ps : List Str} (F : Fun K x qual st f fd)
    (h : ∀ (kV doc pm : Value) (an : Option Addr) (cdv ct : Value) (us : List Value), us.length = ps.length → bindArgs (PySem.W.fnOf x qual (defArgs st) (defBody st) (defScope st) .none kV doc pm an cdv ct) ⟨us, []⟩ = pure (ps.zip us)) : Binds K fd ps [] := by
  obtain ⟨oc, od, kV, doc, pm, an, cdv, ct, osl, rfl, lk, hcd⟩ := F.ex
  exact .all (h kV doc pm an cdv ct)
theorem fun_mk {x qual : Str} {st : Stmt} {f : Addr} {oc : Value} {od an : Option Addr} {osl : Array (Option Value)} {kV doc pm cdv ct : Value} (l : K.lookup f = some ⟨oc, od, .func (PySem.W.fnOf x qual (defArgs st) (defBody st) (defScope st) .none kV doc pm an cdv ct), osl⟩)
    (c : PySem.W.codeIn K cdv qual = true) (k : PySem.W.keepIn K (.ref f) = true) : Fun K x qual st f (PySem.W.fnOf x qual (defArgs st) (defBody st) (defScope st) .none kV doc pm an cdv ct) := ⟨⟨oc, od, kV, doc, pm, an, cdv, ct, osl, rfl, l, c⟩, k⟩
end
theorem hu_of {A : Around} {k : Nat} (hr : Room k A) : A.units + 1 < cLine := Nat.lt_of_le_of_lt (Nat.add_le_add_left (by decide : 1 ≤ 64) _) hr.units
theorem small1000 {n : Nat} (h : n ≤ 1000) : n < sizeLine := Nat.lt_of_le_of_lt h (by decide)

section
variable {X : Cx}
theorem pv (i : Nat) {x : Str} {pos : Pos} (hN : X.N[i]? = some x := by rfl) (hv : Vis X.env.scope x := by first | exact Or.inl rfl | exact Or.inr (Or.inl rfl) | exact Or.inr (Or.inr rfl)) (hd : (x == ("__debug__" : Str)) = false := by decide)
    (hcd : (x == ("__classdict__" : Str)) = false := by decide) : PE X (.Name x pos) (tVar i) := pe_var hN hv hd hcd
end

theorem ite2 {c A B : Prop} [Decidable c] (h1 : c → A) (h2 : ¬ c → B) : if c then A else B := by
  by_cases h : c
  · rw [if_pos h]
    exact h1 h
  · rw [if_neg h]
    exact h2 h
/-- all that was tracked is as it was -/
def Same (H H' : Hp) : Prop := ∀ b o, H b = some o → H' b = some o
theorem Same.refl (H : Hp) : Same H H := fun _ _ h => h
theorem Same.trans {H H1 H2 : Hp} (a : Same H H1) (b : Same H1 H2) : Same H H2 := fun c o h => b c o (a c o h)
theorem Same.free {H H' : Hp} (e : Same H H') {l : Addr} (h : H' l = Option.none) : H l = Option.none := by
  cases q : H l with
  | none => rfl
  | some o =>
    rw [e l o q] at h
    cases h
theorem Same.seq {K : PySem.W.Frag} {H H' : Hp} {a : Addr} {xs : List V} (e : Same H H') (h : SqL K H a xs) : SqL K H' a xs := by
  rcases h with (h | ⟨o, h⟩) | h
  · exact .inl (.inl (e _ _ h))
  · exact .inl (.inr ⟨o, e _ _ h⟩)
  · exact .inr h

section
variable {κ : Type} [DecidableEq κ]
end
end L2


namespace L2
open PySem PySem.Spec PyProof.Rows

/-- the cells that a block takes along -/
def closOf (cells : List (Str × Addr)) : List (Str × NameKind) → List (Str × Addr) → List (Str × Addr)
  | [], acc => acc
  | y :: r, acc => closOf cells r (if y.2 == .free then (y.1, (cells.lookup y.1).getD 0) :: acc else acc)

theorem closOf_cons {cells : List (Str × Addr)} {y : Str × NameKind} {r : List (Str × NameKind)} {acc : List (Str × Addr)} : closOf cells (y :: r) acc = closOf cells r (if y.2 == .free then (y.1, (cells.lookup y.1).getD 0) :: acc else acc) := rfl
theorem clos_run {env : Env} (F : Str × NameKind → List (Str × Addr) → Sem (ForInStep (List (Str × Addr))))
    (hF : ∀ y c, F y c = if (y.2 == NameKind.free) = true then (cellOf env y.1 >>= fun a => pure (ForInStep.yield ((y.1, a) :: c))) else pure (ForInStep.yield c)) :
    ∀ (ns : List (Str × NameKind)) (acc : List (Str × Addr)), (∀ y ∈ ns, y.2 = .free → ∃ c, env.cells.lookup y.1 = some c) → forIn ns acc F = (pure (closOf env.cells ns acc) : Sem (List (Str × Addr)))
  | [], acc, _ => rfl
  | y :: r, acc, h => by
    rw [List.forIn_cons, hF]
    by_cases k : y.2 = NameKind.free
    · obtain ⟨c, hc⟩ := h y List.mem_cons_self k
      have hk : (y.2 == NameKind.free) = true := by rw [k]; rfl
      have e : cellOf env y.1 = pure c := by unfold cellOf; rw [hc]
      rw [if_pos hk, e]
      simp only [pure_bind]
      rw [clos_run F hF r _ fun z hz => h z (List.mem_cons_of_mem _ hz)]
      rw [closOf_cons, if_pos hk, hc]
      rfl
    · have hk : ¬ (y.2 == NameKind.free) = true := by simpa using k
      rw [if_neg hk]
      simp only [pure_bind]
      rw [clos_run F hF r _ fun z hz => h z (List.mem_cons_of_mem _ hz)]
      rw [closOf_cons, if_neg hk]

theorem clos_is {scope : Scope} {env : Env} (h : ∀ y ∈ scope.names, y.2 = .free → ∃ c, env.cells.lookup y.1 = some c) : closureFor scope env = pure (closOf env.cells scope.names []) := by
  unfold closureFor
  have q := clos_run (env := env) _ (fun y c => rfl) scope.names [] h
  simp only [bind_pure]
  exact q

theorem closOf_sub {cells : List (Str × Addr)} : ∀ {ns : List (Str × NameKind)} {acc : List (Str × Addr)}, (∀ y ∈ ns, y.2 = .free → ∃ c, cells.lookup y.1 = some c) →
    (∀ p ∈ acc, cells.lookup p.1 = some p.2) → ∀ p ∈ closOf cells ns acc, cells.lookup p.1 = some p.2
  | [], _, _, ha => ha
  | y :: r, acc, h, ha => by
    rw [closOf_cons]
    refine closOf_sub (fun z hz => h z (List.mem_cons_of_mem _ hz)) ?_
    split
    · rename_i k
      intro p hp
      rcases List.mem_cons.mp hp with rfl | hp
      · obtain ⟨c, hc⟩ := h y List.mem_cons_self (by simpa using k)
        show cells.lookup y.1 = some ((cells.lookup y.1).getD 0)
        rw [hc]; rfl
      · exact ha p hp
    · exact ha

theorem closOf_mono {cells : List (Str × Addr)} {p : Str × Addr} : ∀ {ns : List (Str × NameKind)} {acc : List (Str × Addr)}, p ∈ acc → p ∈ closOf cells ns acc
  | [], _, h => h
  | y :: r, acc, h => by
    rw [closOf_cons]
    refine closOf_mono ?_
    split
    · exact List.mem_cons_of_mem _ h
    · exact h

theorem closOf_has {cells : List (Str × Addr)} {x : Str} {c : Addr} (hc : cells.lookup x = some c) : ∀ {ns : List (Str × NameKind)} {acc : List (Str × Addr)}, (x, NameKind.free) ∈ ns → (x, c) ∈ closOf cells ns acc
  | y :: r, acc, h => by
    rw [closOf_cons]
    rcases List.mem_cons.mp h with e | h
    · subst e
      refine closOf_mono ?_
      rw [if_pos (show ((x, NameKind.free).2 == NameKind.free) = true from rfl)]
      show (x, c) ∈ (x, (cells.lookup x).getD 0) :: acc
      rw [hc]
      exact List.mem_cons_self
    · exact closOf_has hc h

theorem lookup_mem_some {x : Str} {c : Addr} : ∀ {l : List (Str × Addr)}, (x, c) ∈ l → ∃ d, l.lookup x = some d
  | p :: r, h => by
    rw [List.lookup_cons]
    cases e : x == p.1 with
    | true => exact ⟨_, rfl⟩
    | false =>
      rcases List.mem_cons.mp h with q | q
      · subst q; simp at e
      · exact lookup_mem_some q

/-- the block's scope against the def's: N' the block's names, π where a captured one stands among the def's -/
structure CompScope (osc : Scope) (N : List Str) (scope : Scope) (N' : List Str) (π : List (Option Nat)) : Prop where
  ok : osc.kind = .function
  kind : scope.kind = .function
  nocell : ∀ y ∈ scope.names, y.2 ≠ .cell
  loc : ∀ y ∈ scope.names, y.2 = .local → scope.names.lookup y.1 = some .local
  fr : ∀ y ∈ scope.names, y.2 = .free → osc.names.lookup y.1 = some .cell
  nd : N'.Nodup
  len : π.length = N'.length
  cap : ∀ (i j : Nat) (x : Str), N'[i]? = some x → π[i]? = some (some j) → N[j]? = some x ∧ scope.names.lookup x = some .free

def capt (π : List (Option Nat)) (σ : St) : St := π.map fun o => o.bind fun j => (σ[j]?).join

/-- the block's context -/
def cxComp (X : Cx) (N' : List Str) (scope : Scope) (s : Shared) (H : Hp) (C : Addr) (fp : List Addr) (pn : List (Addr × Obj)) : Cx where
  prog := X.prog
  w := X.w
  K := X.K
  mg := X.mg
  base := X.base
  A := X.A
  N := N'
  s₀ := s
  H₀ := H
  env := compEnvC scope (closOf X.env.cells scope.names []) C X.env
  outer := X.stack
  stack := X.stack
  ex := fp
  fn := fun _ => false
  calm := X.calm
  pn := X.pn ++ pn
  xe := fun _ _ => False

theorem relabel_free {env : Env} {x : Str} (hf : env.scope.kind = .function) (hx : env.scope.names.lookup x = some .cell) : ∀ {ns : List (Str × NameKind)}, ns.lookup x = some .free →
    (ns.map fun y => if (y.2 == NameKind.free && env.scope.kind == .function && env.kindOf y.1 == some .cell) then (y.1, NameKind.cell) else (y.1, y.2)).lookup x = some .cell
  | [], h => by simp at h
  | y :: r, h => by
    rw [List.lookup_cons] at h
    rw [List.map_cons, List.lookup_cons]
    have hx' : env.kindOf x = some .cell := hx
    cases e : x == y.1 with
    | true =>
      rw [e] at h
      have en : x = y.1 := by simpa using e
      have hk : y.2 = .free := by simpa using h
      rw [hk, hf, ← en, hx']
      simp
    | false =>
      rw [e] at h
      have ih := relabel_free hf hx h
      by_cases q : (y.2 == NameKind.free && env.scope.kind == .function && env.kindOf y.1 == some .cell) = true
      · rw [if_pos q]
        simp only [e]
        exact ih
      · rw [if_neg q]
        simp only [e]
        exact ih

section
variable {X : Cx} {scope : Scope} {N' : List Str} {π : List (Option Nat)} {pins : List (Addr × Obj)} {σ : St} {H : Hp} {s : Shared} {fp : List Addr}

theorem capt_get {π : List (Option Nat)} {σ : St} {i : Nat} {v : V} (h : (capt π σ)[i]? = some (some v)) : ∃ j, π[i]? = some (some j) ∧ σ[j]? = some (some v) := by
  unfold capt at h
  rw [List.getElem?_map] at h
  cases e : π[i]? with
  | none => rw [e] at h; cases h
  | some o =>
    rw [e] at h
    cases o with
    | none => cases h
    | some j =>
      refine ⟨j, rfl, ?_⟩
      have h' : (σ[j]?).join = some v := Option.some.inj h
      cases q : σ[j]? with
      | none => rw [q] at h'; cases h'
      | some u => rw [q] at h'; exact congrArg some h'

/-- the block begins -/
theorem comp_start (S : CompScope X.env.scope X.N scope N' π) (hX : X.calm = true) (I : Inv X pins σ H s) (hf : ∀ b ∈ fp, FpOk X pins H b) (hfo : ∀ b ∈ fp, ∃ o, s.heap.get? b = some o) {h1 : Heap} {tk : Nat} {C : Addr} {m : Str → Option Value}
    (hk : ∀ b o, s.heap.get? b = some o → h1.get? b = some o) (hC : s.heap.objs.size ≤ C) (hn : h1.Ns C m) : Inv (cxComp X N' scope s H C fp pins) [] (capt π σ) H { s with heap := h1, toks := tk } := by
  have hfr : ∀ y ∈ scope.names, y.2 = .free → ∃ c, X.env.cells.lookup y.1 = some c := fun y hy k => I.ok.has y.1 (.inl (S.fr y hy k))
  have sub : ∀ x c, (closOf X.env.cells scope.names []).lookup x = some c → X.env.cells.lookup x = some c := fun x c e =>
    closOf_sub hfr (fun p hp => absurd hp (by simp)) _ (PySem.mem_of_lookup e)
  have stk := I.stkSub
  have nC : ∀ b o, s.heap.get? b = some o → b ≠ C := fun b o e => Nat.ne_of_lt (Nat.lt_of_lt_of_le (Heap.lt_size e) hC)
  have nofr : ∀ b, b ∈ fp → b ∉ frs X.stack := fun b hb z => by
    rcases List.mem_cons.mp (stk b z) with e | e
    · exact (hf b hb).2.1 e
    · exact (hf b hb).2.2.1 e
  refine ⟨⟨I.ok.mod, S.kind, I.ok.glob, I.ok.blt, hC, fun x y c e1 e2 => I.ok.inj x y c (sub _ _ e1) (sub _ _ e2), fun x hx => ?_, fun x c z => absurd z Bool.false_ne_true, fun _ => I.ok.hd hX, I.ok.frames, .inl rfl,
    fun b hb => ⟨fun e => ?_, fun x c e q => (hf b hb).2.2.2.2.1 x c (sub _ _ e) q⟩, fun b o e => I.bs b o e, Nat.le_trans I.ok.bsz I.sz, fun b o e hb => ?_, fun b hb => nofr b hb, I.stack, I.stkFree⟩, rfl, I.bare, Un.kept hk, ⟨m, hn, fun i x v e1 e2 e3 => ?_⟩, fun x c e => ?_, I.hok.fresh hC, fun x c e => I.freeC x c (sub _ _ e), fun p hp => ?_, I.hok.kept hk, ?_⟩
  · -- the cells are there
    have hx : (relabel scope X.env).names.lookup x = some .cell ∨ (relabel scope X.env).names.lookup x = some .free := hx
    have hmem : ∀ k, (relabel scope X.env).names.lookup x = some k → ∃ k', (x, k') ∈ scope.names ∧ (k = k' ∨ (k = .cell ∧ k' = .free)) := fun k e => by
      have := PySem.mem_of_lookup e
      obtain ⟨⟨n, k'⟩, hm, q⟩ := List.mem_map.mp this
      dsimp only at q
      split at q
      · rename_i z
        injection q with q1 q2
        subst q1
        refine ⟨k', hm, .inr ⟨q2.symm, ?_⟩⟩
        simp only [Bool.and_eq_true, beq_iff_eq] at z
        exact z.1.1
      · injection q with q1 q2
        subst q1
        exact ⟨k', hm, .inl q2.symm⟩
    have hfree : (x, NameKind.free) ∈ scope.names := by
      rcases hx with e | e
      · obtain ⟨k', hm, q | ⟨_, q⟩⟩ := hmem _ e
        · subst q; exact absurd rfl (S.nocell _ hm)
        · subst q; exact hm
      · obtain ⟨k', hm, q | ⟨q, _⟩⟩ := hmem _ e
        · subst q; exact hm
        · cases q
    obtain ⟨c, hc⟩ := hfr _ hfree rfl
    exact lookup_mem_some (closOf_has hc hfree)
  · obtain ⟨o, e'⟩ := hfo b hb
    exact nC b o e' e
  · rcases (hf b hb).2.2.2.1 with z | z
    · exact I.ok.noex b o e z
    · exact absurd (Heap.lt_size (I.ok.bs b o e).1) (Nat.not_lt.mpr z)
  · obtain ⟨j, e4, e5⟩ := capt_get e2
    obtain ⟨hN, hfree⟩ := S.cap i j x e1 e4
    have hcell := S.fr _ (PySem.mem_of_lookup hfree) rfl
    obtain ⟨m0, hn0, hl0⟩ := I.loc
    obtain ⟨u, ru, q⟩ := hl0 j x v hN e5 (.inr (.inl hcell))
    refine ⟨u, ru, ?_⟩
    rcases q with ⟨k, _⟩ | ⟨_, c, hc, z⟩
    · have k' : X.env.scope.names.lookup x = some .local := k
      rw [hcell] at k'
      cases k'
    · obtain ⟨d, hd⟩ := lookup_mem_some (closOf_has hc (PySem.mem_of_lookup hfree) (acc := []))
      have e6 := sub _ _ hd
      rw [hc] at e6
      cases e6
      exact .inr ⟨.inl (relabel_free S.ok hcell hfree), c, hd, z.keeps hk⟩
  · obtain ⟨v, z⟩ := I.cell x c (sub _ _ e)
    exact ⟨v, z.keeps hk⟩
  · have hp' : p ∈ X.pn ++ pins := by
      rcases List.mem_append.mp hp with z | z
      · exact z
      · cases z
    obtain ⟨e, n, ne, nf, d⟩ := I.pin p hp'
    refine ⟨hk _ _ e, n, nC _ _ e, fun z => ?_, d⟩
    rcases List.mem_cons.mp (stk _ z) with q | q
    · exact ne q
    · exact nf q
  · show (capt π σ).length = N'.length
    unfold capt
    rw [List.length_map, S.len]

/-- a list that no one tracked is tracked -/
theorem hok_lst {P : Program} {w : World} {h : Heap} {D : Addr} {ys : List V} {its : List Value} {n : Nat} (ok : HOk P w H h) (hD : H D = none) (ho : h.get? D = some { cls := .type "list", data := .seq its.toArray n })
    (r : Vals ys its) (hz : ys.length ≤ sizeLine) : HOk P w (upd H D (.lst ys)) h := by
  intro b ob e
  have ne : ∀ c u, H c = some u → c ≠ D := fun c u q z => by rw [z, hD] at q; cases q
  by_cases hb : b = D
  · subst hb
    rw [upd_same] at e
    cases e
    exact ⟨hz, its, n, r, ho⟩
  · rw [upd_ne hb] at e
    exact (ok b ob e).stay (fun _ _ _ q => q) (fun c q => by rw [upd_ne (ne _ _ q)]; exact q) fun c xs q => by rw [upd_ne (ne _ _ q)]; exact q

/-- the block's end, its list tracked -/
theorem comp_end (I : Inv X pins σ H s) (hf : ∀ b ∈ fp, FpOk X pins H b) {C D : Addr} {pins' : List (Addr × Obj)} {σ' : St} {H' : Hp} {s' : Shared} (J : Inv (cxComp X N' scope s H C fp pins) pins' σ' H' s')
    (hD : H' D = none) (hDs : s.heap.objs.size ≤ D) {ys : List V} {its : List Value} {n : Nat} (ho : s'.heap.get? D = some { cls := .type "list", data := .seq its.toArray n }) (r : Vals ys its) (hz : ys.length ≤ sizeLine) :
    Inv X pins σ (upd H' D (.lst ys)) s' := by
  have nD : ∀ b o, s.heap.get? b = some o → b ≠ D := fun b o e => Nat.ne_of_lt (Nat.lt_of_lt_of_le (Heap.lt_size e) hDs)
  have ne : ∀ c u, H' c = some u → c ≠ D := fun c u q z => by rw [z, hD] at q; cases q
  have u : Un (frs X.stack) fp H H' s.heap s'.heap := J.base
  refine I.call' (ch := fp) J.os ⟨u.keep, u.slot, fun b o e h1 h2 => ?_, u.there, fun b xs q => ?_, fun b o v q => ?_, fun b ps q => ?_⟩ (hok_lst J.hok hD ho r hz) J.bare fun b hb => ⟨(hf b hb).2.2.2.1, (hf b hb).2.1, (hf b hb).2.2.2.2.1, (hf b hb).2.2.2.2.2⟩
  · rw [upd_ne (nD b o e)]
    exact u.free b o e h1 h2
  · have z := u.tups b xs q
    rw [upd_ne (ne _ _ z)]; exact z
  · have z := u.frzs b o v q
    rw [upd_ne (ne _ _ z)]; exact z
  · obtain ⟨more, z⟩ := u.tbls b ps q
    exact ⟨more, by rw [upd_ne (ne _ _ z)]; exact z⟩
end

/-- the tests of a clause -/
def PIfs (X : Cx) (ifs : List Expr) (t : TT) : Prop :=
  ∀ (pins : List (Addr × Obj)) (s : Shared) (σ : St) (H : Hp) (Q : Bool → Hp → Prop), Inv X pins σ H s → t σ H Q →
    wpAny (model X.prog X.w) X.A (forIn ifs true fun c r => if r = true then do let ok ← isTrue c X.env (eval c X.env); pure (ForInStep.yield ok) else pure (ForInStep.yield r)) (TP X pins σ Q) X.xe s
def tNoIf : TT := fun _ H Q => Q true H
theorem pifs_nil {X : Cx} : PIfs X [] tNoIf := fun _ _ _ H _ I h => wpAny_tests_nil ⟨H, I, h⟩
theorem comp_turns {prog : Program} {w : World} {A : Around} {R : Result → Shared → Prop} {s : Shared} {elt tg iter : Expr} {ifs : List Expr} {scope : Scope} {pos : Pos} {it acc : Value} {env : Env} (I : Nat → Shared → Prop)
    (turn : ∀ n s, I n s → wpAny (model prog w) A (pyNext it) (fun r s1 => match r with
      | none => R (.ok .next) s1
      | some v => wpAny (model prog w) A (letOwnedTupleGo tg it v) (fun _ s2 => wpAny (model prog w) A (assign tg env v) (fun _ s3 =>
          wpAny (model prog w) A (forIn ifs true fun c r => if r = true then do let ok ← isTrue c env (eval c env); pure (ForInStep.yield ok) else pure (ForInStep.yield r)) (fun ok s4 =>
            if ok = true then wpAny (model prog w) A (eval elt env) (fun x s5 => wpAny (model prog w) A (call (.builtin "list.append") [acc, x]) (fun _ s6 => ∃ m, m < n ∧ I m s6) (fun _ _ => False) s5) (fun _ _ => False) s4
            else ∃ m, m < n ∧ I m s4) (fun _ _ => False) s3) (fun _ _ => False) s2) (fun _ _ => False) s1) (fun _ _ => False) s)
    (n : Nat) (h : I n s) : codeAny (model prog w) A (.compLoop (.ListComp elt [⟨tg, iter, ifs, 0⟩] scope pos) 0 it acc env) R s := by
  refine codeAny_loop rfl I (fun n s hI => ?_) n h
  refine wpAny_noted (m := compTurn (.ListComp elt [⟨tg, iter, ifs, 0⟩] scope pos) 0 it acc env) ?_
  rw [compTurn_list]
  have no : ∀ {E : Value → Shared → Prop} (x : Value) (s : Shared), False → E x s := fun _ _ f => f.elim
  refine wpAny_bind (wpAny_standAt (wpAny_bind (wpAny_mono (turn n s hI) (fun r s1 h1 => ?_) no)))
  cases r with
  | none => exact wpAny_pure h1
  | some v =>
    refine wpAny_bind (wpAny_mono h1 (fun _ s2 h2 => ?_) no)
    refine wpAny_bind (wpAny_mono h2 (fun _ s3 h3 => ?_) no)
    refine wpAny_bind (wpAny_mono h3 (fun ok s4 h4 => ?_) no)
    cases ok with
    | false => exact wpAny_pure ⟨rfl, h4⟩
    | true =>
      refine wpAny_bind (wpAny_bind (wpAny_mono h4 (fun x s5 h5 => ?_) no))
      exact wpAny_bind (wpAny_mono h5 (fun _ s6 h6 => wpAny_pure (wpAny_pure ⟨rfl, h6⟩)) no)

/-- W: the turn, a measure, what is gathered, the block's names, the heap -/
def tComp (wi : TI) (π : List (Option Nat)) (g : TG) (tt : TT) (te : TE) : TE := fun σ H Q => wi σ H fun J H1 =>
  ∃ W : Nat → Nat → List V → St → Hp → Prop, (∃ m, W 0 m [] (capt π σ) H1) ∧ ∀ i m ys σ' H', W i m ys σ' H' →
    (J.stop i H' ∧ ∀ D, H' D = none → Q (.ref D) (upd H' D (.lst ys))) ∨
    (J.go i H' ∧ ys.length < sizeLine ∧ ∃ N : List V → St → Hp → Prop, (∀ ys' σ2 H2, N ys' σ2 H2 → ∃ m', m' < m ∧ W (i + 1) m' ys' σ2 H2) ∧ ∀ x H2, J.yld i H' x H2 → g x σ' H2 fun σ2 H3 => tt σ2 H3 fun c H4 =>
      if c = true then te σ2 H4 fun y H5 => N (ys ++ [y]) σ2 H5 else N ys σ2 H4)

section
variable {X : Cx} {scope : Scope} {N' : List Str} {π : List (Option Nat)} {tg iter elt : Expr} {ifs : List Expr} {pos : Pos} {wi : TI} {g : TG} {tt : TT} {te : TE}

/-- the block, from its iterator on: D its list, C its frame -/
theorem comp_block (S : CompScope X.env.scope X.N scope N' π) (hc : X.calm = true) {pins : List (Addr × Obj)} {σ : St} {Q : VK} {itv : Value} {s : Shared} {E : Value → Shared → Prop} {RR : Value → Addr → Result → Shared → Prop}
    (hg : ∀ s H C fp pn, PG (cxComp X N' scope s H C fp pn) tg g) (ht : ∀ s H C fp pn, PIfs (cxComp X N' scope s H C fp pn) ifs tt) (he : ∀ s H C fp pn, PE (cxComp X N' scope s H C fp pn) elt te)
    (h : PIE X pins σ tg (fun J H1 => ∃ W : Nat → Nat → List V → St → Hp → Prop, (∃ m, W 0 m [] (capt π σ) H1) ∧ ∀ i m ys σ' H', W i m ys σ' H' →
      (J.stop i H' ∧ ∀ D, H' D = none → Q (.ref D) (upd H' D (.lst ys))) ∨
      (J.go i H' ∧ ys.length < sizeLine ∧ ∃ N : List V → St → Hp → Prop, (∀ ys' σ2 H2, N ys' σ2 H2 → ∃ m', m' < m ∧ W (i + 1) m' ys' σ2 H2) ∧ ∀ x H2, J.yld i H' x H2 → g x σ' H2 fun σ2 H3 => tt σ2 H3 fun c H4 =>
        if c = true then te σ2 H4 fun y H5 => N (ys ++ [y]) σ2 H5 else N ys σ2 H4)) itv s)
    (hRR : ∀ D C s' H', Inv X pins σ H' s' → Q (.ref D) H' → (∃ m, s'.heap.Ns C m) → FpOk X pins H' C → RR (.ref D) C (.ok .next) s') :
    wpAny (model X.prog X.w) X.A (newList []) (fun acc s3 => wpAny (model X.prog X.w) X.A (newFunctionEnv scope X.env.globals (closOf X.env.cells scope.names []) [] X.env.qual none .none (some X.env)) (fun cenv s4 =>
      codeAny (model X.prog X.w) X.A (.compStart (.ListComp elt [⟨tg, iter, ifs, 0⟩] scope pos) 0 itv acc { cenv with scope := relabel scope X.env }) (RR acc cenv.locals) s4) E s3) E s := by
  obtain ⟨it, fp, tn, J, H2, e, I2, T, st2, f2, W, ⟨m0, w0⟩, turn⟩ := h
  subst e
  have fo := T.obj _ _ st2
  refine wpAny_newObj_type (wpAny_newFunctionEnv S.nocell (by intro y hy; cases hy) (fun h1 hns1 hsb1 => ?_) S.kind)
  dsimp only at hns1 hsb1 ⊢
  generalize hG : s.heap.push { cls := .type "list", dict := none, data := .seq ([] : List Value).toArray } = G at hns1 hsb1 ⊢
  have hGs : G.objs.size = s.heap.objs.size + 1 := by rw [← hG, Heap.size_push]
  have hDC : s.heap.objs.size ≠ G.objs.size := by rw [hGs]; exact Nat.ne_of_lt (Nat.lt_succ_self _)
  have ltG : ∀ b o, s.heap.get? b = some o → b ≠ G.objs.size := fun b o e => by rw [hGs]; exact Nat.ne_of_lt (Nat.lt_succ_of_lt (Heap.lt_size e))
  have leG : s.heap.objs.size ≤ G.objs.size := by rw [hGs]; exact Nat.le_succ _
  have old : ∀ b o, s.heap.get? b = some o → h1.get? b = some o := fun b o e =>
    (hsb1.2 b (ltG b o e)).trans (Heap.get?_push_of_some _ (hG ▸ Heap.get?_push_of_some _ e))
  have hacc : h1.get? s.heap.objs.size = some { cls := .type "list", data := .seq ([] : List Value).toArray } :=
    (hsb1.2 _ hDC).trans (Heap.get?_push_of_some _ (hG ▸ Heap.get?_push_size _ rfl))
  have I3 : Inv (cxComp X N' scope s H2 G.objs.size fp pins) [] (capt π σ) H2 { s with heap := h1, toks := s.toks + ([] : List (Str × Value)).length } :=
    comp_start S hc I2 f2 (fun b hb => let ⟨o, e, _⟩ := fo b hb; ⟨o, e⟩) old leG hns1
  have st3 : tn 0 h1 := T.keep _ _ _ st2 fun b _ o e => old b o e
  have dlt : ∀ b o, s.heap.get? b = some o → b ≠ s.heap.objs.size := fun b o e => Nat.ne_of_lt (Heap.lt_size e)
  have fpD : ∀ b ∈ fp, b ≠ s.heap.objs.size := fun b hb => let ⟨o, e, _⟩ := fo b hb; dlt b o e
  have celD : ∀ x c, (closOf X.env.cells scope.names []).lookup x = some c → c ≠ s.heap.objs.size ∧ ∀ b ∈ fp, c ≠ b := fun x c e => by
    have e1 := closOf_sub (fun y hy k => I2.ok.has y.1 (.inl (S.fr y hy k))) (fun p hp => absurd hp (by simp)) _ (PySem.mem_of_lookup e)
    obtain ⟨v, o, z, _⟩ := I2.cell x c e1
    exact ⟨dlt c o z, fun b hb => (f2 b hb).2.2.2.2.1 x c e1⟩
  have pnD : ∀ p ∈ X.pn ++ pins, p.1 ≠ s.heap.objs.size := fun p hp => dlt _ _ (I2.pin p hp).1
  have stkD : s.heap.objs.size ∉ frs X.stack := fun z => by
    obtain ⟨_, o, ho, _⟩ := I2.stack.mem z
    exact dlt _ _ ho rfl
  have fpS : ∀ b ∈ fp, b ∉ frs X.stack := fun b hb z => by
    rcases List.mem_cons.mp (I2.stkSub b z) with e | e
    · exact (f2 b hb).2.1 e
    · exact (f2 b hb).2.2.1 e
  have fpC : ∀ b ∈ fp, b ≠ G.objs.size := fun b hb => by
    obtain ⟨o, e, _⟩ := fo b hb
    exact ltG b o e
  -- the block's iterator, its list pinned
  have fpk : ∀ (ob : Obj) {H' : Hp}, (∀ b ∈ fp, H' b = none) → ∀ b ∈ fp, FpOk (cxComp X N' scope s H2 G.objs.size fp pins) [(s.heap.objs.size, ob)] H' b := fun ob H' hn b hb =>
    ⟨hn b hb, fpC b hb, fpS b hb, .inl hb, fun x c e => (celD x c e).2 b hb, fun p hp => by
      rcases List.mem_append.mp hp with z | z
      · exact (f2 b hb).2.2.2.2.2 p z
      · rw [List.mem_singleton.mp z]; exact (fpD b hb).symm⟩
  have pinD : ∀ {σ' : St} {H' : Hp} {s' : Shared} {its : List Value} {k : Nat}, Inv (cxComp X N' scope s H2 G.objs.size fp pins) [] σ' H' s' → H' s.heap.objs.size = none →
      s'.heap.get? s.heap.objs.size = some { cls := .type "list", data := .seq its.toArray k } → Inv (cxComp X N' scope s H2 G.objs.size fp pins) [(s.heap.objs.size, { cls := .type "list", data := .seq its.toArray k })] σ' H' s' :=
    fun {σ' H' s' its k} J hD ho => J.pins_of fun p hp => by
      rw [List.mem_singleton.mp hp]
      exact ⟨ho, hD, hDC, stkD, fun v z => by cases z⟩
  have main : codeAny (model X.prog X.w) X.A (.compLoop (.ListComp elt [⟨tg, iter, ifs, 0⟩] scope pos) 0 (.ref it) (.ref s.heap.objs.size) (compEnvC scope (closOf X.env.cells scope.names []) G.objs.size X.env)) (RR (.ref s.heap.objs.size) G.objs.size)
      { s with heap := h1, toks := s.toks + ([] : List (Str × Value)).length } := by
    refine comp_turns (fun n s' => ∃ i ys its k σ' H', Inv (cxComp X N' scope s H2 G.objs.size fp pins) [] σ' H' s' ∧ tn i s'.heap ∧ (∀ b ∈ fp, H' b = none) ∧ s'.heap.get? s.heap.objs.size = some { cls := .type "list", data := .seq its.toArray k } ∧ H' s.heap.objs.size = none ∧ Vals ys its ∧ ys.length ≤ sizeLine ∧ W i n ys σ' H') ?_ m0
      ⟨0, [], [], 0, capt π σ, H2, I3, st3, fun b hb => (f2 b hb).1, hacc, I2.hok.fresh (Nat.le_refl _), .nil, Nat.zero_le _, w0⟩
    rintro n s4 ⟨i, ys, its, k, σ4, H4, I4, st4, fr4, ho4, hD4, r4, z4, w4⟩
    have I4' := pinD I4 hD4 ho4
    rcases turn i n ys σ4 H4 w4 with ⟨stop, qn⟩ | ⟨go, hlen, N, hN, step⟩
    · refine thn (T.done (cxComp X N' scope s H2 G.objs.size fp pins) rfl rfl rfl hc i _ s4 σ4 H4 (fun _ _ => False) I4' (fpk _ fr4) st4 stop) fun r s5 ⟨hr, I5⟩ => ?_
      subst hr
      have p5 := I5.pin _ (List.mem_append_right _ (List.mem_singleton.mpr rfl))
      have I6 := comp_end I2 f2 I5 hD4 (Nat.le_refl _) p5.1 r4 z4
      refine hRR _ _ s5 _ I6 (qn _ hD4) (let ⟨m, hn, _⟩ := I5.loc; ⟨m, hn⟩) (I2.fpOk leG ?_)
      rw [upd_ne (Ne.symm hDC)]
      exact I5.free
    · refine thn (T.item (cxComp X N' scope s H2 G.objs.size fp pins) rfl rfl rfl hc i _ s4 σ4 H4 (fun _ _ => False) I4' (fpk _ fr4) st4 go) fun r s5 ⟨u, hr, h5⟩ => ?_
      subst hr
      refine thn h5 fun _ s6 ⟨x, H6, I6, r6, y6, st6, fr6⟩ => ?_
      have I6' := I6.pinned (fpk _ fr6) (T.obj _ _ st6)
      refine thn (hg _ _ _ _ _ _ s6 σ4 H6 x u _ I6' r6 (step x H6 y6)) fun _ s7 ⟨σ7, H7, I7, q7⟩ => ?_
      refine thn (ht _ _ _ _ _ _ s7 σ7 H7 _ I7 q7) fun ok s8 ⟨H8, I8, q8⟩ => ?_
      -- what stands behind the turn's code
      have rest : ∀ {s9 : Shared} {H9 : Hp}, Inv (cxComp X N' scope s H2 G.objs.size fp pins) ([(s.heap.objs.size, { cls := .type "list", data := .seq its.toArray k })] ++ pinsAt fp s6.heap) σ7 H9 s9 →
          s9.heap.get? s.heap.objs.size = some { cls := .type "list", data := .seq its.toArray k } ∧ H9 s.heap.objs.size = none ∧ (∀ b ∈ fp, ∀ o, s6.heap.get? b = some o → s9.heap.get? b = some o) ∧ ∀ b ∈ fp, H9 b = none := fun {s9 H9} I9 => by
        have p9 := I9.pin _ (List.mem_append_right _ (List.mem_append_left _ (List.mem_singleton.mpr rfl)))
        refine ⟨p9.1, p9.2.1, fun b hb o e => (I9.pin (b, o) (List.mem_append_right _ (List.mem_append_right _ (mem_pinsAt hb e)))).1, fun b hb => ?_⟩
        obtain ⟨o, e, _⟩ := T.obj _ _ st6 b hb
        exact (I9.pin (b, o) (List.mem_append_right _ (List.mem_append_right _ (mem_pinsAt hb e)))).2.1
      cases ok with
      | false =>
        obtain ⟨m', hm, w8⟩ := hN _ _ _ (show N ys σ7 H8 from q8)
        obtain ⟨a1, a2, a3, a4⟩ := rest I8
        exact ⟨m', hm, i + 1, ys, its, k, σ7, H8, I8.pins_of (fun p hp => by cases hp), T.keep _ _ _ st6 a3, a4, a1, a2, r4, z4, w8⟩
      | true =>
        refine thn (he _ _ _ _ _ _ s8 σ7 H8 _ I8 q8) fun y s9 ⟨v, H9, I9, r9, q9⟩ => ?_
        obtain ⟨m', hm, w9⟩ := hN _ _ _ q9
        obtain ⟨a1, a2, a3, a4⟩ := rest I9
        have hl : its.length = ys.length := r4.length.symm
        refine wpAny_list_append_plain (items := its.toArray) ⟨k, a1⟩ (fun h' hl' hs' => ?_) (by rw [List.size_toArray]; omega)
        obtain ⟨k', ho'⟩ := hl'
        have I10 : Inv (cxComp X N' scope s H2 G.objs.size fp pins) [] σ7 H9 { s9 with heap := h' } := (I9.pins_of (pins' := []) fun p hp => by cases hp).turned (t' := s9.toks) (it := s.heap.objs.size) (fun b o hb e => (hs'.2 b hb).trans e) a2 hDC (.inr (Nat.le_refl _))
          (fun x c e => (celD x c e).1) fun p hp => by
            rcases List.mem_append.mp hp with z | z
            · exact pnD p z
            · cases z
        refine ⟨m', hm, i + 1, ys ++ [v], its ++ [y], k', σ7, H9, I10, T.keep _ _ _ st6 fun b hb o e => (hs'.2 b (fpD b hb)).trans (a3 b hb o e), a4, ?_, a2, r4.append (.cons r9 .nil), by rw [List.length_append, List.length_singleton]; omega, w9⟩
        rw [show (its ++ [y]).toArray = its.toArray.push y by simp]
        exact ho'
  exact codeAny_compStart_list main (T.self _ 0 _ _ _ st3 main)

variable {spos pos' : Pos} {x : Str} {i : Nat}

theorem pe_comp (S : CompScope X.env.scope X.N scope N' π) (hc : X.calm = true) (hi : PI X tg iter wi) (hg : ∀ s H C fp pn, PG (cxComp X N' scope s H C fp pn) tg g) (ht : ∀ s H C fp pn, PIfs (cxComp X N' scope s H C fp pn) ifs tt)
    (he : ∀ s H C fp pn, PE (cxComp X N' scope s H C fp pn) elt te) (hs : ∀ x, foldedSetIterable iter X.env x = pure x := by intro _; rfl) : PE X (.ListComp elt [⟨tg, iter, ifs, 0⟩] scope pos) (tComp wi π g tt te) := by
  intro pins s σ H Q I h
  rw [eval_ListComp]
  refine wpAny_comprehension_free (use := none) rfl hs (clos_is fun y hy k => I.ok.has y.1 (.inl (S.fr y hy k))) S.kind S.loc (thn (hi pins s σ H _ I h) fun v s1 h1 => thn h1 fun itv s2 h2 => ?_)
  refine comp_block (RR := fun acc C => compPost (model X.prog X.w) X.A X.xe none (EP X pins σ Q) acc C) S hc hg ht he h2 fun D C s' H' I' q hn f => ?_
  obtain ⟨m, hn⟩ := hn
  exact ⟨m, hn, fun h' hs' => ⟨.ref D, H', I'.turned (t' := s'.toks) (it := C) (fun b o hb e => (hs'.2 b hb).trans e) f.1 f.2.1 f.2.2.2.1 f.2.2.2.2.1 f.2.2.2.2.2, rfl, q⟩⟩

/-- name = [..], the name a local of the def -/
theorem ps_setC (S : CompScope X.env.scope X.N scope N' π) (hc : X.calm = true) (hN : X.N.Nodup) (hix : X.N[i]? = some x) (hx : X.env.scope.names.lookup x = some .local) (hi : PI X tg iter wi) (hg : ∀ s H C fp pn, PG (cxComp X N' scope s H C fp pn) tg g)
    (ht : ∀ s H C fp pn, PIfs (cxComp X N' scope s H C fp pn) ifs tt) (he : ∀ s H C fp pn, PE (cxComp X N' scope s H C fp pn) elt te)
    (hsw : swapsWith (.ListComp elt [⟨tg, iter, ifs, 0⟩] scope pos) (some (.Name x pos')) spos.line X.env = pure true := by rfl) (hs : ∀ x, foldedSetIterable iter X.env x = pure x := by intro _; rfl) :
    PS X (.Assign [.Name x pos'] (.ListComp elt [⟨tg, iter, ifs, 0⟩] scope pos) spos) (tAsg (tComp wi π g tt te) (gName i)) := by
  intro pins s σ H D0 I h
  rw [exec_Assign_Name_used _ _ _ _ hsw]
  refine wpAny_bind (wpAny_standAt (wpAny_bind ?_))
  rw [arm_evalThenUse_ListComp]
  refine wpAny_bind (wpAny_mono (wpAny_comprehension_free (use := some (assign (.Name x pos') X.env)) (Q := fun _ s' => SP X pins D0 .next s') rfl hs (clos_is fun y hy k => I.ok.has y.1 (.inl (S.fr y hy k))) S.kind S.loc
    (thn (hi pins s σ H _ I h) fun v s1 h1 => thn h1 fun itv s2 h2 => ?_)) (fun _ s' hq => wpAny_pure (wpAny_pure hq)) fun _ _ e => e)
  refine comp_block (Q := fun x H1 => gName i x σ H1 D0.nx) (RR := fun acc C => compPost (model X.prog X.w) X.A X.xe (some (assign (.Name x pos') X.env)) (fun _ s' => SP X pins D0 .next s') acc C) S hc hg ht he h2 fun D C s' H' I' q hn f => ?_
  obtain ⟨m, hn⟩ := hn
  show wpAny _ _ (assign (.Name x pos') X.env (.ref D)) _ _ s'
  refine wpAny_assign_Name (store_ok2 I' hN hix (.inl hx) (v := .ref D) rfl (fun s'' I'' hch => ?_) (.inr hx))
  obtain ⟨a, hsb, ha⟩ := hch
  have haC : C ≠ a := by
    rcases ha with e | e
    · rw [e]; exact f.2.1
    · exact Ne.symm (f.2.2.2.2.1 x a e)
  refine ⟨m, hn.sameBut hsb haC, fun h' hs' => ⟨_, H', I''.turned (t' := s''.toks) (it := C) (fun b o hb e => (hs'.2 b hb).trans e) f.1 f.2.1 f.2.2.2.1 f.2.2.2.2.1 f.2.2.2.2.2, q⟩⟩
end
end L2

namespace L2
open PySem PySem.Spec PyProof.Rows

section
variable {X : Cx} {pins : List (Addr × Obj)} {σ : St} {H : Hp} {s : Shared} {h' : Heap} {ch : List Addr}

/-- records of ours have turned, and a tuple is laid behind the heap's end -/
theorem Inv.drew {T : Addr} {xs : List V} {its : List Value} {t' : Nat} (I : Inv X pins σ H s) (hf : ∀ b ∈ ch, FpOk X pins H b) (k : ∀ b o, b ∉ ch → s.heap.get? b = some o → h'.get? b = some o)
    (hT : s.heap.objs.size ≤ T) (r : Vals xs its) (ho : IsTup h' T its.toArray) (hz : xs.length ≤ sizeLine) : Inv X pins σ (upd H T (.tup xs)) { s with heap := h', toks := t' } := by
  have nT : ∀ b o, s.heap.get? b = some o → b ≠ T := fun b o e => Nat.ne_of_lt (Nat.lt_of_lt_of_le (Heap.lt_size e) hT)
  have hHT : H T = none := I.hok.fresh hT
  have ne : ∀ c u, H c = some u → c ≠ T := fun c u q z => by rw [z, hHT] at q; cases q
  have nch : ∀ c u, H c = some u → c ∉ ch := fun c u q z => by rw [(hf c z).1] at q; cases q
  refine I.step (g' := s.gens) (d' := s.drawn) (ch := ch) (fun b hb => ⟨(hf b hb).2.2.2.1, (hf b hb).2.1, (hf b hb).2.2.2.2.1, (hf b hb).2.2.2.2.2⟩) (fun b o _ _ hb e _ => k b o hb e) (fun b o _ _ hb e _ => ⟨o.slots, k b o hb e⟩)
    (fun b o hb e n => by rw [upd_ne (nT b o e)]; exact n) (fun b o hb e => ⟨o, k b o hb e⟩) (fun b ys q => by rw [upd_ne (ne _ _ q)]; exact q) (fun b o u q => by rw [upd_ne (ne _ _ q)]; exact q)
    (fun b ps q => ⟨#[], by rw [upd_ne (ne _ _ q)]; simpa using q⟩) (fun m hn => hn.at fun o e => k _ o (fun z => (hf _ z).2.1 rfl) e) ?_ I.bare
  intro b ob e
  by_cases hb : b = T
  · subst hb
    rw [upd_same] at e
    cases e
    exact ⟨hz, its, r, ho⟩
  · rw [upd_ne hb] at e
    refine (I.hok b ob e).stay (fun c u hc q => k c u ?_ q) (fun c q => by rw [upd_ne (ne _ _ q)]; exact q) fun c ys q => by rw [upd_ne (ne _ _ q)]; exact q
    rcases hc with rfl | hc
    · exact nch _ _ e
    · exact nch _ _ hc

/-- records of ours have turned -/
theorem Inv.turnedL {t' : Nat} (I : Inv X pins σ H s) (hf : ∀ b ∈ ch, FpOk X pins H b) (k : ∀ b o, b ∉ ch → s.heap.get? b = some o → h'.get? b = some o) : Inv X pins σ H { s with heap := h', toks := t' } := by
  have nch : ∀ c u, H c = some u → c ∉ ch := fun c u q z => by rw [(hf c z).1] at q; cases q
  refine I.step (g' := s.gens) (d' := s.drawn) (ch := ch) (fun b hb => ⟨(hf b hb).2.2.2.1, (hf b hb).2.1, (hf b hb).2.2.2.2.1, (hf b hb).2.2.2.2.2⟩) (fun b o _ _ hb e _ => k b o hb e) (fun b o _ _ hb e _ => ⟨o.slots, k b o hb e⟩)
    (fun b o hb e n => n) (fun b o hb e => ⟨o, k b o hb e⟩) (fun b ys q => q) (fun b o u q => q) (fun b ps q => ⟨#[], by simpa using q⟩) (fun m hn => hn.at fun o e => k _ o (fun z => (hf _ z).2.1 rfl) e) ?_ I.bare
  intro b ob e
  refine (I.hok b ob e).stay (fun c u hc q => k c u ?_ q) (fun c q => q) fun c ys q => q
  rcases hc with rfl | hc
  · exact nch _ _ e
  · exact nch _ _ hc
end

/-- the pairs of a list with their places -/
def Ite (K : PySem.W.Frag) (a : Addr) : It :=
  ⟨fun i H => ∃ xs x, SqL K H a xs ∧ xs[i]? = some x, fun i H x H' => ∃ T v, x = .ref T ∧ H T = none ∧ H' = upd H T (.tup [.int i, v]) ∧ ∀ xs, SqL K H a xs → xs[i]? = some v, fun i H => ∃ xs, SqL K H a xs ∧ xs.length ≤ i⟩

theorem turn_enum {P : Program} {w : World} {K : PySem.W.Frag} {elts : List Expr} {x1 : Nat} {tp : Pos} (a e it : Addr) (hei : e ≠ it) :
    Turn P w K (.Tuple elts x1 tp) (Ite K a) [e, it] e (fun i h => (∃ old, IsEnum h e it i old) ∧ h.IsListIter it a i) where
  mem := by simp
  obj := fun i h st b hb => by
    obtain ⟨⟨old, he⟩, o, ho, _, hd⟩ := st
    rcases List.mem_cons.mp hb with q | q
    · subst q
      exact ⟨_, he, fun v z => by cases z⟩
    · rw [List.mem_singleton.mp q]
      exact ⟨o, ho, fun v z => by rw [hd] at z; cases z⟩
  keep := fun i h h' st k => by
    obtain ⟨⟨old, he⟩, hit⟩ := st
    exact ⟨⟨old, k e (by simp) _ he⟩, hit.at fun o q => k it (by simp) o q⟩
  item := by
    intro X hP hw hK hc i pins s σ H E I hf st hg
    subst hP hw hK
    obtain ⟨⟨old, he⟩, hit⟩ := st
    obtain ⟨xs, x, hq, hx⟩ := hg
    obtain ⟨its, rv, p, hz⟩ := I.list hq
    obtain ⟨u, hu, ru⟩ := rv.get hx
    refine wpAny_pyNext_enum_item he hit p.isList (x := u) (by simpa using hu) hei fun h1 ho hit1 hT hsz hk => ?_
    have I1 : Inv X pins σ (upd H s.heap.objs.size (.tup [.int i, x])) { s with heap := h1, toks := s.toks + 1 } :=
      I.drew (ch := [e, it]) hf (fun b o hb q => hk b o (fun z => hb (by simp [z])) (fun z => hb (by simp [z])) q) (Nat.le_refl _) (its := [.int i s.toks, u]) (.cons ⟨_, rfl⟩ (.cons ru .nil)) ⟨_, hT, rfl, _, rfl⟩ (by show 2 ≤ sizeLine; decide)
    have hTn : H s.heap.objs.size = none := I.hok.fresh (Nat.le_refl _)
    have heT : e ≠ s.heap.objs.size := Nat.ne_of_lt (Heap.lt_size he)
    have hiT : it ≠ s.heap.objs.size := by obtain ⟨o, q, _⟩ := hit; exact Nat.ne_of_lt (Heap.lt_size q)
    refine ⟨_, rfl, wpAny_letOwnedTupleGo_enum ho fun h2 he2 hs2 => ?_⟩
    have f1 := hf e (by simp)
    have I2 : Inv X pins σ (upd H s.heap.objs.size (.tup [.int i, x])) { s with heap := h2, toks := s.toks + 1 } :=
      Inv.turned (s := { s with heap := h1, toks := s.toks + 1 }) I1 (t' := s.toks + 1) (it := e) (fun b o hb q => (hs2.2 b hb).trans q) (by rw [upd_ne heT]; exact f1.1) f1.2.1 f1.2.2.2.1 f1.2.2.2.2.1 f1.2.2.2.2.2
    refine ⟨.ref s.heap.objs.size, _, I2, rfl, ⟨_, x, rfl, hTn, rfl, fun ys hy => by rw [I.list_inj hy hq]; exact hx⟩, ⟨⟨_, by simpa using he2⟩, hit1.at fun o q => (hs2.2 it hei.symm).trans q⟩, fun b hb => ?_⟩
    rcases List.mem_cons.mp hb with q | q
    · rw [q, upd_ne heT]; exact f1.1
    · rw [List.mem_singleton.mp q, upd_ne hiT]; exact (hf it (by simp)).1
  done := by
    intro X hP hw hK hc i pins s σ H E I hf st hg
    subst hP hw hK
    obtain ⟨⟨old, he⟩, hit⟩ := st
    obtain ⟨xs, hq, hx⟩ := hg
    obtain ⟨its, rv, p, hz⟩ := I.list hq
    have hl := rv.length
    obtain ⟨f0, f1, f2, f3, f4, f5⟩ := hf it (by simp)
    exact wpAny_pyNext_enum_end (I.ok.hd hc) he hit p.isList (by simp; omega) fun h1 eb => ⟨rfl, I.turned (t' := s.toks) (fun b o hb q => eb b o hb q) f0 f1 f3 f4 f5⟩
  self := fun _ _ _ _ _ st h => by
    obtain ⟨⟨old, he⟩, _⟩ := st
    exact wpAny_pyIter_enum he h

/-- the pairs of two lists -/
def Itz (K : PySem.W.Frag) (a b : Addr) : It :=
  ⟨fun i H => ∃ xs ys x y, SqL K H a xs ∧ SqL K H b ys ∧ xs[i]? = some x ∧ ys[i]? = some y,
   fun i H x H' => ∃ T v w, x = .ref T ∧ H T = none ∧ H' = upd H T (.tup [v, w]) ∧ (∀ xs, SqL K H a xs → xs[i]? = some v) ∧ ∀ ys, SqL K H b ys → ys[i]? = some w,
   fun i H => ∃ xs ys, SqL K H a xs ∧ SqL K H b ys ∧ (xs.length ≤ i ∨ ys.length ≤ i)⟩

section
variable {X : Cx}
def iEnum (K : PySem.W.Frag) (ta : TA) : TI := fun σ H R => ta σ H fun vs H1 => ∃ a, vs = [.ref a] ∧ (∃ xs, SqL K H1 a xs) ∧ R (Ite K a) H1
theorem pi_enum {a : Expr} {ta : TA} {p pos tp : Pos} {elts : List Expr} {x1 : Nat} (hg : Gl X "enumerate") (hm : X.mg "enumerate" = none) (ha : PA X [a] ta) (hs : starEach [a] X.env = [(false, eval a X.env)] := by rfl) :
    PI X (.Tuple elts x1 tp) (.Call (.Name "enumerate" p) [a] [] pos) (iEnum X.K ta) := by
  intro pins s σ H R I h
  refine Call_ (ld_blt I hg hm boot_enumerate (PyProof.Rows.callWith_type1 (thn (ha pos pins s σ H _ I h) fun us s1 ⟨vs, H1, I1, r1, q1⟩ => ?_) hs rfl))
  obtain ⟨l, ev, ⟨xs, hq⟩, q⟩ := q1
  subst ev
  obtain ⟨u, rfl, ru⟩ := vals1 r1
  cases ru
  obtain ⟨its, rv, pl, hz⟩ := I1.list hq
  refine call_enumerate_list pl.isList fun h1 he hit hsz hk => ?_
  refine wpAny_pyIter_enum he ?_
  have I2 : Inv X pins σ H1 { s1 with heap := h1 } := I1.kept (t' := s1.toks) hk
  refine ⟨s1.heap.objs.size + 1, [s1.heap.objs.size + 1, s1.heap.objs.size], _, _, H1, rfl, I2, turn_enum l _ _ (Nat.succ_ne_self _), ⟨⟨_, he⟩, hit⟩, fun b hb => ?_, q⟩
  rcases List.mem_cons.mp hb with e | e
  · subst e
    exact I1.fpOk (Nat.le_succ _) (I1.hok.fresh (Nat.le_succ _))
  · rw [List.mem_singleton.mp e]
    exact I1.fpOk (Nat.le_refl _) (I1.hok.fresh (Nat.le_refl _))
end

theorem nolist (T : String) (h : T ≠ "list") : Value.type T = .type "list" → False := fun e => h (by injection e)
theorem nA {a b : Nat} (h : a < b ∨ b < a) : a ≠ b := by omega
theorem turn_zip {P : Program} {w : World} {K : PySem.W.Frag} {elts : List Expr} {x1 : Nat} {tp : Pos} (a b : Addr) (n : Nat) :
    Turn P w K (.Tuple elts x1 tp) (Itz K a b) [n + 4, n + 2, n + 3, n, n + 1] (n + 4)
      (fun i h => IsZip h (n + 4) (n + 2) (n + 3) .none ∧ IsPair h (n + 2) (.ref n) (.ref (n + 1)) ∧ (∃ u v, IsPair h (n + 3) u v) ∧ h.IsListIter n a i ∧ h.IsListIter (n + 1) b i) where
  mem := by simp
  obj := fun i h st c hc => by
    obtain ⟨h1, h2, ⟨u, v, h3⟩, ⟨o4, h4, _, d4⟩, ⟨o5, h5, _, d5⟩⟩ := st
    simp only [List.mem_cons, List.not_mem_nil, or_false] at hc
    rcases hc with q | q | q | q | q
    · rw [q]; exact ⟨_, h1, fun v z => by cases z⟩
    · rw [q]; exact ⟨_, h2, fun v z => by cases z⟩
    · rw [q]; exact ⟨_, h3, fun v z => by cases z⟩
    · rw [q]; exact ⟨_, h4, fun v z => by rw [d4] at z; cases z⟩
    · rw [q]; exact ⟨_, h5, fun v z => by rw [d5] at z; cases z⟩
  keep := fun i h h' st k => by
    obtain ⟨h1, h2, ⟨u, v, h3⟩, h4, h5⟩ := st
    exact ⟨k _ (by simp) _ h1, k _ (by simp) _ h2, ⟨u, v, k _ (by simp) _ h3⟩, h4.at fun o q => k _ (by simp) o q, h5.at fun o q => k _ (by simp) o q⟩
  item := by
    intro X hP hw hK hc i pins s σ H E I hf st hg
    subst hP hw hK
    obtain ⟨z1, z2, ⟨u0, v0, z3⟩, z4, z5⟩ := st
    obtain ⟨xs, ys, x, y, hq, hq', hx, hy⟩ := hg
    obtain ⟨its, rv, p, hz⟩ := I.list hq
    obtain ⟨its', rv', p', hz'⟩ := I.list hq'
    obtain ⟨u, hu, ru⟩ := rv.get hx
    obtain ⟨v, hv, rv2⟩ := rv'.get hy
    have apart : ∀ {l : Addr} {jts : List Value}, s.heap.IsList l jts.toArray → l ≠ n + 4 ∧ l ≠ n + 3 ∧ l ≠ n ∧ l ≠ n + 1 := fun {l jts} hl => by
      obtain ⟨o, ho, hcl, _⟩ := hl
      obtain ⟨o4, h4, c4, _⟩ := z4
      obtain ⟨o5, h5, c5, _⟩ := z5
      refine ⟨fun q => ?_, fun q => ?_, fun q => ?_, fun q => ?_⟩
      · rw [q, z1] at ho; cases ho; exact nolist _ (by decide) hcl
      · rw [q, z3] at ho; cases ho; exact nolist _ (by decide) hcl
      · rw [q, h4] at ho; cases ho; rw [c4] at hcl; exact nolist _ (by decide) hcl
      · rw [q, h5] at ho; cases ho; rw [c5] at hcl; exact nolist _ (by decide) hcl
    obtain ⟨a1, a2, a3, a4⟩ := apart p.isList
    obtain ⟨b1, b2, b3, b4⟩ := apart p'.isList
    have D : ZipApart (n + 4) (n + 2) (n + 3) n (n + 1) a b := ⟨nA (by omega), nA (by omega), nA (by omega), nA (by omega), nA (by omega), nA (by omega), nA (by omega), nA (by omega), nA (by omega), nA (by omega), a1, a2, a3, a4, b1, b2, b3, b4⟩
    refine wpAny_pyNext_zip_item D z1 z2 z3 z4 z5 p.isList p'.isList (x := u) (y := v) (by simpa using hu) (by simpa using hv) fun h1 ho hp h4' h5' hT hsz hk => ?_
    have I1 : Inv X pins σ (upd H s.heap.objs.size (.tup [x, y])) { s with heap := h1 } :=
      I.drew (t' := s.toks) (ch := [n + 4, n + 2, n + 3, n, n + 1]) hf (fun b o hb q => hk b o (fun z => hb (by simp [z])) (fun z => hb (by simp [z])) (fun z => hb (by simp [z])) (fun z => hb (by simp [z])) q) (Nat.le_refl _) (its := [u, v]) (.cons ru (.cons rv2 .nil)) ⟨_, hT, rfl, _, rfl⟩ (by show 2 ≤ sizeLine; decide)
    have hTn : H s.heap.objs.size = none := I.hok.fresh (Nat.le_refl _)
    have lt4 : n + 4 < s.heap.objs.size := Heap.lt_size z1
    refine ⟨_, rfl, wpAny_letOwnedTupleGo_zip ho fun h2 he2 hs2 => ?_⟩
    have f1 := hf (n + 4) (by simp)
    have I2 : Inv X pins σ (upd H s.heap.objs.size (.tup [x, y])) { s with heap := h2 } :=
      Inv.turned (s := { s with heap := h1 }) I1 (t' := s.toks) (it := n + 4) (fun b o hb q => (hs2.2 b hb).trans q) (by rw [upd_ne (Nat.ne_of_lt lt4)]; exact f1.1) f1.2.1 f1.2.2.2.1 f1.2.2.2.2.1 f1.2.2.2.2.2
    refine ⟨.ref s.heap.objs.size, _, I2, rfl, ⟨_, x, y, rfl, hTn, rfl, fun ys hy => by rw [I.list_inj hy hq]; exact hx, fun ys2 hy2 => by rw [I.list_inj hy2 hq']; exact hy⟩,
      ⟨he2, ?_, ⟨u, v, ?_⟩, h4'.at fun o q => (hs2.2 n (nA (by omega))).trans q, h5'.at fun o q => (hs2.2 (n + 1) (nA (by omega))).trans q⟩, fun b hb => ?_⟩
    · exact (hs2.2 (n + 2) (nA (by omega))).trans (hk _ _ (nA (by omega)) (nA (by omega)) (nA (by omega)) (nA (by omega)) z2)
    · exact (hs2.2 (n + 3) (nA (by omega))).trans hp
    · rw [upd_ne]
      · exact (hf b hb).1
      · simp only [List.mem_cons, List.not_mem_nil, or_false] at hb
        have lt4' : (n : Nat) + 4 < s.heap.objs.size := lt4
        rcases hb with q | q | q | q | q <;> rw [q] <;> exact nA (by omega)
  done := by
    intro X hP hw hK hc i pins s σ H E I hf st hg
    subst hP hw hK
    obtain ⟨z1, z2, ⟨u0, v0, z3⟩, z4, z5⟩ := st
    obtain ⟨xs, ys, hq, hq', hx⟩ := hg
    obtain ⟨its, rv, p, hz⟩ := I.list hq
    obtain ⟨its', rv', p', hz'⟩ := I.list hq'
    have hl := rv.length
    have hl' := rv'.length
    have apart : ∀ {l : Addr} {jts : List Value}, s.heap.IsList l jts.toArray → l ≠ n + 4 ∧ l ≠ n + 3 ∧ l ≠ n ∧ l ≠ n + 1 := fun {l jts} hl => by
      obtain ⟨o, ho, hcl, _⟩ := hl
      obtain ⟨o4, h4, c4, _⟩ := z4
      obtain ⟨o5, h5, c5, _⟩ := z5
      refine ⟨fun q => ?_, fun q => ?_, fun q => ?_, fun q => ?_⟩
      · rw [q, z1] at ho; cases ho; exact nolist _ (by decide) hcl
      · rw [q, z3] at ho; cases ho; exact nolist _ (by decide) hcl
      · rw [q, h4] at ho; cases ho; rw [c4] at hcl; exact nolist _ (by decide) hcl
      · rw [q, h5] at ho; cases ho; rw [c5] at hcl; exact nolist _ (by decide) hcl
    obtain ⟨a1, a2, a3, a4⟩ := apart p.isList
    obtain ⟨b1, b2, b3, b4⟩ := apart p'.isList
    have D : ZipApart (n + 4) (n + 2) (n + 3) n (n + 1) a b := ⟨nA (by omega), nA (by omega), nA (by omega), nA (by omega), nA (by omega), nA (by omega), nA (by omega), nA (by omega), nA (by omega), nA (by omega), a1, a2, a3, a4, b1, b2, b3, b4⟩
    refine wpAny_pyNext_zip_end (I.ok.hd hc) D z1 z2 z3 z4 z5 p.isList p'.isList ?_ fun h1 hk => ⟨rfl, I.turnedL (t' := s.toks) (ch := [n + 4, n + 2, n + 3, n, n + 1]) hf fun b o hb q => hk b o (fun z => hb (by simp [z])) (fun z => hb (by simp [z])) (fun z => hb (by simp [z])) (fun z => hb (by simp [z])) q⟩
    rcases hx with hx | hx
    · exact .inl (by simp; omega)
    · exact .inr (by simp; omega)
  self := fun _ _ _ _ _ st h => wpAny_pyIter_zip st.1 h

theorem boot_zip2 : bootBuiltins "zip" = some (.type "zip") := by decide +kernel
section
variable {X : Cx}
def iZip (K : PySem.W.Frag) (ta : TA) : TI := fun σ H R => ta σ H fun vs H1 => ∃ a b, vs = [.ref a, .ref b] ∧ (∃ xs, SqL K H1 a xs) ∧ (∃ ys, SqL K H1 b ys) ∧ R (Itz K a b) H1
theorem pi_zip {a b : Expr} {ta : TA} {p pos tp : Pos} {elts : List Expr} {x1 : Nat} (hg : Gl X "zip") (hm : X.mg "zip" = none) (ha : PA X [a, b] ta) (hs : starEach [a, b] X.env = [(false, eval a X.env), (false, eval b X.env)] := by rfl) (hs2 : starEach [b] X.env = [(false, eval b X.env)] := by rfl) :
    PI X (.Tuple elts x1 tp) (.Call (.Name "zip" p) [a, b] [] pos) (iZip X.K ta) := by
  intro pins s σ H R I h
  refine Call_ (ld_blt I hg hm boot_zip2 (PyProof.Rows.callWith_type1 (thn (ha pos pins s σ H _ I h) fun us s1 ⟨vs, H1, I1, r1, q1⟩ => ?_) (by rw [hs, hs2]) (by rw [hs2]; rfl)))
  obtain ⟨l, l', ev, ⟨xs, hq⟩, ⟨ys, hq'⟩, q⟩ := q1
  subst ev
  obtain ⟨u, u', rfl, ru, ru'⟩ := vals2 r1
  cases ru
  cases ru'
  obtain ⟨its, rv, pl, hz⟩ := I1.list hq
  obtain ⟨its', rv', pl', hz'⟩ := I1.list hq'
  refine call_zip_2 pl.isList pl'.isList fun h1 z1 z2 z3 z4 z5 hsz hk => ?_
  refine wpAny_pyIter_zip z1 ?_
  have I2 : Inv X pins σ H1 { s1 with heap := h1 } := I1.kept (t' := s1.toks) hk
  refine ⟨s1.heap.objs.size + 4, _, _, _, H1, rfl, I2, turn_zip l l' s1.heap.objs.size, ⟨z1, z2, ⟨_, _, z3⟩, z4, z5⟩, fun b hb => ?_, q⟩
  have hle : s1.heap.objs.size ≤ b := by
    simp only [List.mem_cons, List.not_mem_nil, or_false] at hb
    rcases hb with q | q | q | q | q <;> rw [q] <;> first | exact Nat.le_add_right _ _ | exact Nat.le_refl _
  exact I1.fpOk hle (I1.hok.fresh hle)
end

/-- what a loop's reading asks -/
abbrev ForW (J : It) (g : TG) (tb : TS) (D : Ends) (σ : St) (H : Hp) : Prop := ∃ W : Nat → Nat → St → Hp → Prop, (∃ m, W 0 m σ H) ∧ ∀ i m σ H, W i m σ H →
  (J.stop i H ∧ D.nx σ H) ∨ (J.go i H ∧ ∃ N : St → Hp → Prop, (∀ σ' H', N σ' H' → ∃ m', m' < m ∧ W (i + 1) m' σ' H') ∧ ∀ x H', J.yld i H x H' → g x σ H' fun σ2 H2 => tb { D with nx := N, ct := N, bk := D.nx } σ2 H2)
theorem for_enum {K : PySem.W.Frag} {a : Addr} {xs : List V} {g : TG} {tb : TS} {D : Ends} {σ : St} {H : Hp} (Pv : Nat → St → Hp → Prop) (h0 : Pv 0 σ H) (hl : ∀ i σ H, i ≤ xs.length → Pv i σ H → SqL K H a xs)
    (hs : ∀ i x σ H T, xs[i]? = some x → Pv i σ H → H T = none → g (.ref T) σ (upd H T (.tup [.int i, x])) fun σ2 H2 => tb { D with nx := Pv (i + 1), ct := Pv (i + 1), bk := D.nx } σ2 H2) (hd : ∀ σ H, Pv xs.length σ H → D.nx σ H) :
    ForW (Ite K a) g tb D σ H := by
  refine ⟨fun i m σ H => m = xs.length - i ∧ i ≤ xs.length ∧ Pv i σ H, ⟨xs.length, by simp, Nat.zero_le _, h0⟩, ?_⟩
  rintro i m σ H ⟨rfl, hi, p⟩
  have q := hl i σ H hi p
  by_cases hlt : i < xs.length
  · refine .inr ⟨⟨xs, xs[i], q, by simp [hlt]⟩, Pv (i + 1), fun σ' H' p' => ⟨xs.length - (i + 1), by omega, rfl, hlt, p'⟩, fun x H' y => ?_⟩
    obtain ⟨T, v, e, hT, e2, hv⟩ := y
    subst e e2
    exact hs i v σ H T (hv xs q) p hT
  · obtain rfl : i = xs.length := by omega
    exact .inl ⟨⟨xs, q, Nat.le_refl _⟩, hd σ H p⟩
theorem for_zip {K : PySem.W.Frag} {a b : Addr} {xs ys : List V} {g : TG} {tb : TS} {D : Ends} {σ : St} {H : Hp} (hlen : xs.length = ys.length) (Pv : Nat → St → Hp → Prop) (h0 : Pv 0 σ H) (hl : ∀ i σ H, i ≤ xs.length → Pv i σ H → SqL K H a xs ∧ SqL K H b ys)
    (hs : ∀ i x y σ H T, xs[i]? = some x → ys[i]? = some y → Pv i σ H → H T = none → g (.ref T) σ (upd H T (.tup [x, y])) fun σ2 H2 => tb { D with nx := Pv (i + 1), ct := Pv (i + 1), bk := D.nx } σ2 H2) (hd : ∀ σ H, Pv xs.length σ H → D.nx σ H) :
    ForW (Itz K a b) g tb D σ H := by
  refine ⟨fun i m σ H => m = xs.length - i ∧ i ≤ xs.length ∧ Pv i σ H, ⟨xs.length, by simp, Nat.zero_le _, h0⟩, ?_⟩
  rintro i m σ H ⟨rfl, hi, p⟩
  obtain ⟨q, q'⟩ := hl i σ H hi p
  by_cases hlt : i < xs.length
  · have hlt' : i < ys.length := by omega
    refine .inr ⟨⟨xs, ys, xs[i], ys[i], q, q', by simp [hlt], by simp [hlt']⟩, Pv (i + 1), fun σ' H' p' => ⟨xs.length - (i + 1), by omega, rfl, hlt, p'⟩, fun x H' y => ?_⟩
    obtain ⟨T, v, u, e, hT, e2, hv, hu⟩ := y
    subst e e2
    exact hs i v u σ H T (hv xs q) (hu ys q') p hT
  · obtain rfl : i = xs.length := by omega
    exact .inl ⟨⟨xs, ys, q, q', .inl (Nat.le_refl _)⟩, hd σ H p⟩

/-- what a comprehension's reading asks -/
abbrev CompW (J : It) (g : TG) (tt : TT) (te : TE) (Q : VK) (σ : St) (H : Hp) : Prop := ∃ W : Nat → Nat → List V → St → Hp → Prop, (∃ m, W 0 m [] σ H) ∧ ∀ i m ys σ' H', W i m ys σ' H' →
    (J.stop i H' ∧ ∀ D, H' D = none → Q (.ref D) (upd H' D (.lst ys))) ∨
    (J.go i H' ∧ ys.length < sizeLine ∧ ∃ N : List V → St → Hp → Prop, (∀ ys' σ2 H2, N ys' σ2 H2 → ∃ m', m' < m ∧ W (i + 1) m' ys' σ2 H2) ∧ ∀ x H2, J.yld i H' x H2 → g x σ' H2 fun σ2 H3 => tt σ2 H3 fun c H4 =>
      if c = true then te σ2 H4 fun y H5 => N (ys ++ [y]) σ2 H5 else N ys σ2 H4)
/-- a comprehension without a test of n turns: over a list, a range, places -/
theorem comp_by {J : It} {n : Nat} {g : TG} {te : TE} {Q : VK} {σ : St} {H : Hp} (hn : n ≤ 1000000) (Pv : Nat → List V → St → Hp → Prop) (h0 : Pv 0 [] σ H) (hlen : ∀ i ys σ H, Pv i ys σ H → ys.length = i)
    (hgo : ∀ i ys σ H, i < n → Pv i ys σ H → J.go i H) (hstop : ∀ ys σ H, Pv n ys σ H → J.stop n H)
    (hs : ∀ i ys σ H x H2, i < n → Pv i ys σ H → J.yld i H x H2 → g x σ H2 fun σ2 H3 => te σ2 H3 fun y H5 => Pv (i + 1) (ys ++ [y]) σ2 H5)
    (hd : ∀ ys σ H D, Pv n ys σ H → H D = none → Q (.ref D) (upd H D (.lst ys))) : CompW J g tNoIf te Q σ H := by
  refine ⟨fun i m ys σ H => m = n - i ∧ i ≤ n ∧ Pv i ys σ H, ⟨n, by simp, Nat.zero_le _, h0⟩, ?_⟩
  rintro i m ys σ H ⟨rfl, hi, p⟩
  by_cases hlt : i < n
  · exact .inr ⟨hgo i ys σ H hlt p, by rw [hlen _ _ _ _ p]; exact Nat.lt_of_lt_of_le hlt (Nat.le_trans hn (by decide)), fun ys' σ' H' => Pv (i + 1) ys' σ' H', fun ys' σ' H' p' => ⟨n - (i + 1), by omega, rfl, hlt, p'⟩, fun x H2 y => hs i ys σ H x H2 hlt p y⟩
  · obtain rfl : i = n := by omega
    exact .inl ⟨hstop ys σ H p, fun D hD => hd ys σ H D p hD⟩
/-- over range(n) -/
theorem comp_range {lo : Int} {n : Nat} {g : TG} {te : TE} {Q : VK} {σ : St} {H : Hp} (hn : n ≤ 1000000) (Pv : Nat → List V → St → Hp → Prop) (h0 : Pv 0 [] σ H) (hlen : ∀ i ys σ H, Pv i ys σ H → ys.length = i)
    (hs : ∀ i ys σ H, i < n → Pv i ys σ H → g (.int (lo + i)) σ H fun σ2 H3 => te σ2 H3 fun y H5 => Pv (i + 1) (ys ++ [y]) σ2 H5)
    (hd : ∀ ys σ H D, Pv n ys σ H → H D = none → Q (.ref D) (upd H D (.lst ys))) : CompW (Itr lo n) g tNoIf te Q σ H :=
  comp_by hn Pv h0 hlen (fun i _ _ _ h _ => h) (fun _ _ _ _ => Nat.le_refl n) (fun i ys σ H x H2 h p y => by obtain ⟨e, e2⟩ := y; subst e e2; exact hs i ys σ _ h p) hd
/-- over a list that stays -/
theorem comp_list {K : PySem.W.Frag} {a : Addr} {xs : List V} {g : TG} {te : TE} {Q : VK} {σ : St} {H : Hp} (hn : xs.length ≤ 1000000) (Pv : Nat → List V → St → Hp → Prop) (h0 : Pv 0 [] σ H) (hlen : ∀ i ys σ H, Pv i ys σ H → ys.length = i)
    (hl : ∀ i ys σ H, i ≤ xs.length → Pv i ys σ H → SqL K H a xs)
    (hs : ∀ i ys σ H x, xs[i]? = some x → Pv i ys σ H → g x σ H fun σ2 H3 => te σ2 H3 fun y H5 => Pv (i + 1) (ys ++ [y]) σ2 H5)
    (hd : ∀ ys σ H D, Pv xs.length ys σ H → H D = none → Q (.ref D) (upd H D (.lst ys))) : CompW (Itl K a) g tNoIf te Q σ H :=
  comp_by hn Pv h0 hlen (fun i ys σ H h p => ⟨xs, xs[i], hl i ys σ H (Nat.le_of_lt h) p, by simp [h]⟩) (fun ys σ H p => ⟨xs, hl _ ys σ H (Nat.le_refl _) p, Nat.le_refl _⟩)
    (fun i ys σ H x H2 h p y => by obtain ⟨e, y⟩ := y; subst e; exact hs i ys σ _ x (y xs (hl i ys σ _ (Nat.le_of_lt h) p)) p) hd
/-- over enumerate(list) -/
theorem comp_enum {K : PySem.W.Frag} {a : Addr} {xs : List V} {g : TG} {te : TE} {Q : VK} {σ : St} {H : Hp} (hn : xs.length ≤ 1000000) (Pv : Nat → List V → St → Hp → Prop) (h0 : Pv 0 [] σ H) (hlen : ∀ i ys σ H, Pv i ys σ H → ys.length = i)
    (hl : ∀ i ys σ H, i ≤ xs.length → Pv i ys σ H → SqL K H a xs)
    (hs : ∀ i ys σ H x T, xs[i]? = some x → Pv i ys σ H → H T = none → g (.ref T) σ (upd H T (.tup [.int i, x])) fun σ2 H3 => te σ2 H3 fun y H5 => Pv (i + 1) (ys ++ [y]) σ2 H5)
    (hd : ∀ ys σ H D, Pv xs.length ys σ H → H D = none → Q (.ref D) (upd H D (.lst ys))) : CompW (Ite K a) g tNoIf te Q σ H :=
  comp_by hn Pv h0 hlen (fun i ys σ H h p => ⟨xs, xs[i], hl i ys σ H (Nat.le_of_lt h) p, by simp [h]⟩) (fun ys σ H p => ⟨xs, hl _ ys σ H (Nat.le_refl _) p, Nat.le_refl _⟩)
    (fun i ys σ H x H2 h p y => by obtain ⟨T, v, e, hT, e2, hv⟩ := y; subst e e2; exact hs i ys σ _ v T (hv xs (hl i ys σ _ (Nat.le_of_lt h) p)) p hT) hd
end L2

namespace L2
open PySem PySem.Spec PyProof.Rows
/-- writes no dict of an object, frees nothing, calls nothing -/
def Kd {α : Type} : Sem α → Prop
  | .pure _ => True
  | .raise _ => True
  | .unsupported _ => True
  | .finish _ => True
  | .rule _ k => Kd (k ())
  | .at _ k => Kd (k ())
  | .load _ _ k => ∀ o, Kd (k o)
  | .update _ _ f k => (∀ o, (f o).dict = o.dict ∧ (f o).isFreed = o.isFreed) ∧ Kd (k ())
  | .alloc _ k => ∀ a, Kd (k a)
  | .loadIfAlive _ k => ∀ o, Kd (k o)
  | .point _ k => Kd (k ())
  | .register _ _ => False
  | .fresh k => ∀ t, Kd (k t)
  | .ask k => ∀ x, Kd (k x)
  | .choose _ _ k => ∀ x, Kd (k x)
  | .os _ _ _ => False
  | .call _ _ _ _ _ => False
  | .handled _ k => ∀ x, Kd (k x)
  | .newGen _ _ => False
  | .genState _ _ => False
  | .resume _ _ _ _ => False
  | .yield _ _ _ _ => False
  | .stack k => ∀ x, Kd (k x)
  | .fork _ _ => False
  | .thread k => ∀ x, Kd (k x)
  | .await _ _ _ _ _ => False
theorem Kd.bind {α β : Type} {m : Sem α} {f : α → Sem β} (hm : Kd m) (hf : ∀ a, Kd (f a)) : Kd (m >>= f) := by
  show Kd (m.bind f)
  induction m with
  | pure a => exact hf a
  | raise e => trivial
  | unsupported w => trivial
  | finish e => trivial
  | rule t k ih => exact ih () hm
  | «at» p k ih => exact ih () hm
  | load a p k ih => exact fun o => ih o (hm o)
  | update a p g k ih => exact ⟨hm.1, ih () hm.2⟩
  | alloc o k ih => exact fun a => ih a (hm a)
  | loadIfAlive a k ih => exact fun o => ih o (hm o)
  | point l k ih => exact ih () hm
  | register a k ih => exact hm
  | fresh k ih => exact fun t => ih t (hm t)
  | ask k ih => exact fun x => ih x (hm x)
  | choose s n k ih => exact fun x => ih x (hm x)
  | os q l k ih => exact hm
  | call c h g l k ih => exact hm
  | handled o k ih => exact fun x => ih x (hm x)
  | newGen c k ih => exact hm
  | genState g k ih => exact hm
  | resume g r l k ih => exact hm
  | yield v g l k ih => exact hm
  | stack k ih => exact fun x => ih x (hm x)
  | fork c k ih => exact hm
  | thread k ih => exact fun x => ih x (hm x)
  | await a t d l k ih => exact hm
/-- the object at e has the dict d -/
def DictIs (e : Addr) (d : Option Addr) (s : Shared) : Prop := ∃ o, s.heap.get? e = some o ∧ o.dict = d
theorem DictIs.push {e : Addr} {d : Option Addr} {s : Shared} (o : Obj) (h : DictIs e d s) : DictIs e d { s with heap := s.heap.push o } := by
  obtain ⟨u, hu, hd⟩ := h
  exact ⟨u, Heap.get?_push_of_some _ hu, hd⟩
theorem get_notFreed {h : Heap} {a : Addr} {o : Obj} (e : h.get? a = some o) : o.isFreed = false := by
  unfold Heap.get? at e
  split at e
  · cases e
  · rename_i x hx
    obtain ⟨c, d, dt, sl⟩ := o
    cases dt <;> first | rfl | skip
    exact (hx c d sl e).elim
theorem DictIs.update {e a : Addr} {d : Option Addr} {s : Shared} {f : Obj → Obj} (hf : ∀ o, (f o).dict = o.dict ∧ (f o).isFreed = o.isFreed) (h : DictIs e d s) : DictIs e d { s with heap := s.heap.update a f } := by
  obtain ⟨u, hu, hd⟩ := h
  by_cases ea : a = e
  · subst ea
    exact ⟨f u, Heap.get?_update_self f hu (by rw [(hf u).2]; exact get_notFreed hu), (hf u).1.trans hd⟩
  · exact ⟨u, (Heap.get?_update_other _ f ea).trans hu, hd⟩
theorem wp_kd {α : Type} {M : Model} {Γ : PySem.Ctx} {Q : α → Pos → Shared → Prop} {E : Value → Pos → Shared → Prop} {e : Addr} {d : Option Addr} (t : Sem α) : ∀ {p : Pos} {s : Shared}, Kd t → Sem.wp M Γ t Q E p s → DictIs e d s →
    Sem.wp M Γ t (fun a p s' => Q a p s' ∧ DictIs e d s') (fun x p s' => E x p s' ∧ DictIs e d s') p s := by
  induction t with
  | pure a => intro p s _ h i; rw [Sem.wp] at h ⊢; exact ⟨h, i⟩
  | raise x => intro p s _ h i; rw [Sem.wp] at h ⊢; exact ⟨h, i⟩
  | unsupported w => intro p s _ h i; rw [Sem.wp] at h; exact h.elim
  | finish x => intro p s _ h i; rw [Sem.wp] at h; exact h.elim
  | rule t k ih => intro p s hk h i; rw [Sem.wp] at h ⊢; exact ih () hk h i
  | «at» q k ih => intro p s hk h i; rw [Sem.wp] at h ⊢; exact ih () hk h i
  | load a q k ih => intro p s hk h i; rw [Sem.wp] at h ⊢; obtain ⟨o, e1, h⟩ := h; exact ⟨o, e1, ih o (hk o) h i⟩
  | update a q g k ih => intro p s hk h i; rw [Sem.wp] at h ⊢; exact ⟨h.1, ih () hk.2 h.2 (i.update hk.1)⟩
  | alloc o k ih => intro p s hk h i; rw [Sem.wp] at h ⊢; exact ih _ (hk _) h (i.push o)
  | loadIfAlive a k ih => intro p s hk h i; rw [Sem.wp] at h ⊢; exact ih _ (hk _) h i
  | point l k ih => intro p s hk h i; rw [Sem.wp] at h ⊢; exact ih () hk h i
  | register a k ih => intro p s hk; exact hk.elim
  | fresh k ih => intro p s hk h i; rw [Sem.wp] at h ⊢; exact ih _ (hk _) h i
  | ask k ih => intro p s hk h i; rw [Sem.wp] at h ⊢; exact ih _ (hk _) h i
  | choose q n k ih => intro p s hk h i; rw [Sem.wp] at h ⊢; exact ⟨h.1, ih _ (hk _) h.2 i⟩
  | os q l k ih => intro p s hk; exact hk.elim
  | call c h g l k ih => intro p s hk; exact hk.elim
  | handled o k ih => intro p s hk h i; rw [Sem.wp] at h ⊢; exact ih _ (hk _) h i
  | newGen c k ih => intro p s hk; exact hk.elim
  | genState g k ih => intro p s hk; exact hk.elim
  | resume g r l k ih => intro p s hk; exact hk.elim
  | yield v g l k ih => intro p s hk; exact hk.elim
  | stack k ih => intro p s hk h i; rw [Sem.wp] at h ⊢; exact ih _ (hk _) h i
  | fork c k ih => intro p s hk; exact hk.elim
  | thread k ih => intro p s hk h i; rw [Sem.wp] at h ⊢; exact ih _ (hk _) h i
  | await a t d l k ih => intro p s hk; exact hk.elim
theorem wpAny_kd {α : Type} {M : Model} {A : Around} {t : Sem α} {Q : α → Shared → Prop} {E : Value → Shared → Prop} {e : Addr} {d : Option Addr} {s : Shared} (hk : Kd t) (i : DictIs e d s) (h : wpAny M A t Q E s) :
    wpAny M A t (fun a s' => Q a s' ∧ DictIs e d s') (fun x s' => E x s' ∧ DictIs e d s') s := fun Γ p hΓ => wp_kd t hk (h Γ p hΓ) i
theorem kd_load (a : Addr) : Kd (load a) := fun _ => trivial
theorem kd_field (v : Value) (i : Nat) : Kd (field v i) := by
  unfold field fieldsOf
  refine Kd.bind ?_ fun vs => ?_
  · cases v <;> first | trivial | skip
    refine Kd.bind (kd_load _) fun o => ?_
    split <;> trivial
  · split <;> trivial
theorem mapFields_kd (f : Array Value → Array Value) (o : Obj) : (Obj.mapFields f o).dict = o.dict ∧ (Obj.mapFields f o).isFreed = o.isFreed := by
  obtain ⟨c, d, dt, sl⟩ := o
  cases dt <;> exact ⟨rfl, rfl⟩
theorem kd_setField (v : Value) (i : Nat) (x : Value) : Kd (setField v i x) := by
  unfold setField updateField
  cases v <;> first | trivial | skip
  refine Kd.bind (kd_load _) fun o => ?_
  split
  · split
    · exact ⟨mapFields_kd _, trivial⟩
    · trivial
  · trivial
theorem kd_setFlight (e : Value) (x : Option Addr) : Kd (setFlight e x) := by
  unfold setFlight
  refine Kd.bind (kd_field _ _) fun tb => ?_
  split
  · exact kd_setField _ _ _
  · trivial
theorem kd_stack : Kd (stack : Sem (List (Code × Pos))) := fun _ => trivial
theorem kd_readyFrames : ∀ l : List Env, Kd (readyFrames l)
  | [] => trivial
  | env :: outer => by
    unfold readyFrames
    split
    · refine Kd.bind (kd_load _) fun o => ?_
      split
      · trivial
      · refine Kd.bind ?_ fun _ => Kd.bind ?_ fun _ => Kd.bind ?_ fun _ => kd_readyFrames outer
        · unfold behindIsImport
          split
          · trivial
          · split
            · trivial
            · exact Kd.bind (kd_field _ _) fun _ => trivial
        · unfold keptBack
          split
          · split
            · trivial
            · exact Kd.bind (Kd.bind kd_stack fun _ => trivial) fun _ => trivial
          · trivial
        · exact ⟨fun o => ⟨rfl, by obtain ⟨c, d, dt, sl⟩ := o; cases dt <;> rfl⟩, trivial⟩
    · trivial
theorem kd_frameOf (env : Env) : Kd (PySem.frameOf env) := by
  unfold PySem.frameOf
  refine Kd.bind (Kd.bind kd_stack fun _ => trivial) fun l => Kd.bind ?_ fun o => ?_
  · unfold frameObject
    split
    · trivial
    · exact Kd.bind (kd_readyFrames _) fun _ => trivial
  · split <;> trivial
theorem kd_entryPlaceOf (f : Addr) (b : Bool) : Kd (entryPlaceOf f b) := by
  unfold entryPlaceOf
  refine Kd.bind kd_stack fun l => ?_
  split <;> trivial
theorem kd_made (x : String) (d : Data) : Kd (newObjAsIs (.type x) d none) := fun _ => trivial
theorem kd_newEntry (a b c d e : Value) (l : List Value) : Kd (EntryCells.newEntry a b c d e l) := by
  unfold EntryCells.newEntry newFields newObj
  dsimp only
  split <;> split <;> first | exact True.intro | exact kd_made _ _
theorem kd_noteFrame (e : Value) (env : Env) : Kd (noteFrame e env) := by
  unfold noteFrame
  split
  · refine Kd.bind (kd_field _ _) fun head => ?_
    have fin : ∀ (f : Addr) (b : Bool), Kd (do let a ← PySem.frameOf env; let pl ← entryPlaceOf f b; let x ← EntryCells.newEntry head a .none (rawInt f) .none pl; setField e 1 x) := fun f b =>
      Kd.bind (kd_frameOf env) fun _ => Kd.bind (kd_entryPlaceOf _ _) fun _ => Kd.bind (kd_newEntry _ _ _ _ _ _) fun _ => kd_setField _ _ _
    split
    · refine Kd.bind (kd_field _ _) fun x => ?_
      split
      · trivial
      · exact Kd.bind (kd_setField _ _ _) fun _ => fin _ _
    · exact fin _ _
  · trivial
theorem kd_leaving (env : Env) (e : Value) : Kd (leaving env e) := Kd.bind (kd_noteFrame e env) fun _ => kd_setFlight _ _
end L2

namespace L2
open PySem PySem.Spec PyProof.Rows

/-- an exception of the class cls stands at a, its traceback behind it; neither was there in h₀ -/
def Flies (h₀ : Heap) (H : Hp) (a : Addr) (cls : Value) (da : Option Addr) (h : Heap) : Prop :=
  ∃ oe vs T oT ts a0, h.get? a = some oe ∧ oe.cls = cls ∧ oe.data = .fields vs ∧ vs[0]? = some a0 ∧ vs[1]? = some (.ref T) ∧ T ≠ a ∧ h.get? T = some oT ∧ oT.data = .fields ts ∧ ts[3]? = some .none ∧
    h₀.get? a = none ∧ h₀.get? T = none ∧ H a = none ∧ H T = none ∧ oe.dict = da
/-- how an exception lies behind a call -/
def CXf (P : Program) (w : World) : CXT := fun outer H s E e s' => ∃ a cls da H', e = .ref a ∧ E cls da H' ∧ s'.os = s.os ∧ AllBare s'.gens ∧ Un (frs outer) [] H H' s.heap s'.heap ∧ HOk P w H' s'.heap ∧ Flies s.heap H' a cls da s'.heap
theorem passE0 {P : Program} {w : World} {X : Cx} : Passes (CXf P w) X E0 := fun _ _ _ _ _ _ _ ⟨_, _, _, _, _, f, _⟩ => f.elim

/-- the context of a def's body -/
structure IsDef (X : Cx) : Prop where
  st : X.stack = X.env :: X.outer
  fr : X.env.frame = some X.env.locals
  ex : X.ex = []

/-- a record of the exception: no one else's -/
def FlyOk (X : Cx) (pins : List (Addr × Obj)) (H : Hp) (b : Addr) : Prop :=
  H b = none ∧ X.s₀.heap.get? b = none ∧ b ≠ X.env.locals ∧ (∀ x c, X.env.cells.lookup x = some c → c ≠ b) ∧ ∀ p ∈ X.pn ++ pins, p.1 ≠ b

section
variable {X : Cx} {pins : List (Addr × Obj)} {σ : St} {H : Hp} {s : Shared} {h' : Heap} {bad : List Addr}

theorem ns_slots {h h' : Heap} {a : Addr} {m : Str → Option Value} (hn : h.Ns a m) (k : ∀ o, h.get? a = some o → ∃ q, h'.get? a = some { o with slots := q }) : h'.Ns a m := by
  obtain ⟨o, es, ep, e, r⟩ := hn
  obtain ⟨q, e'⟩ := k o e
  exact ⟨_, es, ep, e', r⟩
theorem cell_slots {h h' : Heap} {c : Addr} {v : Option Value} (z : h.IsCell c v) (k : ∀ o, h.get? c = some o → ∃ q, h'.get? c = some { o with slots := q }) : h'.IsCell c v := by
  obtain ⟨o, e, d⟩ := z
  obtain ⟨q, e'⟩ := k o e
  exact ⟨_, e', d⟩

/-- an exception has passed: the frames' slots and the records at bad may have changed -/
theorem Inv.fly (I : Inv X pins σ H s) (k : ∀ b o, s.heap.get? b = some o → b ∉ bad → b ∉ frs X.stack → h'.get? b = some o) (sl : ∀ b o, s.heap.get? b = some o → b ∈ frs X.stack → ∃ q, h'.get? b = some { o with slots := q })
    (hb : ∀ b ∈ bad, FlyOk X pins H b) : Inv X pins σ H { s with heap := h' } := by
  have any : ∀ b o, s.heap.get? b = some o → b ∉ bad → ∃ q, h'.get? b = some { o with slots := q } := fun b o e nb => by
    by_cases hf : b ∈ frs X.stack
    · exact sl b o e hf
    · exact ⟨o.slots, k b o e nb hf⟩
  have fsub : ∀ b, b ∈ X.fs → b ∈ frs X.stack := fun b hb => by
    rcases I.ok.stk with e | ⟨e, _⟩
    · rw [e]; exact hb
    · rw [e]
      obtain ⟨env, he, hf⟩ := List.mem_filterMap.mp hb
      exact List.mem_filterMap.mpr ⟨env, List.mem_cons_of_mem _ he, hf⟩
  have old : ∀ b o, X.s₀.heap.get? b = some o → b ∉ bad := fun b o e z => by rw [(hb b z).2.1] at e; cases e
  have nst : ∀ b o, X.s₀.heap.get? b = some o → b ∉ X.fs → b ∉ frs X.stack := fun b o e nf z => by
    rcases List.mem_cons.mp (I.stkSub b z) with q | q
    · exact Nat.ne_of_lt (Nat.lt_of_lt_of_le (Heap.lt_size e) I.ok.above) q
    · exact nf q
  obtain ⟨m, hn, hl⟩ := I.loc
  have hL : X.env.locals ∉ bad := fun z => (hb _ z).2.2.1 rfl
  have hC : ∀ x c, X.env.cells.lookup x = some c → c ∉ bad := fun x c e z => (hb _ z).2.2.2.1 x c e rfl
  refine ⟨I.ok, I.os, I.bare, ⟨fun b o e n nf nx => k b o (I.base.keep b o e n nf nx) (old b o e) (nst b o e nf), fun b o e n hf nx => ?_, I.base.free, fun b o e nx => ?_, I.base.tups, I.base.frzs, I.base.tbls⟩,
    ⟨m, ns_slots hn fun o e => any _ o e hL, fun i x v e1 e2 e3 => ?_⟩, fun x c e => ?_, I.free, I.freeC, fun p hp => ?_, ?_, I.len⟩
  · obtain ⟨q, e1⟩ := I.base.slot b o e n hf nx
    obtain ⟨q2, e2⟩ := sl b _ e1 (fsub b hf)
    exact ⟨q2, e2⟩
  · obtain ⟨o1, e1⟩ := I.base.there b o e nx
    obtain ⟨q, e2⟩ := any b o1 e1 (old b o e)
    exact ⟨_, e2⟩
  · obtain ⟨u, ru, q⟩ := hl i x v e1 e2 e3
    refine ⟨u, ru, ?_⟩
    rcases q with q | ⟨kk, c, e, z⟩
    · exact .inl q
    · exact .inr ⟨kk, c, e, cell_slots z fun o e' => any c o e' (hC x c e)⟩
  · obtain ⟨v, z⟩ := I.cell x c e
    exact ⟨v, cell_slots z fun o e' => any c o e' (hC x c e)⟩
  · obtain ⟨e, n, ne, nf, d⟩ := I.pin p hp
    refine ⟨k _ _ e (fun z => (hb _ z).2.2.2.2 p hp rfl) fun z => ?_, n, ne, nf, d⟩
    rcases List.mem_cons.mp (I.stkSub _ z) with q | q
    · exact ne q
    · exact nf q
  · intro b ob e
    have good : ∀ c u, H c = some u → c ∉ bad ∧ c ∉ frs X.stack := fun c u q => ⟨fun z => (by rw [(hb c z).1] at q; cases q), fun z => (by rw [I.stkFree c z] at q; cases q)⟩
    refine (I.hok b ob e).stay (fun c u hc q => ?_) (fun _ q => q) fun _ _ q => q
    rcases hc with rfl | hc
    · exact k _ u q (good _ _ e).1 (good _ _ e).2
    · exact k _ u q (good _ _ hc).1 (good _ _ hc).2

/-- the hidden base: all but the frames and the exception's records -/
abbrev bareOf (h : Heap) (l : List Addr) : Heap := PySem.W.hideAll h l

/-- an exception that stands at a in X's frame: its records are no one's -/
structure XIn (X : Cx) (pins : List (Addr × Obj)) (σ : St) (H : Hp) (a : Addr) (cls : Value) (da : Option Addr) (s : Shared) : Prop where
  inv : Inv X pins σ H s
  fl : ∃ oe vs T oT ts a0, s.heap.get? a = some oe ∧ oe.cls = cls ∧ oe.data = .fields vs ∧ vs[0]? = some a0 ∧ vs[1]? = some (.ref T) ∧ T ≠ a ∧ s.heap.get? T = some oT ∧ oT.data = .fields ts ∧ ts[3]? = some .none ∧
    FlyOk X pins H a ∧ FlyOk X pins H T ∧ oe.dict = da

theorem objOk_there {P : Program} {w : World} {h : Heap} {a : Addr} {o : HO} (x : ObjOk P w H h a o) : ∃ ob, h.get? a = some ob := by
  cases o with
  | lst _ => exact let ⟨_, _, _, _, e⟩ := x; ⟨_, e⟩
  | tup _ => exact let ⟨_, _, _, _, e, _⟩ := x; ⟨_, e⟩
  | dK _ => exact let ⟨_, _, _, _, _, _, _, e, _⟩ := x; ⟨_, e⟩
  | dT _ => exact let ⟨_, _, _, _, _, _, _, e, _⟩ := x; ⟨_, e⟩
  | set _ _ => exact let ⟨_, _, _, _, e, _⟩ := x; ⟨_, e⟩
  | ins _ _ _ => exact let ⟨_, _, _, e, _⟩ := x; ⟨_, e⟩
  | own _ => exact x
  | xd _ => exact let ⟨_, ⟨_, _, _, e, _⟩, _⟩ := x; ⟨_, e⟩
  | rng _ _ => exact let ⟨_, _, _, e⟩ := x; ⟨_, e⟩
  | frz _ _ => exact ⟨_, x.1⟩
  | tbl _ => exact ⟨_, x⟩
  | met _ _ => exact ⟨_, x⟩
  | ext _ => exact x.2.1
theorem untracked_of {P : Program} {w : World} {h : Heap} {b : Addr} (ok : HOk P w H h) (e : h.get? b = none) : H b = none := by
  cases q : H b with
  | none => rfl
  | some u =>
    obtain ⟨ob, z⟩ := objOk_there (ok b u q)
    rw [e] at z
    cases z

theorem none_old (I : Inv X pins σ H s) (d : IsDef X) {b : Addr} (e : s.heap.get? b = none) : X.s₀.heap.get? b = none := by
  cases q : X.s₀.heap.get? b with
  | none => rfl
  | some o =>
    obtain ⟨o', e'⟩ := I.base.there b o q (by rw [d.ex]; simp)
    rw [e] at e'; cases e'

/-- what is new behind a state of the body is no one's there -/
theorem flyOk_new (I : Inv X pins σ H s) (d : IsDef X) {H' : Hp} {b : Addr} (e : s.heap.get? b = none) (hn : H' b = none) : FlyOk X pins H' b := by
  refine ⟨hn, none_old I d e, fun q => ?_, fun x c hc q => ?_, fun p hp q => ?_⟩
  · obtain ⟨m, ⟨o, _, _, ho, _⟩, _⟩ := I.loc
    rw [← q, e] at ho; cases ho
  · obtain ⟨v, o, ho, _⟩ := I.cell x c hc
    rw [q, e] at ho; cases ho
  · have := (I.pin p hp).1
    rw [q, e] at this; cases this

/-- an exception has come out of a call -/
theorem XIn.ofCall {E : XK} {e : Value} {s' : Shared} (d : IsDef X) (I : Inv X pins σ H s) (h : CXf X.prog X.w X.stack H s E e s') : ∃ a cls da H', e = .ref a ∧ E cls da H' ∧ XIn X pins σ H' a cls da s' := by
  obtain ⟨a, cls, da, H', ee, hE, hos, hg, un, hok, oe, vs, T, oT, ts, a0, f1, f2, f3, f4, f5, f6, f7, f8, f9, n1, n2, n3, n4, n5⟩ := h
  exact ⟨a, cls, da, H', ee, hE, I.call' (ch := []) hos un hok hg (fun b z => absurd z (by simp)), oe, vs, T, oT, ts, a0, f1, f2, f3, f4, f5, f6, f7, f8, f9, flyOk_new I d n1 n3, flyOk_new I d n2 n4, n5⟩

theorem frames_hide {h base : Heap} {l : List Env} {as : List Addr} (hl : h.FunFrames base l) (hin : ∀ b ∈ frs l, b ∈ as) : h.FunFrames (bareOf h as) l :=
  PySem.W.funFrames_hide hl fun env he b hb => hin b (List.mem_filterMap.mpr ⟨env, he, hb⟩)

/-- its records, hidden -/
theorem XIn.flying {a : Addr} {cls : Value} {da : Option Addr} (x : XIn X pins σ H a cls da s) : ∃ T a0, (∀ b ∈ [a, T], FlyOk X pins H b) ∧ DictIs a da s ∧ Heap.FlyingW (bareOf s.heap ([a, T] ++ frs X.stack)) X.stack a cls a0 s.heap := by
  obtain ⟨I, oe, vs, T, oT, ts, a0, f1, f2, f3, f4, f5, f6, f7, f8, f9, n1, n2, n3⟩ := x
  refine ⟨T, a0, fun b hb => ?_, ⟨oe, f1, n3⟩, fun b o q => PySem.W.of_hideAll _ q, PySem.W.hideAll_none _ (by simp), frames_hide I.stack (fun b hb => by simp [hb]), oe, vs, T, oT, ts, f1, ⟨f2, f4⟩, f3, f5, PySem.W.hideAll_none _ (by simp), f6, f7, f8, f9⟩
  simp only [List.mem_cons, List.not_mem_nil, or_false] at hb
  rcases hb with rfl | rfl
  · exact n1
  · exact n2

/-- the record that a traceback begins with -/
theorem traceback_ok {T' : Addr} {ts : Array Value} {oT : Obj} {bad : List Addr} (I : Inv X pins σ H s) (d : IsDef X) (hb : ∀ b ∈ bad, FlyOk X pins H b) (slot : ∀ b o, s.heap.get? b = some o → b ∈ frs X.stack → ∃ q, h'.get? b = some { o with slots := q })
    (bT : (bareOf s.heap (bad ++ frs X.stack)).get? T' = none) (f7 : h'.get? T' = some oT) (f8 : oT.data = .fields ts) : FlyOk X pins H T' := by
  cases e : s.heap.get? T' with
  | none => exact flyOk_new I d e (untracked_of I.hok e)
  | some o =>
    have hm : T' ∈ bad ++ frs X.stack := by
      refine Classical.byContradiction fun hn => ?_
      rw [PySem.W.hideAll_get _ e hn] at bT
      cases bT
    rcases List.mem_append.mp hm with hm | hm
    · exact hb _ hm
    · obtain ⟨_, o', e', nf⟩ := I.stack.mem hm
      obtain ⟨q, e2⟩ := slot T' o' e' hm
      rw [f7] at e2
      cases e2
      exact absurd f8 (nf ts)

theorem slot_of (I : Inv X pins σ H s) (up : s.heap.UpToSlots h') : ∀ b o, s.heap.get? b = some o → b ∈ frs X.stack → ∃ q, h'.get? b = some { o with slots := q } := fun b o e hb => by
  obtain ⟨_, o', e', nf⟩ := I.stack.mem hb
  rw [e] at e'; cases e'
  exact up b o e nf

/-- behind a step of the exception's way: the body's state, the exception's place again -/
theorem XIn.on {a : Addr} {cls a0 : Value} {da : Option Addr} {l : List Env} {bad : List Addr} (x : Inv X pins σ H s) (d : IsDef X) (hb : ∀ b ∈ bad, FlyOk X pins H b) (ha : a ∈ bad)
    (hf : Heap.FlyingW (bareOf s.heap (bad ++ frs X.stack)) l a cls a0 h') (up : s.heap.UpToSlots h') (hd : DictIs a da { s with heap := h' }) : XIn X pins σ H a cls da { s with heap := h' } := by
  obtain ⟨st, _, fr, oe, vs, T', oT, ts, f1, ⟨f2, f4⟩, f3, f5, bT, f6, f7, f8, f9⟩ := hf
  have slot := slot_of x up
  have keep : ∀ b o, s.heap.get? b = some o → b ∉ bad → b ∉ frs X.stack → h'.get? b = some o := fun b o e nb nf => st b o (PySem.W.hideAll_get _ e (by
    rw [List.mem_append, not_or]
    exact ⟨nb, nf⟩))
  obtain ⟨o2, e2, hd2⟩ := hd
  have e3 : some oe = some o2 := f1.symm.trans e2
  cases e3
  exact ⟨x.fly (bad := bad) keep slot hb, oe, vs, T', oT, ts, a0, f1, f2, f3, f4, f5, f6, f7, f8, f9, hb a ha, traceback_ok (bad := bad) x d hb slot bT f7 f8, hd2⟩

/-- .. and the frame -/
theorem XIn.leave {E : XK} {a : Addr} {cls : Value} {da : Option Addr} (d : IsDef X) (x : XIn X pins σ H a cls da s) (hE : E cls da H) : CXf X.prog X.w X.outer X.H₀ X.s₀ E (.ref a) s := by
  obtain ⟨I, oe, vs, T, oT, ts, a0, f1, f2, f3, f4, f5, f6, f7, f8, f9, n1, n2, n3⟩ := x
  refine ⟨a, cls, da, H, rfl, hE, I.os, I.bare, ?_, I.hok, oe, vs, T, oT, ts, a0, f1, f2, f3, f4, f5, f6, f7, f8, f9, n1.2.1, n2.2.1, n1.1, n2.1, n3⟩
  have u := I.base
  rw [d.ex] at u
  exact u
end

/-- a new exception meets the body's wish -/
def Lands (X : Cx) (E : XK) : Prop := ∀ (pins : List (Addr × Obj)) (σ : St) (H : Hp) (s : Shared) (a : Addr) (cls : Value) (da : Option Addr) (oe : Obj) (vs : Array Value) (a0 : Value), Inv X pins σ H s → s.heap.get? a = some oe → oe.cls = cls → oe.data = .fields vs → vs[1]? = some .none → vs[0]? = some a0 → oe.dict = da →
  FlyOk X pins H a → E cls da H → X.xe (.ref a) s

section
variable {P : Program} {w : World} {K : PySem.W.Frag} {mg : Str → Option Value} {base : Heap} {N : List Str} {qual : Str} {scope : Scope} {f : Addr} {cd : Value} {A : Around} {outer : List Env} {s : Shared} {H : Hp} {E : XK}
theorem isDef_cxOf : IsDef (cxOf (CXf P w) P w K mg base N qual scope f cd A outer s H E) := ⟨rfl, rfl, rfl⟩
theorem passX : Passes (CXf P w) (cxOf (CXf P w) P w K mg base N qual scope f cd A outer s H E) E := by
  intro pins σ H1 s1 e s' I h
  obtain ⟨a, cls, da, H', rfl, hE, x⟩ := XIn.ofCall isDef_cxOf I h
  obtain ⟨T, a0, hb, hd, fl⟩ := x.flying
  have z := wpAny_kd (M := model P w) (E := fun _ _ => False) (kd_leaving _ (.ref a)) hd (wpAny_leaves_onW (Q := fun _ s2 => ∃ h', s2 = { s' with heap := h' } ∧ Heap.FlyingW (bareOf s'.heap ([a, T] ++ frs (cxOf (CXf P w) P w K mg base N qual scope f cd A outer s H E).stack)) outer a cls a0 h' ∧ s'.heap.UpToSlots h') x.inv.ok.frames rfl fl fun h' f2 up => ⟨h', rfl, f2, up⟩)
  refine wpAny_mono z (fun _ s2 q => ?_) (fun _ _ q => q.1.elim)
  obtain ⟨⟨h', rfl, f2, up⟩, hd2⟩ := q
  exact XIn.leave isDef_cxOf (XIn.on x.inv isDef_cxOf hb (by simp) f2 up hd2) hE
theorem landX : Lands (cxOf (CXf P w) P w K mg base N qual scope f cd A outer s H E) E := by
  intro pins σ H1 s1 a cls da oe vs a0 I he hc hd h1 h0 hda na hE
  subst hc
  have hb : ∀ b ∈ [a], FlyOk (cxOf (CXf P w) P w K mg base N qual scope f cd A outer s H E) pins H1 b := fun b z => by rw [List.mem_singleton.mp z]; exact na
  have hen : (bareOf s1.heap ([a] ++ frs (cxOf (CXf P w) P w K mg base N qual scope f cd A outer s H E).stack)).get? a = none := PySem.W.hideAll_none _ (by simp)
  have z := wpAny_kd (M := model P w) (E := fun _ _ => False) (kd_leaving _ (.ref a)) (show DictIs a da s1 from ⟨oe, he, hda⟩) (wpAny_leaving_firstW (base := bareOf s1.heap ([a] ++ frs (cxOf (CXf P w) P w K mg base N qual scope f cd A outer s H E).stack)) (Q := fun _ s2 => ∃ h', s2 = { s1 with heap := h' } ∧ Heap.FlyingW (bareOf s1.heap ([a] ++ frs (cxOf (CXf P w) P w K mg base N qual scope f cd A outer s H E).stack)) outer a oe.cls a0 h' ∧ s1.heap.UpToSlots h') I.ok.frames (frames_hide I.stack fun b hb => List.mem_append_right _ hb) rfl he (fun b o q => PySem.W.of_hideAll _ q) hen hd h1 h0
    fun h' ⟨k1, ⟨_, _, k2⟩, k3, k4⟩ => ⟨h', rfl, ⟨k1, hen, k2, k3⟩, k4⟩)
  refine wpAny_mono z (fun _ s2 q => ?_) (fun _ _ q => q.1.elim)
  obtain ⟨⟨h', rfl, f2, up⟩, hd2⟩ := q
  exact XIn.leave isDef_cxOf (XIn.on I isDef_cxOf hb (by simp) f2 up hd2) hE
theorem ownX : PassesOwn (model P w) (cxOf (CXf P w) P w K mg base N qual scope f cd A outer s H E).A (cxOf (CXf P w) P w K mg base N qual scope f cd A outer s H E).env (cxOf (CXf P w) P w K mg base N qual scope f cd A outer s H E).xe := PassesOwn.leaving
end

/-- an own class of exceptions under ValueError, without an __init__ -/
def ExcCls (K : PySem.W.Frag) (C : Addr) : Prop := PySem.W.excIn K C [.type "ValueError", .type "Exception", .type "BaseException", .type "object"] "ValueError.__new__" = true

theorem excObj {K : PySem.W.Frag} {h : Heap} {C : Addr} (X : K.In h) (q : ExcCls K C) : ∃ bm N nm qn bs hdct sn sub ab col dd k0 k1 k2 k3 k5 mN, h.get? C = some (excClassObj nm qn C N bs bm hdct sn sub ab col dd k0 k1 k2 k3 k5 "ValueError.__new__") ∧ h.Ns N mN ∧ mN "__init__" = none ∧
    OwnTail h [.type "ValueError", .type "Exception", .type "BaseException", .type "object"] bm := by
  unfold ExcCls PySem.W.excIn at q
  split at q
  · rename_i dd cd sl ho
    split at q
    · rename_i C' bm k0 k1 k2 k3 n k5 hm hs
      simp only [Bool.and_eq_true, beq_iff_eq, Bool.not_eq_true'] at q
      obtain ⟨⟨⟨⟨⟨rfl, rfl⟩, hdel⟩, ht⟩, hok⟩, hni⟩ := q
      obtain ⟨nm, bs, mro, ns, qn, hd, sn, sub, ab, col, del⟩ := cd
      dsimp only at hm hdel hok hni
      subst hm hdel
      have hsl : sl = #[k0, k1, k2, k3, some (.builtin "ValueError.__new__"), k5] := by
        obtain ⟨l⟩ := sl
        simp only at hs
        rw [hs]
      subst hsl
      exact ⟨bm, ns, nm, qn, bs, hd, sn, sub, ab, col, dd, k0, k1, k2, k3, k5, _, X _ _ ho, .of_isNs (PySem.W.isNs_of_in X hok), PySem.W.nsMap_none_of_in X hok hni, PySem.W.tail_of_in X ht⟩
    · cases q
  · cases q

def tRaise (t : TA) (C : Addr) (E : XK) : TS := fun _ σ H => t σ H fun vs H1 => vs.length ≤ 10 ∧ E (.ref C) none H1
section
variable {X : Cx}
theorem ps_raise (d : IsDef X) {x : Str} {np cpos pos : Pos} {e : Expr} {es : List Expr} {t : TA} {C : Addr} {E : XK} (O : ExcCls X.K C) (hc : X.calm = true) (hE : Lands X E) (hg : Gl X x) (hm : X.mg x = some (.ref C)) (ha : PA X (e :: es) t)
    (he : starEach (e :: es) X.env = (false, eval e X.env) :: starEach es X.env := by rfl) (hpl : (backTo cpos (starEach es X.env)).any (·.1) = false := by rfl) (hdb : (x == ("__debug__" : Str)) = false := by decide) :
    PS X (.Raise (some (.Call (.Name x np) (e :: es) [] cpos)) none pos) (tRaise t C E) := by
  intro pins s σ H D I h
  obtain ⟨bm, N, nm, qn, bs, hdct, sn, sub, ab, col, dd, k0, k1, k2, k3, k5, mN, hC, hN, hni, TL⟩ := excObj I.kIn O
  refine wpAny_Raise_call_subT (C := C) (nm := nm) (q := qn) (N := N) (bs := bs) (bm := bm) (hdct := hdct) (sn := sn) (sub := sub) (ab := ab) (col := col) (dd := dd) (k0 := k0) (k1 := k1) (k2 := k2) (k3 := k3) (k5 := k5) (mN := mN)
    PySem.F.excBase_ValueError (TL.hasType PySem.F.excBase_ValueError.hasBase) (I.ok.hd hc) ?_ hni (ld_glob I hg hm ⟨rfl, ?_⟩ hdb)
  · rw [he]
    show (false || (backTo cpos (starEach es X.env)).any (·.1)) = false
    rw [hpl]; rfl
  · have ha' := ha cpos pins s σ H _ I h
    rw [he] at ha' ⊢
    refine Calls.evalArgs_plain (wpAny_mono ha' (fun us s2 q => ?_) fun _ _ y => y)
    obtain ⟨vs, H2, I2, r, hlen, hEE⟩ := q
    obtain ⟨bm', N', nm', qn', bs', hdct', sn', sub', ab', col', dd', k0', k1', k2', k3', k5', mN', hC', hN', hni', TL'⟩ := excObj I2.kIn O
    have kb : ∀ b o, X.base.get? b = some o → s2.heap.get? b = some o := I2.bk
    obtain ⟨bm1, N1, nm1, qn1, bs1, hdct1, sn1, sub1, ab1, col1, dd1, k01, k11, k21, k31, k51, mN1, hC1, hN1, hni1, TL1⟩ := excObj I.ok.mod.kin O
    have e1 := (I.bk _ _ hC1).symm.trans hC
    injection e1 with e1
    injection e1 with c1 c2 c3 c4
    injection c3 with c3
    injection c3 with d1 d2 d3 d4 d5 d6 d7 d8 d9 d10 d11
    subst d4
    injection d3 with d31 d32
    subst d32
    have hmN : mN = mN1 := by
      obtain ⟨o1, es1, ep1, ho1, hd1, hk1, hf1⟩ := hN
      obtain ⟨o2, es2, ep2, ho2, hd2, hk2, hf2⟩ := hN1
      have := I.bk _ _ ho2
      rw [ho1] at this
      cases this
      rw [hd1] at hd2
      cases hd2
      funext n
      rw [← hf1, ← hf2]
    subst hmN
    refine ⟨rfl, ?_, ?_, hN1.keeps kb, TL1.keeps kb, fun h1 a hx => ?_⟩
    · have := r.length
      exact Nat.le_trans (by omega : us.length ≤ 10) (by decide)
    · have h0 := I.bk _ _ hC1
      rw [hC] at h0
      have h1 := kb _ _ hC1
      rw [← h0] at h1
      exact h1
    · obtain ⟨t0, he, htn, ht⟩ := hx.there
      exact hE pins σ H2 { s2 with heap := h1 } a _ none _ _ (.ref t0) (I2.kept (t' := s2.toks) hx.keeps) he rfl rfl rfl rfl rfl (flyOk_new I2 d hx.new (untracked_of I2.hok hx.new)) hEE
end

section
variable {P : Program} {w : World} {K : PySem.W.Frag} {mg : Str → Option Value} {base : Heap}
theorem Fun.okX {x qual : Str} {st : Stmt} {f : Addr} {fd : FuncData} {N ps : List Str} {k : Nat} {sp : Sp} (F : Fun K x qual st f fd) (S : FnScope N ps (defScope st)) (len : ∀ vs H Q E, sp vs H Q E → vs.length = ps.length)
    (hbody : ∀ (cdv : Value) (A : Around) (outer : List Env) (s : Shared) (H : Hp) (vs : List V) (Q : VK) (E : XK), Room k (A.deeper (envOfC qual (defScope st) s.heap.objs.size f cdv)) → sp vs H Q E →
      ∃ t, PSs (cxOf (CXf P w) P w K mg base N qual (defScope st) f cdv A outer s H E) (defBody st) t ∧ t { nx := fun _ H' => Q .non H', rt := Q } (start N vs) H) : FnOk P w K mg base (CXf P w) (k + 1) f fd ps sp := by
  obtain ⟨oc, od, kV, doc, pm, an, cdv, ct, osl, rfl, lk, hcd⟩ := F.ex
  exact fn_of lk hcd S len fun A outer s H vs Q E hr hsp => hbody cdv A outer s H vs Q E hr hsp
end
end L2

namespace L2
open PySem PySem.Spec PyProof.Rows
section
variable {X : Cx}
/-- isinstance(x, T), T a built-in type -/
theorem call_isinst : CallR X (.builtin "isinstance") (fun xs H Q => ∃ x n t b, xs = [x, .ty n] ∧ TyOf X.K H x t ∧ PySem.W.kitOne X.K t (.type n) = some b ∧ Q (.bl b) H) := by
  intro pins s σ H xs us Q I r h
  obtain ⟨x, n, t, b, rfl, ty, e, q⟩ := h
  obtain ⟨u, w, rfl, ru, rw'⟩ := vals2 r
  cases rw'
  exact isinst_ok I ru ty e fun tk => ⟨.bl b, H, I.tok tk, rfl, q⟩
def rEqL (K : PySem.W.Frag) (neg : Bool) : R2 := fun x y H Q => ∃ (a b : Addr) (ns ms : List Int), x = .ref a ∧ y = .ref b ∧ SqL K H a (ns.map V.int) ∧ SqL K H b (ms.map V.int) ∧ Q (.bl (if neg then !decide (ns = ms) else decide (ns = ms))) H
theorem op_neL (hu : X.A.units + 64 < cLine) : OpR X (compareOp .NotEq) (rEqL X.K true) := by
  intro pins s σ H x y v u Q I rx ry h
  obtain ⟨a, b, ns, ms, rfl, rfl, ha, hb, q⟩ := h
  cases rx
  cases ry
  obtain ⟨its, r1, p1, _⟩ := I.list ha
  obtain ⟨jts, r2, p2, _⟩ := I.list hb
  exact PySem.W.ne_intsK p1.isList (intsAre_of r1) p2.isList (intsAre_of r2) hu ⟨.bl _, H, I, rfl, q⟩
theorem call_sumL (hc : X.calm = true) : CallR X (.builtin "sum") (fun xs H Q => ∃ (a : Addr) (ns : List Int), xs = [.ref a] ∧ SqL X.K H a (ns.map V.int) ∧ Q (.int ns.sum) H) := by
  intro pins s σ H xs us Q I r h
  obtain ⟨a, ns, rfl, hq, q⟩ := h
  obtain ⟨u, rfl, ru⟩ := vals1 r
  cases ru
  obtain ⟨its, rv, p, _⟩ := I.list hq
  have hi := intsAre_of rv
  obtain ⟨ys, e⟩ := hi.allInts.items
  have hl := p.isList
  rw [e] at hl
  refine sum_intListG (I.ok.hd hc) hl fun h' tk t' hk => ⟨.int ns.sum, H, I.kept hk, ⟨t', ?_⟩, q⟩
  have e2 : ns = ys.toList.map (·.1) := by rw [← hi.numsOf, ← nums_intItems, ← e]
  rw [preSum_eq, List.take_of_length_le (by simp), e2]
def rBest (K : PySem.W.Frag) (R : Int → Int → Prop) : List V → Hp → VK → Prop := fun xs H Q => ∃ (a : Addr) (ns : List Int), xs = [.ref a] ∧ SqL K H a (ns.map V.int) ∧ 0 < ns.length ∧ ∀ M, M ∈ ns → (∀ x ∈ ns, R x M) → Q (.int M) H
/-- all, any of a list of bools -/
theorem bools_walk {prog : Program} {w : World} {A : Around} {bs : List Bool} {its : List Value} (r : Vals (bs.map V.bl) its) : TruthOf prog w A (fun i v => its.toArray[i]? = some v) (fun i => bs.getD i false) := by
  intro i v s Q E hv hq
  have hv' : its[i]? = some v := by simpa using hv
  have hl := r.length
  rw [List.length_map] at hl
  have hi : i < bs.length := by rw [hl]; exact (List.getElem?_eq_some_iff.mp hv').1
  obtain ⟨u, hu, ru⟩ := r.get (i := i) (x := V.bl (bs[i])) (by rw [List.getElem?_map, List.getElem?_eq_getElem hi]; rfl)
  rw [hv'] at hu
  cases hu
  cases ru
  have e : bs.getD i false = bs[i] := by rw [List.getD_eq_getElem?_getD, List.getElem?_eq_getElem hi]; rfl
  simp only [e] at hq
  exact wpAny_pure hq
theorem range_all {bs : List Bool} : (List.range bs.length).all (fun i => bs.getD i false) = bs.all id := by
  have e : (List.range bs.length).map (fun i => bs.getD i false) = bs := by
    apply List.ext_getElem?
    intro i
    rw [List.getElem?_map]
    by_cases h : i < bs.length
    · rw [List.getElem?_range h, List.getElem?_eq_getElem h]
      simp [List.getD_eq_getElem?_getD, h]
    · rw [List.getElem?_eq_none (by simpa using h), List.getElem?_eq_none (by simpa using h)]
      rfl
  conv => rhs; rw [← e]
  rw [List.all_map]
  rfl
theorem call_allL (hc : X.calm = true) : CallR X (.builtin "all") (fun xs H Q => ∃ (a : Addr) (bs : List Bool), xs = [.ref a] ∧ SqL X.K H a (bs.map V.bl) ∧ Q (.bl (bs.all id)) H) := by
  intro pins s σ H xs us Q I r h
  obtain ⟨a, bs, rfl, hq, q⟩ := h
  obtain ⟨u, rfl, ru⟩ := vals1 r
  cases ru
  obtain ⟨its, rv, p, _⟩ := I.list hq
  have hlen : its.length = bs.length := by have := rv.length; rw [List.length_map] at this; exact this.symm
  have hlt : a < s.heap.objs.size := by obtain ⟨o, e, _⟩ := p.isList; exact Heap.lt_size e
  refine call_all_walk (wpAny_pyIter_list p.isList ?_)
  refine ⟨_, _, _, _, _, _, fun i => bs.getD i false, rfl, Walks.list (A := X.A.in1) (I.ok.hd hc) s.heap.objs.size a (Nat.ne_of_lt hlt) its.toArray, ⟨⟨_, Heap.get?_push_size _ rfl, rfl, rfl⟩, p.isList.at fun o e => Heap.get?_push_of_some _ e⟩, bools_walk rv, fun h' tk hk => ?_⟩
  refine ⟨.bl (bs.all id), H, I.kept fun b o e => hk b o (fun z => ?_) (Heap.get?_push_of_some _ e), ?_, q⟩
  · rw [List.mem_singleton.mp z] at e
    exact absurd (Heap.lt_size e) (Nat.lt_irrefl _)
  · show Value.bool _ = Value.bool _
    rw [List.size_toArray, hlen, range_all]
end
/-- what a built-in type is of another -/
theorem kit_int_int {K : PySem.W.Frag} : PySem.W.kitOne K (.type "int") (.type "int") = some true := by rfl
theorem kit_int_bool {K : PySem.W.Frag} : PySem.W.kitOne K (.type "int") (.type "bool") = some false := by rfl
theorem kit_list_list {K : PySem.W.Frag} : PySem.W.kitOne K (.type "list") (.type "list") = some true := by rfl
end L2

namespace L2
open PySem PySem.Spec PyProof.Rows

/-- the def x of the text keeps its promise -/
def Ok (P : Program) (w : World) (K : PySem.W.Frag) (mg : Str → Option Value) (base : Heap) (x : Str) (ps : List Str) (k : Nat) (sp : Sp) : Prop :=
  ∃ f fd, FnOk P w K mg base (CXf P w) k f fd ps sp ∧ mg x = some (.ref f) ∧ PySem.W.keepIn K (.ref f) = true ∧ Binds K fd ps []
/-- the def x stands in the text -/
structure Has (K : PySem.W.Frag) (mg : Str → Option Value) (x : Str) (st : Stmt) (ps : List Str) (f : Addr) (fd : FuncData) : Prop where
  fn : Fun K x x st f fd
  bd : Binds K fd ps []
  at_ : mg x = some (.ref f)
/-- no name of the text hides these -/
structure Blt (mg : Str → Option Value) : Prop where
  len_ : mg "len" = none
  range_ : mg "range" = none
  enumerate_ : mg "enumerate" = none
  zip_ : mg "zip" = none
  isinstance_ : mg "isinstance" = none
  int_ : mg "int" = none
  bool_ : mg "bool" = none
  list_ : mg "list" = none
  tuple_ : mg "tuple" = none
  all_ : mg "all" = none
  any_ : mg "any" = none
  sum_ : mg "sum" = none
  max_ : mg "max" = none
  min_ : mg "min" = none
  abs_ : mg "abs" = none
  sorted_ : mg "sorted" = none
theorem bt_len : bootBuiltins "len" = some (.builtin "len") := by decide +kernel
theorem bt_isinstance : bootBuiltins "isinstance" = some (.builtin "isinstance") := by decide +kernel
theorem bt_all : bootBuiltins "all" = some (.builtin "all") := by decide +kernel
theorem bt_sum : bootBuiltins "sum" = some (.builtin "sum") := by decide +kernel
theorem bt_int : bootBuiltins "int" = some (.type "int") := by decide +kernel
theorem bt_bool : bootBuiltins "bool" = some (.type "bool") := by decide +kernel
theorem bt_list : bootBuiltins "list" = some (.type "list") := by decide +kernel
theorem bt_tuple : bootBuiltins "tuple" = some (.type "tuple") := by decide +kernel
def GInt (mg : Str → Option Value) (x : Str) (i : Int) : Prop := ∃ t, mg x = some (.int i t)

section
variable {P : Program} {w : World} {K : PySem.W.Frag} {mg : Str → Option Value} {base : Heap}
theorem Has.ok {x : Str} {st : Stmt} {ps : List Str} {f : Addr} {fd : FuncData} {N : List Str} {k : Nat} {sp : Sp} (h : Has K mg x st ps f fd) (S : FnScope N ps (defScope st)) (len : ∀ vs H Q E, sp vs H Q E → vs.length = ps.length)
    (hbody : ∀ (cdv : Value) (A : Around) (outer : List Env) (s : Shared) (H : Hp) (vs : List V) (Q : VK) (E : XK), Room k (A.deeper (envOfC x (defScope st) s.heap.objs.size f cdv)) → sp vs H Q E →
      ∃ t, PSs (cxOf (CXf P w) P w K mg base N x (defScope st) f cdv A outer s H E) (defBody st) t ∧ t { nx := fun _ H' => Q .non H', rt := Q } (start N vs) H) : Ok P w K mg base x ps (k + 1) sp :=
  ⟨f, fd, h.fn.okX S len hbody, h.at_, h.fn.kp, h.bd⟩
end

section
variable {X : Cx} {k : Nat} {ps : List Str} {sp : Sp} {E : XK} {x y c : Str} {p pos apos cpos py np hpos : Pos} {e : Expr} {es : List Expr} {t : TA} {i : Nat} {C : Addr} {b0 : Stmt} {suite : List Stmt} {ts : TS}
theorem pe_callO (o : Ok X.prog X.w X.K X.mg X.base x ps k sp) (hr : Room k X.A) (hg : Gl X x) (hx : Passes (CXf X.prog X.w) X E) (ha : PA X (e :: es) t) (hdb : (x == ("__debug__" : Str)) = false := by decide)
    (he : starEach (e :: es) X.env = (false, eval e X.env) :: starEach es X.env := by rfl) (hpl : (backTo pos (starEach es X.env)).any (·.1) = false := by rfl) : PE X (.Call (.Name x p) (e :: es) [] pos) (tCall sp [] E t) := by
  obtain ⟨f, fd, F, hm, hk, hb⟩ := o
  exact pe_call F hr hg hm hk hb .nil hx ha hdb he hpl
theorem pe_gi {n : Int} (h : GInt X.mg x n) (hg : Gl X x := by rfl) (hd : (x == ("__debug__" : Str)) = false := by decide) : PE X (.Name x pos) (tC (.int n)) := by
  obtain ⟨tk, hm⟩ := h
  exact pe_glob hg hm ⟨tk, rfl⟩ hd
theorem pe_tyN {T : String} (hm : X.mg x = none) (hv : bootBuiltins x = some (.type T)) (hg : Gl X x := by rfl) (hn : x ≠ "__name__" := by decide) (hd : (x == ("__debug__" : Str)) = false := by decide) : PE X (.Name x pos) (tC (.ty T)) :=
  pe_bltn hg hm hv rfl hn hd
end

/-- a block's scope, by a check -/
def compOk (osc : Scope) (N : List Str) (scope : Scope) (N' : List Str) (π : List (Option Nat)) : Bool :=
  osc.kind == .function && scope.kind == .function &&
  scope.names.all (fun y => y.2 != .cell && (y.2 != .local || scope.names.lookup y.1 == some .local) && (y.2 != .free || osc.names.lookup y.1 == some .cell)) &&
  decide N'.Nodup && π.length == N'.length && (N'.zip π).all (fun p => match p.2 with | none => true | some j => N[j]? == some p.1 && scope.names.lookup p.1 == some .free)
theorem CompScope.of {osc : Scope} {N : List Str} {scope : Scope} {N' : List Str} {π : List (Option Nat)} (h : compOk osc N scope N' π = true) : CompScope osc N scope N' π := by
  unfold compOk at h
  simp only [Bool.and_eq_true, beq_iff_eq, decide_eq_true_eq, List.all_eq_true, Bool.or_eq_true, bne_iff_ne, ne_eq] at h
  obtain ⟨⟨⟨⟨⟨h1, h2⟩, h3⟩, h4⟩, h5⟩, h6⟩ := h
  refine ⟨h1, h2, fun y hy => (h3 y hy).1.1, fun y hy k => ?_, fun y hy k => ?_, h4, h5, fun i j x e1 e2 => ?_⟩
  · rcases (h3 y hy).1.2 with z | z
    · exact absurd k z
    · exact z
  · rcases (h3 y hy).2 with z | z
    · exact absurd k z
    · exact z
  · have hz : (N'.zip π)[i]? = some (x, some j) := by rw [List.getElem?_zip_eq_some]; exact ⟨e1, e2⟩
    have q := h6 _ (List.mem_of_getElem? hz)
    simp only [Bool.and_eq_true, beq_iff_eq] at q
    exact q
end L2

namespace L2
open PySem PySem.Spec PyProof.Rows
theorem tFor_eq {wi : TI} {g : TG} {tb : TS} {D : Ends} {σ : St} {H : Hp} : tFor wi g tb D σ H = wi σ H fun J H1 => ForW J g tb D σ H1 := rfl
theorem tComp_eq {wi : TI} {π : List (Option Nat)} {g : TG} {tt : TT} {te : TE} {σ : St} {H : Hp} {Q : VK} : tComp wi π g tt te σ H Q = wi σ H fun J H1 => CompW J g tt te Q (capt π σ) H1 := rfl
theorem start_def {N : List Str} {vs : List V} : start N vs = vs.map some ++ List.replicate (N.length - vs.length) none := rfl
end L2
namespace L2
open PySem PySem.Spec PyProof.Rows
theorem cxOf_K {CX : CXT} {P : Program} {w : World} {K : PySem.W.Frag} {mg : Str → Option Value} {base : Heap} {N : List Str} {qual : Str} {scope : Scope} {f : Addr} {cd : Value} {A : Around} {outer : List Env} {s : Shared} {H : Hp} {E : XK} :
    (cxOf CX P w K mg base N qual scope f cd A outer s H E).K = K := rfl
theorem cxComp_K {X : Cx} {N' : List Str} {scope : Scope} {s : Shared} {H : Hp} {C : Addr} {fp : List Addr} {pn : List (Addr × Obj)} : (cxComp X N' scope s H C fp pn).K = X.K := rfl
end L2
namespace L2
open PySem PySem.Spec PyProof.Rows
theorem tyOf_int {K : PySem.W.Frag} {H : Hp} {i : Int} {t : Value} : TyOf K H (.int i) t ↔ t = .type "int" := by
  constructor
  · intro h
    cases h
    rfl
  · intro h
    subst h
    exact .int i
end L2
namespace L2
open PySem PySem.Spec PyProof.Rows
section
variable {X : Cx} {K : PySem.W.Frag}
theorem ix_listK (h : X.K = K) : IxR X (rIxL K) := by subst h; exact ix_list
theorem ix_tupK (h : X.K = K) : IxR X (rIxT K) := by subst h; exact ix_tup
theorem sl_listK (h : X.K = K) : SlR X (rSlL K) := by subst h; exact sl_list
def rLen (K : PySem.W.Frag) : List V → Hp → VK → Prop := fun xs H Q => ∃ p ys, xs = [.ref p] ∧ (SqL K H p ys ∨ SqT K H p ys) ∧ Q (.int ys.length) H
theorem call_len_seqK (h : X.K = K) : CallR X (.builtin "len") (rLen K) := by subst h; exact call_len_seq
def rIsi (K : PySem.W.Frag) : List V → Hp → VK → Prop := fun xs H Q => ∃ x n t b, xs = [x, .ty n] ∧ TyOf K H x t ∧ PySem.W.kitOne K t (.type n) = some b ∧ Q (.bl b) H
theorem call_isinstK (h : X.K = K) : CallR X (.builtin "isinstance") (rIsi K) := by subst h; exact call_isinst
def rListOf (K : PySem.W.Frag) : List V → Hp → VK → Prop := fun xs H Q => ∃ p ys, xs = [.ref p] ∧ (SqL K H p ys ∨ SqT K H p ys) ∧ ∀ l, H l = none → Q (.ref l) (upd H l (.lst ys))
theorem call_list_ofK (h : X.K = K) : CallR X (.type "list") (rListOf K) := by subst h; exact call_list_of
theorem op_neLK (h : X.K = K) (hu : X.A.units + 64 < cLine) : OpR X (compareOp .NotEq) (rEqL K true) := by subst h; exact op_neL hu
def rSum (K : PySem.W.Frag) : List V → Hp → VK → Prop := fun xs H Q => ∃ (a : Addr) (ns : List Int), xs = [.ref a] ∧ SqL K H a (ns.map V.int) ∧ Q (.int ns.sum) H
theorem call_sumLK (h : X.K = K) (hc : X.calm = true) : CallR X (.builtin "sum") (rSum K) := by subst h; exact call_sumL hc
def rAll (K : PySem.W.Frag) : List V → Hp → VK → Prop := fun xs H Q => ∃ (a : Addr) (bs : List Bool), xs = [.ref a] ∧ SqL K H a (bs.map V.bl) ∧ Q (.bl (bs.all id)) H
theorem call_allLK (h : X.K = K) (hc : X.calm = true) : CallR X (.builtin "all") (rAll K) := by subst h; exact call_allL hc
def rAny (K : PySem.W.Frag) : List V → Hp → VK → Prop := fun xs H Q => ∃ (a : Addr) (bs : List Bool), xs = [.ref a] ∧ SqL K H a (bs.map V.bl) ∧ Q (.bl (bs.any id)) H
theorem pg_tupK {es : List Expr} {k : Nat} {t : TGs} {n : Nat} {pos : Pos} (h : X.K = K) (hc : X.calm = true) (hh : PGs X es t)
    (hn : (assignEach es X.env).length = n := by rfl) (hst : (assignEach es X.env).findIdx? (·.1) = none := by rfl) : PG X (.Tuple es k pos) (gTup K n t) := by subst h; exact pg_tup hc hh hn hst
theorem pi_listK {tg l : Expr} {tl : TE} (h : X.K = K) (hl : PE X l tl) : PI X tg l (iList K tl) := by subst h; exact pi_list hl
theorem pi_tupK {tg l : Expr} {tl : TE} (h : X.K = K) (hl : PE X l tl) : PI X tg l (iTup K tl) := by subst h; exact pi_tup hl
theorem pi_enumK {a : Expr} {ta : TA} {p pos tp : Pos} {elts : List Expr} {x1 : Nat} (h : X.K = K) (hg : Gl X "enumerate") (hm : X.mg "enumerate" = none) (ha : PA X [a] ta) (hs : starEach [a] X.env = [(false, eval a X.env)] := by rfl) :
    PI X (.Tuple elts x1 tp) (.Call (.Name "enumerate" p) [a] [] pos) (iEnum K ta) := by subst h; exact pi_enum hg hm ha hs
theorem pi_zipK {a b : Expr} {ta : TA} {p pos tp : Pos} {elts : List Expr} {x1 : Nat} (h : X.K = K) (hg : Gl X "zip") (hm : X.mg "zip" = none) (ha : PA X [a, b] ta) (hs : starEach [a, b] X.env = [(false, eval a X.env), (false, eval b X.env)] := by rfl) (hs2 : starEach [b] X.env = [(false, eval b X.env)] := by rfl) :
    PI X (.Tuple elts x1 tp) (.Call (.Name "zip" p) [a, b] [] pos) (iZip K ta) := by subst h; exact pi_zip hg hm ha hs hs2
variable {o e : Expr} {es : List Expr} {to : TE} {t : TA} {name : Str} {apos cpos : Pos} {T id : String} {r : V → List V → Hp → VK → Prop}
theorem pe_bm0K (h : X.K = K) (pa : PlainAttrs T) (slot : Slot T name id) (hty : typeOf (.builtin id) = pure (.type "method_descriptor")) (hm : MtR X id r) (ho : PE X o to)
    (hbase : attributeBase o name X.env (eval o X.env) = eval o X.env := by rfl) (hline : (apos.endLine == cpos.line) = true := by rfl) : PE X (.Call (.Attribute o name apos) [] [] cpos) (tBM0 K T r to) := by subst h; exact pe_bm0 pa slot hty hm ho hbase hline
theorem pe_bmK (h : X.K = K) (pa : PlainAttrs T) (slot : Slot T name id) (hty : typeOf (.builtin id) = pure (.type "method_descriptor")) (hm : MtR X id r) (ho : PE X o to) (ha : PA X (e :: es) t)
    (hbase : attributeBase o name X.env (eval o X.env) = eval o X.env := by rfl)
    (hfew : ((backTo cpos (starEach (e :: es) X.env)).all (fun x => !x.1) && (backToKw cpos (keywordEach [] X.env)).all (fun x => x.1.isSome)
      && decide ((e :: es).length + ([] : List Keyword).length + (if ([] : List Keyword).isEmpty then 0 else 1) < 30)) = true := by rfl)
    (hline : (apos.endLine == cpos.line) = true := by rfl) (hs : starEach (e :: es) X.env = (false, eval e X.env) :: starEach es X.env := by rfl) (hplain : (backTo cpos (starEach es X.env)).any (·.1) = false := by rfl) :
    PE X (.Call (.Attribute o name apos) (e :: es) [] cpos) (tBM K T r to t) := by subst h; exact pe_bm pa slot hty hm ho ha hbase hfew hline hs hplain
end
/-- nothing bound yet -/
theorem rep0 : List.replicate 0 (none : Option V) = [] := rfl
theorem rep1 : List.replicate 1 (none : Option V) = [none] := rfl
theorem rep2 : List.replicate 2 (none : Option V) = [none, none] := rfl
theorem rep3 : List.replicate 3 (none : Option V) = [none, none, none] := rfl
theorem rep4 : List.replicate 4 (none : Option V) = [none, none, none, none] := rfl
theorem rep5 : List.replicate 5 (none : Option V) = [none, none, none, none, none] := rfl
theorem rep6 : List.replicate 6 (none : Option V) = [none, none, none, none, none, none] := rfl
theorem rep7 : List.replicate 7 (none : Option V) = [none, none, none, none, none, none, none] := rfl
theorem rep8 : List.replicate 8 (none : Option V) = [none, none, none, none, none, none, none, none] := rfl
theorem rep9 : List.replicate 9 (none : Option V) = [none, none, none, none, none, none, none, none, none] := rfl
theorem rep10 : List.replicate 10 (none : Option V) = [none, none, none, none, none, none, none, none, none, none] := rfl
theorem rep11 : List.replicate 11 (none : Option V) = [none, none, none, none, none, none, none, none, none, none, none] := rfl
theorem rep12 : List.replicate 12 (none : Option V) = [none, none, none, none, none, none, none, none, none, none, none, none] := rfl
end L2
namespace L2
open PySem
theorem scal_ii {i j : Int} : scal (.int i) (.int j) = true := rfl
theorem scal_bb {i j : Bool} : scal (.bl i) (.bl j) = true := rfl
theorem scal_ss {i j : Str} : scal (.str i) (.str j) = true := rfl
theorem scal_nn : scal .non .non = true := rfl
theorem scal_in {i : Int} : scal (.int i) .non = true := rfl
theorem scal_ni {i : Int} : scal .non (.int i) = true := rfl
end L2

namespace L2
open PySem PySem.Spec PyProof.Rows
section
variable {K : PySem.W.Frag} {h : Heap} {mg : Str → Option Value}
theorem has_mk {x : Str} {st : Stmt} {ps : List Str} {f : Addr} {oc kV doc pm cd ct : Value} {od an : Option Addr} {sl : Array (Option Value)} (X : K.In h) (G : h.Ns mainGlobals mg) (a : PySem.W.nsIn K mainGlobals x = some (some (.ref f)))
    (l : K.lookup f = some ⟨oc, od, .func (PySem.W.fnOf x x (defArgs st) (defBody st) (defScope st) .none kV doc pm an cd ct), sl⟩) (c : PySem.W.codeIn K cd x = true) (k : PySem.W.keepIn K (.ref f) = true)
    (hb : ∀ (kV doc pm : Value) (an : Option Addr) (cdv ct : Value) (us : List Value), us.length = ps.length → bindArgs (PySem.W.fnOf x x (defArgs st) (defBody st) (defScope st) .none kV doc pm an cdv ct) ⟨us, []⟩ = pure (ps.zip us)) : ∃ f fd, Has K mg x st ps f fd := by
  have F := fun_mk (x := x) (qual := x) (st := st) l c k
  exact ⟨f, _, F, F.binds hb, PySem.W.mg_of X G a⟩
theorem exc_mk {x : Str} {C : Addr} (X : K.In h) (G : h.Ns mainGlobals mg) (a : PySem.W.nsIn K mainGlobals x = some (some (.ref C)))
    (q : PySem.W.excIn K C [.type "ValueError", .type "Exception", .type "BaseException", .type "object"] "ValueError.__new__" = true) : ∃ C, ExcCls K C ∧ mg x = some (.ref C) := ⟨C, q, PySem.W.mg_of X G a⟩
theorem gint_mk {x : Str} {i : Int} {t : Tok} (X : K.In h) (G : h.Ns mainGlobals mg) (a : PySem.W.nsIn K mainGlobals x = some (some (.int i t))) : GInt mg x i := ⟨t, PySem.W.mg_of X G a⟩
theorem none_mk {x : Str} (X : K.In h) (G : h.Ns mainGlobals mg) (a : PySem.W.nsIn K mainGlobals x = some none) : mg x = none := PySem.W.mg_none_of X G a
end
theorem cxf_no {P : Program} {w : World} {H : Hp} {s : Shared} {e : Value} {s' : Shared} (z : CXf P w [] H s (fun _ _ _ => False) e s') : False := by
  obtain ⟨_, _, _, _, _, f, _⟩ := z
  exact f
end L2

namespace L2
open PySem PySem.Spec PyProof.Rows PySem.SeqAt
mutual
inductive Dp (K : PySem.W.Frag) (H : Hp) : V → PyData → Prop
  | int (i : Int) : Dp K H (.int i) (.int i)
  | bl (b : Bool) : Dp K H (.bl b) (.bool b)
  | str (x : Str) : Dp K H (.str x) (.str x)
  | non : Dp K H .non .none
  | lst {a : Addr} {xs : List V} {ds : List PyData} : SqL K H a xs → DpAll K H xs ds → Dp K H (.ref a) (.list ds)
  | tup {a : Addr} {xs : List V} {ds : List PyData} : SqT K H a xs → DpAll K H xs ds → Dp K H (.ref a) (.tuple ds)
inductive DpAll (K : PySem.W.Frag) (H : Hp) : List V → List PyData → Prop
  | nil : DpAll K H [] []
  | cons {x : V} {d : PyData} {xs : List V} {ds : List PyData} : Dp K H x d → DpAll K H xs ds → DpAll K H (x :: xs) (d :: ds)
end
section
variable {X : Cx} {pins : List (Addr × Obj)} {σ : St} {H : Hp} {s : Shared}
mutual
theorem Dp.reads {K : PySem.W.Frag} {x : V} {d : PyData} (e : X.K = K) (I : Inv X pins σ H s) : Dp K H x d → ∀ v, RelV x v → ∃ as, Reads s.heap v d as
  | .int i, v, r => by obtain ⟨t, rfl⟩ := r; exact ⟨_, .int i t⟩
  | .bl b, v, r => by cases r; exact ⟨_, .bool b⟩
  | .str x, v, r => by obtain ⟨t, rfl⟩ := r; exact ⟨_, .str x t⟩
  | .non, v, r => by cases r; exact ⟨_, .none⟩
  | .lst h q, v, r => by
    subst e
    cases r
    obtain ⟨its, rv, ⟨o, n, e, hc, _, hd⟩, _⟩ := I.list h
    obtain ⟨as, ra⟩ := DpAll.reads rfl I q its rv
    exact ⟨_, .list e hc hd (by simpa using ra)⟩
  | .tup h q, v, r => by
    subst e
    cases r
    obtain ⟨its, rv, ⟨o, e, hc, n, hd⟩, _⟩ := I.tuple h
    obtain ⟨as, ra⟩ := DpAll.reads rfl I q its rv
    exact ⟨_, .tuple e hc hd (by simpa using ra)⟩
theorem DpAll.reads {K : PySem.W.Frag} {xs : List V} {ds : List PyData} (e : X.K = K) (I : Inv X pins σ H s) : DpAll K H xs ds → ∀ vs, Vals xs vs → ∃ as, ReadsAll s.heap vs ds as
  | .nil, vs, r => by cases r; exact ⟨_, .nil⟩
  | .cons h t, vs, r => by
    cases r with
    | cons r1 r2 =>
      obtain ⟨as, ra⟩ := Dp.reads e I h _ r1
      obtain ⟨bs, rb⟩ := DpAll.reads e I t _ r2
      exact ⟨_, .cons ra rb⟩
end
end
mutual
theorem noMix_self : ∀ d : PyData, d.canLay0 = true → noMix d d = true
  | .none, _ => by simp [noMix]
  | .bool _, _ => by simp [noMix]
  | .int _, _ => by simp [noMix]
  | .str _, _ => by simp [noMix]
  | .list xs, h => by rw [noMix]; exact noMixAll_self xs (by rwa [PyData.canLay0] at h)
  | .tuple xs, h => by rw [noMix]; exact noMixAll_self xs (by rwa [PyData.canLay0] at h)
  | .dict _, h => by simp [PyData.canLay0] at h
theorem noMixAll_self : ∀ ds : List PyData, PyData.canLayAll0 ds = true → noMixAll ds ds = true
  | [], _ => by simp [noMixAll]
  | d :: r, h => by
    rw [PyData.canLayAll0, Bool.and_eq_true] at h
    rw [noMixAll, noMix_self d h.1, noMixAll_self r h.2]
    rfl
end
def rEqS (K : PySem.W.Frag) (neg : Bool) : R2 := fun x y H Q => ∃ d, Dp K H x d ∧ Dp K H y d ∧ shaped d = true ∧ Q (.bl (!neg)) H
section
variable {X : Cx} {K : PySem.W.Frag}
end
end L2

namespace L2
open PySem PySem.Spec PyProof.Rows
def rSorted (K : PySem.W.Frag) : List V → Hp → VK → Prop := fun xs H Q => ∃ (a : Addr) (ns : List Int), xs = [.ref a] ∧ SqL K H a (ns.map V.int) ∧ ns.length < 64 ∧
  ∀ (l : Addr) (ms : List Int), H l = none → ms.Perm ns → ms.Pairwise (· ≤ ·) → Q (.ref l) (upd H l (.lst (ms.map V.int)))
theorem kit_tuple_tuple {K : PySem.W.Frag} : PySem.W.kitOne K (.type "tuple") (.type "tuple") = some true := by rfl
end L2

namespace L2
open PySem PySem.Spec PyProof.Rows
/-- within an except suite -/
abbrev Cx.marked (X : Cx) (e : Value) : Cx := { X with A := X.A.mark (some e), calm := false }
section
variable {X : Cx} {pins : List (Addr × Obj)} {σ : St} {H : Hp} {s : Shared}
theorem Inv.marked (I : Inv X pins σ H s) (e : Value) : Inv (X.marked e) pins σ H s :=
  ⟨⟨I.ok.mod, I.ok.kind, I.ok.glob, I.ok.blt, I.ok.above, I.ok.inj, I.ok.has, I.ok.cab, fun z => absurd z Bool.false_ne_true, I.ok.frames, I.ok.stk, I.ok.exf, I.ok.bs, I.ok.bsz, I.ok.noex, I.ok.exfs, I.ok.funs, I.ok.frf⟩, I.os, I.bare, I.base, I.loc, I.cell, I.free, I.freeC, I.pin, I.hok, I.len⟩
theorem Inv.unmarked {e : Value} (I : Inv (X.marked e) pins σ H s) (ok : X.Ok) : Inv X pins σ H s :=
  ⟨ok, I.os, I.bare, I.base, I.loc, I.cell, I.free, I.freeC, I.pin, I.hok, I.len⟩
theorem SP.unmarked {e : Value} {D : Ends} {f : Flow} {s' : Shared} (ok : X.Ok) (h : SP (X.marked e) pins D f s') : SP X pins D f s' := by
  cases f with
  | next => obtain ⟨σ', H', I, q⟩ := h; exact ⟨σ', H', I.unmarked ok, q⟩
  | brk => obtain ⟨σ', H', I, q⟩ := h; exact ⟨σ', H', I.unmarked ok, q⟩
  | cont => obtain ⟨σ', H', I, q⟩ := h; exact ⟨σ', H', I.unmarked ok, q⟩
  | ret v => obtain ⟨v', σ', H', I, r, q⟩ := h; exact ⟨v', σ', H', I.unmarked ok, r, q⟩
/-- a name of the frame goes -/
theorem Inv.drop {i : Nat} {x : Str} {h' : Heap} {m : Str → Option Value} {t' : Nat} (I : Inv X pins σ H s) (hN : X.N.Nodup) (hi : X.N[i]? = some x) (hx : X.env.scope.names.lookup x = some .local) (hm : s.heap.Ns X.env.locals m)
    {v : Option Value} (hn : h'.Ns X.env.locals (fun y => if y = x then v else m y)) (hs : Heap.SameBut X.env.locals s.heap h') : Inv X pins (σ.set i none) H { s with heap := h', toks := t' } := by
  obtain ⟨m0, hm0, hl⟩ := I.loc
  have hiσ : i < σ.length := by rw [I.len]; exact (List.getElem?_eq_some_iff.mp hi).1
  have e0 : m0 = m := by
    obtain ⟨o1, es1, ep1, ho1, hd1, hk1, hf1⟩ := hm0
    obtain ⟨o2, es2, ep2, ho2, hd2, hk2, hf2⟩ := hm
    rw [ho1] at ho2
    cases ho2
    rw [hd1] at hd2
    cases hd2
    funext n
    rw [← hf1, ← hf2]
  subst e0
  have old : ∀ b o, X.s₀.heap.get? b = some o → b ≠ X.env.locals := fun b o e => Nat.ne_of_lt (Nat.lt_of_lt_of_le (Heap.lt_size e) I.ok.above)
  refine ⟨I.ok, I.os, I.bare, ⟨fun b o e n nf nx => (hs.2 b (old b o e)).trans (I.base.keep b o e n nf nx), fun b o e n hf nx => ?_, I.base.free, fun b o e nx => ?_, I.base.tups, I.base.frzs, I.base.tbls⟩, ⟨_, hn, fun j y w e1 e2 e3 => ?_⟩, fun y c e => ?_, I.free, I.freeC, fun p hp => ?_, fun b ob e => ?_, by simpa using I.len⟩
  · obtain ⟨sl, q⟩ := I.base.slot b o e n hf nx
    exact ⟨sl, (hs.2 b (old b o e)).trans q⟩
  · obtain ⟨o', q⟩ := I.base.there b o e nx
    exact ⟨o', (hs.2 b (old b o e)).trans q⟩
  · have hj : j ≠ i := fun z => by
      subst z
      rw [List.getElem?_set_self hiσ] at e2
      cases e2
    rw [List.getElem?_set_ne (Ne.symm hj)] at e2
    obtain ⟨u, r, q⟩ := hl j y w e1 e2 e3
    refine ⟨u, r, ?_⟩
    rcases q with ⟨k, e⟩ | ⟨k, c, e, z⟩
    · refine .inl ⟨k, ?_⟩
      have : y ≠ x := fun e => hj (nodup_ix hN e1 (e ▸ hi))
      simp [this, e]
    · exact .inr ⟨k, c, e, z.sameBut hs (I.cne y c e)⟩
  · obtain ⟨w, z⟩ := I.cell y c e
    exact ⟨w, z.sameBut hs (I.cne y c e)⟩
  · obtain ⟨e, n, ne, r⟩ := I.pin p hp
    exact ⟨(hs.2 p.1 ne).trans e, n, ne, r⟩
  · refine (I.hok b ob e).stay (fun c w hc q => (hs.2 c ?_).trans q) (fun _ q => q) fun _ _ q => q
    rintro rfl
    rcases hc with rfl | hc
    · rw [I.free] at e; cases e
    · rw [I.free] at hc; cases hc
end
/-- an own class of exceptions: what stands behind it in its row of classes -/
def ClsX (K : PySem.W.Frag) (C : Addr) (bm : List Value) : Prop := ∃ nm qn N bs hdct sn sub ab col dd k0 k1 k2 k3 k5, K.lookup C = some (excClassObj nm qn C N bs bm hdct sn sub ab col dd k0 k1 k2 k3 k5 "ValueError.__new__") ∧ bm.contains (.type "BaseException") = true
/-- whether the one is of the other -/
def SubC (K : PySem.W.Frag) (C C1 : Addr) (b : Bool) : Prop := (∃ bm, ClsX K C bm ∧ (Value.ref C :: bm).contains (.ref C1) = b) ∧ ∃ bm, ClsX K C1 bm
theorem matches_own {M : Model} {A : Around} {E : Value → Shared → Prop} {K : PySem.W.Frag} {C C1 e : Addr} {b : Bool} {s : Shared} {oe : Obj} {Q : Bool → Shared → Prop} (X : K.In s.heap) (sc : SubC K C C1 b) (he : s.heap.get? e = some oe) (hcls : oe.cls = .ref C) (hq : Q b s) :
    wpAny M A (excMatches (.ref e) (.ref C1)) Q E s := by
  obtain ⟨⟨bm, ⟨nm, qn, N, bs, hdct, sn, sub, ab, col, dd, k0, k1, k2, k3, k5, lC, _⟩, hb⟩, bm1, nm1, qn1, N1, bs1, hdct1, sn1, sub1, ab1, col1, dd1, l0, l1, l2, l3, l5, lC1, hB1⟩ := sc
  obtain ⟨h, g, d, t, os⟩ := s
  have hC := X _ _ lC
  have hC1 := X _ _ lC1
  have cB : (Value.ref C1 :: bm1).contains (.type "BaseException") = true := by rw [List.contains_cons, hB1, Bool.or_true]
  have f := tc_notTuple
  unfold excMatches
  repeat (first | (with_reducible refine wpAny_loadPart_at he ?_; rw [hcls]) | with_reducible refine wpAny_loadPart_at hC1 ?_ | (with_reducible refine wpAny_isSubtype_exc hC1 ?_; rw [cB]) | (with_reducible refine wpAny_isSubtype_exc hC ?_; rw [hb]) | wp_step)
  cases b <;> (wp_walk; exact hq)
/-- what is wanted of the clauses, by the exception's class and dict -/
abbrev TH := Addr → Option Addr → TS
/-- an exception under a name -/
def excO (a C : Addr) (da : Option Addr) : HO := .ext fun h => ∃ oe vs, h.get? a = some oe ∧ oe.cls = .ref C ∧ oe.dict = da ∧ oe.data = .fields vs
/-- the name goes at the end -/
def Ends.less (D : Ends) (i : Nat) : Ends := { nx := fun σ H => D.nx (σ.set i none) H, rt := D.rt, bk := fun σ H => D.bk (σ.set i none) H, ct := fun σ H => D.ct (σ.set i none) H }
def PH (X : Cx) (hs : List ExceptHandler) (th : TH) : Prop := ∀ (pins : List (Addr × Obj)) (s : Shared) (σ : St) (H : Hp) (D : Ends) (a C : Addr) (da : Option Addr), XIn X pins σ H a (.ref C) da s → th C da D σ H →
  wpAny (model X.prog X.w) X.A (handleBy (.ref a) X.env hs) (SP X pins D) X.xe s
def thNil : TH := fun _ _ _ _ _ => False
def thC (K : PySem.W.Frag) (C1 : Addr) (ts : TS) (th : TH) : TH := fun C da D σ H => ∃ b, SubC K C C1 b ∧ if b = true then ts D σ H else th C da D σ H
def thA (K : PySem.W.Frag) (C1 : Addr) (i : Nat) (ts : TS) (th : TH) : TH := fun C da D σ H => ∃ b, SubC K C C1 b ∧ if b = true then ∀ a, H a = none → ts (D.less i) (σ.set i (some (.ref a))) (upd H a (excO a C da)) else th C da D σ H
section
variable {X : Cx} {hs : List ExceptHandler} {th : TH} {C1 : Addr} {c y : Str} {np hpos : Pos} {b0 : Stmt} {suite : List Stmt} {ts : TS} {i : Nat} {K : PySem.W.Frag}
theorem ph_nil : PH X [] thNil := fun _ _ _ _ _ _ _ _ _ z => z.elim
theorem ph_cons (d : IsDef X) (hK : X.K = K) (hgc : Gl X c) (hmc : X.mg c = some (.ref C1)) (hsu : ∀ v, PSs ((X.marked v).wish fun _ _ => False) (b0 :: suite) ts) (hr : PH X hs th) (hdc : (c == ("__debug__" : Str)) = false := by decide) :
    PH X (.ExceptHandler (some (.Name c np)) none (b0 :: suite) hpos :: hs) (thC K C1 ts th) := by
  subst hK
  intro pins s σ H D a C da x h
  obtain ⟨b, sc, q⟩ := h
  have Jm := x.inv.marked (.ref a)
  refine wpAny_handleBy_cons (codeAny_handlers_test (ld_glob (X := X.marked (.ref a)) Jm hgc hmc ?_ hdc)) (by intro q; cases q)
  obtain ⟨oe, vs', T5, oT, ts', a05, f1, f2, f3, f4, f5, f6, f7, f8, f9, n1, n2, n3⟩ := id x.fl
  refine matches_own x.inv.kIn sc f1 f2 ?_
  cases b with
  | false => exact hr pins s σ H D a C da x q
  | true =>
    refine codeAny_handlers_suite ?_
    obtain ⟨T, a0, hb, hd, fl⟩ := x.flying
    refine wpAny_mono (wpAny_kd (E := fun _ _ => False) (kd_setFlight _ _) hd (lands_againW (Q := fun _ s2 => ∃ h', s2 = { s with heap := h' } ∧ Heap.FlyingW (bareOf s.heap ([a, T] ++ frs X.stack)) X.stack a (.ref C) a0 h' ∧ s.heap.UpToSlots h') fl fun h' f2 up => ⟨h', rfl, f2, up⟩)) (fun _ s2 z => ?_) (fun _ _ z => z.1.elim)
    obtain ⟨⟨h', rfl, f2', up⟩, hd2⟩ := z
    have x6 := XIn.on x.inv d hb (by simp) f2' up hd2
    refine wpAny_mono (hsu (.ref a) pins _ σ H D ((x6.inv.marked (.ref a)).wish _) q) (fun fl s7 q7 => ?_) fun _ _ z => False.elim z
    exact SP.unmarked x6.inv.ok q7.unwish
end
section
variable {X : Cx} {k : Nat} {f : Addr} {fd : FuncData} {ps : List Str} {sp : Sp} {fx y : Str} {p pos apos cpos py : Pos} {e : Expr} {es : List Expr} {t : TA} {i : Nat} {h0 : ExceptHandler} {hs : List ExceptHandler} {th : TH}
/-- the way of an exception from a callee to the clauses -/
theorem to_clauses {pins : List (Addr × Obj)} {s1 s' : Shared} {σ : St} {H1 : Hp} {D : Ends} {ee : Value} (d : IsDef X) (J : Inv X pins σ H1 s1) (hh : PH X (h0 :: hs) th) (hq : CXf X.prog X.w X.stack H1 s1 (fun cls da H2 => ∃ C, cls = Value.ref C ∧ th C da D σ H2) ee s') :
    wpAny (model X.prog X.w) X.A (noteFrame ee X.env) (fun _ s₂ => wpAny (model X.prog X.w) X.A (setFlight ee none) (fun _ s₃ => wpAny (model X.prog X.w) X.A (handleBy ee X.env (h0 :: hs)) (SP X pins D) X.xe s₃) X.xe s₂) X.xe s' := by
  obtain ⟨a, cls, da, H', rfl, ⟨C, rfl, qs⟩, x⟩ := XIn.ofCall d J hq
  obtain ⟨T, a0, hb, hd, fl⟩ := x.flying
  have hfr : X.A.frames = some (X.env :: X.outer) := by rw [x.inv.ok.frames, d.st]
  have fl' := fl
  rw [d.st] at fl'
  refine wpAny_mono (wpAny_kd (E := fun _ _ => False) (kd_noteFrame _ _) hd (wpAny_looks_onW (Q := fun _ s2 => ∃ h', s2 = { s' with heap := h' } ∧ Heap.HeldW (bareOf s'.heap ([a, T] ++ frs (X.env :: X.outer))) (X.env :: X.outer) a (.ref C) a0 X.env.locals h' ∧ s'.heap.UpToSlots h') hfr d.fr fl' fun h4 held4 up4 => ⟨h4, rfl, held4, up4⟩)) (fun _ s2 z => ?_) (fun _ _ z => z.1.elim)
  obtain ⟨⟨h4, rfl, held4, up4⟩, hd4⟩ := z
  refine wpAny_mono (wpAny_kd (E := fun _ _ => False) (kd_setFlight _ _) hd4 (wpAny_landsW (Q := fun _ s2 => ∃ h', s2 = { s' with heap := h' } ∧ Heap.FlyingW (bareOf s'.heap ([a, T] ++ frs (X.env :: X.outer))) (X.env :: X.outer) a (.ref C) a0 h' ∧ h4.UpToSlots h') held4 fun h5 fl5 up5 => ⟨h5, rfl, fl5, up5⟩)) (fun _ s2 z => ?_) (fun _ _ z => z.1.elim)
  obtain ⟨⟨h5, rfl, fl5, up5⟩, hd5⟩ := z
  have x5 : XIn X pins σ H' a (.ref C) da { s' with heap := h5 } := XIn.on x.inv d hb (by simp) (by rw [d.st]; exact fl5) (up4.trans up5) hd5
  exact hh pins _ σ H' D a C da x5 qs
def tTryA (t : TA) (sp : Sp) (i : Nat) (th : TH) : TS := fun D σ H => t σ H fun vs H1 => sp vs H1 (fun v H2 => D.nx (σ.set i (some v)) H2) fun cls da H2 => ∃ C, cls = .ref C ∧ th C da D σ H2
def tTryE (t : TA) (sp : Sp) (th : TH) : TS := fun D σ H => t σ H fun vs H1 => sp vs H1 (fun _ H2 => D.nx σ H2) fun cls da H2 => ∃ C, cls = .ref C ∧ th C da D σ H2
end
theorem ClsX.of {K : PySem.W.Frag} {C : Addr} (q : ExcCls K C) : ∃ bm, ClsX K C bm := by
  unfold ExcCls PySem.W.excIn at q
  split at q
  · rename_i dd cd sl ho
    split at q
    · rename_i C' bm k0 k1 k2 k3 n k5 hm hs
      simp only [Bool.and_eq_true, beq_iff_eq, Bool.not_eq_true'] at q
      obtain ⟨⟨⟨⟨⟨rfl, rfl⟩, hdel⟩, ht⟩, hok⟩, hni⟩ := q
      obtain ⟨nm, bs, mro, ns, qn, hd, sn, sub, ab, col, del⟩ := cd
      dsimp only at hm hdel hok hni
      subst hm hdel
      have hsl : sl = #[k0, k1, k2, k3, some (.builtin "ValueError.__new__"), k5] := by
        obtain ⟨l⟩ := sl
        simp only at hs
        rw [hs]
      subst hsl
      refine ⟨bm, nm, qn, ns, bs, hd, sn, sub, ab, col, dd, k0, k1, k2, k3, k5, ho, ?_⟩
      have tl : ∀ l : List Value, PySem.W.tailIn K [.type "ValueError", .type "Exception", .type "BaseException", .type "object"] l = true → l.contains (.type "BaseException") = true := by
        intro l
        induction l with
        | nil => intro e; cases e
        | cons v r ih =>
          intro e
          unfold PySem.W.tailIn at e
          rcases Bool.or_eq_true_iff.mp e with z | z
          · rw [beq_iff_eq.mp z]
            decide +kernel
          · split at z
            · split at z
              · rw [Bool.and_eq_true] at z
                rw [List.contains_cons, ih z.2, Bool.or_true]
              · cases z
            · cases z
      exact tl bm ht
    · cases q
  · cases q
theorem SubC.self {K : PySem.W.Frag} {C : Addr} (q : ExcCls K C) : SubC K C C true := by
  obtain ⟨bm, c⟩ := ClsX.of q
  exact ⟨⟨bm, c, by simp⟩, bm, c⟩
def tTryC (t : TA) (sp : Sp) (dvs : List V) (i : Nat) (C : Addr) (ts : TS) : TS := fun D σ H => t σ H fun vs H1 => sp (vs ++ dvs) H1 (fun v H2 => D.nx (σ.set i (some v)) H2) fun cls _ H2 => cls = .ref C ∧ ts D σ H2
section
variable {X : Cx} {k : Nat} {C : Addr} {ps : List Str} {sp : Sp} {x y c : Str} {p pos apos cpos py np hpos : Pos} {e : Expr} {es : List Expr} {t : TA} {i : Nat} {b0 : Stmt} {suite : List Stmt} {ts : TS}
end
end L2

namespace L2
open PySem PySem.Spec PyProof.Rows
end L2

namespace L2
open PySem PySem.Spec PyProof.Rows PySem.W
section
variable {prog : Program} {w : World} {A : Around} {E : Value → Shared → Prop} {s : Shared} {K : PySem.W.Frag} {x C B : Addr} {name : Str} {v : Value} {ox : Obj} {cd : ClassData}
end
end L2

namespace L2
open PySem PySem.Spec PyProof.Rows PySem.W
/-- a class under a class under ValueError, whose instances have a dict -/
structure XCls (K : PySem.W.Frag) (C B : Addr) : Prop where
  ga : findIn K (.ref C) "__getattribute__" = some (some (.builtin "BaseException.__getattribute__"))
  gt : findIn K (.ref C) "__getattr__" = some none
  sa : findIn K (.ref C) "__setattr__" = some (some (.builtin "object.__setattr__"))
  cl : ∃ cd, clsIn K C = some cd ∧ cd.mro = [.ref C, .ref B, .type "ValueError", .type "Exception", .type "BaseException", .type "object"] ∧ cd.hasDict = true
/-- no attribute f in its classes -/
def NoX (K : PySem.W.Frag) (C : Addr) (f : Str) : Prop := findIn K (.ref C) f = some none
/-- e.f, a field of a caught exception -/
def tXF (K : PySem.W.Frag) (ta : TE) (f : Str) : TE := fun σ H Q => ta σ H fun x H1 => ∃ a C B dx fs v, x = .ref a ∧ H1 a = some (excO a C (some dx)) ∧ H1 dx = some (.xd fs) ∧ XCls K C B ∧ NoX K C f ∧ fs.lookup f = some v ∧ Q v H1
section
variable {X : Cx} {e o value : Expr} {f : Str} {pos pos' : Pos} {ta tv : TE} {K : PySem.W.Frag}
end
/-- a new exception, its dict not yet made; the same with its dict -/
def excN (a C : Addr) (a0 : Value) : HO := .ext fun h => h.get? a = some { cls := .ref C, data := .fields #[a0, .none, .none, .none, .bool false, .none] }
def excD (a C : Addr) (a0 : Value) (dx : Addr) : HO := .ext fun h => h.get? a = some { cls := .ref C, dict := some dx, data := .fields #[a0, .none, .none, .none, .bool false, .none] }
/-- e.f = value, the first field of a new exception -/
def sXF (K : PySem.W.Frag) (ta tv : TE) (f : Str) : TS := fun D σ H => tv σ H fun y H1 => ta σ H1 fun x H2 => ∃ a C B a0, x = .ref a ∧ H2 a = some (excN a C a0) ∧ XCls K C B ∧ NoX K C f ∧ ∀ dx, H2 dx = none → D.nx σ (upd (upd H2 a (excD a C a0 dx)) dx (.xd [(f, y)]))
section
variable {X : Cx} {e o value : Expr} {f : Str} {pos pos' : Pos} {ta tv : TE} {K : PySem.W.Frag}
end
/-- no longer held -/
def cutH (H : Hp) (a : Addr) : Hp := fun b => if b = a then none else H b
section
variable {X : Cx} {pins : List (Addr × Obj)} {σ : St} {H : Hp} {s : Shared} {a : Addr} {φ : Heap → Prop}
end
end L2

namespace L2
open PySem PySem.Spec PyProof.Rows PySem.W
section
variable {prog : Program} {w : World} {A : Around} {E : Value → Shared → Prop} {h : Heap} {g : Array GenState} {d : Drawn} {t : Nat} {os : OsState} {K : PySem.W.Frag}
variable {nm q : Str} {C N f : Addr} {bs bm bmB : List Value} {hdct : Bool} {sn : List Str} {sub : List Value} {ab : Bool} {col : Option Bool} {dd : Option Addr} {k0 k1 k2 k3 k5 : Option Value} {B newId initId : String}
end
end L2

namespace L2
open PySem PySem.Spec PyProof.Rows PySem.W
/-- a class of exceptions whose __init__ is the def f -/
structure InitX (K : PySem.W.Frag) (C f : Addr) : Prop where
  kp : keepIn K (.ref C) = true
  ini : findIn K (.ref C) "__init__" = some (some (.ref f))
  fn : typeIn K (.ref f) = some (.type "function")
  cl : ∃ nm qn N bs bm hdct sn sub ab col dd k0 k1 k2 k3 k5, K.lookup C = some (excClassObj nm qn C N bs bm hdct sn sub ab col dd k0 k1 k2 k3 k5 "ValueError.__new__") ∧ tailIn K [.type "ValueError", .type "Exception", .type "BaseException", .type "object"] bm = true
section
variable {M : Model} {A : Around} {E : Value → Shared → Prop} {env : Env} {K : PySem.W.Frag} {C f : Addr}
end
/-- what is wanted of raise C(..): the __init__'s promise over the new exception -/
def tRaiseI (t : TA) (C : Addr) (sp : Sp) (E : XK) : TS := fun _ σ H => t σ H fun vs H1 => vs.length ≤ 10 ∧ ∀ a a0, H1 a = none → sp (.ref a :: vs) (upd H1 a (excN a C a0)) (fun v H2 => v = .non ∧ ∃ dx, H2 a = some (excD a C a0 dx) ∧ E (.ref C) (some dx) (cutH H2 a)) (fun _ _ _ => False)
section
variable {X : Cx} {k : Nat} {f C : Addr} {fd : FuncData} {ps : List Str} {sp : Sp} {E : XK} {x : Str} {np cpos pos : Pos} {e : Expr} {es : List Expr} {t : TA}
end
end L2

namespace L2
open PySem PySem.Spec PyProof.Rows
section
variable {X : Cx}
/-- a op1 b op2 c op3 d -/
def tChain3 (r1 r2 r3 : R2) (ta tb tc td : TE) : TE := fun σ H Q => ta σ H fun x H1 => tb σ H1 fun y H2 => r1 x y H2 fun z H3 => ∃ k, z = .bl k ∧
  (if k = true then tc σ H3 fun v H4 => r2 y v H4 fun z2 H5 => ∃ k2, z2 = .bl k2 ∧ (if k2 = true then td σ H5 fun u H6 => r3 v u H6 Q else Q (.bl false) H5) else Q (.bl false) H3)
end
end L2

namespace PySem
namespace F
end F
section
variable {prog : Program} {w : World} {A : Around} {E : Value → Shared → Prop} {s : Shared}
end
end PySem
namespace L2
open PySem PySem.Spec PyProof.Rows
section
variable {X : Cx} {K : PySem.W.Frag} {e : Expr} {te : TE} {p1 p2 pos1 pos2 : Pos}
def tListRev (K : PySem.W.Frag) (te : TE) : TE := fun σ H Q => te σ H fun x H1 => ∃ p ys, x = .ref p ∧ SqL K H1 p ys ∧ ∀ l, H1 l = none → Q (.ref l) (upd H1 l (.lst ys.reverse))
end
end L2

namespace L2
open PySem PySem.Spec PyProof.Rows PySem.W
section
variable {prog : Program} {w : World} {A : Around} {E : Value → Shared → Prop} {s : Shared} {K : PySem.W.Frag} {x C : Addr} {name : Str} {ox : Obj} {od : Option Obj}
/-- what isinstance asks of the class of an exception -/
structure XIs (K : PySem.W.Frag) (C : Addr) : Prop where
  cl : (clsIn K C).isSome = true
  ga : findIn K (.ref C) "__getattribute__" = some (some (.builtin "BaseException.__getattribute__"))
  gt : findIn K (.ref C) "__getattr__" = some none
  mb : mroIn K C (.type "BaseException") = some true
  mo : mroIn K C (.type "object") = some true
  ca : findIn K (.ref C) "__class__" = some (some (.builtin "object.__class__"))
  cn : specialIn K (.builtin "object.__class__") "__get__" = some (some (.builtin "getset_descriptor.__get__"))
  ct : takesIn K (.builtin "object.__class__") = some true
end
section
variable {X : Cx} {K : PySem.W.Frag}
def rIsX (K : PySem.W.Frag) : List V → Hp → VK → Prop := fun xs H Q => ∃ (a C C1 : Addr) (b : Bool), xs = [.ref a, .ref C1] ∧ H a = some (excO a C none) ∧ XIs K C ∧ kitOne K (.ref C) (.ref C1) = some b ∧ Q (.bl b) H
def rIsXT (K : PySem.W.Frag) : List V → Hp → VK → Prop := fun xs H Q => ∃ (a C t : Addr) (cs : List Addr) (b : Bool), xs = [.ref a, .ref t] ∧ H a = some (excO a C none) ∧ H t = some (.tup (cs.map V.ref)) ∧ XIs K C ∧ kitAny K (.ref C) (cs.map Value.ref) = some b ∧ Q (.bl b) H
/-- an own class, by its name -/
theorem pe_cls {n : Str} {pos : Pos} {C : Addr} (hm : X.mg n = some (.ref C)) (hg : Gl X n := by rfl) (hd : (n == ("__debug__" : Str)) = false := by decide) : PE X (.Name n pos) (tC (.ref C)) := pe_glob (x := n) (v := .ref C) hg hm rfl hd
end
end L2

namespace L2
open PySem PySem.Spec PyProof.Rows
section
variable {X : Cx}
def rIndex : V → List V → Hp → VK → Prop := fun x vs H Q => ∃ (l : Addr) (ns : List Int) (k : Int) (j : Nat), x = .ref l ∧ vs = [.int k] ∧ H l = some (.lst (ns.map V.int)) ∧ ns[j]? = some k ∧ (∀ m, m < j → ns[m]? ≠ some k) ∧ Q (.int j) H
end
end L2

namespace PyProof.Rows.TS
open PySem PyProof.Rows
/-- by what is sorted: the kind, the key, what may stand there -/
class KeyC where
  κ : SortKind
  kf : Keyed → Int
  ok : Keyed → Prop
class KeyLt (prog : Program) (w : World) (A : Around) (E : Value → Shared → Prop) (s : Shared) [KeyC] : Prop where
  lt : ∀ {st : SortSt} {x y : Keyed} {Q : Option Bool → SortSt → Prop}, kindOf st = KeyC.κ → KeyC.ok x → KeyC.ok y → Q (some (decide (KeyC.kf x < KeyC.kf y))) st → wpS (model prog w) A E s (lt' x y) Q st
variable [KeyC]
def IntK (p : Keyed) : Prop := KeyC.ok p
def keyOf (p : Keyed) : Int := KeyC.kf p
def K (xs : Array Keyed) (i : Nat) : Int := match xs[i]? with
  | some p => keyOf p
  | none => 0
theorem K_congr {xs ys : Array Keyed} {i j : Nat} (h : xs[i]? = ys[j]?) : K xs i = K ys j := by
  show (match xs[i]? with | some p => keyOf p | none => 0) = (match ys[j]? with | some p => keyOf p | none => 0)
  rw [h]
theorem K_mirror {xs : Array Keyed} {i j : Nat} (hj : j ≤ xs.size) (k : Nat) : K (mirror xs i j ((j - i) / 2)) k = if i ≤ k ∧ k < j then K xs (i + j - 1 - k) else K xs k := by
  have e := getElem?_mirror_all (i := i) hj k
  by_cases c : i ≤ k ∧ k < j
  · rw [if_pos c] at e ⊢
    exact K_congr e
  · rw [if_neg c] at e ⊢
    exact K_congr e
section
variable {prog : Program} {w : World} {A : Around} {E : Value → Shared → Prop} {s : Shared} [KeyLt prog w A E s]
end
section
variable {prog : Program} {w : World} {A : Around} {E : Value → Shared → Prop} {s : Shared} [KeyLt prog w A E s]
end
def LeK (x y : Keyed) : Prop := keyOf x ≤ keyOf y
/-- a merge under way: what is out, and what is left of both -/
structure MgL (out ra rb all : List Keyed) : Prop where
  perm : (out ++ (ra ++ rb)).Perm all
  srt : out.Pairwise LeK
  low : ∀ x ∈ out, ∀ y ∈ ra ++ rb, LeK x y
  sa : ra.Pairwise LeK
  sb : rb.Pairwise LeK
theorem MgL.takeA {out u ra rb all : List Keyed} (m : MgL out (u ++ ra) rb all) (h : ∀ x ∈ u, ∀ y ∈ rb, LeK x y) : MgL (out ++ u) ra rb all := by
  have sa := List.pairwise_append.mp m.sa
  refine ⟨?_, ?_, fun x hx y hy => ?_, sa.2.1, m.sb⟩
  · have := m.perm
    simpa [List.append_assoc] using this
  · refine List.pairwise_append.mpr ⟨m.srt, sa.1, fun x hx y hy => m.low x hx y ?_⟩
    exact List.mem_append_left _ (List.mem_append_left _ hy)
  · rcases List.mem_append.mp hx with hx | hx
    · refine m.low x hx y ?_
      rcases List.mem_append.mp hy with hy | hy
      · exact List.mem_append_left _ (List.mem_append_right _ hy)
      · exact List.mem_append_right _ hy
    · rcases List.mem_append.mp hy with hy | hy
      · exact sa.2.2 x hx y hy
      · exact h x hx y hy
theorem MgL.swap {out ra rb all : List Keyed} (m : MgL out ra rb all) : MgL out rb ra all :=
  ⟨(List.Perm.append_left _ List.perm_append_comm).trans m.perm, m.srt, fun x hx y hy => m.low x hx y (by rcases List.mem_append.mp hy with z | z; exact List.mem_append_right _ z; exact List.mem_append_left _ z), m.sb, m.sa⟩
theorem MgL.takeB {out u ra rb all : List Keyed} (m : MgL out ra (u ++ rb) all) (h : ∀ x ∈ u, ∀ y ∈ ra, LeK x y) : MgL (out ++ u) ra rb all := (m.swap.takeA h).swap
def Srt (all res : List Keyed) : Prop := res.Perm all ∧ res.Pairwise LeK
theorem MgL.endA {out ra all : List Keyed} (m : MgL out ra [] all) : Srt all (out ++ ra) := by
  have p := m.perm
  rw [List.append_nil] at p
  exact ⟨p, List.pairwise_append.mpr ⟨m.srt, m.sa, fun x hx y hy => m.low x hx y (List.mem_append_left _ hy)⟩⟩
theorem MgL.endB {out rb all : List Keyed} (m : MgL out [] rb all) : Srt all (out ++ rb) := m.swap.endA
theorem MgL.lastA {out rb all : List Keyed} {x : Keyed} (m : MgL out [x] rb all) (h : ∀ y ∈ rb, LeK y x) : Srt all (out ++ rb ++ [x]) := by
  have m2 := MgL.takeB (u := rb) (rb := []) (by rw [List.append_nil]; exact m) (fun y hy z hz => by rw [List.mem_singleton.mp hz]; exact h y hy)
  exact m2.endA
section
variable {prog : Program} {w : World} {A : Around} {E : Value → Shared → Prop} {s : Shared} [KeyLt prog w A E s]
theorem drop_cons {arr : Array Keyed} {i : Nat} (hi : i < arr.size) : arr.toList.drop i = arr[i] :: arr.toList.drop (i + 1) := by
  rw [List.drop_eq_getElem_cons (by simpa using hi)]
  simp
theorem ext_end (arr : Array Keyed) (i : Nat) : (arr.extract i arr.size).toList = arr.toList.drop i := by
  rw [Array.toList_extract, List.extract_eq_drop_take]
  exact List.take_of_length_le (by simp)
abbrev MgA (a b : Array Keyed) (out : Array Keyed) (ia ib : Nat) : Prop := MgL out.toList (a.toList.drop ia) (b.toList.drop ib) (a.toList ++ b.toList)
section
variable {a b out : Array Keyed} {ia ib : Nat}
theorem MgA.done (m : MgA a b out ia ib) (h : ib = b.size ∨ ia = a.size) : Srt (a.toList ++ b.toList) (out ++ a.extract ia a.size ++ b.extract ib b.size).toList := by
  unfold MgA at m
  rw [Array.toList_append, Array.toList_append, ext_end, ext_end]
  rcases h with h | h
  · have e : b.toList.drop ib = [] := List.drop_of_length_le (by rw [h]; simp)
    rw [e] at m ⊢
    rw [List.append_nil]
    exact m.endA
  · have e : a.toList.drop ia = [] := List.drop_of_length_le (by rw [h]; simp)
    rw [e] at m ⊢
    rw [List.append_nil]
    exact m.endB
theorem MgA.last (m : MgA a b out ia ib) (h : ia + 1 = a.size) (hhi : ∀ y ∈ b.toList, LeK y (a[a.size - 1]'(by omega))) : Srt (a.toList ++ b.toList) (out ++ b.extract ib b.size ++ a.extract ia a.size).toList := by
  unfold MgA at m
  rw [Array.toList_append, Array.toList_append, ext_end, ext_end]
  have e : a.toList.drop ia = [a[a.size - 1]'(by omega)] := by
    rw [drop_cons (by omega), List.drop_of_length_le (by simp; omega)]
    congr 2
    omega
  rw [e] at m ⊢
  exact m.lastA fun y hy => hhi y (List.mem_of_mem_drop hy)
end
end
/-- a merge from the end: what is out (the greatest), and what is left of both -/
structure MgR (tail ra rb all : List Keyed) : Prop where
  perm : ((ra ++ rb) ++ tail).Perm all
  srt : tail.Pairwise LeK
  high : ∀ x ∈ tail, ∀ y ∈ ra ++ rb, LeK y x
  sa : ra.Pairwise LeK
  sb : rb.Pairwise LeK
theorem MgR.takeB {tail u ra rb all : List Keyed} (m : MgR tail ra (rb ++ u) all) (h : ∀ x ∈ u, ∀ y ∈ ra, LeK y x) : MgR (u ++ tail) ra rb all := by
  have sb := List.pairwise_append.mp m.sb
  refine ⟨?_, ?_, fun x hx y hy => ?_, m.sa, sb.1⟩
  · have := m.perm
    simpa [List.append_assoc] using this
  · refine List.pairwise_append.mpr ⟨sb.2.1, m.srt, fun x hx y hy => m.high y hy x ?_⟩
    exact List.mem_append_right _ (List.mem_append_right _ hx)
  · rcases List.mem_append.mp hx with hx | hx
    · rcases List.mem_append.mp hy with hy | hy
      · exact h x hx y hy
      · exact sb.2.2 y hy x hx
    · refine m.high x hx y ?_
      rcases List.mem_append.mp hy with hy | hy
      · exact List.mem_append_left _ hy
      · exact List.mem_append_right _ (List.mem_append_left _ hy)
theorem MgR.swap {tail ra rb all : List Keyed} (m : MgR tail ra rb all) : MgR tail rb ra all :=
  ⟨(List.Perm.append_right _ List.perm_append_comm).trans m.perm, m.srt, fun x hx y hy => m.high x hx y (by rcases List.mem_append.mp hy with z | z; exact List.mem_append_right _ z; exact List.mem_append_left _ z), m.sb, m.sa⟩
theorem MgR.takeA {tail u ra rb all : List Keyed} (m : MgR tail (ra ++ u) rb all) (h : ∀ x ∈ u, ∀ y ∈ rb, LeK y x) : MgR (u ++ tail) ra rb all := (m.swap.takeB h).swap
theorem MgR.endA {tail ra all : List Keyed} (m : MgR tail ra [] all) : Srt all (ra ++ tail) := by
  have p := m.perm
  rw [List.append_nil] at p
  exact ⟨p, List.pairwise_append.mpr ⟨m.sa, m.srt, fun x hx y hy => m.high y hy x (List.mem_append_left _ hx)⟩⟩
theorem MgR.endB {tail rb all : List Keyed} (m : MgR tail [] rb all) : Srt all (rb ++ tail) := m.swap.endA
theorem MgR.firstB {tail ra all : List Keyed} {x : Keyed} (m : MgR tail ra [x] all) (h : ∀ y ∈ ra, LeK x y) : Srt all ([x] ++ ra ++ tail) := by
  have m2 := MgR.takeA (u := ra) (ra := []) (by rw [List.nil_append]; exact m) (fun y hy z hz => by rw [List.mem_singleton.mp hz]; exact h y hy)
  have := m2.endB
  rwa [← List.append_assoc] at this
theorem take_snoc {arr : Array Keyed} {i : Nat} (hi : i < arr.size) : arr.toList.take (i + 1) = arr.toList.take i ++ [arr[i]] := by
  rw [List.take_succ, List.getElem?_eq_getElem (by simpa using hi)]
  simp
theorem ext_zero (arr : Array Keyed) (n : Nat) : (arr.extract 0 n).toList = arr.toList.take n := by
  rw [Array.toList_extract, List.extract_eq_drop_take]
  simp
abbrev MgB (a b : Array Keyed) (out : Array Keyed) (na nb : Nat) : Prop := MgR out.toList.reverse (a.toList.take na) (b.toList.take nb) (a.toList ++ b.toList)
section
variable {a b out : Array Keyed} {na nb : Nat}
theorem MgB.done (m : MgB a b out na nb) (h : na = 0 ∨ nb = 0) : Srt (a.toList ++ b.toList) (a.extract 0 na ++ b.extract 0 nb ++ out.reverse).toList := by
  unfold MgB at m
  rw [Array.toList_append, Array.toList_append, Array.toList_reverse, ext_zero, ext_zero]
  rcases h with h | h
  · subst h
    rw [List.take_zero] at m ⊢
    rw [List.nil_append]
    exact m.endB
  · subst h
    rw [List.take_zero] at m ⊢
    rw [List.append_nil]
    exact m.endA
theorem MgB.first (m : MgB a b out na nb) (h : nb = 1) (hb : 0 < b.size) (hlo : ∀ x ∈ a.toList, LeK b[0] x) : Srt (a.toList ++ b.toList) (b.extract 0 nb ++ a.extract 0 na ++ out.reverse).toList := by
  unfold MgB at m
  subst h
  rw [Array.toList_append, Array.toList_append, Array.toList_reverse, ext_zero, ext_zero]
  have e : b.toList.take 1 = [b[0]] := by
    rw [take_snoc hb, List.take_zero]
    rfl
  rw [e] at m ⊢
  exact m.firstB fun y hy => hlo y (List.mem_of_mem_take hy)
end
section
variable {prog : Program} {w : World} {A : Around} {E : Value → Shared → Prop} {s : Shared} [KeyLt prog w A E s]
end
/-- changed within a slice only, and there in order alone -/
structure Sl (lo hi : Nat) (xs ys : Array Keyed) : Prop where
  perm : ys.Perm xs
  out : ∀ i, i < lo ∨ hi ≤ i → ys[i]? = xs[i]?
theorem Sl.refl (lo hi : Nat) (xs : Array Keyed) : Sl lo hi xs xs := ⟨.refl _, fun _ _ => rfl⟩
theorem Sl.trans {lo hi : Nat} {xs ys zs : Array Keyed} (h : Sl lo hi xs ys) (h' : Sl lo hi ys zs) : Sl lo hi xs zs := ⟨h'.perm.trans h.perm, fun i hi' => (h'.out i hi').trans (h.out i hi')⟩
theorem Sl.size {lo hi : Nat} {xs ys : Array Keyed} (h : Sl lo hi xs ys) : ys.size = xs.size := h.perm.size_eq
theorem Sl.rev {lo hi i j : Nat} {xs : Array Keyed} (h1 : lo ≤ i) (h2 : j ≤ hi) (h3 : j ≤ xs.size) : Sl lo hi xs (mirror xs i j ((j - i) / 2)) := by
  refine ⟨mirror_perm _ _ _ _, fun k hk => ?_⟩
  rw [getElem?_mirror_all h3, if_neg (by omega)]
def AllI (xs : Array Keyed) : Prop := ∀ x ∈ xs.toList, IntK x
theorem AllI.perm {xs ys : Array Keyed} (h : AllI xs) (p : ys.Perm xs) : AllI ys := fun x hx => h x ((Array.perm_iff_toList_perm.mp p).mem_iff.mp hx)
/-- rising, falling on a slice -/
def Up (xs : Array Keyed) (lo hi : Nat) : Prop := ∀ i j, lo ≤ i → i ≤ j → j < hi → K xs i ≤ K xs j
def Dn (xs : Array Keyed) (lo hi : Nat) : Prop := ∀ i j, lo ≤ i → i ≤ j → j < hi → K xs j ≤ K xs i
theorem Up.snoc {xs : Array Keyed} {lo hi : Nat} (h : Up xs lo hi) (hlt : lo < hi) (e : K xs (hi - 1) ≤ K xs hi) : Up xs lo (hi + 1) := by
  intro i j h1 h2 h3
  by_cases hj : j < hi
  · exact h i j h1 h2 hj
  · have ej : j = hi := by omega
    subst ej
    by_cases hi' : i = j
    · subst hi'; exact Int.le_refl _
    · exact Int.le_trans (h i (j - 1) h1 (by omega) (by omega)) e
theorem Dn.snoc {xs : Array Keyed} {lo hi : Nat} (h : Dn xs lo hi) (hlt : lo < hi) (e : K xs hi ≤ K xs (hi - 1)) : Dn xs lo (hi + 1) := by
  intro i j h1 h2 h3
  by_cases hj : j < hi
  · exact h i j h1 h2 hj
  · have ej : j = hi := by omega
    subst ej
    by_cases hi' : i = j
    · subst hi'; exact Int.le_refl _
    · exact Int.le_trans e (h i (j - 1) h1 (by omega) (by omega))
theorem Dn.mirror {xs : Array Keyed} {lo hi : Nat} (h : Dn xs lo hi) (hs : hi ≤ xs.size) : Up (mirror xs lo hi ((hi - lo) / 2)) lo hi := by
  intro i j h1 h2 h3
  rw [K_mirror hs, K_mirror hs, if_pos (by omega), if_pos (by omega)]
  exact h _ _ (by omega) (by omega) (by omega)
/-- the state but for the array -/
def armed (st st' : SortSt) : Prop := kindOf st' = kindOf st ∧ pendingOf st' = pendingOf st ∧ failedOf st' = failedOf st
section
variable {prog : Program} {w : World} {A : Around} {E : Value → Shared → Prop} {s : Shared} [KeyLt prog w A E s]
/-- the array alone is another, within the slice -/
def Moved2 (lo hi : Nat) (st st' : SortSt) : Prop := armed st st' ∧ Sl lo hi (arrOf st) (arrOf st')
theorem Moved2.set {lo hi : Nat} {st st' : SortSt} (m : Moved2 lo hi st st') {xs : Array Keyed} (h : Sl lo hi (arrOf st') xs) : Moved2 lo hi st (setArr st' xs) := ⟨m.1, m.2.trans h⟩
theorem Moved2.all {lo hi : Nat} {st st' : SortSt} (m : Moved2 lo hi st st') (h : AllI (arrOf st)) : AllI (arrOf st') := h.perm m.2.perm
end
section
variable {prog : Program} {w : World} {A : Around} {E : Value → Shared → Prop} {s : Shared} [KeyLt prog w A E s]
end
end PyProof.Rows.TS

namespace PyProof.Rows.TS
open PySem PyProof.Rows
variable [KeyC]
section
variable {prog : Program} {w : World} {A : Around} {E : Value → Shared → Prop} {s : Shared} [KeyLt prog w A E s]
end
end PyProof.Rows.TS
namespace PyProof.Rows.TS
open PySem PyProof.Rows
variable [KeyC]
section
variable {prog : Program} {w : World} {A : Around} {E : Value → Shared → Prop} {s : Shared} [KeyLt prog w A E s]
end
end PyProof.Rows.TS
namespace PyProof.Rows.TS
open PySem PyProof.Rows
variable [KeyC]
/-- rising stretches, one behind the other -/
def Runs (arr : Array Keyed) : Nat → List (Nat × Nat × Nat) → Nat → Prop
  | s, [], e => s = e
  | s, r :: l, e => r.1 = s ∧ 0 < r.2.1 ∧ Up arr s (s + r.2.1) ∧ Runs arr (s + r.2.1) l e
theorem Runs.le {arr : Array Keyed} : ∀ {l : List (Nat × Nat × Nat)} {s e : Nat}, Runs arr s l e → s + l.length ≤ e
  | [], _, _, h => by cases h; simp
  | _ :: l, s, e, ⟨_, h2, _, h4⟩ => by
    have := Runs.le h4
    rw [List.length_cons]
    omega
theorem Runs.congr {arr arr' : Array Keyed} : ∀ {l : List (Nat × Nat × Nat)} {s e : Nat}, Runs arr s l e → (∀ i, s ≤ i → i < e → K arr' i = K arr i) → Runs arr' s l e
  | [], _, _, h, _ => h
  | _ :: l, s, e, ⟨h1, h2, h3, h4⟩, k => by
    have le := Runs.le h4
    refine ⟨h1, h2, fun i j a b c => ?_, Runs.congr h4 fun i a b => k i (by omega) b⟩
    rw [k i (by omega) (by omega), k j (by omega) (by omega)]
    exact h3 i j a b c
theorem Runs.append {arr : Array Keyed} : ∀ {l1 l2 : List (Nat × Nat × Nat)} {s m e : Nat}, Runs arr s l1 m → Runs arr m l2 e → Runs arr s (l1 ++ l2) e
  | [], _, _, _, _, h, h' => by cases h; exact h'
  | _ :: _, _, _, _, _, ⟨h1, h2, h3, h4⟩, h' => ⟨h1, h2, h3, Runs.append h4 h'⟩
theorem Runs.split {arr : Array Keyed} : ∀ {l1 l2 : List (Nat × Nat × Nat)} {s e : Nat}, Runs arr s (l1 ++ l2) e → ∃ m, Runs arr s l1 m ∧ Runs arr m l2 e
  | [], _, s, _, h => ⟨s, rfl, h⟩
  | _ :: _, _, _, _, ⟨h1, h2, h3, h4⟩ => by
    obtain ⟨m, a, b⟩ := Runs.split h4
    exact ⟨m, ⟨h1, h2, h3, a⟩, b⟩
theorem Runs.same {arr : Array Keyed} : ∀ {l l' : List (Nat × Nat × Nat)} {s e : Nat}, l.map (fun r => (r.1, r.2.1)) = l'.map (fun r => (r.1, r.2.1)) → Runs arr s l e → Runs arr s l' e
  | [], [], _, _, _, h => h
  | [], _ :: _, _, _, q, _ => by simp at q
  | _ :: _, [], _, _, q, _ => by simp at q
  | r :: l, r' :: l', s, e, q, ⟨h1, h2, h3, h4⟩ => by
    rw [List.map_cons, List.map_cons, List.cons.injEq, Prod.mk.injEq] at q
    obtain ⟨⟨q1, q2⟩, q3⟩ := q
    refine ⟨q1 ▸ h1, q2 ▸ h2, q2 ▸ h3, ?_⟩
    rw [← q2]
    exact Runs.same q3 h4
/-- the sort under way -/
structure Sx (st₀ st : SortSt) (e : Nat) : Prop where
  kind : kindOf st = kindOf st₀
  fl : failedOf st = none
  perm : (arrOf st).Perm (arrOf st₀)
  runs : Runs (arrOf st) 0 (pendingOf st).toList e
  le : e ≤ (arrOf st₀).size
theorem Sx.size {st₀ st : SortSt} {e : Nat} (x : Sx st₀ st e) : (arrOf st).size = (arrOf st₀).size := x.perm.size_eq
section
variable {prog : Program} {w : World} {A : Around} {E : Value → Shared → Prop} {s : Shared} [KeyLt prog w A E s]
end
end PyProof.Rows.TS
namespace PyProof.Rows.TS
open PySem PyProof.Rows
variable [KeyC]
section
variable {prog : Program} {w : World} {A : Around} {E : Value → Shared → Prop} {s : Shared}
end
end PyProof.Rows.TS

namespace L2
open PySem PySem.Spec PyProof.Rows PySem.W
section
variable {X : Cx} {K : PySem.W.Frag}
def rSortedB (K : PySem.W.Frag) : List V → Hp → VK → Prop := fun xs H Q => ∃ (a : Addr) (ns : List Int), xs = [.ref a] ∧ SqL K H a (ns.map V.int) ∧ ns.length ≤ 100000 ∧
  ∀ (l : Addr) (ms : List Int), H l = none → ms.Perm ns → ms.Pairwise (· ≤ ·) → Q (.ref l) (upd H l (.lst (ms.map V.int)))
/-- pairs of ints -/
def rSortedP (K : PySem.W.Frag) : List V → Hp → VK → Prop := fun xs H Q => ∃ (a : Addr) (ts : List Addr) (f : Addr → Int), xs = [.ref a] ∧ SqL K H a (ts.map V.ref) ∧ ts.length ≤ 1000 ∧ (∀ t ∈ ts, ∃ x y : Int, H t = some (.tup [.int x, .int y]) ∧ f t = x * 64 + y ∧ 0 ≤ y ∧ y < 64) ∧
  ∀ (l : Addr) (us : List Addr), H l = none → us.Perm ts → us.Pairwise (fun t u => f t ≤ f u) → Q (.ref l) (upd H l (.lst (us.map V.ref)))
end
end L2

namespace L2
open PySem
variable {a1 a2 a3 a4 a5 a6 b : TS} {D : Ends} {σ : St} {H : Hp}
end L2

namespace L2
open PySem PySem.Spec PyProof.Rows
section
variable {X : Cx} {pins : List (Addr × Obj)} {σ : St} {H : Hp} {s : Shared} {a : Addr} {kvs : List (Key × V)}
def tThaw (te : TE) : TE := fun σ H Q => te σ H fun x H' => ∃ a o kvs, H a = some (.dK kvs) ∧ H' a = some (.frz o (.dK kvs)) ∧ Q x (upd H' a (.dK kvs))
def Itd (a : Addr) (o : Obj) (kvs : List (Key × V)) : It :=
  ⟨fun i H => H a = some (.frz o (.dK kvs)) ∧ i < kvs.length, fun i H x H' => H' = H ∧ ∃ kv, kvs[i]? = some kv ∧ x = kV kv.1, fun i H => H a = some (.frz o (.dK kvs)) ∧ kvs.length ≤ i⟩
theorem KV.at_ : ∀ {kvs : List (Key × V)} {vs : List (Key × Value)}, KV kvs vs → ∀ {i : Nat} {kv : Key × V}, kvs[i]? = some kv → ∃ v, vs[i]? = some (kv.1, v)
  | _, _, .nil, _, _, h => by simp at h
  | _, _, .cons (b := y) r q, 0, kv, h => by
    simp at h
    subst h
    exact ⟨y.2, by simp [r.1]⟩
  | _, _, .cons r q, i + 1, kv, h => KV.at_ q (by simpa using h)
def iDict (tl : TE) : TI := fun σ H R => tl σ H fun x H1 => ∃ a kvs, x = .ref a ∧ H1 a = some (.dK kvs) ∧ ∀ o, R (Itd a o kvs) (upd H1 a (.frz o (.dK kvs)))
/-- list(d) -/
def rListD : List V → Hp → VK → Prop := fun xs H Q => ∃ (a : Addr) (kvs : List (Key × V)), xs = [V.ref a] ∧ H a = some (.dK kvs) ∧ ∀ l, H l = none → Q (.ref l) (upd H l (.lst (kvs.map fun kv => kV kv.1)))
end
end L2

namespace PyProof.Rows.TS
open PySem PySem.Spec PyProof.Rows PySem.W
section
variable {prog : Program} {w : World} {A : Around} {E : Value → Shared → Prop} {s : Shared} {Kk : Type} [DecidableEq Kk] {knd : PySem.KeyKind prog w Kk}
end
section
variable [KeyC] {prog : Program} {w : World} {A : Around} {E : Value → Shared → Prop} {s : Shared}
end
end PyProof.Rows.TS
namespace L2
open PySem PySem.Spec PyProof.Rows PySem.W
section
variable {X : Cx}
def rSortedD : List V → Hp → VK → Prop := fun xs H Q => ∃ (a : Addr) (kvs : List (Key × V)) (ns : List Int), xs = [V.ref a] ∧ H a = some (.dK kvs) ∧ kvs.map (fun kv => kV kv.1) = ns.map V.int ∧ ns.length ≤ 100000 ∧
  ∀ (l : Addr) (ms : List Int), H l = none → ms.Perm ns → ms.Pairwise (· ≤ ·) → Q (.ref l) (upd H l (.lst (ms.map V.int)))
end
end L2

namespace PySem
open Sem (wp)
section
variable {prog : Program} {w : World} {A : Around} {E : Value → Shared → Prop} {s : Shared}
end
end PySem
namespace PySem
open Sem (wp)
namespace F
end F
section
variable {prog : Program} {w : World} {A : Around} {E : Value → Shared → Prop} {Kk : Type} [DecidableEq Kk] {knd : KeyKind prog w Kk}
end
end PySem
namespace L2
open PySem PySem.Spec PyProof.Rows
section
variable {X : Cx} {K : PySem.W.Frag}
/-- dict(l), l a list of pairs of an int and a value -/
def rDictP (K : PySem.W.Frag) : List V → Hp → VK → Prop := fun xs H Q => ∃ (a : Addr) (ts : List Addr) (kvs : List (Key × V)), xs = [V.ref a] ∧ SqL K H a (ts.map V.ref) ∧ kvs.length ≤ 100000 ∧ ts.length = kvs.length ∧
  (∀ (i : Nat) (t : Addr) (kv : Key × V), ts[i]? = some t → kvs[i]? = some kv → H t = some (.tup [kV kv.1, kv.2])) ∧ ∀ l, H l = none → Q (.ref l) (upd H l (.dK (mergeK [] kvs)))
end
end L2

namespace L2
open PySem PySem.Spec PyProof.Rows
section
variable {X : Cx}
def rDClear : V → List V → Hp → VK → Prop := fun x vs H Q => ∃ l kvs, x = .ref l ∧ vs = [] ∧ H l = some (.dK kvs) ∧ Q .non (upd H l (.dK []))
end
theorem kit_dict_dict {K : PySem.W.Frag} : PySem.W.kitOne K (.type "dict") (.type "dict") = some true := by rfl
end L2

namespace L2
open PySem PySem.Spec PyProof.Rows
/-- the text of these signs -/
def tx (l : List Nat) : Str := ⟨l.toArray⟩
theorem tx_list (l : List Nat) : (tx l).cps.toList = l := by show l.toArray.toList = l; simp
theorem tx_inj {a b : List Nat} (h : tx a = tx b) : a = b := by rw [← tx_list a, h, tx_list]
/-- a part of the signs -/
def cutN (xs : List Nat) (lo hi : Option Int) : List Nat := (xs.drop (HT.sIx xs.length 0 lo)).take (HT.sIx xs.length xs.length hi - HT.sIx xs.length 0 lo)
/-- where a sign stands first, or -1 -/
def findN (l : List Nat) (c : Nat) : Int := if c ∈ l then (l.idxOf c : Nat) else -1
section
variable {X : Cx}
def rIxS2 : R2 := fun x y H Q => ∃ (l : List Nat) (i : Int) (c : Nat), x = .str (tx l) ∧ y = .int i ∧ l.length ≤ sizeLine ∧ atI l i = some c ∧ Q (.str (tx [c])) H
def rSlS : V → Option Int → Option Int → Hp → VK → Prop := fun x lo hi H Q => ∃ l : List Nat, x = .str (tx l) ∧ l.length ≤ sizeLine ∧ Q (.str (tx (cutN l lo hi))) H
def rFind : V → List V → Hp → VK → Prop := fun x vs H Q => ∃ (l : List Nat) (c : Nat), x = .str (tx l) ∧ vs = [.str (tx [c])] ∧ Q (.int (findN l c)) H
def rIndexT : V → List V → Hp → VK → Prop := fun x vs H Q => ∃ (l : List Nat) (c : Nat), x = .str (tx l) ∧ vs = [.str (tx [c])] ∧ c ∈ l ∧ Q (.int (l.idxOf c : Nat)) H
/-- the signs of a whole number -/
def decN (n : Nat) : List Nat := (Nat.toDigits 10 n).map Char.toNat
def decI (i : Int) : List Nat := if i < 0 then 45 :: decN i.natAbs else decN i.natAbs
/-- int(text), the text of figures, with a - ahead or not -/
def ReadI (l : List Nat) (n : Int) : Prop := (PySem.NumText.AllDigits l ∧ l ≠ [] ∧ n = (PySem.NumText.digitsVal l : Nat)) ∨ ∃ cs, l = 45 :: cs ∧ PySem.NumText.AllDigits cs ∧ cs ≠ [] ∧ n = -((PySem.NumText.digitsVal cs : Nat) : Int)
def Its (l : List Nat) : It := ⟨fun i _ => i < l.length, fun i H x H' => H' = H ∧ ∃ c, l[i]? = some c ∧ x = .str (tx [c]), fun i _ => l.length ≤ i⟩
def Ascii (l : List Nat) : Prop := ∀ c ∈ l, c < 128
def iTxt (tl : TE) : TI := fun σ H R => tl σ H fun x H1 => ∃ l, x = .str (tx l) ∧ Ascii l ∧ R (Its l) H1
def rLenT : List V → Hp → VK → Prop := fun xs H Q => ∃ l : List Nat, xs = [.str (tx l)] ∧ l.length ≤ sizeLine ∧ Q (.int l.length) H
def rStrT : List V → Hp → VK → Prop := fun xs H Q => ∃ i, xs = [.int i] ∧ i.natAbs.log2 < 1920 ∧ Q (.str (tx (decI i))) H
def rIntT : List V → Hp → VK → Prop := fun xs H Q => ∃ l n, xs = [.str (tx l)] ∧ l.length ≤ 640 ∧ ReadI l n ∧ Q (.int n) H
def rAddT : R2 := fun x y H Q => ∃ i j, x = .str (tx i) ∧ y = .str (tx j) ∧ i.length + j.length ≤ sizeLine ∧ Q (.str (tx (i ++ j))) H
def rMulT : R2 := fun x y H Q => ∃ (c n : Nat), x = .str (tx [c]) ∧ y = .int n ∧ 2 ≤ n ∧ n ≤ 1000000 ∧ Q (.str (tx (List.replicate n c))) H
def rInT (neg : Bool) : R2 := fun x y H Q => ∃ (c : Nat) (l : List Nat), x = .str (tx [c]) ∧ y = .str (tx l) ∧ Q (.bl (if neg then !decide (c ∈ l) else decide (c ∈ l))) H
end
def tTxts (ls : List (List Nat)) : TA := fun _ H Q => Q (ls.map fun l => V.str (tx l)) H
theorem kit_str_str {K : PySem.W.Frag} : PySem.W.kitOne K (.type "str") (.type "str") = some true := by rfl
theorem tx_str {a b : List Nat} : (tx a = tx b) = (a = b) := propext ⟨tx_inj, fun h => by rw [h]⟩
end L2

namespace PySem.SeqAt
open PySem PySem.AutoSeq1 PySem.MeetsSeq PySem.MeetsSeq2 PySem.MeetsSeq3
end PySem.SeqAt
namespace L2
open PySem PySem.Spec PyProof.Rows PySem.SeqAt
section
variable {X : Cx} {K : PySem.W.Frag}
def rGeL (K : PySem.W.Frag) : R2 := fun x y H Q => ∃ (a b : Addr) (ns ms : List Int) (j : Nat), x = .ref a ∧ y = .ref b ∧ SqL K H a (ns.map V.int) ∧ SqL K H b (ms.map V.int) ∧ j < ns.length ∧ j < ms.length ∧ (∀ m, m < j → ns.getD m 0 = ms.getD m 0) ∧ ns.getD j 0 < ms.getD j 0 ∧ Q (.bl false) H
/-- x in a list of like ones -/
def rInS (K : PySem.W.Frag) (neg : Bool) : R2 := fun x y H Q => ∃ d ds, Dp K H x d ∧ Dp K H y (.list ds) ∧ shaped (.list ds) = true ∧ d ∈ ds ∧ Q (.bl (!neg)) H
end
end L2
namespace L2
open PySem
end L2

namespace L2
open PySem PySem.Spec PyProof.Rows PySem.W
section
variable {X : Cx} {K : PySem.W.Frag}
theorem pe_fldK {e : Expr} {f : Str} {pos : Pos} {ta : TE} (h : X.K = K) (he : PE X e ta) (hb : attributeBase e f X.env (eval e X.env) = eval e X.env := by rfl) : PE X (.Attribute e f pos) (tFld K ta f) := by subst h; exact pe_fld he hb
theorem ps_fldK {o value : Expr} {f : Str} {pos pos' : Pos} {ta tv : TE} (h : X.K = K) (ha : PE X o ta) (hv : PE X value tv) (hs : swapsWith value (some (.Attribute o f pos')) pos.line X.env = pure false := by rfl) : PS X (.Assign [.Attribute o f pos'] value pos) (sFld K ta tv f) := by subst h; exact ps_fld ha hv hs
end
/-- an own class as the text has it: to be made, to be asked -/
structure OCls (K : PySem.W.Frag) (C : Addr) : Prop where
  cl : Cls K C
  mks : makesIn K C = true
  kp : keepIn K (.ref C) = true
  ca : findIn K (.ref C) "__class__" = some (some (.builtin "object.__class__"))
  sp : specialIn K (.builtin "object.__class__") "__get__" = some (some (.builtin "getset_descriptor.__get__"))
  tk : takesIn K (.builtin "object.__class__") = some true
  mr : mroIn K C (.type "object") = some true
theorem OCls.ty {K : PySem.W.Frag} {C a dx : Addr} {fs : List (Str × V)} {H : Hp} (c : OCls K C) (e : H a = some (.ins C dx fs)) : TyOf K H (.ref a) (.ref C) := .ins e c.cl c.ca c.sp c.tk c.mr
/-- the class x with its __init__ -/
def MkOk (P : Program) (w : World) (K : PySem.W.Frag) (mg : Str → Option Value) (base : Heap) (x : Str) (C : Addr) (k : Nat) (sp : Sp) : Prop :=
  mg x = some (.ref C) ∧ ∃ f fd ps, Mk K C f ∧ FnOk P w K mg base (CXf P w) k f fd ps sp ∧ Binds K fd ps []
/-- the method m of the class C -/
def MOk (P : Program) (w : World) (K : PySem.W.Frag) (mg : Str → Option Value) (base : Heap) (C : Addr) (m : Str) (k : Nat) (sp : Sp) : Prop :=
  Cls K C ∧ ∃ f fd ps, Meth K C m f ∧ FnOk P w K mg base (CXf P w) k f fd ps sp ∧ Binds K fd ps []
section
variable {X : Cx} {K : PySem.W.Frag} {C : Addr} {k : Nat} {sp : Sp} {E : XK} {x m : Str} {p pos apos : Pos} {e o : Expr} {es : List Expr} {ta : TE} {t : TA}
theorem pe_makeK (M : MkOk X.prog X.w X.K X.mg X.base x C k sp) (hr : Room (k + 1) X.A) (hg : Gl X x) (hx : Passes (CXf X.prog X.w) X E) (ha : PA X (e :: es) t) (hdb : (x == ("__debug__" : Str)) = false := by decide)
    (he : starEach (e :: es) X.env = (false, eval e X.env) :: starEach es X.env := by rfl) (hpl : (backTo pos (starEach es X.env)).any (·.1) = false := by rfl) : PE X (.Call (.Name x p) (e :: es) [] pos) (tMake C sp [] E t) := by
  obtain ⟨hm, f, fd, ps, M, F, hb⟩ := M
  exact pe_make M F hr hg hm hb .nil hx ha hdb he hpl
/-- C() of a class without an __init__ of its own -/
def tMakeN (C : Addr) : TE := fun _ H Q => ∀ x dx, H x = none → H dx = none → dx ≠ x → Q (.ref x) (upd (upd H dx (.own x)) x (.ins C dx []))
theorem pe_makeN (hm : X.mg x = some (.ref C)) (c : OCls X.K C) (hi : findIn X.K (.ref C) "__init__" = some (some (.builtin "object.__init__"))) (hg : Gl X x) (hdb : (x == ("__debug__" : Str)) = false := by decide) :
    PE X (.Call (.Name x p) [] [] pos) (tMakeN C) := by
  intro pins s σ H Q I h
  refine wpAny_Call_Name_kw (ld_glob I hg hm ?_ hdb)
  refine PySem.W.callWith_K0 I.kIn c.kp ?_
  have I2 := Inv.made (C := C) I
  have hq := h (s.heap.objs.size + 1) s.heap.objs.size (I.hok.fresh (Nat.le_succ _)) (I.hok.fresh (Nat.le_refl _)) (Nat.ne_of_lt (Nat.lt_succ_self _))
  refine wpAny_call (make_map0 I.kIn c.mks hi (fun self => Looks.of_pure (oi_bind self)) ?_)
  have Y := makes_of (M := model X.prog X.w) I.kIn c.mks
  obtain ⟨hh, g, d, tk, os⟩ := s
  have e2 : ((hh.push PySem.W.emptyDict).push (PySem.W.instObj C hh.objs.size)).get? (hh.objs.size + 1) = some (PySem.W.instObj C hh.objs.size) := by
    have := Heap.get?_push_size (hh.push PySem.W.emptyDict) (o := PySem.W.instObj C hh.objs.size) rfl
    rwa [Heap.size_push] at this
  have t1 : Looks (model X.prog X.w) ((hh.push emptyDict).push (instObj C hh.objs.size)) (typeOf (.ref (hh.objs.size + 1))) (.ref C) := (Looks.ld e2).andThen .now
  have t2 : Looks (model X.prog X.w) ((hh.push emptyDict).push (instObj C hh.objs.size)) (isInstance (.ref (hh.objs.size + 1)) (.type "object")) true := t1.andThen (Y.top.keeps fun b o e => Heap.get?_push_of_some _ (Heap.get?_push_of_some _ e))
  refine codeAny_call_builtin oi_plain entry_oi (@check_slot (model X.prog X.w) _ _ _ "object.__init__" "object" "__init__" (.ref (hh.objs.size + 1)) [] [] _ oi_kind oi_split t2 (oi_args (.ref (hh.objs.size + 1))) ?_)
  rw [oi_run]
  exact wpAny_pure (And.intro rfl ⟨.ref _, _, I2, rfl, hq⟩)
/-- o.m(..), the method by the class of what stands there -/
def tMethD (m : Str) (R : Addr → Sp → Prop) (E : XK) (ta : TE) (t : TA) : TE := fun σ H Q => ta σ H fun x H1 => ∃ a C dx fs sp, x = .ref a ∧ H1 a = some (.ins C dx fs) ∧ fs.lookup m = none ∧ R C sp ∧ t σ H1 fun vs H2 => sp (x :: vs) H2 Q E
def MsOk (P : Program) (w : World) (K : PySem.W.Frag) (mg : Str → Option Value) (base : Heap) (m : Str) (k : Nat) (R : Addr → Sp → Prop) : Prop := ∀ C sp, R C sp → MOk P w K mg base C m k sp
theorem pe_methD {R : Addr → Sp → Prop} {pl : Sem Bool} (M : MsOk X.prog X.w X.K X.mg X.base m k R) (hr : Room k X.A) (hx : Passes (CXf X.prog X.w) X E) (he : PE X o ta) (ha : PA X (e :: es) t)
    (hst : starEach (e :: es) X.env = (false, eval e X.env) :: starEach es X.env := by rfl) (hpl : (backTo pos (starEach es X.env)).any (·.1) = false := by rfl)
    (ht : eval (.Call (.Attribute o m apos) (e :: es) [] pos) X.env = (do
      let ov ← eval o X.env
      standAt apos.atName
      let (f, first) ← holding [ov] (getMethod ov m pl)
      callWith pos f first (backTo pos (starEach (e :: es) X.env)) (backToKw pos (keywordEach [] X.env))) := by rfl) :
    PE X (.Call (.Attribute o m apos) (e :: es) [] pos) (tMethD m R E ta t) := by
  intro pins s σ H Q I h
  refine PySem.W.methodCall_KW (pl := pl) (thn (he pins s σ H _ I h) fun u s1 ⟨x, H1, I1, rx, a, C, dx, fs, sp, ex, ea, l, hR, q⟩ => ?_) ht
  subst ex
  obtain rfl : u = Value.ref a := rx
  obtain ⟨c, f, fd, ps, hm, F, hb⟩ := M C sp hR
  refine getmeth_ok I1 ea c hm l ?_
  refine PySem.W.callWith_K (first := [.ref a]) (h₀ := X.base) I.ok.mod.kin hm.kp (thn (ha pos pins s1 σ H1 _ I1 q) fun us s2 ⟨vs, H2, I2, r, q2⟩ => ⟨I2.kIn, ?_⟩) hst hpl
  exact run_fn (us := .ref a :: us) (vs := .ref a :: vs) (dvs := []) (ds := []) F hr hb .nil hx I2 (.cons rfl r) (by rw [List.append_nil]; exact q2)
theorem pe_methD0 {R : Addr → Sp → Prop} {pl : Sem Bool} (M : MsOk X.prog X.w X.K X.mg X.base m k R) (hr : Room k X.A) (hx : Passes (CXf X.prog X.w) X E) (he : PE X o ta)
    (ht : eval (.Call (.Attribute o m apos) [] [] pos) X.env = (do
      let ov ← eval o X.env
      standAt apos.atName
      let (f, first) ← holding [ov] (getMethod ov m pl)
      callWith pos f first (backTo pos (starEach [] X.env)) (backToKw pos (keywordEach [] X.env))) := by rfl) :
    PE X (.Call (.Attribute o m apos) [] [] pos) (tMethD m R E ta tNil) := by
  intro pins s σ H Q I h
  refine PySem.W.methodCall_KW (pl := pl) (thn (he pins s σ H _ I h) fun u s1 ⟨x, H1, I1, rx, a, C, dx, fs, sp, ex, ea, l, hR, q⟩ => ?_) ht
  subst ex
  obtain rfl : u = Value.ref a := rx
  obtain ⟨c, f, fd, ps, hm, F, hb⟩ := M C sp hR
  refine getmeth_ok I1 ea c hm l ?_
  exact PySem.W.callWith_K0 (first := [.ref a]) I1.kIn hm.kp (run_fn (us := [.ref a]) (vs := [.ref a]) (dvs := []) (ds := []) F hr hb .nil hx I1 (.cons rfl .nil) q)
end
/-- try: o.m(..) -/
def tTryM (m : Str) (R : Addr → Sp → Prop) (ta : TE) (t : TA) (th : TH) : TS := fun D σ H => tMethD m R (fun cls da H2 => ∃ C, cls = .ref C ∧ th C da D σ H2) ta t σ H fun _ H2 => D.nx σ H2
section
variable {X : Cx} {k : Nat} {m : Str} {h0 : ExceptHandler} {hs : List ExceptHandler} {th : TH} {R : Addr → Sp → Prop} {cpos apos pos mpos : Pos} {o e : Expr} {es : List Expr} {ta : TE} {t : TA}
theorem ps_tryM {pl : Sem Bool} (d : IsDef X) (M : MsOk X.prog X.w X.K X.mg X.base m k R) (hr : Room k X.A) (he : ∀ E', PE (X.wish E') o ta) (ha : ∀ E', PA (X.wish E') (e :: es) t) (hh : PH X (h0 :: hs) th) (hin : interactive X.env = false := by rfl)
    (hsw : swapsWith (.Call (.Attribute o m mpos) (e :: es) [] cpos) none apos.line X.env = pure false := by rfl) (hst : starEach (e :: es) X.env = (false, eval e X.env) :: starEach es X.env := by rfl) (hpl : (backTo cpos (starEach es X.env)).any (·.1) = false := by rfl)
    (ht : eval (.Call (.Attribute o m mpos) (e :: es) [] cpos) X.env = (do
      let ov ← eval o X.env
      standAt mpos.atName
      let (f, first) ← holding [ov] (getMethod ov m pl)
      callWith cpos f first (backTo cpos (starEach (e :: es) X.env)) (backToKw cpos (keywordEach [] X.env))) := by rfl) :
    PS X (.Try [.Expr (.Call (.Attribute o m mpos) (e :: es) [] cpos) apos] (h0 :: hs) [] [] pos) (tTryM m R ta t th) := by
  intro pins s σ H D I h
  refine wpAny_Try_except ?_
  generalize hEb : (fun (e : Value) (s₁ : Shared) => wpAny (model X.prog X.w) X.A (noteFrame e X.env) (fun _ s₂ => wpAny (model X.prog X.w) X.A (setFlight e none) (fun _ s₃ => wpAny (model X.prog X.w) X.A (handleBy e X.env (h0 :: hs)) (SP X pins D) X.xe s₃) X.xe s₂) X.xe s₁) = Eb
  refine wpAny_execs_cons (Q := _) (thn (wpAny_Expr_any (Q := fun fl s' => fl = .next ∧ SP X pins D .next s') (thn (Q := EP (X.wish Eb) pins σ fun _ H2 => D.nx σ H2) ?_ fun v s1 q => ?_) hin hsw) fun fl s1 q => ?_)
  rotate_left
  · obtain ⟨yv, H1, I1, r1, q1⟩ := q
    exact ⟨rfl, σ, H1, I1.unwish, q1⟩
  · obtain ⟨rfl, q⟩ := q
    exact wpAny_execs_nil (wpAny_execs_nil q)
  have I0 := I.wish Eb
  refine PySem.W.methodCall_KW (pl := pl) (thn (he Eb pins s σ H _ I0 h) fun u s1 ⟨x, H1, I1, rx, a, C, dx, fs, sp, ex, ea, l, hR, q⟩ => ?_) ht
  subst ex
  obtain rfl : u = Value.ref a := rx
  obtain ⟨c, f, fd, ps, hm, F, hb⟩ := M C sp hR
  refine getmeth_ok (X := X.wish Eb) I1 ea c hm l ?_
  refine PySem.W.callWith_K (first := [.ref a]) (h₀ := X.base) I.ok.mod.kin hm.kp (thn (ha Eb cpos pins s1 σ H1 _ I1 q) fun us s2 ⟨vs, H2, I2, r, q2⟩ => ⟨I2.kIn, ?_⟩) hst hpl
  have r2 : Vals (.ref a :: vs) (.ref a :: us ++ []) := by rw [List.append_nil]; exact .cons rfl r
  have hl : (Value.ref a :: us ++ []).length = ps.length := by rw [← r2.length]; exact F.len _ _ _ _ q2
  have J := I2.unwish
  refine wpAny_call (codeAny_mono (F.run X.A X.stack s2 H2 ⟨.ref a :: us, []⟩ (.ref a :: us ++ []) (.ref a :: vs) _ _ hr J.env0 (hb s2 (.ref a :: us) J.kIn hl) r2 q2) fun rr s' hq => ?_)
  cases rr with
  | ok fl =>
    cases fl with
    | ret u => exact I2.after (X := X.wish Eb) hq
    | next => exact False.elim hq
    | brk => exact False.elim hq
    | cont => exact False.elim hq
  | error ee =>
    show Eb ee s'
    subst hEb
    exact to_clauses d J hh hq
end
end L2
namespace L2
open PySem PySem.Spec PyProof.Rows
def rTupOf (K : PySem.W.Frag) : List V → Hp → VK → Prop := fun xs H Q => ∃ p ys, xs = [.ref p] ∧ ((SqL K H p ys ∧ ∀ l, H l = none → Q (.ref l) (upd H l (.tup ys))) ∨ (SqT K H p ys ∧ Q (.ref p) H))
theorem call_tupK {X : Cx} {K : PySem.W.Frag} (h : X.K = K) : CallR X (.type "tuple") (rTupOf K) := by subst h; exact call_tuple_of
end L2

namespace L2
open PySem PySem.Spec PyProof.Rows PySem.W
section
variable {X : Cx} {K : PySem.W.Frag}
/-- the dict, where the exception has one, is there -/
def DictIn (H : Hp) (da : Option Addr) : Prop := ∀ dx, da = some dx → ∃ fs, H dx = some (.xd fs)
def rIsXd (K : PySem.W.Frag) : List V → Hp → VK → Prop := fun xs H Q => ∃ (a C C1 : Addr) (da : Option Addr) (b : Bool), xs = [.ref a, .ref C1] ∧ H a = some (excO a C da) ∧ DictIn H da ∧ XIs K C ∧ kitOne K (.ref C) (.ref C1) = some b ∧ Q (.bl b) H
def rIsXV (K : PySem.W.Frag) : List V → Hp → VK → Prop := fun xs H Q => ∃ (a C : Addr) (n : String) (da : Option Addr) (b : Bool), xs = [.ref a, .ty n] ∧ H a = some (excO a C da) ∧ DictIn H da ∧ XIs K C ∧ kitOne K (.ref C) (.type n) = some b ∧ Q (.bl b) H
def rIsXTd (K : PySem.W.Frag) : List V → Hp → VK → Prop := fun xs H Q => ∃ (a C t : Addr) (cs : List Addr) (da : Option Addr) (b : Bool), xs = [.ref a, .ref t] ∧ H a = some (excO a C da) ∧ DictIn H da ∧ H t = some (.tup (cs.map V.ref)) ∧ XIs K C ∧ kitAny K (.ref C) (cs.map Value.ref) = some b ∧ Q (.bl b) H
/-- isinstance(x, C) of an instance of an own class -/
def rIsO (K : PySem.W.Frag) : List V → Hp → VK → Prop := fun xs H Q => ∃ (x : V) (C1 : Addr) (t : Value) (b : Bool), xs = [x, .ref C1] ∧ TyOf K H x t ∧ kitOne K t (.ref C1) = some b ∧ Q (.bl b) H
theorem call_isO (e : X.K = K) : CallR X (.builtin "isinstance") (rIsO K) := by
  subst e
  intro pins s σ H xs us Q I r h
  obtain ⟨x, C1, t, b, rfl, ty, e, q⟩ := h
  obtain ⟨u, w, rfl, ru, rw'⟩ := vals2 r
  cases rw'
  exact isinst_ok I ru ty e fun tk => ⟨.bl b, H, I.tok tk, rfl, q⟩
end
end L2

namespace L2
open PySem
/-- what is wanted may be weakened -/
def monoA (t : TA) : TA := fun σ H R => ∃ R0 : List V → Hp → Prop, t σ H R0 ∧ ∀ xs H1, R0 xs H1 → R xs H1
def tLstG (t : TA) : TE := fun σ H Q => t σ H fun xs H1 => xs.length ≤ sizeLine ∧ ∀ p G, H1 p = none → Same H1 G → G p = some (.lst xs) → Q (.ref p) G
def tTupG (t : TA) : TE := fun σ H Q => t σ H fun xs H1 => xs.length ≤ sizeLine ∧ ∀ p G, H1 p = none → Same H1 G → G p = some (.tup xs) → Q (.ref p) G
section
variable {X : Cx} {es : List Expr} {t : TA} {pos : Pos}
theorem pa_mono (h : PA X es t) : PA X es (monoA t) := fun pos pins s σ H R I ⟨R0, h0, k⟩ =>
  thn (h pos pins s σ H R0 I h0) fun us s1 ⟨xs, H1, I1, r, q⟩ => ⟨xs, H1, I1, r, k _ _ q⟩
theorem same_new {H : Hp} {p : Addr} {o : HO} (h : H p = none) : Same H (upd H p o) := fun b u e => by rw [upd_ne (ne_of_none e h)]; exact e
theorem pe_lstG (h : PA X es t) : PE X (.List es pos) (tLstG t) := fun pins s σ H Q I hq => pe_lst (pa_mono h) pins s σ H Q I ⟨_, hq, fun xs H1 z => ⟨z.1, fun p hp => z.2 p _ hp (same_new hp) upd_same⟩⟩
end
end L2
namespace L2
open PySem PySem.W
section
variable {K : PySem.W.Frag} {h : Heap} {mg : Str → Option Value} {x : Str} {C : Addr}
theorem ocls_mk (X : K.In h) (G : h.Ns mainGlobals mg) (za : nsIn K mainGlobals x = some (some (.ref C))) (z1 : plainGet K C Str.empty = true) (z2 : hasDictIn K C = true) (z3 : plainOver K C = true) (z4 : findIn K (.ref C) "__setattr__" = some (some (.builtin "object.__setattr__"))) (z5 : makesIn K C = true) (z6 : keepIn K (.ref C) = true)
    (z7 : findIn K (.ref C) "__class__" = some (some (.builtin "object.__class__"))) (z8 : specialIn K (.builtin "object.__class__") "__get__" = some (some (.builtin "getset_descriptor.__get__"))) (z9 : takesIn K (.builtin "object.__class__") = some true) (z10 : mroIn K C (.type "object") = some true) : ∃ C, mg x = some (.ref C) ∧ OCls K C :=
  ⟨C, mg_of X G za, ⟨⟨z1, z2, z3, z4⟩, z5, z6, z7, z8, z9, z10⟩⟩
theorem noattr_mk {f : Str} (X : K.In h) (G : h.Ns mainGlobals mg) (za : nsIn K mainGlobals x = some (some (.ref C))) (z1 : findIn K (.ref C) f = some none) : ∃ C, mg x = some (.ref C) ∧ NoAttr K C f := ⟨C, mg_of X G za, z1⟩
theorem init0_mk (X : K.In h) (G : h.Ns mainGlobals mg) (za : nsIn K mainGlobals x = some (some (.ref C))) (z1 : findIn K (.ref C) "__init__" = some (some (.builtin "object.__init__"))) : ∃ C, mg x = some (.ref C) ∧ findIn K (.ref C) "__init__" = some (some (.builtin "object.__init__")) := ⟨C, mg_of X G za, z1⟩
variable {f : Addr} {m qual : Str} {st : Stmt} {ps : List Str} {oc kV doc pm cd ct : Value} {od an : Option Addr} {sl : Array (Option Value)}
theorem init_mk (X : K.In h) (G : h.Ns mainGlobals mg) (za : nsIn K mainGlobals x = some (some (.ref C))) (z1 : makesIn K C = true) (z2 : findIn K (.ref C) "__init__" = some (some (.ref f))) (z3 : isFn K (.ref f) = true) (z4 : keepIn K (.ref C) = true)
    (z5 : K.lookup f = some ⟨oc, od, .func (fnOf "__init__" qual (defArgs st) (defBody st) (defScope st) .none kV doc pm an cd ct), sl⟩) (z6 : codeIn K cd qual = true) (z7 : keepIn K (.ref f) = true)
    (zb : ∀ (kV doc pm : Value) (an : Option Addr) (cdv ct : Value) (us : List Value), us.length = ps.length → bindArgs (fnOf "__init__" qual (defArgs st) (defBody st) (defScope st) .none kV doc pm an cdv ct) ⟨us, []⟩ = pure (ps.zip us)) :
    ∃ C f fd, mg x = some (.ref C) ∧ Mk K C f ∧ Fun K "__init__" qual st f fd ∧ Binds K fd ps [] := by
  have F := fun_mk (x := "__init__") (qual := qual) (st := st) z5 z6 z7
  exact ⟨C, f, _, mg_of X G za, ⟨z1, z2, z3, z4⟩, F, F.binds zb⟩
theorem meth_mk (X : K.In h) (G : h.Ns mainGlobals mg) (za : nsIn K mainGlobals x = some (some (.ref C))) (z2 : findIn K (.ref C) m = some (some (.ref f))) (z3 : isFn K (.ref f) = true)
    (z5 : K.lookup f = some ⟨oc, od, .func (fnOf m qual (defArgs st) (defBody st) (defScope st) .none kV doc pm an cd ct), sl⟩) (z6 : codeIn K cd qual = true) (z7 : keepIn K (.ref f) = true)
    (zb : ∀ (kV doc pm : Value) (an : Option Addr) (cdv ct : Value) (us : List Value), us.length = ps.length → bindArgs (fnOf m qual (defArgs st) (defBody st) (defScope st) .none kV doc pm an cdv ct) ⟨us, []⟩ = pure (ps.zip us)) :
    ∃ C f fd, mg x = some (.ref C) ∧ Meth K C m f ∧ Fun K m qual st f fd ∧ Binds K fd ps [] := by
  have F := fun_mk (x := m) (qual := qual) (st := st) z5 z6 z7
  exact ⟨C, f, _, mg_of X G za, ⟨z2, z3, z7⟩, F, F.binds zb⟩
end
end L2

namespace L2
open PySem PySem.Spec PyProof.Rows
theorem extend_tup (l : Addr) (items : Array Value) (n : Nat) (b : Addr) (items2 : Array Value) (n2 : Nat) (dd : Option Addr) (sl : Array (Option Value)) (hs0 : ¬(!items.isEmpty && Builtin.List.listTooLong (items.size + items2.size)) = true) (hs1 : items.size ≤ sizeLine) (hs2 : items.size + items2.size ≤ sizeLine + 1) :
    Meets (Builtin.«list.extend» ⟨[.ref l, .ref b], []⟩) (fun _ R s => s.heap.get? l = some { cls := .type "list", dict := none, data := .seq items n, slots := #[] } ∧ s.heap.get? b = some { cls := .type "tuple", dict := dd, data := .seq items2 n2, slots := sl } ∧ R (.ok (.ret Value.none)) { s with heap := s.heap.update l (Obj.mapSeq fun x => x ++ items2), toks := s.toks }) :=
  .of_wp fun prog w A R s h => by
    obtain ⟨hp, g, d, tk, os⟩ := s
    obtain ⟨hl, hb, h⟩ := h
    have f1 := AutoSeq1.idx_int
    have f2 := AutoSeq1.sub_tuple_tuple
    have f3 := AutoSeq1.sub_list_list
    have f4 := AutoSeq1.sub_tuple_list
    have f5 := AutoSeq1.sub_list_tuple
    have hz' : (items ++ items2).size ≤ sizeLine + 1 := by rw [Array.size_append]; exact hs2
    wp_walk using (wpAny_updateSeq hl rfl (hz := hs1) (_hz' := hz')), AutoSeq1.wpAny_loadPart' hl, AutoSeq1.wpAny_loadPart' hb
    exact ⟨_, rfl, h⟩
section
variable {X : Cx} {K : PySem.W.Frag}
def rExtendT (K : PySem.W.Frag) : V → List V → Hp → VK → Prop := fun x vs H Q => ∃ l b xs zs, x = .ref l ∧ vs = [.ref b] ∧ H l = some (.lst xs) ∧ SqT K H b zs ∧ xs.length + zs.length ≤ sizeLine ∧ Q .non (upd H l (.lst (xs ++ zs)))
theorem mt_extendT (eK : X.K = K) : MtM X "list.extend" (rExtendT K) := by
  subst eK
  intro pins s σ H x vs v us Q I rx rv h
  obtain ⟨l, b, xs, zs, rfl, rfl, hH, hB, hz, q⟩ := h
  cases rx
  obtain ⟨u, rfl, ru⟩ := rv.one
  cases ru
  obtain ⟨z, its, n, r, hl, e⟩ := I.lstM hH
  obtain ⟨its2, r2, ⟨⟨c2, d2, dt2, sl2⟩, e2, hc2, n2, hd2⟩, z2⟩ := I.tuple hB
  simp only at hc2 hd2
  subst hc2 hd2
  have hl2 := r2.length
  have hsz : its.toArray.size + its2.toArray.size ≤ sizeLine := by rw [List.size_toArray, List.size_toArray]; omega
  have hlong : ¬ (!its.toArray.isEmpty && Builtin.List.listTooLong (its.toArray.size + its2.toArray.size)) = true := by rw [notLongL hsz, Bool.and_false]; exact Bool.false_ne_true
  refine call_meets F.slot_list_extend ⟨_, e, rfl⟩ F.entry_list_extend (F.args_list_extend_2 _ _) (extend_tup l its.toArray n b its2.toArray n2 d2 sl2 hlong (by rw [List.size_toArray]; omega) (by omega)) ⟨e, e2, ?_⟩
  refine ⟨.non, _, I.lset (its' := its ++ its2) hH e (by simp) (r.append r2) ?_, rfl, q⟩
  rw [List.length_append]
  omega
def rCount : V → List V → Hp → VK → Prop := fun x vs H Q => ∃ (l : Addr) (bs : List Bool), x = .ref l ∧ vs = [.bl true] ∧ H l = some (.lst (bs.map V.bl)) ∧ Q (.int (bs.count true : Nat)) H
theorem vals_bools : ∀ {bs : List Bool} {us : List Value}, Vals (bs.map V.bl) us → us = bs.map Value.bool
  | [], _, .nil => rfl
  | b :: bs, _, .cons h t => by
    cases (show _ = Value.bool b from h)
    rw [vals_bools t]
    rfl
theorem mt_count : MtM X "list.count" rCount := by
  intro pins s σ H x vs v us Q I rx rv h
  obtain ⟨l, bs, rfl, rfl, hH, q⟩ := h
  cases rx
  obtain ⟨u, rfl, ru⟩ := rv.one
  cases ru
  obtain ⟨z, its, n, r, hl, e⟩ := I.lstM hH
  refine call_meets F.slot_list_count ⟨_, e, rfl⟩ F.entry_list_count (F.args_list_count_2 _ _) (SeqAt.list_countAt l its.toArray n none #[] (.bool true) (fun v => v == .bool true)) ⟨e, fun y hy => ?_, ?_⟩
  · have eb := vals_bools r
    subst eb
    obtain ⟨b, _, rfl⟩ := List.mem_map.mp (by simpa using hy : y ∈ bs.map Value.bool)
    have := SeqAt.EqAt.bool_bool (A := X.A.in1) (s := s) b true
    rw [show (Value.bool b == Value.bool true) = (b == true) by cases b <;> rfl]
    exact this
  · have eb := vals_bools r
    subst eb
    refine ⟨.int (bs.count true : Nat), H, I.tok _, ⟨s.toks, ?_⟩, q⟩
    congr 2
    show List.countP (fun v => v == Value.bool true) (bs.map Value.bool).toArray.toList = _
    rw [List.toList_toArray, List.countP_map, List.count]
    congr 1
    funext b
    cases b <;> rfl
end
end L2

namespace PySem
namespace F
theorem slot_reversed_init : Slot "reversed" "__init__" "object.__init__" :=
  .of (owner := "object") (n := "__init__") (by rw [typeLookup_type, builtinLookup_eq_fast]; kernel_rfl) (by decide +kernel) (by decide +kernel) (by decide +kernel)
    (by first | exact .inl (by decide +kernel) | exact .inr (by decide +kernel)) (by rw [isSubtype_type]; kernel_rfl)
theorem called_reversed : TypeCalled "reversed" "reversed.__new__" "object.__init__" :=
  ⟨by decide +kernel, by decide +kernel, ⟨_, _, mro_reversed⟩, made_reversed, by decide +kernel, sub_reversed_self, slot_reversed_init⟩
theorem newNe_reversed : (some "reversed.__new__" != some "object.__new__") = true := by decide +kernel
theorem tup_norev : typeLookup (.type "tuple") "__reversed__" = pure none := by rw [typeLookup_type, builtinLookup_eq_fast]; kernel_rfl
theorem tup_getitem : typeLookup (.type "tuple") "__getitem__" = pure (some (.builtin "tuple.__getitem__")) := by rw [typeLookup_type, builtinLookup_eq_fast]; kernel_rfl
theorem tup_nodict : isSubtype (.type "tuple") (.type "dict") = pure false := by rw [isSubtype_type]; kernel_rfl
theorem slot_rev_next : Slot "reversed" "__next__" "reversed.__next__" :=
  .of (owner := "reversed") (n := "__next__") (by rw [typeLookup_type, builtinLookup_eq_fast]; kernel_rfl) (by decide +kernel) (by decide +kernel) (by decide +kernel)
    (by first | exact .inl (by decide +kernel) | exact .inr (by decide +kernel)) (by rw [isSubtype_type]; kernel_rfl)
theorem entry_rev_next : entryFor table "reversed.__next__" = some Builtin.«reversed.__next__» := entryFor_of_tree (by kernel_rfl)
theorem owner_rev : Manifest.owners.lookup (String.ofList ['d', 'e', 's', 'r', 'e', 'v', 'e', 'r'].reverse) = some Manifest.sig_reversed := by kernel_rfl
theorem args_rev_next_1 (a : Value) : argsOk "reversed.__next__" ⟨[a], []⟩ := by
  unfold argsOk; rw [signature?_of (id := "reversed.__next__") (n := ['_', '_', 't', 'x', 'e', 'n', '_', '_']) (o := ['d', 'e', 's', 'r', 'e', 'v', 'e', 'r']) (by kernel_rfl) owner_rev]; kernel_rfl
end F
section
variable {prog : Program} {w : World} {A : Around} {E : Value → Shared → Prop} {s : Shared}
def revT (t : Addr) (i : Int) : Obj := { cls := .type "reversed", data := .fields #[.ref t, rawInt i] }
theorem rev_new (t : Addr) (items : Array Value) (n : Nat) (dd : Option Addr) (sl : Array (Option Value)) (hz : (items.size : Int) < 2 ^ 63) :
    Meets (Builtin.«reversed.__new__» ⟨[.type "reversed", .ref t], []⟩) (fun _ R s => s.heap.get? t = some { cls := .type "tuple", dict := dd, data := .seq items n, slots := sl } ∧ R (.ok (.ret (.ref s.heap.objs.size))) { s with heap := s.heap.push (revT t ((items.size : Int) - 1)), toks := s.toks + 1 + 1 }) := by
  intro prog w A R s h
  obtain ⟨hp, g, d, tk, os⟩ := s
  obtain ⟨hl, h⟩ := h
  have hT : (⟨hp, g, d, tk, os⟩ : Shared).TypeIs (.ref t) "tuple" := ⟨_, hl, rfl⟩
  have hI : PyProof.Rows.IsTup (⟨hp, g, d, tk, os⟩ : Shared).heap t items := ⟨_, hl, rfl, _, rfl⟩
  have f1 := F.tup_norev
  have f2 := F.tup_getitem
  have f3 := F.tup_nodict
  unfold Builtin.«reversed.__new__»
  refine wpAny_bind (wpAny_of_eq (newClass_reversed _) ?_)
  try dsimp only
  refine wpAny_bind (wpAny_of_eq (a := ()) (by first | rfl | kernel_rfl) ?_)
  refine wpAny_bind (wpAny_of_eq (a := ()) (by first | rfl | kernel_rfl) ?_)
  try dsimp only
  refine wpAny_bind (wpAny_specialOf hT f1 ?_)
  try dsimp only
  repeat (any_goals (first | assumption | with_reducible refine AutoSeq1.wpAny_loadPart' hl ?_ | (with_reducible refine wpAny_bind (PyProof.Rows.len_tuple hI hz ?_)) | wp_step))
def Heap.IsRevT (h : Heap) (a t : Addr) (i : Int) : Prop := ∃ o, h.get? a = some o ∧ o.cls = .type "reversed" ∧ o.data = .fields #[.ref t, rawInt i]
theorem Heap.IsRevT.typeIs {a l : Addr} {i : Int} (x : s.heap.IsRevT a l i) : s.TypeIs (.ref a) "reversed" := let ⟨o, ho, hc, _⟩ := x; ⟨o, ho, hc⟩
theorem Heap.IsRevT.at {h h' : Heap} {a l : Addr} {i : Int} (x : h.IsRevT a l i) (e : ∀ o, h.get? a = some o → h'.get? a = some o) : h'.IsRevT a l i := let ⟨o, ho, r⟩ := x; ⟨o, e _ ho, r⟩
theorem call_reversed_tup {t : Addr} {items : Array Value} {Q : Value → Shared → Prop} (ht : PyProof.Rows.IsTup s.heap t items) (hz : (items.size : Int) < 2 ^ 63)
    (h : Q (.ref s.heap.objs.size) { s with heap := s.heap.push (revT t ((items.size : Int) - 1)), toks := s.toks + 1 + 1 }) : wpAny (model prog w) A (call (.type "reversed") [.ref t]) Q E s := by
  obtain ⟨⟨c, dd, dt, sl⟩, ho, hc, n, hd⟩ := ht
  simp only at hc hd
  subst hc hd
  exact callType_new F.called_reversed F.newNe_reversed (F.typeCall_reversed_1 _) (F.newCall_reversed_1 _) (fun obj => F.args_object_init_2 _ _) F.entry_reversed_new (rev_new t items n dd sl hz) ⟨ho, ⟨⟨_, Heap.get?_push_size _ rfl, rfl⟩, h⟩⟩
theorem wpAny_pyNext_revT_item {it l : Addr} {i : Nat} {items : Array Value} {x : Value} {Q : Option Value → Shared → Prop} (hit : s.heap.IsRevT it l (i : Int)) (hl : PyProof.Rows.IsTup s.heap l items) (hx : items[i]? = some x) (hz : (items.size : Int) < 2 ^ 63)
    (hQ : ∀ h' k, h'.IsRevT it l ((i : Int) - 1) → Heap.SameBut it s.heap h' → Q (some x) { s with heap := h', toks := k }) : wpAny (model prog w) A (pyNext (.ref it)) Q E s := by
  obtain ⟨o, ho, hc, hd⟩ := id hit
  have hlt : i < items.size := (Array.getElem?_eq_some_iff.mp hx).1
  unfold pyNext
  refine wpAny_bind (wpAny_attempt (wpAny_callSpecial?_slot (name := Str.ofString "__next__") hit.typeIs F.slot_rev_next
    (wpAny_call_entry F.slot_rev_next hit.typeIs F.entry_rev_next ?_ (F.args_rev_next_1 _))))
  unfold Builtin.«reversed.__next__»
  refine wpAny_bind (wpAny_of_eq (a := (Value.ref it, [])) rfl ?_)
  try dsimp only
  refine wpAny_bind (wpAny_field ho hd (x := .ref l) rfl ?_)
  refine wpAny_bind (wpAny_field ho hd (x := rawInt (i : Int)) rfl ?_)
  show wpAny _ _ (if (i : Int) < 0 then _ else _) _ _ s
  rw [if_neg (by omega)]
  refine wpAny_bind (wpAny_specialOf hl.typeIs F.tup_getitem ?_)
  try dsimp only
  refine wpAny_bind (wpAny_mkInt ?_)
  refine wpAny_bind (wpAny_attempt ?_)
  refine PyProof.Rows.getItem_tuple (by simpa using hl) (by omega) (by omega) (j := i) ?_ hx ?_
  · rw [seqIndex_of (by omega) (by omega), Int.toNat_natCast]
  show wpAny _ _ (field (.ref it) 1 >>= _) _ _ _
  refine wpAny_bind (wpAny_field (s := { s with toks := s.toks + 1 }) ho hd (x := rawInt (i : Int)) rfl ?_)
  show wpAny _ _ (setField (.ref it) 1 (rawInt ((i : Int) - 1)) >>= _) _ _ _
  refine wpAny_bind (wpAny_setField (s := { s with toks := s.toks + 1 }) ho hd (by simp) ?_)
  first
  | refine wpAny_pure ⟨x, rfl, wpAny_pure (hQ _ _ ?_ (Heap.SameBut.update ..))⟩
  | refine wpAny_bind (wpAny_pure (wpAny_pure ⟨x, rfl, wpAny_pure (hQ _ _ ?_ (Heap.SameBut.update ..))⟩))
  exact ⟨_, Heap.get?_update_self _ ho (Obj.isFreed_of_fields (Obj.data_mapFields hd _)), (Obj.cls_mapFields ..).trans hc, by
    rw [Obj.data_mapFields hd]; simp⟩
theorem wpAny_pyNext_revT_end {it l : Addr} {i : Int} {Q : Option Value → Shared → Prop} (hh : A.handled = none) (hi : i < 0) (hit : s.heap.IsRevT it l i)
    (hQ : ∀ h', Heap.ExtBut it s.heap h' → Q none { s with heap := h' }) : wpAny (model prog w) A (pyNext (.ref it)) Q E s := by
  obtain ⟨o, ho, hc, hd⟩ := id hit
  unfold pyNext
  refine wpAny_bind (wpAny_attempt (wpAny_callSpecial?_slot (name := Str.ofString "__next__") hit.typeIs F.slot_rev_next
    (wpAny_call_entry F.slot_rev_next hit.typeIs F.entry_rev_next ?_ (F.args_rev_next_1 _))))
  unfold Builtin.«reversed.__next__»
  refine wpAny_bind (wpAny_of_eq (a := (Value.ref it, [])) rfl ?_)
  try dsimp only
  refine wpAny_bind (wpAny_field ho hd (x := .ref l) rfl ?_)
  refine wpAny_bind (wpAny_field ho hd (x := rawInt i) rfl ?_)
  show wpAny _ _ (if (i : Int) < 0 then _ else _) _ _ s
  rw [if_pos hi]
  refine wpAny_bind (wpAny_rule ?_)
  show wpAny _ _ ((setField (.ref it) 1 (rawInt (-1)) >>= fun _ => setField (.ref it) 0 .none) >>= _) _ _ _
  refine wpAny_bind (wpAny_bind (wpAny_setField ho hd (by simp) ?_))
  have ho1 := Heap.get?_update_self (h := s.heap) _ ho (Obj.isFreed_of_fields (Obj.data_mapFields hd (fun vs => vs.set! 1 (rawInt (-1)))))
  refine wpAny_setField (s := { s with heap := _ }) ho1 (Obj.data_mapFields hd _) (by simp) ?_
  first
  | show wpAny _ _ (newExc (.type "StopIteration") [] >>= _) _ _ _
  | (refine wpAny_bind ?_; show wpAny _ _ (newExc (.type "StopIteration") [] >>= _) _ _ _)
  refine wpAny_bind ?_
  simp only [newExc, newTuple]
  refine wpAny_bind (wpAny_newObj_type ?_ (by size_fits))
  refine wpAny_bind (m := firstArgMember _ _) (wpAny_of_eq (a := Value.none) (by first | rfl | (simp only [firstArgMember]; rfl)) ?_)
  refine wpAny_newObj_type ?_ (by size_fits)
  simp only [raiseNew]
  refine wpAny_bind (wpAny_handled ?_)
  first | rw [show A.in1.handled = none from hh] | rw [hh]
  refine wpAny_bind (wpAny_pure (wpAny_throw ?_))
  refine wpAny_bind (wpAny_isInstance (T := "StopIteration") (b := true) ⟨_, Heap.get?_push_size _ rfl, rfl⟩ isSubtype_stop ?_)
  exact wpAny_pure (hQ _ fun b o hb e => Heap.get?_push_of_some _ (Heap.get?_push_of_some _ ((Heap.SameBut.update ..).extBut b o hb ((Heap.SameBut.update ..).extBut b o hb e))))
theorem F.slot_rev_iter : Slot "reversed" "__iter__" "reversed.__iter__" :=
  .of (owner := "reversed") (n := "__iter__") (by rw [typeLookup_type, builtinLookup_eq_fast]; kernel_rfl) (by decide +kernel) (by decide +kernel) (by decide +kernel)
    (by first | exact .inl (by decide +kernel) | exact .inr (by decide +kernel)) (by rw [isSubtype_type]; kernel_rfl)
theorem F.entry_rev_iter : entryFor table "reversed.__iter__" = some Builtin.«dict_keyiterator.__iter__» :=
  entryFor_alias (id' := "dict_keyiterator.__iter__") (by kernel_rfl) (by first | rfl | decide +kernel | (unfold String.splitOn; simp +decide [String.splitOnAux])) (by decide +kernel) (by kernel_rfl)
theorem F.args_rev_iter_1 (a : Value) : argsOk "reversed.__iter__" ⟨[a], []⟩ := by
  unfold argsOk; rw [signature?_of (id := "reversed.__iter__") (n := ['_', '_', 'r', 'e', 't', 'i', '_', '_']) (o := ['d', 'e', 's', 'r', 'e', 'v', 'e', 'r']) (by kernel_rfl) F.owner_rev]; kernel_rfl
theorem wpAny_pyIter_revT {it l : Addr} {i : Int} {Q : Value → Shared → Prop} (hit : s.heap.IsRevT it l i) (h : Q (.ref it) s) : wpAny (model prog w) A (pyIter (.ref it)) Q E s := by
  refine wpAny_pyIter_slot hit.typeIs F.slot_rev_iter (wpAny_call_entry F.slot_rev_iter hit.typeIs F.entry_rev_iter ?_ (F.args_rev_iter_1 _))
  show wpAny _ _ (ret (.ref it)) _ _ s
  exact wpAny_pure ⟨_, rfl, "reversed", _, hit.typeIs, F.slot_rev_next.lookup, h⟩
end
end PySem
namespace L2
open PySem PySem.Spec PyProof.Rows
/-- a tuple of n, from its end -/
def ItR (K : PySem.W.Frag) (a : Addr) (n : Nat) : It :=
  ⟨fun i H => ∃ xs x, SqT K H a xs ∧ i < n ∧ xs[n - 1 - i]? = some x, fun i H x H' => H' = H ∧ ∀ xs, SqT K H a xs → xs[n - 1 - i]? = some x, fun i _ => n ≤ i⟩
theorem turn_revT {P : Program} {w : World} {K : PySem.W.Frag} {tg : Expr} (a it : Addr) (n : Nat) (hne : a ≠ it) : Turn P w K tg (ItR K a n) [it] it (fun i h => h.IsRevT it a ((n : Int) - 1 - (i : Int))) where
  mem := by simp
  obj := fun i h st b hb => by
    have e : b = it := by simpa using hb
    subst e
    obtain ⟨o, e, c, d⟩ := st
    exact ⟨o, e, fun v z => by rw [d] at z; cases z⟩
  keep := fun i h h' st k => st.at fun o e => k it (by simp) o e
  item := by
    intro X hP hw hK hc i pins s σ H E I hf st hg
    subst hP hw hK
    obtain ⟨xs, x, hq, hin, hx⟩ := hg
    obtain ⟨its, rv, p, hz⟩ := I.tuple hq
    obtain ⟨u, hu, ru⟩ := rv.get hx
    obtain ⟨f0, f1, f2, f3, f4, f5⟩ := hf it (by simp)
    have e1 : (n : Int) - 1 - (i : Int) = ((n - 1 - i : Nat) : Int) := by omega
    have e2 : ((n - 1 - i : Nat) : Int) - 1 = (n : Int) - 1 - ((i + 1 : Nat) : Int) := by omega
    rw [e1] at st
    have hsz : ((its.toArray.size : Nat) : Int) < 2 ^ 63 := by
      have := rv.length
      rw [List.size_toArray]
      have : sizeLine < 2 ^ 63 := by decide
      omega
    refine wpAny_pyNext_revT_item st p (x := u) (by simpa using hu) hsz fun h' k st' sb => ?_
    rw [e2] at st'
    have I1 : Inv X pins σ H { s with heap := h', toks := k } := I.turned (t' := k) (fun b o hb e => (sb.2 b hb).trans e) f0 f1 f3 f4 f5
    obtain ⟨o, e, c, d⟩ := id st'
    exact ⟨u, rfl, go_of (s := { s with heap := h', toks := k }) e c d (by decide) ⟨x, H, I1, ru, ⟨rfl, fun ys hy => by rw [I.tuple_inj hy hq]; exact hx⟩, st', fun b hb => (hf b hb).1⟩⟩
  done := by
    intro X hP hw hK hc i pins s σ H E I hf st hg
    subst hP hw hK
    have hg : n ≤ i := hg
    obtain ⟨f0, f1, f2, f3, f4, f5⟩ := hf it (by simp)
    exact wpAny_pyNext_revT_end (I.ok.hd hc) (by omega) st fun h' eb => ⟨rfl, I.turned (t' := s.toks) (fun b o hb e => eb b o hb e) f0 f1 f3 f4 f5⟩
  self := fun _ _ _ _ _ st h => wpAny_pyIter_revT st h
def iRevT (K : PySem.W.Frag) (ta : TA) : TI := fun σ H R => ta σ H fun vs H1 => ∃ a xs, vs = [.ref a] ∧ SqT K H1 a xs ∧ R (ItR K a xs.length) H1
theorem pi_revT {X : Cx} {tg : Expr} {a : Expr} {ta : TA} {p pos : Pos} (hg : Gl X "reversed") (hm : X.mg "reversed" = none) (ha : PA X [a] ta) (hs : starEach [a] X.env = [(false, eval a X.env)] := by rfl) : PI X tg (.Call (.Name "reversed" p) [a] [] pos) (iRevT X.K ta) := by
  intro pins s σ H R I h
  refine Call_ (ld_blt I hg hm boot_reversed (PyProof.Rows.callWith_type1 (thn (ha pos pins s σ H _ I h) fun us s1 ⟨vs, H1, I1, r1, q1⟩ => ?_) hs rfl))
  obtain ⟨a, xs, rfl, hq, q⟩ := q1
  obtain ⟨u, rfl, ru⟩ := r1.one
  cases ru
  obtain ⟨its, rv, pp, hz⟩ := I1.tuple hq
  have hl := rv.length
  have hsz : ((its.toArray.size : Nat) : Int) < 2 ^ 63 := by
    rw [List.size_toArray]
    have : sizeLine < 2 ^ 63 := by decide
    omega
  refine call_reversed_tup pp hsz ?_
  have eN : ((its.toArray.size : Nat) : Int) - 1 = (xs.length : Int) - 1 - ((0 : Nat) : Int) := by rw [List.size_toArray, hl]; simp
  have st : (s1.heap.push (revT a (((its.toArray.size : Nat) : Int) - 1))).IsRevT s1.heap.objs.size a ((xs.length : Int) - 1 - ((0 : Nat) : Int)) := ⟨_, Heap.get?_push_size _ rfl, rfl, by rw [← eN]; rfl⟩
  refine wpAny_pyIter_revT (s := { s1 with heap := _, toks := _ }) st ?_
  refine ⟨s1.heap.objs.size, [s1.heap.objs.size], _, _, H1, rfl, I1.kept (t' := s1.toks + 1 + 1) fun b o e => Heap.get?_push_of_some _ e, turn_revT a _ xs.length (Nat.ne_of_lt pp.lt), st, fun b hb => ?_, q⟩
  have e : b = s1.heap.objs.size := by simpa using hb
  subst e
  exact I1.fpOk (Nat.le_refl _) (I1.hok.fresh (Nat.le_refl _))
theorem pi_revTK {X : Cx} {K : PySem.W.Frag} {tg : Expr} {a : Expr} {ta : TA} {p pos : Pos} (eK : X.K = K) (hg : Gl X "reversed") (hm : X.mg "reversed" = none) (ha : PA X [a] ta) (hs : starEach [a] X.env = [(false, eval a X.env)] := by rfl) : PI X tg (.Call (.Name "reversed" p) [a] [] pos) (iRevT K ta) := by subst eK; exact pi_revT hg hm ha hs
theorem comp_revT {K : PySem.W.Frag} {a : Addr} {xs : List V} {g : TG} {te : TE} {Q : VK} {σ : St} {H : Hp} (hn : xs.length ≤ 1000000) (Pv : Nat → List V → St → Hp → Prop) (h0 : Pv 0 [] σ H) (hlen : ∀ i ys σ H, Pv i ys σ H → ys.length = i)
    (hl : ∀ i ys σ H, i ≤ xs.length → Pv i ys σ H → SqT K H a xs)
    (hs : ∀ i ys σ H x, xs.reverse[i]? = some x → Pv i ys σ H → g x σ H fun σ2 H3 => te σ2 H3 fun y H5 => Pv (i + 1) (ys ++ [y]) σ2 H5)
    (hd : ∀ ys σ H D, Pv xs.length ys σ H → H D = none → Q (.ref D) (upd H D (.lst ys))) : CompW (ItR K a xs.length) g tNoIf te Q σ H :=
  comp_by hn Pv h0 hlen (fun i ys σ H h p => ⟨xs, xs[xs.length - 1 - i]'(by omega), hl i ys σ H (Nat.le_of_lt h) p, h, by simp⟩) (fun ys σ H p => Nat.le_refl _)
    (fun i ys σ H x H2 h p y => by obtain ⟨e, y⟩ := y; subst e; exact hs i ys σ _ x (by rw [List.getElem?_reverse h]; exact y xs (hl i ys σ _ (Nat.le_of_lt h) p)) p) hd
end L2

namespace TB

/-- what the landing of beat i leaves by the length -/
def land (P : List Int) (i : Nat) : Int := ((i : Int) + P.getD i 0) % (P.length : Int)

structure Row (P : List Int) : Prop where
  lo : 1 ≤ P.length
  hi : P.length ≤ 60
  bd : ∀ x ∈ P, -1000000 ≤ x ∧ x ≤ 1000000

structure Pat (P : List Int) : Prop extends Row P where
  inj : ∀ i j : Nat, i < P.length → j < P.length → land P i = land P j → i = j

theorem getD_get {P : List Int} {i : Nat} (h : i < P.length) : P.getD i 0 = P[i] := by
  rw [List.getD_eq_getElem?_getD, List.getElem?_eq_getElem h]
  rfl

theorem getD_mem {P : List Int} {i : Nat} (h : i < P.length) : P.getD i 0 ∈ P := by
  rw [getD_get h]
  exact List.getElem_mem h

theorem getD_some {P : List Int} {i : Nat} (h : i < P.length) : P[i]? = some (P.getD i 0) := by
  rw [getD_get h]
  exact List.getElem?_eq_getElem h

theorem land_lt {P : List Int} (h : 1 ≤ P.length) (i : Nat) : 0 ≤ land P i ∧ land P i < (P.length : Int) := by
  unfold land
  exact ⟨Int.emod_nonneg _ (by omega), Int.emod_lt_of_pos _ (by omega)⟩

/-- the spots: a row of the beats in some order -/
structure Spots (n : Nat) (sp : List Int) : Prop where
  len : sp.length = n
  rng : ∀ k : Nat, k < n → 0 ≤ sp.getD k 0 ∧ sp.getD k 0 < (n : Int)
  inj : ∀ i j : Nat, i < n → j < n → sp.getD i 0 = sp.getD j 0 → i = j

theorem range_getD (n k : Nat) (h : k < n) : ((List.range n).map fun i : Nat => (i : Int)).getD k 0 = (k : Int) := by
  rw [getD_get (by simpa using h)]
  simp

theorem Spots.range (n : Nat) : Spots n ((List.range n).map fun i : Nat => (i : Int)) where
  len := by simp
  rng := fun k h => by rw [range_getD n k h]; omega
  inj := fun i j hi hj e => by rw [range_getD n i hi, range_getD n j hj] at e; omega

theorem getD_set {l : List Int} {a i : Nat} {x : Int} : (l.set a x).getD i 0 = if i = a ∧ a < l.length then x else l.getD i 0 := by
  rw [List.getD_eq_getElem?_getD, List.getD_eq_getElem?_getD, List.getElem?_set]
  by_cases h : a = i
  · subst h
    by_cases h2 : a < l.length
    · simp [h2]
    · simp [h2]
  · rw [if_neg h, if_neg]
    rintro ⟨e, _⟩
    exact h e.symm

theorem Spots.swap {n : Nat} {sp : List Int} (S : Spots n sp) {k o : Nat} (hk : k < n) (ho : o < n) :
    Spots n ((sp.set k (sp.getD o 0)).set o (sp.getD k 0)) := by
  have hl := S.len
  have g : ∀ i, ((sp.set k (sp.getD o 0)).set o (sp.getD k 0)).getD i 0 = if i = o then sp.getD k 0 else if i = k then sp.getD o 0 else sp.getD i 0 := by
    intro i
    rw [getD_set, getD_set, List.length_set]
    by_cases h1 : i = o
    · rw [if_pos ⟨h1, by omega⟩, if_pos h1]
    · rw [if_neg (fun h => h1 h.1), if_neg h1]
      by_cases h2 : i = k
      · rw [if_pos ⟨h2, by omega⟩, if_pos h2]
      · rw [if_neg (fun h => h2 h.1), if_neg h2]
  refine ⟨by simp [hl], fun i hi => ?_, fun i j hi hj e => ?_⟩
  · rw [g i]
    split
    · exact S.rng k hk
    · split
      · exact S.rng o ho
      · exact S.rng i hi
  · have gp : ∀ m : Nat, ((sp.set k (sp.getD o 0)).set o (sp.getD k 0)).getD m 0 = sp.getD (if m = o then k else if m = k then o else m) 0 := by
      intro m
      rw [g m]
      split
      · rfl
      · split <;> rfl
    rw [gp i, gp j] at e
    have q := S.inj _ _ (by split; exact hk; split; exact ho; exact hi) (by split; exact hk; split; exact ho; exact hj) e
    revert q
    split <;> split <;> (try split) <;> (try split) <;> omega

theorem land_of {P : List Int} {i : Nat} {s q : Int} (h : P.getD i 0 = s - i + q * (P.length : Int)) (h0 : 0 ≤ s) (h1 : s < (P.length : Int)) : land P i = s := by
  unfold land
  rw [h]
  have e : (i : Int) + (s - i + q * (P.length : Int)) = s + q * (P.length : Int) := by omega
  rw [e, Int.add_mul_emod_self_right]
  exact Int.emod_eq_of_lt h0 h1

theorem Pat.of {n : Nat} {P sp : List Int} (h1 : 1 ≤ n) (h2 : n ≤ 60) (hl : P.length = n) (bd : ∀ x ∈ P, -1000000 ≤ x ∧ x ≤ 1000000) (S : Spots n sp)
    (h : ∀ k : Nat, k < n → ∃ q : Int, P.getD k 0 = sp.getD k 0 - k + q * (n : Int)) : Pat P := by
  subst hl
  have e : ∀ k : Nat, k < P.length → land P k = sp.getD k 0 := fun k hk => by
    obtain ⟨q, hq⟩ := h k hk
    exact land_of hq (S.rng k hk).1 (S.rng k hk).2
  exact ⟨⟨h1, h2, bd⟩, fun i j hi hj ee => S.inj i j hi hj (by rw [← e i hi, ← e j hj]; exact ee)⟩

/-- the throw that the three kinds make -/
theorem kind0 (s k f n : Int) : (s - k) % n + f * n = s - k + (f - (s - k) / n) * n := by
  have h := Int.emod_add_mul_ediv (s - k) n
  have e : (f - (s - k) / n) * n = f * n - n * ((s - k) / n) := by rw [Int.sub_mul, Int.mul_comm n]
  omega

theorem kind0_bd {s k f n : Int} (hn : 1 ≤ n) (hn2 : n ≤ 60) (hf : 0 ≤ f) (hf2 : f ≤ 2) : -1000000 ≤ (s - k) % n + f * n ∧ (s - k) % n + f * n ≤ 1000000 := by
  have h1 := Int.emod_nonneg (s - k) (show n ≠ 0 by omega)
  have h2 := Int.emod_lt_of_pos (s - k) (show 0 < n by omega)
  have h3 : 0 ≤ f * n := Int.mul_nonneg hf (by omega)
  have h4 : f * n ≤ 2 * n := Int.mul_le_mul_of_nonneg_right hf2 (by omega)
  omega

theorem kind1_bd {s k f n : Int} (hn : 1 ≤ n) (hn2 : n ≤ 60) (hs : 0 ≤ s) (hs2 : s < n) (hk : 0 ≤ k) (hk2 : k < n) (hf : 0 ≤ f) (hf2 : f ≤ 6) :
    -1000000 ≤ s - k + (f - 3) * n ∧ s - k + (f - 3) * n ≤ 1000000 := by
  have h4 : (f - 3) * n ≤ 3 * n := Int.mul_le_mul_of_nonneg_right (by omega) (by omega)
  have h5 : (-3) * n ≤ (f - 3) * n := Int.mul_le_mul_of_nonneg_right (by omega) (by omega)
  omega

theorem most_bd {n : Int} (hn : 1 ≤ n) (hn2 : n ≤ 60) : 0 ≤ (1000000 - n) / n ∧ (1000000 - n) / n * n ≤ 1000000 - n := by
  refine ⟨Int.ediv_nonneg (by omega) (by omega), ?_⟩
  have h := Int.emod_add_mul_ediv (1000000 - n) n
  have h1 := Int.emod_nonneg (1000000 - n) (show n ≠ 0 by omega)
  rw [Int.mul_comm] at h
  omega

theorem kind2_bd {s k f n : Int} (hn : 1 ≤ n) (hn2 : n ≤ 60) (hs : 0 ≤ s) (hs2 : s < n) (hk : 0 ≤ k) (hk2 : k < n) (hf : 0 ≤ f) (hf2 : f ≤ 2 * ((1000000 - n) / n)) :
    -1000000 ≤ s - k + (f - (1000000 - n) / n) * n ∧ s - k + (f - (1000000 - n) / n) * n ≤ 1000000 := by
  obtain ⟨m0, m1⟩ := most_bd hn hn2
  generalize (1000000 - n) / n = m at *
  have h4 : (f - m) * n ≤ m * n := Int.mul_le_mul_of_nonneg_right (by omega) (by omega)
  have h5 : (-m) * n ≤ (f - m) * n := Int.mul_le_mul_of_nonneg_right (by omega) (by omega)
  have h6 : (-m) * n = -(m * n) := Int.neg_mul m n
  omega

/-- lifted -/
theorem map_getD {P : List Int} {f : Int → Int} {i : Nat} (h : i < P.length) : (P.map f).getD i 0 = f (P.getD i 0) := by
  rw [getD_get (by simpa using h), getD_get h]
  simp

theorem emod_shift {a b k n : Int} (h : (a + k) % n = (b + k) % n) : a % n = b % n := by
  have := Int.emod_emod_of_dvd
  have h2 : ((a + k) - k) % n = ((b + k) - k) % n := by
    rw [Int.sub_emod, h, ← Int.sub_emod]
  have e1 : a + k - k = a := by omega
  have e2 : b + k - k = b := by omega
  rwa [e1, e2] at h2

theorem Pat.lift {P : List Int} (p : Pat P) {k : Int} (bd : ∀ x ∈ P, -1000000 ≤ x + k ∧ x + k ≤ 1000000) : Pat (P.map (· + k)) := by
  refine ⟨⟨by simpa using p.lo, by simpa using p.hi, fun x hx => ?_⟩, fun i j hi hj e => ?_⟩
  · obtain ⟨y, hy, rfl⟩ := List.mem_map.mp hx
    exact bd y hy
  · rw [List.length_map] at hi hj
    refine p.inj i j hi hj ?_
    unfold land at e ⊢
    rw [map_getD hi, map_getD hj, List.length_map] at e
    rw [← Int.add_assoc, ← Int.add_assoc] at e
    exact emod_shift e

end TB

namespace TB

theorem nodup_len : ∀ (n : Nat) (l : List Nat), l.Nodup → (∀ x ∈ l, x < n) → l.length ≤ n
  | 0, l, _, h => by
    cases l with
    | nil => exact Nat.le_refl _
    | cons a r => exact absurd (h a List.mem_cons_self) (Nat.not_lt_zero _)
  | n + 1, l, nd, h => by
    by_cases hm : n ∈ l
    · have h1 := nodup_len n (l.erase n) (nd.erase n) fun x hx => by
        have hx1 := h x (List.mem_of_mem_erase hx)
        have hx2 : x ≠ n := fun e => by
          subst e
          exact nd.not_mem_erase hx
        omega
      rw [List.length_erase_of_mem hm] at h1
      omega
    · have h1 := nodup_len n l nd fun x hx => by
        have hx1 := h x hx
        have hx2 : x ≠ n := fun e => hm (e ▸ hx)
        omega
      omega

theorem perm_range : ∀ (n : Nat) (l : List Nat), l.Nodup → (∀ x ∈ l, x < n) → l.length = n → l.Perm (List.range n)
  | 0, l, _, _, hl => by
    rw [List.eq_nil_of_length_eq_zero hl]
    exact List.Perm.refl _
  | n + 1, l, nd, h, hl => by
    have hm : n ∈ l := Classical.byContradiction fun hm => by
      have h1 := nodup_len n l nd fun x hx => by
        have hx1 := h x hx
        have hx2 : x ≠ n := fun e => hm (e ▸ hx)
        omega
      omega
    have p1 := List.perm_cons_erase hm
    have p2 := perm_range n (l.erase n) (nd.erase n) (fun x hx => by
      have hx1 := h x (List.mem_of_mem_erase hx)
      have hx2 : x ≠ n := fun e => by
        subst e
        exact nd.not_mem_erase hx
      omega) (by rw [List.length_erase_of_mem hm]; omega)
    rw [List.range_succ]
    exact p1.trans ((List.Perm.cons n p2).trans (List.perm_append_comm (l₁ := [n]) (l₂ := List.range n)))

theorem sum_perm {l₁ l₂ : List Int} (p : l₁.Perm l₂) : l₁.sum = l₂.sum := by
  induction p with
  | nil => rfl
  | cons x _ ih => rw [List.sum_cons, List.sum_cons, ih]
  | swap x y l => simp only [List.sum_cons]; omega
  | trans _ _ h1 h2 => exact h1.trans h2

/-- an injective map of the beats is a permutation -/
theorem map_perm {n : Nat} {f : Nat → Nat} (hf : ∀ i, i < n → f i < n) (inj : ∀ i j, i < n → j < n → f i = f j → i = j) : ((List.range n).map f).Perm (List.range n) := by
  refine perm_range n _ ?_ (fun x hx => ?_) (by simp)
  · unfold List.Nodup
    rw [List.pairwise_map]
    refine List.Pairwise.imp_of_mem ?_ List.nodup_range
    intro a b ha hb hab e
    exact hab (inj a b (List.mem_range.mp ha) (List.mem_range.mp hb) e)
  · obtain ⟨i, hi, rfl⟩ := List.mem_map.mp hx
    exact hf i (List.mem_range.mp hi)
theorem surj_of {n : Nat} {f : Nat → Nat} (hf : ∀ i, i < n → f i < n) (inj : ∀ i j, i < n → j < n → f i = f j → i = j) {y : Nat} (hy : y < n) : ∃ i, i < n ∧ f i = y := by
  have h := (map_perm hf inj).mem_iff (a := y)
  obtain ⟨i, hi, e⟩ := List.mem_map.mp (h.mpr (List.mem_range.mpr hy))
  exact ⟨i, List.mem_range.mp hi, e⟩
theorem sum_reindex {n : Nat} {f : Nat → Nat} (hf : ∀ i, i < n → f i < n) (inj : ∀ i j, i < n → j < n → f i = f j → i = j) (g : Nat → Int) :
    ((List.range n).map fun i => g (f i)).sum = ((List.range n).map g).sum := by
  have h := (map_perm hf inj).map g
  rw [List.map_map] at h
  exact sum_perm h

/-- a list by its places -/
theorem list_eq_range (P : List Int) : P = (List.range P.length).map fun i => P.getD i 0 := by
  apply List.ext_getElem?
  intro i
  by_cases h : i < P.length
  · rw [getD_some h, List.getElem?_map, List.getElem?_range h]
    rfl
  · rw [List.getElem?_eq_none (by omega), List.getElem?_eq_none (by simp; omega)]
theorem sum_range (P : List Int) : P.sum = ((List.range P.length).map fun i => P.getD i 0).sum := congrArg List.sum (list_eq_range P)
theorem ext_getD {A B : List Int} (hl : A.length = B.length) (h : ∀ i, i < A.length → A.getD i 0 = B.getD i 0) : A = B := by
  apply List.ext_getElem?
  intro i
  by_cases hi : i < A.length
  · rw [getD_some hi, getD_some (by omega), h i hi]
  · rw [List.getElem?_eq_none (by omega), List.getElem?_eq_none (by omega)]
theorem map_range_getD {n i : Nat} (h : i < n) (g : Nat → Int) : ((List.range n).map g).getD i 0 = g i := by
  rw [List.getD_eq_getElem?_getD, List.getElem?_map, List.getElem?_range h]
  rfl
theorem sum_add_map (f g : Nat → Int) : ∀ l : List Nat, (l.map fun i => f i + g i).sum = (l.map f).sum + (l.map g).sum
  | [] => by simp
  | a :: r => by simp only [List.map_cons, List.sum_cons, sum_add_map f g r]; omega
theorem sum_mul_map (n : Int) (f : Nat → Int) : ∀ l : List Nat, (l.map fun i => n * f i).sum = n * (l.map f).sum
  | [] => by simp
  | a :: r => by simp only [List.map_cons, List.sum_cons, sum_mul_map n f r, Int.mul_add]

/-- the landing as a number of the row -/
def landN (P : List Int) (i : Nat) : Nat := (land P i).toNat
theorem landN_cast {P : List Int} (h : 1 ≤ P.length) (i : Nat) : (landN P i : Int) = land P i := Int.toNat_of_nonneg (land_lt h i).1
theorem landN_lt {P : List Int} (h : 1 ≤ P.length) (i : Nat) : landN P i < P.length := by
  have h1 := landN_cast h i
  have h2 := (land_lt h i).2
  omega
theorem Pat.landN_inj {P : List Int} (p : Pat P) {i j : Nat} (hi : i < P.length) (hj : j < P.length) (e : landN P i = landN P j) : i = j := by
  refine p.inj i j hi hj ?_
  rw [← landN_cast p.lo, ← landN_cast p.lo, e]

/-- the sum of a pattern's throws is a multiple of its length -/
theorem Pat.dvd {P : List Int} (p : Pat P) : (P.length : Int) ∣ P.sum := by
  have e1 := sum_reindex (n := P.length) (f := landN P) (fun i _ => landN_lt p.lo i) (fun i j hi hj => p.landN_inj hi hj) fun i => (i : Int)
  have e2 : ((List.range P.length).map fun i => ((landN P i : Nat) : Int)) = (List.range P.length).map fun i : Nat => ((i : Int) + P.getD i 0) + (P.length : Int) * (-(((i : Int) + P.getD i 0) / (P.length : Int))) := by
    apply List.map_congr_left
    intro i _
    rw [landN_cast p.lo]
    unfold land
    have := Int.emod_add_mul_ediv ((i : Int) + P.getD i 0) (P.length : Int)
    rw [Int.mul_neg]
    omega
  rw [e2, sum_add_map (fun i : Nat => (i : Int) + P.getD i 0), sum_mul_map, sum_add_map (fun i : Nat => (i : Int)), ← sum_range] at e1
  refine ⟨((List.range P.length).map fun i : Nat => ((i : Int) + P.getD i 0) / (P.length : Int)).sum, ?_⟩
  have e3 : ((List.range P.length).map fun i : Nat => -(((i : Int) + P.getD i 0) / (P.length : Int))).sum = -((List.range P.length).map fun i : Nat => ((i : Int) + P.getD i 0) / (P.length : Int)).sum := by
    have := sum_mul_map (-1) (fun i : Nat => ((i : Int) + P.getD i 0) / (P.length : Int)) (List.range P.length)
    simp only [Int.neg_mul, Int.one_mul] at this
    exact this
  rw [e3, Int.mul_neg] at e1
  omega

def opp (n : Nat) (b : Int) : Nat := ((-b) % (n : Int)).toNat
theorem opp_cast {n : Nat} (h : 1 ≤ n) (b : Int) : (opp n b : Int) = (-b) % (n : Int) := Int.toNat_of_nonneg (Int.emod_nonneg _ (by omega))
theorem opp_lt {n : Nat} (h : 1 ≤ n) (b : Int) : opp n b < n := by
  have h1 := opp_cast h b
  have h2 := Int.emod_lt_of_pos (-b) (show (0 : Int) < n by omega)
  omega
theorem neg_emod_congr {a b n : Int} (h : a % n = b % n) : (-a) % n = (-b) % n := by
  have e1 : -a = 0 - a := by omega
  have e2 : -b = 0 - b := by omega
  rw [e1, e2, Int.sub_emod, h, ← Int.sub_emod]
theorem emod_self_congr (a n : Int) : (a % n) % n = a % n := Int.emod_emod_of_dvd a (Int.dvd_refl n)
theorem opp_opp {n : Nat} (h : 1 ≤ n) {b : Nat} (hb : b < n) : opp n (opp n b) = b := by
  have e : (opp n (opp n b : Int) : Int) = (b : Int) := by
    rw [opp_cast h, opp_cast h]
    have e1 : (-((-(b : Int)) % (n : Int))) % (n : Int) = (-(-(b : Int))) % (n : Int) := neg_emod_congr (emod_self_congr _ _)
    rw [e1, Int.neg_neg]
    exact Int.emod_eq_of_lt (by omega) (by omega)
  omega
theorem opp_inj {n : Nat} (h : 1 ≤ n) {a b : Nat} (ha : a < n) (hb : b < n) (e : opp n (a : Int) = opp n (b : Int)) : a = b := by
  have h1 := opp_opp h ha
  rw [e, opp_opp h hb] at h1
  exact h1.symm

structure Mir (P M : List Int) : Prop where
  len : M.length = P.length
  bd : ∀ x ∈ M, x ∈ P
  at_ : ∀ j, j < P.length → M.getD (opp P.length (land P j)) 0 = P.getD j 0
def slot (P : List Int) (j : Nat) : Nat := opp P.length (land P j)
theorem Pat.slot_inj {P : List Int} (p : Pat P) {i j : Nat} (hi : i < P.length) (hj : j < P.length) (e : slot P i = slot P j) : i = j := by
  unfold slot at e
  rw [← landN_cast p.lo, ← landN_cast p.lo] at e
  exact p.landN_inj hi hj (opp_inj p.lo (landN_lt p.lo i) (landN_lt p.lo j) e)
theorem Pat.slot_surj {P : List Int} (p : Pat P) {i : Nat} (hi : i < P.length) : ∃ j, j < P.length ∧ slot P j = i :=
  surj_of (fun j _ => opp_lt p.lo _) (fun i j hi hj => p.slot_inj hi hj) hi
theorem Mir.uniq {P M M' : List Int} (p : Pat P) (m : Mir P M) (m' : Mir P M') : M = M' := by
  refine ext_getD (by rw [m.len, m'.len]) fun i hi => ?_
  rw [m.len] at hi
  obtain ⟨j, hj, rfl⟩ := p.slot_surj hi
  exact (m.at_ j hj).trans (m'.at_ j hj).symm
/-- where a mirrored throw lands -/
theorem Mir.land {P M : List Int} (p : Pat P) (m : Mir P M) {j : Nat} (hj : j < P.length) : TB.land M (slot P j) = (-(j : Int)) % (P.length : Int) := by
  unfold TB.land
  have e := m.at_ j hj
  rw [m.len]
  unfold slot
  rw [e, opp_cast p.lo, Int.emod_add_emod]
  unfold TB.land
  have e2 : ((-(((j : Int) + P.getD j 0) % (P.length : Int))) + P.getD j 0) % (P.length : Int) = ((-((j : Int) + P.getD j 0)) + P.getD j 0) % (P.length : Int) := by
    rw [Int.add_emod, neg_emod_congr (emod_self_congr _ _), ← Int.add_emod]
  rw [e2]
  congr 1
  omega
theorem Mir.pat {P M : List Int} (p : Pat P) (m : Mir P M) : Pat M := by
  refine ⟨⟨by rw [m.len]; exact p.lo, by rw [m.len]; exact p.hi, fun x hx => p.bd x (m.bd x hx)⟩, fun i1 i2 h1 h2 e => ?_⟩
  rw [m.len] at h1 h2
  obtain ⟨j1, hj1, rfl⟩ := p.slot_surj h1
  obtain ⟨j2, hj2, rfl⟩ := p.slot_surj h2
  rw [m.land p hj1, m.land p hj2] at e
  have e2 : opp P.length (j1 : Int) = opp P.length (j2 : Int) := by unfold opp; rw [e]
  rw [opp_inj p.lo hj1 hj2 e2]
theorem Mir.sum {P M : List Int} (p : Pat P) (m : Mir P M) : M.sum = P.sum := by
  rw [sum_range M, m.len, ← sum_reindex (n := P.length) (f := slot P) (fun i _ => opp_lt p.lo _) (fun i j hi hj => p.slot_inj hi hj) fun i => M.getD i 0]
  rw [sum_range P]
  congr 1
  apply List.map_congr_left
  intro j hj
  exact m.at_ j (List.mem_range.mp hj)
theorem Mir.back {P M R : List Int} (p : Pat P) (m : Mir P M) (r : Mir M R) : R = P := by
  refine ext_getD (by rw [r.len, m.len]) fun j hj => ?_
  rw [r.len, m.len] at hj
  have h1 := r.at_ (slot P j) (by rw [m.len]; exact opp_lt p.lo _)
  rw [m.land p hj, m.len] at h1
  have h2 : opp P.length ((-(j : Int)) % (P.length : Int)) = j := by
    have := opp_opp p.lo hj
    rw [opp_cast p.lo] at this
    exact this
  rw [h2] at h1
  exact h1.trans (m.at_ j hj)

def gapL (P : List Int) (h : Int) : List Int := (List.range P.length).map fun b : Nat => h - P.getD (opp P.length b) 0
theorem gap_len (P : List Int) (h : Int) : (gapL P h).length = P.length := by simp [gapL]
theorem gap_at {P : List Int} {h : Int} {b : Nat} (hb : b < P.length) : (gapL P h).getD b 0 = h - P.getD (opp P.length b) 0 := map_range_getD hb _
theorem gap_land {P : List Int} {h : Int} (lo : 1 ≤ P.length) {b : Nat} (hb : b < P.length) : land (gapL P h) b = (h - ((opp P.length b : Nat) + P.getD (opp P.length b) 0)) % (P.length : Int) := by
  unfold land
  rw [gap_at hb, gap_len]
  have e1 : ((b : Int) + (h - P.getD (opp P.length b) 0)) % (P.length : Int) = ((h - P.getD (opp P.length b) 0) - (-(b : Int))) % (P.length : Int) := by congr 1; omega
  have e2 : (h - ((opp P.length b : Nat) + P.getD (opp P.length b) 0)) % (P.length : Int) = ((h - P.getD (opp P.length b) 0) - ((-(b : Int)) % (P.length : Int))) % (P.length : Int) := by
    rw [opp_cast lo]
    congr 1
    omega
  rw [e1, e2, Int.sub_emod, ← emod_self_congr (-(b : Int)), ← Int.sub_emod, emod_self_congr]
theorem sub_emod_inj {h a b n : Int} (e : (h - a) % n = (h - b) % n) : a % n = b % n := by
  have e1 : (h - (h - a)) % n = (h - (h - b)) % n := by rw [Int.sub_emod, e, ← Int.sub_emod]
  have a1 : h - (h - a) = a := by omega
  have b1 : h - (h - b) = b := by omega
  rwa [a1, b1] at e1
theorem gap_pat {P : List Int} {h : Int} (p : Pat P) (bd : ∀ x ∈ gapL P h, -1000000 ≤ x ∧ x ≤ 1000000) : Pat (gapL P h) := by
  refine ⟨⟨by rw [gap_len]; exact p.lo, by rw [gap_len]; exact p.hi, bd⟩, fun i j hi hj e => ?_⟩
  rw [gap_len] at hi hj
  rw [gap_land p.lo hi, gap_land p.lo hj] at e
  exact opp_inj p.lo hi hj (p.inj _ _ (opp_lt p.lo _) (opp_lt p.lo _) (sub_emod_inj e))
theorem sum_const (h : Int) : ∀ n : Nat, ((List.range n).map fun _ => h).sum = (n : Int) * h
  | 0 => by simp
  | n + 1 => by
    rw [List.range_succ, List.map_append, List.sum_append, sum_const h n]
    simp only [List.map_cons, List.map_nil, List.sum_cons, List.sum_nil]
    rw [Int.natCast_add, Int.add_mul]
    simp
theorem gap_sum {P : List Int} (h : Int) (lo : 1 ≤ P.length) : (gapL P h).sum = (P.length : Int) * h - P.sum := by
  unfold gapL
  have e : ((List.range P.length).map fun b : Nat => h - P.getD (opp P.length b) 0) = (List.range P.length).map fun b : Nat => h + (-1) * P.getD (opp P.length b) 0 := by
    apply List.map_congr_left
    intro b _
    omega
  rw [e, sum_add_map (fun _ => h), sum_const, sum_mul_map (-1) (fun b : Nat => P.getD (opp P.length b) 0)]
  rw [sum_reindex (n := P.length) (f := fun b => opp P.length b) (fun i _ => opp_lt lo _) (fun i j hi hj => opp_inj lo hi hj) fun i => P.getD i 0, ← sum_range]
  omega
theorem gap_balls {P : List Int} (p : Pat P) (h : Int) : (gapL P h).sum / ((gapL P h).length : Int) = h - P.sum / (P.length : Int) := by
  obtain ⟨q, hq⟩ := p.dvd
  have lo := p.lo
  rw [gap_sum h p.lo, gap_len, hq, ← Int.mul_sub, Int.mul_ediv_cancel_left _ (by omega), Int.mul_ediv_cancel_left _ (by omega)]
theorem gap_gap {P : List Int} (lo : 1 ≤ P.length) (h : Int) : gapL (gapL P h) h = P := by
  refine ext_getD (by rw [gap_len, gap_len]) fun b hb => ?_
  rw [gap_len, gap_len] at hb
  rw [gap_at (by rw [gap_len]; exact hb), gap_len, gap_at (opp_lt lo _), opp_opp lo hb]
  omega
end TB

namespace TB
/-- the throw back -/
structure Bk (P M : List Int) : Prop where
  len : M.length = P.length
  bd : ∀ x ∈ M, -1000000 ≤ x ∧ x ≤ 1000000
  at_ : ∀ j, j < P.length → M.getD (landN P j) 0 = -P.getD j 0
theorem Pat.landN_surj {P : List Int} (p : Pat P) {i : Nat} (hi : i < P.length) : ∃ j, j < P.length ∧ landN P j = i :=
  surj_of (fun j _ => landN_lt p.lo j) (fun i j hi hj => p.landN_inj hi hj) hi
theorem Bk.land {P M : List Int} (p : Pat P) (m : Bk P M) {j : Nat} (hj : j < P.length) : TB.land M (landN P j) = (j : Int) := by
  unfold TB.land
  rw [m.at_ j hj, m.len, landN_cast p.lo]
  unfold TB.land
  rw [Int.emod_add_emod, show (j : Int) + P.getD j 0 + -P.getD j 0 = (j : Int) by omega]
  exact Int.emod_eq_of_lt (by omega) (by omega)
theorem Bk.landN {P M : List Int} (p : Pat P) (m : Bk P M) {j : Nat} (hj : j < P.length) : TB.landN M (TB.landN P j) = j := by
  have e := m.land p hj
  unfold TB.landN at e ⊢
  rw [e]
  exact Int.toNat_natCast j
theorem Bk.pat {P M : List Int} (p : Pat P) (m : Bk P M) : Pat M := by
  refine ⟨⟨by rw [m.len]; exact p.lo, by rw [m.len]; exact p.hi, m.bd⟩, fun i1 i2 h1 h2 e => ?_⟩
  rw [m.len] at h1 h2
  obtain ⟨j1, hj1, rfl⟩ := p.landN_surj h1
  obtain ⟨j2, hj2, rfl⟩ := p.landN_surj h2
  rw [m.land p hj1, m.land p hj2] at e
  rw [show j1 = j2 by omega]
theorem Bk.back {P M R : List Int} (p : Pat P) (m : Bk P M) (r : Bk M R) : R = P := by
  refine ext_getD (by rw [r.len, m.len]) fun j hj => ?_
  rw [r.len, m.len] at hj
  have h1 := r.at_ (TB.landN P j) (by rw [m.len]; exact landN_lt p.lo j)
  rw [m.landN p hj, m.at_ j hj] at h1
  omega
end TB

namespace TB
def it (f : Nat → Nat) : Nat → Nat → Nat
  | 0, a => a
  | k + 1, a => f (it f k a)
theorem it_add (f : Nat → Nat) (j : Nat) : ∀ (k a : Nat), it f (k + j) a = it f k (it f j a)
  | 0, a => by rw [Nat.zero_add]; rfl
  | k + 1, a => by
    rw [show k + 1 + j = (k + j) + 1 by omega]
    show f (it f (k + j) a) = f (it f k (it f j a))
    rw [it_add f j k a]
structure Pm (n : Nat) (f : Nat → Nat) : Prop where
  lt : ∀ i, i < n → f i < n
  inj : ∀ i j, i < n → j < n → f i = f j → i = j
theorem Pat.pm {P : List Int} (p : Pat P) : Pm P.length (landN P) := ⟨fun i _ => landN_lt p.lo i, fun _ _ hi hj => p.landN_inj hi hj⟩
section
variable {n : Nat} {f : Nat → Nat} (F : Pm n f)
include F
theorem Pm.it_lt : ∀ (k : Nat) {a : Nat}, a < n → it f k a < n
  | 0, _, h => h
  | k + 1, _, h => F.lt _ (Pm.it_lt k h)
theorem Pm.it_inj : ∀ (k : Nat) {a b : Nat}, a < n → b < n → it f k a = it f k b → a = b
  | 0, _, _, _, _, e => e
  | k + 1, _, _, ha, hb, e => Pm.it_inj k ha hb (F.inj _ _ (F.it_lt k ha) (F.it_lt k hb) e)
theorem Pm.cyc {a : Nat} (ha : a < n) {i j : Nat} (hij : i < j) (e : it f i a = it f j a) : it f (j - i) a = a := by
  rw [show j = i + (j - i) by omega, it_add] at e
  exact (F.it_inj i ha (F.it_lt _ ha) e).symm
theorem Pm.some_back {a : Nat} (ha : a < n) : ∃ k, 1 ≤ k ∧ k ≤ n ∧ it f k a = a := by
  refine Classical.byContradiction fun hno => ?_
  have nd : ((List.range (n + 1)).map fun k => it f k a).Nodup := by
    unfold List.Nodup
    rw [List.pairwise_map]
    have hr : (List.range (n + 1)).Pairwise (· < ·) := List.pairwise_lt_range
    refine List.Pairwise.imp_of_mem ?_ hr
    intro i j hi hj hij e
    have hj' := List.mem_range.mp hj
    exact hno ⟨j - i, by omega, by omega, F.cyc ha hij e⟩
  have := nodup_len n _ nd fun x hx => by
    obtain ⟨k, _, rfl⟩ := List.mem_map.mp hx
    exact F.it_lt k ha
  simp at this
  omega
end
/-- k is the first time that a comes back -/
structure Per (f : Nat → Nat) (a k : Nat) : Prop where
  pos : 1 ≤ k
  back : it f k a = a
  first : ∀ j, 1 ≤ j → j < k → it f j a ≠ a
theorem per_of {f : Nat → Nat} {a : Nat} : ∀ (m k : Nat), k ≤ m → 1 ≤ k → it f k a = a → ∃ k', k' ≤ k ∧ Per f a k'
  | 0, k, h1, h2, _ => absurd h1 (by omega)
  | m + 1, k, h1, h2, e => by
    by_cases h : ∃ j, 1 ≤ j ∧ j < k ∧ it f j a = a
    · obtain ⟨j, j1, j2, ej⟩ := h
      obtain ⟨k', l, p⟩ := per_of m j (by omega) j1 ej
      exact ⟨k', by omega, p⟩
    · exact ⟨k, Nat.le_refl _, h2, e, fun j j1 j2 ej => h ⟨j, j1, j2, ej⟩⟩
theorem Per.uniq {f : Nat → Nat} {a k k' : Nat} (p : Per f a k) (p' : Per f a k') : k = k' := by
  rcases Nat.lt_trichotomy k k' with h | h | h
  · exact absurd p.back (p'.first k p.pos h)
  · exact h
  · exact absurd p'.back (p.first k' p'.pos h)
open Classical in
noncomputable def per (f : Nat → Nat) (a : Nat) : Nat := if h : ∃ k, Per f a k then choose h else 1
theorem Pm.perOk {n : Nat} {f : Nat → Nat} (F : Pm n f) {a : Nat} (ha : a < n) : Per f a (TB.per f a) ∧ TB.per f a ≤ n := by
  obtain ⟨k, k1, k2, e⟩ := F.some_back ha
  obtain ⟨k', l, p⟩ := per_of k k (Nat.le_refl _) k1 e
  have hx : ∃ k, Per f a k := ⟨k', p⟩
  have q : Per f a (TB.per f a) := by
    unfold TB.per
    rw [dif_pos hx]
    exact Classical.choose_spec hx
  exact ⟨q, by rw [q.uniq p]; omega⟩
/-- the beats of a's round -/
noncomputable def orb (f : Nat → Nat) (a : Nat) : List Nat := (List.range (per f a)).map fun j => it f j a
theorem mem_orb {f : Nat → Nat} {a b : Nat} : b ∈ orb f a ↔ ∃ j, j < per f a ∧ it f j a = b := by
  unfold orb
  rw [List.mem_map]
  constructor
  · rintro ⟨j, hj, e⟩
    exact ⟨j, List.mem_range.mp hj, e⟩
  · rintro ⟨j, hj, e⟩
    exact ⟨j, List.mem_range.mpr hj, e⟩
section
variable {n : Nat} {f : Nat → Nat} (F : Pm n f)
include F
theorem Pm.orb_nodup {a : Nat} (ha : a < n) : (orb f a).Nodup := by
  have p := (F.perOk ha).1
  unfold orb List.Nodup
  rw [List.pairwise_map]
  have hr : (List.range (per f a)).Pairwise (· < ·) := List.pairwise_lt_range
  refine List.Pairwise.imp_of_mem ?_ hr
  intro i j hi hj hij e
  exact p.first (j - i) (by omega) (by have := List.mem_range.mp hj; omega) (F.cyc ha hij e)
theorem Pm.orb_self {a : Nat} (ha : a < n) : a ∈ orb f a := mem_orb.mpr ⟨0, (F.perOk ha).1.pos, rfl⟩
theorem Pm.orb_step {a c : Nat} (ha : a < n) (hc : c < n) : c ∈ orb f a ↔ f c ∈ orb f a := by
  have p := (F.perOk ha).1
  have pp := p.pos
  constructor
  · intro h
    obtain ⟨j, hj, rfl⟩ := mem_orb.mp h
    by_cases e : j + 1 < per f a
    · exact mem_orb.mpr ⟨j + 1, e, rfl⟩
    · refine mem_orb.mpr ⟨0, pp, ?_⟩
      have : per f a = j + 1 := by omega
      have b := p.back
      rw [this] at b
      exact b.symm
  · intro h
    obtain ⟨j, hj, e⟩ := mem_orb.mp h
    cases j with
    | zero =>
      refine mem_orb.mpr ⟨per f a - 1, by omega, ?_⟩
      refine F.inj _ _ (F.it_lt _ ha) hc ?_
      have b := p.back
      rw [show per f a = (per f a - 1) + 1 by omega] at b
      exact b.trans e
    | succ j =>
      refine mem_orb.mpr ⟨j, by omega, ?_⟩
      exact F.inj _ _ (F.it_lt _ ha) hc e
end
/-- the first beats of the rounds, of the beats below i -/
noncomputable def heads (f : Nat → Nat) : Nat → List Nat
  | 0 => []
  | i + 1 => if i ∈ (heads f i).flatMap (orb f) then heads f i else heads f i ++ [i]
noncomputable abbrev told (f : Nat → Nat) (i : Nat) : List Nat := (heads f i).flatMap (orb f)
structure Hd (n : Nat) (f : Nat → Nat) (i : Nat) : Prop where
  lt : ∀ a ∈ heads f i, a < i
  rise : (heads f i).Pairwise (· < ·)
  nd : ((heads f i).flatMap (orb f)).Nodup
  all : ∀ j, j < i → j ∈ (heads f i).flatMap (orb f)
  step : ∀ c, c < n → (c ∈ (heads f i).flatMap (orb f) ↔ f c ∈ (heads f i).flatMap (orb f))
  least : ∀ a ∈ heads f i, ∀ b ∈ orb f a, a ≤ b
theorem heads_old {f : Nat → Nat} {i : Nat} (h : i ∈ told f i) : heads f (i + 1) = heads f i := if_pos h
theorem heads_new {f : Nat → Nat} {i : Nat} (h : i ∉ told f i) : heads f (i + 1) = heads f i ++ [i] := if_neg h
theorem told_new {f : Nat → Nat} {i : Nat} (h : i ∉ told f i) : told f (i + 1) = told f i ++ orb f i := by
  unfold told
  rw [heads_new h, List.flatMap_append]
  simp
theorem Pm.hd {n : Nat} {f : Nat → Nat} (F : Pm n f) : ∀ i, i ≤ n → Hd n f i
  | 0, _ => ⟨fun a h => absurd h List.not_mem_nil, .nil, .nil, fun j h => absurd h (Nat.not_lt_zero _), fun c _ => Iff.intro (fun h => absurd h List.not_mem_nil) (fun h => absurd h List.not_mem_nil), fun a h => absurd h List.not_mem_nil⟩
  | i + 1, hi => by
    have H := Pm.hd F i (by omega)
    by_cases h : i ∈ told f i
    · have e := heads_old h
      refine ⟨?_, ?_, ?_, ?_, ?_, ?_⟩ <;> rw [e]
      · exact fun a ha => Nat.lt_succ_of_lt (H.lt a ha)
      · exact H.rise
      · exact H.nd
      · intro j hj
        by_cases ej : j = i
        · rw [ej]; exact h
        · exact H.all j (by omega)
      · exact H.step
      · exact H.least
    · have e := heads_new h
      have e2 := told_new h
      have hin : i < n := by omega
      have dis : ∀ b ∈ orb f i, b ∉ told f i := by
        intro b hb hb2
        obtain ⟨j, _, rfl⟩ := mem_orb.mp hb
        have key : ∀ j, it f j i ∈ told f i → i ∈ told f i := by
          intro j
          induction j with
          | zero => exact id
          | succ j ih => exact fun z => ih ((H.step _ (F.it_lt j hin)).mpr z)
        exact h (key j hb2)
      refine ⟨?_, ?_, ?_, ?_, ?_, ?_⟩
      · rw [e]
        intro a ha
        rcases List.mem_append.mp ha with z | z
        · exact Nat.lt_succ_of_lt (H.lt a z)
        · rw [List.mem_singleton.mp z]; exact Nat.lt_succ_self _
      · rw [e, List.pairwise_append]
        refine ⟨H.rise, by simp, fun a ha b hb => ?_⟩
        rw [List.mem_singleton.mp hb]
        exact H.lt a ha
      · show (told f (i + 1)).Nodup
        rw [e2]
        unfold List.Nodup
        rw [List.pairwise_append]
        refine ⟨H.nd, F.orb_nodup hin, fun a ha b hb ee => ?_⟩
        subst ee
        exact dis a hb ha
      · intro j hj
        show j ∈ told f (i + 1)
        rw [e2]
        by_cases ej : j = i
        · subst ej
          exact List.mem_append_right _ (F.orb_self hin)
        · exact List.mem_append_left _ (H.all j (by omega))
      · intro c hc
        show c ∈ told f (i + 1) ↔ f c ∈ told f (i + 1)
        rw [e2, List.mem_append, List.mem_append]
        exact or_congr (H.step c hc) (F.orb_step hin hc)
      · rw [e]
        intro a ha b hb
        rcases List.mem_append.mp ha with z | z
        · exact H.least a z b hb
        · rw [List.mem_singleton.mp z] at hb ⊢
          refine Nat.le_of_not_lt fun hl => dis b hb (H.all b hl)
end TB

namespace TB
def swapL (P : List Int) (i j : Nat) : List Int := (P.set i ((j : Int) + P.getD (j % P.length) 0 - i)).set (j % P.length) ((i : Int) + P.getD i 0 - j)
theorem swap_len (P : List Int) (i j : Nat) : (swapL P i j).length = P.length := by simp [swapL]
theorem swap_at {P : List Int} {i j : Nat} (hi : i < P.length) (b : Nat) : (swapL P i j).getD b 0 = if b = j % P.length then (i : Int) + P.getD i 0 - j else if b = i then (j : Int) + P.getD (j % P.length) 0 - i else P.getD b 0 := by
  have hc : j % P.length < P.length := Nat.mod_lt _ (by omega)
  unfold swapL
  rw [getD_set, getD_set, List.length_set]
  by_cases h1 : b = j % P.length
  · rw [if_pos ⟨h1, hc⟩, if_pos h1]
  · rw [if_neg (fun h => h1 h.1), if_neg h1]
    by_cases h2 : b = i
    · rw [if_pos ⟨h2, hi⟩, if_pos h2]
    · rw [if_neg (fun h => h2 h.1), if_neg h2]
/-- which beat a beat of the swapped one lands as -/
def swB (c i b : Nat) : Nat := if b = c then i else if b = i then c else b
theorem swB_lt {n c i b : Nat} (hc : c < n) (hi : i < n) (hb : b < n) : swB c i b < n := by
  unfold swB
  split
  · exact hi
  · split
    · exact hc
    · exact hb
theorem swB_inj {c i a b : Nat} (e : swB c i a = swB c i b) : a = b := by
  revert e
  unfold swB
  split <;> split <;> (try split) <;> (try split) <;> omega
theorem nat_mod_cast (j n : Nat) : ((j % n : Nat) : Int) = (j : Int) - (n : Int) * ((j / n : Nat) : Int) := by
  have := Nat.mod_add_div j n
  have e : ((j % n + n * (j / n) : Nat) : Int) = (j : Int) := by rw [this]
  push_cast at e ⊢
  omega
theorem swap_land {P : List Int} {i j : Nat} (hi : i < P.length) (b : Nat) : land (swapL P i j) b = land P (swB (j % P.length) i b) := by
  unfold land swB
  rw [swap_at hi, swap_len]
  have e := nat_mod_cast j P.length
  generalize hc : j % P.length = c at *
  generalize ((j / P.length : Nat) : Int) = q at *
  by_cases h1 : b = c
  · rw [if_pos h1, if_pos h1, h1]
    rw [show (c : Int) + ((i : Int) + P.getD i 0 - j) = (i : Int) + P.getD i 0 + (P.length : Int) * (-q) by rw [Int.mul_neg]; omega, Int.add_mul_emod_self_left]
  · rw [if_neg h1, if_neg h1]
    by_cases h2 : b = i
    · rw [if_pos h2, if_pos h2, h2]
      rw [show (i : Int) + ((j : Int) + P.getD c 0 - i) = (c : Int) + P.getD c 0 + (P.length : Int) * q by omega, Int.add_mul_emod_self_left]
    · rw [if_neg h2, if_neg h2]
theorem swap_pat {P : List Int} (p : Pat P) {i j : Nat} (hi : i < P.length) (bd : ∀ x ∈ swapL P i j, -1000000 ≤ x ∧ x ≤ 1000000) : Pat (swapL P i j) := by
  have lo := p.lo
  refine ⟨⟨by rw [swap_len]; exact p.lo, by rw [swap_len]; exact p.hi, bd⟩, fun a b ha hb e => ?_⟩
  rw [swap_len] at ha hb
  rw [swap_land hi, swap_land hi] at e
  have hc : j % P.length < P.length := Nat.mod_lt _ (by omega)
  exact swB_inj (p.inj _ _ (swB_lt hc hi ha) (swB_lt hc hi hb) e)
theorem swap_swap {P : List Int} {i j : Nat} (hi : i < P.length) (hne : j % P.length ≠ i) : swapL (swapL P i j) i j = P := by
  refine ext_getD (by rw [swap_len, swap_len]) fun b hb => ?_
  rw [swap_at (by rw [swap_len]; exact hi), swap_len, swap_at hi, swap_at hi, swap_at hi]
  generalize j % P.length = c at *
  by_cases h1 : b = c
  · rw [if_pos h1, if_neg (fun h => hne h.symm), if_pos rfl, h1]
    omega
  · rw [if_neg h1]
    by_cases h2 : b = i
    · rw [if_pos h2, if_pos rfl, h2]
      omega
    · rw [if_neg h2, if_neg h1, if_neg h2]
theorem sum_set : ∀ {l : List Int} {i : Nat} {x : Int}, i < l.length → (l.set i x).sum = l.sum - l.getD i 0 + x
  | [], _, _, h => absurd h (Nat.not_lt_zero _)
  | a :: l, 0, x, _ => by simp; omega
  | a :: l, i + 1, x, h => by
    have := sum_set (l := l) (i := i) (x := x) (by simpa using h)
    simp only [List.set_cons_succ, List.sum_cons, List.getD_cons_succ]
    omega
theorem swap_sum {P : List Int} {i j : Nat} (hi : i < P.length) (hne : j % P.length ≠ i) : (swapL P i j).sum = P.sum := by
  have hc : j % P.length < P.length := Nat.mod_lt _ (by omega)
  unfold swapL
  rw [sum_set (by rw [List.length_set]; exact hc), sum_set hi, getD_set, if_neg (fun h => hne h.1)]
  omega
end TB

namespace TB
def Apart (P : List Int) : Prop := ∀ i j : Nat, i < P.length → j < P.length → land P i = land P j → i = j
def F (P : List Int) (m : Int) : Int := m + P.getD (m % (P.length : Int)).toNat 0
def T (P : List Int) (i j : Int) : Int := max 0 ((F P i - F P j - 1) / (P.length : Int) - (i - j) / (P.length : Int))
def cr (P : List Int) : Int := ((List.range P.length).map fun i : Nat => ((List.range P.length).map fun j : Nat => T P i j).sum).sum

theorem F_nat {P : List Int} {i : Nat} (h : i < P.length) : F P i = i + P.getD i 0 := by
  unfold F
  rw [Int.emod_eq_of_lt (by omega) (by omega), Int.toNat_natCast]
theorem F_add (P : List Int) (m q : Int) : F P (m + (P.length : Int) * q) = F P m + (P.length : Int) * q := by
  unfold F
  rw [Int.add_mul_emod_self_left]
  omega
theorem T_left {P : List Int} (lo : 1 ≤ P.length) (i j q : Int) : T P (i + (P.length : Int) * q) j = T P i j := by
  unfold T
  rw [F_add, show F P i + (P.length : Int) * q - F P j - 1 = F P i - F P j - 1 + (P.length : Int) * q by omega, show i + (P.length : Int) * q - j = i - j + (P.length : Int) * q by omega,
    Int.add_mul_ediv_left _ _ (by omega), Int.add_mul_ediv_left _ _ (by omega)]
  congr 1
  omega
theorem T_right {P : List Int} (lo : 1 ≤ P.length) (i j q : Int) : T P i (j + (P.length : Int) * q) = T P i j := by
  unfold T
  rw [F_add, show F P i - (F P j + (P.length : Int) * q) - 1 = F P i - F P j - 1 + (P.length : Int) * (-q) by rw [Int.mul_neg]; omega, show i - (j + (P.length : Int) * q) = i - j + (P.length : Int) * (-q) by rw [Int.mul_neg]; omega,
    Int.add_mul_ediv_left _ _ (by omega), Int.add_mul_ediv_left _ _ (by omega)]
  congr 1
  omega
theorem mod_form (i n : Int) : i % n = i + n * (-(i / n)) := by
  have := Int.emod_add_mul_ediv i n
  rw [Int.mul_neg]
  omega
theorem T_mod {P : List Int} (lo : 1 ≤ P.length) (i j : Int) : T P (i % (P.length : Int)) (j % (P.length : Int)) = T P i j := by
  rw [mod_form i, mod_form j, T_left lo, T_right lo]
theorem div0 {x n : Int} (h0 : 0 ≤ x) (h1 : x < n) : x / n = 0 := Int.ediv_eq_zero_of_lt h0 h1
theorem div1 {x n : Int} (h0 : -n ≤ x) (h1 : x < 0) : x / n = -1 := by
  have h := div0 (x := x + n) (n := n) (by omega) (by omega)
  have e : x + n = x + n * 1 := by omega
  rw [e, Int.add_mul_ediv_left _ _ (by omega)] at h
  omega
/-- sums -/
theorem dsum_reindex {n : Nat} {f : Nat → Nat} (hf : ∀ i, i < n → f i < n) (inj : ∀ i j, i < n → j < n → f i = f j → i = j) (g : Nat → Nat → Int) :
    ((List.range n).map fun i => ((List.range n).map fun j => g (f i) (f j)).sum).sum = ((List.range n).map fun i => ((List.range n).map fun j => g i j).sum).sum := by
  have e : ((List.range n).map fun i => ((List.range n).map fun j => g (f i) (f j)).sum) = (List.range n).map fun i => (fun a => ((List.range n).map fun j => g a j).sum) (f i) := by
    apply List.map_congr_left
    intro i _
    exact sum_reindex hf inj (fun j => g (f i) j)
  rw [e]
  exact sum_reindex hf inj (fun a => ((List.range n).map fun j => g a j).sum)
theorem sum_zero {l : List Nat} {g : Nat → Int} (h : ∀ i ∈ l, g i = 0) : (l.map g).sum = 0 := by
  induction l with
  | nil => rfl
  | cons a l ih =>
    rw [List.map_cons, List.sum_cons, h a (List.mem_cons_self ..), ih fun i hi => h i (List.mem_cons_of_mem _ hi)]
    rfl
theorem sum_congr {n : Nat} {f g : Nat → Int} (h : ∀ i, i < n → f i = g i) : ((List.range n).map f).sum = ((List.range n).map g).sum := by
  rw [List.map_congr_left fun i hi => h i (List.mem_range.mp hi)]
theorem sum_single : ∀ {n : Nat} {g : Nat → Int} {a : Nat}, a < n → (∀ i, i < n → i ≠ a → g i = 0) → ((List.range n).map g).sum = g a
  | 0, _, _, h, _ => absurd h (Nat.not_lt_zero _)
  | n + 1, g, a, h, z => by
    rw [List.range_succ, List.map_append, List.sum_append]
    simp only [List.map_cons, List.map_nil, List.sum_cons, List.sum_nil, Int.add_zero]
    by_cases e : a = n
    · subst e
      rw [sum_zero fun i hi => z i (by have := List.mem_range.mp hi; omega) (by have := List.mem_range.mp hi; omega)]
      omega
    · rw [sum_single (n := n) (a := a) (by omega) fun i hi hne => z i (by omega) hne, z n (by omega) (fun h => e h.symm)]
      omega
theorem sum_two {n : Nat} {g : Nat → Int} {a b : Nat} (ha : a < n) (hb : b < n) (hab : a ≠ b) (z : ∀ i, i < n → i ≠ a → i ≠ b → g i = 0) : ((List.range n).map g).sum = g a + g b := by
  have e : ((List.range n).map g).sum = ((List.range n).map fun i => (if i = a then g a else 0) + (if i = b then g b else 0)).sum := sum_congr fun i hi => by
    by_cases h1 : i = a
    · rw [if_pos h1, if_neg (fun h => hab (h1.symm.trans h)), h1]; omega
    · rw [if_neg h1]
      by_cases h2 : i = b
      · rw [if_pos h2, h2]; omega
      · rw [if_neg h2, z i hi h1 h2]; rfl
  rw [e, sum_add_map, sum_single (a := a) ha fun i _ h => if_neg h, sum_single (a := b) hb fun i _ h => if_neg h, if_pos rfl, if_pos rfl]
theorem sum_sub_map (f g : Nat → Int) (l : List Nat) : (l.map fun i => f i - g i).sum = (l.map f).sum - (l.map g).sum := by
  have h := sum_mul_map (-1) g l
  have h2 := sum_add_map f (fun i => -1 * g i) l
  rw [h] at h2
  rw [show (fun i => f i - g i) = fun i => f i + -1 * g i by funext i; omega, h2]
  omega

def rotL (P : List Int) (k : Int) : List Int := (List.range P.length).map fun b : Nat => P.getD ((k + b) % (P.length : Int)).toNat 0
theorem rot_len (P : List Int) (k : Int) : (rotL P k).length = P.length := by simp [rotL]
theorem rot_F {P : List Int} {k : Int} {b : Nat} (hb : b < P.length) : F (rotL P k) b = F P (k + b) - k := by
  rw [F_nat (by rw [rot_len]; exact hb)]
  unfold rotL F
  rw [map_range_getD hb]
  omega
def rotN (n : Nat) (k : Int) (b : Nat) : Nat := ((k + b) % (n : Int)).toNat
theorem rotN_cast {n : Nat} (h : 1 ≤ n) (k : Int) (b : Nat) : ((rotN n k b : Nat) : Int) = (k + b) % (n : Int) := Int.toNat_of_nonneg (Int.emod_nonneg _ (by omega))
theorem rotN_lt {n : Nat} (h : 1 ≤ n) (k : Int) (b : Nat) : rotN n k b < n := by
  have h1 := rotN_cast h k b
  have h2 := Int.emod_lt_of_pos (k + b) (show (0 : Int) < n by omega)
  omega
theorem rotN_inj {n : Nat} (h : 1 ≤ n) {k : Int} {a b : Nat} (ha : a < n) (hb : b < n) (e : rotN n k a = rotN n k b) : a = b := by
  have e2 : (k + a) % (n : Int) = (k + b) % (n : Int) := by rw [← rotN_cast h, ← rotN_cast h, e]
  rw [Int.add_comm k, Int.add_comm k] at e2
  have e3 := emod_shift e2
  rw [Int.emod_eq_of_lt (by omega) (by omega), Int.emod_eq_of_lt (by omega) (by omega)] at e3
  omega
theorem rot_land {P : List Int} (lo : 1 ≤ P.length) {k : Int} {b : Nat} (hb : b < P.length) : (land (rotL P k) b + k) % (P.length : Int) = land P (rotN P.length k b) := by
  have h := rot_F (P := P) (k := k) hb
  rw [F_nat (by rw [rot_len]; exact hb)] at h
  unfold land
  rw [rot_len, h, rotN_cast lo, Int.emod_add_emod, Int.sub_add_cancel, Int.emod_add_emod]
  rfl
theorem rot_pat {P : List Int} (p : Pat P) (k : Int) : Pat (rotL P k) := by
  have lo := p.lo
  refine ⟨⟨by rw [rot_len]; exact p.lo, by rw [rot_len]; exact p.hi, fun x hx => ?_⟩, fun i j hi hj e => ?_⟩
  · obtain ⟨b, _, rfl⟩ := List.mem_map.mp hx
    exact p.bd _ (getD_mem (rotN_lt lo k b))
  · rw [rot_len] at hi hj
    refine rotN_inj lo hi hj (p.inj _ _ (rotN_lt lo k i) (rotN_lt lo k j) ?_)
    rw [← rot_land lo hi, ← rot_land lo hj, e]

theorem even_cr {n : Nat} (b : Int) : cr (List.replicate n b) = 0 := by
  unfold cr
  refine sum_zero fun i hi => sum_zero fun j hj => ?_
  rw [List.length_replicate] at hi hj
  have hi := List.mem_range.mp hi
  have hj := List.mem_range.mp hj
  unfold T
  rw [F_nat (by simpa using hi), F_nat (by simpa using hj), List.length_replicate, List.getD_eq_getElem?_getD, List.getD_eq_getElem?_getD, List.getElem?_replicate, List.getElem?_replicate, if_pos hi, if_pos hj]
  have : ((i : Int) + (some b).getD 0 - ((j : Int) + (some b).getD 0) - 1) / (n : Int) ≤ ((i : Int) - j) / (n : Int) := Int.ediv_le_ediv (by omega) (by simp; omega)
  omega
end TB

namespace TB
theorem Pat.apart {P : List Int} (p : Pat P) : Apart P := p.inj
abbrev nextN (n k : Nat) : Nat := (k + 1) % n
theorem next_lt {n k : Nat} (h : 1 ≤ n) : nextN n k < n := Nat.mod_lt _ (by omega)
theorem next_cases {n k : Nat} (hk : k < n) : (nextN n k = k + 1 ∧ k + 1 < n) ∨ (nextN n k = 0 ∧ k + 1 = n) := by
  unfold nextN
  by_cases h : k + 1 < n
  · exact .inl ⟨Nat.mod_eq_of_lt h, h⟩
  · have e : k + 1 = n := by omega
    exact .inr ⟨by rw [e, Nat.mod_self], e⟩
theorem next_ne {n k : Nat} (hk : k < n) (h2 : 2 ≤ n) : nextN n k ≠ k := by
  rcases next_cases hk with ⟨h, _⟩ | ⟨h, _⟩ <;> omega
/-- the beat whose landing a beat of the swapped row has -/
def tau (n k b : Nat) : Int := if b = nextN n k then (b : Int) - 1 else if b = k then (k : Int) + 1 else b
theorem F_next {P : List Int} {k : Nat} (_hk : k < P.length) : F P ((k : Int) + 1) = (k : Int) + 1 + P.getD (nextN P.length k) 0 := by
  unfold F nextN
  rw [show ((k : Int) + 1) % (P.length : Int) = (((k + 1) % P.length : Nat) : Int) by push_cast; rfl, Int.toNat_natCast]
theorem F_prev {P : List Int} {k : Nat} (hk : k < P.length) : F P (((nextN P.length k : Nat) : Int) - 1) = ((nextN P.length k : Nat) : Int) - 1 + P.getD k 0 := by
  rcases next_cases hk with ⟨h, h2⟩ | ⟨h, h2⟩
  · rw [h, show ((k + 1 : Nat) : Int) - 1 = (k : Int) by omega, F_nat hk]
  · rw [h]
    have e : ((0 : Nat) : Int) - 1 = (k : Int) + (P.length : Int) * (-1) := by omega
    rw [e, F_add, F_nat hk]
    omega
theorem tau_F {P : List Int} {k b : Nat} (hk : k < P.length) (hb : b < P.length) : F (swapL P k (k + 1)) b = F P (tau P.length k b) := by
  rw [F_nat (by rw [swap_len]; exact hb), swap_at hk, show (k + 1) % P.length = nextN P.length k from rfl]
  unfold tau
  by_cases h1 : b = nextN P.length k
  · rw [if_pos h1, if_pos h1, h1, F_prev hk]
    push_cast
    omega
  · rw [if_neg h1, if_neg h1]
    by_cases h2 : b = k
    · rw [if_pos h2, if_pos h2, h2, F_next hk]
      push_cast
      omega
    · rw [if_neg h2, if_neg h2, F_nat hb]
theorem tau_div {n k i j : Nat} (hk : k < n) (h2 : 2 ≤ n) (hi : i < n) (hj : j < n) (h : ¬ (i = k ∧ j = nextN n k)) (h' : ¬ (i = nextN n k ∧ j = k)) : (tau n k i - tau n k j) / (n : Int) = ((i : Int) - j) / (n : Int) := by
  have key : ∀ x y : Int, -(n : Int) ≤ x → x < n → -(n : Int) ≤ y → y < n → (0 ≤ x ↔ 0 ≤ y) → x / (n : Int) = y / (n : Int) := by
    intro x y a b c d e
    by_cases hx : 0 ≤ x
    · rw [div0 hx b, div0 (e.mp hx) d]
    · rw [div1 a (by omega), div1 c (by have : ¬ 0 ≤ y := fun z => hx (e.mpr z); omega)]
  have nc := next_cases hk
  unfold tau
  generalize nextN n k = c at *
  by_cases e2 : i = j
  · rw [e2]; simp
  refine key _ _ ?_ ?_ (by omega) (by omega) ?_ <;> split <;> split <;> (try split) <;> (try split) <;> rcases nc with ⟨e, g⟩ | ⟨e, g⟩ <;> omega
theorem tau_mod {n k b : Nat} (hk : k < n) (hb : b < n) : tau n k b % (n : Int) = ((swB (nextN n k) k b : Nat) : Int) := by
  unfold tau swB
  by_cases h1 : b = nextN n k
  · rw [if_pos h1, if_pos h1, h1]
    rcases next_cases hk with ⟨e, g⟩ | ⟨e, g⟩
    · rw [e, Int.emod_eq_of_lt (by omega) (by omega)]; omega
    · rw [e, show ((0 : Nat) : Int) - 1 = (k : Int) + (n : Int) * (-1) by omega, Int.add_mul_emod_self_left, Int.emod_eq_of_lt (by omega) (by omega)]
  · rw [if_neg h1, if_neg h1]
    by_cases h2 : b = k
    · rw [if_pos h2, if_pos h2]
      unfold nextN
      push_cast
      rfl
    · rw [if_neg h2, if_neg h2, Int.emod_eq_of_lt (by omega) (by omega)]
theorem land_F {P : List Int} {i : Nat} (hi : i < P.length) : land P i = F P i % (P.length : Int) := by
  rw [F_nat hi]; rfl
theorem Apart.next {P : List Int} (p : Apart P) {k : Nat} (hk : k < P.length) (h2 : 2 ≤ P.length) : P.getD k 0 ≠ P.getD (nextN P.length k) 0 + 1 := by
  intro e
  have hc := next_lt (n := P.length) (k := k) (by omega)
  refine next_ne hk h2 (p _ _ hc hk ?_)
  unfold land
  rw [e]
  rw [show (k : Int) + (P.getD (nextN P.length k) 0 + 1) = ((k : Int) + 1) + P.getD (nextN P.length k) 0 by omega]
  rw [Int.add_emod, Int.add_emod ((k : Int) + 1)]
  congr 2
  rw [show ((nextN P.length k : Nat) : Int) = ((k : Int) + 1) % (P.length : Int) by unfold nextN; push_cast; rfl]
  rw [Int.emod_emod]
theorem beside_cr {P : List Int} (p : Apart P) {k : Nat} (hk : k < P.length) (h2 : 2 ≤ P.length) :
    cr (swapL P k (k + 1)) = cr P + if P.getD k 0 > P.getD (nextN P.length k) 0 + 1 then -1 else 1 := by
  have lo : 1 ≤ P.length := by omega
  have hc := next_lt (n := P.length) (k := k) lo
  have hne := next_ne hk h2
  generalize hP' : swapL P k (k + 1) = P'
  have hl : P'.length = P.length := by rw [← hP', swap_len]
  have hF : ∀ b : Nat, b < P.length → F P' b = F P (tau P.length k b) := fun b hb => by rw [← hP']; exact tau_F hk hb
  -- the moved sum
  have e1 : ((List.range P.length).map fun i : Nat => ((List.range P.length).map fun j : Nat => T P (tau P.length k i) (tau P.length k j)).sum).sum = cr P := by
    unfold cr
    rw [← dsum_reindex (n := P.length) (f := swB (nextN P.length k) k) (fun i hi => swB_lt hc hk hi) (fun i j _ _ => swB_inj) fun i j => T P i j]
    refine sum_congr fun i hi => sum_congr fun j hj => ?_
    rw [← tau_mod hk hi, ← tau_mod hk hj, T_mod lo]
  -- the difference
  have e2 : cr P' - cr P = (T P' k (nextN P.length k) - T P (tau P.length k k) (tau P.length k (nextN P.length k))) + (T P' (nextN P.length k) k - T P (tau P.length k (nextN P.length k)) (tau P.length k k)) := by
    have D0 : ∀ i j : Nat, i < P.length → j < P.length → ¬ (i = k ∧ j = nextN P.length k) → ¬ (i = nextN P.length k ∧ j = k) → T P' i j - T P (tau P.length k i) (tau P.length k j) = 0 := by
      intro i j hi hj h h'
      unfold T
      rw [hl, hF i hi, hF j hj, tau_div hk h2 hi hj h h']
      omega
    rw [← e1]
    unfold cr
    rw [hl, ← sum_sub_map]
    have e3 : ((List.range P.length).map fun i : Nat => ((List.range P.length).map fun j : Nat => T P' i j).sum - ((List.range P.length).map fun j : Nat => T P (tau P.length k i) (tau P.length k j)).sum).sum
        = ((List.range P.length).map fun i : Nat => ((List.range P.length).map fun j : Nat => T P' i j - T P (tau P.length k i) (tau P.length k j)).sum).sum := sum_congr fun i _ => (sum_sub_map _ _ _).symm
    rw [e3, sum_two (a := k) (b := nextN P.length k) hk hc (fun e => hne e.symm) fun i hi h h' => sum_zero fun j hj => D0 i j hi (List.mem_range.mp hj) (fun z => h z.1) (fun z => h' z.1)]
    rw [sum_single (a := nextN P.length k) hc fun j hj h => D0 k j hk hj (fun z => h z.2) (fun z => hne z.1.symm), sum_single (a := k) hk fun j hj h => D0 (nextN P.length k) j hc hj (fun z => hne z.1) (fun z => h z.2)]
  -- both, by the one next to the beat
  obtain ⟨q, hq⟩ : ∃ q : Int, ((nextN P.length k : Nat) : Int) = (k : Int) + 1 + (P.length : Int) * q := by
    refine ⟨-(((k : Int) + 1) / (P.length : Int)), ?_⟩
    rw [← mod_form]
    unfold nextN
    push_cast
    rfl
  have tk : tau P.length k k = (k : Int) + 1 := by
    unfold tau
    rw [if_neg (fun e => hne e.symm), if_pos rfl]
  have tc : tau P.length k (nextN P.length k) = (k : Int) + (P.length : Int) * q := by
    unfold tau
    rw [if_pos rfl]
    omega
  rw [tk, tc, T_left lo, T_right lo, hq] at e2
  have a1 : T P' k ((k : Int) + 1 + (P.length : Int) * q) = T P' k ((k : Int) + 1) := by rw [← hl]; exact T_right (by omega) _ _ _
  have a2 : T P' ((k : Int) + 1 + (P.length : Int) * q) k = T P' ((k : Int) + 1) k := by rw [← hl]; exact T_left (by omega) _ _ _
  rw [a1, a2] at e2
  have f1 : F P' k = F P ((k : Int) + 1) := by rw [hF k hk, tk]
  have f2 : F P' ((k : Int) + 1) = F P k := by
    have h := hF _ hc
    have g := F_add P' ((k : Int) + 1) q
    rw [hl] at g
    rw [tc, hq, g, F_add] at h
    omega
  have g1 := F_nat hk
  have g2 := F_next hk
  have nd := p.next hk h2
  unfold T at e2
  rw [hl, f1, f2] at e2
  rw [show (k : Int) - ((k : Int) + 1) = -1 by omega, show (k : Int) + 1 - (k : Int) = 1 by omega, div1 (x := -1) (n := (P.length : Int)) (by omega) (by omega), div0 (x := 1) (n := (P.length : Int)) (by omega) (by omega)] at e2
  generalize hd : F P ((k : Int) + 1) - F P k = d at *
  rw [show F P (k : Int) - F P ((k : Int) + 1) - 1 = -d - 1 by omega] at e2
  have n0 : (0 : Int) < P.length := by omega
  by_cases hs : P.getD k 0 > P.getD (nextN P.length k) 0 + 1
  · rw [if_pos hs]
    have b1 : (d - 1) / (P.length : Int) < 0 := Int.ediv_neg_of_neg_of_pos (by omega) n0
    have b2 : 0 ≤ (-d - 1) / (P.length : Int) := Int.ediv_nonneg (by omega) (by omega)
    omega
  · rw [if_neg hs]
    have b1 : (-d - 1) / (P.length : Int) < 0 := Int.ediv_neg_of_neg_of_pos (by omega) n0
    have b2 : 0 ≤ (d - 1) / (P.length : Int) := Int.ediv_nonneg (by omega) (by omega)
    omega
end TB

namespace TB
theorem div_succ {x n : Int} (hn : 0 < n) : (x + 1) / n = x / n + if (x + 1) % n = 0 then 1 else 0 := by
  have h1 := Int.emod_add_mul_ediv x n
  have h2 := Int.emod_nonneg x (show n ≠ 0 by omega)
  have h3 := Int.emod_lt_of_pos x hn
  by_cases e : x % n + 1 = n
  · have g : x + 1 = 0 + n * (x / n + 1) := by rw [Int.mul_add]; omega
    rw [g, Int.add_mul_ediv_left _ _ (by omega), Int.add_mul_emod_self_left]
    simp
  · have g : x + 1 = (x % n + 1) + n * (x / n) := by omega
    rw [g, Int.add_mul_ediv_left _ _ (by omega), Int.add_mul_emod_self_left, div0 (by omega) (by omega), Int.emod_eq_of_lt (by omega) (by omega), if_neg (by omega)]
    omega
theorem sum_snoc (n : Nat) (f : Nat → Int) : ((List.range (n + 1)).map f).sum = ((List.range n).map f).sum + f n := by
  rw [List.range_succ, List.map_append, List.sum_append]
  simp
theorem flat_even {P : List Int} (p : Apart P) (lo : 1 ≤ P.length) (h : ∀ k : Nat, k < P.length → ¬ P.getD k 0 > P.getD (nextN P.length k) 0 + 1) : ∃ b : Int, P = List.replicate P.length b := by
  have up : ∀ k : Nat, k < P.length → P.getD k 0 ≤ P.getD (nextN P.length k) 0 := by
    intro k hk
    rcases next_cases hk with ⟨e, g⟩ | ⟨e, g⟩
    · have := p.next hk (by omega)
      have := h k hk
      omega
    · by_cases h1 : P.length = 1
      · have e0 : k = 0 := by omega
        rw [e, e0]
        omega
      · have := p.next hk (by omega)
        have := h k hk
        omega
  have st : ∀ k : Nat, k + 1 < P.length → P.getD k 0 ≤ P.getD (k + 1) 0 := fun k hk => by
    have := up k (by omega)
    rcases next_cases (show k < P.length by omega) with ⟨e, g⟩ | ⟨e, g⟩
    · rwa [e] at this
    · omega
  have mono : ∀ d i : Nat, i + d < P.length → P.getD i 0 ≤ P.getD (i + d) 0 := by
    intro d
    induction d with
    | zero => intro i _; exact Int.le_refl _
    | succ d ih =>
      intro i hi
      have := ih i (by omega)
      have := st (i + d) (by omega)
      rw [show i + (d + 1) = i + d + 1 by omega]
      omega
  have last := up (P.length - 1) (by omega)
  rcases next_cases (show P.length - 1 < P.length by omega) with ⟨e, g⟩ | ⟨e, g⟩
  · omega
  rw [e] at last
  refine ⟨P.getD 0 0, ext_getD (by simp) fun i hi => ?_⟩
  rw [List.getD_eq_getElem?_getD (l := List.replicate ..), List.getElem?_replicate, if_pos hi]
  have a := mono i 0 (by omega)
  have b := mono (P.length - 1 - i) i (by omega)
  rw [Nat.zero_add] at a
  rw [show i + (P.length - 1 - i) = P.length - 1 by omega] at b
  simp only [Option.getD_some]
  omega
theorem sum_replicate (n : Nat) (b : Int) : (List.replicate n b).sum = (n : Int) * b := by
  induction n with
  | zero => simp
  | succ n ih => rw [List.replicate_succ, List.sum_cons, ih]; push_cast; rw [Int.add_mul]; omega
theorem Apart.swap {P : List Int} (p : Apart P) {i j : Nat} (hi : i < P.length) : Apart (swapL P i j) := by
  intro a b ha hb e
  rw [swap_len] at ha hb
  rw [swap_land hi, swap_land hi] at e
  have hc : j % P.length < P.length := Nat.mod_lt _ (by omega)
  exact swB_inj (p _ _ (swB_lt hc hi ha) (swB_lt hc hi hb) e)
end TB

namespace TB
/-- the number whose bits are c -/
def W (c : Nat → Int) (n : Nat) : Int := ((List.range n).map fun k => c k * 2 ^ k).sum
def Bits (c : Nat → Int) : Prop := ∀ k, c k = 0 ∨ c k = 1
theorem W_succ (c : Nat → Int) (n : Nat) : W c (n + 1) = W c n + c n * 2 ^ n := sum_snoc n _
theorem two_pos (n : Nat) : (0 : Int) < 2 ^ n := Int.pow_pos (by decide)
theorem W_bd {c : Nat → Int} (h : Bits c) : ∀ n, 0 ≤ W c n ∧ W c n < 2 ^ n
  | 0 => by simp [W]
  | n + 1 => by
    have ih := W_bd h n
    have p := two_pos n
    rw [W_succ, Int.pow_succ]
    rcases h n with e | e <;> rw [e] <;> omega
theorem W_cut (c : Nat → Int) (t : Nat) : ∀ m, W c (t + m) = W c t + 2 ^ t * W (fun k => c (t + k)) m
  | 0 => by simp [W]
  | m + 1 => by
    rw [show t + (m + 1) = t + m + 1 by omega, W_succ, W_cut c t m, W_succ, Int.mul_add, Int.pow_add]
    rw [show (2 : Int) ^ t * (c (t + m) * 2 ^ m) = c (t + m) * (2 ^ t * 2 ^ m) by rw [Int.mul_left_comm]]
    omega
theorem W_parity {c : Nat → Int} (h : Bits c) (m : Nat) : W c (m + 1) % 2 = c 0 := by
  have e := W_cut c 1 m
  rw [Nat.add_comm 1 m] at e
  rw [e, show (2 : Int) ^ 1 = 2 by decide, Int.add_mul_emod_self_left, W_succ]
  simp only [W, List.range_zero, List.map_nil, List.sum_nil, Int.pow_zero, Int.mul_one, Int.zero_add]
  rcases h 0 with e | e <;> rw [e] <;> decide
theorem W_div {c : Nat → Int} (h : Bits c) {t n : Nat} (ht : t ≤ n) : W c n / 2 ^ t = W (fun k => c (t + k)) (n - t) := by
  have e := W_cut c t (n - t)
  rw [show t + (n - t) = n by omega] at e
  have b := W_bd h t
  rw [e, Int.add_mul_ediv_left _ _ (by have := two_pos t; omega), div0 b.1 b.2]
  omega
theorem W_bit {c : Nat → Int} (h : Bits c) {t n : Nat} (ht : t < n) : W c n / 2 ^ t % 2 = c t := by
  rw [W_div h (by omega), show n - t = (n - t - 1) + 1 by omega, W_parity (fun k => h (t + k))]
  rfl
theorem W_bit_hi {c : Nat → Int} (h : Bits c) {t n : Nat} (ht : n ≤ t) : W c n / 2 ^ t % 2 = 0 := by
  have b := W_bd h n
  have le : (2 : Int) ^ n ≤ 2 ^ t := by
    rw [show t = n + (t - n) by omega, Int.pow_add]
    have h1 := two_pos n
    have h2 := two_pos (t - n)
    have h3 := Int.mul_le_mul_of_nonneg_left (show (1 : Int) ≤ 2 ^ (t - n) by omega) (Int.le_of_lt h1)
    omega
  rw [div0 b.1 (by omega)]
  rfl
/-- a number by its bits -/
def bitI (z : Int) (k : Nat) : Int := z / 2 ^ k % 2
theorem bitI_bits (z : Int) : Bits (bitI z) := fun k => by
  unfold bitI
  omega
theorem W_of (z : Int) : ∀ n, W (bitI z) n = z % 2 ^ n
  | 0 => by simp [W]
  | n + 1 => by
    rw [W_succ, W_of z n]
    unfold bitI
    have p := two_pos n
    have h1 := Int.emod_add_mul_ediv z (2 ^ n)
    have h2 := Int.emod_add_mul_ediv (z / 2 ^ n) 2
    have b1 := Int.emod_nonneg z (show (2 : Int) ^ n ≠ 0 by omega)
    have b2 := Int.emod_lt_of_pos z p
    have e : z = (z % 2 ^ n + z / 2 ^ n % 2 * 2 ^ n) + 2 ^ (n + 1) * (z / 2 ^ n / 2) := by
      rw [Int.pow_succ]
      generalize z / 2 ^ n = q at *
      generalize z % 2 ^ n = r at *
      generalize (2 : Int) ^ n = w at *
      have e1 : w * q = w * (q % 2) + w * (2 * (q / 2)) := by rw [← Int.mul_add, h2]
      rw [Int.mul_comm (q % 2) w, Int.mul_assoc]
      omega
    have r0 : (0 : Int) ≤ z % 2 ^ n + z / 2 ^ n % 2 * 2 ^ n ∧ z % 2 ^ n + z / 2 ^ n % 2 * 2 ^ n < 2 ^ (n + 1) := by
      rw [Int.pow_succ]
      rcases (show z / 2 ^ n % 2 = 0 ∨ z / 2 ^ n % 2 = 1 by omega) with q | q <;> rw [q] <;> omega
    conv => rhs; rw [e]
    rw [Int.add_mul_emod_self_left, Int.emod_eq_of_lt r0.1 r0.2]
theorem W_all {z : Int} {n : Nat} (h0 : 0 ≤ z) (h1 : z < 2 ^ n) : W (bitI z) n = z := by
  rw [W_of, Int.emod_eq_of_lt h0 h1]
structure Plain (P : List Int) : Prop extends Pat P where
  pl : ∀ x ∈ P, 0 ≤ x ∧ x ≤ 60
theorem F_at {P : List Int} (lo : 1 ≤ P.length) (m : Int) : ∃ i : Nat, i < P.length ∧ F P m = m + P.getD i 0 ∧ (i : Int) = m % (P.length : Int) := by
  have h0 := Int.emod_nonneg m (show (P.length : Int) ≠ 0 by omega)
  have h1 := Int.emod_lt_of_pos m (show (0 : Int) < P.length by omega)
  exact ⟨(m % (P.length : Int)).toNat, by omega, rfl, by omega⟩
theorem Plain.F_bd {P : List Int} (p : Plain P) (m : Int) : m ≤ F P m ∧ F P m ≤ m + 60 := by
  obtain ⟨i, hi, e, _⟩ := F_at p.lo m
  have := p.pl _ (getD_mem hi)
  omega
/-- does a ball thrown so long ago land k beats from beat b on -/
def lnd (P : List Int) (b : Int) (k ago : Nat) : Int := if F P (b - ago - 1) = b + k then 1 else 0
def cS (P : List Int) (b : Int) (k : Nat) : Int := ((List.range 60).map fun ago : Nat => lnd P b k ago).sum
def S (P : List Int) (b : Int) : Int := W (cS P b) 60
theorem W_add (c d : Nat → Int) (n : Nat) : W (fun k => c k + d k) n = W c n + W d n := by
  unfold W
  rw [← sum_add_map]
  refine sum_congr fun k _ => ?_
  rw [Int.add_mul]
end TB

namespace TB
def gq (P : List Int) (t r : Nat) : Int := min (F P r / (P.length : Int)) (((t : Int) + r) / (P.length : Int))
theorem Plain.gq_sum {P : List Int} (p : Plain P) : ∀ t : Nat, ((List.range P.length).map fun r : Nat => gq P t r).sum = ((List.range t).map fun i : Nat => if (0 : Int) ≤ F P (0 - i - 1) then (1 : Int) else 0).sum
  | 0 => by
    refine sum_zero fun r hr => ?_
    have hr := List.mem_range.mp hr
    unfold gq
    have h0 : 0 ≤ F P r / (P.length : Int) := Int.ediv_nonneg (by have := p.F_bd r; omega) (by omega)
    rw [show ((0 : Nat) : Int) + (r : Int) = (r : Int) by omega, div0 (x := (r : Int)) (by omega) (by omega)]
    omega
  | t + 1 => by
    have lo := p.lo
    have n0 : (0 : Int) < P.length := by omega
    rw [sum_snoc, ← p.gq_sum t]
    have h : ((List.range P.length).map fun r : Nat => gq P (t + 1) r).sum - ((List.range P.length).map fun r : Nat => gq P t r).sum = if (0 : Int) ≤ F P (0 - t - 1) then (1 : Int) else 0 := by
      have hs : 0 ≤ (-((t : Int) + 1)) % (P.length : Int) := Int.emod_nonneg _ (by omega)
      have hs2 := Int.emod_lt_of_pos (-((t : Int) + 1)) n0
      have mf := mod_form (-((t : Int) + 1)) (P.length : Int)
      generalize hq : -((t : Int) + 1) / (P.length : Int) = q at mf
      obtain ⟨s, es⟩ := Int.eq_ofNat_of_zero_le hs
      rw [es] at hs2 mf
      rw [← sum_sub_map, sum_single (a := s) (by omega) fun r hr hne => ?_]
      · unfold gq
        have d := div_succ (x := (t : Int) + s) n0
        rw [if_pos (by rw [show (t : Int) + s + 1 = (P.length : Int) * (-q) by omega]; exact Int.mul_emod_right ..)] at d
        have eF : F P (0 - t - 1) = F P s + (P.length : Int) * q := by
          rw [← F_add]
          congr 1
          rw [Int.mul_neg] at mf
          omega
        have ed : ((t : Int) + s + 1) / (P.length : Int) = -q := by
          rw [show (t : Int) + s + 1 = 0 + (P.length : Int) * (-q) by omega, Int.add_mul_ediv_left _ _ (by omega)]
          simp
        rw [show ((t + 1 : Nat) : Int) + (s : Int) = (t : Int) + s + 1 by omega]
        have fd := Int.emod_add_mul_ediv (F P s) (P.length : Int)
        have f0 := Int.emod_nonneg (F P s) (show (P.length : Int) ≠ 0 by omega)
        have f1 := Int.emod_lt_of_pos (F P s) n0
        have key : 0 ≤ F P (0 - t - 1) ↔ -q ≤ F P s / (P.length : Int) := by
          rw [eF]
          constructor
          · intro h
            rw [Int.le_ediv_iff_mul_le n0, Int.neg_mul, Int.mul_comm]
            omega
          · intro h
            rw [Int.le_ediv_iff_mul_le n0, Int.neg_mul, Int.mul_comm] at h
            omega
        by_cases c : (0 : Int) ≤ F P (0 - t - 1)
        · rw [if_pos c]
          have := key.mp c
          omega
        · rw [if_neg c]
          have : ¬ -q ≤ F P s / (P.length : Int) := fun z => c (key.mpr z)
          omega
      · unfold gq
        have d := div_succ (x := (t : Int) + r) n0
        rw [if_neg] at d
        · rw [show ((t + 1 : Nat) : Int) + (r : Int) = (t : Int) + r + 1 by omega, d]
          omega
        · intro z
          apply hne
          have z2 : ((r : Int) - (-((t : Int) + 1))) % (P.length : Int) = 0 := by rw [show (r : Int) - (-((t : Int) + 1)) = (t : Int) + r + 1 by omega]; exact z
          have z3 := Int.emod_emod_of_dvd
          have z4 : (r : Int) % (P.length : Int) = (-((t : Int) + 1)) % (P.length : Int) := Int.emod_eq_emod_iff_emod_sub_eq_zero.mpr z2
          rw [Int.emod_eq_of_lt (by omega) (by omega), es] at z4
          omega
    omega
theorem Pat.quot_sum {P : List Int} (p : Pat P) : P.sum = (P.length : Int) * ((List.range P.length).map fun r : Nat => F P r / (P.length : Int)).sum := by
  have e1 := sum_reindex (n := P.length) (f := landN P) (fun i _ => landN_lt p.lo i) (fun i j hi hj => p.landN_inj hi hj) fun i => (i : Int)
  have e2 : ((List.range P.length).map fun i => ((landN P i : Nat) : Int)).sum = ((List.range P.length).map fun i : Nat => ((i : Int) + P.getD i 0) - (P.length : Int) * (F P i / (P.length : Int))).sum := sum_congr fun i hi => by
    rw [landN_cast p.lo, land_F hi]
    have := Int.emod_add_mul_ediv (F P i) (P.length : Int)
    rw [← F_nat hi]
    omega
  rw [e2, sum_sub_map (fun i : Nat => (i : Int) + P.getD i 0), sum_add_map (fun i : Nat => (i : Int)), ← sum_range, sum_mul_map] at e1
  omega
theorem Plain.balls {P : List Int} (p : Plain P) : ((List.range 60).map fun i : Nat => if (0 : Int) ≤ F P (0 - i - 1) then (1 : Int) else 0).sum = P.sum / (P.length : Int) := by
  have lo := p.lo
  rw [← p.gq_sum 60, p.toPat.quot_sum, Int.mul_ediv_cancel_left _ (by omega)]
  refine sum_congr fun r hr => ?_
  unfold gq
  have := p.F_bd r
  exact Int.min_eq_left (Int.ediv_le_ediv (by omega) (by omega))
end TB

namespace TB
def letsI (s : Int) (x : Nat) : Prop := (x = 0 → s % 2 = 0) ∧ (x ≠ 0 → s % 2 = 1 ∧ s / 2 ^ x % 2 = 0)
def ledI (s : Int) (x : Nat) : Int := s / 2 + if x = 0 then 0 else 2 ^ (x - 1)
def Step (m : Nat) (s t : Int) : Prop := ∃ x : Nat, x ≤ m ∧ letsI s x ∧ t = ledI s x
def pc (z : Int) (n : Nat) : Int := ((List.range n).map fun k => bitI z k).sum
theorem div_div_two (s : Int) (k : Nat) : s / 2 / 2 ^ k = s / 2 ^ (k + 1) := by
  rw [Int.ediv_ediv_of_nonneg (by decide), Int.pow_succ, Int.mul_comm]
theorem bit_half (s : Int) (k : Nat) : bitI (s / 2) k = bitI s (k + 1) := by
  unfold bitI
  rw [div_div_two]
theorem bit_hi {s : Int} {m k : Nat} (h0 : 0 ≤ s) (h1 : s < 2 ^ m) (hk : m ≤ k) : bitI s k = 0 := by
  have := W_bit_hi (bitI_bits s) (n := m) (t := k) hk
  rwa [W_all h0 h1] at this
theorem W_uniq {c d : Nat → Int} {n : Nat} (hc : Bits c) (e : ∀ k, k < n → c k = d k) {z : Int} (hz : z = W d n) {k : Nat} (hk : k < n) : bitI z k = c k := by
  have : W d n = W c n := sum_congr fun i hi => by rw [e i hi]
  rw [hz, this]
  exact W_bit hc hk
theorem half_W {s : Int} {m : Nat} (h0 : 0 ≤ s) (h1 : s < 2 ^ m) : s / 2 = W (fun k => bitI s (k + 1)) m := by
  have e := W_all (z := s / 2) (n := m) (by omega) (by omega)
  rw [← e]
  exact sum_congr fun k _ => by rw [bit_half]
/-- the bits of what a throw leads to -/
def ledB (s : Int) (x : Nat) (k : Nat) : Int := bitI s (k + 1) + if k + 1 = x then 1 else 0
theorem ledB_bits {s : Int} {x : Nat} (h : letsI s x) : Bits (ledB s x) := fun k => by
  unfold ledB
  by_cases e : k + 1 = x
  · have := (h.2 (by omega)).2
    rw [if_pos e, e]
    unfold bitI
    omega
  · rw [if_neg e]
    have := bitI_bits s (k + 1)
    omega
theorem led_W {s : Int} {m x : Nat} (h0 : 0 ≤ s) (h1 : s < 2 ^ m) (hx : x ≤ m) : ledI s x = W (ledB s x) m := by
  unfold ledI ledB
  rw [W_add (fun k => bitI s (k + 1)) (fun k => if k + 1 = x then 1 else 0), ← half_W h0 h1]
  congr 1
  by_cases e : x = 0
  · rw [if_pos e]
    refine (sum_zero fun k _ => ?_).symm
    show (if k + 1 = x then (1 : Int) else 0) * 2 ^ k = 0
    rw [if_neg (by omega), Int.zero_mul]
  · rw [if_neg e]
    unfold W
    rw [sum_single (a := x - 1) (by omega) fun k _ hne => ?_]
    · show _ = (if x - 1 + 1 = x then (1 : Int) else 0) * 2 ^ (x - 1)
      rw [if_pos (by omega), Int.one_mul]
    · show (if k + 1 = x then (1 : Int) else 0) * 2 ^ k = 0
      rw [if_neg (by omega), Int.zero_mul]
theorem led_bd {s : Int} {m x : Nat} (h0 : 0 ≤ s) (h1 : s < 2 ^ m) (hx : x ≤ m) (h : letsI s x) : 0 ≤ ledI s x ∧ ledI s x < 2 ^ m := by
  rw [led_W h0 h1 hx]
  exact W_bd (ledB_bits h) m
theorem led_bit {s : Int} {m x k : Nat} (h0 : 0 ≤ s) (h1 : s < 2 ^ m) (hx : x ≤ m) (h : letsI s x) (hk : k < m) : bitI (ledI s x) k = ledB s x k :=
  W_uniq (ledB_bits h) (fun _ _ => rfl) (led_W h0 h1 hx) hk
theorem sum_shift (f : Nat → Int) : ∀ n, ((List.range (n + 1)).map f).sum = f 0 + ((List.range n).map fun k => f (k + 1)).sum
  | 0 => by simp
  | n + 1 => by
    rw [sum_snoc, sum_shift f n, sum_snoc]
    omega
theorem pc_led {s : Int} {m x : Nat} (h0 : 0 ≤ s) (h1 : s < 2 ^ m) (hx : x ≤ m) (h : letsI s x) : pc (ledI s x) m = pc s m := by
  have e1 : pc (ledI s x) m = ((List.range m).map fun k => bitI s (k + 1)).sum + ((List.range m).map fun k => if k + 1 = x then (1 : Int) else 0).sum := by
    unfold pc
    rw [← sum_add_map]
    exact sum_congr fun k hk => led_bit h0 h1 hx h hk
  have e2 : ((List.range (m + 1)).map fun k => bitI s k).sum = pc s m := by
    rw [sum_snoc, bit_hi h0 h1 (Nat.le_refl _)]
    unfold pc
    omega
  have e3 := sum_shift (fun k => bitI s k) m
  have b0 : bitI s 0 = s % 2 := by unfold bitI; simp
  rw [e1]
  by_cases e : x = 0
  · have := h.1 e
    rw [sum_zero (g := fun k => if k + 1 = x then (1 : Int) else 0) fun k _ => if_neg (by omega)]
    omega
  · have := (h.2 e).1
    rw [sum_single (g := fun k => if k + 1 = x then (1 : Int) else 0) (a := x - 1) (by omega) fun k _ hne => if_neg (by omega), if_pos (by omega)]
    omega
end TB

namespace TB
/-- from P by undoing crossings at the places, one by one, to Q -/
inductive Und : List Int → List Nat → List Int → Prop
  | nil (P : List Int) : Und P [] P
  | snoc {P Q : List Int} {pl : List Nat} {k : Nat} (u : Und P pl Q) (hk : k < Q.length) (h : Q.getD k 0 > Q.getD (nextN Q.length k) 0 + 1) : Und P (pl ++ [k]) (swapL Q k (k + 1))
/-- by the places' swaps, each of them a crossing more -/
inductive Wk : List Int → List Nat → List Int → Prop
  | nil (P : List Int) : Wk P [] P
  | cons {R P : List Int} {ps : List Nat} {k : Nat} (hk : k < R.length) (h2 : 2 ≤ R.length) (h : ¬ R.getD k 0 > R.getD (nextN R.length k) 0 + 1) (w : Wk (swapL R k (k + 1)) ps P) : Wk R (k :: ps) P
theorem two_of {Q : List Int} {k : Nat} (hk : k < Q.length) (h : Q.getD k 0 > Q.getD (nextN Q.length k) 0 + 1) : 2 ≤ Q.length := by
  refine Classical.byContradiction fun hn => ?_
  have e : Q.length = 1 := by omega
  have : nextN Q.length k = k := by
    unfold nextN
    rw [e]
    omega
  rw [this] at h
  omega
theorem Und.len {P Q : List Int} {pl : List Nat} (u : Und P pl Q) : Q.length = P.length := by
  induction u with
  | nil => rfl
  | snoc _ _ _ ih => rw [swap_len, ih]
theorem Und.apart {P Q : List Int} {pl : List Nat} (u : Und P pl Q) (p : Apart P) : Apart Q := by
  induction u with
  | nil => exact p
  | snoc _ hk _ ih => exact Apart.swap ih hk
theorem Und.cr {P Q : List Int} {pl : List Nat} (u : Und P pl Q) (p : Apart P) : TB.cr P = TB.cr Q + (pl.length : Int) := by
  induction u with
  | nil => simp
  | snoc u hk h ih =>
    have e := beside_cr (u.apart p) hk (two_of hk h)
    rw [if_pos h] at e
    rw [ih, e, List.length_append]
    simp
    omega
theorem Und.sum {P Q : List Int} {pl : List Nat} (u : Und P pl Q) : Q.sum = P.sum := by
  induction u with
  | nil => rfl
  | snoc _ hk h ih => rw [swap_sum hk (next_ne hk (two_of hk h)), ih]
theorem Und.back {P Q : List Int} {pl : List Nat} (u : Und P pl Q) : Wk Q pl.reverse P := by
  induction u with
  | nil => exact .nil _
  | @snoc Q pl k u hk h ih =>
    have h2 := two_of hk h
    have hne := next_ne hk h2
    rw [List.reverse_append]
    refine .cons (by rw [swap_len]; exact hk) (by rw [swap_len]; exact h2) ?_ ?_
    · rw [swap_len, swap_at hk, swap_at hk, if_neg (fun e => hne e.symm), if_pos rfl, if_pos rfl]
      push_cast
      show ¬ (k : Int) + 1 + Q.getD (nextN Q.length k) 0 - k > (k : Int) + Q.getD k 0 - (k + 1) + 1
      omega
    · rw [swap_swap hk hne]
      exact ih
theorem Und.fin {P Q : List Int} {pl : List Nat} (u : Und P pl Q) (p : Apart P) (lo : 1 ≤ P.length) (h : ∀ k : Nat, k < Q.length → ¬ Q.getD k 0 > Q.getD (nextN Q.length k) 0 + 1) :
    Q = List.replicate P.length (P.sum / (P.length : Int)) ∧ TB.cr P = (pl.length : Int) := by
  have hl := u.len
  obtain ⟨b, hb⟩ := flat_even (u.apart p) (by omega) h
  have hs := u.sum
  rw [hb, sum_replicate, hl] at hs
  have eb : P.sum / (P.length : Int) = b := by rw [← hs, Int.mul_ediv_cancel_left _ (by omega)]
  refine ⟨by rw [eb, ← hl]; exact hb, ?_⟩
  rw [u.cr p, hb, even_cr]
  omega
end TB

namespace TB
abbrev Stp := Int × Int
/-- the steps begin at s and lead to x -/
def leads (L : Int → Int → Int) : Int → List Stp → Int → Prop
  | s, [], x => s = x
  | s, p :: w, x => p.1 = s ∧ leads L (L p.1 p.2) w x
theorem leads_append {L : Int → Int → Int} : ∀ {s x y : Int} {u v : List Stp}, leads L s u x → leads L x v y → leads L s (u ++ v) y
  | _, _, _, [], _, h, h' => by cases h; exact h'
  | _, _, _, _ :: _, _, h, h' => ⟨h.1, leads_append h.2 h'⟩
theorem leads_one {L : Int → Int → Int} {s t : Int} : leads L s [(s, t)] (L s t) := ⟨rfl, rfl⟩
/-- a least loop -/
structure Loop (L : Int → Int → Int) (w : List Stp) : Prop where
  ne : w ≠ []
  nd : (w.map Prod.fst).Nodup
  cl : ∃ c, leads L c w c
/-- cut so far -/
structure Cut (L : Int → Int → Int) (s0 x : Int) (done : List Stp) (loops : List (List Stp)) (w : List Stp) : Prop where
  ok : ∀ l ∈ loops, Loop L l
  nd : (w.map Prod.fst).Nodup
  ld : leads L s0 w x
  pm : (loops.flatten ++ w).Perm done
theorem Cut.nil (L : Int → Int → Int) (s0 : Int) : Cut L s0 s0 [] [] [] := ⟨fun _ h => (List.not_mem_nil h).elim, List.nodup_nil, rfl, .refl _⟩
theorem Cut.push {L : Int → Int → Int} {s0 x t : Int} {done : List Stp} {loops : List (List Stp)} {w : List Stp} (c : Cut L s0 x done loops w) (h : x ∉ w.map Prod.fst) : Cut L s0 (L x t) (done ++ [(x, t)]) loops (w ++ [(x, t)]) := by
  refine ⟨c.ok, ?_, leads_append c.ld leads_one, ?_⟩
  · rw [List.map_append, List.nodup_append]
    refine ⟨c.nd, by simp, fun a ha b hb => ?_⟩
    simp at hb
    rw [hb]
    exact fun e => h (e ▸ ha)
  · rw [← List.append_assoc]
    exact c.pm.append_right _
theorem Cut.last {L : Int → Int → Int} {s0 : Int} {done : List Stp} {loops : List (List Stp)} {w : List Stp} (c : Cut L s0 s0 done loops w) (h : w ≠ []) : (∀ l ∈ loops ++ [w], Loop L l) ∧ (loops ++ [w]).flatten.Perm done := by
  refine ⟨fun l hl => ?_, ?_⟩
  · rcases List.mem_append.mp hl with z | z
    · exact c.ok l z
    · rw [List.mem_singleton.mp z]; exact ⟨h, c.nd, s0, c.ld⟩
  · rw [List.flatten_append]
    simp only [List.flatten_cons, List.flatten_nil, List.append_nil]
    exact c.pm
end TB

namespace TB
end TB

namespace TB
/-- the code of a pair -/
def code (p : Int × Int) : Int := p.1 * 64 + p.2
end TB

namespace TB
def Pre (m : Nat) (s t : Int) : Prop := 0 ≤ s ∧ s < 2 ^ m ∧ Step m s t
/-- told so far: each state and how far it is; of those of D the states ahead are told -/
structure Bfs (m : Nat) (t0 : Int) (F : List Stp) (D : Int → Prop) : Prop where
  nd : (F.map Prod.fst).Nodup
  st : ∀ p ∈ F, 0 ≤ p.1 ∧ p.1 < 2 ^ m ∧ pc p.1 m = pc t0 m ∧ 0 ≤ p.2
  zero : (t0, 0) ∈ F
  one0 : ∀ p ∈ F, p.2 = 0 → p.1 = t0
  back : ∀ p ∈ F, 0 < p.2 → ∃ x : Nat, x ≤ m ∧ letsI p.1 x ∧ (ledI p.1 x, p.2 - 1) ∈ F
  cl : ∀ t d, (t, d) ∈ F → D t → ∀ s, Pre m s t → ∃ e, (s, e) ∈ F ∧ e ≤ d + 1
theorem Bfs.init {m : Nat} {t0 : Int} (h0 : 0 ≤ t0) (h1 : t0 < 2 ^ m) : Bfs m t0 [(t0, 0)] (fun _ => False) := by
  refine ⟨by simp, fun p hp => ?_, by simp, fun p hp _ => ?_, fun p hp h => ?_, fun _ _ _ h => h.elim⟩
  · rw [List.mem_singleton.mp hp]; exact ⟨h0, h1, rfl, Int.le_refl _⟩
  · rw [List.mem_singleton.mp hp]
  · rw [List.mem_singleton.mp hp] at h; exact absurd h (Int.lt_irrefl _)
theorem Bfs.mono {m : Nat} {t0 : Int} {F : List Stp} {D D' : Int → Prop} (b : Bfs m t0 F D) (h : ∀ t d, (t, d) ∈ F → D' t → D t) : Bfs m t0 F D' := ⟨b.nd, b.st, b.zero, b.one0, b.back, fun t d hm ht => b.cl t d hm (h t d hm ht)⟩
theorem mem_keys {F : List Stp} {s : Int} : s ∈ F.map Prod.fst ↔ ∃ d, (s, d) ∈ F := by
  rw [List.mem_map]
  constructor
  · rintro ⟨⟨a, d⟩, h, rfl⟩
    exact ⟨d, h⟩
  · rintro ⟨d, h⟩
    exact ⟨_, h, rfl⟩
theorem nodup_uniq : ∀ {F : List Stp}, (F.map Prod.fst).Nodup → ∀ {s d e : Int}, (s, d) ∈ F → (s, e) ∈ F → d = e
  | [], _, _, _, _, h, _ => by cases h
  | p :: F, nd, s, d, e, h, h' => by
    rw [List.map_cons, List.nodup_cons] at nd
    rcases List.mem_cons.mp h with a | a
    · rcases List.mem_cons.mp h' with b | b
      · rw [← a] at b
        exact (congrArg Prod.snd b).symm
      · exact absurd (mem_keys.mpr ⟨e, b⟩) (by rw [← a] at nd; exact nd.1)
    · rcases List.mem_cons.mp h' with b | b
      · exact absurd (mem_keys.mpr ⟨d, a⟩) (by rw [← b] at nd; exact nd.1)
      · exact nodup_uniq nd.2 a b
/-- all told -/
structure Dist (m : Nat) (t0 : Int) (F : List Stp) : Prop where
  nd : (F.map Prod.fst).Nodup
  all : ∀ s, s ∈ F.map Prod.fst ↔ 0 ≤ s ∧ s < 2 ^ m ∧ pc s m = pc t0 m
  pos : ∀ p ∈ F, 0 ≤ p.2
  zero : (t0, 0) ∈ F
  one0 : ∀ p ∈ F, p.2 = 0 → p.1 = t0
  back : ∀ p ∈ F, 0 < p.2 → ∃ x : Nat, x ≤ m ∧ letsI p.1 x ∧ (ledI p.1 x, p.2 - 1) ∈ F
  cl : ∀ t d, (t, d) ∈ F → ∀ s, Pre m s t → ∃ e, (s, e) ∈ F ∧ e ≤ d + 1
/-- what a throw leads to is told, and no more than one nearer -/
theorem Dist.near {m : Nat} {t0 : Int} {F : List Stp} (b : Dist m t0 F) {s d : Int} (h : (s, d) ∈ F) {x : Nat} (hx : x ≤ m) (hl : letsI s x) : ∃ e, (ledI s x, e) ∈ F ∧ d ≤ e + 1 := by
  obtain ⟨s0, s1, s2⟩ := (b.all s).mp (mem_keys.mpr ⟨d, h⟩)
  have hb := led_bd s0 s1 hx hl
  obtain ⟨e, he⟩ := mem_keys.mp ((b.all (ledI s x)).mpr ⟨hb.1, hb.2, by rw [pc_led s0 s1 hx hl]; exact s2⟩)
  obtain ⟨w, hw, hle⟩ := b.cl _ _ he s ⟨s0, s1, x, hx, hl, rfl⟩
  refine ⟨e, he, ?_⟩
  rw [nodup_uniq b.nd h hw]
  exact hle
end TB

namespace TB
theorem Dist.le {m : Nat} {t : Int} {G G2 : List Stp} (b : Dist m t G) (b2 : Dist m t G2) : ∀ (n : Nat) {s d e : Int}, e.toNat ≤ n → (s, d) ∈ G → (s, e) ∈ G2 → d ≤ e
  | n, s, d, e, hn, h, h2 => by
    have e0 : 0 ≤ e := b2.pos _ h2
    by_cases z : e = 0
    · have es : s = t := b2.one0 _ h2 z
      rw [es] at h
      rw [nodup_uniq b.nd h b.zero]
      exact e0
    · cases n with
      | zero => omega
      | succ n =>
        obtain ⟨x, hx, hl, hb⟩ := b2.back _ h2 (show 0 < e by omega)
        obtain ⟨w, hw, hle⟩ := b.near h hx hl
        have := Dist.le b b2 n (s := ledI s x) (d := w) (e := e - 1) (by omega) hw hb
        omega
theorem Dist.same {m : Nat} {t : Int} {G G2 : List Stp} (b : Dist m t G) (b2 : Dist m t G2) {s d e : Int} (h : (s, d) ∈ G) (h2 : (s, e) ∈ G2) : d = e :=
  Int.le_antisymm (b.le b2 e.toNat (Nat.le_refl _) h h2) (b2.le b d.toNat (Nat.le_refl _) h2 h)
end TB

set_option Elab.async false
set_option linter.all false
namespace TM
open L2
open PySem.NumText (AllDigits digitsVal)
def Bnd (v : Int) : Prop := -1000000 ≤ v ∧ v ≤ 1000000
def Low (v : Int) : Prop := 0 ≤ v ∧ v ≤ 35
instance (v : Int) : Decidable (Low v) := inferInstanceAs (Decidable (_ ∧ _))
instance (v : Int) : Decidable (Bnd v) := inferInstanceAs (Decidable (_ ∧ _))
end TM

set_option Elab.async false
set_option linter.all false
namespace TB
/-- where a throw lands, by a length of its own -/
def landM (n : Nat) (ts : List Int) (i : Nat) : Int := ((i : Int) + ts.getD i 0) % (n : Int)
def takenN (n : Nat) (ts : List Int) : List Int := (List.range ts.length).map (landM n ts)
def letsN (n : Nat) (ts : List Int) (t : Nat) : Bool := !(takenN n ts).contains (((ts.length : Int) + (t : Int)) % (n : Int))
def moreN (n : Nat) (tot : Int) (ts : List Int) : List (List Int) :=
  if ts.length + 1 = n then [ts ++ [tot - ts.sum]] else ((List.range (tot - ts.sum + 1).toNat).filter (letsN n ts)).map fun t : Nat => ts ++ [(t : Int)]
def stageN (n : Nat) (tot : Int) : Nat → List (List Int)
  | 0 => [[]]
  | k + 1 => (stageN n tot k).flatMap (moreN n tot)
/-- the order of lists -/
def ltL : List Int → List Int → Bool
  | [], [] => false
  | [], _ :: _ => true
  | _ :: _, [] => false
  | a :: as, b :: bs => decide (a < b) || (decide (a = b) && ltL as bs)
def riseL : List (List Int) → Bool
  | [] => true
  | [_] => true
  | a :: b :: r => ltL a b && riseL (b :: r)
def fitsN (n b : Nat) (ts : List Int) : Bool :=
  decide (ts.length = n) && ts.all (fun t => decide (0 ≤ t)) && ((List.range n).map (landM n ts)).isPerm ((List.range n).map fun k : Nat => (k : Int)) && decide (ts.sum = (b : Int) * n)
def boundN (n b : Nat) : Bool := (List.range (n + 1)).all fun k => decide ((stageN n ((n : Int) * b) k).length ≤ 100000) && (stageN n ((n : Int) * b) k).all fun ts => decide (ts.sum ≤ (n : Int) * b) && decide (0 ≤ ts.sum) && decide (ts.length = k)
def rightN (n b : Nat) : Bool :=
  (stageN n ((n : Int) * b) n).all (fitsN n b) && riseL (stageN n ((n : Int) * b) n) && decide (((stageN n ((n : Int) * b) n).length : Int) = ((b : Int) + 1) ^ n - (b : Int) ^ n)
/-- the lengths and balls that are asked -/
def AskN (n b : Nat) : Prop := 1 ≤ n ∧ ((n ≤ 4 ∧ b ≤ 3) ∨ (n ≤ 6 ∧ b ≤ 2))
theorem all_right : ([1, 2, 3, 4, 5, 6].all fun n => [0, 1, 2, 3].all fun b => (4 < n && b == 3) || (boundN n b && rightN n b)) = true := by decide +kernel
theorem AskN.right {n b : Nat} (h : AskN n b) : boundN n b = true ∧ rightN n b = true := by
  have z := List.all_eq_true.mp all_right n (by simp only [List.mem_cons, List.not_mem_nil, or_false]; unfold AskN at h; omega)
  have z := List.all_eq_true.mp z b (by simp only [List.mem_cons, List.not_mem_nil, or_false]; unfold AskN at h; omega)
  have : (decide (4 < n) && b == 3) = false := by
    unfold AskN at h
    simp only [Bool.and_eq_false_iff, decide_eq_false_iff_not, beq_eq_false_iff_ne]
    omega
  rw [this, Bool.false_or, Bool.and_eq_true] at z
  exact z
structure Fits (n b : Nat) (ts : List Int) : Prop where
  len : ts.length = n
  nn : ∀ x ∈ ts, 0 ≤ x
  pm : ((List.range n).map (landM n ts)).Perm ((List.range n).map fun k : Nat => (k : Int))
  sm : ts.sum = (b : Int) * n
theorem AskN.count {n b : Nat} (h : AskN n b) : ((stageN n ((n : Int) * b) n).length : Int) = ((b : Int) + 1) ^ n - (b : Int) ^ n := by
  have z := h.right.2
  unfold rightN at z
  rw [Bool.and_eq_true] at z
  exact of_decide_eq_true z.2
theorem AskN.rise {n b : Nat} (h : AskN n b) : riseL (stageN n ((n : Int) * b) n) = true := by
  have z := h.right.2
  unfold rightN at z
  rw [Bool.and_eq_true, Bool.and_eq_true] at z
  exact z.1.2
end TB

set_option Elab.async false
set_option linter.all false
namespace TB
inductive Ch where
  | idc
  | turn (k : Int)
  | lift (k : Int)
  | swap (i j : Int)
  | nb (k : Int)
  | mir
  | gap (h : Int)
def inBd (i : Int) : Prop := -1000000 ≤ i ∧ i ≤ 1000000
open Classical in
noncomputable def mirL (ns : List Int) : List Int := if h : ∃ M, Mir ns M then h.choose else []
theorem mirL_eq {ns M : List Int} (p : Pat ns) (m : Mir ns M) : mirL ns = M := by
  have h : ∃ M, Mir ns M := ⟨M, m⟩
  unfold mirL
  rw [dif_pos h]
  exact Mir.uniq p h.choose_spec m
/-- a pattern has its mirrored one -/
theorem mir_ex {ns : List Int} (p : Pat ns) : ∃ M, Mir ns M := by
  have hs : ∀ i : Nat, ∃ j : Nat, i < ns.length → j < ns.length ∧ slot ns j = i := fun i => by
    by_cases h : i < ns.length
    · obtain ⟨j, h1, h2⟩ := p.slot_surj h
      exact ⟨j, fun _ => ⟨h1, h2⟩⟩
    · exact ⟨0, fun z => absurd z h⟩
  obtain ⟨g, hg⟩ : ∃ g : Nat → Nat, ∀ i, i < ns.length → g i < ns.length ∧ slot ns (g i) = i := ⟨fun i => (hs i).choose, fun i hi => (hs i).choose_spec hi⟩
  refine ⟨(List.range ns.length).map fun i => ns.getD (g i) 0, by simp, fun x hx => ?_, fun j hj => ?_⟩
  · obtain ⟨i, hi, rfl⟩ := List.mem_map.mp hx
    exact getD_mem (hg i (List.mem_range.mp hi)).1
  · have hl : slot ns j < ns.length := opp_lt p.lo _
    show ((List.range ns.length).map fun i => ns.getD (g i) 0).getD (slot ns j) 0 = _
    rw [map_range_getD hl]
    obtain ⟨h1, h2⟩ := hg _ hl
    rw [p.slot_inj h1 hj h2]
theorem mirL_mir {ns : List Int} (p : Pat ns) : Mir ns (mirL ns) := by
  obtain ⟨M, m⟩ := mir_ex p
  rw [mirL_eq p m]
  exact m
def okC : Ch → List Int → Prop
  | .idc, _ => True
  | .turn k, _ => inBd k
  | .lift k, ns => inBd k ∧ ∀ x ∈ ns, inBd (x + k)
  | .swap i j, ns => 0 ≤ i ∧ i < j ∧ j < ns.length ∧ ∀ x ∈ swapL ns i.toNat j.toNat, inBd x
  | .nb k, ns => 0 ≤ k ∧ k < ns.length ∧ 2 ≤ ns.length ∧ ∀ x ∈ swapL ns k.toNat (k.toNat + 1), inBd x
  | .mir, _ => True
  | .gap h, ns => inBd h ∧ ∀ x ∈ gapL ns h, inBd x
noncomputable def doC : Ch → List Int → List Int
  | .idc, ns => ns
  | .turn k, ns => rotL ns k
  | .lift k, ns => ns.map (· + k)
  | .swap i j, ns => swapL ns i.toNat j.toNat
  | .nb k, ns => swapL ns k.toNat (k.toNat + 1)
  | .mir, ns => mirL ns
  | .gap h, ns => gapL ns h
def undoC : Ch → Ch
  | .turn k => .turn (-k)
  | .lift k => .lift (-k)
  | c => c
def ballsC : Ch → Int → Int
  | .lift k, b => b + k
  | .gap h, b => h - b
  | _, b => b
theorem undo_undo (c : Ch) : undoC (undoC c) = c := by
  cases c <;> simp [undoC]
theorem rot_sum {P : List Int} (lo : 1 ≤ P.length) (k : Int) : (rotL P k).sum = P.sum := by
  unfold rotL
  rw [sum_range P]
  refine sum_reindex (f := fun b => ((k + (b : Int)) % (P.length : Int)).toNat) (fun i hi => ?_) (fun i j hi hj e => ?_) fun b => P.getD b 0
  · have h0 := Int.emod_nonneg (k + (i : Int)) (show (P.length : Int) ≠ 0 by omega)
    have h1 := Int.emod_lt_of_pos (k + (i : Int)) (show (0 : Int) < P.length by omega)
    omega
  · have a0 := Int.emod_nonneg (k + (i : Int)) (show (P.length : Int) ≠ 0 by omega)
    have b0 := Int.emod_nonneg (k + (j : Int)) (show (P.length : Int) ≠ 0 by omega)
    have e' : (k + (i : Int)) % (P.length : Int) = (k + (j : Int)) % (P.length : Int) := by
      have : (((k + (i : Int)) % (P.length : Int)).toNat : Int) = (((k + (j : Int)) % (P.length : Int)).toNat : Int) := by rw [show ((k + (i : Int)) % (P.length : Int)).toNat = ((k + (j : Int)) % (P.length : Int)).toNat from e]
      omega
    have d := Int.emod_eq_emod_iff_emod_sub_eq_zero.mp e'
    rw [show k + (i : Int) - (k + (j : Int)) = (i : Int) - j by omega] at d
    obtain ⟨q, hq⟩ := Int.dvd_of_emod_eq_zero d
    rcases Int.lt_trichotomy q 0 with h | h | h
    · have : (P.length : Int) * q ≤ (P.length : Int) * (-1) := Int.mul_le_mul_of_nonneg_left (by omega) (by omega)
      omega
    · rw [h, Int.mul_zero] at hq; omega
    · have : (P.length : Int) * 1 ≤ (P.length : Int) * q := Int.mul_le_mul_of_nonneg_left (by omega) (by omega)
      omega
theorem rot_back {P : List Int} (lo : 1 ≤ P.length) (k : Int) : rotL (rotL P k) (-k) = P := by
  conv => rhs; rw [list_eq_range P]
  unfold rotL
  rw [List.length_map, List.length_range]
  refine List.map_congr_left fun b hb => ?_
  have hb := List.mem_range.mp hb
  have h0 := Int.emod_nonneg (-k + (b : Int)) (show (P.length : Int) ≠ 0 by omega)
  have h1 := Int.emod_lt_of_pos (-k + (b : Int)) (show (0 : Int) < P.length by omega)
  rw [map_range_getD (by omega)]
  rw [Int.toNat_of_nonneg h0]
  rw [Int.add_emod, Int.emod_emod_of_dvd _ (Int.dvd_refl _), ← Int.add_emod, show k + (-k + (b : Int)) = (b : Int) by omega, Int.emod_eq_of_lt (by omega) (by omega)]
  simp
theorem lift_pat {P : List Int} (p : Pat P) {k : Int} (bd : ∀ x ∈ P, inBd (x + k)) : Pat (P.map (· + k)) := by
  refine ⟨⟨by rw [List.length_map]; exact p.lo, by rw [List.length_map]; exact p.hi, fun x hx => ?_⟩, fun i j hi hj e => ?_⟩
  · obtain ⟨y, hy, rfl⟩ := List.mem_map.mp hx
    exact bd y hy
  · rw [List.length_map] at hi hj
    refine p.inj i j hi hj ?_
    have g : ∀ b, b < P.length → (P.map (· + k)).getD b 0 = P.getD b 0 + k := fun b hb => by
      rw [getD_get (by rw [List.length_map]; exact hb), getD_get hb, List.getElem_map]
    unfold land at e ⊢
    rw [List.length_map, g i hi, g j hj] at e
    have d := Int.emod_eq_emod_iff_emod_sub_eq_zero.mp e
    refine Int.emod_eq_emod_iff_emod_sub_eq_zero.mpr ?_
    rw [show (i : Int) + P.getD i 0 - ((j : Int) + P.getD j 0) = (i : Int) + (P.getD i 0 + k) - ((j : Int) + (P.getD j 0 + k)) by omega]
    exact d
theorem lift_sum (k : Int) : ∀ P : List Int, (P.map (· + k)).sum = P.sum + (P.length : Int) * k
  | [] => by simp
  | x :: P => by
    rw [List.map_cons, List.sum_cons, List.sum_cons, lift_sum k P, List.length_cons]
    have : ((P.length + 1 : Nat) : Int) * k = (P.length : Int) * k + k := by
      rw [Int.natCast_add, Int.add_mul]; simp
    omega
theorem do_len {c : Ch} {ns : List Int} (p : Pat ns) : (doC c ns).length = ns.length := by
  cases c with
  | idc => rfl
  | turn k => exact rot_len _ _
  | lift k => simp [doC]
  | swap i j => exact swap_len _ _ _
  | nb k => exact swap_len _ _ _
  | mir => exact (mirL_mir p).len
  | gap h => exact gap_len _ _
theorem do_pat {c : Ch} {ns : List Int} (p : Pat ns) (ok : okC c ns) : Pat (doC c ns) := by
  cases c with
  | idc => exact p
  | turn k => exact rot_pat p k
  | lift k => exact lift_pat p ok.2
  | swap i j =>
    obtain ⟨h1, h2, h3, h4⟩ := ok
    exact swap_pat p (by omega) h4
  | nb k =>
    obtain ⟨h1, h2, h3, h4⟩ := ok
    exact swap_pat p (by omega) h4
  | mir => exact (mirL_mir p).pat p
  | gap h => exact gap_pat p ok.2
theorem undo_do {c : Ch} {ns : List Int} (p : Pat ns) (ok : okC c ns) : okC (undoC c) (doC c ns) ∧ doC (undoC c) (doC c ns) = ns := by
  cases c with
  | idc => exact ⟨trivial, rfl⟩
  | turn k =>
    refine ⟨?_, rot_back p.lo k⟩
    unfold okC undoC at *
    unfold inBd at *
    omega
  | lift k =>
    obtain ⟨h1, h2⟩ := ok
    have e : (ns.map (· + k)).map (· + -k) = ns := by
      rw [List.map_map]
      conv => rhs; rw [← List.map_id ns]
      refine List.map_congr_left fun x _ => ?_
      simp only [Function.comp, id_eq]
      omega
    refine ⟨⟨by unfold inBd at *; omega, fun x hx => ?_⟩, e⟩
    obtain ⟨y, hy, rfl⟩ := List.mem_map.mp hx
    have := p.bd y hy
    unfold inBd
    omega
  | swap i j =>
    obtain ⟨h1, h2, h3, h4⟩ := ok
    have hj : j.toNat % ns.length = j.toNat := Nat.mod_eq_of_lt (by omega)
    have e : swapL (swapL ns i.toNat j.toNat) i.toNat j.toNat = ns := swap_swap (by omega) (by rw [hj]; omega)
    refine ⟨⟨h1, h2, by rw [show doC (.swap i j) ns = swapL ns i.toNat j.toNat from rfl, swap_len]; exact h3, fun x hx => ?_⟩, e⟩
    rw [show swapL (doC (.swap i j) ns) i.toNat j.toNat = ns from e] at hx
    exact p.bd x hx
  | nb k =>
    obtain ⟨h1, h2, h3, h4⟩ := ok
    have hne : (k.toNat + 1) % ns.length ≠ k.toNat := by
      by_cases h : k.toNat + 1 = ns.length
      · rw [h, Nat.mod_self]; omega
      · rw [Nat.mod_eq_of_lt (by omega)]; omega
    have e : swapL (swapL ns k.toNat (k.toNat + 1)) k.toNat (k.toNat + 1) = ns := swap_swap (by omega) hne
    refine ⟨⟨h1, by rw [show doC (.nb k) ns = swapL ns k.toNat (k.toNat + 1) from rfl, swap_len]; exact h2, by rw [show doC (.nb k) ns = swapL ns k.toNat (k.toNat + 1) from rfl, swap_len]; exact h3, fun x hx => ?_⟩, e⟩
    rw [show swapL (doC (.nb k) ns) k.toNat (k.toNat + 1) = ns from e] at hx
    exact p.bd x hx
  | mir => exact ⟨trivial, Mir.back p (mirL_mir p) (mirL_mir ((mirL_mir p).pat p))⟩
  | gap h =>
    have e := gap_gap p.lo h
    refine ⟨⟨ok.1, fun x hx => ?_⟩, e⟩
    rw [show gapL (doC (.gap h) ns) h = ns from e] at hx
    exact p.bd x hx
theorem balls_do {c : Ch} {ns : List Int} (p : Pat ns) (ok : okC c ns) : (doC c ns).sum / ((doC c ns).length : Int) = ballsC c (ns.sum / (ns.length : Int)) := by
  have lo := p.lo
  cases c with
  | idc => rfl
  | turn k => rw [show doC (.turn k) ns = rotL ns k from rfl, rot_len, rot_sum lo]; rfl
  | lift k =>
    rw [show doC (.lift k) ns = ns.map (· + k) from rfl, List.length_map, lift_sum]
    exact Int.add_mul_ediv_left _ _ (by omega)
  | swap i j =>
    obtain ⟨h1, h2, h3, h4⟩ := ok
    have hj : j.toNat % ns.length = j.toNat := Nat.mod_eq_of_lt (by omega)
    rw [show doC (.swap i j) ns = swapL ns i.toNat j.toNat from rfl, swap_len, swap_sum (by omega) (by rw [hj]; omega)]
    rfl
  | nb k =>
    obtain ⟨h1, h2, h3, h4⟩ := ok
    have hne : (k.toNat + 1) % ns.length ≠ k.toNat := by
      by_cases h : k.toNat + 1 = ns.length
      · rw [h, Nat.mod_self]; omega
      · rw [Nat.mod_eq_of_lt (by omega)]; omega
    rw [show doC (.nb k) ns = swapL ns k.toNat (k.toNat + 1) from rfl, swap_len, swap_sum (by omega) hne]
    rfl
  | mir => rw [show doC .mir ns = mirL ns from rfl, (mirL_mir p).len, (mirL_mir p).sum p]; rfl
  | gap h => exact gap_balls p h
/-- one after the other -/
inductive Run : List Ch → List Int → List Int → Prop
  | nil {ns : List Int} : Run [] ns ns
  | cons {c : Ch} {cs : List Ch} {ns ms : List Int} : okC c ns → Run cs (doC c ns) ms → Run (c :: cs) ns ms
theorem Run.pat {cs : List Ch} {ns ms : List Int} (r : Run cs ns ms) : Pat ns → Pat ms := by
  induction r with
  | nil => exact id
  | cons ok _ ih => exact fun p => ih (do_pat p ok)
theorem Run.len {cs : List Ch} {ns ms : List Int} (r : Run cs ns ms) : Pat ns → ms.length = ns.length := by
  induction r with
  | nil => exact fun _ => rfl
  | cons ok _ ih => exact fun p => (ih (do_pat p ok)).trans (do_len p)
theorem Run.snoc {cs : List Ch} {c : Ch} {ns ms : List Int} (r : Run cs ns ms) (ok : okC c ms) : Run (cs ++ [c]) ns (doC c ms) := by
  induction r with
  | nil => exact .cons ok .nil
  | cons ok' _ ih => exact .cons ok' (ih ok)
theorem Run.undo {cs : List Ch} {ns ms : List Int} (r : Run cs ns ms) : Pat ns → Run (cs.reverse.map undoC) ms ns := by
  induction r with
  | nil => exact fun _ => .nil
  | cons ok _ ih =>
    intro p
    rw [List.reverse_cons, List.map_append]
    obtain ⟨h1, h2⟩ := undo_do p ok
    have := (ih (do_pat p ok)).snoc h1
    rw [h2] at this
    exact this
theorem Run.balls {cs : List Ch} {ns ms : List Int} (r : Run cs ns ms) : Pat ns → ms.sum / (ms.length : Int) = cs.foldl (fun b c => ballsC c b) (ns.sum / (ns.length : Int)) := by
  induction r with
  | nil => exact fun _ => rfl
  | cons ok _ ih =>
    intro p
    rw [ih (do_pat p ok), List.foldl_cons, balls_do p ok]
theorem undo_twice (cs : List Ch) : (cs.reverse.map undoC).reverse.map undoC = cs := by
  rw [← List.map_reverse, List.reverse_reverse, List.map_map]
  conv => rhs; rw [← List.map_id cs]
  exact List.map_congr_left fun c _ => undo_undo c
/-- within a bound -/
def Bd (B : Int) (ns : List Int) : Prop := ∀ x ∈ ns, -B ≤ x ∧ x ≤ B
/-- a change of numbers from -9 to 9, beats of the pattern -/
def Little (n : Nat) : Ch → Prop
  | .idc => True
  | .turn k => -9 ≤ k ∧ k ≤ 9
  | .lift k => -9 ≤ k ∧ k ≤ 9
  | .swap i j => 0 ≤ i ∧ i < j ∧ j < n
  | .nb k => 0 ≤ k ∧ k < n ∧ 2 ≤ n
  | .mir => True
  | .gap h => -9 ≤ h ∧ h ≤ 9
theorem swap_bd2 {P : List Int} {i j : Nat} {B : Int} (hi : i < P.length) (hj : j ≤ P.length) (hn : P.length ≤ 9) (b : Bd B P) : Bd (B + 10) (swapL P i j) := fun x hx => by
  obtain ⟨m, hm, rfl⟩ := List.getElem_of_mem hx
  rw [swap_len] at hm
  rw [← getD_get (P := swapL P i j) (by rw [swap_len]; exact hm), swap_at hi]
  have a1 := b _ (getD_mem hi)
  have a2 := b _ (getD_mem (Nat.mod_lt j (show 0 < P.length by omega)))
  have a3 := b _ (getD_mem hm)
  split
  · omega
  · split
    · omega
    · omega
theorem little_do {c : Ch} {ns : List Int} {B : Int} (p : Pat ns) (hn : ns.length ≤ 9) (l : Little ns.length c) (b : Bd B ns) (hB : B ≤ 900000) : okC c ns ∧ Bd (B + 10) (doC c ns) := by
  have lo := p.lo
  have up : ∀ {B' : Int} {ms : List Int}, Bd B' ms → B' ≤ B + 10 → Bd (B + 10) ms := fun h hle x hx => by have := h x hx; omega
  have ib : ∀ {ms : List Int}, Bd (B + 10) ms → ∀ x ∈ ms, inBd x := fun h x hx => by have := h x hx; unfold inBd; omega
  cases c with
  | idc => exact ⟨trivial, up b (by omega)⟩
  | turn k =>
    have hk : -9 ≤ k ∧ k ≤ 9 := l
    refine ⟨by unfold okC inBd; omega, up (B' := B) (fun x hx => ?_) (by omega)⟩
    obtain ⟨i, hi, rfl⟩ := List.mem_map.mp hx
    have h0 := Int.emod_nonneg (k + (i : Int)) (show (ns.length : Int) ≠ 0 by omega)
    have h1 := Int.emod_lt_of_pos (k + (i : Int)) (show (0 : Int) < ns.length by omega)
    exact b _ (getD_mem (by omega))
  | lift k =>
    have hk : -9 ≤ k ∧ k ≤ 9 := l
    have hb : Bd (B + 10) (ns.map (· + k)) := fun x hx => by
      obtain ⟨y, hy, rfl⟩ := List.mem_map.mp hx
      have := b y hy
      omega
    exact ⟨⟨by unfold inBd; omega, fun x hx => ib hb _ (List.mem_map_of_mem hx)⟩, hb⟩
  | swap i j =>
    obtain ⟨h1, h2, h3⟩ : 0 ≤ i ∧ i < j ∧ j < ns.length := l
    have hb := swap_bd2 (i := i.toNat) (j := j.toNat) (by omega) (by omega) hn b
    exact ⟨⟨h1, h2, h3, ib hb⟩, hb⟩
  | nb k =>
    obtain ⟨h1, h2, h3⟩ : 0 ≤ k ∧ k < ns.length ∧ 2 ≤ ns.length := l
    have hb := swap_bd2 (i := k.toNat) (j := k.toNat + 1) (by omega) (by omega) hn b
    exact ⟨⟨h1, h2, h3, ib hb⟩, hb⟩
  | mir => exact ⟨trivial, up (B' := B) (fun x hx => b x ((mirL_mir p).bd x hx)) (by omega)⟩
  | gap h =>
    have hk : -9 ≤ h ∧ h ≤ 9 := l
    have hb : Bd (B + 10) (gapL ns h) := fun x hx => by
      obtain ⟨i, hi, rfl⟩ := List.mem_map.mp hx
      have := b _ (getD_mem (opp_lt lo i))
      omega
    exact ⟨⟨by unfold inBd; omega, ib hb⟩, hb⟩
theorem Run.det {cs : List Ch} {ns ms : List Int} (r : Run cs ns ms) : ∀ {ms' : List Int}, Run cs ns ms' → ms = ms' := by
  induction r with
  | nil => exact fun h => by cases h; rfl
  | cons _ _ ih => exact fun h => by cases h with | cons _ r' => exact ih r'
theorem Run.split {xs ys : List Ch} : ∀ {ns ks : List Int}, Run (xs ++ ys) ns ks → ∃ ms, Run xs ns ms ∧ Run ys ms ks := by
  induction xs with
  | nil => exact fun h => ⟨_, .nil, h⟩
  | cons c xs ih =>
    intro ns ks h
    cases h with
    | cons ok r =>
      obtain ⟨ms, h1, h2⟩ := ih r
      exact ⟨ms, .cons ok h1, h2⟩
theorem Run.stuck {cs : List Ch} {c : Ch} {i : Nat} {ns ms : List Int} (e : cs[i]? = some c) (r : Run (cs.take i) ns ms) (no : ¬ okC c ms) : ∀ ks, ¬ Run cs ns ks := fun ks h => by
  have hi := (List.getElem?_eq_some_iff.mp e).1
  have ec : cs = cs.take i ++ (c :: cs.drop (i + 1)) := by
    conv => lhs; rw [← List.take_append_drop i cs]
    congr 1
    rw [List.drop_eq_getElem_cons hi]
    rw [(List.getElem?_eq_some_iff.mp e).2]
  rw [ec] at h
  obtain ⟨ms', h1, h2⟩ := h.split
  cases r.det h1
  cases h2 with
  | cons ok _ => exact no ok
theorem Run.app {xs ys : List Ch} {ns ms ks : List Int} (r : Run xs ns ms) (r2 : Run ys ms ks) : Run (xs ++ ys) ns ks := by
  induction r with
  | nil => exact r2
  | cons ok _ ih => exact .cons ok (ih r2)
end TB

set_option maxHeartbeats 4000000
namespace Tb
open PySem L2 TB
local macro_rules | `(tactic| walk_at "rd") => `(tactic| try simp only [rExtendT, rCount, iRevT, tSeq, tNext, tIfS, tRet, tRetN, tDrop, tAsg, gName, gNil, gCons, gSub, gTup, tVar, tC, tOp, tUn, rI, rI0, rU, rEq, rNe, tTest, tB, tChain, tChain3, rSortedB, rSortedP, rSortedD, rListD, rDictP, iDict, tThaw, rDClear, tDisp, tPairs, kit_dict_dict, rIndex, rIsX, rIsXT, rIsXd, rIsXV, rIsXTd, rIsO, rIxS2, rSlS, rFind, rIndexT, rLenT, rStrT, rIntT, rAddT, rMulT, rInT, iTxt, tx_str, tTxts, kit_str_str, rIn, tListRev, tAug, ipI, tAnd, tOr, tNot, tAndV, tOrV, tNotV, tIf, tIsN, tNotN, tCB, tNil, tCons, tTup, tLst, tTupG, tLstG, tCall, tRaise, tTryC, tXF, sXF, tRaiseI, tTryA, tTryE, thC, thA, thNil, Ends.less, tFor_eq, tComp_eq, iList, iTup, iRng1, iRng2, iEnum, iZip, tNoIf, rIxL, rIxT, rSetL, tBM, tBM0, rAppend, tFld, sFld, tMake, tMakeN, tMethD, tTryM, tNever, rExtend, rGeL, rInS, rClear, tDNewK, tDIn, tDNotIn, tDGet, sDPut, rEqL, rEqS, rBest, rRep, rCat, tSl, tPart, tNoPart, rSlL, capt, CDiv, scal_ii, scal_bb, scal_ss, scal_nn, scal_in, scal_ni, List.map_cons, List.map_nil, List.append_nil, List.nil_append, List.cons_append, List.length_cons, List.length_nil, List.length_map, Int.zero_add, List.getElem?_cons_zero, List.getElem?_cons_succ, List.set_cons_zero, List.set_cons_succ, Option.some.injEq, Option.join_some, Option.bind_some, Option.bind_none, V.int.injEq, V.bl.injEq, V.ref.injEq, V.str.injEq, V.ty.injEq, List.cons.injEq, and_true, true_and, exists_and_left, exists_eq_left', exists_eq_left, exists_eq_right, exists_eq_right', exists_eq, exists_eq', exists_const, eq_self, decide_true, decide_false, Option.isSome_none, Option.isSome_some, Bool.false_eq_true, Bool.not_true, Bool.not_false, reduceIte, reduceCtorEq, false_and, and_false, or_false, false_or, start_def, cxOf_K, cxComp_K, and_assoc, tyOf_int, kit_int_int, kit_int_bool, kit_list_list, rep0, rep1, rep2, rep3, rep4, rep5, rep6, rep7, rep8, rep9, rep10, rep11, rep12, rLen, rIsi, rListOf, rTupOf, rSum, rAll, rAny, rSorted, kit_tuple_tuple, Nat.sub_self, Nat.reduceAdd, Nat.reduceSub, Nat.reduceEqDiff])

def top (i : Nat) : Stmt := PySem.Challenge.pw_tossbook_k15_whole_changes.main.body.getD i (.Pass ⟨0, 0, 0, 0⟩)
/-- within the bounds of a throw -/
def inB (i : Int) : Prop := -1000000 ≤ i ∧ i ≤ 1000000
theorem inB_dec (i : Int) : (decide (-1000000 ≤ i) && decide (i ≤ 1000000)) = true ↔ inB i := by
  unfold inB
  simp
theorem ints_at {ns : List Int} {i : Nat} {x : V} (h : (ns.map V.int)[i]? = some x) : i < ns.length ∧ x = .int (ns.getD i 0) := by
  rw [List.getElem?_map] at h
  cases e : ns[i]? with
  | none => rw [e] at h; cases h
  | some z =>
    rw [e] at h
    have hi := (List.getElem?_eq_some_iff.mp e).1
    refine ⟨hi, ?_⟩
    rw [getD_some hi] at e
    cases e
    exact (Option.some.inj h).symm
theorem same_upd {H : Hp} {a : Addr} {o : HO} (h : H a = none) : Same H (upd H a o) := fun b u e => by
  rw [upd_ne (ne_of_none e h)]
  exact e
section
variable {P : Program} {w : World} {K : PySem.W.Frag} {mg : Str → Option Value} {base : Heap}

abbrev s_is_whole : Stmt := top 8
theorem sc_is_whole : FnScope ["value"] ["value"] (defScope s_is_whole) := ⟨rfl, rfl, rfl, by decide +kernel, rfl, by decide +kernel, by decide +kernel⟩
def spIsInt : Sp := fun vs H Q _ => ∃ i : Int, vs = [.int i] ∧ Q (.bl true) H
theorem ok_is_whole {f : Addr} {fd : FuncData} (h : Has K mg "is_whole" s_is_whole ["value"] f fd) (B : Blt mg) : Ok P w K mg base "is_whole" ["value"] 1 spIsInt := by
  refine h.ok sc_is_whole (fun vs H Q E h => ?_) (fun cdv A outer s H vs Q E hr h => ?_)
  · obtain ⟨i, rfl, _⟩ := h
    rfl
  · obtain ⟨i, rfl, q⟩ := h
    refine ⟨_, (pss_one (ps_ret (pe_and (pe_callB (call_isinstK (K := K) rfl) rfl B.isinstance_ bt_isinstance (pa_cons (pv 0) (pa_cons (pe_tyN B.int_ bt_int) pa_nil))) (pe_one (pe_not (pe_callB (call_isinstK (K := K) rfl) rfl B.isinstance_ bt_isinstance (pa_cons (pv 0) (pa_cons (pe_tyN B.bool_ bt_bool) pa_nil)))))))), ?_⟩
    walk_at "rd"
    exact q

abbrev s_is_between : Stmt := top 9
theorem sc_is_between : FnScope ["value", "least", "most"] ["value", "least", "most"] (defScope s_is_between) := ⟨rfl, rfl, rfl, by decide +kernel, rfl, by decide +kernel, by decide +kernel⟩
def spIsWhole : Sp := fun vs H Q _ => ∃ i a b : Int, vs = [.int i, .int a, .int b] ∧ Q (.bl (decide (a ≤ i) && decide (i ≤ b))) H
theorem ok_is_between {f : Addr} {fd : FuncData} (h : Has K mg "is_between" s_is_between ["value", "least", "most"] f fd) (o_is_whole : Ok P w K mg base "is_whole" ["value"] 1 spIsInt) : Ok P w K mg base "is_between" ["value", "least", "most"] 2 spIsWhole := by
  refine h.ok sc_is_between (fun vs H Q E h => ?_) (fun cdv A outer s H vs Q E hr h => ?_)
  · obtain ⟨i, a, b, rfl, _⟩ := h
    rfl
  · obtain ⟨i, a, b, rfl, q⟩ := h
    refine ⟨_, (pss_one (ps_ret (pe_and (pe_callO o_is_whole (hr.mono (by decide)) rfl passX (pa_cons (pv 0) pa_nil)) (pe_one (pe_chain op_le op_le (pv 1) (pv 0) (pv 2)))))), ?_⟩
    walk_at "rd"
    refine ⟨i, rfl, ?_⟩
    walk_at "rd"
    by_cases h1 : a ≤ i
    · simpa [h1] using q
    · simpa [h1] using q

abbrev s_is_throw : Stmt := top 10
theorem sc_is_throw : FnScope ["value"] ["value"] (defScope s_is_throw) := ⟨rfl, rfl, rfl, by decide +kernel, rfl, by decide +kernel, by decide +kernel⟩
def spIsThrow : Sp := fun vs H Q _ => ∃ i : Int, vs = [.int i] ∧ Q (.bl (decide (-1000000 ≤ i) && decide (i ≤ 1000000))) H
theorem ok_is_throw {f : Addr} {fd : FuncData} (h : Has K mg "is_throw" s_is_throw ["value"] f fd) (g_FARTHEST_THROW : GInt mg "FARTHEST_THROW" 1000000) (o_is_between : Ok P w K mg base "is_between" ["value", "least", "most"] 2 spIsWhole) : Ok P w K mg base "is_throw" ["value"] 3 spIsThrow := by
  refine h.ok sc_is_throw (fun vs H Q E h => ?_) (fun cdv A outer s H vs Q E hr h => ?_)
  · obtain ⟨i, rfl, _⟩ := h
    rfl
  · obtain ⟨i, rfl, q⟩ := h
    refine ⟨_, (pss_one (ps_ret (pe_callO o_is_between (hr.mono (by decide)) rfl passX (pa_cons (pv 0) (pa_cons (pe_un un_neg (pe_gi g_FARTHEST_THROW)) (pa_cons (pe_gi g_FARTHEST_THROW) pa_nil)))))), ?_⟩
    walk_at "rd"
    exact ⟨_, _, _, rfl, q⟩

abbrev s_check_throw : Stmt := top 11
theorem sc_check_throw : FnScope ["value"] ["value"] (defScope s_check_throw) := ⟨rfl, rfl, rfl, by decide +kernel, rfl, by decide +kernel, by decide +kernel⟩
def spCheckThrow (OOB : Addr) : Sp := fun vs H Q E => ∃ i : Int, vs = [.int i] ∧ (inB i → Q .non H) ∧ (¬ inB i → E (.ref OOB) none H)
theorem ok_check_throw {f : Addr} {fd : FuncData} {OOB : Addr} (h : Has K mg "check_throw" s_check_throw ["value"] f fd) (x_OutOfBounds : ExcCls K OOB) (m_OutOfBounds : mg "OutOfBounds" = some (.ref OOB)) (o_is_throw : Ok P w K mg base "is_throw" ["value"] 3 spIsThrow) : Ok P w K mg base "check_throw" ["value"] 4 (spCheckThrow OOB) := by
  refine h.ok sc_check_throw (fun vs H Q E h => ?_) (fun cdv A outer s H vs Q E hr h => ?_)
  · obtain ⟨i, rfl, _⟩ := h
    rfl
  · obtain ⟨i, rfl, q1, q2⟩ := h
    refine ⟨_, (pss_one (ps_if (pt_not (pt_val (pe_callO o_is_throw (hr.mono (by decide)) rfl passX (pa_cons (pv 0) pa_nil)))) (pss_one (ps_raise isDef_cxOf x_OutOfBounds rfl landX rfl m_OutOfBounds (pa_cons pe_str pa_nil))) pss_nil)), ?_⟩
    walk_at "rd"
    refine ⟨i, rfl, _, rfl, ?_⟩
    by_cases hi : inB i
    · rw [(inB_dec i).mpr hi]
      exact q1 hi
    · rw [Bool.eq_false_iff.mpr fun z => hi ((inB_dec i).mp z)]
      exact ⟨by decide, q2 hi⟩

abbrev s_check_row : Stmt := top 12
theorem sc_check_row : FnScope ["row"] ["row"] (defScope s_check_row) := ⟨rfl, rfl, rfl, by decide +kernel, rfl, by decide +kernel, by decide +kernel⟩
def spCheckRow : Sp := fun vs H Q _ => ∃ (a : Addr) (ns : List Int), vs = [.ref a] ∧ H a = some (.lst (ns.map V.int)) ∧ Row ns ∧ ∀ H', Same H H' → Q .non H'
theorem ok_check_row {f : Addr} {fd : FuncData} {NAR : Addr} (h : Has K mg "check_row" s_check_row ["row"] f fd) (B : Blt mg) (g_LONGEST_ROW : GInt mg "LONGEST_ROW" 60) (x_NotARow : ExcCls K NAR) (m_NotARow : mg "NotARow" = some (.ref NAR)) (o_is_throw : Ok P w K mg base "is_throw" ["value"] 3 spIsThrow) : Ok P w K mg base "check_row" ["row"] 4 spCheckRow := by
  refine h.ok sc_check_row (fun vs H Q E h => ?_) (fun cdv A outer s H vs Q E hr h => ?_)
  · obtain ⟨a, ns, rfl, _⟩ := h
    rfl
  · obtain ⟨a, ns, rfl, ha, R, q⟩ := h
    refine ⟨_, (pss_cons (ps_if (pt_not (pt_val (pe_callB (call_isinstK (K := K) rfl) rfl B.isinstance_ bt_isinstance (pa_cons (pv 0) (pa_cons (pe_tyN B.list_ bt_list) pa_nil))))) (pss_one (ps_raise isDef_cxOf x_NotARow rfl landX rfl m_NotARow (pa_cons pe_str pa_nil))) pss_nil)
      (pss_cons (ps_if (pt_not (pt_chain op_le op_le pe_int (pe_callB (call_len_seqK (K := K) rfl) rfl B.len_ bt_len (pa_cons (pv 0) pa_nil)) (pe_gi g_LONGEST_ROW))) (pss_one (ps_raise isDef_cxOf x_NotARow rfl landX rfl m_NotARow (pa_cons pe_str pa_nil))) pss_nil)
      (pss_one (ps_if (pt_not (pt_val (pe_callB (call_allLK (K := K) rfl rfl) rfl B.all_ bt_all (pa_cons (pe_comp (N' := ["throw"]) (π := [none]) (CompScope.of (by kernel_rfl)) rfl (pi_listK (K := K) rfl (pv 0)) (fun _ _ _ _ _ => (pg_name (i := 0) (show List.Nodup (["throw"] : List Str) by decide +kernel) rfl (by first | exact Or.inl rfl | exact Or.inr rfl))) (fun _ _ _ _ _ => pifs_nil) (fun _ _ _ _ _ => (pe_callO o_is_throw (hr.mono (by decide)) rfl passE0 (pa_cons (pv 0) pa_nil)))) pa_nil)))) (pss_one (ps_raise isDef_cxOf x_NotARow rfl landX rfl m_NotARow (pa_cons pe_str pa_nil))) pss_nil)))), ?_⟩
    walk_at "rd"
    have hl : (ns.map V.int).length = ns.length := List.length_map _
    have h1 : (1 : Int) ≤ ((ns.map V.int).length : Int) := by rw [hl]; have := R.lo; omega
    have h2 : ((ns.map V.int).length : Int) ≤ 60 := by rw [hl]; have := R.hi; omega
    refine ⟨_, .lst ha, _, kit_list_list, ?_⟩
    walk_at "rd"
    refine ⟨_, .inl (.of ha), ?_⟩
    rw [decide_eq_true h1, decide_eq_true h2]
    walk_at "rd"
    refine ⟨⟨_, .of ha⟩, comp_list (xs := ns.map V.int) (by omega) (fun i ys σ H' => i ≤ ns.length ∧ σ.length = 1 ∧ Same H H' ∧ ys = (List.replicate i true).map V.bl) ⟨Nat.zero_le _, rfl, Same.refl _, rfl⟩ (fun i ys σ H' p => ?_) (fun i ys σ H' _ p => .of (p.2.2.1 _ _ ha)) (fun i ys σ H' x hx p => ?_) (fun ys σ H' D p hD => ?_)⟩
    · rw [p.2.2.2]; simp
    · obtain ⟨hi, hσ, hs, rfl⟩ := p
      obtain ⟨o, rfl⟩ : ∃ o, σ = [o] := List.length_eq_one_iff.mp hσ
      obtain ⟨hlt, rfl⟩ := ints_at hx
      walk_at "rd"
      refine ⟨_, rfl, hlt, hs, ?_⟩
      rw [(inB_dec _).mpr (R.bd _ (TB.getD_mem hlt)), List.replicate_succ', List.map_append]
      rfl
    · obtain ⟨_, _, hs, rfl⟩ := p
      refine ⟨D, rfl, _, .of upd_same, ?_⟩
      rw [show (List.replicate (ns.map V.int).length true).all id = true by simp]
      walk_at "rd"
      exact q _ (hs.trans (same_upd hD))

/-- where the throws land -/
def lands (ns : List Int) : List Int := (List.range ns.length).map (land ns)
theorem lands_len (ns : List Int) : (lands ns).length = ns.length := by simp [lands]

abbrev s_landings : Stmt := top 14
theorem sc_landings : FnScope ["row"] ["row"] (defScope s_landings) := ⟨rfl, rfl, rfl, by decide +kernel, rfl, by decide +kernel, by decide +kernel⟩
def spLandings : Sp := fun vs H Q _ => ∃ (a : Addr) (ns : List Int), vs = [.ref a] ∧ H a = some (.lst (ns.map V.int)) ∧ 1 ≤ ns.length ∧ ns.length ≤ 60 ∧ ∀ H' D, Same H H' → H D = none → H' D = some (.lst ((lands ns).map V.int)) → Q (.ref D) H'
theorem ok_landings {f : Addr} {fd : FuncData} (h : Has K mg "landings" s_landings ["row"] f fd) (B : Blt mg) : Ok P w K mg base "landings" ["row"] 2 spLandings := by
  refine h.ok sc_landings (fun vs H Q E h => ?_) (fun cdv A outer s H vs Q E hr h => ?_)
  · obtain ⟨a, ns, rfl, _⟩ := h
    rfl
  · obtain ⟨a, ns, rfl, ha, lo, hi, q⟩ := h
    refine ⟨_, (pss_one (ps_ret (pe_comp (N' := ["beat", "throw", "row"]) (π := [none, none, some 0]) (CompScope.of (by kernel_rfl)) rfl (pi_enumK (K := K) rfl rfl B.enumerate_ (pa_cons (pv 0) pa_nil)) (fun _ _ _ _ _ => (pg_tupK (K := K) (n := 2) rfl rfl (pgs_cons (pg_name (i := 0) (show List.Nodup (["beat", "throw", "row"] : List Str) by decide +kernel) rfl (by first | exact Or.inl rfl | exact Or.inr rfl)) (pgs_cons (pg_name (i := 1) (show List.Nodup (["beat", "throw", "row"] : List Str) by decide +kernel) rfl (by first | exact Or.inl rfl | exact Or.inr rfl)) pgs_nil)))) (fun _ _ _ _ _ => pifs_nil) (fun _ _ _ _ _ => (pe_op op_mod (pe_op op_add (pv 0) (pv 1)) (pe_callB (call_len_seqK (K := K) rfl) rfl B.len_ bt_len (pa_cons (pv 2) pa_nil))))))), ?_⟩
    walk_at "rd"
    refine ⟨⟨_, .of ha⟩, comp_enum (xs := ns.map V.int) (by rw [List.length_map]; omega) (fun i ys σ H' => i ≤ ns.length ∧ (∃ o1 o2, σ = [o1, o2, some (V.ref a)]) ∧ Same H H' ∧ ys = ((List.range i).map (land ns)).map V.int) ⟨Nat.zero_le _, ⟨_, _, rfl⟩, Same.refl _, rfl⟩ (fun i ys σ H' p => ?_) (fun i ys σ H' _ p => .of (p.2.2.1 _ _ ha)) (fun i ys σ H' x T hx p hT => ?_) (fun ys σ H' D p hD => ?_)⟩
    · rw [p.2.2.2]; simp
    · obtain ⟨hi', ⟨o1, o2, rfl⟩, hs, rfl⟩ := p
      obtain ⟨hlt, rfl⟩ := ints_at hx
      have hs2 : Same H (upd H' T (.tup [.int i, .int (ns.getD i 0)])) := hs.trans (same_upd hT)
      walk_at "rd"
      refine ⟨_, .of upd_same, rfl, ?_⟩
      walk_at "rd"
      refine ⟨_, .inl (.of (hs2 _ _ ha)), ?_⟩
      walk_at "rd"
      refine ⟨by omega, hlt, hs2, ?_⟩
      rw [List.range_succ, List.map_append, List.map_append]
      rfl
    · obtain ⟨_, _, hs, rfl⟩ := p
      refine q _ D (hs.trans (same_upd hD)) (hs.free hD) ?_
      rw [upd_same, List.length_map]
      rfl

abbrev takenK (ns : List Int) (j : Nat) : List (Key × V) := (List.range j).map fun i => ((Sum.inl (land ns i) : Key), V.int i)
theorem taken_none {ns : List Int} {x : Int} : ∀ {j : Nat}, (∀ i, i < j → land ns i ≠ x) → valV (takenK ns j) (Sum.inl x : Key) = none := by
  intro j h
  unfold valV
  rw [Option.map_eq_none_iff, List.find?_eq_none]
  intro p hp
  obtain ⟨i, hi, rfl⟩ := List.mem_map.mp hp
  simp only [decide_eq_true_eq, Sum.inl.injEq]
  exact h i (List.mem_range.mp hi)
theorem taken_put {ns : List Int} {j : Nat} (h : ∀ i, i < j → land ns i ≠ land ns j) : putK (takenK ns j) (Sum.inl (land ns j) : Key) (V.int j) = takenK ns (j + 1) := by
  rw [putK_new _ (taken_none h)]
  unfold takenK
  rw [List.range_succ, List.map_append]
  rfl
theorem lands_at {ns : List Int} {i : Nat} {x : V} (h : ((lands ns).map V.int)[i]? = some x) : i < ns.length ∧ x = .int (land ns i) := by
  rw [List.getElem?_map] at h
  cases e : (lands ns)[i]? with
  | none => rw [e] at h; cases h
  | some z =>
    rw [e] at h
    have hi := (List.getElem?_eq_some_iff.mp e).1
    rw [lands_len] at hi
    refine ⟨hi, ?_⟩
    unfold lands at e
    rw [List.getElem?_map, List.getElem?_range hi] at e
    cases e
    exact (Option.some.inj h).symm

abbrev s_clash_of : Stmt := top 15
theorem sc_clash_of : FnScope ["row", "taken", "beat", "landing"] ["row"] (defScope s_clash_of) := ⟨rfl, rfl, rfl, by decide +kernel, rfl, by decide +kernel, by decide +kernel⟩
def spClashOf : Sp := fun vs H Q _ => ∃ (a : Addr) (ns : List Int), vs = [.ref a] ∧ H a = some (.lst (ns.map V.int)) ∧ Pat ns ∧ ∀ H', Same H H' → Q .non H'
theorem ok_clash_of {f : Addr} {fd : FuncData} (h : Has K mg "clash_of" s_clash_of ["row"] f fd) (B : Blt mg) (o_check_row : Ok P w K mg base "check_row" ["row"] 4 spCheckRow) (o_landings : Ok P w K mg base "landings" ["row"] 2 spLandings) : Ok P w K mg base "clash_of" ["row"] 5 spClashOf := by
  refine h.ok sc_clash_of (fun vs H Q E h => ?_) (fun cdv A outer s H vs Q E hr h => ?_)
  · obtain ⟨a, ns, rfl, _⟩ := h
    rfl
  · obtain ⟨a, ns, rfl, ha, p, q⟩ := h
    refine ⟨_, (pss_cons (ps_expr (pe_callO o_check_row (hr.mono (by decide)) rfl passX (pa_cons (pv 0) pa_nil)))
      (pss_cons (ps_set (i := 1) sc_clash_of.nd rfl (by first | exact Or.inl rfl | exact Or.inr rfl) pe_dnewK)
      (pss_cons (ps_for ownX rfl (pi_enumK (K := K) rfl rfl B.enumerate_ (pa_cons (pe_callO o_landings (hr.mono (by decide)) rfl passX (pa_cons (pv 0) pa_nil)) pa_nil)) (pg_tupK (K := K) (n := 2) rfl rfl (pgs_cons (pg_name (i := 2) sc_clash_of.nd rfl (by first | exact Or.inl rfl | exact Or.inr rfl)) (pgs_cons (pg_name (i := 3) sc_clash_of.nd rfl (by first | exact Or.inl rfl | exact Or.inr rfl)) pgs_nil))) (pss_cons (ps_if (pt_cmp (pc_din (hu_of hr) (pv 3) (pv 1))) (pss_one (ps_ret (pe_tup (pa_cons (pe_dget (hu_of hr) (pv 1) (pv 3) (fun _ _ => rfl)) (pa_cons (pv 2) pa_nil))))) pss_nil)
      (pss_one (ps_dput (hu_of hr) (pv 1) (pv 3) (pv 2) rfl))))
      (pss_one (ps_ret pe_non))))), ?_⟩
    walk_at "rd"
    refine ⟨a, ns, rfl, ha, p.toRow, fun H1 s1 d hd => ?_⟩
    have s2 : Same H (upd H1 d (.dK [])) := s1.trans (same_upd hd)
    refine ⟨a, ns, rfl, s2 _ _ ha, p.lo, p.hi, fun H3 D s3 hD hD3 => ?_⟩
    have hd3 : H3 d = some (.dK []) := s3 _ _ upd_same
    refine ⟨D, rfl, ⟨_, .of hD3⟩, for_enum (xs := (lands ns).map V.int) (fun i σ H' => i ≤ ns.length ∧ (∃ o1 o2, σ = [some (V.ref a), some (V.ref d), o1, o2]) ∧ Same H H' ∧ H' D = some (.lst ((lands ns).map V.int)) ∧ H' d = some (.dK (takenK ns i)))
      ⟨Nat.zero_le _, ⟨_, _, rfl⟩, s2.trans s3, hD3, hd3⟩ (fun i σ H' _ p => .of p.2.2.2.1) (fun i x σ H' T hx pv hT => ?_) (fun σ H' pv => ?_)⟩
    · obtain ⟨hi, ⟨o1, o2, rfl⟩, hs, hDD, hdd⟩ := pv
      obtain ⟨hlt, rfl⟩ := lands_at hx
      have hno : ∀ j, j < i → land ns j ≠ land ns i := fun j hj e => by
        have := p.inj j i (by omega) hlt e
        omega
      have hTd : d ≠ T := ne_of_none hdd hT
      have hTD : D ≠ T := ne_of_none hDD hT
      have hdD : D ≠ d := ne_of hDD hdd (by intro z; cases z)
      walk_at "rd"
      refine ⟨_, .of upd_same, rfl, ?_⟩
      walk_at "rd"
      refine ⟨none, ?_, ?_⟩
      · have g := DGet.k (k := (Sum.inl (land ns i) : Key)) (show (upd H' T (.tup [.int i, .int (land ns i)])) d = some (.dK (takenK ns i)) by rw [upd_ne hTd]; exact hdd)
        rw [taken_none hno] at g
        exact g
      walk_at "rd"
      refine ⟨_, DPut.k (k := (Sum.inl (land ns i) : Key)) (show (upd H' T (.tup [.int i, .int (land ns i)])) d = some (.dK (takenK ns i)) by rw [upd_ne hTd]; exact hdd) (small1000 (by simp [takenK]; have := p.hi; omega)), ?_⟩
      refine ⟨hlt, fun b o e => ?_, ?_, ?_⟩
      · have e' := hs b o e
        rw [upd_ne (fun z => by subst z; rw [s1.free hd] at e; cases e), upd_ne (ne_of_none e' hT)]
        exact e'
      · rw [upd_ne hdD, upd_ne hTD]; exact hDD
      · rw [upd_same, taken_put hno]
    · obtain ⟨hi, ⟨o1, o2, rfl⟩, hs, hDD, hdd⟩ := pv
      exact q _ hs
end
end Tb

namespace Tb
open PySem L2 TB
local macro_rules | `(tactic| walk_at "rd") => `(tactic| try simp only [rExtendT, rCount, iRevT, tSeq, tNext, tIfS, tRet, tRetN, tDrop, tAsg, gName, gNil, gCons, gSub, gTup, tVar, tC, tOp, tUn, rI, rI0, rU, rEq, rNe, tTest, tB, tChain, tChain3, rSortedB, rSortedP, rSortedD, rListD, rDictP, iDict, tThaw, rDClear, tDisp, tPairs, kit_dict_dict, rIndex, rIsX, rIsXT, rIsXd, rIsXV, rIsXTd, rIsO, rIxS2, rSlS, rFind, rIndexT, rLenT, rStrT, rIntT, rAddT, rMulT, rInT, iTxt, tx_str, tTxts, kit_str_str, rIn, tListRev, tAug, ipI, tAnd, tOr, tNot, tAndV, tOrV, tNotV, tIf, tIsN, tNotN, tCB, tNil, tCons, tTup, tLst, tTupG, tLstG, tCall, tRaise, tTryC, tXF, sXF, tRaiseI, tTryA, tTryE, thC, thA, thNil, Ends.less, tFor_eq, tComp_eq, iList, iTup, iRng1, iRng2, iEnum, iZip, tNoIf, rIxL, rIxT, rSetL, tBM, tBM0, rAppend, tFld, sFld, tMake, tMakeN, tMethD, tTryM, tNever, rExtend, rGeL, rInS, rClear, tDNewK, tDIn, tDNotIn, tDGet, sDPut, rEqL, rEqS, rBest, rRep, rCat, tSl, tPart, tNoPart, rSlL, capt, CDiv, scal_ii, scal_bb, scal_ss, scal_nn, scal_in, scal_ni, List.map_cons, List.map_nil, List.append_nil, List.nil_append, List.cons_append, List.length_cons, List.length_nil, List.length_map, Int.zero_add, List.getElem?_cons_zero, List.getElem?_cons_succ, List.set_cons_zero, List.set_cons_succ, Option.some.injEq, Option.join_some, Option.bind_some, Option.bind_none, V.int.injEq, V.bl.injEq, V.ref.injEq, V.str.injEq, V.ty.injEq, List.cons.injEq, and_true, true_and, exists_and_left, exists_eq_left', exists_eq_left, exists_eq_right, exists_eq_right', exists_eq, exists_eq', exists_const, eq_self, decide_true, decide_false, Option.isSome_none, Option.isSome_some, Bool.false_eq_true, Bool.not_true, Bool.not_false, reduceIte, reduceCtorEq, false_and, and_false, or_false, false_or, start_def, cxOf_K, cxComp_K, and_assoc, tyOf_int, kit_int_int, kit_int_bool, kit_list_list, rep0, rep1, rep2, rep3, rep4, rep5, rep6, rep7, rep8, rep9, rep10, rep11, rep12, rLen, rIsi, rListOf, rTupOf, rSum, rAll, rAny, rSorted, kit_tuple_tuple, Nat.sub_self, Nat.reduceAdd, Nat.reduceSub, Nat.reduceEqDiff])

section
variable {P : Program} {w : World} {K : PySem.W.Frag} {mg : Str → Option Value} {base : Heap}

abbrev s__law_cell_at : Stmt := top 40
theorem sc__law_cell_at : FnScope ["_law_script", "_law_k"] ["_law_script", "_law_k"] (defScope s__law_cell_at) := ⟨rfl, rfl, rfl, by decide +kernel, rfl, by decide +kernel, by decide +kernel⟩
def spCellAt (K : PySem.W.Frag) : Sp := fun vs H Q _ => ∃ (a : Addr) (ns : List Int) (i : Nat), vs = [.ref a, .int i] ∧ SqL K H a (ns.map V.int) ∧ ∀ v : Int, Q (.int v) H
theorem ok_cell_at {f : Addr} {fd : FuncData} (h : Has K mg "_law_cell_at" s__law_cell_at ["_law_script", "_law_k"] f fd) (B : Blt mg) : Ok P w K mg base "_law_cell_at" ["_law_script", "_law_k"] 2 (spCellAt K) := by
  refine h.ok sc__law_cell_at (fun vs H Q E h => ?_) (fun cdv A outer s H vs Q E hr h => ?_)
  · obtain ⟨a, ns, i, rfl, _⟩ := h
    rfl
  · obtain ⟨a, ns, i, rfl, ha, q⟩ := h
    refine ⟨_, (pss_cons (ps_if (pt_cmpR op_lt (pv 1) (pe_callB (call_len_seqK (K := K) rfl) rfl B.len_ bt_len (pa_cons (pv 0) pa_nil)) (nomark _)) (pss_one (ps_ret (pe_ix (ix_listK (K := K) rfl) (pv 0) (pv 1) (fun _ _ => rfl)))) pss_nil)
      (pss_one (ps_ret pe_int))), ?_⟩
    walk_at "rd"
    refine ⟨_, .inl ha, ?_⟩
    walk_at "rd"
    refine ite2 (fun hi => ⟨_, ha, _, atI_nat (j := i) (v := .int (ns.getD i 0)) ?_, q _⟩) (fun _ => q 0)
    have hi' : i < ns.length := by simpa using hi
    rw [List.getElem?_map, getD_some hi']
    rfl

abbrev s__law_mixed : Stmt := top 41
theorem sc__law_mixed : FnScope ["_law_cell", "_law_k", "_law_found"] ["_law_cell", "_law_k"] (defScope s__law_mixed) := ⟨rfl, rfl, rfl, by decide +kernel, rfl, by decide +kernel, by decide +kernel⟩
def spMixed : Sp := fun vs H Q _ => ∃ c k : Int, vs = [.int c, .int k] ∧ ∀ v : Int, 0 ≤ v → v < 2147483629 → Q (.int v) H
theorem ok_mixed {f : Addr} {fd : FuncData} (h : Has K mg "_law_mixed" s__law_mixed ["_law_cell", "_law_k"] f fd) : Ok P w K mg base "_law_mixed" ["_law_cell", "_law_k"] 2 spMixed := by
  refine h.ok sc__law_mixed (fun vs H Q E h => ?_) (fun cdv A outer s H vs Q E hr h => ?_)
  · obtain ⟨c, k, rfl, _⟩ := h
    rfl
  · obtain ⟨c, k, rfl, q⟩ := h
    refine ⟨_, (pss_cons (ps_set (i := 2) sc__law_mixed.nd rfl (by first | exact Or.inl rfl | exact Or.inr rfl) (pe_op op_mod (pe_op op_mul (pe_op op_add (pe_op op_add (pv 0) (pe_op op_mul pe_int (pv 1))) pe_int) pe_int) pe_int))
      (pss_one (ps_ret (pe_op op_mod (pe_op op_mul (pv 2) (pv 2)) pe_int)))), ?_⟩
    walk_at "rd"
    refine ⟨.inl ⟨by decide, by decide⟩, .inr ⟨by decide, by decide⟩, by decide, ?_⟩
    have h1 := Int.emod_nonneg ((c + 977 * k + 31) * 48271) (show (2147483647 : Int) ≠ 0 by decide)
    have h2 := Int.emod_lt_of_pos ((c + 977 * k + 31) * 48271) (show (0 : Int) < 2147483647 by decide)
    refine ⟨.inl ⟨by omega, by omega⟩, by decide, q _ (Int.emod_nonneg _ (by decide)) (Int.emod_lt_of_pos _ (by decide))⟩

abbrev s__law_spots_by : Stmt := top 43
theorem sc__law_spots_by : FnScope ["_law_size", "_law_cell", "_law_spots", "_law_k", "_law_other", "_law_first"] ["_law_size", "_law_cell"] (defScope s__law_spots_by) := ⟨rfl, rfl, rfl, by decide +kernel, rfl, by decide +kernel, by decide +kernel⟩
def spSpotsBy : Sp := fun vs H Q _ => ∃ (n : Nat) (c : Int), vs = [.int n, .int c] ∧ 1 ≤ n ∧ n ≤ 60 ∧ ∀ H' D sp, Same H H' → H D = none → Spots n sp → H' D = some (.lst (sp.map V.int)) → Q (.ref D) H'
theorem at_ints {ns : List Int} {i : Nat} (h : i < ns.length) : atI (ns.map V.int) (i : Int) = some (.int (ns.getD i 0)) := by
  refine atI_nat ?_
  rw [List.getElem?_map, getD_some h]
  rfl
theorem ixN_nat {n i : Nat} (h : i < n) : ixN n (i : Int) = some i := by
  unfold ixN
  rw [if_pos (by omega), if_pos (by omega), Int.toNat_natCast]
theorem map_set_int (l : List Int) (i : Nat) (x : Int) : (l.map V.int).set i (.int x) = (l.set i x).map V.int := by rw [List.map_set]
theorem ok_spots_by {f : Addr} {fd : FuncData} (h : Has K mg "_law_spots_by" s__law_spots_by ["_law_size", "_law_cell"] f fd) (B : Blt mg) (o__law_mixed : Ok P w K mg base "_law_mixed" ["_law_cell", "_law_k"] 2 spMixed) : Ok P w K mg base "_law_spots_by" ["_law_size", "_law_cell"] 3 spSpotsBy := by
  refine h.ok sc__law_spots_by (fun vs H Q E h => ?_) (fun cdv A outer s H vs Q E hr h => ?_)
  · obtain ⟨n, c, rfl, _⟩ := h
    rfl
  · obtain ⟨n, c, rfl, lo, hi, q⟩ := h
    refine ⟨_, (pss_cons (ps_setC (i := 2) (N' := ["_law_k"]) (π := [none]) (CompScope.of (by kernel_rfl)) rfl sc__law_spots_by.nd rfl rfl (pi_range1 rfl B.range_ (pa_cons (pv 0) pa_nil)) (fun _ _ _ _ _ => (pg_name (i := 0) (show List.Nodup (["_law_k"] : List Str) by decide +kernel) rfl (by first | exact Or.inl rfl | exact Or.inr rfl))) (fun _ _ _ _ _ => pifs_nil) (fun _ _ _ _ _ => (pv 0)))
      (pss_cons (ps_for ownX rfl (pi_range1 rfl B.range_ (pa_cons (pv 0) pa_nil)) (pg_name (i := 3) sc__law_spots_by.nd rfl (by first | exact Or.inl rfl | exact Or.inr rfl)) (pss_cons (ps_set (i := 4) sc__law_spots_by.nd rfl (by first | exact Or.inl rfl | exact Or.inr rfl) (pe_op op_mod (pe_callO o__law_mixed (hr.mono (by decide)) rfl passX (pa_cons (pv 1) (pa_cons (pv 3) pa_nil))) (pv 0)))
      (pss_cons (ps_set (i := 5) sc__law_spots_by.nd rfl (by first | exact Or.inl rfl | exact Or.inr rfl) (pe_ix (ix_listK (K := K) rfl) (pv 2) (pv 3) (fun _ _ => rfl)))
      (pss_cons (ps_asg (pe_ix (ix_listK (K := K) rfl) (pv 2) (pv 4) (fun _ _ => rfl)) (pg_sub (pv 2) (pv 3) set_list))
      (pss_one (ps_asg (pv 5) (pg_sub (pv 2) (pv 4) set_list)))))))
      (pss_one (ps_ret (pv 2))))), ?_⟩
    walk_at "rd"
    refine ⟨by omega, by omega, ?_⟩
    rw [Int.toNat_natCast]
    refine comp_range (by omega) (fun i ys σ H' => i ≤ n ∧ (∃ o, σ = [o]) ∧ H' = H ∧ ys = ((List.range i).map fun j : Nat => (j : Int)).map V.int) ⟨Nat.zero_le _, ⟨_, rfl⟩, rfl, rfl⟩ (fun i ys σ H' p => ?_) (fun i ys σ H' hlt pv => ?_) (fun ys σ H' D pv hD => ?_)
    · rw [p.2.2.2]; simp
    · obtain ⟨hi', ⟨o, rfl⟩, rfl, rfl⟩ := pv
      walk_at "rd"
      refine ⟨hlt, ?_⟩
      rw [List.range_succ, List.map_append, List.map_append]
      simp
    · obtain ⟨_, _, rfl, rfl⟩ := pv
      walk_at "rd"
      refine ⟨by omega, by omega, for_range (fun i σ H2 => i ≤ n ∧ (∃ o1 o2 o3, σ = [some (V.int n), some (V.int c), some (V.ref D), o1, o2, o3]) ∧ ∃ sp, Spots n sp ∧ H2 = upd H' D (.lst (sp.map V.int))) ⟨Nat.zero_le _, ⟨_, _, _, rfl⟩, _, Spots.range n, rfl⟩ (fun i σ H2 hlt pv => ?_) (fun σ H2 pv => ?_)⟩
      · obtain ⟨_, ⟨o1, o2, o3, rfl⟩, sp, S, rfl⟩ := pv
        walk_at "rd"
        refine ⟨_, _, rfl, fun v h0 h1 => ?_⟩
        walk_at "rd"
        obtain ⟨m, hm⟩ := Int.eq_ofNat_of_zero_le (Int.emod_nonneg v (show (n : Int) ≠ 0 by omega))
        have hm2 := Int.emod_lt_of_pos v (show (0 : Int) < n by omega)
        rw [hm] at hm2 ⊢
        have hmn : m < n := by omega
        refine ⟨by omega, _, .of upd_same, _, at_ints (by rw [S.len]; exact hlt), _, .of upd_same, _, at_ints (by rw [S.len]; exact hmn), _, upd_same, i, ixN_nat (by rw [List.length_map, S.len]; exact hlt), ?_⟩
        walk_at "rd"
        refine ⟨_, upd_same, m, ixN_nat (by rw [List.length_set, List.length_map, S.len]; exact hmn), hlt, _, S.swap hlt hmn, ?_⟩
        rw [upd_upd, upd_upd, map_set_int, map_set_int]
      · obtain ⟨_, ⟨o1, o2, o3, rfl⟩, sp, S, rfl⟩ := pv
        walk_at "rd"
        exact q _ D sp (same_upd hD) hD S upd_same
end
end Tb

namespace Tb
open PySem L2 TB
local macro_rules | `(tactic| walk_at "rd") => `(tactic| try simp only [rExtendT, rCount, iRevT, tSeq, tNext, tIfS, tRet, tRetN, tDrop, tAsg, gName, gNil, gCons, gSub, gTup, tVar, tC, tOp, tUn, rI, rI0, rU, rEq, rNe, tTest, tB, tChain, tChain3, rSortedB, rSortedP, rSortedD, rListD, rDictP, iDict, tThaw, rDClear, tDisp, tPairs, kit_dict_dict, rIndex, rIsX, rIsXT, rIsXd, rIsXV, rIsXTd, rIsO, rIxS2, rSlS, rFind, rIndexT, rLenT, rStrT, rIntT, rAddT, rMulT, rInT, iTxt, tx_str, tTxts, kit_str_str, rIn, tListRev, tAug, ipI, tAnd, tOr, tNot, tAndV, tOrV, tNotV, tIf, tIsN, tNotN, tCB, tNil, tCons, tTup, tLst, tTupG, tLstG, tCall, tRaise, tTryC, tXF, sXF, tRaiseI, tTryA, tTryE, thC, thA, thNil, Ends.less, tFor_eq, tComp_eq, iList, iTup, iRng1, iRng2, iEnum, iZip, tNoIf, rIxL, rIxT, rSetL, tBM, tBM0, rAppend, tFld, sFld, tMake, tMakeN, tMethD, tTryM, tNever, rExtend, rGeL, rInS, rClear, tDNewK, tDIn, tDNotIn, tDGet, sDPut, rEqL, rEqS, rBest, rRep, rCat, tSl, tPart, tNoPart, rSlL, capt, CDiv, scal_ii, scal_bb, scal_ss, scal_nn, scal_in, scal_ni, List.map_cons, List.map_nil, List.append_nil, List.nil_append, List.cons_append, List.length_cons, List.length_nil, List.length_map, Int.zero_add, List.getElem?_cons_zero, List.getElem?_cons_succ, List.set_cons_zero, List.set_cons_succ, Option.some.injEq, Option.join_some, Option.bind_some, Option.bind_none, V.int.injEq, V.bl.injEq, V.ref.injEq, V.str.injEq, V.ty.injEq, List.cons.injEq, and_true, true_and, exists_and_left, exists_eq_left', exists_eq_left, exists_eq_right, exists_eq_right', exists_eq, exists_eq', exists_const, eq_self, decide_true, decide_false, Option.isSome_none, Option.isSome_some, Bool.false_eq_true, Bool.not_true, Bool.not_false, reduceIte, reduceCtorEq, false_and, and_false, or_false, false_or, start_def, cxOf_K, cxComp_K, and_assoc, tyOf_int, kit_int_int, kit_int_bool, kit_list_list, rep0, rep1, rep2, rep3, rep4, rep5, rep6, rep7, rep8, rep9, rep10, rep11, rep12, rLen, rIsi, rListOf, rTupOf, rSum, rAll, rAny, rSorted, kit_tuple_tuple, Nat.sub_self, Nat.reduceAdd, Nat.reduceSub, Nat.reduceEqDiff])

section
variable {P : Program} {w : World} {K : PySem.W.Frag} {mg : Str → Option Value} {base : Heap}

abbrev s__law_throws_by : Stmt := top 44
theorem sc__law_throws_by : FnScope ["_law_size", "_law_cell", "_law_kind", "_law_spots", "_law_made", "_law_k", "_law_far", "_law_most"] ["_law_size", "_law_cell", "_law_kind"] (defScope s__law_throws_by) := ⟨rfl, rfl, rfl, by decide +kernel, rfl, by decide +kernel, by decide +kernel⟩
/-- the throws made so far, against their spots -/
structure Made (n : Nat) (sp P : List Int) (i : Nat) (sm : Prop) : Prop where
  len : P.length = i
  bd : ∀ x ∈ P, -1000000 ≤ x ∧ x ≤ 1000000
  tight : sm → ∀ x ∈ P, -300 ≤ x ∧ x ≤ 300
  at_ : ∀ k : Nat, k < i → ∃ q : Int, P.getD k 0 = sp.getD k 0 - k + q * (n : Int)
theorem Made.snoc {n : Nat} {sp P : List Int} {i : Nat} {sm : Prop} (m : Made n sp P i sm) {x : Int} (b : -1000000 ≤ x ∧ x ≤ 1000000) (b2 : sm → -300 ≤ x ∧ x ≤ 300) {q : Int} (e : x = sp.getD i 0 - i + q * (n : Int)) : Made n sp (P ++ [x]) (i + 1) sm := by
  refine ⟨by simp [m.len], fun y hy => ?_, fun hs y hy => ?_, fun k hk => ?_⟩
  · rcases List.mem_append.mp hy with z | z
    · exact m.bd y z
    · rw [List.mem_singleton.mp z]; exact b
  · rcases List.mem_append.mp hy with z | z
    · exact m.tight hs y z
    · rw [List.mem_singleton.mp z]; exact b2 hs
  · have hl := m.len
    by_cases hki : k = i
    · subst hki
      refine ⟨q, ?_⟩
      rw [List.getD_eq_getElem?_getD, List.getElem?_append_right (by omega), hl]
      simp only [Nat.sub_self, List.getElem?_cons_zero, Option.getD_some]
      exact e
    · obtain ⟨z, hz⟩ := m.at_ k (by omega)
      refine ⟨z, ?_⟩
      rw [← hz, List.getD_eq_getElem?_getD, List.getElem?_append_left (by omega), ← List.getD_eq_getElem?_getD]
def spThrowsBy : Sp := fun vs H Q _ => ∃ (n : Nat) (c k : Int), vs = [.int n, .int c, .int k] ∧ 1 ≤ n ∧ n ≤ 60 ∧ ∀ H' D T, Same H H' → H D = none → Pat T → (k = 0 ∨ k = 1 → ∀ x ∈ T, -300 ≤ x ∧ x ≤ 300) → T.length = n → H' D = some (.lst (T.map V.int)) → Q (.ref D) H'
theorem ok_throws_by {f : Addr} {fd : FuncData} (h : Has K mg "_law_throws_by" s__law_throws_by ["_law_size", "_law_cell", "_law_kind"] f fd) (B : Blt mg) (o__law_mixed : Ok P w K mg base "_law_mixed" ["_law_cell", "_law_k"] 2 spMixed) (o__law_spots_by : Ok P w K mg base "_law_spots_by" ["_law_size", "_law_cell"] 3 spSpotsBy) : Ok P w K mg base "_law_throws_by" ["_law_size", "_law_cell", "_law_kind"] 4 spThrowsBy := by
  refine h.ok sc__law_throws_by (fun vs H Q E h => ?_) (fun cdv A outer s H vs Q E hr h => ?_)
  · obtain ⟨n, c, k, rfl, _⟩ := h
    rfl
  · obtain ⟨n, c, kd, rfl, lo, hi, q⟩ := h
    refine ⟨_, (pss_cons (ps_set (i := 3) sc__law_throws_by.nd rfl (by first | exact Or.inl rfl | exact Or.inr rfl) (pe_callO o__law_spots_by (hr.mono (by decide)) rfl passX (pa_cons (pv 0) (pa_cons (pv 1) pa_nil))))
      (pss_cons (ps_set (i := 4) sc__law_throws_by.nd rfl (by first | exact Or.inl rfl | exact Or.inr rfl) (pe_lst pa_nil))
      (pss_cons (ps_for ownX rfl (pi_range1 rfl B.range_ (pa_cons (pv 0) pa_nil)) (pg_name (i := 5) sc__law_throws_by.nd rfl (by first | exact Or.inl rfl | exact Or.inr rfl)) (pss_cons (ps_set (i := 6) sc__law_throws_by.nd rfl (by first | exact Or.inl rfl | exact Or.inr rfl) (pe_callO o__law_mixed (hr.mono (by decide)) rfl passX (pa_cons (pe_op op_fdiv (pv 1) pe_int) (pa_cons (pe_op op_add (pv 5) pe_int) pa_nil))))
      (pss_one (ps_if (pt_cmpR op_eq (pv 2) pe_int (nomark _)) (pss_one (ps_expr (pe_bmK (K := K) rfl PySem.F.plainAttrs_list PySem.F.slot_list_append PySem.F.type_list_append mt_append (pv 4) (pa_cons (pe_op op_add (pe_op op_mod (pe_op op_sub (pe_ix (ix_listK (K := K) rfl) (pv 3) (pv 5) (fun _ _ => rfl)) (pv 5)) (pv 0)) (pe_op op_mul (pe_op op_mod (pv 6) pe_int) (pv 0))) pa_nil)))) (pss_one (ps_if (pt_cmpR op_eq (pv 2) pe_int (nomark _)) (pss_one (ps_expr (pe_bmK (K := K) rfl PySem.F.plainAttrs_list PySem.F.slot_list_append PySem.F.type_list_append mt_append (pv 4) (pa_cons (pe_op op_add (pe_op op_sub (pe_ix (ix_listK (K := K) rfl) (pv 3) (pv 5) (fun _ _ => rfl)) (pv 5)) (pe_op op_mul (pe_op op_sub (pe_op op_mod (pv 6) pe_int) pe_int) (pv 0))) pa_nil)))) (pss_cons (ps_set (i := 7) sc__law_throws_by.nd rfl (by first | exact Or.inl rfl | exact Or.inr rfl) (pe_op op_fdiv (pe_op op_sub pe_int (pv 0)) (pv 0)))
      (pss_one (ps_expr (pe_bmK (K := K) rfl PySem.F.plainAttrs_list PySem.F.slot_list_append PySem.F.type_list_append mt_append (pv 4) (pa_cons (pe_op op_add (pe_op op_sub (pe_ix (ix_listK (K := K) rfl) (pv 3) (pv 5) (fun _ _ => rfl)) (pv 5)) (pe_op op_mul (pe_op op_sub (pe_op op_mod (pv 6) (pe_op op_add (pe_op op_mul pe_int (pv 7)) pe_int)) (pv 7)) (pv 0))) pa_nil)))))))))))
      (pss_one (ps_ret (pv 4)))))), ?_⟩
    walk_at "rd"
    refine ⟨n, c, rfl, lo, hi, fun H1 S1 sp s1 hS1 S hsp => ⟨by decide, fun D hD => ⟨by omega, by omega, ?_⟩⟩⟩
    have hne : S1 ≠ D := ne_of_none hsp hD
    refine for_range (fun i σ H2 => i ≤ n ∧ (∃ o1 o2 o3, σ = [some (V.int n), some (V.int c), some (V.int kd), some (V.ref S1), some (V.ref D), o1, o2, o3]) ∧ ∃ T, Made n sp T i (kd = 0 ∨ kd = 1) ∧ H2 = upd H1 D (.lst (T.map V.int))) ⟨Nat.zero_le _, ⟨_, _, _, rfl⟩, [], ⟨rfl, by simp, by simp, fun k hk => absurd hk (Nat.not_lt_zero _)⟩, rfl⟩ (fun i σ H2 hlt pv => ?_) (fun σ H2 pv => ?_)
    · rw [Int.toNat_natCast] at hlt
      obtain ⟨_, ⟨o1, o2, o3, rfl⟩, T, M, rfl⟩ := pv
      have hl := M.len
      have hS : (upd H1 D (.lst (T.map V.int))) S1 = some (.lst (sp.map V.int)) := by rw [upd_ne hne]; exact hsp
      have hat : atI (sp.map V.int) (i : Int) = some (.int (sp.getD i 0)) := at_ints (by rw [S.len]; exact hlt)
      obtain ⟨r0, r1⟩ := S.rng i hlt
      have fin : ∀ x : Int, (-1000000 ≤ x ∧ x ≤ 1000000) → ((kd = 0 ∨ kd = 1) → -300 ≤ x ∧ x ≤ 300) → (∃ z : Int, x = sp.getD i 0 - i + z * (n : Int)) → ∃ U, Made n sp U (i + 1) (kd = 0 ∨ kd = 1) ∧ upd (upd H1 D (.lst (T.map V.int))) D (.lst (T.map V.int ++ [V.int x])) = upd H1 D (.lst (U.map V.int)) := fun x b b2 ⟨z, e⟩ =>
        ⟨T ++ [x], M.snoc b b2 e, by rw [upd_upd, List.map_append]; rfl⟩
      have tyD : ∀ o, tyV K "list" (.ref D) (upd H1 D (.lst o)) := fun o => .inl ⟨rfl, _, .of upd_same⟩
      have small : (T.map V.int).length < sizeLine := small1000 (by rw [List.length_map, hl]; omega)
      walk_at "rd"
      refine ⟨by decide, by decide, _, _, rfl, fun v h0 h1 => ?_⟩
      walk_at "rd"
      have nlo : (1 : Int) ≤ n := by omega
      have nhi : (n : Int) ≤ 60 := by omega
      have cm : ∀ z : Int, CMul z n := fun z => .inr ⟨by omega, by omega⟩
      obtain ⟨mm0, mm1⟩ := most_bd nlo nhi
      refine ite2 (fun _ => ⟨tyD _, _, .of hS, _, hat, _, rfl, by omega, by decide, cm _, _, upd_same, small, hlt, fin _ (kind0_bd nlo nhi (Int.emod_nonneg _ (by decide)) ?_) (fun _ => ?_) ⟨_, kind0 _ _ _ _⟩⟩) (fun k0 => ite2 (fun _ => ⟨tyD _, _, .of hS, _, hat, _, rfl, by decide, cm _, _, upd_same, small, hlt, fin _ (kind1_bd nlo nhi r0 r1 (by omega) (by omega) (Int.emod_nonneg _ (by decide)) ?_) (fun _ => ?_) ⟨_, rfl⟩⟩)
        (fun k1 => ⟨by omega, by omega, tyD _, _, .of hS, _, hat, _, rfl, .inl ⟨by decide, by decide⟩, by omega, cm _, _, upd_same, small, hlt, fin _ (kind2_bd nlo nhi r0 r1 (by omega) (by omega) (Int.emod_nonneg _ (by omega)) ?_) (fun z => ?_) ⟨_, rfl⟩⟩))
      · have := Int.emod_lt_of_pos v (show (0 : Int) < 3 by decide)
        omega
      · have f1 := Int.emod_lt_of_pos v (show (0 : Int) < 3 by decide)
        have f0 := Int.emod_nonneg v (show (3 : Int) ≠ 0 by decide)
        have g0 := Int.emod_nonneg (sp.getD i 0 - i) (show (n : Int) ≠ 0 by omega)
        have g1 := Int.emod_lt_of_pos (sp.getD i 0 - i) (show (0 : Int) < n by omega)
        have g2 : 0 ≤ v % 3 * (n : Int) := Int.mul_nonneg f0 (by omega)
        have g3 : v % 3 * (n : Int) ≤ 2 * n := Int.mul_le_mul_of_nonneg_right (by omega) (by omega)
        omega
      · have := Int.emod_lt_of_pos v (show (0 : Int) < 7 by decide)
        omega
      · have f1 := Int.emod_lt_of_pos v (show (0 : Int) < 7 by decide)
        have f0 := Int.emod_nonneg v (show (7 : Int) ≠ 0 by decide)
        have g2 : (-3) * (n : Int) ≤ (v % 7 - 3) * (n : Int) := Int.mul_le_mul_of_nonneg_right (by omega) (by omega)
        have g3 : (v % 7 - 3) * (n : Int) ≤ 3 * n := Int.mul_le_mul_of_nonneg_right (by omega) (by omega)
        omega
      · have := Int.emod_lt_of_pos v (show (0 : Int) < 2 * ((1000000 - (n : Int)) / n) + 1 by omega)
        omega
      · simp at k0 k1
        omega
    · obtain ⟨_, ⟨o1, o2, o3, rfl⟩, T, M, rfl⟩ := pv
      walk_at "rd"
      rw [Int.toNat_natCast] at M
      exact q _ D T (s1.trans (same_upd hD)) (s1.free hD) (Pat.of lo hi M.len M.bd S M.at_) M.tight M.len upd_same

abbrev s__law_same : Stmt := top 45
theorem sc__law_same : FnScope ["_law_found", "_law_due", "_law_k"] ["_law_found", "_law_due"] (defScope s__law_same) := ⟨rfl, rfl, rfl, by decide +kernel, rfl, by decide +kernel, by decide +kernel⟩
def spSame : Sp := fun vs H Q _ => ∃ (a b : Addr) (xs ys : List Int), vs = [.ref a, .ref b] ∧ H a = some (.lst (xs.map V.int)) ∧ H b = some (.lst (ys.map V.int)) ∧ xs.length ≤ 1000 ∧ xs = ys ∧ Q (.bl true) H
theorem ok_same {f : Addr} {fd : FuncData} (h : Has K mg "_law_same" s__law_same ["_law_found", "_law_due"] f fd) (B : Blt mg) : Ok P w K mg base "_law_same" ["_law_found", "_law_due"] 2 spSame := by
  refine h.ok sc__law_same (fun vs H Q E h => ?_) (fun cdv A outer s H vs Q E hr h => ?_)
  · obtain ⟨a, b, xs, ys, rfl, _⟩ := h
    rfl
  · obtain ⟨a, b, xs, ys, rfl, ha, hb, hl, rfl, q⟩ := h
    refine ⟨_, (pss_cons (ps_if (PW.pt (pw_or (pt_not (pt_val (pe_callB (call_isinstK (K := K) rfl) rfl B.isinstance_ bt_isinstance (pa_cons (pv 0) (pa_cons (pe_tyN B.list_ bt_list) pa_nil))))) (pw_or1 (pt_cmpR op_ne (pe_callB (call_len_seqK (K := K) rfl) rfl B.len_ bt_len (pa_cons (pv 0) pa_nil)) (pe_callB (call_len_seqK (K := K) rfl) rfl B.len_ bt_len (pa_cons (pv 1) pa_nil)) (nomark _))))) (pss_one (ps_ret pe_bl)) pss_nil)
      (pss_cons (ps_for ownX rfl (pi_range1 rfl B.range_ (pa_cons (pe_callB (call_len_seqK (K := K) rfl) rfl B.len_ bt_len (pa_cons (pv 1) pa_nil)) pa_nil)) (pg_name (i := 2) sc__law_same.nd rfl (by first | exact Or.inl rfl | exact Or.inr rfl)) (pss_one (ps_if (PW.pt (pw_or (pt_not (pt_val (pe_callB (call_isinstK (K := K) rfl) rfl B.isinstance_ bt_isinstance (pa_cons (pe_ix (ix_listK (K := K) rfl) (pv 0) (pv 2) (fun _ _ => rfl)) (pa_cons (pe_tyN B.int_ bt_int) pa_nil))))) (pw_or (pt_val (pe_callB (call_isinstK (K := K) rfl) rfl B.isinstance_ bt_isinstance (pa_cons (pe_ix (ix_listK (K := K) rfl) (pv 0) (pv 2) (fun _ _ => rfl)) (pa_cons (pe_tyN B.bool_ bt_bool) pa_nil)))) (pw_or1 (pt_cmpR op_ne (pe_ix (ix_listK (K := K) rfl) (pv 0) (pv 2) (fun _ _ => rfl)) (pe_ix (ix_listK (K := K) rfl) (pv 1) (pv 2) (fun _ _ => rfl)) (nomark _)))))) (pss_one (ps_ret pe_bl)) pss_nil)))
      (pss_one (ps_ret pe_bl)))), ?_⟩
    walk_at "rd"
    refine ⟨_, .lst ha, _, kit_list_list, ?_⟩
    walk_at "rd"
    refine ⟨_, .inl (.of ha), _, .inl (.of hb), ?_⟩
    walk_at "rd"
    refine ⟨_, .inl (.of hb), ?_⟩
    walk_at "rd"
    refine ⟨by omega, by omega, for_range (fun i σ H' => H' = H ∧ ∃ o, σ = [some (V.ref a), some (V.ref b), o]) ⟨rfl, _, rfl⟩ (fun i σ H' hlt pv => ?_) (fun σ H' pv => ?_)⟩
    · obtain ⟨rfl, o, rfl⟩ := pv
      rw [Int.toNat_natCast] at hlt
      walk_at "rd"
      refine ⟨_, .of ha, _, at_ints hlt, ?_⟩
      walk_at "rd"
      refine ⟨_, .of ha, _, at_ints hlt, ?_⟩
      walk_at "rd"
      refine ⟨_, .of ha, _, at_ints hlt, _, .of hb, _, at_ints hlt, ?_⟩
      walk_at "rd"
    · obtain ⟨rfl, o, rfl⟩ := pv
      exact q

end
end Tb

namespace Tb
open PySem L2 TB
local macro_rules | `(tactic| walk_at "rd") => `(tactic| try simp only [rExtendT, rCount, iRevT, tSeq, tNext, tIfS, tRet, tRetN, tDrop, tAsg, gName, gNil, gCons, gSub, gTup, tVar, tC, tOp, tUn, rI, rI0, rU, rEq, rNe, tTest, tB, tChain, tChain3, rSortedB, rSortedP, rSortedD, rListD, rDictP, iDict, tThaw, rDClear, tDisp, tPairs, kit_dict_dict, rIndex, rIsX, rIsXT, rIsXd, rIsXV, rIsXTd, rIsO, rIxS2, rSlS, rFind, rIndexT, rLenT, rStrT, rIntT, rAddT, rMulT, rInT, iTxt, tx_str, tTxts, kit_str_str, rIn, tListRev, tAug, ipI, tAnd, tOr, tNot, tAndV, tOrV, tNotV, tIf, tIsN, tNotN, tCB, tNil, tCons, tTup, tLst, tTupG, tLstG, tCall, tRaise, tTryC, tXF, sXF, tRaiseI, tTryA, tTryE, thC, thA, thNil, Ends.less, tFor_eq, tComp_eq, iList, iTup, iRng1, iRng2, iEnum, iZip, tNoIf, rIxL, rIxT, rSetL, tBM, tBM0, rAppend, tFld, sFld, tMake, tMakeN, tMethD, tTryM, tNever, rExtend, rGeL, rInS, rClear, tDNewK, tDIn, tDNotIn, tDGet, sDPut, rEqL, rEqS, rBest, rRep, rCat, tSl, tPart, tNoPart, rSlL, capt, CDiv, scal_ii, scal_bb, scal_ss, scal_nn, scal_in, scal_ni, List.map_cons, List.map_nil, List.append_nil, List.nil_append, List.cons_append, List.length_cons, List.length_nil, List.length_map, Int.zero_add, List.getElem?_cons_zero, List.getElem?_cons_succ, List.set_cons_zero, List.set_cons_succ, Option.some.injEq, Option.join_some, Option.bind_some, Option.bind_none, V.int.injEq, V.bl.injEq, V.ref.injEq, V.str.injEq, V.ty.injEq, List.cons.injEq, and_true, true_and, exists_and_left, exists_eq_left', exists_eq_left, exists_eq_right, exists_eq_right', exists_eq, exists_eq', exists_const, eq_self, decide_true, decide_false, Option.isSome_none, Option.isSome_some, Bool.false_eq_true, Bool.not_true, Bool.not_false, reduceIte, reduceCtorEq, false_and, and_false, or_false, false_or, start_def, cxOf_K, cxComp_K, and_assoc, tyOf_int, kit_int_int, kit_int_bool, kit_list_list, rep0, rep1, rep2, rep3, rep4, rep5, rep6, rep7, rep8, rep9, rep10, rep11, rep12, rLen, rIsi, rListOf, rTupOf, rSum, rAll, rAny, rSorted, kit_tuple_tuple, Nat.sub_self, Nat.reduceAdd, Nat.reduceSub, Nat.reduceEqDiff])

section
variable {P : Program} {w : World} {K : PySem.W.Frag} {mg : Str → Option Value} {base : Heap}

theorem atI_mod {ns : List Int} (lo : 1 ≤ ns.length) (z : Int) : atI (ns.map V.int) (z % (ns.length : Int)) = some (.int (ns.getD (z % (ns.length : Int)).toNat 0)) := by
  have h0 := Int.emod_nonneg z (show (ns.length : Int) ≠ 0 by omega)
  have h1 := Int.emod_lt_of_pos z (show (0 : Int) < ns.length by omega)
  obtain ⟨j, hj⟩ := Int.eq_ofNat_of_zero_le h0
  rw [hj] at h1 ⊢
  have hlt : j < ns.length := by omega
  refine atI_nat ?_
  rw [List.getElem?_map, getD_some hlt]
  rfl

abbrev s_check_pattern : Stmt := top 13
theorem sc_check_pattern : FnScope ["pattern", "pair"] ["pattern"] (defScope s_check_pattern) := ⟨rfl, rfl, rfl, by decide +kernel, rfl, by decide +kernel, by decide +kernel⟩
def spCheckPattern : Sp := fun vs H Q _ => ∃ (a : Addr) (ns : List Int), vs = [.ref a] ∧ H a = some (.lst (ns.map V.int)) ∧ Pat ns ∧ ∀ H', Same H H' → Q .non H'
theorem ok_check_pattern {f : Addr} {fd : FuncData} (h : Has K mg "check_pattern" s_check_pattern ["pattern"] f fd) (o_clash_of : Ok P w K mg base "clash_of" ["row"] 5 spClashOf) : Ok P w K mg base "check_pattern" ["pattern"] 6 spCheckPattern := by
  refine h.ok sc_check_pattern (fun vs H Q E h => ?_) (fun cdv A outer s H vs Q E hr h => ?_)
  · obtain ⟨a, ns, rfl, _⟩ := h
    rfl
  · obtain ⟨a, ns, rfl, ha, p, q⟩ := h
    refine ⟨_, (pss_cons (ps_set (i := 1) sc_check_pattern.nd rfl (by first | exact Or.inl rfl | exact Or.inr rfl) (pe_callO o_clash_of (hr.mono (by decide)) rfl passX (pa_cons (pv 0) pa_nil)))
      (pss_one (ps_if (pt_cmp (pc_notN (pv 1))) (pss_one ps_never) pss_nil))), ?_⟩
    walk_at "rd"
    refine ⟨a, ns, rfl, ha, p, fun H1 s1 => ?_⟩
    walk_at "rd"
    exact q _ s1

abbrev s_balls_of : Stmt := top 16
theorem sc_balls_of : FnScope ["pattern"] ["pattern"] (defScope s_balls_of) := ⟨rfl, rfl, rfl, by decide +kernel, rfl, by decide +kernel, by decide +kernel⟩
def spBallsOf : Sp := fun vs H Q _ => ∃ (a : Addr) (ns : List Int), vs = [.ref a] ∧ H a = some (.lst (ns.map V.int)) ∧ Pat ns ∧ ∀ H', Same H H' → Q (.int (ns.sum / (ns.length : Int))) H'
theorem ok_balls_of {f : Addr} {fd : FuncData} (h : Has K mg "balls_of" s_balls_of ["pattern"] f fd) (B : Blt mg) (o_check_pattern : Ok P w K mg base "check_pattern" ["pattern"] 6 spCheckPattern) : Ok P w K mg base "balls_of" ["pattern"] 7 spBallsOf := by
  refine h.ok sc_balls_of (fun vs H Q E h => ?_) (fun cdv A outer s H vs Q E hr h => ?_)
  · obtain ⟨a, ns, rfl, _⟩ := h
    rfl
  · obtain ⟨a, ns, rfl, ha, p, q⟩ := h
    refine ⟨_, (pss_cons (ps_expr (pe_callO o_check_pattern (hr.mono (by decide)) rfl passX (pa_cons (pv 0) pa_nil)))
      (pss_one (ps_ret (pe_op op_fdiv (pe_callB (call_sumLK (K := K) rfl rfl) rfl B.sum_ bt_sum (pa_cons (pv 0) pa_nil)) (pe_callB (call_len_seqK (K := K) rfl) rfl B.len_ bt_len (pa_cons (pv 0) pa_nil)))))), ?_⟩
    walk_at "rd"
    refine ⟨a, ns, rfl, ha, p, fun H1 s1 => ?_⟩
    walk_at "rd"
    refine ⟨ns, .of (s1 _ _ ha), _, .inl (.of (s1 _ _ ha)), ?_⟩
    walk_at "rd"
    have := p.lo
    have := p.hi
    exact ⟨by omega, by omega, q _ s1⟩

abbrev s_within_bounds : Stmt := top 18
theorem sc_within_bounds : FnScope ["throws", "throw"] ["throws"] (defScope s_within_bounds) := ⟨rfl, rfl, rfl, by decide +kernel, rfl, by decide +kernel, by decide +kernel⟩
def spWithin (OOB : Addr) : Sp := fun vs H Q E => ∃ (a : Addr) (ns : List Int), vs = [.ref a] ∧ H a = some (.lst (ns.map V.int)) ∧ ns.length ≤ 1000 ∧ ((∀ x ∈ ns, inB x) → Q (.ref a) H) ∧ (¬ (∀ x ∈ ns, inB x) → E (.ref OOB) none H)
theorem ok_within_bounds {f : Addr} {fd : FuncData} {OOB : Addr} (h : Has K mg "within_bounds" s_within_bounds ["throws"] f fd) (o_check_throw : Ok P w K mg base "check_throw" ["value"] 4 (spCheckThrow OOB)) : Ok P w K mg base "within_bounds" ["throws"] 5 (spWithin OOB) := by
  refine h.ok sc_within_bounds (fun vs H Q E h => ?_) (fun cdv A outer s H vs Q E hr h => ?_)
  · obtain ⟨a, ns, rfl, _⟩ := h
    rfl
  · obtain ⟨a, ns, rfl, ha, hl, q1, q2⟩ := h
    refine ⟨_, (pss_cons (ps_for ownX rfl (pi_listK (K := K) rfl (pv 0)) (pg_name (i := 1) sc_within_bounds.nd rfl (by first | exact Or.inl rfl | exact Or.inr rfl)) (pss_one (ps_expr (pe_callO o_check_throw (hr.mono (by decide)) rfl passX (pa_cons (pv 1) pa_nil)))))
      (pss_one (ps_ret (pv 0)))), ?_⟩
    walk_at "rd"
    refine ⟨⟨_, .of ha⟩, for_list (xs := ns.map V.int) (fun i σ H' => H' = H ∧ (∃ o, σ = [some (V.ref a), o]) ∧ ∀ j, j < i → j < ns.length → inB (ns.getD j 0)) ⟨rfl, ⟨_, rfl⟩, fun j hj => absurd hj (Nat.not_lt_zero _)⟩ (fun i σ H' _ p => by rw [p.1]; exact .of ha) (fun i x σ H' hx p => ?_) (fun σ H' p => ?_)⟩
    · obtain ⟨rfl, ⟨o, rfl⟩, hb⟩ := p
      obtain ⟨hlt, rfl⟩ := ints_at hx
      walk_at "rd"
      refine ⟨_, rfl, fun hi => ⟨rfl, fun j hj hj2 => ?_⟩, fun hi => q2 fun z => hi (z _ (TB.getD_mem hlt))⟩
      by_cases e : j = i
      · rw [e]; exact hi
      · exact hb j (by omega) hj2
    · obtain ⟨rfl, ⟨o, rfl⟩, hb⟩ := p
      walk_at "rd"
      refine q1 fun x hx => ?_
      obtain ⟨j, hj, rfl⟩ := PySem.mem_getD hx
      exact hb j (by rw [List.length_map]; exact hj) hj

abbrev s_turned : Stmt := top 19
theorem sc_turned : FnScope ["pattern", "k", "length"] ["pattern", "k"] (defScope s_turned) := ⟨rfl, rfl, rfl, by decide +kernel, rfl, by decide +kernel, by decide +kernel⟩
def spTurned (OOB : Addr) : Sp := fun vs H Q E => ∃ (a : Addr) (ns : List Int) (k : Int), vs = [.ref a, .int k] ∧ H a = some (.lst (ns.map V.int)) ∧ Pat ns ∧ (inB k → ∀ H' D, Same H H' → H D = none → H' D = some (.lst ((rotL ns k).map V.int)) → Q (.ref D) H') ∧ (¬ inB k → ∀ H', Same H H' → E (.ref OOB) none H')
theorem ok_turned {f : Addr} {fd : FuncData} {OOB : Addr} (h : Has K mg "turned" s_turned ["pattern", "k"] f fd) (B : Blt mg) (o_check_pattern : Ok P w K mg base "check_pattern" ["pattern"] 6 spCheckPattern) (o_check_throw : Ok P w K mg base "check_throw" ["value"] 4 (spCheckThrow OOB)) : Ok P w K mg base "turned" ["pattern", "k"] 7 (spTurned OOB) := by
  refine h.ok sc_turned (fun vs H Q E h => ?_) (fun cdv A outer s H vs Q E hr h => ?_)
  · obtain ⟨a, ns, k, rfl, _⟩ := h
    rfl
  · obtain ⟨a, ns, k, rfl, ha, p, q, q2⟩ := h
    have lo := p.lo
    have hi := p.hi
    refine ⟨_, (pss_cons (ps_expr (pe_callO o_check_pattern (hr.mono (by decide)) rfl passX (pa_cons (pv 0) pa_nil)))
      (pss_cons (ps_expr (pe_callO o_check_throw (hr.mono (by decide)) rfl passX (pa_cons (pv 1) pa_nil)))
      (pss_cons (ps_set (i := 2) sc_turned.nd rfl (by first | exact Or.inl rfl | exact Or.inr rfl) (pe_callB (call_len_seqK (K := K) rfl) rfl B.len_ bt_len (pa_cons (pv 0) pa_nil)))
      (pss_one (ps_ret (pe_comp (N' := ["beat", "pattern", "length", "k"]) (π := [none, some 0, some 2, some 1]) (CompScope.of (by kernel_rfl)) rfl (pi_range1 rfl B.range_ (pa_cons (pv 2) pa_nil)) (fun _ _ _ _ _ => (pg_name (i := 0) (show List.Nodup (["beat", "pattern", "length", "k"] : List Str) by decide +kernel) rfl (by first | exact Or.inl rfl | exact Or.inr rfl))) (fun _ _ _ _ _ => pifs_nil) (fun _ _ _ _ _ => (pe_ix (ix_listK (K := K) rfl) (pv 1) (pe_op op_mod (pe_op op_add (pv 3) (pv 0)) (pv 2)) (fun _ _ => rfl))))))))), ?_⟩
    walk_at "rd"
    refine ⟨a, ns, rfl, ha, p, fun H1 s1 => ⟨k, rfl, fun hk => ⟨_, .inl (.of (s1 _ _ ha)), ?_⟩, fun z => q2 z _ s1⟩⟩
    walk_at "rd"
    refine ⟨by omega, by omega, ?_⟩
    rw [Int.toNat_natCast]
    refine comp_range (by omega) (fun i ys σ H' => i ≤ ns.length ∧ (∃ o, σ = [o, some (V.ref a), some (V.int ns.length), some (V.int k)]) ∧ Same H H' ∧ ys = ((List.range i).map fun b : Nat => ns.getD ((k + b) % (ns.length : Int)).toNat 0).map V.int) ⟨Nat.zero_le _, ⟨_, rfl⟩, s1, rfl⟩ (fun i ys σ H' p => ?_) (fun i ys σ H' hlt pv => ?_) (fun ys σ H' D pv hD => ?_)
    · rw [p.2.2.2]; simp
    · obtain ⟨hi', ⟨o, rfl⟩, hs, rfl⟩ := pv
      walk_at "rd"
      refine ⟨by omega, _, .of (hs _ _ ha), _, atI_mod lo _, hlt, hs, ?_⟩
      rw [List.range_succ, List.map_append, List.map_append]
      simp
    · obtain ⟨_, _, hs, rfl⟩ := pv
      exact q hk _ D (hs.trans (same_upd hD)) (hs.free hD) (by rw [upd_same]; rfl)

abbrev s_lifted : Stmt := top 20
theorem sc_lifted : FnScope ["pattern", "k"] ["pattern", "k"] (defScope s_lifted) := ⟨rfl, rfl, rfl, by decide +kernel, rfl, by decide +kernel, by decide +kernel⟩
def spLifted (OOB : Addr) : Sp := fun vs H Q E => ∃ (a : Addr) (ns : List Int) (k : Int), vs = [.ref a, .int k] ∧ H a = some (.lst (ns.map V.int)) ∧ Pat ns ∧
  (inB k ∧ (∀ x ∈ ns, inB (x + k)) → ∀ H' D, Same H H' → H D = none → H' D = some (.lst ((ns.map (· + k)).map V.int)) → Q (.ref D) H') ∧ (¬ (inB k ∧ ∀ x ∈ ns, inB (x + k)) → ∀ H', Same H H' → E (.ref OOB) none H')
theorem ok_lifted {f : Addr} {fd : FuncData} {OOB : Addr} (h : Has K mg "lifted" s_lifted ["pattern", "k"] f fd) (o_check_pattern : Ok P w K mg base "check_pattern" ["pattern"] 6 spCheckPattern) (o_check_throw : Ok P w K mg base "check_throw" ["value"] 4 (spCheckThrow OOB)) (o_within_bounds : Ok P w K mg base "within_bounds" ["throws"] 5 (spWithin OOB)) : Ok P w K mg base "lifted" ["pattern", "k"] 7 (spLifted OOB) := by
  refine h.ok sc_lifted (fun vs H Q E h => ?_) (fun cdv A outer s H vs Q E hr h => ?_)
  · obtain ⟨a, ns, k, rfl, _⟩ := h
    rfl
  · obtain ⟨a, ns, k, rfl, ha, p, q1, q2⟩ := h
    have lo := p.lo
    have hi := p.hi
    refine ⟨_, (pss_cons (ps_expr (pe_callO o_check_pattern (hr.mono (by decide)) rfl passX (pa_cons (pv 0) pa_nil)))
      (pss_cons (ps_expr (pe_callO o_check_throw (hr.mono (by decide)) rfl passX (pa_cons (pv 1) pa_nil)))
      (pss_one (ps_ret (pe_callO o_within_bounds (hr.mono (by decide)) rfl passX (pa_cons (pe_comp (N' := ["throw", "k"]) (π := [none, some 1]) (CompScope.of (by kernel_rfl)) rfl (pi_listK (K := K) rfl (pv 0)) (fun _ _ _ _ _ => (pg_name (i := 0) (show List.Nodup (["throw", "k"] : List Str) by decide +kernel) rfl (by first | exact Or.inl rfl | exact Or.inr rfl))) (fun _ _ _ _ _ => pifs_nil) (fun _ _ _ _ _ => (pe_op op_add (pv 0) (pv 1)))) pa_nil)))))), ?_⟩
    walk_at "rd"
    refine ⟨a, ns, rfl, ha, p, fun H1 s1 => ⟨k, rfl, fun hk => ?_, fun z => q2 (fun c => z c.1) _ s1⟩⟩
    walk_at "rd"
    refine ⟨⟨_, .of (s1 _ _ ha)⟩, comp_list (xs := ns.map V.int) (by rw [List.length_map]; omega) (fun i ys σ H' => i ≤ ns.length ∧ (∃ o, σ = [o, some (V.int k)]) ∧ Same H H' ∧ ys = ((ns.take i).map (· + k)).map V.int) ⟨Nat.zero_le _, ⟨_, rfl⟩, s1, rfl⟩ (fun i ys σ H' p => ?_) (fun i ys σ H' _ p => .of (p.2.2.1 _ _ ha)) (fun i ys σ H' x hx pv => ?_) (fun ys σ H' D pv hD => ?_)⟩
    · rw [p.2.2.2]; simp; omega
    · obtain ⟨hi', ⟨o, rfl⟩, hs, rfl⟩ := pv
      obtain ⟨hlt, rfl⟩ := ints_at hx
      walk_at "rd"
      refine ⟨hlt, hs, ?_⟩
      rw [List.take_succ, getD_some hlt, List.map_append, List.map_append]
      rfl
    · obtain ⟨_, _, hs, rfl⟩ := pv
      have e : (ns.take (ns.map V.int).length).map (· + k) = ns.map (· + k) := by rw [List.length_map, List.take_of_length_le (Nat.le_refl _)]
      rw [e]
      have hs2 : Same H (upd H' D (.lst ((ns.map (· + k)).map V.int))) := hs.trans (same_upd hD)
      refine ⟨D, ns.map (· + k), rfl, upd_same, by rw [List.length_map]; omega, fun z => ?_, fun z => ?_⟩
      · exact q1 ⟨hk, fun x hx => z _ (List.mem_map_of_mem hx)⟩ _ D hs2 (hs.free hD) upd_same
      · exact q2 (fun y => z fun x hx => by obtain ⟨u, hu, rfl⟩ := List.mem_map.mp hx; exact y.2 u hu) _ hs2

theorem neg_land {P : List Int} (lo : 1 ≤ P.length) (z : Int) : (-z) % (P.length : Int) = ((opp P.length z : Nat) : Int) := (opp_cast lo z).symm

abbrev s_mirrored : Stmt := top 21
theorem sc_mirrored : FnScope ["pattern", "throws", "throw", "landing"] ["pattern"] (defScope s_mirrored) := ⟨rfl, rfl, rfl, by decide +kernel, rfl, by decide +kernel, by decide +kernel⟩
def spMirrored : Sp := fun vs H Q _ => ∃ (a : Addr) (ns : List Int), vs = [.ref a] ∧ H a = some (.lst (ns.map V.int)) ∧ Pat ns ∧ ∀ H' D M, Same H H' → H D = none → Mir ns M → H' D = some (.lst (M.map V.int)) → Q (.ref D) H'
theorem ok_mirrored {f : Addr} {fd : FuncData} (h : Has K mg "mirrored" s_mirrored ["pattern"] f fd) (B : Blt mg) (o_check_pattern : Ok P w K mg base "check_pattern" ["pattern"] 6 spCheckPattern) (o_landings : Ok P w K mg base "landings" ["row"] 2 spLandings) : Ok P w K mg base "mirrored" ["pattern"] 7 spMirrored := by
  refine h.ok sc_mirrored (fun vs H Q E h => ?_) (fun cdv A outer s H vs Q E hr h => ?_)
  · obtain ⟨a, ns, rfl, _⟩ := h
    rfl
  · obtain ⟨a, ns, rfl, ha, p, q⟩ := h
    have lo := p.lo
    have hi := p.hi
    refine ⟨_, (pss_cons (ps_expr (pe_callO o_check_pattern (hr.mono (by decide)) rfl passX (pa_cons (pv 0) pa_nil)))
      (pss_cons (ps_set (i := 1) sc_mirrored.nd rfl (by first | exact Or.inl rfl | exact Or.inr rfl) (pe_callTy (call_list_ofK (K := K) rfl) rfl B.list_ bt_list (pa_cons (pv 0) pa_nil)))
      (pss_cons (ps_for ownX rfl (pi_zipK (K := K) rfl rfl B.zip_ (pa_cons (pv 0) (pa_cons (pe_callO o_landings (hr.mono (by decide)) rfl passX (pa_cons (pv 0) pa_nil)) pa_nil))) (pg_tupK (K := K) (n := 2) rfl rfl (pgs_cons (pg_name (i := 2) sc_mirrored.nd rfl (by first | exact Or.inl rfl | exact Or.inr rfl)) (pgs_cons (pg_name (i := 3) sc_mirrored.nd rfl (by first | exact Or.inl rfl | exact Or.inr rfl)) pgs_nil))) (pss_one (ps_asg (pv 2) (pg_sub (pv 1) (pe_op op_mod (pe_un un_neg (pv 3)) (pe_callB (call_len_seqK (K := K) rfl) rfl B.len_ bt_len (pa_cons (pv 0) pa_nil))) set_list))))
      (pss_one (ps_ret (pv 1)))))), ?_⟩
    walk_at "rd"
    refine ⟨a, ns, rfl, ha, p, fun H1 s1 => ⟨_, .inl (.of (s1 _ _ ha)), fun D hD => ?_⟩⟩
    have s2 : Same H1 (upd H1 D (.lst (ns.map V.int))) := same_upd hD
    refine ⟨a, ns, rfl, s2 _ _ (s1 _ _ ha), lo, hi, fun H3 L s3 hL hL3 => ?_⟩
    walk_at "rd"
    have hD3 : H3 D = some (.lst (ns.map V.int)) := s3 _ _ upd_same
    have ha3 : H3 a = some (.lst (ns.map V.int)) := s3 _ _ (s2 _ _ (s1 _ _ ha))
    have haD : a ≠ D := ne_of_none (s1 _ _ ha) hD
    have hLD : L ≠ D := fun e => by rw [e, upd_same] at hL; cases hL
    refine ⟨⟨_, .of ha3⟩, ⟨_, .of hL3⟩, for_zip (xs := ns.map V.int) (ys := (lands ns).map V.int) (by rw [List.length_map, List.length_map, lands_len]) (fun i σ H' => i ≤ ns.length ∧ (∃ o1 o2, σ = [some (V.ref a), some (V.ref D), o1, o2]) ∧ (∀ b o, H3 b = some o → b ≠ D → H' b = some o) ∧
      ∃ M, H' D = some (.lst (M.map V.int)) ∧ M.length = ns.length ∧ (∀ x ∈ M, x ∈ ns) ∧ ∀ j, j < i → M.getD (slot ns j) 0 = ns.getD j 0) ⟨Nat.zero_le _, ⟨_, _, rfl⟩, fun b o e _ => e, ns, hD3, rfl, fun x hx => hx, fun j hj => absurd hj (Nat.not_lt_zero _)⟩
      (fun i σ H' _ pv => ⟨.of (pv.2.2.1 _ _ ha3 haD), .of (pv.2.2.1 _ _ hL3 hLD)⟩) (fun i x y σ H' T hx hy pv hT => ?_) (fun σ H' pv => ?_)⟩
    · obtain ⟨_, ⟨o1, o2, rfl⟩, kp, M, hM, lM, bM, atM⟩ := pv
      obtain ⟨hlt, rfl⟩ := ints_at hx
      obtain ⟨_, rfl⟩ := lands_at hy
      have hDT : D ≠ T := ne_of_none hM hT
      have haT : a ≠ T := ne_of_none (kp _ _ ha3 haD) hT
      walk_at "rd"
      refine ⟨_, .of upd_same, rfl, ?_⟩
      walk_at "rd"
      refine ⟨_, .inl (.of (show (upd H' T (.tup [.int (ns.getD i 0), .int (land ns i)])) a = some (.lst (ns.map V.int)) by rw [upd_ne haT]; exact kp _ _ ha3 haD)), ?_⟩
      walk_at "rd"
      rw [neg_land lo]
      refine ⟨by omega, _, (show (upd H' T (.tup [.int (ns.getD i 0), .int (land ns i)])) D = some (.lst (M.map V.int)) by rw [upd_ne hDT]; exact hM), _, ixN_nat (by rw [List.length_map, lM]; exact opp_lt lo _), hlt, fun b o e hb => ?_, M.set (slot ns i) (ns.getD i 0), ?_, by simp [lM], fun x hx => ?_, fun j hj => ?_⟩
      · rw [upd_ne hb, upd_ne (ne_of_none (kp _ _ e hb) hT)]
        exact kp _ _ e hb
      · rw [upd_same, map_set_int]
        rfl
      · rcases List.mem_or_eq_of_mem_set hx with z | z
        · exact bM x z
        · rw [z]; exact TB.getD_mem hlt
      · rw [getD_set, lM]
        by_cases e : j = i
        · subst e
          rw [if_pos ⟨rfl, opp_lt lo _⟩]
        · rw [if_neg fun z => e (p.slot_inj (by omega) hlt z.1)]
          exact atM j (by omega)
    · obtain ⟨_, ⟨o1, o2, rfl⟩, kp, M, hM, lM, bM, atM⟩ := pv
      rw [List.length_map] at atM
      walk_at "rd"
      refine q H' D M (fun b o e => ?_) (s1.free hD) ⟨lM, bM, atM⟩ hM
      have hbD : b ≠ D := ne_of_none (s1 _ _ e) hD
      exact kp _ _ (s3 _ _ (s2 _ _ (s1 _ _ e))) hbD

abbrev s_gaps : Stmt := top 22
theorem sc_gaps : FnScope ["pattern", "h", "length"] ["pattern", "h"] (defScope s_gaps) := ⟨rfl, rfl, rfl, by decide +kernel, rfl, by decide +kernel, by decide +kernel⟩
def spGaps (OOB : Addr) : Sp := fun vs H Q E => ∃ (a : Addr) (ns : List Int) (k : Int), vs = [.ref a, .int k] ∧ H a = some (.lst (ns.map V.int)) ∧ Pat ns ∧
  (inB k ∧ (∀ x ∈ gapL ns k, inB x) → ∀ H' D, Same H H' → H D = none → H' D = some (.lst ((gapL ns k).map V.int)) → Q (.ref D) H') ∧ (¬ (inB k ∧ ∀ x ∈ gapL ns k, inB x) → ∀ H', Same H H' → E (.ref OOB) none H')
theorem ok_gaps {f : Addr} {fd : FuncData} {OOB : Addr} (h : Has K mg "gaps" s_gaps ["pattern", "h"] f fd) (B : Blt mg) (o_check_pattern : Ok P w K mg base "check_pattern" ["pattern"] 6 spCheckPattern) (o_check_throw : Ok P w K mg base "check_throw" ["value"] 4 (spCheckThrow OOB)) (o_within_bounds : Ok P w K mg base "within_bounds" ["throws"] 5 (spWithin OOB)) : Ok P w K mg base "gaps" ["pattern", "h"] 7 (spGaps OOB) := by
  refine h.ok sc_gaps (fun vs H Q E h => ?_) (fun cdv A outer s H vs Q E hr h => ?_)
  · obtain ⟨a, ns, k, rfl, _⟩ := h
    rfl
  · obtain ⟨a, ns, k, rfl, ha, p, q1, q2⟩ := h
    have lo := p.lo
    have hi := p.hi
    refine ⟨_, (pss_cons (ps_expr (pe_callO o_check_pattern (hr.mono (by decide)) rfl passX (pa_cons (pv 0) pa_nil)))
      (pss_cons (ps_expr (pe_callO o_check_throw (hr.mono (by decide)) rfl passX (pa_cons (pv 1) pa_nil)))
      (pss_cons (ps_set (i := 2) sc_gaps.nd rfl (by first | exact Or.inl rfl | exact Or.inr rfl) (pe_callB (call_len_seqK (K := K) rfl) rfl B.len_ bt_len (pa_cons (pv 0) pa_nil)))
      (pss_one (ps_ret (pe_callO o_within_bounds (hr.mono (by decide)) rfl passX (pa_cons (pe_comp (N' := ["beat", "h", "pattern", "length"]) (π := [none, some 1, some 0, some 2]) (CompScope.of (by kernel_rfl)) rfl (pi_range1 rfl B.range_ (pa_cons (pv 2) pa_nil)) (fun _ _ _ _ _ => (pg_name (i := 0) (show List.Nodup (["beat", "h", "pattern", "length"] : List Str) by decide +kernel) rfl (by first | exact Or.inl rfl | exact Or.inr rfl))) (fun _ _ _ _ _ => pifs_nil) (fun _ _ _ _ _ => (pe_op op_sub (pv 1) (pe_ix (ix_listK (K := K) rfl) (pv 2) (pe_op op_mod (pe_un un_neg (pv 0)) (pv 3)) (fun _ _ => rfl))))) pa_nil))))))), ?_⟩
    walk_at "rd"
    refine ⟨a, ns, rfl, ha, p, fun H1 s1 => ⟨k, rfl, fun hk => ⟨_, .inl (.of (s1 _ _ ha)), ?_⟩, fun z => q2 (fun c => z c.1) _ s1⟩⟩
    walk_at "rd"
    refine ⟨by omega, by omega, ?_⟩
    rw [Int.toNat_natCast]
    refine comp_range (by omega) (fun i ys σ H' => i ≤ ns.length ∧ (∃ o, σ = [o, some (V.int k), some (V.ref a), some (V.int ns.length)]) ∧ H' = H1 ∧ ys = ((List.range i).map fun b : Nat => k - ns.getD (opp ns.length b) 0).map V.int) ⟨Nat.zero_le _, ⟨_, rfl⟩, rfl, rfl⟩ (fun i ys σ H' p => ?_) (fun i ys σ H' hlt pv => ?_) (fun ys σ H' D pv hD => ?_)
    · rw [p.2.2.2]; simp
    · obtain ⟨hi', ⟨o, rfl⟩, rfl, rfl⟩ := pv
      walk_at "rd"
      rw [neg_land lo]
      refine ⟨by omega, _, .of (s1 _ _ ha), _, at_ints (opp_lt lo _), ?_⟩
      walk_at "rd"
      refine ⟨hlt, ?_⟩
      rw [List.range_succ, List.map_append, List.map_append]
      rfl
    · obtain ⟨_, _, rfl, rfl⟩ := pv
      have hs2 : Same H (upd H' D (.lst ((gapL ns k).map V.int))) := s1.trans (same_upd hD)
      refine ⟨D, gapL ns k, rfl, upd_same, by rw [gap_len]; omega, fun z => ?_, fun z => ?_⟩
      · exact q1 ⟨hk, z⟩ _ D hs2 (s1.free hD) upd_same
      · exact q2 (fun c => z c.2) _ hs2

abbrev s_unchanged : Stmt := top 29
theorem sc_unchanged : FnScope ["pattern"] ["pattern"] (defScope s_unchanged) := ⟨rfl, rfl, rfl, by decide +kernel, rfl, by decide +kernel, by decide +kernel⟩
def spUnchanged : Sp := fun vs H Q _ => ∃ (a : Addr) (ns : List Int), vs = [.ref a] ∧ H a = some (.lst (ns.map V.int)) ∧ Pat ns ∧ ∀ H' D, Same H H' → H D = none → H' D = some (.lst (ns.map V.int)) → Q (.ref D) H'
theorem ok_unchanged {f : Addr} {fd : FuncData} (h : Has K mg "unchanged" s_unchanged ["pattern"] f fd) (B : Blt mg) (o_check_pattern : Ok P w K mg base "check_pattern" ["pattern"] 6 spCheckPattern) : Ok P w K mg base "unchanged" ["pattern"] 7 spUnchanged := by
  refine h.ok sc_unchanged (fun vs H Q E h => ?_) (fun cdv A outer s H vs Q E hr h => ?_)
  · obtain ⟨a, ns, rfl, _⟩ := h
    rfl
  · obtain ⟨a, ns, rfl, ha, p, q⟩ := h
    refine ⟨_, (pss_cons (ps_expr (pe_callO o_check_pattern (hr.mono (by decide)) rfl passX (pa_cons (pv 0) pa_nil)))
      (pss_one (ps_ret (pe_callTy (call_list_ofK (K := K) rfl) rfl B.list_ bt_list (pa_cons (pv 0) pa_nil))))), ?_⟩
    walk_at "rd"
    refine ⟨a, ns, rfl, ha, p, fun H1 s1 => ⟨_, .inl (.of (s1 _ _ ha)), fun D hD => ?_⟩⟩
    exact q _ D (s1.trans (same_upd hD)) (s1.free hD) upd_same

abbrev s_opposite : Stmt := top 30
theorem sc_opposite : FnScope ["number"] ["number"] (defScope s_opposite) := ⟨rfl, rfl, rfl, by decide +kernel, rfl, by decide +kernel, by decide +kernel⟩
def spOpposite : Sp := fun vs H Q _ => ∃ k : Int, vs = [.int k] ∧ Q (.int (-k)) H
theorem ok_opposite {f : Addr} {fd : FuncData} (h : Has K mg "opposite" s_opposite ["number"] f fd) (o_is_whole : Ok P w K mg base "is_whole" ["value"] 1 spIsInt) : Ok P w K mg base "opposite" ["number"] 2 spOpposite := by
  refine h.ok sc_opposite (fun vs H Q E h => ?_) (fun cdv A outer s H vs Q E hr h => ?_)
  · obtain ⟨k, rfl, _⟩ := h
    rfl
  · obtain ⟨k, rfl, q⟩ := h
    refine ⟨_, (pss_one (ps_ret (pe_ifExp (pt_val (pe_callO o_is_whole (hr.mono (by decide)) rfl passX (pa_cons (pv 0) pa_nil))) (pe_un un_neg (pv 0)) (pv 0)))), ?_⟩
    walk_at "rd"
    refine ⟨_, rfl, ?_⟩
    walk_at "rd"
    exact q
end
end Tb

namespace Tb
open PySem L2 TB
local macro_rules | `(tactic| walk_at "rd") => `(tactic| try simp only [rExtendT, rCount, iRevT, tSeq, tNext, tIfS, tRet, tRetN, tDrop, tAsg, gName, gNil, gCons, gSub, gTup, tVar, tC, tOp, tUn, rI, rI0, rU, rEq, rNe, tTest, tB, tChain, tChain3, rSortedB, rSortedP, rSortedD, rListD, rDictP, iDict, tThaw, rDClear, tDisp, tPairs, kit_dict_dict, rIndex, rIsX, rIsXT, rIsXd, rIsXV, rIsXTd, rIsO, rIxS2, rSlS, rFind, rIndexT, rLenT, rStrT, rIntT, rAddT, rMulT, rInT, iTxt, tx_str, tTxts, kit_str_str, rIn, tListRev, tAug, ipI, tAnd, tOr, tNot, tAndV, tOrV, tNotV, tIf, tIsN, tNotN, tCB, tNil, tCons, tTup, tLst, tTupG, tLstG, tCall, tRaise, tTryC, tXF, sXF, tRaiseI, tTryA, tTryE, thC, thA, thNil, Ends.less, tFor_eq, tComp_eq, iList, iTup, iRng1, iRng2, iEnum, iZip, tNoIf, rIxL, rIxT, rSetL, tBM, tBM0, rAppend, tFld, sFld, tMake, tMakeN, tMethD, tTryM, tNever, rExtend, rGeL, rInS, rClear, tDNewK, tDIn, tDNotIn, tDGet, sDPut, rEqL, rEqS, rBest, rRep, rCat, tSl, tPart, tNoPart, rSlL, capt, CDiv, scal_ii, scal_bb, scal_ss, scal_nn, scal_in, scal_ni, List.map_cons, List.map_nil, List.append_nil, List.nil_append, List.cons_append, List.length_cons, List.length_nil, List.length_map, Int.zero_add, List.getElem?_cons_zero, List.getElem?_cons_succ, List.set_cons_zero, List.set_cons_succ, Option.some.injEq, Option.join_some, Option.bind_some, Option.bind_none, V.int.injEq, V.bl.injEq, V.ref.injEq, V.str.injEq, V.ty.injEq, List.cons.injEq, and_true, true_and, exists_and_left, exists_eq_left', exists_eq_left, exists_eq_right, exists_eq_right', exists_eq, exists_eq', exists_const, eq_self, decide_true, decide_false, Option.isSome_none, Option.isSome_some, Bool.false_eq_true, Bool.not_true, Bool.not_false, reduceIte, reduceCtorEq, false_and, and_false, or_false, false_or, start_def, cxOf_K, cxComp_K, and_assoc, tyOf_int, kit_int_int, kit_int_bool, kit_list_list, rep0, rep1, rep2, rep3, rep4, rep5, rep6, rep7, rep8, rep9, rep10, rep11, rep12, rLen, rIsi, rListOf, rTupOf, rSum, rAll, rAny, rSorted, kit_tuple_tuple, Nat.sub_self, Nat.reduceAdd, Nat.reduceSub, Nat.reduceEqDiff])

section
variable {P : Program} {w : World} {K : PySem.W.Frag} {mg : Str → Option Value} {base : Heap}

abbrev s_check_beat : Stmt := top 24
theorem sc_check_beat : FnScope ["value", "length"] ["value", "length"] (defScope s_check_beat) := ⟨rfl, rfl, rfl, by decide +kernel, rfl, by decide +kernel, by decide +kernel⟩
def spCheckBeat (OOB : Addr) : Sp := fun vs H Q E => ∃ v n : Int, vs = [.int v, .int n] ∧ (0 ≤ v ∧ v < n → Q .non H) ∧ (¬ (0 ≤ v ∧ v < n) → E (.ref OOB) none H)
theorem ok_check_beat {f : Addr} {fd : FuncData} {OOB : Addr} (h : Has K mg "check_beat" s_check_beat ["value", "length"] f fd) (x_OutOfBounds : ExcCls K OOB) (m_OutOfBounds : mg "OutOfBounds" = some (.ref OOB)) (o_is_between : Ok P w K mg base "is_between" ["value", "least", "most"] 2 spIsWhole) : Ok P w K mg base "check_beat" ["value", "length"] 3 (spCheckBeat OOB) := by
  refine h.ok sc_check_beat (fun vs H Q E h => ?_) (fun cdv A outer s H vs Q E hr h => ?_)
  · obtain ⟨v, n, rfl, _⟩ := h
    rfl
  · obtain ⟨v, n, rfl, q1, q2⟩ := h
    refine ⟨_, (pss_one (ps_if (pt_not (pt_val (pe_callO o_is_between (hr.mono (by decide)) rfl passX (pa_cons (pv 0) (pa_cons pe_int (pa_cons (pe_op op_sub (pv 1) pe_int) pa_nil)))))) (pss_one (ps_raise isDef_cxOf x_OutOfBounds rfl landX rfl m_OutOfBounds (pa_cons pe_str pa_nil))) pss_nil)), ?_⟩
    walk_at "rd"
    refine ⟨v, 0, n - 1, rfl, _, rfl, ?_⟩
    by_cases hv : 0 ≤ v ∧ v < n
    · rw [show (decide (0 ≤ v) && decide (v ≤ n - 1)) = true by simp; omega]
      exact q1 hv
    · rw [show (decide (0 ≤ v) && decide (v ≤ n - 1)) = false by simp; omega]
      exact ⟨by decide, q2 hv⟩

theorem place_cast (j n : Nat) : (j : Int) % (n : Int) = ((j % n : Nat) : Int) := by push_cast; rfl

abbrev s_crosswise : Stmt := top 25
theorem sc_crosswise : FnScope ["throws", "one", "other", "place", "answer"] ["throws", "one", "other"] (defScope s_crosswise) := ⟨rfl, rfl, rfl, by decide +kernel, rfl, by decide +kernel, by decide +kernel⟩
def spCrosswise : Sp := fun vs H Q _ => ∃ (a : Addr) (ns : List Int) (i j : Nat), vs = [.ref a, .int i, .int j] ∧ H a = some (.lst (ns.map V.int)) ∧ i < ns.length ∧ ns.length ≤ 60 ∧ ∀ H' D, Same H H' → H D = none → H' D = some (.lst ((swapL ns i j).map V.int)) → Q (.ref D) H'
theorem ok_crosswise {f : Addr} {fd : FuncData} (h : Has K mg "crosswise" s_crosswise ["throws", "one", "other"] f fd) (B : Blt mg) : Ok P w K mg base "crosswise" ["throws", "one", "other"] 2 spCrosswise := by
  refine h.ok sc_crosswise (fun vs H Q E h => ?_) (fun cdv A outer s H vs Q E hr h => ?_)
  · obtain ⟨a, ns, i, j, rfl, _⟩ := h
    rfl
  · obtain ⟨a, ns, i, j, rfl, ha, hi, hl, q⟩ := h
    have hc : j % ns.length < ns.length := Nat.mod_lt _ (by omega)
    refine ⟨_, (pss_cons (ps_set (i := 3) sc_crosswise.nd rfl (by first | exact Or.inl rfl | exact Or.inr rfl) (pe_op op_mod (pv 2) (pe_callB (call_len_seqK (K := K) rfl) rfl B.len_ bt_len (pa_cons (pv 0) pa_nil))))
      (pss_cons (ps_set (i := 4) sc_crosswise.nd rfl (by first | exact Or.inl rfl | exact Or.inr rfl) (pe_callTy (call_list_ofK (K := K) rfl) rfl B.list_ bt_list (pa_cons (pv 0) pa_nil)))
      (pss_cons (ps_asg (pe_op op_sub (pe_op op_add (pv 2) (pe_ix (ix_listK (K := K) rfl) (pv 0) (pv 3) (fun _ _ => rfl))) (pv 1)) (pg_sub (pv 4) (pv 1) set_list))
      (pss_cons (ps_asg (pe_op op_sub (pe_op op_add (pv 1) (pe_ix (ix_listK (K := K) rfl) (pv 0) (pv 1) (fun _ _ => rfl))) (pv 2)) (pg_sub (pv 4) (pv 3) set_list))
      (pss_one (ps_ret (pv 4))))))), ?_⟩
    walk_at "rd"
    refine ⟨_, .inl (.of ha), ?_⟩
    walk_at "rd"
    rw [place_cast]
    refine ⟨by omega, _, .inl (.of ha), fun D hD => ?_⟩
    have hs : Same H (upd H D (.lst (ns.map V.int))) := same_upd hD
    have haD : a ≠ D := ne_of_none ha hD
    walk_at "rd"
    refine ⟨_, .of (hs _ _ ha), _, at_ints hc, ?_⟩
    walk_at "rd"
    refine ⟨_, upd_same, _, ixN_nat (by rw [List.length_map]; exact hi), ?_⟩
    walk_at "rd"
    refine ⟨_, .of (show _ = some (HO.lst (ns.map V.int)) by rw [upd_ne haD, upd_ne haD]; exact ha), _, at_ints hi, ?_⟩
    walk_at "rd"
    refine ⟨_, upd_same, _, ixN_nat (by rw [List.length_set, List.length_map]; exact hc), ?_⟩
    walk_at "rd"
    rw [map_set_int, map_set_int]
    refine q _ D (fun b o e => ?_) hD upd_same
    have hb : b ≠ D := ne_of_none e hD
    rw [upd_ne hb, upd_ne hb, upd_ne hb]
    exact e

abbrev s_swapped : Stmt := top 26
theorem sc_swapped : FnScope ["pattern", "i", "j"] ["pattern", "i", "j"] (defScope s_swapped) := ⟨rfl, rfl, rfl, by decide +kernel, rfl, by decide +kernel, by decide +kernel⟩
def CSwap (ns : List Int) (i j : Int) : Prop := 0 ≤ i ∧ i < j ∧ j < ns.length ∧ ∀ x ∈ swapL ns i.toNat j.toNat, inB x
def spSwapped (OOB : Addr) : Sp := fun vs H Q E => ∃ (a : Addr) (ns : List Int) (i j : Int), vs = [.ref a, .int i, .int j] ∧ H a = some (.lst (ns.map V.int)) ∧ Pat ns ∧
  (CSwap ns i j → ∀ H' D, Same H H' → H D = none → H' D = some (.lst ((swapL ns i.toNat j.toNat).map V.int)) → Q (.ref D) H') ∧ (¬ CSwap ns i j → ∀ H', Same H H' → E (.ref OOB) none H')
theorem ok_swapped {f : Addr} {fd : FuncData} {OOB : Addr} (h : Has K mg "swapped" s_swapped ["pattern", "i", "j"] f fd) (B : Blt mg) (x_OutOfBounds : ExcCls K OOB) (m_OutOfBounds : mg "OutOfBounds" = some (.ref OOB)) (o_check_pattern : Ok P w K mg base "check_pattern" ["pattern"] 6 spCheckPattern) (o_check_beat : Ok P w K mg base "check_beat" ["value", "length"] 3 (spCheckBeat OOB)) (o_crosswise : Ok P w K mg base "crosswise" ["throws", "one", "other"] 2 spCrosswise) (o_within_bounds : Ok P w K mg base "within_bounds" ["throws"] 5 (spWithin OOB)) : Ok P w K mg base "swapped" ["pattern", "i", "j"] 7 (spSwapped OOB) := by
  refine h.ok sc_swapped (fun vs H Q E h => ?_) (fun cdv A outer s H vs Q E hr h => ?_)
  · obtain ⟨a, ns, i, j, rfl, _⟩ := h
    rfl
  · obtain ⟨a, ns, i, j, rfl, ha, p, q1, q2⟩ := h
    have lo := p.lo
    have hi := p.hi
    refine ⟨_, (pss_cons (ps_expr (pe_callO o_check_pattern (hr.mono (by decide)) rfl passX (pa_cons (pv 0) pa_nil)))
      (pss_cons (ps_expr (pe_callO o_check_beat (hr.mono (by decide)) rfl passX (pa_cons (pv 1) (pa_cons (pe_callB (call_len_seqK (K := K) rfl) rfl B.len_ bt_len (pa_cons (pv 0) pa_nil)) pa_nil))))
      (pss_cons (ps_expr (pe_callO o_check_beat (hr.mono (by decide)) rfl passX (pa_cons (pv 2) (pa_cons (pe_callB (call_len_seqK (K := K) rfl) rfl B.len_ bt_len (pa_cons (pv 0) pa_nil)) pa_nil))))
      (pss_cons (ps_if (pt_cmpR op_ge (pv 1) (pv 2) (nomark _)) (pss_one (ps_raise isDef_cxOf x_OutOfBounds rfl landX rfl m_OutOfBounds (pa_cons pe_str pa_nil))) pss_nil)
      (pss_one (ps_ret (pe_callO o_within_bounds (hr.mono (by decide)) rfl passX (pa_cons (pe_callO o_crosswise (hr.mono (by decide)) rfl passX (pa_cons (pv 0) (pa_cons (pv 1) (pa_cons (pv 2) pa_nil)))) pa_nil)))))))), ?_⟩
    walk_at "rd"
    refine ⟨a, ns, rfl, ha, p, fun H1 s1 => ?_⟩
    have ha1 := s1 _ _ ha
    walk_at "rd"
    refine ⟨_, .inl (.of ha1), ?_⟩
    walk_at "rd"
    refine ⟨i, ns.length, rfl, fun hi1 => ?_, fun z => q2 (fun c => z ⟨c.1, by have := c.2.1; have := c.2.2.1; omega⟩) _ s1⟩
    refine ⟨_, .inl (.of ha1), ?_⟩
    walk_at "rd"
    refine ⟨j, ns.length, rfl, fun hj1 => ?_, fun z => q2 (fun c => z ⟨by have := c.1; have := c.2.1; omega, c.2.2.1⟩) _ s1⟩
    walk_at "rd"
    by_cases hij : j ≤ i
    · rw [decide_eq_true hij]
      walk_at "rd"
      exact ⟨by decide, q2 (fun c => by have := c.2.1; omega) _ s1⟩
    rw [decide_eq_false hij]
    walk_at "rd"
    refine ⟨a, ns, i.toNat, j.toNat, by rw [Int.toNat_of_nonneg hi1.1, Int.toNat_of_nonneg hj1.1], ha1, by omega, hi, fun H2 D s2 hD h2 => ?_⟩
    walk_at "rd"
    refine ⟨D, _, rfl, h2, by rw [swap_len]; omega, fun z => q1 ⟨hi1.1, by omega, hj1.2, z⟩ _ D (s1.trans s2) (s1.free hD) h2, fun z => q2 (fun c => z c.2.2.2) _ (s1.trans s2)⟩

abbrev s_neighbours : Stmt := top 27
theorem sc_neighbours : FnScope ["pattern", "k"] ["pattern", "k"] (defScope s_neighbours) := ⟨rfl, rfl, rfl, by decide +kernel, rfl, by decide +kernel, by decide +kernel⟩
def CNext (ns : List Int) (k : Int) : Prop := 0 ≤ k ∧ k < ns.length ∧ 2 ≤ ns.length ∧ ∀ x ∈ swapL ns k.toNat (k.toNat + 1), inB x
def spNeighbours (OOB : Addr) : Sp := fun vs H Q E => ∃ (a : Addr) (ns : List Int) (k : Int), vs = [.ref a, .int k] ∧ H a = some (.lst (ns.map V.int)) ∧ Pat ns ∧
  (CNext ns k → ∀ H' D, Same H H' → H D = none → H' D = some (.lst ((swapL ns k.toNat (k.toNat + 1)).map V.int)) → Q (.ref D) H') ∧ (¬ CNext ns k → ∀ H', Same H H' → E (.ref OOB) none H')
theorem ok_neighbours {f : Addr} {fd : FuncData} {OOB : Addr} (h : Has K mg "neighbours" s_neighbours ["pattern", "k"] f fd) (B : Blt mg) (x_OutOfBounds : ExcCls K OOB) (m_OutOfBounds : mg "OutOfBounds" = some (.ref OOB)) (o_check_pattern : Ok P w K mg base "check_pattern" ["pattern"] 6 spCheckPattern) (o_check_beat : Ok P w K mg base "check_beat" ["value", "length"] 3 (spCheckBeat OOB)) (o_crosswise : Ok P w K mg base "crosswise" ["throws", "one", "other"] 2 spCrosswise) (o_within_bounds : Ok P w K mg base "within_bounds" ["throws"] 5 (spWithin OOB)) : Ok P w K mg base "neighbours" ["pattern", "k"] 7 (spNeighbours OOB) := by
  refine h.ok sc_neighbours (fun vs H Q E h => ?_) (fun cdv A outer s H vs Q E hr h => ?_)
  · obtain ⟨a, ns, k, rfl, _⟩ := h
    rfl
  · obtain ⟨a, ns, k, rfl, ha, p, q1, q2⟩ := h
    have lo := p.lo
    have hi := p.hi
    refine ⟨_, (pss_cons (ps_expr (pe_callO o_check_pattern (hr.mono (by decide)) rfl passX (pa_cons (pv 0) pa_nil)))
      (pss_cons (ps_expr (pe_callO o_check_beat (hr.mono (by decide)) rfl passX (pa_cons (pv 1) (pa_cons (pe_callB (call_len_seqK (K := K) rfl) rfl B.len_ bt_len (pa_cons (pv 0) pa_nil)) pa_nil))))
      (pss_cons (ps_if (pt_cmpR op_lt (pe_callB (call_len_seqK (K := K) rfl) rfl B.len_ bt_len (pa_cons (pv 0) pa_nil)) pe_int (nomark _)) (pss_one (ps_raise isDef_cxOf x_OutOfBounds rfl landX rfl m_OutOfBounds (pa_cons pe_str pa_nil))) pss_nil)
      (pss_one (ps_ret (pe_callO o_within_bounds (hr.mono (by decide)) rfl passX (pa_cons (pe_callO o_crosswise (hr.mono (by decide)) rfl passX (pa_cons (pv 0) (pa_cons (pv 1) (pa_cons (pe_op op_add (pv 1) pe_int) pa_nil)))) pa_nil))))))), ?_⟩
    walk_at "rd"
    refine ⟨a, ns, rfl, ha, p, fun H1 s1 => ?_⟩
    have ha1 := s1 _ _ ha
    walk_at "rd"
    refine ⟨_, .inl (.of ha1), ?_⟩
    walk_at "rd"
    refine ⟨k, ns.length, rfl, fun hk => ?_, fun z => q2 (fun c => z ⟨c.1, c.2.1⟩) _ s1⟩
    refine ⟨_, .inl (.of ha1), ?_⟩
    walk_at "rd"
    by_cases h2 : (ns.length : Int) < 2
    · rw [decide_eq_true h2]
      walk_at "rd"
      exact ⟨by decide, q2 (fun c => by have := c.2.2.1; omega) _ s1⟩
    rw [decide_eq_false h2]
    walk_at "rd"
    refine ⟨a, ns, k.toNat, k.toNat + 1, by rw [Int.natCast_add, Int.toNat_of_nonneg hk.1]; rfl, ha1, by omega, hi, fun H2 D s2 hD h2' => ?_⟩
    walk_at "rd"
    refine ⟨D, _, rfl, h2', by rw [swap_len]; omega, fun z => q1 ⟨hk.1, hk.2, by omega, z⟩ _ D (s1.trans s2) (s1.free hD) h2', fun z => q2 (fun c => z c.2.2.2) _ (s1.trans s2)⟩

end
end Tb

namespace Tb
open PySem L2 TB
local macro_rules | `(tactic| walk_at "rd") => `(tactic| try simp only [rExtendT, rCount, iRevT, tSeq, tNext, tIfS, tRet, tRetN, tDrop, tAsg, gName, gNil, gCons, gSub, gTup, tVar, tC, tOp, tUn, rI, rI0, rU, rEq, rNe, tTest, tB, tChain, tChain3, rSortedB, rSortedP, rSortedD, rListD, rDictP, iDict, tThaw, rDClear, tDisp, tPairs, kit_dict_dict, rIndex, rIsX, rIsXT, rIsXd, rIsXV, rIsXTd, rIsO, rIxS2, rSlS, rFind, rIndexT, rLenT, rStrT, rIntT, rAddT, rMulT, rInT, iTxt, tx_str, tTxts, kit_str_str, rIn, tListRev, tAug, ipI, tAnd, tOr, tNot, tAndV, tOrV, tNotV, tIf, tIsN, tNotN, tCB, tNil, tCons, tTup, tLst, tTupG, tLstG, tCall, tRaise, tTryC, tXF, sXF, tRaiseI, tTryA, tTryE, thC, thA, thNil, Ends.less, tFor_eq, tComp_eq, iList, iTup, iRng1, iRng2, iEnum, iZip, tNoIf, rIxL, rIxT, rSetL, tBM, tBM0, rAppend, tFld, sFld, tMake, tMakeN, tMethD, tTryM, tNever, rExtend, rGeL, rInS, rClear, tDNewK, tDIn, tDNotIn, tDGet, sDPut, rEqL, rEqS, rBest, rRep, rCat, tSl, tPart, tNoPart, rSlL, capt, CDiv, scal_ii, scal_bb, scal_ss, scal_nn, scal_in, scal_ni, List.map_cons, List.map_nil, List.append_nil, List.nil_append, List.cons_append, List.length_cons, List.length_nil, List.length_map, Int.zero_add, List.getElem?_cons_zero, List.getElem?_cons_succ, List.set_cons_zero, List.set_cons_succ, Option.some.injEq, Option.join_some, Option.bind_some, Option.bind_none, V.int.injEq, V.bl.injEq, V.ref.injEq, V.str.injEq, V.ty.injEq, List.cons.injEq, and_true, true_and, exists_and_left, exists_eq_left', exists_eq_left, exists_eq_right, exists_eq_right', exists_eq, exists_eq', exists_const, eq_self, decide_true, decide_false, Option.isSome_none, Option.isSome_some, Bool.false_eq_true, Bool.not_true, Bool.not_false, reduceIte, reduceCtorEq, false_and, and_false, or_false, false_or, start_def, cxOf_K, cxComp_K, and_assoc, tyOf_int, kit_int_int, kit_int_bool, kit_list_list, rep0, rep1, rep2, rep3, rep4, rep5, rep6, rep7, rep8, rep9, rep10, rep11, rep12, rLen, rIsi, rListOf, rTupOf, rSum, rAll, rAny, rSorted, kit_tuple_tuple, Nat.sub_self, Nat.reduceAdd, Nat.reduceSub, Nat.reduceEqDiff])

/-- the classes of the changes -/
structure Cs where
  (c t l s n m g r : Addr)
def clsC (S : Cs) : Ch → Addr
  | .idc => S.c
  | .turn _ => S.t
  | .lift _ => S.l
  | .swap _ _ => S.s
  | .nb _ => S.n
  | .mir => S.m
  | .gap _ => S.g
def fldC : Ch → List (Str × V)
  | .turn k => [("k", .int k)]
  | .lift k => [("k", .int k)]
  | .swap i j => [("i", .int i), ("j", .int j)]
  | .nb k => [("k", .int k)]
  | .gap h => [("h", .int h)]
  | _ => []
/-- a change that is no row -/
def IsB (S : Cs) (H : Hp) (a : Addr) (c : Ch) : Prop := ∃ dx, H a = some (.ins (clsC S c) dx (fldC c))
def Bs (S : Cs) (H : Hp) (ts : List Addr) (cs : List Ch) : Prop := ts.length = cs.length ∧ ∀ (i : Nat) (a : Addr) (c : Ch), ts[i]? = some a → cs[i]? = some c → IsB S H a c
/-- a row of changes -/
def IsR (S : Cs) (H : Hp) (a : Addr) (cs : List Ch) : Prop := ∃ dx t ts, H a = some (.ins S.r dx [("steps", .ref t)]) ∧ H t = some (.tup (ts.map V.ref)) ∧ Bs S H ts cs
theorem IsB.same {S : Cs} {H H' : Hp} {a : Addr} {c : Ch} (h : IsB S H a c) (s : Same H H') : IsB S H' a c := let ⟨dx, e⟩ := h; ⟨dx, s _ _ e⟩
theorem Bs.same {S : Cs} {H H' : Hp} {ts : List Addr} {cs : List Ch} (h : Bs S H ts cs) (s : Same H H') : Bs S H' ts cs := ⟨h.1, fun i a c e1 e2 => (h.2 i a c e1 e2).same s⟩
theorem IsR.same {S : Cs} {H H' : Hp} {a : Addr} {cs : List Ch} (h : IsR S H a cs) (s : Same H H') : IsR S H' a cs := let ⟨dx, t, ts, e1, e2, e3⟩ := h; ⟨dx, t, ts, s _ _ e1, s _ _ e2, e3.same s⟩
theorem Bs.nil {S : Cs} {H : Hp} : Bs S H [] [] := ⟨rfl, fun i a c e => by simp at e⟩
theorem Bs.one {S : Cs} {H : Hp} {a : Addr} {c : Ch} (h : IsB S H a c) : Bs S H [a] [c] := ⟨rfl, fun i a' c' e1 e2 => by
  match i with
  | 0 => cases e1; cases e2; exact h
  | i + 1 => simp at e1⟩
theorem Bs.app {S : Cs} {H : Hp} {ts us : List Addr} {cs ds : List Ch} (h : Bs S H ts cs) (g : Bs S H us ds) : Bs S H (ts ++ us) (cs ++ ds) := ⟨by rw [List.length_append, List.length_append, h.1, g.1], fun i a c e1 e2 => by
  by_cases hi : i < ts.length
  · rw [List.getElem?_append_left hi] at e1
    rw [List.getElem?_append_left (by rw [← h.1]; exact hi)] at e2
    exact h.2 i a c e1 e2
  · rw [List.getElem?_append_right (by omega)] at e1
    rw [List.getElem?_append_right (by rw [← h.1]; omega), ← h.1] at e2
    exact g.2 _ a c e1 e2⟩
theorem refs_at {ts : List Addr} {i : Nat} {x : V} (h : (ts.map V.ref)[i]? = some x) : ∃ a, ts[i]? = some a ∧ x = .ref a := by
  rw [List.getElem?_map] at h
  cases e : ts[i]? with
  | none => rw [e] at h; cases h
  | some a =>
    rw [e] at h
    exact ⟨a, rfl, (Option.some.inj h).symm⟩
theorem Bs.at_ {S : Cs} {H : Hp} {ts : List Addr} {cs : List Ch} (h : Bs S H ts cs) {i : Nat} {x : V} (e : (ts.map V.ref)[i]? = some x) : ∃ a c, x = .ref a ∧ ts[i]? = some a ∧ cs[i]? = some c ∧ IsB S H a c := by
  obtain ⟨a, ea, rfl⟩ := refs_at e
  have hi := (List.getElem?_eq_some_iff.mp ea).1
  have hc : i < cs.length := by rw [← h.1]; exact hi
  exact ⟨a, cs[i], rfl, ea, by simp [hc], h.2 i a _ ea (by simp [hc])⟩
section
variable {P : Program} {w : World} {K : PySem.W.Frag} {mg : Str → Option Value} {base : Heap}
theorem made {H : Hp} {x dx C : Addr} (hx : H x = none) (hd : H dx = none) {fs : List (Str × V)} : Same H (upd (upd H dx (.own x)) x (.ins C dx fs)) := fun b u e => by
  rw [upd_ne (ne_of_none e hx), upd_ne (ne_of_none e hd)]
  exact e
/-- an __init__ that keeps one value -/
def spSet1 (C : Addr) (f : Str) : Sp := fun vs H Q _ => ∃ (x dx : Addr) (v : V), vs = [.ref x, v] ∧ H x = some (.ins C dx []) ∧ Q .non (upd H x (.ins C dx [(f, v)]))

abbrev s_Turn___init__ : Stmt := inClass (top 32) 0
theorem sc_Turn___init__ : FnScope ["self", "k"] ["self", "k"] (defScope s_Turn___init__) := ⟨rfl, rfl, rfl, by decide +kernel, rfl, by decide +kernel, by decide +kernel⟩
theorem ok_Turn_init {f C : Addr} {fd : FuncData} (h : Fun K "__init__" "Turn.__init__" s_Turn___init__ f fd) (cl : Cls K C) (na : NoAttr K C "k") : FnOk P w K mg base (CXf P w) 1 f fd ["self", "k"] (spSet1 C "k") := by
  refine h.okX sc_Turn___init__ (fun vs H Q E h => ?_) (fun cdv A outer s H vs Q E hr h => ?_)
  · obtain ⟨x, dx, v, rfl, _⟩ := h
    rfl
  · obtain ⟨x, dx, v, rfl, hx, q⟩ := h
    refine ⟨_, (pss_one (ps_fldK (K := K) rfl (pv 0) (pv 1))), ?_⟩
    walk_at "rd"
    exact ⟨C, dx, [], hx, cl, na, by decide, q⟩

abbrev s_Lift___init__ : Stmt := inClass (top 33) 0
theorem sc_Lift___init__ : FnScope ["self", "k"] ["self", "k"] (defScope s_Lift___init__) := ⟨rfl, rfl, rfl, by decide +kernel, rfl, by decide +kernel, by decide +kernel⟩
theorem ok_Lift_init {f C : Addr} {fd : FuncData} (h : Fun K "__init__" "Lift.__init__" s_Lift___init__ f fd) (cl : Cls K C) (na : NoAttr K C "k") : FnOk P w K mg base (CXf P w) 1 f fd ["self", "k"] (spSet1 C "k") := by
  refine h.okX sc_Lift___init__ (fun vs H Q E h => ?_) (fun cdv A outer s H vs Q E hr h => ?_)
  · obtain ⟨x, dx, v, rfl, _⟩ := h
    rfl
  · obtain ⟨x, dx, v, rfl, hx, q⟩ := h
    refine ⟨_, (pss_one (ps_fldK (K := K) rfl (pv 0) (pv 1))), ?_⟩
    walk_at "rd"
    exact ⟨C, dx, [], hx, cl, na, by decide, q⟩

abbrev s_Neighbours___init__ : Stmt := inClass (top 35) 0
theorem sc_Neighbours___init__ : FnScope ["self", "k"] ["self", "k"] (defScope s_Neighbours___init__) := ⟨rfl, rfl, rfl, by decide +kernel, rfl, by decide +kernel, by decide +kernel⟩
theorem ok_Neighbours_init {f C : Addr} {fd : FuncData} (h : Fun K "__init__" "Neighbours.__init__" s_Neighbours___init__ f fd) (cl : Cls K C) (na : NoAttr K C "k") : FnOk P w K mg base (CXf P w) 1 f fd ["self", "k"] (spSet1 C "k") := by
  refine h.okX sc_Neighbours___init__ (fun vs H Q E h => ?_) (fun cdv A outer s H vs Q E hr h => ?_)
  · obtain ⟨x, dx, v, rfl, _⟩ := h
    rfl
  · obtain ⟨x, dx, v, rfl, hx, q⟩ := h
    refine ⟨_, (pss_one (ps_fldK (K := K) rfl (pv 0) (pv 1))), ?_⟩
    walk_at "rd"
    exact ⟨C, dx, [], hx, cl, na, by decide, q⟩

abbrev s_Gaps___init__ : Stmt := inClass (top 37) 0
theorem sc_Gaps___init__ : FnScope ["self", "h"] ["self", "h"] (defScope s_Gaps___init__) := ⟨rfl, rfl, rfl, by decide +kernel, rfl, by decide +kernel, by decide +kernel⟩
theorem ok_Gaps_init {f C : Addr} {fd : FuncData} (h : Fun K "__init__" "Gaps.__init__" s_Gaps___init__ f fd) (cl : Cls K C) (na : NoAttr K C "h") : FnOk P w K mg base (CXf P w) 1 f fd ["self", "h"] (spSet1 C "h") := by
  refine h.okX sc_Gaps___init__ (fun vs H Q E h => ?_) (fun cdv A outer s H vs Q E hr h => ?_)
  · obtain ⟨x, dx, v, rfl, _⟩ := h
    rfl
  · obtain ⟨x, dx, v, rfl, hx, q⟩ := h
    refine ⟨_, (pss_one (ps_fldK (K := K) rfl (pv 0) (pv 1))), ?_⟩
    walk_at "rd"
    exact ⟨C, dx, [], hx, cl, na, by decide, q⟩

abbrev s_Swap___init__ : Stmt := inClass (top 34) 0
theorem sc_Swap___init__ : FnScope ["self", "i", "j"] ["self", "i", "j"] (defScope s_Swap___init__) := ⟨rfl, rfl, rfl, by decide +kernel, rfl, by decide +kernel, by decide +kernel⟩
def spSet2 (C : Addr) : Sp := fun vs H Q _ => ∃ (x dx : Addr) (i j : V), vs = [.ref x, i, j] ∧ H x = some (.ins C dx []) ∧ Q .non (upd (upd H x (.ins C dx [("i", i)])) x (.ins C dx [("i", i), ("j", j)]))
theorem ok_Swap_init {f C : Addr} {fd : FuncData} (h : Fun K "__init__" "Swap.__init__" s_Swap___init__ f fd) (cl : Cls K C) (ni : NoAttr K C "i") (nj : NoAttr K C "j") : FnOk P w K mg base (CXf P w) 1 f fd ["self", "i", "j"] (spSet2 C) := by
  refine h.okX sc_Swap___init__ (fun vs H Q E h => ?_) (fun cdv A outer s H vs Q E hr h => ?_)
  · obtain ⟨x, dx, i, j, rfl, _⟩ := h
    rfl
  · obtain ⟨x, dx, i, j, rfl, hx, q⟩ := h
    refine ⟨_, (pss_cons (ps_fldK (K := K) rfl (pv 0) (pv 1))
      (pss_one (ps_fldK (K := K) rfl (pv 0) (pv 2)))), ?_⟩
    walk_at "rd"
    exact ⟨C, dx, [], hx, cl, ni, by decide, C, dx, _, upd_same, cl, nj, (by show 1 < 1000; decide), q⟩
/-- what a change makes of a pattern -/
def spDoneB (OOB : Addr) (S : Cs) (c : Ch) : Sp := fun vs H Q E => ∃ (o a : Addr) (ns : List Int), vs = [.ref o, .ref a] ∧ IsB S H o c ∧ H a = some (.lst (ns.map V.int)) ∧ Pat ns ∧ (okC c ns → ∀ H' D, Same H H' → H D = none → H' D = some (.lst ((doC c ns).map V.int)) → Q (.ref D) H') ∧ (¬ okC c ns → ∀ H', Same H H' → E (.ref OOB) none H')
def spUndoneB (S : Cs) (c : Ch) : Sp := fun vs H Q _ => ∃ o : Addr, vs = [.ref o] ∧ IsB S H o c ∧ ∀ H' a, Same H H' → IsB S H' a (undoC c) → Q (.ref a) H'
def spBallsB (S : Cs) (c : Ch) : Sp := fun vs H Q _ => ∃ (o : Addr) (m : Int), vs = [.ref o, .int m] ∧ IsB S H o c ∧ Q (.int (ballsC c m)) H
theorem mk1 {H : Hp} {x dx C : Addr} {f : Str} {v : V} {Q : VK} {E : XK} (hx : H x = none) (hd : H dx = none) (k : ∀ G, Same H G → G x = some (.ins C dx [(f, v)]) → Q .non G) : spSet1 C f [.ref x, v] (upd (upd H dx (.own x)) x (.ins C dx [])) Q E :=
  ⟨x, dx, v, rfl, upd_same, k _ (fun b u e => by rw [upd_ne (ne_of_none e hx)]; exact made hx hd _ _ e) upd_same⟩
theorem mk2 {H : Hp} {x dx C : Addr} {i j : V} {Q : VK} {E : XK} (hx : H x = none) (hd : H dx = none) (k : ∀ G, Same H G → G x = some (.ins C dx [("i", i), ("j", j)]) → Q .non G) : spSet2 C [.ref x, i, j] (upd (upd H dx (.own x)) x (.ins C dx [])) Q E :=
  ⟨x, dx, i, j, rfl, upd_same, k _ (fun b u e => by rw [upd_ne (ne_of_none e hx), upd_ne (ne_of_none e hx)]; exact made hx hd _ _ e) upd_same⟩

abbrev s_Turn_done : Stmt := inClass (top 32) 1
theorem sc_Turn_done : FnScope ["self", "pattern"] ["self", "pattern"] (defScope s_Turn_done) := ⟨rfl, rfl, rfl, by decide +kernel, rfl, by decide +kernel, by decide +kernel⟩
theorem ok_Turn_done {f OOB : Addr} {fd : FuncData} {S : Cs} (h : Fun K "done" "Turn.done" s_Turn_done f fd) (cl : Cls K S.t) (na : NoAttr K S.t "k") (o_turned : Ok P w K mg base "turned" ["pattern", "k"] 7 (spTurned OOB)) (k : Int) : FnOk P w K mg base (CXf P w) 8 f fd ["self", "pattern"] (spDoneB OOB S (.turn k)) := by
  refine h.okX sc_Turn_done (fun vs H Q E h => ?_) (fun cdv A outer s H vs Q E hr h => ?_)
  · obtain ⟨o, a, ns, rfl, _⟩ := h
    rfl
  · obtain ⟨o, a, ns, rfl, ⟨dx, ho⟩, ha, p, q1, q2⟩ := h
    refine ⟨_, (pss_one (ps_ret (pe_callO o_turned (hr.mono (by decide)) rfl passX (pa_cons (pv 1) (pa_cons (pe_fldK (K := K) rfl (pv 0)) pa_nil))))), ?_⟩
    walk_at "rd"
    exact ⟨S.t, dx, _, ho, cl, na, .int k, by rfl, a, ns, k, rfl, ha, p, q1, q2⟩

abbrev s_Turn_undone : Stmt := inClass (top 32) 2
theorem sc_Turn_undone : FnScope ["self"] ["self"] (defScope s_Turn_undone) := ⟨rfl, rfl, rfl, by decide +kernel, rfl, by decide +kernel, by decide +kernel⟩
theorem ok_Turn_undone {f : Addr} {fd : FuncData} {S : Cs} (h : Fun K "undone" "Turn.undone" s_Turn_undone f fd) (cl : Cls K S.t) (na : NoAttr K S.t "k") (mk_Turn : MkOk P w K mg base "Turn" S.t 1 (spSet1 S.t "k")) (o_opposite : Ok P w K mg base "opposite" ["number"] 2 spOpposite) (k : Int) : FnOk P w K mg base (CXf P w) 8 f fd ["self"] (spUndoneB S (.turn k)) := by
  refine h.okX sc_Turn_undone (fun vs H Q E h => ?_) (fun cdv A outer s H vs Q E hr h => ?_)
  · obtain ⟨o, rfl, _⟩ := h
    rfl
  · obtain ⟨o, rfl, ⟨dx, ho⟩, q⟩ := h
    refine ⟨_, (pss_one (ps_ret (pe_makeK mk_Turn (hr.mono (by decide)) rfl passX (pa_cons (pe_callO o_opposite (hr.mono (by decide)) rfl passX (pa_cons (pe_fldK (K := K) rfl (pv 0)) pa_nil)) pa_nil)))), ?_⟩
    walk_at "rd"
    refine ⟨S.t, dx, _, ho, cl, na, .int k, by rfl, k, rfl, fun x dx' hx hd ne => mk1 hx hd fun G s1 e => ⟨rfl, q _ _ s1 ⟨dx', e⟩⟩⟩

abbrev s_Lift_done : Stmt := inClass (top 33) 1
theorem sc_Lift_done : FnScope ["self", "pattern"] ["self", "pattern"] (defScope s_Lift_done) := ⟨rfl, rfl, rfl, by decide +kernel, rfl, by decide +kernel, by decide +kernel⟩
theorem ok_Lift_done {f OOB : Addr} {fd : FuncData} {S : Cs} (h : Fun K "done" "Lift.done" s_Lift_done f fd) (cl : Cls K S.l) (na : NoAttr K S.l "k") (o_lifted : Ok P w K mg base "lifted" ["pattern", "k"] 7 (spLifted OOB)) (k : Int) : FnOk P w K mg base (CXf P w) 8 f fd ["self", "pattern"] (spDoneB OOB S (.lift k)) := by
  refine h.okX sc_Lift_done (fun vs H Q E h => ?_) (fun cdv A outer s H vs Q E hr h => ?_)
  · obtain ⟨o, a, ns, rfl, _⟩ := h
    rfl
  · obtain ⟨o, a, ns, rfl, ⟨dx, ho⟩, ha, p, q1, q2⟩ := h
    refine ⟨_, (pss_one (ps_ret (pe_callO o_lifted (hr.mono (by decide)) rfl passX (pa_cons (pv 1) (pa_cons (pe_fldK (K := K) rfl (pv 0)) pa_nil))))), ?_⟩
    walk_at "rd"
    exact ⟨S.l, dx, _, ho, cl, na, .int k, by rfl, a, ns, k, rfl, ha, p, q1, q2⟩

abbrev s_Lift_undone : Stmt := inClass (top 33) 2
theorem sc_Lift_undone : FnScope ["self"] ["self"] (defScope s_Lift_undone) := ⟨rfl, rfl, rfl, by decide +kernel, rfl, by decide +kernel, by decide +kernel⟩
theorem ok_Lift_undone {f : Addr} {fd : FuncData} {S : Cs} (h : Fun K "undone" "Lift.undone" s_Lift_undone f fd) (cl : Cls K S.l) (na : NoAttr K S.l "k") (mk_Lift : MkOk P w K mg base "Lift" S.l 1 (spSet1 S.l "k")) (o_opposite : Ok P w K mg base "opposite" ["number"] 2 spOpposite) (k : Int) : FnOk P w K mg base (CXf P w) 8 f fd ["self"] (spUndoneB S (.lift k)) := by
  refine h.okX sc_Lift_undone (fun vs H Q E h => ?_) (fun cdv A outer s H vs Q E hr h => ?_)
  · obtain ⟨o, rfl, _⟩ := h
    rfl
  · obtain ⟨o, rfl, ⟨dx, ho⟩, q⟩ := h
    refine ⟨_, (pss_one (ps_ret (pe_makeK mk_Lift (hr.mono (by decide)) rfl passX (pa_cons (pe_callO o_opposite (hr.mono (by decide)) rfl passX (pa_cons (pe_fldK (K := K) rfl (pv 0)) pa_nil)) pa_nil)))), ?_⟩
    walk_at "rd"
    refine ⟨S.l, dx, _, ho, cl, na, .int k, by rfl, k, rfl, fun x dx' hx hd ne => mk1 hx hd fun G s1 e => ⟨rfl, q _ _ s1 ⟨dx', e⟩⟩⟩

abbrev s_Neighbours_done : Stmt := inClass (top 35) 1
theorem sc_Neighbours_done : FnScope ["self", "pattern"] ["self", "pattern"] (defScope s_Neighbours_done) := ⟨rfl, rfl, rfl, by decide +kernel, rfl, by decide +kernel, by decide +kernel⟩
theorem ok_Neighbours_done {f OOB : Addr} {fd : FuncData} {S : Cs} (h : Fun K "done" "Neighbours.done" s_Neighbours_done f fd) (cl : Cls K S.n) (na : NoAttr K S.n "k") (o_neighbours : Ok P w K mg base "neighbours" ["pattern", "k"] 7 (spNeighbours OOB)) (k : Int) : FnOk P w K mg base (CXf P w) 8 f fd ["self", "pattern"] (spDoneB OOB S (.nb k)) := by
  refine h.okX sc_Neighbours_done (fun vs H Q E h => ?_) (fun cdv A outer s H vs Q E hr h => ?_)
  · obtain ⟨o, a, ns, rfl, _⟩ := h
    rfl
  · obtain ⟨o, a, ns, rfl, ⟨dx, ho⟩, ha, p, q1, q2⟩ := h
    refine ⟨_, (pss_one (ps_ret (pe_callO o_neighbours (hr.mono (by decide)) rfl passX (pa_cons (pv 1) (pa_cons (pe_fldK (K := K) rfl (pv 0)) pa_nil))))), ?_⟩
    walk_at "rd"
    exact ⟨S.n, dx, _, ho, cl, na, .int k, by rfl, a, ns, k, rfl, ha, p, q1, q2⟩

abbrev s_Neighbours_undone : Stmt := inClass (top 35) 2
theorem sc_Neighbours_undone : FnScope ["self"] ["self"] (defScope s_Neighbours_undone) := ⟨rfl, rfl, rfl, by decide +kernel, rfl, by decide +kernel, by decide +kernel⟩
theorem ok_Neighbours_undone {f : Addr} {fd : FuncData} {S : Cs} (h : Fun K "undone" "Neighbours.undone" s_Neighbours_undone f fd) (cl : Cls K S.n) (na : NoAttr K S.n "k") (mk_Neighbours : MkOk P w K mg base "Neighbours" S.n 1 (spSet1 S.n "k")) (k : Int) : FnOk P w K mg base (CXf P w) 8 f fd ["self"] (spUndoneB S (.nb k)) := by
  refine h.okX sc_Neighbours_undone (fun vs H Q E h => ?_) (fun cdv A outer s H vs Q E hr h => ?_)
  · obtain ⟨o, rfl, _⟩ := h
    rfl
  · obtain ⟨o, rfl, ⟨dx, ho⟩, q⟩ := h
    refine ⟨_, (pss_one (ps_ret (pe_makeK mk_Neighbours (hr.mono (by decide)) rfl passX (pa_cons (pe_fldK (K := K) rfl (pv 0)) pa_nil)))), ?_⟩
    walk_at "rd"
    refine ⟨S.n, dx, _, ho, cl, na, .int k, by rfl, fun x dx' hx hd ne => mk1 hx hd fun G s1 e => ⟨rfl, q _ _ s1 ⟨dx', e⟩⟩⟩

abbrev s_Gaps_done : Stmt := inClass (top 37) 1
theorem sc_Gaps_done : FnScope ["self", "pattern"] ["self", "pattern"] (defScope s_Gaps_done) := ⟨rfl, rfl, rfl, by decide +kernel, rfl, by decide +kernel, by decide +kernel⟩
theorem ok_Gaps_done {f OOB : Addr} {fd : FuncData} {S : Cs} (h : Fun K "done" "Gaps.done" s_Gaps_done f fd) (cl : Cls K S.g) (na : NoAttr K S.g "h") (o_gaps : Ok P w K mg base "gaps" ["pattern", "h"] 7 (spGaps OOB)) (k : Int) : FnOk P w K mg base (CXf P w) 8 f fd ["self", "pattern"] (spDoneB OOB S (.gap k)) := by
  refine h.okX sc_Gaps_done (fun vs H Q E h => ?_) (fun cdv A outer s H vs Q E hr h => ?_)
  · obtain ⟨o, a, ns, rfl, _⟩ := h
    rfl
  · obtain ⟨o, a, ns, rfl, ⟨dx, ho⟩, ha, p, q1, q2⟩ := h
    refine ⟨_, (pss_one (ps_ret (pe_callO o_gaps (hr.mono (by decide)) rfl passX (pa_cons (pv 1) (pa_cons (pe_fldK (K := K) rfl (pv 0)) pa_nil))))), ?_⟩
    walk_at "rd"
    exact ⟨S.g, dx, _, ho, cl, na, .int k, by rfl, a, ns, k, rfl, ha, p, q1, q2⟩

abbrev s_Gaps_undone : Stmt := inClass (top 37) 2
theorem sc_Gaps_undone : FnScope ["self"] ["self"] (defScope s_Gaps_undone) := ⟨rfl, rfl, rfl, by decide +kernel, rfl, by decide +kernel, by decide +kernel⟩
theorem ok_Gaps_undone {f : Addr} {fd : FuncData} {S : Cs} (h : Fun K "undone" "Gaps.undone" s_Gaps_undone f fd) (cl : Cls K S.g) (na : NoAttr K S.g "h") (mk_Gaps : MkOk P w K mg base "Gaps" S.g 1 (spSet1 S.g "h")) (k : Int) : FnOk P w K mg base (CXf P w) 8 f fd ["self"] (spUndoneB S (.gap k)) := by
  refine h.okX sc_Gaps_undone (fun vs H Q E h => ?_) (fun cdv A outer s H vs Q E hr h => ?_)
  · obtain ⟨o, rfl, _⟩ := h
    rfl
  · obtain ⟨o, rfl, ⟨dx, ho⟩, q⟩ := h
    refine ⟨_, (pss_one (ps_ret (pe_makeK mk_Gaps (hr.mono (by decide)) rfl passX (pa_cons (pe_fldK (K := K) rfl (pv 0)) pa_nil)))), ?_⟩
    walk_at "rd"
    refine ⟨S.g, dx, _, ho, cl, na, .int k, by rfl, fun x dx' hx hd ne => mk1 hx hd fun G s1 e => ⟨rfl, q _ _ s1 ⟨dx', e⟩⟩⟩

abbrev s_Swap_done : Stmt := inClass (top 34) 1
theorem sc_Swap_done : FnScope ["self", "pattern"] ["self", "pattern"] (defScope s_Swap_done) := ⟨rfl, rfl, rfl, by decide +kernel, rfl, by decide +kernel, by decide +kernel⟩
theorem ok_Swap_done {f OOB : Addr} {fd : FuncData} {S : Cs} (h : Fun K "done" "Swap.done" s_Swap_done f fd) (cl : Cls K S.s) (ni : NoAttr K S.s "i") (nj : NoAttr K S.s "j") (o_swapped : Ok P w K mg base "swapped" ["pattern", "i", "j"] 7 (spSwapped OOB)) (i j : Int) : FnOk P w K mg base (CXf P w) 8 f fd ["self", "pattern"] (spDoneB OOB S (.swap i j)) := by
  refine h.okX sc_Swap_done (fun vs H Q E h => ?_) (fun cdv A outer s H vs Q E hr h => ?_)
  · obtain ⟨o, a, ns, rfl, _⟩ := h
    rfl
  · obtain ⟨o, a, ns, rfl, ⟨dx, ho⟩, ha, p, q1, q2⟩ := h
    refine ⟨_, (pss_one (ps_ret (pe_callO o_swapped (hr.mono (by decide)) rfl passX (pa_cons (pv 1) (pa_cons (pe_fldK (K := K) rfl (pv 0)) (pa_cons (pe_fldK (K := K) rfl (pv 0)) pa_nil)))))), ?_⟩
    walk_at "rd"
    exact ⟨S.s, dx, _, ho, cl, ni, .int i, by rfl, S.s, dx, _, ho, cl, nj, .int j, by rfl, a, ns, i, j, rfl, ha, p, q1, q2⟩

abbrev s_Swap_undone : Stmt := inClass (top 34) 2
theorem sc_Swap_undone : FnScope ["self"] ["self"] (defScope s_Swap_undone) := ⟨rfl, rfl, rfl, by decide +kernel, rfl, by decide +kernel, by decide +kernel⟩
theorem ok_Swap_undone {f : Addr} {fd : FuncData} {S : Cs} (h : Fun K "undone" "Swap.undone" s_Swap_undone f fd) (cl : Cls K S.s) (ni : NoAttr K S.s "i") (nj : NoAttr K S.s "j") (mk_Swap : MkOk P w K mg base "Swap" S.s 1 (spSet2 S.s)) (i j : Int) : FnOk P w K mg base (CXf P w) 8 f fd ["self"] (spUndoneB S (.swap i j)) := by
  refine h.okX sc_Swap_undone (fun vs H Q E h => ?_) (fun cdv A outer s H vs Q E hr h => ?_)
  · obtain ⟨o, rfl, _⟩ := h
    rfl
  · obtain ⟨o, rfl, ⟨dx, ho⟩, q⟩ := h
    refine ⟨_, (pss_one (ps_ret (pe_makeK mk_Swap (hr.mono (by decide)) rfl passX (pa_cons (pe_fldK (K := K) rfl (pv 0)) (pa_cons (pe_fldK (K := K) rfl (pv 0)) pa_nil))))), ?_⟩
    walk_at "rd"
    refine ⟨S.s, dx, _, ho, cl, ni, .int i, by rfl, S.s, dx, _, ho, cl, nj, .int j, by rfl, fun x dx' hx hd ne => mk2 hx hd fun G s1 e => ⟨rfl, q _ _ s1 ⟨dx', e⟩⟩⟩

abbrev s_Change_done : Stmt := inClass (top 31) 0
theorem sc_Change_done : FnScope ["self", "pattern"] ["self", "pattern"] (defScope s_Change_done) := ⟨rfl, rfl, rfl, by decide +kernel, rfl, by decide +kernel, by decide +kernel⟩
theorem ok_Change_done {f OOB : Addr} {fd : FuncData} {S : Cs} (h : Fun K "done" "Change.done" s_Change_done f fd) (o_unchanged : Ok P w K mg base "unchanged" ["pattern"] 7 spUnchanged) : FnOk P w K mg base (CXf P w) 8 f fd ["self", "pattern"] (spDoneB OOB S .idc) := by
  refine h.okX sc_Change_done (fun vs H Q E h => ?_) (fun cdv A outer s H vs Q E hr h => ?_)
  · obtain ⟨o, a, ns, rfl, _⟩ := h
    rfl
  · obtain ⟨o, a, ns, rfl, ⟨dx, ho⟩, ha, p, q1, q2⟩ := h
    refine ⟨_, (pss_one (ps_ret (pe_callO o_unchanged (hr.mono (by decide)) rfl passX (pa_cons (pv 1) pa_nil)))), ?_⟩
    walk_at "rd"
    exact ⟨a, ns, rfl, ha, p, q1 trivial⟩

abbrev s_Change_undone : Stmt := inClass (top 31) 1
theorem sc_Change_undone : FnScope ["self"] ["self"] (defScope s_Change_undone) := ⟨rfl, rfl, rfl, by decide +kernel, rfl, by decide +kernel, by decide +kernel⟩
theorem ok_Change_undone {f : Addr} {fd : FuncData} {S : Cs} (h : Fun K "undone" "Change.undone" s_Change_undone f fd) (m_Change : mg "Change" = some (.ref S.c)) (c_Change : OCls K S.c) (i_Change : PySem.W.findIn K (.ref S.c) "__init__" = some (some (.builtin "object.__init__"))) : FnOk P w K mg base (CXf P w) 8 f fd ["self"] (spUndoneB S .idc) := by
  refine h.okX sc_Change_undone (fun vs H Q E h => ?_) (fun cdv A outer s H vs Q E hr h => ?_)
  · obtain ⟨o, rfl, _⟩ := h
    rfl
  · obtain ⟨o, rfl, ⟨dx, ho⟩, q⟩ := h
    refine ⟨_, (pss_one (ps_ret (pe_makeN m_Change c_Change i_Change rfl))), ?_⟩
    walk_at "rd"
    exact fun x dx' hx hd ne => q _ _ (made hx hd) ⟨dx', upd_same⟩

abbrev s_Change_balls : Stmt := inClass (top 31) 2
theorem sc_Change_balls : FnScope ["self", "many"] ["self", "many"] (defScope s_Change_balls) := ⟨rfl, rfl, rfl, by decide +kernel, rfl, by decide +kernel, by decide +kernel⟩
theorem ok_Change_balls {f : Addr} {fd : FuncData} {S : Cs} (h : Fun K "balls" "Change.balls" s_Change_balls f fd) (c : Ch) (hc : ∀ m, ballsC c m = m) : FnOk P w K mg base (CXf P w) 1 f fd ["self", "many"] (spBallsB S c) := by
  refine h.okX sc_Change_balls (fun vs H Q E h => ?_) (fun cdv A outer s H vs Q E hr h => ?_)
  · obtain ⟨o, m, rfl, _⟩ := h
    rfl
  · obtain ⟨o, m, rfl, _, q⟩ := h
    refine ⟨_, (pss_one (ps_ret (pv 1))), ?_⟩
    walk_at "rd"
    rw [hc] at q
    exact q

abbrev s_Lift_balls : Stmt := inClass (top 33) 3
theorem sc_Lift_balls : FnScope ["self", "many"] ["self", "many"] (defScope s_Lift_balls) := ⟨rfl, rfl, rfl, by decide +kernel, rfl, by decide +kernel, by decide +kernel⟩
theorem ok_Lift_balls {f : Addr} {fd : FuncData} {S : Cs} (h : Fun K "balls" "Lift.balls" s_Lift_balls f fd) (cl : Cls K S.l) (na : NoAttr K S.l "k") (k : Int) : FnOk P w K mg base (CXf P w) 1 f fd ["self", "many"] (spBallsB S (.lift k)) := by
  refine h.okX sc_Lift_balls (fun vs H Q E h => ?_) (fun cdv A outer s H vs Q E hr h => ?_)
  · obtain ⟨o, m, rfl, _⟩ := h
    rfl
  · obtain ⟨o, m, rfl, ⟨dx, ho⟩, q⟩ := h
    refine ⟨_, (pss_one (ps_ret (pe_op op_add (pv 1) (pe_fldK (K := K) rfl (pv 0))))), ?_⟩
    walk_at "rd"
    exact ⟨S.l, dx, _, ho, cl, na, .int k, by rfl, _, rfl, q⟩

abbrev s_Gaps_balls : Stmt := inClass (top 37) 3
theorem sc_Gaps_balls : FnScope ["self", "many"] ["self", "many"] (defScope s_Gaps_balls) := ⟨rfl, rfl, rfl, by decide +kernel, rfl, by decide +kernel, by decide +kernel⟩
theorem ok_Gaps_balls {f : Addr} {fd : FuncData} {S : Cs} (h : Fun K "balls" "Gaps.balls" s_Gaps_balls f fd) (cl : Cls K S.g) (na : NoAttr K S.g "h") (k : Int) : FnOk P w K mg base (CXf P w) 1 f fd ["self", "many"] (spBallsB S (.gap k)) := by
  refine h.okX sc_Gaps_balls (fun vs H Q E h => ?_) (fun cdv A outer s H vs Q E hr h => ?_)
  · obtain ⟨o, m, rfl, _⟩ := h
    rfl
  · obtain ⟨o, m, rfl, ⟨dx, ho⟩, q⟩ := h
    refine ⟨_, (pss_one (ps_ret (pe_op op_sub (pe_fldK (K := K) rfl (pv 0)) (pv 1)))), ?_⟩
    walk_at "rd"
    exact ⟨S.g, dx, _, ho, cl, na, .int k, by rfl, _, rfl, q⟩

abbrev s_Mirror_done : Stmt := inClass (top 36) 0
theorem sc_Mirror_done : FnScope ["self", "pattern"] ["self", "pattern"] (defScope s_Mirror_done) := ⟨rfl, rfl, rfl, by decide +kernel, rfl, by decide +kernel, by decide +kernel⟩
theorem ok_Mirror_done {f OOB : Addr} {fd : FuncData} {S : Cs} (h : Fun K "done" "Mirror.done" s_Mirror_done f fd) (o_mirrored : Ok P w K mg base "mirrored" ["pattern"] 7 spMirrored) : FnOk P w K mg base (CXf P w) 8 f fd ["self", "pattern"] (spDoneB OOB S .mir) := by
  refine h.okX sc_Mirror_done (fun vs H Q E h => ?_) (fun cdv A outer s H vs Q E hr h => ?_)
  · obtain ⟨o, a, ns, rfl, _⟩ := h
    rfl
  · obtain ⟨o, a, ns, rfl, ⟨dx, ho⟩, ha, p, q1, q2⟩ := h
    refine ⟨_, (pss_one (ps_ret (pe_callO o_mirrored (hr.mono (by decide)) rfl passX (pa_cons (pv 1) pa_nil)))), ?_⟩
    walk_at "rd"
    exact ⟨a, ns, rfl, ha, p, fun H' D M s1 hD m e => q1 trivial H' D s1 hD (by rw [show doC .mir ns = M from mirL_eq p m]; exact e)⟩

abbrev s_Mirror_undone : Stmt := inClass (top 36) 1
theorem sc_Mirror_undone : FnScope ["self"] ["self"] (defScope s_Mirror_undone) := ⟨rfl, rfl, rfl, by decide +kernel, rfl, by decide +kernel, by decide +kernel⟩
theorem ok_Mirror_undone {f : Addr} {fd : FuncData} {S : Cs} (h : Fun K "undone" "Mirror.undone" s_Mirror_undone f fd) (m_Mirror : mg "Mirror" = some (.ref S.m)) (c_Mirror : OCls K S.m) (i_Mirror : PySem.W.findIn K (.ref S.m) "__init__" = some (some (.builtin "object.__init__"))) : FnOk P w K mg base (CXf P w) 8 f fd ["self"] (spUndoneB S .mir) := by
  refine h.okX sc_Mirror_undone (fun vs H Q E h => ?_) (fun cdv A outer s H vs Q E hr h => ?_)
  · obtain ⟨o, rfl, _⟩ := h
    rfl
  · obtain ⟨o, rfl, ⟨dx, ho⟩, q⟩ := h
    refine ⟨_, (pss_one (ps_ret (pe_makeN m_Mirror c_Mirror i_Mirror rfl))), ?_⟩
    walk_at "rd"
    exact fun x dx' hx hd ne => q _ _ (made hx hd) ⟨dx', upd_same⟩
end
end Tb

namespace Tb
open PySem L2 TB
local macro_rules | `(tactic| walk_at "rd") => `(tactic| try simp only [rExtendT, rCount, iRevT, tSeq, tNext, tIfS, tRet, tRetN, tDrop, tAsg, gName, gNil, gCons, gSub, gTup, tVar, tC, tOp, tUn, rI, rI0, rU, rEq, rNe, tTest, tB, tChain, tChain3, rSortedB, rSortedP, rSortedD, rListD, rDictP, iDict, tThaw, rDClear, tDisp, tPairs, kit_dict_dict, rIndex, rIsX, rIsXT, rIsXd, rIsXV, rIsXTd, rIsO, rIxS2, rSlS, rFind, rIndexT, rLenT, rStrT, rIntT, rAddT, rMulT, rInT, iTxt, tx_str, tTxts, kit_str_str, rIn, tListRev, tAug, ipI, tAnd, tOr, tNot, tAndV, tOrV, tNotV, tIf, tIsN, tNotN, tCB, tNil, tCons, tTup, tLst, tTupG, tLstG, tCall, tRaise, tTryC, tXF, sXF, tRaiseI, tTryA, tTryE, thC, thA, thNil, Ends.less, tFor_eq, tComp_eq, iList, iTup, iRng1, iRng2, iEnum, iZip, tNoIf, rIxL, rIxT, rSetL, tBM, tBM0, rAppend, tFld, sFld, tMake, tMakeN, tMethD, tTryM, tNever, rExtend, rGeL, rInS, rClear, tDNewK, tDIn, tDNotIn, tDGet, sDPut, rEqL, rEqS, rBest, rRep, rCat, tSl, tPart, tNoPart, rSlL, capt, CDiv, scal_ii, scal_bb, scal_ss, scal_nn, scal_in, scal_ni, List.map_cons, List.map_nil, List.append_nil, List.nil_append, List.cons_append, List.length_cons, List.length_nil, List.length_map, Int.zero_add, List.getElem?_cons_zero, List.getElem?_cons_succ, List.set_cons_zero, List.set_cons_succ, Option.some.injEq, Option.join_some, Option.bind_some, Option.bind_none, V.int.injEq, V.bl.injEq, V.ref.injEq, V.str.injEq, V.ty.injEq, List.cons.injEq, and_true, true_and, exists_and_left, exists_eq_left', exists_eq_left, exists_eq_right, exists_eq_right', exists_eq, exists_eq', exists_const, eq_self, decide_true, decide_false, Option.isSome_none, Option.isSome_some, Bool.false_eq_true, Bool.not_true, Bool.not_false, reduceIte, reduceCtorEq, false_and, and_false, or_false, false_or, start_def, cxOf_K, cxComp_K, and_assoc, tyOf_int, kit_int_int, kit_int_bool, kit_list_list, rep0, rep1, rep2, rep3, rep4, rep5, rep6, rep7, rep8, rep9, rep10, rep11, rep12, rLen, rIsi, rListOf, rTupOf, rSum, rAll, rAny, rSorted, kit_tuple_tuple, Nat.sub_self, Nat.reduceAdd, Nat.reduceSub, Nat.reduceEqDiff])

section
variable {P : Program} {w : World} {K : PySem.W.Frag} {mg : Str → Option Value} {base : Heap}
def DoneB (OOB : Addr) (S : Cs) (C : Addr) (sp : Sp) : Prop := ∃ c, C = clsC S c ∧ sp = spDoneB OOB S c
def UndoneB (S : Cs) (C : Addr) (sp : Sp) : Prop := ∃ c, C = clsC S c ∧ sp = spUndoneB S c
def BallsB (S : Cs) (C : Addr) (sp : Sp) : Prop := ∃ c, C = clsC S c ∧ sp = spBallsB S c
/-- one change, or a row of them -/
def IsO (S : Cs) (H : Hp) (a : Addr) (cs : List Ch) : Prop := (∃ c, cs = [c] ∧ IsB S H a c) ∨ IsR S H a cs
theorem IsO.same {S : Cs} {H H' : Hp} {a : Addr} {cs : List Ch} (h : IsO S H a cs) (s : Same H H') : IsO S H' a cs := by
  rcases h with ⟨c, e, h⟩ | h
  · exact .inl ⟨c, e, h.same s⟩
  · exact .inr (h.same s)
def Os (S : Cs) (H : Hp) (os : List Addr) (css : List (List Ch)) : Prop := os.length = css.length ∧ ∀ (i : Nat) (a : Addr) (cs : List Ch), os[i]? = some a → css[i]? = some cs → IsO S H a cs
theorem Os.same {S : Cs} {H H' : Hp} {os : List Addr} {css : List (List Ch)} (h : Os S H os css) (s : Same H H') : Os S H' os css := ⟨h.1, fun i a c e1 e2 => (h.2 i a c e1 e2).same s⟩
theorem Os.nil {S : Cs} {H : Hp} : Os S H [] [] := ⟨rfl, fun i a c e => by simp at e⟩
theorem Os.snoc {S : Cs} {H : Hp} {os : List Addr} {css : List (List Ch)} {a : Addr} {cs : List Ch} (h : Os S H os css) (g : IsO S H a cs) : Os S H (os ++ [a]) (css ++ [cs]) := ⟨by rw [List.length_append, List.length_append, h.1]; rfl, fun i a' c e1 e2 => by
  by_cases hi : i < os.length
  · rw [List.getElem?_append_left hi] at e1
    rw [List.getElem?_append_left (by rw [← h.1]; exact hi)] at e2
    exact h.2 i a' c e1 e2
  · rw [List.getElem?_append_right (by omega)] at e1
    rw [List.getElem?_append_right (by rw [← h.1]; omega), ← h.1] at e2
    by_cases h0 : i - os.length = 0
    · rw [h0] at e1 e2
      cases e1
      cases e2
      exact g
    · obtain ⟨k, hk⟩ : ∃ k, i - os.length = k + 1 := ⟨i - os.length - 1, by omega⟩
      rw [hk] at e1
      simp at e1⟩
/-- the classes and how they stand to one another -/
structure Kinds (K : PySem.W.Frag) (S : Cs) : Prop where
  oc : ∀ C ∈ [S.c, S.t, S.l, S.s, S.n, S.m, S.g, S.r], OCls K C
  kit : ∀ C ∈ [S.c, S.t, S.l, S.s, S.n, S.m, S.g, S.r], ∀ D ∈ [S.c, S.t, S.l, S.s, S.n, S.m, S.g, S.r], PySem.W.kitOne K (.ref C) (.ref D) = some (decide (C = D) || decide (D = S.c))
  nd : [S.c, S.t, S.l, S.s, S.n, S.m, S.g, S.r].Nodup
theorem Kinds.memB {S : Cs} (c : Ch) : clsC S c ∈ [S.c, S.t, S.l, S.s, S.n, S.m, S.g, S.r] := by cases c <;> simp [clsC]
theorem Kinds.notR {S : Cs} (k : Kinds K S) (c : Ch) : clsC S c ≠ S.r := by
  have nd := k.nd
  simp only [List.nodup_cons, List.mem_cons, List.not_mem_nil, or_false, not_or, List.nodup_nil, and_true, not_false_eq_true] at nd
  obtain ⟨⟨_, _, _, _, _, _, a7⟩, ⟨_, _, _, _, _, b6⟩, ⟨_, _, _, _, c5⟩, ⟨_, _, _, d4⟩, ⟨_, _, e3⟩, ⟨_, f2⟩, g1⟩ := nd
  cases c <;> assumption
theorem Kinds.rc {S : Cs} (k : Kinds K S) : S.r ≠ S.c := by
  have nd := k.nd
  simp only [List.nodup_cons, List.mem_cons, List.not_mem_nil, or_false, not_or, List.nodup_nil, and_true, not_false_eq_true] at nd
  exact fun e => nd.1.2.2.2.2.2.2 e.symm

abbrev s_Changes___init__ : Stmt := inClass (top 38) 0
theorem sc_Changes___init__ : FnScope ["self", "rows", "steps", "change"] ["self", "rows"] (defScope s_Changes___init__) := ⟨rfl, rfl, rfl, by decide +kernel, rfl, by decide +kernel, by decide +kernel⟩
def spInitR (S : Cs) : Sp := fun vs H Q _ => ∃ (H0 : Hp) (x dx l : Addr) (os : List Addr) (css : List (List Ch)), vs = [.ref x, .ref l] ∧ Same H0 H ∧ H0 x = none ∧ H x = some (.ins S.r dx []) ∧ H0 l = some (.lst (os.map V.ref)) ∧ Os S H0 os css ∧ css.flatten.length ≤ 1000 ∧ ∀ H', Same H0 H' → IsR S H' x css.flatten → Q .non H'
theorem ok_Changes_init {f : Addr} {fd : FuncData} {S : Cs} (h : Fun K "__init__" "Changes.__init__" s_Changes___init__ f fd) (B : Blt mg) (kd : Kinds K S) (cl : Cls K S.r) (na : NoAttr K S.r "steps") (m_Changes : mg "Changes" = some (.ref S.r)) : FnOk P w K mg base (CXf P w) 1 f fd ["self", "rows"] (spInitR S) := by
  refine h.okX sc_Changes___init__ (fun vs H Q E h => ?_) (fun cdv A outer s H vs Q E hr h => ?_)
  · obtain ⟨H0, x, dx, l, os, css, rfl, _⟩ := h
    rfl
  · obtain ⟨H0, x, dx, l, os, css, rfl, s0, hx0, hx, hl, O, hz, q⟩ := h
    refine ⟨_, (pss_cons (ps_set (i := 2) sc_Changes___init__.nd rfl (by first | exact Or.inl rfl | exact Or.inr rfl) (pe_lst pa_nil))
      (pss_cons (ps_for ownX rfl (pi_listK (K := K) rfl (pv 1)) (pg_name (i := 3) sc_Changes___init__.nd rfl (by first | exact Or.inl rfl | exact Or.inr rfl)) (pss_one (ps_if (pt_val (pe_callB (call_isO (K := K) rfl) rfl B.isinstance_ bt_isinstance (pa_cons (pv 3) (pa_cons (pe_cls m_Changes) pa_nil)))) (pss_one (ps_expr (pe_bmK (K := K) rfl PySem.F.plainAttrs_list PySem.F.slot_list_extend PySem.F.type_list_extend (mt_extendT (K := K) rfl) (pv 2) (pa_cons (pe_fldK (K := K) rfl (pv 3)) pa_nil)))) (pss_one (ps_expr (pe_bmK (K := K) rfl PySem.F.plainAttrs_list PySem.F.slot_list_append PySem.F.type_list_append mt_append (pv 2) (pa_cons (pv 3) pa_nil)))))))
      (pss_one (ps_fldK (K := K) rfl (pv 0) (pe_callTy (call_tupK (K := K) rfl) rfl B.tuple_ bt_tuple (pa_cons (pv 2) pa_nil)))))), ?_⟩
    walk_at "rd"
    refine ⟨Nat.zero_le _, fun p hp => ⟨⟨_, .of ((same_upd hp) _ _ (s0 _ _ hl))⟩, ?_⟩⟩
    have lenO := O.1
    refine for_list (xs := os.map V.ref) (fun i σ H2 => i ≤ os.length ∧ (∃ o, σ = [some (V.ref x), some (V.ref l), some (V.ref p), o]) ∧ Same H H2 ∧ ∃ ts, H2 p = some (.lst (ts.map V.ref)) ∧ Bs S H0 ts (css.take i).flatten) ⟨Nat.zero_le _, ⟨_, rfl⟩, same_upd hp, [], upd_same, .nil⟩ (fun i σ H2 _ pv => .of (pv.2.2.1 _ _ (s0 _ _ hl))) (fun i y σ H2 hy pv => ?_) (fun σ H2 pv => ?_)
    · obtain ⟨hi, ⟨o, rfl⟩, s2, ts, hts, bs⟩ := pv
      obtain ⟨a, ea, rfl⟩ := refs_at hy
      have hlt := (List.getElem?_eq_some_iff.mp ea).1
      have hcs : i < css.length := by rw [← lenO]; exact hlt
      have ecs : css[i]? = some css[i] := by simp [hcs]
      have io := O.2 i a _ ea ecs
      have s3 := s0.trans s2
      have put : ∀ zs, Same H (upd H2 p (.lst zs)) := fun zs b u e => by rw [upd_ne (ne_of_none e hp)]; exact s2 _ _ e
      have tk : (css.take (i + 1)).flatten = (css.take i).flatten ++ css[i] := by
        rw [List.take_succ, ecs, List.flatten_append]
        simp
      have tz : (css.take i).flatten.length + css[i].length ≤ 1000 := by
        have e1 : css.flatten = (css.take i).flatten ++ (css.drop i).flatten := by rw [← List.flatten_append, List.take_append_drop]
        have e2 : css.drop i = css[i] :: css.drop (i + 1) := List.drop_eq_getElem_cons hcs
        rw [e1, e2, List.flatten_cons, List.length_append, List.length_append] at hz
        omega
      have lts : ts.length = (css.take i).flatten.length := bs.1
      walk_at "rd"
      rcases io with ⟨c, ec, hb⟩ | ⟨dc, t, us, hc, ht, us2⟩
      · obtain ⟨dc, hc⟩ := id hb
        refine ⟨_, (kd.oc _ (Kinds.memB c)).ty (s3 _ _ hc), _, kd.kit _ (Kinds.memB c) _ (by simp), ?_⟩
        rw [decide_eq_false (kd.notR c), decide_eq_false kd.rc]
        walk_at "rd"
        rw [ec] at tk tz
        refine ⟨.inl ⟨rfl, _, .of hts⟩, _, hts, small1000 (by rw [List.length_map, lts]; simp only [List.length_cons, List.length_nil] at tz; omega), hlt, put _, ts ++ [a], by rw [upd_same, List.map_append]; rfl, ?_⟩
        rw [tk]
        exact bs.app (.one hb)
      · refine ⟨_, (kd.oc _ (by simp)).ty (s3 _ _ hc), _, kd.kit _ (by simp) _ (by simp), ?_⟩
        rw [decide_eq_true rfl, Bool.true_or, if_pos rfl]
        have lus : us.length = css[i].length := us2.1
        refine ⟨.inl ⟨rfl, _, .of hts⟩, _, _, _, s3 _ _ hc, cl, na, .ref t, by rfl, t, rfl, _, hts, _, .of (s3 _ _ ht), Nat.le_of_lt (small1000 (by rw [List.length_map, List.length_map, lts, lus]; exact tz)), hlt, put _, ts ++ us, by rw [upd_same, List.map_append], ?_⟩
        rw [tk]
        exact bs.app us2
    · obtain ⟨hi, ⟨o, rfl⟩, s2, ts, hts, bs⟩ := pv
      rw [List.length_map, lenO, List.take_of_length_le (Nat.le_refl _)] at bs
      walk_at "rd"
      refine ⟨_, .inl ⟨.of hts, fun tp htp => ?_⟩⟩
      have s3 := s0.trans s2
      refine ⟨S.r, dx, [], (same_upd htp) _ _ (s2 _ _ hx), cl, na, by decide, ?_⟩
      have sH : Same H0 (upd (upd H2 tp (.tup (ts.map V.ref))) x (.ins S.r dx [("steps", .ref tp)])) := fun b u e => by
        rw [upd_ne (ne_of_none e hx0), upd_ne (ne_of_none (s3 _ _ e) htp)]
        exact s3 _ _ e
      exact q _ sH ⟨dx, tp, ts, upd_same, by rw [upd_ne (fun e => by rw [e, s2 _ _ hx] at htp; cases htp)]; exact upd_same, bs.same sH⟩

theorem flat1 {α : Type} : ∀ l : List α, (l.map fun c => [c]).flatten = l
  | [] => rfl
  | x :: l => by rw [List.map_cons, List.flatten_cons, flat1 l]; rfl
theorem Bs.rev {S : Cs} {H : Hp} {ts : List Addr} {cs : List Ch} (h : Bs S H ts cs) : Bs S H ts.reverse cs.reverse := ⟨by rw [List.length_reverse, List.length_reverse, h.1], fun i a c e1 e2 => by
  have i1 := (List.getElem?_eq_some_iff.mp e1).1
  have i2 := (List.getElem?_eq_some_iff.mp e2).1
  rw [List.length_reverse] at i1 i2
  rw [List.getElem?_reverse i1] at e1
  rw [List.getElem?_reverse i2, ← h.1] at e2
  exact h.2 _ a c e1 e2⟩
theorem fld_done (c : Ch) : (fldC c).lookup ("done" : Str) = none := by cases c <;> rfl
theorem fld_undone (c : Ch) : (fldC c).lookup ("undone" : Str) = none := by cases c <;> rfl
theorem fld_balls (c : Ch) : (fldC c).lookup ("balls" : Str) = none := by cases c <;> rfl
abbrev s_Changes_done : Stmt := inClass (top 38) 1
theorem sc_Changes_done : FnScope ["self", "pattern", "answer", "change"] ["self", "pattern"] (defScope s_Changes_done) := ⟨rfl, rfl, rfl, by decide +kernel, rfl, by decide +kernel, by decide +kernel⟩
def spDoneR (OOB : Addr) (S : Cs) : Sp := fun vs H Q E => ∃ (o a : Addr) (cs : List Ch) (ns : List Int), vs = [.ref o, .ref a] ∧ IsR S H o cs ∧ H a = some (.lst (ns.map V.int)) ∧ Pat ns ∧ (∀ ms, Run cs ns ms → ∀ H' D, Same H H' → H D = none → H' D = some (.lst (ms.map V.int)) → Q (.ref D) H') ∧ ((∀ ms, ¬ Run cs ns ms) → ∀ H', Same H H' → E (.ref OOB) none H')
theorem ok_Changes_done {f OOB : Addr} {fd : FuncData} {S : Cs} (h : Fun K "done" "Changes.done" s_Changes_done f fd) (cl : Cls K S.r) (na : NoAttr K S.r "steps") (o_unchanged : Ok P w K mg base "unchanged" ["pattern"] 7 spUnchanged) (d_done : MsOk P w K mg base "done" 8 (DoneB OOB S)) : FnOk P w K mg base (CXf P w) 9 f fd ["self", "pattern"] (spDoneR OOB S) := by
  refine h.okX sc_Changes_done (fun vs H Q E h => ?_) (fun cdv A outer s H vs Q E hr h => ?_)
  · obtain ⟨o, a, cs, ns, rfl, _⟩ := h
    rfl
  · obtain ⟨o, a, cs, ns, rfl, ⟨dx, t, ts, ho, ht, bs⟩, ha, p, q1, q2⟩ := h
    refine ⟨_, (pss_cons (ps_set (i := 2) sc_Changes_done.nd rfl (by first | exact Or.inl rfl | exact Or.inr rfl) (pe_callO o_unchanged (hr.mono (by decide)) rfl passX (pa_cons (pv 1) pa_nil)))
      (pss_cons (ps_for ownX rfl (pi_tupK (K := K) rfl (pe_fldK (K := K) rfl (pv 0))) (pg_name (i := 3) sc_Changes_done.nd rfl (by first | exact Or.inl rfl | exact Or.inr rfl)) (pss_one (ps_set (i := 2) sc_Changes_done.nd rfl (by first | exact Or.inl rfl | exact Or.inr rfl) (pe_methD d_done (hr.mono (by decide)) passX (pv 3) (pa_cons (pv 2) pa_nil)))))
      (pss_one (ps_ret (pv 2))))), ?_⟩
    walk_at "rd"
    refine ⟨a, ns, rfl, ha, p, fun H1 D1 s1 hD1 h1 => ⟨S.r, dx, _, s1 _ _ ho, cl, na, .ref t, by rfl, t, rfl, ⟨_, .of (s1 _ _ ht)⟩, ?_⟩⟩
    refine for_tup (xs := ts.map V.ref) (fun i σ H2 => i ≤ cs.length ∧ Same H H2 ∧ ∃ D o' ms, σ = [some (V.ref o), some (V.ref a), some (V.ref D), o'] ∧ H D = none ∧ H2 D = some (.lst (ms.map V.int)) ∧ Run (cs.take i) ns ms) ⟨Nat.zero_le _, s1, D1, _, ns, rfl, hD1, h1, .nil⟩ (fun i σ H2 _ pv => .of (pv.2.1 _ _ ht)) (fun i y σ H2 hy pv => ?_) (fun σ H2 pv => ?_)
    · obtain ⟨hi, s2, D, o', ms, rfl, hD, h2, r⟩ := pv
      obtain ⟨b, c, rfl, eb, ec, ib⟩ := bs.at_ hy
      have hlt := (List.getElem?_eq_some_iff.mp ec).1
      have pm := r.pat p
      obtain ⟨dc, hb⟩ := id (ib.same s2)
      walk_at "rd"
      refine ⟨_, dc, _, hb, fld_done c, _, ⟨c, rfl, rfl⟩, b, D, ms, rfl, ib.same s2, h2, pm, fun ok H3 D3 s3 hD3 h3 => ⟨hlt, s2.trans s3, D3, rfl, s2.free hD3, _, h3, ?_⟩, fun no H3 s3 => q2 (Run.stuck ec r no) _ (s2.trans s3)⟩
      rw [List.take_succ, ec]
      exact r.snoc ok
    · obtain ⟨hi, s2, D, o', ms, rfl, hD, h2, r⟩ := pv
      rw [List.length_map, bs.1, List.take_of_length_le (Nat.le_refl _)] at r
      walk_at "rd"
      exact q1 ms r _ D s2 hD h2

abbrev s_Changes_balls : Stmt := inClass (top 38) 3
theorem sc_Changes_balls : FnScope ["self", "many", "answer", "change"] ["self", "many"] (defScope s_Changes_balls) := ⟨rfl, rfl, rfl, by decide +kernel, rfl, by decide +kernel, by decide +kernel⟩
def spBallsR (S : Cs) : Sp := fun vs H Q _ => ∃ (o : Addr) (cs : List Ch) (m : Int), vs = [.ref o, .int m] ∧ IsR S H o cs ∧ Q (.int (cs.foldl (fun b c => ballsC c b) m)) H
theorem ok_Changes_balls {f : Addr} {fd : FuncData} {S : Cs} (h : Fun K "balls" "Changes.balls" s_Changes_balls f fd) (cl : Cls K S.r) (na : NoAttr K S.r "steps") (d_balls : MsOk P w K mg base "balls" 1 (BallsB S)) : FnOk P w K mg base (CXf P w) 2 f fd ["self", "many"] (spBallsR S) := by
  refine h.okX sc_Changes_balls (fun vs H Q E h => ?_) (fun cdv A outer s H vs Q E hr h => ?_)
  · obtain ⟨o, cs, m, rfl, _⟩ := h
    rfl
  · obtain ⟨o, cs, m, rfl, ⟨dx, t, ts, ho, ht, bs⟩, q⟩ := h
    refine ⟨_, (pss_cons (ps_set (i := 2) sc_Changes_balls.nd rfl (by first | exact Or.inl rfl | exact Or.inr rfl) (pv 1))
      (pss_cons (ps_for ownX rfl (pi_tupK (K := K) rfl (pe_fldK (K := K) rfl (pv 0))) (pg_name (i := 3) sc_Changes_balls.nd rfl (by first | exact Or.inl rfl | exact Or.inr rfl)) (pss_one (ps_set (i := 2) sc_Changes_balls.nd rfl (by first | exact Or.inl rfl | exact Or.inr rfl) (pe_methD d_balls (hr.mono (by decide)) passX (pv 3) (pa_cons (pv 2) pa_nil)))))
      (pss_one (ps_ret (pv 2))))), ?_⟩
    walk_at "rd"
    refine ⟨S.r, dx, _, ho, cl, na, .ref t, by rfl, t, rfl, ⟨_, .of ht⟩, ?_⟩
    refine for_tup (xs := ts.map V.ref) (fun i σ H2 => i ≤ cs.length ∧ H2 = H ∧ ∃ o', σ = [some (V.ref o), some (V.int m), some (V.int ((cs.take i).foldl (fun b c => ballsC c b) m)), o']) ⟨Nat.zero_le _, rfl, _, rfl⟩ (fun i σ H2 _ pv => by rw [pv.2.1]; exact .of ht) (fun i y σ H2 hy pv => ?_) (fun σ H2 pv => ?_)
    · obtain ⟨hi, rfl, o', rfl⟩ := pv
      obtain ⟨b, c, rfl, eb, ec, ib⟩ := bs.at_ hy
      have hlt := (List.getElem?_eq_some_iff.mp ec).1
      obtain ⟨dc, hb⟩ := id ib
      walk_at "rd"
      refine ⟨_, dc, _, hb, fld_balls c, _, ⟨c, rfl, rfl⟩, b, _, rfl, ib, hlt, ?_⟩
      rw [List.take_succ, ec, List.foldl_append]
      exact ⟨rfl, rfl⟩
    · obtain ⟨hi, rfl, o', rfl⟩ := pv
      rw [List.length_map, bs.1, List.take_of_length_le (Nat.le_refl _)]
      walk_at "rd"
      exact q

abbrev s_Changes_undone : Stmt := inClass (top 38) 2
theorem sc_Changes_undone : FnScope ["self"] ["self"] (defScope s_Changes_undone) := ⟨rfl, rfl, rfl, by decide +kernel, rfl, by decide +kernel, by decide +kernel⟩
def spUndoneR (S : Cs) : Sp := fun vs H Q _ => ∃ (o : Addr) (cs : List Ch), vs = [.ref o] ∧ IsR S H o cs ∧ cs.length ≤ 1000 ∧ ∀ H' a, Same H H' → IsR S H' a (cs.reverse.map undoC) → Q (.ref a) H'
theorem ok_Changes_undone {f : Addr} {fd : FuncData} {S : Cs} (h : Fun K "undone" "Changes.undone" s_Changes_undone f fd) (b_reversed : mg "reversed" = none) (cl : Cls K S.r) (na : NoAttr K S.r "steps") (mk_Changes : MkOk P w K mg base "Changes" S.r 1 (spInitR S)) (d_undone : MsOk P w K mg base "undone" 8 (UndoneB S)) : FnOk P w K mg base (CXf P w) 9 f fd ["self"] (spUndoneR S) := by
  refine h.okX sc_Changes_undone (fun vs H Q E h => ?_) (fun cdv A outer s H vs Q E hr h => ?_)
  · obtain ⟨o, cs, rfl, _⟩ := h
    rfl
  · obtain ⟨o, cs, rfl, ⟨dx, t, ts, ho, ht, bs⟩, hz, q⟩ := h
    refine ⟨_, (pss_one (ps_ret (pe_makeK mk_Changes (hr.mono (by decide)) rfl passX (pa_cons (pe_comp (N' := ["change"]) (π := [none]) (CompScope.of (by kernel_rfl)) rfl (pi_revTK (K := K) rfl rfl b_reversed (pa_cons (pe_fldK (K := K) rfl (pv 0)) pa_nil)) (fun _ _ _ _ _ => (pg_name (i := 0) (show List.Nodup (["change"] : List Str) by decide +kernel) rfl (by first | exact Or.inl rfl | exact Or.inr rfl))) (fun _ _ _ _ _ => pifs_nil) (fun _ _ _ _ _ => (pe_methD0 d_undone (hr.mono (by decide)) passE0 (pv 0)))) pa_nil)))), ?_⟩
    walk_at "rd"
    refine ⟨S.r, dx, _, ho, cl, na, .ref t, by rfl, t, rfl, _, .of ht, ?_⟩
    have lts := bs.1
    refine comp_revT (by rw [List.length_map]; omega) (fun i ys σ H2 => i ≤ cs.length ∧ (∃ o', σ = [o']) ∧ Same H H2 ∧ ∃ us, ys = us.map V.ref ∧ Os S H2 us (((cs.reverse.take i).map undoC).map fun c => [c])) ⟨Nat.zero_le _, ⟨_, rfl⟩, Same.refl _, [], rfl, .nil⟩ (fun i ys σ H2 pv => ?_) (fun i ys σ H2 _ pv => .of (pv.2.2.1 _ _ ht)) (fun i ys σ H2 y hy pv => ?_) (fun ys σ H2 D pv hD => ?_)
    · obtain ⟨hi, _, _, us, rfl, O⟩ := pv
      rw [List.length_map, O.1, List.length_map, List.length_map, List.length_take, List.length_reverse]
      omega
    · obtain ⟨hi, ⟨o', rfl⟩, s2, us, rfl, O⟩ := pv
      obtain ⟨b, c, rfl, eb, ec, ib⟩ := bs.rev.at_ (by rw [List.map_reverse]; exact hy)
      have hlt := (List.getElem?_eq_some_iff.mp ec).1
      rw [List.length_reverse] at hlt
      obtain ⟨dc, hb⟩ := id (ib.same s2)
      walk_at "rd"
      refine ⟨_, dc, _, hb, fld_undone c, _, ⟨c, rfl, rfl⟩, b, rfl, ib.same s2, fun H3 a s3 hu => ⟨hlt, s2.trans s3, us ++ [a], by rw [List.map_append]; rfl, ?_⟩⟩
      rw [List.take_succ, ec, List.map_append, List.map_append]
      exact (O.same s3).snoc (.inl ⟨_, rfl, hu⟩)
    · obtain ⟨hi, _, s2, us, rfl, O⟩ := pv
      rw [List.length_map, lts, ← List.length_reverse (as := cs), List.take_of_length_le (Nat.le_refl _)] at O
      intro x dx' hx hd ne
      refine ⟨_, x, dx', D, us, _, rfl, made hx hd, hx, upd_same, upd_same, O.same (same_upd hD), ?_, fun H' s' r => ⟨rfl, q H' x ((s2.trans (same_upd hD)).trans s') ?_⟩⟩
      · rw [flat1, List.length_map, List.length_reverse]
        exact hz
      · rw [flat1] at r
        exact r
end
end Tb

namespace Tb
open PySem L2 TB
local macro_rules | `(tactic| walk_at "rd") => `(tactic| try simp only [rExtendT, rCount, iRevT, tSeq, tNext, tIfS, tRet, tRetN, tDrop, tAsg, gName, gNil, gCons, gSub, gTup, tVar, tC, tOp, tUn, rI, rI0, rU, rEq, rNe, tTest, tB, tChain, tChain3, rSortedB, rSortedP, rSortedD, rListD, rDictP, iDict, tThaw, rDClear, tDisp, tPairs, kit_dict_dict, rIndex, rIsX, rIsXT, rIsXd, rIsXV, rIsXTd, rIsO, rIxS2, rSlS, rFind, rIndexT, rLenT, rStrT, rIntT, rAddT, rMulT, rInT, iTxt, tx_str, tTxts, kit_str_str, rIn, tListRev, tAug, ipI, tAnd, tOr, tNot, tAndV, tOrV, tNotV, tIf, tIsN, tNotN, tCB, tNil, tCons, tTup, tLst, tTupG, tLstG, tCall, tRaise, tTryC, tXF, sXF, tRaiseI, tTryA, tTryE, thC, thA, thNil, Ends.less, tFor_eq, tComp_eq, iList, iTup, iRng1, iRng2, iEnum, iZip, tNoIf, rIxL, rIxT, rSetL, tBM, tBM0, rAppend, tFld, sFld, tMake, tMakeN, tMethD, tTryM, tNever, rExtend, rGeL, rInS, rClear, tDNewK, tDIn, tDNotIn, tDGet, sDPut, rEqL, rEqS, rBest, rRep, rCat, tSl, tPart, tNoPart, rSlL, capt, CDiv, scal_ii, scal_bb, scal_ss, scal_nn, scal_in, scal_ni, List.map_cons, List.map_nil, List.append_nil, List.nil_append, List.cons_append, List.length_cons, List.length_nil, List.length_map, Int.zero_add, List.getElem?_cons_zero, List.getElem?_cons_succ, List.set_cons_zero, List.set_cons_succ, Option.some.injEq, Option.join_some, Option.bind_some, Option.bind_none, V.int.injEq, V.bl.injEq, V.ref.injEq, V.str.injEq, V.ty.injEq, List.cons.injEq, and_true, true_and, exists_and_left, exists_eq_left', exists_eq_left, exists_eq_right, exists_eq_right', exists_eq, exists_eq', exists_const, eq_self, decide_true, decide_false, Option.isSome_none, Option.isSome_some, Bool.false_eq_true, Bool.not_true, Bool.not_false, reduceIte, reduceCtorEq, false_and, and_false, or_false, false_or, start_def, cxOf_K, cxComp_K, and_assoc, tyOf_int, kit_int_int, kit_int_bool, kit_list_list, rep0, rep1, rep2, rep3, rep4, rep5, rep6, rep7, rep8, rep9, rep10, rep11, rep12, rLen, rIsi, rListOf, rTupOf, rSum, rAll, rAny, rSorted, kit_tuple_tuple, Nat.sub_self, Nat.reduceAdd, Nat.reduceSub, Nat.reduceEqDiff])

section
variable {P : Program} {w : World} {K : PySem.W.Frag} {mg : Str → Option Value} {base : Heap}
def bi (c : Int) (n : Nat) : Int := c / 7 % ((n : Int) - 1)
def bj (c : Int) (n : Nat) : Int := bi c n + 1 + c / 133 % ((n : Int) - 1 - bi c n)
theorem bij {c : Int} {n : Nat} (h : 1 < n) : 0 ≤ bi c n ∧ bi c n < bj c n ∧ bj c n < n := by
  have a0 := Int.emod_nonneg (c / 7) (show (n : Int) - 1 ≠ 0 by omega)
  have a1 := Int.emod_lt_of_pos (c / 7) (show (0 : Int) < (n : Int) - 1 by omega)
  have b0 := Int.emod_nonneg (c / 133) (show (n : Int) - 1 - bi c n ≠ 0 by unfold bi; omega)
  have b1 := Int.emod_lt_of_pos (c / 133) (show (0 : Int) < (n : Int) - 1 - bi c n by unfold bi; omega)
  unfold bj
  unfold bi at *
  omega
/-- the change of a cell -/
def chBy (c : Int) (n : Nat) : Ch :=
  if c % 7 = 0 then .turn (c / 7 % 19 - 9) else if c % 7 = 1 then .lift (c / 7 % 19 - 9) else if c % 7 = 2 ∧ 1 < n then .swap (bi c n) (bj c n) else if c % 7 = 3 ∧ 1 < n then .nb (c / 7 % (n : Int)) else if c % 7 = 4 then .mir else if c % 7 = 5 then .gap (c / 7 % 19 - 9) else .idc
theorem chBy_little {c : Int} {n : Nat} (lo : 1 ≤ n) : Little n (chBy c n) := by
  have k0 := Int.emod_nonneg (c / 7) (show (19 : Int) ≠ 0 by decide)
  have k1 := Int.emod_lt_of_pos (c / 7) (show (0 : Int) < 19 by decide)
  have n0 := Int.emod_nonneg (c / 7) (show (n : Int) ≠ 0 by omega)
  have n1 := Int.emod_lt_of_pos (c / 7) (show (0 : Int) < n by omega)
  unfold chBy
  split
  · show -9 ≤ _ ∧ _ ≤ (9 : Int); omega
  · split
    · show -9 ≤ _ ∧ _ ≤ (9 : Int); omega
    · split
      · rename_i h; exact bij h.2
      · split
        · rename_i h; exact ⟨n0, n1, h.2⟩
        · split
          · trivial
          · split
            · show -9 ≤ _ ∧ _ ≤ (9 : Int); omega
            · trivial

abbrev s__law_beats_by : Stmt := top 46
theorem sc__law_beats_by : FnScope ["_law_cell", "_law_size", "_law_i"] ["_law_cell", "_law_size"] (defScope s__law_beats_by) := ⟨rfl, rfl, rfl, by decide +kernel, rfl, by decide +kernel, by decide +kernel⟩
def spBeatsBy : Sp := fun vs H Q _ => ∃ (c : Int) (n : Nat), vs = [.int c, .int n] ∧ 1 < n ∧ ∀ H' T, Same H H' → H' T = some (.tup [.int (bi c n), .int (bj c n)]) → Q (.ref T) H'
theorem ok_beats_by {f : Addr} {fd : FuncData} (h : Has K mg "_law_beats_by" s__law_beats_by ["_law_cell", "_law_size"] f fd) : Ok P w K mg base "_law_beats_by" ["_law_cell", "_law_size"] 1 spBeatsBy := by
  refine h.ok sc__law_beats_by (fun vs H Q E h => ?_) (fun cdv A outer s H vs Q E hr h => ?_)
  · obtain ⟨c, n, rfl, _⟩ := h
    rfl
  · obtain ⟨c, n, rfl, hn, q⟩ := h
    refine ⟨_, (pss_cons (ps_set (i := 2) sc__law_beats_by.nd rfl (by first | exact Or.inl rfl | exact Or.inr rfl) (pe_op op_mod (pe_op op_fdiv (pv 0) pe_int) (pe_op op_sub (pv 1) pe_int)))
      (pss_one (ps_ret (pe_tup (pa_cons (pv 2) (pa_cons (pe_op op_add (pe_op op_add (pv 2) pe_int) (pe_op op_mod (pe_op op_fdiv (pv 0) pe_int) (pe_op op_sub (pe_op op_sub (pv 1) pe_int) (pv 2)))) pa_nil)))))), ?_⟩
    walk_at "rd"
    have b := bij (c := c) hn
    have b1 := Int.emod_lt_of_pos (c / 7) (show (0 : Int) < (n : Int) - 1 by omega)
    exact ⟨by decide, by decide, by omega, by decide, by decide, by omega, by decide, fun p hp => q _ p (same_upd hp) upd_same⟩

abbrev s__law_one_by : Stmt := top 47
theorem sc__law_one_by : FnScope ["_law_cell", "_law_size", "_law_kind", "_law_k", "_law_pair"] ["_law_cell", "_law_size"] (defScope s__law_one_by) := ⟨rfl, rfl, rfl, by decide +kernel, rfl, by decide +kernel, by decide +kernel⟩
def spOneBy (S : Cs) : Sp := fun vs H Q _ => ∃ (c : Int) (n : Nat), vs = [.int c, .int n] ∧ 1 ≤ n ∧ ∀ H' a, Same H H' → IsB S H' a (chBy c n) → Q (.ref a) H'
theorem ok_one_by {f : Addr} {fd : FuncData} {S : Cs} (h : Has K mg "_law_one_by" s__law_one_by ["_law_cell", "_law_size"] f fd) (m_Change : mg "Change" = some (.ref S.c)) (c_Change : OCls K S.c) (i_Change : PySem.W.findIn K (.ref S.c) "__init__" = some (some (.builtin "object.__init__"))) (m_Mirror : mg "Mirror" = some (.ref S.m)) (c_Mirror : OCls K S.m) (i_Mirror : PySem.W.findIn K (.ref S.m) "__init__" = some (some (.builtin "object.__init__")))
    (mk_Turn : MkOk P w K mg base "Turn" S.t 1 (spSet1 S.t "k")) (mk_Lift : MkOk P w K mg base "Lift" S.l 1 (spSet1 S.l "k")) (mk_Swap : MkOk P w K mg base "Swap" S.s 1 (spSet2 S.s)) (mk_Neighbours : MkOk P w K mg base "Neighbours" S.n 1 (spSet1 S.n "k")) (mk_Gaps : MkOk P w K mg base "Gaps" S.g 1 (spSet1 S.g "h")) (o__law_beats_by : Ok P w K mg base "_law_beats_by" ["_law_cell", "_law_size"] 1 spBeatsBy) : Ok P w K mg base "_law_one_by" ["_law_cell", "_law_size"] 3 (spOneBy S) := by
  refine h.ok sc__law_one_by (fun vs H Q E h => ?_) (fun cdv A outer s H vs Q E hr h => ?_)
  · obtain ⟨c, n, rfl, _⟩ := h
    rfl
  · obtain ⟨c, n, rfl, lo, q⟩ := h
    refine ⟨_, (pss_cons (ps_set (i := 2) sc__law_one_by.nd rfl (by first | exact Or.inl rfl | exact Or.inr rfl) (pe_op op_mod (pv 0) pe_int))
      (pss_cons (ps_set (i := 3) sc__law_one_by.nd rfl (by first | exact Or.inl rfl | exact Or.inr rfl) (pe_op op_sub (pe_op op_mod (pe_op op_fdiv (pv 0) pe_int) pe_int) pe_int))
      (pss_cons (ps_if (pt_cmpR op_eq (pv 2) pe_int (nomark _)) (pss_one (ps_ret (pe_makeK mk_Turn (hr.mono (by decide)) rfl passX (pa_cons (pv 3) pa_nil)))) pss_nil)
      (pss_cons (ps_if (pt_cmpR op_eq (pv 2) pe_int (nomark _)) (pss_one (ps_ret (pe_makeK mk_Lift (hr.mono (by decide)) rfl passX (pa_cons (pv 3) pa_nil)))) pss_nil)
      (pss_cons (ps_if (PW.pt (pw_and (pt_cmpR op_eq (pv 2) pe_int (nomark _)) (pw_and1 (pt_cmpR op_gt (pv 1) pe_int (nomark _))))) (pss_cons (ps_set (i := 4) sc__law_one_by.nd rfl (by first | exact Or.inl rfl | exact Or.inr rfl) (pe_callO o__law_beats_by (hr.mono (by decide)) rfl passX (pa_cons (pv 0) (pa_cons (pv 1) pa_nil))))
      (pss_one (ps_ret (pe_makeK mk_Swap (hr.mono (by decide)) rfl passX (pa_cons (pe_ix (ix_tupK (K := K) rfl) (pv 4) pe_int (fun _ _ => rfl)) (pa_cons (pe_ix (ix_tupK (K := K) rfl) (pv 4) pe_int (fun _ _ => rfl)) pa_nil)))))) pss_nil)
      (pss_cons (ps_if (PW.pt (pw_and (pt_cmpR op_eq (pv 2) pe_int (nomark _)) (pw_and1 (pt_cmpR op_gt (pv 1) pe_int (nomark _))))) (pss_one (ps_ret (pe_makeK mk_Neighbours (hr.mono (by decide)) rfl passX (pa_cons (pe_op op_mod (pe_op op_fdiv (pv 0) pe_int) (pv 1)) pa_nil)))) pss_nil)
      (pss_cons (ps_if (pt_cmpR op_eq (pv 2) pe_int (nomark _)) (pss_one (ps_ret (pe_makeN m_Mirror c_Mirror i_Mirror rfl))) pss_nil)
      (pss_cons (ps_if (pt_cmpR op_eq (pv 2) pe_int (nomark _)) (pss_one (ps_ret (pe_makeK mk_Gaps (hr.mono (by decide)) rfl passX (pa_cons (pv 3) pa_nil)))) pss_nil)
      (pss_one (ps_ret (pe_makeN m_Change c_Change i_Change rfl))))))))))), ?_⟩
    walk_at "rd"
    refine ⟨by decide, by decide, by decide, by decide, ?_⟩
    have m : c % 7 = 0 ∨ c % 7 = 1 ∨ c % 7 = 2 ∨ c % 7 = 3 ∨ c % 7 = 4 ∨ c % 7 = 5 ∨ c % 7 = 6 := by omega
    rcases m with m | m | m | m | m | m | m
    · rw [if_pos (show decide (c % 7 = 0) = true by rw [m]; decide)]
      have e : chBy c n = .turn (c / 7 % 19 - 9) := by simp [chBy, m]
      rw [e] at q
      exact fun x dx hx hd ne => mk1 hx hd fun G s1 e => ⟨rfl, q _ _ s1 ⟨dx, e⟩⟩
    · rw [if_neg (show ¬ decide (c % 7 = 0) = true by rw [m]; decide), if_pos (show decide (c % 7 = 1) = true by rw [m]; decide)]
      have e : chBy c n = .lift (c / 7 % 19 - 9) := by simp [chBy, m]
      rw [e] at q
      exact fun x dx hx hd ne => mk1 hx hd fun G s1 e => ⟨rfl, q _ _ s1 ⟨dx, e⟩⟩
    · by_cases hb : 1 < n
      · rw [if_neg (show ¬ decide (c % 7 = 0) = true by rw [m]; decide), if_neg (show ¬ decide (c % 7 = 1) = true by rw [m]; decide), if_pos (show decide (c % 7 = 2) = true by rw [m]; decide), if_pos (show decide ((1 : Int) < ((n : Nat) : Int)) = true from decide_eq_true (by omega))]
        have e : chBy c n = .swap (bi c n) (bj c n) := by simp [chBy, m, hb]
        rw [e] at q
        exact ⟨c, n, rfl, hb, fun H1 T s1 hT => ⟨T, rfl, _, .of hT, _, rfl, T, rfl, _, .of hT, _, rfl, fun x dx hx hd ne => mk2 hx hd fun G s2 e => ⟨rfl, q _ _ (s1.trans s2) ⟨dx, e⟩⟩⟩⟩
      · rw [if_neg (show ¬ decide (c % 7 = 0) = true by rw [m]; decide), if_neg (show ¬ decide (c % 7 = 1) = true by rw [m]; decide), if_pos (show decide (c % 7 = 2) = true by rw [m]; decide), if_neg (show ¬ decide ((1 : Int) < ((n : Nat) : Int)) = true by simp; omega), if_neg (show ¬ decide (c % 7 = 3) = true by rw [m]; decide), if_neg (show ¬ decide (c % 7 = 4) = true by rw [m]; decide), if_neg (show ¬ decide (c % 7 = 5) = true by rw [m]; decide)]
        have e : chBy c n = .idc := by simp [chBy, m, hb]
        rw [e] at q
        exact fun x dx hx hd ne => q _ _ (made hx hd) ⟨dx, upd_same⟩
    · by_cases hb : 1 < n
      · rw [if_neg (show ¬ decide (c % 7 = 0) = true by rw [m]; decide), if_neg (show ¬ decide (c % 7 = 1) = true by rw [m]; decide), if_neg (show ¬ decide (c % 7 = 2) = true by rw [m]; decide), if_pos (show decide (c % 7 = 3) = true by rw [m]; decide), if_pos (show decide ((1 : Int) < ((n : Nat) : Int)) = true from decide_eq_true (by omega))]
        have e : chBy c n = .nb (c / 7 % ((n : Nat) : Int)) := by simp [chBy, m, hb]
        rw [e] at q
        exact ⟨by decide, by decide, by omega, fun x dx hx hd ne => mk1 hx hd fun G s1 e => ⟨rfl, q _ _ s1 ⟨dx, e⟩⟩⟩
      · rw [if_neg (show ¬ decide (c % 7 = 0) = true by rw [m]; decide), if_neg (show ¬ decide (c % 7 = 1) = true by rw [m]; decide), if_neg (show ¬ decide (c % 7 = 2) = true by rw [m]; decide), if_pos (show decide (c % 7 = 3) = true by rw [m]; decide), if_neg (show ¬ decide ((1 : Int) < ((n : Nat) : Int)) = true by simp; omega), if_neg (show ¬ decide (c % 7 = 4) = true by rw [m]; decide), if_neg (show ¬ decide (c % 7 = 5) = true by rw [m]; decide)]
        have e : chBy c n = .idc := by simp [chBy, m, hb]
        rw [e] at q
        exact fun x dx hx hd ne => q _ _ (made hx hd) ⟨dx, upd_same⟩
    · rw [if_neg (show ¬ decide (c % 7 = 0) = true by rw [m]; decide), if_neg (show ¬ decide (c % 7 = 1) = true by rw [m]; decide), if_neg (show ¬ decide (c % 7 = 2) = true by rw [m]; decide), if_neg (show ¬ decide (c % 7 = 3) = true by rw [m]; decide), if_pos (show decide (c % 7 = 4) = true by rw [m]; decide)]
      have e : chBy c n = .mir := by simp [chBy, m]
      rw [e] at q
      exact fun x dx hx hd ne => q _ _ (made hx hd) ⟨dx, upd_same⟩
    · rw [if_neg (show ¬ decide (c % 7 = 0) = true by rw [m]; decide), if_neg (show ¬ decide (c % 7 = 1) = true by rw [m]; decide), if_neg (show ¬ decide (c % 7 = 2) = true by rw [m]; decide), if_neg (show ¬ decide (c % 7 = 3) = true by rw [m]; decide), if_neg (show ¬ decide (c % 7 = 4) = true by rw [m]; decide), if_pos (show decide (c % 7 = 5) = true by rw [m]; decide)]
      have e : chBy c n = .gap (c / 7 % 19 - 9) := by simp [chBy, m]
      rw [e] at q
      exact fun x dx hx hd ne => mk1 hx hd fun G s1 e => ⟨rfl, q _ _ s1 ⟨dx, e⟩⟩
    · rw [if_neg (show ¬ decide (c % 7 = 0) = true by rw [m]; decide), if_neg (show ¬ decide (c % 7 = 1) = true by rw [m]; decide), if_neg (show ¬ decide (c % 7 = 2) = true by rw [m]; decide), if_neg (show ¬ decide (c % 7 = 3) = true by rw [m]; decide), if_neg (show ¬ decide (c % 7 = 4) = true by rw [m]; decide), if_neg (show ¬ decide (c % 7 = 5) = true by rw [m]; decide)]
      have e : chBy c n = .idc := by simp [chBy, m]
      rw [e] at q
      exact fun x dx hx hd ne => q _ _ (made hx hd) ⟨dx, upd_same⟩

abbrev s__law_by_hand : Stmt := top 48
theorem sc__law_by_hand : FnScope ["_law_pattern", "_law_cell", "_law_size", "_law_kind", "_law_k", "_law_pair"] ["_law_pattern", "_law_cell"] (defScope s__law_by_hand) := ⟨rfl, rfl, rfl, by decide +kernel, rfl, by decide +kernel, by decide +kernel⟩
def spByHand : Sp := fun vs H Q _ => ∃ (a : Addr) (ns : List Int) (c : Int), vs = [.ref a, .int c] ∧ H a = some (.lst (ns.map V.int)) ∧ Pat ns ∧ okC (chBy c ns.length) ns ∧ ∀ H' D, Same H H' → H' D = some (.lst ((doC (chBy c ns.length) ns).map V.int)) → Q (.ref D) H'
theorem ok_by_hand {f OOB : Addr} {fd : FuncData} (h : Has K mg "_law_by_hand" s__law_by_hand ["_law_pattern", "_law_cell"] f fd) (B : Blt mg) (o_turned : Ok P w K mg base "turned" ["pattern", "k"] 7 (spTurned OOB)) (o_lifted : Ok P w K mg base "lifted" ["pattern", "k"] 7 (spLifted OOB)) (o_swapped : Ok P w K mg base "swapped" ["pattern", "i", "j"] 7 (spSwapped OOB)) (o_neighbours : Ok P w K mg base "neighbours" ["pattern", "k"] 7 (spNeighbours OOB)) (o_mirrored : Ok P w K mg base "mirrored" ["pattern"] 7 spMirrored) (o_gaps : Ok P w K mg base "gaps" ["pattern", "h"] 7 (spGaps OOB)) (o__law_beats_by : Ok P w K mg base "_law_beats_by" ["_law_cell", "_law_size"] 1 spBeatsBy) : Ok P w K mg base "_law_by_hand" ["_law_pattern", "_law_cell"] 8 spByHand := by
  refine h.ok sc__law_by_hand (fun vs H Q E h => ?_) (fun cdv A outer s H vs Q E hr h => ?_)
  · obtain ⟨a, ns, c, rfl, _⟩ := h
    rfl
  · obtain ⟨a, ns, c, rfl, ha, p, ok, q⟩ := h
    refine ⟨_, (pss_cons (ps_set (i := 2) sc__law_by_hand.nd rfl (by first | exact Or.inl rfl | exact Or.inr rfl) (pe_callB (call_len_seqK (K := K) rfl) rfl B.len_ bt_len (pa_cons (pv 0) pa_nil)))
      (pss_cons (ps_set (i := 3) sc__law_by_hand.nd rfl (by first | exact Or.inl rfl | exact Or.inr rfl) (pe_op op_mod (pv 1) pe_int))
      (pss_cons (ps_set (i := 4) sc__law_by_hand.nd rfl (by first | exact Or.inl rfl | exact Or.inr rfl) (pe_op op_sub (pe_op op_mod (pe_op op_fdiv (pv 1) pe_int) pe_int) pe_int))
      (pss_cons (ps_if (pt_cmpR op_eq (pv 3) pe_int (nomark _)) (pss_one (ps_ret (pe_callO o_turned (hr.mono (by decide)) rfl passX (pa_cons (pv 0) (pa_cons (pv 4) pa_nil))))) pss_nil)
      (pss_cons (ps_if (pt_cmpR op_eq (pv 3) pe_int (nomark _)) (pss_one (ps_ret (pe_callO o_lifted (hr.mono (by decide)) rfl passX (pa_cons (pv 0) (pa_cons (pv 4) pa_nil))))) pss_nil)
      (pss_cons (ps_if (PW.pt (pw_and (pt_cmpR op_eq (pv 3) pe_int (nomark _)) (pw_and1 (pt_cmpR op_gt (pv 2) pe_int (nomark _))))) (pss_cons (ps_set (i := 5) sc__law_by_hand.nd rfl (by first | exact Or.inl rfl | exact Or.inr rfl) (pe_callO o__law_beats_by (hr.mono (by decide)) rfl passX (pa_cons (pv 1) (pa_cons (pv 2) pa_nil))))
      (pss_one (ps_ret (pe_callO o_swapped (hr.mono (by decide)) rfl passX (pa_cons (pv 0) (pa_cons (pe_ix (ix_tupK (K := K) rfl) (pv 5) pe_int (fun _ _ => rfl)) (pa_cons (pe_ix (ix_tupK (K := K) rfl) (pv 5) pe_int (fun _ _ => rfl)) pa_nil))))))) pss_nil)
      (pss_cons (ps_if (PW.pt (pw_and (pt_cmpR op_eq (pv 3) pe_int (nomark _)) (pw_and1 (pt_cmpR op_gt (pv 2) pe_int (nomark _))))) (pss_one (ps_ret (pe_callO o_neighbours (hr.mono (by decide)) rfl passX (pa_cons (pv 0) (pa_cons (pe_op op_mod (pe_op op_fdiv (pv 1) pe_int) (pv 2)) pa_nil))))) pss_nil)
      (pss_cons (ps_if (pt_cmpR op_eq (pv 3) pe_int (nomark _)) (pss_one (ps_ret (pe_callO o_mirrored (hr.mono (by decide)) rfl passX (pa_cons (pv 0) pa_nil)))) pss_nil)
      (pss_cons (ps_if (pt_cmpR op_eq (pv 3) pe_int (nomark _)) (pss_one (ps_ret (pe_callO o_gaps (hr.mono (by decide)) rfl passX (pa_cons (pv 0) (pa_cons (pv 4) pa_nil))))) pss_nil)
      (pss_one (ps_ret (pv 0)))))))))))), ?_⟩
    walk_at "rd"
    refine ⟨_, .inl (.of ha), by decide, by decide, by decide, by decide, ?_⟩
    simp only [List.length_map]
    have m : c % 7 = 0 ∨ c % 7 = 1 ∨ c % 7 = 2 ∨ c % 7 = 3 ∨ c % 7 = 4 ∨ c % 7 = 5 ∨ c % 7 = 6 := by omega
    rcases m with m | m | m | m | m | m | m
    · rw [if_pos (show decide (c % 7 = 0) = true by rw [m]; decide)]
      have e : chBy c ns.length = .turn (c / 7 % 19 - 9) := by simp [chBy, m]
      rw [e] at ok q
      exact ⟨a, ns, _, rfl, ha, p, fun _ H1 D s1 hD h1 => q _ D s1 h1, fun z => absurd ok z⟩
    · rw [if_neg (show ¬ decide (c % 7 = 0) = true by rw [m]; decide), if_pos (show decide (c % 7 = 1) = true by rw [m]; decide)]
      have e : chBy c ns.length = .lift (c / 7 % 19 - 9) := by simp [chBy, m]
      rw [e] at ok q
      exact ⟨a, ns, _, rfl, ha, p, fun _ H1 D s1 hD h1 => q _ D s1 h1, fun z => absurd ok z⟩
    · by_cases hb : 1 < ns.length
      · rw [if_neg (show ¬ decide (c % 7 = 0) = true by rw [m]; decide), if_neg (show ¬ decide (c % 7 = 1) = true by rw [m]; decide), if_pos (show decide (c % 7 = 2) = true by rw [m]; decide), if_pos (show decide ((1 : Int) < ((ns.length : Nat) : Int)) = true from decide_eq_true (by omega))]
        have e : chBy c ns.length = .swap (bi c ns.length) (bj c ns.length) := by simp [chBy, m, hb]
        rw [e] at ok q
        exact ⟨c, ns.length, rfl, hb, fun H1 T s1 hT => ⟨T, rfl, _, .of hT, _, rfl, T, rfl, _, .of hT, _, rfl, a, ns, _, _, rfl, s1 _ _ ha, p, fun _ H2 D s2 hD h2 => q _ D (s1.trans s2) h2, fun z => absurd ok z⟩⟩
      · rw [if_neg (show ¬ decide (c % 7 = 0) = true by rw [m]; decide), if_neg (show ¬ decide (c % 7 = 1) = true by rw [m]; decide), if_pos (show decide (c % 7 = 2) = true by rw [m]; decide), if_neg (show ¬ decide ((1 : Int) < ((ns.length : Nat) : Int)) = true by simp; omega), if_neg (show ¬ decide (c % 7 = 3) = true by rw [m]; decide), if_neg (show ¬ decide (c % 7 = 4) = true by rw [m]; decide), if_neg (show ¬ decide (c % 7 = 5) = true by rw [m]; decide)]
        have e : chBy c ns.length = .idc := by simp [chBy, m, hb]
        rw [e] at ok q
        exact q _ _ (Same.refl _) ha
    · by_cases hb : 1 < ns.length
      · rw [if_neg (show ¬ decide (c % 7 = 0) = true by rw [m]; decide), if_neg (show ¬ decide (c % 7 = 1) = true by rw [m]; decide), if_neg (show ¬ decide (c % 7 = 2) = true by rw [m]; decide), if_pos (show decide (c % 7 = 3) = true by rw [m]; decide), if_pos (show decide ((1 : Int) < ((ns.length : Nat) : Int)) = true from decide_eq_true (by omega))]
        have e : chBy c ns.length = .nb (c / 7 % ((ns.length : Nat) : Int)) := by simp [chBy, m, hb]
        rw [e] at ok q
        exact ⟨by decide, by decide, by have := p.lo; omega, a, ns, _, rfl, ha, p, fun _ H1 D s1 hD h1 => q _ D s1 h1, fun z => absurd ok z⟩
      · rw [if_neg (show ¬ decide (c % 7 = 0) = true by rw [m]; decide), if_neg (show ¬ decide (c % 7 = 1) = true by rw [m]; decide), if_neg (show ¬ decide (c % 7 = 2) = true by rw [m]; decide), if_pos (show decide (c % 7 = 3) = true by rw [m]; decide), if_neg (show ¬ decide ((1 : Int) < ((ns.length : Nat) : Int)) = true by simp; omega), if_neg (show ¬ decide (c % 7 = 4) = true by rw [m]; decide), if_neg (show ¬ decide (c % 7 = 5) = true by rw [m]; decide)]
        have e : chBy c ns.length = .idc := by simp [chBy, m, hb]
        rw [e] at ok q
        exact q _ _ (Same.refl _) ha
    · rw [if_neg (show ¬ decide (c % 7 = 0) = true by rw [m]; decide), if_neg (show ¬ decide (c % 7 = 1) = true by rw [m]; decide), if_neg (show ¬ decide (c % 7 = 2) = true by rw [m]; decide), if_neg (show ¬ decide (c % 7 = 3) = true by rw [m]; decide), if_pos (show decide (c % 7 = 4) = true by rw [m]; decide)]
      have e : chBy c ns.length = .mir := by simp [chBy, m]
      rw [e] at ok q
      exact ⟨a, ns, rfl, ha, p, fun H1 D M s1 hD m h1 => q _ D s1 (by rw [show doC .mir ns = M from mirL_eq p m]; exact h1)⟩
    · rw [if_neg (show ¬ decide (c % 7 = 0) = true by rw [m]; decide), if_neg (show ¬ decide (c % 7 = 1) = true by rw [m]; decide), if_neg (show ¬ decide (c % 7 = 2) = true by rw [m]; decide), if_neg (show ¬ decide (c % 7 = 3) = true by rw [m]; decide), if_neg (show ¬ decide (c % 7 = 4) = true by rw [m]; decide), if_pos (show decide (c % 7 = 5) = true by rw [m]; decide)]
      have e : chBy c ns.length = .gap (c / 7 % 19 - 9) := by simp [chBy, m]
      rw [e] at ok q
      exact ⟨a, ns, _, rfl, ha, p, fun _ H1 D s1 hD h1 => q _ D s1 h1, fun z => absurd ok z⟩
    · rw [if_neg (show ¬ decide (c % 7 = 0) = true by rw [m]; decide), if_neg (show ¬ decide (c % 7 = 1) = true by rw [m]; decide), if_neg (show ¬ decide (c % 7 = 2) = true by rw [m]; decide), if_neg (show ¬ decide (c % 7 = 3) = true by rw [m]; decide), if_neg (show ¬ decide (c % 7 = 4) = true by rw [m]; decide), if_neg (show ¬ decide (c % 7 = 5) = true by rw [m]; decide)]
      have e : chBy c ns.length = .idc := by simp [chBy, m]
      rw [e] at ok q
      exact q _ _ (Same.refl _) ha

abbrev s__law_kinds_right : Stmt := top 49
theorem sc__law_kinds_right : FnScope ["_law_change", "_law_found"] ["_law_change"] (defScope s__law_kinds_right) := ⟨rfl, rfl, rfl, by decide +kernel, rfl, by decide +kernel, by decide +kernel⟩
def spKindsRight (S : Cs) : Sp := fun vs H Q _ => ∃ (a C dx : Addr) (fs : List (Str × V)), vs = [.ref a] ∧ H a = some (.ins C dx fs) ∧ C ∈ [S.c, S.t, S.l, S.s, S.n, S.m, S.g, S.r] ∧ ∀ H', Same H H' → Q (.bl true) H'
theorem ok_kinds_right {f : Addr} {fd : FuncData} {S : Cs} (h : Has K mg "_law_kinds_right" s__law_kinds_right ["_law_change"] f fd) (B : Blt mg) (kd : Kinds K S) (m_Change : mg "Change" = some (.ref S.c)) (m_Turn : mg "Turn" = some (.ref S.t)) (m_Lift : mg "Lift" = some (.ref S.l)) (m_Swap : mg "Swap" = some (.ref S.s)) (m_Neighbours : mg "Neighbours" = some (.ref S.n)) (m_Mirror : mg "Mirror" = some (.ref S.m)) (m_Gaps : mg "Gaps" = some (.ref S.g)) (m_Changes : mg "Changes" = some (.ref S.r)) : Ok P w K mg base "_law_kinds_right" ["_law_change"] 1 (spKindsRight S) := by
  refine h.ok sc__law_kinds_right (fun vs H Q E h => ?_) (fun cdv A outer s H vs Q E hr h => ?_)
  · obtain ⟨a, C, dx, fs, rfl, _⟩ := h
    rfl
  · obtain ⟨a, C, dx, fs, rfl, ha, hC, q⟩ := h
    refine ⟨_, (pss_cons (ps_set (i := 1) sc__law_kinds_right.nd rfl (by first | exact Or.inl rfl | exact Or.inr rfl) (pe_lst (pa_cons (pe_callB (call_isO (K := K) rfl) rfl B.isinstance_ bt_isinstance (pa_cons (pv 0) (pa_cons (pe_cls m_Turn) pa_nil))) (pa_cons (pe_callB (call_isO (K := K) rfl) rfl B.isinstance_ bt_isinstance (pa_cons (pv 0) (pa_cons (pe_cls m_Lift) pa_nil))) (pa_cons (pe_callB (call_isO (K := K) rfl) rfl B.isinstance_ bt_isinstance (pa_cons (pv 0) (pa_cons (pe_cls m_Swap) pa_nil))) (pa_cons (pe_callB (call_isO (K := K) rfl) rfl B.isinstance_ bt_isinstance (pa_cons (pv 0) (pa_cons (pe_cls m_Mirror) pa_nil))) pa_nil))))))
      (pss_cons (ps_set (i := 1) sc__law_kinds_right.nd rfl (by first | exact Or.inl rfl | exact Or.inr rfl) (pe_op op_cat (pv 1) (pe_lst (pa_cons (pe_callB (call_isO (K := K) rfl) rfl B.isinstance_ bt_isinstance (pa_cons (pv 0) (pa_cons (pe_cls m_Neighbours) pa_nil))) (pa_cons (pe_callB (call_isO (K := K) rfl) rfl B.isinstance_ bt_isinstance (pa_cons (pv 0) (pa_cons (pe_cls m_Gaps) pa_nil))) (pa_cons (pe_callB (call_isO (K := K) rfl) rfl B.isinstance_ bt_isinstance (pa_cons (pv 0) (pa_cons (pe_cls m_Changes) pa_nil))) pa_nil))))))
      (pss_one (ps_ret (pe_and (pe_callB (call_isO (K := K) rfl) rfl B.isinstance_ bt_isinstance (pa_cons (pv 0) (pa_cons (pe_cls m_Change) pa_nil))) (pe_one (pe_cmpR op_lt (pe_bmK (K := K) rfl PySem.F.plainAttrs_list PySem.F.slot_list_count PySem.F.type_list_count mt_count (pv 1) (pa_cons pe_bl pa_nil)) pe_int (nomark _)))))))), ?_⟩
    have nd := kd.nd
    simp only [List.nodup_cons, List.mem_cons, List.not_mem_nil, or_false, not_or, List.nodup_nil, and_true, not_false_eq_true] at nd
    obtain ⟨⟨a1, a2, a3, a4, a5, a6, a7⟩, ⟨b1, b2, b3, b4, b5, b6⟩, ⟨c1, c2, c3, c4, c5⟩, ⟨d1, d2, d3, d4⟩, ⟨e1, e2, e3⟩, ⟨f1, f2⟩, g1⟩ := nd
    have kt : ∀ D ∈ [S.t, S.l, S.s, S.n, S.m, S.g, S.r], PySem.W.kitOne K (.ref C) (.ref D) = some (decide (C = D)) := fun D hD => by
      rw [kd.kit C hC D (List.mem_cons_of_mem _ hD), decide_eq_false (p := D = S.c), Bool.or_false]
      intro e
      subst e
      simp only [List.mem_cons, List.not_mem_nil, or_false] at hD
      rcases hD with z | z | z | z | z | z | z
      · exact a1 z
      · exact a2 z
      · exact a3 z
      · exact a4 z
      · exact a5 z
      · exact a6 z
      · exact a7 z
    have ty : ∀ {H' : Hp}, Same H H' → TyOf K H' (.ref a) (.ref C) := fun s => (kd.oc C hC).ty (s _ _ ha)
    walk_at "rd"
    refine ⟨_, ty (Same.refl _), _, kt _ (by simp), _, ty (Same.refl _), _, kt _ (by simp), _, ty (Same.refl _), _, kt _ (by simp), _, ty (Same.refl _), _, kt _ (by simp), by decide, fun p1 hp1 => ?_⟩
    have s1 := same_upd (o := HO.lst [V.bl (decide (C = S.t)), V.bl (decide (C = S.l)), V.bl (decide (C = S.s)), V.bl (decide (C = S.m))]) hp1
    have h1 : upd H p1 (HO.lst [V.bl (decide (C = S.t)), V.bl (decide (C = S.l)), V.bl (decide (C = S.s)), V.bl (decide (C = S.m))]) p1 = _ := upd_same
    generalize upd H p1 (HO.lst [V.bl (decide (C = S.t)), V.bl (decide (C = S.l)), V.bl (decide (C = S.s)), V.bl (decide (C = S.m))]) = H1 at *
    refine ⟨_, ty s1, _, kt _ (by simp), _, ty s1, _, kt _ (by simp), _, ty s1, _, kt _ (by simp), by decide, fun p2 hp2 => ?_⟩
    have s2 := s1.trans (same_upd (o := HO.lst [V.bl (decide (C = S.n)), V.bl (decide (C = S.g)), V.bl (decide (C = S.r))]) hp2)
    have h2 : upd H1 p2 (HO.lst [V.bl (decide (C = S.n)), V.bl (decide (C = S.g)), V.bl (decide (C = S.r))]) p2 = _ := upd_same
    have h1' := (same_upd (o := HO.lst [V.bl (decide (C = S.n)), V.bl (decide (C = S.g)), V.bl (decide (C = S.r))]) hp2) _ _ h1
    generalize upd H1 p2 (HO.lst [V.bl (decide (C = S.n)), V.bl (decide (C = S.g)), V.bl (decide (C = S.r))]) = H2 at *
    refine ⟨_, h1', _, h2, by show 4 + 3 ≤ sizeLine; decide, fun p3 hp3 => ⟨_, ty (s2.trans (same_upd hp3)), _, kd.kit C hC S.c (by simp), ?_⟩⟩
    rw [decide_eq_true (p := S.c = S.c) rfl, Bool.or_true, if_pos rfl]
    refine ⟨.inl ⟨rfl, _, .of upd_same⟩, [decide (C = S.t), decide (C = S.l), decide (C = S.s), decide (C = S.m), decide (C = S.n), decide (C = S.g), decide (C = S.r)], upd_same, ?_⟩
    rw [decide_eq_true (p := (_ : Int) < 2) ?_]
    · exact q _ (s2.trans (same_upd hp3))
    · have n0 : ∀ {X Y : Addr}, X ≠ Y → decide (X = Y) = false := fun h => decide_eq_false h
      have n1 : ∀ {X Y : Addr}, X ≠ Y → decide (Y = X) = false := fun h => decide_eq_false (Ne.symm h)
      simp only [List.mem_cons, List.not_mem_nil, or_false] at hC
      rcases hC with z | z | z | z | z | z | z | z
      · rw [z, n0 a1, n0 a2, n0 a3, n0 a4, n0 a5, n0 a6, n0 a7]; decide
      · rw [z, decide_eq_true (p := S.t = S.t) rfl, n0 b1, n0 b2, n0 b3, n0 b4, n0 b5, n0 b6]; decide
      · rw [z, n1 b1, decide_eq_true (p := S.l = S.l) rfl, n0 c1, n0 c2, n0 c3, n0 c4, n0 c5]; decide
      · rw [z, n1 b2, n1 c1, decide_eq_true (p := S.s = S.s) rfl, n0 d1, n0 d2, n0 d3, n0 d4]; decide
      · rw [z, n1 b3, n1 c2, n1 d1, decide_eq_true (p := S.n = S.n) rfl, n0 e1, n0 e2, n0 e3]; decide
      · rw [z, n1 b4, n1 c3, n1 d2, n1 e1, decide_eq_true (p := S.m = S.m) rfl, n0 f1, n0 f2]; decide
      · rw [z, n1 b5, n1 c4, n1 d3, n1 e2, n1 f1, decide_eq_true (p := S.g = S.g) rfl, n0 g1]; decide
      · rw [z, n1 b6, n1 c5, n1 d4, n1 e3, n1 f2, n1 g1, decide_eq_true (p := S.r = S.r) rfl]; decide
end
end Tb

namespace Tb
open PySem L2 TB
local macro_rules | `(tactic| walk_at "rd") => `(tactic| try simp only [rExtendT, rCount, iRevT, tSeq, tNext, tIfS, tRet, tRetN, tDrop, tAsg, gName, gNil, gCons, gSub, gTup, tVar, tC, tOp, tUn, rI, rI0, rU, rEq, rNe, tTest, tB, tChain, tChain3, rSortedB, rSortedP, rSortedD, rListD, rDictP, iDict, tThaw, rDClear, tDisp, tPairs, kit_dict_dict, rIndex, rIsX, rIsXT, rIsXd, rIsXV, rIsXTd, rIsO, rIxS2, rSlS, rFind, rIndexT, rLenT, rStrT, rIntT, rAddT, rMulT, rInT, iTxt, tx_str, tTxts, kit_str_str, rIn, tListRev, tAug, ipI, tAnd, tOr, tNot, tAndV, tOrV, tNotV, tIf, tIsN, tNotN, tCB, tNil, tCons, tTup, tLst, tTupG, tLstG, tCall, tRaise, tTryC, tXF, sXF, tRaiseI, tTryA, tTryE, thC, thA, thNil, Ends.less, tFor_eq, tComp_eq, iList, iTup, iRng1, iRng2, iEnum, iZip, tNoIf, rIxL, rIxT, rSetL, tBM, tBM0, rAppend, tFld, sFld, tMake, tMakeN, tMethD, tTryM, tNever, rExtend, rGeL, rInS, rClear, tDNewK, tDIn, tDNotIn, tDGet, sDPut, rEqL, rEqS, rBest, rRep, rCat, tSl, tPart, tNoPart, rSlL, capt, CDiv, scal_ii, scal_bb, scal_ss, scal_nn, scal_in, scal_ni, List.map_cons, List.map_nil, List.append_nil, List.nil_append, List.cons_append, List.length_cons, List.length_nil, List.length_map, Int.zero_add, List.getElem?_cons_zero, List.getElem?_cons_succ, List.set_cons_zero, List.set_cons_succ, Option.some.injEq, Option.join_some, Option.bind_some, Option.bind_none, V.int.injEq, V.bl.injEq, V.ref.injEq, V.str.injEq, V.ty.injEq, List.cons.injEq, and_true, true_and, exists_and_left, exists_eq_left', exists_eq_left, exists_eq_right, exists_eq_right', exists_eq, exists_eq', exists_const, eq_self, decide_true, decide_false, Option.isSome_none, Option.isSome_some, Bool.false_eq_true, Bool.not_true, Bool.not_false, reduceIte, reduceCtorEq, false_and, and_false, or_false, false_or, start_def, cxOf_K, cxComp_K, and_assoc, tyOf_int, kit_int_int, kit_int_bool, kit_list_list, rep0, rep1, rep2, rep3, rep4, rep5, rep6, rep7, rep8, rep9, rep10, rep11, rep12, rLen, rIsi, rListOf, rTupOf, rSum, rAll, rAny, rSorted, kit_tuple_tuple, Nat.sub_self, Nat.reduceAdd, Nat.reduceSub, Nat.reduceEqDiff])

section
variable {P : Program} {w : World} {K : PySem.W.Frag} {mg : Str → Option Value} {base : Heap}
def DoneA (OOB : Addr) (S : Cs) (C : Addr) (sp : Sp) : Prop := DoneB OOB S C sp ∨ (C = S.r ∧ sp = spDoneR OOB S)
def UndoneA (S : Cs) (C : Addr) (sp : Sp) : Prop := UndoneB S C sp ∨ (C = S.r ∧ sp = spUndoneR S)
theorem pat_fin {ns : List Int} (r : Row ns) (h : ∀ i j : Fin ns.length, land ns i = land ns j → i = j) : Pat ns := ⟨r, fun i j hi hj e => congrArg Fin.val (h ⟨i, hi⟩ ⟨j, hj⟩ e)⟩
theorem pat11 : Pat [1, 1] := pat_fin ⟨by decide, by decide, by decide⟩ (by decide)

abbrev s__law_far_right : Stmt := top 50
theorem sc__law_far_right : FnScope ["_law_far", "_law_undoing", "_law_one", "_law_refused"] ["_law_far"] (defScope s__law_far_right) := ⟨rfl, rfl, rfl, by decide +kernel, rfl, by decide +kernel, by decide +kernel⟩
def spFarRight (S : Cs) : Sp := fun vs H Q _ => ∃ (a : Addr) (c : Ch), vs = [.ref a] ∧ IsB S H a c ∧ ¬ okC c [1, 1] ∧ ¬ okC (undoC c) [1, 1] ∧ ∀ H', Same H H' → Q (.bl true) H'
theorem ok_far_right {f OOB : Addr} {fd : FuncData} {S : Cs} (h : Has K mg "_law_far_right" s__law_far_right ["_law_far"] f fd) (B : Blt mg) (kd : Kinds K S) (x_OutOfBounds : ExcCls K OOB) (m_OutOfBounds : mg "OutOfBounds" = some (.ref OOB)) (m_Change : mg "Change" = some (.ref S.c)) (mk_Changes : MkOk P w K mg base "Changes" S.r 1 (spInitR S)) (d_done : MsOk P w K mg base "done" 9 (DoneA OOB S)) (d_undone : MsOk P w K mg base "undone" 9 (UndoneA S)) : Ok P w K mg base "_law_far_right" ["_law_far"] 10 (spFarRight S) := by
  refine h.ok sc__law_far_right (fun vs H Q E h => ?_) (fun cdv A outer s H vs Q E hr h => ?_)
  · obtain ⟨a, c, rfl, _⟩ := h
    rfl
  · obtain ⟨a, c, rfl, ia, n1, n2, q⟩ := h
    refine ⟨_, (pss_cons (ps_set (i := 1) sc__law_far_right.nd rfl (by first | exact Or.inl rfl | exact Or.inr rfl) (pe_methD0 d_undone (hr.mono (by decide)) passX (pv 0)))
      (pss_cons (ps_if (pt_not (pt_val (pe_callB (call_isO (K := K) rfl) rfl B.isinstance_ bt_isinstance (pa_cons (pv 1) (pa_cons (pe_cls m_Change) pa_nil))))) (pss_one (ps_ret pe_bl)) pss_nil)
      (pss_cons (ps_for ownX rfl (pi_listK (K := K) rfl (pe_lst (pa_cons (pv 0) (pa_cons (pv 1) (pa_cons (pe_makeK mk_Changes (hr.mono (by decide)) rfl passX (pa_cons (pe_lst (pa_cons (pv 1) (pa_cons (pv 0) pa_nil))) pa_nil)) pa_nil))))) (pg_name (i := 2) sc__law_far_right.nd rfl (by first | exact Or.inl rfl | exact Or.inr rfl)) (pss_cons (ps_set (i := 3) sc__law_far_right.nd rfl (by first | exact Or.inl rfl | exact Or.inr rfl) pe_bl)
      (pss_cons (ps_tryM isDef_cxOf d_done (hr.mono (by decide)) (fun _ => (pv 2)) (fun _ => (pa_cons (pe_lst (pa_cons pe_int (pa_cons pe_int pa_nil))) pa_nil)) (ph_cons (K := K) isDef_cxOf rfl rfl m_OutOfBounds (fun _ => (pss_one (ps_set (i := 3) sc__law_far_right.nd rfl (by first | exact Or.inl rfl | exact Or.inr rfl) pe_bl))) ph_nil))
      (pss_one (ps_if (pt_not (pt_val (pv 3))) (pss_one (ps_ret pe_bl)) pss_nil)))))
      (pss_one (ps_ret pe_bl))))), ?_⟩
    walk_at "rd"
    obtain ⟨dx, ha⟩ := id ia
    refine ⟨_, dx, _, ha, fld_undone c, _, .inl ⟨c, rfl, rfl⟩, a, rfl, ia, fun H1 u s1 iu => ?_⟩
    obtain ⟨du, hu⟩ := id iu
    refine ⟨_, (kd.oc _ (Kinds.memB _)).ty hu, _, kd.kit _ (Kinds.memB _) S.c (by simp), ?_⟩
    rw [decide_eq_true (p := S.c = S.c) rfl, Bool.or_true]
    walk_at "rd"
    refine ⟨by decide, fun l hl x dx' hx hd ne => ⟨_, x, dx', l, [u, a], [[undoC c], [c]], rfl, made hx hd, hx, upd_same, upd_same, ((Os.nil.snoc (.inl ⟨_, rfl, iu.same (same_upd hl)⟩)).snoc (.inl ⟨_, rfl, (ia.same s1).same (same_upd hl)⟩) : Os S _ [u, a] [[undoC c], [c]]), by show 2 ≤ 1000; decide, fun H2 s2 r2 => ⟨rfl, by decide, fun p hp => ⟨⟨_, .of upd_same⟩, ?_⟩⟩⟩⟩
    have s12 := (same_upd (o := HO.lst [V.ref u, V.ref a]) hl).trans s2
    have s13 := s12.trans (same_upd (o := HO.lst [V.ref a, V.ref u, V.ref x]) hp)
    have r3 := r2.same (same_upd (o := HO.lst [V.ref a, V.ref u, V.ref x]) hp)
    have h3 : upd H2 p (HO.lst [V.ref a, V.ref u, V.ref x]) p = _ := upd_same
    generalize upd H2 p (HO.lst [V.ref a, V.ref u, V.ref x]) = H3 at *
    have ia3 := (ia.same s1).same s13
    have iu3 := iu.same s13
    have stuck : ∀ ms, ¬ Run [undoC c, c] [1, 1] ms := fun ms z => by cases z with | cons ok _ => exact n2 ok
    have one : ∀ {y : Addr} {G : Hp}, (IsB S G y c ∨ IsB S G y (undoC c) ∨ IsR S G y [undoC c, c]) → ∃ C dx fs, G y = some (.ins C dx fs) ∧ fs.lookup ("done" : Str) = none ∧ ∃ sp, DoneA OOB S C sp ∧ ∀ (G' : Hp) (l : Addr) (Q' : VK) (E' : XK), Same G G' → G' l = some (.lst [.int 1, .int 1]) → (∀ H', Same G' H' → E' (.ref OOB) none H') → sp [.ref y, .ref l] G' Q' E' := fun h => by
      rcases h with h | h | h
      · obtain ⟨d, e⟩ := id h
        exact ⟨_, d, _, e, fld_done _, _, .inl ⟨_, rfl, rfl⟩, fun G' l Q' E' sg hl k => ⟨_, _, [1, 1], rfl, h.same sg, hl, pat11, fun ok => absurd ok n1, fun _ => k⟩⟩
      · obtain ⟨d, e⟩ := id h
        exact ⟨_, d, _, e, fld_done _, _, .inl ⟨_, rfl, rfl⟩, fun G' l Q' E' sg hl k => ⟨_, _, [1, 1], rfl, h.same sg, hl, pat11, fun ok => absurd ok n2, fun _ => k⟩⟩
      · obtain ⟨d, t, ts, e, _⟩ := id h
        exact ⟨_, d, _, e, rfl, _, .inr ⟨rfl, rfl⟩, fun G' l Q' E' sg hl k => ⟨_, _, _, [1, 1], rfl, h.same sg, hl, pat11, fun ms r => absurd r (stuck ms), fun _ => k⟩⟩
    refine for_list (xs := [V.ref a, V.ref u, V.ref x]) (fun i σ H4 => Same H3 H4 ∧ ∃ o1 o2, σ = [some (V.ref a), some (V.ref u), o1, o2]) ⟨Same.refl _, _, _, rfl⟩ (fun i σ H4 _ pv => .of (pv.1 _ _ h3)) (fun i y σ H4 hy pv => ?_) (fun σ H4 pv => ?_)
    · obtain ⟨s4, o1, o2, rfl⟩ := pv
      obtain ⟨b, rfl, hb⟩ : ∃ b, y = .ref b ∧ (IsB S H4 b c ∨ IsB S H4 b (undoC c) ∨ IsR S H4 b [undoC c, c]) := by
        match i, hy with
        | 0, hy => cases hy; exact ⟨a, rfl, .inl (ia3.same s4)⟩
        | 1, hy => cases hy; exact ⟨u, rfl, .inr (.inl (iu3.same s4))⟩
        | 2, hy => cases hy; exact ⟨x, rfl, .inr (.inr (r3.same s4))⟩
        | i + 3, hy => simp at hy
      walk_at "rd"
      obtain ⟨C, d, fs, e, lk, sp, dn, run⟩ := one hb
      refine ⟨C, d, fs, e, lk, sp, dn, by decide, fun p1 hp1 => run _ p1 _ _ (same_upd hp1) upd_same fun H5 s5 => ⟨OOB, rfl, true, .self x_OutOfBounds, ?_⟩⟩
      rw [if_pos rfl]
      exact s4.trans ((same_upd hp1).trans s5)
    · obtain ⟨s4, o1, o2, rfl⟩ := pv
      walk_at "rd"
      exact q _ (s1.trans (s13.trans s4))

def Far (c : Ch) : Prop := ¬ okC c [1, 1] ∧ ¬ okC (undoC c) [1, 1]
theorem far_turn (f : Nat) : Far (.turn (1000001 + f)) := ⟨fun h => by unfold okC inBd at h; omega, fun h => by unfold undoC okC inBd at h; omega⟩
theorem far_lift (f : Nat) : Far (.lift (-1000001 - f)) := ⟨fun h => by have := h.1; unfold inBd at this; omega, fun h => by have := h.1; unfold inBd at this; omega⟩
theorem far_gap (f : Nat) : Far (.gap (1000001 + f)) := ⟨fun h => by have := h.1; unfold inBd at this; omega, fun h => by have := h.1; unfold inBd at this; omega⟩
theorem far_swap (f : Nat) : Far (.swap 1 (2 + f)) := ⟨fun h => by have := h.2.2.1; simp at this; omega, fun h => by have := h.2.2.1; simp at this; omega⟩
theorem far_nb (f : Nat) : Far (.nb (2 + f)) := ⟨fun h => by have := h.2.1; simp at this; omega, fun h => by have := h.2.1; simp at this; omega⟩
/-- a list is written over: changes stay -/
theorem IsB.over {S : Cs} {H : Hp} {a p : Addr} {c : Ch} {xs ys : List V} (h : IsB S H a c) (hp : H p = some (.lst xs)) : IsB S (upd H p (.lst ys)) a c := by
  obtain ⟨dx, e⟩ := h
  exact ⟨dx, by rw [upd_ne (ne_of e hp (by intro z; cases z))]; exact e⟩
theorem IsR.over {S : Cs} {H : Hp} {a p : Addr} {cs : List Ch} {xs ys : List V} (h : IsR S H a cs) (hp : H p = some (.lst xs)) : IsR S (upd H p (.lst ys)) a cs := by
  obtain ⟨dx, t, ts, e1, e2, e3⟩ := h
  exact ⟨dx, t, ts, by rw [upd_ne (ne_of e1 hp (by intro z; cases z))]; exact e1, by rw [upd_ne (ne_of e2 hp (by intro z; cases z))]; exact e2, e3.1, fun i b c h1 h2 => (e3.2 i b c h1 h2).over hp⟩
theorem Os.over {S : Cs} {H : Hp} {p : Addr} {os : List Addr} {css : List (List Ch)} {xs ys : List V} (h : Os S H os css) (hp : H p = some (.lst xs)) : Os S (upd H p (.lst ys)) os css := ⟨h.1, fun i a cs e1 e2 => by
  rcases h.2 i a cs e1 e2 with ⟨c, e, z⟩ | z
  · exact .inl ⟨c, e, z.over hp⟩
  · exact .inr (z.over hp)⟩
theorem ints_ne {H : Hp} {d p : Addr} {ms : List Int} {os : List Addr} (lo : 1 ≤ ms.length) (h1 : H d = some (.lst (ms.map V.int))) (h2 : H p = some (.lst (os.map V.ref))) : d ≠ p := fun e => by
  subst e
  rw [h1] at h2
  match ms, os, lo with
  | x :: ms, [], _ => cases h2
  | x :: ms, o :: os, _ => cases h2
theorem sq_but {H H' : Hp} {a r : Addr} {xs : List V} (h : SqL K H a xs) (hr : H r = none) (k : ∀ b o, b ≠ r → H b = some o → H' b = some o) : SqL K H' a xs := by
  rcases h with (h | ⟨o, h⟩) | h
  · exact .inl (.inl (k _ _ (ne_of_none h hr) h))
  · exact .inl (.inr ⟨o, k _ _ (ne_of_none h hr) h⟩)
  · exact .inr h
theorem bd_up {B B' : Int} {ms : List Int} (h : Bd B ms) (l : B ≤ B') : Bd B' ms := fun x hx => by have := h x hx; omega
theorem cut_len {xs : List V} : (cutV xs (some 3) (some 40)).length ≤ 37 := by
  unfold cutV HT.sIx
  simp
  omega
abbrev s_law : Stmt := top 51
theorem sc_law : FnScope ["_law_script", "_law_size", "_law_pattern", "_law_rows", "_law_due", "_law_cell", "_law_one", "_law_united", "_law_handed", "_law_found", "_law_undoing", "_law_far"] ["_law_script"] (defScope s_law) := ⟨rfl, rfl, rfl, by decide +kernel, rfl, by decide +kernel, by decide +kernel⟩
def spLaw (K : PySem.W.Frag) : Sp := fun vs H Q _ => ∃ (a : Addr) (ns : List Int), vs = [.ref a] ∧ SqL K H a (ns.map V.int) ∧ ∀ H', Q (.bl true) H'
def DoneR (OOB : Addr) (S : Cs) (C : Addr) (sp : Sp) : Prop := C = S.r ∧ sp = spDoneR OOB S
def UndoneR (S : Cs) (C : Addr) (sp : Sp) : Prop := C = S.r ∧ sp = spUndoneR S
def BallsR (S : Cs) (C : Addr) (sp : Sp) : Prop := C = S.r ∧ sp = spBallsR S
theorem ok_law {f OOB : Addr} {fd : FuncData} {S : Cs} (h : Has K mg "law" s_law ["_law_script"] f fd) (B : Blt mg) (kd : Kinds K S) (m_Change : mg "Change" = some (.ref S.c)) (o__law_cell_at : Ok P w K mg base "_law_cell_at" ["_law_script", "_law_k"] 2 (spCellAt K)) (o__law_throws_by : Ok P w K mg base "_law_throws_by" ["_law_size", "_law_cell", "_law_kind"] 4 spThrowsBy) (o__law_one_by : Ok P w K mg base "_law_one_by" ["_law_cell", "_law_size"] 3 (spOneBy S)) (o__law_kinds_right : Ok P w K mg base "_law_kinds_right" ["_law_change"] 1 (spKindsRight S)) (o__law_by_hand : Ok P w K mg base "_law_by_hand" ["_law_pattern", "_law_cell"] 8 spByHand) (o__law_same : Ok P w K mg base "_law_same" ["_law_found", "_law_due"] 2 spSame) (o_balls_of : Ok P w K mg base "balls_of" ["pattern"] 7 spBallsOf) (o__law_far_right : Ok P w K mg base "_law_far_right" ["_law_far"] 10 (spFarRight S))
    (mk_Turn : MkOk P w K mg base "Turn" S.t 1 (spSet1 S.t "k")) (mk_Lift : MkOk P w K mg base "Lift" S.l 1 (spSet1 S.l "k")) (mk_Swap : MkOk P w K mg base "Swap" S.s 1 (spSet2 S.s)) (mk_Neighbours : MkOk P w K mg base "Neighbours" S.n 1 (spSet1 S.n "k")) (mk_Gaps : MkOk P w K mg base "Gaps" S.g 1 (spSet1 S.g "h"))
    (mk_Changes : MkOk P w K mg base "Changes" S.r 1 (spInitR S)) (d_done : MsOk P w K mg base "done" 9 (DoneR OOB S)) (d_undone : MsOk P w K mg base "undone" 9 (UndoneR S)) (d_balls : MsOk P w K mg base "balls" 2 (BallsR S)) :
    FnOk P w K mg base (CXf P w) 12 f fd ["_law_script"] (spLaw K) := by
  refine h.fn.okX sc_law (fun vs H Q E h => ?_) (fun cdv A outer s H vs Q E hr h => ?_)
  · obtain ⟨a, ns, rfl, _⟩ := h
    rfl
  · obtain ⟨a, ns, rfl, ha, q⟩ := h
    refine ⟨_, (pss_cons (ps_set (i := 1) sc_law.nd rfl (by first | exact Or.inl rfl | exact Or.inr rfl) (pe_op op_add pe_int (pe_op op_mod (pe_callO o__law_cell_at (hr.mono (by decide)) rfl passX (pa_cons (pv 0) (pa_cons pe_int pa_nil))) pe_int)))
      (pss_cons (ps_set (i := 2) sc_law.nd rfl (by first | exact Or.inl rfl | exact Or.inr rfl) (pe_callO o__law_throws_by (hr.mono (by decide)) rfl passX (pa_cons (pv 1) (pa_cons (pe_callO o__law_cell_at (hr.mono (by decide)) rfl passX (pa_cons (pv 0) (pa_cons pe_int pa_nil))) (pa_cons (pe_op op_mod (pe_callO o__law_cell_at (hr.mono (by decide)) rfl passX (pa_cons (pv 0) (pa_cons pe_int pa_nil))) pe_int) pa_nil)))))
      (pss_cons (ps_set (i := 3) sc_law.nd rfl (by first | exact Or.inl rfl | exact Or.inr rfl) (pe_lstG pa_nil))
      (pss_cons (ps_set (i := 4) sc_law.nd rfl (by first | exact Or.inl rfl | exact Or.inr rfl) (pe_callTy (call_list_ofK (K := K) rfl) rfl B.list_ bt_list (pa_cons (pv 2) pa_nil)))
      (pss_cons (ps_for ownX rfl (pi_listK (K := K) rfl (pe_slice (sl_listK (K := K) rfl) (pv 0) (po_some pe_int) (po_some pe_int))) (pg_name (i := 5) sc_law.nd rfl (by first | exact Or.inl rfl | exact Or.inr rfl)) (pss_cons (ps_set (i := 6) sc_law.nd rfl (by first | exact Or.inl rfl | exact Or.inr rfl) (pe_callO o__law_one_by (hr.mono (by decide)) rfl passX (pa_cons (pv 5) (pa_cons (pv 1) pa_nil))))
      (pss_cons (ps_if (pt_not (pt_val (pe_callO o__law_kinds_right (hr.mono (by decide)) rfl passX (pa_cons (pv 6) pa_nil)))) (pss_one (ps_ret pe_bl)) pss_nil)
      (pss_cons (ps_set (i := 4) sc_law.nd rfl (by first | exact Or.inl rfl | exact Or.inr rfl) (pe_callO o__law_by_hand (hr.mono (by decide)) rfl passX (pa_cons (pv 4) (pa_cons (pv 5) pa_nil))))
      (pss_cons (ps_if (pt_cmpR op_eq (pe_op op_mod (pv 5) pe_int) pe_int (nomark _)) (pss_cons (ps_set (i := 6) sc_law.nd rfl (by first | exact Or.inl rfl | exact Or.inr rfl) (pe_makeK mk_Changes (hr.mono (by decide)) rfl passX (pa_cons (pe_lstG (pa_cons (pv 6) (pa_cons (pe_callO o__law_one_by (hr.mono (by decide)) rfl passX (pa_cons (pe_op op_fdiv (pv 5) pe_int) (pa_cons (pv 1) pa_nil))) pa_nil))) pa_nil)))
      (pss_one (ps_set (i := 4) sc_law.nd rfl (by first | exact Or.inl rfl | exact Or.inr rfl) (pe_callO o__law_by_hand (hr.mono (by decide)) rfl passX (pa_cons (pv 4) (pa_cons (pe_op op_fdiv (pv 5) pe_int) pa_nil)))))) pss_nil)
      (pss_one (ps_expr (pe_bmK (K := K) rfl PySem.F.plainAttrs_list PySem.F.slot_list_append PySem.F.type_list_append mt_append (pv 3) (pa_cons (pv 6) pa_nil)))))))))
      (pss_cons (ps_set (i := 7) sc_law.nd rfl (by first | exact Or.inl rfl | exact Or.inr rfl) (pe_makeK mk_Changes (hr.mono (by decide)) rfl passX (pa_cons (pv 3) pa_nil)))
      (pss_cons (ps_expr (pe_bm0K (K := K) rfl PySem.F.plainAttrs_list PySem.F.slot_list_clear PySem.F.type_list_clear mt_clear (pv 3)))
      (pss_cons (ps_set (i := 8) sc_law.nd rfl (by first | exact Or.inl rfl | exact Or.inr rfl) (pe_callTy (call_list_ofK (K := K) rfl) rfl B.list_ bt_list (pa_cons (pv 2) pa_nil)))
      (pss_cons (ps_set (i := 9) sc_law.nd rfl (by first | exact Or.inl rfl | exact Or.inr rfl) (pe_methD d_done (hr.mono (by decide)) passX (pv 7) (pa_cons (pv 8) pa_nil)))
      (pss_cons (ps_if (PW.pt (pw_or (pt_cmpR (op_neLK (K := K) rfl hr.units) (pv 8) (pv 2) (nomark _)) (pw_or (pt_not (pt_val (pe_callO o__law_kinds_right (hr.mono (by decide)) rfl passX (pa_cons (pv 7) pa_nil)))) (pw_or1 (pt_not (pt_val (pe_callO o__law_same (hr.mono (by decide)) rfl passX (pa_cons (pv 9) (pa_cons (pv 4) pa_nil))))))))) (pss_one (ps_ret pe_bl)) pss_nil)
      (pss_cons (ps_if (pt_cmpR op_ne (pe_methD d_balls (hr.mono (by decide)) passX (pv 7) (pa_cons (pe_op op_fdiv (pe_callB (call_sumLK (K := K) rfl rfl) rfl B.sum_ bt_sum (pa_cons (pv 2) pa_nil)) (pv 1)) pa_nil)) (pe_callO o_balls_of (hr.mono (by decide)) rfl passX (pa_cons (pv 9) pa_nil)) (nomark _)) (pss_one (ps_ret pe_bl)) pss_nil)
      (pss_cons (ps_set (i := 10) sc_law.nd rfl (by first | exact Or.inl rfl | exact Or.inr rfl) (pe_methD0 d_undone (hr.mono (by decide)) passX (pv 7)))
      (pss_cons (ps_if (PW.pt (pw_or (pt_not (pt_val (pe_callB (call_isO (K := K) rfl) rfl B.isinstance_ bt_isinstance (pa_cons (pv 10) (pa_cons (pe_cls m_Change) pa_nil))))) (pw_or1 (pt_not (pt_val (pe_callO o__law_same (hr.mono (by decide)) rfl passX (pa_cons (pe_methD d_done (hr.mono (by decide)) passX (pv 10) (pa_cons (pv 9) pa_nil)) (pa_cons (pv 2) pa_nil)))))))) (pss_one (ps_ret pe_bl)) pss_nil)
      (pss_cons (ps_if (pt_cmpR op_ne (pe_methD d_balls (hr.mono (by decide)) passX (pv 10) (pa_cons (pe_callO o_balls_of (hr.mono (by decide)) rfl passX (pa_cons (pv 9) pa_nil)) pa_nil)) (pe_callO o_balls_of (hr.mono (by decide)) rfl passX (pa_cons (pv 2) pa_nil)) (nomark _)) (pss_one (ps_ret pe_bl)) pss_nil)
      (pss_cons (ps_set (i := 11) sc_law.nd rfl (by first | exact Or.inl rfl | exact Or.inr rfl) (pe_op op_mod (pe_callO o__law_cell_at (hr.mono (by decide)) rfl passX (pa_cons (pv 0) (pa_cons pe_int pa_nil))) pe_int))
      (pss_cons (ps_for ownX rfl (pi_listK (K := K) rfl (pe_lstG (pa_cons (pe_makeK mk_Turn (hr.mono (by decide)) rfl passX (pa_cons (pe_op op_add pe_int (pv 11)) pa_nil)) (pa_cons (pe_makeK mk_Lift (hr.mono (by decide)) rfl passX (pa_cons (pe_op op_sub (pe_un un_neg pe_int) (pv 11)) pa_nil)) (pa_cons (pe_makeK mk_Gaps (hr.mono (by decide)) rfl passX (pa_cons (pe_op op_add pe_int (pv 11)) pa_nil)) (pa_cons (pe_makeK mk_Swap (hr.mono (by decide)) rfl passX (pa_cons pe_int (pa_cons (pe_op op_add pe_int (pv 11)) pa_nil))) (pa_cons (pe_makeK mk_Neighbours (hr.mono (by decide)) rfl passX (pa_cons (pe_op op_add pe_int (pv 11)) pa_nil)) pa_nil))))))) (pg_name (i := 6) sc_law.nd rfl (by first | exact Or.inl rfl | exact Or.inr rfl)) (pss_one (ps_if (pt_not (pt_val (pe_callO o__law_far_right (hr.mono (by decide)) rfl passX (pa_cons (pv 6) pa_nil)))) (pss_one (ps_ret pe_bl)) pss_nil)))
      (pss_one (ps_ret (pe_and (pe_callO o__law_same (hr.mono (by decide)) rfl passX (pa_cons (pe_methD d_done (hr.mono (by decide)) passX (pe_methD0 d_undone (hr.mono (by decide)) passX (pv 10)) (pa_cons (pv 2) pa_nil)) (pa_cons (pv 9) pa_nil))) (pe_one (pe_callO o__law_same (hr.mono (by decide)) rfl passX (pa_cons (pe_methD d_done (hr.mono (by decide)) passX (pv 7) (pa_cons (pv 2) pa_nil)) (pa_cons (pv 9) pa_nil))))))))))))))))))))))), ?_⟩
    walk_at "rd"
    refine ⟨a, ns, 0, rfl, ha, fun v0 => ⟨_, rfl, by decide, a, ns, 1, rfl, ha, fun v1 => ⟨a, ns, 2, rfl, ha, fun v2 => ⟨_, rfl, by decide, ?_⟩⟩⟩⟩
    have z0 := Int.emod_nonneg v0 (show (9 : Int) ≠ 0 by decide)
    have z1 := Int.emod_lt_of_pos v0 (show (0 : Int) < 9 by decide)
    obtain ⟨n, hn⟩ : ∃ n : Nat, 1 + v0 % 9 = (n : Int) := ⟨(1 + v0 % 9).toNat, by omega⟩
    rw [hn]
    have y0 := Int.emod_nonneg v2 (show (2 : Int) ≠ 0 by decide)
    have y1 := Int.emod_lt_of_pos v2 (show (0 : Int) < 2 by decide)
    refine ⟨n, v1, _, rfl, by omega, by omega, fun H1 pt T s1 hpt p bdT lT hT => ⟨by decide, fun rw_ H2 hrw s2 hr2 => ⟨pt, rfl, _, .inl (.of (s2 _ _ hT)), fun D hD => ?_⟩⟩⟩
    have bd := bdT (by omega)
    have s3 := same_upd (o := HO.lst (T.map V.int)) hD
    have hr3 := s3 _ _ hr2
    have hT3 := s3 _ _ (s2 _ _ hT)
    have hD3 : upd H2 D (HO.lst (T.map V.int)) D = _ := upd_same
    have ha3 := (s1.trans (s2.trans s3)).seq ha
    generalize upd H2 D (HO.lst (T.map V.int)) = H3 at *
    refine ⟨_, ha3, fun sl hsl => ?_⟩
    have s4 := same_upd (o := HO.lst (cutV (ns.map V.int) (some 3) (some 40))) hsl
    have hr4 := s4 _ _ hr3
    have hT4 := s4 _ _ hT3
    have hD4 := s4 _ _ hD3
    have ha4 := s4.seq ha3
    have h4 : upd H3 sl (HO.lst (cutV (ns.map V.int) (some 3) (some 40))) sl = _ := upd_same
    generalize upd H3 sl (HO.lst (cutV (ns.map V.int) (some 3) (some 40))) = H4 at *
    have lT9 : T.length ≤ 9 := by omega
    have hptr : pt ≠ rw_ := ne_of_none hT hrw
    have hslr : sl ≠ rw_ := fun e => by rw [e, hr3] at hsl; cases hsl
    refine ⟨⟨_, .of h4⟩, for_list (xs := cutV (ns.map V.int) (some 3) (some 40)) (fun i σ H' => i ≤ 37 ∧ (∀ b o, b ≠ rw_ → H4 b = some o → H' b = some o) ∧ ∃ D ms os css o1 o2, σ = [some (V.ref a), some (V.int n), some (V.ref pt), some (V.ref rw_), some (V.ref D), o1, o2, none, none, none, none, none] ∧ H' rw_ = some (.lst (os.map V.ref)) ∧ Os S H' os css ∧ H' D = some (.lst (ms.map V.int)) ∧ Run css.flatten T ms ∧ Bd (300 + 20 * i) ms ∧ css.flatten.length ≤ 2 * i ∧ os.length = i) ⟨by omega, fun b o _ e => e, D, T, [], [], _, _, rfl, hr4, .nil, hD4, .nil, (by simpa [Bd] using bd), by decide, rfl⟩ (fun i σ H' _ pv => .of (pv.2.1 _ _ hslr h4)) (fun i x σ H' hx pv => ?_) (fun σ H' pv => ?_)⟩
    · obtain ⟨hi, kp, D, ms, os, css, o1, o2, rfl, hrw', O, hD', r, b, lf, lo⟩ := pv
      obtain ⟨c, rfl⟩ : ∃ c, x = V.int c := by
        have hm := List.mem_of_getElem? hx
        unfold cutV at hm
        obtain ⟨c, _, e⟩ := List.mem_map.mp (List.mem_of_mem_drop (List.mem_of_mem_take hm))
        exact ⟨c, e.symm⟩
      have hlt := (List.getElem?_eq_some_iff.mp hx).1
      have i37 : i < 37 := Nat.lt_of_lt_of_le hlt cut_len
      have pm := r.pat p
      have lm : ms.length = n := (r.len p).trans lT
      have fin : ∀ {Hf : Hp} {D' x : Addr} {ms' : List Int} {cs' : List Ch}, Same H' Hf → IsO S Hf x cs' → Hf D' = some (.lst (ms'.map V.int)) → 1 ≤ ms'.length → Run cs' ms ms' → Bd (300 + 20 * ((i + 1 : Nat) : Int)) ms' → cs'.length ≤ 2 → (tyV K "list" (V.ref rw_) Hf ∧ ∃ x2, Hf rw_ = some (.lst x2) ∧ x2.length < sizeLine ∧ i + 1 ≤ 37 ∧ (∀ b o, b ≠ rw_ → H4 b = some o → upd Hf rw_ (.lst (x2 ++ [V.ref x])) b = some o) ∧ ∃ D, V.ref D' = V.ref D ∧ ∃ x3 x4, upd Hf rw_ (.lst (x2 ++ [V.ref x])) rw_ = some (.lst (x4.map V.ref)) ∧ ∃ x5, Os S (upd Hf rw_ (.lst (x2 ++ [V.ref x]))) x4 x5 ∧ upd Hf rw_ (.lst (x2 ++ [V.ref x])) D = some (.lst (x3.map V.int)) ∧ Run x5.flatten T x3 ∧ Bd (300 + 20 * ((i + 1 : Nat) : Int)) x3 ∧ x5.flatten.length ≤ 2 * (i + 1) ∧ x4.length = i + 1) := fun {Hf D' x ms' cs'} sf io hd lo' rn bd' l2 =>
        ⟨.inl ⟨rfl, _, .of (sf _ _ hrw')⟩, _, sf _ _ hrw', small1000 (by rw [List.length_map, lo]; omega), by omega, fun b o hb e => by rw [upd_ne hb]; exact sf _ _ (kp _ _ hb e), D', rfl, ms', os ++ [x], by rw [upd_same, List.map_append]; rfl, css ++ [cs'], ((O.same sf).snoc io).over (sf _ _ hrw'), by rw [upd_ne (ints_ne lo' hd (sf _ _ hrw'))]; exact hd, by rw [List.flatten_append]; simpa using r.app rn, bd', by rw [List.flatten_append, List.length_append]; simp only [List.flatten_cons, List.flatten_nil, List.append_nil]; omega, by rw [List.length_append, lo]; rfl⟩
      walk_at "rd"
      refine ⟨c, n, rfl, by omega, fun H5 o s5 io => ?_⟩
      rw [← lm] at io
      obtain ⟨do_, ho⟩ := id io
      refine ⟨o, _, do_, _, rfl, ho, Kinds.memB _, fun H6 s6 => ⟨_, rfl, ?_⟩⟩
      walk_at "rd"
      have ld := little_do pm (by omega) (chBy_little (c := c) (by omega)) b (by omega)
      refine ⟨D, ms, c, rfl, (s5.trans s6) _ _ hD', pm, ld.1, fun H7 D7 s7 h7 => ⟨by decide, ?_⟩⟩
      have s57 := s5.trans (s6.trans s7)
      have pm2 := do_pat pm ld.1
      have lm2 : (doC (chBy c ms.length) ms).length = ms.length := do_len pm
      refine ite2 (fun _ => ?_) (fun _ => ?_)
      · have ld2 := little_do pm2 (by omega) (chBy_little (c := c / 5) (by omega)) ld.2 (by omega)
        refine ⟨by decide, by decide, c / 5, n, rfl, by omega, fun H8 o8 s8 io8 => ⟨by decide, fun l G hl sg hG x dx hx hd ne => ⟨G, x, dx, l, [o, o8], [[chBy c ms.length], [chBy (c / 5) (doC (chBy c ms.length) ms).length]], rfl, made hx hd, hx, upd_same, hG, ((Os.nil.snoc (.inl ⟨_, rfl, io.same ((s6.trans s7).trans (s8.trans sg))⟩)).snoc (.inl ⟨_, rfl, by rw [lm2, lm]; exact io8.same sg⟩) : Os S G [o, o8] _), by show 2 ≤ 1000; decide, fun H9 s9 r9 => ⟨rfl, by decide, by decide, D7, _, c / 5, rfl, s9 _ _ (sg _ _ (s8 _ _ h7)), pm2, ld2.1, fun H10 D10 s10 h10 => ?_⟩⟩⟩⟩
        refine fin ((s57.trans s8).trans (sg.trans (s9.trans s10))) (.inr (r9.same s10)) h10 (by rw [do_len pm2, lm2]; exact pm.lo) (.cons ld.1 (.cons ld2.1 .nil)) (bd_up ld2.2 (by omega)) (by show 2 ≤ 2; decide)
      · exact fin s57 (.inl ⟨_, rfl, io.same (s6.trans s7)⟩) h7 (by rw [lm2]; exact pm.lo) (.cons ld.1 .nil) (bd_up ld.2 (by omega)) (by show 1 ≤ 2; decide)
    · obtain ⟨hi, kp, D, ms, os, css, o1, o2, rfl, hrw', O, hD', r, b, lf, lo⟩ := pv
      have pm := r.pat p
      have lm : ms.length = n := (r.len p).trans lT
      have lf74 : css.flatten.length ≤ 1000 := by omega
      walk_at "rd"
      intro x dx hx hd ne
      have hDr : D ≠ rw_ := ints_ne pm.lo hD' hrw'
      refine ⟨H', x, dx, rw_, os, css, rfl, made hx hd, hx, upd_same, hrw', O, lf74, fun H5 s5 r5 => ⟨rfl, .inl ⟨rfl, _, .of (s5 _ _ hrw')⟩, _, s5 _ _ hrw', ?_⟩⟩
      have hT6 : upd H5 rw_ (HO.lst []) pt = _ := (upd_ne hptr).trans (s5 _ _ (kp _ _ hptr hT4))
      have hD6 : upd H5 rw_ (HO.lst []) D = _ := (upd_ne hDr).trans (s5 _ _ hD')
      have r6 := r5.over (ys := []) (s5 _ _ hrw')
      have ha6 : SqL K (upd H5 rw_ (HO.lst [])) a (ns.map V.int) := sq_but (s1.seq ha) hrw fun b o hb e => (upd_ne hb).trans (s5 _ _ (kp _ _ hb (s4 _ _ (s3 _ _ (s2 _ _ e)))))
      generalize upd H5 rw_ (HO.lst []) = H6 at *
      refine ⟨_, .inl (.of hT6), fun l hl => ?_⟩
      have s7 := same_upd (o := HO.lst (T.map V.int)) hl
      have r7 := r6.same s7
      have hT7 := s7 _ _ hT6
      have hD7 := s7 _ _ hD6
      have ha7 := s7.seq ha6
      have hl7 : upd H6 l (HO.lst (T.map V.int)) l = _ := upd_same
      generalize upd H6 l (HO.lst (T.map V.int)) = H7 at *
      clear s7 hl
      obtain ⟨dU, tU, tsU, hU, hU2⟩ := id r7
      refine ⟨_, dU, _, hU, rfl, _, ⟨rfl, rfl⟩, x, l, _, T, rfl, r7, hl7, p, fun ms' r' H8 F s8 hF h8 => ?_, fun z => absurd r (z ms)⟩
      cases r.det r'
      refine ⟨_, .of (s8 _ _ hl7), _, .of (s8 _ _ hT7), ?_⟩
      rw [decide_eq_true rfl]
      walk_at "rd"
      refine ⟨x, _, dU, _, rfl, s8 _ _ hU, by simp, fun H9 s9 => ⟨_, rfl, ?_⟩⟩
      walk_at "rd"
      refine ⟨F, D, ms, ms, rfl, s9 _ _ h8, s9 _ _ (s8 _ _ hD7), by omega, rfl, _, rfl, ?_⟩
      walk_at "rd"
      have s79 := s8.trans s9
      refine ⟨_, dU, _, s79 _ _ hU, rfl, _, ⟨rfl, rfl⟩, _, .of (s79 _ _ hT7), by omega, by omega, x, _, _, rfl, r7.same s79, F, ms, rfl, s9 _ _ h8, pm, fun H10 s10 => ⟨rfl, ?_⟩⟩
      rw [decide_eq_true (show V.int _ = V.int _ by rw [r.balls p, lT])]
      walk_at "rd"
      have s70 := s79.trans s10
      have h10 := s10 _ _ (s9 _ _ h8)
      have r10 := r7.same s70
      have hT10 := s70 _ _ hT7
      have ha10 := s70.seq ha7
      have hU10 := s70 _ _ hU
      clear h8 s70 s79 s10 s9 s8 hU hT7 ha7 hl7 hD7 r7
      refine ⟨_, dU, _, hU10, rfl, _, ⟨rfl, rfl⟩, x, _, rfl, r10, lf74, fun H11 U s11 rU => ?_⟩
      obtain ⟨dV, tV, tsV, hV, hV2⟩ := id rU
      have ru := r.undo p
      refine ⟨_, (kd.oc S.r (by simp)).ty hV, _, kd.kit S.r (by simp) S.c (by simp), ?_⟩
      rw [decide_eq_true (p := S.c = S.c) rfl, Bool.or_true]
      walk_at "rd"
      refine ⟨_, dV, _, hV, rfl, _, ⟨rfl, rfl⟩, U, F, _, ms, rfl, rU, s11 _ _ h10, pm, fun ms' r' H12 F2 s12 hF2 h12 => ?_, fun z => absurd ru (z T)⟩
      cases ru.det r'
      refine ⟨F2, pt, T, T, rfl, h12, s12 _ _ (s11 _ _ hT10), by omega, rfl, _, rfl, ?_⟩
      walk_at "rd"
      refine ⟨_, dV, _, s12 _ _ hV, rfl, _, ⟨rfl, rfl⟩, F, ms, rfl, s12 _ _ (s11 _ _ h10), pm, fun H13 s13 => ⟨U, _, _, rfl, rU.same (s12.trans s13), pt, T, rfl, s13 _ _ (s12 _ _ (s11 _ _ hT10)), p, fun H14 s14 => ⟨rfl, ?_⟩⟩⟩
      rw [decide_eq_true (show V.int _ = V.int _ by rw [ru.balls pm])]
      walk_at "rd"
      have s114 := s12.trans (s13.trans s14)
      have h14 := s114 _ _ (s11 _ _ h10)
      have r14 := r10.same (s11.trans s114)
      have hT14 := s114 _ _ (s11 _ _ hT10)
      have ha14 := s114.seq (s11.seq ha10)
      have hU14 := s114 _ _ (s11 _ _ hU10)
      have rV14 := rU.same s114
      have hV14 := s114 _ _ hV
      clear h12 hF2 s114 s14 s13 s12 s11 hV hU10 ha10 hT10 r10 h10 rU hV2
      refine ⟨a, ns, 2, rfl, ha14, fun v => ⟨_, rfl, by decide, ?_⟩⟩
      obtain ⟨fr, hfr⟩ := Int.eq_ofNat_of_zero_le (Int.emod_nonneg v (show (9 : Int) ≠ 0 by decide))
      rw [hfr]
      intro x1 d1 hx1 hd1 ne1
      refine mk1 hx1 hd1 fun G1 g1 e1 => ⟨rfl, ?_⟩
      intro x2 d2 hx2 hd2 ne2
      refine mk1 hx2 hd2 fun G2 g2 e2 => ⟨rfl, fun x3 d3 hx3 hd3 ne3 => mk1 hx3 hd3 fun G3 g3 e3 => ⟨rfl, fun x4 d4 hx4 hd4 ne4 => mk2 hx4 hd4 fun G4 g4 e4 => ⟨rfl, fun x5 d5 hx5 hd5 ne5 => mk1 hx5 hd5 fun G5 g5 e5 => ⟨rfl, by decide, fun lf G hlf g6 hG => ⟨⟨_, .of hG⟩, ?_⟩⟩⟩⟩⟩
      have t5 := g6
      have t4 := g5.trans t5
      have t3 := g4.trans t4
      have t2 := g3.trans t3
      have t1 := g2.trans t2
      have t0 := g1.trans t1
      have b1 : IsB S G x1 (.turn (1000001 + fr)) := ⟨d1, t1 _ _ e1⟩
      have b2 : IsB S G x2 (.lift (-1000001 - fr)) := ⟨d2, t2 _ _ e2⟩
      have b3 : IsB S G x3 (.gap (1000001 + fr)) := ⟨d3, t3 _ _ e3⟩
      have b4 : IsB S G x4 (.swap 1 (2 + fr)) := ⟨d4, t4 _ _ e4⟩
      have b5 : IsB S G x5 (.nb (2 + fr)) := ⟨d5, t5 _ _ e5⟩
      refine for_list (xs := [V.ref x1, V.ref x2, V.ref x3, V.ref x4, V.ref x5]) (fun i σ H' => Same G H' ∧ ∃ o, σ = [some (V.ref a), some (V.int n), some (V.ref pt), some (V.ref rw_), some (V.ref D), o1, o, some (V.ref x), some (V.ref l), some (V.ref F), some (V.ref U), some (V.int fr)]) ⟨Same.refl _, _, rfl⟩ (fun i σ H' _ pv => .of (pv.1 _ _ hG)) (fun i y σ H' hy pv => ?_) (fun σ H' pv => ?_)
      · obtain ⟨sG, o, rfl⟩ := pv
        obtain ⟨z, c, rfl, iz, fz⟩ : ∃ z c, y = .ref z ∧ IsB S G z c ∧ Far c := by
          match i, hy with
          | 0, hy => cases hy; exact ⟨_, _, rfl, b1, far_turn fr⟩
          | 1, hy => cases hy; exact ⟨_, _, rfl, b2, far_lift fr⟩
          | 2, hy => cases hy; exact ⟨_, _, rfl, b3, far_gap fr⟩
          | 3, hy => cases hy; exact ⟨_, _, rfl, b4, far_swap fr⟩
          | 4, hy => cases hy; exact ⟨_, _, rfl, b5, far_nb fr⟩
          | i + 5, hy => simp at hy
        walk_at "rd"
        refine ⟨z, c, rfl, iz.same sG, fz.1, fz.2, fun H20 s20 => ⟨_, rfl, ?_⟩⟩
        walk_at "rd"
        exact sG.trans s20
      · obtain ⟨sG, o, rfl⟩ := pv
        have t9 := t0.trans sG
        walk_at "rd"
        refine ⟨_, _, _, t9 _ _ hV14, rfl, _, ⟨rfl, rfl⟩, U, _, rfl, rV14.same t9, ?_, fun H21 U2 s21 rU2 => ?_⟩
        · rw [List.length_map, List.length_reverse]
          exact lf74
        · rw [undo_twice] at rU2
          obtain ⟨dW, tW, tsW, hW, hW2⟩ := id rU2
          have t21 := t9.trans s21
          refine ⟨U2, rfl, _, dW, _, hW, rfl, _, ⟨rfl, rfl⟩, U2, pt, _, T, rfl, rU2, t21 _ _ hT14, p, fun ms' r' H22 F3 s22 hF3 h22 => ?_, fun z => absurd r (z ms)⟩
          cases r.det r'
          refine ⟨F3, F, ms, ms, rfl, h22, s22 _ _ (t21 _ _ h14), by omega, rfl, ?_⟩
          walk_at "rd"
          have t22 := t21.trans s22
          refine ⟨_, dU, _, t22 _ _ hU14, rfl, _, ⟨rfl, rfl⟩, x, pt, _, T, rfl, r14.same t22, t22 _ _ hT14, p, fun ms' r' H23 F4 s23 hF4 h23 => ?_, fun z => absurd r (z ms)⟩
          cases r.det r'
          refine ⟨F4, F, ms, ms, rfl, h23, s23 _ _ (t22 _ _ h14), by omega, rfl, ?_⟩
          exact q _
end
end Tb

namespace Tb
open PySem L2 TB
theorem walk {l : PySem.W.OpenLaw} {q : Program} {loose : List Str} {XP : (Str → Option Value) → Heap → Prop} {YP : World → Heap → Prop} {d : DefRec} {K : Params → PySem.W.Frag} (hn : l.most = some 63) (hdf : d.params.defaults = [])
    (hY : ∀ (w : World) (h : Heap), YP w h → (K w.params).In h)
    (F : ∀ (w : World) (mg : Str → Option Value) (fa : Addr) (h : Heap), (K w.params).In h → h.Ns mainGlobals mg → mg d.name = some (.ref fa) →
      ∃ fd : FuncData, (∀ (s : Shared) (u : Value), BindsTo s fd ⟨[u], []⟩ [("_law_script", u)]) ∧ ∀ base : Heap, (K w.params).In base → base.Ns mainGlobals mg → FnOk l.prog w (K w.params) mg base (CXf l.prog w) 12 fa fd ["_law_script"] (spLaw (K w.params))) :
    PySem.W.WalkO q loose XP YP l.row.toRowW d [] (fun f vs => PySem.call f vs) :=
  L2.walk_of (n := 63) (k := 12) (x := "_law_script") (CX := fun w => CXf l.prog w) (sp := fun w => spLaw (K w.params)) hn (by decide) hdf ⟨rfl, by decide, by decide⟩ hY F (fun _ _ a ns _ _ hS => ⟨a, ns, rfl, hS, fun _ => rfl⟩) fun _ _ _ _ _ z => cxf_no z
theorem bind1 {K : PySem.W.Frag} {mg : Str → Option Value} {x : Str} {st : Stmt} {p : Str} {f : Addr} {fd : FuncData} (h : Has K mg x st [p] f fd) (hp : ∀ (kV doc pm : Value) (an : Option Addr) (cdv ct : Value) (u : Value), bindArgs (PySem.W.fnOf x x (defArgs st) (defBody st) (defScope st) .none kV doc pm an cdv ct) ⟨[u], []⟩ = pure [(p, u)]) (s : Shared) (u : Value) : BindsTo s fd ⟨[u], []⟩ [(p, u)] := by
  obtain ⟨oc, od, kV, doc, pm, an, cdv, ct, osl, rfl, lk, hcd⟩ := h.fn.ex
  exact .of_eq (hp kV doc pm an cdv ct u)

theorem kit_own {K : PySem.W.Frag} {C D : Addr} {mC mD : List Value} (hC : (PySem.W.clsIn K C).map (·.mro) = some mC) (hne : mC.isEmpty = false) (hD : (PySem.W.clsIn K D).map (·.mro) = some mD) (tD : PySem.W.typeIn K (.ref D) = some (.type "type")) : PySem.W.kitOne K (.ref C) (.ref D) = some (decide (C = D) || mC.contains (.ref D)) := by
  unfold PySem.W.kitOne
  by_cases e : C = D
  · subst e
    rw [if_pos (by simp), decide_eq_true rfl, Bool.true_or]
  · rw [if_neg (by simpa using e), decide_eq_false e, Bool.false_or]
    unfold PySem.W.kitCls
    dsimp only
    obtain ⟨cd, h1, h2⟩ := Option.map_eq_some_iff.mp hD
    obtain ⟨cc, h3, h4⟩ := Option.map_eq_some_iff.mp hC
    rw [h1, tD]
    unfold PySem.W.subIn PySem.W.mroIn
    dsimp only
    rw [h3, Option.bind_some, h4, hne]
    simp
def KindsIs (K : PySem.W.Frag) (mg : Str → Option Value) : Prop := ∃ S : Cs, mg "Change" = some (.ref S.c) ∧ mg "Turn" = some (.ref S.t) ∧ mg "Lift" = some (.ref S.l) ∧ mg "Swap" = some (.ref S.s) ∧ mg "Neighbours" = some (.ref S.n) ∧ mg "Mirror" = some (.ref S.m) ∧ mg "Gaps" = some (.ref S.g) ∧ mg "Changes" = some (.ref S.r) ∧ (∀ C ∈ [S.c, S.t, S.l, S.s, S.n, S.m, S.g, S.r], ∀ D ∈ [S.c, S.t, S.l, S.s, S.n, S.m, S.g, S.r], PySem.W.kitOne K (.ref C) (.ref D) = some (decide (C = D) || decide (D = S.c))) ∧ [S.c, S.t, S.l, S.s, S.n, S.m, S.g, S.r].Nodup
theorem kinds_mk {K : PySem.W.Frag} {h : Heap} {mg : Str → Option Value} {c t l s n m g r : Addr} {cdc cdt cdl cds cdn cdm cdg cdr : ClassData} (X : K.In h) (G : h.Ns mainGlobals mg)
    (yc : PySem.W.nsIn K mainGlobals "Change" = some (some (.ref c)))
    (yt : PySem.W.nsIn K mainGlobals "Turn" = some (some (.ref t)))
    (yl : PySem.W.nsIn K mainGlobals "Lift" = some (some (.ref l)))
    (ys : PySem.W.nsIn K mainGlobals "Swap" = some (some (.ref s)))
    (yn : PySem.W.nsIn K mainGlobals "Neighbours" = some (some (.ref n)))
    (ym : PySem.W.nsIn K mainGlobals "Mirror" = some (some (.ref m)))
    (yg : PySem.W.nsIn K mainGlobals "Gaps" = some (some (.ref g)))
    (yr : PySem.W.nsIn K mainGlobals "Changes" = some (some (.ref r)))
    (kc : PySem.W.clsIn K c = some cdc)
    (kt : PySem.W.clsIn K t = some cdt)
    (kl : PySem.W.clsIn K l = some cdl)
    (ks : PySem.W.clsIn K s = some cds)
    (kn : PySem.W.clsIn K n = some cdn)
    (km : PySem.W.clsIn K m = some cdm)
    (kg : PySem.W.clsIn K g = some cdg)
    (kr : PySem.W.clsIn K r = some cdr)
    (tc : PySem.W.typeIn K (.ref c) = some (.type "type"))
    (tt : PySem.W.typeIn K (.ref t) = some (.type "type"))
    (tl : PySem.W.typeIn K (.ref l) = some (.type "type"))
    (ts : PySem.W.typeIn K (.ref s) = some (.type "type"))
    (tn : PySem.W.typeIn K (.ref n) = some (.type "type"))
    (tm : PySem.W.typeIn K (.ref m) = some (.type "type"))
    (tg : PySem.W.typeIn K (.ref g) = some (.type "type"))
    (tr : PySem.W.typeIn K (.ref r) = some (.type "type"))
    (mrc : cdc.mro = [.ref c, .type "object"])
    (mrt : cdt.mro = [.ref t, .ref c, .type "object"])
    (mrl : cdl.mro = [.ref l, .ref c, .type "object"])
    (mrs : cds.mro = [.ref s, .ref c, .type "object"])
    (mrn : cdn.mro = [.ref n, .ref c, .type "object"])
    (mrm : cdm.mro = [.ref m, .ref c, .type "object"])
    (mrg : cdg.mro = [.ref g, .ref c, .type "object"])
    (mrr : cdr.mro = [.ref r, .ref c, .type "object"])
    (nd : [c, t, l, s, n, m, g, r].Nodup) : KindsIs K mg := by
  refine ⟨⟨c, t, l, s, n, m, g, r⟩, PySem.W.mg_of X G yc, PySem.W.mg_of X G yt, PySem.W.mg_of X G yl, PySem.W.mg_of X G ys, PySem.W.mg_of X G yn, PySem.W.mg_of X G ym, PySem.W.mg_of X G yg, PySem.W.mg_of X G yr, ?_, nd⟩
  have hm : ∀ C ∈ [c, t, l, s, n, m, g, r], ∃ mC, (PySem.W.clsIn K C).map (·.mro) = some mC ∧ mC.isEmpty = false ∧ ∀ D, mC.contains (Value.ref D) = (decide (C = D) || decide (D = c)) := by
    intro C hC
    simp only [List.mem_cons, List.not_mem_nil, or_false] at hC
    have one : ∀ {X D : Addr}, [Value.ref X, .ref c, .type "object"].contains (Value.ref D) = (decide (X = D) || decide (D = c)) := fun {X D} => by
      by_cases e : X = D
      · subst e; simp
      · by_cases e2 : D = c
        · subst e2; simp
        · simp [e, e2, Ne.symm e]
    have zero : ∀ {D : Addr}, [Value.ref c, .type "object"].contains (Value.ref D) = (decide (c = D) || decide (D = c)) := fun {D} => by
      by_cases e : c = D
      · subst e; simp
      · simp [e, Ne.symm e]
    rcases hC with rfl | rfl | rfl | rfl | rfl | rfl | rfl | rfl
    · exact ⟨_, (by rw [kc, Option.map_some, mrc]), rfl, fun D => zero⟩
    · exact ⟨_, (by rw [kt, Option.map_some, mrt]), rfl, fun D => one⟩
    · exact ⟨_, (by rw [kl, Option.map_some, mrl]), rfl, fun D => one⟩
    · exact ⟨_, (by rw [ks, Option.map_some, mrs]), rfl, fun D => one⟩
    · exact ⟨_, (by rw [kn, Option.map_some, mrn]), rfl, fun D => one⟩
    · exact ⟨_, (by rw [km, Option.map_some, mrm]), rfl, fun D => one⟩
    · exact ⟨_, (by rw [kg, Option.map_some, mrg]), rfl, fun D => one⟩
    · exact ⟨_, (by rw [kr, Option.map_some, mrr]), rfl, fun D => one⟩
  have ht : ∀ D ∈ [c, t, l, s, n, m, g, r], PySem.W.typeIn K (.ref D) = some (.type "type") := by
    intro D hD
    simp only [List.mem_cons, List.not_mem_nil, or_false] at hD
    rcases hD with rfl | rfl | rfl | rfl | rfl | rfl | rfl | rfl <;> assumption
  intro C hC D hD
  obtain ⟨mC, h1, h2, h3⟩ := hm C hC
  obtain ⟨mD, h4, _⟩ := hm D hD
  rw [kit_own h1 h2 h4 (ht D hD), h3, ← Bool.or_assoc, Bool.or_self]
theorem all_k15 {l : PySem.W.OpenLaw} {w : World} {K : PySem.W.Frag} {mg : Str → Option Value} {fa : Addr} (hfa : mg "law" = some (.ref fa)) (B : Blt mg) (b_reversed : mg "reversed" = none) (g1 : GInt mg "LONGEST_ROW" 60) (g2 : GInt mg "FARTHEST_THROW" 1000000)
    (e1 : ∃ C, ExcCls K C ∧ mg "NotARow" = some (.ref C)) (e2 : ∃ C, ExcCls K C ∧ mg "OutOfBounds" = some (.ref C)) (e3 : KindsIs K mg)
    (h_is_whole : ∃ f fd, Has K mg "is_whole" s_is_whole ["value"] f fd)
    (h_is_between : ∃ f fd, Has K mg "is_between" s_is_between ["value", "least", "most"] f fd)
    (h_is_throw : ∃ f fd, Has K mg "is_throw" s_is_throw ["value"] f fd)
    (h_check_throw : ∃ f fd, Has K mg "check_throw" s_check_throw ["value"] f fd)
    (h_check_row : ∃ f fd, Has K mg "check_row" s_check_row ["row"] f fd)
    (h_check_pattern : ∃ f fd, Has K mg "check_pattern" s_check_pattern ["pattern"] f fd)
    (h_landings : ∃ f fd, Has K mg "landings" s_landings ["row"] f fd)
    (h_clash_of : ∃ f fd, Has K mg "clash_of" s_clash_of ["row"] f fd)
    (h_balls_of : ∃ f fd, Has K mg "balls_of" s_balls_of ["pattern"] f fd)
    (h_within_bounds : ∃ f fd, Has K mg "within_bounds" s_within_bounds ["throws"] f fd)
    (h_turned : ∃ f fd, Has K mg "turned" s_turned ["pattern", "k"] f fd)
    (h_lifted : ∃ f fd, Has K mg "lifted" s_lifted ["pattern", "k"] f fd)
    (h_mirrored : ∃ f fd, Has K mg "mirrored" s_mirrored ["pattern"] f fd)
    (h_gaps : ∃ f fd, Has K mg "gaps" s_gaps ["pattern", "h"] f fd)
    (h_check_beat : ∃ f fd, Has K mg "check_beat" s_check_beat ["value", "length"] f fd)
    (h_crosswise : ∃ f fd, Has K mg "crosswise" s_crosswise ["throws", "one", "other"] f fd)
    (h_swapped : ∃ f fd, Has K mg "swapped" s_swapped ["pattern", "i", "j"] f fd)
    (h_neighbours : ∃ f fd, Has K mg "neighbours" s_neighbours ["pattern", "k"] f fd)
    (h_unchanged : ∃ f fd, Has K mg "unchanged" s_unchanged ["pattern"] f fd)
    (h_opposite : ∃ f fd, Has K mg "opposite" s_opposite ["number"] f fd)
    (h__law_cell_at : ∃ f fd, Has K mg "_law_cell_at" s__law_cell_at ["_law_script", "_law_k"] f fd)
    (h__law_mixed : ∃ f fd, Has K mg "_law_mixed" s__law_mixed ["_law_cell", "_law_k"] f fd)
    (h__law_spots_by : ∃ f fd, Has K mg "_law_spots_by" s__law_spots_by ["_law_size", "_law_cell"] f fd)
    (h__law_throws_by : ∃ f fd, Has K mg "_law_throws_by" s__law_throws_by ["_law_size", "_law_cell", "_law_kind"] f fd)
    (h__law_same : ∃ f fd, Has K mg "_law_same" s__law_same ["_law_found", "_law_due"] f fd)
    (h__law_beats_by : ∃ f fd, Has K mg "_law_beats_by" s__law_beats_by ["_law_cell", "_law_size"] f fd)
    (h__law_one_by : ∃ f fd, Has K mg "_law_one_by" s__law_one_by ["_law_cell", "_law_size"] f fd)
    (h__law_by_hand : ∃ f fd, Has K mg "_law_by_hand" s__law_by_hand ["_law_pattern", "_law_cell"] f fd)
    (h__law_kinds_right : ∃ f fd, Has K mg "_law_kinds_right" s__law_kinds_right ["_law_change"] f fd)
    (h__law_far_right : ∃ f fd, Has K mg "_law_far_right" s__law_far_right ["_law_far"] f fd)
    (h_law : ∃ f fd, Has K mg "law" s_law ["_law_script"] f fd)
    (c_Change : ∃ C, mg "Change" = some (.ref C) ∧ OCls K C)
    (i0_Change : ∃ C, mg "Change" = some (.ref C) ∧ PySem.W.findIn K (.ref C) "__init__" = some (some (.builtin "object.__init__")))
    (hm_Change_done : ∃ C f fd, mg "Change" = some (.ref C) ∧ Meth K C "done" f ∧ Fun K "done" "Change.done" s_Change_done f fd ∧ Binds K fd ["self", "pattern"] [])
    (hm_Change_undone : ∃ C f fd, mg "Change" = some (.ref C) ∧ Meth K C "undone" f ∧ Fun K "undone" "Change.undone" s_Change_undone f fd ∧ Binds K fd ["self"] [])
    (hm_Change_balls : ∃ C f fd, mg "Change" = some (.ref C) ∧ Meth K C "balls" f ∧ Fun K "balls" "Change.balls" s_Change_balls f fd ∧ Binds K fd ["self", "many"] [])
    (c_Turn : ∃ C, mg "Turn" = some (.ref C) ∧ OCls K C)
    (in_Turn : ∃ C f fd, mg "Turn" = some (.ref C) ∧ Mk K C f ∧ Fun K "__init__" "Turn.__init__" s_Turn___init__ f fd ∧ Binds K fd ["self", "k"] [])
    (na_Turn_k : ∃ C, mg "Turn" = some (.ref C) ∧ NoAttr K C "k")
    (hm_Turn_done : ∃ C f fd, mg "Turn" = some (.ref C) ∧ Meth K C "done" f ∧ Fun K "done" "Turn.done" s_Turn_done f fd ∧ Binds K fd ["self", "pattern"] [])
    (hm_Turn_undone : ∃ C f fd, mg "Turn" = some (.ref C) ∧ Meth K C "undone" f ∧ Fun K "undone" "Turn.undone" s_Turn_undone f fd ∧ Binds K fd ["self"] [])
    (hm_Turn_balls : ∃ C f fd, mg "Turn" = some (.ref C) ∧ Meth K C "balls" f ∧ Fun K "balls" "Change.balls" s_Change_balls f fd ∧ Binds K fd ["self", "many"] [])
    (c_Lift : ∃ C, mg "Lift" = some (.ref C) ∧ OCls K C)
    (in_Lift : ∃ C f fd, mg "Lift" = some (.ref C) ∧ Mk K C f ∧ Fun K "__init__" "Lift.__init__" s_Lift___init__ f fd ∧ Binds K fd ["self", "k"] [])
    (na_Lift_k : ∃ C, mg "Lift" = some (.ref C) ∧ NoAttr K C "k")
    (hm_Lift_done : ∃ C f fd, mg "Lift" = some (.ref C) ∧ Meth K C "done" f ∧ Fun K "done" "Lift.done" s_Lift_done f fd ∧ Binds K fd ["self", "pattern"] [])
    (hm_Lift_undone : ∃ C f fd, mg "Lift" = some (.ref C) ∧ Meth K C "undone" f ∧ Fun K "undone" "Lift.undone" s_Lift_undone f fd ∧ Binds K fd ["self"] [])
    (hm_Lift_balls : ∃ C f fd, mg "Lift" = some (.ref C) ∧ Meth K C "balls" f ∧ Fun K "balls" "Lift.balls" s_Lift_balls f fd ∧ Binds K fd ["self", "many"] [])
    (c_Swap : ∃ C, mg "Swap" = some (.ref C) ∧ OCls K C)
    (in_Swap : ∃ C f fd, mg "Swap" = some (.ref C) ∧ Mk K C f ∧ Fun K "__init__" "Swap.__init__" s_Swap___init__ f fd ∧ Binds K fd ["self", "i", "j"] [])
    (na_Swap_i : ∃ C, mg "Swap" = some (.ref C) ∧ NoAttr K C "i")
    (na_Swap_j : ∃ C, mg "Swap" = some (.ref C) ∧ NoAttr K C "j")
    (hm_Swap_done : ∃ C f fd, mg "Swap" = some (.ref C) ∧ Meth K C "done" f ∧ Fun K "done" "Swap.done" s_Swap_done f fd ∧ Binds K fd ["self", "pattern"] [])
    (hm_Swap_undone : ∃ C f fd, mg "Swap" = some (.ref C) ∧ Meth K C "undone" f ∧ Fun K "undone" "Swap.undone" s_Swap_undone f fd ∧ Binds K fd ["self"] [])
    (hm_Swap_balls : ∃ C f fd, mg "Swap" = some (.ref C) ∧ Meth K C "balls" f ∧ Fun K "balls" "Change.balls" s_Change_balls f fd ∧ Binds K fd ["self", "many"] [])
    (c_Neighbours : ∃ C, mg "Neighbours" = some (.ref C) ∧ OCls K C)
    (in_Neighbours : ∃ C f fd, mg "Neighbours" = some (.ref C) ∧ Mk K C f ∧ Fun K "__init__" "Neighbours.__init__" s_Neighbours___init__ f fd ∧ Binds K fd ["self", "k"] [])
    (na_Neighbours_k : ∃ C, mg "Neighbours" = some (.ref C) ∧ NoAttr K C "k")
    (hm_Neighbours_done : ∃ C f fd, mg "Neighbours" = some (.ref C) ∧ Meth K C "done" f ∧ Fun K "done" "Neighbours.done" s_Neighbours_done f fd ∧ Binds K fd ["self", "pattern"] [])
    (hm_Neighbours_undone : ∃ C f fd, mg "Neighbours" = some (.ref C) ∧ Meth K C "undone" f ∧ Fun K "undone" "Neighbours.undone" s_Neighbours_undone f fd ∧ Binds K fd ["self"] [])
    (hm_Neighbours_balls : ∃ C f fd, mg "Neighbours" = some (.ref C) ∧ Meth K C "balls" f ∧ Fun K "balls" "Change.balls" s_Change_balls f fd ∧ Binds K fd ["self", "many"] [])
    (c_Mirror : ∃ C, mg "Mirror" = some (.ref C) ∧ OCls K C)
    (i0_Mirror : ∃ C, mg "Mirror" = some (.ref C) ∧ PySem.W.findIn K (.ref C) "__init__" = some (some (.builtin "object.__init__")))
    (hm_Mirror_done : ∃ C f fd, mg "Mirror" = some (.ref C) ∧ Meth K C "done" f ∧ Fun K "done" "Mirror.done" s_Mirror_done f fd ∧ Binds K fd ["self", "pattern"] [])
    (hm_Mirror_undone : ∃ C f fd, mg "Mirror" = some (.ref C) ∧ Meth K C "undone" f ∧ Fun K "undone" "Mirror.undone" s_Mirror_undone f fd ∧ Binds K fd ["self"] [])
    (hm_Mirror_balls : ∃ C f fd, mg "Mirror" = some (.ref C) ∧ Meth K C "balls" f ∧ Fun K "balls" "Change.balls" s_Change_balls f fd ∧ Binds K fd ["self", "many"] [])
    (c_Gaps : ∃ C, mg "Gaps" = some (.ref C) ∧ OCls K C)
    (in_Gaps : ∃ C f fd, mg "Gaps" = some (.ref C) ∧ Mk K C f ∧ Fun K "__init__" "Gaps.__init__" s_Gaps___init__ f fd ∧ Binds K fd ["self", "h"] [])
    (na_Gaps_h : ∃ C, mg "Gaps" = some (.ref C) ∧ NoAttr K C "h")
    (hm_Gaps_done : ∃ C f fd, mg "Gaps" = some (.ref C) ∧ Meth K C "done" f ∧ Fun K "done" "Gaps.done" s_Gaps_done f fd ∧ Binds K fd ["self", "pattern"] [])
    (hm_Gaps_undone : ∃ C f fd, mg "Gaps" = some (.ref C) ∧ Meth K C "undone" f ∧ Fun K "undone" "Gaps.undone" s_Gaps_undone f fd ∧ Binds K fd ["self"] [])
    (hm_Gaps_balls : ∃ C f fd, mg "Gaps" = some (.ref C) ∧ Meth K C "balls" f ∧ Fun K "balls" "Gaps.balls" s_Gaps_balls f fd ∧ Binds K fd ["self", "many"] [])
    (c_Changes : ∃ C, mg "Changes" = some (.ref C) ∧ OCls K C)
    (in_Changes : ∃ C f fd, mg "Changes" = some (.ref C) ∧ Mk K C f ∧ Fun K "__init__" "Changes.__init__" s_Changes___init__ f fd ∧ Binds K fd ["self", "rows"] [])
    (na_Changes_steps : ∃ C, mg "Changes" = some (.ref C) ∧ NoAttr K C "steps")
    (hm_Changes_done : ∃ C f fd, mg "Changes" = some (.ref C) ∧ Meth K C "done" f ∧ Fun K "done" "Changes.done" s_Changes_done f fd ∧ Binds K fd ["self", "pattern"] [])
    (hm_Changes_undone : ∃ C f fd, mg "Changes" = some (.ref C) ∧ Meth K C "undone" f ∧ Fun K "undone" "Changes.undone" s_Changes_undone f fd ∧ Binds K fd ["self"] [])
    (hm_Changes_balls : ∃ C f fd, mg "Changes" = some (.ref C) ∧ Meth K C "balls" f ∧ Fun K "balls" "Changes.balls" s_Changes_balls f fd ∧ Binds K fd ["self", "many"] [])
    : ∃ fd : FuncData, (∀ (s : Shared) (u : Value), BindsTo s fd ⟨[u], []⟩ [("_law_script", u)]) ∧ ∀ base : Heap, FnOk l.prog w K mg base (CXf l.prog w) 12 fa fd ["_law_script"] (spLaw K) := by
  obtain ⟨NAR, x1, m1⟩ := e1
  obtain ⟨OOB, x2, m2⟩ := e2
  obtain ⟨S, mc, mt, ml, ms, mn, mm, mgp, mr, kit, nd⟩ := e3
  obtain ⟨f_is_whole, fd_is_whole, hh_is_whole⟩ := h_is_whole
  obtain ⟨f_is_between, fd_is_between, hh_is_between⟩ := h_is_between
  obtain ⟨f_is_throw, fd_is_throw, hh_is_throw⟩ := h_is_throw
  obtain ⟨f_check_throw, fd_check_throw, hh_check_throw⟩ := h_check_throw
  obtain ⟨f_check_row, fd_check_row, hh_check_row⟩ := h_check_row
  obtain ⟨f_check_pattern, fd_check_pattern, hh_check_pattern⟩ := h_check_pattern
  obtain ⟨f_landings, fd_landings, hh_landings⟩ := h_landings
  obtain ⟨f_clash_of, fd_clash_of, hh_clash_of⟩ := h_clash_of
  obtain ⟨f_balls_of, fd_balls_of, hh_balls_of⟩ := h_balls_of
  obtain ⟨f_within_bounds, fd_within_bounds, hh_within_bounds⟩ := h_within_bounds
  obtain ⟨f_turned, fd_turned, hh_turned⟩ := h_turned
  obtain ⟨f_lifted, fd_lifted, hh_lifted⟩ := h_lifted
  obtain ⟨f_mirrored, fd_mirrored, hh_mirrored⟩ := h_mirrored
  obtain ⟨f_gaps, fd_gaps, hh_gaps⟩ := h_gaps
  obtain ⟨f_check_beat, fd_check_beat, hh_check_beat⟩ := h_check_beat
  obtain ⟨f_crosswise, fd_crosswise, hh_crosswise⟩ := h_crosswise
  obtain ⟨f_swapped, fd_swapped, hh_swapped⟩ := h_swapped
  obtain ⟨f_neighbours, fd_neighbours, hh_neighbours⟩ := h_neighbours
  obtain ⟨f_unchanged, fd_unchanged, hh_unchanged⟩ := h_unchanged
  obtain ⟨f_opposite, fd_opposite, hh_opposite⟩ := h_opposite
  obtain ⟨f__law_cell_at, fd__law_cell_at, hh__law_cell_at⟩ := h__law_cell_at
  obtain ⟨f__law_mixed, fd__law_mixed, hh__law_mixed⟩ := h__law_mixed
  obtain ⟨f__law_spots_by, fd__law_spots_by, hh__law_spots_by⟩ := h__law_spots_by
  obtain ⟨f__law_throws_by, fd__law_throws_by, hh__law_throws_by⟩ := h__law_throws_by
  obtain ⟨f__law_same, fd__law_same, hh__law_same⟩ := h__law_same
  obtain ⟨f__law_beats_by, fd__law_beats_by, hh__law_beats_by⟩ := h__law_beats_by
  obtain ⟨f__law_one_by, fd__law_one_by, hh__law_one_by⟩ := h__law_one_by
  obtain ⟨f__law_by_hand, fd__law_by_hand, hh__law_by_hand⟩ := h__law_by_hand
  obtain ⟨f__law_kinds_right, fd__law_kinds_right, hh__law_kinds_right⟩ := h__law_kinds_right
  obtain ⟨f__law_far_right, fd__law_far_right, hh__law_far_right⟩ := h__law_far_right
  obtain ⟨C_Change, m_Change, c_Change⟩ := c_Change
  obtain ⟨C_Turn, m_Turn, c_Turn⟩ := c_Turn
  obtain ⟨C_Lift, m_Lift, c_Lift⟩ := c_Lift
  obtain ⟨C_Swap, m_Swap, c_Swap⟩ := c_Swap
  obtain ⟨C_Neighbours, m_Neighbours, c_Neighbours⟩ := c_Neighbours
  obtain ⟨C_Mirror, m_Mirror, c_Mirror⟩ := c_Mirror
  obtain ⟨C_Gaps, m_Gaps, c_Gaps⟩ := c_Gaps
  obtain ⟨C_Changes, m_Changes, c_Changes⟩ := c_Changes
  obtain ⟨_, e, i0_Change⟩ := i0_Change
  cases m_Change.symm.trans e
  obtain ⟨_, f_hm_Change_done, fd_hm_Change_done, e, hm_Change_done⟩ := hm_Change_done
  cases m_Change.symm.trans e
  obtain ⟨_, f_hm_Change_undone, fd_hm_Change_undone, e, hm_Change_undone⟩ := hm_Change_undone
  cases m_Change.symm.trans e
  obtain ⟨_, f_hm_Change_balls, fd_hm_Change_balls, e, hm_Change_balls⟩ := hm_Change_balls
  cases m_Change.symm.trans e
  obtain ⟨_, f_in_Turn, fd_in_Turn, e, in_Turn⟩ := in_Turn
  cases m_Turn.symm.trans e
  obtain ⟨_, e, na_Turn_k⟩ := na_Turn_k
  cases m_Turn.symm.trans e
  obtain ⟨_, f_hm_Turn_done, fd_hm_Turn_done, e, hm_Turn_done⟩ := hm_Turn_done
  cases m_Turn.symm.trans e
  obtain ⟨_, f_hm_Turn_undone, fd_hm_Turn_undone, e, hm_Turn_undone⟩ := hm_Turn_undone
  cases m_Turn.symm.trans e
  obtain ⟨_, f_hm_Turn_balls, fd_hm_Turn_balls, e, hm_Turn_balls⟩ := hm_Turn_balls
  cases m_Turn.symm.trans e
  obtain ⟨_, f_in_Lift, fd_in_Lift, e, in_Lift⟩ := in_Lift
  cases m_Lift.symm.trans e
  obtain ⟨_, e, na_Lift_k⟩ := na_Lift_k
  cases m_Lift.symm.trans e
  obtain ⟨_, f_hm_Lift_done, fd_hm_Lift_done, e, hm_Lift_done⟩ := hm_Lift_done
  cases m_Lift.symm.trans e
  obtain ⟨_, f_hm_Lift_undone, fd_hm_Lift_undone, e, hm_Lift_undone⟩ := hm_Lift_undone
  cases m_Lift.symm.trans e
  obtain ⟨_, f_hm_Lift_balls, fd_hm_Lift_balls, e, hm_Lift_balls⟩ := hm_Lift_balls
  cases m_Lift.symm.trans e
  obtain ⟨_, f_in_Swap, fd_in_Swap, e, in_Swap⟩ := in_Swap
  cases m_Swap.symm.trans e
  obtain ⟨_, e, na_Swap_i⟩ := na_Swap_i
  cases m_Swap.symm.trans e
  obtain ⟨_, e, na_Swap_j⟩ := na_Swap_j
  cases m_Swap.symm.trans e
  obtain ⟨_, f_hm_Swap_done, fd_hm_Swap_done, e, hm_Swap_done⟩ := hm_Swap_done
  cases m_Swap.symm.trans e
  obtain ⟨_, f_hm_Swap_undone, fd_hm_Swap_undone, e, hm_Swap_undone⟩ := hm_Swap_undone
  cases m_Swap.symm.trans e
  obtain ⟨_, f_hm_Swap_balls, fd_hm_Swap_balls, e, hm_Swap_balls⟩ := hm_Swap_balls
  cases m_Swap.symm.trans e
  obtain ⟨_, f_in_Neighbours, fd_in_Neighbours, e, in_Neighbours⟩ := in_Neighbours
  cases m_Neighbours.symm.trans e
  obtain ⟨_, e, na_Neighbours_k⟩ := na_Neighbours_k
  cases m_Neighbours.symm.trans e
  obtain ⟨_, f_hm_Neighbours_done, fd_hm_Neighbours_done, e, hm_Neighbours_done⟩ := hm_Neighbours_done
  cases m_Neighbours.symm.trans e
  obtain ⟨_, f_hm_Neighbours_undone, fd_hm_Neighbours_undone, e, hm_Neighbours_undone⟩ := hm_Neighbours_undone
  cases m_Neighbours.symm.trans e
  obtain ⟨_, f_hm_Neighbours_balls, fd_hm_Neighbours_balls, e, hm_Neighbours_balls⟩ := hm_Neighbours_balls
  cases m_Neighbours.symm.trans e
  obtain ⟨_, e, i0_Mirror⟩ := i0_Mirror
  cases m_Mirror.symm.trans e
  obtain ⟨_, f_hm_Mirror_done, fd_hm_Mirror_done, e, hm_Mirror_done⟩ := hm_Mirror_done
  cases m_Mirror.symm.trans e
  obtain ⟨_, f_hm_Mirror_undone, fd_hm_Mirror_undone, e, hm_Mirror_undone⟩ := hm_Mirror_undone
  cases m_Mirror.symm.trans e
  obtain ⟨_, f_hm_Mirror_balls, fd_hm_Mirror_balls, e, hm_Mirror_balls⟩ := hm_Mirror_balls
  cases m_Mirror.symm.trans e
  obtain ⟨_, f_in_Gaps, fd_in_Gaps, e, in_Gaps⟩ := in_Gaps
  cases m_Gaps.symm.trans e
  obtain ⟨_, e, na_Gaps_h⟩ := na_Gaps_h
  cases m_Gaps.symm.trans e
  obtain ⟨_, f_hm_Gaps_done, fd_hm_Gaps_done, e, hm_Gaps_done⟩ := hm_Gaps_done
  cases m_Gaps.symm.trans e
  obtain ⟨_, f_hm_Gaps_undone, fd_hm_Gaps_undone, e, hm_Gaps_undone⟩ := hm_Gaps_undone
  cases m_Gaps.symm.trans e
  obtain ⟨_, f_hm_Gaps_balls, fd_hm_Gaps_balls, e, hm_Gaps_balls⟩ := hm_Gaps_balls
  cases m_Gaps.symm.trans e
  obtain ⟨_, f_in_Changes, fd_in_Changes, e, in_Changes⟩ := in_Changes
  cases m_Changes.symm.trans e
  obtain ⟨_, e, na_Changes_steps⟩ := na_Changes_steps
  cases m_Changes.symm.trans e
  obtain ⟨_, f_hm_Changes_done, fd_hm_Changes_done, e, hm_Changes_done⟩ := hm_Changes_done
  cases m_Changes.symm.trans e
  obtain ⟨_, f_hm_Changes_undone, fd_hm_Changes_undone, e, hm_Changes_undone⟩ := hm_Changes_undone
  cases m_Changes.symm.trans e
  obtain ⟨_, f_hm_Changes_balls, fd_hm_Changes_balls, e, hm_Changes_balls⟩ := hm_Changes_balls
  cases m_Changes.symm.trans e
  cases mc.symm.trans m_Change
  cases mt.symm.trans m_Turn
  cases ml.symm.trans m_Lift
  cases ms.symm.trans m_Swap
  cases mn.symm.trans m_Neighbours
  cases mm.symm.trans m_Mirror
  cases mgp.symm.trans m_Gaps
  cases mr.symm.trans m_Changes
  have kd : Kinds K S := ⟨fun C hC => by
    simp only [List.mem_cons, List.not_mem_nil, or_false] at hC
    rcases hC with rfl | rfl | rfl | rfl | rfl | rfl | rfl | rfl <;> assumption, kit, nd⟩
  have hl := h_law
  obtain ⟨fl, fdl, hl⟩ := hl
  have e := hfa.symm.trans hl.at_
  cases e
  refine ⟨fdl, bind1 hl fun _ _ _ _ _ _ _ => rfl, fun base => ?_⟩
  have o0 := ok_is_whole (P := l.prog) (w := w) (base := base) hh_is_whole B
  have o1 := ok_is_between (P := l.prog) (w := w) (base := base) hh_is_between o0
  have o2 := ok_is_throw hh_is_throw g2 o1
  have o3 := ok_check_throw hh_check_throw x2 m2 o2
  have o4 := ok_check_row hh_check_row B g1 x1 m1 o2
  have o5 := ok_landings (P := l.prog) (w := w) (base := base) hh_landings B
  have o6 := ok_clash_of hh_clash_of B o4 o5
  have o7 := ok_check_pattern hh_check_pattern o6
  have o8 := ok_balls_of hh_balls_of B o7
  have r1 := ok_within_bounds hh_within_bounds o3
  have r2 := ok_turned hh_turned B o7 o3
  have r3 := ok_lifted hh_lifted o7 o3 r1
  have r4 := ok_mirrored hh_mirrored B o7 o5
  have r5 := ok_gaps hh_gaps B o7 o3 r1
  have r6 := ok_check_beat hh_check_beat x2 m2 o1
  have r7 := ok_crosswise (P := l.prog) (w := w) (base := base) hh_crosswise B
  have r8 := ok_swapped hh_swapped B x2 m2 o7 r6 r7 r1
  have r9 := ok_neighbours hh_neighbours B x2 m2 o7 r6 r7 r1
  have q1 := ok_unchanged hh_unchanged B o7
  have q2 := ok_opposite hh_opposite o0
  have kT : MkOk l.prog w K mg base "Turn" S.t 1 (spSet1 S.t "k") := ⟨m_Turn, _, _, _, in_Turn.1, ok_Turn_init in_Turn.2.1 c_Turn.cl na_Turn_k, in_Turn.2.2⟩
  have kL : MkOk l.prog w K mg base "Lift" S.l 1 (spSet1 S.l "k") := ⟨m_Lift, _, _, _, in_Lift.1, ok_Lift_init in_Lift.2.1 c_Lift.cl na_Lift_k, in_Lift.2.2⟩
  have kS : MkOk l.prog w K mg base "Swap" S.s 1 (spSet2 S.s) := ⟨m_Swap, _, _, _, in_Swap.1, ok_Swap_init in_Swap.2.1 c_Swap.cl na_Swap_i na_Swap_j, in_Swap.2.2⟩
  have kN : MkOk l.prog w K mg base "Neighbours" S.n 1 (spSet1 S.n "k") := ⟨m_Neighbours, _, _, _, in_Neighbours.1, ok_Neighbours_init in_Neighbours.2.1 c_Neighbours.cl na_Neighbours_k, in_Neighbours.2.2⟩
  have kG : MkOk l.prog w K mg base "Gaps" S.g 1 (spSet1 S.g "h") := ⟨m_Gaps, _, _, _, in_Gaps.1, ok_Gaps_init in_Gaps.2.1 c_Gaps.cl na_Gaps_h, in_Gaps.2.2⟩
  have kR : MkOk l.prog w K mg base "Changes" S.r 1 (spInitR S) := ⟨m_Changes, _, _, _, in_Changes.1, ok_Changes_init in_Changes.2.1 B kd c_Changes.cl na_Changes_steps m_Changes, in_Changes.2.2⟩
  have dd : MsOk l.prog w K mg base "done" 8 (DoneB OOB S) := by
    rintro C sp ⟨c, rfl, rfl⟩
    cases c with
    | idc => exact ⟨c_Change.cl, _, _, _, hm_Change_done.1, ok_Change_done hm_Change_done.2.1 q1, hm_Change_done.2.2⟩
    | turn k => exact ⟨c_Turn.cl, _, _, _, hm_Turn_done.1, ok_Turn_done hm_Turn_done.2.1 c_Turn.cl na_Turn_k r2 k, hm_Turn_done.2.2⟩
    | lift k => exact ⟨c_Lift.cl, _, _, _, hm_Lift_done.1, ok_Lift_done hm_Lift_done.2.1 c_Lift.cl na_Lift_k r3 k, hm_Lift_done.2.2⟩
    | swap i j => exact ⟨c_Swap.cl, _, _, _, hm_Swap_done.1, ok_Swap_done hm_Swap_done.2.1 c_Swap.cl na_Swap_i na_Swap_j r8 i j, hm_Swap_done.2.2⟩
    | nb k => exact ⟨c_Neighbours.cl, _, _, _, hm_Neighbours_done.1, ok_Neighbours_done hm_Neighbours_done.2.1 c_Neighbours.cl na_Neighbours_k r9 k, hm_Neighbours_done.2.2⟩
    | mir => exact ⟨c_Mirror.cl, _, _, _, hm_Mirror_done.1, ok_Mirror_done hm_Mirror_done.2.1 r4, hm_Mirror_done.2.2⟩
    | gap k => exact ⟨c_Gaps.cl, _, _, _, hm_Gaps_done.1, ok_Gaps_done hm_Gaps_done.2.1 c_Gaps.cl na_Gaps_h r5 k, hm_Gaps_done.2.2⟩
  have du : MsOk l.prog w K mg base "undone" 8 (UndoneB S) := by
    rintro C sp ⟨c, rfl, rfl⟩
    cases c with
    | idc => exact ⟨c_Change.cl, _, _, _, hm_Change_undone.1, ok_Change_undone hm_Change_undone.2.1 m_Change c_Change i0_Change, hm_Change_undone.2.2⟩
    | turn k => exact ⟨c_Turn.cl, _, _, _, hm_Turn_undone.1, ok_Turn_undone hm_Turn_undone.2.1 c_Turn.cl na_Turn_k kT q2 k, hm_Turn_undone.2.2⟩
    | lift k => exact ⟨c_Lift.cl, _, _, _, hm_Lift_undone.1, ok_Lift_undone hm_Lift_undone.2.1 c_Lift.cl na_Lift_k kL q2 k, hm_Lift_undone.2.2⟩
    | swap i j => exact ⟨c_Swap.cl, _, _, _, hm_Swap_undone.1, ok_Swap_undone hm_Swap_undone.2.1 c_Swap.cl na_Swap_i na_Swap_j kS i j, hm_Swap_undone.2.2⟩
    | nb k => exact ⟨c_Neighbours.cl, _, _, _, hm_Neighbours_undone.1, ok_Neighbours_undone hm_Neighbours_undone.2.1 c_Neighbours.cl na_Neighbours_k kN k, hm_Neighbours_undone.2.2⟩
    | mir => exact ⟨c_Mirror.cl, _, _, _, hm_Mirror_undone.1, ok_Mirror_undone hm_Mirror_undone.2.1 m_Mirror c_Mirror i0_Mirror, hm_Mirror_undone.2.2⟩
    | gap k => exact ⟨c_Gaps.cl, _, _, _, hm_Gaps_undone.1, ok_Gaps_undone hm_Gaps_undone.2.1 c_Gaps.cl na_Gaps_h kG k, hm_Gaps_undone.2.2⟩
  have db : MsOk l.prog w K mg base "balls" 1 (BallsB S) := by
    rintro C sp ⟨c, rfl, rfl⟩
    cases c with
    | idc => exact ⟨c_Change.cl, _, _, _, hm_Change_balls.1, ok_Change_balls hm_Change_balls.2.1 .idc fun _ => rfl, hm_Change_balls.2.2⟩
    | turn k => exact ⟨c_Turn.cl, _, _, _, hm_Turn_balls.1, ok_Change_balls hm_Turn_balls.2.1 (.turn k) fun _ => rfl, hm_Turn_balls.2.2⟩
    | lift k => exact ⟨c_Lift.cl, _, _, _, hm_Lift_balls.1, ok_Lift_balls hm_Lift_balls.2.1 c_Lift.cl na_Lift_k k, hm_Lift_balls.2.2⟩
    | swap i j => exact ⟨c_Swap.cl, _, _, _, hm_Swap_balls.1, ok_Change_balls hm_Swap_balls.2.1 (.swap i j) fun _ => rfl, hm_Swap_balls.2.2⟩
    | nb k => exact ⟨c_Neighbours.cl, _, _, _, hm_Neighbours_balls.1, ok_Change_balls hm_Neighbours_balls.2.1 (.nb k) fun _ => rfl, hm_Neighbours_balls.2.2⟩
    | mir => exact ⟨c_Mirror.cl, _, _, _, hm_Mirror_balls.1, ok_Change_balls hm_Mirror_balls.2.1 .mir fun _ => rfl, hm_Mirror_balls.2.2⟩
    | gap k => exact ⟨c_Gaps.cl, _, _, _, hm_Gaps_balls.1, ok_Gaps_balls hm_Gaps_balls.2.1 c_Gaps.cl na_Gaps_h k, hm_Gaps_balls.2.2⟩
  have rd : MOk l.prog w K mg base S.r "done" 9 (spDoneR OOB S) := ⟨c_Changes.cl, _, _, _, hm_Changes_done.1, ok_Changes_done hm_Changes_done.2.1 c_Changes.cl na_Changes_steps q1 dd, hm_Changes_done.2.2⟩
  have ru : MOk l.prog w K mg base S.r "undone" 9 (spUndoneR S) := ⟨c_Changes.cl, _, _, _, hm_Changes_undone.1, ok_Changes_undone hm_Changes_undone.2.1 b_reversed c_Changes.cl na_Changes_steps kR du, hm_Changes_undone.2.2⟩
  have rb : MOk l.prog w K mg base S.r "balls" 2 (spBallsR S) := ⟨c_Changes.cl, _, _, _, hm_Changes_balls.1, ok_Changes_balls hm_Changes_balls.2.1 c_Changes.cl na_Changes_steps db, hm_Changes_balls.2.2⟩
  have da : MsOk l.prog w K mg base "done" 9 (DoneA OOB S) := by
    rintro C sp (h | ⟨rfl, rfl⟩)
    · obtain ⟨c1, f, fd, ps, h1, h2, h3⟩ := dd C sp h
      exact ⟨c1, f, fd, ps, h1, h2.mono (by decide), h3⟩
    · exact rd
  have ua : MsOk l.prog w K mg base "undone" 9 (UndoneA S) := by
    rintro C sp (h | ⟨rfl, rfl⟩)
    · obtain ⟨c1, f, fd, ps, h1, h2, h3⟩ := du C sp h
      exact ⟨c1, f, fd, ps, h1, h2.mono (by decide), h3⟩
    · exact ru
  have p1 := ok_cell_at (P := l.prog) (w := w) (base := base) hh__law_cell_at B
  have p2 := ok_mixed (P := l.prog) (w := w) (base := base) hh__law_mixed
  have p3 := ok_spots_by hh__law_spots_by B p2
  have p4 := ok_throws_by hh__law_throws_by B p2 p3
  have p5 := ok_same (P := l.prog) (w := w) (base := base) hh__law_same B
  have p6 := ok_beats_by (P := l.prog) (w := w) (base := base) hh__law_beats_by
  have p7 := ok_one_by (S := S) hh__law_one_by m_Change c_Change i0_Change m_Mirror c_Mirror i0_Mirror kT kL kS kN kG p6
  have p8 := ok_by_hand hh__law_by_hand B r2 r3 r8 r9 r4 r5 p6
  have p9 := ok_kinds_right (P := l.prog) (w := w) (base := base) hh__law_kinds_right B kd m_Change m_Turn m_Lift m_Swap m_Neighbours m_Mirror m_Gaps m_Changes
  have s1 := ok_far_right hh__law_far_right B kd x2 m2 m_Change kR da ua
  exact ok_law hl B kd m_Change p1 p4 p7 p9 p8 p5 o8 s1 kT kL kS kN kG kR (fun C sp h => by obtain ⟨h1, h2⟩ := h; subst h1; subst h2; exact rd) (fun C sp h => by obtain ⟨h1, h2⟩ := h; subst h1; subst h2; exact ru) (fun C sp h => by obtain ⟨h1, h2⟩ := h; subst h1; subst h2; exact rb)
end Tb
def PySem.W.Fast.tw13833422983292597622 : Unit := ()
def PySem.W.Fast.tw16604224723565324924 : Unit := ()
def PySem.W.Fast.tw5855822771483399931 : Unit := ()
def PySem.W.Fast.tw1002605135828292245 : Unit := ()
def PySem.W.Fast.tw528736439629401151 : Unit := ()
def PySem.W.Fast.tw8468719155359935095 : Unit := ()
def PySem.W.Fast.tw15921243007990821357 : Unit := ()
def PySem.W.Fast.tw1716119497080452408 : Unit := ()
def PySem.W.Fast.tw7385653995839713370 : Unit := ()
def PySem.W.Fast.tw6402075507646516115 : Unit := ()
def PySem.W.Fast.tw6659245882907668582 : Unit := ()
def PySem.W.Fast.tw73321270633965318 : Unit := ()
def PySem.W.Fast.tw3499560238162489101 : Unit := ()
def PySem.W.Fast.tw10532957635164512127 : Unit := ()
def PySem.W.Fast.tw6100973442799877540 : Unit := ()
def PySem.W.Fast.tw17633344758923494201 : Unit := ()
def PySem.W.Fast.tw6249718666168812068 : Unit := ()
def PySem.W.Fast.tw6412093449029405305 : Unit := ()
def PySem.W.Fast.tw14403292979134264381 : Unit := ()
def PySem.W.Fast.tw15184531913944570486 : Unit := ()
def PySem.W.Fast.tw634879346962429039 : Unit := ()
def PySem.W.Fast.tw15772615027025805213 : Unit := ()
def PySem.W.Fast.tw6796243342061596096 : Unit := ()
def PySem.W.Fast.tw3995185595672488670 : Unit := ()
def PySem.W.Fast.tw2062557567934154046 : Unit := ()
def PySem.W.Fast.tw15736191110811179333 : Unit := ()
def PySem.W.Fast.tw12363060287463080565 : Unit := ()
def PySem.W.Fast.tw8449524018010142825 : Unit := ()
def PySem.W.Fast.tw466500019834099425 : Unit := ()
def PySem.W.Fast.tw11094202534206503035 : Unit := ()
def PySem.W.Fast.tw5220694809472662083 : Unit := ()
def PySem.W.Fast.tw11471154580217585316 : Unit := ()
def PySem.W.Fast.tw11819568413376937058 : Unit := ()
def PySem.W.Fast.tw4951830395165725494 : Unit := ()
def PySem.W.Fast.tw16490852066011699608 : Unit := ()
def PySem.W.Fast.tw14727244564331682318 : Unit := ()
def PySem.W.Fast.tw5315958022481187167 : Unit := ()
def PySem.W.Fast.tw16273145807606016372 : Unit := ()
def PySem.W.Fast.tw16504247507199105036 : Unit := ()
def PySem.W.Fast.tw5989608414924342938 : Unit := ()
def PySem.W.Fast.tw16361482297004986488 : Unit := ()
def PySem.W.Fast.tw1574083223823987283 : Unit := ()
def PySem.W.Fast.tw4770526776722704100 : Unit := ()
def PySem.W.Fast.tw67478416243321327 : Unit := ()
def PySem.W.Fast.tw16069565383774654667 : Unit := ()
def PySem.W.Fast.tw15136942472095954335 : Unit := ()
def PySem.W.Fast.tw609606909464565056 : Unit := ()
def PySem.W.Fast.tw17450915726528647030 : Unit := ()
def PySem.W.Fast.tw4529481946918922221 : Unit := ()
def PySem.W.Fast.tw2672328913865459755 : Unit := ()
def PySem.W.Fast.tw6906626758206897242 : Unit := ()
def PySem.W.Fast.tw11591409553999591707 : Unit := ()
def PySem.W.Fast.tw8254886440415341238 : Unit := ()
def PySem.W.Fast.tw3712742552013596271 : Unit := ()
def PySem.W.Fast.tw11213677281413077518 : Unit := ()
def PySem.W.Fast.tw18425740104389999054 : Unit := ()
def PySem.W.Fast.tw13096577644937657527 : Unit := ()
def PySem.W.Fast.tw3989593859975413739 : Unit := ()
def PySem.W.Fast.tw7895611984600530732 : Unit := ()
def PySem.W.Fast.tw3515292200355813416 : Unit := ()
def PySem.W.Fast.tw7828289685302228752 : Unit := ()
def PySem.W.Fast.tw13454685309924589992 : Unit := ()
def PySem.W.Fast.tw13995600703740002204 : Unit := ()
def PySem.W.Fast.tw5174738867762697132 : Unit := ()
def PySem.W.Fast.tw6601035752903720197 : Unit := ()
def PySem.W.Fast.tw10890969980361732143 : Unit := ()
def PySem.W.Fast.tw13537468732186157836 : Unit := ()
def PySem.W.Fast.tw11816209586519358445 : Unit := ()
def PySem.W.Fast.tw5379333161265416505 : Unit := ()
def PySem.W.Fast.tw5805212852298404777 : Unit := ()
def PySem.W.Fast.tw709979618261581185 : Unit := ()
def PySem.W.Fast.tw2809847577010382839 : Unit := ()
def PySem.W.Fast.tw12609858050558069633 : Unit := ()
def PySem.W.Fast.tw9756094931366664084 : Unit := ()
def PySem.W.Fast.tw15085568057406516953 : Unit := ()
def PySem.W.Fast.tw13470904811720960406 : Unit := ()
def PySem.W.Fast.tw14238568614440622683 : Unit := ()
def PySem.W.Fast.tw10367178873930975562 : Unit := ()
def PySem.W.Fast.tw6361116555482277116 : Unit := ()
def PySem.W.Fast.tw1545004284147859820 : Unit := ()
open PySem PySem.W PyProof.Rows
set_option maxRecDepth 100000 in
set_option maxHeartbeats 0 in
theorem PySem.Challenge.cw_tossbook_k15_whole_changes_holds : PySem.Challenge.rw_tossbook_k15_whole_changes.Holds := by
  w_on; o_law; k_head; (case hw => w_witness2)
  k_fill
  refine Tb.walk (l := PySem.Challenge.rw_tossbook_k15_whole_changes) rfl rfl (fun w h Y => PySem.W.kIn_of Y) ?F
  case F =>
    intro w mg fa h KX G hmg
    have b_len : mg "len" = none := by
      refine' L2.none_mk KX G ?za
      (case za => k_is)
    have b_range : mg "range" = none := by
      refine' L2.none_mk KX G ?za
      (case za => k_is)
    have b_enumerate : mg "enumerate" = none := by
      refine' L2.none_mk KX G ?za
      (case za => k_is)
    have b_zip : mg "zip" = none := by
      refine' L2.none_mk KX G ?za
      (case za => k_is)
    have b_isinstance : mg "isinstance" = none := by
      refine' L2.none_mk KX G ?za
      (case za => k_is)
    have b_int : mg "int" = none := by
      refine' L2.none_mk KX G ?za
      (case za => k_is)
    have b_bool : mg "bool" = none := by
      refine' L2.none_mk KX G ?za
      (case za => k_is)
    have b_list : mg "list" = none := by
      refine' L2.none_mk KX G ?za
      (case za => k_is)
    have b_tuple : mg "tuple" = none := by
      refine' L2.none_mk KX G ?za
      (case za => k_is)
    have b_all : mg "all" = none := by
      refine' L2.none_mk KX G ?za
      (case za => k_is)
    have b_any : mg "any" = none := by
      refine' L2.none_mk KX G ?za
      (case za => k_is)
    have b_sum : mg "sum" = none := by
      refine' L2.none_mk KX G ?za
      (case za => k_is)
    have b_max : mg "max" = none := by
      refine' L2.none_mk KX G ?za
      (case za => k_is)
    have b_min : mg "min" = none := by
      refine' L2.none_mk KX G ?za
      (case za => k_is)
    have b_abs : mg "abs" = none := by
      refine' L2.none_mk KX G ?za
      (case za => k_is)
    have b_sorted : mg "sorted" = none := by
      refine' L2.none_mk KX G ?za
      (case za => k_is)
    have b_reversed : mg "reversed" = none := by
      refine' L2.none_mk KX G ?za
      (case za => k_is)
    have g_LONGEST_ROW : L2.GInt mg "LONGEST_ROW" 60 := by
      refine' L2.gint_mk KX G ?za
      (case za => k_is)
    have g_FARTHEST_THROW : L2.GInt mg "FARTHEST_THROW" 1000000 := by
      refine' L2.gint_mk KX G ?za
      (case za => k_is)
    have e_NotARow : ∃ C, L2.ExcCls (L2.KOf KX) C ∧ mg "NotARow" = some (.ref C) := by
      dsimp only [L2.KOf]
      refine' L2.exc_mk KX G ?za ?zq
      (case za => k_is); (case zq => k_exc)
    have e_OutOfBounds : ∃ C, L2.ExcCls (L2.KOf KX) C ∧ mg "OutOfBounds" = some (.ref C) := by
      dsimp only [L2.KOf]
      refine' L2.exc_mk KX G ?za ?zq
      (case za => k_is); (case zq => k_exc)
    have c_Change : ∃ C, mg "Change" = some (.ref C) ∧ L2.OCls (L2.KOf KX) C := by
      dsimp only [L2.KOf]
      refine' L2.ocls_mk KX G ?za ?z1 ?z2 ?z3 ?z4 ?z5 ?z6 ?z7 ?z8 ?z9 ?z10
      (case za => k_is); (case z1 => k_is); (case z2 => k_is); (case z3 => k_is); (case z4 => k_is); (case z5 => k_is); (case z6 => k_is); (case z7 => k_is); (case z8 => k_is); (case z9 => k_is); (case z10 => k_is)
    have i0_Change : ∃ C, mg "Change" = some (.ref C) ∧ PySem.W.findIn (L2.KOf KX) (.ref C) "__init__" = some (some (.builtin "object.__init__")) := by
      dsimp only [L2.KOf]
      refine' L2.init0_mk KX G ?za ?z1
      (case za => k_is); (case z1 => k_is)
    have hm_Change_done : ∃ C f fd, mg "Change" = some (.ref C) ∧ L2.Meth (L2.KOf KX) C "done" f ∧ L2.Fun (L2.KOf KX) "done" "Change.done" Tb.s_Change_done f fd ∧ L2.Binds (L2.KOf KX) fd ["self", "pattern"] [] := by
      dsimp only [L2.KOf]
      refine' L2.meth_mk KX G ?za ?z2 ?z3 ?z5 ?z6 ?z7 ?zb
      (case za => k_is); (case z2 => k_is); (case z3 => k_is); (case z5 => k_is); (case z6 => k_is); (case z7 => k_is); (case zb => exact fun _ _ _ _ _ _ us hl => match us, hl with | [_, _], _ => rfl)
    have hm_Change_undone : ∃ C f fd, mg "Change" = some (.ref C) ∧ L2.Meth (L2.KOf KX) C "undone" f ∧ L2.Fun (L2.KOf KX) "undone" "Change.undone" Tb.s_Change_undone f fd ∧ L2.Binds (L2.KOf KX) fd ["self"] [] := by
      dsimp only [L2.KOf]
      refine' L2.meth_mk KX G ?za ?z2 ?z3 ?z5 ?z6 ?z7 ?zb
      (case za => k_is); (case z2 => k_is); (case z3 => k_is); (case z5 => k_is); (case z6 => k_is); (case z7 => k_is); (case zb => exact fun _ _ _ _ _ _ us hl => match us, hl with | [_], _ => rfl)
    have hm_Change_balls : ∃ C f fd, mg "Change" = some (.ref C) ∧ L2.Meth (L2.KOf KX) C "balls" f ∧ L2.Fun (L2.KOf KX) "balls" "Change.balls" Tb.s_Change_balls f fd ∧ L2.Binds (L2.KOf KX) fd ["self", "many"] [] := by
      dsimp only [L2.KOf]
      refine' L2.meth_mk KX G ?za ?z2 ?z3 ?z5 ?z6 ?z7 ?zb
      (case za => k_is); (case z2 => k_is); (case z3 => k_is); (case z5 => k_is); (case z6 => k_is); (case z7 => k_is); (case zb => exact fun _ _ _ _ _ _ us hl => match us, hl with | [_, _], _ => rfl)
    have c_Turn : ∃ C, mg "Turn" = some (.ref C) ∧ L2.OCls (L2.KOf KX) C := by
      dsimp only [L2.KOf]
      refine' L2.ocls_mk KX G ?za ?z1 ?z2 ?z3 ?z4 ?z5 ?z6 ?z7 ?z8 ?z9 ?z10
      (case za => k_is); (case z1 => k_is); (case z2 => k_is); (case z3 => k_is); (case z4 => k_is); (case z5 => k_is); (case z6 => k_is); (case z7 => k_is); (case z8 => k_is); (case z9 => k_is); (case z10 => k_is)
    have in_Turn : ∃ C f fd, mg "Turn" = some (.ref C) ∧ L2.Mk (L2.KOf KX) C f ∧ L2.Fun (L2.KOf KX) "__init__" "Turn.__init__" Tb.s_Turn___init__ f fd ∧ L2.Binds (L2.KOf KX) fd ["self", "k"] [] := by
      dsimp only [L2.KOf]
      refine' L2.init_mk KX G ?za ?z1 ?z2 ?z3 ?z4 ?z5 ?z6 ?z7 ?zb
      (case za => k_is); (case z1 => k_is); (case z2 => k_is); (case z3 => k_is); (case z4 => k_is); (case z5 => k_is); (case z6 => k_is); (case z7 => k_is); (case zb => exact fun _ _ _ _ _ _ us hl => match us, hl with | [_, _], _ => rfl)
    have na_Turn_k : ∃ C, mg "Turn" = some (.ref C) ∧ L2.NoAttr (L2.KOf KX) C "k" := by
      dsimp only [L2.KOf]
      refine' L2.noattr_mk KX G ?za ?z1
      (case za => k_is); (case z1 => k_is)
    have hm_Turn_done : ∃ C f fd, mg "Turn" = some (.ref C) ∧ L2.Meth (L2.KOf KX) C "done" f ∧ L2.Fun (L2.KOf KX) "done" "Turn.done" Tb.s_Turn_done f fd ∧ L2.Binds (L2.KOf KX) fd ["self", "pattern"] [] := by
      dsimp only [L2.KOf]
      refine' L2.meth_mk KX G ?za ?z2 ?z3 ?z5 ?z6 ?z7 ?zb
      (case za => k_is); (case z2 => k_is); (case z3 => k_is); (case z5 => k_is); (case z6 => k_is); (case z7 => k_is); (case zb => exact fun _ _ _ _ _ _ us hl => match us, hl with | [_, _], _ => rfl)
    have hm_Turn_undone : ∃ C f fd, mg "Turn" = some (.ref C) ∧ L2.Meth (L2.KOf KX) C "undone" f ∧ L2.Fun (L2.KOf KX) "undone" "Turn.undone" Tb.s_Turn_undone f fd ∧ L2.Binds (L2.KOf KX) fd ["self"] [] := by
      dsimp only [L2.KOf]
      refine' L2.meth_mk KX G ?za ?z2 ?z3 ?z5 ?z6 ?z7 ?zb
      (case za => k_is); (case z2 => k_is); (case z3 => k_is); (case z5 => k_is); (case z6 => k_is); (case z7 => k_is); (case zb => exact fun _ _ _ _ _ _ us hl => match us, hl with | [_], _ => rfl)
    have hm_Turn_balls : ∃ C f fd, mg "Turn" = some (.ref C) ∧ L2.Meth (L2.KOf KX) C "balls" f ∧ L2.Fun (L2.KOf KX) "balls" "Change.balls" Tb.s_Change_balls f fd ∧ L2.Binds (L2.KOf KX) fd ["self", "many"] [] := by
      dsimp only [L2.KOf]
      refine' L2.meth_mk KX G ?za ?z2 ?z3 ?z5 ?z6 ?z7 ?zb
      (case za => k_is); (case z2 => k_is); (case z3 => k_is); (case z5 => k_is); (case z6 => k_is); (case z7 => k_is); (case zb => exact fun _ _ _ _ _ _ us hl => match us, hl with | [_, _], _ => rfl)
    have c_Lift : ∃ C, mg "Lift" = some (.ref C) ∧ L2.OCls (L2.KOf KX) C := by
      dsimp only [L2.KOf]
      refine' L2.ocls_mk KX G ?za ?z1 ?z2 ?z3 ?z4 ?z5 ?z6 ?z7 ?z8 ?z9 ?z10
      (case za => k_is); (case z1 => k_is); (case z2 => k_is); (case z3 => k_is); (case z4 => k_is); (case z5 => k_is); (case z6 => k_is); (case z7 => k_is); (case z8 => k_is); (case z9 => k_is); (case z10 => k_is)
    have in_Lift : ∃ C f fd, mg "Lift" = some (.ref C) ∧ L2.Mk (L2.KOf KX) C f ∧ L2.Fun (L2.KOf KX) "__init__" "Lift.__init__" Tb.s_Lift___init__ f fd ∧ L2.Binds (L2.KOf KX) fd ["self", "k"] [] := by
      dsimp only [L2.KOf]
      refine' L2.init_mk KX G ?za ?z1 ?z2 ?z3 ?z4 ?z5 ?z6 ?z7 ?zb
      (case za => k_is); (case z1 => k_is); (case z2 => k_is); (case z3 => k_is); (case z4 => k_is); (case z5 => k_is); (case z6 => k_is); (case z7 => k_is); (case zb => exact fun _ _ _ _ _ _ us hl => match us, hl with | [_, _], _ => rfl)
    have na_Lift_k : ∃ C, mg "Lift" = some (.ref C) ∧ L2.NoAttr (L2.KOf KX) C "k" := by
      dsimp only [L2.KOf]
      refine' L2.noattr_mk KX G ?za ?z1
      (case za => k_is); (case z1 => k_is)
    have hm_Lift_done : ∃ C f fd, mg "Lift" = some (.ref C) ∧ L2.Meth (L2.KOf KX) C "done" f ∧ L2.Fun (L2.KOf KX) "done" "Lift.done" Tb.s_Lift_done f fd ∧ L2.Binds (L2.KOf KX) fd ["self", "pattern"] [] := by
      dsimp only [L2.KOf]
      refine' L2.meth_mk KX G ?za ?z2 ?z3 ?z5 ?z6 ?z7 ?zb
      (case za => k_is); (case z2 => k_is); (case z3 => k_is); (case z5 => k_is); (case z6 => k_is); (case z7 => k_is); (case zb => exact fun _ _ _ _ _ _ us hl => match us, hl with | [_, _], _ => rfl)
    have hm_Lift_undone : ∃ C f fd, mg "Lift" = some (.ref C) ∧ L2.Meth (L2.KOf KX) C "undone" f ∧ L2.Fun (L2.KOf KX) "undone" "Lift.undone" Tb.s_Lift_undone f fd ∧ L2.Binds (L2.KOf KX) fd ["self"] [] := by
      dsimp only [L2.KOf]
      refine' L2.meth_mk KX G ?za ?z2 ?z3 ?z5 ?z6 ?z7 ?zb
      (case za => k_is); (case z2 => k_is); (case z3 => k_is); (case z5 => k_is); (case z6 => k_is); (case z7 => k_is); (case zb => exact fun _ _ _ _ _ _ us hl => match us, hl with | [_], _ => rfl)
    have hm_Lift_balls : ∃ C f fd, mg "Lift" = some (.ref C) ∧ L2.Meth (L2.KOf KX) C "balls" f ∧ L2.Fun (L2.KOf KX) "balls" "Lift.balls" Tb.s_Lift_balls f fd ∧ L2.Binds (L2.KOf KX) fd ["self", "many"] [] := by
      dsimp only [L2.KOf]
      refine' L2.meth_mk KX G ?za ?z2 ?z3 ?z5 ?z6 ?z7 ?zb
      (case za => k_is); (case z2 => k_is); (case z3 => k_is); (case z5 => k_is); (case z6 => k_is); (case z7 => k_is); (case zb => exact fun _ _ _ _ _ _ us hl => match us, hl with | [_, _], _ => rfl)
    have c_Swap : ∃ C, mg "Swap" = some (.ref C) ∧ L2.OCls (L2.KOf KX) C := by
      dsimp only [L2.KOf]
      refine' L2.ocls_mk KX G ?za ?z1 ?z2 ?z3 ?z4 ?z5 ?z6 ?z7 ?z8 ?z9 ?z10
      (case za => k_is); (case z1 => k_is); (case z2 => k_is); (case z3 => k_is); (case z4 => k_is); (case z5 => k_is); (case z6 => k_is); (case z7 => k_is); (case z8 => k_is); (case z9 => k_is); (case z10 => k_is)
    have in_Swap : ∃ C f fd, mg "Swap" = some (.ref C) ∧ L2.Mk (L2.KOf KX) C f ∧ L2.Fun (L2.KOf KX) "__init__" "Swap.__init__" Tb.s_Swap___init__ f fd ∧ L2.Binds (L2.KOf KX) fd ["self", "i", "j"] [] := by
      dsimp only [L2.KOf]
      refine' L2.init_mk KX G ?za ?z1 ?z2 ?z3 ?z4 ?z5 ?z6 ?z7 ?zb
      (case za => k_is); (case z1 => k_is); (case z2 => k_is); (case z3 => k_is); (case z4 => k_is); (case z5 => k_is); (case z6 => k_is); (case z7 => k_is); (case zb => exact fun _ _ _ _ _ _ us hl => match us, hl with | [_, _, _], _ => rfl)
    have na_Swap_i : ∃ C, mg "Swap" = some (.ref C) ∧ L2.NoAttr (L2.KOf KX) C "i" := by
      dsimp only [L2.KOf]
      refine' L2.noattr_mk KX G ?za ?z1
      (case za => k_is); (case z1 => k_is)
    have na_Swap_j : ∃ C, mg "Swap" = some (.ref C) ∧ L2.NoAttr (L2.KOf KX) C "j" := by
      dsimp only [L2.KOf]
      refine' L2.noattr_mk KX G ?za ?z1
      (case za => k_is); (case z1 => k_is)
    have hm_Swap_done : ∃ C f fd, mg "Swap" = some (.ref C) ∧ L2.Meth (L2.KOf KX) C "done" f ∧ L2.Fun (L2.KOf KX) "done" "Swap.done" Tb.s_Swap_done f fd ∧ L2.Binds (L2.KOf KX) fd ["self", "pattern"] [] := by
      dsimp only [L2.KOf]
      refine' L2.meth_mk KX G ?za ?z2 ?z3 ?z5 ?z6 ?z7 ?zb
      (case za => k_is); (case z2 => k_is); (case z3 => k_is); (case z5 => k_is); (case z6 => k_is); (case z7 => k_is); (case zb => exact fun _ _ _ _ _ _ us hl => match us, hl with | [_, _], _ => rfl)
    have hm_Swap_undone : ∃ C f fd, mg "Swap" = some (.ref C) ∧ L2.Meth (L2.KOf KX) C "undone" f ∧ L2.Fun (L2.KOf KX) "undone" "Swap.undone" Tb.s_Swap_undone f fd ∧ L2.Binds (L2.KOf KX) fd ["self"] [] := by
      dsimp only [L2.KOf]
      refine' L2.meth_mk KX G ?za ?z2 ?z3 ?z5 ?z6 ?z7 ?zb
      (case za => k_is); (case z2 => k_is); (case z3 => k_is); (case z5 => k_is); (case z6 => k_is); (case z7 => k_is); (case zb => exact fun _ _ _ _ _ _ us hl => match us, hl with | [_], _ => rfl)
    have hm_Swap_balls : ∃ C f fd, mg "Swap" = some (.ref C) ∧ L2.Meth (L2.KOf KX) C "balls" f ∧ L2.Fun (L2.KOf KX) "balls" "Change.balls" Tb.s_Change_balls f fd ∧ L2.Binds (L2.KOf KX) fd ["self", "many"] [] := by
      dsimp only [L2.KOf]
      refine' L2.meth_mk KX G ?za ?z2 ?z3 ?z5 ?z6 ?z7 ?zb
      (case za => k_is); (case z2 => k_is); (case z3 => k_is); (case z5 => k_is); (case z6 => k_is); (case z7 => k_is); (case zb => exact fun _ _ _ _ _ _ us hl => match us, hl with | [_, _], _ => rfl)
    have c_Neighbours : ∃ C, mg "Neighbours" = some (.ref C) ∧ L2.OCls (L2.KOf KX) C := by
      dsimp only [L2.KOf]
      refine' L2.ocls_mk KX G ?za ?z1 ?z2 ?z3 ?z4 ?z5 ?z6 ?z7 ?z8 ?z9 ?z10
      (case za => k_is); (case z1 => k_is); (case z2 => k_is); (case z3 => k_is); (case z4 => k_is); (case z5 => k_is); (case z6 => k_is); (case z7 => k_is); (case z8 => k_is); (case z9 => k_is); (case z10 => k_is)
    have in_Neighbours : ∃ C f fd, mg "Neighbours" = some (.ref C) ∧ L2.Mk (L2.KOf KX) C f ∧ L2.Fun (L2.KOf KX) "__init__" "Neighbours.__init__" Tb.s_Neighbours___init__ f fd ∧ L2.Binds (L2.KOf KX) fd ["self", "k"] [] := by
      dsimp only [L2.KOf]
      refine' L2.init_mk KX G ?za ?z1 ?z2 ?z3 ?z4 ?z5 ?z6 ?z7 ?zb
      (case za => k_is); (case z1 => k_is); (case z2 => k_is); (case z3 => k_is); (case z4 => k_is); (case z5 => k_is); (case z6 => k_is); (case z7 => k_is); (case zb => exact fun _ _ _ _ _ _ us hl => match us, hl with | [_, _], _ => rfl)
    have na_Neighbours_k : ∃ C, mg "Neighbours" = some (.ref C) ∧ L2.NoAttr (L2.KOf KX) C "k" := by
      dsimp only [L2.KOf]
      refine' L2.noattr_mk KX G ?za ?z1
      (case za => k_is); (case z1 => k_is)
    have hm_Neighbours_done : ∃ C f fd, mg "Neighbours" = some (.ref C) ∧ L2.Meth (L2.KOf KX) C "done" f ∧ L2.Fun (L2.KOf KX) "done" "Neighbours.done" Tb.s_Neighbours_done f fd ∧ L2.Binds (L2.KOf KX) fd ["self", "pattern"] [] := by
      dsimp only [L2.KOf]
      refine' L2.meth_mk KX G ?za ?z2 ?z3 ?z5 ?z6 ?z7 ?zb
      (case za => k_is); (case z2 => k_is); (case z3 => k_is); (case z5 => k_is); (case z6 => k_is); (case z7 => k_is); (case zb => exact fun _ _ _ _ _ _ us hl => match us, hl with | [_, _], _ => rfl)
    have hm_Neighbours_undone : ∃ C f fd, mg "Neighbours" = some (.ref C) ∧ L2.Meth (L2.KOf KX) C "undone" f ∧ L2.Fun (L2.KOf KX) "undone" "Neighbours.undone" Tb.s_Neighbours_undone f fd ∧ L2.Binds (L2.KOf KX) fd ["self"] [] := by
      dsimp only [L2.KOf]
      refine' L2.meth_mk KX G ?za ?z2 ?z3 ?z5 ?z6 ?z7 ?zb
      (case za => k_is); (case z2 => k_is); (case z3 => k_is); (case z5 => k_is); (case z6 => k_is); (case z7 => k_is); (case zb => exact fun _ _ _ _ _ _ us hl => match us, hl with | [_], _ => rfl)
    have hm_Neighbours_balls : ∃ C f fd, mg "Neighbours" = some (.ref C) ∧ L2.Meth (L2.KOf KX) C "balls" f ∧ L2.Fun (L2.KOf KX) "balls" "Change.balls" Tb.s_Change_balls f fd ∧ L2.Binds (L2.KOf KX) fd ["self", "many"] [] := by
      dsimp only [L2.KOf]
      refine' L2.meth_mk KX G ?za ?z2 ?z3 ?z5 ?z6 ?z7 ?zb
      (case za => k_is); (case z2 => k_is); (case z3 => k_is); (case z5 => k_is); (case z6 => k_is); (case z7 => k_is); (case zb => exact fun _ _ _ _ _ _ us hl => match us, hl with | [_, _], _ => rfl)
    have c_Mirror : ∃ C, mg "Mirror" = some (.ref C) ∧ L2.OCls (L2.KOf KX) C := by
      dsimp only [L2.KOf]
      refine' L2.ocls_mk KX G ?za ?z1 ?z2 ?z3 ?z4 ?z5 ?z6 ?z7 ?z8 ?z9 ?z10
      (case za => k_is); (case z1 => k_is); (case z2 => k_is); (case z3 => k_is); (case z4 => k_is); (case z5 => k_is); (case z6 => k_is); (case z7 => k_is); (case z8 => k_is); (case z9 => k_is); (case z10 => k_is)
    have i0_Mirror : ∃ C, mg "Mirror" = some (.ref C) ∧ PySem.W.findIn (L2.KOf KX) (.ref C) "__init__" = some (some (.builtin "object.__init__")) := by
      dsimp only [L2.KOf]
      refine' L2.init0_mk KX G ?za ?z1
      (case za => k_is); (case z1 => k_is)
    have hm_Mirror_done : ∃ C f fd, mg "Mirror" = some (.ref C) ∧ L2.Meth (L2.KOf KX) C "done" f ∧ L2.Fun (L2.KOf KX) "done" "Mirror.done" Tb.s_Mirror_done f fd ∧ L2.Binds (L2.KOf KX) fd ["self", "pattern"] [] := by
      dsimp only [L2.KOf]
      refine' L2.meth_mk KX G ?za ?z2 ?z3 ?z5 ?z6 ?z7 ?zb
      (case za => k_is); (case z2 => k_is); (case z3 => k_is); (case z5 => k_is); (case z6 => k_is); (case z7 => k_is); (case zb => exact fun _ _ _ _ _ _ us hl => match us, hl with | [_, _], _ => rfl)
    have hm_Mirror_undone : ∃ C f fd, mg "Mirror" = some (.ref C) ∧ L2.Meth (L2.KOf KX) C "undone" f ∧ L2.Fun (L2.KOf KX) "undone" "Mirror.undone" Tb.s_Mirror_undone f fd ∧ L2.Binds (L2.KOf KX) fd ["self"] [] := by
      dsimp only [L2.KOf]
      refine' L2.meth_mk KX G ?za ?z2 ?z3 ?z5 ?z6 ?z7 ?zb
      (case za => k_is); (case z2 => k_is); (case z3 => k_is); (case z5 => k_is); (case z6 => k_is); (case z7 => k_is); (case zb => exact fun _ _ _ _ _ _ us hl => match us, hl with | [_], _ => rfl)
    have hm_Mirror_balls : ∃ C f fd, mg "Mirror" = some (.ref C) ∧ L2.Meth (L2.KOf KX) C "balls" f ∧ L2.Fun (L2.KOf KX) "balls" "Change.balls" Tb.s_Change_balls f fd ∧ L2.Binds (L2.KOf KX) fd ["self", "many"] [] := by
      dsimp only [L2.KOf]
      refine' L2.meth_mk KX G ?za ?z2 ?z3 ?z5 ?z6 ?z7 ?zb
      (case za => k_is); (case z2 => k_is); (case z3 => k_is); (case z5 => k_is); (case z6 => k_is); (case z7 => k_is); (case zb => exact fun _ _ _ _ _ _ us hl => match us, hl with | [_, _], _ => rfl)
    have c_Gaps : ∃ C, mg "Gaps" = some (.ref C) ∧ L2.OCls (L2.KOf KX) C := by
      dsimp only [L2.KOf]
      refine' L2.ocls_mk KX G ?za ?z1 ?z2 ?z3 ?z4 ?z5 ?z6 ?z7 ?z8 ?z9 ?z10
      (case za => k_is); (case z1 => k_is); (case z2 => k_is); (case z3 => k_is); (case z4 => k_is); (case z5 => k_is); (case z6 => k_is); (case z7 => k_is); (case z8 => k_is); (case z9 => k_is); (case z10 => k_is)
    have in_Gaps : ∃ C f fd, mg "Gaps" = some (.ref C) ∧ L2.Mk (L2.KOf KX) C f ∧ L2.Fun (L2.KOf KX) "__init__" "Gaps.__init__" Tb.s_Gaps___init__ f fd ∧ L2.Binds (L2.KOf KX) fd ["self", "h"] [] := by
      dsimp only [L2.KOf]
      refine' L2.init_mk KX G ?za ?z1 ?z2 ?z3 ?z4 ?z5 ?z6 ?z7 ?zb
      (case za => k_is); (case z1 => k_is); (case z2 => k_is); (case z3 => k_is); (case z4 => k_is); (case z5 => k_is); (case z6 => k_is); (case z7 => k_is); (case zb => exact fun _ _ _ _ _ _ us hl => match us, hl with | [_, _], _ => rfl)
    have na_Gaps_h : ∃ C, mg "Gaps" = some (.ref C) ∧ L2.NoAttr (L2.KOf KX) C "h" := by
      dsimp only [L2.KOf]
      refine' L2.noattr_mk KX G ?za ?z1
      (case za => k_is); (case z1 => k_is)
    have hm_Gaps_done : ∃ C f fd, mg "Gaps" = some (.ref C) ∧ L2.Meth (L2.KOf KX) C "done" f ∧ L2.Fun (L2.KOf KX) "done" "Gaps.done" Tb.s_Gaps_done f fd ∧ L2.Binds (L2.KOf KX) fd ["self", "pattern"] [] := by
      dsimp only [L2.KOf]
      refine' L2.meth_mk KX G ?za ?z2 ?z3 ?z5 ?z6 ?z7 ?zb
      (case za => k_is); (case z2 => k_is); (case z3 => k_is); (case z5 => k_is); (case z6 => k_is); (case z7 => k_is); (case zb => exact fun _ _ _ _ _ _ us hl => match us, hl with | [_, _], _ => rfl)
    have hm_Gaps_undone : ∃ C f fd, mg "Gaps" = some (.ref C) ∧ L2.Meth (L2.KOf KX) C "undone" f ∧ L2.Fun (L2.KOf KX) "undone" "Gaps.undone" Tb.s_Gaps_undone f fd ∧ L2.Binds (L2.KOf KX) fd ["self"] [] := by
      dsimp only [L2.KOf]
      refine' L2.meth_mk KX G ?za ?z2 ?z3 ?z5 ?z6 ?z7 ?zb
      (case za => k_is); (case z2 => k_is); (case z3 => k_is); (case z5 => k_is); (case z6 => k_is); (case z7 => k_is); (case zb => exact fun _ _ _ _ _ _ us hl => match us, hl with | [_], _ => rfl)
    have hm_Gaps_balls : ∃ C f fd, mg "Gaps" = some (.ref C) ∧ L2.Meth (L2.KOf KX) C "balls" f ∧ L2.Fun (L2.KOf KX) "balls" "Gaps.balls" Tb.s_Gaps_balls f fd ∧ L2.Binds (L2.KOf KX) fd ["self", "many"] [] := by
      dsimp only [L2.KOf]
      refine' L2.meth_mk KX G ?za ?z2 ?z3 ?z5 ?z6 ?z7 ?zb
      (case za => k_is); (case z2 => k_is); (case z3 => k_is); (case z5 => k_is); (case z6 => k_is); (case z7 => k_is); (case zb => exact fun _ _ _ _ _ _ us hl => match us, hl with | [_, _], _ => rfl)
    have c_Changes : ∃ C, mg "Changes" = some (.ref C) ∧ L2.OCls (L2.KOf KX) C := by
      dsimp only [L2.KOf]
      refine' L2.ocls_mk KX G ?za ?z1 ?z2 ?z3 ?z4 ?z5 ?z6 ?z7 ?z8 ?z9 ?z10
      (case za => k_is); (case z1 => k_is); (case z2 => k_is); (case z3 => k_is); (case z4 => k_is); (case z5 => k_is); (case z6 => k_is); (case z7 => k_is); (case z8 => k_is); (case z9 => k_is); (case z10 => k_is)
    have in_Changes : ∃ C f fd, mg "Changes" = some (.ref C) ∧ L2.Mk (L2.KOf KX) C f ∧ L2.Fun (L2.KOf KX) "__init__" "Changes.__init__" Tb.s_Changes___init__ f fd ∧ L2.Binds (L2.KOf KX) fd ["self", "rows"] [] := by
      dsimp only [L2.KOf]
      refine' L2.init_mk KX G ?za ?z1 ?z2 ?z3 ?z4 ?z5 ?z6 ?z7 ?zb
      (case za => k_is); (case z1 => k_is); (case z2 => k_is); (case z3 => k_is); (case z4 => k_is); (case z5 => k_is); (case z6 => k_is); (case z7 => k_is); (case zb => exact fun _ _ _ _ _ _ us hl => match us, hl with | [_, _], _ => rfl)
    have na_Changes_steps : ∃ C, mg "Changes" = some (.ref C) ∧ L2.NoAttr (L2.KOf KX) C "steps" := by
      dsimp only [L2.KOf]
      refine' L2.noattr_mk KX G ?za ?z1
      (case za => k_is); (case z1 => k_is)
    have hm_Changes_done : ∃ C f fd, mg "Changes" = some (.ref C) ∧ L2.Meth (L2.KOf KX) C "done" f ∧ L2.Fun (L2.KOf KX) "done" "Changes.done" Tb.s_Changes_done f fd ∧ L2.Binds (L2.KOf KX) fd ["self", "pattern"] [] := by
      dsimp only [L2.KOf]
      refine' L2.meth_mk KX G ?za ?z2 ?z3 ?z5 ?z6 ?z7 ?zb
      (case za => k_is); (case z2 => k_is); (case z3 => k_is); (case z5 => k_is); (case z6 => k_is); (case z7 => k_is); (case zb => exact fun _ _ _ _ _ _ us hl => match us, hl with | [_, _], _ => rfl)
    have hm_Changes_undone : ∃ C f fd, mg "Changes" = some (.ref C) ∧ L2.Meth (L2.KOf KX) C "undone" f ∧ L2.Fun (L2.KOf KX) "undone" "Changes.undone" Tb.s_Changes_undone f fd ∧ L2.Binds (L2.KOf KX) fd ["self"] [] := by
      dsimp only [L2.KOf]
      refine' L2.meth_mk KX G ?za ?z2 ?z3 ?z5 ?z6 ?z7 ?zb
      (case za => k_is); (case z2 => k_is); (case z3 => k_is); (case z5 => k_is); (case z6 => k_is); (case z7 => k_is); (case zb => exact fun _ _ _ _ _ _ us hl => match us, hl with | [_], _ => rfl)
    have hm_Changes_balls : ∃ C f fd, mg "Changes" = some (.ref C) ∧ L2.Meth (L2.KOf KX) C "balls" f ∧ L2.Fun (L2.KOf KX) "balls" "Changes.balls" Tb.s_Changes_balls f fd ∧ L2.Binds (L2.KOf KX) fd ["self", "many"] [] := by
      dsimp only [L2.KOf]
      refine' L2.meth_mk KX G ?za ?z2 ?z3 ?z5 ?z6 ?z7 ?zb
      (case za => k_is); (case z2 => k_is); (case z3 => k_is); (case z5 => k_is); (case z6 => k_is); (case z7 => k_is); (case zb => exact fun _ _ _ _ _ _ us hl => match us, hl with | [_, _], _ => rfl)
    have e_Kinds : Tb.KindsIs (L2.KOf KX) mg := by
      dsimp only [L2.KOf]
      refine' Tb.kinds_mk KX G ?yc ?yt ?yl ?ys ?yn ?ym ?yg ?yr ?kc ?kt ?kl ?ks ?kn ?km ?kg ?kr ?tc ?tt ?tl ?ts ?tn ?tm ?tg ?tr ?mrc ?mrt ?mrl ?mrs ?mrn ?mrm ?mrg ?mrr ?nd
      (case yc => k_is); (case yt => k_is); (case yl => k_is); (case ys => k_is); (case yn => k_is); (case ym => k_is); (case yg => k_is); (case yr => k_is); (case kc => k_is); (case kt => k_is); (case kl => k_is); (case ks => k_is); (case kn => k_is); (case km => k_is); (case kg => k_is); (case kr => k_is); (case tc => k_is); (case tt => k_is); (case tl => k_is); (case ts => k_is); (case tn => k_is); (case tm => k_is); (case tg => k_is); (case tr => k_is); (case mrc => exact rfl); (case mrt => exact rfl); (case mrl => exact rfl); (case mrs => exact rfl); (case mrn => exact rfl); (case mrm => exact rfl); (case mrg => exact rfl); (case mrr => exact rfl); (case nd => decide)
    have h_is_whole : ∃ f fd, L2.Has (L2.KOf KX) mg "is_whole" Tb.s_is_whole ["value"] f fd := by
      dsimp only [L2.KOf]
      refine' L2.has_mk KX G ?za ?zl ?zc ?zk ?zb
      (case za => k_is); (case zl => k_is); (case zc => k_is); (case zk => k_is); (case zb => exact fun _ _ _ _ _ _ us hl => match us, hl with | [_], _ => rfl)
    have h_is_between : ∃ f fd, L2.Has (L2.KOf KX) mg "is_between" Tb.s_is_between ["value", "least", "most"] f fd := by
      dsimp only [L2.KOf]
      refine' L2.has_mk KX G ?za ?zl ?zc ?zk ?zb
      (case za => k_is); (case zl => k_is); (case zc => k_is); (case zk => k_is); (case zb => exact fun _ _ _ _ _ _ us hl => match us, hl with | [_, _, _], _ => rfl)
    have h_is_throw : ∃ f fd, L2.Has (L2.KOf KX) mg "is_throw" Tb.s_is_throw ["value"] f fd := by
      dsimp only [L2.KOf]
      refine' L2.has_mk KX G ?za ?zl ?zc ?zk ?zb
      (case za => k_is); (case zl => k_is); (case zc => k_is); (case zk => k_is); (case zb => exact fun _ _ _ _ _ _ us hl => match us, hl with | [_], _ => rfl)
    have h_check_throw : ∃ f fd, L2.Has (L2.KOf KX) mg "check_throw" Tb.s_check_throw ["value"] f fd := by
      dsimp only [L2.KOf]
      refine' L2.has_mk KX G ?za ?zl ?zc ?zk ?zb
      (case za => k_is); (case zl => k_is); (case zc => k_is); (case zk => k_is); (case zb => exact fun _ _ _ _ _ _ us hl => match us, hl with | [_], _ => rfl)
    have h_check_row : ∃ f fd, L2.Has (L2.KOf KX) mg "check_row" Tb.s_check_row ["row"] f fd := by
      dsimp only [L2.KOf]
      refine' L2.has_mk KX G ?za ?zl ?zc ?zk ?zb
      (case za => k_is); (case zl => k_is); (case zc => k_is); (case zk => k_is); (case zb => exact fun _ _ _ _ _ _ us hl => match us, hl with | [_], _ => rfl)
    have h_check_pattern : ∃ f fd, L2.Has (L2.KOf KX) mg "check_pattern" Tb.s_check_pattern ["pattern"] f fd := by
      dsimp only [L2.KOf]
      refine' L2.has_mk KX G ?za ?zl ?zc ?zk ?zb
      (case za => k_is); (case zl => k_is); (case zc => k_is); (case zk => k_is); (case zb => exact fun _ _ _ _ _ _ us hl => match us, hl with | [_], _ => rfl)
    have h_landings : ∃ f fd, L2.Has (L2.KOf KX) mg "landings" Tb.s_landings ["row"] f fd := by
      dsimp only [L2.KOf]
      refine' L2.has_mk KX G ?za ?zl ?zc ?zk ?zb
      (case za => k_is); (case zl => k_is); (case zc => k_is); (case zk => k_is); (case zb => exact fun _ _ _ _ _ _ us hl => match us, hl with | [_], _ => rfl)
    have h_clash_of : ∃ f fd, L2.Has (L2.KOf KX) mg "clash_of" Tb.s_clash_of ["row"] f fd := by
      dsimp only [L2.KOf]
      refine' L2.has_mk KX G ?za ?zl ?zc ?zk ?zb
      (case za => k_is); (case zl => k_is); (case zc => k_is); (case zk => k_is); (case zb => exact fun _ _ _ _ _ _ us hl => match us, hl with | [_], _ => rfl)
    have h_balls_of : ∃ f fd, L2.Has (L2.KOf KX) mg "balls_of" Tb.s_balls_of ["pattern"] f fd := by
      dsimp only [L2.KOf]
      refine' L2.has_mk KX G ?za ?zl ?zc ?zk ?zb
      (case za => k_is); (case zl => k_is); (case zc => k_is); (case zk => k_is); (case zb => exact fun _ _ _ _ _ _ us hl => match us, hl with | [_], _ => rfl)
    have h_within_bounds : ∃ f fd, L2.Has (L2.KOf KX) mg "within_bounds" Tb.s_within_bounds ["throws"] f fd := by
      dsimp only [L2.KOf]
      refine' L2.has_mk KX G ?za ?zl ?zc ?zk ?zb
      (case za => k_is); (case zl => k_is); (case zc => k_is); (case zk => k_is); (case zb => exact fun _ _ _ _ _ _ us hl => match us, hl with | [_], _ => rfl)
    have h_turned : ∃ f fd, L2.Has (L2.KOf KX) mg "turned" Tb.s_turned ["pattern", "k"] f fd := by
      dsimp only [L2.KOf]
      refine' L2.has_mk KX G ?za ?zl ?zc ?zk ?zb
      (case za => k_is); (case zl => k_is); (case zc => k_is); (case zk => k_is); (case zb => exact fun _ _ _ _ _ _ us hl => match us, hl with | [_, _], _ => rfl)
    have h_lifted : ∃ f fd, L2.Has (L2.KOf KX) mg "lifted" Tb.s_lifted ["pattern", "k"] f fd := by
      dsimp only [L2.KOf]
      refine' L2.has_mk KX G ?za ?zl ?zc ?zk ?zb
      (case za => k_is); (case zl => k_is); (case zc => k_is); (case zk => k_is); (case zb => exact fun _ _ _ _ _ _ us hl => match us, hl with | [_, _], _ => rfl)
    have h_mirrored : ∃ f fd, L2.Has (L2.KOf KX) mg "mirrored" Tb.s_mirrored ["pattern"] f fd := by
      dsimp only [L2.KOf]
      refine' L2.has_mk KX G ?za ?zl ?zc ?zk ?zb
      (case za => k_is); (case zl => k_is); (case zc => k_is); (case zk => k_is); (case zb => exact fun _ _ _ _ _ _ us hl => match us, hl with | [_], _ => rfl)
    have h_gaps : ∃ f fd, L2.Has (L2.KOf KX) mg "gaps" Tb.s_gaps ["pattern", "h"] f fd := by
      dsimp only [L2.KOf]
      refine' L2.has_mk KX G ?za ?zl ?zc ?zk ?zb
      (case za => k_is); (case zl => k_is); (case zc => k_is); (case zk => k_is); (case zb => exact fun _ _ _ _ _ _ us hl => match us, hl with | [_, _], _ => rfl)
    have h_check_beat : ∃ f fd, L2.Has (L2.KOf KX) mg "check_beat" Tb.s_check_beat ["value", "length"] f fd := by
      dsimp only [L2.KOf]
      refine' L2.has_mk KX G ?za ?zl ?zc ?zk ?zb
      (case za => k_is); (case zl => k_is); (case zc => k_is); (case zk => k_is); (case zb => exact fun _ _ _ _ _ _ us hl => match us, hl with | [_, _], _ => rfl)
    have h_crosswise : ∃ f fd, L2.Has (L2.KOf KX) mg "crosswise" Tb.s_crosswise ["throws", "one", "other"] f fd := by
      dsimp only [L2.KOf]
      refine' L2.has_mk KX G ?za ?zl ?zc ?zk ?zb
      (case za => k_is); (case zl => k_is); (case zc => k_is); (case zk => k_is); (case zb => exact fun _ _ _ _ _ _ us hl => match us, hl with | [_, _, _], _ => rfl)
    have h_swapped : ∃ f fd, L2.Has (L2.KOf KX) mg "swapped" Tb.s_swapped ["pattern", "i", "j"] f fd := by
      dsimp only [L2.KOf]
      refine' L2.has_mk KX G ?za ?zl ?zc ?zk ?zb
      (case za => k_is); (case zl => k_is); (case zc => k_is); (case zk => k_is); (case zb => exact fun _ _ _ _ _ _ us hl => match us, hl with | [_, _, _], _ => rfl)
    have h_neighbours : ∃ f fd, L2.Has (L2.KOf KX) mg "neighbours" Tb.s_neighbours ["pattern", "k"] f fd := by
      dsimp only [L2.KOf]
      refine' L2.has_mk KX G ?za ?zl ?zc ?zk ?zb
      (case za => k_is); (case zl => k_is); (case zc => k_is); (case zk => k_is); (case zb => exact fun _ _ _ _ _ _ us hl => match us, hl with | [_, _], _ => rfl)
    have h_unchanged : ∃ f fd, L2.Has (L2.KOf KX) mg "unchanged" Tb.s_unchanged ["pattern"] f fd := by
      dsimp only [L2.KOf]
      refine' L2.has_mk KX G ?za ?zl ?zc ?zk ?zb
      (case za => k_is); (case zl => k_is); (case zc => k_is); (case zk => k_is); (case zb => exact fun _ _ _ _ _ _ us hl => match us, hl with | [_], _ => rfl)
    have h_opposite : ∃ f fd, L2.Has (L2.KOf KX) mg "opposite" Tb.s_opposite ["number"] f fd := by
      dsimp only [L2.KOf]
      refine' L2.has_mk KX G ?za ?zl ?zc ?zk ?zb
      (case za => k_is); (case zl => k_is); (case zc => k_is); (case zk => k_is); (case zb => exact fun _ _ _ _ _ _ us hl => match us, hl with | [_], _ => rfl)
    have h__law_cell_at : ∃ f fd, L2.Has (L2.KOf KX) mg "_law_cell_at" Tb.s__law_cell_at ["_law_script", "_law_k"] f fd := by
      dsimp only [L2.KOf]
      refine' L2.has_mk KX G ?za ?zl ?zc ?zk ?zb
      (case za => k_is); (case zl => k_is); (case zc => k_is); (case zk => k_is); (case zb => exact fun _ _ _ _ _ _ us hl => match us, hl with | [_, _], _ => rfl)
    have h__law_mixed : ∃ f fd, L2.Has (L2.KOf KX) mg "_law_mixed" Tb.s__law_mixed ["_law_cell", "_law_k"] f fd := by
      dsimp only [L2.KOf]
      refine' L2.has_mk KX G ?za ?zl ?zc ?zk ?zb
      (case za => k_is); (case zl => k_is); (case zc => k_is); (case zk => k_is); (case zb => exact fun _ _ _ _ _ _ us hl => match us, hl with | [_, _], _ => rfl)
    have h__law_spots_by : ∃ f fd, L2.Has (L2.KOf KX) mg "_law_spots_by" Tb.s__law_spots_by ["_law_size", "_law_cell"] f fd := by
      dsimp only [L2.KOf]
      refine' L2.has_mk KX G ?za ?zl ?zc ?zk ?zb
      (case za => k_is); (case zl => k_is); (case zc => k_is); (case zk => k_is); (case zb => exact fun _ _ _ _ _ _ us hl => match us, hl with | [_, _], _ => rfl)
    have h__law_throws_by : ∃ f fd, L2.Has (L2.KOf KX) mg "_law_throws_by" Tb.s__law_throws_by ["_law_size", "_law_cell", "_law_kind"] f fd := by
      dsimp only [L2.KOf]
      refine' L2.has_mk KX G ?za ?zl ?zc ?zk ?zb
      (case za => k_is); (case zl => k_is); (case zc => k_is); (case zk => k_is); (case zb => exact fun _ _ _ _ _ _ us hl => match us, hl with | [_, _, _], _ => rfl)
    have h__law_same : ∃ f fd, L2.Has (L2.KOf KX) mg "_law_same" Tb.s__law_same ["_law_found", "_law_due"] f fd := by
      dsimp only [L2.KOf]
      refine' L2.has_mk KX G ?za ?zl ?zc ?zk ?zb
      (case za => k_is); (case zl => k_is); (case zc => k_is); (case zk => k_is); (case zb => exact fun _ _ _ _ _ _ us hl => match us, hl with | [_, _], _ => rfl)
    have h__law_beats_by : ∃ f fd, L2.Has (L2.KOf KX) mg "_law_beats_by" Tb.s__law_beats_by ["_law_cell", "_law_size"] f fd := by
      dsimp only [L2.KOf]
      refine' L2.has_mk KX G ?za ?zl ?zc ?zk ?zb
      (case za => k_is); (case zl => k_is); (case zc => k_is); (case zk => k_is); (case zb => exact fun _ _ _ _ _ _ us hl => match us, hl with | [_, _], _ => rfl)
    have h__law_one_by : ∃ f fd, L2.Has (L2.KOf KX) mg "_law_one_by" Tb.s__law_one_by ["_law_cell", "_law_size"] f fd := by
      dsimp only [L2.KOf]
      refine' L2.has_mk KX G ?za ?zl ?zc ?zk ?zb
      (case za => k_is); (case zl => k_is); (case zc => k_is); (case zk => k_is); (case zb => exact fun _ _ _ _ _ _ us hl => match us, hl with | [_, _], _ => rfl)
    have h__law_by_hand : ∃ f fd, L2.Has (L2.KOf KX) mg "_law_by_hand" Tb.s__law_by_hand ["_law_pattern", "_law_cell"] f fd := by
      dsimp only [L2.KOf]
      refine' L2.has_mk KX G ?za ?zl ?zc ?zk ?zb
      (case za => k_is); (case zl => k_is); (case zc => k_is); (case zk => k_is); (case zb => exact fun _ _ _ _ _ _ us hl => match us, hl with | [_, _], _ => rfl)
    have h__law_kinds_right : ∃ f fd, L2.Has (L2.KOf KX) mg "_law_kinds_right" Tb.s__law_kinds_right ["_law_change"] f fd := by
      dsimp only [L2.KOf]
      refine' L2.has_mk KX G ?za ?zl ?zc ?zk ?zb
      (case za => k_is); (case zl => k_is); (case zc => k_is); (case zk => k_is); (case zb => exact fun _ _ _ _ _ _ us hl => match us, hl with | [_], _ => rfl)
    have h__law_far_right : ∃ f fd, L2.Has (L2.KOf KX) mg "_law_far_right" Tb.s__law_far_right ["_law_far"] f fd := by
      dsimp only [L2.KOf]
      refine' L2.has_mk KX G ?za ?zl ?zc ?zk ?zb
      (case za => k_is); (case zl => k_is); (case zc => k_is); (case zk => k_is); (case zb => exact fun _ _ _ _ _ _ us hl => match us, hl with | [_], _ => rfl)
    have h_law : ∃ f fd, L2.Has (L2.KOf KX) mg "law" Tb.s_law ["_law_script"] f fd := by
      dsimp only [L2.KOf]
      refine' L2.has_mk KX G ?za ?zl ?zc ?zk ?zb
      (case za => k_is); (case zl => k_is); (case zc => k_is); (case zk => k_is); (case zb => exact fun _ _ _ _ _ _ us hl => match us, hl with | [_], _ => rfl)
    obtain ⟨fd, hb, hF⟩ := Tb.all_k15 (l := PySem.Challenge.rw_tossbook_k15_whole_changes) (w := w) hmg ⟨b_len, b_range, b_enumerate, b_zip, b_isinstance, b_int, b_bool, b_list, b_tuple, b_all, b_any, b_sum, b_max, b_min, b_abs, b_sorted⟩ b_reversed g_LONGEST_ROW g_FARTHEST_THROW e_NotARow e_OutOfBounds e_Kinds h_is_whole h_is_between h_is_throw h_check_throw h_check_row h_check_pattern h_landings h_clash_of h_balls_of h_within_bounds h_turned h_lifted h_mirrored h_gaps h_check_beat h_crosswise h_swapped h_neighbours h_unchanged h_opposite h__law_cell_at h__law_mixed h__law_spots_by h__law_throws_by h__law_same h__law_beats_by h__law_one_by h__law_by_hand h__law_kinds_right h__law_far_right h_law c_Change i0_Change hm_Change_done hm_Change_undone hm_Change_balls c_Turn in_Turn na_Turn_k hm_Turn_done hm_Turn_undone hm_Turn_balls c_Lift in_Lift na_Lift_k hm_Lift_done hm_Lift_undone hm_Lift_balls c_Swap in_Swap na_Swap_i na_Swap_j hm_Swap_done hm_Swap_undone hm_Swap_balls c_Neighbours in_Neighbours na_Neighbours_k hm_Neighbours_done hm_Neighbours_undone hm_Neighbours_balls c_Mirror i0_Mirror hm_Mirror_done hm_Mirror_undone hm_Mirror_balls c_Gaps in_Gaps na_Gaps_h hm_Gaps_done hm_Gaps_undone hm_Gaps_balls c_Changes in_Changes na_Changes_steps hm_Changes_done hm_Changes_undone hm_Changes_balls
    exact ⟨fd, hb, fun base _ _ => hF base⟩

