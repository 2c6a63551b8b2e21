import PyProof.Rows.All
import Wide.All
import OpenK.AllK
import Wide.FinOn
import Lean
import PyProof.EqAt
import PyProof.EqKinds
import PyProof.TupleCall
import PyProof.NeKinds
import PySem.Challenge.RW_bothbooks_k40_keys
set_option Elab.async false
set_option linter.all false
set_option maxRecDepth 100000
/-! THE HAND LAYER, for ints, bools, texts, own classes, LISTS and tuples (index, slices, in, append, pop ..), calls, loops. Paste it whole ahead of your own text; what your proof does not reach may be deleted. -/
namespace L2
open PySem PySem.Spec PyProof.Rows

/-- a key: an int or a str -/
abbrev Key := Sum Int Str
def keyIs : Key → Value → Bool
  | .inl k, v => Value.isInt k v
  | .inr x, v => Value.isStrOf x v
def keyH (w : World) : Key → Int
  | .inl k => hashInt k
  | .inr x => hashStr w x
theorem keyIs_shape : ∀ {k : Key} {v : Value}, keyIs k v = true → (∃ i t, k = Sum.inl i ∧ v = Value.int i t) ∨ (∃ x t, k = Sum.inr x ∧ v = Value.str x t)
  | .inl i, v, h => by
    obtain ⟨t, e⟩ := Value.isInt_shape (k := i) (v := v) h
    exact .inl ⟨i, t, rfl, e⟩
  | .inr x, v, h => by
    obtain ⟨t, e⟩ := Value.isStrOf_shape (x := x) (v := v) h
    exact .inr ⟨x, t, rfl, e⟩
theorem key_ll (a b : Int) : decide ((Sum.inl a : Key) = Sum.inl b) = (a == b) := by
  by_cases e : a = b
  · subst e; simp
  · have h : ¬ (Sum.inl a : Key) = Sum.inl b := fun q => e (Sum.inl.inj q)
    rw [decide_eq_false h]
    exact (beq_eq_false_iff_ne.mpr e).symm
theorem key_rr (a b : Str) : decide ((Sum.inr a : Key) = Sum.inr b) = decide (a = b) := by
  by_cases e : a = b
  · subst e; simp
  · have h : ¬ (Sum.inr a : Key) = Sum.inr b := fun q => e (Sum.inr.inj q)
    rw [decide_eq_false h, decide_eq_false e]
theorem key_lr (a : Int) (b : Str) : decide ((Sum.inl a : Key) = Sum.inr b) = false := decide_eq_false (fun q => nomatch q)
theorem key_rl (a : Str) (b : Int) : decide ((Sum.inr a : Key) = Sum.inl b) = false := decide_eq_false (fun q => nomatch q)

def mixKind (prog : Program) (w : World) : PySem.KeyKind prog w Key where
  is := keyIs
  hash := keyH w
  inj := fun v a b ha hb => by
    rcases keyIs_shape ha with ⟨i, t, rfl, rfl⟩ | ⟨x, t, rfl, rfl⟩
    · rcases keyIs_shape hb with ⟨j, u, rfl, e⟩ | ⟨y, u, rfl, e⟩
      · injection e with e1 _; rw [e1]
      · exact nomatch e
    · rcases keyIs_shape hb with ⟨j, u, rfl, e⟩ | ⟨y, u, rfl, e⟩
      · exact nomatch e
      · injection e with e1 _; rw [e1]
  byValue := fun k v h => by
    rcases keyIs_shape h with ⟨i, t, rfl, rfl⟩ | ⟨x, t, rfl, rfl⟩ <;> rfl
  pyHash := fun hv h => by
    rcases keyIs_shape hv with ⟨i, t, rfl, rfl⟩ | ⟨x, t, rfl, rfl⟩
    · exact wpAny_pyHash_int h
    · exact wpAny_pyHash_str h
  eqBool := fun hu hv h => by
    rcases keyIs_shape hu with ⟨i, t, rfl, rfl⟩ | ⟨x, t, rfl, rfl⟩
    · rcases keyIs_shape hv with ⟨j, u, rfl, rfl⟩ | ⟨y, u, rfl, rfl⟩
      · rw [key_ll] at h; exact wpAny_eqBool_int h
      · rw [key_lr] at h; exact SeqAt.EqAt.int_str i t y u _ _ _ _ h
    · rcases keyIs_shape hv with ⟨j, u, rfl, rfl⟩ | ⟨y, u, rfl, rfl⟩
      · rw [key_rl] at h; exact SeqAt.EqAt.str_int x t j u _ _ _ _ h
      · rw [key_rr] at h; exact wpAny_eqBool_str h
  «strs» := fun k x t v h => by
    rcases keyIs_shape h with ⟨i, u, rfl, e⟩ | ⟨y, u, rfl, e⟩
    · exact nomatch e
    · injection e with e1 _
      subst e1
      cases v <;> rfl

end L2

namespace L2
open PySem PySem.Spec PyProof.Rows

/-- a value, without the heap -/
inductive V where
  | non | bl (b : Bool) | int (i : Int) | str (x : Str) | byt (b : Array UInt8) | flt (b : UInt64) | ref (a : Addr) | ty (n : String)
  deriving DecidableEq

def RelV : V → Value → Prop
  | .non, u => u = Value.none
  | .bl b, u => u = Value.bool b
  | .int i, u => ∃ t, u = Value.int i t
  | .str x, u => ∃ t, u = Value.str x t
  | .byt b, u => ∃ t, u = Value.bytes b t
  | .flt b, u => ∃ t, u = Value.float b t
  | .ref a, u => u = Value.ref a
  | .ty n, u => u = Value.type n

abbrev Vals : List V → List Value → Prop := Paired RelV
theorem Vals.length {xs : List V} {us : List Value} (r : Vals xs us) : xs.length = us.length := Paired.length r
theorem Vals.get : ∀ {xs : List V} {us : List Value} {i : Nat} {x : V}, Vals xs us → xs[i]? = some x → ∃ u, us[i]? = some u ∧ RelV x u
  | _, _, _, _, .nil, e => by simp at e
  | _, _, 0, _, .cons r _, e => by simp at e; subst e; exact ⟨_, rfl, r⟩
  | _, _, i + 1, x, .cons _ t, e => by
    obtain ⟨u, h1, h2⟩ := Vals.get (i := i) (x := x) t (by simpa using e)
    exact ⟨u, by simpa using h1, h2⟩
theorem Vals.set {x : V} {u : Value} (r : RelV x u) : ∀ {xs : List V} {us : List Value} (i : Nat), Vals xs us → Vals (xs.set i x) (us.set i u)
  | _, _, _, .nil => .nil
  | _, _, 0, .cons _ t => .cons r t
  | _, _, i + 1, .cons q t => .cons q (Vals.set r i t)
theorem Vals.append : ∀ {xs ys : List V} {us ws : List Value}, Vals xs us → Vals ys ws → Vals (xs ++ ys) (us ++ ws)
  | _, _, _, _, .nil, s => s
  | _, _, _, _, .cons r t, s => .cons r (Vals.append t s)
theorem Vals.take : ∀ {xs : List V} {us : List Value} (n : Nat), Vals xs us → Vals (xs.take n) (us.take n)
  | _, _, 0, _ => .nil
  | _, _, _ + 1, .nil => .nil
  | _, _, n + 1, .cons r t => .cons r (Vals.take n t)
theorem Vals.drop : ∀ {xs : List V} {us : List Value} (n : Nat), Vals xs us → Vals (xs.drop n) (us.drop n)
  | _, _, 0, r => r
  | _, _, _ + 1, .nil => .nil
  | _, _, n + 1, .cons _ t => Vals.drop n t

def RelO : Option V → Option Value → Prop
  | some v, some u => RelV v u
  | none, none => True
  | _, _ => False
def KV {κ : Type} : List (κ × V) → List (κ × Value) → Prop := Paired fun (p : κ × V) (q : κ × Value) => p.1 = q.1 ∧ RelV p.2 q.2

/-- a key of a dict (00_mix): an int or a text -/
def kV : Key → V
  | .inl i => .int i
  | .inr x => .str x

/-- what stands at a tracked address -/
inductive HO where
  /-- a list -/
  | lst (xs : List V)
  /-- a tuple (never changes) -/
  | tup (xs : List V)
  /-- a dict whose keys are ints and texts; one whose keys are tuples of ints and texts (the empty one is both) -/
  | dK (kvs : List (Key × V)) | dT (kvs : List (List Key × V))
  /-- a set of ints: its members, its size -/
  | set (S : Int → Bool) (n : Nat)
  /-- an instance of the class at C, its dict at dx, its attributes -/
  | ins (C dx : Addr) (fs : List (Str × V))
  /-- the dict of the instance at x -/
  | own (x : Addr)
  /-- the dict of an exception -/
  | xd (fs : List (Str × V))
  /-- a bound method, f of x -/
  | met (f x : Addr)
  /-- a range object lo, lo + 1, .. below hi -/
  | rng (lo hi : Int)
  /-- a thing that is known to the object (the script; a dict while a loop walks it): read, never written while it is so -/
  | frz (o : Obj) (u : HO)
  /-- a code object's table -/
  | tbl (ps : Array Value)
  /-- any other thing, by what is true of its one object (a def of one's own: SetO a S n := HO.ext fun h => ..) -/
  | ext (φ : Heap → Prop)

abbrev Hp := Addr → Option HO
def upd (H : Hp) (a : Addr) (o : HO) : Hp := fun b => if b = a then some o else H b
theorem upd_same {H : Hp} {a : Addr} {o : HO} : upd H a o a = some o := by unfold upd; rw [if_pos rfl]
theorem upd_ne {H : Hp} {a b : Addr} {o : HO} (h : b ≠ a) : upd H a o b = H b := by unfold upd; rw [if_neg h]
theorem upd_upd {H : Hp} {a : Addr} {o u : HO} : upd (upd H a o) a u = upd H a u := by
  funext b; unfold upd; split <;> rfl
theorem ne_of_none {H : Hp} {a b : Addr} {o : HO} (h : H a = some o) (h' : H b = none) : a ≠ b := by
  intro e; subst e; rw [h] at h'; cases h'

section
variable (P : Program) (w : World)
def ObjOk (H : Hp) (h : Heap) (a : Addr) : HO → Prop
  | .lst xs => xs.length ≤ sizeLine ∧ ∃ (its : List Value) (n : Nat), Vals xs its ∧ h.get? a = some { cls := .type "list", data := .seq its.toArray n }
  | .tup xs => xs.length ≤ sizeLine ∧ ∃ its : List Value, Vals xs its ∧ IsTup h a its.toArray
  | .dK kvs => kvs.length ≤ sizeLine ∧ (a == sysModules) = false ∧ ∃ vs, KV kvs vs ∧ h.DictOf (mixKind P w) a vs
  | .dT kvs => kvs.length ≤ sizeLine ∧ (a == sysModules) = false ∧ ∃ xs : List (List Key × Addr × Value),
      Paired (fun (p : List Key × V) (q : List Key × Addr × Value) => p.1 = q.1 ∧ H q.2.1 = some (.tup (p.1.map kV)) ∧ RelV p.2 q.2.2) kvs xs ∧
      ∃ o es ep, h.get? a = some o ∧ o.ExactDict ∧ o.data = .dict es ep ∧ es.toList = xs.map (entryOfKey (tupleKind (mixKind P w))) ∧ (xs.map (·.1)).Nodup
  | .set S n => h.SetOf (intKind P w) a S n
  | .ins C dx fs => H dx = some (.own a) ∧ fs.length ≤ 1000 ∧ dx ≠ a ∧ h.get? a = some (PySem.W.instObj C dx) ∧
      ∃ mA, h.Ns1 dx mA ∧ (∀ f, RelO (fs.lookup f) (mA f)) ∧ PySem.Within mA (fs.map (·.1))
  | .own _ => ∃ o, h.get? a = some o
  | .xd fs => ∃ mA, h.Ns1 a mA ∧ ∀ f, RelO (fs.lookup f) (mA f)
  | .rng lo hi => ∃ t u v, h.get? a = some { cls := .type "range", data := .fields #[.int lo t, .int hi u, .int 1 v] }
  | .frz o u => h.get? a = some o ∧ ObjOk H h a u
  | .tbl ps => h.get? a = some { cls := .none, data := .fields ps }
  | .met f x => h.get? a = some (PySem.W.methodObj (.ref f) (.ref x))
  | .ext φ => φ h ∧ (∃ o, h.get? a = some o) ∧ ∀ h1 h2 : Heap, φ h1 → (∀ o, h1.get? a = some o → h2.get? a = some o) → φ h2
/-- the abstract heap is held -/
def HOk (H : Hp) (h : Heap) : Prop := ∀ a o, H a = some o → ObjOk P w H h a o
end

section
variable {P : Program} {w : World} {H H' : Hp} {h h' : Heap} {a : Addr} {o : HO}
theorem ObjOk.lt (x : ObjOk P w H h a o) : a < h.objs.size := by
  cases o with
  | lst xs => obtain ⟨_, _, _, _, e⟩ := x; exact Heap.lt_size e
  | tup xs => obtain ⟨_, _, _, p⟩ := x; exact p.lt
  | dK kvs => obtain ⟨_, _, _, _, o, _, _, e, _⟩ := x; exact Heap.lt_size e
  | dT kvs => obtain ⟨_, _, _, _, o, _, _, e, _⟩ := x; exact Heap.lt_size e
  | set S n => obtain ⟨o, _, _, _, e, _⟩ := x; exact Heap.lt_size e
  | ins C dx fs => obtain ⟨_, _, _, e, _⟩ := x; exact Heap.lt_size e
  | own y => obtain ⟨_, e⟩ := x; exact Heap.lt_size e
  | xd fs => obtain ⟨_, ⟨_, _, _, e, _⟩, _⟩ := x; exact Heap.lt_size e
  | rng lo hi => obtain ⟨_, _, _, e⟩ := x; exact Heap.lt_size e
  | frz ob u => obtain ⟨e, _⟩ := x; exact Heap.lt_size e
  | tbl ps => exact Heap.lt_size (show h.get? a = some _ from x)
  | met f y => exact Heap.lt_size (show h.get? a = some _ from x)
  | ext φ => obtain ⟨_, ⟨_, e⟩, _⟩ := x; exact Heap.lt_size e
theorem Paired.mapP {α β : Type} {F G : α → β → Prop} : ∀ {l₁ : List α} {l₂ : List β}, Paired F l₁ l₂ → (∀ a b, F a b → G a b) → Paired G l₁ l₂
  | _, _, .nil, _ => .nil
  | _, _, .cons r t, f => .cons (f _ _ r) (Paired.mapP t f)
/-- what an object's description leans on: its own object, its own dict, the tuples -/
theorem ObjOk.stay (x : ObjOk P w H h a o) (k : ∀ b u, (b = a ∨ H b = some (.own a)) → h.get? b = some u → h'.get? b = some u)
    (ho : ∀ b, H b = some (.own a) → H' b = some (.own a)) (ht : ∀ b xs, H b = some (.tup xs) → H' b = some (.tup xs)) : ObjOk P w H' h' a o := by
  induction o with
  | lst xs => obtain ⟨z, its, n, r, e⟩ := x; exact ⟨z, its, n, r, k _ _ (.inl rfl) e⟩
  | tup xs => obtain ⟨z, its, r, ob, e, c⟩ := x; exact ⟨z, its, r, ob, k _ _ (.inl rfl) e, c⟩
  | dK kvs => obtain ⟨z, y, vs, r, ob, es, ep, e, c⟩ := x; exact ⟨z, y, vs, r, ob, es, ep, k _ _ (.inl rfl) e, c⟩
  | dT kvs =>
    obtain ⟨z, y, xs, r, ob, es, ep, e, c⟩ := x
    exact ⟨z, y, xs, Paired.mapP r fun p q z => ⟨z.1, ht _ _ z.2.1, z.2.2⟩, ob, es, ep, k _ _ (.inl rfl) e, c⟩
  | set S n => obtain ⟨ob, es, ep, t, e, c⟩ := x; exact ⟨ob, es, ep, t, k _ _ (.inl rfl) e, c⟩
  | ins C dx fs =>
    obtain ⟨d, z, ne, e, mA, ⟨od, es, ep, e2, c⟩, r⟩ := x
    exact ⟨ho _ d, z, ne, k _ _ (.inl rfl) e, mA, ⟨od, es, ep, k _ _ (.inr d) e2, c⟩, r⟩
  | own y => obtain ⟨ob, e⟩ := x; exact ⟨ob, k _ _ (.inl rfl) e⟩
  | xd fs => obtain ⟨mA, ⟨od, es, ep, e, c⟩, r⟩ := x; exact ⟨mA, ⟨od, es, ep, k _ _ (.inl rfl) e, c⟩, r⟩
  | rng lo hi => obtain ⟨t, u, v, e⟩ := x; exact ⟨t, u, v, k _ _ (.inl rfl) e⟩
  | frz ob u ih => obtain ⟨e, q⟩ := x; exact ⟨k _ _ (.inl rfl) e, ih q⟩
  | tbl ps =>
    have e : h.get? a = some { cls := .none, data := .fields ps } := x
    show h'.get? a = some { cls := .none, data := .fields ps }
    exact k a _ (.inl rfl) e
  | met f y =>
    have e : h.get? a = some (PySem.W.methodObj (.ref f) (.ref y)) := x
    show h'.get? a = some (PySem.W.methodObj (.ref f) (.ref y))
    exact k a _ (.inl rfl) e
  | ext φ => obtain ⟨p, ⟨o, e⟩, st⟩ := x; exact ⟨st _ _ p fun o q => k _ _ (.inl rfl) q, ⟨o, k _ _ (.inl rfl) e⟩, st⟩
theorem HOk.lt (x : HOk P w H h) (e : H a = some o) : a < h.objs.size := (x a o e).lt
theorem HOk.fresh (x : HOk P w H h) (e : h.objs.size ≤ a) : H a = none := by
  cases q : H a with
  | none => rfl
  | some u => exact absurd (Nat.lt_of_lt_of_le (x.lt q) e) (Nat.lt_irrefl _)
/-- every object of the heap is kept -/
theorem HOk.kept (x : HOk P w H h) (k : ∀ b u, h.get? b = some u → h'.get? b = some u) : HOk P w H h' := fun a o e =>
  (x a o e).stay (fun b u _ q => k b u q) (fun _ q => q) fun _ _ q => q
/-- a new object is laid and tracked -/
theorem HOk.laid (x : HOk P w H h) (k : ∀ b u, h.get? b = some u → h'.get? b = some u) (hp : h.objs.size ≤ a) (new : ObjOk P w (upd H a o) h' a o) : HOk P w (upd H a o) h' := fun b u e => by
  have hn := x.fresh hp
  by_cases hb : b = a
  · subst hb; rw [upd_same] at e; cases e; exact new
  · rw [upd_ne hb] at e
    exact (x b u e).stay (fun c v _ q => k c v q) (fun c q => by rw [upd_ne (ne_of_none q hn)]; exact q) fun c xs q => by rw [upd_ne (ne_of_none q hn)]; exact q
end

/-- what may be read as u: it is u, or a known u -/
def Rd (H : Hp) (a : Addr) (u : HO) : Prop := H a = some u ∨ ∃ o, H a = some (.frz o u)
theorem Rd.ok {P : Program} {w : World} {H : Hp} {h : Heap} {a : Addr} {u : HO} (r : Rd H a u) (x : HOk P w H h) : ObjOk P w H h a u := by
  rcases r with r | ⟨o, r⟩
  · exact x a u r
  · obtain ⟨_, q⟩ := x a _ r
    exact q
/-- what may be written -/
def Mut : Option HO → Prop
  | some (.lst _) => True
  | some (.dK _) => True
  | some (.dT _) => True
  | some (.set _ _) => True
  | some (.ins _ _ _) => True
  | some (.ext _) => True
  | _ => False
section
variable {P : Program} {w : World} {H : Hp} {h h' : Heap} {x e : Addr} {o' : HO}
/-- the object at e is changed: x itself, or the dict of the instance x -/
theorem HOk.write (ok : HOk P w H h) (mu : Mut (H x)) (he : e = x ∨ H e = some (.own x)) (k : ∀ b u, b ≠ e → h.get? b = some u → h'.get? b = some u) (heo : ∃ u, h'.get? e = some u)
    (new : ObjOk P w (upd H x o') h' x o') : HOk P w (upd H x o') h' := fun b u q => by
  have nown : ∀ c y, H c = some (.own y) → c ≠ x := fun c y r z => by subst z; rw [r] at mu; exact mu
  have ntup : ∀ c xs, H c = some (.tup xs) → c ≠ x := fun c xs r z => by subst z; rw [r] at mu; exact mu
  by_cases hb : b = x
  · subst hb; rw [upd_same] at q; cases q; exact new
  · rw [upd_ne hb] at q
    by_cases hbe : b = e
    · have q' : H b = some (.own x) := by
        rcases he with z | z
        · exact absurd (hbe.trans z) hb
        · rw [hbe]; exact z
      rw [q] at q'; cases q'
      obtain ⟨v, hv⟩ := heo
      exact ⟨v, by rw [hbe]; exact hv⟩
    · refine (ok b u q).stay (fun c v hc r => k c v ?_ r) (fun c r => by rw [upd_ne (nown c b r)]; exact r) fun c xs r => by rw [upd_ne (ntup c xs r)]; exact r
      rcases hc with rfl | hc
      · exact hbe
      · rintro rfl
        rcases he with z | z
        · exact nown c b hc z
        · rw [hc] at z; cases z; exact hb rfl
end

/-! ### kept unless tracked; of the frames at fs (the callers') the slots may change (an exception that passes writes there); of the records at ex (iterators) nothing is said -/
structure Un (fs ex : List Addr) (H H' : Hp) (h h' : Heap) : Prop where
  keep : ∀ b o, h.get? b = some o → H b = none → b ∉ fs → b ∉ ex → h'.get? b = some o
  slot : ∀ b o, h.get? b = some o → H b = none → b ∈ fs → b ∉ ex → ∃ sl, h'.get? b = some { o with slots := sl }
  free : ∀ b o, h.get? b = some o → H b = none → b ∉ ex → H' b = none
  there : ∀ b o, h.get? b = some o → b ∉ ex → ∃ o', h'.get? b = some o'
  tups : ∀ b xs, H b = some (.tup xs) → H' b = some (.tup xs)
  frzs : ∀ b o u, H b = some (.frz o u) → H' b = some (.frz o u)
  tbls : ∀ b ps, H b = some (.tbl ps) → ∃ more, H' b = some (.tbl (ps ++ more))
section
variable {fs fs' ex ex' : List Addr} {H H1 H2 : Hp} {h h1 h2 h' : Heap} {a x e : Addr} {o : HO}
theorem Un.any (u : Un fs ex H H1 h h1) {b : Addr} {ob : Obj} (q : h.get? b = some ob) (n : H b = none) (hx : b ∉ ex) : ∃ sl, h1.get? b = some { ob with slots := sl } := by
  by_cases hb : b ∈ fs
  · exact u.slot b ob q n hb hx
  · exact ⟨ob.slots, u.keep b ob q n hb hx⟩
theorem Un.kept (k : ∀ b u, h.get? b = some u → h'.get? b = some u) : Un fs ex H H h h' :=
  ⟨fun b ob q _ _ _ => k b ob q, fun b ob q _ _ _ => ⟨ob.slots, k b ob q⟩, fun _ _ _ n _ => n, fun b ob q _ => ⟨ob, k b ob q⟩, fun _ _ q => q, fun _ _ _ q => q, fun _ ps q => ⟨#[], by rw [q]; simp⟩⟩
theorem Un.refl : Un fs ex H H h h := Un.kept fun _ _ q => q
theorem Un.laid (k : ∀ b u, h.get? b = some u → h'.get? b = some u) (hp : h.objs.size ≤ a) (hn : H a = none) : Un fs ex H (upd H a o) h h' where
  keep := fun b u q _ _ _ => k b u q
  slot := fun b u q _ _ _ => ⟨u.slots, k b u q⟩
  free := fun b u q n _ => by rw [upd_ne (Nat.ne_of_lt (Nat.lt_of_lt_of_le (Heap.lt_size q) hp))]; exact n
  there := fun b u q _ => ⟨u, k b u q⟩
  tups := fun b xs q => by rw [upd_ne (ne_of_none q hn)]; exact q
  frzs := fun b u xs q => by rw [upd_ne (ne_of_none q hn)]; exact q
  tbls := fun b ps q => ⟨#[], by rw [upd_ne (ne_of_none q hn), q]; simp⟩
theorem Un.write (mu : Mut (H x)) (he : e = x ∨ H e = some (.own x)) (k : ∀ b u, b ≠ e → h.get? b = some u → h'.get? b = some u) (heo : ∃ u, h'.get? e = some u) : Un fs ex H (upd H x o) h h' := by
  have hx : ∀ b, H b = none → b ≠ x := fun b n z => by subst z; rw [n] at mu; exact mu
  have hb : ∀ b, H b = none → b ≠ e := fun b n z => by
    subst z
    rcases he with r | r
    · exact hx b n r
    · rw [n] at r; cases r
  have hm : ∀ b u, H b = some u → ¬ Mut (some u) → b ≠ x := fun b u q nm z => by subst z; rw [q] at mu; exact nm mu
  refine ⟨fun b u q n _ _ => k b u (hb b n) q, fun b u q n _ _ => ⟨u.slots, k b u (hb b n) q⟩, fun b u q n _ => by rw [upd_ne (hx b n)]; exact n, fun b u q _ => ?_,
    fun b xs q => by rw [upd_ne (hm b _ q fun z => z)]; exact q, fun b u xs q => by rw [upd_ne (hm b _ q fun z => z)]; exact q, fun b ps q => ⟨#[], by rw [upd_ne (hm b _ q fun z => z), q]; simp⟩⟩
  by_cases hbe : b = e
  · subst hbe; exact heo
  · exact ⟨u, k b u hbe q⟩
end

/-! ### the heap without what is tracked -/
def trk (h : Heap) (H : Hp) : List Addr := (List.range h.objs.size).filter fun a => (H a).isSome
def hidT (h : Heap) (H : Hp) : Heap := PySem.W.hideAll h (trk h H)
theorem hidT_size (h : Heap) (H : Hp) : (hidT h H).objs.size = h.objs.size := PySem.W.hideAll_size _ _
theorem hidT_get {h : Heap} {H : Hp} {b : Addr} {o : Obj} (e : h.get? b = some o) (n : H b = none) : (hidT h H).get? b = some o :=
  PySem.W.hideAll_get _ e fun hm => by
    have q : (H b).isSome = true := (List.mem_filter.mp hm).2
    rw [n] at q; simp at q
theorem of_hidT {h : Heap} {H : Hp} {b : Addr} {o : Obj} (e : (hidT h H).get? b = some o) : h.get? b = some o ∧ H b = none := by
  have e' : h.get? b = some o := PySem.W.of_hideAll (trk h H) e
  refine ⟨e', ?_⟩
  cases q : H b with
  | none => rfl
  | some x =>
    have hm : b ∈ trk h H := List.mem_filter.mpr ⟨List.mem_range.mpr (Heap.lt_size e'), by simp [q]⟩
    have z : (hidT h H).get? b = none := PySem.W.hideAll_none (trk h H) hm
    rw [z] at e; cases e

/-! ### OpenK's ledger, filled with every new object but one -/
end L2

namespace L2
open PySem PySem.Spec PyProof.Rows

/-- the module's facts, over the base: the heap at the law's entry without what is tracked there -/
structure Mod (K : PySem.W.Frag) (mg : Str → Option Value) (base : Heap) : Prop where
  kin : K.In base
  glob : base.Ns mainGlobals mg
  blt : ∃ mb, base.Ns builtinsNs mb ∧ ∀ x : Str, x ≠ "__name__" → mb x = bootBuiltins x
  nolimit : base.NoLimit

/-- the context: a def's body (or a comprehension's block) running. base: fixed through the whole law; s₀, H₀: the entry; outer: the frames whose slots others may change (a def's callers); stack: all frames that run;
   ex: iterators that were made ahead of the entry and are walked here (a comprehension's); fn: the names whose cells were made at the entry (a def: all; a comprehension's block: its own); calm: not within an except suite; pn: pins that every state bears; xe: what is wanted of an exception that leaves the code -/
structure Cx where
  prog : Program
  w : World
  K : PySem.W.Frag
  mg : Str → Option Value
  base : Heap
  A : Around
  N : List Str
  s₀ : Shared
  H₀ : Hp
  env : Env
  outer : List Env
  stack : List Env
  ex : List Addr
  fn : Str → Bool
  calm : Bool
  pn : List (Addr × Obj)
  xe : Value → Shared → Prop
/-- the callers' frames -/
def frs (l : List Env) : List Addr := l.filterMap (·.frame)
abbrev Cx.fs (X : Cx) : List Addr := frs X.outer

def Vis (sc : Scope) (x : Str) : Prop := sc.names.lookup x = some .local ∨ sc.names.lookup x = some .cell ∨ sc.names.lookup x = some .free
def Loc (sc : Scope) (x : Str) : Prop := sc.names.lookup x = some .local ∨ sc.names.lookup x = some .cell
def Look (env : Env) (h : Heap) (m : Str → Option Value) (x : Str) (u : Value) : Prop :=
  (env.kindOf x = some .local ∧ m x = some u) ∨ ((env.kindOf x = some .cell ∨ env.kindOf x = some .free) ∧ ∃ c, env.cells.lookup x = some c ∧ h.IsCell c (some u))

structure Cx.Ok (X : Cx) : Prop where
  mod : Mod X.K X.mg X.base
  kind : X.env.scope.kind = .function
  glob : X.env.globals = mainGlobals
  blt : X.env.builtins = builtinsNs
  above : X.s₀.heap.objs.size ≤ X.env.locals
  inj : ∀ x y c, X.env.cells.lookup x = some c → X.env.cells.lookup y = some c → x = y
  has : ∀ x, (X.env.kindOf x = some .cell ∨ X.env.kindOf x = some .free) → ∃ c, X.env.cells.lookup x = some c
  cab : ∀ x c, X.fn x = true → X.env.cells.lookup x = some c → X.s₀.heap.objs.size ≤ c
  hd : X.calm = true → X.A.handled = none
  frames : X.A.frames = some X.stack
  stk : X.stack = X.outer ∨ (X.stack = X.env :: X.outer ∧ X.env.frame = some X.env.locals)
  exf : ∀ b ∈ X.ex, b ≠ X.env.locals ∧ ∀ x c, X.env.cells.lookup x = some c → c ≠ b
  bs : ∀ b o, X.base.get? b = some o → X.s₀.heap.get? b = some o ∧ X.H₀ b = none
  bsz : X.base.objs.size ≤ X.s₀.heap.objs.size
  noex : ∀ b o, X.base.get? b = some o → b ∉ X.ex
  exfs : ∀ b ∈ X.ex, b ∉ X.fs
  funs : X.s₀.heap.FunFrames X.base X.outer
  frf : ∀ b ∈ X.fs, X.H₀ b = none

structure Inv (X : Cx) (pins : List (Addr × Obj)) (σ : List (Option V)) (H : Hp) (s : Shared) : Prop where
  ok : X.Ok
  os : s.os = X.s₀.os
  bare : AllBare s.gens
  base : Un X.fs X.ex X.H₀ H X.s₀.heap s.heap
  loc : ∃ m, s.heap.Ns X.env.locals m ∧ ∀ (i : Nat) (x : Str) (v : V), X.N[i]? = some x → σ[i]? = some (some v) → Vis X.env.scope x → ∃ u, RelV v u ∧ Look X.env s.heap m x u
  cell : ∀ x c, X.env.cells.lookup x = some c → ∃ v, s.heap.IsCell c v
  free : H X.env.locals = none
  freeC : ∀ x c, X.env.cells.lookup x = some c → H c = none
  pin : ∀ p ∈ X.pn ++ pins, s.heap.get? p.1 = some p.2 ∧ H p.1 = none ∧ p.1 ≠ X.env.locals ∧ p.1 ∉ X.fs ∧ ∀ v, p.2.data ≠ .cell v
  hok : HOk X.prog X.w H s.heap
  len : σ.length = X.N.length

section
variable {X : Cx} {pins : List (Addr × Obj)} {σ : List (Option V)} {H H' : Hp} {s : Shared} {h' : Heap}

theorem Cx.Ok.nofr (ok : X.Ok) {b : Addr} {o : Obj} (e : X.base.get? b = some o) : b ∉ X.fs := fun hb => by
  have := (ok.funs.mem hb).1
  rw [e] at this; cases this
theorem Inv.bs (I : Inv X pins σ H s) : ∀ b o, X.base.get? b = some o → s.heap.get? b = some o ∧ H b = none := fun b o e =>
  ⟨I.base.keep b o (I.ok.bs b o e).1 (I.ok.bs b o e).2 (I.ok.nofr e) (I.ok.noex b o e), I.base.free b o (I.ok.bs b o e).1 (I.ok.bs b o e).2 (I.ok.noex b o e)⟩
theorem Inv.bk (I : Inv X pins σ H s) : ∀ b o, X.base.get? b = some o → s.heap.get? b = some o := fun b o e => (I.bs b o e).1
theorem Inv.mod (I : Inv X pins σ H s) : Mod X.K X.mg X.base := I.ok.mod
theorem Inv.kIn (I : Inv X pins σ H s) : X.K.In s.heap := I.ok.mod.kin.keeps I.bk
theorem Inv.lt (I : Inv X pins σ H s) : X.env.locals < s.heap.objs.size := let ⟨_, hn, _⟩ := I.loc; hn.lt
theorem Inv.sz (I : Inv X pins σ H s) : X.s₀.heap.objs.size ≤ s.heap.objs.size := Nat.le_trans I.ok.above (Nat.le_of_lt I.lt)
theorem Inv.nofs (I : Inv X pins σ H s) {a : Addr} (h : s.heap.objs.size ≤ a) : a ∉ X.fs := fun hb => by
  obtain ⟨_, o, ho, _⟩ := I.ok.funs.mem hb
  exact absurd (Nat.lt_of_lt_of_le (Heap.lt_size ho) (Nat.le_trans I.sz h)) (Nat.lt_irrefl _)
theorem Inv.cne (I : Inv X pins σ H s) : ∀ x c, X.env.cells.lookup x = some c → c ≠ X.env.locals := fun x c e z => by
  obtain ⟨v, o, ho, hd⟩ := I.cell x c e
  obtain ⟨m, ⟨o', es, ep, ho', hd', _⟩, _⟩ := I.loc
  rw [z, ho'] at ho; cases ho; rw [hd'] at hd; cases hd
theorem Inv.funs (I : Inv X pins σ H s) : s.heap.FunFrames X.base X.outer := by
  have all : ∀ (l : List Env), (∀ b ∈ frs l, b ∈ X.fs) → X.s₀.heap.FunFrames X.base l → s.heap.FunFrames X.base l := by
    intro l
    induction l with
    | nil => intro _ _; trivial
    | cons env r ih =>
      intro hs hl
      obtain ⟨hk, ⟨L, o, hf, hn, ho, hd⟩, hr⟩ := hl
      have hL : L ∈ X.fs := hs L (by unfold frs; rw [List.filterMap_cons, hf]; exact List.mem_cons_self)
      obtain ⟨sl, e⟩ := I.base.slot L o ho (I.ok.frf L hL) hL fun z => I.ok.exfs L z hL
      exact ⟨hk, ⟨L, _, hf, hn, e, hd⟩, ih (fun b hb => hs b (by unfold frs; rw [List.filterMap_cons, hf]; exact List.mem_cons_of_mem _ hb)) hr⟩
  exact all X.outer (fun _ hb => hb) I.ok.funs

/-- the frames that run, for a call -/
theorem Inv.stack (I : Inv X pins σ H s) : s.heap.FunFrames X.base X.stack := by
  rcases I.ok.stk with e | ⟨e, hf⟩
  · rw [e]; exact I.funs
  · rw [e]
    obtain ⟨m, hn, _⟩ := I.loc
    refine .cons (by rw [I.ok.kind]; decide) hf hn ?_ I.funs
    exact Heap.get?_none_of_le (Nat.le_trans I.ok.bsz I.ok.above)
theorem Inv.stkSub (I : Inv X pins σ H s) : ∀ b ∈ frs X.stack, b ∈ X.env.locals :: X.fs := fun b hb => by
  rcases I.ok.stk with e | ⟨e, hf⟩
  · rw [e] at hb; exact List.mem_cons_of_mem _ hb
  · rw [e] at hb
    unfold frs at hb
    rw [List.filterMap_cons, hf] at hb
    exact hb
theorem Inv.stkFree (I : Inv X pins σ H s) : ∀ b ∈ frs X.stack, H b = none := fun b hb => by
  rcases List.mem_cons.mp (I.stkSub b hb) with e | hb
  · rw [e]; exact I.free
  · obtain ⟨_, o, ho, _⟩ := I.ok.funs.mem hb
    exact I.base.free b o ho (I.ok.frf b hb) fun z => I.ok.exfs b z hb

/-- THE STEP: the untracked objects but the frame and the records at ch are kept (the callers' frames up to slots), the frame's map is kept, the new abstract heap is held -/
theorem Inv.step {g' : Array GenState} {t' : Nat} {d' : Drawn} {ch : List Addr} (I : Inv X pins σ H s)
    (hch : ∀ b ∈ ch, (b ∈ X.ex ∨ X.s₀.heap.objs.size ≤ b) ∧ b ≠ X.env.locals ∧ (∀ x c, X.env.cells.lookup x = some c → c ≠ b) ∧ ∀ p ∈ X.pn ++ pins, p.1 ≠ b)
    (keep : ∀ b o, b ≠ X.env.locals → b ∉ X.fs → b ∉ ch → s.heap.get? b = some o → H b = none → h'.get? b = some o)
    (slot : ∀ b o, b ≠ X.env.locals → b ∈ X.fs → b ∉ ch → s.heap.get? b = some o → H b = none → ∃ sl, h'.get? b = some { o with slots := sl }) (free : ∀ b o, b ∉ ch → s.heap.get? b = some o → H b = none → H' b = none)
    (there : ∀ b o, b ∉ ch → s.heap.get? b = some o → ∃ o', h'.get? b = some o')
    (tups : ∀ b xs, H b = some (.tup xs) → H' b = some (.tup xs)) (frzs : ∀ b o u, H b = some (.frz o u) → H' b = some (.frz o u)) (tbls : ∀ b ps, H b = some (.tbl ps) → ∃ more, H' b = some (.tbl (ps ++ more)))
    (ns : ∀ m, s.heap.Ns X.env.locals m → h'.Ns X.env.locals m) (hok : HOk X.prog X.w H' h') (hg : AllBare g') :
    Inv X pins σ H' { s with heap := h', gens := g', drawn := d', toks := t' } := by
  have neL : ∀ b o, X.s₀.heap.get? b = some o → b ≠ X.env.locals := fun b o e => Nat.ne_of_lt (Nat.lt_of_lt_of_le (Heap.lt_size e) I.ok.above)
  have neC : ∀ b o, X.s₀.heap.get? b = some o → b ∉ X.ex → b ∉ ch := fun b o e hx hb => by
    rcases (hch b hb).1 with z | z
    · exact hx z
    · exact absurd (Nat.lt_of_lt_of_le (Heap.lt_size e) z) (Nat.lt_irrefl _)
  have cellK : ∀ x c, X.env.cells.lookup x = some c → ∀ v, s.heap.IsCell c v → h'.IsCell c v := fun x c e v ⟨o, ho, hd⟩ => by
    have nch : c ∉ ch := fun z => (hch c z).2.2.1 x c e rfl
    by_cases hc : c ∈ X.fs
    · obtain ⟨sl, q⟩ := slot c o (I.cne x c e) hc nch ho (I.freeC x c e)
      exact ⟨_, q, hd⟩
    · exact ⟨o, keep c o (I.cne x c e) hc nch ho (I.freeC x c e), hd⟩
  refine ⟨I.ok, I.os, hg, ⟨fun b o e n hb hx => ?_, fun b o e n hb hx => ?_, fun b o e n hx => ?_, fun b o e hx => ?_, fun b xs e => tups b xs (I.base.tups b xs e), fun b o xs e => frzs b o xs (I.base.frzs b o xs e), fun b ps e => ?_⟩, ?_, fun x c e => ?_, ?_, fun x c e => ?_, fun p hp => ?_, hok, I.len⟩
  · exact keep b o (neL b o e) hb (neC b o e hx) (I.base.keep b o e n hb hx) (I.base.free b o e n hx)
  · obtain ⟨sl, e1⟩ := I.base.slot b o e n hb hx
    obtain ⟨sl', e2⟩ := slot b _ (neL b o e) hb (neC b o e hx) e1 (I.base.free b o e n hx)
    exact ⟨sl', e2⟩
  · obtain ⟨o', e1⟩ := I.base.there b o e hx
    exact free b o' (neC b o e hx) e1 (I.base.free b o e n hx)
  · obtain ⟨o', e1⟩ := I.base.there b o e hx
    exact there b o' (neC b o e hx) e1
  · obtain ⟨m1, e1⟩ := I.base.tbls b ps e
    obtain ⟨m2, e2⟩ := tbls b _ e1
    exact ⟨m1 ++ m2, by rw [e2, Array.append_assoc]⟩
  · obtain ⟨m, hn, hl⟩ := I.loc
    refine ⟨m, ns m hn, fun i x v e1 e2 e3 => ?_⟩
    obtain ⟨u, r, l⟩ := hl i x v e1 e2 e3
    refine ⟨u, r, ?_⟩
    rcases l with l | ⟨k, c, e, z⟩
    · exact .inl l
    · exact .inr ⟨k, c, e, cellK x c e _ z⟩
  · obtain ⟨v, z⟩ := I.cell x c e
    exact ⟨v, cellK x c e v z⟩
  · obtain ⟨m, ⟨o, _, _, ho, _⟩, _⟩ := I.loc
    exact free _ o (fun z => (hch _ z).2.1 rfl) ho I.free
  · obtain ⟨v, o, ho, hd⟩ := I.cell x c e
    exact free c o (fun z => (hch c z).2.2.1 x c e rfl) ho (I.freeC x c e)
  · obtain ⟨e, n, ne, nf, d⟩ := I.pin p hp
    have nch : p.1 ∉ ch := fun z => (hch p.1 z).2.2.2 p hp rfl
    exact ⟨keep p.1 p.2 ne nf nch e n, free p.1 p.2 nch e n, ne, nf, d⟩
/-- .. where the frame's own object is kept too -/
theorem Inv.un {t' : Nat} (I : Inv X pins σ H s) (u : Un X.fs [] H H' s.heap h') (hok : HOk X.prog X.w H' h') : Inv X pins σ H' { s with heap := h', toks := t' } := by
  obtain ⟨m, ⟨o, es, ep, ho, r⟩, _⟩ := id I.loc
  obtain ⟨sl, hL⟩ := u.any ho I.free (by simp)
  exact I.step (g' := s.gens) (d' := s.drawn) (ch := []) (fun _ z => nomatch z) (fun b o _ hb _ e n => u.keep b o e n hb (by simp)) (fun b o _ hb _ e n => u.slot b o e n hb (by simp)) (fun b o _ e n => u.free b o e n (by simp)) (fun b o _ e => u.there b o e (by simp)) u.tups u.frzs u.tbls (fun m' hm => by
    obtain ⟨o', es', ep', ho', r'⟩ := hm
    rw [ho] at ho'; cases ho'
    exact ⟨_, es', ep', hL, r'⟩) hok I.bare
/-- behind a call (or a comprehension's block): the slots of this frame may have changed too, the records at ch may have turned -/
theorem Inv.call {g' : Array GenState} {t' : Nat} {d' : Drawn} {ch : List Addr} (I : Inv X pins σ H s) (u : Un (frs X.stack) ch H H' s.heap h') (hok : HOk X.prog X.w H' h') (hg : AllBare g')
    (hch : ∀ b ∈ ch, (b ∈ X.ex ∨ X.s₀.heap.objs.size ≤ b) ∧ b ≠ X.env.locals ∧ (∀ x c, X.env.cells.lookup x = some c → c ≠ b) ∧ ∀ p ∈ X.pn ++ pins, p.1 ≠ b) :
    Inv X pins σ H' { s with heap := h', gens := g', drawn := d', toks := t' } := by
  obtain ⟨m, ⟨o, es, ep, ho, r⟩, _⟩ := id I.loc
  obtain ⟨sl, hL⟩ := u.any ho I.free fun z => (hch _ z).2.1 rfl
  exact I.step (ch := ch) hch (fun b o hL hb hc e n => u.keep b o e n (fun z => (List.mem_cons.mp (I.stkSub b z)).elim hL hb) hc) (fun b o _ _ hc e n => u.any e n hc) (fun b o hc e n => u.free b o e n hc) (fun b o hc e => u.there b o e hc) u.tups u.frzs u.tbls (fun m' hm => by
    obtain ⟨o', es', ep', ho', r'⟩ := hm
    rw [ho] at ho'; cases ho'
    exact ⟨_, es', ep', hL, r'⟩) hok hg
/-- an untracked record of ours (an iterator) has turned -/
theorem Inv.turned {t' : Nat} {it : Addr} (I : Inv X pins σ H s) (k : ∀ b o, b ≠ it → s.heap.get? b = some o → h'.get? b = some o) (hn : H it = none) (hL : it ≠ X.env.locals)
    (h1 : it ∈ X.ex ∨ X.s₀.heap.objs.size ≤ it) (h2 : ∀ x c, X.env.cells.lookup x = some c → c ≠ it) (h3 : ∀ p ∈ X.pn ++ pins, p.1 ≠ it) : Inv X pins σ H { s with heap := h', toks := t' } := by
  have nit : ∀ b u, H b = some u → b ≠ it := fun b u e z => by rw [z, hn] at e; cases e
  refine I.step (g' := s.gens) (d' := s.drawn) (ch := [it]) (fun b hb => ?_) (fun b o _ _ hc e _ => k b o (fun z => hc (by simp [z])) e) (fun b o _ _ hc e _ => ⟨o.slots, k b o (fun z => hc (by simp [z])) e⟩) (fun _ _ _ _ n => n)
    (fun b o hc e => ⟨o, k b o (fun z => hc (by simp [z])) e⟩) (fun _ _ e => e) (fun _ _ _ e => e) (fun b ps e => ⟨#[], by rw [e]; simp⟩) (fun m hm => ?_) (fun b u e => ?_) I.bare
  · have e : b = it := by simpa using hb
    subst e
    exact ⟨h1, hL, h2, h3⟩
  · obtain ⟨o, es, ep, ho, r⟩ := hm
    exact ⟨o, es, ep, k _ o (Ne.symm hL) ho, r⟩
  · refine (I.hok b u e).stay (fun c v hc q => k c v ?_ q) (fun _ q => q) fun _ _ q => q
    rcases hc with z | z
    · rw [z]; exact nit b u e
    · exact nit c _ z
theorem Inv.tok (I : Inv X pins σ H s) (t : Nat) : Inv X pins σ H { s with toks := t } := I.un (h' := s.heap) (t' := t) Un.refl I.hok
/-- all objects kept -/
theorem Inv.kept {t' : Nat} (I : Inv X pins σ H s) (k : ∀ b u, s.heap.get? b = some u → h'.get? b = some u) : Inv X pins σ H { s with heap := h', toks := t' } := I.un (Un.kept k) (I.hok.kept k)
/-- a new object laid and tracked -/
theorem Inv.laid {a : Addr} {o : HO} {t' : Nat} (I : Inv X pins σ H s) (k : ∀ b u, s.heap.get? b = some u → h'.get? b = some u) (hp : s.heap.objs.size ≤ a) (new : ObjOk X.prog X.w (upd H a o) h' a o) :
    Inv X pins σ (upd H a o) { s with heap := h', toks := t' } := I.un (Un.laid k hp (I.hok.fresh hp)) (I.hok.laid k hp new)
/-- an object written -/
theorem Inv.write {x e : Addr} {o : HO} {t' : Nat} (I : Inv X pins σ H s) (mu : Mut (H x)) (he : e = x ∨ H e = some (.own x)) (k : ∀ b u, b ≠ e → s.heap.get? b = some u → h'.get? b = some u) (heo : ∃ u, h'.get? e = some u)
    (new : ObjOk X.prog X.w (upd H x o) h' x o) : Inv X pins σ (upd H x o) { s with heap := h', toks := t' } := I.un (Un.write mu he k heo) (I.hok.write mu he k heo new)
theorem Inv.pins_of {pins' : List (Addr × Obj)} (I : Inv X pins σ H s) (h : ∀ p ∈ pins', s.heap.get? p.1 = some p.2 ∧ H p.1 = none ∧ p.1 ≠ X.env.locals ∧ p.1 ∉ X.fs ∧ ∀ v, p.2.data ≠ .cell v) : Inv X pins' σ H s :=
  ⟨I.ok, I.os, I.bare, I.base, I.loc, I.cell, I.free, I.freeC, fun p hp => (List.mem_append.mp hp).elim (fun z => I.pin p (List.mem_append_left _ z)) (h p), I.hok, I.len⟩

theorem nodup_ix {N : List Str} (hN : N.Nodup) {i j : Nat} {x : Str} (a : N[i]? = some x) (b : N[j]? = some x) : i = j := by
  obtain ⟨h1, e1⟩ := List.getElem?_eq_some_iff.mp a
  obtain ⟨h2, e2⟩ := List.getElem?_eq_some_iff.mp b
  exact (List.getElem_inj hN).mp (e1.trans e2.symm)

/-- a name is stored; what changed -/
theorem store_ok2 {M : Model} {A : Around} {E : Value → Shared → Prop} {i : Nat} {x : Str} {v : V} {u : Value} {Q : Unit → Shared → Prop} (I : Inv X pins σ H s) (hN : X.N.Nodup) (hi : X.N[i]? = some x) (hx : Loc X.env.scope x) (r : RelV v u)
    (h : ∀ s', Inv X pins (σ.set i (some v)) H s' → (∃ a, Heap.SameBut a s.heap s'.heap ∧ (a = X.env.locals ∨ X.env.cells.lookup x = some a)) → Q () s') (hf : X.fn x = true ∨ X.env.scope.names.lookup x = some .local := by first | exact .inl rfl | exact .inr rfl | assumption) : wpAny M A (storeName X.env x u) Q E s := by
  obtain ⟨m, hn, hl⟩ := id I.loc
  have hcls : (X.env.scope.kind == .class || (X.env.scope.kind == .module && X.env.locals != X.env.globals)) = false := by rw [I.ok.kind]; rfl
  have hiσ : i < σ.length := by rw [I.len]; exact (List.getElem?_eq_some_iff.mp hi).1
  have cne := I.cne
  have tracked : ∀ {a : Addr} {h' : Heap}, (∃ o, s.heap.get? a = some o ∧ H a = none) → Heap.SameBut a s.heap h' → HOk X.prog X.w H h' := fun {a h'} ha hs b ob e => by
    obtain ⟨_, _, hfree⟩ := ha
    refine (I.hok b ob e).stay (fun c w' hc q => (hs.2 c ?_).trans q) (fun _ q => q) fun _ _ q => q
    rintro rfl
    rcases hc with rfl | hc
    · rw [hfree] at e; cases e
    · rw [hfree] at hc; cases hc
  rcases hx with hk | hk
  · refine wpAny_storeName_local hk hn (fun h' hn' hs => ?_) hcls
    obtain ⟨oL, _, _, hoL, _⟩ := id hn
    refine h _ ⟨I.ok, I.os, I.bare, ⟨fun b o e n hb hx => ?_, fun b o e n hb hx => ?_, I.base.free, fun b o e hx => ?_, I.base.tups, I.base.frzs, I.base.tbls⟩, ⟨_, hn', fun j y v' e1 e2 e3 => ?_⟩, fun y c e => ?_, I.free, I.freeC, fun p hp => ?_, tracked ⟨oL, hoL, I.free⟩ hs, by simpa using I.len⟩ ⟨_, hs, .inl rfl⟩
    · exact (hs.2 b (Nat.ne_of_lt (Nat.lt_of_lt_of_le (Heap.lt_size e) I.ok.above))).trans (I.base.keep b o e n hb hx)
    · obtain ⟨sl, e1⟩ := I.base.slot b o e n hb hx
      exact ⟨sl, (hs.2 b (Nat.ne_of_lt (Nat.lt_of_lt_of_le (Heap.lt_size e) I.ok.above))).trans e1⟩
    · obtain ⟨o', e1⟩ := I.base.there b o e hx
      exact ⟨o', (hs.2 b (Nat.ne_of_lt (Nat.lt_of_lt_of_le (Heap.lt_size e) I.ok.above))).trans e1⟩
    · by_cases hj : j = i
      · subst hj
        rw [hi] at e1; cases e1
        rw [List.getElem?_set_self hiσ] at e2
        cases e2
        exact ⟨u, r, .inl ⟨hk, by simp⟩⟩
      · rw [List.getElem?_set_ne (Ne.symm hj)] at e2
        obtain ⟨u', r', q⟩ := hl j y v' e1 e2 e3
        refine ⟨u', r', ?_⟩
        rcases q with ⟨k, e⟩ | ⟨k, c, e, z⟩
        · refine .inl ⟨k, ?_⟩
          have : y ≠ x := fun e => hj (nodup_ix hN e1 (e ▸ hi))
          simp [this, e]
        · exact .inr ⟨k, c, e, z.sameBut hs (cne y c e)⟩
    · obtain ⟨w', z⟩ := I.cell y c e
      exact ⟨w', z.sameBut hs (cne y c e)⟩
    · obtain ⟨e, n, ne, nf, d⟩ := I.pin p hp
      exact ⟨(hs.2 p.1 ne).trans e, n, ne, nf, d⟩
  · have hfn : X.fn x = true := by
      rcases hf with z | z
      · exact z
      · rw [z] at hk; cases hk
    obtain ⟨c, hc⟩ := I.ok.has x (.inl hk)
    obtain ⟨w', z⟩ := I.cell x c hc
    refine wpAny_storeName_cell I.ok.kind hk hc z (fun h' hc' hs => ?_)
    obtain ⟨oc, hoc, hocd⟩ := id z
    refine h { s with heap := h' } ⟨I.ok, I.os, I.bare, ⟨fun b o e n hb hx => ?_, fun b o e n hb hx => ?_, I.base.free, fun b o e hx => ?_, I.base.tups, I.base.frzs, I.base.tbls⟩, ⟨m, hn.sameBut hs (Ne.symm (cne x c hc)), fun j y v' e1 e2 e3 => ?_⟩, fun y c' e => ?_, I.free, I.freeC, fun p hp => ?_, tracked ⟨oc, hoc, I.freeC x c hc⟩ hs, by simpa using I.len⟩ ⟨c, hs, .inr hc⟩
    · exact (hs.2 b (Nat.ne_of_lt (Nat.lt_of_lt_of_le (Heap.lt_size e) (I.ok.cab x c hfn hc)))).trans (I.base.keep b o e n hb hx)
    · obtain ⟨sl, e1⟩ := I.base.slot b o e n hb hx
      exact ⟨sl, (hs.2 b (Nat.ne_of_lt (Nat.lt_of_lt_of_le (Heap.lt_size e) (I.ok.cab x c hfn hc)))).trans e1⟩
    · obtain ⟨o', e1⟩ := I.base.there b o e hx
      exact ⟨o', (hs.2 b (Nat.ne_of_lt (Nat.lt_of_lt_of_le (Heap.lt_size e) (I.ok.cab x c hfn hc)))).trans e1⟩
    · by_cases hj : j = i
      · subst hj
        rw [hi] at e1; cases e1
        rw [List.getElem?_set_self hiσ] at e2
        cases e2
        exact ⟨u, r, .inr ⟨.inl hk, c, hc, hc'⟩⟩
      · rw [List.getElem?_set_ne (Ne.symm hj)] at e2
        obtain ⟨u', r', q⟩ := hl j y v' e1 e2 e3
        refine ⟨u', r', ?_⟩
        rcases q with q | ⟨k, c', e, z'⟩
        · exact .inl q
        · refine .inr ⟨k, c', e, z'.sameBut hs ?_⟩
          rintro rfl
          exact hj (nodup_ix hN e1 (I.ok.inj _ _ _ e hc ▸ hi))
    · by_cases hcc : c' = c
      · subst hcc; exact ⟨_, hc'⟩
      · obtain ⟨w2, z2⟩ := I.cell y c' e
        exact ⟨w2, z2.sameBut hs hcc⟩
    · obtain ⟨e, n, ne, nf, d⟩ := I.pin p hp
      refine ⟨(hs.2 p.1 ?_).trans e, n, ne, nf, d⟩
      intro q
      rw [q, hoc] at e
      have q' : oc = p.2 := Option.some.inj e
      exact d w' (by rw [← q']; exact hocd)
theorem store_ok {M : Model} {A : Around} {E : Value → Shared → Prop} {i : Nat} {x : Str} {v : V} {u : Value} {Q : Unit → Shared → Prop} (I : Inv X pins σ H s) (hN : X.N.Nodup) (hi : X.N[i]? = some x) (hx : Loc X.env.scope x) (r : RelV v u)
    (h : ∀ s', Inv X pins (σ.set i (some v)) H s' → Q () s') (hf : X.fn x = true ∨ X.env.scope.names.lookup x = some .local := by first | exact .inl rfl | exact .inr rfl | assumption) : wpAny M A (storeName X.env x u) Q E s :=
  store_ok2 I hN hi hx r (fun s' I' _ => h s' I') hf
/-- behind a call or a block, the state as it is -/
theorem Inv.call' {s' : Shared} {ch : List Addr} (I : Inv X pins σ H s) (ho : s'.os = s.os) (u : Un (frs X.stack) ch H H' s.heap s'.heap) (hok : HOk X.prog X.w H' s'.heap) (hg : AllBare s'.gens)
    (hch : ∀ b ∈ ch, (b ∈ X.ex ∨ X.s₀.heap.objs.size ≤ b) ∧ b ≠ X.env.locals ∧ (∀ x c, X.env.cells.lookup x = some c → c ≠ b) ∧ ∀ p ∈ X.pn ++ pins, p.1 ≠ b) : Inv X pins σ H' s' := by
  obtain ⟨h', g', d', t', o'⟩ := s'
  have e : o' = s.os := ho
  subst e
  exact I.call (g' := g') (t' := t') (d' := d') u hok hg hch
end

/-! ### the judgements -/
/-- an exception: its class, its own dict's address (where it has one), the abstract heap behind it -/
abbrev XK := Value → Option Addr → Hp → Prop
abbrev St := List (Option V)
abbrev VK := V → Hp → Prop
/-- an expression's reading; a test's; an argument list's -/
abbrev TE := St → Hp → VK → Prop
abbrev TT := St → Hp → (Bool → Hp → Prop) → Prop
abbrev TA := St → Hp → (List V → Hp → Prop) → Prop
/-- what is wanted behind a statement -/
structure Ends where
  nx : St → Hp → Prop
  rt : VK
  bk : St → Hp → Prop := fun _ _ => False
  ct : St → Hp → Prop := fun _ _ => False
abbrev TS := Ends → St → Hp → Prop

def EP (X : Cx) (pins : List (Addr × Obj)) (σ : St) (Q : VK) (u : Value) (s' : Shared) : Prop := ∃ v H', Inv X pins σ H' s' ∧ RelV v u ∧ Q v H'
def TP (X : Cx) (pins : List (Addr × Obj)) (σ : St) (Q : Bool → Hp → Prop) (b : Bool) (s' : Shared) : Prop := ∃ H', Inv X pins σ H' s' ∧ Q b H'
def AP (X : Cx) (pins : List (Addr × Obj)) (σ : St) (Q : List V → Hp → Prop) (us : List Value) (s' : Shared) : Prop := ∃ vs H', Inv X pins σ H' s' ∧ Vals vs us ∧ Q vs H'
def SP (X : Cx) (pins : List (Addr × Obj)) (D : Ends) (f : Flow) (s' : Shared) : Prop :=
  match f with
  | .next => ∃ σ' H', Inv X pins σ' H' s' ∧ D.nx σ' H'
  | .brk => ∃ σ' H', Inv X pins σ' H' s' ∧ D.bk σ' H'
  | .cont => ∃ σ' H', Inv X pins σ' H' s' ∧ D.ct σ' H'
  | .ret u => ∃ v σ' H', Inv X pins σ' H' s' ∧ RelV v u ∧ D.rt v H'

def PE (X : Cx) (e : Expr) (t : TE) : Prop :=
  ∀ (pins : List (Addr × Obj)) (s : Shared) (σ : St) (H : Hp) (Q : VK), Inv X pins σ H s → t σ H Q → wpAny (model X.prog X.w) X.A (eval e X.env) (EP X pins σ Q) X.xe s
def PT (X : Cx) (e : Expr) (t : TT) : Prop :=
  ∀ (pins : List (Addr × Obj)) (s : Shared) (σ : St) (H : Hp) (Q : Bool → Hp → Prop), Inv X pins σ H s → t σ H Q → wpAny (model X.prog X.w) X.A (isTrue e X.env (eval e X.env)) (TP X pins σ Q) X.xe s
/-- a test whatever its 'whole' is (and, or) -/
def PW (X : Cx) (e : Expr) (t : TT) : Prop :=
  ∀ (whole : Sem Value) (pins : List (Addr × Obj)) (s : Shared) (σ : St) (H : Hp) (Q : Bool → Hp → Prop), Inv X pins σ H s → t σ H Q → wpAny (model X.prog X.w) X.A (isTrue e X.env whole) (TP X pins σ Q) X.xe s
theorem PW.pt {X : Cx} {e : Expr} {t : TT} (h : PW X e t) : PT X e t := h _
/-- an argument list (no star), from the left -/
def PA (X : Cx) (es : List Expr) (t : TA) : Prop :=
  ∀ (pos : Pos) (pins : List (Addr × Obj)) (s : Shared) (σ : St) (H : Hp) (Q : List V → Hp → Prop), Inv X pins σ H s → t σ H Q → wpAny (model X.prog X.w) X.A (spliced (backTo pos (starEach es X.env))) (AP X pins σ Q) X.xe s
def PS (X : Cx) (st : Stmt) (t : TS) : Prop :=
  ∀ (pins : List (Addr × Obj)) (s : Shared) (σ : St) (H : Hp) (D : Ends), Inv X pins σ H s → t D σ H → wpAny (model X.prog X.w) X.A (exec st X.env) (SP X pins D) X.xe s
def PSs (X : Cx) (st : List Stmt) (t : TS) : Prop :=
  ∀ (pins : List (Addr × Obj)) (s : Shared) (σ : St) (H : Hp) (D : Ends), Inv X pins σ H s → t D σ H → wpAny (model X.prog X.w) X.A (execs st X.env) (SP X pins D) X.xe s
/-- weaken the end -/
theorem thn {α : Type} {t : Sem α} {Q Q' : α → Shared → Prop} {M : Model} {A : Around} {E : Value → Shared → Prop} {s : Shared} (h : wpAny M A t Q E s) (hQ : ∀ a s, Q a s → Q' a s) : wpAny M A t Q' E s := wpAny_mono h hQ fun _ _ x => x
end L2

namespace L2
open PySem PySem.Spec PyProof.Rows
section
variable {X : Cx}


/-! ### names and constants -/
def tVar (i : Nat) : TE := fun σ H Q => ∃ v, σ[i]? = some (some v) ∧ Q v H
def tC (v : V) : TE := fun _ H Q => Q v H
theorem pe_var {i : Nat} {x : Str} {pos : Pos} (hN : X.N[i]? = some x) (hv : Vis X.env.scope x) (hd : (x == ("__debug__" : Str)) = false := by decide) (hcd : (x == ("__classdict__" : Str)) = false := by decide) : PE X (.Name x pos) (tVar i) := by
  intro pins s σ H Q I h
  obtain ⟨v, e, h⟩ := h
  obtain ⟨m, hn, hl⟩ := I.loc
  obtain ⟨u, r, l⟩ := hl i x v hN e hv
  have fin : EP X pins σ Q u s := ⟨v, H, I, r, h⟩
  rcases l with ⟨hk, hm⟩ | ⟨hk, c, hc, hcell⟩
  · exact wpAny_Name (wpAny_loadName_local I.ok.kind hk hn hm fin) hd
  · rcases hk with hk | hk
    · exact wpAny_Name (wpAny_loadName_cell I.ok.kind hk hc hcell fin) hd
    · exact wpAny_Name (wpAny_loadName_free I.ok.kind hk hc hcell fin hcd) hd
theorem pe_int {i j pos} : PE X (.Constant (.int i) j pos) (tC (.int i)) := fun _ _ _ H _ I h => wpAny_Constant_int ⟨.int i, H, I.tok _, ⟨_, rfl⟩, h⟩
theorem pe_bl {b j pos} : PE X (.Constant (.bool b) j pos) (tC (.bl b)) := fun _ _ _ H _ I h => Constant_bool ⟨.bl b, H, I, rfl, h⟩
theorem pe_non {j pos} : PE X (.Constant .none j pos) (tC .non) := fun _ _ _ H _ I h => Constant_none ⟨.non, H, I, rfl, h⟩
theorem pe_str {x j pos} : PE X (.Constant (.str x) j pos) (tC (.str x)) := fun _ _ _ H _ I h => Calls.Constant_str ⟨.str x, H, I.tok _, ⟨_, rfl⟩, h⟩

/-- a global name of the def -/
def Gl (X : Cx) (x : Str) : Prop := X.env.kindOf x = some .globalImplicit
theorem ld_glob {E : Value → Shared → Prop} {pins : List (Addr × Obj)} {s : Shared} {σ : St} {H : Hp} {x : Str} {u : Value} {pos : Pos} {Q : Value → Shared → Prop} (I : Inv X pins σ H s) (hg : Gl X x) (hm : X.mg x = some u) (h : Q u s)
    (hd : (x == ("__debug__" : Str)) = false := by decide) : wpAny (model X.prog X.w) X.A (eval (.Name x pos) X.env) Q E s :=
  Calls.Name_function_global I.ok.kind hg (Calls.loadGlobal_global (by rw [I.ok.glob]; exact I.mod.glob.keeps I.bk) hm h) hd
theorem ld_blt {E : Value → Shared → Prop} {pins : List (Addr × Obj)} {s : Shared} {σ : St} {H : Hp} {x : Str} {u : Value} {pos : Pos} {Q : Value → Shared → Prop} (I : Inv X pins σ H s) (hg : Gl X x) (hm : X.mg x = none) (hv : bootBuiltins x = some u) (h : Q u s)
    (hn : x ≠ "__name__" := by decide) (hd : (x == ("__debug__" : Str)) = false := by decide) : wpAny (model X.prog X.w) X.A (eval (.Name x pos) X.env) Q E s := by
  obtain ⟨mb, h1, h2⟩ := I.mod.blt
  exact Calls.Name_function_global I.ok.kind hg (Calls.loadGlobal_builtin (by rw [I.ok.glob]; exact I.mod.glob.keeps I.bk) hm (by rw [I.ok.blt]; exact h1.keeps I.bk) ((h2 x hn).trans hv) h) hd
/-- a module's constant, a class, a function, as a value -/
theorem pe_glob {x : Str} {v : V} {u : Value} {pos : Pos} (hg : Gl X x) (hm : X.mg x = some u) (r : RelV v u) (hd : (x == ("__debug__" : Str)) = false := by decide) : PE X (.Name x pos) (tC v) :=
  fun _ _ _ H _ I h => ld_glob I hg hm ⟨v, H, I, r, h⟩ hd
theorem pe_bltn {x : Str} {v : V} {u : Value} {pos : Pos} (hg : Gl X x) (hm : X.mg x = none) (hv : bootBuiltins x = some u) (r : RelV v u) (hn : x ≠ "__name__" := by decide) (hd : (x == ("__debug__" : Str)) = false := by decide) : PE X (.Name x pos) (tC v) :=
  fun _ _ _ H _ I h => ld_blt I hg hm hv ⟨v, H, I, r, h⟩ hn hd

/-! ### arithmetic -/
variable {a b : Expr} {ta tb : TE} {pos : Pos}

/-! ### comparisons -/

/-! ### and, or, not -/
variable {tA tB' : TT} {rest : List Expr}
def tOr (t u : TT) : TT := fun σ H Q => t σ H fun c H1 => if c = true then Q true H1 else u σ H1 Q
def tNot (t : TT) : TT := fun σ H Q => t σ H fun c H1 => Q (!c) H1
theorem pw_or1 (ha : PT X a tA) : PW X (.BoolOp .Or [a] pos) tA := by
  intro wh pins s σ H Q I h
  refine isTrue_or (thn (ha pins s σ H Q I h) fun c s1 e => ?_)
  cases c with
  | false => exact isTrue_or_nil e
  | true => exact e
theorem pw_or (ha : PT X a tA) (hb : PW X (.BoolOp .Or (b :: rest) pos) tB') : PW X (.BoolOp .Or (a :: b :: rest) pos) (tOr tA tB') := by
  intro wh pins s σ H Q I h
  refine isTrue_or (thn (ha pins s σ H _ I h) fun c s1 ⟨H1, I1, q1⟩ => ?_)
  cases c with
  | true => exact ⟨H1, I1, q1⟩
  | false => exact hb wh pins s1 σ H1 Q I1 q1
theorem pt_not (ha : PT X a tA) : PT X (.UnaryOp .Not a pos) (tNot tA) := by
  intro pins s σ H Q I h
  exact isTrue_not (ha pins s σ H (fun c H1 => Q (!c) H1) I h)
/-- .. as values (bools) -/
def tAndV (ta tb : TE) : TE := fun σ H Q => ta σ H fun x H1 => ∃ c, x = .bl c ∧ if c = true then tb σ H1 Q else Q (.bl false) H1
def tNotV (ta : TE) : TE := fun σ H Q => ta σ H fun x H1 => ∃ c, x = .bl c ∧ Q (.bl (!c)) H1
theorem pe_one {op} {t : TE} (h : PE X a t) : PE X (.BoolOp op [a] pos) t := fun pins s σ H Q I hw => BoolOp_one (h pins s σ H Q I hw)
theorem pe_and (ha : PE X a ta) (hb : PE X (.BoolOp .And (b :: rest) pos) tb) : PE X (.BoolOp .And (a :: b :: rest) pos) (tAndV ta tb) := by
  intro pins s σ H Q I h
  refine BoolOp_and (thn (ha pins s σ H _ I h) fun v s1 ⟨x, H1, I1, r1, q1⟩ => ?_)
  obtain ⟨c, rfl, q1⟩ := q1
  cases r1
  refine wpAny_truthy_bool ?_
  cases c with
  | true => exact hb pins s1 σ H1 Q I1 q1
  | false => exact ⟨.bl false, H1, I1, rfl, q1⟩
theorem pe_not (ha : PE X a ta) : PE X (.UnaryOp .Not a pos) (tNotV ta) := by
  intro pins s σ H Q I h
  refine UnaryOp_ (thn (ha pins s σ H _ I h) fun v s1 ⟨x, H1, I1, r1, q1⟩ => ?_)
  obtain ⟨c, rfl, q1⟩ := q1
  cases r1
  exact not_of (wpAny_truthy_bool ⟨.bl (!c), H1, I1, rfl, q1⟩)
/-- a if t else b -/
def tIf (t : TT) (ta tb : TE) : TE := fun σ H Q => t σ H fun c H1 => if c = true then ta σ H1 Q else tb σ H1 Q
theorem pe_ifExp {c : Expr} (hc : PT X c tA) (ha : PE X a ta) (hb : PE X b tb) : PE X (.IfExp c a b pos) (tIf tA ta tb) := by
  intro pins s σ H Q I h
  refine wpAny_IfExp (thn (hc pins s σ H _ I h) fun d s1 ⟨H1, I1, q1⟩ => ?_)
  cases d with
  | true => exact ha pins s1 σ H1 Q I1 q1
  | false => exact hb pins s1 σ H1 Q I1 q1
end
end L2

namespace L2
open PySem PySem.Spec PyProof.Rows

/-! ### a list, a tuple that is read: tracked, frozen, or an object of the module -/
def SqL (K : PySem.W.Frag) (H : Hp) (a : Addr) (xs : List V) : Prop :=
  Rd H a (.lst xs) ∨
    ∃ (o : Obj) (its : Array Value) (n : Nat), K.lookup a = some o ∧ o.cls = .type "list" ∧ o.dict = none ∧ o.data = .seq its n ∧ its.size ≤ sizeLine ∧ Vals xs its.toList
def SqT (K : PySem.W.Frag) (H : Hp) (a : Addr) (xs : List V) : Prop :=
  Rd H a (.tup xs) ∨
    ∃ (o : Obj) (its : Array Value) (n : Nat), K.lookup a = some o ∧ o.cls = .type "tuple" ∧ o.data = .seq its n ∧ its.size ≤ sizeLine ∧ Vals xs its.toList
def absV : Value → Option V
  | .none => some .non
  | .bool b => some (.bl b)
  | .int i _ => some (.int i)
  | .str x _ => some (.str x)
  | .bytes b _ => some (.byt b)
  | .float b _ => some (.flt b)
  | .ref a => some (.ref a)
  | .type n => some (.ty n)
  | _ => none
theorem RelV.abs {x : V} {u : Value} (r : RelV x u) : absV u = some x := by
  cases x with
  | non => cases r; rfl
  | bl _ => cases r; rfl
  | int _ => obtain ⟨t, rfl⟩ := r; rfl
  | str _ => obtain ⟨t, rfl⟩ := r; rfl
  | byt _ => obtain ⟨t, rfl⟩ := r; rfl
  | flt _ => obtain ⟨t, rfl⟩ := r; rfl
  | ref _ => cases r; rfl
  | ty _ => cases r; rfl
theorem RelV.inj {x y : V} {u : Value} (r : RelV x u) (q : RelV y u) : x = y := Option.some.inj (r.abs.symm.trans q.abs)
theorem Vals.inj : ∀ {xs ys : List V} {us : List Value}, Vals xs us → Vals ys us → xs = ys
  | _, _, _, .nil, .nil => rfl
  | _, _, _, .cons r t, .cons r' t' => by rw [r.inj r', Vals.inj t t']
section
variable {X : Cx} {pins : List (Addr × Obj)} {σ : St} {H : Hp} {s : Shared} {a : Addr} {xs ys : List V}
theorem SqL.of {K : PySem.W.Frag} (h : H a = some (.lst xs)) : SqL K H a xs := .inl (.inl h)
theorem SqT.of {K : PySem.W.Frag} (h : H a = some (.tup xs)) : SqT K H a xs := .inl (.inl h)
theorem Inv.list (I : Inv X pins σ H s) (h : SqL X.K H a xs) : ∃ its : List Value, Vals xs its ∧ PlainL s.heap a its.toArray ∧ xs.length ≤ sizeLine := by
  rcases h with h | ⟨o, its, n, hk, hc, hd, hs, hz, r⟩
  · obtain ⟨z, its, n, r, e⟩ := h.ok I.hok
    exact ⟨its, r, ⟨_, n, e, rfl, rfl, rfl⟩, z⟩
  · refine ⟨its.toList, r, ⟨o, n, I.kIn a o hk, hc, hd, by simpa using hs⟩, ?_⟩
    have e := r.length
    simp only [Array.length_toList] at e
    omega
theorem Inv.tuple (I : Inv X pins σ H s) (h : SqT X.K H a xs) : ∃ its : List Value, Vals xs its ∧ IsTup s.heap a its.toArray ∧ xs.length ≤ sizeLine := by
  rcases h with h | ⟨o, its, n, hk, hc, hs, hz, r⟩
  · obtain ⟨z, its, r, p⟩ := h.ok I.hok
    exact ⟨its, r, p, z⟩
  · refine ⟨its.toList, r, ⟨o, I.kIn a o hk, hc, n, by simpa using hs⟩, ?_⟩
    have e := r.length
    simp only [Array.length_toList] at e
    omega
theorem Inv.list_inj (I : Inv X pins σ H s) (h : SqL X.K H a xs) (h' : SqL X.K H a ys) : xs = ys := by
  obtain ⟨its, r, ⟨o, n, e, _, _, d⟩, _⟩ := I.list h
  obtain ⟨its', r', ⟨o', n', e', _, _, d'⟩, _⟩ := I.list h'
  rw [e] at e'; cases e'
  rw [d] at d'
  injection d' with d1 _
  have : its = its' := by simpa using congrArg Array.toList d1
  subst this
  exact r.inj r'
end

/-! ### another wish about exceptions -/
abbrev Cx.wish (X : Cx) (E : Value → Shared → Prop) : Cx := { X with xe := E }
/-- no exception leaves -/
abbrev Cx.nox (X : Cx) : Cx := X.wish fun _ _ => False
theorem Cx.Ok.wish {X : Cx} (ok : X.Ok) (E : Value → Shared → Prop) : (X.wish E).Ok :=
  ⟨ok.mod, ok.kind, ok.glob, ok.blt, ok.above, ok.inj, ok.has, ok.cab, ok.hd, ok.frames, ok.stk, ok.exf, ok.bs, ok.bsz, ok.noex, ok.exfs, ok.funs, ok.frf⟩
theorem Cx.Ok.unwish {X : Cx} {E : Value → Shared → Prop} (ok : (X.wish E).Ok) : X.Ok :=
  ⟨ok.mod, ok.kind, ok.glob, ok.blt, ok.above, ok.inj, ok.has, ok.cab, ok.hd, ok.frames, ok.stk, ok.exf, ok.bs, ok.bsz, ok.noex, ok.exfs, ok.funs, ok.frf⟩
section
variable {X : Cx} {pins : List (Addr × Obj)} {σ : St} {H : Hp} {s : Shared} {E : Value → Shared → Prop}
theorem Inv.wish (I : Inv X pins σ H s) (E : Value → Shared → Prop) : Inv (X.wish E) pins σ H s := ⟨I.ok.wish E, I.os, I.bare, I.base, I.loc, I.cell, I.free, I.freeC, I.pin, I.hok, I.len⟩
theorem Inv.unwish (I : Inv (X.wish E) pins σ H s) : Inv X pins σ H s := ⟨I.ok.unwish, I.os, I.bare, I.base, I.loc, I.cell, I.free, I.freeC, I.pin, I.hok, I.len⟩
theorem SP.unwish {D : Ends} {f : Flow} {s' : Shared} (h : SP (X.wish E) pins D f s') : SP X pins D f s' := by
  cases f with
  | next => obtain ⟨σ', H', I, q⟩ := h; exact ⟨σ', H', I.unwish, q⟩
  | brk => obtain ⟨σ', H', I, q⟩ := h; exact ⟨σ', H', I.unwish, q⟩
  | cont => obtain ⟨σ', H', I, q⟩ := h; exact ⟨σ', H', I.unwish, q⟩
  | ret u => obtain ⟨v, σ', H', I, r, q⟩ := h; exact ⟨v, σ', H', I.unwish, r, q⟩
theorem PSs.nox {st : List Stmt} {t : TS} (h : PSs X.nox st t) : PSs X st t := fun pins s σ H D I hw =>
  wpAny_mono (h pins s σ H D (I.wish _) hw) (fun _ _ q => q.unwish) fun _ _ z => False.elim z
end

/-! ### blocks and small statements -/
section
variable {X : Cx} {st : Stmt} {rest : List Stmt} {t u : TS} {e : Expr} {te : TE} {pos : Pos}
def tNext : TS := fun D σ H => D.nx σ H
def tSeq (t u : TS) : TS := fun D σ H => t { D with nx := u D } σ H
theorem pss_nil : PSs X [] tNext := fun _ _ σ H _ I h => wpAny_execs_nil ⟨σ, H, I, h⟩
theorem pss_cons (h1 : PS X st t) (h2 : PSs X rest u) : PSs X (st :: rest) (tSeq t u) := by
  intro pins s σ H D I h
  refine wpAny_execs_cons (thn (h1 pins s σ H { D with nx := u D } I h) fun f s1 q => ?_)
  cases f with
  | next =>
    obtain ⟨σ', H', I', q⟩ := q
    exact h2 pins s1 σ' H' D I' q
  | ret v => exact q
  | brk => exact q
  | cont => exact q
theorem pss_one (h1 : PS X st t) : PSs X [st] t := by
  intro pins s σ H D I h
  refine wpAny_execs_cons (thn (h1 pins s σ H D I h) fun f s1 q => ?_)
  cases f with
  | next => exact wpAny_execs_nil q
  | ret v => exact q
  | brk => exact q
  | cont => exact q
/-- in a def's body nothing is shown -/
theorem Inv.quiet {pins : List (Addr × Obj)} {σ : St} {H : Hp} {s : Shared} (I : Inv X pins σ H s) : interactive X.env = false := by simp [interactive, I.ok.kind]
/-- an expression whose value is dropped -/
def tDrop (te : TE) : TS := fun D σ H => te σ H fun _ H1 => D.nx σ H1
theorem ps_expr (he : PE X e te) (hs : swapsWith e none pos.line X.env = pure false := by rfl) : PS X (.Expr e pos) (tDrop te) := by
  intro pins s σ H D I h
  exact wpAny_Expr_any (thn (he pins s σ H _ I h) fun v s1 ⟨x, H1, I1, r1, q1⟩ => ⟨σ, H1, I1, q1⟩) I.quiet hs
def tRet (te : TE) : TS := fun D σ H => te σ H D.rt
theorem ps_ret (he : PE X e te) : PS X (.Return (some e) pos) (tRet te) := by
  intro pins s σ H D I h
  exact wpAny_Return_some (thn (he pins s σ H _ I h) fun v s1 ⟨x, H1, I1, r1, q1⟩ => ⟨x, σ, H1, I1, r1, q1⟩)
def tIfS (c : TT) (t u : TS) : TS := fun D σ H => c σ H fun b H1 => if b = true then t D σ H1 else u D σ H1
theorem ps_if {c : Expr} {a b : List Stmt} {tc : TT} (hc : PT X c tc) (ha : PSs X a t) (hb : PSs X b u) : PS X (.If c a b pos) (tIfS tc t u) := by
  intro pins s σ H D I h
  refine wpAny_If (thn (hc pins s σ H _ I h) fun d s1 ⟨H1, I1, q1⟩ => ?_)
  cases d with
  | true => exact ha pins s1 σ H1 D I1 q1
  | false => exact hb pins s1 σ H1 D I1 q1
end

/-! ### targets -/
abbrev TG := V → St → Hp → (St → Hp → Prop) → Prop
def PG (X : Cx) (target : Expr) (t : TG) : Prop :=
  ∀ (pins : List (Addr × Obj)) (s : Shared) (σ : St) (H : Hp) (v : V) (u : Value) (Q : St → Hp → Prop), Inv X pins σ H s → RelV v u → t v σ H Q →
    wpAny (model X.prog X.w) X.A (assign target X.env u) (fun _ s' => ∃ σ' H', Inv X pins σ' H' s' ∧ Q σ' H') X.xe s
/-- o[i] = v, by values -/
abbrev TSet := V → V → V → Hp → (Hp → Prop) → Prop
def PSet (X : Cx) (t : TSet) : Prop :=
  ∀ (pins : List (Addr × Obj)) (s : Shared) (σ : St) (H : Hp) (o i v : V) (ov iv u : Value) (Q : Hp → Prop), Inv X pins σ H s → RelV o ov → RelV i iv → RelV v u → t o i v H Q →
    wpAny (model X.prog X.w) X.A (setItem ov iv u) (fun _ s' => ∃ H', Inv X pins σ H' s' ∧ Q H') X.xe s
section
variable {X : Cx} {pos : Pos}
def gName (i : Nat) : TG := fun v σ H Q => Q (σ.set i (some v)) H
theorem pg_name {i : Nat} {x : Str} (hN : X.N.Nodup) (hi : X.N[i]? = some x) (hx : Loc X.env.scope x) (hf : X.fn x = true ∨ X.env.scope.names.lookup x = some .local := by first | exact .inl rfl | exact .inr rfl | assumption) : PG X (.Name x pos) (gName i) := by
  intro pins s σ H v u Q I r h
  exact wpAny_assign_Name (store_ok I hN hi hx r (fun s' I' => ⟨_, H, I', h⟩) hf)
/-- o[i] = .. -/
def gSub (to ti : TE) (t : TSet) : TG := fun v σ H Q => to σ H fun o H1 => ti σ H1 fun i H2 => t o i v H2 fun H3 => Q σ H3
theorem pg_sub {o i : Expr} {to ti : TE} {t : TSet} (ho : PE X o to) (hi : PE X i ti) (hs : PSet X t)
    (ha : ∀ v, assign (.Subscript o i pos) X.env v = (do
      let ov ← holding [v] (eval o X.env)
      let iv ← holding [v, ov] (eval i X.env)
      standAt pos
      holding [v, ov, iv] (setItem ov iv v)
      release [v, ov, iv] []) := by intro _; rfl) : PG X (.Subscript o i pos) (gSub to ti t) := by
  intro pins s σ H v u Q I r h
  rw [ha]
  refine wpAny_bind (wpAny_holding (thn (ho pins s σ H _ I h) fun ov s1 ⟨x, H1, I1, r1, q1⟩ => ?_))
  refine wpAny_bind (wpAny_holding (thn (hi pins s1 σ H1 _ I1 q1) fun iv s2 ⟨y, H2, I2, r2, q2⟩ => ?_))
  refine wpAny_bind (wpAny_standAt (wpAny_bind (wpAny_holding (thn (hs pins s2 σ H2 x y v ov iv u _ I2 r1 r2 r q2) fun _ s3 ⟨H3, I3, q3⟩ => ?_))))
  exact wpAny_release ⟨σ, H3, I3, q3⟩
/-- target = value -/
def tAsg (te : TE) (g : TG) : TS := fun D σ H => te σ H fun x H1 => g x σ H1 D.nx
theorem ps_asg {tg e : Expr} {te : TE} {g : TG} (he : PE X e te) (hg : PG X tg g) (hs : swapsWithSole [tg] e pos.line X.env = pure false := by rfl) (hw : swappedStores [tg] e X.env = pure none := by rfl)
    (h1 : (assignEach [tg] X.env).map (·.2) = [assign tg X.env] := by rfl) : PS X (.Assign [tg] e pos) (tAsg te g) := by
  intro pins s σ H D I h
  refine wpAny_Assign_stores (thn (he pins s σ H _ I h) fun v s1 ⟨x, H1, I1, r1, q1⟩ => ?_) hs hw
  rw [h1]
  exact thn (hg pins s1 σ H1 x v _ I1 r1 q1) fun _ s2 q => q
/-- name = value -/
theorem ps_set {i : Nat} {x : Str} {e : Expr} {te : TE} {pos' : Pos} (hN : X.N.Nodup) (hi : X.N[i]? = some x) (hx : Loc X.env.scope x) (he : PE X e te) (hs : swapsWith e (some (.Name x pos')) pos.line X.env = pure false := by rfl) (hf : X.fn x = true ∨ X.env.scope.names.lookup x = some .local := by first | exact .inl rfl | exact .inr rfl | assumption) :
    PS X (.Assign [.Name x pos'] e pos) (tAsg te (gName i)) := by
  intro pins s σ H D I h
  refine wpAny_Assign_Name (thn (he pins s σ H _ I h) fun v s1 ⟨y, H1, I1, r1, q1⟩ => ?_) hs
  exact store_ok I1 hN hi hx r1 (fun s2 I2 => ⟨_, H1, I2, q1⟩) hf
end

/-! ### while -/
section
variable {X : Cx} {pos : Pos}
end

/-! ### what a loop or a comprehension walks -/
/-- at turn i: it yields x (the heap may grow), or it stops -/
structure It where
  go : Nat → Hp → Prop
  yld : Nat → Hp → V → Hp → Prop
  stop : Nat → Hp → Prop
/-- the iterator's own objects may turn: they are not the frame's, not pinned, younger than the entry (or a comprehension's own) -/
def FpOk (X : Cx) (pins : List (Addr × Obj)) (H : Hp) (b : Addr) : Prop :=
  H b = none ∧ b ≠ X.env.locals ∧ b ∉ X.fs ∧ (b ∈ X.ex ∨ X.s₀.heap.objs.size ≤ b) ∧ (∀ x c, X.env.cells.lookup x = some c → c ≠ b) ∧ ∀ p ∈ X.pn ++ pins, p.1 ≠ b
theorem Inv.fpOk {X : Cx} {pins : List (Addr × Obj)} {σ : St} {H H' : Hp} {s : Shared} {b : Addr} (I : Inv X pins σ H s) (hb : s.heap.objs.size ≤ b) (hn : H' b = none) : FpOk X pins H' b := by
  refine ⟨hn, Nat.ne_of_gt (Nat.lt_of_lt_of_le I.lt hb), I.nofs hb, .inr (Nat.le_trans I.sz hb), fun x c e z => ?_, fun p hp z => ?_⟩
  · obtain ⟨v, q⟩ := I.cell x c e
    exact absurd (Nat.lt_of_lt_of_le q.lt (by rw [z]; exact hb)) (Nat.lt_irrefl _)
  · exact absurd (Nat.lt_of_lt_of_le (Heap.lt_size (I.pin p hp).1) (by rw [z]; exact hb)) (Nat.lt_irrefl _)
structure Turn (P : Program) (w : World) (K : PySem.W.Frag) (tg : Expr) (J : It) (fp : List Addr) (it : Addr) (tn : Nat → Heap → Prop) : Prop where
  mem : it ∈ fp
  obj : ∀ i h, tn i h → ∀ b ∈ fp, ∃ o, h.get? b = some o ∧ ∀ v, o.data ≠ .cell v
  keep : ∀ i h h', tn i h → (∀ b ∈ fp, ∀ o, h.get? b = some o → h'.get? b = some o) → tn i h'
  item : ∀ (X : Cx), X.prog = P → X.w = w → X.K = K → X.calm = true → ∀ (i : Nat) (pins : List (Addr × Obj)) (s : Shared) (σ : St) (H : Hp) (E : Value → Shared → Prop), Inv X pins σ H s → (∀ b ∈ fp, FpOk X pins H b) → tn i s.heap → J.go i H →
    wpAny (model P w) X.A (pyNext (.ref it)) (fun r s1 => ∃ u, r = some u ∧
      wpAny (model P w) X.A (letOwnedTupleGo tg (.ref it) u) (fun _ s2 => ∃ x H', Inv X pins σ H' s2 ∧ RelV x u ∧ J.yld i H x H' ∧ tn (i + 1) s2.heap ∧ ∀ b ∈ fp, H' b = none) E s1) E s
  done : ∀ (X : Cx), X.prog = P → X.w = w → X.K = K → X.calm = true → ∀ (i : Nat) (pins : List (Addr × Obj)) (s : Shared) (σ : St) (H : Hp) (E : Value → Shared → Prop), Inv X pins σ H s → (∀ b ∈ fp, FpOk X pins H b) → tn i s.heap → J.stop i H →
    wpAny (model P w) X.A (pyNext (.ref it)) (fun r s1 => r = none ∧ Inv X pins σ H s1) E s
  self : ∀ (A : Around) (i : Nat) (s : Shared) (Q : Value → Shared → Prop) (E : Value → Shared → Prop), tn i s.heap → Q (.ref it) s → wpAny (model P w) A (pyIter (.ref it)) Q E s
abbrev TI := St → Hp → (It → Hp → Prop) → Prop
/-- an iterator has come -/
def PIE (X : Cx) (pins : List (Addr × Obj)) (σ : St) (tg : Expr) (R : It → Hp → Prop) (itv : Value) (s2 : Shared) : Prop :=
  ∃ (it : Addr) (fp : List Addr) (tn : Nat → Heap → Prop) (J : It) (H' : Hp), itv = .ref it ∧ Inv X pins σ H' s2 ∧ Turn X.prog X.w X.K tg J fp it tn ∧ tn 0 s2.heap ∧ (∀ b ∈ fp, FpOk X pins H' b) ∧ R J H'
def PI (X : Cx) (tg iter : Expr) (wi : TI) : Prop :=
  ∀ (pins : List (Addr × Obj)) (s : Shared) (σ : St) (H : Hp) (R : It → Hp → Prop), Inv X pins σ H s → wi σ H R →
    wpAny (model X.prog X.w) X.A (eval iter X.env) (fun v s1 => wpAny (model X.prog X.w) X.A (pyIter v) (PIE X pins σ tg R) X.xe s1) X.xe s

/-- the step ahead of the store is nothing for an iterator that keeps no tuple -/
theorem go_of {M : Model} {A : Around} {E : Value → Shared → Prop} {s : Shared} {tg : Expr} {it : Addr} {u : Value} {o : Obj} {n : String} {vs : Array Value} {Q : Unit → Shared → Prop} (ho : s.heap.get? it = some o) (hc : o.cls = .type n) (hd : o.data = .fields vs)
    (hn : ["enumerate", "zip", "dict_itemiterator", "dict_reverseitemiterator", "odict_iterator", "itertools.zip_longest", "itertools.pairwise"].contains n = false) (hQ : Q () s) : wpAny M A (letOwnedTupleGo tg (.ref it) u) Q E s := by
  unfold letOwnedTupleGo
  cases tg <;> first
    | exact wpAny_pure hQ
    | (cases u <;> first
        | exact wpAny_pure hQ
        | (refine wpAny_bind (wpAny_load ho ?_)
           rw [hc, hd]
           show wpAny M A (if (["enumerate", "zip", "dict_itemiterator", "dict_reverseitemiterator", "odict_iterator", "itertools.zip_longest", "itertools.pairwise"].contains n && vs[0]? == some (rawInt _)) = true then _ else _) Q E s
           rw [if_neg (by intro h; rw [hn, Bool.false_and] at h; cases h)]
           exact wpAny_pure hQ))

/-- the list at a, as it stands at each turn (a loop may append to it) -/
def Itl (K : PySem.W.Frag) (a : Addr) : It :=
  ⟨fun i H => ∃ xs x, SqL K H a xs ∧ xs[i]? = some x, fun i H x H' => H' = H ∧ ∀ xs, SqL K H a xs → xs[i]? = some x, fun i H => ∃ xs, SqL K H a xs ∧ xs.length ≤ i⟩
/-- lo, lo + 1, .. (n of them) -/
def Itr (lo : Int) (n : Nat) : It := ⟨fun i _ => i < n, fun i H x H' => H' = H ∧ x = .int (lo + i), fun i _ => n ≤ i⟩
theorem turn_list {P : Program} {w : World} {K : PySem.W.Frag} {tg : Expr} (a it : Addr) : Turn P w K tg (Itl K a) [it] it (fun i h => h.IsListIter it a i) where
  mem := by simp
  obj := fun i h st b hb => by
    have e : b = it := by simpa using hb
    subst e
    obtain ⟨o, e, c, d⟩ := st
    exact ⟨o, e, fun v z => by rw [d] at z; cases z⟩
  keep := fun i h h' st k => st.at fun o e => k it (by simp) o e
  item := by
    intro X hP hw hK hc i pins s σ H E I hf st hg
    subst hP hw hK
    obtain ⟨xs, x, hq, hx⟩ := hg
    obtain ⟨its, rv, p, hz⟩ := I.list hq
    obtain ⟨u, hu, ru⟩ := rv.get hx
    obtain ⟨f0, f1, f2, f3, f4, f5⟩ := hf it (by simp)
    refine wpAny_pyNext_list_item st p.isList (x := u) (by simpa using hu) fun h' st' sb => ?_
    have I1 : Inv X pins σ H { s with heap := h' } := I.turned (t' := s.toks) (fun b o hb e => (sb.2 b hb).trans e) f0 f1 f3 f4 f5
    obtain ⟨o, e, c, d⟩ := id st'
    exact ⟨u, rfl, go_of (s := { s with heap := h' }) e c d (by decide) ⟨x, H, I1, ru, ⟨rfl, fun ys hy => by rw [I.list_inj hy hq]; exact hx⟩, st', fun b hb => (hf b hb).1⟩⟩
  done := by
    intro X hP hw hK hc i pins s σ H E I hf st hg
    subst hP hw hK
    obtain ⟨xs, hq, hx⟩ := hg
    obtain ⟨its, rv, p, hz⟩ := I.list hq
    obtain ⟨f0, f1, f2, f3, f4, f5⟩ := hf it (by simp)
    have hl := rv.length
    exact wpAny_pyNext_list_end (I.ok.hd hc) st p.isList (by simp; omega) fun h' eb => ⟨rfl, I.turned (t' := s.toks) (fun b o hb e => eb b o hb e) f0 f1 f3 f4 f5⟩
  self := fun _ _ _ _ _ st h => wpAny_pyIter_listiter st h
theorem turn_range {P : Program} {w : World} {K : PySem.W.Frag} {tg : Expr} (it : Addr) (lo : Int) (n : Nat) : Turn P w K tg (Itr lo n) [it] it (fun i h => IsRangeIter h it (lo + (i : Nat) * 1) ((n : Int) - (i : Nat)) 1) where
  mem := by simp
  obj := fun i h st b hb => by
    have e : b = it := by simpa using hb
    subst e
    exact ⟨_, st, fun v z => by
      have z' : Data.fields _ = Data.cell v := z
      cases z'⟩
  keep := fun i h h' st k => k it (by simp) _ st
  item := by
    intro X hP hw hK hc i pins s σ H E I hf st hg
    subst hP hw hK
    obtain ⟨f0, f1, f2, f3, f4, f5⟩ := hf it (by simp)
    have W := Walks.range (prog := X.prog) (w := X.w) (I.ok.hd hc) it lo 1 n
    refine W.item i s _ _ hg st fun v h' tk hv st' kk => ?_
    obtain ⟨t, rfl⟩ := hv
    have I1 : Inv X pins σ H { s with heap := h', toks := tk } := I.turned (fun b o hb e => kk b o (by simpa using hb) e) f0 f1 f3 f4 f5
    refine ⟨_, rfl, go_of (s := { s with heap := h', toks := tk }) (n := "range_iterator") st' rfl rfl (by decide) ⟨.int (lo + i), H, I1, ⟨t, ?_⟩, ⟨rfl, rfl⟩, st', fun b hb => (hf b hb).1⟩⟩
    rw [Int.mul_one]
  done := by
    intro X hP hw hK hc i pins s σ H E I hf st hg
    subst hP hw hK
    obtain ⟨f0, f1, f2, f3, f4, f5⟩ := hf it (by simp)
    exact wpAny_pyNext_range_end (I.ok.hd hc) st (by have : n ≤ i := hg; omega) fun h' eb => ⟨rfl, I.turned (t' := s.toks) (fun b o hb e => eb b o hb e) f0 f1 f3 f4 f5⟩
  self := fun _ _ _ _ _ st h => wpAny_pyIter_rangeiter st h
end L2

namespace L2
open PySem PySem.Spec PyProof.Rows
section
variable {X : Cx} {tg : Expr}
def iList (K : PySem.W.Frag) (tl : TE) : TI := fun σ H R => tl σ H fun x H1 => ∃ a, x = .ref a ∧ (∃ xs, SqL K H1 a xs) ∧ R (Itl K a) H1
theorem pi_list {l : Expr} {tl : TE} (hl : PE X l tl) : PI X tg l (iList X.K tl) := by
  intro pins s σ H R I h
  refine thn (hl pins s σ H _ I h) fun v s1 ⟨x, H1, I1, r1, q1⟩ => ?_
  obtain ⟨a, e, ⟨xs, hq⟩, q⟩ := q1
  subst e
  cases r1
  obtain ⟨its, rv, p, hz⟩ := I1.list hq
  refine wpAny_pyIter_list p.isList ?_
  refine ⟨s1.heap.objs.size, [s1.heap.objs.size], _, _, H1, rfl, I1.kept (t' := s1.toks) fun b o e => Heap.get?_push_of_some _ e, turn_list a _, ⟨_, Heap.get?_push_size _ rfl, rfl, rfl⟩, fun b hb => ?_, q⟩
  have e : b = s1.heap.objs.size := by simpa using hb
  subst e
  exact I1.fpOk (Nat.le_refl _) (I1.hok.fresh (Nat.le_refl _))
/-- a range object just made, walked -/
theorem range_it {pins : List (Addr × Obj)} {σ : St} {H : Hp} {s : Shared} {R : It → Hp → Prop} {E : Value → Shared → Prop} {lo hi : Int} {t u v : Tok} {tk : Nat} (I : Inv X pins σ H s) (h1 : -(2 ^ 62) ≤ lo) (h2 : lo < 2 ^ 62) (h3 : -(2 ^ 62) ≤ hi) (h4 : hi < 2 ^ 62)
    (q : R (Itr lo (hi - lo).toNat) H) : wpAny (model X.prog X.w) X.A (pyIter (.ref s.heap.objs.size)) (PIE X pins σ tg R) E { s with heap := s.heap.push { cls := .type "range", data := .fields #[.int lo t, .int hi u, .int 1 v] }, toks := tk } := by
  refine wpAny_pyIter_range (IsRange.new ..) (small_one h1 h2 h3 h4) ?_
  have I1 : Inv X pins σ H { s with heap := s.heap.push { cls := .type "range", data := .fields #[.int lo t, .int hi u, .int 1 v] }, toks := tk } := I.kept fun b o e => Heap.get?_push_of_some _ e
  refine ⟨(s.heap.push { cls := .type "range", data := .fields #[.int lo t, .int hi u, .int 1 v] }).objs.size, [(s.heap.push { cls := .type "range", data := .fields #[.int lo t, .int hi u, .int 1 v] }).objs.size], _, _, H, rfl,
    I1.kept (t' := tk) fun b o e => Heap.get?_push_of_some _ e, turn_range _ lo (hi - lo).toNat, ?_, fun b hb => ?_, q⟩
  · have e1 : lo + ((0 : Nat) : Int) * 1 = lo := by simp
    have e2 : (((hi - lo).toNat : Nat) : Int) - ((0 : Nat) : Int) = Builtin.Range.rangeSize lo hi 1 := by rw [rangeSize_one]; split <;> omega
    show IsRangeIter _ _ (lo + ((0 : Nat) : Int) * 1) ((((hi - lo).toNat : Nat) : Int) - ((0 : Nat) : Int)) 1
    rw [e1, e2]
    exact Heap.get?_push_size _ rfl
  · have e : b = (s.heap.push { cls := .type "range", data := .fields #[.int lo t, .int hi u, .int 1 v] }).objs.size := by simpa using hb
    subst e
    exact I1.fpOk (Nat.le_refl _) (I1.hok.fresh (Nat.le_refl _))
def iRng1 (ta : TA) : TI := fun σ H R => ta σ H fun vs H1 => ∃ j : Int, vs = [.int j] ∧ -(2 ^ 62) ≤ j ∧ j < 2 ^ 62 ∧ R (Itr 0 j.toNat) H1
theorem pi_range1 {a : Expr} {ta : TA} {p pos : Pos} (hg : Gl X "range") (hm : X.mg "range" = none) (ha : PA X [a] ta) (hs : starEach [a] X.env = [(false, eval a X.env)] := by rfl) : PI X tg (.Call (.Name "range" p) [a] [] pos) (iRng1 ta) := by
  intro pins s σ H R I h
  refine Call_ (ld_blt I hg hm boot_range (PyProof.Rows.callWith_type1 (thn (ha pos pins s σ H _ I h) fun us s1 ⟨vs, H1, I1, r1, q1⟩ => ?_) hs rfl))
  obtain ⟨j, e, q1, q2, q⟩ := q1
  subst e
  cases r1 with
  | cons r rr =>
    cases rr
    obtain ⟨t, rfl⟩ := r
    exact call_range_1 (range_it I1 (by omega) (by omega) q1 q2 (by simpa using q))

/-! ### for -/
/-- W: the invariant by the turn and a measure; N: what the body is to reach -/
def tFor (wi : TI) (g : TG) (tb : TS) : TS := fun D σ H => wi σ H fun J H1 => ∃ W : Nat → Nat → St → Hp → Prop, (∃ m, W 0 m σ H1) ∧ ∀ i m σ H, W i m σ H →
  (J.stop i H ∧ D.nx σ H) ∨ (J.go i H ∧ ∃ N : St → Hp → Prop, (∀ σ' H', N σ' H' → ∃ m', m' < m ∧ W (i + 1) m' σ' H') ∧ ∀ x H', J.yld i H x H' → g x σ H' fun σ2 H2 => tb { D with nx := N, ct := N, bk := D.nx } σ2 H2)
/-- the records at fp as they stand -/
def pinsAt (fp : List Addr) (h : Heap) : List (Addr × Obj) := fp.filterMap fun b => (h.get? b).map fun o => (b, o)
theorem mem_pinsAt {fp : List Addr} {h : Heap} {b : Addr} {o : Obj} (hb : b ∈ fp) (e : h.get? b = some o) : (b, o) ∈ pinsAt fp h := List.mem_filterMap.mpr ⟨b, hb, by rw [e]; rfl⟩
theorem of_pinsAt {fp : List Addr} {h : Heap} {p : Addr × Obj} (hp : p ∈ pinsAt fp h) : p.1 ∈ fp ∧ h.get? p.1 = some p.2 := by
  obtain ⟨b, hb, e⟩ := List.mem_filterMap.mp hp
  cases q : h.get? b with
  | none => rw [q] at e; cases e
  | some o =>
    rw [q] at e
    have e' : (b, o) = p := Option.some.inj e
    subst e'
    exact ⟨hb, q⟩
theorem Inv.pinned {pins : List (Addr × Obj)} {σ : St} {H : Hp} {s : Shared} {fp : List Addr} (I : Inv X pins σ H s) (hf : ∀ b ∈ fp, FpOk X pins H b) (ho : ∀ b ∈ fp, ∃ o, s.heap.get? b = some o ∧ ∀ v, o.data ≠ .cell v) : Inv X (pins ++ pinsAt fp s.heap) σ H s :=
  I.pins_of fun p hp => (List.mem_append.mp hp).elim (fun z => I.pin p (List.mem_append_right _ z)) fun z => by
    obtain ⟨hb, e⟩ := of_pinsAt z
    obtain ⟨f0, f1, f2, _⟩ := hf p.1 hb
    obtain ⟨o, e', d⟩ := ho p.1 hb
    rw [e] at e'; cases e'
    exact ⟨e, f0, f1, f2, d⟩
theorem Inv.unpinned {pins pl : List (Addr × Obj)} {σ : St} {H : Hp} {s : Shared} (I : Inv X (pins ++ pl) σ H s) : Inv X pins σ H s := I.pins_of fun p hp => I.pin p (List.mem_append_right _ (List.mem_append_left _ hp))
theorem ps_for {iter : Expr} {body : List Stmt} {wi : TI} {g : TG} {tb : TS} {pos : Pos} (hp : PassesOwn (model X.prog X.w) X.A X.env X.xe) (hc : X.calm = true) (hi : PI X tg iter wi) (hg : PG X tg g) (hb : PSs X body tb)
    (hs : ∀ x, foldedSetIterable iter X.env x = pure x := by intro _; rfl) : PS X (.For tg iter body [] pos) (tFor wi g tb) := by
  intro pins s σ H D I h
  refine wpAny_For (thn (hi pins s σ H _ I h) fun v s1 h1 => thn h1 fun itv s2 h2 => ?_) hs
  obtain ⟨it, fp, tn, J, H2, e, I2, T, st2, f2, W, ⟨m0, w0⟩, turn⟩ := h2
  subst e
  -- what stays true of the iterator's objects through the loop
  have stat : ∀ {H' : Hp}, (∀ b ∈ fp, H' b = none) → ∀ b ∈ fp, FpOk X pins H' b := fun hn b hb => ⟨hn b hb, (f2 b hb).2⟩
  refine codeAny_forLoop_any (fun n s' => ∃ i σ' H', Inv X pins σ' H' s' ∧ tn i s'.heap ∧ (∀ b ∈ fp, H' b = none) ∧ W i n σ' H') ?_ m0 ⟨0, σ, H2, I2, st2, fun b hb => (f2 b hb).1, w0⟩
  rintro n s3 ⟨i, σ3, H3, I3, st3, fr3, w3⟩
  rcases turn i n σ3 H3 w3 with ⟨stop, qn⟩ | ⟨go, N, hN, step⟩
  · refine wpAny_passesOwn hp (thn (T.done X rfl rfl rfl hc i pins s3 σ3 H3 X.xe I3 (stat fr3) st3 stop) fun r s4 ⟨hr, I4⟩ => ?_)
    subst hr
    exact wpAny_execs_nil ⟨σ3, H3, I4, qn⟩
  · refine wpAny_passesOwn hp (thn (T.item X rfl rfl rfl hc i pins s3 σ3 H3 X.xe I3 (stat fr3) st3 go) fun r s4 ⟨u, hr, h4⟩ => ?_)
    subst hr
    refine wpAny_passesOwn hp (thn h4 fun _ s5 ⟨x, H5, I5, r5, y5, st5, fr5⟩ => ?_)
    have I5' := I5.pinned (stat fr5) (T.obj _ _ st5)
    refine wpAny_passesOwn hp (thn (hg _ s5 σ3 H5 x u _ I5' r5 (step x H5 y5)) fun _ s6 ⟨σ6, H6, I6, q6⟩ => ?_)
    refine wpAny_passesOwn hp (thn (hb _ s6 σ6 H6 _ I6 q6) fun f s7 q7 => ?_)
    have again : ∀ {σ7 : St} {H7 : Hp}, Inv X (pins ++ pinsAt fp s5.heap) σ7 H7 s7 → N σ7 H7 → ∃ m, m < n ∧ ∃ i σ' H', Inv X pins σ' H' s7 ∧ tn i s7.heap ∧ (∀ b ∈ fp, H' b = none) ∧ W i m σ' H' := fun {σ7 H7} I7 n7 => by
      obtain ⟨m', hm, w7⟩ := hN σ7 H7 n7
      refine ⟨m', hm, i + 1, σ7, H7, I7.unpinned, T.keep _ _ _ st5 fun b hb o e => (I7.pin (b, o) (List.mem_append_right _ (List.mem_append_right _ (mem_pinsAt hb e)))).1, fun b hb => ?_, w7⟩
      obtain ⟨o, e, d⟩ := T.obj _ _ st5 b hb
      exact (I7.pin (b, o) (List.mem_append_right _ (List.mem_append_right _ (mem_pinsAt hb e)))).2.1
    cases f with
    | next => obtain ⟨σ7, H7, I7, n7⟩ := q7; exact again I7 n7
    | cont => obtain ⟨σ7, H7, I7, n7⟩ := q7; exact again I7 n7
    | brk => obtain ⟨σ7, H7, I7, q7⟩ := q7; exact ⟨σ7, H7, I7.unpinned, q7⟩
    | ret v => obtain ⟨x7, σ7, H7, I7, r7, q7⟩ := q7; exact ⟨x7, σ7, H7, I7.unpinned, r7, q7⟩
end

/-! ### the forms one uses -/
/-- over a list that the body leaves as it is -/
theorem for_list {K : PySem.W.Frag} {a : Addr} {xs : List V} {g : TG} {tb : TS} {D : Ends} {σ : St} {H : Hp} (Pv : Nat → St → Hp → Prop) (h0 : Pv 0 σ H) (hl : ∀ i σ H, i ≤ xs.length → Pv i σ H → SqL K H a xs)
    (hs : ∀ i x σ H, xs[i]? = some x → Pv i σ H → g x σ H fun σ2 H2 => tb { D with nx := Pv (i + 1), ct := Pv (i + 1), bk := D.nx } σ2 H2) (hd : ∀ σ H, Pv xs.length σ H → D.nx σ H) :
    ∃ W : Nat → Nat → St → Hp → Prop, (∃ m, W 0 m σ H) ∧ ∀ i m σ H, W i m σ H →
      ((Itl K a).stop i H ∧ D.nx σ H) ∨ ((Itl K a).go i H ∧ ∃ N : St → Hp → Prop, (∀ σ' H', N σ' H' → ∃ m', m' < m ∧ W (i + 1) m' σ' H') ∧ ∀ x H', (Itl K a).yld i H x H' → g x σ H' fun σ2 H2 => tb { D with nx := N, ct := N, bk := D.nx } σ2 H2) := by
  refine ⟨fun i m σ H => m = xs.length - i ∧ i ≤ xs.length ∧ Pv i σ H, ⟨xs.length, by simp, Nat.zero_le _, h0⟩, ?_⟩
  rintro i m σ H ⟨rfl, hi, p⟩
  have q := hl i σ H hi p
  by_cases hlt : i < xs.length
  · refine .inr ⟨⟨xs, xs[i], q, by simp [hlt]⟩, Pv (i + 1), fun σ' H' p' => ⟨xs.length - (i + 1), by omega, rfl, hlt, p'⟩, fun x H' y => ?_⟩
    obtain ⟨e, y⟩ := y
    subst e
    exact hs i x σ _ (y xs q) p
  · have e : i = xs.length := by omega
    subst e
    exact .inl ⟨⟨xs, q, Nat.le_refl _⟩, hd σ H p⟩
theorem for_range {lo : Int} {n : Nat} {g : TG} {tb : TS} {D : Ends} {σ : St} {H : Hp} (Pv : Nat → St → Hp → Prop) (h0 : Pv 0 σ H)
    (hs : ∀ i σ H, i < n → Pv i σ H → g (.int (lo + i)) σ H fun σ2 H2 => tb { D with nx := Pv (i + 1), ct := Pv (i + 1), bk := D.nx } σ2 H2) (hd : ∀ σ H, Pv n σ H → D.nx σ H) :
    ∃ W : Nat → Nat → St → Hp → Prop, (∃ m, W 0 m σ H) ∧ ∀ i m σ H, W i m σ H →
      ((Itr lo n).stop i H ∧ D.nx σ H) ∨ ((Itr lo n).go i H ∧ ∃ N : St → Hp → Prop, (∀ σ' H', N σ' H' → ∃ m', m' < m ∧ W (i + 1) m' σ' H') ∧ ∀ x H', (Itr lo n).yld i H x H' → g x σ H' fun σ2 H2 => tb { D with nx := N, ct := N, bk := D.nx } σ2 H2) := by
  refine ⟨fun i m σ H => m = n - i ∧ i ≤ n ∧ Pv i σ H, ⟨n, by simp, Nat.zero_le _, h0⟩, ?_⟩
  rintro i m σ H ⟨rfl, hi, p⟩
  by_cases hlt : i < n
  · refine .inr ⟨hlt, Pv (i + 1), fun σ' H' p' => ⟨n - (i + 1), by omega, rfl, hlt, p'⟩, fun x H' y => ?_⟩
    obtain ⟨e, y⟩ := y
    subst e y
    exact hs i σ _ hlt p
  · have e : i = n := by omega
    subst e
    exact .inl ⟨Nat.le_refl _, hd σ H p⟩
end L2

namespace L2
open PySem PySem.Spec PyProof.Rows

abbrev R2 := V → V → Hp → VK → Prop
/-- a two-place operation on values: f is binaryOp op, inplaceOp op or compareOp op -/
def OpR (X : Cx) (f : Value → Value → Sem Value) (r : R2) : Prop :=
  ∀ (pins : List (Addr × Obj)) (s : Shared) (σ : St) (H : Hp) (x y : V) (v u : Value) (Q : VK), Inv X pins σ H s → RelV x v → RelV y u → r x y H Q →
    wpAny (model X.prog X.w) X.A (f v u) (EP X pins σ Q) X.xe s
/-- a one-place operation -/
def UnR (X : Cx) (f : Value → Sem Value) (r : V → Hp → VK → Prop) : Prop :=
  ∀ (pins : List (Addr × Obj)) (s : Shared) (σ : St) (H : Hp) (x : V) (v : Value) (Q : VK), Inv X pins σ H s → RelV x v → r x H Q →
    wpAny (model X.prog X.w) X.A (f v) (EP X pins σ Q) X.xe s
/-- a call of a value that is known (a builtin, a type) with values -/
def CallR (X : Cx) (f : Value) (r : List V → Hp → VK → Prop) : Prop :=
  ∀ (pins : List (Addr × Obj)) (s : Shared) (σ : St) (H : Hp) (xs : List V) (us : List Value) (Q : VK), Inv X pins σ H s → Vals xs us → r xs H Q →
    wpAny (model X.prog X.w) X.A (call f us) (EP X pins σ Q) X.xe s
/-- a value's truth -/
def TruR (X : Cx) (r : V → Hp → (Bool → Hp → Prop) → Prop) : Prop :=
  ∀ (pins : List (Addr × Obj)) (s : Shared) (σ : St) (H : Hp) (x : V) (v : Value) (Q : Bool → Hp → Prop), Inv X pins σ H s → RelV x v → r x H Q →
    wpAny (model X.prog X.w) X.A (truthy v) (TP X pins σ Q) X.xe s

def tOp (r : R2) (ta tb : TE) : TE := fun σ H Q => ta σ H fun x H1 => tb σ H1 fun y H2 => r x y H2 Q
def tUn (r : V → Hp → VK → Prop) (ta : TE) : TE := fun σ H Q => ta σ H fun x H1 => r x H1 Q
/-- ints in, under C, and a value out -/
def rI (C : Int → Int → Prop) (g : Int → Int → V) : R2 := fun x y H Q => ∃ i j, x = .int i ∧ y = .int j ∧ C i j ∧ Q (g i j) H
def rI0 (g : Int → Int → V) : R2 := fun x y H Q => ∃ i j, x = .int i ∧ y = .int j ∧ Q (g i j) H
def rU (g : Int → V) : V → Hp → VK → Prop := fun x H Q => ∃ i, x = .int i ∧ Q (g i) H

section
variable {X : Cx} {a b c : Expr} {ta tb tc : TE} {pos : Pos}

theorem binT (ha : PE X a ta) (hb : PE X b tb) {pins : List (Addr × Obj)} {s : Shared} {σ : St} {H : Hp} {R : V → V → Hp → Prop} (I : Inv X pins σ H s)
    (h : ta σ H fun x H1 => tb σ H1 fun y H2 => R x y H2) {Q : Value → Shared → Prop} {f : Value → Value → Sem Value}
    (hf : ∀ v u s2 x y H2, Inv X pins σ H2 s2 → RelV x v → RelV y u → R x y H2 → wpAny (model X.prog X.w) X.A (f v u) Q X.xe s2) :
    wpAny (model X.prog X.w) X.A (eval a X.env) (fun v s₁ => wpAny (model X.prog X.w) X.A (eval b X.env) (fun u s₂ => wpAny (model X.prog X.w) X.A (f v u) Q X.xe s₂) X.xe s₁) X.xe s := by
  refine thn (ha pins s σ H _ I h) fun v s1 ⟨x, H1, I1, r1, q1⟩ => ?_
  refine thn (hb pins s1 σ H1 _ I1 q1) fun u s2 ⟨y, H2, I2, r2, q2⟩ => ?_
  exact hf v u s2 x y H2 I2 r1 r2 q2

theorem pe_op {op : Operator} {r : R2} (ho : OpR X (binaryOp op) r) (ha : PE X a ta) (hb : PE X b tb) : PE X (.BinOp a op b pos) (tOp r ta tb) := by
  intro pins s σ H Q I h
  exact wpAny_BinOp (binT ha hb I h fun v u s2 x y H2 I2 rx ry q => ho pins s2 σ H2 x y v u Q I2 rx ry q)
theorem pe_un {op : UnaryOp} {r : V → Hp → VK → Prop} (ho : UnR X (unaryOp op) r) (ha : PE X a ta) : PE X (.UnaryOp op a pos) (tUn r ta) := by
  intro pins s σ H Q I h
  exact UnaryOp_ (thn (ha pins s σ H _ I h) fun v s1 ⟨x, H1, I1, r1, q1⟩ => ho pins s1 σ H1 x v Q I1 r1 q1)

/-! ### ints -/
theorem opI {f : Value → Value → Sem Value} {C : Int → Int → Prop} {g : Int → Int → Int}
    (rule : ∀ (i j : Int) (t u : Tok) (s : Shared) (Q : Value → Shared → Prop) (E : Value → Shared → Prop), C i j → Q (.int (g i j) s.toks) { s with toks := s.toks + 1 } → wpAny (model X.prog X.w) X.A (f (.int i t) (.int j u)) Q E s) :
    OpR X f (rI C fun i j => .int (g i j)) := by
  intro pins s σ H x y v u Q I rx ry h
  obtain ⟨i, j, rfl, rfl, hc, q⟩ := h
  obtain ⟨t, rfl⟩ := rx
  obtain ⟨t', rfl⟩ := ry
  exact rule i j t t' s _ _ hc ⟨.int (g i j), H, I.tok _, ⟨_, rfl⟩, q⟩
theorem opI0 {f : Value → Value → Sem Value} {g : Int → Int → Int}
    (rule : ∀ (i j : Int) (t u : Tok) (s : Shared) (Q : Value → Shared → Prop) (E : Value → Shared → Prop), Q (.int (g i j) s.toks) { s with toks := s.toks + 1 } → wpAny (model X.prog X.w) X.A (f (.int i t) (.int j u)) Q E s) :
    OpR X f (rI0 fun i j => .int (g i j)) := by
  intro pins s σ H x y v u Q I rx ry h
  obtain ⟨i, j, rfl, rfl, q⟩ := h
  obtain ⟨t, rfl⟩ := rx
  obtain ⟨t', rfl⟩ := ry
  exact rule i j t t' s _ _ ⟨.int (g i j), H, I.tok _, ⟨_, rfl⟩, q⟩
theorem opB0 {f : Value → Value → Sem Value} {g : Int → Int → Bool}
    (rule : ∀ (i j : Int) (t u : Tok) (s : Shared) (Q : Value → Shared → Prop) (E : Value → Shared → Prop), Q (.bool (g i j)) s → wpAny (model X.prog X.w) X.A (f (.int i t) (.int j u)) Q E s) :
    OpR X f (rI0 fun i j => .bl (g i j)) := by
  intro pins s σ H x y v u Q I rx ry h
  obtain ⟨i, j, rfl, rfl, q⟩ := h
  obtain ⟨t, rfl⟩ := rx
  obtain ⟨t', rfl⟩ := ry
  exact rule i j t t' s _ _ ⟨.bl (g i j), H, I, rfl, q⟩

def CDiv (i j : Int) : Prop := 0 < j ∧ j < 1073741824
def CMul (i j : Int) : Prop := (-(2 ^ 64) < i ∧ i < 2 ^ 64) ∨ (-(2 ^ 64) < j ∧ j < 2 ^ 64)
theorem CMul.ok {i j : Int} (h : CMul i j) : IntMulOk i j := by
  rcases h with ⟨h1, h2⟩ | ⟨h1, h2⟩
  · exact .of_left (intBits_le_64 h1 h2)
  · exact .of_right (intBits_le_64 h1 h2)

theorem op_add : OpR X (binaryOp .Add) (rI0 fun i j => .int (i + j)) := opI0 fun _ _ _ _ _ _ _ q => add_int q
theorem op_sub : OpR X (binaryOp .Sub) (rI0 fun i j => .int (i - j)) := opI0 fun _ _ _ _ _ _ _ q => sub_int q
theorem op_mul : OpR X (binaryOp .Mult) (rI CMul fun i j => .int (i * j)) := opI fun _ _ _ _ _ _ _ hc q => mul_int q hc.ok
/-- // by a positive divisor -/
theorem op_fdiv : OpR X (binaryOp .FloorDiv) (rI CDiv fun i j => .int (i / j)) := opI fun i j _ _ _ _ _ hc q => by
  have h1 : (0 : Int) < j := hc.1
  have h2 : j < 1073741824 := hc.2
  exact floordiv_int (by omega) (by rw [Int.fdiv_eq_ediv_of_nonneg i (by omega)]; exact q) (.inl (PyProof.noPylong_small (by omega)))
/-- % by a positive divisor of any size -/
theorem op_mod : OpR X (binaryOp .Mod) (rI (fun _ j => 0 < j) fun i j => .int (i % j)) := opI fun i j _ _ _ _ _ hc q => by
  have h1 : (0 : Int) < j := hc
  exact mod_int' (by omega) (by rw [Int.fmod_eq_emod_of_nonneg i (by omega)]; exact q)


theorem unI {f : Value → Sem Value} {g : Int → Int}
    (rule : ∀ (i : Int) (t : Tok) (s : Shared) (Q : Value → Shared → Prop) (E : Value → Shared → Prop), Q (.int (g i) s.toks) { s with toks := s.toks + 1 } → wpAny (model X.prog X.w) X.A (f (.int i t)) Q E s) :
    UnR X f (rU fun i => .int (g i)) := by
  intro pins s σ H x v Q I rx h
  obtain ⟨i, rfl, q⟩ := h
  obtain ⟨t, rfl⟩ := rx
  exact rule i t s _ _ ⟨.int (g i), H, I.tok _, ⟨_, rfl⟩, q⟩
theorem un_neg : UnR X (unaryOp .USub) (rU fun i => .int (-i)) := unI fun _ _ _ _ _ q => neg_int q

/-! ### bools among ints: n += (a < b) -/
end

/-! ### comparisons -/
/-- the scalars that == tells apart as data does -/
def scal : V → V → Bool
  | .non, .non => true | .non, .int _ => true | .int _, .non => true | .non, .bl _ => true | .bl _, .non => true | .non, .str _ => true | .str _, .non => true
  | .int _, .int _ => true | .bl _, .bl _ => true | .str _, .str _ => true | .byt _, .byt _ => true
  | .int _, .str _ => true | .str _, .int _ => true | .bl _, .str _ => true | .str _, .bl _ => true
  | _, _ => false
def rEq : R2 := fun x y H Q => scal x y = true ∧ Q (.bl (decide (x = y))) H
def rNe : R2 := fun x y H Q => scal x y = true ∧ Q (.bl (!decide (x = y))) H

theorem dec_int {i j : Int} : decide (V.int i = V.int j) = (i == j) := by
  rw [Bool.eq_iff_iff]
  simp
theorem dec_bl {i j : Bool} : decide (V.bl i = V.bl j) = (i == j) := by
  rw [Bool.eq_iff_iff]
  simp
theorem dec_str {i j : Str} : decide (V.str i = V.str j) = (i == j) := by
  rw [Bool.eq_iff_iff]
  simp
theorem dec_byt {i j : Array UInt8} : decide (V.byt i = V.byt j) = (i.toList == j.toList) := by
  rw [Bool.eq_iff_iff]
  cases i
  cases j
  simp

section
variable {X : Cx} {a b c : Expr} {ta tb tc : TE} {pos : Pos}
theorem fin_bl {pins : List (Addr × Obj)} {σ : St} {H : Hp} {s : Shared} {Q : VK} {k k' : Bool} (I : Inv X pins σ H s) (q : Q (.bl k) H) (e : k = k') : EP X pins σ Q (.bool k') s := by
  subst e
  exact ⟨.bl k, H, I, rfl, q⟩
theorem op_eq : OpR X (compareOp .Eq) rEq := by
  intro pins s σ H x y v u Q I rx ry h
  obtain ⟨hs, q⟩ := h
  cases x with
  | non =>
    cases rx
    cases y with
    | non => cases ry; exact PySem.EqNone.eq_none_none (fin_bl I q (by simp))
    | bl j => cases ry; exact PySem.EqNone.eq_none_bool (fin_bl I q (by simp))
    | int j => obtain ⟨t', rfl⟩ := ry; exact PySem.EqNone.eq_none_int (fin_bl I q (by simp))
    | str j => obtain ⟨t', rfl⟩ := ry; exact PySem.EqNone.eq_none_str (fin_bl I q (by simp))
    | _ => exact absurd (show false = true from hs) Bool.false_ne_true
  | bl i =>
    cases rx
    cases y with
    | non => cases ry; exact PySem.EqNone.eq_bool_none (fin_bl I q (by simp))
    | bl j => cases ry; exact eq_bool (fin_bl I q dec_bl)
    | str j => obtain ⟨t', rfl⟩ := ry; exact PySem.EqMixed.eq_bool_str (fin_bl I q (by simp))
    | _ => exact absurd (show false = true from hs) Bool.false_ne_true
  | int i =>
    obtain ⟨t, rfl⟩ := rx
    cases y with
    | non => cases ry; exact PySem.EqNone.eq_int_none (fin_bl I q (by simp))
    | int j => obtain ⟨t', rfl⟩ := ry; exact eq_int (fin_bl I q dec_int)
    | str j => obtain ⟨t', rfl⟩ := ry; exact PySem.EqMixed.eq_int_str (fin_bl I q (by simp))
    | _ => exact absurd (show false = true from hs) Bool.false_ne_true
  | str i =>
    obtain ⟨t, rfl⟩ := rx
    cases y with
    | non => cases ry; exact PySem.EqNone.eq_str_none (fin_bl I q (by simp))
    | bl j => cases ry; exact PySem.EqMixed.eq_str_bool (fin_bl I q (by simp))
    | int j => obtain ⟨t', rfl⟩ := ry; exact PySem.EqMixed.eq_str_int (fin_bl I q (by simp))
    | str j => obtain ⟨t', rfl⟩ := ry; exact eq_str (fin_bl I q dec_str)
    | _ => exact absurd (show false = true from hs) Bool.false_ne_true
  | byt i =>
    obtain ⟨t, rfl⟩ := rx
    cases y with
    | byt j => obtain ⟨t', rfl⟩ := ry; exact PySem.W.eq_bytes (fin_bl I q dec_byt)
    | _ => exact absurd (show false = true from hs) Bool.false_ne_true
  | _ => cases y <;> exact absurd (show false = true from hs) Bool.false_ne_true
theorem op_ne : OpR X (compareOp .NotEq) rNe := by
  intro pins s σ H x y v u Q I rx ry h
  obtain ⟨hs, q⟩ := h
  cases x with
  | non =>
    cases rx
    cases y with
    | non => cases ry; exact PySem.EqNone.ne_none_none (fin_bl I q (by simp))
    | bl j => cases ry; exact PySem.EqNone.ne_none_bool (fin_bl I q (by simp))
    | int j => obtain ⟨t', rfl⟩ := ry; exact PySem.EqNone.ne_none_int (fin_bl I q (by simp))
    | str j => obtain ⟨t', rfl⟩ := ry; exact PySem.EqNone.ne_none_str (fin_bl I q (by simp))
    | _ => exact absurd (show false = true from hs) Bool.false_ne_true
  | bl i =>
    cases rx
    cases y with
    | non => cases ry; exact PySem.EqNone.ne_bool_none (fin_bl I q (by simp))
    | bl j => cases ry; exact ne_bool (fin_bl I q (congrArg not dec_bl))
    | str j => obtain ⟨t', rfl⟩ := ry; exact PySem.EqMixed.ne_bool_str (fin_bl I q (by simp))
    | _ => exact absurd (show false = true from hs) Bool.false_ne_true
  | int i =>
    obtain ⟨t, rfl⟩ := rx
    cases y with
    | non => cases ry; exact PySem.EqNone.ne_int_none (fin_bl I q (by simp))
    | int j => obtain ⟨t', rfl⟩ := ry; exact ne_int (fin_bl I q (congrArg not dec_int))
    | str j => obtain ⟨t', rfl⟩ := ry; exact PySem.EqMixed.ne_int_str (fin_bl I q (by simp))
    | _ => exact absurd (show false = true from hs) Bool.false_ne_true
  | str i =>
    obtain ⟨t, rfl⟩ := rx
    cases y with
    | non => cases ry; exact PySem.EqNone.ne_str_none (fin_bl I q (by simp))
    | bl j => cases ry; exact PySem.EqMixed.ne_str_bool (fin_bl I q (by simp))
    | int j => obtain ⟨t', rfl⟩ := ry; exact PySem.EqMixed.ne_str_int (fin_bl I q (by simp))
    | str j => obtain ⟨t', rfl⟩ := ry; exact ne_str (fin_bl I q (congrArg not dec_str))
    | _ => exact absurd (show false = true from hs) Bool.false_ne_true
  | byt i =>
    obtain ⟨t, rfl⟩ := rx
    cases y with
    | byt j => obtain ⟨t', rfl⟩ := ry; exact PySem.W.ne_bytes (fin_bl I q (congrArg not dec_byt))
    | _ => exact absurd (show false = true from hs) Bool.false_ne_true
  | _ => cases y <;> exact absurd (show false = true from hs) Bool.false_ne_true

theorem op_le : OpR X (compareOp .LtE) (rI0 fun i j => .bl (decide (i ≤ j))) := opB0 fun _ _ _ _ _ _ _ q => le_int q
theorem op_gt : OpR X (compareOp .Gt) (rI0 fun i j => .bl (decide (j < i))) := opB0 fun _ _ _ _ _ _ _ q => gt_int q
/-- the one string within the other -/
theorem op_in_str : OpR X (compareOp .In) (fun x y H Q => ∃ i j, x = .str i ∧ y = .str j ∧ Q (.bl (!(Builtin.Str.occurrences j i 0 j.length 1).isEmpty)) H) := by
  intro pins s σ H x y v u Q I rx ry h
  obtain ⟨i, j, rfl, rfl, q⟩ := h
  obtain ⟨t, rfl⟩ := rx
  obtain ⟨t', rfl⟩ := ry
  exact in_str (fin_bl I q rfl)



/-- two rules for one operation: by cases -/
theorem OpR.or {f : Value → Value → Sem Value} {r r' : R2} (h : OpR X f r) (h' : OpR X f r') : OpR X f (fun x y H Q => r x y H Q ∨ r' x y H Q) := by
  intro pins s σ H x y v u Q I rx ry q
  rcases q with q | q
  · exact h pins s σ H x y v u Q I rx ry q
  · exact h' pins s σ H x y v u Q I rx ry q

theorem nomark (b : Expr) {op : CmpOp} (h : op ≠ .In := by decide) (h2 : op ≠ .NotIn := by decide) : behindInMarks op b = false := by
  have e1 : (op == CmpOp.In) = false := by cases op <;> first | rfl | exact absurd rfl h
  have e2 : (op == CmpOp.NotIn) = false := by cases op <;> first | rfl | exact absurd rfl h2
  cases b <;> simp [behindInMarks, e1, e2]
/-- a comparison as a value; hm: nomark b, or (for in, not in) by with_unfolding_all rfl -/
theorem pe_cmpR {op : CmpOp} {r : R2} (ho : OpR X (compareOp op) r) (ha : PE X a ta) (hb : PE X b tb) (hm : behindInMarks op b = false) : PE X (.Compare a [op] [b] pos) (tOp r ta tb) := by
  intro pins s σ H Q I h
  exact wpAny_Compare1 (binT ha hb I h fun v u s2 x y H2 I2 rx ry q => ho pins s2 σ H2 x y v u Q I2 rx ry q) hm
/-- a reading of a value as a test -/
def tTest (t : TE) : TT := fun σ H Q => t σ H fun x H' => ∃ k, x = .bl k ∧ Q k H'
theorem pt_cmpR {op : CmpOp} {r : R2} (ho : OpR X (compareOp op) r) (ha : PE X a ta) (hb : PE X b tb) (hm : behindInMarks op b = false) : PT X (.Compare a [op] [b] pos) (tTest (tOp r ta tb)) := by
  intro pins s σ H Q I h
  refine wpAny_isTrue_Compare1 (thn (ha pins s σ H _ I h) fun v s1 ⟨x, H1, I1, r1, q1⟩ => thn (hb pins s1 σ H1 _ I1 q1) fun u s2 ⟨y, H2, I2, r2, q2⟩ =>
    thn (ho pins s2 σ H2 x y v u _ I2 r1 r2 q2) fun c s3 ⟨z, H3, I3, r3, k, e, q3⟩ => ?_) hm
  subst e
  cases r3
  exact wpAny_truthy_bool ⟨H3, I3, q3⟩

/-! ### truth -/
/-- a value's truth by the abstract heap -/
def TruV (K : PySem.W.Frag) (x : V) (H : Hp) (k : Bool) : Prop :=
  match x with
  | .non => k = false
  | .bl b => k = b
  | .int i => k = (i != 0)
  | .str y => y.length ≤ sizeLine ∧ k = ((y.length : Int) != 0)
  | .byt y => y.size ≤ sizeLine ∧ k = ((y.size : Int) != 0)
  | .ref p => (∃ xs, SqL K H p xs ∧ k = !xs.isEmpty) ∨ (∃ xs, SqT K H p xs ∧ k = !xs.isEmpty) ∨ ∃ kvs, H p = some (.dK kvs) ∧ k = !kvs.isEmpty
  | _ => False
theorem isEmpty_kv {κ : Type} {kvs : List (κ × V)} {vs : List (κ × Value)} (r : KV kvs vs) : (!vs.isEmpty) = !kvs.isEmpty := by
  cases r <;> rfl
theorem isEmpty_of {xs : List V} {its : List Value} (r : Vals xs its) : (!its.toArray.isEmpty) = !xs.isEmpty := by
  cases r <;> simp
theorem line63 : (sizeLine : Nat) < 2 ^ 63 := by rw [sizeLine_eq]; decide
theorem tru_ok : TruR X (fun x H Q => ∃ k, TruV X.K x H k ∧ Q k H) := by
  intro pins s σ H x v Q I rx h
  obtain ⟨k, e, q⟩ := h
  have hl := line63
  have hs : sizeLine = 16777216 := sizeLine_eq
  cases x with
  | non =>
    cases rx
    have e' : k = false := e
    subst e'
    exact truthy_none ⟨H, I, q⟩
  | bl b =>
    cases rx
    have e' : k = b := e
    subst e'
    exact wpAny_truthy_bool ⟨H, I, q⟩
  | int i =>
    obtain ⟨t, rfl⟩ := rx
    have e' : k = (i != 0) := e
    subst e'
    exact PySem.P.truthy_int ⟨H, I, q⟩
  | str y =>
    obtain ⟨t, rfl⟩ := rx
    obtain ⟨hy, e'⟩ : y.length ≤ sizeLine ∧ k = ((y.length : Int) != 0) := e
    subst e'
    exact PySem.P.truthy_str (by omega) ⟨H, I.tok _, q⟩
  | byt y =>
    obtain ⟨t, rfl⟩ := rx
    obtain ⟨hy, e'⟩ : y.size ≤ sizeLine ∧ k = ((y.size : Int) != 0) := e
    subst e'
    exact PySem.W.truthy_bytes (by omega) ⟨H, I.tok _, q⟩
  | ref p =>
    cases rx
    have e' : (∃ xs, SqL X.K H p xs ∧ k = !xs.isEmpty) ∨ (∃ xs, SqT X.K H p xs ∧ k = !xs.isEmpty) ∨ ∃ kvs, H p = some (.dK kvs) ∧ k = !kvs.isEmpty := e
    rcases e' with ⟨xs, hx, e'⟩ | ⟨xs, hx, e'⟩ | ⟨kvs, hx, e'⟩
    · subst e'
      obtain ⟨its, r, pl, hz⟩ := I.list hx
      have hlen := r.length
      exact wpAny_truthy_list pl.isList (by simp only [List.size_toArray]; omega) ⟨H, I.tok _, by rw [isEmpty_of r]; exact q⟩
    · subst e'
      obtain ⟨its, r, pl, hz⟩ := I.tuple hx
      have hlen := r.length
      exact truthy_tuple pl (by simp only [List.size_toArray]; omega) ⟨H, I.tok _, by rw [isEmpty_of r]; exact q⟩
    · subst e'
      obtain ⟨hz, hS, vs, r, m⟩ : kvs.length ≤ sizeLine ∧ (p == sysModules) = false ∧ ∃ vs, KV kvs vs ∧ s.heap.DictOf (mixKind X.prog X.w) p vs := I.hok p _ hx
      have hlen : kvs.length = vs.length := Paired.length r
      exact wpAny_truthy_dict hS m (by omega) ⟨H, I.tok _, by rw [isEmpty_kv r]; exact q⟩
  | _ => exact (show False from e).elim
/-- any expression whose test is its value's truth (a name, a call, a subscript, a field ..: he by fun _ => rfl) -/
theorem pt_truth (ha : PE X a ta) (he : ∀ whole, isTrue a X.env whole = (do let v ← whole; standAt a.pos; holding [v] (truthy v))) :
    PT X a (fun σ H Q => ta σ H fun x H' => ∃ k, TruV X.K x H' k ∧ Q k H') := by
  intro pins s σ H Q I h
  exact isTrue_plain (thn (ha pins s σ H _ I h) fun v s1 ⟨x, H1, I1, r1, q1⟩ => tru_ok pins s1 σ H1 x v Q I1 r1 q1) (he _)

/-! ### strs and bytes -/
theorem op_add_str : OpR X (binaryOp .Add) (fun x y H Q => ∃ i j, x = .str i ∧ y = .str j ∧ i.length + j.length ≤ sizeLine ∧ Q (.str (i ++ j)) H) := by
  intro pins s σ H x y v u Q I rx ry h
  obtain ⟨i, j, rfl, rfl, hz, q⟩ := h
  obtain ⟨t, rfl⟩ := rx
  obtain ⟨t', rfl⟩ := ry
  exact add_str (fun t' tk => ⟨.str (i ++ j), H, I.tok _, ⟨_, rfl⟩, q⟩) hz


/-! ### scalar builtins, by CallR -/
theorem vals1 {x : V} {us : List Value} (r : Vals [x] us) : ∃ u, us = [u] ∧ RelV x u := by
  cases r with
  | cons r1 r2 => cases r2; exact ⟨_, rfl, r1⟩
theorem vals2 {x y : V} {us : List Value} (r : Vals [x, y] us) : ∃ u w', us = [u, w'] ∧ RelV x u ∧ RelV y w' := by
  cases r with
  | cons r1 r2 =>
    cases r2 with
    | cons r3 r4 => cases r4; exact ⟨_, _, rfl, r1, r3⟩
theorem call_max2 (hc : X.calm = true) : CallR X (.builtin "max") (fun xs H Q => ∃ i j, xs = [.int i, .int j] ∧ Q (.int (if j > i then j else i)) H) := by
  intro pins s σ H xs us Q I r h
  obtain ⟨i, j, rfl, q⟩ := h
  obtain ⟨u, w', rfl, ⟨t, rfl⟩, ⟨t', rfl⟩⟩ := vals2 r
  refine max_two_ints (I.ok.hd hc) fun h' tk k => ⟨_, H, I.kept k, ?_, q⟩
  by_cases hj : j > i
  · rw [if_pos hj, if_pos hj]; exact ⟨_, rfl⟩
  · rw [if_neg hj, if_neg hj]; exact ⟨_, rfl⟩
theorem call_ord : CallR X (.builtin "ord") (fun xs H Q => ∃ x, xs = [.str x] ∧ x.length = 1 ∧ Q (.int (x.cps.getD 0 0 : Nat)) H) := by
  intro pins s σ H xs us Q I r h
  obtain ⟨x, rfl, hz, q⟩ := h
  obtain ⟨u, rfl, t, rfl⟩ := vals1 r
  exact ord_of_one hz ⟨.int _, H, I.tok _, ⟨_, rfl⟩, q⟩
/-- len of a str, a bytes, a list, a tuple -/
def LenV (K : PySem.W.Frag) (x : V) (H : Hp) (n : Nat) : Prop :=
  match x with
  | .str y => y.length ≤ sizeLine ∧ n = y.length
  | .byt y => y.size ≤ sizeLine ∧ n = y.size
  | .ref p => (∃ xs, SqL K H p xs ∧ n = xs.length) ∨ ∃ xs, SqT K H p xs ∧ n = xs.length
  | _ => False
theorem call_len : CallR X (.builtin "len") (fun xs H Q => ∃ x n, xs = [x] ∧ LenV X.K x H n ∧ Q (.int n) H) := by
  intro pins s σ H xs us Q I r h
  obtain ⟨x, n, rfl, e, q⟩ := h
  obtain ⟨u, rfl, rx⟩ := vals1 r
  have hl := line63
  have hs : sizeLine = 16777216 := sizeLine_eq
  cases x with
  | str y =>
    obtain ⟨t, rfl⟩ := rx
    obtain ⟨hy, e'⟩ : y.length ≤ sizeLine ∧ n = y.length := e
    subst e'
    exact len_str (by omega) ⟨.int _, H, I.tok _, ⟨_, rfl⟩, q⟩
  | byt y =>
    obtain ⟨t, rfl⟩ := rx
    obtain ⟨hy, e'⟩ : y.size ≤ sizeLine ∧ n = y.size := e
    subst e'
    exact PySem.W.len_bytes (by omega) ⟨.int _, H, I.tok _, ⟨_, rfl⟩, q⟩
  | ref p =>
    cases rx
    have e' : (∃ xs, SqL X.K H p xs ∧ n = xs.length) ∨ ∃ xs, SqT X.K H p xs ∧ n = xs.length := e
    rcases e' with ⟨xs, hx, e'⟩ | ⟨xs, hx, e'⟩
    · subst e'
      obtain ⟨its, r', pl, hz⟩ := I.list hx
      have hlen := r'.length
      exact Calls.call_len_list pl.isList (by simp only [List.size_toArray]; omega) ⟨.int xs.length, H, I.tok _, ⟨_, by simp only [List.size_toArray]; rw [hlen]⟩, q⟩
    · subst e'
      obtain ⟨its, r', pl, hz⟩ := I.tuple hx
      have hlen := r'.length
      exact len_tuple pl (by simp only [List.size_toArray]; omega) ⟨.int xs.length, H, I.tok _, ⟨_, by simp only [List.size_toArray]; rw [hlen]⟩, q⟩
  | _ => exact (show False from e).elim
end
end L2

namespace L2
open PySem PySem.Spec PyProof.Rows

/-! ### an instance, its attributes a map -/
structure ObjM (h : Heap) (x dx C : Addr) (mA : Str → Option Value) : Prop where
  obj : h.get? x = some (PySem.W.instObj C dx)
  ns : h.Ns1 dx mA
  ne : dx ≠ x

theorem lookIn_ns {h : Heap} {dx : Addr} {mA : Str → Option Value} (n : h.Ns1 dx mA) : ∃ od, h.get? dx = some od ∧ ∀ name, PySem.W.lookIn name od = some (mA name) := by
  obtain ⟨o, es, ep, ho, hd, hk, _, hm⟩ := n
  refine ⟨o, ho, fun name => ?_⟩
  have e := hm name
  unfold nsFind findBy at e
  rw [← Array.find?_toList] at e
  unfold PySem.W.lookIn
  rw [hd]
  dsimp only
  split
  · rename_i y q
    rw [q] at e
    exact congrArg some e
  · rename_i q
    rw [q] at e
    have a : es.toList.any (·.refKey) = false := by
      rw [List.any_eq_false]
      intro y hy
      obtain ⟨z, t, hkey⟩ := hk y (Array.mem_toList_iff.mp hy)
      simp [DictEntry.refKey, hkey]
    have a' : ¬ es.toList.any (·.refKey) = true := by rw [a]; exact Bool.false_ne_true
    rw [if_neg a']
    exact congrArg some e

theorem ObjM.look {h : Heap} {x dx C : Addr} {mA : Str → Option Value} (I : ObjM h x dx C mA) : ∃ od, PySem.W.InstAt h x (PySem.W.instObj C dx) C (some od) ∧ ∀ name, PySem.W.lookIn name od = some (mA name) :=
  let ⟨od, ho, hl⟩ := lookIn_ns I.ns
  ⟨od, ⟨I.obj, rfl, rfl, ho⟩, hl⟩

section
variable {prog : Program} {w : World} {A : Around} {E : Value → Shared → Prop} {s : Shared} {K : PySem.W.Frag} {x dx C f : Addr} {mA : Str → Option Value} {name : Str} {v : Value}





end

/-! ### the attributes as a list of pairs -/


section
variable {P : Program} {w : World} {H H' : Hp} {h h' : Heap} {a C dx : Addr} {fs fs' : List (Str × V)}
theorem ins_get (hok : HOk P w H h) (e : H a = some (.ins C dx fs)) : ∃ mA, ObjM h a dx C mA ∧ (∀ f, RelO (fs.lookup f) (mA f)) ∧ PySem.Within mA (fs.map (·.1)) ∧ fs.length ≤ 1000 ∧ H dx = some (.own a) := by
  obtain ⟨d, z, ne, ob, mA, n, r, q⟩ := (show ObjOk P w H h a (.ins C dx fs) from hok a _ e)
  exact ⟨mA, ⟨ob, n, ne⟩, r, q, z, d⟩
end

/-! ### what of the text a class must have -/
structure Cls (K : PySem.W.Frag) (C : Addr) : Prop where
  pg : PySem.W.plainGet K C Str.empty = true
  hd : PySem.W.hasDictIn K C = true
  po : PySem.W.plainOver K C = true
  sa : PySem.W.findIn K (.ref C) "__setattr__" = some (some (.builtin "object.__setattr__"))
theorem Cls.get {K : PySem.W.Frag} {C : Addr} (c : Cls K C) (f : Str) : PySem.W.plainGet K C f = true := c.pg

section
variable {X : Cx} {pins : List (Addr × Obj)} {σ : St} {H : Hp} {s : Shared} {a C dx : Addr} {fs : List (Str × V)} {f : Str} {v : V} {A : Around} {E : Value → Shared → Prop}






end

/-! ### readings and rules -/

section
variable {X : Cx} {o e value : Expr} {f : Str} {pos pos' tpos : Pos} {ta tv : TE}

end

/-! ### isinstance -/
section
variable {X : Cx} {pins : List (Addr × Obj)} {σ : St} {H : Hp} {s : Shared} {A : Around} {E : Value → Shared → Prop} {Q : Value → Shared → Prop} {c : Value} {b : Bool}
/-- the type of a value, as the fragment's deciders take it; for an instance its class -/
inductive TyOf (K : PySem.W.Frag) (H : Hp) : V → Value → Prop where
  | non : TyOf K H .non (.type "NoneType")
  | bl (x : Bool) : TyOf K H (.bl x) (.type "bool")
  | int (i : Int) : TyOf K H (.int i) (.type "int")
  | str (x : Str) : TyOf K H (.str x) (.type "str")
  | flt (x : UInt64) : TyOf K H (.flt x) (.type "float")
  | lst {a : Addr} {xs : List V} (e : H a = some (.lst xs)) : TyOf K H (.ref a) (.type "list")
  | frz {a : Addr} {o : Obj} {xs : List V} (e : H a = some (.frz o (.lst xs))) : TyOf K H (.ref a) (.type "list")
  | tup {a : Addr} {xs : List V} (e : H a = some (.tup xs)) : TyOf K H (.ref a) (.type "tuple")
  | dK {a : Addr} {kvs : List (Key × V)} (e : H a = some (.dK kvs)) : TyOf K H (.ref a) (.type "dict")
  | dT {a : Addr} {kvs : List (List Key × V)} (e : H a = some (.dT kvs)) : TyOf K H (.ref a) (.type "dict")
  | ins {a C dx : Addr} {fs : List (Str × V)} (e : H a = some (.ins C dx fs)) (cl : Cls K C) (ha : PySem.W.findIn K (.ref C) "__class__" = some (some (.builtin "object.__class__")))
      (hn : PySem.W.specialIn K (.builtin "object.__class__") "__get__" = some (some (.builtin "getset_descriptor.__get__"))) (htk : PySem.W.takesIn K (.builtin "object.__class__") = some true)
      (hm : PySem.W.mroIn K C (.type "object") = some true) : TyOf K H (.ref a) (.ref C)
/-- isinstance(x, c) for one class c, a built-in or an own one: kitOne's answer -/
theorem isinst_ok {x : V} {u t : Value} (I : Inv X pins σ H s) (rx : RelV x u) (ty : TyOf X.K H x t) (e : PySem.W.kitOne X.K t c = some b) (h : ∀ tk, Q (.bool b) { s with toks := tk }) :
    wpAny (model X.prog X.w) A (call (.builtin "isinstance") [u, c]) Q E s := by
  cases ty with
  | non => cases (show u = Value.none from rx); exact PySem.W.kia_one PySem.W.kitx_none I.kIn True.intro e (fun z => nomatch z) h
  | bl y => cases (show u = Value.bool y from rx); exact PySem.W.kia_one PySem.W.kitx_bool I.kIn True.intro e (fun z => nomatch z) h
  | int i => obtain ⟨t, q⟩ := (show ∃ t, u = Value.int i t from rx); cases q; exact PySem.W.kia_one PySem.W.kitx_int I.kIn True.intro e (fun z => nomatch z) h
  | str y => obtain ⟨t, q⟩ := (show ∃ t, u = Value.str y t from rx); cases q; exact PySem.W.kia_one PySem.W.kitx_str I.kIn True.intro e (fun z => nomatch z) h
  | flt y => obtain ⟨t, q⟩ := (show ∃ t, u = Value.float y t from rx); cases q; exact PySem.W.kia_one PySem.W.kitx_float I.kIn True.intro e (fun z => nomatch z) h
  | @lst a xs ea =>
    cases (show u = Value.ref a from rx)
    obtain ⟨_, _, n, _, h1⟩ := (show ObjOk X.prog X.w H s.heap a (.lst xs) from I.hok a _ ea)
    exact PySem.W.kia_one PySem.W.kitx_list I.kIn ⟨_, h1, rfl⟩ e (fun z => nomatch z) h
  | @frz a ob xs ea =>
    cases (show u = Value.ref a from rx)
    obtain ⟨_, _, _, n, _, h1⟩ := (show ObjOk X.prog X.w H s.heap a (.frz ob (.lst xs)) from I.hok a _ ea)
    exact PySem.W.kia_one PySem.W.kitx_list I.kIn ⟨_, h1, rfl⟩ e (fun z => nomatch z) h
  | @tup a xs ea =>
    cases (show u = Value.ref a from rx)
    obtain ⟨_, _, _, p⟩ := (show ObjOk X.prog X.w H s.heap a (.tup xs) from I.hok a _ ea)
    obtain ⟨o, h1, h2, _⟩ := p
    exact PySem.W.kia_one PySem.W.kitx_tuple I.kIn ⟨o, h1, h2⟩ e (fun z => nomatch z) h
  | @dK a kvs ea =>
    cases (show u = Value.ref a from rx)
    obtain ⟨_, _, vs, _, p⟩ := (show ObjOk X.prog X.w H s.heap a (.dK kvs) from I.hok a _ ea)
    obtain ⟨o, es, ep, h1, h2, _⟩ := p
    exact PySem.W.kia_one PySem.W.kitx_dict I.kIn ⟨o, h1, h2.1⟩ e (fun z => nomatch z) h
  | @dT a kvs ea =>
    cases (show u = Value.ref a from rx)
    obtain ⟨_, _, xs, _, o, es, ep, h1, h2, _⟩ := (show ObjOk X.prog X.w H s.heap a (.dT kvs) from I.hok a _ ea)
    exact PySem.W.kia_one PySem.W.kitx_dict I.kIn ⟨o, h1, h2.1⟩ e (fun z => nomatch z) h
  | @ins a C dx fs ea cl ha hn htk hm =>
    cases (show u = Value.ref a from rx)
    obtain ⟨mA, O, _⟩ := ins_get I.hok ea
    obtain ⟨od, J, _⟩ := O.look
    exact PySem.W.kia_one (PySem.W.kitx_own (cl.get _) cl.hd ha hn htk hm) I.kIn J e (fun z => nomatch z) h
end
end L2

namespace L2
open PySem PySem.Spec PyProof.Rows

/-! ### room -/
structure Room (k : Nat) (A : Around) : Prop where
  hd : A.handled = none
  dp : A.depth + 3 * k + 5 < recursionLimit
  un : A.units + 16 * k + 200 < cLine
theorem Room.mono {j k : Nat} {A : Around} (r : Room k A) (h : j ≤ k) : Room j A := ⟨r.hd, by have := r.dp; omega, by have := r.un; omega⟩
theorem Room.deeper {k : Nat} {A : Around} (r : Room (k + 1) A) (env : Env) : Room k (A.deeper env) :=
  ⟨r.hd, by have := r.dp; show A.depth + 1 + 3 * k + 5 < _; omega, by have := r.un; show A.units + 3 + 16 * k + 200 < _; omega⟩
theorem Room.depth {k : Nat} {A : Around} (r : Room k A) : A.depth < recursionLimit := by have := r.dp; omega
theorem Room.units {k : Nat} {A : Around} (r : Room k A) : A.units + 64 < cLine := by have := r.un; omega

/-! ### argument lists and displays -/
def tNil : TA := fun _ H Q => Q [] H
def tCons (ta : TE) (tr : TA) : TA := fun σ H Q => ta σ H fun x H1 => tr σ H1 fun xs H2 => Q (x :: xs) H2
section
variable {X : Cx} {e : Expr} {es : List Expr} {te : TE} {t : TA} {pos : Pos}
theorem pa_nil : PA X [] tNil := fun _ _ _ _ H Q I h => Calls.spliced_nil ⟨[], H, I, .nil, h⟩
theorem pa_cons (ha : PE X e te) (hr : PA X es t) (hs : starEach (e :: es) X.env = (false, eval e X.env) :: starEach es X.env := by rfl) : PA X (e :: es) (tCons te t) := by
  intro pos pins s σ H Q I h
  rw [hs]
  show wpAny _ _ (spliced ((false, eval e X.env) :: backTo pos (starEach es X.env))) _ _ s
  refine Calls.spliced_cons (thn (ha pins s σ H _ I h) fun u s1 ⟨x, H1, I1, r1, q1⟩ => ?_)
  exact thn (hr pos pins s1 σ H1 _ I1 q1) fun us s2 ⟨xs, H2, I2, r2, q2⟩ => ⟨x :: xs, H2, I2, .cons r1 r2, q2⟩

/-- a tuple, a list of written items -/
def tTup (t : TA) : TE := fun σ H Q => t σ H fun xs H1 => xs.length ≤ sizeLine ∧ ∀ p, H1 p = none → Q (.ref p) (upd H1 p (.tup xs))
def tLst (t : TA) : TE := fun σ H Q => t σ H fun xs H1 => xs.length ≤ sizeLine ∧ ∀ p, H1 p = none → Q (.ref p) (upd H1 p (.lst xs))
theorem pe_tup {x1} (h : PA X es t) : PE X (.Tuple es x1 pos) (tTup t) := by
  intro pins s σ H Q I hq
  refine wpAny_Tuple_spliced (thn (h pos pins s σ H _ I hq) fun us s1 ⟨xs, H1, I1, r, z, q⟩ => ⟨by rw [← r.length]; exact z, ?_⟩)
  have hf : H1 s1.heap.objs.size = none := I1.hok.fresh (Nat.le_refl _)
  refine ⟨.ref s1.heap.objs.size, upd H1 s1.heap.objs.size (.tup xs), I1.laid (t' := s1.toks) (fun b u e => Heap.get?_push_of_some _ e) (Nat.le_refl _) ?_, rfl, q _ hf⟩
  exact ⟨z, us, r, ⟨_, Heap.get?_push_size _ rfl, rfl, _, rfl⟩⟩
theorem pe_lst (h : PA X es t) : PE X (.List es pos) (tLst t) := by
  intro pins s σ H Q I hq
  refine wpAny_List_spliced (thn (h pos pins s σ H _ I hq) fun us s1 ⟨xs, H1, I1, r, z, q⟩ => ⟨by rw [← r.length]; exact z, ?_⟩)
  have hf : H1 s1.heap.objs.size = none := I1.hok.fresh (Nat.le_refl _)
  refine ⟨.ref s1.heap.objs.size, upd H1 s1.heap.objs.size (.lst xs), I1.laid (t' := s1.toks) (fun b u e => Heap.get?_push_of_some _ e) (Nat.le_refl _) ?_, rfl, q _ hf⟩
  exact ⟨z, us, 0, r, Heap.get?_push_size _ rfl⟩
end

/-! ### what a def promises -/
/-- a def's promise: the bound arguments in the parameters' order, the heap, the wanted end, the wanted exception -/
abbrev Sp := List V → Hp → VK → XK → Prop
/-- how an exception lies behind a call (file 08 gives it): the callers' frames, abstract heap and state ahead of the call, the wish, the exception, the state -/
abbrev CXT := List Env → Hp → Shared → XK → Value → Shared → Prop

/-- the state at a call -/
structure Env0 (P : Program) (w : World) (K : PySem.W.Frag) (mg : Str → Option Value) (base : Heap) (A : Around) (outer : List Env) (s : Shared) (H : Hp) : Prop where
  frames : A.frames = some outer
  mod : Mod K mg base
  bs : ∀ b o, base.get? b = some o → s.heap.get? b = some o ∧ H b = none
  bsz : base.objs.size ≤ s.heap.objs.size
  funs : s.heap.FunFrames base outer
  frf : ∀ b ∈ frs outer, H b = none
  hok : HOk P w H s.heap
  bare : AllBare s.gens
/-- a call's end -/
def CE (outer : List Env) (P : Program) (w : World) (H : Hp) (s : Shared) (Q : VK) (u : Value) (s' : Shared) : Prop :=
  ∃ v H', s'.os = s.os ∧ AllBare s'.gens ∧ Un (frs outer) [] H H' s.heap s'.heap ∧ HOk P w H' s'.heap ∧ RelV v u ∧ Q v H'
def CR (CX : CXT) (outer : List Env) (P : Program) (w : World) (H : Hp) (s : Shared) (Q : VK) (E : XK) (r : Result) (s' : Shared) : Prop :=
  match r with
  | .ok (.ret u) => CE outer P w H s Q u s'
  | .ok _ => False
  | .error e => CX outer H s E e s'
structure FnOk (P : Program) (w : World) (K : PySem.W.Frag) (mg : Str → Option Value) (base : Heap) (CX : CXT) (k : Nat) (f : Addr) (fd : FuncData) (ps : List Str) (sp : Sp) : Prop where
  len : ∀ vs H Q E, sp vs H Q E → vs.length = ps.length
  run : ∀ (A : Around) (outer : List Env) (s : Shared) (H : Hp) (args : Args) (us : List Value) (vs : List V) (Q : VK) (E : XK), Room k A → Env0 P w K mg base A outer s H → BindsTo s fd args (ps.zip us) → Vals vs us → sp vs H Q E →
    codeAny (model P w) A (.call (.ref f) args) (CR CX outer P w H s Q E) s


section
variable {X : Cx} {pins : List (Addr × Obj)} {σ : St} {H : Hp} {s s' : Shared}
/-- from a body: what a callee wants -/
theorem Inv.env0 (I : Inv X pins σ H s) : Env0 X.prog X.w X.K X.mg X.base X.A X.stack s H :=
  ⟨I.ok.frames, I.ok.mod, I.bs, Nat.le_trans I.ok.bsz I.sz, I.stack, I.stkFree, I.hok, I.bare⟩
/-- behind a call -/
theorem Inv.after {Q : VK} {u : Value} (I : Inv X pins σ H s) (h : CE X.stack X.prog X.w H s Q u s') : EP X pins σ Q u s' := by
  obtain ⟨v, H', os, bare, un, hok, r, q⟩ := h
  obtain ⟨hh, g, d, t, os'⟩ := s'
  obtain rfl : os' = s.os := os
  exact ⟨v, H', I.call (h' := hh) (g' := g) (d' := d) (t' := t) (ch := []) un hok bare (fun b z => absurd z (by simp)), r, q⟩
end

/-! ### calls -/
/-- f(..): the written arguments, then the defaults dvs; E: what is wanted of an exception -/
def tCall (sp : Sp) (dvs : List V) (E : XK) (t : TA) : TE := fun σ H Q => t σ H fun vs H1 => sp (vs ++ dvs) H1 Q E

/-- how the parameters are bound: us the positional arguments, kw the keywords' values by name, ds the defaults that fill up -/
def Binds (K : PySem.W.Frag) (fd : FuncData) (ps : List Str) (ds : List Value) : Prop :=
  ∀ (s : Shared) (us : List Value), K.In s.heap → (us ++ ds).length = ps.length → BindsTo s fd ⟨us, []⟩ (ps.zip (us ++ ds))
/-- every parameter is given -/
theorem Binds.all {K : PySem.W.Frag} {fd : FuncData} {ps : List Str} (h : ∀ us : List Value, us.length = ps.length → bindArgs fd ⟨us, []⟩ = pure (ps.zip us)) : Binds K fd ps [] := fun s us _ hl => by
  rw [List.append_nil] at hl ⊢
  exact .of_eq (h us hl)

/-- an exception of a callee reaches what this body wants of exceptions -/
def Passes (CX : CXT) (X : Cx) (E : XK) : Prop := ∀ (pins : List (Addr × Obj)) (σ : St) (H : Hp) (s : Shared) (e : Value) (s' : Shared), Inv X pins σ H s → CX X.stack H s E e s' → X.xe e s'

section
variable {X : Cx} {CX : CXT} {k : Nat} {f C : Addr} {fd : FuncData} {ps : List Str} {sp : Sp} {dvs : List V} {ds : List Value} {E : XK} {x m : Str} {p pos apos : Pos} {e o : Expr} {es : List Expr} {ta : TE} {t : TA}

/-- the callee runs -/
theorem run_fn {pins : List (Addr × Obj)} {σ : St} {H : Hp} {s : Shared} {Q : VK} {us : List Value} {vs : List V} (F : FnOk X.prog X.w X.K X.mg X.base CX k f fd ps sp) (hr : Room k X.A) (hb : Binds X.K fd ps ds) (hd : Vals dvs ds) (hx : Passes CX X E)
    (I : Inv X pins σ H s) (r : Vals vs us) (h : sp (vs ++ dvs) H Q E) : wpAny (model X.prog X.w) X.A (call (.ref f) us) (EP X pins σ Q) X.xe s := by
  have r2 : Vals (vs ++ dvs) (us ++ ds) := r.append hd
  have hl : (us ++ ds).length = ps.length := by rw [← r2.length]; exact F.len _ _ _ _ h
  refine wpAny_call (codeAny_mono (F.run X.A X.stack s H ⟨us, []⟩ (us ++ ds) (vs ++ dvs) Q E hr I.env0 (hb s us I.kIn hl) r2 h) fun r s' hq => ?_)
  cases r with
  | error e => exact hx pins σ H s e s' I hq
  | ok fl =>
    cases fl with
    | ret u => exact I.after hq
    | next => exact False.elim hq
    | brk => exact False.elim hq
    | cont => exact False.elim hq

theorem pe_call (F : FnOk X.prog X.w X.K X.mg X.base CX k f fd ps sp) (hr : Room k X.A) (hg : Gl X x) (hm : X.mg x = some (.ref f)) (hk : PySem.W.keepIn X.K (.ref f) = true) (hb : Binds X.K fd ps ds) (hd : Vals dvs ds) (hx : Passes CX X E)
    (ha : PA X (e :: es) t) (hdb : (x == ("__debug__" : Str)) = false := by decide) (he : starEach (e :: es) X.env = (false, eval e X.env) :: starEach es X.env := by rfl) (hpl : (backTo pos (starEach es X.env)).any (·.1) = false := by rfl) :
    PE X (.Call (.Name x p) (e :: es) [] pos) (tCall sp dvs E t) := by
  intro pins s σ H Q I h
  refine wpAny_Call_Name_kw (ld_glob I hg hm ?_ hdb)
  refine PySem.W.callWith_K (h₀ := X.base) I.ok.mod.kin hk (thn (ha pos pins s σ H _ I h) fun us s1 ⟨vs, H1, I1, r, q⟩ => ⟨I1.kIn, ?_⟩) he hpl
  exact run_fn F hr hb hd hx I1 r q



end

/-! ### keywords -/
section
variable {X : Cx} {CX : CXT} {k : Nat} {f C : Addr} {fd : FuncData} {ps ks : List Str} {sp : Sp} {E : XK} {x m : Str} {p pos apos kpos : Pos} {e o : Expr} {es : List Expr} {kws : List Keyword} {te ta : TE} {t tk : TA} {nm : Option Str}

variable {g : List Value → List Value → List Value} {gV : List V → List V → List V}
end

/-! ### a def's body keeps its promise -/
/-- names: the parameters first -/
structure FnScope (N P : List Str) (sc : Scope) : Prop where
  kind : sc.kind = .function
  co : sc.isCoroutine = false
  gen : sc.isGenerator = false
  nd : N.Nodup
  pre : N.take P.length = P
  par : ∀ x ∈ P, sc.names.lookup x = some .local ∨ sc.names.lookup x = some .cell
  nofree : ∀ y ∈ sc.names, y.2 ≠ .free

theorem bindL_out {kindOf : Str → Option NameKind} {x : Str} : ∀ {binds : List (Str × Value)} {m : Str → Option Value}, (∀ v, (x, v) ∉ binds) → bindL kindOf binds m x = m x
  | [], _, _ => rfl
  | (n, v) :: r, m, h => by
    unfold bindL
    rw [bindL_out fun w hw => h w (List.mem_cons_of_mem _ hw)]
    split
    · have : x ≠ n := by rintro rfl; exact h v List.mem_cons_self
      simp [this]
    · rfl
theorem bindC_out {kindOf : Str → Option NameKind} {x : Str} : ∀ {binds : List (Str × Value)} {m : Str → Option Value}, (∀ v, (x, v) ∉ binds) → bindC kindOf binds m x = m x
  | [], _, _ => rfl
  | (n, v) :: r, m, h => by
    unfold bindC
    rw [bindC_out fun w hw => h w (List.mem_cons_of_mem _ hw)]
    split
    · rfl
    · have : x ≠ n := by rintro rfl; exact h v List.mem_cons_self
      simp [this]
theorem bindL_get {kindOf : Str → Option NameKind} {x : Str} {v : Value} : ∀ {P : List Str} {vs : List Value} {i : Nat} {m : Str → Option Value}, P.Nodup → P[i]? = some x → vs[i]? = some v → kindOf x = some .local →
    bindL kindOf (P.zip vs) m x = some v
  | [], _, _, _, _, h, _, _ => by simp at h
  | _ :: _, [], _, _, _, _, h, _ => by simp at h
  | p :: P, w :: vs, 0, m, nd, h1, h2, hk => by
    simp at h1 h2; subst h1; subst h2
    show bindL kindOf ((p, w) :: P.zip vs) m p = _
    unfold bindL
    rw [bindL_out fun v hv => (List.nodup_cons.mp nd).1 (List.of_mem_zip hv).1, if_pos hk]
    simp
  | p :: P, w :: vs, i + 1, m, nd, h1, h2, hk => by
    show bindL kindOf ((p, w) :: P.zip vs) m x = _
    unfold bindL
    exact bindL_get (i := i) (List.nodup_cons.mp nd).2 (by simpa using h1) (by simpa using h2) hk
theorem bindC_get {kindOf : Str → Option NameKind} {x : Str} {v : Value} : ∀ {P : List Str} {vs : List Value} {i : Nat} {m : Str → Option Value}, P.Nodup → P[i]? = some x → vs[i]? = some v → kindOf x ≠ some .local →
    bindC kindOf (P.zip vs) m x = some v
  | [], _, _, _, _, h, _, _ => by simp at h
  | _ :: _, [], _, _, _, _, h, _ => by simp at h
  | p :: P, w :: vs, 0, m, nd, h1, h2, hk => by
    simp at h1 h2; subst h1; subst h2
    show bindC kindOf ((p, w) :: P.zip vs) m p = _
    unfold bindC
    rw [bindC_out fun v hv => (List.nodup_cons.mp nd).1 (List.of_mem_zip hv).1, if_neg hk]
    simp
  | p :: P, w :: vs, i + 1, m, nd, h1, h2, hk => by
    show bindC kindOf ((p, w) :: P.zip vs) m x = _
    unfold bindC
    exact bindC_get (i := i) (List.nodup_cons.mp nd).2 (by simpa using h1) (by simpa using h2) hk

/-- the names' values at the entry -/
def start (N : List Str) (vs : List V) : St := vs.map some ++ List.replicate (N.length - vs.length) none

/-- the context of a def's body, at its entry; an exception leaves the frame, then lies as CX says -/
def cxOf (CX : CXT) (P : Program) (w : World) (K : PySem.W.Frag) (mg : Str → Option Value) (base : Heap) (N : List Str) (qual : Str) (scope : Scope) (f : Addr) (cd : Value) (A : Around) (outer : List Env) (s : Shared) (H : Hp) (E : XK) : Cx where
  prog := P
  w := w
  K := K
  mg := mg
  base := base
  A := A.deeper (envOfC qual scope s.heap.objs.size f cd)
  N := N
  s₀ := s
  H₀ := H
  env := envOfC qual scope s.heap.objs.size f cd
  outer := outer
  stack := envOfC qual scope s.heap.objs.size f cd :: outer
  ex := []
  calm := true
  fn := fun _ => true
  pn := []
  xe := fun e s' => wpAny (model P w) (A.deeper (envOfC qual scope s.heap.objs.size f cd)) (leaving (envOfC qual scope s.heap.objs.size f cd) e) (fun _ s'' => CX outer H s E e s'') (fun e' s'' => CX outer H s E e' s'') s'

theorem cell_has {sc : Scope} {n : Nat} {x : Str} (h : sc.names.lookup x = some .cell) : ∃ c, (cellsFrom n sc.names []).lookup x = some c := by
  have q := PySem.W.cellsFrom_some sc.names n [] (.inl h)
  exact Option.isSome_iff_exists.mp q

theorem inv_start {CX : CXT} {P : Program} {w : World} {K : PySem.W.Frag} {mg : Str → Option Value} {base : Heap} {N ps : List Str} {qual : Str} {scope : Scope} {f : Addr} {cd : Value} {A : Around} {outer : List Env} {s s1 : Shared} {H : Hp} {E : XK} {us : List Value} {vs : List V}
    (S : FnScope N ps scope) (hd : A.handled = none) (e0 : Env0 P w K mg base A outer s H) (hl : vs.length = ps.length) (r : Vals vs us)
    (x : InCallC s s.heap.objs.size (bindL (envOfC qual scope s.heap.objs.size f cd).kindOf (ps.zip us) fun _ => none) (cellsFrom (s.heap.objs.size + 1) scope.names []) (bindC (envOfC qual scope s.heap.objs.size f cd).kindOf (ps.zip us) fun _ => none) s1) :
    Inv (cxOf CX P w K mg base N qual scope f cd A outer s H E) [] (start N vs) H s1 := by
  have hpl : ps.length ≤ N.length := by have := congrArg List.length S.pre; rw [List.length_take] at this; omega
  obtain ⟨h1, tk, rfl, hk⟩ := x.done
  have noA : ∀ b : Addr, b ∉ (cxOf CX P w K mg base N qual scope f cd A outer s H E).ex := fun b z => absurd (show b ∈ ([] : List Addr) from z) (by simp)
  refine ⟨⟨e0.mod, S.kind, rfl, rfl, Nat.le_refl _, fun y z c h1 h2 => ?_, fun y hy => ?_, fun y c _ h => ?_, fun _ => hd, Around.frames_deeper e0.frames, .inr ⟨rfl, rfl⟩, fun b z => absurd z (noA b), e0.bs, e0.bsz, fun b _ _ => noA b, fun b z => absurd z (noA b), e0.funs, e0.frf⟩,
    rfl, e0.bare, Un.kept hk, ⟨_, x.toInCall.ns, fun i y v h1 h2 h3 => ?_⟩, fun y c h => ⟨_, x.cell y c h⟩, e0.hok.fresh (Nat.le_refl _), fun y c h => ?_, fun p hp => absurd (show p ∈ ([] : List (Addr × Obj)) from hp) (by simp), e0.hok.kept hk, ?_⟩
  · exact name_of_addr x.apart (PySem.mem_of_lookup h1) (PySem.mem_of_lookup h2)
  · have hy : scope.names.lookup y = some .cell ∨ scope.names.lookup y = some .free := hy
    rcases hy with hy | hy
    · exact cell_has hy
    · exact absurd rfl (S.nofree _ (PySem.mem_of_lookup hy))
  · exact Nat.le_of_lt (x.above y c (PySem.mem_of_lookup h))
  · have hi : i < vs.length := by
      unfold start at h2
      by_cases hi : i < vs.length
      · exact hi
      · rw [List.getElem?_append_right (by simpa using hi)] at h2
        rw [List.getElem?_replicate] at h2
        split at h2 <;> cases h2
    have ha : vs[i]? = some v := by
      unfold start at h2
      rw [List.getElem?_append_left (by simpa using hi), List.getElem?_map] at h2
      cases e : vs[i]? with
      | none => rw [e] at h2; cases h2
      | some a => rw [e] at h2; cases h2; rfl
    obtain ⟨u, hu, rv⟩ := r.get ha
    have hp : ps[i]? = some y := by
      rw [← S.pre, List.getElem?_take_of_lt (by omega)]; exact h1
    have ndP : ps.Nodup := by rw [← S.pre]; exact S.nd.sublist (List.take_sublist _ _)
    refine ⟨u, rv, ?_⟩
    rcases S.par y (List.mem_of_getElem? hp) with k | k
    · exact .inl ⟨k, bindL_get ndP hp hu k⟩
    · obtain ⟨c, e⟩ := cell_has (n := s.heap.objs.size + 1) k
      refine .inr ⟨.inl k, c, e, ?_⟩
      have q := x.cell y c e
      rw [bindC_get ndP hp hu (by show scope.names.lookup y ≠ _; rw [k]; decide)] at q
      exact q
  · exact e0.hok.fresh (Nat.le_of_lt (x.above y c (PySem.mem_of_lookup h)))
  · unfold start
    show _ = N.length
    rw [List.length_append, List.length_map, List.length_replicate]
    omega

/-- THE RULE: a def (or a method) of the text, by its body. The body's reading t is chosen for each entry; it is run at the parameters' values -/
theorem fn_of {CX : CXT} {P : Program} {w : World} {K : PySem.W.Frag} {mg : Str → Option Value} {base : Heap} {k : Nat} {f : Addr} {name qual : Str} {params : Arguments} {body : List Stmt} {scope : Scope} {dV kV doc pm cdv ct oc : Value} {an od : Option Addr}
    {osl : Array (Option Value)} {N ps : List Str} {sp : Sp} (lk : K.lookup f = some ⟨oc, od, .func (PySem.W.fnOf name qual params body scope dV kV doc pm an cdv ct), osl⟩) (hcd : PySem.W.codeIn K cdv qual = true) (S : FnScope N ps scope)
    (len : ∀ vs H Q E, sp vs H Q E → vs.length = ps.length)
    (hbody : ∀ (A : Around) (outer : List Env) (s : Shared) (H : Hp) (vs : List V) (Q : VK) (E : XK), Room k (A.deeper (envOfC qual scope s.heap.objs.size f cdv)) → sp vs H Q E →
      ∃ t, PSs (cxOf CX P w K mg base N qual scope f cdv A outer s H E) body t ∧ t { nx := fun _ H' => Q .non H', rt := Q } (start N vs) H) :
    FnOk P w K mg base CX (k + 1) f (PySem.W.fnOf name qual params body scope dV kV doc pm an cdv ct) ps sp := by
  refine ⟨len, fun A outer s H args us vs Q E hr e0 hb r hsp => ?_⟩
  have hl := len _ _ _ _ hsp
  have KX : K.In s.heap := e0.mod.kin.keeps fun b o e => (e0.bs b o e).1
  have lim : s.heap.NoLimit := e0.mod.nolimit.keeps fun b o e => (e0.bs b o e).1
  have hkind : ∀ y ∈ ps.zip us, scope.names.lookup y.1 = some .local ∨ (scope.names.lookup y.1 = some .cell ∧ ((cellsFrom (s.heap.objs.size + 1) scope.names []).lookup y.1).isSome = true) := fun ⟨n, v⟩ hy => by
    rcases S.par n (List.of_mem_zip hy).1 with q | q
    · exact .inl q
    · exact .inr ⟨q, PySem.W.cellsFrom_some _ _ _ (.inl q)⟩
  refine codeAny_call_function hr.depth (KX _ _ lk) rfl S.co S.gen rfl (PySem.W.codeRec_of KX hcd) (hb _ _ _ _ ?_)
  refine wpAny_newFunctionEnv_cells S.kind hkind fun env he s1 x => ?_
  subst he
  refine ⟨lim.keeps x.toInCall.keep, codeAny_func ?_⟩
  obtain ⟨t, ht, hq⟩ := hbody A outer s H vs Q E (hr.deeper _) hsp
  have I : Inv (cxOf CX P w K mg base N qual scope f cdv A outer s H E) [] (start N vs) H s1 := inv_start S hr.hd e0 hl r x
  refine wpAny_mono (ht [] s1 (start N vs) H _ I hq) (fun fl s' hs => ?_) fun e s' hs => hs
  have fin : ∀ {σ' : St} {H' : Hp} {v : V} {u : Value}, Inv (cxOf CX P w K mg base N qual scope f cdv A outer s H E) [] σ' H' s' → RelV v u → Q v H' → CE outer P w H s Q u s' :=
    fun {σ' H' v u} J rv q => ⟨v, H', J.os, J.bare, J.base, J.hok, rv, q⟩
  cases fl with
  | ret u =>
    obtain ⟨v, σ', H', J, rv, q⟩ := hs
    exact fin J rv q
  | next =>
    obtain ⟨σ', H', J, q⟩ := hs
    exact fin (v := V.non) (u := Value.none) J rfl q
  | brk =>
    obtain ⟨_, _, _, q⟩ := hs
    exact False.elim q
  | cont =>
    obtain ⟨_, _, _, q⟩ := hs
    exact False.elim q
end L2

namespace L2
open PySem PySem.Spec PyProof.Rows
section
variable {X : Cx} {x : Str} {p pos : Pos} {e : Expr} {es : List Expr} {t : TA} {id T : String} {r : List V → Hp → VK → Prop}

def tCB (r : List V → Hp → VK → Prop) (t : TA) : TE := fun σ H Q => t σ H fun vs H1 => r vs H1 Q
/-- f(e, ..), f a built-in function -/
theorem pe_callB (hc : CallR X (.builtin id) r) (hg : Gl X x) (hm : X.mg x = none) (hv : bootBuiltins x = some (.builtin id)) (ha : PA X (e :: es) t) (hn : x ≠ "__name__" := by decide) (hdb : (x == ("__debug__" : Str)) = false := by decide)
    (he : starEach (e :: es) X.env = (false, eval e X.env) :: starEach es X.env := by rfl) (hpl : (backTo pos (starEach es X.env)).any (·.1) = false := by rfl) : PE X (.Call (.Name x p) (e :: es) [] pos) (tCB r t) := by
  intro pins s σ H Q I h
  refine wpAny_Call_Name_kw (ld_blt I hg hm hv ?_ hn hdb)
  exact PyProof.Rows.callWith_builtin1 (thn (ha pos pins s σ H _ I h) fun us s1 ⟨vs, H1, I1, r1, q1⟩ => hc pins s1 σ H1 vs us Q I1 r1 q1) he hpl
end
end L2

namespace HT
open PySem PyProof.Rows



section
open PySem.SeqAt
open PySem.AutoSeq1 (wpAny_loadPart')
open PySem.MeetsSeq PySem.MeetsSeq2 PySem.MeetsSeq3

end

section
variable {prog : Program} {w : World} {A : Around} {E : Value → Shared → Prop} {s : Shared}



/-! ### t[a:b], not the whole -/
/-- a slice's bound as a place among n (d where it is left out) -/
def sIx (n d : Nat) : Option Int → Nat
  | none => d
  | some v => if v < 0 then (v + (n : Int)).toNat else min v.toNat n

end
end HT

namespace L2
open PySem PySem.Spec PyProof.Rows

/-! ### the parts of a slice -/
abbrev TO := St → Hp → (Option Int → Hp → Prop) → Prop
/-- a slice's part (left out, or an int) -/
def PO (X : Cx) (e : Option Expr) (t : TO) : Prop :=
  ∀ (pins : List (Addr × Obj)) (s : Shared) (σ : St) (H : Hp) (Q : Option Int → Hp → Prop), Inv X pins σ H s → t σ H Q →
    wpAny (model X.prog X.w) X.A (evalPart e X.env) (fun u s' => ∃ o H', Inv X pins σ H' s' ∧ IsPart u o ∧ Q o H') X.xe s
def tNoPart : TO := fun _ H Q => Q none H
def tPart (t : TE) : TO := fun σ H Q => t σ H fun x H1 => ∃ i, x = .int i ∧ Q (some i) H1


section
variable {X : Cx} {e : Expr} {te : TE} {lo hi : Option Expr} {tl th : TO} {pos p2 : Pos}

theorem po_none : PO X none tNoPart := by
  intro pins s σ H Q I h
  rw [evalPart_none]
  exact wpAny_pure ⟨none, H, I, .none, h⟩
theorem po_some (h : PE X e te) : PO X (some e) (tPart te) := by
  intro pins s σ H Q I hw
  rw [evalPart_some]
  refine thn (h pins s σ H _ I hw) fun u s1 ⟨x, H1, I1, r1, q1⟩ => ?_
  obtain ⟨i, rfl, q⟩ := q1
  obtain ⟨t, rfl⟩ := r1
  exact ⟨some i, H1, I1, .int i t, q⟩

/-- what a slice of a value is, by values: the slice object stands at sl -/
def SlR (X : Cx) (r : V → Option Int → Option Int → Hp → VK → Prop) : Prop :=
  ∀ (pins : List (Addr × Obj)) (s : Shared) (σ : St) (H : Hp) (x : V) (v vl vu : Value) (lo hi : Option Int) (sl : Addr) (Q : VK), Inv X pins σ H s → RelV x v → s.heap.IsSliceOf sl vl vu .none → IsPart vl lo → IsPart vu hi → r x lo hi H Q →
    ∃ T id, typeLookup (.type T) "__getitem__" = pure (some (.builtin id)) ∧ s.TypeIs v T ∧ wpAny (model X.prog X.w) X.A (getItem v (.ref sl)) (EP X pins σ Q) X.xe s
def tSl (r : V → Option Int → Option Int → Hp → VK → Prop) (te : TE) (tl th : TO) : TE := fun σ H Q => te σ H fun x H1 => tl σ H1 fun l H2 => th σ H2 fun u H3 => r x l u H3 Q
/-- a[lo:hi], any a -/
theorem pe_slice {r : V → Option Int → Option Int → Hp → VK → Prop} (hr : SlR X r) (he : PE X e te) (hl : PO X lo tl) (hu : PO X hi th) : PE X (.Subscript e (.Slice lo hi none p2) pos) (tSl r te tl th) := by
  intro pins s σ H Q I h
  refine Subscript_ (thn (he pins s σ H _ I h) fun v s1 ⟨x, H1, I1, r1, q1⟩ => ?_)
  refine wpAny_Slice (thn (hl pins s1 σ H1 _ I1 q1) fun vl s2 ⟨l, H2, I2, pl, q2⟩ => thn (hu pins s2 σ H2 _ I2 q2) fun vu s3 ⟨u, H3, I3, pu, q3⟩ => ?_)
  rw [evalPart_none]
  refine wpAny_pure ?_
  have I4 : Inv X pins σ H3 { s3 with heap := s3.heap.push { cls := .type "slice", data := .fields #[vl, vu, .none] } } := I3.kept (t' := s3.toks) fun b ob q => Heap.get?_push_of_some _ q
  obtain ⟨T, id, hT, ht, hg⟩ := hr pins { s3 with heap := s3.heap.push { cls := .type "slice", data := .fields #[vl, vu, .none] } } σ H3 x v vl vu l u s3.heap.objs.size Q I4 r1 (Heap.IsSliceOf.new ..) pl pu q3
  show wpAny (model X.prog X.w) X.A (subscriptTail e (.Slice lo hi none p2) v (.ref s3.heap.objs.size)) (EP X pins σ Q) X.xe { s3 with heap := s3.heap.push { cls := .type "slice", data := .fields #[vl, vu, .none] } }
  exact tail_any (ops := [.ref s3.heap.objs.size, v]) ht hT hg (by with_unfolding_all rfl)

/-- the items of xs[lo:hi] -/
def cutV (xs : List V) (lo hi : Option Int) : List V := (xs.drop (HT.sIx xs.length 0 lo)).take (HT.sIx xs.length xs.length hi - HT.sIx xs.length 0 lo)
theorem cutV_length (xs : List V) (lo hi : Option Int) : (cutV xs lo hi).length ≤ xs.length := by
  unfold cutV
  rw [List.length_take, List.length_drop]
  omega

/-! ### t < u, t + u -/
end
end L2

namespace L2
open PySem PySem.Spec PyProof.Rows

/-! ### places -/
/-- the place that an index of any sign means -/
def ixN (n : Nat) (i : Int) : Option Nat := if 0 ≤ i then (if i < n then some i.toNat else none) else if -(n : Int) ≤ i then some (i + n).toNat else none
def atI {α : Type} (xs : List α) (i : Int) : Option α := (ixN xs.length i).bind fun j => xs[j]?
theorem ixN_seq {n : Nat} {i : Int} {j : Nat} (h : ixN n i = some j) : seqIndex? i n = some j ∧ j < n ∧ -(n : Int) ≤ i ∧ i < n := by
  unfold ixN at h
  by_cases h0 : 0 ≤ i
  · rw [if_pos h0] at h
    by_cases h1 : i < n
    · rw [if_pos h1] at h
      have e : i.toNat = j := Option.some.inj h
      exact ⟨by rw [seqIndex_of h0 h1, e], by omega, by omega, h1⟩
    · rw [if_neg h1] at h; cases h
  · rw [if_neg h0] at h
    by_cases h1 : -(n : Int) ≤ i
    · rw [if_pos h1] at h
      have e : (i + n).toNat = j := Option.some.inj h
      exact ⟨by rw [seqIndex_neg (by omega) h1, e], by omega, h1, by omega⟩
    · rw [if_neg h1] at h; cases h
theorem atI_get {α : Type} {xs : List α} {i : Int} {v : α} (h : atI xs i = some v) : ∃ j, seqIndex? i xs.length = some j ∧ xs[j]? = some v ∧ j < xs.length ∧ -(xs.length : Int) ≤ i ∧ i < xs.length := by
  unfold atI at h
  cases e : ixN xs.length i with
  | none => rw [e] at h; cases h
  | some j =>
    rw [e] at h
    obtain ⟨h1, h2, h3, h4⟩ := ixN_seq e
    exact ⟨j, h1, h, h2, h3, h4⟩
theorem atI_nat {α : Type} {xs : List α} {j : Nat} {v : α} (h : xs[j]? = some v) : atI xs (j : Int) = some v := by
  have hj : j < xs.length := (List.getElem?_eq_some_iff.mp h).1
  have e : ixN xs.length (j : Int) = some j := by
    unfold ixN
    rw [if_pos (by omega), if_pos (by omega)]; simp
  unfold atI; rw [e]; exact h
theorem atI_last {α : Type} (xs : List α) (v : α) : atI (xs ++ [v]) (-1) = some v := by
  have hl : (xs ++ [v]).length = xs.length + 1 := by simp
  have e : ixN (xs ++ [v]).length (-1) = some xs.length := by
    unfold ixN
    rw [hl, if_neg (by decide), if_pos (by omega)]
    congr 1
    omega
  unfold atI
  rw [e]
  show (xs ++ [v])[xs.length]? = some v
  simp

/-! ### what may be subscripted -/
/-- what stands as an index of a plain subscript -/
def PlainIx (b : Expr) : Prop := ∀ o i, subscripted b false o i = operate [o, i] (getItem o i)
/-- a subscript by values -/
def IxR (X : Cx) (r : R2) : Prop :=
  ∀ (value slice : Expr) (pins : List (Addr × Obj)) (s : Shared) (σ : St) (H : Hp) (x y : V) (v u : Value) (Q : VK), Inv X pins σ H s → RelV x v → RelV y u → r x y H Q →
    subscripted slice false v u = operate [v, u] (getItem v u) → wpAny (model X.prog X.w) X.A (subscriptTail value slice v u) (EP X pins σ Q) X.xe s
/-- a call of a builtin's method by values: the receiver, the arguments -/
def MtR (X : Cx) (id : String) (r : V → List V → Hp → VK → Prop) : Prop :=
  ∀ (pins : List (Addr × Obj)) (s : Shared) (σ : St) (H : Hp) (x : V) (xs : List V) (v : Value) (us : List Value) (Q : VK), Inv X pins σ H s → RelV x v → Vals xs us → r x xs H Q →
    wpAny (model X.prog X.w) X.A (call (.builtin id) (v :: us)) (EP X pins σ Q) X.xe s
section
variable {X : Cx} {a b : Expr} {ta tb : TE} {pos : Pos}
theorem IxR.or {r r' : R2} (h : IxR X r) (h' : IxR X r') : IxR X (fun x y H Q => r x y H Q ∨ r' x y H Q) := by
  intro value slice pins s σ H x y v u Q I rx ry q hs
  rcases q with q | q
  · exact h value slice pins s σ H x y v u Q I rx ry q hs
  · exact h' value slice pins s σ H x y v u Q I rx ry q hs
/-- a[b] -/
theorem pe_ix {r : R2} (hr : IxR X r) (ha : PE X a ta) (hb : PE X b tb) (hs : PlainIx b) : PE X (.Subscript a b pos) (tOp r ta tb) := by
  intro pins s σ H Q I h
  exact Subscript_ (binT ha hb I h fun v u s2 x y H2 I2 rx ry q => hr a b pins s2 σ H2 x y v u Q I2 rx ry q (hs _ _))

def rIxL (K : PySem.W.Frag) : R2 := fun x y H Q => ∃ p xs i v, x = .ref p ∧ y = .int i ∧ SqL K H p xs ∧ atI xs i = some v ∧ Q v H
def rIxT (K : PySem.W.Frag) : R2 := fun x y H Q => ∃ p xs i v, x = .ref p ∧ y = .int i ∧ SqT K H p xs ∧ atI xs i = some v ∧ Q v H
def rIxS : R2 := fun x y H Q => ∃ z i c, x = .str z ∧ y = .int i ∧ z.length ≤ sizeLine ∧ atI z.cps.toList i = some c ∧ Q (.str ⟨#[c]⟩) H
theorem ix_list : IxR X (rIxL X.K) := by
  intro value slice pins s σ H x y v u Q I rx ry h hs
  obtain ⟨p, xs, i, z, rfl, rfl, hq, he, q⟩ := h
  cases rx
  obtain ⟨t, rfl⟩ := ry
  obtain ⟨its, r, pl, hz⟩ := I.list hq
  obtain ⟨j, h1, h2, h3, h4, h5⟩ := atI_get he
  obtain ⟨w, ew, rw'⟩ := r.get h2
  have hl := r.length
  have hn := line63
  have fin : EP X pins σ Q w s := ⟨z, H, I, rw', q⟩
  by_cases h0 : 0 ≤ i
  · have hj : i.toNat = j := by
      rw [seqIndex_of h0 h5] at h1
      exact Option.some.inj h1
    exact item_listR pl.isList h0 (by omega) (by rw [hj]; simpa using ew) fin hs
  · have hj : (i + (its.toArray.size : Int)).toNat = j := by
      rw [seqIndex_neg (by omega) h4] at h1
      rw [List.size_toArray, ← hl]
      exact Option.some.inj h1
    exact subscriptTail_builtinR (x := w) pl.isList.typeIs slot_list_getitem.lookup
      (wpAny_getItem_list_neg (Q := fun r s' => r = w ∧ EP X pins σ Q r s') pl.isList (by omega) (by rw [List.size_toArray] <;> omega) (by omega) (by rw [hj]; simpa using ew) ⟨rfl, fin⟩) hs
theorem ix_tup : IxR X (rIxT X.K) := by
  intro value slice pins s σ H x y v u Q I rx ry h hs
  obtain ⟨p, xs, i, z, rfl, rfl, hq, he, q⟩ := h
  cases rx
  obtain ⟨t, rfl⟩ := ry
  obtain ⟨its, r, pl, hz⟩ := I.tuple hq
  obtain ⟨j, h1, h2, h3, h4, h5⟩ := atI_get he
  obtain ⟨w, ew, rw'⟩ := r.get h2
  have hl := r.length
  have hn := line63
  have fin : EP X pins σ Q w s := ⟨z, H, I, rw', q⟩
  exact subscriptTail_builtinR (x := w) pl.typeIs slot_tuple_getitem.lookup
    (getItem_tuple (j := j) (Q := fun r s' => r = w ∧ EP X pins σ Q r s') pl (by omega) (by omega) (by rw [List.size_toArray, ← hl]; exact h1) (by simpa using ew) ⟨rfl, fin⟩) hs
theorem ix_str : IxR X rIxS := by
  intro value slice pins s σ H x y v u Q I rx ry h hs
  obtain ⟨z, i, c, rfl, rfl, hz, he, q⟩ := h
  obtain ⟨t, rfl⟩ := rx
  obtain ⟨t', rfl⟩ := ry
  obtain ⟨j, h1, h2, h3, h4, h5⟩ := atI_get he
  have hl : z.cps.toList.length = z.length := by simp [Str.length]
  rw [hl] at h1 h4 h5
  have hn := line63
  exact tail_any (typeIs_str s z t) slot_str_getitem.lookup (getItem_str (c := c) (by
    have e1 : decide (i < -(2 ^ 63 : Int)) = false := decide_eq_false (by omega)
    have e2 : decide (i ≥ 2 ^ 63) = false := decide_eq_false (by omega)
    rw [e1, e2, Bool.or_false]) (by rw [h1]; simpa using h2) ⟨.str ⟨#[c]⟩, H, I.tok _, ⟨_, rfl⟩, q⟩) hs
/-- list, tuple or str -/
def rIx (K : PySem.W.Frag) : R2 := fun x y H Q => rIxL K x y H Q ∨ rIxT K x y H Q ∨ rIxS x y H Q
theorem ix_seq : IxR X (rIx X.K) := ix_list.or (ix_tup.or ix_str)

/-! ### xs[i] = v, any sign -/
/-- the list's object behind a store -/
theorem mapSeq_set (its : List Value) (n j : Nat) (u : Value) : Obj.mapSeq (·.setIfInBounds j u) { cls := .type "list", data := .seq its.toArray n } = { cls := .type "list", data := .seq (its.set j u).toArray n } := by
  simp [Obj.mapSeq]
theorem Inv.lst {pins : List (Addr × Obj)} {σ : St} {H : Hp} {s : Shared} {p : Addr} {xs : List V} (I : Inv X pins σ H s) (h : H p = some (.lst xs)) :
    ∃ (its : List Value) (n : Nat), Vals xs its ∧ s.heap.get? p = some { cls := .type "list", data := .seq its.toArray n } ∧ xs.length ≤ sizeLine := by
  obtain ⟨z, its, n, r, e⟩ := I.hok p _ h
  exact ⟨its, n, r, e, z⟩
/-- the list at p is written by an update of its object -/
theorem Inv.lstUpd {pins : List (Addr × Obj)} {σ : St} {H : Hp} {s : Shared} {p : Addr} {xs ys : List V} {its its' : List Value} {n n' : Nat} {f : Obj → Obj} (I : Inv X pins σ H s) (h : H p = some (.lst xs))
    (ho : s.heap.get? p = some { cls := .type "list", data := .seq its.toArray n }) (hf : f { cls := .type "list", data := .seq its.toArray n } = { cls := .type "list", data := .seq its'.toArray n' }) (r : Vals ys its') (hz : ys.length ≤ sizeLine) (t : Nat) :
    Inv X pins σ (upd H p (.lst ys)) { s with heap := s.heap.update p f, toks := t } := by
  have e : (s.heap.update p f).get? p = some { cls := .type "list", data := .seq its'.toArray n' } := by
    rw [Heap.get?_update_self f ho (by rw [hf] <;> rfl), hf]
  refine I.write (x := p) (e := p) (by rw [h]; trivial) (.inl rfl) (fun b u hb q => (Heap.get?_update_other _ _ (Ne.symm hb)).trans q) ⟨_, e⟩ ?_
  exact ⟨hz, its', n', r, e⟩
def rSetL : V → V → V → Hp → (Hp → Prop) → Prop := fun o i v H Q => ∃ p xs k j, o = .ref p ∧ i = .int k ∧ H p = some (.lst xs) ∧ ixN xs.length k = some j ∧ Q (upd H p (.lst (xs.set j v)))
theorem set_list : PSet X rSetL := by
  intro pins s σ H o i v ov iv u Q I ro ri rv h
  obtain ⟨p, xs, k, j, rfl, rfl, hp, hj, q⟩ := h
  cases ro
  obtain ⟨t, rfl⟩ := ri
  obtain ⟨its, n, r, ho, hz⟩ := I.lst hp
  obtain ⟨h1, h2, h3, h4⟩ := ixN_seq hj
  have hl := r.length
  have hn := line63
  have I' : Inv X pins σ (upd H p (.lst (xs.set j v))) { s with heap := s.heap.update p (Obj.mapSeq (·.setIfInBounds j u)) } :=
    I.lstUpd hp ho (mapSeq_set its n j u) (r.set rv j) (by rw [List.length_set]; exact hz) s.toks
  by_cases h0 : 0 ≤ k
  · have hk : k.toNat = j := by
      rw [seqIndex_of h0 h4] at h1
      exact Option.some.inj h1
    exact PySem.W.ki_setAt ho h0 (by omega) (by rw [List.size_toArray, ← hl]; exact h4) (by rw [hk]; exact ⟨_, I', q⟩)
  · have hk : (k + (its.toArray.size : Int)).toNat = j := by
      rw [seqIndex_neg (by omega) h3] at h1
      rw [List.size_toArray, ← hl]
      exact Option.some.inj h1
    exact PySem.W.ki_setBack ho (by omega) (by rw [List.size_toArray, ← hl]; exact h3) (by omega) (by rw [hk]; exact ⟨_, I', q⟩)

/-! ### slices -/
theorem slice_bounds (lo hi : Option Int) (n : Nat) : (sliceBounds lo hi none n).1 = ((HT.sIx n 0 lo : Nat) : Int) ∧ (sliceBounds lo hi none n).2.1 = ((HT.sIx n n hi : Nat) : Int) ∧ (sliceBounds lo hi none n).2.2 = 1 := by
  refine ⟨?_, ?_, rfl⟩
  · cases lo with
    | none => simp [sliceBounds, HT.sIx]
    | some i =>
      simp only [sliceBounds, HT.sIx, Option.getD_none, show (1 : Int) > 0 by decide, if_true]
      by_cases h : i < 0
      · simp only [h, if_true] <;> omega
      · simp only [h, if_false] <;> omega
  · cases hi with
    | none => simp [sliceBounds, HT.sIx]
    | some i =>
      simp only [sliceBounds, HT.sIx, Option.getD_none, show (1 : Int) > 0 by decide, if_true]
      by_cases h : i < 0
      · simp only [h, if_true] <;> omega
      · simp only [h, if_false] <;> omega
theorem slicePick_cut (its : List Value) (lo hi : Option Int) : slicePick its.toArray lo hi none = ((its.drop (HT.sIx its.length 0 lo)).take (HT.sIx its.length its.length hi - HT.sIx its.length 0 lo)).toArray := by
  obtain ⟨h1, h2, h3⟩ := slice_bounds lo hi its.toArray.size
  unfold slicePick
  rw [h1, h2, h3]
  simp only [sliceRange_one, pick_run, List.size_toArray] <;> rfl
/-- xs[lo:hi] of a list: a new list -/
def rSlL (K : PySem.W.Frag) : V → Option Int → Option Int → Hp → VK → Prop := fun x lo hi H Q => ∃ a xs, x = .ref a ∧ SqL K H a xs ∧ ∀ p, H p = none → Q (.ref p) (upd H p (.lst (cutV xs lo hi)))
theorem sl_list : SlR X (rSlL X.K) := by
  intro pins s σ H x v vl vu lo hi sl Q I rx hs pl pu h
  obtain ⟨a, xs, rfl, hx, q⟩ := h
  cases rx
  obtain ⟨its, r, ht, hz⟩ := I.list hx
  have hlen := r.length
  refine ⟨"list", _, slot_list_getitem.lookup, ht.isList.typeIs, ?_⟩
  refine wpAny_getItem_list_slice ht.isList hs pl pu .none (by simp) ?_ (by rw [List.size_toArray] <;> omega)
  rw [slicePick_cut, ← hlen]
  refine ⟨.ref s.heap.objs.size, _, I.laid (t' := s.toks) (o := .lst (cutV xs lo hi)) (fun b ob q => Heap.get?_push_of_some _ q) (Nat.le_refl _) ?_, rfl, q _ (I.hok.fresh (Nat.le_refl _))⟩
  exact ⟨Nat.le_trans (cutV_length xs lo hi) hz, _, 0, (r.drop (HT.sIx xs.length 0 lo)).take (HT.sIx xs.length xs.length hi - HT.sIx xs.length 0 lo), Heap.get?_push_size _ rfl⟩

/-! ### in, not in: flat items -/
def flatV : V → Bool
  | .non => true
  | .bl _ => true
  | .int _ => true
  | .str _ => true
  | _ => false
/-- == of flat values -/
def eqV : V → V → Bool
  | .non, .non => true
  | .bl a, .bl b => a == b
  | .bl a, .int b => (if a then 1 else 0) == b
  | .int a, .bl b => a == (if b then 1 else 0)
  | .int a, .int b => a == b
  | .str a, .str b => a == b
  | _, _ => false
theorem eqAt_V {A : Around} {s : Shared} {y x : V} {u v : Value} (ry : RelV y u) (rx : RelV x v) (fy : flatV y = true) (fx : flatV x = true) : SeqAt.EqAt A s u v (eqV y x) := by
  cases y with
  | non =>
    cases ry
    cases x with
    | non => cases rx; exact SeqAt.EqAt.same _
    | bl b => cases rx; exact SeqAt.EqAt.none_bool b
    | int b => obtain ⟨t, rfl⟩ := rx; exact SeqAt.EqAt.none_int b t
    | str b => obtain ⟨t, rfl⟩ := rx; exact SeqAt.EqAt.none_str b t
    | _ => exact absurd (show false = true from fx) Bool.false_ne_true
  | bl a =>
    cases ry
    cases x with
    | non => cases rx; exact SeqAt.EqAt.bool_none a
    | bl b => cases rx; exact SeqAt.EqAt.bool_bool a b
    | int b => obtain ⟨t, rfl⟩ := rx; exact SeqAt.EqAt.bool_int a b t
    | str b => obtain ⟨t, rfl⟩ := rx; exact SeqAt.EqAt.bool_str a b t
    | _ => exact absurd (show false = true from fx) Bool.false_ne_true
  | int a =>
    obtain ⟨t', rfl⟩ := ry
    cases x with
    | non => cases rx; exact SeqAt.EqAt.int_none a t'
    | bl b => cases rx; exact SeqAt.EqAt.int_bool a t' b
    | int b => obtain ⟨t, rfl⟩ := rx; exact SeqAt.EqAt.int_int a t' b t
    | str b => obtain ⟨t, rfl⟩ := rx; exact SeqAt.EqAt.int_str a t' b t
    | _ => exact absurd (show false = true from fx) Bool.false_ne_true
  | str a =>
    obtain ⟨t', rfl⟩ := ry
    cases x with
    | non => cases rx; exact SeqAt.EqAt.str_none a t'
    | bl b => cases rx; exact SeqAt.EqAt.str_bool a t' b
    | int b => obtain ⟨t, rfl⟩ := rx; exact SeqAt.EqAt.str_int a t' b t
    | str b => obtain ⟨t, rfl⟩ := rx; exact SeqAt.EqAt.str_str a t' b t
    | _ => exact absurd (show false = true from fx) Bool.false_ne_true
  | _ => exact absurd (show false = true from fy) Bool.false_ne_true
/-- the items' answers, read off the values (a value's own answer does not lean on its token) -/
def eqU (x : V) (u : Value) : Bool := match u with
  | .none => eqV .non x
  | .bool b => eqV (.bl b) x
  | .int i _ => eqV (.int i) x
  | .str z _ => eqV (.str z) x
  | _ => false
theorem eqU_of {x y : V} {u : Value} (r : RelV y u) (f : flatV y = true) : eqU x u = eqV y x := by
  cases y with
  | non => cases r; rfl
  | bl b => cases r; rfl
  | int i => obtain ⟨t, rfl⟩ := r; rfl
  | str z => obtain ⟨t, rfl⟩ := r; rfl
  | _ => exact absurd (show false = true from f) Bool.false_ne_true
theorem any_eqU {x : V} : ∀ {xs : List V} {us : List Value}, Vals xs us → xs.all flatV = true → us.any (eqU x) = xs.any fun y => eqV y x
  | _, _, .nil, _ => rfl
  | y :: xs, u :: us, .cons r t, f => by
    rw [List.all_cons, Bool.and_eq_true] at f
    rw [List.any_cons, List.any_cons, eqU_of r f.1, any_eqU t f.2]
theorem mem_eqAt {A : Around} {s : Shared} {x : V} {v : Value} (rx : RelV x v) (fx : flatV x = true) : ∀ {xs : List V} {us : List Value}, Vals xs us → xs.all flatV = true → ∀ u ∈ us, SeqAt.EqAt A s u v (eqU x u)
  | _, _, .nil, _ => fun u hu => by cases hu
  | y :: xs, u :: us, .cons r t, f => fun u' hu => by
    rw [List.all_cons, Bool.and_eq_true] at f
    rcases List.mem_cons.mp hu with rfl | hu
    · rw [eqU_of r f.1]; exact eqAt_V r rx f.1 fx
    · exact mem_eqAt rx fx t f.2 u' hu
def inV (x : V) (xs : List V) : Bool := xs.any fun y => eqV y x
/-- x in a list or tuple of flat items -/
def rIn (K : PySem.W.Frag) (neg : Bool) : R2 := fun x y H Q => ∃ p xs, y = .ref p ∧ (SqL K H p xs ∨ SqT K H p xs) ∧ flatV x = true ∧ xs.all flatV = true ∧ Q (.bl (if neg then !inV x xs else inV x xs)) H
theorem op_in_seq : OpR X (compareOp .In) (rIn X.K false) := by
  intro pins s σ H x y v u Q I rx ry h
  obtain ⟨p, xs, rfl, hq, fx, fs, q⟩ := h
  cases ry
  rcases hq with hq | hq
  · obtain ⟨its, r, pl, hz⟩ := I.list hq
    refine SeqAt.in_listAt (eqU x) pl.isList (fun w hw => mem_eqAt rx fx r fs w (by simpa using hw)) ⟨.bl _, H, I, rfl, ?_⟩
    rw [show its.toArray.any (eqU x) = its.any (eqU x) by simp, any_eqU r fs]
    exact q
  · obtain ⟨its, r, pl, hz⟩ := I.tuple hq
    refine SeqAt.in_tupleAt (eqU x) pl (fun w hw => mem_eqAt rx fx r fs w (by simpa using hw)) ⟨.bl _, H, I, rfl, ?_⟩
    rw [show its.toArray.any (eqU x) = its.any (eqU x) by simp, any_eqU r fs]
    exact q
theorem op_notIn_seq : OpR X (compareOp .NotIn) (rIn X.K true) := by
  intro pins s σ H x y v u Q I rx ry h
  obtain ⟨p, xs, rfl, hq, fx, fs, q⟩ := h
  cases ry
  rcases hq with hq | hq
  · obtain ⟨its, r, pl, hz⟩ := I.list hq
    refine SeqAt.notIn_listAt (eqU x) pl.isList (fun w hw => mem_eqAt rx fx r fs w (by simpa using hw)) ⟨.bl _, H, I, rfl, ?_⟩
    rw [show its.toArray.any (eqU x) = its.any (eqU x) by simp, any_eqU r fs]
    exact q
  · obtain ⟨its, r, pl, hz⟩ := I.tuple hq
    refine SeqAt.notIn_tupleAt (eqU x) pl (fun w hw => mem_eqAt rx fx r fs w (by simpa using hw)) ⟨.bl _, H, I, rfl, ?_⟩
    rw [show its.toArray.any (eqU x) = its.any (eqU x) by simp, any_eqU r fs]
    exact q

/-! ### len, list(x), tuple(x) of any list or tuple that is read -/

/-! ### the call of a builtin's method: o.m(..) -/
/-- the value is of that builtin type -/
def tyV (K : PySem.W.Frag) (T : String) (x : V) (H : Hp) : Prop := match x with
  | .str _ => T = "str"
  | .int _ => T = "int"
  | .ref p => (T = "list" ∧ ∃ xs, SqL K H p xs) ∨ (T = "tuple" ∧ ∃ o, K.lookup p = some o ∧ o.cls = .type "tuple" ∧ o.dict = none) ∨
      (T = "dict" ∧ ((∃ kvs, H p = some (.dK kvs)) ∨ ∃ kvs, H p = some (.dT kvs))) ∨ (T = "set" ∧ ∃ S n, H p = some (.set S n))
  | _ => False
theorem tyV_is {pins : List (Addr × Obj)} {σ : St} {H : Hp} {s : Shared} {T : String} {x : V} {v : Value} (I : Inv X pins σ H s) (r : RelV x v) (ty : tyV X.K T x H) :
    s.TypeIs v T ∧ ∀ a, v = .ref a → ∃ ob, s.heap.get? a = some ob ∧ ob.dict = none := by
  cases x with
  | str z =>
    obtain ⟨t, rfl⟩ := r
    cases (show T = "str" from ty)
    exact ⟨typeIs_str s z t, fun _ e => nomatch e⟩
  | int i =>
    obtain ⟨t, rfl⟩ := r
    cases (show T = "int" from ty)
    exact ⟨typeIs_int s i t, fun _ e => nomatch e⟩
  | ref p =>
    cases r
    rcases ty with ⟨rfl, xs, hq⟩ | ⟨rfl, o, hk, hc, hd⟩ | ⟨rfl, hk⟩ | ⟨rfl, S, n, hk⟩
    · obtain ⟨its, _, pl, _⟩ := I.list hq
      refine ⟨pl.isList.typeIs, fun a e => ?_⟩
      cases e
      obtain ⟨o, n, e, c, hd, _⟩ := pl
      exact ⟨o, e, hd⟩
    · refine ⟨⟨o, I.kIn p o hk, hc⟩, fun a e => ?_⟩
      cases e
      exact ⟨o, I.kIn _ o hk, hd⟩
    · have z : ∃ o, s.heap.get? p = some o ∧ o.ExactDict := by
        rcases hk with ⟨kvs, hk⟩ | ⟨kvs, hk⟩
        · obtain ⟨_, _, _, _, o, _, _, e, ex, _⟩ := I.hok p _ hk
          exact ⟨o, e, ex⟩
        · obtain ⟨_, _, _, _, o, _, _, e, ex, _⟩ := I.hok p _ hk
          exact ⟨o, e, ex⟩
      obtain ⟨o, e, ex⟩ := z
      refine ⟨⟨o, e, ex.1⟩, fun a e2 => ?_⟩
      cases e2
      exact ⟨o, e, ex.2.1⟩
    · obtain ⟨o, _, _, _, e, ex, _⟩ := I.hok p _ hk
      refine ⟨⟨o, e, ex.1⟩, fun a e2 => ?_⟩
      cases e2
      exact ⟨o, e, ex.2.1⟩
  | _ => exact False.elim ty
def tBM (K : PySem.W.Frag) (T : String) (r : V → List V → Hp → VK → Prop) (to : TE) (t : TA) : TE := fun σ H Q => to σ H fun x H1 => tyV K T x H1 ∧ t σ H1 fun xs H2 => r x xs H2 Q
variable {o e : Expr} {es : List Expr} {to : TE} {t : TA} {name : Str} {apos cpos : Pos} {T id : String} {r : V → List V → Hp → VK → Prop}
theorem pe_bm (pa : PlainAttrs T) (slot : Slot T name id) (hty : typeOf (.builtin id) = pure (.type "method_descriptor")) (hm : MtR X id r) (ho : PE X o to) (ha : PA X (e :: es) t)
    (hbase : attributeBase o name X.env (eval o X.env) = eval o X.env := by rfl)
    (hfew : ((backTo cpos (starEach (e :: es) X.env)).all (fun x => !x.1) && (backToKw cpos (keywordEach [] X.env)).all (fun x => x.1.isSome)
      && decide ((e :: es).length + ([] : List Keyword).length + (if ([] : List Keyword).isEmpty then 0 else 1) < 30)) = true := by rfl)
    (hline : (apos.endLine == cpos.line) = true := by rfl) (hs : starEach (e :: es) X.env = (false, eval e X.env) :: starEach es X.env := by rfl) (hplain : (backTo cpos (starEach es X.env)).any (·.1) = false := by rfl) :
    PE X (.Call (.Attribute o name apos) (e :: es) [] cpos) (tBM X.K T r to t) := by
  intro pins s σ H Q I h
  refine wpAny_Call_method_late hbase hfew hline rfl (thn (ho pins s σ H _ I h) fun v s1 ⟨x, H1, I1, r1, ty, q1⟩ => ?_)
  obtain ⟨h1, h2⟩ := tyV_is I1 r1 ty
  refine ⟨T, id, pa, slot, hty, h1, h2, ?_⟩
  have hA := ha cpos pins s1 σ H1 _ I1 q1
  rw [hs] at hA ⊢
  refine Calls.callWith_builtin (by show (false || (backTo cpos (starEach es X.env)).any (·.1)) = false; rw [hplain] <;> rfl) (Calls.evalArgs_plain ?_)
  exact thn hA fun us s2 ⟨vs, H2, I2, r2, q2⟩ => hm pins s2 σ H2 x vs v us Q I2 r1 r2 q2
/- xs.append(e), list.index on a module's tuple .. are MtR facts of 06m -/
end
end L2

namespace L2
open PySem PySem.Spec PyProof.Rows

def MtM (X : Cx) (id : String) (r : V → List V → Hp → VK → Prop) : Prop :=
  ∀ (pins : List (Addr × Obj)) (s : Shared) (σ : St) (H : Hp) (x : V) (xs : List V) (v : Value) (us : List Value) (Q : VK), Inv X pins σ H s → RelV x v → Vals xs us → r x xs H Q →
    wpAny (model X.prog X.w) X.A (call (.builtin id) (v :: us)) (EP X pins σ Q) X.xe s

/-! ### lists of values -/
theorem Vals.one : ∀ {x : V} {us : List Value}, Vals [x] us → ∃ u, us = [u] ∧ RelV x u
  | _, _, .cons r .nil => ⟨_, rfl, r⟩
theorem Vals.rep {xs : List V} {us : List Value} (h : Vals xs us) : ∀ k : Nat, Vals (List.replicate k xs).flatten (List.replicate k us).flatten
  | 0 => .nil
  | k + 1 => by
    rw [List.replicate_succ, List.replicate_succ, List.flatten_cons, List.flatten_cons]
    exact Vals.append h (Vals.rep h k)
theorem foldl_rep (its : List Value) : ∀ (k : Nat) (acc : List Value),
    List.foldl (fun x1 x2 => x1 ++ x2) acc.toArray (List.replicate k its.toArray) = (acc ++ (List.replicate k its).flatten).toArray
  | 0, acc => by simp
  | k + 1, acc => by
    have e : acc.toArray ++ its.toArray = (acc ++ its).toArray := by simp
    have e2 : (acc ++ its) ++ (List.replicate k its).flatten = acc ++ (List.replicate (k + 1) its).flatten := by
      rw [List.replicate_succ, List.flatten_cons, List.append_assoc]
    rw [← e2, ← foldl_rep its k (acc ++ its), ← e, List.replicate_succ, List.foldl_cons]

section
variable {X : Cx} {pins : List (Addr × Obj)} {σ : St} {H : Hp} {s : Shared} {l b : Addr} {xs ys zs : List V}

/-! ### the two steps: a tracked list is rewritten, a new list is laid -/
theorem Inv.lset {its its' : List Value} {n : Nat} {f : Array Value → Array Value} {t' : Nat} (I : Inv X pins σ H s) (hH : H l = some (.lst xs))
    (e : s.heap.get? l = some { cls := .type "list", data := .seq its.toArray n }) (hf : f its.toArray = its'.toArray) (hv : Vals ys its') (hz : ys.length ≤ sizeLine) :
    Inv X pins σ (upd H l (.lst ys)) { s with heap := s.heap.update l (Obj.mapSeq f), toks := t' } := by
  have q := PySem.IsL.update e f
  rw [hf] at q
  refine I.write (x := l) (e := l) (by rw [hH]; exact trivial) (.inl rfl) (fun b' u hb hu => (Heap.get?_update_other s.heap (Obj.mapSeq f) (Ne.symm hb)).trans hu) ⟨_, q⟩ ?_
  exact ⟨hz, its', _, hv, q⟩
theorem Inv.lnew {its : List Value} {t' : Nat} (I : Inv X pins σ H s) (hv : Vals ys its) (hz : ys.length ≤ sizeLine) :
    Inv X pins σ (upd H s.heap.objs.size (.lst ys)) { s with heap := s.heap.push { cls := .type "list", data := .seq its.toArray }, toks := t' } :=
  I.laid (fun _ _ q => Heap.get?_push_of_some _ q) (Nat.le_refl _) ⟨hz, its, 0, hv, Heap.get?_push_size _ rfl⟩
theorem Inv.fresh (I : Inv X pins σ H s) : H s.heap.objs.size = none := I.hok.fresh (Nat.le_refl _)
theorem Inv.lstM (I : Inv X pins σ H s) (hH : H l = some (.lst xs)) : xs.length ≤ sizeLine ∧ ∃ (its : List Value) (n : Nat), Vals xs its ∧ xs.length = its.length ∧ s.heap.get? l = some { cls := .type "list", data := .seq its.toArray n } := by
  obtain ⟨z, its, n, r, e⟩ := I.hok l _ hH
  exact ⟨z, its, n, r, r.length, e⟩

theorem notLongL {n : Nat} (h : n ≤ sizeLine) : Builtin.List.listTooLong n = false := by
  unfold Builtin.List.listTooLong
  exact decide_eq_false (by omega)
end

section
variable {X : Cx}

/-! ### methods -/
def rAppend : V → List V → Hp → VK → Prop := fun x vs H Q => ∃ l xs y, x = .ref l ∧ vs = [y] ∧ H l = some (.lst xs) ∧ xs.length < sizeLine ∧ Q .non (upd H l (.lst (xs ++ [y])))
theorem mt_append : MtM X "list.append" rAppend := by
  intro pins s σ H x vs v us Q I rx rv h
  obtain ⟨l, xs, y, rfl, rfl, hH, hz, q⟩ := h
  cases rx
  obtain ⟨u, rfl, ru⟩ := rv.one
  obtain ⟨z, its, n, r, hl, e⟩ := I.lstM hH
  refine call_meets F.slot_list_append ⟨_, e, rfl⟩ F.entry_list_append (F.args_list_append_2 _ _) (PySem.list_append l its.toArray n u (by rw [List.size_toArray]; omega)) ⟨e, ?_⟩
  refine ⟨.non, _, I.lset (its' := its ++ [u]) hH e (by simp) (r.append (.cons ru .nil)) ?_, rfl, q⟩
  rw [List.length_append, List.length_singleton]
  omega






/-! ### list + list, list += list, list * int -/
def rCat : R2 := fun x y H Q => ∃ l b xs zs, x = .ref l ∧ y = .ref b ∧ H l = some (.lst xs) ∧ H b = some (.lst zs) ∧ xs.length + zs.length ≤ sizeLine ∧ ∀ p, H p = none → Q (.ref p) (upd H p (.lst (xs ++ zs)))
theorem op_cat : OpR X (binaryOp .Add) rCat := by
  intro pins s σ H x y v u Q I rx ry h
  obtain ⟨l, b, xs, zs, rfl, rfl, hH, hB, hz, q⟩ := h
  cases rx
  cases ry
  obtain ⟨z, its, n, r, hl, e⟩ := I.lstM hH
  obtain ⟨z2, its2, n2, r2, hl2, e2⟩ := I.lstM hB
  refine PySem.P.add_list e e2 ?_ (by rw [List.size_toArray, List.size_toArray]; omega)
  have ea : its.toArray ++ its2.toArray = (its ++ its2).toArray := by simp
  rw [ea]
  exact ⟨.ref _, _, I.lnew (t' := s.toks) (r.append r2) (by rw [List.length_append]; omega), rfl, q _ I.fresh⟩
/-- a list times an int (a negative one is nothing) -/
def rRep : R2 := fun x y H Q => ∃ l k xs, x = .ref l ∧ y = .int k ∧ H l = some (.lst xs) ∧ -(2 ^ 63) ≤ k ∧ k < 2 ^ 63 ∧ xs.length * k.toNat ≤ sizeLine ∧
  ∀ p, H p = none → Q (.ref p) (upd H p (.lst (List.replicate k.toNat xs).flatten))
theorem len_rep {α : Type} (xs : List α) (k : Nat) : (List.replicate k xs).flatten.length = k * xs.length := by
  induction k with
  | zero => simp
  | succ k ih => rw [List.replicate_succ, List.flatten_cons, List.length_append, ih, Nat.succ_mul, Nat.add_comm]
theorem op_rep : OpR X (binaryOp .Mult) rRep := by
  intro pins s σ H x y v u Q I rx ry h
  obtain ⟨l, k, xs, rfl, rfl, hH, h1, h2, hz, q⟩ := h
  cases rx
  obtain ⟨t, rfl⟩ := ry
  obtain ⟨z, its, n, r, hl, e⟩ := I.lstM hH
  have hlen : its.toArray.size * k.toNat ≤ sizeLine := by rw [List.size_toArray, ← hl]; exact hz
  have hcap : ¬ its.toArray.size * k.toNat > (2 ^ 63 - 1) / 8 := by
    have : (sizeLine : Nat) ≤ (2 ^ 63 - 1) / 8 := by decide
    omega
  have hfit : ¬ (!Builtin.List.listFitsIndex k) = true := by
    rw [fitsIndex_both h1 h2]
    exact Bool.false_ne_true
  have hlong : ¬ Builtin.List.listTooLong (its.toArray.size * k.toNat) = true := by
    rw [notLongL hlen]
    exact Bool.false_ne_true
  have hnew : List.foldl (fun x1 x2 => x1 ++ x2) #[] (List.replicate (if its.toArray.isEmpty = true then 0 else k.toNat) its.toArray) = (List.replicate k.toNat its).flatten.toArray := by
    have f0 : ∀ m : Nat, List.foldl (fun x1 x2 => x1 ++ x2) #[] (List.replicate m its.toArray) = (List.replicate m its).flatten.toArray := fun m => by
      have := foldl_rep its m []
      rw [List.nil_append] at this
      exact this
    rw [f0]
    cases its with
    | nil => simp
    | cons a r' => rw [if_neg (by simp)]
  refine wpAny_binaryOp_repeat_ref (T := "list") (U := "int") (by decide) ⟨_, e, rfl⟩ (fun s' => typeIs_int s' k t) noFill_list_mul F.fills_int_mul F.slot_int_rmul repeat_list F.slot_int_index.lookup
    (call_meets F.slot_int_rmul (typeIs_int s k t) F.entry_int_rmul (F.args_int_rmul_2 _ _) (int___rmul___int_list k t l its.toArray n)
      ⟨e, rfl, ⟨_, e, rfl⟩, call_meets F.slot_list_mul ⟨_, e, rfl⟩ F.entry_list_mul (F.args_list_mul_2 _ _) (AutoListH.list___mul___list_int_3 l its.toArray n k t hfit hcap hlong) ⟨e, ?_⟩⟩)
  rw [hnew]
  exact ⟨.ref _, _, I.lnew (t' := s.toks) (r.rep k.toNat) (by rw [len_rep, Nat.mul_comm]; exact hz), rfl, q _ I.fresh⟩

/-! ### del xs[i] -/
end

/-! ### xs[a:b] = ys -/
section
variable {prog : Program} {w : World} {A : Around} {E : Value → Shared → Prop} {s : Shared}
end

section
variable {X : Cx}
end
end L2

namespace L2
open PySem PySem.Spec PyProof.Rows

/-! ### lists of pairs as tables -/
section
variable {κ : Type} [DecidableEq κ]



end


/-! ### a tracked dict, its keys ints and texts or tuples of these -/


section
variable {P : Program} {w : World} {H : Hp} {h : Heap} {a : Addr}
end



section
variable {X : Cx} {pins : List (Addr × Obj)} {σ : St} {H : Hp} {s : Shared} {a : Addr} {y v : V} {u r : Value} {o : Option V} {A : Around} {E : Value → Shared → Prop}


end

section
variable {X : Cx} {pins : List (Addr × Obj)} {σ : St} {H : Hp} {s : Shared} {a : Addr} {kvs : List (Key × V)} {k : Key} {u : Value} {A : Around} {E : Value → Shared → Prop}
end


/-! ### readings and rules -/



section
variable {X : Cx} {o i e value : Expr} {pos pos' tpos : Pos} {td ty tv : TE}
end


/-! ### displays -/
section
variable {X : Cx} {pos : Pos}
end




/-! ### methods -/


section
variable {X : Cx} {pins : List (Addr × Obj)} {σ : St} {H : Hp} {s : Shared} {a : Addr} {y d : V} {u r : Value} {o : Option V} {A : Around} {E : Value → Shared → Prop}
end

section
variable {X : Cx} {o e f : Expr} {apos cpos : Pos} {td ty tx : TE}
end

/-! ### dict(d): a copy -/
section
variable {X : Cx} {pins : List (Addr × Obj)} {σ : St} {H : Hp} {s : Shared} {a : Addr} {kvs : List (Key × V)} {A : Around} {E : Value → Shared → Prop}
end


section
variable {X : Cx} {pins : List (Addr × Obj)} {σ : St} {H : Hp} {s : Shared} {a : Addr} {y : V} {u : Value} {A : Around} {E : Value → Shared → Prop}
end
end L2

namespace Att
open PySem PySem.W PySem.Calls PyProof.Rows

/-! ### the script -/
theorem ints_of_wellAll {P : Params} {h : Heap} : ∀ (ns : List Int) (vs : List Value), WellAll P h vs (ns.map WData.int) → IntsAre vs ns := by
  intro ns
  induction ns with
  | nil =>
    intro vs w
    rw [List.map_nil] at w
    cases w
    exact .nil
  | cons n ns ih =>
    intro vs w
    rw [List.map_cons] at w
    cases w with
    | cons a b =>
      cases a
      exact .cons _ _ (ih _ b)

theorem script_of {l : OpenLaw} {n : Nat} (hn : l.most = some n) {P : Params} {h : Heap} {args : List WData} {vals : List Value}
    (hpre : l.row.toRowW.claim.pre args = true) (hwl : WellAll P h vals args) :
    ∃ a vs ns, vals = [Value.ref a] ∧ args = [WData.list (ns.map WData.int)] ∧ h.get? a = some { cls := .type "list", data := .seq vs.toArray } ∧ IntsAre vs ns ∧ ns.length ≤ n := by
  have hsh : WShape.hasAll [] args [.list .int] = true := (pre_splitW hpre).1
  have hc : l.pre.holds [] { args := args } = true := (pre_splitW hpre).2
  obtain ⟨d, r, rfl, h1, h2⟩ := hasAllW_cons hsh
  obtain rfl := hasAllW_nil h2
  obtain ⟨xs, rfl, h3⟩ := hasW_list h1
  obtain ⟨ns, rfl⟩ := items_int h3
  have hlen : ns.length ≤ n := by
    unfold OpenLaw.pre at hc
    have h4 : (WTm.not (.lt (.lit (.int (n : Int))) (.len (.arg 0)))).holds [] { args := [.list (ns.map .int)] } = true := by
      have h4 := (holds_andW hc).1
      rw [hn] at h4
      exact h4
    have h5 := condW_of h4 (w_not (w_lt w_lit (w_len_list (w_arg rfl))))
    rw [List.length_map] at h5
    refine Nat.le_of_not_lt fun q => ?_
    have q' : (n : Int) < ((ns.length : Nat) : Int) := by omega
    first
      | (rw [decide_eq_true q'] at h5; exact absurd h5 (by decide))
      | (simp at h5; omega)
  cases hwl with
  | cons w1 w2 =>
    cases w2
    cases w1 with
    | list ho hall => exact ⟨_, _, ns, rfl, rfl, ho, ints_of_wellAll ns _ hall, hlen⟩

theorem post_true (l : OpenLaw) (args : List WData) : l.row.toRowW.claim.post args (.bool true) args = true :=
  postW_of (r := l.row.toRowW) (X := (true == true))
    (show WShape.has [] (.bool true) .bool = true by first | rfl | decide | simp [WShape.has, WShape.arms, WShape.armsAll])
    (show (WTm.eq .res (.lit (.bool true))).value [] { args := args, res := some (.bool true), after := args } = some (.bool (true == true)) from w_eq_bool (w_res rfl) w_lit) rfl

/-! ### the attachment: holds_open's last premise (the goal 'hc' behind k_head) from a wpAny of the law's body -/

/-- the same from a codeAny of the CALL (for a layer whose function contracts speak of calls) -/
theorem attach_call {l : OpenLaw} {n : Nat} {q : Program} {loose : List Str} {XP : (Str → Option Value) → Heap → Prop} {YP : World → Heap → Prop} {d : DefRec}
    (hn : l.most = some n) (hdf : d.params.defaults = [])
    (call : ∀ (w : World) (s₀ s₁ : Shared) (mg mb : Str → Option Value) (fa : Addr) (o : Obj) (pm cd doc : Value) (a : Addr) (vs : List Value) (ns : List Int),
      Ground q loose [] XP w s₀ mg mb s₁.heap → YP w s₁.heap →
      s₁.heap.get? fa = some o → o.data = .func (docDef d.name d.params d.body d.scope pm cd doc) → s₁.heap.CodeRec cd d.name → mg d.name = some (.ref fa) →
      s₁.heap.get? a = some { cls := .type "list", data := .seq vs.toArray } → IntsAre vs ns → ns.length ≤ n → s₁.gens = #[] →
      codeAny (model l.prog w) callerA (.call (.ref fa) ⟨[.ref a], []⟩) (fun r s' => r = .ok (.ret (.bool true)) ∧ OldK s₁.heap s'.heap ∧ s'.os = s₁.os ∧ AllBare s'.gens) s₁) :
    WalkO q loose XP YP l.row.toRowW d [] (fun f vs => PySem.call f vs) := by
  intro w s₀ s₁ mg mb G Y fa o pm cd doc dV kV ho hd hcd hD hmg hg args vals as hpre hlay hrd hwl hlo
  obtain rfl : dV = .none := Dflts.none hD hdf
  obtain rfl : kV = .none := Dflts.noKw hD
  obtain ⟨a, vs, ns, rfl, rfl, hobj, hints, hlen⟩ := script_of hn hpre hwl
  refine enter_call (codeAny_mono (call w s₀ s₁ mg mb fa o pm cd doc a vs ns G Y ho (fd_plain hd) hcd hmg hobj hints hlen hg) fun r s' hq => ?_)
  obtain ⟨rfl, h2, h3, h4⟩ := hq
  exact ⟨.inl ⟨.bool true, .bool true, [], rfl, fun _ => rfl, .bool true, post_true l _, fun _ => ⟨List.Pairwise.nil, fun _ hm => (nomatch hm)⟩⟩, h2, h3, h4⟩


/-! ### rules over ANY heap (no ledger) from facts about the written part K: the library's own take a ledger (News) for what they write -/
section
variable {prog : Program} {w : World} {A : Around} {E : Value → Shared → Prop} {s : Shared} {K : Frag}





/-! the whole heap as the ledger: makes every rule that writes through a ledger a rule over any heap -/

end
end Att

namespace L2
open PySem PySem.Spec PyProof.Rows

theorem vals_ints : ∀ {vs : List Value} {ns : List Int}, IntsAre vs ns → Vals (ns.map V.int) vs
  | _, _, .nil => .nil
  | _, _, .cons n t h => .cons ⟨t, rfl⟩ (vals_ints h)

/-- nothing is tracked but the script, known to the object (or it is an object of the module) -/
def Only (H : Hp) : Prop := ∀ b, H b = none ∨ ∃ o xs, H b = some (.frz o (.lst xs))

/-- THE HEAD: the law's promise, at the heap behind the top. F, the promise of the law's def, may use that base is part of the heap (so K.In base, base.Ns mainGlobals mg stand in Mod) -/
theorem law_call {P : Program} {w : World} {K : PySem.W.Frag} {mg mb : Str → Option Value} {CX : CXT} {k : Nat} {fa a : Addr} {fd : FuncData} {x : Str} {sp : Sp} {s₁ : Shared} {vs : List Value} {ns : List Int}
    (KX : K.In s₁.heap) (hns : s₁.heap.Ns mainGlobals mg) (hb : s₁.heap.Ns builtinsNs mb) (hbb : ∀ x : Str, x ≠ "__name__" → mb x = bootBuiltins x) (hlim : s₁.heap.NoLimit) (hg : s₁.gens = #[])
    (ha : s₁.heap.get? a = some { cls := .type "list", data := .seq vs.toArray }) (hi : IntsAre vs ns) (hl : ns.length ≤ sizeLine) (hr : Room k callerA)
    (F : ∀ base : Heap, K.In base → base.Ns mainGlobals mg → FnOk P w K mg base CX k fa fd [x] sp) (hbind : ∀ (s : Shared) (u : Value), BindsTo s fd ⟨[u], []⟩ [(x, u)])
    (hsp : ∀ H : Hp, Only H → SqL K H a (ns.map V.int) → sp [.ref a] H (fun v _ => v = .bl true) fun _ _ _ => False)
    (hCX : ∀ H e s', CX [] H s₁ (fun _ _ _ => False) e s' → False) :
    codeAny (model P w) callerA (.call (.ref fa) ⟨[.ref a], []⟩) (fun r s' => r = .ok (.ret (.bool true)) ∧ OldK s₁.heap s'.heap ∧ s'.os = s₁.os ∧ AllBare s'.gens) s₁ := by
  have rv := vals_ints hi
  have lenV := hi.length
  -- from an abstract heap in which nothing but the script may be tracked
  have core : ∀ H : Hp, Only H → SqL K H a (ns.map V.int) → HOk P w H s₁.heap → (∀ b, H b ≠ none → b = a) → (H a ≠ none → K.lookup a = none) →
      codeAny (model P w) callerA (.call (.ref fa) ⟨[.ref a], []⟩) (fun r s' => r = .ok (.ret (.bool true)) ∧ OldK s₁.heap s'.heap ∧ s'.os = s₁.os ∧ AllBare s'.gens) s₁ := by
    intro H hO hS hok hA hK
    have base_of : ∀ {b : Addr} {o : Obj}, s₁.heap.get? b = some o → H b = none → (hidT s₁.heap H).get? b = some o := fun e n => hidT_get e n
    have noA : ∀ {b : Addr} {o : Obj} {es : Array DictEntry} {ep : Nat}, s₁.heap.get? b = some o → o.data = .dict es ep → H b = none := fun {b o es ep} e d => by
      cases q : H b with
      | none => rfl
      | some u =>
        have e' : b = a := hA b (by rw [q]; simp)
        subst e'
        rw [ha] at e; cases e
        have d' : Data.seq vs.toArray _ = Data.dict es ep := d
        cases d'
    have nsK : ∀ {b : Addr} {m : Str → Option Value}, s₁.heap.Ns b m → (hidT s₁.heap H).Ns b m := fun {b m} ⟨o, es, ep, e, d, r⟩ => ⟨o, es, ep, base_of e (noA e d), d, r⟩
    have hKb : K.In (hidT s₁.heap H) := fun b o e => base_of (KX b o e) (by
      cases q : H b with
      | none => rfl
      | some u =>
        have e' : b = a := hA b (by rw [q]; simp)
        subst e'
        rw [hK (by rw [q]; simp)] at e; cases e)
    have hM : Mod K mg (hidT s₁.heap H) := ⟨hKb, nsK hns, ⟨mb, nsK hb, hbb⟩, let ⟨mc, h1, h2⟩ := hlim; ⟨mc, nsK h1, h2⟩⟩
    have e0 : Env0 P w K mg (hidT s₁.heap H) callerA [] s₁ H := ⟨rfl, hM, fun b o e => of_hidT e, Nat.le_of_eq (hidT_size _ _), trivial, fun b hb => absurd (show b ∈ ([] : List Addr) from hb) (by simp), hok, .of_eq hg⟩
    refine codeAny_mono ((F _ hKb (nsK hns)).run callerA [] s₁ H ⟨[.ref a], []⟩ [.ref a] [.ref a] _ _ hr e0 (hbind s₁ (.ref a)) (.cons rfl .nil) (hsp H hO hS)) fun r s' h => ?_
    cases r with
    | error e => exact (hCX H e s' h).elim
    | ok fl =>
      cases fl with
      | next => exact False.elim h
      | brk => exact False.elim h
      | cont => exact False.elim h
      | ret u =>
        obtain ⟨v, H', os, bare, un, hok', r', q⟩ := h
        have q' : v = .bl true := q
        subst q'
        obtain rfl : u = Value.bool true := r'
        refine ⟨rfl, OldK.of_keep fun b o e => ?_, os, bare⟩
        cases q : H b with
        | none => exact un.keep b o e q (by intro z; exact absurd (show b ∈ ([] : List Addr) from z) (by simp)) (by simp)
        | some u =>
          rcases hO b with z | ⟨ob, xs, z⟩
          · rw [q] at z; cases z
          · have z2 := un.frzs b ob _ z
            obtain ⟨e1, _⟩ := hok b _ z
            obtain ⟨e2, _⟩ := hok' b _ z2
            rw [e] at e1; cases e1
            exact e2
  cases hk : K.lookup a with
  | some o =>
    -- the script is one of the module's own objects
    have e := KX a o hk
    rw [ha] at e
    cases e
    refine core (fun _ => none) (fun _ => .inl rfl) (.inr ⟨_, vs.toArray, _, hk, rfl, rfl, rfl, by rw [List.size_toArray, lenV]; exact hl, by simpa using rv⟩) (fun b u z => by have z' : (none : Option HO) = some u := z; cases z') (fun b z => absurd rfl z) fun z => absurd rfl z
  | none =>
    refine core (fun b => if b = a then some (.frz { cls := .type "list", data := .seq vs.toArray } (.lst (ns.map V.int))) else none) (fun b => ?_) (.inl (.inr ⟨{ cls := .type "list", data := .seq vs.toArray }, if_pos rfl⟩)) (fun b u z => ?_) (fun b z => ?_) fun _ => hk
    · by_cases hb : b = a
      · exact .inr ⟨_, _, if_pos hb⟩
      · exact .inl (if_neg hb)
    · by_cases hb : b = a
      · have z' := (if_pos hb).symm.trans z
        cases z'
        subst hb
        exact ⟨ha, by rw [List.length_map]; exact hl, vs, _, rv, ha⟩
      · have z' := (if_neg hb).symm.trans z
        cases z'
    · by_cases hb : b = a
      · exact hb
      · exact absurd (if_neg hb) z
end L2

namespace L2
open PySem PySem.Spec PyProof.Rows


/-- the goal that k_head leaves (case hc), from the law's promise. F gives the function object fd (K's own) once, then the promise over every base -/
theorem walk_of {l : PySem.W.OpenLaw} {n k : Nat} {q : Program} {loose : List Str} {XP : (Str → Option Value) → Heap → Prop} {YP : World → Heap → Prop} {d : DefRec} {K : Params → PySem.W.Frag} {CX : World → CXT} {sp : World → Sp} {x : Str}
    (hn : l.most = some n) (hn2 : n ≤ sizeLine) (hdf : d.params.defaults = []) (hr : Room k callerA)
    (hY : ∀ (w : World) (h : Heap), YP w h → (K w.params).In h)
    (F : ∀ (w : World) (mg : Str → Option Value) (fa : Addr) (h : Heap), (K w.params).In h → h.Ns mainGlobals mg → mg d.name = some (.ref fa) →
      ∃ fd : FuncData, (∀ (s : Shared) (u : Value), BindsTo s fd ⟨[u], []⟩ [(x, u)]) ∧
        ∀ base : Heap, (K w.params).In base → base.Ns mainGlobals mg → FnOk l.prog w (K w.params) mg base (CX w) k fa fd [x] (sp w))
    (hsp : ∀ (w : World) (H : Hp) (a : Addr) (ns : List Int), ns.length ≤ n → Only H → SqL (K w.params) H a (ns.map V.int) → sp w [.ref a] H (fun v _ => v = .bl true) fun _ _ _ => False)
    (hCX : ∀ (w : World) (H : Hp) (s : Shared) (e : Value) (s' : Shared), CX w [] H s (fun _ _ _ => False) e s' → False) :
    PySem.W.WalkO q loose XP YP l.row.toRowW d [] (fun f vs => PySem.call f vs) := by
  refine Att.attach_call hn hdf fun w s₀ s₁ mg mb fa o pm cd doc a vs ns G Y ho hd hcd hmg hobj hints hlen hg => ?_
  have KX := hY w _ Y
  obtain ⟨fd, hb, hF⟩ := F w mg fa _ KX G.T.g hmg
  exact law_call KX G.T.g G.T.b G.T.builtins G.T.nolimit hg hobj hints (Nat.le_trans hlen hn2) hr hF hb (fun H hO hS => hsp w H a ns hlen hO hS) fun H e s' => hCX w H s₁ e s'
end L2

/- THE LAST THEOREM (shape; LID, My.* are yours):
   My.Adr: a structure of the addresses that your layer names (classes, functions); My.Txt K t: a structure (Prop) of the equations over K;
   My.txt_mk : {K} {implicit addresses ..} (e1 : nsIn K mainGlobals "law" = some (some (.ref f))) (e2 : K.lookup f = some ⟨oc, od, .func (fnOf "law" "law" params body scope dV kV doc pm an cdv ct), sl⟩) (e3 : codeIn K cdv "law" = true) .. : ∃ t, My.Txt K t

set_option maxRecDepth 100000 in
set_option maxHeartbeats 0 in
theorem PySem.Challenge.cw_LID_holds : PySem.Challenge.rw_LID.Holds := by
  w_on; o_law; k_head; (case hw => w_witness2)
  k_fill
  refine L2.walk_of (l := PySem.Challenge.rw_LID) (n := 63) (k := 40) (x := "script") (CX := fun w => ..) (sp := fun _ => My.sp_law) rfl (by decide) rfl ⟨rfl, by decide, by decide⟩ (fun w h Y => PySem.W.kIn_of Y) ?F ?S ?C
  case F =>
    intro w mg fa h KX G hmg
    have T : ∃ t, My.Txt (L2.KOf KX) t := by
      dsimp only [L2.KOf]                          -- K must stand as «<heap const> w.params» for k_is
      refine' My.txt_mk ?e1 ?e2 ?e3 ..
      (case e1 => PySem.W.k_is)                    -- in the order: a name -> its address -> its object -> its parts
      (case e2 => PySem.W.k_is)
      ..
    obtain ⟨t, T⟩ := T
    have e0 := hmg.symm.trans (PySem.W.mg_of KX G T.law)
    cases e0                                       -- fa is the law's own address
    exact ⟨_, fun s u => .of_eq rfl, fun base kb nb => My.law_fn T kb nb⟩     -- if «.of_eq rfl» comes too early: refine' ⟨_, ?b, fun base kb nb => My.law_fn T kb nb⟩; exact fun s u => .of_eq rfl
  case S => exact fun w H a ns hl hO hS => ..
  case C => exact ..
(the tactic k_is has no namespace: write k_is) -/

/-! SHORT WORDS over the layer: a def of the text, its body, what a loop and a test want. -/
namespace L2
open PySem PySem.Spec PyProof.Rows

/-! ### the text by places -/
def defArgs (s : Stmt) : Arguments := match s with
  | .FunctionDef _ a _ _ _ _ _ _ _ _ => a
  | _ => { posonlyargs := [], args := [], vararg := none, kwonlyargs := [], kw_defaults := [], kwarg := none, defaults := [] }
def defBody (s : Stmt) : List Stmt := match s with
  | .FunctionDef _ _ b _ _ _ _ _ _ _ => b
  | _ => []
def defScope (s : Stmt) : Scope := match s with
  | .FunctionDef _ _ _ _ _ _ sc _ _ _ => sc
  | _ => { kind := .function, names := [], isGenerator := false, isCoroutine := false }

/-! ### no exception leaves a def -/
abbrev CX0 : CXT := fun _ _ _ _ _ _ => False
abbrev E0 : XK := fun _ _ _ => False
theorem pass0 {X : Cx} : Passes CX0 X E0 := fun _ _ _ _ _ _ _ h => h.elim

/-! ### a def (or method) of the text as it stands behind the top -/
structure Fun (K : PySem.W.Frag) (x qual : Str) (st : Stmt) (f : Addr) (fd : FuncData) : Prop where
  ex : ∃ (oc : Value) (od : Option Addr) (kV doc pm : Value) (an : Option Addr) (cdv ct : Value) (osl : Array (Option Value)),
    fd = PySem.W.fnOf x qual (defArgs st) (defBody st) (defScope st) .none kV doc pm an cdv ct ∧ K.lookup f = some ⟨oc, od, .func fd, osl⟩ ∧ PySem.W.codeIn K cdv qual = true
  kp : PySem.W.keepIn K (.ref f) = true
section
variable {P : Program} {w : World} {K : PySem.W.Frag} {mg : Str → Option Value} {base : Heap}
/-- THE RULE for a def: its body as a term of rules, and the reading of that term -/
theorem Fun.ok {x qual : Str} {st : Stmt} {f : Addr} {fd : FuncData} {N ps : List Str} {k : Nat} {sp : Sp} (F : Fun K x qual st f fd) (S : FnScope N ps (defScope st)) (len : ∀ vs H Q E, sp vs H Q E → vs.length = ps.length)
    (hbody : ∀ (cdv : Value) (A : Around) (outer : List Env) (s : Shared) (H : Hp) (vs : List V) (Q : VK) (E : XK), Room k (A.deeper (envOfC qual (defScope st) s.heap.objs.size f cdv)) → sp vs H Q E →
      ∃ t, PSs (cxOf CX0 P w K mg base N qual (defScope st) f cdv A outer s H E).nox (defBody st) t ∧ t { nx := fun _ H' => Q .non H', rt := Q } (start N vs) H) : FnOk P w K mg base CX0 (k + 1) f fd ps sp := by
  obtain ⟨oc, od, kV, doc, pm, an, cdv, ct, osl, rfl, lk, hcd⟩ := F.ex
  refine fn_of lk hcd S len fun A outer s H vs Q E hr hsp => ?_
  obtain ⟨t, h, q⟩ := hbody cdv A outer s H vs Q E hr hsp
  exact ⟨t, h.nox, q⟩
/-- how its arguments bind (no defaults): h is «fun _ _ _ _ _ _ us hl => match us, hl with | [_, _], _ => rfl», one _ a parameter -/
theorem Fun.binds {x qual : Str} {st : Stmt} {f : Addr} {fd : FuncData} {ps : List Str} (F : Fun K x qual st f fd)
    (h : ∀ (kV doc pm : Value) (an : Option Addr) (cdv ct : Value) (us : List Value), us.length = ps.length → bindArgs (PySem.W.fnOf x qual (defArgs st) (defBody st) (defScope st) .none kV doc pm an cdv ct) ⟨us, []⟩ = pure (ps.zip us)) : Binds K fd ps [] := by
  obtain ⟨oc, od, kV, doc, pm, an, cdv, ct, osl, rfl, lk, hcd⟩ := F.ex
  exact .all (h kV doc pm an cdv ct)
theorem fun_mk {x qual : Str} {st : Stmt} {f : Addr} {oc : Value} {od an : Option Addr} {osl : Array (Option Value)} {kV doc pm cdv ct : Value} (l : K.lookup f = some ⟨oc, od, .func (PySem.W.fnOf x qual (defArgs st) (defBody st) (defScope st) .none kV doc pm an cdv ct), osl⟩)
    (c : PySem.W.codeIn K cdv qual = true) (k : PySem.W.keepIn K (.ref f) = true) : Fun K x qual st f (PySem.W.fnOf x qual (defArgs st) (defBody st) (defScope st) .none kV doc pm an cdv ct) := ⟨⟨oc, od, kV, doc, pm, an, cdv, ct, osl, rfl, l, c⟩, k⟩
end
theorem hu_of {A : Around} {k : Nat} (hr : Room k A) : A.units + 1 < cLine := Nat.lt_of_le_of_lt (Nat.add_le_add_left (by decide : 1 ≤ 64) _) hr.units

/-! ### expressions in short: the name that stands in the i-th slot -/
section
variable {X : Cx}
theorem pv (i : Nat) {x : Str} {pos : Pos} (hN : X.N[i]? = some x := by rfl) (hv : Vis X.env.scope x := by first | exact Or.inl rfl | exact Or.inr (Or.inl rfl) | exact Or.inr (Or.inr rfl)) (hd : (x == ("__debug__" : Str)) = false := by decide)
    (hcd : (x == ("__classdict__" : Str)) = false := by decide) : PE X (.Name x pos) (tVar i) := pe_var hN hv hd hcd
end

/-! ### tests -/
theorem ite2 {c A B : Prop} [Decidable c] (h1 : c → A) (h2 : ¬ c → B) : if c then A else B := by
  by_cases h : c
  · rw [if_pos h]
    exact h1 h
  · rw [if_neg h]
    exact h2 h

/-! ### heaps -/
/-- all that was tracked is as it was -/
def Same (H H' : Hp) : Prop := ∀ b o, H b = some o → H' b = some o
theorem Same.refl (H : Hp) : Same H H := fun _ _ h => h
theorem Same.trans {H H1 H2 : Hp} (a : Same H H1) (b : Same H1 H2) : Same H H2 := fun c o h => b c o (a c o h)

/-! ### a dict's pairs: keys that differ -/
section
variable {κ : Type} [DecidableEq κ]
end
end L2

set_option Elab.async false
set_option linter.all false
set_option maxRecDepth 100000
/-! Short words of my own over the layer: defs by name, calls, joined operations. -/
namespace BB
open PySem PySem.Spec PyProof.Rows L2

/-- a def of the module's top: its object, under its name -/
structure Def (K : PySem.W.Frag) (mg : Str → Option Value) (x : Str) (st : Stmt) : Prop where
  ex : ∃ f fd, Fun K x x st f fd ∧ mg x = some (.ref f)
/-- a def that may be called by its name, with its promise -/
structure Can (P : Program) (w : World) (K : PySem.W.Frag) (mg : Str → Option Value) (base : Heap) (CX : CXT) (k : Nat) (x : Str) (ps : List Str) (sp : Sp) : Prop where
  ex : ∃ f fd, FnOk P w K mg base CX k f fd ps sp ∧ mg x = some (.ref f) ∧ PySem.W.keepIn K (.ref f) = true ∧ Binds K fd ps []
section
variable {P : Program} {w : World} {K : PySem.W.Frag} {mg : Str → Option Value} {base : Heap}
theorem Def.can {x : Str} {st : Stmt} {N ps : List Str} {k : Nat} {sp : Sp} (F : Def K mg x st) (S : FnScope N ps (defScope st))
    (hb : ∀ (kV doc pm : Value) (an : Option Addr) (cdv ct : Value) (us : List Value), us.length = ps.length → bindArgs (PySem.W.fnOf x x (defArgs st) (defBody st) (defScope st) .none kV doc pm an cdv ct) ⟨us, []⟩ = pure (ps.zip us))
    (len : ∀ vs H Q E, sp vs H Q E → vs.length = ps.length)
    (hbody : ∀ (f : Addr) (cdv : Value) (A : Around) (outer : List Env) (s : Shared) (H : Hp) (vs : List V) (Q : VK) (E : XK), Room k (A.deeper (envOfC x (defScope st) s.heap.objs.size f cdv)) → sp vs H Q E →
      ∃ t, PSs (cxOf CX0 P w K mg base N x (defScope st) f cdv A outer s H E).nox (defBody st) t ∧ t { nx := fun _ H' => Q .non H', rt := Q } (start N vs) H) : Can P w K mg base CX0 (k + 1) x ps sp := by
  obtain ⟨f, fd, F1, hm⟩ := F.ex
  exact ⟨f, fd, F1.ok S len (hbody f), hm, F1.kp, F1.binds hb⟩
end
section
variable {X : Cx} {x : Str} {k : Nat} {ps : List Str} {sp : Sp} {p pos : Pos} {e : Expr} {es : List Expr} {t : TA}
theorem pe_can (C : Can X.prog X.w X.K X.mg X.base CX0 k x ps sp) (hr : Room k X.A) (hg : Gl X x) (ha : PA X (e :: es) t)
    (hdb : (x == ("__debug__" : Str)) = false := by decide) (he : starEach (e :: es) X.env = (false, eval e X.env) :: starEach es X.env := by rfl) (hpl : (backTo pos (starEach es X.env)).any (·.1) = false := by rfl) :
    PE X (.Call (.Name x p) (e :: es) [] pos) (tCall sp [] E0 t) := by
  obtain ⟨f, fd, F, hm, hk, hb⟩ := C.ex
  exact pe_call F hr hg hm hk hb .nil pass0 ha hdb he hpl
end
/-- + of ints, texts, lists -/
theorem op_plus {X : Cx} : OpR X (binaryOp .Add) (fun x y H Q => rI0 (fun i j => V.int (i + j)) x y H Q ∨ (∃ i j, x = V.str i ∧ y = .str j ∧ i.length + j.length ≤ sizeLine ∧ Q (.str (i ++ j)) H) ∨ rCat x y H Q) :=
  op_add.or (op_add_str.or op_cat)
/-- x in a text; in a list or a tuple of flat items -/
theorem op_inx {X : Cx} : OpR X (compareOp .In) (fun x y H Q => (∃ i j, x = V.str i ∧ y = .str j ∧ Q (.bl (!(Builtin.Str.occurrences j i 0 j.length 1).isEmpty)) H) ∨ rIn X.K false x y H Q) := op_in_str.or op_in_seq
theorem sl_x {X : Cx} : SlR X (rSlL X.K) := sl_list
theorem bt_max : bootBuiltins "max" = some (.builtin "max") := by decide +kernel
theorem bt_len : bootBuiltins "len" = some (.builtin "len") := by decide +kernel
theorem bt_all : bootBuiltins "all" = some (.builtin "all") := by decide +kernel
theorem bt_isinstance : bootBuiltins "isinstance" = some (.builtin "isinstance") := by decide +kernel
theorem bt_int : bootBuiltins "int" = some (.type "int") := by decide +kernel
theorem bt_str : bootBuiltins "str" = some (.type "str") := by decide +kernel
theorem bt_bool : bootBuiltins "bool" = some (.type "bool") := by decide +kernel
/-- the factors -/
theorem cmulR {i j : Int} (h1 : -(2 ^ 64) < j) (h2 : j < 2 ^ 64) : CMul i j := .inr ⟨h1, h2⟩
theorem cmulL {i j : Int} (h1 : -(2 ^ 64) < i) (h2 : i < 2 ^ 64) : CMul i j := .inl ⟨h1, h2⟩

/-! ### the draws: a list of n numbers from 0 to 719 -/
/-! ### lists, places, heaps -/
theorem at_mem {α : Type} {xs : List α} {i : Int} (h0 : 0 ≤ i) (h1 : i < xs.length) : ∃ v, v ∈ xs ∧ atI xs i = some v := by
  obtain ⟨j, rfl⟩ := Int.eq_ofNat_of_zero_le h0
  have hj : j < xs.length := by omega
  exact ⟨xs[j], List.getElem_mem hj, atI_nat (by simp [hj])⟩
theorem cutV_mem {xs : List V} {lo hi : Option Int} {x : V} (h : x ∈ cutV xs lo hi) : x ∈ xs := by
  unfold cutV at h
  exact List.mem_of_mem_drop (List.mem_of_mem_take h)
theorem same_upd {H : Hp} {p : Addr} {o : HO} (h : H p = none) : Same H (upd H p o) := fun b u e => by
  rw [upd_ne (ne_of_none e h)]; exact e
/-- what the script's list becomes: a beginning of it, and written ints behind -/
theorem all_ints {ns : List Int} {lo hi : Option Int} {ms : List Int} {x : V} (h : x ∈ cutV (ns.map V.int) lo hi ++ ms.map V.int) : ∃ i, x = .int i := by
  rcases List.mem_append.mp h with h | h
  · obtain ⟨i, _, e⟩ := List.mem_map.mp (cutV_mem h); exact ⟨i, e.symm⟩
  · obtain ⟨i, _, e⟩ := List.mem_map.mp h; exact ⟨i, e.symm⟩
theorem qb {Q : VK} {a b : Bool} {H : Hp} (e : a = b) (h : Q (.bl a) H) : Q (.bl b) H := e ▸ h
theorem if_t {c : Bool} {A B : Prop} (e : c = true) (h : A) : if c = true then A else B := by rw [if_pos e]; exact h
theorem if_f {c : Bool} {A B : Prop} (e : c = false) (h : B) : if c = true then A else B := by rw [if_neg (by rw [e]; exact Bool.false_ne_true)]; exact h
theorem same_at {H : Hp} {p : Addr} {o : HO} (h : H p = none) : Same H (upd H p o) ∧ upd H p o p = some o := ⟨same_upd h, upd_same⟩
/-- a body's reading, found by its rules -/
structure Tm (X : Cx) (b : List Stmt) where
  t : TS
  h : PSs X b t
/-! ### from what the top has written -/
section
variable {K : PySem.W.Frag} {h : Heap} {mg : Str → Option Value} {f : Addr} {od an : Option Addr} {sl : Array (Option Value)} {oc kV doc pm cd ct : Value}
theorem mk_def {x : Str} {st : Stmt} (X : K.In h) (G : h.Ns mainGlobals mg) (a : PySem.W.nsIn K mainGlobals x = some (some (.ref f)))
    (l : K.lookup f = some ⟨oc, od, .func (PySem.W.fnOf x x (defArgs st) (defBody st) (defScope st) .none kV doc pm an cd ct), sl⟩) (c : PySem.W.codeIn K cd x = true) (k : PySem.W.keepIn K (.ref f) = true) : Def K mg x st :=
  ⟨f, _, fun_mk l c k, PySem.W.mg_of X G a⟩
theorem mk_law {P : Program} {w : World} {st : Stmt} {fa : Addr} {x : Str} {k : Nat} {CX : CXT} {sp : Sp} (X : K.In h) (G : h.Ns mainGlobals mg) (hfa : mg "law" = some (.ref fa)) (a : PySem.W.nsIn K mainGlobals "law" = some (some (.ref f)))
    (l : K.lookup f = some ⟨oc, od, .func (PySem.W.fnOf "law" "law" (defArgs st) (defBody st) (defScope st) .none kV doc pm an cd ct), sl⟩) (c : PySem.W.codeIn K cd "law" = true) (kp : PySem.W.keepIn K (.ref f) = true)
    (hb : ∀ (kV doc pm : Value) (an : Option Addr) (cd ct v : Value), bindArgs (PySem.W.fnOf "law" "law" (defArgs st) (defBody st) (defScope st) .none kV doc pm an cd ct) ⟨[v], []⟩ = pure [(x, v)])
    (ok : ∀ (fd : FuncData) (base : Heap), Fun K "law" "law" st fa fd → FnOk P w K mg base CX k fa fd [x] sp) :
    ∃ fd : FuncData, (∀ (s : Shared) (v : Value), BindsTo s fd ⟨[v], []⟩ [(x, v)]) ∧ ∀ base : Heap, K.In base → base.Ns mainGlobals mg → FnOk P w K mg base CX k fa fd [x] sp := by
  have e := hfa.symm.trans (PySem.W.mg_of X G a)
  cases e
  exact ⟨_, fun s v => .of_eq (hb kV doc pm an cd ct v), fun base _ _ => ok _ base (fun_mk l c kp)⟩
end
end BB

set_option Elab.async false
set_option linter.all false
set_option maxRecDepth 100000
/-! A list comprehension of one clause, without a test. -/
namespace BB
open PySem PySem.Spec PyProof.Rows L2

def cxComp (X : Cx) (scope : Scope) (cl : List (Str × Addr)) (C : Addr) (N : List Str) (s : Shared) (H : Hp) (ex : List Addr) (pn : List (Addr × Obj)) : Cx :=
  { X with env := compEnvC scope cl C X.env, N := N, s₀ := s, H₀ := H, outer := X.stack, ex := ex, fn := fun _ => false, pn := pn, xe := fun _ _ => False }
/-- what the comprehension's names are: x its own, the others of the def around, by cells -/
structure CompSc (X : Cx) (scope : Scope) (cl : List (Str × Addr)) (x : Str) (N : List Str) (ci : List Nat) : Prop where
  clos : closureFor scope X.env = pure cl
  ncell : ∀ y ∈ scope.names, y.2 ≠ .cell
  kind : scope.kind = .function
  names : ∀ y ∈ scope.names, y.2 = .local → scope.names.lookup y.1 = some .local
  hx : scope.names.lookup x = some .local
  n0 : N[0]? = some x
  nd : N.Nodup
  len : N.length = ci.length + 1
  sub : ∀ y c, cl.lookup y = some c → X.env.cells.lookup y = some c
  has : ∀ y ∈ scope.names, y.2 = .free → (cl.lookup y.1).isSome = true
  cap : ∀ j i y, ci[j]? = some i → N[j + 1]? = some y → X.N[i]? = some y ∧ X.env.kindOf y = some .cell ∧ (relabel scope X.env).names.lookup y = some .cell
def capS (ci : List Nat) (σ : L2.St) : L2.St := ci.map fun i => (σ[i]?).join
/-- what is wanted of a comprehension's loop -/
def CompAt (J : It) (te : TE) (σc : L2.St) (Q : VK) (H1 : Hp) (D : Addr) : Prop := ∃ W : Nat → Nat → List V → Hp → Prop, (∃ m, W 0 m [] (upd H1 D (.lst []))) ∧ ∀ i m ys H, W i m ys H →
  H D = some (.lst ys) ∧ ((J.stop i H ∧ Q (.ref D) H) ∨ (J.go i H ∧ ys.length < sizeLine ∧ ∀ v H', J.yld i H v H' → te (some v :: σc) H' fun y H2 => H2 D = some (.lst ys) ∧ ∃ m', m' < m ∧ W (i + 1) m' (ys ++ [y]) (upd H2 D (.lst (ys ++ [y])))))
def tComp (wi : TI) (te : TE) (ci : List Nat) : TE := fun σ H Q => wi σ H fun J H1 => ∀ D, H1 D = none → CompAt J te (capS ci σ) Q H1 D

theorem un_but {fs ex : List Addr} {H H' : Hp} {h h1 h2 : Heap} {C : Addr} (u : Un fs ex H H' h h1) (hs : Heap.SameBut C h1 h2) (hC : h.objs.size ≤ C) : Un fs ex H H' h h2 where
  keep := fun b o e n hb hx => (hs.2 b (Nat.ne_of_lt (Nat.lt_of_lt_of_le (Heap.lt_size e) hC))).trans (u.keep b o e n hb hx)
  slot := fun b o e n hb hx => let ⟨sl, q⟩ := u.slot b o e n hb hx; ⟨sl, (hs.2 b (Nat.ne_of_lt (Nat.lt_of_lt_of_le (Heap.lt_size e) hC))).trans q⟩
  free := u.free
  there := fun b o e hx => let ⟨o', q⟩ := u.there b o e hx; ⟨o', (hs.2 b (Nat.ne_of_lt (Nat.lt_of_lt_of_le (Heap.lt_size e) hC))).trans q⟩
  tups := u.tups
  frzs := u.frzs
  tbls := u.tbls
theorem hok_but {P : Program} {w : World} {H : Hp} {h h' : Heap} {C : Addr} (x : HOk P w H h) (hs : Heap.SameBut C h h') (hC : H C = none) : HOk P w H h' := fun a o e =>
  (x a o e).stay (fun b u hb q => (hs.2 b (by
    rintro rfl
    rcases hb with rfl | hb
    · rw [hC] at e; cases e
    · rw [hC] at hb; cases hb)).trans q) (fun _ q => q) fun _ _ q => q
theorem lookup_mem {α β : Type} [BEq α] [LawfulBEq α] : ∀ {l : List (α × β)} {a : α} {b : β}, l.lookup a = some b → (a, b) ∈ l
  | [], _, _, h => by cases h
  | (a', b') :: r, a, b, h => by
    rw [List.lookup_cons] at h
    cases e : a == a' with
    | true => rw [e] at h; cases h; rw [eq_of_beq e]; exact List.mem_cons_self
    | false => rw [e] at h; exact List.mem_cons_of_mem _ (lookup_mem h)

theorem pe_comp {X : Cx} {scope : Scope} {cl : List (Str × Addr)} {x : Str} {px pos : Pos} {iter elt : Expr} {N : List Str} {ci : List Nat} {te : TE} {wi : TI} (S : CompSc X scope cl x N ci) (hc : X.calm = true) (hi : PI X (.Name x px) iter wi)
    (he : ∀ C s H ex pn, PE (cxComp X scope cl C N s H ex pn) elt te) (hs : ∀ y, foldedSetIterable iter X.env y = pure y := by intro _; rfl) :
    PE X (.ListComp elt [⟨.Name x px, iter, [], 0⟩] scope pos) (tComp wi te ci) := by
  intro pins s σ H Q I h
  rw [eval_ListComp]
  refine wpAny_comprehension_free (use := none) rfl hs S.clos S.kind S.names (thn (hi pins s σ H _ I h) fun v s1 h1 => thn h1 fun itv s2 h2 => ?_)
  obtain ⟨it, fp, tn, J, H2, rfl, I2, T, st2, f2, hD⟩ := h2
  obtain ⟨W, ⟨m0, w0⟩, turn⟩ := hD s2.heap.objs.size (I2.hok.fresh (Nat.le_refl _))
  refine wpAny_newObj_type (wpAny_newFunctionEnv S.ncell (by intro y hy; simp at hy) (fun h₁ hns₁ hsb₁ => ?_) S.kind)
  dsimp only at hns₁ hsb₁ ⊢
  generalize hH2 : s2.heap.push { cls := .type "list", dict := none, data := .seq ([] : List Value).toArray } = hp2 at hns₁ hsb₁ ⊢
  have hCz : hp2.objs.size = s2.heap.objs.size + 1 := by rw [← hH2, Heap.size_push]
  have hDC : s2.heap.objs.size ≠ hp2.objs.size := by rw [hCz]; exact Nat.ne_of_lt (Nat.lt_succ_self _)
  have hCle : s2.heap.objs.size ≤ hp2.objs.size := by rw [hCz]; exact Nat.le_succ _
  have old : ∀ b o, s2.heap.get? b = some o → h₁.get? b = some o := fun b o e => hsb₁.extBut b o (Nat.ne_of_lt (by rw [hCz]; exact Nat.lt_succ_of_lt (Heap.lt_size e))) (Heap.get?_push_of_some _ (hH2 ▸ Heap.get?_push_of_some _ e))
  have hDg : h₁.get? s2.heap.objs.size = some { cls := .type "list", dict := none, data := .seq ([] : List Value).toArray } := hsb₁.extBut _ _ hDC (Heap.get?_push_of_some _ (hH2 ▸ Heap.get?_push_size _ rfl))
  have f2z : ∀ b ∈ fp, b < s2.heap.objs.size := fun b hb => let ⟨o, e, _⟩ := T.obj _ _ st2 b hb; Heap.lt_size e
  let X' := cxComp X scope cl hp2.objs.size N s2 H2 fp (X.pn ++ pins)
  have hCnone : ∀ o, upd H2 s2.heap.objs.size o hp2.objs.size = none := fun o => by rw [upd_ne hDC.symm]; exact I2.hok.fresh hCle
  have sub2 : ∀ b ∈ frs X.stack, b < s2.heap.objs.size := fun b hb => by
    obtain ⟨_, o, ho, _⟩ := I2.stack.mem hb
    exact Heap.lt_size ho
  have cellz : ∀ y c, cl.lookup y = some c → c < s2.heap.objs.size ∧ H2 c = none := fun y c e => by
    have e' := S.sub y c e
    obtain ⟨v, q⟩ := I2.cell y c e'
    exact ⟨q.lt, I2.freeC y c e'⟩
  have kloc : X'.env.kindOf x = some .local := lookup_relabel_local S.hx
  have okX : X'.Ok := {
    mod := I2.ok.mod
    kind := S.kind
    glob := I2.ok.glob
    blt := I2.ok.blt
    above := hCle
    inj := fun y z c e1 e2 => I2.ok.inj y z c (S.sub y c e1) (S.sub z c e2)
    has := fun y hy => by
      have key : ∀ k, (relabel scope X.env).names.lookup y = some k → (k = .cell ∨ k = .free) → ∃ c, cl.lookup y = some c := fun k hk hkk => by
        have hm := lookup_mem hk
        obtain ⟨⟨n, k0⟩, hm0, e0⟩ := List.mem_map.mp hm
        have hn : n = y ∧ k0 = .free := by
          dsimp only at e0
          split at e0
          · rename_i hcond
            cases e0
            simp only [Bool.and_eq_true, beq_iff_eq] at hcond
            exact ⟨rfl, hcond.1.1⟩
          · cases e0
            rcases hkk with rfl | rfl
            · exact absurd rfl (S.ncell _ hm0)
            · exact ⟨rfl, rfl⟩
        obtain ⟨rfl, rfl⟩ := hn
        exact Option.isSome_iff_exists.mp (S.has _ hm0 rfl)
      rcases hy with hy | hy
      · exact key _ hy (.inl rfl)
      · exact key _ hy (.inr rfl)
    cab := fun y c hf _ => by cases hf
    hd := I2.ok.hd
    frames := I2.ok.frames
    stk := .inl rfl
    exf := fun b hb => ⟨Nat.ne_of_lt (by rw [show X'.env.locals = hp2.objs.size from rfl, hCz]; exact Nat.lt_succ_of_lt (f2z b hb)), fun y c e => (f2 b hb).2.2.2.2.1 y c (S.sub y c e)⟩
    bs := I2.bs
    bsz := Nat.le_trans I2.ok.bsz I2.sz
    noex := fun b o e hb => by
      rcases (f2 b hb).2.2.2.1 with z | z
      · exact I2.ok.noex b o e z
      · exact absurd (Nat.lt_of_lt_of_le (Heap.lt_size e) (Nat.le_trans I2.ok.bsz z)) (Nat.lt_irrefl _)
    exfs := fun b hb hb2 => by
      rcases List.mem_cons.mp (I2.stkSub b hb2) with z | z
      · exact (f2 b hb).2.1 z
      · exact (f2 b hb).2.2.1 z
    funs := I2.stack
    frf := I2.stkFree }
  have hokD : HOk X.prog X.w (upd H2 s2.heap.objs.size (.lst [])) h₁ := I2.hok.laid old (Nat.le_refl _) ⟨Nat.zero_le _, [], _, .nil, hDg⟩
  have I0 : L2.Inv X' [] (none :: capS ci σ) (upd H2 s2.heap.objs.size (.lst [])) { s2 with heap := h₁, toks := s2.toks + ([] : List (Str × Value)).length } := {
    ok := okX
    os := rfl
    bare := I2.bare
    base := Un.laid old (Nat.le_refl _) (I2.hok.fresh (Nat.le_refl _))
    loc := by
      refine ⟨_, hns₁, fun i y v e1 e2 e3 => ?_⟩
      cases i with
      | zero => simp at e2
      | succ j =>
        have e2' : (capS ci σ)[j]? = some (some v) := by simpa using e2
        unfold capS at e2'
        rw [List.getElem?_map] at e2'
        cases ej : ci[j]? with
        | none => rw [ej] at e2'; cases e2'
        | some i0 =>
          rw [ej] at e2'
          have e4 : (σ[i0]?).join = some v := Option.some.inj e2'
          have e5 : σ[i0]? = some (some v) := by
            cases q : σ[i0]? with
            | none => rw [q] at e4; cases e4
            | some o => rw [q] at e4; have : o = some v := e4; rw [this]
          obtain ⟨c1, c2, c3⟩ := S.cap j i0 y ej e1
          obtain ⟨m, hn, hl⟩ := I2.loc
          obtain ⟨u, r, l⟩ := hl i0 y v c1 e5 (.inr (.inl c2))
          refine ⟨u, r, .inr ⟨.inl c3, ?_⟩⟩
          rcases l with ⟨k, _⟩ | ⟨_, c, e, z⟩
          · rw [c2] at k; cases k
          · obtain ⟨c', hc'⟩ := okX.has y (.inl c3)
            have := S.sub y c' hc'
            rw [e] at this
            cases this
            obtain ⟨oz, hz, hd⟩ := z
            exact ⟨c, hc', oz, old _ _ hz, hd⟩
    cell := fun y c e => by
      obtain ⟨v, oz, hz, hd⟩ := I2.cell y c (S.sub y c e)
      exact ⟨v, oz, old _ _ hz, hd⟩
    free := hCnone _
    freeC := fun y c e => by
      rw [upd_ne (Nat.ne_of_lt (cellz y c e).1)]; exact (cellz y c e).2
    pin := fun p hp => by
      have hp' : p ∈ X.pn ++ pins := by simpa [X', cxComp] using hp
      obtain ⟨e, n, ne, nf, d⟩ := I2.pin p hp'
      refine ⟨old _ _ e, ?_, Nat.ne_of_lt (by rw [show X'.env.locals = hp2.objs.size from rfl, hCz]; exact Nat.lt_succ_of_lt (Heap.lt_size e)), fun z => ?_, d⟩
      · rw [upd_ne (Nat.ne_of_lt (Heap.lt_size e))]; exact n
      · rcases List.mem_cons.mp (I2.stkSub p.1 z) with z | z
        · exact ne z
        · exact nf z
    hok := hokD
    len := by show (none :: capS ci σ).length = N.length; rw [S.len]; simp [capS] }
  have loop : ∀ s₃ : Shared, s₃ = { s2 with heap := h₁, toks := s2.toks + ([] : List (Str × Value)).length } →
      codeAny (model X.prog X.w) X.A (.compLoop (.ListComp elt [⟨.Name x px, iter, [], 0⟩] scope pos) 0 (.ref it) (.ref s2.heap.objs.size) (compEnvC scope cl hp2.objs.size X.env))
        (compPost (model X.prog X.w) X.A X.xe none (EP X pins σ Q) (.ref s2.heap.objs.size) hp2.objs.size) s₃ := by
    rintro s₃ rfl
    have stat : ∀ {H' : Hp}, (∀ b ∈ fp, H' b = none) → ∀ b ∈ fp, FpOk X' [] H' b := fun hn b hb => ⟨hn b hb, (okX.exf b hb).1, okX.exfs b hb, .inl hb, (okX.exf b hb).2, fun p hp => (f2 b hb).2.2.2.2.2 p (by simpa [X', cxComp] using hp)⟩
    refine codeAny_compLoop_tests (fun n s' => ∃ i ys σ0 H', L2.Inv X' [] (σ0 :: capS ci σ) H' s' ∧ tn i s'.heap ∧ (∀ b ∈ fp, H' b = none) ∧ W i n ys H') ?_ m0
      ⟨0, [], none, _, I0, T.keep _ _ _ st2 (fun b _ o e => old b o e), fun b hb => by rw [upd_ne (Nat.ne_of_lt (f2z b hb))]; exact (f2 b hb).1, w0⟩
    rintro n s3 ⟨i, ys, σ0, H3, I3, st3, fr3, w3⟩
    obtain ⟨hD3, way⟩ := turn i n ys H3 w3
    rcases way with ⟨stop, q⟩ | ⟨go, hlen, step⟩
    · refine thn (T.done X' rfl rfl rfl hc i [] s3 _ H3 _ I3 (stat fr3) st3 stop) fun r s4 ⟨hr, I4⟩ => ?_
      subst hr
      obtain ⟨m, hn, _⟩ := I4.loc
      refine ⟨m, hn, fun h' hs' => ⟨.ref s2.heap.objs.size, H3, ?_, rfl, q⟩⟩
      refine Inv.call' (s' := { s4 with heap := h' }) (ch := fp) I2 I4.os (un_but I4.base hs' hCle) (hok_but I4.hok hs' I4.free) I4.bare fun b hb => ?_
      obtain ⟨g1, g2, g3, g4, g5, g6⟩ := f2 b hb
      exact ⟨g4, g2, g5, g6⟩
    · refine thn (T.item X' rfl rfl rfl hc i [] s3 _ H3 _ I3 (stat fr3) st3 go) fun r s4 ⟨u, hr, h4⟩ => ?_
      subst hr
      dsimp only
      have ff : ∀ (e : Value) (s' : Shared), X'.xe e s' → notedBy (model X.prog X.w) X.A (compEnvC scope cl hp2.objs.size X.env) (fun e s' => compPost (model X.prog X.w) X.A X.xe none (EP X pins σ Q) (.ref s2.heap.objs.size) hp2.objs.size (.error e) s') e s' := fun _ _ z => z.elim
      show wpAny _ _ (letOwnedTupleGo (.Name x px) (.ref it) u >>= fun _ => assign (.Name x px) (compEnvC scope cl hp2.objs.size X.env) u) _ _ _
      refine wpAny_bind (thn h4 fun _ s5 ⟨v, H5, I5, r5, y5, st5, fr5⟩ => ?_)
      have I5' := I5.pinned (stat fr5) (T.obj _ _ st5)
      have hg : PG X' (.Name x px) (gName 0) := pg_name S.nd S.n0 (.inl kloc) (.inr kloc)
      refine wpAny_mono (hg _ s5 _ H5 v u (fun σ' H' => σ' = some v :: capS ci σ ∧ H' = H5) I5' r5 ⟨rfl, rfl⟩) (fun _ s6 ⟨σ6, H6, I6, e6, e7⟩ => ?_) ff
      subst e6 e7
      refine wpAny_tests_nil ?_
      rw [if_pos rfl]
      refine wpAny_mono (he _ _ _ _ _ _ s6 _ H6 _ I6 (step v H6 y5)) (fun uy s7 ⟨y, H7, I7, ry, hD7, m', hm', w7⟩ => ?_) ff
      refine wpAny_mono (mt_append (X := X') _ s7 _ H7 (.ref s2.heap.objs.size) [y] (.ref s2.heap.objs.size) [uy] (fun v H' => v = .non ∧ H' = upd H7 s2.heap.objs.size (.lst (ys ++ [y]))) I7 rfl (.cons ry .nil) ⟨_, ys, y, rfl, rfl, hD7, hlen, rfl, rfl⟩) (fun _ s8 ⟨v8, H8, I8, _, e8, e9⟩ => ?_) ff
      subst e9
      refine ⟨m', hm', i + 1, _, _, _, I8.unpinned, T.keep _ _ _ st5 fun b hb o e => (I8.pin (b, o) (List.mem_append_right _ (List.mem_append_right _ (mem_pinsAt hb e)))).1, fun b hb => ?_, w7⟩
      obtain ⟨o, e, d⟩ := T.obj _ _ st5 b hb
      exact (I8.pin (b, o) (List.mem_append_right _ (List.mem_append_right _ (mem_pinsAt hb e)))).2.1
  exact codeAny_compStart_list (loop _ rfl) (T.self _ 0 _ _ _ (T.keep _ _ _ st2 fun b _ o e => old b o e) (loop _ rfl))
end BB

set_option Elab.async false
set_option linter.all false
set_option maxRecDepth 100000
/-! More rules: a text's signs, all, any, isinstance, is, partition, count, a text times a number, the module's dicts. -/
namespace BB
open PySem PySem.Spec PyProof.Rows L2

/-! ### a text's signs -/
def sgn (c : Nat) : V := .str ⟨#[c]⟩
def Its (x : Str) : It := ⟨fun i _ => i < x.length, fun i H v H' => H' = H ∧ ∃ c, x.cps[i]? = some c ∧ v = sgn c, fun i _ => i = x.length⟩
theorem turn_str {P : Program} {w : World} {K : PySem.W.Frag} {tg : Expr} (it : Addr) (x : Str) (t : Tok) (T : String)
    (hT : ["enumerate", "zip", "dict_itemiterator", "dict_reverseitemiterator", "odict_iterator", "itertools.zip_longest", "itertools.pairwise"].contains T = false)
    (S : ∀ (A : Around) (i : Nat) (s : Shared) (Q : Value → Shared → Prop) (E : Value → Shared → Prop), s.heap.IsStrIter it T x t i → Q (.ref it) s → wpAny (model P w) A (pyIter (.ref it)) Q E s)
    (W : ∀ A : Around, A.handled = none → Walks P w A it [it] [it] x.cps.size (SignAt x) (fun i h => h.IsStrIter it T x t i)) : Turn P w K tg (Its x) [it] it (fun i h => h.IsStrIter it T x t i) where
  mem := by simp
  obj := fun i h st b hb => by
    have e : b = it := by simpa using hb
    subst e
    obtain ⟨o, e, c, d⟩ := st
    exact ⟨o, e, fun v z => by rw [d] at z; cases z⟩
  keep := fun i h h' st k => let ⟨o, ho, r⟩ := st; ⟨o, k it (by simp) o ho, r⟩
  item := by
    intro X hP hw hK hc i pins s σ H E I hf st hg
    subst hP hw hK
    obtain ⟨f0, f1, f2, f3, f4, f5⟩ := hf it (by simp)
    refine (W X.A (I.ok.hd hc)).item i s _ _ (show i < x.cps.size from hg) st fun v h' tk hv st' kk => ?_
    obtain ⟨c, u, hcx, rfl⟩ := hv
    have I1 : L2.Inv X pins σ H { s with heap := h', toks := tk } := I.turned (fun b o hb e => kk b o (by simpa using hb) e) f0 f1 f3 f4 f5
    obtain ⟨o, e, cc, d⟩ := id st'
    exact ⟨_, rfl, go_of (s := { s with heap := h', toks := tk }) e cc d hT ⟨sgn c, H, I1, ⟨u, rfl⟩, ⟨rfl, c, hcx, rfl⟩, st', fun b hb => (hf b hb).1⟩⟩
  done := by
    intro X hP hw hK hc i pins s σ H E I hf st hg
    subst hP hw hK
    obtain ⟨f0, f1, f2, f3, f4, f5⟩ := hf it (by simp)
    have hi : i = x.cps.size := hg
    subst hi
    exact (W X.A (I.ok.hd hc)).done s _ _ st fun h' tk kk => ⟨rfl, I.turned (fun b o hb e => kk b o (by simpa using hb) e) f0 f1 f3 f4 f5⟩
  self := S
def iStr (tl : TE) : TI := fun σ H R => tl σ H fun x H1 => ∃ z, x = .str z ∧ R (Its z) H1
theorem pi_str {X : Cx} {tg l : Expr} {tl : TE} (hl : PE X l tl) : PI X tg l (iStr tl) := by
  intro pins s σ H R I h
  refine thn (hl pins s σ H _ I h) fun v s1 ⟨x, H1, I1, r1, q1⟩ => ?_
  obtain ⟨z, e, q⟩ := q1
  subst e
  obtain ⟨t, rfl⟩ := r1
  have fp : ∀ b ∈ [s1.heap.objs.size], FpOk X pins H1 b := fun b hb => by
    have e : b = s1.heap.objs.size := by simpa using hb
    subst e
    exact I1.fpOk (Nat.le_refl _) (I1.hok.fresh (Nat.le_refl _))
  cases ha : z.cps.all (· < 128)
  · refine wpAny_pyIter_wide ha ?_
    exact ⟨s1.heap.objs.size, [s1.heap.objs.size], _, _, H1, rfl, I1.kept (t' := s1.toks) fun b o e => Heap.get?_push_of_some _ e, turn_str _ z t "str_iterator" (by decide) (fun _ _ _ _ _ st h => wpAny_pyIter_striter_wide st h) fun A hA => Walks.strWide hA _ z t,
      ⟨_, Heap.get?_push_size _ rfl, rfl, rfl⟩, fp, q⟩
  · refine wpAny_pyIter_ascii ha ?_
    exact ⟨s1.heap.objs.size, [s1.heap.objs.size], _, _, H1, rfl, I1.kept (t' := s1.toks) fun b o e => Heap.get?_push_of_some _ e, turn_str _ z t "str_ascii_iterator" (by decide) (fun _ _ _ _ _ st h => wpAny_pyIter_striter_ascii st h) fun A hA => Walks.strAscii hA _ z t,
      ⟨_, Heap.get?_push_size _ rfl, rfl, rfl⟩, fp, q⟩
/-! ### all, any -/
theorem all_range (bs : List Bool) : (List.range bs.length).all (fun i => bs.getD i false) = bs.all id := by
  rw [Bool.eq_iff_iff, List.all_eq_true, List.all_eq_true]
  constructor
  · intro h b hb
    obtain ⟨i, hi, rfl⟩ := List.getElem_of_mem hb
    have := h i (List.mem_range.mpr hi)
    simpa [List.getD, hi] using this
  · intro h i hi
    have hi' := List.mem_range.mp hi
    have := h bs[i] (List.getElem_mem hi')
    simpa [List.getD, hi'] using this
theorem truth_bools {P : Program} {w : World} {A : Around} {bs : List Bool} {its : List Value} (r : Vals (bs.map V.bl) its) : TruthOf P w A (fun i v => its.toArray[i]? = some v) (fun i => bs.getD i false) := by
  intro i v s Q E hv q
  have hv' : its[i]? = some v := by simpa using hv
  have hl := r.length
  have hi : i < bs.length := by
    have := (List.getElem?_eq_some_iff.mp hv').1
    simp at hl; omega
  obtain ⟨u, hu, ru⟩ := r.get (i := i) (x := V.bl bs[i]) (by simp [hi])
  rw [hv'] at hu
  cases hu
  cases ru
  refine wpAny_truthy_bool ?_
  have e : bs.getD i false = bs[i] := by simp [List.getD, hi]
  dsimp only at q
  rw [e] at q
  exact q
theorem call_all {X : Cx} (hc : X.calm = true) : CallR X (.builtin "all") (fun xs H Q => ∃ (p : Addr) (bs : List Bool), xs = [.ref p] ∧ SqL X.K H p (bs.map V.bl) ∧ Q (.bl (bs.all id)) H) := by
  intro pins s σ H xs us Q I r h
  obtain ⟨p, bs, rfl, hq, q⟩ := h
  obtain ⟨u, rfl, ru⟩ := vals1 r
  cases ru
  obtain ⟨its, rv, pl, hz⟩ := I.list hq
  have hh : X.A.in1.handled = none := I.ok.hd hc
  refine call_all_walk (wpAny_pyIter_list pl.isList ?_)
  obtain ⟨ol, hol, hol'⟩ := id pl.isList
  have hne : p ≠ s.heap.objs.size := Nat.ne_of_lt (Heap.lt_size hol)
  refine ⟨s.heap.objs.size, _, _, its.toArray.size, _, _, fun i => bs.getD i false, rfl, Walks.list hh s.heap.objs.size p hne its.toArray, ⟨⟨_, Heap.get?_push_size _ rfl, rfl, rfl⟩, ⟨ol, Heap.get?_push_of_some _ hol, hol'⟩⟩, truth_bools rv, fun h' tk hk => ?_⟩
  have hl : its.toArray.size = bs.length := by have := rv.length; simp at this; simp [this]
  rw [hl, all_range]
  refine ⟨.bl _, H, I.kept (h' := h') (t' := tk) fun b o e => hk b o ?_ (Heap.get?_push_of_some _ e), rfl, q⟩
  intro hb
  have e' : b = s.heap.objs.size := by simpa using hb
  exact absurd (Heap.lt_size e) (by rw [e']; exact Nat.lt_irrefl _)
/-! ### isinstance, is -/
theorem call_isinst {X : Cx} : CallR X (.builtin "isinstance") (fun xs H Q => ∃ x T t b, xs = [x, .ty T] ∧ TyOf X.K H x t ∧ PySem.W.kitOne X.K t (.type T) = some b ∧ Q (.bl b) H) := by
  intro pins s σ H xs us Q I r h
  obtain ⟨x, T, t, b, rfl, ty, e, q⟩ := h
  obtain ⟨u, v, rfl, rx, rv⟩ := vals2 r
  cases rv
  exact isinst_ok I rx ty e fun tk => ⟨.bl b, H, I.tok _, rfl, q⟩
/-! ### texts -/
def partP (x y : Str) : Str × Str × Str := match Builtin.Str.occurrences x y 0 x.length 1 with
  | i :: _ => (Builtin.Str.strSub x 0 i, y, Builtin.Str.strSub x (i + y.length) x.length)
  | [] => (x, Str.empty, Str.empty)
theorem mt_partition {X : Cx} : MtR X "str.partition" (fun x xs H Q => ∃ z y, x = .str z ∧ xs = [.str y] ∧ (y.length == 0) = false ∧ z.length ≤ sizeLine ∧ ∀ p, H p = none → Q (.ref p) (upd H p (.tup [.str (partP z y).1, .str (partP z y).2.1, .str (partP z y).2.2]))) := by
  intro pins s σ H x xs v us Q I rx rs h
  obtain ⟨z, y, rfl, rfl, hy, hz, q⟩ := h
  obtain ⟨t, rfl⟩ := rx
  obtain ⟨u, rfl, t', rfl⟩ := vals1 rs
  refine call_meets PySem.F.slot_str_partition (typeIs_str s z t) PySem.F.entry_str_partition (PySem.F.args_str_partition_2 _ _) (meets_str_partition z y t t' hy hz) ?_
  have hn : H s.heap.objs.size = none := I.hok.fresh (Nat.le_refl _)
  have q2 := q _ hn
  have le : ∀ a b : Nat, (Builtin.Str.strSub z a b).length ≤ sizeLine := fun a b => Nat.le_trans (strSub_length_le ..) hz
  unfold partP at q2
  cases ho : Builtin.Str.occurrences z y 0 z.length 1 with
  | nil =>
    rw [ho] at q2
    refine ⟨.ref s.heap.objs.size, _, I.laid (o := .tup [.str z, .str Str.empty, .str Str.empty]) (t' := s.toks + 1) (fun b o e => Heap.get?_push_of_some _ e) (Nat.le_refl _) ⟨(by show 3 ≤ sizeLine; decide), [.str z t, .str Str.empty s.toks, .str Str.empty s.toks], .cons ⟨_, rfl⟩ (.cons ⟨_, rfl⟩ (.cons ⟨_, rfl⟩ .nil)), ⟨_, Heap.get?_push_size s.heap rfl, rfl, 0, rfl⟩⟩, rfl, q2⟩
  | cons i r =>
    rw [ho] at q2
    refine ⟨.ref s.heap.objs.size, _, I.laid (o := .tup [.str (Builtin.Str.strSub z 0 i), .str y, .str (Builtin.Str.strSub z (i + y.length) z.length)]) (t' := s.toks + 1 + 1) (fun b o e => Heap.get?_push_of_some _ e) (Nat.le_refl _) ⟨(by show 3 ≤ sizeLine; decide), [.str (Builtin.Str.strSub z 0 i) s.toks, .str y t', .str (Builtin.Str.strSub z (i + y.length) z.length) (s.toks + 1)], .cons ⟨_, rfl⟩ (.cons ⟨_, rfl⟩ (.cons ⟨_, rfl⟩ .nil)), ⟨_, Heap.get?_push_size s.heap rfl, rfl, 0, rfl⟩⟩, rfl, q2⟩
/-! ### the module's dicts: keys are texts -/
example {K : PySem.W.Frag} : PySem.W.kitOne K (.type "int") (.type "int") = some true := rfl
example {K : PySem.W.Frag} : PySem.W.kitOne K (.type "bool") (.type "int") = some true := rfl
example {K : PySem.W.Frag} : PySem.W.kitOne K (.type "str") (.type "int") = some false := rfl
example {K : PySem.W.Frag} : PySem.W.kitOne K (.type "NoneType") (.type "tuple") = some false := rfl
end BB

set_option Elab.async false
set_option linter.all false
set_option maxRecDepth 100000
namespace BB
open PySem PySem.Spec PyProof.Rows L2
/-! ### a comprehension's names, by a look -/
def clOf (cells : List (Str × Addr)) : List (Str × NameKind) → List (Str × Addr) → List (Str × Addr)
  | [], acc => acc
  | (n, k) :: r, acc => clOf cells r (if (k == .free) = true then (n, (cells.lookup n).getD 0) :: acc else acc)
theorem clos_go {env : Env} : ∀ (names : List (Str × NameKind)) (acc : List (Str × Addr)), (∀ y ∈ names, y.2 = .free → ∃ c, env.cells.lookup y.1 = some c) →
    (forIn names acc fun (x : Str × NameKind) cs => do
      if (x.2 == NameKind.free) = true then do
        let a ← cellOf env x.1
        pure (ForInStep.yield ((x.1, a) :: cs))
      else pure (ForInStep.yield cs) : Sem (List (Str × Addr))) = pure (clOf env.cells names acc)
  | [], acc, _ => rfl
  | (n, k) :: r, acc, h => by
    have ih := fun acc => clos_go (env := env) r acc fun y hy => h y (List.mem_cons_of_mem _ hy)
    rw [List.forIn_cons]
    unfold clOf
    by_cases hk : (k == NameKind.free) = true
    · obtain ⟨c, hc⟩ := h (n, k) List.mem_cons_self (by simpa using hk)
      simp only [hk, if_true, cellOf, hc, Option.getD_some]
      exact ih _
    · simp only [if_neg hk]
      exact ih _
theorem closureFor_cl {scope : Scope} {env : Env} (h : ∀ y ∈ scope.names, y.2 = .free → ∃ c, env.cells.lookup y.1 = some c) : closureFor scope env = pure (clOf env.cells scope.names []) := by
  unfold closureFor
  have e := clos_go (env := env) scope.names [] h
  show ((forIn scope.names ([] : List (Str × Addr)) fun (x : Str × NameKind) cs => do
      if (x.2 == NameKind.free) = true then do
        let a ← cellOf env x.1
        pure (ForInStep.yield ((x.1, a) :: cs))
      else pure (ForInStep.yield cs) : Sem (List (Str × Addr))) >>= fun cs => pure cs) = _
  rw [e]
  rfl
theorem clOf_sub {cells : List (Str × Addr)} : ∀ {names : List (Str × NameKind)} {acc : List (Str × Addr)}, (∀ y ∈ names, y.2 = .free → ∃ c, cells.lookup y.1 = some c) → (∀ y c, acc.lookup y = some c → cells.lookup y = some c) →
    ∀ y c, (clOf cells names acc).lookup y = some c → cells.lookup y = some c
  | [], acc, _, ha => ha
  | (n, k) :: r, acc, h, ha => by
    unfold clOf
    refine clOf_sub (fun y hy => h y (List.mem_cons_of_mem _ hy)) fun y c e => ?_
    by_cases hk : (k == NameKind.free) = true
    · rw [if_pos hk, List.lookup_cons] at e
      obtain ⟨c', hc⟩ := h (n, k) List.mem_cons_self (by simpa using hk)
      cases hb : y == n with
      | true =>
        rw [hb] at e
        have hc' : cells.lookup n = some c' := hc
        rw [hc'] at e
        rw [eq_of_beq hb, hc']
        exact e
      | false => rw [hb] at e; exact ha y c e
    · rw [if_neg hk] at e
      exact ha y c e
theorem clOf_has {cells : List (Str × Addr)} : ∀ {names : List (Str × NameKind)} {acc : List (Str × Addr)} {y : Str}, ((∃ k, (y, k) ∈ names ∧ k = .free) ∨ (acc.lookup y).isSome = true) → ((clOf cells names acc).lookup y).isSome = true
  | [], acc, y, h => by
    rcases h with ⟨k, hk, _⟩ | h
    · cases hk
    · exact h
  | (n, k) :: r, acc, y, h => by
    unfold clOf
    refine clOf_has ?_
    have push : ∀ z : Addr, (acc.lookup y).isSome = true ∨ y = n → (((n, z) :: acc).lookup y).isSome = true := fun z hz => by
      rw [List.lookup_cons]
      cases hb : y == n with
      | true => rfl
      | false =>
        rcases hz with hz | hz
        · exact hz
        · rw [hz] at hb; simp at hb
    rcases h with ⟨k', hk', e⟩ | h
    · rcases List.mem_cons.mp hk' with z | z
      · cases z
        subst e
        refine .inr ?_
        rw [if_pos (show (NameKind.free == NameKind.free) = true from rfl)]
        exact push _ (.inr rfl)
      · exact .inl ⟨k', z, e⟩
    · refine .inr ?_
      by_cases hk : (k == NameKind.free) = true
      · rw [if_pos hk]; exact push _ (.inl h)
      · rw [if_neg hk]; exact h
theorem relabel_free {env : Env} (hk : (env.scope.kind == .function) = true) : ∀ {names : List (Str × NameKind)} {x : Str}, names.lookup x = some .free → env.kindOf x = some .cell →
    (names.map fun (n, k) => if (k == NameKind.free && env.scope.kind == .function && env.kindOf n == some .cell) then (n, NameKind.cell) else (n, k)).lookup x = some .cell
  | [], _, h, _ => by simp at h
  | (n, k) :: r, x, h, hx => by
    have ih := @relabel_free env hk r x
    show List.lookup x ((if (k == NameKind.free && env.scope.kind == .function && env.kindOf n == some .cell) = true then (n, NameKind.cell) else (n, k)) :: _) = _
    cases hb : x == n with
    | true =>
      simp only [List.lookup_cons, hb] at h
      cases h
      have hn : env.kindOf n = some .cell := by rw [← eq_of_beq hb]; exact hx
      rw [if_pos (by simp [hk, hn])]
      simp [List.lookup_cons, hb]
    | false =>
      simp only [List.lookup_cons, hb] at h
      split
      · simp only [List.lookup_cons, hb]; exact ih h hx
      · simp only [List.lookup_cons, hb]; exact ih h hx
/-- the look -/
def compLook (N0 : List Str) (sc0 : Scope) (sc : Scope) (x : Str) (N : List Str) (ci : List Nat) : Bool :=
  (sc.kind == .function) && (sc0.kind == .function) && (sc.names.all fun y => y.2 != .cell && (y.2 != .local || sc.names.lookup y.1 == some .local) && (y.2 != .free || sc0.names.lookup y.1 == some .cell)) &&
  (sc.names.lookup x == some .local) && (N[0]? == some x) && decide N.Nodup && (N.length == ci.length + 1) &&
  ((List.range ci.length).all fun j => (N0[ci.getD j 0]? == N[j + 1]?) && (match N[j + 1]? with | some y => sc0.names.lookup y == some .cell && sc.names.lookup y == some .free | none => false))
theorem compSc_of {X : Cx} {sc0 sc : Scope} {x : Str} {N : List Str} {ci : List Nat} {N0 : List Str} (h : compLook N0 sc0 sc x N ci = true) (hN : X.N = N0) (hE : X.env.scope = sc0) (hc : ∀ y, sc0.names.lookup y = some .cell → (X.env.cells.lookup y).isSome = true) :
    CompSc X sc (clOf X.env.cells sc.names []) x N ci := by
  subst hE
  subst hN
  unfold compLook at h
  simp only [Bool.and_eq_true] at h
  obtain ⟨⟨⟨⟨⟨⟨⟨h1, h0⟩, h2⟩, h3⟩, h4⟩, h5⟩, h6⟩, h7⟩ := h
  have h2' := List.all_eq_true.mp h2
  have hf : ∀ y ∈ sc.names, y.2 = .free → X.env.scope.names.lookup y.1 = some .cell := fun y hy e => by
    have := h2' y hy
    simp only [Bool.and_eq_true, Bool.or_eq_true] at this
    rcases this.2 with z | z
    · rw [e] at z; simp at z
    · simpa using z
  have hfc : ∀ y ∈ sc.names, y.2 = .free → ∃ c, X.env.cells.lookup y.1 = some c := fun y hy e => Option.isSome_iff_exists.mp (hc _ (hf y hy e))
  refine ⟨closureFor_cl hfc, fun y hy e => ?_, by simpa using h1, fun y hy e => ?_, by simpa using h3, by simpa using h4, of_decide_eq_true h5, by simpa using h6, clOf_sub hfc (fun y c e => nomatch e), fun y hy e => clOf_has (.inl ⟨y.2, hy, e⟩), fun j i y ej ey => ?_⟩
  · have := h2' y hy
    rw [e] at this; simp at this
  · have := h2' y hy
    simp only [Bool.and_eq_true, Bool.or_eq_true] at this
    rcases this.1.2 with z | z
    · rw [e] at z; simp at z
    · simpa using z
  · have hj : j < ci.length := (List.getElem?_eq_some_iff.mp ej).1
    have := List.all_eq_true.mp h7 j (List.mem_range.mpr hj)
    rw [ey] at this
    have e1 : ci.getD j 0 = i := by simp [List.getD, ej]
    rw [e1] at this
    simp only [Bool.and_eq_true, beq_iff_eq] at this
    exact ⟨this.1, this.2.1, relabel_free h0 this.2.2 this.2.1⟩
/-- a constant of the module -/
theorem pe_const {X : Cx} {x : Str} {v : V} {pos : Pos} (hg : Gl X x) (h : ∃ u, X.mg x = some u ∧ RelV v u) (hd : (x == ("__debug__" : Str)) = false := by decide) : PE X (.Name x pos) (tC v) := by
  obtain ⟨u, hm, r⟩ := h
  exact pe_glob hg hm r hd
/-- a comprehension by what holds between two turns, the end of a turn as a continuation -/
theorem comp_by {J : It} {te : TE} {σc : L2.St} {Q : VK} {H1 : Hp} {D : Addr} (n : Nat) (hn : n < sizeLine) (Pv : Nat → List V → Hp → Prop) (h0 : Pv 0 [] (upd H1 D (.lst [])))
    (hat : ∀ i ys H, i ≤ n → Pv i ys H → H D = some (.lst ys) ∧ ys.length = i) (hstop : ∀ ys H, Pv n ys H → J.stop n H ∧ Q (.ref D) H)
    (hgo : ∀ i ys H, i < n → Pv i ys H → J.go i H ∧ ∀ v H', J.yld i H v H' → ∀ R : VK, (∀ y H2, H2 D = some (.lst ys) → Pv (i + 1) (ys ++ [y]) (upd H2 D (.lst (ys ++ [y]))) → R y H2) → te (some v :: σc) H' R) :
    CompAt J te σc Q H1 D := by
  refine ⟨fun i m ys H => m = n - i ∧ i ≤ n ∧ Pv i ys H, ⟨n, by simp, Nat.zero_le _, h0⟩, ?_⟩
  rintro i m ys H ⟨rfl, hi, p⟩
  obtain ⟨e1, e2⟩ := hat i ys H hi p
  refine ⟨e1, ?_⟩
  by_cases hlt : i < n
  · obtain ⟨g, st⟩ := hgo i ys H hlt p
    exact .inr ⟨g, by omega, fun v H' y => st v H' y _ fun y H2 a b => ⟨a, n - (i + 1), by omega, rfl, hlt, b⟩⟩
  · have e : i = n := by omega
    subst e
    exact .inl (hstop ys H p)
/-! ### what a value is -/
inductive Kd where | non | bl | int | str | lst | tup | dct
  deriving DecidableEq
inductive IsK (H : Hp) : V → Kd → Prop where
  | non : IsK H .non .non
  | bl (b : Bool) : IsK H (.bl b) .bl
  | int (i : Int) : IsK H (.int i) .int
  | str (x : Str) : IsK H (.str x) .str
  | lst {a : Addr} {xs : List V} (e : H a = some (.lst xs)) : IsK H (.ref a) .lst
  | tup {a : Addr} {xs : List V} (e : H a = some (.tup xs)) : IsK H (.ref a) .tup
  | dct {a : Addr} {kvs : List (Key × V)} (e : H a = some (.dK kvs)) : IsK H (.ref a) .dct
def Kd.ty : Kd → String
  | .non => "NoneType" | .bl => "bool" | .int => "int" | .str => "str" | .lst => "list" | .tup => "tuple" | .dct => "dict"
theorem IsK.tyOf {K : PySem.W.Frag} {H : Hp} {x : V} {k : Kd} (h : IsK H x k) : TyOf K H x (.type k.ty) := by
  cases h with
  | non => exact .non
  | bl b => exact .bl b
  | int i => exact .int i
  | str x => exact .str x
  | lst e => exact .lst e
  | tup e => exact .tup e
  | dct e => exact .dK e
theorem IsK.same {H H' : Hp} {x : V} {k : Kd} (h : IsK H x k) (s : Same H H') : IsK H' x k := by
  cases h with
  | non => exact .non
  | bl b => exact .bl b
  | int i => exact .int i
  | str x => exact .str x
  | lst e => exact .lst (s _ _ e)
  | tup e => exact .tup (s _ _ e)
  | dct e => exact .dct (s _ _ e)
def isStr : Kd → Bool | .str => true | _ => false
def isInt : Kd → Bool | .int => true | .bl => true | _ => false
def isBool : Kd → Bool | .bl => true | _ => false
theorem kit_str {K : PySem.W.Frag} (k : Kd) : PySem.W.kitOne K (.type k.ty) (.type "str") = some (isStr k) := by cases k <;> rfl
theorem kit_int {K : PySem.W.Frag} (k : Kd) : PySem.W.kitOne K (.type k.ty) (.type "int") = some (isInt k) := by cases k <;> rfl
theorem kit_bool {K : PySem.W.Frag} (k : Kd) : PySem.W.kitOne K (.type k.ty) (.type "bool") = some (isBool k) := by cases k <;> rfl
/-! ### the same, the written part named (inside a comprehension) -/
theorem op_inxK {X : Cx} (K : PySem.W.Frag) (h : X.K = K) : OpR X (compareOp .In) (fun x y H Q => (∃ i j, x = V.str i ∧ y = .str j ∧ Q (.bl (!(Builtin.Str.occurrences j i 0 j.length 1).isEmpty)) H) ∨ rIn K false x y H Q) := by subst h; exact op_inx
theorem IsK.isS {H : Hp} {x : V} {k : Kd} (h : IsK H x k) (e : isStr k = true) : ∃ s, x = .str s := by cases h <;> first | exact ⟨_, rfl⟩ | cases e
/-- texts that are not too long -/
def Small (x : V) : Prop := ∀ s, x = .str s → s.length < sizeLine
theorem part_small {z y : Str} (h : z.length < sizeLine) : (partP z y).1.length < sizeLine ∧ (partP z y).2.2.length < sizeLine := by
  unfold partP
  split
  · exact ⟨Nat.lt_of_le_of_lt (strSub_length_le ..) h, Nat.lt_of_le_of_lt (strSub_length_le ..) h⟩
  · exact ⟨h, Nat.lt_of_le_of_lt (Nat.zero_le _) h⟩
end BB

set_option Elab.async false
set_option linter.all false
set_option maxRecDepth 100000
open PySem
namespace L2
section
variable {X : Cx} {pos : Pos}
/-- an argument that is no *e -/
def noStar : Expr → Bool
  | .Starred .. => false
  | _ => true
theorem star_of {e : Expr} {es : List Expr} {env : Env} (h : noStar e = true) : starEach (e :: es) env = (false, eval e env) :: starEach es env := by
  cases e <;> first | (cases h; done) | (rw [starEach]; intro _ _ q; cases q)
theorem stars_of {env : Env} : ∀ {es : List Expr}, es.all noStar = true → (backTo pos (starEach es env)).any (·.1) = false
  | [], _ => rfl
  | e :: es, h => by
    rw [List.all_cons, Bool.and_eq_true] at h
    rw [star_of h.1]
    show (false || (backTo pos (starEach es env)).any (·.1)) = false
    rw [stars_of h.2]; rfl
theorem pa_c {e : Expr} {es : List Expr} {te : TE} {t : TA} (ha : PE X e te) (hr : PA X es t) (hp : noStar e = true := by rfl) : PA X (e :: es) (tCons te t) := pa_cons ha hr (star_of hp)
end
end L2

set_option Elab.async false
set_option linter.all false
set_option maxRecDepth 100000
/-! Exceptions of one's own: raised in a def, passed on by its callers, caught by a try. -/
namespace L2
open PySem PySem.Spec PyProof.Rows
/-- an exception flies: at e, of class c; it and its trace are new since g, and not tracked -/
def Fly (g : Heap) (H : Hp) (h : Heap) (e : Addr) (c : Value) : Prop :=
  g.get? e = none ∧ H e = none ∧ ∃ oe vs a0 T oT ts, h.get? e = some oe ∧ oe.cls = c ∧ vs[0]? = some a0 ∧ oe.data = .fields vs ∧ vs[1]? = some (.ref T) ∧ g.get? T = none ∧ H T = none ∧ T ≠ e ∧ h.get? T = some oT ∧ oT.data = .fields ts ∧ ts[3]? = some .none
/-- how it lies behind a call -/
def CXR (P : Program) (w : World) : CXT := fun outer H s E x s' => ∃ e c H', x = .ref e ∧ s'.os = s.os ∧ AllBare s'.gens ∧ Un (frs outer) [] H H' s.heap s'.heap ∧ HOk P w H' s'.heap ∧ Fly s.heap H' s'.heap e c ∧ E c none H'
/-- what is known is kept but for the frames' slots -/
structure Kp (g : Heap) (H : Hp) (fs : List Addr) (h h' : Heap) : Prop where
  keep : ∀ b o, (g.get? b ≠ none ∨ H b ≠ none) → b ∉ fs → h.get? b = some o → h'.get? b = some o
  slot : ∀ b o, b ∈ fs → h.get? b = some o → ∃ sl, h'.get? b = some { o with slots := sl }
theorem Fly.older {g g' : Heap} {H : Hp} {h : Heap} {e : Addr} {c : Value} (F : Fly g H h e c) (k : ∀ b, g.get? b = none → g'.get? b = none) : Fly g' H h e c := by
  obtain ⟨a, b, oe, vs, a0, T, oT, ts, h1, h2, h3, h4, h5, h6, r⟩ := F
  exact ⟨k _ a, b, oe, vs, a0, T, oT, ts, h1, h2, h3, h4, h5, k _ h6, r⟩
/-- behind a look at the frames: all else stays -/
theorem kp_of {g h h' : Heap} {H : Hp} {l : List Env} {base : Heap} {e : Addr} {c a0 : Value} {xs : List Addr} (hl : h.FunFrames base l) (hxs : ∀ b ∈ e :: xs, g.get? b = none ∧ H b = none) (hin : ∀ b, (g.get? b ≠ none ∨ H b ≠ none) → ∃ o, h.get? b = some o)
    (st : (PySem.W.hideAll h (e :: (xs ++ frs l))).StaysIn h') (tr : h'.TracedW (PySem.W.hideAll h (e :: (xs ++ frs l))) e c a0) (up : h.UpToSlots h') : Kp g H (frs l) h h' ∧ Fly g H h' e c := by
  have known : ∀ b, (g.get? b ≠ none ∨ H b ≠ none) → b ∉ e :: xs := fun b hb hm => by
    obtain ⟨z1, z2⟩ := hxs b hm
    rcases hb with q | q
    · exact q z1
    · exact q z2
  have sl : ∀ b o, b ∈ frs l → h.get? b = some o → ∃ sl, h'.get? b = some { o with slots := sl } := fun b o hb q => by
    obtain ⟨_, o', q', hn⟩ := hl.mem hb
    rw [q] at q'; cases q'
    exact up b o q hn
  have kp : ∀ b o, (g.get? b ≠ none ∨ H b ≠ none) → b ∉ frs l → h.get? b = some o → h'.get? b = some o := fun b o hb hf q => by
    refine st b o (PySem.W.hideAll_get _ q fun hm => ?_)
    have hk := known b hb
    rcases List.mem_cons.mp hm with z | z
    · exact hk (z ▸ List.mem_cons_self ..)
    · rcases List.mem_append.mp z with z | z
      · exact hk (List.mem_cons_of_mem _ z)
      · exact hf z
  refine ⟨⟨kp, sl⟩, (hxs e (List.mem_cons_self ..)).1, (hxs e (List.mem_cons_self ..)).2, ?_⟩
  obtain ⟨oe, vs, T, oT, ts, he, ⟨hc, h0⟩, hd, h1, hnT, hTe, hT, hdT, h3⟩ := tr
  have free : ∀ q : g.get? T ≠ none ∨ H T ≠ none, False := fun q => by
    obtain ⟨o, ho⟩ := hin T q
    by_cases hm : T ∈ e :: (xs ++ frs l)
    · rcases List.mem_cons.mp hm with z | z
      · exact hTe z
      · rcases List.mem_append.mp z with z | z
        · exact known T q (List.mem_cons_of_mem _ z)
        · obtain ⟨s1, e1⟩ := sl T o z ho
          obtain ⟨_, o', q', hn⟩ := hl.mem z
          rw [ho] at q'; cases q'
          rw [hT] at e1; cases e1
          exact hn _ hdT
    · rw [PySem.W.hideAll_get _ ho hm] at hnT; cases hnT
  refine ⟨oe, vs, a0, T, oT, ts, he, hc, h0, hd, h1, ?_, ?_, hTe, hT, hdT, h3⟩
  · cases q : g.get? T with
    | none => rfl
    | some o => exact (free (.inl (by rw [q]; exact fun z => by cases z))).elim
  · cases q : H T with
    | none => rfl
    | some o => exact (free (.inr (by rw [q]; exact fun z => by cases z))).elim
section
variable {M : Model} {A : Around} {Ex : Value → Shared → Prop} {s : Shared} {env : Env} {outer : List Env} {L e : Addr} {g base : Heap} {H : Hp} {c : Value} {Q : Unit → Shared → Prop}
theorem hidden {l : List Env} {h : Heap} {xs : List Addr} (hl : h.FunFrames base l) (F : Fly g H h e c) : ∃ T a0, (∀ b ∈ e :: [T], g.get? b = none ∧ H b = none) ∧ Heap.FlyingW (PySem.W.hideAll h (e :: ([T] ++ frs l))) l e c a0 h := by
  obtain ⟨a, b, oe, vs, a0, T, oT, ts, h1, h2, h3, h4, h5, h6, h7, h8, h9, h10, h11⟩ := F
  refine ⟨T, a0, fun x hx => ?_, fun x o q => PySem.W.of_hideAll _ q, PySem.W.hideAll_none _ (List.mem_cons_self ..), PySem.W.funFrames_hide hl fun env hm x hx => ?_, oe, vs, T, oT, ts, h1, ⟨h2, h3⟩, h4, h5, PySem.W.hideAll_none _ (by simp), h8, h9, h10, h11⟩
  · simp only [List.mem_cons, List.not_mem_nil, or_false] at hx
    rcases hx with rfl | rfl
    · exact ⟨a, b⟩
    · exact ⟨h6, h7⟩
  · exact List.mem_cons_of_mem _ (List.mem_append_right _ (List.mem_filterMap.mpr ⟨env, hm, hx⟩))
/-- it leaves a frame -/
theorem leave_fly (hfr : A.frames = some (env :: outer)) (hf : env.frame = some L) (hl : s.heap.FunFrames base (env :: outer)) (hin : ∀ b, (g.get? b ≠ none ∨ H b ≠ none) → ∃ o, s.heap.get? b = some o) (F : Fly g H s.heap e c)
    (k : ∀ h', Kp g H (frs (env :: outer)) s.heap h' → Fly g H h' e c → Q () { s with heap := h' }) : wpAny M A (leaving env (.ref e)) Q Ex s := by
  obtain ⟨T, a0, hx, fl⟩ := hidden (xs := []) hl F
  obtain ⟨f1, f2, f3, f4⟩ := fl
  refine wpAny_leaving_nextW hfr f3 hf f4 f1 f2 fun h' hL => ?_
  obtain ⟨k1, _, k3, k4⟩ := hL
  have r := kp_of (g := g) (H := H) hl hx hin k1 k3 k4
  exact k h' r.1 r.2
/-- it lands at a try -/
theorem land_fly (hfr : A.frames = some (env :: outer)) (hf : env.frame = some L) (hl : s.heap.FunFrames base (env :: outer)) (hin : ∀ b, (g.get? b ≠ none ∨ H b ≠ none) → ∃ o, s.heap.get? b = some o) (F : Fly g H s.heap e c)
    (k : ∀ h', Kp g H (frs (env :: outer)) s.heap h' → Fly g H h' e c → Q () { s with heap := h' }) : wpAny M A (noteFrame (.ref e) env) (fun _ s2 => wpAny M A (setFlight (.ref e) none) Q Ex s2) Ex s := by
  obtain ⟨T, a0, hx, fl⟩ := hidden (xs := []) hl F
  refine wpAny_looks_onW hfr hf fl fun h1 held up1 => wpAny_landsW held fun h2 fl2 up2 => ?_
  have r := kp_of (g := g) (H := H) hl hx hin fl2.1 fl2.2.2.2 (up1.trans up2)
  exact k h2 r.1 r.2
theorem again_fly {l : List Env} (hl : s.heap.FunFrames base l) (hin : ∀ b, (g.get? b ≠ none ∨ H b ≠ none) → ∃ o, s.heap.get? b = some o) (F : Fly g H s.heap e c)
    (k : ∀ h', Kp g H (frs l) s.heap h' → Fly g H h' e c → Q () { s with heap := h' }) : wpAny M A (setFlight (.ref e) none) Q Ex s := by
  obtain ⟨T, a0, hx, fl⟩ := hidden (xs := []) hl F
  refine lands_againW fl fun h2 fl2 up2 => ?_
  have r := kp_of (g := g) (H := H) hl hx hin fl2.1 fl2.2.2.2 up2
  exact k h2 r.1 r.2
/-- a new one leaves its frame -/
theorem leave_new {args : List Value} {C : Addr} {h0 : Heap} (hfr : A.frames = some (env :: outer)) (hf : env.frame = some L) (hl : s.heap.FunFrames base (env :: outer)) (hin : ∀ b, (g.get? b ≠ none ∨ H b ≠ none) → ∃ o, s.heap.get? b = some o)
    (he : ∃ t, s.heap.get? e = some { cls := c, data := .fields #[.ref t, .none, .none, .none, .bool false, .none] }) (hg : g.get? e = none) (hH : H e = none)
    (k : ∀ h', Kp g H (frs (env :: outer)) s.heap h' → Fly g H h' e c → Q () { s with heap := h' }) : wpAny M A (leaving env (.ref e)) Q Ex s := by
  obtain ⟨t, he⟩ := he
  refine wpAny_leaving_firstW (base := PySem.W.hideAll s.heap (e :: ([] ++ frs (env :: outer)))) hfr (PySem.W.funFrames_hide hl fun env hm x hx => List.mem_cons_of_mem _ (List.mem_filterMap.mpr ⟨env, hm, hx⟩)) hf he (fun x o q => PySem.W.of_hideAll _ q) (PySem.W.hideAll_none _ (List.mem_cons_self ..)) rfl rfl rfl fun h' hL => ?_
  obtain ⟨k1, _, k3, k4⟩ := hL
  have r := kp_of (g := g) (H := H) (xs := []) hl (fun b hb => by
    obtain rfl : b = e := by simpa using hb
    exact ⟨hg, hH⟩) hin k1 k3 k4
  exact k h' r.1 r.2
end
end L2

set_option Elab.async false
set_option linter.all false
set_option maxRecDepth 100000
namespace L2
open PySem PySem.Spec PyProof.Rows
section
variable {X : Cx} {pins : List (Addr × Obj)} {σ : St} {H H' : Hp} {s s' : Shared}
theorem un_kp {fs : List Addr} {H1 H2 : Hp} {h1 h2 h3 : Heap} (u : Un fs [] H1 H2 h1 h2) (kp : Kp h1 H2 fs h2 h3) : Un fs [] H1 H2 h1 h3 where
  keep := fun b o q n hb hx => kp.keep b o (.inl (by rw [q]; exact fun z => by cases z)) hb (u.keep b o q n hb hx)
  slot := fun b o q n hb hx => by
    obtain ⟨sl, e1⟩ := u.slot b o q n hb hx
    obtain ⟨sl', e2⟩ := kp.slot b _ hb e1
    exact ⟨sl', e2⟩
  free := u.free
  there := fun b o q hx => by
    obtain ⟨o', e1⟩ := u.there b o q hx
    by_cases hb : b ∈ fs
    · obtain ⟨sl, e2⟩ := kp.slot b _ hb e1; exact ⟨_, e2⟩
    · exact ⟨o', kp.keep b o' (.inl (by rw [q]; exact fun z => by cases z)) hb e1⟩
  tups := u.tups
  frzs := u.frzs
  tbls := u.tbls
theorem hok_kp {P : Program} {w : World} {fs : List Addr} {g h h' : Heap} (ok : HOk P w H h) (kp : Kp g H fs h h') (hf : ∀ b ∈ fs, H b = none) : HOk P w H h' := fun a o q =>
  (ok a o q).stay (fun b u hb hq => by
    have hn : H b ≠ none := by
      rcases hb with rfl | hb
      · rw [q]; exact fun z => by cases z
      · rw [hb]; exact fun z => by cases z
    exact kp.keep b u (.inr hn) (fun z => hn (hf b z)) hq) (fun _ q => q) fun _ _ q => q
theorem hok_there {P : Program} {w : World} {h : Heap} (ok : HOk P w H h) {b : Addr} (hb : H b ≠ none) : ∃ o, h.get? b = some o := by
  cases q : H b with
  | none => exact (hb q).elim
  | some o =>
    have := ok b o q
    cases o with
    | lst xs => obtain ⟨_, _, _, _, e⟩ := this; exact ⟨_, e⟩
    | tup xs => obtain ⟨_, _, _, p⟩ := this; obtain ⟨ob, e, _⟩ := p; exact ⟨_, e⟩
    | dK kvs => obtain ⟨_, _, _, _, o, _, _, e, _⟩ := this; exact ⟨_, e⟩
    | dT kvs => obtain ⟨_, _, _, _, o, _, _, e, _⟩ := this; exact ⟨_, e⟩
    | set S n => obtain ⟨o, _, _, _, e, _⟩ := this; exact ⟨_, e⟩
    | ins C dx fs => obtain ⟨_, _, _, e, _⟩ := this; exact ⟨_, e⟩
    | own y => obtain ⟨_, e⟩ := this; exact ⟨_, e⟩
    | xd fs => obtain ⟨_, ⟨_, _, _, e, _⟩, _⟩ := this; exact ⟨_, e⟩
    | rng lo hi => obtain ⟨_, _, _, e⟩ := this; exact ⟨_, e⟩
    | frz ob u => obtain ⟨e, _⟩ := this; exact ⟨_, e⟩
    | tbl ps => exact ⟨_, this⟩
    | met f y => exact ⟨_, this⟩
    | ext φ => obtain ⟨_, e, _⟩ := this; exact e
theorem Inv.hin0 (I : Inv X pins σ H s) (hx : X.ex = []) : ∀ b, (X.s₀.heap.get? b ≠ none ∨ H b ≠ none) → ∃ o, s.heap.get? b = some o := fun b hb => by
  rcases hb with q | q
  · cases e : X.s₀.heap.get? b with
    | none => exact (q e).elim
    | some o => exact I.base.there b o e (by rw [hx]; simp)
  · exact hok_there I.hok q
theorem Inv.old0 (I : Inv X pins σ H s) (hx : X.ex = []) : ∀ b, s.heap.get? b = none → X.s₀.heap.get? b = none := fun b hb => by
  cases e : X.s₀.heap.get? b with
  | none => rfl
  | some o => obtain ⟨o', q⟩ := I.base.there b o e (by rw [hx]; simp); rw [hb] at q; cases q
/-- behind the fall of a frame -/
theorem cxr_of {P : Program} {w : World} {K : PySem.W.Frag} {mg : Str → Option Value} {base : Heap} {N : List Str} {qual : Str} {scope : Scope} {f : Addr} {cd : Value} {A : Around} {outer : List Env} {s0 : Shared} {H0 : Hp} {E : XK} {CX : CXT} {e : Addr} {c : Value} {h' : Heap}
    (I : Inv (cxOf CX P w K mg base N qual scope f cd A outer s0 H0 E) pins σ H s) (kp : Kp s0.heap H (frs (envOfC qual scope s0.heap.objs.size f cd :: outer)) s.heap h') (F : Fly s0.heap H h' e c) (hE : E c none H) :
    CXR P w outer H0 s0 E (.ref e) { s with heap := h' } := by
  have sub : ∀ b ∈ frs outer, b ∈ frs (envOfC qual scope s0.heap.objs.size f cd :: outer) := fun b hb => by
    obtain ⟨z, hz, hq⟩ := List.mem_filterMap.mp hb
    exact List.mem_filterMap.mpr ⟨z, List.mem_cons_of_mem _ hz, hq⟩
  have nin : ∀ b o, s0.heap.get? b = some o → b ∉ frs outer → b ∉ frs (envOfC qual scope s0.heap.objs.size f cd :: outer) := fun b o q hb hm => by
    obtain ⟨z, hz, hq⟩ := List.mem_filterMap.mp hm
    rcases List.mem_cons.mp hz with rfl | hz
    · have : s0.heap.objs.size = b := Option.some.inj hq
      exact absurd (Heap.lt_size q) (by rw [← this]; exact Nat.lt_irrefl _)
    · exact hb (List.mem_filterMap.mpr ⟨z, hz, hq⟩)
  refine ⟨e, c, H, rfl, I.os, I.bare, ⟨fun b o q n hb hx => ?_, fun b o q n hb hx => ?_, I.base.free, fun b o q hx => ?_, I.base.tups, I.base.frzs, I.base.tbls⟩, hok_kp I.hok kp I.stkFree, F, hE⟩
  · exact kp.keep b o (.inl (by rw [q]; exact fun z => by cases z)) (nin b o q hb) (I.base.keep b o q n hb hx)
  · obtain ⟨sl, e1⟩ := I.base.slot b o q n hb hx
    obtain ⟨sl', e2⟩ := kp.slot b _ (sub b hb) e1
    exact ⟨sl', e2⟩
  · obtain ⟨o', e1⟩ := I.base.there b o q hx
    by_cases hb : b ∈ frs (envOfC qual scope s0.heap.objs.size f cd :: outer)
    · obtain ⟨sl, e2⟩ := kp.slot b _ hb e1; exact ⟨_, e2⟩
    · exact ⟨o', kp.keep b o' (.inl (by rw [q]; exact fun z => by cases z)) hb e1⟩
end
section
variable {P : Program} {w : World} {K : PySem.W.Frag} {mg : Str → Option Value} {base : Heap} {N : List Str} {qual : Str} {scope : Scope} {f : Addr} {cd : Value} {A : Around} {outer : List Env} {s0 : Shared} {H0 : Hp} {E : XK}
/-- a callee's exception is passed on -/
theorem passR : Passes (CXR P w) (cxOf (CXR P w) P w K mg base N qual scope f cd A outer s0 H0 E) E := by
  intro pins σ H s x s' I h
  obtain ⟨e, c, H', rfl, os, bare, un, hok, F, hE⟩ := h
  have I' := I.call' os un hok bare (fun _ z => nomatch z)
  exact leave_fly (g := s0.heap) I'.ok.frames rfl I'.stack (I'.hin0 rfl) (F.older (I.old0 rfl)) fun h' kp F' => cxr_of I' kp F' hE
end
/-- a class of exceptions of one's own -/
structure Exc (K : PySem.W.Frag) (C : Addr) (bmB : List Value) (newId : String) : Prop where
  ok : PySem.W.excIn K C bmB newId = true
theorem Exc.get {K : PySem.W.Frag} {C : Addr} {bmB : List Value} {newId : String} {h : Heap} (x : Exc K C bmB newId) (KX : K.In h) :
    ∃ bm N nm q bs hdct sn sub ab col dd k0 k1 k2 k3 k5 mN, h.get? C = some (excClassObj nm q C N bs bm hdct sn sub ab col dd k0 k1 k2 k3 k5 newId) ∧ h.Ns N mN ∧ mN "__init__" = none ∧ OwnTail h bmB bm ∧ (∃ dc cd sl, K.lookup C = some ⟨.type "type", dc, .cls cd, sl⟩ ∧ cd.mro = .ref C :: bm) := by
  have q := x.ok
  unfold PySem.W.excIn at q
  split at q
  case h_2 => cases q
  case h_1 dc cl sl look =>
    split at q
    case h_2 => cases q
    case h_1 C2 tl a0 a1 a2 a3 made a5 em es =>
      simp only [Bool.and_eq_true, beq_iff_eq, Bool.not_eq_true'] at q
      obtain ⟨⟨⟨⟨⟨e1, e2⟩, e3⟩, e4⟩, e5⟩, e6⟩ := q
      subst e1 e2
      have em0 := em
      obtain ⟨nm, bs, mro, ns, qn, hd, sn, sub, ab, col, del⟩ := cl
      have er : sl = #[a0, a1, a2, a3, some (.builtin made), a5] := by cases sl; simpa using es
      dsimp only at em e3 e5 e6
      subst em e3 er
      exact ⟨tl, ns, nm, qn, bs, hd, sn, sub, ab, col, dc, a0, a1, a2, a3, a5, _, KX _ _ look, .of_isNs (PySem.W.isNs_of_in KX e5), PySem.W.nsMap_none_of_in KX e5 e6, PySem.W.tail_of_in KX e4, ⟨_, _, _, look, em0⟩⟩
end L2

set_option Elab.async false
set_option linter.all false
set_option maxRecDepth 100000
namespace L2
open PySem PySem.Spec PyProof.Rows
/-- raise C(..), C a class of one's own without __init__ -/
def tRaise (C : Addr) (t : TA) (E : XK) : TS := fun _ σ H => t σ H fun vs H1 => vs.length ≤ sizeLine ∧ E (.ref C) none H1
section
variable {P : Program} {w : World} {K : PySem.W.Frag} {mg : Str → Option Value} {base : Heap} {N : List Str} {qual : Str} {scope : Scope} {f : Addr} {cd : Value} {A : Around} {outer : List Env} {s0 : Shared} {H0 : Hp} {E : XK}
  {x : Str} {np cpos pos : Pos} {e0 : Expr} {rest : List Expr} {t : TA} {C : Addr} {bmB : List Value} {newId B initId : String}
theorem ps_raise (O : Exc K C bmB newId) (FB : ExcBaseFacts B newId initId bmB) (hg : Gl (cxOf (CXR P w) P w K mg base N qual scope f cd A outer s0 H0 E) x) (hm : mg x = some (.ref C)) (ha : PA (cxOf (CXR P w) P w K mg base N qual scope f cd A outer s0 H0 E) (e0 :: rest) t)
    (hp : noStar e0 = true := by rfl) (hps : rest.all noStar = true := by rfl) (hdb : (x == ("__debug__" : Str)) = false := by decide) :
    PS (cxOf (CXR P w) P w K mg base N qual scope f cd A outer s0 H0 E) (.Raise (some (.Call (.Name x np) (e0 :: rest) [] cpos)) none pos) (tRaise C t E) := by
  intro pins s σ H D I h
  obtain ⟨bm, N', nm, q, bs, hdct, sn, sub, ab, col, dd, k0, k1, k2, k3, k5, mN, hC, hN, hni, T, _⟩ := O.get I.ok.mod.kin
  refine wpAny_Raise_call_subT (C := C) (nm := nm) (q := q) (N := N') (bs := bs) (bm := bm) (hdct := hdct) (sn := sn) (sub := sub) (ab := ab) (col := col) (dd := dd) (k0 := k0) (k1 := k1) (k2 := k2) (k3 := k3) (k5 := k5) (mN := mN)
    FB (T.hasType FB.hasBase) (I.ok.hd rfl) (stars_of (by rw [List.all_cons, hp, hps]; rfl)) hni (ld_glob I hg hm ⟨rfl, ?_⟩ hdb)
  have h2 := ha cpos pins s σ H _ I h
  rw [star_of hp] at h2 ⊢
  refine Calls.evalArgs_plain (wpAny_mono h2 (fun us s2 z => ?_) fun _ _ y => y)
  obtain ⟨vs, H1, I1, r, hlen, hE⟩ := z
  refine ⟨rfl, by rw [← r.length]; exact hlen, I1.bk _ _ hC, hN.keeps I1.bk, T.keeps I1.bk, fun h' e made => ?_⟩
  have I2 := I1.kept (t' := s2.toks) made.keeps
  obtain ⟨t', he, _, _⟩ := made.there
  refine leave_new (args := us) (C := C) (h0 := base) (g := s0.heap) (H := H1) I2.ok.frames rfl I2.stack (I2.hin0 rfl) ⟨t', he⟩ (I1.old0 rfl e made.new) ?_ fun h'' kp F => cxr_of I2 kp F hE
  cases q1 : H1 e with
  | none => rfl
  | some o =>
    obtain ⟨ob, q2⟩ := hok_there I1.hok (b := e) (by rw [q1]; exact fun z => by cases z)
    rw [made.new] at q2; cases q2
end
end L2
namespace BB
open PySem PySem.Spec PyProof.Rows L2
section
variable {P : Program} {w : World} {K : PySem.W.Frag} {mg : Str → Option Value} {base : Heap}
/-- a def that may raise -/
theorem Def.canX {x : Str} {st : Stmt} {N ps : List Str} {k : Nat} {sp : Sp} (F : Def K mg x st) (S : FnScope N ps (defScope st))
    (hb : ∀ (kV doc pm : Value) (an : Option Addr) (cdv ct : Value) (us : List Value), us.length = ps.length → bindArgs (PySem.W.fnOf x x (defArgs st) (defBody st) (defScope st) .none kV doc pm an cdv ct) ⟨us, []⟩ = pure (ps.zip us))
    (len : ∀ vs H Q E, sp vs H Q E → vs.length = ps.length)
    (hbody : ∀ (f : Addr) (cdv : Value) (A : Around) (outer : List Env) (s : Shared) (H : Hp) (vs : List V) (Q : VK) (E : XK), Room k (A.deeper (envOfC x (defScope st) s.heap.objs.size f cdv)) → sp vs H Q E →
      ∃ t, PSs (cxOf (CXR P w) P w K mg base N x (defScope st) f cdv A outer s H E) (defBody st) t ∧ t { nx := fun _ H' => Q .non H', rt := Q } (start N vs) H) : Can P w K mg base (CXR P w) (k + 1) x ps sp := by
  obtain ⟨f, fd, F1, hm⟩ := F.ex
  refine ⟨f, fd, ?_, hm, F1.kp, F1.binds hb⟩
  obtain ⟨oc, od, kV, doc, pm, an, cdv, ct, osl, rfl, lk, hcd⟩ := F1.ex
  exact fn_of lk hcd S len fun A outer s H vs Q E hr hsp => hbody f cdv A outer s H vs Q E hr hsp
end
section
variable {P : Program} {w : World} {K : PySem.W.Frag} {mg : Str → Option Value} {base : Heap} {N : List Str} {qual : Str} {scope : Scope} {f : Addr} {cd : Value} {A : Around} {outer : List Env} {s0 : Shared} {H0 : Hp} {E : XK} {x : Str} {k : Nat} {ps : List Str} {sp : Sp} {p pos : Pos} {e : Expr} {es : List Expr} {t : TA}
/-- its call in a def that passes the exception on -/
theorem pe_canX (C : Can P w K mg base (CXR P w) k x ps sp) (hr : Room k (A.deeper (envOfC qual scope s0.heap.objs.size f cd))) (hg : Gl (cxOf (CXR P w) P w K mg base N qual scope f cd A outer s0 H0 E) x) (ha : PA (cxOf (CXR P w) P w K mg base N qual scope f cd A outer s0 H0 E) (e :: es) t)
    (hp : noStar e = true := by rfl) (hps : es.all noStar = true := by rfl) (hdb : (x == ("__debug__" : Str)) = false := by decide) :
    PE (cxOf (CXR P w) P w K mg base N qual scope f cd A outer s0 H0 E) (.Call (.Name x p) (e :: es) [] pos) (tCall sp [] E t) := by
  obtain ⟨f', fd, F, hm, hk, hb⟩ := C.ex
  exact pe_call F hr hg hm hk hb .nil passR ha hdb (star_of hp) (stars_of hps)
end
end BB
namespace L2
open PySem PySem.Spec PyProof.Rows
/-- the body of a try: an exception of a callee comes out with the state ahead of that call, whose names are σ₀'s -/
def Cx.inTry (X : Cx) (pins : List (Addr × Obj)) (σ₀ : St) (E : XK) : Cx := { X with pn := X.pn ++ pins, xe := fun x s' => ∃ H1 s1, Inv X pins σ₀ H1 s1 ∧ CXR X.prog X.w X.stack H1 s1 E x s' }
/-- the suite of an except -/
def Cx.inExc (X : Cx) (e : Addr) : Cx := { X with A := X.A.mark (some (.ref e)), calm := false, xe := fun _ _ => False }
/-- an exception in hand: its class -/
def excO (e : Addr) (c : Value) : HO := .ext fun h => ∃ o, h.get? e = some o ∧ o.cls = c ∧ (∃ vs, o.data = .fields vs) 
section
variable {X : Cx} {pins : List (Addr × Obj)} {σ σ₀ : St} {H H' : Hp} {s s' : Shared} {E : XK} {e : Addr}
theorem Inv.intoTry (I : Inv X pins σ H s) : Inv (X.inTry pins σ₀ E) [] σ H s :=
  ⟨⟨I.ok.mod, I.ok.kind, I.ok.glob, I.ok.blt, I.ok.above, I.ok.inj, I.ok.has, I.ok.cab, I.ok.hd, I.ok.frames, I.ok.stk, I.ok.exf, I.ok.bs, I.ok.bsz, I.ok.noex, I.ok.exfs, I.ok.funs, I.ok.frf⟩, I.os, I.bare, I.base, I.loc, I.cell, I.free, I.freeC, fun p hp => I.pin p (by simpa [Cx.inTry] using hp), I.hok, I.len⟩
theorem Inv.outTry {pp : List (Addr × Obj)} (I : Inv (X.inTry pins σ₀ E) pp σ H s) : Inv X pins σ H s :=
  ⟨⟨I.ok.mod, I.ok.kind, I.ok.glob, I.ok.blt, I.ok.above, I.ok.inj, I.ok.has, I.ok.cab, I.ok.hd, I.ok.frames, I.ok.stk, I.ok.exf, I.ok.bs, I.ok.bsz, I.ok.noex, I.ok.exfs, I.ok.funs, I.ok.frf⟩, I.os, I.bare, I.base, I.loc, I.cell, I.free, I.freeC, fun p hp => I.pin p (List.mem_append_left _ hp), I.hok, I.len⟩
theorem Inv.inExc (I : Inv X pins σ H s) : Inv (X.inExc e) pins σ H s :=
  ⟨⟨I.ok.mod, I.ok.kind, I.ok.glob, I.ok.blt, I.ok.above, I.ok.inj, I.ok.has, I.ok.cab, fun z => (Bool.false_ne_true z).elim, I.ok.frames, I.ok.stk, I.ok.exf, I.ok.bs, I.ok.bsz, I.ok.noex, I.ok.exfs, I.ok.funs, I.ok.frf⟩, I.os, I.bare, I.base, I.loc, I.cell, I.free, I.freeC, I.pin, I.hok, I.len⟩
theorem Inv.outExc (hd : X.calm = true → X.A.handled = none) (I : Inv (X.inExc e) pins σ H s) : Inv X pins σ H s :=
  ⟨⟨I.ok.mod, I.ok.kind, I.ok.glob, I.ok.blt, I.ok.above, I.ok.inj, I.ok.has, I.ok.cab, hd, I.ok.frames, I.ok.stk, I.ok.exf, I.ok.bs, I.ok.bsz, I.ok.noex, I.ok.exfs, I.ok.funs, I.ok.frf⟩, I.os, I.bare, I.base, I.loc, I.cell, I.free, I.freeC, I.pin, I.hok, I.len⟩
theorem SP.outTry {D : Ends} {fl : Flow} {pp : List (Addr × Obj)} (h : SP (X.inTry pins σ₀ E) pp D fl s') : SP X pins D fl s' := by
  cases fl with
  | next => obtain ⟨σ', H', I, q⟩ := h; exact ⟨σ', H', I.outTry, q⟩
  | brk => obtain ⟨σ', H', I, q⟩ := h; exact ⟨σ', H', I.outTry, q⟩
  | cont => obtain ⟨σ', H', I, q⟩ := h; exact ⟨σ', H', I.outTry, q⟩
  | ret u => obtain ⟨v, σ', H', I, r, q⟩ := h; exact ⟨v, σ', H', I.outTry, r, q⟩
/-- the except's name goes -/
theorem goes_ok {M : Model} {A : Around} {Ex : Value → Shared → Prop} {i : Nat} {n : Str} {pos : Pos} {Q : Unit → Shared → Prop} (I : Inv X pins σ H s) (hN : X.N.Nodup) (hi : X.N[i]? = some n) (hk : X.env.scope.names.lookup n = some .local)
    (k : ∀ s', Inv X pins (σ.set i none) H s' → Q () s') : wpAny M A (do bindName X.env n .none; unbindBehindTheSuite X.env n pos) Q Ex s := by
  obtain ⟨m, hn, hl⟩ := id I.loc
  have hcls : (X.env.scope.kind == .class || (X.env.scope.kind == .module && X.env.locals != X.env.globals)) = false := by rw [I.ok.kind]; rfl
  have hiσ : i < σ.length := by rw [I.len]; exact (List.getElem?_eq_some_iff.mp hi).1
  have cne := I.cne
  refine wpAny_nameGoes_keeps hk hn hcls fun h' v hn' hs => ?_
  have low : ∀ b o, X.s₀.heap.get? b = some o → h'.get? b = s.heap.get? b := fun b o e => hs.2 b (Nat.ne_of_lt (Nat.lt_of_lt_of_le (Heap.lt_size e) I.ok.above))
  refine k _ ⟨I.ok, I.os, I.bare, ⟨fun b o e n hb hx => ?_, fun b o e n hb hx => ?_, I.base.free, fun b o e hx => ?_, I.base.tups, I.base.frzs, I.base.tbls⟩, ⟨_, hn', fun j y v' e1 e2 e3 => ?_⟩, fun y c e => ?_, I.free, I.freeC, fun p hp => ?_, ?_, by simpa using I.len⟩
  · exact (low b o e).trans (I.base.keep b o e n hb hx)
  · obtain ⟨sl, e1⟩ := I.base.slot b o e n hb hx
    exact ⟨sl, (low b o e).trans e1⟩
  · obtain ⟨o', e1⟩ := I.base.there b o e hx
    exact ⟨o', (low b o e).trans e1⟩
  · by_cases hj : j = i
    · subst hj
      rw [List.getElem?_set_self hiσ] at e2
      cases e2
    · rw [List.getElem?_set_ne (Ne.symm hj)] at e2
      obtain ⟨u', r', q⟩ := hl j y v' e1 e2 e3
      refine ⟨u', r', ?_⟩
      rcases q with ⟨k, e⟩ | ⟨k, c, e, z⟩
      · refine .inl ⟨k, ?_⟩
        have : y ≠ n := fun e => hj (nodup_ix hN e1 (e ▸ hi))
        simp [this, e]
      · exact .inr ⟨k, c, e, z.sameBut hs (cne y c e)⟩
  · obtain ⟨w', z⟩ := I.cell y c e
    exact ⟨w', z.sameBut hs (cne y c e)⟩
  · obtain ⟨e, n, ne, nf, d⟩ := I.pin p hp
    exact ⟨(hs.2 p.1 ne).trans e, n, ne, nf, d⟩
  · intro b ob e
    have hb : ∀ c, H c ≠ none → c ≠ X.env.locals := fun c hc z => hc (z ▸ I.free)
    refine (I.hok b ob e).stay (fun c w' hc q => (hs.2 c (hb c ?_)).trans q) (fun _ q => q) fun _ _ q => q
    rcases hc with rfl | hc
    · rw [e]; exact fun z => by cases z
    · rw [hc]; exact fun z => by cases z
end
end L2

set_option Elab.async false
set_option linter.all false
set_option maxRecDepth 100000
namespace PySem
section
variable {M : Model} {A : Around} {E : Value → Shared → Prop}
variable {nm q : Str} {C N : Addr} {bs bm : List Value} {hdct : Bool} {sn : List Str} {sub : List Value} {ab : Bool} {col : Option Bool} {dd : Option Addr} {k0 k1 k2 k3 k5 : Option Value} {newId : String}
  {nm' q' : Str} {C' N' : Addr} {bs' bm' : List Value} {hdct' : Bool} {sn' : List Str} {sub' : List Value} {ab' : Bool} {col' : Option Bool} {dd' : Option Addr} {k0' k1' k2' k3' k5' : Option Value} {newId' : String}
/-- an exception of class C at an except of the class C', of one's own both -/
theorem excMatches_two {h : Heap} {g : Array GenState} {d : Drawn} {t : Nat} {os : OsState} {e : Addr} {oe : Obj} {Q : Bool → Shared → Prop}
    (hC : h.get? C = some (excClassObj nm q C N bs bm hdct sn sub ab col dd k0 k1 k2 k3 k5 newId)) (hC' : h.get? C' = some (excClassObj nm' q' C' N' bs' bm' hdct' sn' sub' ab' col' dd' k0' k1' k2' k3' k5' newId')) (he : h.get? e = some oe) (hcls : oe.cls = .ref C)
    (hb : bm'.contains (.type "BaseException") = true) (hm : (Value.ref C :: bm).contains (.ref C') = true) (hq : Q true ⟨h, g, d, t, os⟩) : wpAny M A (excMatches (.ref e) (.ref C')) Q E ⟨h, g, d, t, os⟩ := by
  have hcB : (Value.ref C' :: bm').contains (.type "BaseException") = true := by rw [List.contains_cons, hb, Bool.or_true]
  have notTup := tc_notTuple
  unfold excMatches
  repeat (first | (with_reducible refine wpAny_loadPart_at he ?_; rw [hcls]) | with_reducible refine wpAny_loadPart_at hC' ?_ | (with_reducible refine wpAny_isSubtype_exc hC' ?_; rw [hcB]) | (with_reducible refine wpAny_isSubtype_exc hC ?_; rw [hm]) | wp_step)
  exact hq
end
end PySem
namespace L2
open PySem PySem.Spec PyProof.Rows
/-- C is of the class C' -/
def SubE (K : PySem.W.Frag) (C C' : Addr) : Prop := ∃ oc od cd sl, K.lookup C = some ⟨oc, od, .cls cd, sl⟩ ∧ cd.mro.contains (.ref C') = true
/-- a try with one except .. as n -/
def tTry (K : PySem.W.Frag) (B : Addr) (i : Nat) (tb : St → XK → TS) (th : TS) : TS := fun D σ H => tb σ (fun c _ H' => ∃ C bmB newId, c = .ref C ∧ Exc K C bmB newId ∧ SubE K C B ∧ ∀ e, H' e = none →
  th { nx := fun σ' H2 => D.nx (σ'.set i none) H2, rt := D.rt, bk := fun σ' H2 => D.bk (σ'.set i none) H2, ct := fun σ' H2 => D.ct (σ'.set i none) H2 } (σ.set i (some (.ref e))) (upd H' e (excO e c))) D σ H
section
variable {X : Cx}
theorem ps_try {body suite : List Stmt} {b₀ : Stmt} {x n : Str} {np hp pos : Pos} {B : Addr} {i : Nat} {tb : St → XK → TS} {th : TS} {bmB : List Value} {newId : String} (hstk : X.stack = X.env :: X.outer) (hfr : X.env.frame = some X.env.locals) (hg : Gl X x) (hm : X.mg x = some (.ref B)) (O : Exc X.K B bmB newId)
    (hbase : bmB.contains (.type "BaseException") = true) (hN : X.N.Nodup) (hi : X.N[i]? = some n) (hk : X.env.scope.names.lookup n = some .local)
    (hb : ∀ pins σ₀ E, PSs (X.inTry pins σ₀ E) body (tb σ₀ E)) (hs : ∀ e, PSs (X.inExc e) (b₀ :: suite) th) (hdb : (x == ("__debug__" : Str)) = false := by decide) :
    PS X (.Try body [.ExceptHandler (some (.Name x np)) (some n) (b₀ :: suite) hp] [] [] pos) (tTry X.K B i tb th) := by
  intro pins s σ H D I h
  refine wpAny_Try_except ?_
  refine wpAny_mono (hb pins σ _ [] s σ H D I.intoTry h) (fun fl s1 q => ?_) (fun y s1 q => ?_)
  · have q' := q.outTry
    cases fl with
    | next => exact wpAny_execs_nil q'
    | brk => exact q'
    | cont => exact q'
    | ret u => exact q'
  · obtain ⟨H1, s2, I1, e, c, H', rfl, os, bare, un, hok, F, hE⟩ := q
    have I2 := I1.call' os un hok bare (fun _ z => nomatch z)
    have fr : X.A.frames = some (X.env :: X.outer) := by rw [I.ok.frames, hstk]
    have hin : ∀ {h : Heap}, Un (frs X.stack) [] H1 H' s2.heap h → HOk X.prog X.w H' h → ∀ b, (s2.heap.get? b ≠ none ∨ H' b ≠ none) → ∃ o, h.get? b = some o := fun {h} u k b hb => by
      rcases hb with z | z
      · cases q : s2.heap.get? b with
        | none => exact (z q).elim
        | some o => exact u.there b o q (by simp)
      · exact hok_there k z
    refine land_fly (g := s2.heap) (H := H') fr hfr (by rw [← hstk]; exact I2.stack) (hin un hok) F fun h3 kp3 F3 => ?_
    rw [← hstk] at kp3
    have un3 := un_kp un kp3
    have hok3 := hok_kp hok kp3 I2.stkFree
    have I3 : Inv X pins σ H' { s1 with heap := h3 } := I1.call' os un3 hok3 bare (fun _ z => nomatch z)
    refine wpAny_handleBy_cons (codeAny_handlers_test (ld_glob (X := X.inExc e) (I3.inExc (e := e)) hg hm ?_ hdb)) (by intro q; cases q)
    obtain ⟨C, bmC, newC, rfl, OC, hsub, hth⟩ := hE
    obtain ⟨bm, N', nm, qn, bs, hdct, sn, sub, ab, col, dd, k0, k1, k2, k3, k5, mN, hC, _, _, T, _⟩ := O.get I3.kIn
    obtain ⟨bm2, N2, nm2, qn2, bs2, hdct2, sn2, sub2, ab2, col2, dd2, l0, l1, l2, l3, l5, mN2, hC2, _, _, _, dc2, cd2, sl2, look2, mro2⟩ := OC.get I3.kIn
    obtain ⟨_, _, cd3, _, look3, cont3⟩ := hsub
    have ecd : cd3.mro = cd2.mro := by rw [look2] at look3; cases look3; rfl
    obtain ⟨f1, f2, oe, vs, a0, T0, oT, ts, he, hec, h0, hd, r⟩ := F3
    have F3' : Fly s2.heap H' h3 e (.ref C) := ⟨f1, f2, oe, vs, a0, T0, oT, ts, he, hec, h0, hd, r⟩
    refine excMatches_two hC2 hC he hec (T.hasType hbase) (by rw [← mro2, ← ecd]; exact cont3) (codeAny_handlers_suite_as ?_)
    refine again_fly (g := s2.heap) (H := H') I3.stack (hin un3 hok3) F3' fun h4 kp4 F4 => ?_
    have un4 := un_kp un3 kp4
    have hok4 := hok_kp hok3 kp4 I3.stkFree
    have neE : ∀ b u, H' b = some u → b ≠ e := fun b u q z => by rw [z, f2] at q; cases q
    have hokE : HOk X.prog X.w (upd H' e (excO e (.ref C))) h4 := fun b ob q => by
      by_cases hb : b = e
      · subst hb
        rw [upd_same] at q; cases q
        obtain ⟨_, _, oe4, vs4, _, _, _, _, he4, hc4, _, hd4, _⟩ := F4
        exact ⟨⟨oe4, he4, hc4, vs4, hd4⟩, ⟨oe4, he4⟩, fun g1 g2 ⟨o, q1, q2⟩ kk => ⟨o, kk o q1, q2⟩⟩
      · rw [upd_ne hb] at q
        exact (hok4 b ob q).stay (fun _ _ _ q => q) (fun a q => by rw [upd_ne (neE a _ q)]; exact q) fun a xs q => by rw [upd_ne (neE a _ q)]; exact q
    have unE : Un (frs X.stack) [] H1 (upd H' e (excO e (.ref C))) s2.heap h4 :=
      ⟨un4.keep, un4.slot, fun b o q n hx => by rw [upd_ne (fun z => by rw [z, f1] at q; cases q)]; exact un4.free b o q n hx, un4.there, fun b xs q => by
        have := un4.tups b xs q; rw [upd_ne (neE b _ this)]; exact this, fun b o u q => by
        have := un4.frzs b o u q; rw [upd_ne (neE b _ this)]; exact this, fun b ps q => by
        obtain ⟨m, this⟩ := un4.tbls b ps q; exact ⟨m, by rw [upd_ne (neE b _ this)]; exact this⟩⟩
    have I4 : Inv X pins σ (upd H' e (excO e (.ref C))) { s1 with heap := h4 } := I1.call' os unE hokE bare (fun _ z => nomatch z)
    refine store_ok (v := .ref e) I4 hN hi (.inl hk) rfl (fun s5 I5 => ?_) (.inr hk)
    refine wpAny_mono (hs e pins s5 _ _ _ (I5.inExc (e := e)) (hth e f2)) (fun fl s6 q6 => ?_) (fun _ _ z => z.elim)
    cases fl with
    | next => obtain ⟨σ6, H6, I6, q6⟩ := q6; exact goes_ok (I6.outExc I.ok.hd) hN hi hk fun s7 I7 => ⟨_, _, I7, q6⟩
    | brk => obtain ⟨σ6, H6, I6, q6⟩ := q6; exact goes_ok (I6.outExc I.ok.hd) hN hi hk fun s7 I7 => ⟨_, _, I7, q6⟩
    | cont => obtain ⟨σ6, H6, I6, q6⟩ := q6; exact goes_ok (I6.outExc I.ok.hd) hN hi hk fun s7 I7 => ⟨_, _, I7, q6⟩
    | ret u => obtain ⟨v6, σ6, H6, I6, r6, q6⟩ := q6; exact goes_ok (I6.outExc I.ok.hd) hN hi hk fun s7 I7 => ⟨_, _, _, I7, r6, q6⟩
theorem run_try {k : Nat} {f : Addr} {fd : FuncData} {ps : List Str} {sp : Sp} {pins pp : List (Addr × Obj)} {σ₀ : St} {H : Hp} {s : Shared} {E : XK} {Q : VK} {us : List Value} {vs : List V} (F : FnOk X.prog X.w X.K X.mg X.base (CXR X.prog X.w) k f fd ps sp) (hr : Room k X.A) (hb : Binds X.K fd ps [])
    (I : Inv (X.inTry pins σ₀ E) pp σ₀ H s) (r : Vals vs us) (h : sp vs H Q E) : wpAny (model X.prog X.w) X.A (call (.ref f) us) (EP (X.inTry pins σ₀ E) pp σ₀ Q) (X.inTry pins σ₀ E).xe s := by
  have hl : (us ++ []).length = ps.length := by rw [List.append_nil, ← r.length]; exact F.len _ _ _ _ h
  have hbb := hb s us I.kIn hl
  rw [List.append_nil] at hbb
  refine wpAny_call (codeAny_mono (F.run X.A X.stack s H ⟨us, []⟩ us vs Q E hr I.env0 hbb r h) fun res s' hq => ?_)
  cases res with
  | error e => exact ⟨H, s, I.outTry, hq⟩
  | ok fl =>
    cases fl with
    | ret u => exact I.after hq
    | next => exact False.elim hq
    | brk => exact False.elim hq
    | cont => exact False.elim hq
end
end L2

set_option Elab.async false
set_option linter.all false
set_option maxRecDepth 100000
namespace PySem.W
open PySem PySem.Spec PySem.Calls PyProof.Rows Builtin Builtin.ObjectAttr Builtin.Getset_descriptor
section
variable {K : Frag} {e C : Addr}
/-- the class of an exception of one's own, as it is asked for its class -/
structure ExcKit (K : Frag) (C : Addr) : Prop where
  ga : findIn K (.ref C) "__getattribute__" = some (some (.builtin "BaseException.__getattribute__"))
  gn : findIn K (.ref C) "__getattr__" = some none
  ca : findIn K (.ref C) "__class__" = some (some (.builtin "object.__class__"))
  gt : specialIn K (.builtin "object.__class__") "__get__" = some (some (.builtin "getset_descriptor.__get__"))
  tk : takesIn K (.builtin "object.__class__") = some true
  mo : mroIn K C (.type "object") = some true
  mb : mroIn K C (.type "BaseException") = some true
  cl : ∃ oc od cd sl, K.lookup C = some ⟨oc, od, .cls cd, sl⟩
def ExcHere (e C : Addr) (h : Heap) : Prop := ∃ o, h.get? e = some o ∧ o.cls = .ref C
theorem ExcHere.ty {M : Model} {h : Heap} (x : ExcHere e C h) : Looks M h (typeOf (.ref e)) (.ref C) := by
  obtain ⟨o, h1, h2⟩ := x
  exact h2 ▸ (Looks.ld h1).andThen .now
theorem find_data {M : Model} {h : Heap} {x : Value} {name : Str} {a g : Value} (X : K.In h) (ha : findIn K (.ref C) name = some (some a)) (hg : specialIn K a "__get__" = some (some g)) (hd : takesIn K a = some true) : Looks M h (find x (.ref C) name) (.bind g a) := by
  have L1 := looks_findIn (M := M) X ha
  have L2 : Looks M h (getOf (some a)) (some g) := looks_specialIn X hg
  have L3 := looks_takesIn (M := M) X hd
  exact L1.andThen (L2.andThen ((show Looks M h (dataDescriptor? (some a) (some g)) (some (g, a)) from L3.andThen .now).andThen (Looks.tag .now)))
section
variable {prog : Program} {w : World} {A : Around} {s : Shared} {R : Result → Shared → Prop}
theorem exc_class_get {tp : Value} (Z : ExcKit K C) (X : K.In s.heap) (x : ExcHere e C s.heap) (h : R (.ok (.ret (.ref C))) s) : codeAny (model prog w) A (.call (.builtin "getset_descriptor.__get__") ⟨[.builtin "object.__class__", .ref e, tp], []⟩) R s := by
  obtain ⟨hh, g, dr, t, os⟩ := s
  have L0 := x.ty (M := model prog w)
  have L1 := looks_mroIn (M := model prog w) X Z.mo
  refine codeAny_call_builtin KF.slot_gs.plain KF.entry_gs (KF.slot_gs.check _ _ _ _ _ _ _ _ KF.type_class (KF.args_gs _ _ _) ?told)
  case told =>
    unfold Builtin.«getset_descriptor.__get__» descrGet; rw [dga_obj]; refine wpAny_bind (wpAny_pure ?_); unfold descrGetter descrCheckInstance descrNameAndClass isInstance; simp only [KF.owner_class]
    repeat lk
    refine ⟨Code.quiet_builtin _ (by decide +kernel), codeAny_builtin KF.entry_class ?told⟩; unfold Builtin.«object.__class__» shownTypeOf; (repeat lk); exact h
end
theorem exc_class {prog : Program} {w : World} {A : Around} {E : Value → Shared → Prop} {Q : Option Value → Shared → Prop} {s : Shared} (Z : ExcKit K C) (X : K.In s.heap) (x : ExcHere e C s.heap) (k : Q (some (.ref C)) { s with toks := s.toks + 1 }) :
    wpAny (model prog w) A (getAttr? (.ref e) "__class__") Q E s := by
  obtain ⟨hh, g, d, t, os⟩ := s
  have L0 := x.ty (M := model prog w)
  have L1 := looks_findIn (M := model prog w) X Z.ga
  have L2 := looks_findIn (M := model prog w) X Z.gn
  have L3 := looks_mroIn (M := model prog w) X Z.mb
  have L4 := find_data (M := model prog w) (x := .ref e) X Z.ca Z.gt Z.tk
  have no : (onTheHeap (Value.ref C) && Value.builtin "BaseException.__getattribute__" == Value.builtin "object.__getattribute__") = false := by
    have z : (Value.builtin "BaseException.__getattribute__" == Value.builtin "object.__getattribute__") = false := by decide +kernel
    rw [z, Bool.and_false]
  unfold getAttr? getAttrBy? getAttrBy
  refine wpAny_bind (wpAny_mkText (wpAny_bind (wpAny_attempt (wpAny_holding (wpAny_bind (L0.at (wpAny_bind (L1.at ?_))))))))
  dsimp only
  rw [no]
  show wpAny _ _ (getAttrByItsOwn _ _ _ _ _ _) _ _ _
  unfold getAttrByItsOwn hookBefore
  refine wpAny_bind (L2.at ?_)
  refine wpAny_bind (wpAny_attempt (wpAny_holding ?_))
  unfold callGetattribute
  show wpAny _ _ (boundAndCalled _ _ _) _ _ _
  unfold boundAndCalled
  rw [PySem.F.attr_ValueError.ga.bind (.ref e)]
  refine wpAny_bind (wpAny_pure ?told)
  case told =>
  refine wpAny_call (codeAny_call_builtin PySem.F.attr_ValueError.ga.plain PySem.F.entry_bexc_ga ?told)
  case told =>
  have kind : builtinKind "BaseException.__getattribute__" = some .slot := (by decide +kernel)
  have parts : splitId "BaseException.__getattribute__" = some ("BaseException", "__getattribute__") := (by decide +kernel)
  have given := PySem.F.args_bexc_ga (.ref e) (.str "__class__" t)
  simp only [checkBuiltinCall, kind, parts, List.cons_append, List.nil_append]
  refine wpAny_bind ?told
  case told =>
  unfold isInstance
  refine wpAny_bind (L0.at (L3.at ?told))
  case told =>
  repeat (any_goals (first | assumption | with_reducible refine L0.at ?_ | with_reducible refine L4.at ?_ | wp_step))
  refine exc_class_get Z X x ?told
  case told =>
  repeat (any_goals (first | assumption | wp_step))
theorem kitx_exc (Z : ExcKit K C) : KitX K (.ref e) (.ref C) (ExcHere e C) where
  ty := fun M h _ x => x.ty
  it := fun M h X _ => by
    obtain ⟨oc, od, cd, sl, ho⟩ := Z.cl
    intro A' Q' E' s' k q
    unfold isType loadHead
    exact (wpAny_bind (wpAny_loadPart (k _ _ (X _ _ ho)) (wpAny_pure q)))
  ne := fun h tp dd its n sl X htp => by
    obtain ⟨oc, od, cd, sl', ho⟩ := Z.cl
    refine Bool.eq_false_iff.mpr fun q => ?_
    have same : C = tp := Value.ref.inj (beq_iff_eq.mp q)
    subst same
    have z := (X _ _ ho).symm.trans htp
    cases z
  ca := fun X x k => exc_class Z X x k
end
end PySem.W
namespace L2
open PySem PySem.Spec PyProof.Rows
theorem excHere {P : Program} {w : World} {H : Hp} {h : Heap} {e C : Addr} (ok : HOk P w H h) (q : H e = some (excO e (.ref C))) : PySem.W.ExcHere e C h := by
  obtain ⟨⟨o, h1, h2, _⟩, _⟩ := ok e _ q
  exact ⟨o, h1, h2⟩
/-- isinstance(e, c) of an exception in hand: c a class of one's own, or a built-in one -/
theorem call_isinstE {X : Cx} : CallR X (.builtin "isinstance") (fun xs H Q => ∃ e C y c b, xs = [.ref e, y] ∧ (y = .ref c ∧ PySem.W.kitOne X.K (.ref C) (.ref c) = some b ∨ ∃ T, y = .ty T ∧ PySem.W.kitOne X.K (.ref C) (.type T) = some b) ∧ H e = some (excO e (.ref C)) ∧ PySem.W.ExcKit X.K C ∧ Q (.bl b) H) := by
  intro pins s σ H xs us Q I r h
  obtain ⟨e, C, y, c, b, rfl, hy, he, Z, q⟩ := h
  obtain ⟨u, v, rfl, rx, rv⟩ := vals2 r
  cases rx
  rcases hy with ⟨rfl, k1⟩ | ⟨T, rfl, k1⟩
  · cases rv
    exact PySem.W.kia_one (PySem.W.kitx_exc Z) I.kIn (excHere I.hok he) k1 (fun z => nomatch z) fun tk => ⟨.bl b, H, I.tok _, rfl, q⟩
  · cases rv
    exact PySem.W.kia_one (PySem.W.kitx_exc Z) I.kIn (excHere I.hok he) k1 (fun z => nomatch z) fun tk => ⟨.bl b, H, I.tok _, rfl, q⟩
end L2

set_option Elab.async false
set_option linter.all false
set_option maxRecDepth 100000
namespace L2
open PySem PySem.Spec PyProof.Rows
section
variable {X : Cx}
/-- == of two lists of flat values, as long -/
def eqVs (xs ys : List V) : Bool := (List.range xs.length).all fun j => eqV (xs.getD j .non) (ys.getD j .non)
end
end L2
namespace BB
open PySem PySem.Spec PyProof.Rows L2
/-- a call in a try's body: of a def by its name -/
theorem pe_canT {X : Cx} {pins : List (Addr × Obj)} {σ₀ : L2.St} {E : XK} {x : Str} {k : Nat} {ps : List Str} {sp : Sp} {p pos : Pos} {e : Expr} {es : List Expr} {t : TA} (C : Can X.prog X.w X.K X.mg X.base (CXR X.prog X.w) k x ps sp) (hr : Room k X.A) (hg : Gl X x) (ha : PA (X.inTry pins σ₀ E) (e :: es) t)
    (hp : noStar e = true := by rfl) (hps : es.all noStar = true := by rfl) (hdb : (x == ("__debug__" : Str)) = false := by decide) :
    PE (X.inTry pins σ₀ E) (.Call (.Name x p) (e :: es) [] pos) (fun σ H Q => σ = σ₀ ∧ t σ H fun vs H1 => sp vs H1 Q E) := by
  intro pp s σ H Q I h
  obtain ⟨rfl, h⟩ := h
  obtain ⟨f, fd, F, hm, hk, hb⟩ := C.ex
  refine wpAny_Call_Name_kw (ld_glob I hg hm ?_ hdb)
  refine PySem.W.callWith_K (h₀ := X.base) I.ok.mod.kin hk (thn (ha pos pp s σ H _ I h) fun us s2 ⟨vs, H2, I2, r2, q2⟩ => ⟨I2.kIn, ?_⟩) (star_of hp) (stars_of hps)
  exact run_try F hr hb I2 r2 q2
theorem bt_ValueError : bootBuiltins "ValueError" = some (.type "ValueError") := by decide +kernel
/-! ### texts -/
/-- the texts of a list, put together -/
def joinS (sep : Str) : List Str → Str
  | [p] => p
  | l => Builtin.Str.glued sep l
theorem mt_join {X : Cx} : MtR X "str.join" (fun x xs H Q => ∃ z l ts, x = .str z ∧ xs = [.ref l] ∧ SqL X.K H l (ts.map V.str) ∧ Builtin.Str.tooLong (ts.toArray.foldl (· + ·.length + z.length) 0) = false ∧ (joinS z ts).length ≤ sizeLine ∧ Q (.str (joinS z ts)) H) := by
  intro pins s σ H x xs v us Q I rx rs h
  obtain ⟨z, l, ts, rfl, rfl, hl, h1, h2, q⟩ := h
  obtain ⟨t, rfl⟩ := rx
  obtain ⟨u, rfl, ru⟩ := vals1 rs
  cases ru
  obtain ⟨its, r, pl, _⟩ := I.list hl
  have key : ∀ (ts : List Str) (its : List Value), Vals (ts.map V.str) its → ∃ ps : List (Str × Tok), ps.map (·.1) = ts ∧ its = strValues ps := by
    intro ts
    induction ts with
    | nil => intro its r; cases r; exact ⟨[], rfl, rfl⟩
    | cons a ts ih =>
      intro its r
      cases r with
      | cons ra rr =>
        obtain ⟨tk, rfl⟩ := ra
        obtain ⟨ps, e1, e2⟩ := ih _ rr
        exact ⟨(a, tk) :: ps, by rw [← e1]; rfl, by rw [e2]; rfl⟩
  obtain ⟨ps, e1, e2⟩ := key ts its r
  subst e1 e2
  refine call_meets PySem.F.slot_str_join (typeIs_str s z t) PySem.F.entry_str_join (PySem.F.args_str_join_2 _ _) (meets_str_join_list z t l ps h1) ⟨pl.isList, ?_⟩
  match ps, h2, q with
  | [], h2, q => exact ⟨h2, .str _, H, I.tok _, ⟨_, rfl⟩, q⟩
  | [p], h2, q => exact ⟨.str _, H, I, ⟨_, rfl⟩, q⟩
  | p1 :: p2 :: ps, h2, q => exact ⟨h2, .str _, H, I.tok _, ⟨_, rfl⟩, q⟩
end BB

set_option Elab.async false
set_option linter.all false
set_option maxRecDepth 100000
namespace BB
open PySem PySem.Spec PyProof.Rows L2
open PySem.StrLaws in
theorem occ_run (x : Str) (c limit : Nat) : ∀ (l : List Nat) (found : Array Nat) (free : Nat), (∀ i ∈ l, free ≤ i) → l.Pairwise (· < ·) → found.size ≤ limit →
    (forIn l (found, free) (occBody x ⟨#[c]⟩ x.length limit)).run.fst.toList = found.toList ++ (l.filter fun i => decide (x.cps.toList[i]? = some c)).take (limit - found.size)
  | [], found, free, _, _, _ => by simp
  | a :: l, found, free, hf, hp, hs => by
    rw [List.forIn_cons]
    have hp' := List.pairwise_cons.mp hp
    have ha : free ≤ a := hf a (List.mem_cons_self ..)
    by_cases hc : x.cps.toList[a]? = some c
    · have hc2 := (subAt_one x c a).mpr hc
      rw [List.filter_cons_of_pos (by simpa using hc)]
      by_cases hlt : found.size < limit
      · have e : occBody x ⟨#[c]⟩ x.length limit a (found, free) = pure (ForInStep.yield (found.push a, a + 1)) := by
          unfold occBody; exact if_pos ⟨⟨⟨hlt, ha⟩, hc2.1⟩, hc2.2⟩
        rw [e]
        show (forIn l (found.push a, a + 1) (occBody x ⟨#[c]⟩ x.length limit)).run.fst.toList = _
        rw [occ_run x c limit l (found.push a) (a + 1) (fun i hi => hp'.1 i hi) hp'.2 (by simp; omega)]
        obtain ⟨k, hk⟩ : ∃ k, limit - found.size = k + 1 := ⟨limit - found.size - 1, by omega⟩
        rw [hk, List.take_succ_cons, Array.toList_push, List.append_assoc, Array.size_push, show limit - (found.size + 1) = k by omega]
        rfl
      · have e : occBody x ⟨#[c]⟩ x.length limit a (found, free) = pure (ForInStep.yield (found, free)) := by
          unfold occBody; exact if_neg fun h => hlt h.1.1.1
        rw [e]
        show (forIn l (found, free) (occBody x ⟨#[c]⟩ x.length limit)).run.fst.toList = _
        rw [occ_run x c limit l found free (fun i hi => hf i (List.mem_cons_of_mem _ hi)) hp'.2 hs, show limit - found.size = 0 by omega]
        simp
    · have e : occBody x ⟨#[c]⟩ x.length limit a (found, free) = pure (ForInStep.yield (found, free)) := by
        unfold occBody; exact if_neg fun h => hc ((subAt_one x c a).mp ⟨h.1.2, h.2⟩)
      rw [e]
      show (forIn l (found, free) (occBody x ⟨#[c]⟩ x.length limit)).run.fst.toList = _
      rw [occ_run x c limit l found free (fun i hi => hf i (List.mem_cons_of_mem _ hi)) hp'.2 hs, List.filter_cons_of_neg (by simpa using hc)]
/-- the places of a sign -/
def places (c : Nat) : List Nat → List Nat
  | [] => []
  | a :: l => if a = c then 0 :: (places c l).map (· + 1) else (places c l).map (· + 1)
theorem places_filter (c : Nat) : ∀ (l : List Nat), (List.range l.length).filter (fun i => decide (l[i]? = some c)) = places c l
  | [] => rfl
  | a :: l => by
    have ih := places_filter c l
    rw [List.length_cons, List.range_succ_eq_map, List.filter_cons, List.filter_map]
    have e : ((fun i => decide ((a :: l)[i]? = some c)) ∘ Nat.succ) = fun i => decide (l[i]? = some c) := by funext i; simp
    rw [e, ih]
    show _ = (if a = c then 0 :: (places c l).map (· + 1) else (places c l).map (· + 1))
    by_cases h : a = c
    · subst h; simp
    · simp [h]
theorem occ_places (x : Str) (c limit : Nat) : Builtin.Str.occurrences x ⟨#[c]⟩ 0 x.length limit = (places c x.cps.toList).take limit := by
  rw [PySem.StrLaws.occ_eq, occ_run x c limit _ #[] 0 (fun _ _ => Nat.zero_le _) (by simpa using List.pairwise_lt_range') (Nat.zero_le _)]
  have hl : x.cps.toList.length = x.length := by simp [Str.length]
  have e : List.range' 0 (x.length + 1 - 0) = List.range (x.length) ++ [x.length] := by
    rw [Nat.sub_zero, ← List.range_eq_range', List.range_succ]
  rw [e, List.filter_append]
  have n : [x.length].filter (fun i => decide (x.cps.toList[i]? = some c)) = [] := by
    rw [List.filter_cons_of_neg]
    · rfl
    · rw [← hl]; simp
  rw [n, List.append_nil, ← hl, places_filter]
  simp
theorem places_nil {c : Nat} : ∀ {l : List Nat}, places c l = [] ↔ c ∉ l
  | [] => by simp [places]
  | a :: l => by
    unfold places
    by_cases h : a = c
    · subst h; simp
    · simp [h, Ne.symm h, places_nil (l := l)]
end BB

set_option Elab.async false
set_option linter.all false
set_option maxRecDepth 100000
namespace L2
open PySem PySem.Spec PyProof.Rows
section
variable {X : Cx} {pins : List (Addr × Obj)} {σ : St} {H : Hp} {s : Shared}
/-- a written list, item by item, nothing unfolded -/
structure QA (X : Cx) (es : List Expr) (t : TA) : Prop where
  h : PA X es t
theorem qa_nil : QA X [] tNil := ⟨pa_nil⟩
theorem qa_c {e : Expr} {es : List Expr} {te : TE} {t : TA} (ha : PE X e te) (hr : QA X es t) (hp : noStar e = true := by rfl) : QA X (e :: es) (tCons te t) := ⟨pa_c ha hr.h hp⟩
end
end L2

set_option Elab.async false
set_option linter.all false
set_option maxRecDepth 100000
/-! Defs that are called inside an except suite: an exception is in hand there, so no loop and no raise of theirs is read. -/
namespace L2
open PySem PySem.Spec PyProof.Rows
structure RoomN (k : Nat) (A : Around) : Prop where
  dp : A.depth + 3 * k + 5 < recursionLimit
  un : A.units + 16 * k + 200 < cLine
theorem Room.any {k : Nat} {A : Around} (r : Room k A) : RoomN k A := ⟨r.dp, r.un⟩
theorem RoomN.mark {k : Nat} {A : Around} (r : RoomN k A) (v : Option Value) : RoomN k (A.mark v) := ⟨r.dp, r.un⟩
/-- nothing in hand -/
def clr (A : Around) : Around := { A with handled := none }
theorem RoomN.deeper {k : Nat} {A : Around} (r : RoomN (k + 1) A) (env : Env) : RoomN k (A.deeper env) :=
  ⟨by have := r.dp; show A.depth + 1 + 3 * k + 5 < _; omega, by have := r.un; show A.units + 3 + 16 * k + 200 < _; omega⟩
/-- a body's context where an exception may be in hand -/
def cxOfN (CX : CXT) (P : Program) (w : World) (K : PySem.W.Frag) (mg : Str → Option Value) (base : Heap) (N : List Str) (qual : Str) (scope : Scope) (f : Addr) (cd : Value) (A : Around) (outer : List Env) (s : Shared) (H : Hp) (E : XK) : Cx :=
  { cxOf CX P w K mg base N qual scope f cd A outer s H E with calm := false }
structure FnOkN (P : Program) (w : World) (K : PySem.W.Frag) (mg : Str → Option Value) (base : Heap) (k : Nat) (f : Addr) (fd : FuncData) (ps : List Str) (sp : Sp) : Prop where
  len : ∀ vs H Q E, sp vs H Q E → vs.length = ps.length
  run : ∀ (A : Around) (outer : List Env) (s : Shared) (H : Hp) (args : Args) (us : List Value) (vs : List V) (Q : VK) (E : XK), RoomN k A → Env0 P w K mg base A outer s H → BindsTo s fd args (ps.zip us) → Vals vs us → sp vs H Q E →
    codeAny (model P w) A (.call (.ref f) args) (CR CX0 outer P w H s Q E) s
section
variable {P : Program} {w : World} {K : PySem.W.Frag} {mg : Str → Option Value} {base : Heap} {N ps : List Str} {qual : Str} {scope : Scope} {f : Addr} {cd : Value} {A : Around} {outer : List Env} {s : Shared} {H : Hp} {E : XK}
theorem Inv.uncalm {pins : List (Addr × Obj)} {σ : St} {H' : Hp} {s' : Shared} (I : Inv (cxOf CX0 P w K mg base N qual scope f cd (clr A) outer s H E) pins σ H' s') : Inv (cxOfN CX0 P w K mg base N qual scope f cd A outer s H E).nox pins σ H' s' :=
  ⟨⟨I.ok.mod, I.ok.kind, I.ok.glob, I.ok.blt, I.ok.above, I.ok.inj, I.ok.has, I.ok.cab, fun z => (Bool.false_ne_true z).elim, I.ok.frames, I.ok.stk, I.ok.exf, I.ok.bs, I.ok.bsz, I.ok.noex, I.ok.exfs, I.ok.funs, I.ok.frf⟩, I.os, I.bare, I.base, I.loc, I.cell, I.free, I.freeC, I.pin, I.hok, I.len⟩
theorem fn_any {k : Nat} {name : Str} {params : Arguments} {body : List Stmt} {dV kV doc pm cdv ct oc : Value} {an od : Option Addr} {osl : Array (Option Value)} {sp : Sp}
    (lk : K.lookup f = some ⟨oc, od, .func (PySem.W.fnOf name qual params body scope dV kV doc pm an cdv ct), osl⟩) (hcd : PySem.W.codeIn K cdv qual = true) (S : FnScope N ps scope) (len : ∀ vs H Q E, sp vs H Q E → vs.length = ps.length)
    (hbody : ∀ (A : Around) (outer : List Env) (s : Shared) (H : Hp) (vs : List V) (Q : VK) (E : XK), RoomN k (A.deeper (envOfC qual scope s.heap.objs.size f cdv)) → sp vs H Q E →
      ∃ t, PSs (cxOfN CX0 P w K mg base N qual scope f cdv A outer s H E).nox body t ∧ t { nx := fun _ H' => Q .non H', rt := Q } (start N vs) H) :
    FnOkN P w K mg base (k + 1) f (PySem.W.fnOf name qual params body scope dV kV doc pm an cdv ct) ps sp := by
  refine ⟨len, fun A outer s H args us vs Q E room e0 bind vals want => ?_⟩
  have inK : K.In s.heap := e0.mod.kin.keeps fun b o e => (e0.bs b o e).1
  have noLim : s.heap.NoLimit := e0.mod.nolimit.keeps fun b o e => (e0.bs b o e).1
  have par : ∀ y ∈ ps.zip us, scope.names.lookup y.1 = some .local ∨ (scope.names.lookup y.1 = some .cell ∧ ((cellsFrom (s.heap.objs.size + 1) scope.names []).lookup y.1).isSome = true) := by
    rintro ⟨n, v⟩ hy
    rcases S.par n (List.of_mem_zip hy).1 with h | h
    · exact .inl h
    · exact .inr ⟨h, PySem.W.cellsFrom_some _ _ _ (.inl h)⟩
  refine codeAny_call_function (show A.depth < recursionLimit by have := room.dp; omega) (inK _ _ lk) rfl S.co S.gen rfl (PySem.W.codeRec_of inK hcd) (bind _ _ _ _ (wpAny_newFunctionEnv_cells S.kind par fun env he s1 made => ?_))
  subst he
  refine ⟨noLim.keeps made.toInCall.keep, codeAny_func ?_⟩
  obtain ⟨t, ht, want2⟩ := hbody A outer s H vs Q E (room.deeper _) want
  have e0' : Env0 P w K mg base (clr A) outer s H := ⟨e0.frames, e0.mod, e0.bs, e0.bsz, e0.funs, e0.frf, e0.hok, e0.bare⟩
  have I0 := (inv_start (CX := CX0) (qual := qual) (f := f) (cd := cdv) (E := E) S (rfl : (clr A).handled = none) e0' (len _ _ _ _ want) vals made).uncalm
  refine wpAny_mono (ht [] s1 (start N vs) H _ I0 want2) (fun fl s' got => ?_) fun _ _ no => no.elim
  have out : ∀ {σ' : St} {H' : Hp} {v : V} {u : Value}, Inv (cxOfN CX0 P w K mg base N qual scope f cdv A outer s H E).nox [] σ' H' s' → RelV v u → Q v H' → CE outer P w H s Q u s' := fun {σ' H' v u} J rv q => ⟨v, H', J.os, J.bare, J.base, J.hok, rv, q⟩
  cases fl with
  | next => obtain ⟨_, _, J, q⟩ := got; exact out (v := V.non) (u := Value.none) J rfl q
  | ret u => obtain ⟨_, _, _, J, rv, q⟩ := got; exact out J rv q
  | brk => obtain ⟨_, _, _, q⟩ := got; exact q.elim
  | cont => obtain ⟨_, _, _, q⟩ := got; exact q.elim
end
/-- its call, an exception in hand or not -/
theorem pe_any {X : Cx} {k : Nat} {f : Addr} {fd : FuncData} {ps : List Str} {sp : Sp} {x : Str} {p pos : Pos} {e : Expr} {es : List Expr} {t : TA} (F : FnOkN X.prog X.w X.K X.mg X.base k f fd ps sp) (hr : RoomN k X.A) (hg : Gl X x) (hm : X.mg x = some (.ref f)) (hk : PySem.W.keepIn X.K (.ref f) = true) (hb : Binds X.K fd ps [])
    (ha : PA X (e :: es) t) (hp : noStar e = true := by rfl) (hps : es.all noStar = true := by rfl) (hdb : (x == ("__debug__" : Str)) = false := by decide) :
    PE X (.Call (.Name x p) (e :: es) [] pos) (tCall sp [] E0 t) := by
  intro pins s σ H Q I h
  refine wpAny_Call_Name_kw (ld_glob I hg hm ?_ hdb)
  refine PySem.W.callWith_K (h₀ := X.base) I.ok.mod.kin hk (thn (ha pos pins s σ H _ I h) fun us s1 ⟨vs, H1, I1, r, q⟩ => ⟨I1.kIn, ?_⟩) (star_of hp) (stars_of hps)
  have q : sp (vs ++ []) H1 Q E0 := q
  rw [List.append_nil] at q
  have hl : (us ++ []).length = ps.length := by rw [List.append_nil, ← r.length]; exact F.len _ _ _ _ q
  have hbb := hb s1 us I1.kIn hl
  rw [List.append_nil] at hbb
  refine wpAny_call (codeAny_mono (F.run X.A X.stack s1 H1 ⟨us, []⟩ us vs Q E0 hr I1.env0 hbb r q) fun res s' hq => ?_)
  cases res with
  | error e => exact hq.elim
  | ok fl =>
    cases fl with
    | ret u => exact I1.after hq
    | next => exact False.elim hq
    | brk => exact False.elim hq
    | cont => exact False.elim hq
end L2

set_option Elab.async false
set_option linter.all false
set_option maxRecDepth 100000
namespace BB
open PySem PySem.Spec PyProof.Rows L2
theorem bt_ord : bootBuiltins "ord" = some (.builtin "ord") := by decide +kernel
/-- x not in a list or a tuple of flat items -/
theorem op_notinx {X : Cx} : OpR X (compareOp .NotIn) (rIn X.K true) := op_notIn_seq
/-- a loop over the signs of a text -/
theorem for_str {x : Str} {g : TG} {tb : TS} {D : Ends} {σ : L2.St} {H : Hp} (Pv : Nat → L2.St → Hp → Prop) (h0 : Pv 0 σ H)
    (hs : ∀ i c σ H, x.cps.toList[i]? = some c → Pv i σ H → g (.str ⟨#[c]⟩) σ H fun σ2 H2 => tb { D with nx := Pv (i + 1), ct := Pv (i + 1), bk := D.nx } σ2 H2) (hd : ∀ σ H, Pv x.length σ H → D.nx σ H) :
    ∃ W : Nat → Nat → L2.St → Hp → Prop, (∃ m, W 0 m σ H) ∧ ∀ i m σ H, W i m σ H →
      ((Its x).stop i H ∧ D.nx σ H) ∨ ((Its x).go i H ∧ ∃ N : L2.St → Hp → Prop, (∀ σ' H', N σ' H' → ∃ m', m' < m ∧ W (i + 1) m' σ' H') ∧ ∀ v H', (Its x).yld i H v H' → g v σ H' fun σ2 H2 => tb { D with nx := N, ct := N, bk := D.nx } σ2 H2) := by
  refine ⟨fun i m σ H => m = x.length - i ∧ i ≤ x.length ∧ Pv i σ H, ⟨x.length, by simp, Nat.zero_le _, h0⟩, ?_⟩
  rintro i m σ H ⟨rfl, hi, p⟩
  by_cases lt : i < x.length
  · refine .inr ⟨lt, Pv (i + 1), fun σ' H' p' => ⟨x.length - (i + 1), by omega, rfl, lt, p'⟩, fun v H' y => ?_⟩
    obtain ⟨rfl, c, hc, rfl⟩ := y
    exact hs i c σ _ (by simpa using hc) p
  · have e : i = x.length := by omega
    subst e
    exact .inl ⟨rfl, hd σ H p⟩
end BB

set_option Elab.async false
set_option linter.all false
set_option maxRecDepth 100000
namespace BB
open PySem PySem.Spec PyProof.Rows L2
theorem eqU_one {x y : V} {u : Value} (r : RelV y u) (f : flatV y = true) : eqU x u = eqV y x := by
  have := any_eqU (x := x) (xs := [y]) (us := [u]) (.cons r .nil) (by simp [f])
  simpa using this
theorem count_eqU {x : V} : ∀ {xs : List V} {us : List Value}, Vals xs us → xs.all flatV = true → us.countP (eqU x) = xs.countP fun y => eqV y x
  | _, _, .nil, _ => rfl
  | y :: xs, u :: us, .cons r t, f => by
    rw [List.all_cons, Bool.and_eq_true] at f
    rw [List.countP_cons, List.countP_cons, count_eqU t f.2, eqU_one r f.1]
/-- how often an item stands in a list of flat values -/
theorem mt_lcount {X : Cx} : MtR X "list.count" (fun x xs H Q => ∃ p ys y, x = .ref p ∧ xs = [y] ∧ SqL X.K H p ys ∧ ys.all flatV = true ∧ flatV y = true ∧ Q (.int (ys.countP fun z => eqV z y : Nat)) H) := by
  intro pins s σ H x xs v us Q I rx rs h
  obtain ⟨p, ys, y, rfl, rfl, hp, fs, fy, q⟩ := h
  cases rx
  obtain ⟨u, rfl, ru⟩ := vals1 rs
  obtain ⟨its, r, pl, _⟩ := I.list hp
  obtain ⟨⟨oc, od, oda, osl⟩, n, e, h1, h2, h3⟩ := id pl
  cases h1; cases h2; cases h3
  refine call_meets PySem.F.slot_list_count pl.isList.typeIs PySem.F.entry_list_count (PySem.F.args_list_count_2 _ _) (SeqAt.list_countAt p its.toArray n none osl u (eqU y)) ⟨e, fun w hw => mem_eqAt ru fy r fs w (by simpa using hw), .int _, H, I.tok _, ⟨_, rfl⟩, ?_⟩
  rw [List.toList_toArray, count_eqU r fs]
  exact q
/-- where an item stands first -/
theorem mt_lindex {X : Cx} : MtR X "list.index" (fun x xs H Q => ∃ p ys y j z, x = .ref p ∧ xs = [y] ∧ SqL X.K H p ys ∧ ys.all flatV = true ∧ flatV y = true ∧ ys[j]? = some z ∧ eqV z y = true ∧ (∀ m z', m < j → ys[m]? = some z' → eqV z' y = false) ∧ j < 1000000 ∧ Q (.int (j : Nat)) H) := by
  intro pins s σ H x xs v us Q I rx rs h
  obtain ⟨p, ys, y, j, z, rfl, rfl, hp, fs, fy, hj, hz, hno, hs, q⟩ := h
  cases rx
  obtain ⟨u, rfl, ru⟩ := vals1 rs
  obtain ⟨its, r, pl, _⟩ := I.list hp
  obtain ⟨⟨oc, od, oda, osl⟩, n, e, h1, h2, h3⟩ := id pl
  cases h1; cases h2; cases h3
  have fl : ∀ {m z'}, ys[m]? = some z' → flatV z' = true := fun {m z'} e => List.all_eq_true.mp fs _ (List.mem_of_getElem? e)
  obtain ⟨uj, ej, rj⟩ := r.get hj
  have ltj : j < its.length := (List.getElem?_eq_some_iff.mp ej).1
  refine call_meets PySem.F.slot_list_index pl.isList.typeIs PySem.F.entry_list_index (PySem.F.args_list_index_2 _ _) (SeqAt.list_indexAt p its.toArray n none osl u (eqU y) j (by simpa using ltj) (by omega) ?_ ?_) ⟨e, fun w hw => mem_eqAt ru fy r fs w (by simpa using hw), .int _, H, I.tok _, ⟨_, rfl⟩, q⟩
  · have e2 : its.toArray[j]'(by simpa using ltj) = uj := by simpa [ltj] using ej
    rw [e2, eqU_one rj (fl hj)]; exact hz
  · intro m hm lt
    have hm' : m < its.length := by simpa using hm
    have hy : m < ys.length := by rw [r.length]; exact hm'
    obtain ⟨um, em, rm⟩ := r.get (i := m) (x := ys[m]) (by simp [hy])
    have e2 : its.toArray[m] = um := by simpa [hm'] using em
    rw [e2, eqU_one rm (fl (m := m) (by simp [hy]))]
    exact hno m _ lt (by simp [hy])
end BB

set_option Elab.async false
set_option linter.all false
set_option maxRecDepth 100000
/-! Defs called inside an except suite, by name. -/
namespace BB
open PySem PySem.Spec PyProof.Rows L2
structure CanN (P : Program) (w : World) (K : PySem.W.Frag) (mg : Str → Option Value) (base : Heap) (k : Nat) (x : Str) (ps : List Str) (sp : Sp) : Prop where
  ex : ∃ f fd, FnOkN P w K mg base k f fd ps sp ∧ mg x = some (.ref f) ∧ PySem.W.keepIn K (.ref f) = true ∧ Binds K fd ps []
section
variable {P : Program} {w : World} {K : PySem.W.Frag} {mg : Str → Option Value} {base : Heap}
theorem Def.canN {x : Str} {st : Stmt} {N ps : List Str} {k : Nat} {sp : Sp} (F : Def K mg x st) (S : FnScope N ps (defScope st))
    (hb : ∀ (kV doc pm : Value) (an : Option Addr) (cdv ct : Value) (us : List Value), us.length = ps.length → bindArgs (PySem.W.fnOf x x (defArgs st) (defBody st) (defScope st) .none kV doc pm an cdv ct) ⟨us, []⟩ = pure (ps.zip us))
    (len : ∀ vs H Q E, sp vs H Q E → vs.length = ps.length)
    (hbody : ∀ (f : Addr) (cdv : Value) (A : Around) (outer : List Env) (s : Shared) (H : Hp) (vs : List V) (Q : VK) (E : XK), RoomN k (A.deeper (envOfC x (defScope st) s.heap.objs.size f cdv)) → sp vs H Q E →
      ∃ t, PSs (cxOfN CX0 P w K mg base N x (defScope st) f cdv A outer s H E).nox (defBody st) t ∧ t { nx := fun _ H' => Q .non H', rt := Q } (start N vs) H) : CanN P w K mg base (k + 1) x ps sp := by
  obtain ⟨f, fd, F1, hm⟩ := F.ex
  refine ⟨f, fd, ?_, hm, F1.kp, F1.binds hb⟩
  obtain ⟨oc, od, kV, doc, pm, an, cdv, ct, osl, rfl, lk, hcd⟩ := F1.ex
  exact fn_any lk hcd S len fun A outer s H vs Q E hr hsp => hbody f cdv A outer s H vs Q E hr hsp
end
theorem pe_canN {X : Cx} {x : Str} {k : Nat} {ps : List Str} {sp : Sp} {p pos : Pos} {e : Expr} {es : List Expr} {t : TA} (C : CanN X.prog X.w X.K X.mg X.base k x ps sp) (hr : RoomN k X.A) (hg : Gl X x) (ha : PA X (e :: es) t)
    (hp : noStar e = true := by rfl) (hps : es.all noStar = true := by rfl) (hdb : (x == ("__debug__" : Str)) = false := by decide) :
    PE X (.Call (.Name x p) (e :: es) [] pos) (tCall sp [] E0 t) := by
  obtain ⟨f, fd, F, hm, hk, hb⟩ := C.ex
  exact pe_any F hr hg hm hk hb ha hp hps hdb
/-- its call where it does not raise -/
theorem passR0 {P : Program} {w : World} {X : Cx} : Passes (CXR P w) X E0 := fun _ _ _ _ _ _ _ h => by
  obtain ⟨_, _, _, _, _, _, _, _, _, z⟩ := h
  exact z.elim
theorem pe_can0 {X : Cx} {x : Str} {k : Nat} {ps : List Str} {sp : Sp} {p pos : Pos} {e : Expr} {es : List Expr} {t : TA} (C : Can X.prog X.w X.K X.mg X.base (CXR X.prog X.w) k x ps sp) (hr : Room k X.A) (hg : Gl X x) (ha : PA X (e :: es) t)
    (hp : noStar e = true := by rfl) (hps : es.all noStar = true := by rfl) (hdb : (x == ("__debug__" : Str)) = false := by decide) :
    PE X (.Call (.Name x p) (e :: es) [] pos) (tCall sp [] E0 t) := by
  obtain ⟨f', fd, F, hm, hk, hb⟩ := C.ex
  exact pe_call F hr hg hm hk hb .nil passR0 ha hdb (star_of hp) (stars_of hps)
/-- != of two lists of flat values, as long -/
theorem op_ne_lst {X : Cx} (hu : X.A.units < cLine) : OpR X (compareOp .NotEq) (fun x y H Q => ∃ a b xs ys, x = .ref a ∧ y = .ref b ∧ SqL X.K H a xs ∧ SqL X.K H b ys ∧ xs.length = ys.length ∧ (∀ v ∈ xs, flatV v = true) ∧ (∀ v ∈ ys, flatV v = true) ∧ Q (.bl (!eqVs xs ys)) H) := by
  intro pins s σ H x y v u Q I rx ry h
  obtain ⟨a, b, xs, ys, rfl, rfl, ha, hb, hl, fx, fy, q⟩ := h
  cases rx; cases ry
  obtain ⟨its, r, pl, _⟩ := I.list ha
  obtain ⟨its2, r2, pl2, _⟩ := I.list hb
  refine SeqAt.RcNeAt.lists (e := fun j => eqV (xs.getD j .non) (ys.getD j .non)) pl.isList pl2.isList (by simp [← r.length, ← r2.length, hl]) hu (fun j h1 h2 => ?_) _ _ _ _ ⟨.bl _, H, I, rfl, ?_⟩
  · have j1 : j < its.length := by simpa using h1
    have j2 : j < its2.length := by simpa using h2
    have k1 : j < xs.length := by rw [r.length]; exact j1
    have k2 : j < ys.length := by rw [r2.length]; exact j2
    obtain ⟨u1, e1, r1⟩ := r.get (i := j) (x := xs[j]) (by simp [k1])
    obtain ⟨u2, e2, r3⟩ := r2.get (i := j) (x := ys[j]) (by simp [k2])
    have z1 : its.toArray[j] = u1 := by simpa [j1] using e1
    have z2 : its2.toArray[j] = u2 := by simpa [j2] using e2
    rw [z1, z2]
    have w1 : xs.getD j .non = xs[j] := by simp [k1]
    have w2 : ys.getD j .non = ys[j] := by simp [k2]
    rw [w1, w2]
    exact eqAt_V r1 r3 (fx _ (List.getElem_mem k1)) (fy _ (List.getElem_mem k2))
  · have : its.toArray.size = xs.length := by simp [r.length]
    rw [this]
    exact q
/-- != : flat values, or two lists of them -/
theorem op_nex {X : Cx} (hu : X.A.units < cLine) : OpR X (compareOp .NotEq) (fun x y H Q => rNe x y H Q ∨ (∃ a b xs ys, x = .ref a ∧ y = .ref b ∧ SqL X.K H a xs ∧ SqL X.K H b ys ∧ xs.length = ys.length ∧ (∀ v ∈ xs, flatV v = true) ∧ (∀ v ∈ ys, flatV v = true) ∧ Q (.bl (!eqVs xs ys)) H)) := op_ne.or (op_ne_lst hu)
theorem pe_lstQ {X : Cx} {es : List Expr} {t : TA} {pos : Pos} (h : QA X es t) : PE X (.List es pos) (tLst t) := pe_lst h.h
end BB

set_option Elab.async false
set_option linter.all false
set_option maxRecDepth 100000
local macro_rules | `(tactic| walk_at "bblk") => `(tactic| first | assumption | exact L2.upd_same | (refine Eq.trans (L2.upd_ne ?bbne) ?bbnx; (case bbne => walk_at "bbne"); (case bbnx => walk_at "bblk")))
local macro_rules | `(tactic| walk_at "bbne") => `(tactic| first | assumption | (refine Ne.symm ?bbn; (case bbn => assumption)) | (refine L2.ne_of_none (o := ?bbo) (h' := by assumption) (h := ?bbl); (case bbl => walk_at "bblk")) | (refine Ne.symm (L2.ne_of_none (o := ?bbo) (h' := by assumption) (h := ?bbl)); (case bbl => walk_at "bblk")))
namespace K40
open PySem L2 BB
def top (i : Nat) : Stmt := PySem.Challenge.pw_bothbooks_k40_keys.main.body.getD i (.Pass ⟨0, 0, 0, 0⟩)
abbrev s_is_made_of : Stmt := top 19
abbrev s_is_house : Stmt := top 20
abbrev s_is_person : Stmt := top 21
abbrev s_check_person : Stmt := top 22
abbrev s_check_pair : Stmt := top 23
abbrev s_key : Stmt := top 26
abbrev s_law_mixed : Stmt := top 29
abbrev s_law_source : Stmt := top 30
abbrev s_law_next : Stmt := top 31
abbrev s_law_name : Stmt := top 32
abbrev s_law_homes : Stmt := top 33
abbrev s_law_people : Stmt := top 34
abbrev s_law_class : Stmt := top 35
abbrev s_law_refusal : Stmt := top 36
abbrev s_law_is : Stmt := top 37
abbrev s_law_odd : Stmt := top 38
abbrev s_law : Stmt := top 39
abbrev SM : Str := "abcdefghijklmnopqrstuvwxyz"
abbrev NM : Str := "abcdefghijklmnopqrstuvwxyz0123456789-"
abbrev VEb : List Value := [.type "ValueError", .type "Exception", .type "BaseException", .type "object"]
structure Blt (mg : Str → Option Value) : Prop where
  abs : mg "abs" = none
  int : mg "int" = none
  range : mg "range" = none
  all : mg "all" = none
  len : mg "len" = none
  isinstance : mg "isinstance" = none
  str : mg "str" = none
  bool : mg "bool" = none
  ValueError : mg "ValueError" = none
  ord : mg "ord" = none
  max : mg "max" = none
/-- the texts' constants, the classes of refusals: aE the base, aP NoPerson, aR NoPair -/
structure Txt (P : Program) (w : World) (K : PySem.W.Frag) (mg : Str → Option Value) (aE aP aR : Addr) (nb : String) : Prop where
  HOUSE_SIGNS : ∃ u, mg "HOUSE_SIGNS" = some u ∧ RelV (.str SM) u
  HOUSE_LENGTH : ∃ u, mg "HOUSE_LENGTH" = some u ∧ RelV (.int 6) u
  NAME_SIGNS : ∃ u, mg "NAME_SIGNS" = some u ∧ RelV (.str NM) u
  NAME_LENGTH : ∃ u, mg "NAME_LENGTH" = some u ∧ RelV (.int 8) u
  P : ∃ u, mg "P" = some u ∧ RelV (.int 2305843009213693951) u
  m_BookError : mg "BookError" = some (.ref aE)
  m_NoPerson : mg "NoPerson" = some (.ref aP)
  m_NoPair : mg "NoPair" = some (.ref aR)
  x_BookError : Exc K aE VEb nb
  x_NoPerson : Exc K aP VEb nb
  x_NoPair : Exc K aR VEb nb
section
variable {P : Program} {w : World} {K : PySem.W.Frag} {mg : Str → Option Value} {base : Heap} {aE aP aR : Addr} {nb : String}
def madeF (t sg : Str) (m : Int) : Bool := (!decide (V.str t = V.str "")) && decide ((t.length : Int) ≤ m) && t.cps.toList.all fun c => decide (c ∈ sg.cps.toList)
def spMade : Sp := fun vs H Q _ => ∃ (t sg : Str) (m : Int), vs = [.str t, .str sg, .int m] ∧ t.length < sizeLine ∧ ∀ H', Same H H' → Q (.bl (madeF t sg m)) H'
theorem sc_is_made_of : FnScope ["text", "signs", "most"] ["text", "signs", "most"] (defScope s_is_made_of) := ⟨rfl, rfl, rfl, by decide +kernel, rfl, by decide +kernel, by decide +kernel⟩
theorem ok_made (F : Def K mg "is_made_of" s_is_made_of) (B : Blt mg) : Can P w K mg base CX0 1 "is_made_of" ["text", "signs", "most"] spMade := by
  refine F.can sc_is_made_of (fun _ _ _ _ _ _ us hl => match us, hl with | [_, _, _], _ => rfl) (fun vs H Q E h => ?_) (fun f cdv A outer s H vs Q E hr h => ?_)
  · obtain ⟨_, _, _, rfl, _⟩ := h; rfl
  · obtain ⟨t, sg, m, rfl, ht, k⟩ := h
    refine ⟨_, (pss_one (ps_ret (pe_and (pe_cmpR op_ne (pv 0) pe_str (nomark _)) (pe_and (pe_cmpR op_le (pe_callB call_len (by rfl) B.len bt_len (pa_cons (pv 0) pa_nil)) (pv 2) (nomark _)) (pe_one (pe_callB (call_all rfl) (by rfl) B.all bt_all (pa_cons (pe_comp (N := ["sign", "signs"]) (ci := [1]) (compSc_of (sc0 := defScope s_is_made_of) (N0 := ["text", "signs", "most"]) (by decide +kernel) rfl rfl (fun y hy => PySem.W.cellsFrom_some _ _ _ (.inl hy))) rfl (pi_str (pv 0)) (fun _ _ _ _ _ => (pe_cmpR (op_inxK K rfl) (pv 0) (pv 1) rfl))) pa_nil))))))), ?_⟩
    refine ⟨_, rfl, rfl, _, rfl, ?_⟩
    refine ite2 (fun g1 => ?_) (fun g1 => ?_)
    · refine ⟨_, rfl, _, _, rfl, ⟨Nat.le_of_lt ht, rfl⟩, _, rfl, _, _, rfl, rfl, _, rfl, ?_⟩
      refine ite2 (fun g2 => ?_) (fun g2 => ?_)
      · refine ⟨_, rfl, _, rfl, fun D hD => comp_by t.length ht (fun i ys H2 => ys = (t.cps.toList.take i).map (fun c => V.bl (decide (c ∈ sg.cps.toList))) ∧ H2 = upd H D (.lst ys)) ⟨rfl, rfl⟩ ?_ ?_ ?_⟩
        · rintro i ys H2 hi ⟨rfl, rfl⟩
          refine ⟨upd_same, ?_⟩
          rw [List.length_map, List.length_take]
          have : t.cps.toList.length = t.length := by simp [Str.length]
          omega
        · rintro ys H2 ⟨rfl, rfl⟩
          have el : t.cps.toList.take t.length = t.cps.toList := List.take_of_length_le (by simp [Str.length])
          refine ⟨rfl, D, t.cps.toList.map (fun c => decide (c ∈ sg.cps.toList)), rfl, SqL.of (by rw [upd_same, el, List.map_map]; rfl), ?_⟩
          refine qb ?_ (k _ (same_upd hD))
          unfold madeF
          rw [g1, g2, List.all_map]
          rfl
        · rintro i ys H2 hi ⟨rfl, rfl⟩
          refine ⟨hi, ?_⟩
          rintro v H' ⟨rfl, c, hc, rfl⟩ R hR
          refine ⟨_, rfl, _, rfl, Or.inl ⟨_, _, rfl, rfl, ?_⟩⟩
          refine hR _ _ upd_same ⟨?_, upd_upd⟩
          have hc' : t.cps.toList[i]? = some c := by simpa using hc
          rw [List.take_add_one, hc', List.map_append]
          show _ = _ ++ [V.bl (decide (c ∈ sg.cps.toList))]
          rw [StrLaws.found_one]
      · refine qb ?_ (k _ (Same.refl _))
        unfold madeF
        have : decide ((t.length : Int) ≤ m) = false := by simpa using g2
        rw [this, Bool.and_false, Bool.false_and]
    · refine qb ?_ (k _ (Same.refl _))
      unfold madeF
      have : (!decide (V.str t = V.str "")) = false := by simpa using g1
      rw [this, Bool.false_and, Bool.false_and]
def houseV : V → Bool
  | .str s => madeF s SM 6
  | _ => false
def personF (s : Str) : Bool := madeF (partP s "@").1 NM 8 && madeF (partP s "@").2.2 SM 6
def personV : V → Bool
  | .str s => personF s
  | _ => false
def sp1 (g : V → Bool) : Sp := fun vs H Q _ => ∃ (x : V) (k : Kd), vs = [x] ∧ IsK H x k ∧ Small x ∧ ∀ H', Same H H' → Q (.bl (g x)) H'
theorem sc_is_house : FnScope ["thing"] ["thing"] (defScope s_is_house) := ⟨rfl, rfl, rfl, by decide +kernel, rfl, by decide +kernel, by decide +kernel⟩
theorem ok_house (F : Def K mg "is_house" s_is_house) (B : Blt mg) (T : Txt P w K mg aE aP aR nb) (C_is_made_of : Can P w K mg base CX0 1 "is_made_of" ["text", "signs", "most"] spMade) : Can P w K mg base CX0 2 "is_house" ["thing"] (sp1 houseV) := by
  refine F.can sc_is_house (fun _ _ _ _ _ _ us hl => match us, hl with | [_], _ => rfl) (fun vs H Q E h => ?_) (fun f cdv A outer s H vs Q E hr h => ?_)
  · obtain ⟨_, _, rfl, _⟩ := h; rfl
  · obtain ⟨x, kd, rfl, hk, hz, k⟩ := h
    refine ⟨_, (pss_one (ps_ret (pe_and (pe_callB call_isinst (by rfl) B.isinstance bt_isinstance (pa_cons (pv 0) (pa_cons (pe_bltn (v := .ty "str") rfl B.str bt_str rfl) pa_nil))) (pe_one (pe_can C_is_made_of (hr.mono (by decide)) rfl (pa_cons (pv 0) (pa_cons (pe_const rfl T.HOUSE_SIGNS) (pa_cons (pe_const rfl T.HOUSE_LENGTH) pa_nil)))))))), ?_⟩
    refine ⟨_, rfl, _, _, _, _, rfl, hk.tyOf, kit_str kd, _, rfl, ?_⟩
    refine ite2 (fun g1 => ?_) (fun g1 => ?_)
    · obtain ⟨z, rfl⟩ := hk.isS g1
      exact ⟨_, rfl, z, _, _, rfl, hz z rfl, k⟩
    · have e : houseV x = false := by cases hk <;> first | rfl | exact absurd rfl g1
      exact qb e (k _ (Same.refl _))
theorem sc_is_person : FnScope ["thing", "parts"] ["thing"] (defScope s_is_person) := ⟨rfl, rfl, rfl, by decide +kernel, rfl, by decide +kernel, by decide +kernel⟩
theorem ok_person (F : Def K mg "is_person" s_is_person) (B : Blt mg) (T : Txt P w K mg aE aP aR nb) (C_is_made_of : Can P w K mg base CX0 1 "is_made_of" ["text", "signs", "most"] spMade) (C_is_house : Can P w K mg base CX0 2 "is_house" ["thing"] (sp1 houseV)) :
    Can P w K mg base CX0 3 "is_person" ["thing"] (sp1 personV) := by
  refine F.can sc_is_person (fun _ _ _ _ _ _ us hl => match us, hl with | [_], _ => rfl) (fun vs H Q E h => ?_) (fun f cdv A outer s H vs Q E hr h => ?_)
  · obtain ⟨_, _, rfl, _⟩ := h; rfl
  · obtain ⟨x, kd, rfl, hk, hz, k⟩ := h
    refine ⟨_, (pss_cons (ps_if (pt_not (pt_truth (pe_callB call_isinst (by rfl) B.isinstance bt_isinstance (pa_cons (pv 0) (pa_cons (pe_bltn (v := .ty "str") rfl B.str bt_str rfl) pa_nil))) (fun _ => rfl))) (pss_one (ps_ret pe_bl)) pss_nil)
      (pss_cons (ps_set (i := 1) sc_is_person.nd rfl (by first | exact Or.inl rfl | exact Or.inr rfl) (pe_bm PySem.F.plainAttrs_str PySem.F.slot_str_partition PySem.F.type_str_partition mt_partition (pv 0) (pa_cons pe_str pa_nil)))
      (pss_one (ps_ret (pe_and (pe_can C_is_made_of (hr.mono (by decide)) rfl (pa_cons (pe_ix ix_seq (pv 1) pe_int (fun _ _ => rfl)) (pa_cons (pe_const rfl T.NAME_SIGNS) (pa_cons (pe_const rfl T.NAME_LENGTH) pa_nil)))) (pe_one (pe_can C_is_house (hr.mono (by decide)) rfl (pa_cons (pe_ix ix_seq (pv 1) pe_int (fun _ _ => rfl)) pa_nil)))))))), ?_⟩
    refine ⟨_, rfl, _, _, _, _, rfl, hk.tyOf, kit_str kd, _, rfl, ?_⟩
    refine ite2 (fun g1 => ?_) (fun g1 => ?_)
    · have e : personV x = false := by cases hk <;> first | rfl | (simp [isStr] at g1)
      exact qb e (k _ (Same.refl _))
    · obtain ⟨z, rfl⟩ := hk.isS (by simpa using g1)
      have hzz := hz z rfl
      refine ⟨_, rfl, rfl, z, "@", rfl, rfl, by decide +kernel, Nat.le_of_lt hzz, fun p hp => ?_⟩
      obtain ⟨s1, w1⟩ := same_at (o := .tup [.str (partP z "@").1, .str (partP z "@").2.1, .str (partP z "@").2.2]) hp
      obtain ⟨l1, l2⟩ := part_small (y := "@") hzz
      refine ⟨_, rfl, Or.inr (Or.inl ⟨p, _, _, _, rfl, rfl, SqT.of w1, rfl, _, _, _, rfl, l1, fun H2 s2 => ⟨_, rfl, ?_⟩⟩)⟩
      refine ite2 (fun g2 => ?_) (fun g2 => ?_)
      · refine ⟨_, rfl, Or.inr (Or.inl ⟨p, _, _, _, rfl, rfl, SqT.of (s2 _ _ w1), rfl, _, _, rfl, .str _, (fun s e => by cases e; exact l2), fun H3 s3 => ?_⟩)⟩
        refine qb ?_ (k _ ((s1.trans s2).trans s3))
        show personF z = _
        unfold personF
        rw [g2, Bool.true_and]
        rfl
      · refine qb ?_ (k _ (s1.trans s2))
        show personF z = _
        unfold personF
        have : madeF (partP z "@").1 NM 8 = false := by simpa using g2
        rw [this, Bool.false_and]

/-! ### what refuses -/
def spCheck (aP : Addr) : Sp := fun vs H Q E => ∃ (x : V) (k : Kd), vs = [x] ∧ IsK H x k ∧ Small x ∧ ∀ H', Same H H' → (personV x = true → Q .non H') ∧ (personV x = false → E (.ref aP) none H')
theorem sc_check_person : FnScope ["person"] ["person"] (defScope s_check_person) := ⟨rfl, rfl, rfl, by decide +kernel, rfl, by decide +kernel, by decide +kernel⟩
theorem ok_check (F : Def K mg "check_person" s_check_person) (T : Txt P w K mg aE aP aR nb) (hnb : nb = "ValueError.__new__") (C_is_person : Can P w K mg base CX0 3 "is_person" ["thing"] (sp1 personV)) : Can P w K mg base (CXR P w) 4 "check_person" ["person"] (spCheck aP) := by
  refine F.canX sc_check_person (fun _ _ _ _ _ _ us hl => match us, hl with | [_], _ => rfl) (fun vs H Q E h => ?_) (fun f cdv A outer s H vs Q E hr h => ?_)
  · obtain ⟨_, _, rfl, _⟩ := h; rfl
  · obtain ⟨x, kd, rfl, hk, hz, k⟩ := h
    subst hnb
    refine ⟨_, (pss_one (ps_if (pt_not (pt_truth (pe_can C_is_person (hr.mono (by decide)) rfl (pa_cons (pv 0) pa_nil)) (fun _ => rfl))) (pss_one (ps_raise T.x_NoPerson PySem.F.excBase_ValueError rfl T.m_NoPerson (pa_cons pe_str pa_nil))) pss_nil)), ?_⟩
    refine ⟨_, rfl, x, kd, rfl, hk, hz, fun H1 s1 => ⟨_, rfl, ?_⟩⟩
    refine ite2 (fun g1 => ?_) (fun g1 => ?_)
    · exact ⟨by show 1 ≤ sizeLine; decide, (k _ s1).2 (by simpa using g1)⟩
    · exact (k _ s1).1 (by simpa using g1)

def spPair (aP aR : Addr) : Sp := fun vs H Q E => ∃ (x y : V) (k l : Kd), vs = [x, y] ∧ IsK H x k ∧ IsK H y l ∧ Small x ∧ Small y ∧ ∀ H', Same H H' → (personV x = true → personV y = true → x ≠ y → Q .non H') ∧ ((personV x = false ∨ personV y = false) → E (.ref aP) none H') ∧ (personV x = true → x = y → E (.ref aR) none H')
theorem person_str {x : V} (h : personV x = true) : ∃ z, x = .str z := by
  cases x <;> first | exact ⟨_, rfl⟩ | cases h
theorem sc_check_pair : FnScope ["first", "second"] ["first", "second"] (defScope s_check_pair) := ⟨rfl, rfl, rfl, by decide +kernel, rfl, by decide +kernel, by decide +kernel⟩
theorem ok_pair (F : Def K mg "check_pair" s_check_pair) (T : Txt P w K mg aE aP aR nb) (hnb : nb = "ValueError.__new__") (C_check_person : Can P w K mg base (CXR P w) 4 "check_person" ["person"] (spCheck aP)) : Can P w K mg base (CXR P w) 5 "check_pair" ["first", "second"] (spPair aP aR) := by
  refine F.canX sc_check_pair (fun _ _ _ _ _ _ us hl => match us, hl with | [_, _], _ => rfl) (fun vs H Q E h => ?_) (fun f cdv A outer s H vs Q E hr h => ?_)
  · obtain ⟨_, _, _, _, rfl, _⟩ := h; rfl
  · obtain ⟨x, y, kd, ld, rfl, hk, hl, hz, hy, k⟩ := h
    subst hnb
    refine ⟨_, (pss_cons (ps_expr (pe_canX C_check_person (hr.mono (by decide)) rfl (pa_cons (pv 0) pa_nil)))
      (pss_cons (ps_expr (pe_canX C_check_person (hr.mono (by decide)) rfl (pa_cons (pv 1) pa_nil)))
      (pss_one (ps_if (pt_cmpR op_eq (pv 0) (pv 1) (nomark _)) (pss_one (ps_raise T.x_NoPair PySem.F.excBase_ValueError rfl T.m_NoPair (pa_cons pe_str pa_nil))) pss_nil)))), ?_⟩
    refine ⟨_, rfl, x, kd, rfl, hk, hz, fun H1 s1 => ⟨fun g1 => ?_, fun g1 => (k _ s1).2.1 (.inl g1)⟩⟩
    refine ⟨_, rfl, y, ld, rfl, hl.same s1, hy, fun H2 s2 => ⟨fun g2 => ?_, fun g2 => (k _ (s1.trans s2)).2.1 (.inr g2)⟩⟩
    obtain ⟨t, rfl⟩ := person_str g1
    obtain ⟨u, rfl⟩ := person_str g2
    refine ⟨_, rfl, _, rfl, rfl, _, rfl, ?_⟩
    refine ite2 (fun g3 => ?_) (fun g3 => ?_)
    · exact ⟨by show 1 ≤ sizeLine; decide, (k _ (s1.trans s2)).2.2 g1 (by simpa using g3)⟩
    · exact (k _ (s1.trans s2)).1 g1 g2 (by simpa using g3)
/-- the key, sign by sign -/
def keyStep (n : Int) (c : Nat) : Int := (n * 131 + c) % 2305843009213693951
def keyF (t u : Str) : Int := let n := (t ++ (" " : Str) ++ u).cps.toList.foldl keyStep 7; if n = 0 then 1 else n
/-- a text that is short -/
def Tiny (x : V) : Prop := ∀ s, x = .str s → s.length ≤ 1000
theorem Tiny.small {x : V} (h : Tiny x) : Small x := fun s e => Nat.lt_of_le_of_lt (h s e) (by decide)
def spKey (aP aR : Addr) : Sp := fun vs H Q E => ∃ (x y : V) (k l : Kd), vs = [x, y] ∧ IsK H x k ∧ IsK H y l ∧ Tiny x ∧ Tiny y ∧ ∀ H', Same H H' → (∀ t u, x = .str t → y = .str u → personF t = true → personF u = true → t ≠ u → Q (.int (keyF t u)) H') ∧ ((personV x = false ∨ personV y = false) → E (.ref aP) none H') ∧ (personV x = true → x = y → E (.ref aR) none H')
theorem sc_key : FnScope ["first", "second", "total", "sign"] ["first", "second"] (defScope s_key) := ⟨rfl, rfl, rfl, by decide +kernel, rfl, by decide +kernel, by decide +kernel⟩
set_option maxHeartbeats 1000000 in
theorem ok_key (F : Def K mg "key" s_key) (B : Blt mg) (T : Txt P w K mg aE aP aR nb) (C_check_pair : Can P w K mg base (CXR P w) 5 "check_pair" ["first", "second"] (spPair aP aR)) : Can P w K mg base (CXR P w) 6 "key" ["first", "second"] (spKey aP aR) := by
  refine F.canX sc_key (fun _ _ _ _ _ _ us hl => match us, hl with | [_, _], _ => rfl) (fun vs H Q E h => ?_) (fun f cdv A outer s H vs Q E hr h => ?_)
  · obtain ⟨_, _, _, _, rfl, _⟩ := h; rfl
  · obtain ⟨x, y, kd, ld, rfl, hk, hl, hz, hy, k⟩ := h
    refine ⟨_, (pss_cons (ps_expr (pe_canX C_check_pair (hr.mono (by decide)) rfl (pa_cons (pv 0) (pa_cons (pv 1) pa_nil))))
      (pss_cons (ps_set (i := 2) sc_key.nd rfl (by first | exact Or.inl rfl | exact Or.inr rfl) pe_int)
      (pss_cons (ps_for PassesOwn.leaving rfl (pi_str (pe_bm PySem.F.plainAttrs_str PySem.F.slot_str_join PySem.F.type_str_join mt_join pe_str (pa_cons (pe_lst (pa_cons (pv 0) (pa_cons (pv 1) pa_nil))) pa_nil))) (pg_name (i := 3) sc_key.nd rfl (by first | exact Or.inl rfl | exact Or.inr rfl))
      (pss_one (ps_set (i := 2) sc_key.nd rfl (by first | exact Or.inl rfl | exact Or.inr rfl) (pe_op op_mod (pe_op op_plus (pe_op op_mul (pv 2) pe_int) (pe_callB call_ord (by rfl) B.ord bt_ord (pa_cons (pv 3) pa_nil))) (pe_const rfl T.P)))))
      (pss_one (ps_ret (pe_ifExp (pt_cmpR op_eq (pv 2) pe_int (nomark _)) pe_int (pv 2))))))), ?_⟩
    refine ⟨_, rfl, _, rfl, x, y, kd, ld, rfl, hk, hl, hz.small, hy.small, fun H1 s1 => ⟨fun g1 g2 g3 => ?_, (k _ s1).2.1, (k _ s1).2.2⟩⟩
    obtain ⟨t, rfl⟩ := person_str g1
    obtain ⟨u, rfl⟩ := person_str g2
    have lt := hz t rfl
    have lu := hy u rfl
    have sp1 : (" " : Str).length = 1 := by decide +kernel
    have big : (100000 : Nat) < sizeLine := by decide
    have jn : joinS " " [t, u] = t ++ (" " : Str) ++ u := by
      show Builtin.Str.glued " " [t, u] = _
      unfold Builtin.Str.glued
      rfl
    have jl : (t ++ (" " : Str) ++ u).length ≤ 3000 := by
      show ((t.cps ++ (" " : Str).cps) ++ u.cps).size ≤ 3000
      rw [Array.size_append, Array.size_append]
      have e1 : t.cps.size = t.length := rfl
      have e2 : u.cps.size = u.length := rfl
      have e3 : (" " : Str).cps.size = 1 := sp1
      omega
    refine ⟨rfl, _, rfl, _, rfl, by show 2 ≤ sizeLine; decide, fun q hq => ⟨" ", q, [t, u], rfl, rfl, SqL.of upd_same, ?_, by rw [jn]; omega, _, rfl, ?_⟩⟩
    · unfold Builtin.Str.tooLong
      show decide (0 + t.length + (" " : Str).length + u.length + (" " : Str).length > sizeLine) = false
      rw [sp1]
      exact decide_eq_false (by omega)
    have s2 : Same H1 _ := same_upd (o := .lst [.str t, .str u]) hq
    rw [jn]
    refine for_str (x := t ++ (" " : Str) ++ u) (fun i σ H' => ∃ (n : Int) (x3 : Option V), σ = [some (.str t), some (.str u), some (.int n), x3] ∧ n = ((t ++ (" " : Str) ++ u).cps.toList.take i).foldl keyStep 7 ∧ 0 ≤ n ∧ n < 2305843009213693951 ∧ Same H1 H') ?_ ?_ ?_
    · exact ⟨7, _, rfl, rfl, by decide, by decide, s2⟩
    · rintro i c σ H3 hc ⟨n, x3, rfl, hn, n0, n1, s3⟩
      refine ⟨_, rfl, _, _, rfl, rfl, cmulR (by decide) (by decide), _, rfl, _, rfl, rfl, Or.inl ⟨_, _, rfl, rfl, _, _, rfl, rfl, (by show (0 : Int) < 2305843009213693951; decide), ?_⟩⟩
      refine ⟨_, _, rfl, ?_, Int.emod_nonneg _ (by decide), Int.emod_lt_of_pos _ (by decide), s3⟩
      rw [List.take_add_one, hc, List.foldl_append, ← hn]
      rfl
    · rintro σ H3 ⟨n, x3, rfl, hn, _, _, s3⟩
      have full : (t ++ (" " : Str) ++ u).cps.toList.take (t ++ (" " : Str) ++ u).length = (t ++ (" " : Str) ++ u).cps.toList := List.take_of_length_le (by simp [Str.length])
      rw [full] at hn
      have fin := (k _ (s1.trans s3)).1 t u rfl rfl g1 g2 (fun e => g3 (by rw [e]))
      have ek : keyF t u = if n = 0 then 1 else n := by unfold keyF; rw [← hn]
      rw [ek] at fin
      refine ⟨_, rfl, rfl, _, rfl, ?_⟩
      refine ite2 (fun z => ?_) (fun z => ?_)
      · rw [if_pos (by simpa using z)] at fin; exact fin
      · rw [if_neg (by simpa using z)] at fin
        exact ⟨_, rfl, fin⟩
end
end K40

set_option Elab.async false
set_option linter.all false
set_option maxRecDepth 100000
namespace K40
open PySem L2 BB
section
variable {P : Program} {w : World} {K : PySem.W.Frag} {mg : Str → Option Value} {base : Heap} {aE aP aR : Addr} {nb : String}
def spMixed : Sp := fun vs H Q _ => ∃ c k : Int, vs = [.int c, .int k] ∧ ∀ z : Int, 0 ≤ z → z < 2147483629 → Q (.int z) H
theorem sc_law_mixed : FnScope ["_law_cell", "_law_k", "_law_number"] ["_law_cell", "_law_k"] (defScope s_law_mixed) := ⟨rfl, rfl, rfl, by decide +kernel, rfl, by decide +kernel, by decide +kernel⟩
theorem ok_mixed (F : Def K mg "_law_mixed" s_law_mixed) : Can P w K mg base CX0 1 "_law_mixed" ["_law_cell", "_law_k"] spMixed := by
  refine F.can sc_law_mixed (fun _ _ _ _ _ _ us hl => match us, hl with | [_, _], _ => rfl) (fun vs H Q E h => ?_) (fun f cdv A outer s H vs Q E hr h => ?_)
  · obtain ⟨_, _, rfl, _⟩ := h; rfl
  · obtain ⟨c, n, rfl, k⟩ := h
    refine ⟨_, (pss_cons (ps_set (i := 2) sc_law_mixed.nd rfl (by first | exact Or.inl rfl | exact Or.inr rfl) (pe_op op_mod (pe_op op_mul (pe_op op_plus (pe_op op_plus (pe_op op_mod (pv 0) pe_int) (pe_op op_mul pe_int (pv 1))) pe_int) pe_int) pe_int))
      (pss_cons (ps_set (i := 2) sc_law_mixed.nd rfl (by first | exact Or.inl rfl | exact Or.inr rfl) (pe_op op_mod (pe_op op_mul (pv 2) (pe_op op_plus (pe_op op_fdiv (pv 2) pe_int) pe_int)) pe_int))
      (pss_cons (ps_set (i := 2) sc_law_mixed.nd rfl (by first | exact Or.inl rfl | exact Or.inr rfl) (pe_op op_mod (pe_op op_mul (pv 2) (pe_op op_plus (pe_op op_plus (pe_op op_fdiv (pv 2) pe_int) pe_int) (pv 1))) pe_int))
      (pss_one (ps_ret (pe_op op_mod (pe_op op_mul (pv 2) (pe_op op_plus (pe_op op_fdiv (pv 2) pe_int) pe_int)) pe_int)))))), ?_⟩
    refine ⟨_, rfl, _, _, rfl, rfl, (by dsimp only; decide), _, rfl, _, _, rfl, rfl, cmulL (by decide) (by decide), Or.inl ⟨_, _, rfl, rfl, Or.inl ⟨_, _, rfl, rfl, _, _, rfl, rfl, cmulR (by decide) (by decide), _, _, rfl, rfl, (by dsimp only; decide), ?_⟩⟩⟩
    obtain ⟨a, ha⟩ : ∃ a : Int, (c % 2147483629 + 69621 * n + 1) * 48271 % 2147483629 = a := ⟨_, rfl⟩
    have a0 : 0 ≤ a := by rw [← ha]; exact Int.emod_nonneg _ (by decide)
    have a1 : a < 2147483629 := by rw [← ha]; exact Int.emod_lt_of_pos _ (by decide)
    dsimp only
    rw [ha]
    refine ⟨_, rfl, _, rfl, _, _, rfl, rfl, ⟨by decide, by decide⟩, Or.inl ⟨_, _, rfl, rfl, _, _, rfl, rfl, cmulL (by omega) (by omega), _, _, rfl, rfl, (by dsimp only; decide), ?_⟩⟩
    obtain ⟨b, hb⟩ : ∃ b : Int, a * (a / 1009 + 69621) % 2147483629 = b := ⟨_, rfl⟩
    have b0 : 0 ≤ b := by rw [← hb]; exact Int.emod_nonneg _ (by decide)
    have b1 : b < 2147483629 := by rw [← hb]; exact Int.emod_lt_of_pos _ (by decide)
    dsimp only
    rw [hb]
    refine ⟨_, rfl, _, rfl, _, _, rfl, rfl, ⟨by decide, by decide⟩, Or.inl ⟨_, _, rfl, rfl, _, rfl, Or.inl ⟨_, _, rfl, rfl, _, _, rfl, rfl, cmulL (by omega) (by omega), _, _, rfl, rfl, (by dsimp only; decide), ?_⟩⟩⟩
    obtain ⟨d, hd⟩ : ∃ d : Int, b * (b / 907 + 16807 + n) % 2147483629 = d := ⟨_, rfl⟩
    have d0 : 0 ≤ d := by rw [← hd]; exact Int.emod_nonneg _ (by decide)
    have d1 : d < 2147483629 := by rw [← hd]; exact Int.emod_lt_of_pos _ (by decide)
    dsimp only
    rw [hd]
    refine ⟨_, rfl, _, rfl, _, _, rfl, rfl, ⟨by decide, by decide⟩, Or.inl ⟨_, _, rfl, rfl, _, _, rfl, rfl, cmulL (by omega) (by omega), _, _, rfl, rfl, (by dsimp only; decide), ?_⟩⟩
    exact k _ (Int.emod_nonneg _ (by decide)) (Int.emod_lt_of_pos _ (by decide))
/-- the source: a list of three numbers; all else stays -/
def Src (H : Hp) (l : Addr) : Prop := ∃ a c n : Int, H l = some (.lst [.int a, .int c, .int n])
def But (l : Addr) (H H' : Hp) : Prop := ∀ b u, b ≠ l → H b = some u → H' b = some u
def spNext : Sp := fun vs H Q _ => ∃ (l : Addr) (m : Int), vs = [.ref l, .int m] ∧ Src H l ∧ 0 < m ∧ m < 1073741824 ∧ ∀ (z : Int) (H' : Hp), 0 ≤ z → z < m → But l H H' → Src H' l → Q (.int z) H'
theorem sc_law_next : FnScope ["_law_source_here", "_law_many", "_law_found"] ["_law_source_here", "_law_many"] (defScope s_law_next) := ⟨rfl, rfl, rfl, by decide +kernel, rfl, by decide +kernel, by decide +kernel⟩
theorem ok_next (F : Def K mg "_law_next" s_law_next) (C_law_mixed : Can P w K mg base CX0 1 "_law_mixed" ["_law_cell", "_law_k"] spMixed) : Can P w K mg base CX0 2 "_law_next" ["_law_source_here", "_law_many"] spNext := by
  refine F.can sc_law_next (fun _ _ _ _ _ _ us hl => match us, hl with | [_, _], _ => rfl) (fun vs H Q E h => ?_) (fun f cdv A outer s H vs Q E hr h => ?_)
  · obtain ⟨_, _, rfl, _⟩ := h; rfl
  · obtain ⟨l, m, rfl, ⟨a, c, n, hl⟩, m0, m1, k⟩ := h
    refine ⟨_, (pss_cons (ps_if (pt_cmpR op_gt (pe_ix ix_seq (pv 0) pe_int (fun _ _ => rfl)) pe_int (nomark _)) (pss_cons (ps_set (i := 2) sc_law_next.nd rfl (by first | exact Or.inl rfl | exact Or.inr rfl) (pe_op op_mod (pe_ix ix_seq (pv 0) pe_int (fun _ _ => rfl)) (pv 1)))
      (pss_cons (ps_asg (pe_op op_fdiv (pe_ix ix_seq (pv 0) pe_int (fun _ _ => rfl)) (pv 1)) (pg_sub (pv 0) pe_int set_list))
      (pss_one (ps_ret (pv 2))))) pss_nil)
      (pss_cons (ps_asg (pe_op op_plus (pe_ix ix_seq (pv 0) pe_int (fun _ _ => rfl)) pe_int) (pg_sub (pv 0) pe_int set_list))
      (pss_one (ps_ret (pe_op op_mod (pe_can C_law_mixed (hr.mono (by decide)) rfl (pa_cons (pe_ix ix_seq (pv 0) pe_int (fun _ _ => rfl)) (pa_cons (pe_ix ix_seq (pv 0) pe_int (fun _ _ => rfl)) pa_nil))) (pv 1)))))), ?_⟩
    refine ⟨_, rfl, Or.inl ⟨l, _, _, _, rfl, rfl, SqL.of hl, rfl, _, _, rfl, rfl, _, rfl, ?_⟩⟩
    refine ite2 (fun g => ?_) (fun g => ?_)
    · refine ⟨_, rfl, Or.inl ⟨l, _, _, _, rfl, rfl, SqL.of hl, rfl, _, rfl, _, _, rfl, rfl, m0, ?_⟩⟩
      refine ⟨_, rfl, Or.inl ⟨l, _, _, _, rfl, rfl, SqL.of hl, rfl, _, rfl, _, _, rfl, rfl, ⟨m0, m1⟩, ?_⟩⟩
      refine ⟨_, rfl, l, _, _, 0, rfl, rfl, hl, rfl, ?_⟩
      refine ⟨_, rfl, k _ _ (Int.emod_nonneg _ (by omega)) (Int.emod_lt_of_pos _ m0) (fun b u hb e => by rw [upd_ne hb]; exact e) ⟨_, _, _, upd_same⟩⟩
    · refine ⟨_, rfl, Or.inl ⟨l, _, _, _, rfl, rfl, SqL.of hl, rfl, Or.inl ⟨_, _, rfl, rfl, _, rfl, l, _, _, 2, rfl, rfl, hl, rfl, ?_⟩⟩⟩
      refine ⟨_, rfl, Or.inl ⟨l, _, _, _, rfl, rfl, SqL.of upd_same, rfl, _, rfl, Or.inl ⟨l, _, _, _, rfl, rfl, SqL.of upd_same, rfl, _, _, rfl, fun z z0 z1 => ⟨_, rfl, _, _, rfl, rfl, m0, ?_⟩⟩⟩⟩
      exact k _ _ (Int.emod_nonneg _ (by omega)) (Int.emod_lt_of_pos _ m0) (fun b u hb e => by rw [upd_ne hb]; exact e) ⟨_, _, _, upd_same⟩
def spSource : Sp := fun vs H Q _ => ∃ c : Int, vs = [.int c] ∧ ∀ l H', H l = none → Same H H' → Src H' l → Q (.ref l) H'
theorem sc_law_source : FnScope ["_law_cell"] ["_law_cell"] (defScope s_law_source) := ⟨rfl, rfl, rfl, by decide +kernel, rfl, by decide +kernel, by decide +kernel⟩
theorem ok_source (F : Def K mg "_law_source" s_law_source) : Can P w K mg base CX0 1 "_law_source" ["_law_cell"] spSource := by
  refine F.can sc_law_source (fun _ _ _ _ _ _ us hl => match us, hl with | [_], _ => rfl) (fun vs H Q E h => ?_) (fun f cdv A outer s H vs Q E hr h => ?_)
  · obtain ⟨_, rfl, _⟩ := h; rfl
  · obtain ⟨c, rfl, k⟩ := h
    refine ⟨_, (pss_one (ps_ret (pe_lst (pa_cons (pe_op op_mul (pe_op op_fdiv (pv 0) pe_int) (pe_op op_sub pe_int (pe_op op_mod (pv 0) pe_int))) (pa_cons (pv 0) (pa_cons pe_int pa_nil)))))), ?_⟩
    have e0 : 0 ≤ c % 2 := Int.emod_nonneg _ (by decide)
    have e1 : c % 2 < 2 := Int.emod_lt_of_pos _ (by decide)
    refine ⟨_, rfl, _, _, rfl, rfl, ⟨by decide, by decide⟩, _, rfl, _, _, rfl, rfl, (by dsimp only; decide), _, _, rfl, rfl, _, _, rfl, rfl, cmulR (by omega) (by omega), _, rfl, by show 3 ≤ sizeLine; decide, fun l hl => ?_⟩
    exact k l _ hl (same_upd hl) ⟨_, _, _, upd_same⟩
end
end K40

set_option Elab.async false
set_option linter.all false
set_option maxRecDepth 100000
namespace K40
open PySem L2 BB
section
variable {P : Program} {w : World} {K : PySem.W.Frag} {mg : Str → Option Value} {base : Heap} {aE aP aR : Addr} {nb : String}
theorem key_mod : ∀ (l : List Nat) (n m : Int), n % 2305843009213693951 = m % 2305843009213693951 → (l.foldl (fun (n : Int) (c : Nat) => n * 131 + (c : Int)) n) % 2305843009213693951 = (l.foldl keyStep m) % 2305843009213693951
  | [], n, m, h => h
  | c :: l, n, m, h => by
    rw [List.foldl_cons, List.foldl_cons]
    refine key_mod l _ _ ?_
    unfold keyStep
    rw [Int.emod_emod, Int.add_emod, Int.mul_emod, h, ← Int.mul_emod, ← Int.add_emod]
theorem key_lt : ∀ (l : List Nat) (m : Int), 0 ≤ m → m < 2305843009213693951 → 0 ≤ l.foldl keyStep m ∧ l.foldl keyStep m < 2305843009213693951
  | [], m, h0, h1 => ⟨h0, h1⟩
  | c :: l, m, _, _ => key_lt l _ (Int.emod_nonneg _ (by decide)) (Int.emod_lt_of_pos _ (by decide))
theorem key_due (t u : Str) : keyF t u = max 1 (((t ++ (" " : Str) ++ u).cps.toList.foldl (fun (n : Int) (c : Nat) => n * 131 + (c : Int)) 7) % 2305843009213693951) := by
  rw [key_mod _ 7 7 rfl]
  have b := key_lt (t ++ (" " : Str) ++ u).cps.toList 7 (by decide) (by decide)
  rw [Int.emod_eq_of_lt b.1 b.2]
  show (if (t ++ (" " : Str) ++ u).cps.toList.foldl keyStep 7 = 0 then (1 : Int) else (t ++ (" " : Str) ++ u).cps.toList.foldl keyStep 7) = _
  generalize (t ++ (" " : Str) ++ u).cps.toList.foldl keyStep 7 = n at b
  split <;> omega
def spIs : Sp := fun vs H Q _ => ∃ (v : Int) (t u : Str), vs = [.int v, .str t, .str u] ∧ t.length ≤ 1000 ∧ u.length ≤ 1000 ∧ v = keyF t u ∧ Q (.bl true) H
theorem sc_law_is : FnScope ["_law_found", "_law_first", "_law_second", "_law_number", "_law_sign", "_law_due"] ["_law_found", "_law_first", "_law_second"] (defScope s_law_is) := ⟨rfl, rfl, rfl, by decide +kernel, rfl, by decide +kernel, by decide +kernel⟩
theorem ok_is (F : Def K mg "_law_is" s_law_is) (B : Blt mg) : Can P w K mg base CX0 1 "_law_is" ["_law_found", "_law_first", "_law_second"] spIs := by
  refine F.can sc_law_is (fun _ _ _ _ _ _ us hl => match us, hl with | [_, _, _], _ => rfl) (fun vs H Q E h => ?_) (fun f cdv A outer s H vs Q E hr h => ?_)
  · obtain ⟨_, _, _, rfl, _⟩ := h; rfl
  · obtain ⟨v, t, u, rfl, lt, lu, hv, k⟩ := h
    refine ⟨_, (pss_cons (ps_set (i := 3) sc_law_is.nd rfl (by first | exact Or.inl rfl | exact Or.inr rfl) pe_int)
      (pss_cons (ps_for PassesOwn.never rfl (pi_str (pe_op op_plus (pe_op op_plus (pv 1) pe_str) (pv 2))) (pg_name (i := 4) sc_law_is.nd rfl (by first | exact Or.inl rfl | exact Or.inr rfl))
      (pss_one (ps_set (i := 3) sc_law_is.nd rfl (by first | exact Or.inl rfl | exact Or.inr rfl) (pe_op op_plus (pe_op op_mul (pv 3) pe_int) (pe_callB call_ord (by rfl) B.ord bt_ord (pa_cons (pv 4) pa_nil))))))
      (pss_cons (ps_set (i := 5) sc_law_is.nd rfl (by first | exact Or.inl rfl | exact Or.inr rfl) (pe_op op_mod (pv 3) pe_int))
      (pss_one (ps_ret (pe_and (pe_callB call_isinst (by rfl) B.isinstance bt_isinstance (pa_cons (pv 0) (pa_cons (pe_bltn (v := .ty "int") rfl B.int bt_int rfl) pa_nil))) (pe_and (pe_not (pe_callB call_isinst (by rfl) B.isinstance bt_isinstance (pa_cons (pv 0) (pa_cons (pe_bltn (v := .ty "bool") rfl B.bool bt_bool rfl) pa_nil)))) (pe_one (pe_cmpR op_eq (pv 0) (pe_callB (call_max2 rfl) (by rfl) B.max bt_max (pa_cons pe_int (pa_cons (pv 5) pa_nil))) (nomark _)))))))))), ?_⟩
    have sp1 : (" " : Str).length = 1 := by decide +kernel
    have big : (100000 : Nat) < sizeLine := by decide
    have al : (t ++ (" " : Str)).length ≤ 1001 := by
      show (t.cps ++ (" " : Str).cps).size ≤ 1001
      rw [Array.size_append]
      have e1 : t.cps.size = t.length := rfl
      have e3 : (" " : Str).cps.size = 1 := sp1
      omega
    refine ⟨_, rfl, Or.inr (Or.inl ⟨_, _, rfl, rfl, by rw [sp1]; omega, _, rfl, Or.inr (Or.inl ⟨_, _, rfl, rfl, by omega, _, rfl, ?_⟩)⟩)⟩
    refine for_str (x := t ++ (" " : Str) ++ u) (fun i σ H' => ∃ (x4 x5 : Option V), σ = [some (.int v), some (.str t), some (.str u), some (.int (((t ++ (" " : Str) ++ u).cps.toList.take i).foldl (fun (n : Int) (c : Nat) => n * 131 + (c : Int)) 7)), x4, x5] ∧ H' = H) ?_ ?_ ?_
    · exact ⟨_, _, rfl, rfl⟩
    · rintro i c σ H3 hc ⟨x4, x5, rfl, rfl⟩
      refine ⟨_, rfl, _, _, rfl, rfl, cmulR (by decide) (by decide), _, rfl, _, rfl, rfl, Or.inl ⟨_, _, rfl, rfl, ?_⟩⟩
      refine ⟨some (.str ⟨#[c]⟩), x5, ?_, rfl⟩
      have e : (List.take (i + 1) (t ++ (" " : Str) ++ u).cps.toList) = (List.take i (t ++ (" " : Str) ++ u).cps.toList) ++ [c] := by rw [List.take_add_one, hc]; rfl
      rw [e, List.foldl_append]
      rfl
    · rintro σ H3 ⟨x4, x5, rfl, rfl⟩
      have full : (t ++ (" " : Str) ++ u).cps.toList.take (t ++ (" " : Str) ++ u).length = (t ++ (" " : Str) ++ u).cps.toList := List.take_of_length_le (by simp [Str.length])
      rw [full]
      refine ⟨_, rfl, _, _, rfl, rfl, (by dsimp only; decide), ?_⟩
      refine ⟨_, rfl, _, _, _, _, rfl, .int _, kit_int .int, _, rfl, if_t rfl ?_⟩
      refine ⟨_, rfl, _, _, _, _, rfl, .int _, kit_bool .int, _, rfl, _, rfl, if_t rfl ?_⟩
      refine ⟨_, rfl, _, rfl, _, _, rfl, rfl, ?_⟩
      refine qb ?_ k
      symm
      refine decide_eq_true ?_
      rw [hv, key_due]
      congr 1
      split <;> omega
end
end K40

set_option Elab.async false
set_option linter.all false
set_option maxRecDepth 100000
namespace K40
open PySem L2 BB
section
variable {P : Program} {w : World} {K : PySem.W.Frag} {mg : Str → Option Value} {base : Heap} {aE aP aR : Addr} {nb : String}
theorem But.trans {l : Addr} {H1 H2 H3 : Hp} (a : But l H1 H2) (b : But l H2 H3) : But l H1 H3 := fun c u h e => b c u h (a c u h e)
theorem Same.but {l : Addr} {H1 H2 : Hp} (a : Same H1 H2) : But l H1 H2 := fun c u _ e => a c u e
theorem Src.same {l : Addr} {H1 H2 : Hp} (a : Src H1 l) (s : Same H1 H2) : Src H2 l := let ⟨x, y, z, e⟩ := a; ⟨x, y, z, s _ _ e⟩
theorem cat_cps (a b : Str) : (a ++ b).cps.toList = a.cps.toList ++ b.cps.toList := by
  show (a.cps ++ b.cps).toList = _
  simp
theorem cat_len (a b : Str) : (a ++ b).length = a.length + b.length := by
  show (a.cps ++ b.cps).size = _
  rw [Array.size_append]; rfl
def spName : Sp := fun vs H Q _ => ∃ (l : Addr) (n : Nat), vs = [.ref l, .int n] ∧ n < 4 ∧ Src H l ∧ ∀ (t : Str) (H' : Hp), But l H H' → Src H' l → 0 < t.length → t.length ≤ 8 → (∀ c ∈ t.cps.toList, c ∈ NM.cps.toList) → t ≠ "b" → Q (.str t) H'
theorem sc_law_name : FnScope ["_law_source_here", "_law_k", "_law_signs", "_law_word", "_law_j"] ["_law_source_here", "_law_k"] (defScope s_law_name) := ⟨rfl, rfl, rfl, by decide +kernel, rfl, by decide +kernel, by decide +kernel⟩
set_option maxHeartbeats 4000000 in
theorem ok_lname (F : Def K mg "_law_name" s_law_name) (B : Blt mg) (C_law_next : Can P w K mg base CX0 2 "_law_next" ["_law_source_here", "_law_many"] spNext) : Can P w K mg base CX0 3 "_law_name" ["_law_source_here", "_law_k"] spName := by
  refine F.can sc_law_name (fun _ _ _ _ _ _ us hl => match us, hl with | [_, _], _ => rfl) (fun vs H Q E h => ?_) (fun f cdv A outer s H vs Q E hr h => ?_)
  · obtain ⟨_, _, rfl, _⟩ := h; rfl
  · obtain ⟨l, n, rfl, hn, hsrc, k⟩ := h
    refine ⟨_, (pss_cons (ps_if (pt_cmpR op_eq (pe_can C_law_next (hr.mono (by decide)) rfl (pa_cons (pv 0) (pa_cons pe_int pa_nil))) pe_int (nomark _)) (pss_one (ps_ret (pe_ix ix_seq (pe_lst (pa_cons pe_str (pa_cons pe_str (pa_cons pe_str (pa_cons pe_str (pa_cons pe_str (pa_cons pe_str pa_nil))))))) (pv 1) (fun _ _ => rfl)))) pss_nil)
      (pss_cons (ps_set (i := 2) sc_law_name.nd rfl (by first | exact Or.inl rfl | exact Or.inr rfl) pe_str)
      (pss_cons (ps_set (i := 3) sc_law_name.nd rfl (by first | exact Or.inl rfl | exact Or.inr rfl) pe_str)
      (pss_cons (ps_for PassesOwn.never rfl (pi_range1 rfl B.range (pa_cons (pe_can C_law_next (hr.mono (by decide)) rfl (pa_cons (pv 0) (pa_cons pe_int pa_nil))) pa_nil)) (pg_name (i := 4) sc_law_name.nd rfl (by first | exact Or.inl rfl | exact Or.inr rfl))
      (pss_one (ps_set (i := 3) sc_law_name.nd rfl (by first | exact Or.inl rfl | exact Or.inr rfl) (pe_op op_plus (pv 3) (pe_ix ix_seq (pv 2) (pe_can C_law_next (hr.mono (by decide)) rfl (pa_cons (pv 0) (pa_cons pe_int pa_nil))) (fun _ _ => rfl))))))
      (pss_one (ps_ret (pe_op op_plus (pv 3) (pe_ix ix_seq pe_str (pv 1) (fun _ _ => rfl))))))))), ?_⟩
    have big : (1000 : Nat) < sizeLine := by decide
    refine ⟨_, rfl, l, 2, rfl, hsrc, by decide, by decide, fun z H1 z0 z1 bt1 src1 => ⟨rfl, _, rfl, ?_⟩⟩
    refine ite2 (fun g => ?_) (fun g => ?_)
    · refine ⟨by show 6 ≤ sizeLine; decide, fun q hq => ?_⟩
      obtain ⟨s2, w2⟩ := same_at (o := .lst [.str "ann", .str "an", .str "ann-", .str "ann1", .str "a", .str "anna"]) hq
      obtain ⟨v, hv, hat⟩ := at_mem (xs := [V.str "ann", .str "an", .str "ann-", .str "ann1", .str "a", .str "anna"]) (i := (n : Int)) (by omega) (by show (n : Int) < 6; omega)
      refine ⟨_, rfl, Or.inl ⟨q, _, _, v, rfl, rfl, SqL.of w2, hat, ?_⟩⟩
      have fin : ∀ t : Str, 0 < t.length → t.length ≤ 8 → (∀ c ∈ t.cps.toList, c ∈ NM.cps.toList) → t ≠ "b" → Q (.str t) _ := fun t => k t _ (bt1.trans (Same.but s2)) (src1.same s2)
      simp only [List.mem_cons, List.not_mem_nil, or_false] at hv
      rcases hv with rfl | rfl | rfl | rfl | rfl | rfl <;> exact fin _ (by decide) (by decide) (by decide +kernel) (by decide +kernel)
    · refine ⟨_, rfl, l, 8, rfl, src1, by decide, by decide, fun z2 H2 z20 z21 bt2 src2 => ⟨_, rfl, by omega, by omega, ?_⟩⟩
      obtain ⟨m, hm⟩ : ∃ m : Nat, z2.toNat = m := ⟨_, rfl⟩
      rw [hm]
      refine for_range (lo := 0) (n := m) (fun i σ H' => ∃ (wd : Str) (x4 : Option V), σ = [some (.ref l), some (.int n), some (.str NM), some (.str wd), x4] ∧ wd.length = i ∧ (∀ c ∈ wd.cps.toList, c ∈ NM.cps.toList) ∧ But l H H' ∧ Src H' l) ?_ ?_ ?_
      · exact ⟨"", _, rfl, rfl, (fun c hc => by rw [show ("" : Str).cps.toList = [] by decide +kernel] at hc; cases hc), bt1.trans bt2, src2⟩
      · rintro i σ H3 hi ⟨wd, x4, rfl, hw, hws, bt3, src3⟩
        refine ⟨_, rfl, _, rfl, _, rfl, l, 37, rfl, src3, by decide, by decide, fun z4 H4 z40 z41 bt4 src4 => ?_⟩
        obtain ⟨c, hc, hat⟩ := at_mem (xs := NM.cps.toList) (i := z4) z40 (by rw [show NM.cps.toList.length = 37 by decide +kernel]; exact z41)
        refine Or.inr (Or.inr ⟨_, _, c, rfl, rfl, by decide +kernel, hat, Or.inr (Or.inl ⟨_, _, rfl, rfl, by show wd.length + 1 ≤ sizeLine; omega, ?_⟩)⟩)
        refine ⟨wd ++ ⟨#[c]⟩, _, rfl, by rw [cat_len, hw]; rfl, fun d hd => ?_, bt3.trans bt4, src4⟩
        rw [cat_cps] at hd
        rcases List.mem_append.mp hd with h | h
        · exact hws d h
        · have : d = c := by simpa using h
          rw [this]; exact hc
      · rintro σ H3 ⟨wd, x4, rfl, hw, hws, bt3, src3⟩
        obtain ⟨c, hc, hat⟩ := at_mem (xs := ("k7-zb0" : Str).cps.toList) (i := (n : Int)) (by omega) (by rw [show ("k7-zb0" : Str).cps.toList.length = 6 by decide +kernel]; omega)
        have hc4 : c ∈ NM.cps.toList ∧ c ≠ 98 := by
          have : ∀ n < 4, ∀ c, atI ("k7-zb0" : Str).cps.toList (n : Nat) = some c → c ∈ NM.cps.toList ∧ c ≠ 98 := by
            intro n hn c h
            match n, hn with
            | 0, _ => have e : c = 107 := by (have z : atI ("k7-zb0" : Str).cps.toList ((0 : Nat) : Int) = some 107 := by decide +kernel); rw [z] at h; exact (Option.some.inj h).symm
                      subst e; decide +kernel
            | 1, _ => have e : c = 55 := by (have z : atI ("k7-zb0" : Str).cps.toList ((1 : Nat) : Int) = some 55 := by decide +kernel); rw [z] at h; exact (Option.some.inj h).symm
                      subst e; decide +kernel
            | 2, _ => have e : c = 45 := by (have z : atI ("k7-zb0" : Str).cps.toList ((2 : Nat) : Int) = some 45 := by decide +kernel); rw [z] at h; exact (Option.some.inj h).symm
                      subst e; decide +kernel
            | 3, _ => have e : c = 122 := by (have z : atI ("k7-zb0" : Str).cps.toList ((3 : Nat) : Int) = some 122 := by decide +kernel); rw [z] at h; exact (Option.some.inj h).symm
                      subst e; decide +kernel
          exact this n hn c hat
        refine ⟨_, rfl, _, rfl, Or.inr (Or.inr ⟨_, _, c, rfl, rfl, by decide +kernel, hat, Or.inr (Or.inl ⟨_, _, rfl, rfl, by show wd.length + 1 ≤ sizeLine; omega, ?_⟩)⟩)⟩
        refine k _ _ bt3 src3 ?_ ?_ (fun d hd => ?_) (fun e => ?_)
        · rw [cat_len]; exact Nat.succ_pos _
        · rw [cat_len]; show wd.length + 1 ≤ 8; omega
        · rw [cat_cps] at hd
          rcases List.mem_append.mp hd with h | h
          · exact hws d h
          · have : d = c := by simpa using h
            rw [this]; exact hc4.1
        · have z := congrArg (fun s : Str => s.cps.toList.getLast?) e
          rw [cat_cps] at z
          have zb : ("b" : Str).cps.toList.getLast? = some 98 := by decide +kernel
          rw [zb] at z
          simp at z
          exact hc4.2 z
end
end K40

set_option Elab.async false
set_option linter.all false
set_option maxRecDepth 100000
namespace K40
open PySem L2 BB
section
variable {P : Program} {w : World} {K : PySem.W.Frag} {mg : Str → Option Value} {base : Heap} {aE aP aR : Addr} {nb : String}
def HouseS (t : Str) : Prop := 0 < t.length ∧ t.length ≤ 6 ∧ ∀ c ∈ t.cps.toList, c ∈ SM.cps.toList
def spHomes : Sp := fun vs H Q _ => ∃ (l : Addr) (m : Nat), vs = [.ref l, .int m] ∧ m ≤ 4 ∧ Src H l ∧ ∀ (p : Addr) (hs : List Str) (H' : Hp), But l H H' → Src H' l → H p = none → H' p = some (.lst (hs.map V.str)) → hs.length = m → (∀ h ∈ hs, HouseS h) → Q (.ref p) H'
theorem Src.ne {l b : Addr} {H : Hp} (a : Src H l) (h : H b = none) : b ≠ l := fun e => by
  obtain ⟨_, _, _, q⟩ := a; rw [← e, h] at q; cases q
theorem sc_law_homes : FnScope ["_law_source_here", "_law_many", "_law_letters", "_law_found", "_law_k", "_law_word", "_law_j"] ["_law_source_here", "_law_many"] (defScope s_law_homes) := ⟨rfl, rfl, rfl, by decide +kernel, rfl, by decide +kernel, by decide +kernel⟩
set_option maxHeartbeats 4000000 in
theorem ok_homes (F : Def K mg "_law_homes" s_law_homes) (B : Blt mg) (C_law_next : Can P w K mg base CX0 2 "_law_next" ["_law_source_here", "_law_many"] spNext) : Can P w K mg base CX0 3 "_law_homes" ["_law_source_here", "_law_many"] spHomes := by
  refine F.can sc_law_homes (fun _ _ _ _ _ _ us hl => match us, hl with | [_, _], _ => rfl) (fun vs H Q E h => ?_) (fun f cdv A outer s H vs Q E hr h => ?_)
  · obtain ⟨_, _, rfl, _⟩ := h; rfl
  · obtain ⟨l, m, rfl, hm, hsrc, k⟩ := h
    refine ⟨_, (pss_cons (ps_set (i := 2) sc_law_homes.nd rfl (by first | exact Or.inl rfl | exact Or.inr rfl) pe_str)
      (pss_cons (ps_set (i := 3) sc_law_homes.nd rfl (by first | exact Or.inl rfl | exact Or.inr rfl) (pe_lst pa_nil))
      (pss_cons (ps_for PassesOwn.never rfl (pi_range1 rfl B.range (pa_cons (pv 1) pa_nil)) (pg_name (i := 4) sc_law_homes.nd rfl (by first | exact Or.inl rfl | exact Or.inr rfl))
      (pss_cons (ps_set (i := 5) sc_law_homes.nd rfl (by first | exact Or.inl rfl | exact Or.inr rfl) pe_str)
      (pss_cons (ps_for PassesOwn.never rfl (pi_range1 rfl B.range (pa_cons (pe_can C_law_next (hr.mono (by decide)) rfl (pa_cons (pv 0) (pa_cons pe_int pa_nil))) pa_nil)) (pg_name (i := 6) sc_law_homes.nd rfl (by first | exact Or.inl rfl | exact Or.inr rfl))
      (pss_one (ps_set (i := 5) sc_law_homes.nd rfl (by first | exact Or.inl rfl | exact Or.inr rfl) (pe_op op_plus (pv 5) (pe_ix ix_seq (pv 2) (pe_can C_law_next (hr.mono (by decide)) rfl (pa_cons (pv 0) (pa_cons pe_int pa_nil))) (fun _ _ => rfl))))))
      (pss_one (ps_expr (pe_bm PySem.F.plainAttrs_list PySem.F.slot_list_append PySem.F.type_list_append mt_append (pv 3) (pa_cons (pe_ix ix_seq (pe_lst (pa_cons (pe_op op_plus (pv 5) (pe_ix ix_seq pe_str (pv 4) (fun _ _ => rfl))) (pa_cons (pe_ix ix_seq (pe_lst (pa_cons pe_str (pa_cons pe_str (pa_cons pe_str (pa_cons pe_str pa_nil))))) (pv 4) (fun _ _ => rfl)) pa_nil))) (pe_can C_law_next (hr.mono (by decide)) rfl (pa_cons (pv 0) (pa_cons pe_int pa_nil))) (fun _ _ => rfl)) pa_nil)))))))
      (pss_one (ps_ret (pv 3)))))), ?_⟩
    have big : (1000 : Nat) < sizeLine := by decide
    refine ⟨by show 0 ≤ sizeLine; exact Nat.zero_le _, fun p hp => ?_⟩
    obtain ⟨s1, w1⟩ := same_at (o := .lst []) hp
    refine ⟨_, rfl, (m : Int), rfl, by omega, by omega, ?_⟩
    rw [Int.toNat_natCast]
    have pl : p ≠ l := hsrc.ne hp
    refine for_range (lo := 0) (n := m) (fun i σ H' => ∃ (hs : List Str) (x4 x5 x6 : Option V), σ = [some (.ref l), some (.int m), some (.str SM), some (.ref p), x4, x5, x6] ∧ H' p = some (.lst (hs.map V.str)) ∧ hs.length = i ∧ (∀ h ∈ hs, HouseS h) ∧ But l H H' ∧ Src H' l) ?_ ?_ ?_
    · exact ⟨[], _, _, _, rfl, w1, rfl, (fun _ h => nomatch h), Same.but s1, hsrc.same s1⟩
    · rintro i σ H2 hi ⟨hs, x4, x5, x6, rfl, h2, hl2, hg, bt2, src2⟩
      refine ⟨_, rfl, l, 6, rfl, src2, by decide, by decide, fun z H3 z0 z1 bt3 src3 => ⟨_, rfl, by omega, by omega, ?_⟩⟩
      obtain ⟨n, hn⟩ : ∃ n : Nat, z.toNat = n := ⟨_, rfl⟩
      rw [hn]
      refine for_range (lo := 0) (n := n) (fun j σ H' => ∃ (wd : Str) (x6 : Option V), σ = [some (.ref l), some (.int m), some (.str SM), some (.ref p), some (.int (0 + (i : Int))), some (.str wd), x6] ∧ wd.length = j ∧ (∀ c ∈ wd.cps.toList, c ∈ SM.cps.toList) ∧ H' p = some (.lst (hs.map V.str)) ∧ But l H H' ∧ Src H' l) ?_ ?_ ?_
      · exact ⟨"", _, rfl, rfl, (fun c hc => by rw [show ("" : Str).cps.toList = [] by decide +kernel] at hc; cases hc), bt3 _ _ pl h2, bt2.trans bt3, src3⟩
      · rintro j σ H4 hj ⟨wd, x6, rfl, hw, hws, h4, bt4, src4⟩
        refine ⟨_, rfl, _, rfl, _, rfl, l, 26, rfl, src4, by decide, by decide, fun z5 H5 z50 z51 bt5 src5 => ?_⟩
        obtain ⟨c, hc, hat⟩ := at_mem (xs := SM.cps.toList) (i := z5) z50 (by rw [show SM.cps.toList.length = 26 by decide +kernel]; exact z51)
        refine Or.inr (Or.inr ⟨_, _, c, rfl, rfl, by decide +kernel, hat, Or.inr (Or.inl ⟨_, _, rfl, rfl, by show wd.length + 1 ≤ sizeLine; omega, ?_⟩)⟩)
        refine ⟨wd ++ ⟨#[c]⟩, _, rfl, by rw [cat_len, hw]; rfl, fun d hd => ?_, bt5 _ _ pl h4, bt4.trans bt5, src5⟩
        rw [cat_cps] at hd
        rcases List.mem_append.mp hd with h | h
        · exact hws d h
        · have : d = c := by simpa using h
          rw [this]; exact hc
      · rintro σ H4 ⟨wd, x6, rfl, hw, hws, h4, bt4, src4⟩
        have i4 : i < 4 := by omega
        obtain ⟨c, hc, hat⟩ := at_mem (xs := ("qxvj" : Str).cps.toList) (i := (0 + (i : Int))) (by omega) (by rw [show ("qxvj" : Str).cps.toList.length = 4 by decide +kernel]; omega)
        have hcs : c ∈ SM.cps.toList := (show ∀ c ∈ ("qxvj" : Str).cps.toList, c ∈ SM.cps.toList by decide +kernel) c hc
        refine ⟨_, rfl, .inl ⟨rfl, _, SqL.of h4⟩, _, rfl, _, rfl, Or.inr (Or.inr ⟨_, _, c, rfl, rfl, by decide +kernel, hat, Or.inr (Or.inl ⟨_, _, rfl, rfl, by show wd.length + 1 ≤ sizeLine; omega, ?_⟩)⟩)⟩
        refine ⟨by show 4 ≤ sizeLine; decide, fun q1 hq1 => ?_⟩
        obtain ⟨s5, w5⟩ := same_at (o := .lst [.str "home", .str "ome", .str "hom", .str "e"]) hq1
        obtain ⟨v, hv, hat2⟩ := at_mem (xs := [V.str "home", .str "ome", .str "hom", .str "e"]) (i := (0 + (i : Int))) (by omega) (by show (0 + (i : Int)) < 4; omega)
        obtain ⟨u, rfl, hu⟩ : ∃ u : Str, v = .str u ∧ HouseS u := by
          simp only [List.mem_cons, List.not_mem_nil, or_false] at hv
          rcases hv with rfl | rfl | rfl | rfl <;> exact ⟨_, rfl, by decide, by decide, by decide +kernel⟩
        refine ⟨_, rfl, Or.inl ⟨q1, _, _, _, rfl, rfl, SqL.of w5, hat2, by show 2 ≤ sizeLine; decide, fun q2 hq2 => ?_⟩⟩
        have src5 := src4.same s5
        obtain ⟨s6, w6⟩ := same_at (o := .lst [.str (wd ++ ⟨#[c]⟩), .str u]) hq2
        have src6 := src5.same s6
        refine ⟨_, rfl, l, 2, rfl, src6, by decide, by decide, fun z7 H7 z70 z71 bt7 src7 => ?_⟩
        have h7p := bt7 _ _ pl (s6 _ _ (s5 _ _ h4))
        have h7q := bt7 _ _ (src5.ne hq2) w6
        obtain ⟨v2, hv2, hat3⟩ := at_mem (xs := [V.str (wd ++ ⟨#[c]⟩), .str u]) (i := z7) z70 (by show z7 < 2; exact z71)
        obtain ⟨y, rfl, hy⟩ : ∃ y : Str, v2 = .str y ∧ HouseS y := by
          simp only [List.mem_cons, List.not_mem_nil, or_false] at hv2
          rcases hv2 with rfl | rfl
          · refine ⟨_, rfl, by rw [cat_len]; exact Nat.succ_pos _, by rw [cat_len]; show wd.length + 1 ≤ 6; omega, fun d hd => ?_⟩
            rw [cat_cps] at hd
            rcases List.mem_append.mp hd with h | h
            · exact hws d h
            · have : d = c := by simpa using h
              rw [this]; exact hcs
          · exact ⟨_, rfl, hu⟩
        refine Or.inl ⟨q2, _, _, _, rfl, rfl, SqL.of h7q, hat3, p, _, _, rfl, rfl, h7p, by rw [List.length_map]; omega, ?_⟩
        have bt8 : But l H H7 := bt4.trans ((Same.but (s5.trans s6)).trans bt7)
        refine ⟨hs ++ [y], _, _, _, rfl, by rw [upd_same, List.map_append]; rfl, by simp [hl2], fun h hh => ?_, fun b u hb e => ?_, ?_⟩
        · rcases List.mem_append.mp hh with q | q
          · exact hg h q
          · rw [List.mem_singleton.mp q]; exact hy
        · rw [upd_ne (ne_of_none e hp)]; exact bt8 b u hb e
        · obtain ⟨a1, a2, a3, e⟩ := src7
          exact ⟨a1, a2, a3, by rw [upd_ne (Ne.symm pl)]; exact e⟩
    · rintro σ H2 ⟨hs, x4, x5, x6, rfl, h2, hl2, hg, bt2, src2⟩
      exact ⟨_, rfl, k p hs _ bt2 src2 hp h2 hl2 hg⟩
end
end K40

set_option Elab.async false
set_option linter.all false
set_option maxRecDepth 100000
namespace K40
open PySem L2 BB
section
variable {P : Program} {w : World} {K : PySem.W.Frag} {mg : Str → Option Value} {base : Heap} {aE aP aR : Addr} {nb : String}
def NameS (t : Str) : Prop := 0 < t.length ∧ t.length ≤ 8 ∧ (∀ c ∈ t.cps.toList, c ∈ NM.cps.toList) ∧ t ≠ "b"
def PersS (hs : List Str) (t : Str) : Prop := ∃ n h, NameS n ∧ h ∈ hs ∧ t = n ++ ("@" : Str) ++ h
def spPeople : Sp := fun vs H Q _ => ∃ (l p : Addr) (hs : List Str) (m : Nat), vs = [.ref l, .ref p, .int m] ∧ 0 < m ∧ m ≤ 4 ∧ Src H l ∧ p ≠ l ∧ H p = some (.lst (hs.map V.str)) ∧ 0 < hs.length ∧ hs.length ≤ 4 ∧ (∀ h ∈ hs, HouseS h) ∧
  ∀ (q : Addr) (ps : List Str) (H' : Hp), But l H H' → Src H' l → H q = none → H' q = some (.lst (ps.map V.str)) → 0 < ps.length → ps.length ≤ 20 → (∀ t ∈ ps, PersS hs t) → Q (.ref q) H'
theorem sc_law_people : FnScope ["_law_source_here", "_law_homes_here", "_law_most", "_law_found", "_law_home", "_law_k", "_law_name_here"] ["_law_source_here", "_law_homes_here", "_law_most"] (defScope s_law_people) := ⟨rfl, rfl, rfl, by decide +kernel, rfl, by decide +kernel, by decide +kernel⟩
set_option maxHeartbeats 4000000 in
theorem ok_people (F : Def K mg "_law_people" s_law_people) (B : Blt mg) (C_law_next : Can P w K mg base CX0 2 "_law_next" ["_law_source_here", "_law_many"] spNext) (C_law_name : Can P w K mg base CX0 3 "_law_name" ["_law_source_here", "_law_k"] spName) : Can P w K mg base CX0 4 "_law_people" ["_law_source_here", "_law_homes_here", "_law_most"] spPeople := by
  refine F.can sc_law_people (fun _ _ _ _ _ _ us hl => match us, hl with | [_, _, _], _ => rfl) (fun vs H Q E h => ?_) (fun f cdv A outer s H vs Q E hr h => ?_)
  · obtain ⟨_, _, _, _, rfl, _⟩ := h; rfl
  · obtain ⟨l, p, hs, m, rfl, hm0, hm, hsrc, pl, hp, hn0, hn4, hh, k⟩ := h
    refine ⟨_, (pss_cons (ps_set (i := 3) sc_law_people.nd rfl (by first | exact Or.inl rfl | exact Or.inr rfl) (pe_lst pa_nil))
      (pss_cons (ps_for PassesOwn.never rfl (pi_list (pv 1)) (pg_name (i := 4) sc_law_people.nd rfl (by first | exact Or.inl rfl | exact Or.inr rfl))
      (pss_one (ps_for PassesOwn.never rfl (pi_range1 rfl B.range (pa_cons (pe_op op_plus pe_int (pe_can C_law_next (hr.mono (by decide)) rfl (pa_cons (pv 0) (pa_cons (pv 2) pa_nil)))) pa_nil)) (pg_name (i := 5) sc_law_people.nd rfl (by first | exact Or.inl rfl | exact Or.inr rfl))
      (pss_cons (ps_set (i := 6) sc_law_people.nd rfl (by first | exact Or.inl rfl | exact Or.inr rfl) (pe_can C_law_name (hr.mono (by decide)) rfl (pa_cons (pv 0) (pa_cons (pv 5) pa_nil))))
      (pss_one (ps_if (pt_cmpR op_notinx (pe_op op_plus (pe_op op_plus (pv 6) pe_str) (pv 4)) (pv 3) rfl) (pss_one (ps_expr (pe_bm PySem.F.plainAttrs_list PySem.F.slot_list_append PySem.F.type_list_append mt_append (pv 3) (pa_cons (pe_op op_plus (pe_op op_plus (pv 6) pe_str) (pv 4)) pa_nil)))) pss_nil))))))
      (pss_one (ps_ret (pv 3))))), ?_⟩
    have big : (1000 : Nat) < sizeLine := by decide
    have at1 : ("@" : Str).length = 1 := by decide +kernel
    refine ⟨by show 0 ≤ sizeLine; exact Nat.zero_le _, fun q hq => ?_⟩
    obtain ⟨s1, w1⟩ := same_at (o := .lst []) hq
    have ql : q ≠ l := hsrc.ne hq
    have qp : p ≠ q := fun e => by rw [e, hq] at hp; cases hp
    refine ⟨_, rfl, p, rfl, ⟨_, SqL.of (s1 _ _ hp)⟩, for_list (K := K) (a := p) (xs := hs.map V.str) (fun i σ H' => ∃ (ps : List Str) (x4 x5 x6 : Option V), σ = [some (.ref l), some (.ref p), some (.int m), some (.ref q), x4, x5, x6] ∧ H' q = some (.lst (ps.map V.str)) ∧ H' p = some (.lst (hs.map V.str)) ∧ ps.length ≤ 4 * i ∧ (0 < i → 0 < ps.length) ∧ (∀ t ∈ ps, PersS hs t) ∧ But l H H' ∧ Src H' l) ?_ ?_ ?_ ?_⟩
    · exact ⟨[], _, _, _, rfl, w1, s1 _ _ hp, Nat.zero_le _, (fun h => absurd h (Nat.lt_irrefl _)), (fun _ h => nomatch h), Same.but s1, hsrc.same s1⟩
    · rintro i σ H' _ ⟨_, _, _, _, _, _, h, _⟩
      exact SqL.of h
    · rintro i x σ H2 hx ⟨ps, x4, x5, x6, rfl, h2q, h2p, hl2, _, hg, bt2, src2⟩
      obtain ⟨hm', hmem, rfl⟩ : ∃ h, h ∈ hs ∧ V.str h = x := List.mem_map.mp (List.mem_of_getElem? hx)
      have ilt : i < hs.length := by have := (List.getElem?_eq_some_iff.mp hx).1; simpa using this
      have hH := hh hm' hmem
      refine ⟨_, rfl, _, rfl, l, m, rfl, src2, by omega, by omega, fun z H3 z0 z1 bt3 src3 => Or.inl ⟨_, _, rfl, rfl, _, rfl, by omega, by omega, ?_⟩⟩
      obtain ⟨c, hc⟩ : ∃ c : Nat, (1 + z).toNat = c := ⟨_, rfl⟩
      have hc0 : 0 < c := by omega
      have hc4 : c ≤ 4 := by omega
      rw [hc]
      refine for_range (lo := 0) (n := c) (fun j σ H' => ∃ (ps : List Str) (x5 x6 : Option V), σ = [some (.ref l), some (.ref p), some (.int m), some (.ref q), some (.str hm'), x5, x6] ∧ H' q = some (.lst (ps.map V.str)) ∧ H' p = some (.lst (hs.map V.str)) ∧ ps.length ≤ 4 * i + j ∧ (0 < j → 0 < ps.length) ∧ (∀ t ∈ ps, PersS hs t) ∧ But l H H' ∧ Src H' l) ?_ ?_ ?_
      · exact ⟨ps, _, _, rfl, bt3 _ _ ql h2q, bt3 _ _ pl h2p, by omega, (fun h => absurd h (Nat.lt_irrefl _)), hg, bt2.trans bt3, src3⟩
      · rintro j σ H4 hj ⟨ps, x5, x6, rfl, h4q, h4p, hl4, hne4, hg4, bt4, src4⟩
        rw [show ((0 : Int) + (j : Int)) = (j : Int) by omega]
        refine ⟨_, rfl, _, rfl, l, j, rfl, by omega, src4, fun nm H5 bt5 src5 n0 n1 n2 n3 => ?_⟩
        have h5q := bt5 _ _ ql h4q
        have h5p := bt5 _ _ pl h4p
        have c1 : nm.length + ("@" : Str).length ≤ sizeLine := by rw [at1]; omega
        have c2 : (nm ++ ("@" : Str)).length + hm'.length ≤ sizeLine := by rw [cat_len, at1]; have := hH.2.1; omega
        have good : PersS hs (nm ++ ("@" : Str) ++ hm') := ⟨nm, hm', ⟨n0, n1, n2, n3⟩, hmem, rfl⟩
        refine ⟨_, rfl, Or.inr (Or.inl ⟨_, _, rfl, rfl, c1, _, rfl, Or.inr (Or.inl ⟨_, _, rfl, rfl, c2, _, rfl, q, _, rfl, .inl (SqL.of h5q), rfl, ?_, _, rfl, ?_⟩)⟩)⟩
        · rw [List.all_map]; exact List.all_eq_true.mpr fun _ _ => rfl
        refine ite2 (fun g => ?_) (fun g => ?_)
        · refine ⟨_, rfl, .inl ⟨rfl, _, SqL.of h5q⟩, _, rfl, Or.inr (Or.inl ⟨_, _, rfl, rfl, c1, _, rfl, Or.inr (Or.inl ⟨_, _, rfl, rfl, c2, q, _, _, rfl, rfl, h5q, by rw [List.length_map]; omega, ?_⟩)⟩)⟩
          refine ⟨ps ++ [nm ++ ("@" : Str) ++ hm'], _, _, rfl, by rw [upd_same, List.map_append]; rfl, by rw [upd_ne qp]; exact h5p, by simp; omega, fun _ => by simp, fun t ht => ?_, fun b u hb e => ?_, ?_⟩
          · rcases List.mem_append.mp ht with h | h
            · exact hg4 t h
            · rw [List.mem_singleton.mp h]; exact good
          · rw [upd_ne (ne_of_none e hq)]; exact bt5 b u hb (bt4 b u hb e)
          · obtain ⟨a1, a2, a3, e⟩ := src5
            exact ⟨a1, a2, a3, by rw [upd_ne (Ne.symm ql)]; exact e⟩
        · refine ⟨ps, _, _, rfl, h5q, h5p, by omega, fun _ => ?_, hg4, bt4.trans bt5, src5⟩
          cases ps with
          | nil => exact absurd rfl g
          | cons a r => simp
      · rintro σ H4 ⟨ps, x5, x6, rfl, h4q, h4p, hl4, hne4, hg4, bt4, src4⟩
        exact ⟨ps, _, _, _, rfl, h4q, h4p, by omega, fun _ => hne4 hc0, hg4, bt4, src4⟩
    · rintro σ H2 ⟨ps, x4, x5, x6, rfl, h2q, _, hl2, hne, hg, bt2, src2⟩
      rw [List.length_map] at hl2 hne
      exact ⟨_, rfl, k q ps _ bt2 src2 hq h2q (hne hn0) (by omega) hg⟩
end
end K40

set_option Elab.async false
set_option linter.all false
set_option maxRecDepth 100000
namespace K40
open PySem L2 BB
/-- the twelve classes, in the law's order -/
structure Cls (K : PySem.W.Frag) (mg : Str → Option Value) (as : List Addr) : Prop where
  m_NoPerson : mg "NoPerson" = some (.ref (as.getD 0 0))
  m_NoPair : mg "NoPair" = some (.ref (as.getD 1 0))
  m_NoHouse : mg "NoHouse" = some (.ref (as.getD 2 0))
  m_NotHere : mg "NotHere" = some (.ref (as.getD 3 0))
  m_Wrong : mg "Wrong" = some (.ref (as.getD 4 0))
  m_Gone : mg "Gone" = some (.ref (as.getD 5 0))
  m_Fallen : mg "Fallen" = some (.ref (as.getD 6 0))
  m_Standing : mg "Standing" = some (.ref (as.getD 7 0))
  m_NoLetter : mg "NoLetter" = some (.ref (as.getD 8 0))
  m_NoText : mg "NoText" = some (.ref (as.getD 9 0))
  m_NoDeed : mg "NoDeed" = some (.ref (as.getD 10 0))
  m_NoBook : mg "NoBook" = some (.ref (as.getD 11 0))
/-- one of them, at place i -/
structure KitOf (K : PySem.W.Frag) (as : List Addr) (aE C : Addr) (i : Nat) : Prop where
  ek : PySem.W.ExcKit K C
  sub : SubE K C aE
  one : ∀ j < 12, PySem.W.kitOne K (.ref C) (.ref (as.getD j 0)) = some (decide (j = i))
  ve : PySem.W.kitOne K (.ref C) (.type "ValueError") = some true
section
variable {P : Program} {w : World} {K : PySem.W.Frag} {mg : Str → Option Value} {base : Heap} {aE aP aR : Addr} {nb : String} {as : List Addr}
def wordOf : Nat → Str
  | 0 => "person"
  | _ => "pair"
def spClass (K : PySem.W.Frag) (as : List Addr) (aE : Addr) : Sp := fun vs H Q _ => ∃ (e C : Addr) (i : Nat), vs = [.ref e] ∧ i < 2 ∧ KitOf K as aE C i ∧ H e = some (excO e (.ref C)) ∧ ∀ H', Same H H' → Q (.str (wordOf i)) H'
theorem sc_law_class : FnScope ["_law_e", "_law_kinds"] ["_law_e"] (defScope s_law_class) := ⟨rfl, rfl, rfl, by decide +kernel, rfl, by decide +kernel, by decide +kernel⟩
set_option maxHeartbeats 4000000 in
theorem ok_class (F : Def K mg "_law_class" s_law_class) (B : Blt mg) (T : Cls K mg as) : CanN P w K mg base 1 "_law_class" ["_law_e"] (spClass K as aE) := by
  refine F.canN sc_law_class (fun _ _ _ _ _ _ us hl => match us, hl with | [_], _ => rfl) (fun vs H Q E h => ?_) (fun f cdv A outer s H vs Q E hr h => ?_)
  · obtain ⟨_, _, _, rfl, _⟩ := h; rfl
  · obtain ⟨e, C, i, rfl, hi, KT, he, k⟩ := h
    refine ⟨_, (pss_cons (ps_set (i := 1) sc_law_class.nd rfl (by first | exact Or.inl rfl | exact Or.inr rfl) (pe_lst (pa_cons (pe_callB call_isinstE (by rfl) B.isinstance bt_isinstance (pa_cons (pv 0) (pa_cons (pe_const (v := .ref _) rfl ⟨_, T.m_NoPerson, rfl⟩) pa_nil))) (pa_cons (pe_callB call_isinstE (by rfl) B.isinstance bt_isinstance (pa_cons (pv 0) (pa_cons (pe_const (v := .ref _) rfl ⟨_, T.m_NoPair, rfl⟩) pa_nil))) (pa_cons (pe_callB call_isinstE (by rfl) B.isinstance bt_isinstance (pa_cons (pv 0) (pa_cons (pe_const (v := .ref _) rfl ⟨_, T.m_NoHouse, rfl⟩) pa_nil))) (pa_cons (pe_callB call_isinstE (by rfl) B.isinstance bt_isinstance (pa_cons (pv 0) (pa_cons (pe_const (v := .ref _) rfl ⟨_, T.m_NotHere, rfl⟩) pa_nil))) pa_nil))))))
      (pss_cons (ps_set (i := 1) sc_law_class.nd rfl (by first | exact Or.inl rfl | exact Or.inr rfl) (pe_op op_plus (pv 1) (pe_lst (pa_cons (pe_callB call_isinstE (by rfl) B.isinstance bt_isinstance (pa_cons (pv 0) (pa_cons (pe_const (v := .ref _) rfl ⟨_, T.m_Wrong, rfl⟩) pa_nil))) (pa_cons (pe_callB call_isinstE (by rfl) B.isinstance bt_isinstance (pa_cons (pv 0) (pa_cons (pe_const (v := .ref _) rfl ⟨_, T.m_Gone, rfl⟩) pa_nil))) (pa_cons (pe_callB call_isinstE (by rfl) B.isinstance bt_isinstance (pa_cons (pv 0) (pa_cons (pe_const (v := .ref _) rfl ⟨_, T.m_Fallen, rfl⟩) pa_nil))) (pa_cons (pe_callB call_isinstE (by rfl) B.isinstance bt_isinstance (pa_cons (pv 0) (pa_cons (pe_const (v := .ref _) rfl ⟨_, T.m_Standing, rfl⟩) pa_nil))) pa_nil)))))))
      (pss_cons (ps_set (i := 1) sc_law_class.nd rfl (by first | exact Or.inl rfl | exact Or.inr rfl) (pe_op op_plus (pv 1) (pe_lst (pa_cons (pe_callB call_isinstE (by rfl) B.isinstance bt_isinstance (pa_cons (pv 0) (pa_cons (pe_const (v := .ref _) rfl ⟨_, T.m_NoLetter, rfl⟩) pa_nil))) (pa_cons (pe_callB call_isinstE (by rfl) B.isinstance bt_isinstance (pa_cons (pv 0) (pa_cons (pe_const (v := .ref _) rfl ⟨_, T.m_NoText, rfl⟩) pa_nil))) (pa_cons (pe_callB call_isinstE (by rfl) B.isinstance bt_isinstance (pa_cons (pv 0) (pa_cons (pe_const (v := .ref _) rfl ⟨_, T.m_NoDeed, rfl⟩) pa_nil))) (pa_cons (pe_callB call_isinstE (by rfl) B.isinstance bt_isinstance (pa_cons (pv 0) (pa_cons (pe_const (v := .ref _) rfl ⟨_, T.m_NoBook, rfl⟩) pa_nil))) pa_nil)))))))
      (pss_cons (ps_if (PW.pt (pw_or (pt_cmpR op_ne (pe_bm PySem.F.plainAttrs_list PySem.F.slot_list_count PySem.F.type_list_count mt_lcount (pv 1) (pa_cons pe_bl pa_nil)) pe_int (nomark _)) (pw_or1 (pt_not (pt_truth (pe_callB call_isinstE (by rfl) B.isinstance bt_isinstance (pa_cons (pv 0) (pa_cons (pe_bltn (v := .ty "ValueError") rfl B.ValueError bt_ValueError rfl) pa_nil))) (fun _ => rfl)))))) (pss_one (ps_ret pe_str)) pss_nil)
      (pss_one (ps_ret (pe_ix ix_seq (pe_op op_plus (pe_lst (pa_cons pe_str (pa_cons pe_str (pa_cons pe_str (pa_cons pe_str pa_nil))))) (pe_op op_rep (pe_lst (pa_cons pe_str pa_nil)) pe_int)) (pe_bm PySem.F.plainAttrs_list PySem.F.slot_list_index PySem.F.type_list_index mt_lindex (pv 1) (pa_cons pe_bl pa_nil)) (fun _ _ => rfl)))))))), ?_⟩
    refine ⟨_, rfl, e, C, _, as.getD 0 0, _, rfl, Or.inl ⟨rfl, KT.one 0 (by decide)⟩, he, KT.ek, ?_⟩
    refine ⟨_, rfl, e, C, _, as.getD 1 0, _, rfl, Or.inl ⟨rfl, KT.one 1 (by decide)⟩, he, KT.ek, ?_⟩
    refine ⟨_, rfl, e, C, _, as.getD 2 0, _, rfl, Or.inl ⟨rfl, KT.one 2 (by decide)⟩, he, KT.ek, ?_⟩
    refine ⟨_, rfl, e, C, _, as.getD 3 0, _, rfl, Or.inl ⟨rfl, KT.one 3 (by decide)⟩, he, KT.ek, ?_⟩
    refine ⟨by show 4 ≤ sizeLine; decide, fun q1 hq1 => ?_⟩
    obtain ⟨s1, w1⟩ := same_at (o := .lst [.bl (decide (0 = i)), .bl (decide (1 = i)), .bl (decide (2 = i)), .bl (decide (3 = i))]) hq1
    have he1 := s1 _ _ he
    refine ⟨_, rfl, ?_⟩
    refine ⟨_, rfl, e, C, _, as.getD 4 0, _, rfl, Or.inl ⟨rfl, KT.one 4 (by decide)⟩, he1, KT.ek, ?_⟩
    refine ⟨_, rfl, e, C, _, as.getD 5 0, _, rfl, Or.inl ⟨rfl, KT.one 5 (by decide)⟩, he1, KT.ek, ?_⟩
    refine ⟨_, rfl, e, C, _, as.getD 6 0, _, rfl, Or.inl ⟨rfl, KT.one 6 (by decide)⟩, he1, KT.ek, ?_⟩
    refine ⟨_, rfl, e, C, _, as.getD 7 0, _, rfl, Or.inl ⟨rfl, KT.one 7 (by decide)⟩, he1, KT.ek, ?_⟩
    refine ⟨by show 4 ≤ sizeLine; decide, fun q2 hq2 => ?_⟩
    obtain ⟨s2, w2⟩ := same_at (o := .lst [.bl (decide (4 = i)), .bl (decide (5 = i)), .bl (decide (6 = i)), .bl (decide (7 = i))]) hq2
    refine Or.inr (Or.inr ⟨q1, q2, _, _, rfl, rfl, s2 _ _ w1, w2, by show 8 ≤ sizeLine; decide, fun q3 hq3 => ?_⟩)
    obtain ⟨s3, w3⟩ := same_at (o := .lst [.bl (decide (0 = i)), .bl (decide (1 = i)), .bl (decide (2 = i)), .bl (decide (3 = i)), .bl (decide (4 = i)), .bl (decide (5 = i)), .bl (decide (6 = i)), .bl (decide (7 = i))]) hq3
    have he3 := s3 _ _ (s2 _ _ he1)
    refine ⟨_, rfl, ?_⟩
    refine ⟨_, rfl, e, C, _, as.getD 8 0, _, rfl, Or.inl ⟨rfl, KT.one 8 (by decide)⟩, he3, KT.ek, ?_⟩
    refine ⟨_, rfl, e, C, _, as.getD 9 0, _, rfl, Or.inl ⟨rfl, KT.one 9 (by decide)⟩, he3, KT.ek, ?_⟩
    refine ⟨_, rfl, e, C, _, as.getD 10 0, _, rfl, Or.inl ⟨rfl, KT.one 10 (by decide)⟩, he3, KT.ek, ?_⟩
    refine ⟨_, rfl, e, C, _, as.getD 11 0, _, rfl, Or.inl ⟨rfl, KT.one 11 (by decide)⟩, he3, KT.ek, ?_⟩
    refine ⟨by show 4 ≤ sizeLine; decide, fun q4 hq4 => ?_⟩
    obtain ⟨s4, w4⟩ := same_at (o := .lst [.bl (decide (8 = i)), .bl (decide (9 = i)), .bl (decide (10 = i)), .bl (decide (11 = i))]) hq4
    refine Or.inr (Or.inr ⟨q3, q4, _, _, rfl, rfl, s4 _ _ w3, w4, by show 12 ≤ sizeLine; decide, fun q5 hq5 => ?_⟩)
    obtain ⟨s5, w5⟩ := same_at (o := .lst [.bl (decide (0 = i)), .bl (decide (1 = i)), .bl (decide (2 = i)), .bl (decide (3 = i)), .bl (decide (4 = i)), .bl (decide (5 = i)), .bl (decide (6 = i)), .bl (decide (7 = i)), .bl (decide (8 = i)), .bl (decide (9 = i)), .bl (decide (10 = i)), .bl (decide (11 = i))]) hq5
    have he5 := s5 _ _ (s4 _ _ he3)
    have s05 : Same H _ := (((s1.trans s2).trans s3).trans s4).trans s5
    refine ⟨_, rfl, .inl ⟨rfl, _, SqL.of w5⟩, q5, _, _, rfl, rfl, SqL.of w5, rfl, rfl, rfl, _, rfl, ?_⟩
    have hi2 : i = 0 ∨ i = 1 := by omega
    refine if_f ?cnt ?_
    case cnt => rcases hi2 with rfl | rfl <;> decide +kernel
    refine ⟨_, rfl, e, C, _, 0, _, rfl, Or.inr ⟨"ValueError", rfl, KT.ve⟩, he5, KT.ek, _, rfl, if_f rfl ?_⟩
    refine ⟨by show 4 ≤ sizeLine; decide, fun q6 hq6 => ?_⟩
    obtain ⟨s6, w6⟩ := same_at (o := .lst [.str "person", .str "pair", .str "house", .str "here"]) hq6
    refine ⟨by show 1 ≤ sizeLine; decide, fun q7 hq7 => ?_⟩
    obtain ⟨s7, w7⟩ := same_at (o := .lst [.str "other"]) hq7
    refine ⟨q7, 8, _, rfl, rfl, w7, by decide, by decide, by show 8 ≤ sizeLine; decide, fun q8 hq8 => ?_⟩
    obtain ⟨s8, w8⟩ := same_at (o := .lst (List.replicate 8 [V.str "other"]).flatten) hq8
    refine Or.inr (Or.inr ⟨q6, q8, _, _, rfl, rfl, s8 _ _ (s7 _ _ w6), w8, by show 12 ≤ sizeLine; decide, fun q9 hq9 => ?_⟩)
    obtain ⟨s9, w9⟩ := same_at (o := .lst ([V.str "person", .str "pair", .str "house", .str "here"] ++ (List.replicate 8 [V.str "other"]).flatten)) hq9
    have w5' := s9 _ _ (s8 _ _ (s7 _ _ (s6 _ _ w5)))
    refine ⟨_, rfl, .inl ⟨rfl, _, SqL.of w5'⟩, q5, _, _, i, .bl true, rfl, rfl, SqL.of w5', rfl, rfl, ?g1, rfl, ?g2, by omega, Or.inl ⟨q9, _, _, .str (wordOf i), rfl, rfl, SqL.of w9, ?g3, k _ ((((s05.trans s6).trans s7).trans s8).trans s9)⟩⟩
    case g1 => rcases hi2 with rfl | rfl <;> rfl
    case g2 =>
      intro m z' hm hz
      rcases hi2 with rfl | rfl
      · omega
      · have : m = 0 := by omega
        subst this
        cases hz; rfl
    case g3 => rcases hi2 with rfl | rfl <;> rfl
/-! ### what is refused, by its class -/
def spRefusal : Sp := fun vs H Q _ => ∃ (x y : V) (kx ky : Kd) (word : Str), vs = [x, y] ∧ IsK H x kx ∧ IsK H y ky ∧ Tiny x ∧ Tiny y ∧ (((personV x = false ∨ personV y = false) ∧ word = "person") ∨ (personV x = true ∧ x = y ∧ word = "pair")) ∧ ∀ H', Same H H' → Q (.str word) H'
theorem sc_law_refusal : FnScope ["_law_one", "_law_other", "_law_word", "_law_e"] ["_law_one", "_law_other"] (defScope s_law_refusal) := ⟨rfl, rfl, rfl, by decide +kernel, rfl, by decide +kernel, by decide +kernel⟩
def tryOf (s : Stmt) : Stmt := match defBody s with
  | _ :: t :: _ => t
  | _ => .Pass ⟨0, 0, 0, 0⟩
def tryB (s : Stmt) : List Stmt := match tryOf s with
  | .Try b _ _ _ _ => b
  | _ => []
def tryS (s : Stmt) : List Stmt := match tryOf s with
  | .Try _ [.ExceptHandler _ _ b _] _ _ _ => b
  | _ => []
set_option maxHeartbeats 4000000 in
def tm_tb (C_key : Can P w K mg base (CXR P w) 6 "key" ["first", "second"] (spKey aP aR)) {f : Addr} {cdv : Value} {A : Around} {outer : List Env} {s : Shared} {H : Hp} {E : XK} (hr : Room 6 (A.deeper (PyProof.Rows.envOfC "_law_refusal" (defScope s_law_refusal) s.heap.objs.size f cdv))) (pins : List (Addr × Obj)) (σ₀ : L2.St) (E' : XK) :
    Tm (Cx.inTry (cxOf CX0 P w K mg base ["_law_one", "_law_other", "_law_word", "_law_e"] "_law_refusal" (defScope s_law_refusal) f cdv A outer s H E).nox pins σ₀ E') (tryB s_law_refusal) := ⟨_, (pss_one (ps_expr (pe_canT C_key (hr.mono (by decide)) rfl (pa_cons (pv 0) (pa_cons (pv 1) pa_nil)))))⟩
set_option maxHeartbeats 4000000 in
def tm_ts (C_law_class : CanN P w K mg base 1 "_law_class" ["_law_e"] (spClass K as aE)) {f : Addr} {cdv : Value} {A : Around} {outer : List Env} {s : Shared} {H : Hp} {E : XK} (hr : Room 6 (A.deeper (PyProof.Rows.envOfC "_law_refusal" (defScope s_law_refusal) s.heap.objs.size f cdv))) (e : Addr) :
    Tm (Cx.inExc (cxOf CX0 P w K mg base ["_law_one", "_law_other", "_law_word", "_law_e"] "_law_refusal" (defScope s_law_refusal) f cdv A outer s H E).nox e) (tryS s_law_refusal) := ⟨_, (pss_one (ps_set (i := 2) sc_law_refusal.nd rfl (by first | exact Or.inl rfl | exact Or.inr rfl) (pe_canN C_law_class (RoomN.mark (Room.any (hr.mono (by decide))) _) rfl (pa_cons (pv 3) pa_nil))))⟩
end
end K40

set_option Elab.async false
set_option linter.all false
set_option maxRecDepth 100000
namespace K40
open PySem L2 BB
section
variable {P : Program} {w : World} {K : PySem.W.Frag} {mg : Str → Option Value} {base : Heap} {aE aP aR : Addr} {nb : String} {as : List Addr}
set_option maxHeartbeats 4000000 in
theorem ps_ref (T : Txt P w K mg aE aP aR nb) (C_key : Can P w K mg base (CXR P w) 6 "key" ["first", "second"] (spKey aP aR)) (C_law_class : CanN P w K mg base 1 "_law_class" ["_law_e"] (spClass K as aE)) {f : Addr} {cdv : Value} {A : Around} {outer : List Env} {s : Shared} {H : Hp} {E : XK} (hr : Room 6 (A.deeper (PyProof.Rows.envOfC "_law_refusal" (defScope s_law_refusal) s.heap.objs.size f cdv))) :
    PS (cxOf CX0 P w K mg base ["_law_one", "_law_other", "_law_word", "_law_e"] "_law_refusal" (defScope s_law_refusal) f cdv A outer s H E).nox (tryOf s_law_refusal)
      (tTry K aE 3 (fun σ₀ E' => (tm_tb (outer := outer) (H := H) (E := E) C_key hr [] σ₀ E').t) (tm_ts (outer := outer) (H := H) (E := E) C_law_class hr 0).t) :=
  ps_try (X := (cxOf CX0 P w K mg base ["_law_one", "_law_other", "_law_word", "_law_e"] "_law_refusal" (defScope s_law_refusal) f cdv A outer s H E).nox) (i := 3) rfl rfl rfl T.m_BookError T.x_BookError (by decide +kernel) sc_law_refusal.nd rfl rfl (fun pins σ₀ E' => (tm_tb (outer := outer) (H := H) (E := E) C_key hr pins σ₀ E').h) (fun e => (tm_ts (outer := outer) (H := H) (E := E) C_law_class hr e).h)
set_option maxHeartbeats 4000000 in
theorem ok_refusal (F : Def K mg "_law_refusal" s_law_refusal) (T : Txt P w K mg aE aP aR nb) (KP : KitOf K as aE aP 0) (KR : KitOf K as aE aR 1) (C_key : Can P w K mg base (CXR P w) 6 "key" ["first", "second"] (spKey aP aR)) (C_law_class : CanN P w K mg base 1 "_law_class" ["_law_e"] (spClass K as aE)) :
    Can P w K mg base CX0 7 "_law_refusal" ["_law_one", "_law_other"] spRefusal := by
  refine F.can sc_law_refusal (fun _ _ _ _ _ _ us hl => match us, hl with | [_, _], _ => rfl) (fun vs H Q E h => ?_) (fun f cdv A outer s H vs Q E hr h => ?_)
  · obtain ⟨_, _, _, _, _, rfl, _⟩ := h; rfl
  · obtain ⟨x, y, kx, ky, word, rfl, hx, hy, tx, ty, hw, k⟩ := h
    refine ⟨_, pss_cons (ps_set (i := 2) sc_law_refusal.nd rfl (by first | exact Or.inl rfl | exact Or.inr rfl) pe_str) (pss_cons (ps_ref T C_key C_law_class hr) (pss_one (ps_ret (pv 2)))), ?_⟩
    refine ⟨rfl, _, rfl, _, rfl, x, y, kx, ky, rfl, hx, hy, tx, ty, fun H1 s1 => ⟨fun t u ex ey pt pu ne => ?_, fun bad => ?_, fun px e => ?_⟩⟩
    · exfalso
      subst ex ey
      rcases hw with ⟨b | b, _⟩ | ⟨_, e, _⟩
      · exact Bool.false_ne_true (b.symm.trans pt)
      · exact Bool.false_ne_true (b.symm.trans pu)
      · exact ne (by cases e; rfl)
    · refine ⟨aP, _, _, rfl, T.x_NoPerson, KP.sub, fun e he => ?_⟩
      obtain ⟨s2, w2⟩ := same_at (o := excO e (.ref aP)) he
      refine ⟨_, rfl, e, aP, 0, rfl, by decide, KP, w2, fun H3 s3 => ?_⟩
      have ew : word = "person" := by
        rcases hw with ⟨_, r⟩ | ⟨p, e, _⟩
        · exact r
        · subst e
          rcases bad with b | b <;> exact absurd (b.symm.trans p) Bool.false_ne_true
      subst ew
      exact ⟨_, rfl, k _ ((s1.trans s2).trans s3)⟩
    · refine ⟨aR, _, _, rfl, T.x_NoPair, KR.sub, fun e2 he => ?_⟩
      obtain ⟨s2, w2⟩ := same_at (o := excO e2 (.ref aR)) he
      refine ⟨_, rfl, e2, aR, 1, rfl, by decide, KR, w2, fun H3 s3 => ?_⟩
      have ew : word = "pair" := by
        rcases hw with ⟨b, _⟩ | ⟨_, _, r⟩
        · subst e
          rcases b with b | b <;> exact absurd (b.symm.trans px) Bool.false_ne_true
        · exact r
      subst ew
      exact ⟨_, rfl, k _ ((s1.trans s2).trans s3)⟩
end
end K40

set_option Elab.async false
set_option linter.all false
set_option maxRecDepth 100000
namespace K40
open PySem L2 BB
/-! ### people as lists of signs -/
def NML : List Nat := [97, 98, 99, 100, 101, 102, 103, 104, 105, 106, 107, 108, 109, 110, 111, 112, 113, 114, 115, 116, 117, 118, 119, 120, 121, 122, 48, 49, 50, 51, 52, 53, 54, 55, 56, 57, 45]
def SML : List Nat := [97, 98, 99, 100, 101, 102, 103, 104, 105, 106, 107, 108, 109, 110, 111, 112, 113, 114, 115, 116, 117, 118, 119, 120, 121, 122]
theorem nml : NM.cps.toList = NML := by decide +kernel
theorem sml : SM.cps.toList = SML := by decide +kernel
def madeL (l sg : List Nat) (m : Nat) : Bool := !l.isEmpty && decide (l.length ≤ m) && l.all fun c => decide (c ∈ sg)
theorem str_ext {a b : Str} (h : a.cps.toList = b.cps.toList) : a = b := by
  cases a; cases b; congr 1; exact Array.toList_inj.mp h
theorem made_list (t sg : Str) (m : Nat) : madeF t sg (m : Int) = madeL t.cps.toList sg.cps.toList m := by
  unfold madeF madeL
  have e1 : decide (V.str t = V.str "") = t.cps.toList.isEmpty := by
    rw [Bool.eq_iff_iff, decide_eq_true_iff, List.isEmpty_iff]
    constructor
    · intro h; cases h; decide +kernel
    · intro h
      have : t = "" := str_ext (h.trans (by decide +kernel))
      rw [this]
  have e2 : t.length = t.cps.toList.length := by simp [Str.length]
  rw [e1, e2]
  congr 2
  rw [Bool.eq_iff_iff, decide_eq_true_iff, decide_eq_true_iff]
  omega
def personL (l : List Nat) : Bool := madeL (l.takeWhile (· != 64)) NML 8 && madeL ((l.dropWhile (· != 64)).drop 1) SML 6
theorem at_sign : ("@" : Str) = ⟨#[64]⟩ := by decide +kernel
theorem places_tw {c i : Nat} : ∀ {l r : List Nat}, places c l = i :: r → l.takeWhile (· != c) = l.take i ∧ (l.dropWhile (· != c)).drop 1 = l.drop (i + 1)
  | [], r, h => by simp [places] at h
  | a :: l, r, h => by
    unfold places at h
    by_cases e : a = c
    · rw [if_pos e] at h
      cases h
      subst e
      simp
    · rw [if_neg e] at h
      cases q : places c l with
      | nil => rw [q] at h; simp at h
      | cons j r' =>
        rw [q] at h
        simp only [List.map_cons, List.cons.injEq] at h
        obtain ⟨rfl, rfl⟩ := h
        obtain ⟨h1, h2⟩ := places_tw q
        have en : (a != c) = true := by simpa using e
        rw [List.takeWhile_cons, List.dropWhile_cons, en]
        simp only [if_true, List.take_succ_cons, List.drop_succ_cons]
        exact ⟨by rw [h1], h2⟩
theorem no_tw {c : Nat} : ∀ {l : List Nat}, c ∉ l → l.takeWhile (· != c) = l ∧ l.dropWhile (· != c) = []
  | [], _ => ⟨rfl, rfl⟩
  | a :: l, h => by
    have en : (a != c) = true := by
      have : a ≠ c := fun e => h (e ▸ List.mem_cons_self ..)
      simpa using this
    obtain ⟨h1, h2⟩ := no_tw (l := l) (fun z => h (List.mem_cons_of_mem _ z))
    rw [List.takeWhile_cons, List.dropWhile_cons, en]
    exact ⟨by simp [h1], by simpa using h2⟩
theorem person_list (t : Str) : personF t = personL t.cps.toList := by
  have o1 : Builtin.Str.occurrences t "@" 0 t.length 1 = (places 64 t.cps.toList).take 1 := by rw [at_sign]; exact occ_places t 64 1
  unfold personF personL partP
  rw [o1]
  cases q : places 64 t.cps.toList with
  | nil =>
    obtain ⟨h1, h2⟩ := no_tw (places_nil.mp q)
    have z : madeF Str.empty SM 6 = false := by decide +kernel
    show (madeF t NM 8 && madeF Str.empty SM 6) = _
    rw [z, h2]
    show _ = (_ && madeL [] SML 6)
    have z2 : madeL [] SML 6 = false := by decide +kernel
    rw [z2, Bool.and_false, Bool.and_false]
  | cons i r =>
    obtain ⟨h1, h2⟩ := places_tw q
    show (madeF (Builtin.Str.strSub t 0 i) NM ((8 : Nat) : Int) && madeF (Builtin.Str.strSub t (i + ("@" : Str).length) t.length) SM ((6 : Nat) : Int)) = _
    rw [made_list, made_list, nml, sml, h1, h2, show ("@" : Str).length = 1 by decide +kernel]
    have e1 : (Builtin.Str.strSub t 0 i).cps.toList = t.cps.toList.take i := by
      unfold Builtin.Str.strSub
      rw [Array.toList_extract]
      simp
    have e2 : (Builtin.Str.strSub t (i + 1) t.length).cps.toList = t.cps.toList.drop (i + 1) := by
      unfold Builtin.Str.strSub
      rw [Array.toList_extract]
      show List.extract _ _ _ = _
      unfold List.extract
      exact List.take_of_length_le (by simp [Str.length])
    rw [e1, e2]
theorem madeL_true {l sg : List Nat} {m : Nat} (h0 : 0 < l.length) (h1 : l.length ≤ m) (h2 : ∀ c ∈ l, c ∈ sg) : madeL l sg m = true := by
  unfold madeL
  have e : l.isEmpty = false := by cases l with
    | nil => simp at h0
    | cons a r => rfl
  rw [e, decide_eq_true h1]
  simp only [Bool.not_false, Bool.true_and]
  exact List.all_eq_true.mpr fun c hc => decide_eq_true (h2 c hc)
theorem madeL_bad {l sg : List Nat} {m c : Nat} (h : c ∈ l) (hn : c ∉ sg) : madeL l sg m = false := by
  unfold madeL
  have : (l.all fun c => decide (c ∈ sg)) = false := by
    rw [List.all_eq_false]
    exact ⟨c, h, by simpa using hn⟩
  rw [this, Bool.and_false]
theorem tw_at {c : Nat} : ∀ {a b : List Nat}, c ∉ a → (a ++ c :: b).takeWhile (· != c) = a ∧ ((a ++ c :: b).dropWhile (· != c)).drop 1 = b
  | [], b, _ => by simp
  | x :: a, b, h => by
    have en : (x != c) = true := by
      have : x ≠ c := fun e => h (e ▸ List.mem_cons_self ..)
      simpa using this
    obtain ⟨h1, h2⟩ := tw_at (a := a) (b := b) (fun z => h (List.mem_cons_of_mem _ z))
    rw [List.cons_append, List.takeWhile_cons, List.dropWhile_cons, en]
    exact ⟨by simp [h1], by simpa using h2⟩
theorem person_at {a b : List Nat} (h : 64 ∉ a) : personL (a ++ 64 :: b) = (madeL a NML 8 && madeL b SML 6) := by
  unfold personL
  rw [(tw_at h).1, (tw_at h).2]
theorem person_no {a : List Nat} (h : 64 ∉ a) : personL a = false := by
  unfold personL
  rw [(no_tw h).2]
  show (_ && madeL [] SML 6) = _
  have z2 : madeL [] SML 6 = false := by decide +kernel
  rw [z2, Bool.and_false]
/-- names and houses make people -/
theorem pers_true {n h : Str} (hn : NameS n) (hh : HouseS h) : personF (n ++ ("@" : Str) ++ h) = true := by
  rw [person_list, cat_cps, cat_cps, List.append_assoc]
  have e : ("@" : Str).cps.toList = [64] := by decide +kernel
  rw [e]
  obtain ⟨n0, n1, n2, _⟩ := hn
  obtain ⟨h0, h1, h2⟩ := hh
  have l1 : n.cps.toList.length = n.length := by simp [Str.length]
  have l2 : h.cps.toList.length = h.length := by simp [Str.length]
  have no : 64 ∉ n.cps.toList := fun z => absurd (n2 64 z) (by decide +kernel)
  show personL (n.cps.toList ++ 64 :: h.cps.toList) = true
  rw [person_at no, madeL_true (by omega) (by omega) (nml ▸ n2), madeL_true (by omega) (by omega) (sml ▸ h2)]
  rfl
end K40

set_option Elab.async false
set_option linter.all false
set_option maxRecDepth 100000
namespace K40
open PySem L2 BB
section
variable {P : Program} {w : World} {K : PySem.W.Frag} {mg : Str → Option Value} {base : Heap} {aE aP aR : Addr} {nb : String}
def spOdd : Sp := fun vs H Q _ => ∃ (l : Addr) (h : Str), vs = [.ref l, .str h] ∧ Src H l ∧ HouseS h ∧ ∀ (v : V) (kd : Kd) (H' : Hp), But l H H' → Src H' l → IsK H' v kd → Tiny v → personV v = false → Q v H'
theorem sc_law_odd : FnScope ["_law_source_here", "_law_home", "_law_some"] ["_law_source_here", "_law_home"] (defScope s_law_odd) := ⟨rfl, rfl, rfl, by decide +kernel, rfl, by decide +kernel, by decide +kernel⟩
set_option maxHeartbeats 4000000 in
def tm_odd (C_law_next : Can P w K mg base CX0 2 "_law_next" ["_law_source_here", "_law_many"] spNext) {f : Addr} {cdv : Value} {A : Around} {outer : List Env} {s : Shared} {H : Hp} {E : XK} (hr : Room 2 (A.deeper (PyProof.Rows.envOfC "_law_odd" (defScope s_law_odd) s.heap.objs.size f cdv))) :
    Tm (cxOf CX0 P w K mg base ["_law_source_here", "_law_home", "_law_some"] "_law_odd" (defScope s_law_odd) f cdv A outer s H E).nox (defBody s_law_odd) := ⟨_, (pss_cons (ps_set (i := 2) sc_law_odd.nd rfl (by first | exact Or.inl rfl | exact Or.inr rfl) (pe_lstQ (qa_c pe_non (qa_c pe_int (qa_c pe_str (qa_c pe_str (qa_c (pe_op op_plus pe_str (pv 1)) (qa_c pe_str (qa_c (pe_op op_plus pe_str (pv 1)) (qa_c pe_str (qa_c (pe_op op_plus pe_str (pv 1)) (qa_c pe_str qa_nil))))))))))))
      (pss_cons (ps_set (i := 2) sc_law_odd.nd rfl (by first | exact Or.inl rfl | exact Or.inr rfl) (pe_op op_plus (pv 2) (pe_lstQ (qa_c (pe_op op_plus pe_str (pv 1)) (qa_c pe_str (qa_c (pe_lst (pa_cons (pe_op op_plus pe_str (pv 1)) pa_nil)) (qa_c (pe_tup (pa_cons pe_str (pa_cons (pv 1) pa_nil))) (qa_c pe_bl (qa_c (pe_op op_plus pe_str (pv 1)) (qa_c pe_str qa_nil))))))))))
      (pss_cons (ps_set (i := 2) sc_law_odd.nd rfl (by first | exact Or.inl rfl | exact Or.inr rfl) (pe_op op_plus (pv 2) (pe_lstQ (qa_c pe_str (qa_c pe_str (qa_c (pe_op op_plus (pe_op op_plus pe_str (pv 1)) pe_str) (qa_c (pe_op op_plus pe_str (pv 1)) (qa_c (pe_op op_plus (pe_op op_plus pe_str (pv 1)) pe_str) (qa_c (pe_un un_neg pe_int) (qa_c (pv 1) qa_nil))))))))))
      (pss_cons (ps_expr (pe_bm PySem.F.plainAttrs_list PySem.F.slot_list_append PySem.F.type_list_append mt_append (pv 2) (pa_cons (pe_op op_plus (pe_op op_plus pe_str (pv 1)) pe_str) pa_nil)))
      (pss_one (ps_ret (pe_ix ix_seq (pv 2) (pe_can C_law_next (hr.mono (by decide)) rfl (pa_cons (pv 0) (pa_cons pe_int pa_nil))) (fun _ _ => rfl))))))))⟩
theorem odd_all {H : Hp} {h : Str} {ql qt : Addr} (hh : HouseS h) (kl : H ql = some (.lst [.str (("ann@" : Str) ++ h)])) (kt : H qt = some (.tup [.str "ann", .str h])) {v : V} (hv : v ∈ ((([V.non, .int 7, .str "", .str "ann", .str (("@" : Str) ++ h), .str "ann@", .str (("Ann@" : Str) ++ h), .str "ann@Home", .str (("ninesigns@" : Str) ++ h), .str "ann@sevenhs"] ++ [V.str (("an_n@" : Str) ++ h), .str "a@b@c", .ref ql, .ref qt, .bl true, .str (("ann @" : Str) ++ h), .str "ann@ho me"]) ++ [V.str "ann@h1", .str "ann@-", .str (("ann@" : Str) ++ h ++ ("@" : Str)), .str ((" ann@" : Str) ++ h), .str (("ann@" : Str) ++ h ++ (" " : Str)), .int (-1), .str h]) ++ [V.str (("ann@" : Str) ++ h ++ ("\n" : Str))])) : ∃ kd, IsK H v kd ∧ Tiny v ∧ personV v = false := by
  obtain ⟨h0, h6, hs⟩ := hh
  have good : ∀ t : Str, t.length ≤ 1000 → personF t = false → ∃ kd, IsK H (.str t) kd ∧ Tiny (.str t) ∧ personV (.str t) = false := fun t ht hp => ⟨_, .str t, fun s e => by cases e; exact ht, hp⟩
  have no64 : 64 ∉ h.cps.toList := fun z => absurd (hs 64 z) (by decide +kernel)
  simp only [List.cons_append, List.nil_append, List.mem_cons, List.not_mem_nil, or_false] at hv
  rcases hv with rfl | rfl | rfl | rfl | rfl | rfl | rfl | rfl | rfl | rfl | rfl | rfl | rfl | rfl | rfl | rfl | rfl | rfl | rfl | rfl | rfl | rfl | rfl | rfl | rfl
  · exact ⟨_, .non, (fun s e => by cases e), rfl⟩
  · exact ⟨_, .int _, (fun s e => by cases e), rfl⟩
  · exact good _ (by decide +kernel) (by rw [person_list]; decide +kernel)
  · exact good _ (by decide +kernel) (by rw [person_list]; decide +kernel)
  · refine good _ (by rw [cat_len]; have : ("@" : Str).length ≤ 20 := by decide +kernel
                      omega) ?_
    rw [person_list, cat_cps, show ("@" : Str).cps.toList = ([] : List Nat) ++ [64] by decide +kernel, List.append_assoc]
    show personL (([] : List Nat) ++ 64 :: h.cps.toList) = false
    rw [person_at (by decide +kernel), show madeL ([] : List Nat) NML 8 = false by decide +kernel, Bool.false_and]
  · exact good _ (by decide +kernel) (by rw [person_list]; decide +kernel)
  · refine good _ (by rw [cat_len]; have : ("Ann@" : Str).length ≤ 20 := by decide +kernel
                      omega) ?_
    rw [person_list, cat_cps, show ("Ann@" : Str).cps.toList = [65, 110, 110] ++ [64] by decide +kernel, List.append_assoc]
    show personL ([65, 110, 110] ++ 64 :: h.cps.toList) = false
    rw [person_at (by decide +kernel), show madeL [65, 110, 110] NML 8 = false by decide +kernel, Bool.false_and]
  · exact good _ (by decide +kernel) (by rw [person_list]; decide +kernel)
  · refine good _ (by rw [cat_len]; have : ("ninesigns@" : Str).length ≤ 20 := by decide +kernel
                      omega) ?_
    rw [person_list, cat_cps, show ("ninesigns@" : Str).cps.toList = [110, 105, 110, 101, 115, 105, 103, 110, 115] ++ [64] by decide +kernel, List.append_assoc]
    show personL ([110, 105, 110, 101, 115, 105, 103, 110, 115] ++ 64 :: h.cps.toList) = false
    rw [person_at (by decide +kernel), show madeL [110, 105, 110, 101, 115, 105, 103, 110, 115] NML 8 = false by decide +kernel, Bool.false_and]
  · exact good _ (by decide +kernel) (by rw [person_list]; decide +kernel)
  · refine good _ (by rw [cat_len]; have : ("an_n@" : Str).length ≤ 20 := by decide +kernel
                      omega) ?_
    rw [person_list, cat_cps, show ("an_n@" : Str).cps.toList = [97, 110, 95, 110] ++ [64] by decide +kernel, List.append_assoc]
    show personL ([97, 110, 95, 110] ++ 64 :: h.cps.toList) = false
    rw [person_at (by decide +kernel), show madeL [97, 110, 95, 110] NML 8 = false by decide +kernel, Bool.false_and]
  · exact good _ (by decide +kernel) (by rw [person_list]; decide +kernel)
  · exact ⟨_, .lst kl, (fun s e => by cases e), rfl⟩
  · exact ⟨_, .tup kt, (fun s e => by cases e), rfl⟩
  · exact ⟨_, .bl _, (fun s e => by cases e), rfl⟩
  · refine good _ (by rw [cat_len]; have : ("ann @" : Str).length ≤ 20 := by decide +kernel
                      omega) ?_
    rw [person_list, cat_cps, show ("ann @" : Str).cps.toList = [97, 110, 110, 32] ++ [64] by decide +kernel, List.append_assoc]
    show personL ([97, 110, 110, 32] ++ 64 :: h.cps.toList) = false
    rw [person_at (by decide +kernel), show madeL [97, 110, 110, 32] NML 8 = false by decide +kernel, Bool.false_and]
  · exact good _ (by decide +kernel) (by rw [person_list]; decide +kernel)
  · exact good _ (by decide +kernel) (by rw [person_list]; decide +kernel)
  · exact good _ (by decide +kernel) (by rw [person_list]; decide +kernel)
  · refine good _ (by rw [cat_len, cat_len]; have : ("ann@" : Str).length ≤ 20 := by decide +kernel
                      have : ("@" : Str).length ≤ 20 := by decide +kernel
                      omega) ?_
    rw [person_list, cat_cps, cat_cps, show ("ann@" : Str).cps.toList = [97, 110, 110] ++ [64] by decide +kernel, show ("@" : Str).cps.toList = [64] by decide +kernel, List.append_assoc, List.append_assoc]
    show personL ([97, 110, 110] ++ 64 :: (h.cps.toList ++ [64])) = false
    rw [person_at (by decide +kernel), madeL_bad (l := h.cps.toList ++ [64]) (c := 64) (by simp) (by decide +kernel), Bool.and_false]
  · refine good _ (by rw [cat_len]; have : (" ann@" : Str).length ≤ 20 := by decide +kernel
                      omega) ?_
    rw [person_list, cat_cps, show (" ann@" : Str).cps.toList = [32, 97, 110, 110] ++ [64] by decide +kernel, List.append_assoc]
    show personL ([32, 97, 110, 110] ++ 64 :: h.cps.toList) = false
    rw [person_at (by decide +kernel), show madeL [32, 97, 110, 110] NML 8 = false by decide +kernel, Bool.false_and]
  · refine good _ (by rw [cat_len, cat_len]; have : ("ann@" : Str).length ≤ 20 := by decide +kernel
                      have : (" " : Str).length ≤ 20 := by decide +kernel
                      omega) ?_
    rw [person_list, cat_cps, cat_cps, show ("ann@" : Str).cps.toList = [97, 110, 110] ++ [64] by decide +kernel, show (" " : Str).cps.toList = [32] by decide +kernel, List.append_assoc, List.append_assoc]
    show personL ([97, 110, 110] ++ 64 :: (h.cps.toList ++ [32])) = false
    rw [person_at (by decide +kernel), madeL_bad (l := h.cps.toList ++ [32]) (c := 32) (by simp) (by decide +kernel), Bool.and_false]
  · exact ⟨_, .int _, (fun s e => by cases e), rfl⟩
  · exact good _ (by omega) (by rw [person_list]; exact person_no no64)
  · refine good _ (by rw [cat_len, cat_len]; have : ("ann@" : Str).length ≤ 20 := by decide +kernel
                      have : ("\n" : Str).length ≤ 20 := by decide +kernel
                      omega) ?_
    rw [person_list, cat_cps, cat_cps, show ("ann@" : Str).cps.toList = [97, 110, 110] ++ [64] by decide +kernel, show ("\n" : Str).cps.toList = [10] by decide +kernel, List.append_assoc, List.append_assoc]
    show personL ([97, 110, 110] ++ 64 :: (h.cps.toList ++ [10])) = false
    rw [person_at (by decide +kernel), madeL_bad (l := h.cps.toList ++ [10]) (c := 10) (by simp) (by decide +kernel), Bool.and_false]
set_option maxHeartbeats 4000000 in
theorem ok_odd (F : Def K mg "_law_odd" s_law_odd) (C_law_next : Can P w K mg base CX0 2 "_law_next" ["_law_source_here", "_law_many"] spNext) : Can P w K mg base CX0 3 "_law_odd" ["_law_source_here", "_law_home"] spOdd := by
  refine F.can sc_law_odd (fun _ _ _ _ _ _ us hl => match us, hl with | [_, _], _ => rfl) (fun vs H Q E h => ?_) (fun f cdv A outer s H vs Q E hr h => ?_)
  · obtain ⟨_, _, rfl, _⟩ := h; rfl
  · obtain ⟨l, h, rfl, hsrc, hh, k⟩ := h
    refine ⟨_, (tm_odd C_law_next hr).h, ?_⟩
    have big : (1000 : Nat) < sizeLine := by decide
    obtain ⟨h0, h6, hs⟩ := id hh
    have ln : ∀ z : Str, z.length ≤ 20 → z.length + h.length ≤ sizeLine := fun z hz => by omega
    refine ⟨_, rfl, Or.inr (Or.inl ⟨_, _, rfl, rfl, ln _ (by decide +kernel), ?_⟩)⟩
    refine ⟨_, rfl, Or.inr (Or.inl ⟨_, _, rfl, rfl, ln _ (by decide +kernel), ?_⟩)⟩
    refine ⟨_, rfl, Or.inr (Or.inl ⟨_, _, rfl, rfl, ln _ (by decide +kernel), ?_⟩)⟩
    refine ⟨by show 10 ≤ sizeLine; decide, fun q1 hq1 => ?_⟩
    obtain ⟨s1, w1⟩ := same_at (o := .lst [V.non, .int 7, .str "", .str "ann", .str (("@" : Str) ++ h), .str "ann@", .str (("Ann@" : Str) ++ h), .str "ann@Home", .str (("ninesigns@" : Str) ++ h), .str "ann@sevenhs"]) hq1
    refine ⟨_, rfl, ?_⟩
    refine ⟨_, rfl, Or.inr (Or.inl ⟨_, _, rfl, rfl, ln _ (by decide +kernel), ?_⟩)⟩
    refine ⟨_, rfl, Or.inr (Or.inl ⟨_, _, rfl, rfl, ln _ (by decide +kernel), ?_⟩)⟩
    refine ⟨by show 1 ≤ sizeLine; decide, fun ql hql => ?_⟩
    obtain ⟨s2, w2⟩ := same_at (o := .lst [.str (("ann@" : Str) ++ h)]) hql
    refine ⟨_, rfl, by show 2 ≤ sizeLine; decide, fun qt hqt => ?_⟩
    obtain ⟨s3, w3⟩ := same_at (o := .tup [.str "ann", .str h]) hqt
    refine ⟨_, rfl, Or.inr (Or.inl ⟨_, _, rfl, rfl, ln _ (by decide +kernel), ?_⟩)⟩
    refine ⟨by show 7 ≤ sizeLine; decide, fun q2 hq2 => ?_⟩
    obtain ⟨s4, w4⟩ := same_at (o := .lst [V.str (("an_n@" : Str) ++ h), .str "a@b@c", .ref ql, .ref qt, .bl true, .str (("ann @" : Str) ++ h), .str "ann@ho me"]) hq2
    refine Or.inr (Or.inr ⟨q1, q2, _, _, rfl, rfl, s4 _ _ (s3 _ _ (s2 _ _ w1)), w4, by show 17 ≤ sizeLine; decide, fun q3 hq3 => ?_⟩)
    obtain ⟨s5, w5⟩ := same_at (o := .lst ([V.non, .int 7, .str "", .str "ann", .str (("@" : Str) ++ h), .str "ann@", .str (("Ann@" : Str) ++ h), .str "ann@Home", .str (("ninesigns@" : Str) ++ h), .str "ann@sevenhs"] ++ [V.str (("an_n@" : Str) ++ h), .str "a@b@c", .ref ql, .ref qt, .bl true, .str (("ann @" : Str) ++ h), .str "ann@ho me"])) hq3
    refine ⟨_, rfl, ?_⟩
    have lnb : ∀ z y : Str, z.length ≤ 20 → y.length ≤ 20 → (z ++ h).length + y.length ≤ sizeLine := fun z y hz hy => by rw [cat_len]; omega
    refine ⟨_, rfl, Or.inr (Or.inl ⟨_, _, rfl, rfl, ln _ (by decide +kernel), Or.inr (Or.inl ⟨_, _, rfl, rfl, lnb _ _ (by decide +kernel) (by decide +kernel), ?_⟩)⟩)⟩
    refine ⟨_, rfl, Or.inr (Or.inl ⟨_, _, rfl, rfl, ln _ (by decide +kernel), ?_⟩)⟩
    refine ⟨_, rfl, Or.inr (Or.inl ⟨_, _, rfl, rfl, ln _ (by decide +kernel), Or.inr (Or.inl ⟨_, _, rfl, rfl, lnb _ _ (by decide +kernel) (by decide +kernel), ?_⟩)⟩)⟩
    refine ⟨1, rfl, _, rfl, by show 7 ≤ sizeLine; decide, fun q4 hq4 => ?_⟩
    obtain ⟨s6, w6⟩ := same_at (o := .lst [V.str "ann@h1", .str "ann@-", .str (("ann@" : Str) ++ h ++ ("@" : Str)), .str ((" ann@" : Str) ++ h), .str (("ann@" : Str) ++ h ++ (" " : Str)), .int (-1), .str h]) hq4
    refine Or.inr (Or.inr ⟨q3, q4, _, _, rfl, rfl, s6 _ _ w5, w6, by show 24 ≤ sizeLine; decide, fun q5 hq5 => ?_⟩)
    obtain ⟨s7, w7⟩ := same_at (o := .lst (([V.non, .int 7, .str "", .str "ann", .str (("@" : Str) ++ h), .str "ann@", .str (("Ann@" : Str) ++ h), .str "ann@Home", .str (("ninesigns@" : Str) ++ h), .str "ann@sevenhs"] ++ [V.str (("an_n@" : Str) ++ h), .str "a@b@c", .ref ql, .ref qt, .bl true, .str (("ann @" : Str) ++ h), .str "ann@ho me"]) ++ [V.str "ann@h1", .str "ann@-", .str (("ann@" : Str) ++ h ++ ("@" : Str)), .str ((" ann@" : Str) ++ h), .str (("ann@" : Str) ++ h ++ (" " : Str)), .int (-1), .str h])) hq5
    refine ⟨_, rfl, .inl ⟨rfl, _, SqL.of w7⟩, _, rfl, Or.inr (Or.inl ⟨_, _, rfl, rfl, ln _ (by decide +kernel), Or.inr (Or.inl ⟨_, _, rfl, rfl, lnb _ _ (by decide +kernel) (by decide +kernel), q5, _, _, rfl, rfl, w7, by show 24 < sizeLine; decide, ?_⟩)⟩)⟩
    have s07 : Same H _ := ((((((s1.trans s2).trans s3).trans s4).trans s5).trans s6).trans s7)
    have hn5 : H q5 = none := by
      cases e : H q5 with
      | none => rfl
      | some o => have := s6 _ _ (s5 _ _ (s4 _ _ (s3 _ _ (s2 _ _ (s1 _ _ e))))); rw [hq5] at this; cases this
    have src7 := hsrc.same s07
    have q5l : q5 ≠ l := hsrc.ne hn5
    obtain ⟨a1, a2, a3, esrc⟩ := src7
    refine ⟨_, rfl, _, rfl, l, 25, rfl, ⟨a1, a2, a3, by rw [upd_ne (Ne.symm q5l)]; exact esrc⟩, by decide, by decide, fun z H8 z0 z1 bt8 src8 => ?_⟩
    obtain ⟨v, hv, hat⟩ := at_mem (xs := ((([V.non, .int 7, .str "", .str "ann", .str (("@" : Str) ++ h), .str "ann@", .str (("Ann@" : Str) ++ h), .str "ann@Home", .str (("ninesigns@" : Str) ++ h), .str "ann@sevenhs"] ++ [V.str (("an_n@" : Str) ++ h), .str "a@b@c", .ref ql, .ref qt, .bl true, .str (("ann @" : Str) ++ h), .str "ann@ho me"]) ++ [V.str "ann@h1", .str "ann@-", .str (("ann@" : Str) ++ h ++ ("@" : Str)), .str ((" ann@" : Str) ++ h), .str (("ann@" : Str) ++ h ++ (" " : Str)), .int (-1), .str h]) ++ [V.str (("ann@" : Str) ++ h ++ ("\n" : Str))])) (i := z) z0 (by show z < 25; exact z1)
    have w8 := bt8 _ _ q5l upd_same
    have nl : ∀ (p : Addr), H p = none → p ≠ l := fun p hp => hsrc.ne hp
    have nq : ∀ {Ha : Hp} {p : Addr} {o : HO}, Ha p = some o → Ha q5 = none → p ≠ q5 := fun e1 e2 z => by rw [z, e2] at e1; cases e1
    have hl0 : H ql = none := by
      cases e : H ql with
      | none => rfl
      | some o => have := s1 _ _ e; rw [hql] at this; cases this
    have ht0 : H qt = none := by
      cases e : H qt with
      | none => rfl
      | some o => have := s2 _ _ (s1 _ _ e); rw [hqt] at this; cases this
    have e6l := s6 _ _ (s5 _ _ (s4 _ _ (s3 _ _ w2)))
    have e6t := s6 _ _ (s5 _ _ (s4 _ _ w3))
    have kl : H8 ql = some (.lst [.str (("ann@" : Str) ++ h)]) := bt8 _ _ (nl _ hl0) (by rw [upd_ne (nq e6l hq5)]; exact s7 _ _ e6l)
    have kt : H8 qt = some (.tup [.str "ann", .str h]) := bt8 _ _ (nl _ ht0) (by rw [upd_ne (nq e6t hq5)]; exact s7 _ _ e6t)
    have b8 : But l H H8 := fun b u hb e => bt8 _ _ hb (by rw [upd_ne (ne_of_none e hn5)]; exact s07 _ _ e)
    refine Or.inl ⟨q5, _, _, v, rfl, rfl, SqL.of w8, hat, ?_⟩
    obtain ⟨kd, o1, o2, o3⟩ := odd_all hh kl kt hv
    exact k v kd H8 b8 src8 o1 o2 o3
end
end K40

set_option Elab.async false
set_option linter.all false
set_option maxRecDepth 100000
namespace K40
open PySem L2 BB
section
variable {P : Program} {w : World} {K : PySem.W.Frag} {mg : Str → Option Value} {base : Heap} {aE aP aR : Addr} {nb : String}
def spLaw (K : PySem.W.Frag) : Sp := fun vs H Q _ => ∃ (a : Addr) (ns : List Int), vs = [.ref a] ∧ SqL K H a (ns.map V.int) ∧ ns.length ≤ 63 ∧ ∀ H', Q (.bl true) H'
theorem sc_law : FnScope ["_law_script", "_law_cell", "_law_source_here", "_law_homes_here", "_law_people_here", "_law_first", "_law_second", "_law_odd_here"] ["_law_script"] (defScope s_law) := ⟨rfl, rfl, rfl, by decide +kernel, rfl, by decide +kernel, by decide +kernel⟩
set_option maxHeartbeats 8000000 in
def tm_law (B : Blt mg) (C_law_source : Can P w K mg base CX0 1 "_law_source" ["_law_cell"] spSource) (C_law_next : Can P w K mg base CX0 2 "_law_next" ["_law_source_here", "_law_many"] spNext) (C_law_homes : Can P w K mg base CX0 3 "_law_homes" ["_law_source_here", "_law_many"] spHomes) (C_law_people : Can P w K mg base CX0 4 "_law_people" ["_law_source_here", "_law_homes_here", "_law_most"] spPeople)
    (C_law_is : Can P w K mg base CX0 1 "_law_is" ["_law_found", "_law_first", "_law_second"] spIs) (C_key : Can P w K mg base (CXR P w) 6 "key" ["first", "second"] (spKey aP aR)) (C_law_odd : Can P w K mg base CX0 3 "_law_odd" ["_law_source_here", "_law_home"] spOdd) (C_law_refusal : Can P w K mg base CX0 7 "_law_refusal" ["_law_one", "_law_other"] spRefusal)
    {f : Addr} {cdv : Value} {A : Around} {outer : List Env} {s : Shared} {H : Hp} {E : XK} (hr : Room 8 (A.deeper (PyProof.Rows.envOfC "law" (defScope s_law) s.heap.objs.size f cdv))) :
    Tm (cxOf CX0 P w K mg base ["_law_script", "_law_cell", "_law_source_here", "_law_homes_here", "_law_people_here", "_law_first", "_law_second", "_law_odd_here"] "law" (defScope s_law) f cdv A outer s H E).nox (defBody s_law) := ⟨_, (pss_cons (ps_for PassesOwn.never rfl (pi_list (pe_op op_plus (pe_slice sl_x (pv 0) po_none (po_some pe_int)) (pe_lst (pa_cons pe_int pa_nil)))) (pg_name (i := 1) sc_law.nd rfl (by first | exact Or.inl rfl | exact Or.inr rfl))
      (pss_cons (ps_set (i := 2) sc_law.nd rfl (by first | exact Or.inl rfl | exact Or.inr rfl) (pe_can C_law_source (hr.mono (by decide)) rfl (pa_cons (pv 1) pa_nil)))
      (pss_cons (ps_set (i := 3) sc_law.nd rfl (by first | exact Or.inl rfl | exact Or.inr rfl) (pe_can C_law_homes (hr.mono (by decide)) rfl (pa_cons (pv 2) (pa_cons (pe_op op_plus pe_int (pe_can C_law_next (hr.mono (by decide)) rfl (pa_cons (pv 2) (pa_cons pe_int pa_nil)))) pa_nil))))
      (pss_cons (ps_set (i := 4) sc_law.nd rfl (by first | exact Or.inl rfl | exact Or.inr rfl) (pe_can C_law_people (hr.mono (by decide)) rfl (pa_cons (pv 2) (pa_cons (pv 3) (pa_cons pe_int pa_nil)))))
      (pss_cons (ps_set (i := 5) sc_law.nd rfl (by first | exact Or.inl rfl | exact Or.inr rfl) (pe_ix ix_seq (pv 4) (pe_can C_law_next (hr.mono (by decide)) rfl (pa_cons (pv 2) (pa_cons (pe_callB call_len (by rfl) B.len bt_len (pa_cons (pv 4) pa_nil)) pa_nil))) (fun _ _ => rfl)))
      (pss_cons (ps_set (i := 6) sc_law.nd rfl (by first | exact Or.inl rfl | exact Or.inr rfl) (pe_ix ix_seq (pv 4) (pe_can C_law_next (hr.mono (by decide)) rfl (pa_cons (pv 2) (pa_cons (pe_callB call_len (by rfl) B.len bt_len (pa_cons (pv 4) pa_nil)) pa_nil))) (fun _ _ => rfl)))
      (pss_cons (ps_if (pt_cmpR op_eq (pv 5) (pv 6) (nomark _)) (pss_one (ps_set (i := 6) sc_law.nd rfl (by first | exact Or.inl rfl | exact Or.inr rfl) (pe_op op_plus pe_str (pe_ix ix_seq (pv 3) (pe_un un_neg pe_int) (fun _ _ => rfl))))) pss_nil)
      (pss_cons (ps_if (PW.pt (pw_or (pt_not (pt_truth (pe_can C_law_is (hr.mono (by decide)) rfl (pa_cons (pe_can0 C_key (hr.mono (by decide)) rfl (pa_cons (pv 5) (pa_cons (pv 6) pa_nil))) (pa_cons (pv 5) (pa_cons (pv 6) pa_nil)))) (fun _ => rfl))) (pw_or1 (pt_not (pt_truth (pe_can C_law_is (hr.mono (by decide)) rfl (pa_cons (pe_can0 C_key (hr.mono (by decide)) rfl (pa_cons (pv 6) (pa_cons (pv 5) pa_nil))) (pa_cons (pv 6) (pa_cons (pv 5) pa_nil)))) (fun _ => rfl)))))) (pss_one (ps_ret pe_bl)) pss_nil)
      (pss_cons (ps_set (i := 7) sc_law.nd rfl (by first | exact Or.inl rfl | exact Or.inr rfl) (pe_can C_law_odd (hr.mono (by decide)) rfl (pa_cons (pv 2) (pa_cons (pe_ix ix_seq (pv 3) pe_int (fun _ _ => rfl)) pa_nil))))
      (pss_cons (ps_if (pt_cmpR (op_nex (by have z := Nat.lt_of_succ_lt (hu_of hr); exact z)) (pe_lst (pa_cons (pe_can C_law_refusal (hr.mono (by decide)) rfl (pa_cons (pv 7) (pa_cons (pv 5) pa_nil))) (pa_cons (pe_can C_law_refusal (hr.mono (by decide)) rfl (pa_cons (pv 6) (pa_cons (pv 7) pa_nil))) (pa_cons (pe_can C_law_refusal (hr.mono (by decide)) rfl (pa_cons (pv 7) (pa_cons (pv 7) pa_nil))) pa_nil)))) (pe_op op_rep (pe_lst (pa_cons pe_str pa_nil)) pe_int) (nomark _)) (pss_one (ps_ret pe_bl)) pss_nil)
      (pss_one (ps_if (pt_cmpR op_ne (pe_can C_law_refusal (hr.mono (by decide)) rfl (pa_cons (pv 5) (pa_cons (pv 5) pa_nil))) pe_str (nomark _)) (pss_one (ps_ret pe_bl)) pss_nil))))))))))))
      (pss_one (ps_ret pe_bl)))⟩
set_option maxHeartbeats 8000000 in
theorem ok_law {f : Addr} {fd : FuncData} (F : Fun K "law" "law" s_law f fd) (B : Blt mg) (C_law_source : Can P w K mg base CX0 1 "_law_source" ["_law_cell"] spSource) (C_law_next : Can P w K mg base CX0 2 "_law_next" ["_law_source_here", "_law_many"] spNext) (C_law_homes : Can P w K mg base CX0 3 "_law_homes" ["_law_source_here", "_law_many"] spHomes) (C_law_people : Can P w K mg base CX0 4 "_law_people" ["_law_source_here", "_law_homes_here", "_law_most"] spPeople)
    (C_law_is : Can P w K mg base CX0 1 "_law_is" ["_law_found", "_law_first", "_law_second"] spIs) (C_key : Can P w K mg base (CXR P w) 6 "key" ["first", "second"] (spKey aP aR)) (C_law_odd : Can P w K mg base CX0 3 "_law_odd" ["_law_source_here", "_law_home"] spOdd) (C_law_refusal : Can P w K mg base CX0 7 "_law_refusal" ["_law_one", "_law_other"] spRefusal) :
    FnOk P w K mg base CX0 9 f fd ["_law_script"] (spLaw K) := by
  refine F.ok sc_law (fun vs H Q E h => ?_) (fun cdv A outer s H vs Q E hr h => ?_)
  · obtain ⟨_, _, rfl, _⟩ := h; rfl
  · obtain ⟨a, ns, rfl, ha, hl, k⟩ := h
    refine ⟨_, (tm_law B C_law_source C_law_next C_law_homes C_law_people C_law_is C_key C_law_odd C_law_refusal hr).h, ?_⟩
    refine ⟨_, rfl, _, rfl, a, _, rfl, ha, fun p1 hp1 => ?_⟩
    obtain ⟨s2, w2⟩ := same_at (o := .lst (cutV (ns.map V.int) none (some 30))) hp1
    refine ⟨by show 1 ≤ sizeLine; decide, fun p2 hp2 => ?_⟩
    obtain ⟨s3, w3⟩ := same_at (o := .lst [.int 0]) hp2
    refine Or.inr (Or.inr ⟨p1, p2, _, _, rfl, rfl, s3 _ _ w2, w3, ?_, fun la hla => ?_⟩)
    · have h1 := cutV_length (ns.map V.int) none (some 30)
      rw [List.length_map] at h1
      show _ + 1 ≤ sizeLine
      rw [sizeLine_eq]; omega
    obtain ⟨s4, w4⟩ := same_at (o := .lst (cutV (ns.map V.int) none (some 30) ++ [.int 0])) hla
    refine ⟨la, rfl, ⟨_, SqL.of w4⟩, for_list (K := K) (a := la) (xs := cutV (ns.map V.int) none (some 30) ++ [.int 0])
      (fun i σ H2 => ∃ x1 x2 x3 x4 x5 x6 x7 : Option V, σ = [some (.ref a), x1, x2, x3, x4, x5, x6, x7] ∧ H2 la = some (.lst (cutV (ns.map V.int) none (some 30) ++ [.int 0]))) ?_ ?_ ?_ ?_⟩
    · exact ⟨_, _, _, _, _, _, _, rfl, w4⟩
    · rintro i σ H2 _ ⟨_, _, _, _, _, _, _, rfl, h4⟩
      exact SqL.of h4
    · rintro i x σ H2 hx ⟨x1, x2, x3, x4, x5, x6, x7, rfl, h2⟩
      obtain ⟨c, rfl⟩ : ∃ c, x = .int c := all_ints (ms := [0]) (List.mem_of_getElem? hx)
      have big : (100000 : Nat) < sizeLine := by decide
      refine ⟨_, rfl, c, rfl, fun l H3 hl3 s3 src3 => ?_⟩
      have lal : la ≠ l := fun e => by rw [e, hl3] at h2; cases h2
      have h3 := s3 _ _ h2
      refine ⟨_, rfl, _, rfl, l, 2, rfl, src3, by decide, by decide, fun z H4 z0 z1 bt4 src4 => Or.inl ⟨_, _, rfl, rfl, l, (1 + z).toNat, ?_, by omega, src4, fun p hs H5 bt5 src5 hp5 h5p hlen hgood => ?_⟩⟩
      · show [V.ref l, V.int (1 + z)] = _
        rw [Int.toNat_of_nonneg (by omega)]
      have h4 := bt4 _ _ lal h3
      have h5 := bt5 _ _ lal h4
      have pl : p ≠ l := src4.ne hp5
      refine ⟨_, rfl, _, rfl, l, p, hs, 4, rfl, by decide, by decide, src5, pl, h5p, by omega, by omega, hgood, fun q ps H6 bt6 src6 hq6 h6q hps0 hps20 hpp => ?_⟩
      have h6 := bt6 _ _ lal h5
      have h6p := bt6 _ _ pl h5p
      have ql : q ≠ l := src5.ne hq6
      refine ⟨_, rfl, _, rfl, ?_⟩
      have persn : ∀ t ∈ ps, personF t = true ∧ t.length ≤ 20 := fun t ht => by
        obtain ⟨n, h, hn, hh, rfl⟩ := hpp t ht
        refine ⟨pers_true hn (hgood h hh), ?_⟩
        have := hn.2.1; have := (hgood h hh).2.1
        rw [cat_len, cat_len, show ("@" : Str).length = 1 by decide +kernel]; omega
      have pick : ∀ {H : Hp} {z : Int}, 0 ≤ z → z < (ps.length : Int) → ∃ t, t ∈ ps ∧ atI (ps.map V.str) z = some (.str t) := fun {H z} a b => by
        obtain ⟨v, hv, hat⟩ := at_mem (xs := ps.map V.str) (i := z) a (by rw [List.length_map]; exact b)
        obtain ⟨t, ht, rfl⟩ := List.mem_map.mp hv
        exact ⟨t, ht, hat⟩
      refine ⟨_, rfl, _, ps.length, rfl, .inl ⟨_, SqL.of h6q, by rw [List.length_map]⟩, l, ps.length, rfl, src6, by omega, by omega, fun z7 H7 z70 z71 bt7 src7 => ?_⟩
      have h7q := bt7 _ _ ql h6q
      have h7p := bt7 _ _ pl h6p
      have h7 := bt7 _ _ lal h6
      obtain ⟨t1, m1, at1⟩ := pick (H := H) z70 z71
      refine Or.inl ⟨q, _, _, _, rfl, rfl, SqL.of h7q, at1, ?_⟩
      refine ⟨_, rfl, _, rfl, _, rfl, _, ps.length, rfl, .inl ⟨_, SqL.of h7q, by rw [List.length_map]⟩, l, ps.length, rfl, src7, by omega, by omega, fun z8 H8 z80 z81 bt8 src8 => ?_⟩
      have h8q := bt8 _ _ ql h7q
      have h8p := bt8 _ _ pl h7p
      have h8 := bt8 _ _ lal h7
      obtain ⟨t2, m2, at2⟩ := pick (H := H) z80 z81
      refine Or.inl ⟨q, _, _, _, rfl, rfl, SqL.of h8q, at2, ?_⟩
      obtain ⟨p1, l1⟩ := persn t1 m1
      obtain ⟨p2, l2⟩ := persn t2 m2
      obtain ⟨h0, hs0, ehs⟩ : ∃ h0 hs0, hs = hs0 ++ [h0] := by
        rcases List.eq_nil_or_concat hs with e | ⟨a, b, e⟩
        · rw [e] at hlen; simp at hlen; omega
        · exact ⟨b, a, by simpa using e⟩
      have gh0 : HouseS h0 := hgood h0 (by rw [ehs]; simp)
      obtain ⟨hf, hsr, ehf⟩ : ∃ hf hsr, hs = hf :: hsr := by
        cases hs with
        | nil => simp at ehs
        | cons a b => exact ⟨a, b, rfl⟩
      have ghf : HouseS hf := hgood hf (by rw [ehf]; simp)
      have bn : ∀ t ∈ ps, t ≠ ("b@" : Str) ++ h0 := fun t ht e => by
        obtain ⟨n, h, hn, hh, rfl⟩ := hpp t ht
        have z := congrArg (fun s : Str => s.cps.toList) e
        simp only [cat_cps] at z
        rw [show ("b@" : Str).cps.toList = [98, 64] by decide +kernel, show ("@" : Str).cps.toList = [64] by decide +kernel, List.append_assoc] at z
        have no : 64 ∉ n.cps.toList := fun z => absurd (hn.2.2.1 64 z) (by decide +kernel)
        have z1 := congrArg (fun l => List.takeWhile (· != 64) l) z
        rw [show n.cps.toList ++ ([64] ++ h.cps.toList) = n.cps.toList ++ 64 :: h.cps.toList from rfl, (tw_at no).1] at z1
        exact hn.2.2.2 (str_ext (z1.trans (by rfl)))
      refine ⟨_, rfl, _, rfl, rfl, _, rfl, ite2 (fun g => ?A) (fun g => ?B)⟩
      case' A =>
        refine ⟨_, rfl, 1, rfl, Or.inl ⟨p, _, _, .str h0, rfl, rfl, SqL.of h8p, by rw [ehs, List.map_append]; exact atI_last _ _, Or.inr (Or.inl ⟨_, _, rfl, rfl, ?_, ?_⟩)⟩⟩
        · have : ("b@" : Str).length = 2 := by decide +kernel
          have := gh0.2.1
          omega
        obtain ⟨t, et, pt, lt, ne⟩ : ∃ t, t = ("b@" : Str) ++ h0 ∧ personF t = true ∧ t.length ≤ 20 ∧ t1 ≠ t := by
          refine ⟨_, rfl, ?_, ?_, bn t1 m1⟩
          · have e : ("b@" : Str) ++ h0 = ("b" : Str) ++ ("@" : Str) ++ h0 := by
              apply str_ext
              rw [cat_cps, cat_cps, cat_cps]
              rfl
            rw [e]
            rw [person_list, cat_cps, cat_cps, List.append_assoc, show ("@" : Str).cps.toList = [64] by decide +kernel, show ("b" : Str).cps.toList = [98] by decide +kernel]
            have l2 : h0.cps.toList.length = h0.length := by simp [Str.length]
            obtain ⟨u0, u1, u2⟩ := gh0
            show personL ([98] ++ 64 :: h0.cps.toList) = true
            rw [person_at (by decide +kernel), madeL_true (l := h0.cps.toList) (by omega) (by omega) (sml ▸ u2)]
            decide +kernel
          · rw [cat_len]
            have : ("b@" : Str).length = 2 := by decide +kernel
            have := gh0.2.1
            omega
        rw [← et]
      case' B => obtain ⟨t, et, pt, lt, ne⟩ : ∃ t, t = t2 ∧ personF t = true ∧ t.length ≤ 20 ∧ t1 ≠ t := ⟨t2, rfl, p2, l2, by simpa using g⟩
      case' B => rw [← et]
      all_goals
        have tn : ∀ {u : Str}, u.length ≤ 20 → Tiny (.str u) := fun {u} h z e => by cases e; omega
        refine ⟨_, rfl, _, rfl, .str t1, .str t, .str, .str, rfl, .str _, .str _, tn l1, tn lt, fun H9 s9 => ⟨fun u v e1 e2 _ _ _ => ?_, fun bad => ?_, fun _ e => ?_⟩⟩
        case' refine_2 => exact (by rcases bad with b | b; exact absurd (b.symm.trans p1) Bool.false_ne_true; exact absurd (b.symm.trans pt) Bool.false_ne_true)
        case' refine_3 => exact (by cases e; exact ne rfl)
        cases e1; cases e2
        refine ⟨_, rfl, _, rfl, _, t1, t, rfl, by omega, by omega, rfl, _, rfl, if_f rfl ?_⟩
        refine ⟨_, rfl, _, rfl, .str t, .str t1, .str, .str, rfl, .str _, .str _, tn lt, tn l1, fun H10 s10 => ⟨fun u v e1 e2 _ _ _ => ?_, fun bad => ?_, fun _ e => ?_⟩⟩
        case' refine_2 => exact (by rcases bad with b | b; exact absurd (b.symm.trans pt) Bool.false_ne_true; exact absurd (b.symm.trans p1) Bool.false_ne_true)
        case' refine_3 => exact (by cases e; exact ne rfl)
        cases e1; cases e2
        refine ⟨_, rfl, _, rfl, _, t, t1, rfl, by omega, by omega, rfl, _, rfl, if_f rfl ?_⟩
        have s810 : Same H8 H10 := s9.trans s10
        refine ⟨_, rfl, _, rfl, Or.inl ⟨p, _, _, .str hf, rfl, rfl, SqL.of (s810 _ _ h8p), by rw [ehf]; exact atI_nat (j := 0) rfl, l, hf, rfl, src8.same s810, ghf, fun v kd H11 bt11 src11 isk tiny pf => ?_⟩⟩
        have h11 := bt11 _ _ lal (s810 _ _ h8)
        refine ⟨_, rfl, _, rfl, v, .str t1, kd, .str, "person", rfl, isk, .str _, tiny, tn l1, Or.inl ⟨Or.inl pf, rfl⟩, fun H12 s12 => ?_⟩
        refine ⟨_, rfl, _, rfl, .str t, v, .str, kd, "person", rfl, .str _, isk.same s12, tn lt, tiny, Or.inl ⟨Or.inr pf, rfl⟩, fun H13 s13 => ?_⟩
        refine ⟨_, rfl, _, rfl, v, v, kd, kd, "person", rfl, (isk.same s12).same s13, (isk.same s12).same s13, tiny, tiny, Or.inl ⟨Or.inl pf, rfl⟩, fun H14 s14 => ?_⟩
        refine ⟨by show 3 ≤ sizeLine; decide, fun r1 hr1 => ?_⟩
        obtain ⟨s15, w15⟩ := same_at (o := .lst [.str "person", .str "person", .str "person"]) hr1
        refine ⟨by show 1 ≤ sizeLine; decide, fun r2 hr2 => ?_⟩
        obtain ⟨s16, w16⟩ := same_at (o := .lst [.str "person"]) hr2
        refine ⟨r2, 3, _, rfl, rfl, w16, by decide, by decide, by show 3 ≤ sizeLine; decide, fun r3 hr3 => ?_⟩
        obtain ⟨s17, w17⟩ := same_at (o := .lst (List.replicate 3 [V.str "person"]).flatten) hr3
        have flat : ∀ v ∈ [V.str "person", .str "person", .str "person"], flatV v = true := fun v hv => by
          simp only [List.mem_cons, List.not_mem_nil, or_false, or_self] at hv
          rw [hv]; rfl
        refine Or.inr ⟨r1, r3, _, _, rfl, rfl, SqL.of (s17 _ _ (s16 _ _ w15)), SqL.of w17, rfl, flat, flat, _, rfl, if_f (by decide +kernel) ?_⟩
        have s1417 := (s15.trans s16).trans s17
        have h17 := s1417 _ _ (s14 _ _ (s13 _ _ (s12 _ _ h11)))
        refine ⟨_, rfl, _, rfl, .str t1, .str t1, .str, .str, "pair", rfl, .str _, .str _, tn l1, tn l1, Or.inr ⟨p1, rfl, rfl⟩, fun H18 s18 => ⟨rfl, _, rfl, if_f (by decide +kernel) ?_⟩⟩
        exact ⟨_, _, _, _, _, _, _, rfl, s18 _ _ h17⟩
    · rintro σ H5 ⟨_, _, _, _, _, _, _, rfl, _⟩
      exact k _
end
end K40

set_option Elab.async false
set_option linter.all false
set_option maxRecDepth 100000
namespace K40
open PySem L2 BB
section
variable {P : Program} {w : World} {K : PySem.W.Frag} {mg : Str → Option Value} {base : Heap} {aE aP aR : Addr} {as : List Addr}
theorem all_law {f : Addr} {fd : FuncData} (B : Blt mg) (T : Txt P w K mg aE aP aR "ValueError.__new__") (TC : Cls K mg as) (KP : KitOf K as aE aP 0) (KR : KitOf K as aE aR 1) (D1 : Def K mg "is_made_of" s_is_made_of) (D2 : Def K mg "is_house" s_is_house) (D3 : Def K mg "is_person" s_is_person) (D4 : Def K mg "check_person" s_check_person) (D5 : Def K mg "check_pair" s_check_pair) (D6 : Def K mg "key" s_key) (D7 : Def K mg "_law_mixed" s_law_mixed) (D8 : Def K mg "_law_source" s_law_source) (D9 : Def K mg "_law_next" s_law_next) (D10 : Def K mg "_law_name" s_law_name) (D11 : Def K mg "_law_homes" s_law_homes) (D12 : Def K mg "_law_people" s_law_people) (D13 : Def K mg "_law_class" s_law_class) (D14 : Def K mg "_law_refusal" s_law_refusal) (D15 : Def K mg "_law_is" s_law_is) (D16 : Def K mg "_law_odd" s_law_odd) (F : Fun K "law" "law" s_law f fd) :
    FnOk P w K mg base CX0 9 f fd ["_law_script"] (spLaw K) := by
  have c1 := ok_made (P := P) (w := w) (base := base) D1 B
  have c2 := ok_house D2 B T c1
  have c3 := ok_person D3 B T c1 c2
  have c4 := ok_check D4 T rfl c3
  have c5 := ok_pair D5 T rfl c4
  have c6 := ok_key D6 B T c5
  have c7 := ok_mixed (P := P) (w := w) (base := base) D7
  have c8 := ok_source (P := P) (w := w) (base := base) D8
  have c9 := ok_next D9 c7
  have c10 := ok_lname D10 B c9
  have c11 := ok_homes D11 B c9
  have c12 := ok_people D12 B c9 c10
  have c13 := ok_class (P := P) (w := w) (base := base) (aE := aE) D13 B TC
  have c14 := ok_refusal D14 T KP KR c6 c13
  have c15 := ok_is (P := P) (w := w) (base := base) D15 B
  have c16 := ok_odd D16 c9
  exact ok_law F B c8 c9 c11 c12 c15 c6 c16 c14
end
theorem walk {l : PySem.W.OpenLaw} {q : Program} {loose : List Str} {XP : (Str → Option Value) → Heap → Prop} {YP : World → Heap → Prop} {d : DefRec} {K : Params → PySem.W.Frag} (hn : l.most = some 63) (hdf : d.params.defaults = [])
    (hY : ∀ (w : World) (h : Heap), YP w h → (K w.params).In h)
    (F : ∀ (w : World) (mg : Str → Option Value) (fa : Addr) (h : Heap), (K w.params).In h → h.Ns mainGlobals mg → mg d.name = some (.ref fa) →
      ∃ fd : FuncData, (∀ (s : Shared) (u : Value), BindsTo s fd ⟨[u], []⟩ [("_law_script", u)]) ∧ ∀ base : Heap, (K w.params).In base → base.Ns mainGlobals mg → FnOk l.prog w (K w.params) mg base CX0 9 fa fd ["_law_script"] (spLaw (K w.params))) :
    PySem.W.WalkO q loose XP YP l.row.toRowW d [] (fun f vs => PySem.call f vs) :=
  L2.walk_of (n := 63) (k := 9) (x := "_law_script") (CX := fun _ => CX0) (sp := fun w => spLaw (K w.params)) hn (by decide) hdf ⟨rfl, by decide, by decide⟩ hY F (fun _ _ a ns hl _ hS => ⟨a, ns, rfl, hS, hl, fun _ => rfl⟩) fun _ _ _ _ _ z => z
theorem mro_cls {K : PySem.W.Frag} {C : Addr} {v : Value} {b : Bool} (h : PySem.W.mroIn K C v = some b) : ∃ oc od cd sl, K.lookup C = some ⟨oc, od, .cls cd, sl⟩ ∧ cd.mro.contains v = b := by
  unfold PySem.W.mroIn at h
  obtain ⟨cd, h1, h2⟩ := Option.bind_eq_some_iff.mp h
  unfold PySem.W.clsIn at h1
  split at h1
  · rename_i ho
    cases h1
    split at h2
    · cases h2
    · cases h2
      exact ⟨_, _, _, _, ho, rfl⟩
  · cases h1
theorem txt {P : Program} {w : World} {K : PySem.W.Frag} {mg : Str → Option Value} {h : Heap} {aE aP aR : Addr} {t1 t2 t3 t4 t5 : Tok} (KX : K.In h) (G : h.Ns mainGlobals mg) (h1 : PySem.W.nsIn K mainGlobals "HOUSE_SIGNS" = some (some (.str SM t1))) (h2 : PySem.W.nsIn K mainGlobals "HOUSE_LENGTH" = some (some (.int 6 t2)))
    (h3 : PySem.W.nsIn K mainGlobals "NAME_SIGNS" = some (some (.str NM t3))) (h4 : PySem.W.nsIn K mainGlobals "NAME_LENGTH" = some (some (.int 8 t4))) (hP : PySem.W.nsIn K mainGlobals "P" = some (some (.int 2305843009213693951 t5)))
    (h5 : PySem.W.nsIn K mainGlobals "BookError" = some (some (.ref aE))) (h6 : PySem.W.nsIn K mainGlobals "NoPerson" = some (some (.ref aP))) (h8 : PySem.W.nsIn K mainGlobals "NoPair" = some (some (.ref aR)))
    (x1 : PySem.W.excIn K aE [.type "ValueError", .type "Exception", .type "BaseException", .type "object"] "ValueError.__new__" = true) (x2 : PySem.W.excIn K aP [.type "ValueError", .type "Exception", .type "BaseException", .type "object"] "ValueError.__new__" = true) (x3 : PySem.W.excIn K aR [.type "ValueError", .type "Exception", .type "BaseException", .type "object"] "ValueError.__new__" = true) : Txt P w K mg aE aP aR "ValueError.__new__" :=
  ⟨⟨_, PySem.W.mg_of KX G h1, _, rfl⟩, ⟨_, PySem.W.mg_of KX G h2, _, rfl⟩, ⟨_, PySem.W.mg_of KX G h3, _, rfl⟩, ⟨_, PySem.W.mg_of KX G h4, _, rfl⟩, ⟨_, PySem.W.mg_of KX G hP, _, rfl⟩, PySem.W.mg_of KX G h5, PySem.W.mg_of KX G h6, PySem.W.mg_of KX G h8, ⟨x1⟩, ⟨x2⟩, ⟨x3⟩⟩
theorem kitof {K : PySem.W.Frag} {as : List Addr} {aE C : Addr} {i : Nat} (m1 : PySem.W.mroIn K C (.ref aE) = some true)
    (f1 : PySem.W.findIn K (.ref C) "__getattribute__" = some (some (.builtin "BaseException.__getattribute__"))) (f2 : PySem.W.findIn K (.ref C) "__getattr__" = some none) (f3 : PySem.W.findIn K (.ref C) "__class__" = some (some (.builtin "object.__class__")))
    (f4 : PySem.W.specialIn K (.builtin "object.__class__") "__get__" = some (some (.builtin "getset_descriptor.__get__"))) (f5 : PySem.W.takesIn K (.builtin "object.__class__") = some true) (f6 : PySem.W.mroIn K C (.type "object") = some true) (f7 : PySem.W.mroIn K C (.type "BaseException") = some true)
    (ve : PySem.W.kitOne K (.ref C) (.type "ValueError") = some true) (one : ∀ j < 12, PySem.W.kitOne K (.ref C) (.ref (as.getD j 0)) = some (decide (j = i))) : KitOf K as aE C i :=
  ⟨⟨f1, f2, f3, f4, f5, f6, f7, let ⟨a, b, c, d, e, _⟩ := mro_cls m1; ⟨a, b, c, d, e⟩⟩, mro_cls m1, one, ve⟩
theorem twelve {p : Nat → Prop} (h0 : p 0) (h1 : p 1) (h2 : p 2) (h3 : p 3) (h4 : p 4) (h5 : p 5) (h6 : p 6) (h7 : p 7) (h8 : p 8) (h9 : p 9) (h10 : p 10) (h11 : p 11) : ∀ j < 12, p j
  | 0, _ => h0 | 1, _ => h1 | 2, _ => h2 | 3, _ => h3 | 4, _ => h4 | 5, _ => h5 | 6, _ => h6 | 7, _ => h7 | 8, _ => h8 | 9, _ => h9 | 10, _ => h10 | 11, _ => h11
  | n + 12, h => absurd h (by omega)
theorem cls_mk {K : PySem.W.Frag} {mg : Str → Option Value} {h : Heap} {a0 a1 a2 a3 a4 a5 a6 a7 a8 a9 a10 a11 : Addr} (KX : K.In h) (G : h.Ns mainGlobals mg) (c0 : PySem.W.nsIn K mainGlobals "NoPerson" = some (some (.ref a0))) (c1 : PySem.W.nsIn K mainGlobals "NoPair" = some (some (.ref a1))) (c2 : PySem.W.nsIn K mainGlobals "NoHouse" = some (some (.ref a2))) (c3 : PySem.W.nsIn K mainGlobals "NotHere" = some (some (.ref a3))) (c4 : PySem.W.nsIn K mainGlobals "Wrong" = some (some (.ref a4))) (c5 : PySem.W.nsIn K mainGlobals "Gone" = some (some (.ref a5))) (c6 : PySem.W.nsIn K mainGlobals "Fallen" = some (some (.ref a6))) (c7 : PySem.W.nsIn K mainGlobals "Standing" = some (some (.ref a7))) (c8 : PySem.W.nsIn K mainGlobals "NoLetter" = some (some (.ref a8))) (c9 : PySem.W.nsIn K mainGlobals "NoText" = some (some (.ref a9))) (c10 : PySem.W.nsIn K mainGlobals "NoDeed" = some (some (.ref a10))) (c11 : PySem.W.nsIn K mainGlobals "NoBook" = some (some (.ref a11))) : Cls K mg [a0, a1, a2, a3, a4, a5, a6, a7, a8, a9, a10, a11] :=
  ⟨PySem.W.mg_of KX G c0, PySem.W.mg_of KX G c1, PySem.W.mg_of KX G c2, PySem.W.mg_of KX G c3, PySem.W.mg_of KX G c4, PySem.W.mg_of KX G c5, PySem.W.mg_of KX G c6, PySem.W.mg_of KX G c7, PySem.W.mg_of KX G c8, PySem.W.mg_of KX G c9, PySem.W.mg_of KX G c10, PySem.W.mg_of KX G c11⟩
end K40
open PySem PySem.W PyProof.Rows
set_option maxRecDepth 100000 in
set_option maxHeartbeats 0 in
theorem PySem.Challenge.cw_bothbooks_k40_keys_holds : PySem.Challenge.rw_bothbooks_k40_keys.Holds := by
  w_on; o_law; k_head; (case hw => w_witness2)
  k_fill
  refine K40.walk (l := PySem.Challenge.rw_bothbooks_k40_keys) rfl rfl (fun w h Y => PySem.W.kIn_of Y) ?F
  case F =>
    intro w mg fa h KX G hmg
    have d1 := by refine' BB.mk_def (x := "is_made_of") (st := K40.s_is_made_of) KX G ?a1 ?l1 ?c1 ?k1; (case a1 => k_is); (case l1 => k_is); (case c1 => k_is); (case k1 => k_is)
    have d2 := by refine' BB.mk_def (x := "is_house") (st := K40.s_is_house) KX G ?a1 ?l1 ?c1 ?k1; (case a1 => k_is); (case l1 => k_is); (case c1 => k_is); (case k1 => k_is)
    have d3 := by refine' BB.mk_def (x := "is_person") (st := K40.s_is_person) KX G ?a1 ?l1 ?c1 ?k1; (case a1 => k_is); (case l1 => k_is); (case c1 => k_is); (case k1 => k_is)
    have d4 := by refine' BB.mk_def (x := "check_person") (st := K40.s_check_person) KX G ?a1 ?l1 ?c1 ?k1; (case a1 => k_is); (case l1 => k_is); (case c1 => k_is); (case k1 => k_is)
    have d5 := by refine' BB.mk_def (x := "check_pair") (st := K40.s_check_pair) KX G ?a1 ?l1 ?c1 ?k1; (case a1 => k_is); (case l1 => k_is); (case c1 => k_is); (case k1 => k_is)
    have d6 := by refine' BB.mk_def (x := "key") (st := K40.s_key) KX G ?a1 ?l1 ?c1 ?k1; (case a1 => k_is); (case l1 => k_is); (case c1 => k_is); (case k1 => k_is)
    have d7 := by refine' BB.mk_def (x := "_law_mixed") (st := K40.s_law_mixed) KX G ?a1 ?l1 ?c1 ?k1; (case a1 => k_is); (case l1 => k_is); (case c1 => k_is); (case k1 => k_is)
    have d8 := by refine' BB.mk_def (x := "_law_source") (st := K40.s_law_source) KX G ?a1 ?l1 ?c1 ?k1; (case a1 => k_is); (case l1 => k_is); (case c1 => k_is); (case k1 => k_is)
    have d9 := by refine' BB.mk_def (x := "_law_next") (st := K40.s_law_next) KX G ?a1 ?l1 ?c1 ?k1; (case a1 => k_is); (case l1 => k_is); (case c1 => k_is); (case k1 => k_is)
    have d10 := by refine' BB.mk_def (x := "_law_name") (st := K40.s_law_name) KX G ?a1 ?l1 ?c1 ?k1; (case a1 => k_is); (case l1 => k_is); (case c1 => k_is); (case k1 => k_is)
    have d11 := by refine' BB.mk_def (x := "_law_homes") (st := K40.s_law_homes) KX G ?a1 ?l1 ?c1 ?k1; (case a1 => k_is); (case l1 => k_is); (case c1 => k_is); (case k1 => k_is)
    have d12 := by refine' BB.mk_def (x := "_law_people") (st := K40.s_law_people) KX G ?a1 ?l1 ?c1 ?k1; (case a1 => k_is); (case l1 => k_is); (case c1 => k_is); (case k1 => k_is)
    have d13 := by refine' BB.mk_def (x := "_law_class") (st := K40.s_law_class) KX G ?a1 ?l1 ?c1 ?k1; (case a1 => k_is); (case l1 => k_is); (case c1 => k_is); (case k1 => k_is)
    have d14 := by refine' BB.mk_def (x := "_law_refusal") (st := K40.s_law_refusal) KX G ?a1 ?l1 ?c1 ?k1; (case a1 => k_is); (case l1 => k_is); (case c1 => k_is); (case k1 => k_is)
    have d15 := by refine' BB.mk_def (x := "_law_is") (st := K40.s_law_is) KX G ?a1 ?l1 ?c1 ?k1; (case a1 => k_is); (case l1 => k_is); (case c1 => k_is); (case k1 => k_is)
    have d16 := by refine' BB.mk_def (x := "_law_odd") (st := K40.s_law_odd) KX G ?a1 ?l1 ?c1 ?k1; (case a1 => k_is); (case l1 => k_is); (case c1 => k_is); (case k1 => k_is)
    have z1 : mg "abs" = none := by refine' PySem.W.mg_none_of KX G ?z; (case z => k_is)
    have z2 : mg "int" = none := by refine' PySem.W.mg_none_of KX G ?z; (case z => k_is)
    have z3 : mg "range" = none := by refine' PySem.W.mg_none_of KX G ?z; (case z => k_is)
    have z4 : mg "all" = none := by refine' PySem.W.mg_none_of KX G ?z; (case z => k_is)
    have z5 : mg "len" = none := by refine' PySem.W.mg_none_of KX G ?z; (case z => k_is)
    have z6 : mg "isinstance" = none := by refine' PySem.W.mg_none_of KX G ?z; (case z => k_is)
    have z7 : mg "str" = none := by refine' PySem.W.mg_none_of KX G ?z; (case z => k_is)
    have z8 : mg "bool" = none := by refine' PySem.W.mg_none_of KX G ?z; (case z => k_is)
    have z9 : mg "ValueError" = none := by refine' PySem.W.mg_none_of KX G ?z; (case z => k_is)
    have z10 : mg "ord" = none := by refine' PySem.W.mg_none_of KX G ?z; (case z => k_is)
    have z11 : mg "max" = none := by refine' PySem.W.mg_none_of KX G ?z; (case z => k_is)
    have TC := by refine' K40.cls_mk KX G ?c0 ?c1 ?c2 ?c3 ?c4 ?c5 ?c6 ?c7 ?c8 ?c9 ?c10 ?c11; (case c0 => k_is); (case c1 => k_is); (case c2 => k_is); (case c3 => k_is); (case c4 => k_is); (case c5 => k_is); (case c6 => k_is); (case c7 => k_is); (case c8 => k_is); (case c9 => k_is); (case c10 => k_is); (case c11 => k_is)
    have T := by refine' K40.txt (P := PySem.Challenge.rw_bothbooks_k40_keys.prog) (w := w) KX G ?h1 ?h2 ?h3 ?h4 ?hP ?h5 ?h6 ?h8 ?x1 ?x2 ?x3; (case h1 => k_is); (case h2 => k_is); (case h3 => k_is); (case h4 => k_is); (case hP => k_is); (case h5 => k_is); (case h6 => k_is); (case h8 => k_is); (case x1 => k_exc); (case x2 => k_exc); (case x3 => k_exc)
    refine' BB.mk_law (st := K40.s_law) KX G hmg ?a1 ?l1 ?c1 ?k1 ?b1 ?ok
    (case a1 => k_is); (case l1 => k_is); (case c1 => k_is); (case k1 => k_is)
    (case b1 => intros; rfl)
    case ok =>
      intro fd base F
      refine' K40.all_law ⟨z1, z2, z3, z4, z5, z6, z7, z8, z9, z10, z11⟩ T TC ?kp ?kr d1 d2 d3 d4 d5 d6 d7 d8 d9 d10 d11 d12 d13 d14 d15 d16 F
      case kp => refine' K40.kitof ?m1 ?f1 ?f2 ?f3 ?f4 ?f5 ?f6 ?f7 ?ve (K40.twelve ?j0 ?j1 ?j2 ?j3 ?j4 ?j5 ?j6 ?j7 ?j8 ?j9 ?j10 ?j11); (case m1 => k_is); (case f1 => k_is); (case f2 => k_is); (case f3 => k_is); (case f4 => k_is); (case f5 => k_is); (case f6 => k_is); (case f7 => k_is); (case ve => kit_is); (case j0 => kit_is); (case j1 => kit_is); (case j2 => kit_is); (case j3 => kit_is); (case j4 => kit_is); (case j5 => kit_is); (case j6 => kit_is); (case j7 => kit_is); (case j8 => kit_is); (case j9 => kit_is); (case j10 => kit_is); (case j11 => kit_is)
      case kr => refine' K40.kitof ?m1 ?f1 ?f2 ?f3 ?f4 ?f5 ?f6 ?f7 ?ve (K40.twelve ?j0 ?j1 ?j2 ?j3 ?j4 ?j5 ?j6 ?j7 ?j8 ?j9 ?j10 ?j11); (case m1 => k_is); (case f1 => k_is); (case f2 => k_is); (case f3 => k_is); (case f4 => k_is); (case f5 => k_is); (case f6 => k_is); (case f7 => k_is); (case ve => kit_is); (case j0 => kit_is); (case j1 => kit_is); (case j2 => kit_is); (case j3 => kit_is); (case j4 => kit_is); (case j5 => kit_is); (case j6 => kit_is); (case j7 => kit_is); (case j8 => kit_is); (case j9 => kit_is); (case j10 => kit_is); (case j11 => kit_is)

