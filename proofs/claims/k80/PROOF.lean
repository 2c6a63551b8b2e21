import PyProof.Rows.All
import Wide.All
import OpenK.AllK
import Wide.FinOn
import Lean
import PyProof.EqAt
import PyProof.EqKinds
import PyProof.TupleCall
import PyProof.NeKinds
import PyProof.EnumStmt
import PyProof.EnumMake
import PyProof.LayNew
import PyProof.StrBlockG
import KE.KIntText
import KE.IntTextLaws
import KE.KWords
import PyProof.StrLawsChain
import PyProof.CompUse
import PySem.Challenge.RW_bothbooks_k80_letters_and_deeds_as_texts
set_option Elab.async false
set_option linter.all false
set_option maxRecDepth 100000
/-! THE HAND LAYER, for ints, bools, texts, own classes, LISTS and tuples (index, slices, in, append, pop ..), calls, loops. Paste it whole ahead of your own text; what your proof does not reach may be deleted. -/
namespace L2
open PySem PySem.Spec PyProof.Rows

/-- a key: an int or a str -/
abbrev Key := Sum Int Str
def keyIs : Key → Value → Bool
  | .inl k, v => Value.isInt k v
  | .inr x, v => Value.isStrOf x v
def keyH (w : World) : Key → Int
  | .inl k => hashInt k
  | .inr x => hashStr w x
theorem keyIs_shape : ∀ {k : Key} {v : Value}, keyIs k v = true → (∃ i t, k = Sum.inl i ∧ v = Value.int i t) ∨ (∃ x t, k = Sum.inr x ∧ v = Value.str x t)
  | .inl i, v, h => by
    obtain ⟨t, e⟩ := Value.isInt_shape (k := i) (v := v) h
    exact .inl ⟨i, t, rfl, e⟩
  | .inr x, v, h => by
    obtain ⟨t, e⟩ := Value.isStrOf_shape (x := x) (v := v) h
    exact .inr ⟨x, t, rfl, e⟩
theorem keyIs_int (i : Int) (t : Tok) : keyIs (.inl i) (.int i t) = true := by simp [keyIs, Value.isInt]
theorem keyIs_str (x : Str) (t : Tok) : keyIs (.inr x) (.str x t) = true := by simp [keyIs, Value.isStrOf]
theorem key_ll (a b : Int) : decide ((Sum.inl a : Key) = Sum.inl b) = (a == b) := by
  by_cases e : a = b
  · subst e; simp
  · have h : ¬ (Sum.inl a : Key) = Sum.inl b := fun q => e (Sum.inl.inj q)
    rw [decide_eq_false h]
    exact (beq_eq_false_iff_ne.mpr e).symm
theorem key_rr (a b : Str) : decide ((Sum.inr a : Key) = Sum.inr b) = decide (a = b) := by
  by_cases e : a = b
  · subst e; simp
  · have h : ¬ (Sum.inr a : Key) = Sum.inr b := fun q => e (Sum.inr.inj q)
    rw [decide_eq_false h, decide_eq_false e]
theorem key_lr (a : Int) (b : Str) : decide ((Sum.inl a : Key) = Sum.inr b) = false := decide_eq_false (fun q => nomatch q)
theorem key_rl (a : Str) (b : Int) : decide ((Sum.inr a : Key) = Sum.inl b) = false := decide_eq_false (fun q => nomatch q)

def mixKind (prog : Program) (w : World) : PySem.KeyKind prog w Key where
  is := keyIs
  hash := keyH w
  inj := fun v a b ha hb => by
    rcases keyIs_shape ha with ⟨i, t, rfl, rfl⟩ | ⟨x, t, rfl, rfl⟩
    · rcases keyIs_shape hb with ⟨j, u, rfl, e⟩ | ⟨y, u, rfl, e⟩
      · injection e with e1 _; rw [e1]
      · exact nomatch e
    · rcases keyIs_shape hb with ⟨j, u, rfl, e⟩ | ⟨y, u, rfl, e⟩
      · exact nomatch e
      · injection e with e1 _; rw [e1]
  byValue := fun k v h => by
    rcases keyIs_shape h with ⟨i, t, rfl, rfl⟩ | ⟨x, t, rfl, rfl⟩ <;> rfl
  pyHash := fun hv h => by
    rcases keyIs_shape hv with ⟨i, t, rfl, rfl⟩ | ⟨x, t, rfl, rfl⟩
    · exact wpAny_pyHash_int h
    · exact wpAny_pyHash_str h
  eqBool := fun hu hv h => by
    rcases keyIs_shape hu with ⟨i, t, rfl, rfl⟩ | ⟨x, t, rfl, rfl⟩
    · rcases keyIs_shape hv with ⟨j, u, rfl, rfl⟩ | ⟨y, u, rfl, rfl⟩
      · rw [key_ll] at h; exact wpAny_eqBool_int h
      · rw [key_lr] at h; exact SeqAt.EqAt.int_str i t y u _ _ _ _ h
    · rcases keyIs_shape hv with ⟨j, u, rfl, rfl⟩ | ⟨y, u, rfl, rfl⟩
      · rw [key_rl] at h; exact SeqAt.EqAt.str_int x t j u _ _ _ _ h
      · rw [key_rr] at h; exact wpAny_eqBool_str h
  «strs» := fun k x t v h => by
    rcases keyIs_shape h with ⟨i, u, rfl, e⟩ | ⟨y, u, rfl, e⟩
    · exact nomatch e
    · injection e with e1 _
      subst e1
      cases v <;> rfl

theorem mixKind_int (prog : Program) (w : World) (i : Int) (t : Tok) : (mixKind prog w).is (.inl i) (.int i t) = true := keyIs_int i t
theorem mixKind_str (prog : Program) (w : World) (x : Str) (t : Tok) : (mixKind prog w).is (.inr x) (.str x t) = true := keyIs_str x t
end L2

namespace L2
open PySem PySem.Spec PyProof.Rows

/-- a value, without the heap -/
inductive V where
  | non | bl (b : Bool) | int (i : Int) | str (x : Str) | byt (b : Array UInt8) | flt (b : UInt64) | ref (a : Addr) | ty (n : String)
  deriving DecidableEq

def RelV : V → Value → Prop
  | .non, u => u = Value.none
  | .bl b, u => u = Value.bool b
  | .int i, u => ∃ t, u = Value.int i t
  | .str x, u => ∃ t, u = Value.str x t
  | .byt b, u => ∃ t, u = Value.bytes b t
  | .flt b, u => ∃ t, u = Value.float b t
  | .ref a, u => u = Value.ref a
  | .ty n, u => u = Value.type n

abbrev Vals : List V → List Value → Prop := Paired RelV
theorem Vals.length {xs : List V} {us : List Value} (r : Vals xs us) : xs.length = us.length := Paired.length r
theorem Vals.get : ∀ {xs : List V} {us : List Value} {i : Nat} {x : V}, Vals xs us → xs[i]? = some x → ∃ u, us[i]? = some u ∧ RelV x u
  | _, _, _, _, .nil, e => by simp at e
  | _, _, 0, _, .cons r _, e => by simp at e; subst e; exact ⟨_, rfl, r⟩
  | _, _, i + 1, x, .cons _ t, e => by
    obtain ⟨u, h1, h2⟩ := Vals.get (i := i) (x := x) t (by simpa using e)
    exact ⟨u, by simpa using h1, h2⟩
theorem Vals.append : ∀ {xs ys : List V} {us ws : List Value}, Vals xs us → Vals ys ws → Vals (xs ++ ys) (us ++ ws)
  | _, _, _, _, .nil, s => s
  | _, _, _, _, .cons r t, s => .cons r (Vals.append t s)
theorem Vals.take : ∀ {xs : List V} {us : List Value} (n : Nat), Vals xs us → Vals (xs.take n) (us.take n)
  | _, _, 0, _ => .nil
  | _, _, _ + 1, .nil => .nil
  | _, _, n + 1, .cons r t => .cons r (Vals.take n t)
theorem Vals.drop : ∀ {xs : List V} {us : List Value} (n : Nat), Vals xs us → Vals (xs.drop n) (us.drop n)
  | _, _, 0, r => r
  | _, _, _ + 1, .nil => .nil
  | _, _, n + 1, .cons _ t => Vals.drop n t

def RelO : Option V → Option Value → Prop
  | some v, some u => RelV v u
  | none, none => True
  | _, _ => False
def KV {κ : Type} : List (κ × V) → List (κ × Value) → Prop := Paired fun (p : κ × V) (q : κ × Value) => p.1 = q.1 ∧ RelV p.2 q.2

/-- a key of a dict (00_mix): an int or a text -/
def kV : Key → V
  | .inl i => .int i
  | .inr x => .str x

/-- what stands at a tracked address -/
inductive HO where
  /-- a list -/
  | lst (xs : List V)
  /-- a tuple (never changes) -/
  | tup (xs : List V)
  /-- a dict whose keys are ints and texts; one whose keys are tuples of ints and texts (the empty one is both) -/
  | dK (kvs : List (Key × V)) | dT (kvs : List (List Key × V))
  /-- a set of ints: its members, its size -/
  | set (S : Int → Bool) (n : Nat)
  /-- an instance of the class at C, its dict at dx, its attributes -/
  | ins (C dx : Addr) (fs : List (Str × V))
  /-- the dict of the instance at x -/
  | own (x : Addr)
  /-- the dict of an exception -/
  | xd (fs : List (Str × V))
  /-- a bound method, f of x -/
  | met (f x : Addr)
  /-- a range object lo, lo + 1, .. below hi -/
  | rng (lo hi : Int)
  /-- a thing that is known to the object (the script; a dict while a loop walks it): read, never written while it is so -/
  | frz (o : Obj) (u : HO)
  /-- a code object's table -/
  | tbl (ps : Array Value)
  /-- any other thing, by what is true of its one object (a def of one's own: SetO a S n := HO.ext fun h => ..) -/
  | ext (φ : Heap → Prop)

abbrev Hp := Addr → Option HO
def upd (H : Hp) (a : Addr) (o : HO) : Hp := fun b => if b = a then some o else H b
theorem upd_same {H : Hp} {a : Addr} {o : HO} : upd H a o a = some o := by unfold upd; rw [if_pos rfl]
theorem upd_ne {H : Hp} {a b : Addr} {o : HO} (h : b ≠ a) : upd H a o b = H b := by unfold upd; rw [if_neg h]
theorem upd_upd {H : Hp} {a : Addr} {o u : HO} : upd (upd H a o) a u = upd H a u := by
  funext b; unfold upd; split <;> rfl
theorem ne_of_none {H : Hp} {a b : Addr} {o : HO} (h : H a = some o) (h' : H b = none) : a ≠ b := by
  intro e; subst e; rw [h] at h'; cases h'

section
variable (P : Program) (w : World)
def ObjOk (H : Hp) (h : Heap) (a : Addr) : HO → Prop
  | .lst xs => xs.length ≤ sizeLine ∧ ∃ (its : List Value) (n : Nat), Vals xs its ∧ h.get? a = some { cls := .type "list", data := .seq its.toArray n }
  | .tup xs => xs.length ≤ sizeLine ∧ ∃ its : List Value, Vals xs its ∧ IsTup h a its.toArray
  | .dK kvs => kvs.length ≤ sizeLine ∧ (a == sysModules) = false ∧ ∃ vs, KV kvs vs ∧ h.DictOf (mixKind P w) a vs
  | .dT kvs => kvs.length ≤ sizeLine ∧ (a == sysModules) = false ∧ ∃ xs : List (List Key × Addr × Value),
      Paired (fun (p : List Key × V) (q : List Key × Addr × Value) => p.1 = q.1 ∧ H q.2.1 = some (.tup (p.1.map kV)) ∧ RelV p.2 q.2.2) kvs xs ∧
      ∃ o es ep, h.get? a = some o ∧ o.ExactDict ∧ o.data = .dict es ep ∧ es.toList = xs.map (entryOfKey (tupleKind (mixKind P w))) ∧ (xs.map (·.1)).Nodup
  | .set S n => h.SetOf (intKind P w) a S n
  | .ins C dx fs => H dx = some (.own a) ∧ fs.length ≤ 1000 ∧ dx ≠ a ∧ h.get? a = some (PySem.W.instObj C dx) ∧
      ∃ mA, h.Ns1 dx mA ∧ (∀ f, RelO (fs.lookup f) (mA f)) ∧ PySem.Within mA (fs.map (·.1))
  | .own _ => ∃ o, h.get? a = some o
  | .xd fs => ∃ mA, h.Ns1 a mA ∧ ∀ f, RelO (fs.lookup f) (mA f)
  | .rng lo hi => ∃ t u v, h.get? a = some { cls := .type "range", data := .fields #[.int lo t, .int hi u, .int 1 v] }
  | .frz o u => h.get? a = some o ∧ ObjOk H h a u
  | .tbl ps => h.get? a = some { cls := .none, data := .fields ps }
  | .met f x => h.get? a = some (PySem.W.methodObj (.ref f) (.ref x))
  | .ext φ => φ h ∧ (∃ o, h.get? a = some o) ∧ ∀ h1 h2 : Heap, φ h1 → (∀ o, h1.get? a = some o → h2.get? a = some o) → φ h2
/-- the abstract heap is held -/
def HOk (H : Hp) (h : Heap) : Prop := ∀ a o, H a = some o → ObjOk P w H h a o
end

section
variable {P : Program} {w : World} {H H' : Hp} {h h' : Heap} {a : Addr} {o : HO}
theorem ObjOk.lt (x : ObjOk P w H h a o) : a < h.objs.size := by
  cases o with
  | lst xs => obtain ⟨_, _, _, _, e⟩ := x; exact Heap.lt_size e
  | tup xs => obtain ⟨_, _, _, p⟩ := x; exact p.lt
  | dK kvs => obtain ⟨_, _, _, _, o, _, _, e, _⟩ := x; exact Heap.lt_size e
  | dT kvs => obtain ⟨_, _, _, _, o, _, _, e, _⟩ := x; exact Heap.lt_size e
  | set S n => obtain ⟨o, _, _, _, e, _⟩ := x; exact Heap.lt_size e
  | ins C dx fs => obtain ⟨_, _, _, e, _⟩ := x; exact Heap.lt_size e
  | own y => obtain ⟨_, e⟩ := x; exact Heap.lt_size e
  | xd fs => obtain ⟨_, ⟨_, _, _, e, _⟩, _⟩ := x; exact Heap.lt_size e
  | rng lo hi => obtain ⟨_, _, _, e⟩ := x; exact Heap.lt_size e
  | frz ob u => obtain ⟨e, _⟩ := x; exact Heap.lt_size e
  | tbl ps => exact Heap.lt_size (show h.get? a = some _ from x)
  | met f y => exact Heap.lt_size (show h.get? a = some _ from x)
  | ext φ => obtain ⟨_, ⟨_, e⟩, _⟩ := x; exact Heap.lt_size e
theorem Paired.mapP {α β : Type} {F G : α → β → Prop} : ∀ {l₁ : List α} {l₂ : List β}, Paired F l₁ l₂ → (∀ a b, F a b → G a b) → Paired G l₁ l₂
  | _, _, .nil, _ => .nil
  | _, _, .cons r t, f => .cons (f _ _ r) (Paired.mapP t f)
/-- what an object's description leans on: its own object, its own dict, the tuples -/
theorem ObjOk.stay (x : ObjOk P w H h a o) (k : ∀ b u, (b = a ∨ H b = some (.own a)) → h.get? b = some u → h'.get? b = some u)
    (ho : ∀ b, H b = some (.own a) → H' b = some (.own a)) (ht : ∀ b xs, H b = some (.tup xs) → H' b = some (.tup xs)) : ObjOk P w H' h' a o := by
  induction o with
  | lst xs => obtain ⟨z, its, n, r, e⟩ := x; exact ⟨z, its, n, r, k _ _ (.inl rfl) e⟩
  | tup xs => obtain ⟨z, its, r, ob, e, c⟩ := x; exact ⟨z, its, r, ob, k _ _ (.inl rfl) e, c⟩
  | dK kvs => obtain ⟨z, y, vs, r, ob, es, ep, e, c⟩ := x; exact ⟨z, y, vs, r, ob, es, ep, k _ _ (.inl rfl) e, c⟩
  | dT kvs =>
    obtain ⟨z, y, xs, r, ob, es, ep, e, c⟩ := x
    exact ⟨z, y, xs, Paired.mapP r fun p q z => ⟨z.1, ht _ _ z.2.1, z.2.2⟩, ob, es, ep, k _ _ (.inl rfl) e, c⟩
  | set S n => obtain ⟨ob, es, ep, t, e, c⟩ := x; exact ⟨ob, es, ep, t, k _ _ (.inl rfl) e, c⟩
  | ins C dx fs =>
    obtain ⟨d, z, ne, e, mA, ⟨od, es, ep, e2, c⟩, r⟩ := x
    exact ⟨ho _ d, z, ne, k _ _ (.inl rfl) e, mA, ⟨od, es, ep, k _ _ (.inr d) e2, c⟩, r⟩
  | own y => obtain ⟨ob, e⟩ := x; exact ⟨ob, k _ _ (.inl rfl) e⟩
  | xd fs => obtain ⟨mA, ⟨od, es, ep, e, c⟩, r⟩ := x; exact ⟨mA, ⟨od, es, ep, k _ _ (.inl rfl) e, c⟩, r⟩
  | rng lo hi => obtain ⟨t, u, v, e⟩ := x; exact ⟨t, u, v, k _ _ (.inl rfl) e⟩
  | frz ob u ih => obtain ⟨e, q⟩ := x; exact ⟨k _ _ (.inl rfl) e, ih q⟩
  | tbl ps =>
    have e : h.get? a = some { cls := .none, data := .fields ps } := x
    show h'.get? a = some { cls := .none, data := .fields ps }
    exact k a _ (.inl rfl) e
  | met f y =>
    have e : h.get? a = some (PySem.W.methodObj (.ref f) (.ref y)) := x
    show h'.get? a = some (PySem.W.methodObj (.ref f) (.ref y))
    exact k a _ (.inl rfl) e
  | ext φ => obtain ⟨p, ⟨o, e⟩, st⟩ := x; exact ⟨st _ _ p fun o q => k _ _ (.inl rfl) q, ⟨o, k _ _ (.inl rfl) e⟩, st⟩
theorem HOk.lt (x : HOk P w H h) (e : H a = some o) : a < h.objs.size := (x a o e).lt
theorem HOk.fresh (x : HOk P w H h) (e : h.objs.size ≤ a) : H a = none := by
  cases q : H a with
  | none => rfl
  | some u => exact absurd (Nat.lt_of_lt_of_le (x.lt q) e) (Nat.lt_irrefl _)
/-- every object of the heap is kept -/
theorem HOk.kept (x : HOk P w H h) (k : ∀ b u, h.get? b = some u → h'.get? b = some u) : HOk P w H h' := fun a o e =>
  (x a o e).stay (fun b u _ q => k b u q) (fun _ q => q) fun _ _ q => q
/-- a new object is laid and tracked -/
theorem HOk.laid (x : HOk P w H h) (k : ∀ b u, h.get? b = some u → h'.get? b = some u) (hp : h.objs.size ≤ a) (new : ObjOk P w (upd H a o) h' a o) : HOk P w (upd H a o) h' := fun b u e => by
  have hn := x.fresh hp
  by_cases hb : b = a
  · subst hb; rw [upd_same] at e; cases e; exact new
  · rw [upd_ne hb] at e
    exact (x b u e).stay (fun c v _ q => k c v q) (fun c q => by rw [upd_ne (ne_of_none q hn)]; exact q) fun c xs q => by rw [upd_ne (ne_of_none q hn)]; exact q
end

/-- what may be read as u: it is u, or a known u -/
def Rd (H : Hp) (a : Addr) (u : HO) : Prop := H a = some u ∨ ∃ o, H a = some (.frz o u)
theorem Rd.ok {P : Program} {w : World} {H : Hp} {h : Heap} {a : Addr} {u : HO} (r : Rd H a u) (x : HOk P w H h) : ObjOk P w H h a u := by
  rcases r with r | ⟨o, r⟩
  · exact x a u r
  · obtain ⟨_, q⟩ := x a _ r
    exact q
/-- what may be written -/
def Mut : Option HO → Prop
  | some (.lst _) => True
  | some (.dK _) => True
  | some (.dT _) => True
  | some (.set _ _) => True
  | some (.ins _ _ _) => True
  | some (.ext _) => True
  | _ => False
section
variable {P : Program} {w : World} {H : Hp} {h h' : Heap} {x e : Addr} {o' : HO}
/-- the object at e is changed: x itself, or the dict of the instance x -/
theorem HOk.write (ok : HOk P w H h) (mu : Mut (H x)) (he : e = x ∨ H e = some (.own x)) (k : ∀ b u, b ≠ e → h.get? b = some u → h'.get? b = some u) (heo : ∃ u, h'.get? e = some u)
    (new : ObjOk P w (upd H x o') h' x o') : HOk P w (upd H x o') h' := fun b u q => by
  have nown : ∀ c y, H c = some (.own y) → c ≠ x := fun c y r z => by subst z; rw [r] at mu; exact mu
  have ntup : ∀ c xs, H c = some (.tup xs) → c ≠ x := fun c xs r z => by subst z; rw [r] at mu; exact mu
  by_cases hb : b = x
  · subst hb; rw [upd_same] at q; cases q; exact new
  · rw [upd_ne hb] at q
    by_cases hbe : b = e
    · have q' : H b = some (.own x) := by
        rcases he with z | z
        · exact absurd (hbe.trans z) hb
        · rw [hbe]; exact z
      rw [q] at q'; cases q'
      obtain ⟨v, hv⟩ := heo
      exact ⟨v, by rw [hbe]; exact hv⟩
    · refine (ok b u q).stay (fun c v hc r => k c v ?_ r) (fun c r => by rw [upd_ne (nown c b r)]; exact r) fun c xs r => by rw [upd_ne (ntup c xs r)]; exact r
      rcases hc with rfl | hc
      · exact hbe
      · rintro rfl
        rcases he with z | z
        · exact nown c b hc z
        · rw [hc] at z; cases z; exact hb rfl
end

/-! ### kept unless tracked; of the frames at fs (the callers') the slots may change (an exception that passes writes there); of the records at ex (iterators) nothing is said -/
structure Un (fs ex : List Addr) (H H' : Hp) (h h' : Heap) : Prop where
  keep : ∀ b o, h.get? b = some o → H b = none → b ∉ fs → b ∉ ex → h'.get? b = some o
  slot : ∀ b o, h.get? b = some o → H b = none → b ∈ fs → b ∉ ex → ∃ sl, h'.get? b = some { o with slots := sl }
  free : ∀ b o, h.get? b = some o → H b = none → b ∉ ex → H' b = none
  there : ∀ b o, h.get? b = some o → b ∉ ex → ∃ o', h'.get? b = some o'
  tups : ∀ b xs, H b = some (.tup xs) → H' b = some (.tup xs)
  frzs : ∀ b o u, H b = some (.frz o u) → H' b = some (.frz o u)
  tbls : ∀ b ps, H b = some (.tbl ps) → ∃ more, H' b = some (.tbl (ps ++ more))
section
variable {fs fs' ex ex' : List Addr} {H H1 H2 : Hp} {h h1 h2 h' : Heap} {a x e : Addr} {o : HO}
theorem Un.any (u : Un fs ex H H1 h h1) {b : Addr} {ob : Obj} (q : h.get? b = some ob) (n : H b = none) (hx : b ∉ ex) : ∃ sl, h1.get? b = some { ob with slots := sl } := by
  by_cases hb : b ∈ fs
  · exact u.slot b ob q n hb hx
  · exact ⟨ob.slots, u.keep b ob q n hb hx⟩
theorem Un.kept (k : ∀ b u, h.get? b = some u → h'.get? b = some u) : Un fs ex H H h h' :=
  ⟨fun b ob q _ _ _ => k b ob q, fun b ob q _ _ _ => ⟨ob.slots, k b ob q⟩, fun _ _ _ n _ => n, fun b ob q _ => ⟨ob, k b ob q⟩, fun _ _ q => q, fun _ _ _ q => q, fun _ ps q => ⟨#[], by rw [q]; simp⟩⟩
theorem Un.refl : Un fs ex H H h h := Un.kept fun _ _ q => q
theorem Un.laid (k : ∀ b u, h.get? b = some u → h'.get? b = some u) (hp : h.objs.size ≤ a) (hn : H a = none) : Un fs ex H (upd H a o) h h' where
  keep := fun b u q _ _ _ => k b u q
  slot := fun b u q _ _ _ => ⟨u.slots, k b u q⟩
  free := fun b u q n _ => by rw [upd_ne (Nat.ne_of_lt (Nat.lt_of_lt_of_le (Heap.lt_size q) hp))]; exact n
  there := fun b u q _ => ⟨u, k b u q⟩
  tups := fun b xs q => by rw [upd_ne (ne_of_none q hn)]; exact q
  frzs := fun b u xs q => by rw [upd_ne (ne_of_none q hn)]; exact q
  tbls := fun b ps q => ⟨#[], by rw [upd_ne (ne_of_none q hn), q]; simp⟩
theorem Un.write (mu : Mut (H x)) (he : e = x ∨ H e = some (.own x)) (k : ∀ b u, b ≠ e → h.get? b = some u → h'.get? b = some u) (heo : ∃ u, h'.get? e = some u) : Un fs ex H (upd H x o) h h' := by
  have hx : ∀ b, H b = none → b ≠ x := fun b n z => by subst z; rw [n] at mu; exact mu
  have hb : ∀ b, H b = none → b ≠ e := fun b n z => by
    subst z
    rcases he with r | r
    · exact hx b n r
    · rw [n] at r; cases r
  have hm : ∀ b u, H b = some u → ¬ Mut (some u) → b ≠ x := fun b u q nm z => by subst z; rw [q] at mu; exact nm mu
  refine ⟨fun b u q n _ _ => k b u (hb b n) q, fun b u q n _ _ => ⟨u.slots, k b u (hb b n) q⟩, fun b u q n _ => by rw [upd_ne (hx b n)]; exact n, fun b u q _ => ?_,
    fun b xs q => by rw [upd_ne (hm b _ q fun z => z)]; exact q, fun b u xs q => by rw [upd_ne (hm b _ q fun z => z)]; exact q, fun b ps q => ⟨#[], by rw [upd_ne (hm b _ q fun z => z), q]; simp⟩⟩
  by_cases hbe : b = e
  · subst hbe; exact heo
  · exact ⟨u, k b u hbe q⟩
end

/-! ### the heap without what is tracked -/
def trk (h : Heap) (H : Hp) : List Addr := (List.range h.objs.size).filter fun a => (H a).isSome
def hidT (h : Heap) (H : Hp) : Heap := PySem.W.hideAll h (trk h H)
theorem hidT_size (h : Heap) (H : Hp) : (hidT h H).objs.size = h.objs.size := PySem.W.hideAll_size _ _
theorem hidT_get {h : Heap} {H : Hp} {b : Addr} {o : Obj} (e : h.get? b = some o) (n : H b = none) : (hidT h H).get? b = some o :=
  PySem.W.hideAll_get _ e fun hm => by
    have q : (H b).isSome = true := (List.mem_filter.mp hm).2
    rw [n] at q; simp at q
theorem of_hidT {h : Heap} {H : Hp} {b : Addr} {o : Obj} (e : (hidT h H).get? b = some o) : h.get? b = some o ∧ H b = none := by
  have e' : h.get? b = some o := PySem.W.of_hideAll (trk h H) e
  refine ⟨e', ?_⟩
  cases q : H b with
  | none => rfl
  | some x =>
    have hm : b ∈ trk h H := List.mem_filter.mpr ⟨List.mem_range.mpr (Heap.lt_size e'), by simp [q]⟩
    have z : (hidT h H).get? b = none := PySem.W.hideAll_none (trk h H) hm
    rw [z] at e; cases e

/-! ### OpenK's ledger, filled with every new object but one -/
end L2

namespace L2
open PySem PySem.Spec PyProof.Rows

/-- the module's facts, over the base: the heap at the law's entry without what is tracked there -/
structure Mod (K : PySem.W.Frag) (mg : Str → Option Value) (base : Heap) : Prop where
  kin : K.In base
  glob : base.Ns mainGlobals mg
  blt : ∃ mb, base.Ns builtinsNs mb ∧ ∀ x : Str, x ≠ "__name__" → mb x = bootBuiltins x
  nolimit : base.NoLimit

/-- the context: a def's body (or a comprehension's block) running. base: fixed through the whole law; s₀, H₀: the entry; outer: the frames whose slots others may change (a def's callers); stack: all frames that run;
   ex: iterators that were made ahead of the entry and are walked here (a comprehension's); fn: the names whose cells were made at the entry (a def: all; a comprehension's block: its own); calm: not within an except suite; pn: pins that every state bears; xe: what is wanted of an exception that leaves the code -/
structure Cx where
  prog : Program
  w : World
  K : PySem.W.Frag
  mg : Str → Option Value
  base : Heap
  A : Around
  N : List Str
  s₀ : Shared
  H₀ : Hp
  env : Env
  outer : List Env
  stack : List Env
  ex : List Addr
  fn : Str → Bool
  calm : Bool
  pn : List (Addr × Obj)
  xe : Value → Shared → Prop
/-- the callers' frames -/
def frs (l : List Env) : List Addr := l.filterMap (·.frame)
abbrev Cx.fs (X : Cx) : List Addr := frs X.outer

def Vis (sc : Scope) (x : Str) : Prop := sc.names.lookup x = some .local ∨ sc.names.lookup x = some .cell ∨ sc.names.lookup x = some .free
def Loc (sc : Scope) (x : Str) : Prop := sc.names.lookup x = some .local ∨ sc.names.lookup x = some .cell
def Look (env : Env) (h : Heap) (m : Str → Option Value) (x : Str) (u : Value) : Prop :=
  (env.kindOf x = some .local ∧ m x = some u) ∨ ((env.kindOf x = some .cell ∨ env.kindOf x = some .free) ∧ ∃ c, env.cells.lookup x = some c ∧ h.IsCell c (some u))

structure Cx.Ok (X : Cx) : Prop where
  mod : Mod X.K X.mg X.base
  kind : X.env.scope.kind = .function
  glob : X.env.globals = mainGlobals
  blt : X.env.builtins = builtinsNs
  above : X.s₀.heap.objs.size ≤ X.env.locals
  inj : ∀ x y c, X.env.cells.lookup x = some c → X.env.cells.lookup y = some c → x = y
  has : ∀ x, (X.env.kindOf x = some .cell ∨ X.env.kindOf x = some .free) → ∃ c, X.env.cells.lookup x = some c
  cab : ∀ x c, X.fn x = true → X.env.cells.lookup x = some c → X.s₀.heap.objs.size ≤ c
  hd : X.calm = true → X.A.handled = none
  frames : X.A.frames = some X.stack
  stk : X.stack = X.outer ∨ (X.stack = X.env :: X.outer ∧ X.env.frame = some X.env.locals)
  exf : ∀ b ∈ X.ex, b ≠ X.env.locals ∧ ∀ x c, X.env.cells.lookup x = some c → c ≠ b
  bs : ∀ b o, X.base.get? b = some o → X.s₀.heap.get? b = some o ∧ X.H₀ b = none
  bsz : X.base.objs.size ≤ X.s₀.heap.objs.size
  noex : ∀ b o, X.base.get? b = some o → b ∉ X.ex
  exfs : ∀ b ∈ X.ex, b ∉ X.fs
  funs : X.s₀.heap.FunFrames X.base X.outer
  frf : ∀ b ∈ X.fs, X.H₀ b = none

structure Inv (X : Cx) (pins : List (Addr × Obj)) (σ : List (Option V)) (H : Hp) (s : Shared) : Prop where
  ok : X.Ok
  os : s.os = X.s₀.os
  bare : AllBare s.gens
  base : Un X.fs X.ex X.H₀ H X.s₀.heap s.heap
  loc : ∃ m, s.heap.Ns X.env.locals m ∧ ∀ (i : Nat) (x : Str) (v : V), X.N[i]? = some x → σ[i]? = some (some v) → Vis X.env.scope x → ∃ u, RelV v u ∧ Look X.env s.heap m x u
  cell : ∀ x c, X.env.cells.lookup x = some c → ∃ v, s.heap.IsCell c v
  free : H X.env.locals = none
  freeC : ∀ x c, X.env.cells.lookup x = some c → H c = none
  pin : ∀ p ∈ X.pn ++ pins, s.heap.get? p.1 = some p.2 ∧ H p.1 = none ∧ p.1 ≠ X.env.locals ∧ p.1 ∉ X.fs ∧ ∀ v, p.2.data ≠ .cell v
  hok : HOk X.prog X.w H s.heap
  len : σ.length = X.N.length

section
variable {X : Cx} {pins : List (Addr × Obj)} {σ : List (Option V)} {H H' : Hp} {s : Shared} {h' : Heap}

theorem Cx.Ok.nofr (ok : X.Ok) {b : Addr} {o : Obj} (e : X.base.get? b = some o) : b ∉ X.fs := fun hb => by
  have := (ok.funs.mem hb).1
  rw [e] at this; cases this
theorem Inv.bs (I : Inv X pins σ H s) : ∀ b o, X.base.get? b = some o → s.heap.get? b = some o ∧ H b = none := fun b o e =>
  ⟨I.base.keep b o (I.ok.bs b o e).1 (I.ok.bs b o e).2 (I.ok.nofr e) (I.ok.noex b o e), I.base.free b o (I.ok.bs b o e).1 (I.ok.bs b o e).2 (I.ok.noex b o e)⟩
theorem Inv.bk (I : Inv X pins σ H s) : ∀ b o, X.base.get? b = some o → s.heap.get? b = some o := fun b o e => (I.bs b o e).1
theorem Inv.mod (I : Inv X pins σ H s) : Mod X.K X.mg X.base := I.ok.mod
theorem Inv.kIn (I : Inv X pins σ H s) : X.K.In s.heap := I.ok.mod.kin.keeps I.bk
theorem Inv.lt (I : Inv X pins σ H s) : X.env.locals < s.heap.objs.size := let ⟨_, hn, _⟩ := I.loc; hn.lt
theorem Inv.sz (I : Inv X pins σ H s) : X.s₀.heap.objs.size ≤ s.heap.objs.size := Nat.le_trans I.ok.above (Nat.le_of_lt I.lt)
theorem Inv.nofs (I : Inv X pins σ H s) {a : Addr} (h : s.heap.objs.size ≤ a) : a ∉ X.fs := fun hb => by
  obtain ⟨_, o, ho, _⟩ := I.ok.funs.mem hb
  exact absurd (Nat.lt_of_lt_of_le (Heap.lt_size ho) (Nat.le_trans I.sz h)) (Nat.lt_irrefl _)
theorem Inv.cne (I : Inv X pins σ H s) : ∀ x c, X.env.cells.lookup x = some c → c ≠ X.env.locals := fun x c e z => by
  obtain ⟨v, o, ho, hd⟩ := I.cell x c e
  obtain ⟨m, ⟨o', es, ep, ho', hd', _⟩, _⟩ := I.loc
  rw [z, ho'] at ho; cases ho; rw [hd'] at hd; cases hd
theorem Inv.funs (I : Inv X pins σ H s) : s.heap.FunFrames X.base X.outer := by
  have all : ∀ (l : List Env), (∀ b ∈ frs l, b ∈ X.fs) → X.s₀.heap.FunFrames X.base l → s.heap.FunFrames X.base l := by
    intro l
    induction l with
    | nil => intro _ _; trivial
    | cons env r ih =>
      intro hs hl
      obtain ⟨hk, ⟨L, o, hf, hn, ho, hd⟩, hr⟩ := hl
      have hL : L ∈ X.fs := hs L (by unfold frs; rw [List.filterMap_cons, hf]; exact List.mem_cons_self)
      obtain ⟨sl, e⟩ := I.base.slot L o ho (I.ok.frf L hL) hL fun z => I.ok.exfs L z hL
      exact ⟨hk, ⟨L, _, hf, hn, e, hd⟩, ih (fun b hb => hs b (by unfold frs; rw [List.filterMap_cons, hf]; exact List.mem_cons_of_mem _ hb)) hr⟩
  exact all X.outer (fun _ hb => hb) I.ok.funs

/-- the frames that run, for a call -/
theorem Inv.stack (I : Inv X pins σ H s) : s.heap.FunFrames X.base X.stack := by
  rcases I.ok.stk with e | ⟨e, hf⟩
  · rw [e]; exact I.funs
  · rw [e]
    obtain ⟨m, hn, _⟩ := I.loc
    refine .cons (by rw [I.ok.kind]; decide) hf hn ?_ I.funs
    exact Heap.get?_none_of_le (Nat.le_trans I.ok.bsz I.ok.above)
theorem Inv.stkSub (I : Inv X pins σ H s) : ∀ b ∈ frs X.stack, b ∈ X.env.locals :: X.fs := fun b hb => by
  rcases I.ok.stk with e | ⟨e, hf⟩
  · rw [e] at hb; exact List.mem_cons_of_mem _ hb
  · rw [e] at hb
    unfold frs at hb
    rw [List.filterMap_cons, hf] at hb
    exact hb
theorem Inv.stkFree (I : Inv X pins σ H s) : ∀ b ∈ frs X.stack, H b = none := fun b hb => by
  rcases List.mem_cons.mp (I.stkSub b hb) with e | hb
  · rw [e]; exact I.free
  · obtain ⟨_, o, ho, _⟩ := I.ok.funs.mem hb
    exact I.base.free b o ho (I.ok.frf b hb) fun z => I.ok.exfs b z hb

/-- THE STEP: the untracked objects but the frame and the records at ch are kept (the callers' frames up to slots), the frame's map is kept, the new abstract heap is held -/
theorem Inv.step {g' : Array GenState} {t' : Nat} {d' : Drawn} {ch : List Addr} (I : Inv X pins σ H s)
    (hch : ∀ b ∈ ch, (b ∈ X.ex ∨ X.s₀.heap.objs.size ≤ b) ∧ b ≠ X.env.locals ∧ (∀ x c, X.env.cells.lookup x = some c → c ≠ b) ∧ ∀ p ∈ X.pn ++ pins, p.1 ≠ b)
    (keep : ∀ b o, b ≠ X.env.locals → b ∉ X.fs → b ∉ ch → s.heap.get? b = some o → H b = none → h'.get? b = some o)
    (slot : ∀ b o, b ≠ X.env.locals → b ∈ X.fs → b ∉ ch → s.heap.get? b = some o → H b = none → ∃ sl, h'.get? b = some { o with slots := sl }) (free : ∀ b o, b ∉ ch → s.heap.get? b = some o → H b = none → H' b = none)
    (there : ∀ b o, b ∉ ch → s.heap.get? b = some o → ∃ o', h'.get? b = some o')
    (tups : ∀ b xs, H b = some (.tup xs) → H' b = some (.tup xs)) (frzs : ∀ b o u, H b = some (.frz o u) → H' b = some (.frz o u)) (tbls : ∀ b ps, H b = some (.tbl ps) → ∃ more, H' b = some (.tbl (ps ++ more)))
    (ns : ∀ m, s.heap.Ns X.env.locals m → h'.Ns X.env.locals m) (hok : HOk X.prog X.w H' h') (hg : AllBare g') :
    Inv X pins σ H' { s with heap := h', gens := g', drawn := d', toks := t' } := by
  have neL : ∀ b o, X.s₀.heap.get? b = some o → b ≠ X.env.locals := fun b o e => Nat.ne_of_lt (Nat.lt_of_lt_of_le (Heap.lt_size e) I.ok.above)
  have neC : ∀ b o, X.s₀.heap.get? b = some o → b ∉ X.ex → b ∉ ch := fun b o e hx hb => by
    rcases (hch b hb).1 with z | z
    · exact hx z
    · exact absurd (Nat.lt_of_lt_of_le (Heap.lt_size e) z) (Nat.lt_irrefl _)
  have cellK : ∀ x c, X.env.cells.lookup x = some c → ∀ v, s.heap.IsCell c v → h'.IsCell c v := fun x c e v ⟨o, ho, hd⟩ => by
    have nch : c ∉ ch := fun z => (hch c z).2.2.1 x c e rfl
    by_cases hc : c ∈ X.fs
    · obtain ⟨sl, q⟩ := slot c o (I.cne x c e) hc nch ho (I.freeC x c e)
      exact ⟨_, q, hd⟩
    · exact ⟨o, keep c o (I.cne x c e) hc nch ho (I.freeC x c e), hd⟩
  refine ⟨I.ok, I.os, hg, ⟨fun b o e n hb hx => ?_, fun b o e n hb hx => ?_, fun b o e n hx => ?_, fun b o e hx => ?_, fun b xs e => tups b xs (I.base.tups b xs e), fun b o xs e => frzs b o xs (I.base.frzs b o xs e), fun b ps e => ?_⟩, ?_, fun x c e => ?_, ?_, fun x c e => ?_, fun p hp => ?_, hok, I.len⟩
  · exact keep b o (neL b o e) hb (neC b o e hx) (I.base.keep b o e n hb hx) (I.base.free b o e n hx)
  · obtain ⟨sl, e1⟩ := I.base.slot b o e n hb hx
    obtain ⟨sl', e2⟩ := slot b _ (neL b o e) hb (neC b o e hx) e1 (I.base.free b o e n hx)
    exact ⟨sl', e2⟩
  · obtain ⟨o', e1⟩ := I.base.there b o e hx
    exact free b o' (neC b o e hx) e1 (I.base.free b o e n hx)
  · obtain ⟨o', e1⟩ := I.base.there b o e hx
    exact there b o' (neC b o e hx) e1
  · obtain ⟨m1, e1⟩ := I.base.tbls b ps e
    obtain ⟨m2, e2⟩ := tbls b _ e1
    exact ⟨m1 ++ m2, by rw [e2, Array.append_assoc]⟩
  · obtain ⟨m, hn, hl⟩ := I.loc
    refine ⟨m, ns m hn, fun i x v e1 e2 e3 => ?_⟩
    obtain ⟨u, r, l⟩ := hl i x v e1 e2 e3
    refine ⟨u, r, ?_⟩
    rcases l with l | ⟨k, c, e, z⟩
    · exact .inl l
    · exact .inr ⟨k, c, e, cellK x c e _ z⟩
  · obtain ⟨v, z⟩ := I.cell x c e
    exact ⟨v, cellK x c e v z⟩
  · obtain ⟨m, ⟨o, _, _, ho, _⟩, _⟩ := I.loc
    exact free _ o (fun z => (hch _ z).2.1 rfl) ho I.free
  · obtain ⟨v, o, ho, hd⟩ := I.cell x c e
    exact free c o (fun z => (hch c z).2.2.1 x c e rfl) ho (I.freeC x c e)
  · obtain ⟨e, n, ne, nf, d⟩ := I.pin p hp
    have nch : p.1 ∉ ch := fun z => (hch p.1 z).2.2.2 p hp rfl
    exact ⟨keep p.1 p.2 ne nf nch e n, free p.1 p.2 nch e n, ne, nf, d⟩
/-- .. where the frame's own object is kept too -/
theorem Inv.un {t' : Nat} (I : Inv X pins σ H s) (u : Un X.fs [] H H' s.heap h') (hok : HOk X.prog X.w H' h') : Inv X pins σ H' { s with heap := h', toks := t' } := by
  obtain ⟨m, ⟨o, es, ep, ho, r⟩, _⟩ := id I.loc
  obtain ⟨sl, hL⟩ := u.any ho I.free (by simp)
  exact I.step (g' := s.gens) (d' := s.drawn) (ch := []) (fun _ z => nomatch z) (fun b o _ hb _ e n => u.keep b o e n hb (by simp)) (fun b o _ hb _ e n => u.slot b o e n hb (by simp)) (fun b o _ e n => u.free b o e n (by simp)) (fun b o _ e => u.there b o e (by simp)) u.tups u.frzs u.tbls (fun m' hm => by
    obtain ⟨o', es', ep', ho', r'⟩ := hm
    rw [ho] at ho'; cases ho'
    exact ⟨_, es', ep', hL, r'⟩) hok I.bare
/-- behind a call (or a comprehension's block): the slots of this frame may have changed too, the records at ch may have turned -/
theorem Inv.call {g' : Array GenState} {t' : Nat} {d' : Drawn} {ch : List Addr} (I : Inv X pins σ H s) (u : Un (frs X.stack) ch H H' s.heap h') (hok : HOk X.prog X.w H' h') (hg : AllBare g')
    (hch : ∀ b ∈ ch, (b ∈ X.ex ∨ X.s₀.heap.objs.size ≤ b) ∧ b ≠ X.env.locals ∧ (∀ x c, X.env.cells.lookup x = some c → c ≠ b) ∧ ∀ p ∈ X.pn ++ pins, p.1 ≠ b) :
    Inv X pins σ H' { s with heap := h', gens := g', drawn := d', toks := t' } := by
  obtain ⟨m, ⟨o, es, ep, ho, r⟩, _⟩ := id I.loc
  obtain ⟨sl, hL⟩ := u.any ho I.free fun z => (hch _ z).2.1 rfl
  exact I.step (ch := ch) hch (fun b o hL hb hc e n => u.keep b o e n (fun z => (List.mem_cons.mp (I.stkSub b z)).elim hL hb) hc) (fun b o _ _ hc e n => u.any e n hc) (fun b o hc e n => u.free b o e n hc) (fun b o hc e => u.there b o e hc) u.tups u.frzs u.tbls (fun m' hm => by
    obtain ⟨o', es', ep', ho', r'⟩ := hm
    rw [ho] at ho'; cases ho'
    exact ⟨_, es', ep', hL, r'⟩) hok hg
/-- an untracked record of ours (an iterator) has turned -/
theorem Inv.turned {t' : Nat} {it : Addr} (I : Inv X pins σ H s) (k : ∀ b o, b ≠ it → s.heap.get? b = some o → h'.get? b = some o) (hn : H it = none) (hL : it ≠ X.env.locals)
    (h1 : it ∈ X.ex ∨ X.s₀.heap.objs.size ≤ it) (h2 : ∀ x c, X.env.cells.lookup x = some c → c ≠ it) (h3 : ∀ p ∈ X.pn ++ pins, p.1 ≠ it) : Inv X pins σ H { s with heap := h', toks := t' } := by
  have nit : ∀ b u, H b = some u → b ≠ it := fun b u e z => by rw [z, hn] at e; cases e
  refine I.step (g' := s.gens) (d' := s.drawn) (ch := [it]) (fun b hb => ?_) (fun b o _ _ hc e _ => k b o (fun z => hc (by simp [z])) e) (fun b o _ _ hc e _ => ⟨o.slots, k b o (fun z => hc (by simp [z])) e⟩) (fun _ _ _ _ n => n)
    (fun b o hc e => ⟨o, k b o (fun z => hc (by simp [z])) e⟩) (fun _ _ e => e) (fun _ _ _ e => e) (fun b ps e => ⟨#[], by rw [e]; simp⟩) (fun m hm => ?_) (fun b u e => ?_) I.bare
  · have e : b = it := by simpa using hb
    subst e
    exact ⟨h1, hL, h2, h3⟩
  · obtain ⟨o, es, ep, ho, r⟩ := hm
    exact ⟨o, es, ep, k _ o (Ne.symm hL) ho, r⟩
  · refine (I.hok b u e).stay (fun c v hc q => k c v ?_ q) (fun _ q => q) fun _ _ q => q
    rcases hc with z | z
    · rw [z]; exact nit b u e
    · exact nit c _ z
theorem Inv.tok (I : Inv X pins σ H s) (t : Nat) : Inv X pins σ H { s with toks := t } := I.un (h' := s.heap) (t' := t) Un.refl I.hok
/-- all objects kept -/
theorem Inv.kept {t' : Nat} (I : Inv X pins σ H s) (k : ∀ b u, s.heap.get? b = some u → h'.get? b = some u) : Inv X pins σ H { s with heap := h', toks := t' } := I.un (Un.kept k) (I.hok.kept k)
/-- a new object laid and tracked -/
theorem Inv.laid {a : Addr} {o : HO} {t' : Nat} (I : Inv X pins σ H s) (k : ∀ b u, s.heap.get? b = some u → h'.get? b = some u) (hp : s.heap.objs.size ≤ a) (new : ObjOk X.prog X.w (upd H a o) h' a o) :
    Inv X pins σ (upd H a o) { s with heap := h', toks := t' } := I.un (Un.laid k hp (I.hok.fresh hp)) (I.hok.laid k hp new)
/-- an object written -/
theorem Inv.write {x e : Addr} {o : HO} {t' : Nat} (I : Inv X pins σ H s) (mu : Mut (H x)) (he : e = x ∨ H e = some (.own x)) (k : ∀ b u, b ≠ e → s.heap.get? b = some u → h'.get? b = some u) (heo : ∃ u, h'.get? e = some u)
    (new : ObjOk X.prog X.w (upd H x o) h' x o) : Inv X pins σ (upd H x o) { s with heap := h', toks := t' } := I.un (Un.write mu he k heo) (I.hok.write mu he k heo new)
theorem Inv.pins_of {pins' : List (Addr × Obj)} (I : Inv X pins σ H s) (h : ∀ p ∈ pins', s.heap.get? p.1 = some p.2 ∧ H p.1 = none ∧ p.1 ≠ X.env.locals ∧ p.1 ∉ X.fs ∧ ∀ v, p.2.data ≠ .cell v) : Inv X pins' σ H s :=
  ⟨I.ok, I.os, I.bare, I.base, I.loc, I.cell, I.free, I.freeC, fun p hp => (List.mem_append.mp hp).elim (fun z => I.pin p (List.mem_append_left _ z)) (h p), I.hok, I.len⟩

theorem nodup_ix {N : List Str} (hN : N.Nodup) {i j : Nat} {x : Str} (a : N[i]? = some x) (b : N[j]? = some x) : i = j := by
  obtain ⟨h1, e1⟩ := List.getElem?_eq_some_iff.mp a
  obtain ⟨h2, e2⟩ := List.getElem?_eq_some_iff.mp b
  exact (List.getElem_inj hN).mp (e1.trans e2.symm)

/-- a name is stored; what changed -/
theorem store_ok2 {M : Model} {A : Around} {E : Value → Shared → Prop} {i : Nat} {x : Str} {v : V} {u : Value} {Q : Unit → Shared → Prop} (I : Inv X pins σ H s) (hN : X.N.Nodup) (hi : X.N[i]? = some x) (hx : Loc X.env.scope x) (r : RelV v u)
    (h : ∀ s', Inv X pins (σ.set i (some v)) H s' → (∃ a, Heap.SameBut a s.heap s'.heap ∧ (a = X.env.locals ∨ X.env.cells.lookup x = some a)) → Q () s') (hf : X.fn x = true ∨ X.env.scope.names.lookup x = some .local := by first | exact .inl rfl | exact .inr rfl | assumption) : wpAny M A (storeName X.env x u) Q E s := by
  obtain ⟨m, hn, hl⟩ := id I.loc
  have hcls : (X.env.scope.kind == .class || (X.env.scope.kind == .module && X.env.locals != X.env.globals)) = false := by rw [I.ok.kind]; rfl
  have hiσ : i < σ.length := by rw [I.len]; exact (List.getElem?_eq_some_iff.mp hi).1
  have cne := I.cne
  have tracked : ∀ {a : Addr} {h' : Heap}, (∃ o, s.heap.get? a = some o ∧ H a = none) → Heap.SameBut a s.heap h' → HOk X.prog X.w H h' := fun {a h'} ha hs b ob e => by
    obtain ⟨_, _, hfree⟩ := ha
    refine (I.hok b ob e).stay (fun c w' hc q => (hs.2 c ?_).trans q) (fun _ q => q) fun _ _ q => q
    rintro rfl
    rcases hc with rfl | hc
    · rw [hfree] at e; cases e
    · rw [hfree] at hc; cases hc
  rcases hx with hk | hk
  · refine wpAny_storeName_local hk hn (fun h' hn' hs => ?_) hcls
    obtain ⟨oL, _, _, hoL, _⟩ := id hn
    refine h _ ⟨I.ok, I.os, I.bare, ⟨fun b o e n hb hx => ?_, fun b o e n hb hx => ?_, I.base.free, fun b o e hx => ?_, I.base.tups, I.base.frzs, I.base.tbls⟩, ⟨_, hn', fun j y v' e1 e2 e3 => ?_⟩, fun y c e => ?_, I.free, I.freeC, fun p hp => ?_, tracked ⟨oL, hoL, I.free⟩ hs, by simpa using I.len⟩ ⟨_, hs, .inl rfl⟩
    · exact (hs.2 b (Nat.ne_of_lt (Nat.lt_of_lt_of_le (Heap.lt_size e) I.ok.above))).trans (I.base.keep b o e n hb hx)
    · obtain ⟨sl, e1⟩ := I.base.slot b o e n hb hx
      exact ⟨sl, (hs.2 b (Nat.ne_of_lt (Nat.lt_of_lt_of_le (Heap.lt_size e) I.ok.above))).trans e1⟩
    · obtain ⟨o', e1⟩ := I.base.there b o e hx
      exact ⟨o', (hs.2 b (Nat.ne_of_lt (Nat.lt_of_lt_of_le (Heap.lt_size e) I.ok.above))).trans e1⟩
    · by_cases hj : j = i
      · subst hj
        rw [hi] at e1; cases e1
        rw [List.getElem?_set_self hiσ] at e2
        cases e2
        exact ⟨u, r, .inl ⟨hk, by simp⟩⟩
      · rw [List.getElem?_set_ne (Ne.symm hj)] at e2
        obtain ⟨u', r', q⟩ := hl j y v' e1 e2 e3
        refine ⟨u', r', ?_⟩
        rcases q with ⟨k, e⟩ | ⟨k, c, e, z⟩
        · refine .inl ⟨k, ?_⟩
          have : y ≠ x := fun e => hj (nodup_ix hN e1 (e ▸ hi))
          simp [this, e]
        · exact .inr ⟨k, c, e, z.sameBut hs (cne y c e)⟩
    · obtain ⟨w', z⟩ := I.cell y c e
      exact ⟨w', z.sameBut hs (cne y c e)⟩
    · obtain ⟨e, n, ne, nf, d⟩ := I.pin p hp
      exact ⟨(hs.2 p.1 ne).trans e, n, ne, nf, d⟩
  · have hfn : X.fn x = true := by
      rcases hf with z | z
      · exact z
      · rw [z] at hk; cases hk
    obtain ⟨c, hc⟩ := I.ok.has x (.inl hk)
    obtain ⟨w', z⟩ := I.cell x c hc
    refine wpAny_storeName_cell I.ok.kind hk hc z (fun h' hc' hs => ?_)
    obtain ⟨oc, hoc, hocd⟩ := id z
    refine h { s with heap := h' } ⟨I.ok, I.os, I.bare, ⟨fun b o e n hb hx => ?_, fun b o e n hb hx => ?_, I.base.free, fun b o e hx => ?_, I.base.tups, I.base.frzs, I.base.tbls⟩, ⟨m, hn.sameBut hs (Ne.symm (cne x c hc)), fun j y v' e1 e2 e3 => ?_⟩, fun y c' e => ?_, I.free, I.freeC, fun p hp => ?_, tracked ⟨oc, hoc, I.freeC x c hc⟩ hs, by simpa using I.len⟩ ⟨c, hs, .inr hc⟩
    · exact (hs.2 b (Nat.ne_of_lt (Nat.lt_of_lt_of_le (Heap.lt_size e) (I.ok.cab x c hfn hc)))).trans (I.base.keep b o e n hb hx)
    · obtain ⟨sl, e1⟩ := I.base.slot b o e n hb hx
      exact ⟨sl, (hs.2 b (Nat.ne_of_lt (Nat.lt_of_lt_of_le (Heap.lt_size e) (I.ok.cab x c hfn hc)))).trans e1⟩
    · obtain ⟨o', e1⟩ := I.base.there b o e hx
      exact ⟨o', (hs.2 b (Nat.ne_of_lt (Nat.lt_of_lt_of_le (Heap.lt_size e) (I.ok.cab x c hfn hc)))).trans e1⟩
    · by_cases hj : j = i
      · subst hj
        rw [hi] at e1; cases e1
        rw [List.getElem?_set_self hiσ] at e2
        cases e2
        exact ⟨u, r, .inr ⟨.inl hk, c, hc, hc'⟩⟩
      · rw [List.getElem?_set_ne (Ne.symm hj)] at e2
        obtain ⟨u', r', q⟩ := hl j y v' e1 e2 e3
        refine ⟨u', r', ?_⟩
        rcases q with q | ⟨k, c', e, z'⟩
        · exact .inl q
        · refine .inr ⟨k, c', e, z'.sameBut hs ?_⟩
          rintro rfl
          exact hj (nodup_ix hN e1 (I.ok.inj _ _ _ e hc ▸ hi))
    · by_cases hcc : c' = c
      · subst hcc; exact ⟨_, hc'⟩
      · obtain ⟨w2, z2⟩ := I.cell y c' e
        exact ⟨w2, z2.sameBut hs hcc⟩
    · obtain ⟨e, n, ne, nf, d⟩ := I.pin p hp
      refine ⟨(hs.2 p.1 ?_).trans e, n, ne, nf, d⟩
      intro q
      rw [q, hoc] at e
      have q' : oc = p.2 := Option.some.inj e
      exact d w' (by rw [← q']; exact hocd)
theorem store_ok {M : Model} {A : Around} {E : Value → Shared → Prop} {i : Nat} {x : Str} {v : V} {u : Value} {Q : Unit → Shared → Prop} (I : Inv X pins σ H s) (hN : X.N.Nodup) (hi : X.N[i]? = some x) (hx : Loc X.env.scope x) (r : RelV v u)
    (h : ∀ s', Inv X pins (σ.set i (some v)) H s' → Q () s') (hf : X.fn x = true ∨ X.env.scope.names.lookup x = some .local := by first | exact .inl rfl | exact .inr rfl | assumption) : wpAny M A (storeName X.env x u) Q E s :=
  store_ok2 I hN hi hx r (fun s' I' _ => h s' I') hf
/-- behind a call or a block, the state as it is -/
theorem Inv.call' {s' : Shared} {ch : List Addr} (I : Inv X pins σ H s) (ho : s'.os = s.os) (u : Un (frs X.stack) ch H H' s.heap s'.heap) (hok : HOk X.prog X.w H' s'.heap) (hg : AllBare s'.gens)
    (hch : ∀ b ∈ ch, (b ∈ X.ex ∨ X.s₀.heap.objs.size ≤ b) ∧ b ≠ X.env.locals ∧ (∀ x c, X.env.cells.lookup x = some c → c ≠ b) ∧ ∀ p ∈ X.pn ++ pins, p.1 ≠ b) : Inv X pins σ H' s' := by
  obtain ⟨h', g', d', t', o'⟩ := s'
  have e : o' = s.os := ho
  subst e
  exact I.call (g' := g') (t' := t') (d' := d') u hok hg hch
end

/-! ### the judgements -/
/-- an exception: its class, its own dict's address (where it has one), the abstract heap behind it -/
abbrev XK := Value → Option Addr → Hp → Prop
abbrev St := List (Option V)
abbrev VK := V → Hp → Prop
/-- an expression's reading; a test's; an argument list's -/
abbrev TE := St → Hp → VK → Prop
abbrev TT := St → Hp → (Bool → Hp → Prop) → Prop
abbrev TA := St → Hp → (List V → Hp → Prop) → Prop
/-- what is wanted behind a statement -/
structure Ends where
  nx : St → Hp → Prop
  rt : VK
  bk : St → Hp → Prop := fun _ _ => False
  ct : St → Hp → Prop := fun _ _ => False
abbrev TS := Ends → St → Hp → Prop

def EP (X : Cx) (pins : List (Addr × Obj)) (σ : St) (Q : VK) (u : Value) (s' : Shared) : Prop := ∃ v H', Inv X pins σ H' s' ∧ RelV v u ∧ Q v H'
def TP (X : Cx) (pins : List (Addr × Obj)) (σ : St) (Q : Bool → Hp → Prop) (b : Bool) (s' : Shared) : Prop := ∃ H', Inv X pins σ H' s' ∧ Q b H'
def AP (X : Cx) (pins : List (Addr × Obj)) (σ : St) (Q : List V → Hp → Prop) (us : List Value) (s' : Shared) : Prop := ∃ vs H', Inv X pins σ H' s' ∧ Vals vs us ∧ Q vs H'
def SP (X : Cx) (pins : List (Addr × Obj)) (D : Ends) (f : Flow) (s' : Shared) : Prop :=
  match f with
  | .next => ∃ σ' H', Inv X pins σ' H' s' ∧ D.nx σ' H'
  | .brk => ∃ σ' H', Inv X pins σ' H' s' ∧ D.bk σ' H'
  | .cont => ∃ σ' H', Inv X pins σ' H' s' ∧ D.ct σ' H'
  | .ret u => ∃ v σ' H', Inv X pins σ' H' s' ∧ RelV v u ∧ D.rt v H'

def PE (X : Cx) (e : Expr) (t : TE) : Prop :=
  ∀ (pins : List (Addr × Obj)) (s : Shared) (σ : St) (H : Hp) (Q : VK), Inv X pins σ H s → t σ H Q → wpAny (model X.prog X.w) X.A (eval e X.env) (EP X pins σ Q) X.xe s
def PT (X : Cx) (e : Expr) (t : TT) : Prop :=
  ∀ (pins : List (Addr × Obj)) (s : Shared) (σ : St) (H : Hp) (Q : Bool → Hp → Prop), Inv X pins σ H s → t σ H Q → wpAny (model X.prog X.w) X.A (isTrue e X.env (eval e X.env)) (TP X pins σ Q) X.xe s
/-- a test whatever its 'whole' is (and, or) -/
def PW (X : Cx) (e : Expr) (t : TT) : Prop :=
  ∀ (whole : Sem Value) (pins : List (Addr × Obj)) (s : Shared) (σ : St) (H : Hp) (Q : Bool → Hp → Prop), Inv X pins σ H s → t σ H Q → wpAny (model X.prog X.w) X.A (isTrue e X.env whole) (TP X pins σ Q) X.xe s
theorem PW.pt {X : Cx} {e : Expr} {t : TT} (h : PW X e t) : PT X e t := h _
/-- an argument list (no star), from the left -/
def PA (X : Cx) (es : List Expr) (t : TA) : Prop :=
  ∀ (pos : Pos) (pins : List (Addr × Obj)) (s : Shared) (σ : St) (H : Hp) (Q : List V → Hp → Prop), Inv X pins σ H s → t σ H Q → wpAny (model X.prog X.w) X.A (spliced (backTo pos (starEach es X.env))) (AP X pins σ Q) X.xe s
def PS (X : Cx) (st : Stmt) (t : TS) : Prop :=
  ∀ (pins : List (Addr × Obj)) (s : Shared) (σ : St) (H : Hp) (D : Ends), Inv X pins σ H s → t D σ H → wpAny (model X.prog X.w) X.A (exec st X.env) (SP X pins D) X.xe s
def PSs (X : Cx) (st : List Stmt) (t : TS) : Prop :=
  ∀ (pins : List (Addr × Obj)) (s : Shared) (σ : St) (H : Hp) (D : Ends), Inv X pins σ H s → t D σ H → wpAny (model X.prog X.w) X.A (execs st X.env) (SP X pins D) X.xe s
/-- weaken the end -/
theorem thn {α : Type} {t : Sem α} {Q Q' : α → Shared → Prop} {M : Model} {A : Around} {E : Value → Shared → Prop} {s : Shared} (h : wpAny M A t Q E s) (hQ : ∀ a s, Q a s → Q' a s) : wpAny M A t Q' E s := wpAny_mono h hQ fun _ _ x => x
end L2

namespace L2
open PySem PySem.Spec PyProof.Rows
section
variable {X : Cx}


/-! ### names and constants -/
def tVar (i : Nat) : TE := fun σ H Q => ∃ v, σ[i]? = some (some v) ∧ Q v H
def tC (v : V) : TE := fun _ H Q => Q v H
theorem pe_var {i : Nat} {x : Str} {pos : Pos} (hN : X.N[i]? = some x) (hv : Vis X.env.scope x) (hd : (x == ("__debug__" : Str)) = false := by decide) (hcd : (x == ("__classdict__" : Str)) = false := by decide) : PE X (.Name x pos) (tVar i) := by
  intro pins s σ H Q I h
  obtain ⟨v, e, h⟩ := h
  obtain ⟨m, hn, hl⟩ := I.loc
  obtain ⟨u, r, l⟩ := hl i x v hN e hv
  have fin : EP X pins σ Q u s := ⟨v, H, I, r, h⟩
  rcases l with ⟨hk, hm⟩ | ⟨hk, c, hc, hcell⟩
  · exact wpAny_Name (wpAny_loadName_local I.ok.kind hk hn hm fin) hd
  · rcases hk with hk | hk
    · exact wpAny_Name (wpAny_loadName_cell I.ok.kind hk hc hcell fin) hd
    · exact wpAny_Name (wpAny_loadName_free I.ok.kind hk hc hcell fin hcd) hd
theorem pe_int {i j pos} : PE X (.Constant (.int i) j pos) (tC (.int i)) := fun _ _ _ H _ I h => wpAny_Constant_int ⟨.int i, H, I.tok _, ⟨_, rfl⟩, h⟩
theorem pe_bl {b j pos} : PE X (.Constant (.bool b) j pos) (tC (.bl b)) := fun _ _ _ H _ I h => Constant_bool ⟨.bl b, H, I, rfl, h⟩
theorem pe_non {j pos} : PE X (.Constant .none j pos) (tC .non) := fun _ _ _ H _ I h => Constant_none ⟨.non, H, I, rfl, h⟩
theorem pe_str {x j pos} : PE X (.Constant (.str x) j pos) (tC (.str x)) := fun _ _ _ H _ I h => Calls.Constant_str ⟨.str x, H, I.tok _, ⟨_, rfl⟩, h⟩

/-- a global name of the def -/
def Gl (X : Cx) (x : Str) : Prop := X.env.kindOf x = some .globalImplicit
theorem ld_glob {E : Value → Shared → Prop} {pins : List (Addr × Obj)} {s : Shared} {σ : St} {H : Hp} {x : Str} {u : Value} {pos : Pos} {Q : Value → Shared → Prop} (I : Inv X pins σ H s) (hg : Gl X x) (hm : X.mg x = some u) (h : Q u s)
    (hd : (x == ("__debug__" : Str)) = false := by decide) : wpAny (model X.prog X.w) X.A (eval (.Name x pos) X.env) Q E s :=
  Calls.Name_function_global I.ok.kind hg (Calls.loadGlobal_global (by rw [I.ok.glob]; exact I.mod.glob.keeps I.bk) hm h) hd
theorem ld_blt {E : Value → Shared → Prop} {pins : List (Addr × Obj)} {s : Shared} {σ : St} {H : Hp} {x : Str} {u : Value} {pos : Pos} {Q : Value → Shared → Prop} (I : Inv X pins σ H s) (hg : Gl X x) (hm : X.mg x = none) (hv : bootBuiltins x = some u) (h : Q u s)
    (hn : x ≠ "__name__" := by decide) (hd : (x == ("__debug__" : Str)) = false := by decide) : wpAny (model X.prog X.w) X.A (eval (.Name x pos) X.env) Q E s := by
  obtain ⟨mb, h1, h2⟩ := I.mod.blt
  exact Calls.Name_function_global I.ok.kind hg (Calls.loadGlobal_builtin (by rw [I.ok.glob]; exact I.mod.glob.keeps I.bk) hm (by rw [I.ok.blt]; exact h1.keeps I.bk) ((h2 x hn).trans hv) h) hd
/-- a module's constant, a class, a function, as a value -/
theorem pe_glob {x : Str} {v : V} {u : Value} {pos : Pos} (hg : Gl X x) (hm : X.mg x = some u) (r : RelV v u) (hd : (x == ("__debug__" : Str)) = false := by decide) : PE X (.Name x pos) (tC v) :=
  fun _ _ _ H _ I h => ld_glob I hg hm ⟨v, H, I, r, h⟩ hd
theorem pe_bltn {x : Str} {v : V} {u : Value} {pos : Pos} (hg : Gl X x) (hm : X.mg x = none) (hv : bootBuiltins x = some u) (r : RelV v u) (hn : x ≠ "__name__" := by decide) (hd : (x == ("__debug__" : Str)) = false := by decide) : PE X (.Name x pos) (tC v) :=
  fun _ _ _ H _ I h => ld_blt I hg hm hv ⟨v, H, I, r, h⟩ hn hd

/-! ### arithmetic -/
variable {a b : Expr} {ta tb : TE} {pos : Pos}

/-! ### comparisons -/

/-! ### and, or, not -/
variable {tA tB' : TT} {rest : List Expr}
def tAnd (t u : TT) : TT := fun σ H Q => t σ H fun c H1 => if c = true then u σ H1 Q else Q false H1
def tOr (t u : TT) : TT := fun σ H Q => t σ H fun c H1 => if c = true then Q true H1 else u σ H1 Q
def tNot (t : TT) : TT := fun σ H Q => t σ H fun c H1 => Q (!c) H1
theorem pw_and1 (ha : PT X a tA) : PW X (.BoolOp .And [a] pos) tA := by
  intro wh pins s σ H Q I h
  refine isTrue_and (thn (ha pins s σ H Q I h) fun c s1 e => ?_)
  cases c with
  | true => exact isTrue_and_nil e
  | false => exact e
theorem pw_or1 (ha : PT X a tA) : PW X (.BoolOp .Or [a] pos) tA := by
  intro wh pins s σ H Q I h
  refine isTrue_or (thn (ha pins s σ H Q I h) fun c s1 e => ?_)
  cases c with
  | false => exact isTrue_or_nil e
  | true => exact e
theorem pw_and (ha : PT X a tA) (hb : PW X (.BoolOp .And (b :: rest) pos) tB') : PW X (.BoolOp .And (a :: b :: rest) pos) (tAnd tA tB') := by
  intro wh pins s σ H Q I h
  refine isTrue_and (thn (ha pins s σ H _ I h) fun c s1 ⟨H1, I1, q1⟩ => ?_)
  cases c with
  | true => exact hb wh pins s1 σ H1 Q I1 q1
  | false => exact ⟨H1, I1, q1⟩
theorem pw_or (ha : PT X a tA) (hb : PW X (.BoolOp .Or (b :: rest) pos) tB') : PW X (.BoolOp .Or (a :: b :: rest) pos) (tOr tA tB') := by
  intro wh pins s σ H Q I h
  refine isTrue_or (thn (ha pins s σ H _ I h) fun c s1 ⟨H1, I1, q1⟩ => ?_)
  cases c with
  | true => exact ⟨H1, I1, q1⟩
  | false => exact hb wh pins s1 σ H1 Q I1 q1
theorem pt_not (ha : PT X a tA) : PT X (.UnaryOp .Not a pos) (tNot tA) := by
  intro pins s σ H Q I h
  exact isTrue_not (ha pins s σ H (fun c H1 => Q (!c) H1) I h)
/-- .. as values (bools) -/
def tAndV (ta tb : TE) : TE := fun σ H Q => ta σ H fun x H1 => ∃ c, x = .bl c ∧ if c = true then tb σ H1 Q else Q (.bl false) H1
def tOrV (ta tb : TE) : TE := fun σ H Q => ta σ H fun x H1 => ∃ c, x = .bl c ∧ if c = true then Q (.bl true) H1 else tb σ H1 Q
def tNotV (ta : TE) : TE := fun σ H Q => ta σ H fun x H1 => ∃ c, x = .bl c ∧ Q (.bl (!c)) H1
theorem pe_one {op} {t : TE} (h : PE X a t) : PE X (.BoolOp op [a] pos) t := fun pins s σ H Q I hw => BoolOp_one (h pins s σ H Q I hw)
theorem pe_and (ha : PE X a ta) (hb : PE X (.BoolOp .And (b :: rest) pos) tb) : PE X (.BoolOp .And (a :: b :: rest) pos) (tAndV ta tb) := by
  intro pins s σ H Q I h
  refine BoolOp_and (thn (ha pins s σ H _ I h) fun v s1 ⟨x, H1, I1, r1, q1⟩ => ?_)
  obtain ⟨c, rfl, q1⟩ := q1
  cases r1
  refine wpAny_truthy_bool ?_
  cases c with
  | true => exact hb pins s1 σ H1 Q I1 q1
  | false => exact ⟨.bl false, H1, I1, rfl, q1⟩
theorem pe_or (ha : PE X a ta) (hb : PE X (.BoolOp .Or (b :: rest) pos) tb) : PE X (.BoolOp .Or (a :: b :: rest) pos) (tOrV ta tb) := by
  intro pins s σ H Q I h
  refine BoolOp_or (thn (ha pins s σ H _ I h) fun v s1 ⟨x, H1, I1, r1, q1⟩ => ?_)
  obtain ⟨c, rfl, q1⟩ := q1
  cases r1
  refine wpAny_truthy_bool ?_
  cases c with
  | false => exact hb pins s1 σ H1 Q I1 q1
  | true => exact ⟨.bl true, H1, I1, rfl, q1⟩
theorem pe_not (ha : PE X a ta) : PE X (.UnaryOp .Not a pos) (tNotV ta) := by
  intro pins s σ H Q I h
  refine UnaryOp_ (thn (ha pins s σ H _ I h) fun v s1 ⟨x, H1, I1, r1, q1⟩ => ?_)
  obtain ⟨c, rfl, q1⟩ := q1
  cases r1
  exact not_of (wpAny_truthy_bool ⟨.bl (!c), H1, I1, rfl, q1⟩)
/-- a if t else b -/
def tIf (t : TT) (ta tb : TE) : TE := fun σ H Q => t σ H fun c H1 => if c = true then ta σ H1 Q else tb σ H1 Q
theorem pe_ifExp {c : Expr} (hc : PT X c tA) (ha : PE X a ta) (hb : PE X b tb) : PE X (.IfExp c a b pos) (tIf tA ta tb) := by
  intro pins s σ H Q I h
  refine wpAny_IfExp (thn (hc pins s σ H _ I h) fun d s1 ⟨H1, I1, q1⟩ => ?_)
  cases d with
  | true => exact ha pins s1 σ H1 Q I1 q1
  | false => exact hb pins s1 σ H1 Q I1 q1
end
end L2

namespace L2
open PySem PySem.Spec PyProof.Rows

/-! ### a list, a tuple that is read: tracked, frozen, or an object of the module -/
def SqL (K : PySem.W.Frag) (H : Hp) (a : Addr) (xs : List V) : Prop :=
  Rd H a (.lst xs) ∨
    ∃ (o : Obj) (its : Array Value) (n : Nat), K.lookup a = some o ∧ o.cls = .type "list" ∧ o.dict = none ∧ o.data = .seq its n ∧ its.size ≤ sizeLine ∧ Vals xs its.toList
def SqT (K : PySem.W.Frag) (H : Hp) (a : Addr) (xs : List V) : Prop :=
  Rd H a (.tup xs) ∨
    ∃ (o : Obj) (its : Array Value) (n : Nat), K.lookup a = some o ∧ o.cls = .type "tuple" ∧ o.data = .seq its n ∧ its.size ≤ sizeLine ∧ Vals xs its.toList
def absV : Value → Option V
  | .none => some .non
  | .bool b => some (.bl b)
  | .int i _ => some (.int i)
  | .str x _ => some (.str x)
  | .bytes b _ => some (.byt b)
  | .float b _ => some (.flt b)
  | .ref a => some (.ref a)
  | .type n => some (.ty n)
  | _ => none
theorem RelV.abs {x : V} {u : Value} (r : RelV x u) : absV u = some x := by
  cases x with
  | non => cases r; rfl
  | bl _ => cases r; rfl
  | int _ => obtain ⟨t, rfl⟩ := r; rfl
  | str _ => obtain ⟨t, rfl⟩ := r; rfl
  | byt _ => obtain ⟨t, rfl⟩ := r; rfl
  | flt _ => obtain ⟨t, rfl⟩ := r; rfl
  | ref _ => cases r; rfl
  | ty _ => cases r; rfl
theorem RelV.inj {x y : V} {u : Value} (r : RelV x u) (q : RelV y u) : x = y := Option.some.inj (r.abs.symm.trans q.abs)
theorem Vals.inj : ∀ {xs ys : List V} {us : List Value}, Vals xs us → Vals ys us → xs = ys
  | _, _, _, .nil, .nil => rfl
  | _, _, _, .cons r t, .cons r' t' => by rw [r.inj r', Vals.inj t t']
section
variable {X : Cx} {pins : List (Addr × Obj)} {σ : St} {H : Hp} {s : Shared} {a : Addr} {xs ys : List V}
theorem SqL.of {K : PySem.W.Frag} (h : H a = some (.lst xs)) : SqL K H a xs := .inl (.inl h)
theorem SqT.of {K : PySem.W.Frag} (h : H a = some (.tup xs)) : SqT K H a xs := .inl (.inl h)
theorem Inv.list (I : Inv X pins σ H s) (h : SqL X.K H a xs) : ∃ its : List Value, Vals xs its ∧ PlainL s.heap a its.toArray ∧ xs.length ≤ sizeLine := by
  rcases h with h | ⟨o, its, n, hk, hc, hd, hs, hz, r⟩
  · obtain ⟨z, its, n, r, e⟩ := h.ok I.hok
    exact ⟨its, r, ⟨_, n, e, rfl, rfl, rfl⟩, z⟩
  · refine ⟨its.toList, r, ⟨o, n, I.kIn a o hk, hc, hd, by simpa using hs⟩, ?_⟩
    have e := r.length
    simp only [Array.length_toList] at e
    omega
theorem Inv.tuple (I : Inv X pins σ H s) (h : SqT X.K H a xs) : ∃ its : List Value, Vals xs its ∧ IsTup s.heap a its.toArray ∧ xs.length ≤ sizeLine := by
  rcases h with h | ⟨o, its, n, hk, hc, hs, hz, r⟩
  · obtain ⟨z, its, r, p⟩ := h.ok I.hok
    exact ⟨its, r, p, z⟩
  · refine ⟨its.toList, r, ⟨o, I.kIn a o hk, hc, n, by simpa using hs⟩, ?_⟩
    have e := r.length
    simp only [Array.length_toList] at e
    omega
theorem Inv.list_inj (I : Inv X pins σ H s) (h : SqL X.K H a xs) (h' : SqL X.K H a ys) : xs = ys := by
  obtain ⟨its, r, ⟨o, n, e, _, _, d⟩, _⟩ := I.list h
  obtain ⟨its', r', ⟨o', n', e', _, _, d'⟩, _⟩ := I.list h'
  rw [e] at e'; cases e'
  rw [d] at d'
  injection d' with d1 _
  have : its = its' := by simpa using congrArg Array.toList d1
  subst this
  exact r.inj r'
theorem Inv.tuple_inj (I : Inv X pins σ H s) (h : SqT X.K H a xs) (h' : SqT X.K H a ys) : xs = ys := by
  obtain ⟨its, r, ⟨o, e, _, n, d⟩, _⟩ := I.tuple h
  obtain ⟨its', r', ⟨o', e', _, n', d'⟩, _⟩ := I.tuple h'
  rw [e] at e'; cases e'
  rw [d] at d'
  injection d' with d1 _
  have : its = its' := by simpa using congrArg Array.toList d1
  subst this
  exact r.inj r'
end

/-! ### another wish about exceptions -/
abbrev Cx.wish (X : Cx) (E : Value → Shared → Prop) : Cx := { X with xe := E }
/-- no exception leaves -/
abbrev Cx.nox (X : Cx) : Cx := X.wish fun _ _ => False
theorem Cx.Ok.wish {X : Cx} (ok : X.Ok) (E : Value → Shared → Prop) : (X.wish E).Ok :=
  ⟨ok.mod, ok.kind, ok.glob, ok.blt, ok.above, ok.inj, ok.has, ok.cab, ok.hd, ok.frames, ok.stk, ok.exf, ok.bs, ok.bsz, ok.noex, ok.exfs, ok.funs, ok.frf⟩
theorem Cx.Ok.unwish {X : Cx} {E : Value → Shared → Prop} (ok : (X.wish E).Ok) : X.Ok :=
  ⟨ok.mod, ok.kind, ok.glob, ok.blt, ok.above, ok.inj, ok.has, ok.cab, ok.hd, ok.frames, ok.stk, ok.exf, ok.bs, ok.bsz, ok.noex, ok.exfs, ok.funs, ok.frf⟩
section
variable {X : Cx} {pins : List (Addr × Obj)} {σ : St} {H : Hp} {s : Shared} {E : Value → Shared → Prop}
theorem Inv.wish (I : Inv X pins σ H s) (E : Value → Shared → Prop) : Inv (X.wish E) pins σ H s := ⟨I.ok.wish E, I.os, I.bare, I.base, I.loc, I.cell, I.free, I.freeC, I.pin, I.hok, I.len⟩
theorem Inv.unwish (I : Inv (X.wish E) pins σ H s) : Inv X pins σ H s := ⟨I.ok.unwish, I.os, I.bare, I.base, I.loc, I.cell, I.free, I.freeC, I.pin, I.hok, I.len⟩
theorem SP.unwish {D : Ends} {f : Flow} {s' : Shared} (h : SP (X.wish E) pins D f s') : SP X pins D f s' := by
  cases f with
  | next => obtain ⟨σ', H', I, q⟩ := h; exact ⟨σ', H', I.unwish, q⟩
  | brk => obtain ⟨σ', H', I, q⟩ := h; exact ⟨σ', H', I.unwish, q⟩
  | cont => obtain ⟨σ', H', I, q⟩ := h; exact ⟨σ', H', I.unwish, q⟩
  | ret u => obtain ⟨v, σ', H', I, r, q⟩ := h; exact ⟨v, σ', H', I.unwish, r, q⟩
theorem PSs.nox {st : List Stmt} {t : TS} (h : PSs X.nox st t) : PSs X st t := fun pins s σ H D I hw =>
  wpAny_mono (h pins s σ H D (I.wish _) hw) (fun _ _ q => q.unwish) fun _ _ z => False.elim z
end

/-! ### blocks and small statements -/
section
variable {X : Cx} {st : Stmt} {rest : List Stmt} {t u : TS} {e : Expr} {te : TE} {pos : Pos}
def tNext : TS := fun D σ H => D.nx σ H
def tSeq (t u : TS) : TS := fun D σ H => t { D with nx := u D } σ H
theorem pss_nil : PSs X [] tNext := fun _ _ σ H _ I h => wpAny_execs_nil ⟨σ, H, I, h⟩
theorem pss_cons (h1 : PS X st t) (h2 : PSs X rest u) : PSs X (st :: rest) (tSeq t u) := by
  intro pins s σ H D I h
  refine wpAny_execs_cons (thn (h1 pins s σ H { D with nx := u D } I h) fun f s1 q => ?_)
  cases f with
  | next =>
    obtain ⟨σ', H', I', q⟩ := q
    exact h2 pins s1 σ' H' D I' q
  | ret v => exact q
  | brk => exact q
  | cont => exact q
theorem pss_one (h1 : PS X st t) : PSs X [st] t := by
  intro pins s σ H D I h
  refine wpAny_execs_cons (thn (h1 pins s σ H D I h) fun f s1 q => ?_)
  cases f with
  | next => exact wpAny_execs_nil q
  | ret v => exact q
  | brk => exact q
  | cont => exact q
/-- in a def's body nothing is shown -/
theorem Inv.quiet {pins : List (Addr × Obj)} {σ : St} {H : Hp} {s : Shared} (I : Inv X pins σ H s) : interactive X.env = false := by simp [interactive, I.ok.kind]
/-- an expression whose value is dropped -/
def tDrop (te : TE) : TS := fun D σ H => te σ H fun _ H1 => D.nx σ H1
theorem ps_expr (he : PE X e te) (hs : swapsWith e none pos.line X.env = pure false := by rfl) : PS X (.Expr e pos) (tDrop te) := by
  intro pins s σ H D I h
  exact wpAny_Expr_any (thn (he pins s σ H _ I h) fun v s1 ⟨x, H1, I1, r1, q1⟩ => ⟨σ, H1, I1, q1⟩) I.quiet hs
def tRet (te : TE) : TS := fun D σ H => te σ H D.rt
theorem ps_ret (he : PE X e te) : PS X (.Return (some e) pos) (tRet te) := by
  intro pins s σ H D I h
  exact wpAny_Return_some (thn (he pins s σ H _ I h) fun v s1 ⟨x, H1, I1, r1, q1⟩ => ⟨x, σ, H1, I1, r1, q1⟩)
def tIfS (c : TT) (t u : TS) : TS := fun D σ H => c σ H fun b H1 => if b = true then t D σ H1 else u D σ H1
theorem ps_if {c : Expr} {a b : List Stmt} {tc : TT} (hc : PT X c tc) (ha : PSs X a t) (hb : PSs X b u) : PS X (.If c a b pos) (tIfS tc t u) := by
  intro pins s σ H D I h
  refine wpAny_If (thn (hc pins s σ H _ I h) fun d s1 ⟨H1, I1, q1⟩ => ?_)
  cases d with
  | true => exact ha pins s1 σ H1 D I1 q1
  | false => exact hb pins s1 σ H1 D I1 q1
/-- code that the proof never comes to -/
def tNever : TS := fun _ _ _ => False
theorem ps_never : PS X st tNever := fun _ _ _ _ _ _ h => h.elim
end

/-! ### targets -/
abbrev TG := V → St → Hp → (St → Hp → Prop) → Prop
def PG (X : Cx) (target : Expr) (t : TG) : Prop :=
  ∀ (pins : List (Addr × Obj)) (s : Shared) (σ : St) (H : Hp) (v : V) (u : Value) (Q : St → Hp → Prop), Inv X pins σ H s → RelV v u → t v σ H Q →
    wpAny (model X.prog X.w) X.A (assign target X.env u) (fun _ s' => ∃ σ' H', Inv X pins σ' H' s' ∧ Q σ' H') X.xe s
section
variable {X : Cx} {pos : Pos}
def gName (i : Nat) : TG := fun v σ H Q => Q (σ.set i (some v)) H
theorem pg_name {i : Nat} {x : Str} (hN : X.N.Nodup) (hi : X.N[i]? = some x) (hx : Loc X.env.scope x) (hf : X.fn x = true ∨ X.env.scope.names.lookup x = some .local := by first | exact .inl rfl | exact .inr rfl | assumption) : PG X (.Name x pos) (gName i) := by
  intro pins s σ H v u Q I r h
  exact wpAny_assign_Name (store_ok I hN hi hx r (fun s' I' => ⟨_, H, I', h⟩) hf)
/-- target = value -/
def tAsg (te : TE) (g : TG) : TS := fun D σ H => te σ H fun x H1 => g x σ H1 D.nx
theorem ps_asg {tg e : Expr} {te : TE} {g : TG} (he : PE X e te) (hg : PG X tg g) (hs : swapsWithSole [tg] e pos.line X.env = pure false := by rfl) (hw : swappedStores [tg] e X.env = pure none := by rfl)
    (h1 : (assignEach [tg] X.env).map (·.2) = [assign tg X.env] := by rfl) : PS X (.Assign [tg] e pos) (tAsg te g) := by
  intro pins s σ H D I h
  refine wpAny_Assign_stores (thn (he pins s σ H _ I h) fun v s1 ⟨x, H1, I1, r1, q1⟩ => ?_) hs hw
  rw [h1]
  exact thn (hg pins s1 σ H1 x v _ I1 r1 q1) fun _ s2 q => q
/-- name = value -/
theorem ps_set {i : Nat} {x : Str} {e : Expr} {te : TE} {pos' : Pos} (hN : X.N.Nodup) (hi : X.N[i]? = some x) (hx : Loc X.env.scope x) (he : PE X e te) (hs : swapsWith e (some (.Name x pos')) pos.line X.env = pure false := by rfl) (hf : X.fn x = true ∨ X.env.scope.names.lookup x = some .local := by first | exact .inl rfl | exact .inr rfl | assumption) :
    PS X (.Assign [.Name x pos'] e pos) (tAsg te (gName i)) := by
  intro pins s σ H D I h
  refine wpAny_Assign_Name (thn (he pins s σ H _ I h) fun v s1 ⟨y, H1, I1, r1, q1⟩ => ?_) hs
  exact store_ok I1 hN hi hx r1 (fun s2 I2 => ⟨_, H1, I2, q1⟩) hf
end

/-! ### while -/
section
variable {X : Cx} {pos : Pos}
end

/-! ### what a loop or a comprehension walks -/
/-- at turn i: it yields x (the heap may grow), or it stops -/
structure It where
  go : Nat → Hp → Prop
  yld : Nat → Hp → V → Hp → Prop
  stop : Nat → Hp → Prop
/-- the iterator's own objects may turn: they are not the frame's, not pinned, younger than the entry (or a comprehension's own) -/
def FpOk (X : Cx) (pins : List (Addr × Obj)) (H : Hp) (b : Addr) : Prop :=
  H b = none ∧ b ≠ X.env.locals ∧ b ∉ X.fs ∧ (b ∈ X.ex ∨ X.s₀.heap.objs.size ≤ b) ∧ (∀ x c, X.env.cells.lookup x = some c → c ≠ b) ∧ ∀ p ∈ X.pn ++ pins, p.1 ≠ b
theorem Inv.fpOk {X : Cx} {pins : List (Addr × Obj)} {σ : St} {H H' : Hp} {s : Shared} {b : Addr} (I : Inv X pins σ H s) (hb : s.heap.objs.size ≤ b) (hn : H' b = none) : FpOk X pins H' b := by
  refine ⟨hn, Nat.ne_of_gt (Nat.lt_of_lt_of_le I.lt hb), I.nofs hb, .inr (Nat.le_trans I.sz hb), fun x c e z => ?_, fun p hp z => ?_⟩
  · obtain ⟨v, q⟩ := I.cell x c e
    exact absurd (Nat.lt_of_lt_of_le q.lt (by rw [z]; exact hb)) (Nat.lt_irrefl _)
  · exact absurd (Nat.lt_of_lt_of_le (Heap.lt_size (I.pin p hp).1) (by rw [z]; exact hb)) (Nat.lt_irrefl _)
structure Turn (P : Program) (w : World) (K : PySem.W.Frag) (tg : Expr) (J : It) (fp : List Addr) (it : Addr) (tn : Nat → Heap → Prop) : Prop where
  mem : it ∈ fp
  obj : ∀ i h, tn i h → ∀ b ∈ fp, ∃ o, h.get? b = some o ∧ ∀ v, o.data ≠ .cell v
  keep : ∀ i h h', tn i h → (∀ b ∈ fp, ∀ o, h.get? b = some o → h'.get? b = some o) → tn i h'
  item : ∀ (X : Cx), X.prog = P → X.w = w → X.K = K → X.calm = true → ∀ (i : Nat) (pins : List (Addr × Obj)) (s : Shared) (σ : St) (H : Hp) (E : Value → Shared → Prop), Inv X pins σ H s → (∀ b ∈ fp, FpOk X pins H b) → tn i s.heap → J.go i H →
    wpAny (model P w) X.A (pyNext (.ref it)) (fun r s1 => ∃ u, r = some u ∧
      wpAny (model P w) X.A (letOwnedTupleGo tg (.ref it) u) (fun _ s2 => ∃ x H', Inv X pins σ H' s2 ∧ RelV x u ∧ J.yld i H x H' ∧ tn (i + 1) s2.heap ∧ ∀ b ∈ fp, H' b = none) E s1) E s
  done : ∀ (X : Cx), X.prog = P → X.w = w → X.K = K → X.calm = true → ∀ (i : Nat) (pins : List (Addr × Obj)) (s : Shared) (σ : St) (H : Hp) (E : Value → Shared → Prop), Inv X pins σ H s → (∀ b ∈ fp, FpOk X pins H b) → tn i s.heap → J.stop i H →
    wpAny (model P w) X.A (pyNext (.ref it)) (fun r s1 => r = none ∧ Inv X pins σ H s1) E s
  self : ∀ (A : Around) (i : Nat) (s : Shared) (Q : Value → Shared → Prop) (E : Value → Shared → Prop), tn i s.heap → Q (.ref it) s → wpAny (model P w) A (pyIter (.ref it)) Q E s
abbrev TI := St → Hp → (It → Hp → Prop) → Prop
/-- an iterator has come -/
def PIE (X : Cx) (pins : List (Addr × Obj)) (σ : St) (tg : Expr) (R : It → Hp → Prop) (itv : Value) (s2 : Shared) : Prop :=
  ∃ (it : Addr) (fp : List Addr) (tn : Nat → Heap → Prop) (J : It) (H' : Hp), itv = .ref it ∧ Inv X pins σ H' s2 ∧ Turn X.prog X.w X.K tg J fp it tn ∧ tn 0 s2.heap ∧ (∀ b ∈ fp, FpOk X pins H' b) ∧ R J H'
def PI (X : Cx) (tg iter : Expr) (wi : TI) : Prop :=
  ∀ (pins : List (Addr × Obj)) (s : Shared) (σ : St) (H : Hp) (R : It → Hp → Prop), Inv X pins σ H s → wi σ H R →
    wpAny (model X.prog X.w) X.A (eval iter X.env) (fun v s1 => wpAny (model X.prog X.w) X.A (pyIter v) (PIE X pins σ tg R) X.xe s1) X.xe s

/-- the step ahead of the store is nothing for an iterator that keeps no tuple -/
theorem go_of {M : Model} {A : Around} {E : Value → Shared → Prop} {s : Shared} {tg : Expr} {it : Addr} {u : Value} {o : Obj} {n : String} {vs : Array Value} {Q : Unit → Shared → Prop} (ho : s.heap.get? it = some o) (hc : o.cls = .type n) (hd : o.data = .fields vs)
    (hn : ["enumerate", "zip", "dict_itemiterator", "dict_reverseitemiterator", "odict_iterator", "itertools.zip_longest", "itertools.pairwise"].contains n = false) (hQ : Q () s) : wpAny M A (letOwnedTupleGo tg (.ref it) u) Q E s := by
  unfold letOwnedTupleGo
  cases tg <;> first
    | exact wpAny_pure hQ
    | (cases u <;> first
        | exact wpAny_pure hQ
        | (refine wpAny_bind (wpAny_load ho ?_)
           rw [hc, hd]
           show wpAny M A (if (["enumerate", "zip", "dict_itemiterator", "dict_reverseitemiterator", "odict_iterator", "itertools.zip_longest", "itertools.pairwise"].contains n && vs[0]? == some (rawInt _)) = true then _ else _) Q E s
           rw [if_neg (by intro h; rw [hn, Bool.false_and] at h; cases h)]
           exact wpAny_pure hQ))

/-- the list at a, as it stands at each turn (a loop may append to it) -/
def Itl (K : PySem.W.Frag) (a : Addr) : It :=
  ⟨fun i H => ∃ xs x, SqL K H a xs ∧ xs[i]? = some x, fun i H x H' => H' = H ∧ ∀ xs, SqL K H a xs → xs[i]? = some x, fun i H => ∃ xs, SqL K H a xs ∧ xs.length ≤ i⟩
def Itt (K : PySem.W.Frag) (a : Addr) : It :=
  ⟨fun i H => ∃ xs x, SqT K H a xs ∧ xs[i]? = some x, fun i H x H' => H' = H ∧ ∀ xs, SqT K H a xs → xs[i]? = some x, fun i H => ∃ xs, SqT K H a xs ∧ xs.length ≤ i⟩
/-- lo, lo + 1, .. (n of them) -/
def Itr (lo : Int) (n : Nat) : It := ⟨fun i _ => i < n, fun i H x H' => H' = H ∧ x = .int (lo + i), fun i _ => n ≤ i⟩
theorem turn_list {P : Program} {w : World} {K : PySem.W.Frag} {tg : Expr} (a it : Addr) : Turn P w K tg (Itl K a) [it] it (fun i h => h.IsListIter it a i) where
  mem := by simp
  obj := fun i h st b hb => by
    have e : b = it := by simpa using hb
    subst e
    obtain ⟨o, e, c, d⟩ := st
    exact ⟨o, e, fun v z => by rw [d] at z; cases z⟩
  keep := fun i h h' st k => st.at fun o e => k it (by simp) o e
  item := by
    intro X hP hw hK hc i pins s σ H E I hf st hg
    subst hP hw hK
    obtain ⟨xs, x, hq, hx⟩ := hg
    obtain ⟨its, rv, p, hz⟩ := I.list hq
    obtain ⟨u, hu, ru⟩ := rv.get hx
    obtain ⟨f0, f1, f2, f3, f4, f5⟩ := hf it (by simp)
    refine wpAny_pyNext_list_item st p.isList (x := u) (by simpa using hu) fun h' st' sb => ?_
    have I1 : Inv X pins σ H { s with heap := h' } := I.turned (t' := s.toks) (fun b o hb e => (sb.2 b hb).trans e) f0 f1 f3 f4 f5
    obtain ⟨o, e, c, d⟩ := id st'
    exact ⟨u, rfl, go_of (s := { s with heap := h' }) e c d (by decide) ⟨x, H, I1, ru, ⟨rfl, fun ys hy => by rw [I.list_inj hy hq]; exact hx⟩, st', fun b hb => (hf b hb).1⟩⟩
  done := by
    intro X hP hw hK hc i pins s σ H E I hf st hg
    subst hP hw hK
    obtain ⟨xs, hq, hx⟩ := hg
    obtain ⟨its, rv, p, hz⟩ := I.list hq
    obtain ⟨f0, f1, f2, f3, f4, f5⟩ := hf it (by simp)
    have hl := rv.length
    exact wpAny_pyNext_list_end (I.ok.hd hc) st p.isList (by simp; omega) fun h' eb => ⟨rfl, I.turned (t' := s.toks) (fun b o hb e => eb b o hb e) f0 f1 f3 f4 f5⟩
  self := fun _ _ _ _ _ st h => wpAny_pyIter_listiter st h
theorem turn_tuple {P : Program} {w : World} {K : PySem.W.Frag} {tg : Expr} (a it : Addr) : Turn P w K tg (Itt K a) [it] it (fun i h => h.IsTupleIter it a i) where
  mem := by simp
  obj := fun i h st b hb => by
    have e : b = it := by simpa using hb
    subst e
    obtain ⟨o, e, c, d⟩ := st
    exact ⟨o, e, fun v z => by rw [d] at z; cases z⟩
  keep := fun i h h' st k => st.at fun o e => k it (by simp) o e
  item := by
    intro X hP hw hK hc i pins s σ H E I hf st hg
    subst hP hw hK
    obtain ⟨xs, x, hq, hx⟩ := hg
    obtain ⟨its, rv, p, hz⟩ := I.tuple hq
    obtain ⟨u, hu, ru⟩ := rv.get hx
    obtain ⟨f0, f1, f2, f3, f4, f5⟩ := hf it (by simp)
    refine wpAny_pyNext_tuple_item st (show s.heap.IsTuple a its.toArray from p) (x := u) (by simpa using hu) fun h' st' sb => ?_
    have I1 : Inv X pins σ H { s with heap := h' } := I.turned (t' := s.toks) (fun b o hb e => (sb.2 b hb).trans e) f0 f1 f3 f4 f5
    obtain ⟨o, e, c, d⟩ := id st'
    exact ⟨u, rfl, go_of (s := { s with heap := h' }) e c d (by decide) ⟨x, H, I1, ru, ⟨rfl, fun ys hy => by rw [I.tuple_inj hy hq]; exact hx⟩, st', fun b hb => (hf b hb).1⟩⟩
  done := by
    intro X hP hw hK hc i pins s σ H E I hf st hg
    subst hP hw hK
    obtain ⟨xs, hq, hx⟩ := hg
    obtain ⟨its, rv, p, hz⟩ := I.tuple hq
    obtain ⟨f0, f1, f2, f3, f4, f5⟩ := hf it (by simp)
    have hl := rv.length
    exact wpAny_pyNext_tuple_end (I.ok.hd hc) st (show s.heap.IsTuple a its.toArray from p) (by simp; omega) fun h' eb => ⟨rfl, I.turned (t' := s.toks) (fun b o hb e => eb b o hb e) f0 f1 f3 f4 f5⟩
  self := fun _ _ _ _ _ st h => wpAny_pyIter_tupleiter st h
theorem turn_range {P : Program} {w : World} {K : PySem.W.Frag} {tg : Expr} (it : Addr) (lo : Int) (n : Nat) : Turn P w K tg (Itr lo n) [it] it (fun i h => IsRangeIter h it (lo + (i : Nat) * 1) ((n : Int) - (i : Nat)) 1) where
  mem := by simp
  obj := fun i h st b hb => by
    have e : b = it := by simpa using hb
    subst e
    exact ⟨_, st, fun v z => by
      have z' : Data.fields _ = Data.cell v := z
      cases z'⟩
  keep := fun i h h' st k => k it (by simp) _ st
  item := by
    intro X hP hw hK hc i pins s σ H E I hf st hg
    subst hP hw hK
    obtain ⟨f0, f1, f2, f3, f4, f5⟩ := hf it (by simp)
    have W := Walks.range (prog := X.prog) (w := X.w) (I.ok.hd hc) it lo 1 n
    refine W.item i s _ _ hg st fun v h' tk hv st' kk => ?_
    obtain ⟨t, rfl⟩ := hv
    have I1 : Inv X pins σ H { s with heap := h', toks := tk } := I.turned (fun b o hb e => kk b o (by simpa using hb) e) f0 f1 f3 f4 f5
    refine ⟨_, rfl, go_of (s := { s with heap := h', toks := tk }) (n := "range_iterator") st' rfl rfl (by decide) ⟨.int (lo + i), H, I1, ⟨t, ?_⟩, ⟨rfl, rfl⟩, st', fun b hb => (hf b hb).1⟩⟩
    rw [Int.mul_one]
  done := by
    intro X hP hw hK hc i pins s σ H E I hf st hg
    subst hP hw hK
    obtain ⟨f0, f1, f2, f3, f4, f5⟩ := hf it (by simp)
    exact wpAny_pyNext_range_end (I.ok.hd hc) st (by have : n ≤ i := hg; omega) fun h' eb => ⟨rfl, I.turned (t' := s.toks) (fun b o hb e => eb b o hb e) f0 f1 f3 f4 f5⟩
  self := fun _ _ _ _ _ st h => wpAny_pyIter_rangeiter st h
end L2

namespace L2
open PySem PySem.Spec PyProof.Rows
section
variable {X : Cx} {tg : Expr}
def iList (K : PySem.W.Frag) (tl : TE) : TI := fun σ H R => tl σ H fun x H1 => ∃ a, x = .ref a ∧ (∃ xs, SqL K H1 a xs) ∧ R (Itl K a) H1
def iTup (K : PySem.W.Frag) (tl : TE) : TI := fun σ H R => tl σ H fun x H1 => ∃ a, x = .ref a ∧ (∃ xs, SqT K H1 a xs) ∧ R (Itt K a) H1
theorem pi_list {l : Expr} {tl : TE} (hl : PE X l tl) : PI X tg l (iList X.K tl) := by
  intro pins s σ H R I h
  refine thn (hl pins s σ H _ I h) fun v s1 ⟨x, H1, I1, r1, q1⟩ => ?_
  obtain ⟨a, e, ⟨xs, hq⟩, q⟩ := q1
  subst e
  cases r1
  obtain ⟨its, rv, p, hz⟩ := I1.list hq
  refine wpAny_pyIter_list p.isList ?_
  refine ⟨s1.heap.objs.size, [s1.heap.objs.size], _, _, H1, rfl, I1.kept (t' := s1.toks) fun b o e => Heap.get?_push_of_some _ e, turn_list a _, ⟨_, Heap.get?_push_size _ rfl, rfl, rfl⟩, fun b hb => ?_, q⟩
  have e : b = s1.heap.objs.size := by simpa using hb
  subst e
  exact I1.fpOk (Nat.le_refl _) (I1.hok.fresh (Nat.le_refl _))
theorem pi_tup {l : Expr} {tl : TE} (hl : PE X l tl) : PI X tg l (iTup X.K tl) := by
  intro pins s σ H R I h
  refine thn (hl pins s σ H _ I h) fun v s1 ⟨x, H1, I1, r1, q1⟩ => ?_
  obtain ⟨a, e, ⟨xs, hq⟩, q⟩ := q1
  subst e
  cases r1
  obtain ⟨its, rv, p, hz⟩ := I1.tuple hq
  refine wpAny_pyIter_tuple (show s1.heap.IsTuple a its.toArray from p) ?_
  refine ⟨s1.heap.objs.size, [s1.heap.objs.size], _, _, H1, rfl, I1.kept (t' := s1.toks) fun b o e => Heap.get?_push_of_some _ e, turn_tuple a _, ⟨_, Heap.get?_push_size _ rfl, rfl, rfl⟩, fun b hb => ?_, q⟩
  have e : b = s1.heap.objs.size := by simpa using hb
  subst e
  exact I1.fpOk (Nat.le_refl _) (I1.hok.fresh (Nat.le_refl _))
/-- a range object just made, walked -/
theorem range_it {pins : List (Addr × Obj)} {σ : St} {H : Hp} {s : Shared} {R : It → Hp → Prop} {E : Value → Shared → Prop} {lo hi : Int} {t u v : Tok} {tk : Nat} (I : Inv X pins σ H s) (h1 : -(2 ^ 62) ≤ lo) (h2 : lo < 2 ^ 62) (h3 : -(2 ^ 62) ≤ hi) (h4 : hi < 2 ^ 62)
    (q : R (Itr lo (hi - lo).toNat) H) : wpAny (model X.prog X.w) X.A (pyIter (.ref s.heap.objs.size)) (PIE X pins σ tg R) E { s with heap := s.heap.push { cls := .type "range", data := .fields #[.int lo t, .int hi u, .int 1 v] }, toks := tk } := by
  refine wpAny_pyIter_range (IsRange.new ..) (small_one h1 h2 h3 h4) ?_
  have I1 : Inv X pins σ H { s with heap := s.heap.push { cls := .type "range", data := .fields #[.int lo t, .int hi u, .int 1 v] }, toks := tk } := I.kept fun b o e => Heap.get?_push_of_some _ e
  refine ⟨(s.heap.push { cls := .type "range", data := .fields #[.int lo t, .int hi u, .int 1 v] }).objs.size, [(s.heap.push { cls := .type "range", data := .fields #[.int lo t, .int hi u, .int 1 v] }).objs.size], _, _, H, rfl,
    I1.kept (t' := tk) fun b o e => Heap.get?_push_of_some _ e, turn_range _ lo (hi - lo).toNat, ?_, fun b hb => ?_, q⟩
  · have e1 : lo + ((0 : Nat) : Int) * 1 = lo := by simp
    have e2 : (((hi - lo).toNat : Nat) : Int) - ((0 : Nat) : Int) = Builtin.Range.rangeSize lo hi 1 := by rw [rangeSize_one]; split <;> omega
    show IsRangeIter _ _ (lo + ((0 : Nat) : Int) * 1) ((((hi - lo).toNat : Nat) : Int) - ((0 : Nat) : Int)) 1
    rw [e1, e2]
    exact Heap.get?_push_size _ rfl
  · have e : b = (s.heap.push { cls := .type "range", data := .fields #[.int lo t, .int hi u, .int 1 v] }).objs.size := by simpa using hb
    subst e
    exact I1.fpOk (Nat.le_refl _) (I1.hok.fresh (Nat.le_refl _))
def iRng1 (ta : TA) : TI := fun σ H R => ta σ H fun vs H1 => ∃ j : Int, vs = [.int j] ∧ -(2 ^ 62) ≤ j ∧ j < 2 ^ 62 ∧ R (Itr 0 j.toNat) H1
theorem pi_range1 {a : Expr} {ta : TA} {p pos : Pos} (hg : Gl X "range") (hm : X.mg "range" = none) (ha : PA X [a] ta) (hs : starEach [a] X.env = [(false, eval a X.env)] := by rfl) : PI X tg (.Call (.Name "range" p) [a] [] pos) (iRng1 ta) := by
  intro pins s σ H R I h
  refine Call_ (ld_blt I hg hm boot_range (PyProof.Rows.callWith_type1 (thn (ha pos pins s σ H _ I h) fun us s1 ⟨vs, H1, I1, r1, q1⟩ => ?_) hs rfl))
  obtain ⟨j, e, q1, q2, q⟩ := q1
  subst e
  cases r1 with
  | cons r rr =>
    cases rr
    obtain ⟨t, rfl⟩ := r
    exact call_range_1 (range_it I1 (by omega) (by omega) q1 q2 (by simpa using q))

/-! ### for -/
/-- W: the invariant by the turn and a measure; N: what the body is to reach -/
def tFor (wi : TI) (g : TG) (tb : TS) : TS := fun D σ H => wi σ H fun J H1 => ∃ W : Nat → Nat → St → Hp → Prop, (∃ m, W 0 m σ H1) ∧ ∀ i m σ H, W i m σ H →
  (J.stop i H ∧ D.nx σ H) ∨ (J.go i H ∧ ∃ N : St → Hp → Prop, (∀ σ' H', N σ' H' → ∃ m', m' < m ∧ W (i + 1) m' σ' H') ∧ ∀ x H', J.yld i H x H' → g x σ H' fun σ2 H2 => tb { D with nx := N, ct := N, bk := D.nx } σ2 H2)
/-- the records at fp as they stand -/
def pinsAt (fp : List Addr) (h : Heap) : List (Addr × Obj) := fp.filterMap fun b => (h.get? b).map fun o => (b, o)
theorem mem_pinsAt {fp : List Addr} {h : Heap} {b : Addr} {o : Obj} (hb : b ∈ fp) (e : h.get? b = some o) : (b, o) ∈ pinsAt fp h := List.mem_filterMap.mpr ⟨b, hb, by rw [e]; rfl⟩
theorem of_pinsAt {fp : List Addr} {h : Heap} {p : Addr × Obj} (hp : p ∈ pinsAt fp h) : p.1 ∈ fp ∧ h.get? p.1 = some p.2 := by
  obtain ⟨b, hb, e⟩ := List.mem_filterMap.mp hp
  cases q : h.get? b with
  | none => rw [q] at e; cases e
  | some o =>
    rw [q] at e
    have e' : (b, o) = p := Option.some.inj e
    subst e'
    exact ⟨hb, q⟩
theorem Inv.pinned {pins : List (Addr × Obj)} {σ : St} {H : Hp} {s : Shared} {fp : List Addr} (I : Inv X pins σ H s) (hf : ∀ b ∈ fp, FpOk X pins H b) (ho : ∀ b ∈ fp, ∃ o, s.heap.get? b = some o ∧ ∀ v, o.data ≠ .cell v) : Inv X (pins ++ pinsAt fp s.heap) σ H s :=
  I.pins_of fun p hp => (List.mem_append.mp hp).elim (fun z => I.pin p (List.mem_append_right _ z)) fun z => by
    obtain ⟨hb, e⟩ := of_pinsAt z
    obtain ⟨f0, f1, f2, _⟩ := hf p.1 hb
    obtain ⟨o, e', d⟩ := ho p.1 hb
    rw [e] at e'; cases e'
    exact ⟨e, f0, f1, f2, d⟩
theorem Inv.unpinned {pins pl : List (Addr × Obj)} {σ : St} {H : Hp} {s : Shared} (I : Inv X (pins ++ pl) σ H s) : Inv X pins σ H s := I.pins_of fun p hp => I.pin p (List.mem_append_right _ (List.mem_append_left _ hp))
theorem ps_for {iter : Expr} {body : List Stmt} {wi : TI} {g : TG} {tb : TS} {pos : Pos} (hp : PassesOwn (model X.prog X.w) X.A X.env X.xe) (hc : X.calm = true) (hi : PI X tg iter wi) (hg : PG X tg g) (hb : PSs X body tb)
    (hs : ∀ x, foldedSetIterable iter X.env x = pure x := by intro _; rfl) : PS X (.For tg iter body [] pos) (tFor wi g tb) := by
  intro pins s σ H D I h
  refine wpAny_For (thn (hi pins s σ H _ I h) fun v s1 h1 => thn h1 fun itv s2 h2 => ?_) hs
  obtain ⟨it, fp, tn, J, H2, e, I2, T, st2, f2, W, ⟨m0, w0⟩, turn⟩ := h2
  subst e
  -- what stays true of the iterator's objects through the loop
  have stat : ∀ {H' : Hp}, (∀ b ∈ fp, H' b = none) → ∀ b ∈ fp, FpOk X pins H' b := fun hn b hb => ⟨hn b hb, (f2 b hb).2⟩
  refine codeAny_forLoop_any (fun n s' => ∃ i σ' H', Inv X pins σ' H' s' ∧ tn i s'.heap ∧ (∀ b ∈ fp, H' b = none) ∧ W i n σ' H') ?_ m0 ⟨0, σ, H2, I2, st2, fun b hb => (f2 b hb).1, w0⟩
  rintro n s3 ⟨i, σ3, H3, I3, st3, fr3, w3⟩
  rcases turn i n σ3 H3 w3 with ⟨stop, qn⟩ | ⟨go, N, hN, step⟩
  · refine wpAny_passesOwn hp (thn (T.done X rfl rfl rfl hc i pins s3 σ3 H3 X.xe I3 (stat fr3) st3 stop) fun r s4 ⟨hr, I4⟩ => ?_)
    subst hr
    exact wpAny_execs_nil ⟨σ3, H3, I4, qn⟩
  · refine wpAny_passesOwn hp (thn (T.item X rfl rfl rfl hc i pins s3 σ3 H3 X.xe I3 (stat fr3) st3 go) fun r s4 ⟨u, hr, h4⟩ => ?_)
    subst hr
    refine wpAny_passesOwn hp (thn h4 fun _ s5 ⟨x, H5, I5, r5, y5, st5, fr5⟩ => ?_)
    have I5' := I5.pinned (stat fr5) (T.obj _ _ st5)
    refine wpAny_passesOwn hp (thn (hg _ s5 σ3 H5 x u _ I5' r5 (step x H5 y5)) fun _ s6 ⟨σ6, H6, I6, q6⟩ => ?_)
    refine wpAny_passesOwn hp (thn (hb _ s6 σ6 H6 _ I6 q6) fun f s7 q7 => ?_)
    have again : ∀ {σ7 : St} {H7 : Hp}, Inv X (pins ++ pinsAt fp s5.heap) σ7 H7 s7 → N σ7 H7 → ∃ m, m < n ∧ ∃ i σ' H', Inv X pins σ' H' s7 ∧ tn i s7.heap ∧ (∀ b ∈ fp, H' b = none) ∧ W i m σ' H' := fun {σ7 H7} I7 n7 => by
      obtain ⟨m', hm, w7⟩ := hN σ7 H7 n7
      refine ⟨m', hm, i + 1, σ7, H7, I7.unpinned, T.keep _ _ _ st5 fun b hb o e => (I7.pin (b, o) (List.mem_append_right _ (List.mem_append_right _ (mem_pinsAt hb e)))).1, fun b hb => ?_, w7⟩
      obtain ⟨o, e, d⟩ := T.obj _ _ st5 b hb
      exact (I7.pin (b, o) (List.mem_append_right _ (List.mem_append_right _ (mem_pinsAt hb e)))).2.1
    cases f with
    | next => obtain ⟨σ7, H7, I7, n7⟩ := q7; exact again I7 n7
    | cont => obtain ⟨σ7, H7, I7, n7⟩ := q7; exact again I7 n7
    | brk => obtain ⟨σ7, H7, I7, q7⟩ := q7; exact ⟨σ7, H7, I7.unpinned, q7⟩
    | ret v => obtain ⟨x7, σ7, H7, I7, r7, q7⟩ := q7; exact ⟨x7, σ7, H7, I7.unpinned, r7, q7⟩
end

/-! ### the forms one uses -/
/-- over a list that the body leaves as it is -/
theorem for_list {K : PySem.W.Frag} {a : Addr} {xs : List V} {g : TG} {tb : TS} {D : Ends} {σ : St} {H : Hp} (Pv : Nat → St → Hp → Prop) (h0 : Pv 0 σ H) (hl : ∀ i σ H, i ≤ xs.length → Pv i σ H → SqL K H a xs)
    (hs : ∀ i x σ H, xs[i]? = some x → Pv i σ H → g x σ H fun σ2 H2 => tb { D with nx := Pv (i + 1), ct := Pv (i + 1), bk := D.nx } σ2 H2) (hd : ∀ σ H, Pv xs.length σ H → D.nx σ H) :
    ∃ W : Nat → Nat → St → Hp → Prop, (∃ m, W 0 m σ H) ∧ ∀ i m σ H, W i m σ H →
      ((Itl K a).stop i H ∧ D.nx σ H) ∨ ((Itl K a).go i H ∧ ∃ N : St → Hp → Prop, (∀ σ' H', N σ' H' → ∃ m', m' < m ∧ W (i + 1) m' σ' H') ∧ ∀ x H', (Itl K a).yld i H x H' → g x σ H' fun σ2 H2 => tb { D with nx := N, ct := N, bk := D.nx } σ2 H2) := by
  refine ⟨fun i m σ H => m = xs.length - i ∧ i ≤ xs.length ∧ Pv i σ H, ⟨xs.length, by simp, Nat.zero_le _, h0⟩, ?_⟩
  rintro i m σ H ⟨rfl, hi, p⟩
  have q := hl i σ H hi p
  by_cases hlt : i < xs.length
  · refine .inr ⟨⟨xs, xs[i], q, by simp [hlt]⟩, Pv (i + 1), fun σ' H' p' => ⟨xs.length - (i + 1), by omega, rfl, hlt, p'⟩, fun x H' y => ?_⟩
    obtain ⟨e, y⟩ := y
    subst e
    exact hs i x σ _ (y xs q) p
  · have e : i = xs.length := by omega
    subst e
    exact .inl ⟨⟨xs, q, Nat.le_refl _⟩, hd σ H p⟩
theorem for_range {lo : Int} {n : Nat} {g : TG} {tb : TS} {D : Ends} {σ : St} {H : Hp} (Pv : Nat → St → Hp → Prop) (h0 : Pv 0 σ H)
    (hs : ∀ i σ H, i < n → Pv i σ H → g (.int (lo + i)) σ H fun σ2 H2 => tb { D with nx := Pv (i + 1), ct := Pv (i + 1), bk := D.nx } σ2 H2) (hd : ∀ σ H, Pv n σ H → D.nx σ H) :
    ∃ W : Nat → Nat → St → Hp → Prop, (∃ m, W 0 m σ H) ∧ ∀ i m σ H, W i m σ H →
      ((Itr lo n).stop i H ∧ D.nx σ H) ∨ ((Itr lo n).go i H ∧ ∃ N : St → Hp → Prop, (∀ σ' H', N σ' H' → ∃ m', m' < m ∧ W (i + 1) m' σ' H') ∧ ∀ x H', (Itr lo n).yld i H x H' → g x σ H' fun σ2 H2 => tb { D with nx := N, ct := N, bk := D.nx } σ2 H2) := by
  refine ⟨fun i m σ H => m = n - i ∧ i ≤ n ∧ Pv i σ H, ⟨n, by simp, Nat.zero_le _, h0⟩, ?_⟩
  rintro i m σ H ⟨rfl, hi, p⟩
  by_cases hlt : i < n
  · refine .inr ⟨hlt, Pv (i + 1), fun σ' H' p' => ⟨n - (i + 1), by omega, rfl, hlt, p'⟩, fun x H' y => ?_⟩
    obtain ⟨e, y⟩ := y
    subst e y
    exact hs i σ _ hlt p
  · have e : i = n := by omega
    subst e
    exact .inl ⟨Nat.le_refl _, hd σ H p⟩
end L2

namespace L2
open PySem PySem.Spec PyProof.Rows

abbrev R2 := V → V → Hp → VK → Prop
/-- a two-place operation on values: f is binaryOp op, inplaceOp op or compareOp op -/
def OpR (X : Cx) (f : Value → Value → Sem Value) (r : R2) : Prop :=
  ∀ (pins : List (Addr × Obj)) (s : Shared) (σ : St) (H : Hp) (x y : V) (v u : Value) (Q : VK), Inv X pins σ H s → RelV x v → RelV y u → r x y H Q →
    wpAny (model X.prog X.w) X.A (f v u) (EP X pins σ Q) X.xe s
/-- a call of a value that is known (a builtin, a type) with values -/
def CallR (X : Cx) (f : Value) (r : List V → Hp → VK → Prop) : Prop :=
  ∀ (pins : List (Addr × Obj)) (s : Shared) (σ : St) (H : Hp) (xs : List V) (us : List Value) (Q : VK), Inv X pins σ H s → Vals xs us → r xs H Q →
    wpAny (model X.prog X.w) X.A (call f us) (EP X pins σ Q) X.xe s
/-- a value's truth -/
def TruR (X : Cx) (r : V → Hp → (Bool → Hp → Prop) → Prop) : Prop :=
  ∀ (pins : List (Addr × Obj)) (s : Shared) (σ : St) (H : Hp) (x : V) (v : Value) (Q : Bool → Hp → Prop), Inv X pins σ H s → RelV x v → r x H Q →
    wpAny (model X.prog X.w) X.A (truthy v) (TP X pins σ Q) X.xe s

def tOp (r : R2) (ta tb : TE) : TE := fun σ H Q => ta σ H fun x H1 => tb σ H1 fun y H2 => r x y H2 Q
/-- ints in, under C, and a value out -/
def rI (C : Int → Int → Prop) (g : Int → Int → V) : R2 := fun x y H Q => ∃ i j, x = .int i ∧ y = .int j ∧ C i j ∧ Q (g i j) H
def rI0 (g : Int → Int → V) : R2 := fun x y H Q => ∃ i j, x = .int i ∧ y = .int j ∧ Q (g i j) H

section
variable {X : Cx} {a b c : Expr} {ta tb tc : TE} {pos : Pos}

theorem binT (ha : PE X a ta) (hb : PE X b tb) {pins : List (Addr × Obj)} {s : Shared} {σ : St} {H : Hp} {R : V → V → Hp → Prop} (I : Inv X pins σ H s)
    (h : ta σ H fun x H1 => tb σ H1 fun y H2 => R x y H2) {Q : Value → Shared → Prop} {f : Value → Value → Sem Value}
    (hf : ∀ v u s2 x y H2, Inv X pins σ H2 s2 → RelV x v → RelV y u → R x y H2 → wpAny (model X.prog X.w) X.A (f v u) Q X.xe s2) :
    wpAny (model X.prog X.w) X.A (eval a X.env) (fun v s₁ => wpAny (model X.prog X.w) X.A (eval b X.env) (fun u s₂ => wpAny (model X.prog X.w) X.A (f v u) Q X.xe s₂) X.xe s₁) X.xe s := by
  refine thn (ha pins s σ H _ I h) fun v s1 ⟨x, H1, I1, r1, q1⟩ => ?_
  refine thn (hb pins s1 σ H1 _ I1 q1) fun u s2 ⟨y, H2, I2, r2, q2⟩ => ?_
  exact hf v u s2 x y H2 I2 r1 r2 q2

theorem pe_op {op : Operator} {r : R2} (ho : OpR X (binaryOp op) r) (ha : PE X a ta) (hb : PE X b tb) : PE X (.BinOp a op b pos) (tOp r ta tb) := by
  intro pins s σ H Q I h
  exact wpAny_BinOp (binT ha hb I h fun v u s2 x y H2 I2 rx ry q => ho pins s2 σ H2 x y v u Q I2 rx ry q)

/-! ### ints -/
theorem opI {f : Value → Value → Sem Value} {C : Int → Int → Prop} {g : Int → Int → Int}
    (rule : ∀ (i j : Int) (t u : Tok) (s : Shared) (Q : Value → Shared → Prop) (E : Value → Shared → Prop), C i j → Q (.int (g i j) s.toks) { s with toks := s.toks + 1 } → wpAny (model X.prog X.w) X.A (f (.int i t) (.int j u)) Q E s) :
    OpR X f (rI C fun i j => .int (g i j)) := by
  intro pins s σ H x y v u Q I rx ry h
  obtain ⟨i, j, rfl, rfl, hc, q⟩ := h
  obtain ⟨t, rfl⟩ := rx
  obtain ⟨t', rfl⟩ := ry
  exact rule i j t t' s _ _ hc ⟨.int (g i j), H, I.tok _, ⟨_, rfl⟩, q⟩
theorem opI0 {f : Value → Value → Sem Value} {g : Int → Int → Int}
    (rule : ∀ (i j : Int) (t u : Tok) (s : Shared) (Q : Value → Shared → Prop) (E : Value → Shared → Prop), Q (.int (g i j) s.toks) { s with toks := s.toks + 1 } → wpAny (model X.prog X.w) X.A (f (.int i t) (.int j u)) Q E s) :
    OpR X f (rI0 fun i j => .int (g i j)) := by
  intro pins s σ H x y v u Q I rx ry h
  obtain ⟨i, j, rfl, rfl, q⟩ := h
  obtain ⟨t, rfl⟩ := rx
  obtain ⟨t', rfl⟩ := ry
  exact rule i j t t' s _ _ ⟨.int (g i j), H, I.tok _, ⟨_, rfl⟩, q⟩
theorem opB0 {f : Value → Value → Sem Value} {g : Int → Int → Bool}
    (rule : ∀ (i j : Int) (t u : Tok) (s : Shared) (Q : Value → Shared → Prop) (E : Value → Shared → Prop), Q (.bool (g i j)) s → wpAny (model X.prog X.w) X.A (f (.int i t) (.int j u)) Q E s) :
    OpR X f (rI0 fun i j => .bl (g i j)) := by
  intro pins s σ H x y v u Q I rx ry h
  obtain ⟨i, j, rfl, rfl, q⟩ := h
  obtain ⟨t, rfl⟩ := rx
  obtain ⟨t', rfl⟩ := ry
  exact rule i j t t' s _ _ ⟨.bl (g i j), H, I, rfl, q⟩

def CDiv (i j : Int) : Prop := 0 < j ∧ j < 1073741824
def CPow (i j : Int) : Prop := 0 ≤ j ∧ j ≤ 1000000 ∧ i.natAbs < 2 ^ 64
def CMul (i j : Int) : Prop := (-(2 ^ 64) < i ∧ i < 2 ^ 64) ∨ (-(2 ^ 64) < j ∧ j < 2 ^ 64)
theorem CMul.ok {i j : Int} (h : CMul i j) : IntMulOk i j := by
  rcases h with ⟨h1, h2⟩ | ⟨h1, h2⟩
  · exact .of_left (intBits_le_64 h1 h2)
  · exact .of_right (intBits_le_64 h1 h2)

theorem op_add : OpR X (binaryOp .Add) (rI0 fun i j => .int (i + j)) := opI0 fun _ _ _ _ _ _ _ q => add_int q
theorem op_sub : OpR X (binaryOp .Sub) (rI0 fun i j => .int (i - j)) := opI0 fun _ _ _ _ _ _ _ q => sub_int q
theorem op_mul : OpR X (binaryOp .Mult) (rI CMul fun i j => .int (i * j)) := opI fun _ _ _ _ _ _ _ hc q => mul_int q hc.ok
/-- // by a positive divisor -/
theorem op_fdiv : OpR X (binaryOp .FloorDiv) (rI CDiv fun i j => .int (i / j)) := opI fun i j _ _ _ _ _ hc q => by
  have h1 : (0 : Int) < j := hc.1
  have h2 : j < 1073741824 := hc.2
  exact floordiv_int (by omega) (by rw [Int.fdiv_eq_ediv_of_nonneg i (by omega)]; exact q) (.inl (PyProof.noPylong_small (by omega)))
/-- % by a positive divisor of any size -/
theorem op_mod : OpR X (binaryOp .Mod) (rI (fun _ j => 0 < j) fun i j => .int (i % j)) := opI fun i j _ _ _ _ _ hc q => by
  have h1 : (0 : Int) < j := hc
  exact mod_int' (by omega) (by rw [Int.fmod_eq_emod_of_nonneg i (by omega)]; exact q)
theorem op_pow : OpR X (binaryOp .Pow) (rI CPow fun i j => .int (i ^ j.toNat)) := opI fun _ _ _ _ _ _ _ hc q => pow_int_small hc.1 hc.2.1 hc.2.2 q



/-! ### bools among ints: n += (a < b) -/
end

/-! ### comparisons -/
/-- the scalars that == tells apart as data does -/
def scal : V → V → Bool
  | .non, .non => true | .non, .int _ => true | .int _, .non => true | .non, .bl _ => true | .bl _, .non => true | .non, .str _ => true | .str _, .non => true
  | .int _, .int _ => true | .bl _, .bl _ => true | .str _, .str _ => true | .byt _, .byt _ => true
  | .int _, .str _ => true | .str _, .int _ => true | .bl _, .str _ => true | .str _, .bl _ => true
  | _, _ => false
def rEq : R2 := fun x y H Q => scal x y = true ∧ Q (.bl (decide (x = y))) H
def rNe : R2 := fun x y H Q => scal x y = true ∧ Q (.bl (!decide (x = y))) H

theorem dec_int {i j : Int} : decide (V.int i = V.int j) = (i == j) := by
  rw [Bool.eq_iff_iff]
  simp
theorem dec_bl {i j : Bool} : decide (V.bl i = V.bl j) = (i == j) := by
  rw [Bool.eq_iff_iff]
  simp
theorem dec_str {i j : Str} : decide (V.str i = V.str j) = (i == j) := by
  rw [Bool.eq_iff_iff]
  simp
theorem dec_byt {i j : Array UInt8} : decide (V.byt i = V.byt j) = (i.toList == j.toList) := by
  rw [Bool.eq_iff_iff]
  cases i
  cases j
  simp

section
variable {X : Cx} {a b c : Expr} {ta tb tc : TE} {pos : Pos}
theorem fin_bl {pins : List (Addr × Obj)} {σ : St} {H : Hp} {s : Shared} {Q : VK} {k k' : Bool} (I : Inv X pins σ H s) (q : Q (.bl k) H) (e : k = k') : EP X pins σ Q (.bool k') s := by
  subst e
  exact ⟨.bl k, H, I, rfl, q⟩
theorem op_eq : OpR X (compareOp .Eq) rEq := by
  intro pins s σ H x y v u Q I rx ry h
  obtain ⟨hs, q⟩ := h
  cases x with
  | non =>
    cases rx
    cases y with
    | non => cases ry; exact PySem.EqNone.eq_none_none (fin_bl I q (by simp))
    | bl j => cases ry; exact PySem.EqNone.eq_none_bool (fin_bl I q (by simp))
    | int j => obtain ⟨t', rfl⟩ := ry; exact PySem.EqNone.eq_none_int (fin_bl I q (by simp))
    | str j => obtain ⟨t', rfl⟩ := ry; exact PySem.EqNone.eq_none_str (fin_bl I q (by simp))
    | _ => exact absurd (show false = true from hs) Bool.false_ne_true
  | bl i =>
    cases rx
    cases y with
    | non => cases ry; exact PySem.EqNone.eq_bool_none (fin_bl I q (by simp))
    | bl j => cases ry; exact eq_bool (fin_bl I q dec_bl)
    | str j => obtain ⟨t', rfl⟩ := ry; exact PySem.EqMixed.eq_bool_str (fin_bl I q (by simp))
    | _ => exact absurd (show false = true from hs) Bool.false_ne_true
  | int i =>
    obtain ⟨t, rfl⟩ := rx
    cases y with
    | non => cases ry; exact PySem.EqNone.eq_int_none (fin_bl I q (by simp))
    | int j => obtain ⟨t', rfl⟩ := ry; exact eq_int (fin_bl I q dec_int)
    | str j => obtain ⟨t', rfl⟩ := ry; exact PySem.EqMixed.eq_int_str (fin_bl I q (by simp))
    | _ => exact absurd (show false = true from hs) Bool.false_ne_true
  | str i =>
    obtain ⟨t, rfl⟩ := rx
    cases y with
    | non => cases ry; exact PySem.EqNone.eq_str_none (fin_bl I q (by simp))
    | bl j => cases ry; exact PySem.EqMixed.eq_str_bool (fin_bl I q (by simp))
    | int j => obtain ⟨t', rfl⟩ := ry; exact PySem.EqMixed.eq_str_int (fin_bl I q (by simp))
    | str j => obtain ⟨t', rfl⟩ := ry; exact eq_str (fin_bl I q dec_str)
    | _ => exact absurd (show false = true from hs) Bool.false_ne_true
  | byt i =>
    obtain ⟨t, rfl⟩ := rx
    cases y with
    | byt j => obtain ⟨t', rfl⟩ := ry; exact PySem.W.eq_bytes (fin_bl I q dec_byt)
    | _ => exact absurd (show false = true from hs) Bool.false_ne_true
  | _ => cases y <;> exact absurd (show false = true from hs) Bool.false_ne_true
theorem op_ne : OpR X (compareOp .NotEq) rNe := by
  intro pins s σ H x y v u Q I rx ry h
  obtain ⟨hs, q⟩ := h
  cases x with
  | non =>
    cases rx
    cases y with
    | non => cases ry; exact PySem.EqNone.ne_none_none (fin_bl I q (by simp))
    | bl j => cases ry; exact PySem.EqNone.ne_none_bool (fin_bl I q (by simp))
    | int j => obtain ⟨t', rfl⟩ := ry; exact PySem.EqNone.ne_none_int (fin_bl I q (by simp))
    | str j => obtain ⟨t', rfl⟩ := ry; exact PySem.EqNone.ne_none_str (fin_bl I q (by simp))
    | _ => exact absurd (show false = true from hs) Bool.false_ne_true
  | bl i =>
    cases rx
    cases y with
    | non => cases ry; exact PySem.EqNone.ne_bool_none (fin_bl I q (by simp))
    | bl j => cases ry; exact ne_bool (fin_bl I q (congrArg not dec_bl))
    | str j => obtain ⟨t', rfl⟩ := ry; exact PySem.EqMixed.ne_bool_str (fin_bl I q (by simp))
    | _ => exact absurd (show false = true from hs) Bool.false_ne_true
  | int i =>
    obtain ⟨t, rfl⟩ := rx
    cases y with
    | non => cases ry; exact PySem.EqNone.ne_int_none (fin_bl I q (by simp))
    | int j => obtain ⟨t', rfl⟩ := ry; exact ne_int (fin_bl I q (congrArg not dec_int))
    | str j => obtain ⟨t', rfl⟩ := ry; exact PySem.EqMixed.ne_int_str (fin_bl I q (by simp))
    | _ => exact absurd (show false = true from hs) Bool.false_ne_true
  | str i =>
    obtain ⟨t, rfl⟩ := rx
    cases y with
    | non => cases ry; exact PySem.EqNone.ne_str_none (fin_bl I q (by simp))
    | bl j => cases ry; exact PySem.EqMixed.ne_str_bool (fin_bl I q (by simp))
    | int j => obtain ⟨t', rfl⟩ := ry; exact PySem.EqMixed.ne_str_int (fin_bl I q (by simp))
    | str j => obtain ⟨t', rfl⟩ := ry; exact ne_str (fin_bl I q (congrArg not dec_str))
    | _ => exact absurd (show false = true from hs) Bool.false_ne_true
  | byt i =>
    obtain ⟨t, rfl⟩ := rx
    cases y with
    | byt j => obtain ⟨t', rfl⟩ := ry; exact PySem.W.ne_bytes (fin_bl I q (congrArg not dec_byt))
    | _ => exact absurd (show false = true from hs) Bool.false_ne_true
  | _ => cases y <;> exact absurd (show false = true from hs) Bool.false_ne_true

theorem op_lt : OpR X (compareOp .Lt) (rI0 fun i j => .bl (decide (i < j))) := opB0 fun _ _ _ _ _ _ _ q => lt_int q
theorem op_le : OpR X (compareOp .LtE) (rI0 fun i j => .bl (decide (i ≤ j))) := opB0 fun _ _ _ _ _ _ _ q => le_int q
theorem op_gt : OpR X (compareOp .Gt) (rI0 fun i j => .bl (decide (j < i))) := opB0 fun _ _ _ _ _ _ _ q => gt_int q
theorem op_ge : OpR X (compareOp .GtE) (rI0 fun i j => .bl (decide (j ≤ i))) := opB0 fun _ _ _ _ _ _ _ q => ge_int q
/-- the one string within the other -/
theorem op_in_str : OpR X (compareOp .In) (fun x y H Q => ∃ i j, x = .str i ∧ y = .str j ∧ Q (.bl (!(Builtin.Str.occurrences j i 0 j.length 1).isEmpty)) H) := by
  intro pins s σ H x y v u Q I rx ry h
  obtain ⟨i, j, rfl, rfl, q⟩ := h
  obtain ⟨t, rfl⟩ := rx
  obtain ⟨t', rfl⟩ := ry
  exact in_str (fin_bl I q rfl)

/-- is None, is not None: the right side a value none -/
theorem op_isN : OpR X (compareOp .Is) (fun x y H Q => y = .non ∧ Q (.bl (decide (x = .non))) H) := by
  intro pins s σ H x y v u Q I rx ry h
  obtain ⟨rfl, q⟩ := h
  cases ry
  refine is_none_gen (fin_bl I q ?_)
  cases x <;> first
    | (cases rx; rfl)
    | (obtain ⟨t, rfl⟩ := rx; rfl)
theorem op_notN : OpR X (compareOp .IsNot) (fun x y H Q => y = .non ∧ Q (.bl (!decide (x = .non))) H) := by
  intro pins s σ H x y v u Q I rx ry h
  obtain ⟨rfl, q⟩ := h
  cases ry
  refine isnot_none_gen (fin_bl I q ?_)
  cases x <;> first
    | (cases rx; rfl)
    | (obtain ⟨t, rfl⟩ := rx; rfl)


/-- two rules for one operation: by cases -/
theorem OpR.or {f : Value → Value → Sem Value} {r r' : R2} (h : OpR X f r) (h' : OpR X f r') : OpR X f (fun x y H Q => r x y H Q ∨ r' x y H Q) := by
  intro pins s σ H x y v u Q I rx ry q
  rcases q with q | q
  · exact h pins s σ H x y v u Q I rx ry q
  · exact h' pins s σ H x y v u Q I rx ry q

theorem nomark (b : Expr) {op : CmpOp} (h : op ≠ .In := by decide) (h2 : op ≠ .NotIn := by decide) : behindInMarks op b = false := by
  have e1 : (op == CmpOp.In) = false := by cases op <;> first | rfl | exact absurd rfl h
  have e2 : (op == CmpOp.NotIn) = false := by cases op <;> first | rfl | exact absurd rfl h2
  cases b <;> simp [behindInMarks, e1, e2]
/-- a comparison as a value; hm: nomark b, or (for in, not in) by with_unfolding_all rfl -/
theorem pe_cmpR {op : CmpOp} {r : R2} (ho : OpR X (compareOp op) r) (ha : PE X a ta) (hb : PE X b tb) (hm : behindInMarks op b = false) : PE X (.Compare a [op] [b] pos) (tOp r ta tb) := by
  intro pins s σ H Q I h
  exact wpAny_Compare1 (binT ha hb I h fun v u s2 x y H2 I2 rx ry q => ho pins s2 σ H2 x y v u Q I2 rx ry q) hm
/-- a reading of a value as a test -/
def tTest (t : TE) : TT := fun σ H Q => t σ H fun x H' => ∃ k, x = .bl k ∧ Q k H'
theorem pt_cmpR {op : CmpOp} {r : R2} (ho : OpR X (compareOp op) r) (ha : PE X a ta) (hb : PE X b tb) (hm : behindInMarks op b = false) : PT X (.Compare a [op] [b] pos) (tTest (tOp r ta tb)) := by
  intro pins s σ H Q I h
  refine wpAny_isTrue_Compare1 (thn (ha pins s σ H _ I h) fun v s1 ⟨x, H1, I1, r1, q1⟩ => thn (hb pins s1 σ H1 _ I1 q1) fun u s2 ⟨y, H2, I2, r2, q2⟩ =>
    thn (ho pins s2 σ H2 x y v u _ I2 r1 r2 q2) fun c s3 ⟨z, H3, I3, r3, k, e, q3⟩ => ?_) hm
  subst e
  cases r3
  exact wpAny_truthy_bool ⟨H3, I3, q3⟩

/-! ### truth -/
/-- a value's truth by the abstract heap -/
def TruV (K : PySem.W.Frag) (x : V) (H : Hp) (k : Bool) : Prop :=
  match x with
  | .non => k = false
  | .bl b => k = b
  | .int i => k = (i != 0)
  | .str y => y.length ≤ sizeLine ∧ k = ((y.length : Int) != 0)
  | .byt y => y.size ≤ sizeLine ∧ k = ((y.size : Int) != 0)
  | .ref p => (∃ xs, SqL K H p xs ∧ k = !xs.isEmpty) ∨ (∃ xs, SqT K H p xs ∧ k = !xs.isEmpty) ∨ ∃ kvs, H p = some (.dK kvs) ∧ k = !kvs.isEmpty
  | _ => False
theorem isEmpty_kv {κ : Type} {kvs : List (κ × V)} {vs : List (κ × Value)} (r : KV kvs vs) : (!vs.isEmpty) = !kvs.isEmpty := by
  cases r <;> rfl
theorem isEmpty_of {xs : List V} {its : List Value} (r : Vals xs its) : (!its.toArray.isEmpty) = !xs.isEmpty := by
  cases r <;> simp
theorem line63 : (sizeLine : Nat) < 2 ^ 63 := by rw [sizeLine_eq]; decide
theorem tru_ok : TruR X (fun x H Q => ∃ k, TruV X.K x H k ∧ Q k H) := by
  intro pins s σ H x v Q I rx h
  obtain ⟨k, e, q⟩ := h
  have hl := line63
  have hs : sizeLine = 16777216 := sizeLine_eq
  cases x with
  | non =>
    cases rx
    have e' : k = false := e
    subst e'
    exact truthy_none ⟨H, I, q⟩
  | bl b =>
    cases rx
    have e' : k = b := e
    subst e'
    exact wpAny_truthy_bool ⟨H, I, q⟩
  | int i =>
    obtain ⟨t, rfl⟩ := rx
    have e' : k = (i != 0) := e
    subst e'
    exact PySem.P.truthy_int ⟨H, I, q⟩
  | str y =>
    obtain ⟨t, rfl⟩ := rx
    obtain ⟨hy, e'⟩ : y.length ≤ sizeLine ∧ k = ((y.length : Int) != 0) := e
    subst e'
    exact PySem.P.truthy_str (by omega) ⟨H, I.tok _, q⟩
  | byt y =>
    obtain ⟨t, rfl⟩ := rx
    obtain ⟨hy, e'⟩ : y.size ≤ sizeLine ∧ k = ((y.size : Int) != 0) := e
    subst e'
    exact PySem.W.truthy_bytes (by omega) ⟨H, I.tok _, q⟩
  | ref p =>
    cases rx
    have e' : (∃ xs, SqL X.K H p xs ∧ k = !xs.isEmpty) ∨ (∃ xs, SqT X.K H p xs ∧ k = !xs.isEmpty) ∨ ∃ kvs, H p = some (.dK kvs) ∧ k = !kvs.isEmpty := e
    rcases e' with ⟨xs, hx, e'⟩ | ⟨xs, hx, e'⟩ | ⟨kvs, hx, e'⟩
    · subst e'
      obtain ⟨its, r, pl, hz⟩ := I.list hx
      have hlen := r.length
      exact wpAny_truthy_list pl.isList (by simp only [List.size_toArray]; omega) ⟨H, I.tok _, by rw [isEmpty_of r]; exact q⟩
    · subst e'
      obtain ⟨its, r, pl, hz⟩ := I.tuple hx
      have hlen := r.length
      exact truthy_tuple pl (by simp only [List.size_toArray]; omega) ⟨H, I.tok _, by rw [isEmpty_of r]; exact q⟩
    · subst e'
      obtain ⟨hz, hS, vs, r, m⟩ : kvs.length ≤ sizeLine ∧ (p == sysModules) = false ∧ ∃ vs, KV kvs vs ∧ s.heap.DictOf (mixKind X.prog X.w) p vs := I.hok p _ hx
      have hlen : kvs.length = vs.length := Paired.length r
      exact wpAny_truthy_dict hS m (by omega) ⟨H, I.tok _, by rw [isEmpty_kv r]; exact q⟩
  | _ => exact (show False from e).elim
/-- any expression whose test is its value's truth (a name, a call, a subscript, a field ..: he by fun _ => rfl) -/
theorem pt_truth (ha : PE X a ta) (he : ∀ whole, isTrue a X.env whole = (do let v ← whole; standAt a.pos; holding [v] (truthy v))) :
    PT X a (fun σ H Q => ta σ H fun x H' => ∃ k, TruV X.K x H' k ∧ Q k H') := by
  intro pins s σ H Q I h
  exact isTrue_plain (thn (ha pins s σ H _ I h) fun v s1 ⟨x, H1, I1, r1, q1⟩ => tru_ok pins s1 σ H1 x v Q I1 r1 q1) (he _)

/-! ### strs and bytes -/
theorem op_add_str : OpR X (binaryOp .Add) (fun x y H Q => ∃ i j, x = .str i ∧ y = .str j ∧ i.length + j.length ≤ sizeLine ∧ Q (.str (i ++ j)) H) := by
  intro pins s σ H x y v u Q I rx ry h
  obtain ⟨i, j, rfl, rfl, hz, q⟩ := h
  obtain ⟨t, rfl⟩ := rx
  obtain ⟨t', rfl⟩ := ry
  exact add_str (fun t' tk => ⟨.str (i ++ j), H, I.tok _, ⟨_, rfl⟩, q⟩) hz


/-! ### scalar builtins, by CallR -/
theorem vals1 {x : V} {us : List Value} (r : Vals [x] us) : ∃ u, us = [u] ∧ RelV x u := by
  cases r with
  | cons r1 r2 => cases r2; exact ⟨_, rfl, r1⟩
theorem vals2 {x y : V} {us : List Value} (r : Vals [x, y] us) : ∃ u w', us = [u, w'] ∧ RelV x u ∧ RelV y w' := by
  cases r with
  | cons r1 r2 =>
    cases r2 with
    | cons r3 r4 => cases r4; exact ⟨_, _, rfl, r1, r3⟩
theorem call_max2 (hc : X.calm = true) : CallR X (.builtin "max") (fun xs H Q => ∃ i j, xs = [.int i, .int j] ∧ Q (.int (if j > i then j else i)) H) := by
  intro pins s σ H xs us Q I r h
  obtain ⟨i, j, rfl, q⟩ := h
  obtain ⟨u, w', rfl, ⟨t, rfl⟩, ⟨t', rfl⟩⟩ := vals2 r
  refine max_two_ints (I.ok.hd hc) fun h' tk k => ⟨_, H, I.kept k, ?_, q⟩
  by_cases hj : j > i
  · rw [if_pos hj, if_pos hj]; exact ⟨_, rfl⟩
  · rw [if_neg hj, if_neg hj]; exact ⟨_, rfl⟩
theorem call_int1 : CallR X (.type "int") (fun xs H Q => (∃ i, xs = [.int i] ∧ Q (.int i) H) ∨ ∃ k, xs = [.bl k] ∧ Q (.int (if k then 1 else 0)) H) := by
  intro pins s σ H xs us Q I r h
  rcases h with ⟨i, rfl, q⟩ | ⟨k, rfl, q⟩
  · obtain ⟨u, rfl, t, rfl⟩ := vals1 r
    exact call_int_int ⟨.int i, H, I, ⟨_, rfl⟩, q⟩
  · obtain ⟨u, rfl, r1⟩ := vals1 r
    cases r1
    exact call_int_bool ⟨.int (if k then 1 else 0), H, I.tok _, ⟨_, rfl⟩, q⟩
theorem call_str_int : CallR X (.type "str") (fun xs H Q => ∃ i, xs = [.int i] ∧ i.natAbs.log2 < 1920 ∧ Q (.str (toString i)) H) := by
  intro pins s σ H xs us Q I r h
  obtain ⟨i, rfl, hz, q⟩ := h
  obtain ⟨u, rfl, t, rfl⟩ := vals1 r
  exact PySem.P.str_of_int hz ⟨.str _, H, I.tok _, ⟨_, rfl⟩, q⟩
/-- len of a str, a bytes, a list, a tuple -/
def LenV (K : PySem.W.Frag) (x : V) (H : Hp) (n : Nat) : Prop :=
  match x with
  | .str y => y.length ≤ sizeLine ∧ n = y.length
  | .byt y => y.size ≤ sizeLine ∧ n = y.size
  | .ref p => (∃ xs, SqL K H p xs ∧ n = xs.length) ∨ ∃ xs, SqT K H p xs ∧ n = xs.length
  | _ => False
theorem call_len : CallR X (.builtin "len") (fun xs H Q => ∃ x n, xs = [x] ∧ LenV X.K x H n ∧ Q (.int n) H) := by
  intro pins s σ H xs us Q I r h
  obtain ⟨x, n, rfl, e, q⟩ := h
  obtain ⟨u, rfl, rx⟩ := vals1 r
  have hl := line63
  have hs : sizeLine = 16777216 := sizeLine_eq
  cases x with
  | str y =>
    obtain ⟨t, rfl⟩ := rx
    obtain ⟨hy, e'⟩ : y.length ≤ sizeLine ∧ n = y.length := e
    subst e'
    exact len_str (by omega) ⟨.int _, H, I.tok _, ⟨_, rfl⟩, q⟩
  | byt y =>
    obtain ⟨t, rfl⟩ := rx
    obtain ⟨hy, e'⟩ : y.size ≤ sizeLine ∧ n = y.size := e
    subst e'
    exact PySem.W.len_bytes (by omega) ⟨.int _, H, I.tok _, ⟨_, rfl⟩, q⟩
  | ref p =>
    cases rx
    have e' : (∃ xs, SqL X.K H p xs ∧ n = xs.length) ∨ ∃ xs, SqT X.K H p xs ∧ n = xs.length := e
    rcases e' with ⟨xs, hx, e'⟩ | ⟨xs, hx, e'⟩
    · subst e'
      obtain ⟨its, r', pl, hz⟩ := I.list hx
      have hlen := r'.length
      exact Calls.call_len_list pl.isList (by simp only [List.size_toArray]; omega) ⟨.int xs.length, H, I.tok _, ⟨_, by simp only [List.size_toArray]; rw [hlen]⟩, q⟩
    · subst e'
      obtain ⟨its, r', pl, hz⟩ := I.tuple hx
      have hlen := r'.length
      exact len_tuple pl (by simp only [List.size_toArray]; omega) ⟨.int xs.length, H, I.tok _, ⟨_, by simp only [List.size_toArray]; rw [hlen]⟩, q⟩
  | _ => exact (show False from e).elim
end
end L2

namespace L2
open PySem PySem.Spec PyProof.Rows

/-! ### an instance, its attributes a map -/
structure ObjM (h : Heap) (x dx C : Addr) (mA : Str → Option Value) : Prop where
  obj : h.get? x = some (PySem.W.instObj C dx)
  ns : h.Ns1 dx mA
  ne : dx ≠ x

theorem lookIn_ns {h : Heap} {dx : Addr} {mA : Str → Option Value} (n : h.Ns1 dx mA) : ∃ od, h.get? dx = some od ∧ ∀ name, PySem.W.lookIn name od = some (mA name) := by
  obtain ⟨o, es, ep, ho, hd, hk, _, hm⟩ := n
  refine ⟨o, ho, fun name => ?_⟩
  have e := hm name
  unfold nsFind findBy at e
  rw [← Array.find?_toList] at e
  unfold PySem.W.lookIn
  rw [hd]
  dsimp only
  split
  · rename_i y q
    rw [q] at e
    exact congrArg some e
  · rename_i q
    rw [q] at e
    have a : es.toList.any (·.refKey) = false := by
      rw [List.any_eq_false]
      intro y hy
      obtain ⟨z, t, hkey⟩ := hk y (Array.mem_toList_iff.mp hy)
      simp [DictEntry.refKey, hkey]
    have a' : ¬ es.toList.any (·.refKey) = true := by rw [a]; exact Bool.false_ne_true
    rw [if_neg a']
    exact congrArg some e

theorem ObjM.look {h : Heap} {x dx C : Addr} {mA : Str → Option Value} (I : ObjM h x dx C mA) : ∃ od, PySem.W.InstAt h x (PySem.W.instObj C dx) C (some od) ∧ ∀ name, PySem.W.lookIn name od = some (mA name) :=
  let ⟨od, ho, hl⟩ := lookIn_ns I.ns
  ⟨od, ⟨I.obj, rfl, rfl, ho⟩, hl⟩

section
variable {prog : Program} {w : World} {A : Around} {E : Value → Shared → Prop} {s : Shared} {K : PySem.W.Frag} {x dx C f : Addr} {mA : Str → Option Value} {name : Str} {v : Value}





end

/-! ### the attributes as a list of pairs -/

theorem RelO.some_of {v : V} {o : Option Value} (r : RelO (some v) o) : ∃ u, o = some u ∧ RelV v u := by
  cases o with
  | none => exact (show False from r).elim
  | some u => exact ⟨u, rfl, r⟩

section
variable {P : Program} {w : World} {H H' : Hp} {h h' : Heap} {a C dx : Addr} {fs fs' : List (Str × V)}
theorem ins_get (hok : HOk P w H h) (e : H a = some (.ins C dx fs)) : ∃ mA, ObjM h a dx C mA ∧ (∀ f, RelO (fs.lookup f) (mA f)) ∧ PySem.Within mA (fs.map (·.1)) ∧ fs.length ≤ 1000 ∧ H dx = some (.own a) := by
  obtain ⟨d, z, ne, ob, mA, n, r, q⟩ := (show ObjOk P w H h a (.ins C dx fs) from hok a _ e)
  exact ⟨mA, ⟨ob, n, ne⟩, r, q, z, d⟩
end

/-! ### what of the text a class must have -/
structure Cls (K : PySem.W.Frag) (C : Addr) : Prop where
  pg : PySem.W.plainGet K C Str.empty = true
  hd : PySem.W.hasDictIn K C = true
  po : PySem.W.plainOver K C = true
  sa : PySem.W.findIn K (.ref C) "__setattr__" = some (some (.builtin "object.__setattr__"))
theorem Cls.get {K : PySem.W.Frag} {C : Addr} (c : Cls K C) (f : Str) : PySem.W.plainGet K C f = true := c.pg

section
variable {X : Cx} {pins : List (Addr × Obj)} {σ : St} {H : Hp} {s : Shared} {a C dx : Addr} {fs : List (Str × V)} {f : Str} {v : V} {A : Around} {E : Value → Shared → Prop}






end

/-! ### readings and rules -/

section
variable {X : Cx} {o e value : Expr} {f : Str} {pos pos' tpos : Pos} {ta tv : TE}

end

/-! ### isinstance -/
section
variable {X : Cx} {pins : List (Addr × Obj)} {σ : St} {H : Hp} {s : Shared} {A : Around} {E : Value → Shared → Prop} {Q : Value → Shared → Prop} {c : Value} {b : Bool}
/-- the type of a value, as the fragment's deciders take it; for an instance its class -/
inductive TyOf (K : PySem.W.Frag) (H : Hp) : V → Value → Prop where
  | non : TyOf K H .non (.type "NoneType")
  | bl (x : Bool) : TyOf K H (.bl x) (.type "bool")
  | int (i : Int) : TyOf K H (.int i) (.type "int")
  | str (x : Str) : TyOf K H (.str x) (.type "str")
  | flt (x : UInt64) : TyOf K H (.flt x) (.type "float")
  | lst {a : Addr} {xs : List V} (e : H a = some (.lst xs)) : TyOf K H (.ref a) (.type "list")
  | frz {a : Addr} {o : Obj} {xs : List V} (e : H a = some (.frz o (.lst xs))) : TyOf K H (.ref a) (.type "list")
  | tup {a : Addr} {xs : List V} (e : H a = some (.tup xs)) : TyOf K H (.ref a) (.type "tuple")
  | dK {a : Addr} {kvs : List (Key × V)} (e : H a = some (.dK kvs)) : TyOf K H (.ref a) (.type "dict")
  | dT {a : Addr} {kvs : List (List Key × V)} (e : H a = some (.dT kvs)) : TyOf K H (.ref a) (.type "dict")
  | ins {a C dx : Addr} {fs : List (Str × V)} (e : H a = some (.ins C dx fs)) (cl : Cls K C) (ha : PySem.W.findIn K (.ref C) "__class__" = some (some (.builtin "object.__class__")))
      (hn : PySem.W.specialIn K (.builtin "object.__class__") "__get__" = some (some (.builtin "getset_descriptor.__get__"))) (htk : PySem.W.takesIn K (.builtin "object.__class__") = some true)
      (hm : PySem.W.mroIn K C (.type "object") = some true) : TyOf K H (.ref a) (.ref C)
/-- isinstance(x, c) for one class c, a built-in or an own one: kitOne's answer -/
theorem isinst_ok {x : V} {u t : Value} (I : Inv X pins σ H s) (rx : RelV x u) (ty : TyOf X.K H x t) (e : PySem.W.kitOne X.K t c = some b) (h : ∀ tk, Q (.bool b) { s with toks := tk }) :
    wpAny (model X.prog X.w) A (call (.builtin "isinstance") [u, c]) Q E s := by
  cases ty with
  | non => cases (show u = Value.none from rx); exact PySem.W.kia_one PySem.W.kitx_none I.kIn True.intro e (fun z => nomatch z) h
  | bl y => cases (show u = Value.bool y from rx); exact PySem.W.kia_one PySem.W.kitx_bool I.kIn True.intro e (fun z => nomatch z) h
  | int i => obtain ⟨t, q⟩ := (show ∃ t, u = Value.int i t from rx); cases q; exact PySem.W.kia_one PySem.W.kitx_int I.kIn True.intro e (fun z => nomatch z) h
  | str y => obtain ⟨t, q⟩ := (show ∃ t, u = Value.str y t from rx); cases q; exact PySem.W.kia_one PySem.W.kitx_str I.kIn True.intro e (fun z => nomatch z) h
  | flt y => obtain ⟨t, q⟩ := (show ∃ t, u = Value.float y t from rx); cases q; exact PySem.W.kia_one PySem.W.kitx_float I.kIn True.intro e (fun z => nomatch z) h
  | @lst a xs ea =>
    cases (show u = Value.ref a from rx)
    obtain ⟨_, _, n, _, h1⟩ := (show ObjOk X.prog X.w H s.heap a (.lst xs) from I.hok a _ ea)
    exact PySem.W.kia_one PySem.W.kitx_list I.kIn ⟨_, h1, rfl⟩ e (fun z => nomatch z) h
  | @frz a ob xs ea =>
    cases (show u = Value.ref a from rx)
    obtain ⟨_, _, _, n, _, h1⟩ := (show ObjOk X.prog X.w H s.heap a (.frz ob (.lst xs)) from I.hok a _ ea)
    exact PySem.W.kia_one PySem.W.kitx_list I.kIn ⟨_, h1, rfl⟩ e (fun z => nomatch z) h
  | @tup a xs ea =>
    cases (show u = Value.ref a from rx)
    obtain ⟨_, _, _, p⟩ := (show ObjOk X.prog X.w H s.heap a (.tup xs) from I.hok a _ ea)
    obtain ⟨o, h1, h2, _⟩ := p
    exact PySem.W.kia_one PySem.W.kitx_tuple I.kIn ⟨o, h1, h2⟩ e (fun z => nomatch z) h
  | @dK a kvs ea =>
    cases (show u = Value.ref a from rx)
    obtain ⟨_, _, vs, _, p⟩ := (show ObjOk X.prog X.w H s.heap a (.dK kvs) from I.hok a _ ea)
    obtain ⟨o, es, ep, h1, h2, _⟩ := p
    exact PySem.W.kia_one PySem.W.kitx_dict I.kIn ⟨o, h1, h2.1⟩ e (fun z => nomatch z) h
  | @dT a kvs ea =>
    cases (show u = Value.ref a from rx)
    obtain ⟨_, _, xs, _, o, es, ep, h1, h2, _⟩ := (show ObjOk X.prog X.w H s.heap a (.dT kvs) from I.hok a _ ea)
    exact PySem.W.kia_one PySem.W.kitx_dict I.kIn ⟨o, h1, h2.1⟩ e (fun z => nomatch z) h
  | @ins a C dx fs ea cl ha hn htk hm =>
    cases (show u = Value.ref a from rx)
    obtain ⟨mA, O, _⟩ := ins_get I.hok ea
    obtain ⟨od, J, _⟩ := O.look
    exact PySem.W.kia_one (PySem.W.kitx_own (cl.get _) cl.hd ha hn htk hm) I.kIn J e (fun z => nomatch z) h
end
end L2

namespace L2
open PySem PySem.Spec PyProof.Rows

/-! ### room -/
structure Room (k : Nat) (A : Around) : Prop where
  hd : A.handled = none
  dp : A.depth + 3 * k + 5 < recursionLimit
  un : A.units + 16 * k + 200 < cLine
theorem Room.mono {j k : Nat} {A : Around} (r : Room k A) (h : j ≤ k) : Room j A := ⟨r.hd, by have := r.dp; omega, by have := r.un; omega⟩
theorem Room.deeper {k : Nat} {A : Around} (r : Room (k + 1) A) (env : Env) : Room k (A.deeper env) :=
  ⟨r.hd, by have := r.dp; show A.depth + 1 + 3 * k + 5 < _; omega, by have := r.un; show A.units + 3 + 16 * k + 200 < _; omega⟩
theorem Room.depth {k : Nat} {A : Around} (r : Room k A) : A.depth < recursionLimit := by have := r.dp; omega
theorem Room.units {k : Nat} {A : Around} (r : Room k A) : A.units + 64 < cLine := by have := r.un; omega

/-! ### argument lists and displays -/
def tNil : TA := fun _ H Q => Q [] H
def tCons (ta : TE) (tr : TA) : TA := fun σ H Q => ta σ H fun x H1 => tr σ H1 fun xs H2 => Q (x :: xs) H2
section
variable {X : Cx} {e : Expr} {es : List Expr} {te : TE} {t : TA} {pos : Pos}
theorem pa_nil : PA X [] tNil := fun _ _ _ _ H Q I h => Calls.spliced_nil ⟨[], H, I, .nil, h⟩
theorem pa_cons (ha : PE X e te) (hr : PA X es t) (hs : starEach (e :: es) X.env = (false, eval e X.env) :: starEach es X.env := by rfl) : PA X (e :: es) (tCons te t) := by
  intro pos pins s σ H Q I h
  rw [hs]
  show wpAny _ _ (spliced ((false, eval e X.env) :: backTo pos (starEach es X.env))) _ _ s
  refine Calls.spliced_cons (thn (ha pins s σ H _ I h) fun u s1 ⟨x, H1, I1, r1, q1⟩ => ?_)
  exact thn (hr pos pins s1 σ H1 _ I1 q1) fun us s2 ⟨xs, H2, I2, r2, q2⟩ => ⟨x :: xs, H2, I2, .cons r1 r2, q2⟩

/-- a tuple, a list of written items -/
def tTup (t : TA) : TE := fun σ H Q => t σ H fun xs H1 => xs.length ≤ sizeLine ∧ ∀ p, H1 p = none → Q (.ref p) (upd H1 p (.tup xs))
def tLst (t : TA) : TE := fun σ H Q => t σ H fun xs H1 => xs.length ≤ sizeLine ∧ ∀ p, H1 p = none → Q (.ref p) (upd H1 p (.lst xs))
theorem pe_tup {x1} (h : PA X es t) : PE X (.Tuple es x1 pos) (tTup t) := by
  intro pins s σ H Q I hq
  refine wpAny_Tuple_spliced (thn (h pos pins s σ H _ I hq) fun us s1 ⟨xs, H1, I1, r, z, q⟩ => ⟨by rw [← r.length]; exact z, ?_⟩)
  have hf : H1 s1.heap.objs.size = none := I1.hok.fresh (Nat.le_refl _)
  refine ⟨.ref s1.heap.objs.size, upd H1 s1.heap.objs.size (.tup xs), I1.laid (t' := s1.toks) (fun b u e => Heap.get?_push_of_some _ e) (Nat.le_refl _) ?_, rfl, q _ hf⟩
  exact ⟨z, us, r, ⟨_, Heap.get?_push_size _ rfl, rfl, _, rfl⟩⟩
theorem pe_lst (h : PA X es t) : PE X (.List es pos) (tLst t) := by
  intro pins s σ H Q I hq
  refine wpAny_List_spliced (thn (h pos pins s σ H _ I hq) fun us s1 ⟨xs, H1, I1, r, z, q⟩ => ⟨by rw [← r.length]; exact z, ?_⟩)
  have hf : H1 s1.heap.objs.size = none := I1.hok.fresh (Nat.le_refl _)
  refine ⟨.ref s1.heap.objs.size, upd H1 s1.heap.objs.size (.lst xs), I1.laid (t' := s1.toks) (fun b u e => Heap.get?_push_of_some _ e) (Nat.le_refl _) ?_, rfl, q _ hf⟩
  exact ⟨z, us, 0, r, Heap.get?_push_size _ rfl⟩
end

/-! ### what a def promises -/
/-- a def's promise: the bound arguments in the parameters' order, the heap, the wanted end, the wanted exception -/
abbrev Sp := List V → Hp → VK → XK → Prop
/-- how an exception lies behind a call (file 08 gives it): the callers' frames, abstract heap and state ahead of the call, the wish, the exception, the state -/
abbrev CXT := List Env → Hp → Shared → XK → Value → Shared → Prop

/-- the state at a call -/
structure Env0 (P : Program) (w : World) (K : PySem.W.Frag) (mg : Str → Option Value) (base : Heap) (A : Around) (outer : List Env) (s : Shared) (H : Hp) : Prop where
  frames : A.frames = some outer
  mod : Mod K mg base
  bs : ∀ b o, base.get? b = some o → s.heap.get? b = some o ∧ H b = none
  bsz : base.objs.size ≤ s.heap.objs.size
  funs : s.heap.FunFrames base outer
  frf : ∀ b ∈ frs outer, H b = none
  hok : HOk P w H s.heap
  bare : AllBare s.gens
/-- a call's end -/
def CE (outer : List Env) (P : Program) (w : World) (H : Hp) (s : Shared) (Q : VK) (u : Value) (s' : Shared) : Prop :=
  ∃ v H', s'.os = s.os ∧ AllBare s'.gens ∧ Un (frs outer) [] H H' s.heap s'.heap ∧ HOk P w H' s'.heap ∧ RelV v u ∧ Q v H'
def CR (CX : CXT) (outer : List Env) (P : Program) (w : World) (H : Hp) (s : Shared) (Q : VK) (E : XK) (r : Result) (s' : Shared) : Prop :=
  match r with
  | .ok (.ret u) => CE outer P w H s Q u s'
  | .ok _ => False
  | .error e => CX outer H s E e s'
structure FnOk (P : Program) (w : World) (K : PySem.W.Frag) (mg : Str → Option Value) (base : Heap) (CX : CXT) (k : Nat) (f : Addr) (fd : FuncData) (ps : List Str) (sp : Sp) : Prop where
  len : ∀ vs H Q E, sp vs H Q E → vs.length = ps.length
  run : ∀ (A : Around) (outer : List Env) (s : Shared) (H : Hp) (args : Args) (us : List Value) (vs : List V) (Q : VK) (E : XK), Room k A → Env0 P w K mg base A outer s H → BindsTo s fd args (ps.zip us) → Vals vs us → sp vs H Q E →
    codeAny (model P w) A (.call (.ref f) args) (CR CX outer P w H s Q E) s


section
variable {X : Cx} {pins : List (Addr × Obj)} {σ : St} {H : Hp} {s s' : Shared}
/-- from a body: what a callee wants -/
theorem Inv.env0 (I : Inv X pins σ H s) : Env0 X.prog X.w X.K X.mg X.base X.A X.stack s H :=
  ⟨I.ok.frames, I.ok.mod, I.bs, Nat.le_trans I.ok.bsz I.sz, I.stack, I.stkFree, I.hok, I.bare⟩
/-- behind a call -/
theorem Inv.after {Q : VK} {u : Value} (I : Inv X pins σ H s) (h : CE X.stack X.prog X.w H s Q u s') : EP X pins σ Q u s' := by
  obtain ⟨v, H', os, bare, un, hok, r, q⟩ := h
  obtain ⟨hh, g, d, t, os'⟩ := s'
  obtain rfl : os' = s.os := os
  exact ⟨v, H', I.call (h' := hh) (g' := g) (d' := d) (t' := t) (ch := []) un hok bare (fun b z => absurd z (by simp)), r, q⟩
end

/-! ### calls -/
/-- f(..): the written arguments, then the defaults dvs; E: what is wanted of an exception -/
def tCall (sp : Sp) (dvs : List V) (E : XK) (t : TA) : TE := fun σ H Q => t σ H fun vs H1 => sp (vs ++ dvs) H1 Q E

/-- how the parameters are bound: us the positional arguments, kw the keywords' values by name, ds the defaults that fill up -/
def Binds (K : PySem.W.Frag) (fd : FuncData) (ps : List Str) (ds : List Value) : Prop :=
  ∀ (s : Shared) (us : List Value), K.In s.heap → (us ++ ds).length = ps.length → BindsTo s fd ⟨us, []⟩ (ps.zip (us ++ ds))
/-- every parameter is given -/
theorem Binds.all {K : PySem.W.Frag} {fd : FuncData} {ps : List Str} (h : ∀ us : List Value, us.length = ps.length → bindArgs fd ⟨us, []⟩ = pure (ps.zip us)) : Binds K fd ps [] := fun s us _ hl => by
  rw [List.append_nil] at hl ⊢
  exact .of_eq (h us hl)

/-- an exception of a callee reaches what this body wants of exceptions -/
def Passes (CX : CXT) (X : Cx) (E : XK) : Prop := ∀ (pins : List (Addr × Obj)) (σ : St) (H : Hp) (s : Shared) (e : Value) (s' : Shared), Inv X pins σ H s → CX X.stack H s E e s' → X.xe e s'

section
variable {X : Cx} {CX : CXT} {k : Nat} {f C : Addr} {fd : FuncData} {ps : List Str} {sp : Sp} {dvs : List V} {ds : List Value} {E : XK} {x m : Str} {p pos apos : Pos} {e o : Expr} {es : List Expr} {ta : TE} {t : TA}

/-- the callee runs -/
theorem run_fn {pins : List (Addr × Obj)} {σ : St} {H : Hp} {s : Shared} {Q : VK} {us : List Value} {vs : List V} (F : FnOk X.prog X.w X.K X.mg X.base CX k f fd ps sp) (hr : Room k X.A) (hb : Binds X.K fd ps ds) (hd : Vals dvs ds) (hx : Passes CX X E)
    (I : Inv X pins σ H s) (r : Vals vs us) (h : sp (vs ++ dvs) H Q E) : wpAny (model X.prog X.w) X.A (call (.ref f) us) (EP X pins σ Q) X.xe s := by
  have r2 : Vals (vs ++ dvs) (us ++ ds) := r.append hd
  have hl : (us ++ ds).length = ps.length := by rw [← r2.length]; exact F.len _ _ _ _ h
  refine wpAny_call (codeAny_mono (F.run X.A X.stack s H ⟨us, []⟩ (us ++ ds) (vs ++ dvs) Q E hr I.env0 (hb s us I.kIn hl) r2 h) fun r s' hq => ?_)
  cases r with
  | error e => exact hx pins σ H s e s' I hq
  | ok fl =>
    cases fl with
    | ret u => exact I.after hq
    | next => exact False.elim hq
    | brk => exact False.elim hq
    | cont => exact False.elim hq

theorem pe_call (F : FnOk X.prog X.w X.K X.mg X.base CX k f fd ps sp) (hr : Room k X.A) (hg : Gl X x) (hm : X.mg x = some (.ref f)) (hk : PySem.W.keepIn X.K (.ref f) = true) (hb : Binds X.K fd ps ds) (hd : Vals dvs ds) (hx : Passes CX X E)
    (ha : PA X (e :: es) t) (hdb : (x == ("__debug__" : Str)) = false := by decide) (he : starEach (e :: es) X.env = (false, eval e X.env) :: starEach es X.env := by rfl) (hpl : (backTo pos (starEach es X.env)).any (·.1) = false := by rfl) :
    PE X (.Call (.Name x p) (e :: es) [] pos) (tCall sp dvs E t) := by
  intro pins s σ H Q I h
  refine wpAny_Call_Name_kw (ld_glob I hg hm ?_ hdb)
  refine PySem.W.callWith_K (h₀ := X.base) I.ok.mod.kin hk (thn (ha pos pins s σ H _ I h) fun us s1 ⟨vs, H1, I1, r, q⟩ => ⟨I1.kIn, ?_⟩) he hpl
  exact run_fn F hr hb hd hx I1 r q



end

/-! ### keywords -/
section
variable {X : Cx} {CX : CXT} {k : Nat} {f C : Addr} {fd : FuncData} {ps ks : List Str} {sp : Sp} {E : XK} {x m : Str} {p pos apos kpos : Pos} {e o : Expr} {es : List Expr} {kws : List Keyword} {te ta : TE} {t tk : TA} {nm : Option Str}

variable {g : List Value → List Value → List Value} {gV : List V → List V → List V}
end

/-! ### a def's body keeps its promise -/
/-- names: the parameters first -/
structure FnScope (N P : List Str) (sc : Scope) : Prop where
  kind : sc.kind = .function
  co : sc.isCoroutine = false
  gen : sc.isGenerator = false
  nd : N.Nodup
  pre : N.take P.length = P
  par : ∀ x ∈ P, sc.names.lookup x = some .local ∨ sc.names.lookup x = some .cell
  nofree : ∀ y ∈ sc.names, y.2 ≠ .free

theorem bindL_out {kindOf : Str → Option NameKind} {x : Str} : ∀ {binds : List (Str × Value)} {m : Str → Option Value}, (∀ v, (x, v) ∉ binds) → bindL kindOf binds m x = m x
  | [], _, _ => rfl
  | (n, v) :: r, m, h => by
    unfold bindL
    rw [bindL_out fun w hw => h w (List.mem_cons_of_mem _ hw)]
    split
    · have : x ≠ n := by rintro rfl; exact h v List.mem_cons_self
      simp [this]
    · rfl
theorem bindC_out {kindOf : Str → Option NameKind} {x : Str} : ∀ {binds : List (Str × Value)} {m : Str → Option Value}, (∀ v, (x, v) ∉ binds) → bindC kindOf binds m x = m x
  | [], _, _ => rfl
  | (n, v) :: r, m, h => by
    unfold bindC
    rw [bindC_out fun w hw => h w (List.mem_cons_of_mem _ hw)]
    split
    · rfl
    · have : x ≠ n := by rintro rfl; exact h v List.mem_cons_self
      simp [this]
theorem bindL_get {kindOf : Str → Option NameKind} {x : Str} {v : Value} : ∀ {P : List Str} {vs : List Value} {i : Nat} {m : Str → Option Value}, P.Nodup → P[i]? = some x → vs[i]? = some v → kindOf x = some .local →
    bindL kindOf (P.zip vs) m x = some v
  | [], _, _, _, _, h, _, _ => by simp at h
  | _ :: _, [], _, _, _, _, h, _ => by simp at h
  | p :: P, w :: vs, 0, m, nd, h1, h2, hk => by
    simp at h1 h2; subst h1; subst h2
    show bindL kindOf ((p, w) :: P.zip vs) m p = _
    unfold bindL
    rw [bindL_out fun v hv => (List.nodup_cons.mp nd).1 (List.of_mem_zip hv).1, if_pos hk]
    simp
  | p :: P, w :: vs, i + 1, m, nd, h1, h2, hk => by
    show bindL kindOf ((p, w) :: P.zip vs) m x = _
    unfold bindL
    exact bindL_get (i := i) (List.nodup_cons.mp nd).2 (by simpa using h1) (by simpa using h2) hk
theorem bindC_get {kindOf : Str → Option NameKind} {x : Str} {v : Value} : ∀ {P : List Str} {vs : List Value} {i : Nat} {m : Str → Option Value}, P.Nodup → P[i]? = some x → vs[i]? = some v → kindOf x ≠ some .local →
    bindC kindOf (P.zip vs) m x = some v
  | [], _, _, _, _, h, _, _ => by simp at h
  | _ :: _, [], _, _, _, _, h, _ => by simp at h
  | p :: P, w :: vs, 0, m, nd, h1, h2, hk => by
    simp at h1 h2; subst h1; subst h2
    show bindC kindOf ((p, w) :: P.zip vs) m p = _
    unfold bindC
    rw [bindC_out fun v hv => (List.nodup_cons.mp nd).1 (List.of_mem_zip hv).1, if_neg hk]
    simp
  | p :: P, w :: vs, i + 1, m, nd, h1, h2, hk => by
    show bindC kindOf ((p, w) :: P.zip vs) m x = _
    unfold bindC
    exact bindC_get (i := i) (List.nodup_cons.mp nd).2 (by simpa using h1) (by simpa using h2) hk

/-- the names' values at the entry -/
def start (N : List Str) (vs : List V) : St := vs.map some ++ List.replicate (N.length - vs.length) none

/-- the context of a def's body, at its entry; an exception leaves the frame, then lies as CX says -/
def cxOf (CX : CXT) (P : Program) (w : World) (K : PySem.W.Frag) (mg : Str → Option Value) (base : Heap) (N : List Str) (qual : Str) (scope : Scope) (f : Addr) (cd : Value) (A : Around) (outer : List Env) (s : Shared) (H : Hp) (E : XK) : Cx where
  prog := P
  w := w
  K := K
  mg := mg
  base := base
  A := A.deeper (envOfC qual scope s.heap.objs.size f cd)
  N := N
  s₀ := s
  H₀ := H
  env := envOfC qual scope s.heap.objs.size f cd
  outer := outer
  stack := envOfC qual scope s.heap.objs.size f cd :: outer
  ex := []
  calm := true
  fn := fun _ => true
  pn := []
  xe := fun e s' => wpAny (model P w) (A.deeper (envOfC qual scope s.heap.objs.size f cd)) (leaving (envOfC qual scope s.heap.objs.size f cd) e) (fun _ s'' => CX outer H s E e s'') (fun e' s'' => CX outer H s E e' s'') s'

theorem cell_has {sc : Scope} {n : Nat} {x : Str} (h : sc.names.lookup x = some .cell) : ∃ c, (cellsFrom n sc.names []).lookup x = some c := by
  have q := PySem.W.cellsFrom_some sc.names n [] (.inl h)
  exact Option.isSome_iff_exists.mp q

theorem inv_start {CX : CXT} {P : Program} {w : World} {K : PySem.W.Frag} {mg : Str → Option Value} {base : Heap} {N ps : List Str} {qual : Str} {scope : Scope} {f : Addr} {cd : Value} {A : Around} {outer : List Env} {s s1 : Shared} {H : Hp} {E : XK} {us : List Value} {vs : List V}
    (S : FnScope N ps scope) (hd : A.handled = none) (e0 : Env0 P w K mg base A outer s H) (hl : vs.length = ps.length) (r : Vals vs us)
    (x : InCallC s s.heap.objs.size (bindL (envOfC qual scope s.heap.objs.size f cd).kindOf (ps.zip us) fun _ => none) (cellsFrom (s.heap.objs.size + 1) scope.names []) (bindC (envOfC qual scope s.heap.objs.size f cd).kindOf (ps.zip us) fun _ => none) s1) :
    Inv (cxOf CX P w K mg base N qual scope f cd A outer s H E) [] (start N vs) H s1 := by
  have hpl : ps.length ≤ N.length := by have := congrArg List.length S.pre; rw [List.length_take] at this; omega
  obtain ⟨h1, tk, rfl, hk⟩ := x.done
  have noA : ∀ b : Addr, b ∉ (cxOf CX P w K mg base N qual scope f cd A outer s H E).ex := fun b z => absurd (show b ∈ ([] : List Addr) from z) (by simp)
  refine ⟨⟨e0.mod, S.kind, rfl, rfl, Nat.le_refl _, fun y z c h1 h2 => ?_, fun y hy => ?_, fun y c _ h => ?_, fun _ => hd, Around.frames_deeper e0.frames, .inr ⟨rfl, rfl⟩, fun b z => absurd z (noA b), e0.bs, e0.bsz, fun b _ _ => noA b, fun b z => absurd z (noA b), e0.funs, e0.frf⟩,
    rfl, e0.bare, Un.kept hk, ⟨_, x.toInCall.ns, fun i y v h1 h2 h3 => ?_⟩, fun y c h => ⟨_, x.cell y c h⟩, e0.hok.fresh (Nat.le_refl _), fun y c h => ?_, fun p hp => absurd (show p ∈ ([] : List (Addr × Obj)) from hp) (by simp), e0.hok.kept hk, ?_⟩
  · exact name_of_addr x.apart (PySem.mem_of_lookup h1) (PySem.mem_of_lookup h2)
  · have hy : scope.names.lookup y = some .cell ∨ scope.names.lookup y = some .free := hy
    rcases hy with hy | hy
    · exact cell_has hy
    · exact absurd rfl (S.nofree _ (PySem.mem_of_lookup hy))
  · exact Nat.le_of_lt (x.above y c (PySem.mem_of_lookup h))
  · have hi : i < vs.length := by
      unfold start at h2
      by_cases hi : i < vs.length
      · exact hi
      · rw [List.getElem?_append_right (by simpa using hi)] at h2
        rw [List.getElem?_replicate] at h2
        split at h2 <;> cases h2
    have ha : vs[i]? = some v := by
      unfold start at h2
      rw [List.getElem?_append_left (by simpa using hi), List.getElem?_map] at h2
      cases e : vs[i]? with
      | none => rw [e] at h2; cases h2
      | some a => rw [e] at h2; cases h2; rfl
    obtain ⟨u, hu, rv⟩ := r.get ha
    have hp : ps[i]? = some y := by
      rw [← S.pre, List.getElem?_take_of_lt (by omega)]; exact h1
    have ndP : ps.Nodup := by rw [← S.pre]; exact S.nd.sublist (List.take_sublist _ _)
    refine ⟨u, rv, ?_⟩
    rcases S.par y (List.mem_of_getElem? hp) with k | k
    · exact .inl ⟨k, bindL_get ndP hp hu k⟩
    · obtain ⟨c, e⟩ := cell_has (n := s.heap.objs.size + 1) k
      refine .inr ⟨.inl k, c, e, ?_⟩
      have q := x.cell y c e
      rw [bindC_get ndP hp hu (by show scope.names.lookup y ≠ _; rw [k]; decide)] at q
      exact q
  · exact e0.hok.fresh (Nat.le_of_lt (x.above y c (PySem.mem_of_lookup h)))
  · unfold start
    show _ = N.length
    rw [List.length_append, List.length_map, List.length_replicate]
    omega

/-- THE RULE: a def (or a method) of the text, by its body. The body's reading t is chosen for each entry; it is run at the parameters' values -/
theorem fn_of {CX : CXT} {P : Program} {w : World} {K : PySem.W.Frag} {mg : Str → Option Value} {base : Heap} {k : Nat} {f : Addr} {name qual : Str} {params : Arguments} {body : List Stmt} {scope : Scope} {dV kV doc pm cdv ct oc : Value} {an od : Option Addr}
    {osl : Array (Option Value)} {N ps : List Str} {sp : Sp} (lk : K.lookup f = some ⟨oc, od, .func (PySem.W.fnOf name qual params body scope dV kV doc pm an cdv ct), osl⟩) (hcd : PySem.W.codeIn K cdv qual = true) (S : FnScope N ps scope)
    (len : ∀ vs H Q E, sp vs H Q E → vs.length = ps.length)
    (hbody : ∀ (A : Around) (outer : List Env) (s : Shared) (H : Hp) (vs : List V) (Q : VK) (E : XK), Room k (A.deeper (envOfC qual scope s.heap.objs.size f cdv)) → sp vs H Q E →
      ∃ t, PSs (cxOf CX P w K mg base N qual scope f cdv A outer s H E) body t ∧ t { nx := fun _ H' => Q .non H', rt := Q } (start N vs) H) :
    FnOk P w K mg base CX (k + 1) f (PySem.W.fnOf name qual params body scope dV kV doc pm an cdv ct) ps sp := by
  refine ⟨len, fun A outer s H args us vs Q E hr e0 hb r hsp => ?_⟩
  have hl := len _ _ _ _ hsp
  have KX : K.In s.heap := e0.mod.kin.keeps fun b o e => (e0.bs b o e).1
  have lim : s.heap.NoLimit := e0.mod.nolimit.keeps fun b o e => (e0.bs b o e).1
  have hkind : ∀ y ∈ ps.zip us, scope.names.lookup y.1 = some .local ∨ (scope.names.lookup y.1 = some .cell ∧ ((cellsFrom (s.heap.objs.size + 1) scope.names []).lookup y.1).isSome = true) := fun ⟨n, v⟩ hy => by
    rcases S.par n (List.of_mem_zip hy).1 with q | q
    · exact .inl q
    · exact .inr ⟨q, PySem.W.cellsFrom_some _ _ _ (.inl q)⟩
  refine codeAny_call_function hr.depth (KX _ _ lk) rfl S.co S.gen rfl (PySem.W.codeRec_of KX hcd) (hb _ _ _ _ ?_)
  refine wpAny_newFunctionEnv_cells S.kind hkind fun env he s1 x => ?_
  subst he
  refine ⟨lim.keeps x.toInCall.keep, codeAny_func ?_⟩
  obtain ⟨t, ht, hq⟩ := hbody A outer s H vs Q E (hr.deeper _) hsp
  have I : Inv (cxOf CX P w K mg base N qual scope f cdv A outer s H E) [] (start N vs) H s1 := inv_start S hr.hd e0 hl r x
  refine wpAny_mono (ht [] s1 (start N vs) H _ I hq) (fun fl s' hs => ?_) fun e s' hs => hs
  have fin : ∀ {σ' : St} {H' : Hp} {v : V} {u : Value}, Inv (cxOf CX P w K mg base N qual scope f cdv A outer s H E) [] σ' H' s' → RelV v u → Q v H' → CE outer P w H s Q u s' :=
    fun {σ' H' v u} J rv q => ⟨v, H', J.os, J.bare, J.base, J.hok, rv, q⟩
  cases fl with
  | ret u =>
    obtain ⟨v, σ', H', J, rv, q⟩ := hs
    exact fin J rv q
  | next =>
    obtain ⟨σ', H', J, q⟩ := hs
    exact fin (v := V.non) (u := Value.none) J rfl q
  | brk =>
    obtain ⟨_, _, _, q⟩ := hs
    exact False.elim q
  | cont =>
    obtain ⟨_, _, _, q⟩ := hs
    exact False.elim q
end L2

namespace L2
open PySem PySem.Spec PyProof.Rows
section
variable {X : Cx} {x : Str} {p pos : Pos} {e : Expr} {es : List Expr} {t : TA} {id T : String} {r : List V → Hp → VK → Prop}

def tCB (r : List V → Hp → VK → Prop) (t : TA) : TE := fun σ H Q => t σ H fun vs H1 => r vs H1 Q
/-- f(e, ..), f a built-in function -/
theorem pe_callB (hc : CallR X (.builtin id) r) (hg : Gl X x) (hm : X.mg x = none) (hv : bootBuiltins x = some (.builtin id)) (ha : PA X (e :: es) t) (hn : x ≠ "__name__" := by decide) (hdb : (x == ("__debug__" : Str)) = false := by decide)
    (he : starEach (e :: es) X.env = (false, eval e X.env) :: starEach es X.env := by rfl) (hpl : (backTo pos (starEach es X.env)).any (·.1) = false := by rfl) : PE X (.Call (.Name x p) (e :: es) [] pos) (tCB r t) := by
  intro pins s σ H Q I h
  refine wpAny_Call_Name_kw (ld_blt I hg hm hv ?_ hn hdb)
  exact PyProof.Rows.callWith_builtin1 (thn (ha pos pins s σ H _ I h) fun us s1 ⟨vs, H1, I1, r1, q1⟩ => hc pins s1 σ H1 vs us Q I1 r1 q1) he hpl
/-- T(e, ..), T a built-in type -/
theorem pe_callTy (hc : CallR X (.type T) r) (hg : Gl X x) (hm : X.mg x = none) (hv : bootBuiltins x = some (.type T)) (ha : PA X (e :: es) t) (hn : x ≠ "__name__" := by decide) (hdb : (x == ("__debug__" : Str)) = false := by decide)
    (he : starEach (e :: es) X.env = (false, eval e X.env) :: starEach es X.env := by rfl) (hpl : (backTo pos (starEach es X.env)).any (·.1) = false := by rfl) : PE X (.Call (.Name x p) (e :: es) [] pos) (tCB r t) := by
  intro pins s σ H Q I h
  refine wpAny_Call_Name_kw (ld_blt I hg hm hv ?_ hn hdb)
  exact PyProof.Rows.callWith_type1 (thn (ha pos pins s σ H _ I h) fun us s1 ⟨vs, H1, I1, r1, q1⟩ => hc pins s1 σ H1 vs us Q I1 r1 q1) he hpl
end
end L2

namespace HT
open PySem PyProof.Rows



section
open PySem.SeqAt
open PySem.AutoSeq1 (wpAny_loadPart')
open PySem.MeetsSeq PySem.MeetsSeq2 PySem.MeetsSeq3

end

section
variable {prog : Program} {w : World} {A : Around} {E : Value → Shared → Prop} {s : Shared}



/-! ### t[a:b], not the whole -/
/-- a slice's bound as a place among n (d where it is left out) -/
def sIx (n d : Nat) : Option Int → Nat
  | none => d
  | some v => if v < 0 then (v + (n : Int)).toNat else min v.toNat n
theorem sIx_none (n d : Nat) : sIx n d none = d := rfl
theorem sIx_nat (n d k : Nat) : sIx n d (some (k : Int)) = min k n := by
  show (if (k : Int) < 0 then ((k : Int) + (n : Int)).toNat else min (k : Int).toNat n) = min k n
  rw [if_neg (by omega), Int.toNat_natCast]
theorem sIx_le (n d : Nat) (hd : d ≤ n) (o : Option Int) : sIx n d o ≤ n := by
  cases o with
  | none => exact hd
  | some v =>
    show (if v < 0 then (v + (n : Int)).toNat else min v.toNat n) ≤ n
    by_cases hv : v < 0
    · rw [if_pos hv]; omega
    · rw [if_neg hv]; exact Nat.min_le_right _ _
theorem clip_eq (v : Int) (n d : Nat) : (if v < 0 then max (v + (n : Int)) 0 else min v (n : Int)) = ((sIx n d (some v) : Nat) : Int) := by
  show (if v < 0 then max (v + (n : Int)) 0 else min v (n : Int)) = (((if v < 0 then (v + (n : Int)).toNat else min v.toNat n) : Nat) : Int)
  by_cases hv : v < 0
  · simp only [if_pos hv]; omega
  · simp only [if_neg hv]; omega
theorem adjust_gen (lo hi : Option Int) (n : Nat) : Builtin.Slice.sliceAdjust lo hi 1 (n : Int) = (((sIx n 0 lo : Nat) : Int), ((sIx n n hi : Nat) : Int)) := by
  have h1 : ¬ ((1 : Int) < 0) := by omega
  unfold Builtin.Slice.sliceAdjust
  simp only [h1, if_false]
  refine Prod.ext ?_ ?_
  · cases lo with
    | none => rfl
    | some v => exact clip_eq v n 0
  · cases hi with
    | none => rfl
    | some v => exact clip_eq v n n
theorem places_gen (i j : Nat) : Builtin.Slice.slicePlaces (i : Int) (j : Int) 1 = j - i := by
  unfold Builtin.Slice.slicePlaces
  have h1 : (1 : Int) > 0 := by omega
  simp only [h1, if_true, Int.ediv_one]
  split <;> omega
theorem slicePart_ {v : Value} {o : Option Int} {Q : Option Int → Shared → Prop} (p : IsPart v o) (h : Q o s) : wpAny (model prog w) A (Builtin.Slice.slicePartIndex v) Q E s := by
  cases p with
  | none => exact slicePart_none h
  | int i t => exact slicePart_int h
theorem sliceApplied_gen {sl : Addr} {vl vu : Value} {lo hi : Option Int} {n : Nat} {Q : Int × Int × Nat → Shared → Prop} (hs : s.heap.IsSliceOf sl vl vu .none) (pl : IsPart vl lo) (pu : IsPart vu hi)
    (h : Q (((sIx n 0 lo : Nat) : Int), 1, sIx n n hi - sIx n 0 lo) s) : wpAny (model prog w) A (Builtin.Slice.sliceApplied (.ref sl) (pure (n : Int))) Q E s := by
  obtain ⟨os, hos, hcs, hds⟩ := id hs
  unfold Builtin.Slice.sliceApplied Builtin.Slice.sliceFields
  refine wpAny_bind (wpAny_bind (wpAny_field hos hds (x := vl) rfl (wpAny_bind (wpAny_field hos hds (x := vu) rfl (wpAny_bind (wpAny_field hos hds (x := .none) rfl (wpAny_pure ?_)))))))
  refine wpAny_bind (slicePart_none ?_)
  show wpAny _ _ (if ((1 : Int) == 0) = true then _ else _) _ _ s
  rw [if_neg (by decide)]
  refine wpAny_bind (slicePart_ pl (wpAny_bind (slicePart_ pu (wpAny_bind (wpAny_pure ?_)))))
  show wpAny _ _ (match Builtin.Slice.sliceAdjust lo hi 1 (n : Int) with | (lo, hi) => pure (lo, (1 : Int), Builtin.Slice.slicePlaces lo hi 1)) _ _ s
  rw [adjust_gen lo hi n]
  show wpAny _ _ (pure (((sIx n 0 lo : Nat) : Int), (1 : Int), Builtin.Slice.slicePlaces ((sIx n 0 lo : Nat) : Int) ((sIx n n hi : Nat) : Int) 1)) _ _ s
  rw [places_gen]
  exact wpAny_pure h
theorem pick_gen (xs : Array Value) (i k : Nat) : ((List.range k).filterMap fun (m : Nat) => xs[((i : Int) + (m : Int) * 1).toNat]?).toArray = ((xs.toList.drop i).take k).toArray := by
  have e : (fun (m : Nat) => xs[((i : Int) + (m : Int) * 1).toNat]?) = fun m => xs[i + m]? := by
    funext m
    have : ((i : Int) + (m : Int) * 1).toNat = i + m := by omega
    rw [this]
  rw [e]
  have := pick_run xs i k
  rw [List.filterMap_map] at this
  have e2 : ((fun x => xs[x]?) ∘ fun x => i + x) = fun m => xs[i + m]? := rfl
  rw [e2] at this
  rw [this]

theorem getItem_tuple_cut {t sl : Addr} {items : Array Value} {vl vu : Value} {lo hi : Option Int} {Q : Value → Shared → Prop} (ht : IsTup s.heap t items) (hs : s.heap.IsSliceOf sl vl vu .none) (pl : IsPart vl lo) (pu : IsPart vu hi)
    (hw : ¬ (sIx items.size 0 lo = 0 ∧ sIx items.size items.size hi = items.size))
    (h : Q (.ref s.heap.objs.size) { s with heap := s.heap.push { cls := .type "tuple", data := .seq ((items.toList.drop (sIx items.size 0 lo)).take (sIx items.size items.size hi - sIx items.size 0 lo)).toArray } })
    (hsz : items.size ≤ sizeLine) : wpAny (model prog w) A (getItem (.ref t) (.ref sl)) Q E s := by
  have htake : sizeOk (.seq ((items.toList.drop (sIx items.size 0 lo)).take (sIx items.size items.size hi - sIx items.size 0 lo)).toArray) := by
    show ((items.toList.drop (sIx items.size 0 lo)).take (sIx items.size items.size hi - sIx items.size 0 lo)).toArray.size ≤ sizeLine
    rw [List.size_toArray, List.length_take, List.length_drop, Array.length_toList]
    omega
  have hj : sIx items.size items.size hi ≤ items.size := sIx_le _ _ (Nat.le_refl _) hi
  obtain ⟨os, hos, hcs, hds⟩ := id hs
  have hTs : s.TypeIs (.ref sl) "slice" := ⟨os, hos, hcs⟩
  unfold getItem
  try with_reducible refine wpAny_holding ?_
  first | refine wpAny_bind (wpAny_pure ?_) | skip
  refine wpAny_bind (wpAny_sequenceKey ht.typeIs (by decide) ?_)
  refine wpAny_bind (wpAny_callSpecial?_slot (name := Str.ofString "__getitem__") ht.typeIs PyProof.Rows.slot_tuple_getitem
    (wpAny_call_entry PyProof.Rows.slot_tuple_getitem ht.typeIs entry_tuple_getitem ?_ (args_tuple_getitem _ _)))
  show wpAny _ _ (Builtin.Tuple.tupleItemsOf (.ref t) >>= _) _ _ s
  refine wpAny_bind (tupleItemsOf_ ht ?_)
  refine wpAny_bind (wpAny_typeOf hTs ?_)
  rw [if_pos (by decide)]
  refine wpAny_bind (sliceApplied_gen hs pl pu ?_)
  have hno : ¬ ((((sIx items.size 0 lo : Nat) : Int) == 0 && (1 : Int) == 1 && (sIx items.size items.size hi - sIx items.size 0 lo) == items.size) = true) := by
    intro q
    rw [Bool.and_eq_true, Bool.and_eq_true] at q
    have q1 : ((sIx items.size 0 lo : Nat) : Int) = 0 := eq_of_beq q.1.1
    have q2 : sIx items.size items.size hi - sIx items.size 0 lo = items.size := eq_of_beq q.2
    exact hw ⟨by omega, by omega⟩
  show wpAny _ _ (if (((sIx items.size 0 lo : Nat) : Int) == 0 && (1 : Int) == 1 && (sIx items.size items.size hi - sIx items.size 0 lo) == items.size) = true then _ else _) _ _ s
  rw [if_neg hno, pick_gen]
  first
    | exact wpAny_bind (m := Builtin.Tuple.tupleExact _) (wpAny_newObj_type (wpAny_pure ⟨_, rfl, wpAny_pure h⟩) htake)
    | exact wpAny_bind (m := Builtin.Tuple.tupleExact _) (wpAny_newObj_type (wpAny_bind (wpAny_pure (wpAny_pure ⟨_, rfl, wpAny_pure h⟩))) htake)
    | exact wpAny_bind (wpAny_bind (m := Builtin.Tuple.tupleExact _) (wpAny_newObj_type (wpAny_pure (wpAny_pure ⟨_, rfl, wpAny_pure h⟩)) htake))
    | exact wpAny_bind (wpAny_bind (m := Builtin.Tuple.tupleExact _) (wpAny_newObj_type (wpAny_pure ⟨_, rfl, wpAny_pure h⟩) htake))
end
end HT

namespace L2
open PySem PySem.Spec PyProof.Rows

/-! ### the parts of a slice -/
abbrev TO := St → Hp → (Option Int → Hp → Prop) → Prop
/-- a slice's part (left out, or an int) -/
def PO (X : Cx) (e : Option Expr) (t : TO) : Prop :=
  ∀ (pins : List (Addr × Obj)) (s : Shared) (σ : St) (H : Hp) (Q : Option Int → Hp → Prop), Inv X pins σ H s → t σ H Q →
    wpAny (model X.prog X.w) X.A (evalPart e X.env) (fun u s' => ∃ o H', Inv X pins σ H' s' ∧ IsPart u o ∧ Q o H') X.xe s
def tNoPart : TO := fun _ H Q => Q none H
def tPart (t : TE) : TO := fun σ H Q => t σ H fun x H1 => ∃ i, x = .int i ∧ Q (some i) H1


section
variable {X : Cx} {e : Expr} {te : TE} {lo hi : Option Expr} {tl th : TO} {pos p2 : Pos}

theorem po_none : PO X none tNoPart := by
  intro pins s σ H Q I h
  rw [evalPart_none]
  exact wpAny_pure ⟨none, H, I, .none, h⟩
theorem po_some (h : PE X e te) : PO X (some e) (tPart te) := by
  intro pins s σ H Q I hw
  rw [evalPart_some]
  refine thn (h pins s σ H _ I hw) fun u s1 ⟨x, H1, I1, r1, q1⟩ => ?_
  obtain ⟨i, rfl, q⟩ := q1
  obtain ⟨t, rfl⟩ := r1
  exact ⟨some i, H1, I1, .int i t, q⟩

/-- what a slice of a value is, by values: the slice object stands at sl -/
def SlR (X : Cx) (r : V → Option Int → Option Int → Hp → VK → Prop) : Prop :=
  ∀ (pins : List (Addr × Obj)) (s : Shared) (σ : St) (H : Hp) (x : V) (v vl vu : Value) (lo hi : Option Int) (sl : Addr) (Q : VK), Inv X pins σ H s → RelV x v → s.heap.IsSliceOf sl vl vu .none → IsPart vl lo → IsPart vu hi → r x lo hi H Q →
    ∃ T id, typeLookup (.type T) "__getitem__" = pure (some (.builtin id)) ∧ s.TypeIs v T ∧ wpAny (model X.prog X.w) X.A (getItem v (.ref sl)) (EP X pins σ Q) X.xe s
def tSl (r : V → Option Int → Option Int → Hp → VK → Prop) (te : TE) (tl th : TO) : TE := fun σ H Q => te σ H fun x H1 => tl σ H1 fun l H2 => th σ H2 fun u H3 => r x l u H3 Q
/-- a[lo:hi], any a -/
theorem pe_slice {r : V → Option Int → Option Int → Hp → VK → Prop} (hr : SlR X r) (he : PE X e te) (hl : PO X lo tl) (hu : PO X hi th) : PE X (.Subscript e (.Slice lo hi none p2) pos) (tSl r te tl th) := by
  intro pins s σ H Q I h
  refine Subscript_ (thn (he pins s σ H _ I h) fun v s1 ⟨x, H1, I1, r1, q1⟩ => ?_)
  refine wpAny_Slice (thn (hl pins s1 σ H1 _ I1 q1) fun vl s2 ⟨l, H2, I2, pl, q2⟩ => thn (hu pins s2 σ H2 _ I2 q2) fun vu s3 ⟨u, H3, I3, pu, q3⟩ => ?_)
  rw [evalPart_none]
  refine wpAny_pure ?_
  have I4 : Inv X pins σ H3 { s3 with heap := s3.heap.push { cls := .type "slice", data := .fields #[vl, vu, .none] } } := I3.kept (t' := s3.toks) fun b ob q => Heap.get?_push_of_some _ q
  obtain ⟨T, id, hT, ht, hg⟩ := hr pins { s3 with heap := s3.heap.push { cls := .type "slice", data := .fields #[vl, vu, .none] } } σ H3 x v vl vu l u s3.heap.objs.size Q I4 r1 (Heap.IsSliceOf.new ..) pl pu q3
  show wpAny (model X.prog X.w) X.A (subscriptTail e (.Slice lo hi none p2) v (.ref s3.heap.objs.size)) (EP X pins σ Q) X.xe { s3 with heap := s3.heap.push { cls := .type "slice", data := .fields #[vl, vu, .none] } }
  exact tail_any (ops := [.ref s3.heap.objs.size, v]) ht hT hg (by with_unfolding_all rfl)

/-- the items of xs[lo:hi] -/
def cutV (xs : List V) (lo hi : Option Int) : List V := (xs.drop (HT.sIx xs.length 0 lo)).take (HT.sIx xs.length xs.length hi - HT.sIx xs.length 0 lo)
theorem cutV_length (xs : List V) (lo hi : Option Int) : (cutV xs lo hi).length ≤ xs.length := by
  unfold cutV
  rw [List.length_take, List.length_drop]
  omega
/-- t[lo:hi], not the whole of it (the whole would be t itself) -/
def rSlT (K : PySem.W.Frag) : V → Option Int → Option Int → Hp → VK → Prop := fun x lo hi H Q => ∃ a xs, x = .ref a ∧ SqT K H a xs ∧
  ¬ (HT.sIx xs.length 0 lo = 0 ∧ HT.sIx xs.length xs.length hi = xs.length) ∧ ∀ p, H p = none → Q (.ref p) (upd H p (.tup (cutV xs lo hi)))
theorem sl_tup : SlR X (rSlT X.K) := by
  intro pins s σ H x v vl vu lo hi sl Q I rx hs pl pu h
  obtain ⟨a, xs, rfl, hx, hw, q⟩ := h
  cases rx
  obtain ⟨its, r, ht, hz⟩ := I.tuple hx
  have hlen : its.toArray.size = xs.length := by rw [List.size_toArray]; exact r.length.symm
  refine ⟨"tuple", _, PyProof.Rows.slot_tuple_getitem.lookup, ht.typeIs, ?_⟩
  refine HT.getItem_tuple_cut ht hs pl pu (by rw [hlen]; exact hw) ?_ (by rw [hlen]; exact hz)
  rw [hlen]
  refine ⟨.ref s.heap.objs.size, _, I.laid (t' := s.toks) (o := .tup (cutV xs lo hi)) (fun b ob q => Heap.get?_push_of_some _ q) (Nat.le_refl _) ?_, rfl, q _ (I.hok.fresh (Nat.le_refl _))⟩
  exact ⟨Nat.le_trans (cutV_length xs lo hi) hz, _, (r.drop (HT.sIx xs.length 0 lo)).take (HT.sIx xs.length xs.length hi - HT.sIx xs.length 0 lo), IsTup.new _ _⟩

/-! ### t < u, t + u -/
end
end L2

namespace L2
open PySem PySem.Spec PyProof.Rows

/-! ### places -/
/-- the place that an index of any sign means -/
def ixN (n : Nat) (i : Int) : Option Nat := if 0 ≤ i then (if i < n then some i.toNat else none) else if -(n : Int) ≤ i then some (i + n).toNat else none
def atI {α : Type} (xs : List α) (i : Int) : Option α := (ixN xs.length i).bind fun j => xs[j]?
theorem ixN_seq {n : Nat} {i : Int} {j : Nat} (h : ixN n i = some j) : seqIndex? i n = some j ∧ j < n ∧ -(n : Int) ≤ i ∧ i < n := by
  unfold ixN at h
  by_cases h0 : 0 ≤ i
  · rw [if_pos h0] at h
    by_cases h1 : i < n
    · rw [if_pos h1] at h
      have e : i.toNat = j := Option.some.inj h
      exact ⟨by rw [seqIndex_of h0 h1, e], by omega, by omega, h1⟩
    · rw [if_neg h1] at h; cases h
  · rw [if_neg h0] at h
    by_cases h1 : -(n : Int) ≤ i
    · rw [if_pos h1] at h
      have e : (i + n).toNat = j := Option.some.inj h
      exact ⟨by rw [seqIndex_neg (by omega) h1, e], by omega, h1, by omega⟩
    · rw [if_neg h1] at h; cases h
theorem atI_get {α : Type} {xs : List α} {i : Int} {v : α} (h : atI xs i = some v) : ∃ j, seqIndex? i xs.length = some j ∧ xs[j]? = some v ∧ j < xs.length ∧ -(xs.length : Int) ≤ i ∧ i < xs.length := by
  unfold atI at h
  cases e : ixN xs.length i with
  | none => rw [e] at h; cases h
  | some j =>
    rw [e] at h
    obtain ⟨h1, h2, h3, h4⟩ := ixN_seq e
    exact ⟨j, h1, h, h2, h3, h4⟩
theorem atI_nat {α : Type} {xs : List α} {j : Nat} {v : α} (h : xs[j]? = some v) : atI xs (j : Int) = some v := by
  have hj : j < xs.length := (List.getElem?_eq_some_iff.mp h).1
  have e : ixN xs.length (j : Int) = some j := by
    unfold ixN
    rw [if_pos (by omega), if_pos (by omega)]; simp
  unfold atI; rw [e]; exact h

/-! ### what may be subscripted -/
/-- what stands as an index of a plain subscript -/
def PlainIx (b : Expr) : Prop := ∀ o i, subscripted b false o i = operate [o, i] (getItem o i)
/-- a subscript by values -/
def IxR (X : Cx) (r : R2) : Prop :=
  ∀ (value slice : Expr) (pins : List (Addr × Obj)) (s : Shared) (σ : St) (H : Hp) (x y : V) (v u : Value) (Q : VK), Inv X pins σ H s → RelV x v → RelV y u → r x y H Q →
    subscripted slice false v u = operate [v, u] (getItem v u) → wpAny (model X.prog X.w) X.A (subscriptTail value slice v u) (EP X pins σ Q) X.xe s
/-- a call of a builtin's method by values: the receiver, the arguments -/
def MtR (X : Cx) (id : String) (r : V → List V → Hp → VK → Prop) : Prop :=
  ∀ (pins : List (Addr × Obj)) (s : Shared) (σ : St) (H : Hp) (x : V) (xs : List V) (v : Value) (us : List Value) (Q : VK), Inv X pins σ H s → RelV x v → Vals xs us → r x xs H Q →
    wpAny (model X.prog X.w) X.A (call (.builtin id) (v :: us)) (EP X pins σ Q) X.xe s
section
variable {X : Cx} {a b : Expr} {ta tb : TE} {pos : Pos}
theorem IxR.or {r r' : R2} (h : IxR X r) (h' : IxR X r') : IxR X (fun x y H Q => r x y H Q ∨ r' x y H Q) := by
  intro value slice pins s σ H x y v u Q I rx ry q hs
  rcases q with q | q
  · exact h value slice pins s σ H x y v u Q I rx ry q hs
  · exact h' value slice pins s σ H x y v u Q I rx ry q hs
/-- a[b] -/
theorem pe_ix {r : R2} (hr : IxR X r) (ha : PE X a ta) (hb : PE X b tb) (hs : PlainIx b) : PE X (.Subscript a b pos) (tOp r ta tb) := by
  intro pins s σ H Q I h
  exact Subscript_ (binT ha hb I h fun v u s2 x y H2 I2 rx ry q => hr a b pins s2 σ H2 x y v u Q I2 rx ry q (hs _ _))

def rIxL (K : PySem.W.Frag) : R2 := fun x y H Q => ∃ p xs i v, x = .ref p ∧ y = .int i ∧ SqL K H p xs ∧ atI xs i = some v ∧ Q v H
def rIxT (K : PySem.W.Frag) : R2 := fun x y H Q => ∃ p xs i v, x = .ref p ∧ y = .int i ∧ SqT K H p xs ∧ atI xs i = some v ∧ Q v H
def rIxS : R2 := fun x y H Q => ∃ z i c, x = .str z ∧ y = .int i ∧ z.length ≤ sizeLine ∧ atI z.cps.toList i = some c ∧ Q (.str ⟨#[c]⟩) H
theorem ix_list : IxR X (rIxL X.K) := by
  intro value slice pins s σ H x y v u Q I rx ry h hs
  obtain ⟨p, xs, i, z, rfl, rfl, hq, he, q⟩ := h
  cases rx
  obtain ⟨t, rfl⟩ := ry
  obtain ⟨its, r, pl, hz⟩ := I.list hq
  obtain ⟨j, h1, h2, h3, h4, h5⟩ := atI_get he
  obtain ⟨w, ew, rw'⟩ := r.get h2
  have hl := r.length
  have hn := line63
  have fin : EP X pins σ Q w s := ⟨z, H, I, rw', q⟩
  by_cases h0 : 0 ≤ i
  · have hj : i.toNat = j := by
      rw [seqIndex_of h0 h5] at h1
      exact Option.some.inj h1
    exact item_listR pl.isList h0 (by omega) (by rw [hj]; simpa using ew) fin hs
  · have hj : (i + (its.toArray.size : Int)).toNat = j := by
      rw [seqIndex_neg (by omega) h4] at h1
      rw [List.size_toArray, ← hl]
      exact Option.some.inj h1
    exact subscriptTail_builtinR (x := w) pl.isList.typeIs slot_list_getitem.lookup
      (wpAny_getItem_list_neg (Q := fun r s' => r = w ∧ EP X pins σ Q r s') pl.isList (by omega) (by rw [List.size_toArray] <;> omega) (by omega) (by rw [hj]; simpa using ew) ⟨rfl, fin⟩) hs
theorem ix_tup : IxR X (rIxT X.K) := by
  intro value slice pins s σ H x y v u Q I rx ry h hs
  obtain ⟨p, xs, i, z, rfl, rfl, hq, he, q⟩ := h
  cases rx
  obtain ⟨t, rfl⟩ := ry
  obtain ⟨its, r, pl, hz⟩ := I.tuple hq
  obtain ⟨j, h1, h2, h3, h4, h5⟩ := atI_get he
  obtain ⟨w, ew, rw'⟩ := r.get h2
  have hl := r.length
  have hn := line63
  have fin : EP X pins σ Q w s := ⟨z, H, I, rw', q⟩
  exact subscriptTail_builtinR (x := w) pl.typeIs slot_tuple_getitem.lookup
    (getItem_tuple (j := j) (Q := fun r s' => r = w ∧ EP X pins σ Q r s') pl (by omega) (by omega) (by rw [List.size_toArray, ← hl]; exact h1) (by simpa using ew) ⟨rfl, fin⟩) hs
theorem ix_str : IxR X rIxS := by
  intro value slice pins s σ H x y v u Q I rx ry h hs
  obtain ⟨z, i, c, rfl, rfl, hz, he, q⟩ := h
  obtain ⟨t, rfl⟩ := rx
  obtain ⟨t', rfl⟩ := ry
  obtain ⟨j, h1, h2, h3, h4, h5⟩ := atI_get he
  have hl : z.cps.toList.length = z.length := by simp [Str.length]
  rw [hl] at h1 h4 h5
  have hn := line63
  exact tail_any (typeIs_str s z t) slot_str_getitem.lookup (getItem_str (c := c) (by
    have e1 : decide (i < -(2 ^ 63 : Int)) = false := decide_eq_false (by omega)
    have e2 : decide (i ≥ 2 ^ 63) = false := decide_eq_false (by omega)
    rw [e1, e2, Bool.or_false]) (by rw [h1]; simpa using h2) ⟨.str ⟨#[c]⟩, H, I.tok _, ⟨_, rfl⟩, q⟩) hs
/-- list, tuple or str -/
def rIx (K : PySem.W.Frag) : R2 := fun x y H Q => rIxL K x y H Q ∨ rIxT K x y H Q ∨ rIxS x y H Q
theorem ix_seq : IxR X (rIx X.K) := ix_list.or (ix_tup.or ix_str)

/-! ### xs[i] = v, any sign -/

/-! ### slices -/
theorem slice_bounds (lo hi : Option Int) (n : Nat) : (sliceBounds lo hi none n).1 = ((HT.sIx n 0 lo : Nat) : Int) ∧ (sliceBounds lo hi none n).2.1 = ((HT.sIx n n hi : Nat) : Int) ∧ (sliceBounds lo hi none n).2.2 = 1 := by
  refine ⟨?_, ?_, rfl⟩
  · cases lo with
    | none => simp [sliceBounds, HT.sIx]
    | some i =>
      simp only [sliceBounds, HT.sIx, Option.getD_none, show (1 : Int) > 0 by decide, if_true]
      by_cases h : i < 0
      · simp only [h, if_true] <;> omega
      · simp only [h, if_false] <;> omega
  · cases hi with
    | none => simp [sliceBounds, HT.sIx]
    | some i =>
      simp only [sliceBounds, HT.sIx, Option.getD_none, show (1 : Int) > 0 by decide, if_true]
      by_cases h : i < 0
      · simp only [h, if_true] <;> omega
      · simp only [h, if_false] <;> omega
theorem slicePick_cut (its : List Value) (lo hi : Option Int) : slicePick its.toArray lo hi none = ((its.drop (HT.sIx its.length 0 lo)).take (HT.sIx its.length its.length hi - HT.sIx its.length 0 lo)).toArray := by
  obtain ⟨h1, h2, h3⟩ := slice_bounds lo hi its.toArray.size
  unfold slicePick
  rw [h1, h2, h3]
  simp only [sliceRange_one, pick_run, List.size_toArray] <;> rfl
/-- xs[lo:hi] of a list: a new list -/
def rSlL (K : PySem.W.Frag) : V → Option Int → Option Int → Hp → VK → Prop := fun x lo hi H Q => ∃ a xs, x = .ref a ∧ SqL K H a xs ∧ ∀ p, H p = none → Q (.ref p) (upd H p (.lst (cutV xs lo hi)))
theorem sl_list : SlR X (rSlL X.K) := by
  intro pins s σ H x v vl vu lo hi sl Q I rx hs pl pu h
  obtain ⟨a, xs, rfl, hx, q⟩ := h
  cases rx
  obtain ⟨its, r, ht, hz⟩ := I.list hx
  have hlen := r.length
  refine ⟨"list", _, slot_list_getitem.lookup, ht.isList.typeIs, ?_⟩
  refine wpAny_getItem_list_slice ht.isList hs pl pu .none (by simp) ?_ (by rw [List.size_toArray] <;> omega)
  rw [slicePick_cut, ← hlen]
  refine ⟨.ref s.heap.objs.size, _, I.laid (t' := s.toks) (o := .lst (cutV xs lo hi)) (fun b ob q => Heap.get?_push_of_some _ q) (Nat.le_refl _) ?_, rfl, q _ (I.hok.fresh (Nat.le_refl _))⟩
  exact ⟨Nat.le_trans (cutV_length xs lo hi) hz, _, 0, (r.drop (HT.sIx xs.length 0 lo)).take (HT.sIx xs.length xs.length hi - HT.sIx xs.length 0 lo), Heap.get?_push_size _ rfl⟩

/-! ### in, not in: flat items -/
def flatV : V → Bool
  | .non => true
  | .bl _ => true
  | .int _ => true
  | .str _ => true
  | _ => false
/-- == of flat values -/
def eqV : V → V → Bool
  | .non, .non => true
  | .bl a, .bl b => a == b
  | .bl a, .int b => (if a then 1 else 0) == b
  | .int a, .bl b => a == (if b then 1 else 0)
  | .int a, .int b => a == b
  | .str a, .str b => a == b
  | _, _ => false
theorem eqAt_V {A : Around} {s : Shared} {y x : V} {u v : Value} (ry : RelV y u) (rx : RelV x v) (fy : flatV y = true) (fx : flatV x = true) : SeqAt.EqAt A s u v (eqV y x) := by
  cases y with
  | non =>
    cases ry
    cases x with
    | non => cases rx; exact SeqAt.EqAt.same _
    | bl b => cases rx; exact SeqAt.EqAt.none_bool b
    | int b => obtain ⟨t, rfl⟩ := rx; exact SeqAt.EqAt.none_int b t
    | str b => obtain ⟨t, rfl⟩ := rx; exact SeqAt.EqAt.none_str b t
    | _ => exact absurd (show false = true from fx) Bool.false_ne_true
  | bl a =>
    cases ry
    cases x with
    | non => cases rx; exact SeqAt.EqAt.bool_none a
    | bl b => cases rx; exact SeqAt.EqAt.bool_bool a b
    | int b => obtain ⟨t, rfl⟩ := rx; exact SeqAt.EqAt.bool_int a b t
    | str b => obtain ⟨t, rfl⟩ := rx; exact SeqAt.EqAt.bool_str a b t
    | _ => exact absurd (show false = true from fx) Bool.false_ne_true
  | int a =>
    obtain ⟨t', rfl⟩ := ry
    cases x with
    | non => cases rx; exact SeqAt.EqAt.int_none a t'
    | bl b => cases rx; exact SeqAt.EqAt.int_bool a t' b
    | int b => obtain ⟨t, rfl⟩ := rx; exact SeqAt.EqAt.int_int a t' b t
    | str b => obtain ⟨t, rfl⟩ := rx; exact SeqAt.EqAt.int_str a t' b t
    | _ => exact absurd (show false = true from fx) Bool.false_ne_true
  | str a =>
    obtain ⟨t', rfl⟩ := ry
    cases x with
    | non => cases rx; exact SeqAt.EqAt.str_none a t'
    | bl b => cases rx; exact SeqAt.EqAt.str_bool a t' b
    | int b => obtain ⟨t, rfl⟩ := rx; exact SeqAt.EqAt.str_int a t' b t
    | str b => obtain ⟨t, rfl⟩ := rx; exact SeqAt.EqAt.str_str a t' b t
    | _ => exact absurd (show false = true from fx) Bool.false_ne_true
  | _ => exact absurd (show false = true from fy) Bool.false_ne_true
/-- the items' answers, read off the values (a value's own answer does not lean on its token) -/
def eqU (x : V) (u : Value) : Bool := match u with
  | .none => eqV .non x
  | .bool b => eqV (.bl b) x
  | .int i _ => eqV (.int i) x
  | .str z _ => eqV (.str z) x
  | _ => false
theorem eqU_of {x y : V} {u : Value} (r : RelV y u) (f : flatV y = true) : eqU x u = eqV y x := by
  cases y with
  | non => cases r; rfl
  | bl b => cases r; rfl
  | int i => obtain ⟨t, rfl⟩ := r; rfl
  | str z => obtain ⟨t, rfl⟩ := r; rfl
  | _ => exact absurd (show false = true from f) Bool.false_ne_true
theorem any_eqU {x : V} : ∀ {xs : List V} {us : List Value}, Vals xs us → xs.all flatV = true → us.any (eqU x) = xs.any fun y => eqV y x
  | _, _, .nil, _ => rfl
  | y :: xs, u :: us, .cons r t, f => by
    rw [List.all_cons, Bool.and_eq_true] at f
    rw [List.any_cons, List.any_cons, eqU_of r f.1, any_eqU t f.2]
theorem mem_eqAt {A : Around} {s : Shared} {x : V} {v : Value} (rx : RelV x v) (fx : flatV x = true) : ∀ {xs : List V} {us : List Value}, Vals xs us → xs.all flatV = true → ∀ u ∈ us, SeqAt.EqAt A s u v (eqU x u)
  | _, _, .nil, _ => fun u hu => by cases hu
  | y :: xs, u :: us, .cons r t, f => fun u' hu => by
    rw [List.all_cons, Bool.and_eq_true] at f
    rcases List.mem_cons.mp hu with rfl | hu
    · rw [eqU_of r f.1]; exact eqAt_V r rx f.1 fx
    · exact mem_eqAt rx fx t f.2 u' hu
def inV (x : V) (xs : List V) : Bool := xs.any fun y => eqV y x
/-- x in a list or tuple of flat items -/
def rIn (K : PySem.W.Frag) (neg : Bool) : R2 := fun x y H Q => ∃ p xs, y = .ref p ∧ (SqL K H p xs ∨ SqT K H p xs) ∧ flatV x = true ∧ xs.all flatV = true ∧ Q (.bl (if neg then !inV x xs else inV x xs)) H
theorem op_in_seq : OpR X (compareOp .In) (rIn X.K false) := by
  intro pins s σ H x y v u Q I rx ry h
  obtain ⟨p, xs, rfl, hq, fx, fs, q⟩ := h
  cases ry
  rcases hq with hq | hq
  · obtain ⟨its, r, pl, hz⟩ := I.list hq
    refine SeqAt.in_listAt (eqU x) pl.isList (fun w hw => mem_eqAt rx fx r fs w (by simpa using hw)) ⟨.bl _, H, I, rfl, ?_⟩
    rw [show its.toArray.any (eqU x) = its.any (eqU x) by simp, any_eqU r fs]
    exact q
  · obtain ⟨its, r, pl, hz⟩ := I.tuple hq
    refine SeqAt.in_tupleAt (eqU x) pl (fun w hw => mem_eqAt rx fx r fs w (by simpa using hw)) ⟨.bl _, H, I, rfl, ?_⟩
    rw [show its.toArray.any (eqU x) = its.any (eqU x) by simp, any_eqU r fs]
    exact q

/-! ### len, list(x), tuple(x) of any list or tuple that is read -/
theorem call_tuple_of : CallR X (.type "tuple") (fun xs H Q => ∃ p ys, xs = [.ref p] ∧ ((SqL X.K H p ys ∧ ∀ l, H l = none → Q (.ref l) (upd H l (.tup ys))) ∨ (SqT X.K H p ys ∧ Q (.ref p) H))) := by
  intro pins s σ H xs us Q I r h
  obtain ⟨p, ys, rfl, h⟩ := h
  obtain ⟨u, rfl, rx⟩ := vals1 r
  cases rx
  rcases h with ⟨hq, q⟩ | ⟨hq, q⟩
  · obtain ⟨its, r', pl, hz⟩ := I.list hq
    have hlen := r'.length
    refine call_tuple_list pl.isList (fun h' kp => ?_) (by simp only [List.size_toArray] <;> omega)
    have I1 : Inv X pins σ H { s with heap := h' } := I.kept (t' := s.toks) kp
    have I2 : Inv X pins σ (upd H h'.objs.size (.tup ys)) { s with heap := h'.push { cls := .type "tuple", data := .seq its.toArray } } :=
      I1.laid (t' := s.toks) (fun b o e => Heap.get?_push_of_some _ e) (Nat.le_refl _) (show ObjOk X.prog X.w _ _ _ (.tup ys) from ⟨hz, its, r', IsTup.new _ _⟩)
    exact ⟨.ref h'.objs.size, _, I2, rfl, q _ (I1.hok.fresh (Nat.le_refl _))⟩
  · obtain ⟨its, r', pl, hz⟩ := I.tuple hq
    exact call_tuple_same pl ⟨.ref p, H, I, rfl, q⟩

/-! ### the call of a builtin's method: o.m(..) -/
/-- the value is of that builtin type -/
def tyV (K : PySem.W.Frag) (T : String) (x : V) (H : Hp) : Prop := match x with
  | .str _ => T = "str"
  | .int _ => T = "int"
  | .ref p => (T = "list" ∧ ∃ xs, SqL K H p xs) ∨ (T = "tuple" ∧ ∃ o, K.lookup p = some o ∧ o.cls = .type "tuple" ∧ o.dict = none) ∨
      (T = "dict" ∧ ((∃ kvs, H p = some (.dK kvs)) ∨ ∃ kvs, H p = some (.dT kvs))) ∨ (T = "set" ∧ ∃ S n, H p = some (.set S n))
  | _ => False
theorem tyV_is {pins : List (Addr × Obj)} {σ : St} {H : Hp} {s : Shared} {T : String} {x : V} {v : Value} (I : Inv X pins σ H s) (r : RelV x v) (ty : tyV X.K T x H) :
    s.TypeIs v T ∧ ∀ a, v = .ref a → ∃ ob, s.heap.get? a = some ob ∧ ob.dict = none := by
  cases x with
  | str z =>
    obtain ⟨t, rfl⟩ := r
    cases (show T = "str" from ty)
    exact ⟨typeIs_str s z t, fun _ e => nomatch e⟩
  | int i =>
    obtain ⟨t, rfl⟩ := r
    cases (show T = "int" from ty)
    exact ⟨typeIs_int s i t, fun _ e => nomatch e⟩
  | ref p =>
    cases r
    rcases ty with ⟨rfl, xs, hq⟩ | ⟨rfl, o, hk, hc, hd⟩ | ⟨rfl, hk⟩ | ⟨rfl, S, n, hk⟩
    · obtain ⟨its, _, pl, _⟩ := I.list hq
      refine ⟨pl.isList.typeIs, fun a e => ?_⟩
      cases e
      obtain ⟨o, n, e, c, hd, _⟩ := pl
      exact ⟨o, e, hd⟩
    · refine ⟨⟨o, I.kIn p o hk, hc⟩, fun a e => ?_⟩
      cases e
      exact ⟨o, I.kIn _ o hk, hd⟩
    · have z : ∃ o, s.heap.get? p = some o ∧ o.ExactDict := by
        rcases hk with ⟨kvs, hk⟩ | ⟨kvs, hk⟩
        · obtain ⟨_, _, _, _, o, _, _, e, ex, _⟩ := I.hok p _ hk
          exact ⟨o, e, ex⟩
        · obtain ⟨_, _, _, _, o, _, _, e, ex, _⟩ := I.hok p _ hk
          exact ⟨o, e, ex⟩
      obtain ⟨o, e, ex⟩ := z
      refine ⟨⟨o, e, ex.1⟩, fun a e2 => ?_⟩
      cases e2
      exact ⟨o, e, ex.2.1⟩
    · obtain ⟨o, _, _, _, e, ex, _⟩ := I.hok p _ hk
      refine ⟨⟨o, e, ex.1⟩, fun a e2 => ?_⟩
      cases e2
      exact ⟨o, e, ex.2.1⟩
  | _ => exact False.elim ty
def tBM0 (K : PySem.W.Frag) (T : String) (r : V → List V → Hp → VK → Prop) (to : TE) : TE := fun σ H Q => to σ H fun x H1 => tyV K T x H1 ∧ r x [] H1 Q
def tBM (K : PySem.W.Frag) (T : String) (r : V → List V → Hp → VK → Prop) (to : TE) (t : TA) : TE := fun σ H Q => to σ H fun x H1 => tyV K T x H1 ∧ t σ H1 fun xs H2 => r x xs H2 Q
variable {o e : Expr} {es : List Expr} {to : TE} {t : TA} {name : Str} {apos cpos : Pos} {T id : String} {r : V → List V → Hp → VK → Prop}
theorem pe_bm0 (pa : PlainAttrs T) (slot : Slot T name id) (hty : typeOf (.builtin id) = pure (.type "method_descriptor")) (hm : MtR X id r) (ho : PE X o to)
    (hbase : attributeBase o name X.env (eval o X.env) = eval o X.env := by rfl) (hline : (apos.endLine == cpos.line) = true := by rfl) : PE X (.Call (.Attribute o name apos) [] [] cpos) (tBM0 X.K T r to) := by
  intro pins s σ H Q I h
  refine wpAny_Call_method0_late hbase hline (thn (ho pins s σ H _ I h) fun v s1 ⟨x, H1, I1, r1, ty, q1⟩ => ?_)
  obtain ⟨h1, h2⟩ := tyV_is I1 r1 ty
  exact ⟨T, id, pa, slot, hty, h1, h2, Calls.callWith_builtin rfl (PySem.evalArgs_none (hm pins s1 σ H1 x [] v [] Q I1 r1 .nil q1))⟩
theorem pe_bm (pa : PlainAttrs T) (slot : Slot T name id) (hty : typeOf (.builtin id) = pure (.type "method_descriptor")) (hm : MtR X id r) (ho : PE X o to) (ha : PA X (e :: es) t)
    (hbase : attributeBase o name X.env (eval o X.env) = eval o X.env := by rfl)
    (hfew : ((backTo cpos (starEach (e :: es) X.env)).all (fun x => !x.1) && (backToKw cpos (keywordEach [] X.env)).all (fun x => x.1.isSome)
      && decide ((e :: es).length + ([] : List Keyword).length + (if ([] : List Keyword).isEmpty then 0 else 1) < 30)) = true := by rfl)
    (hline : (apos.endLine == cpos.line) = true := by rfl) (hs : starEach (e :: es) X.env = (false, eval e X.env) :: starEach es X.env := by rfl) (hplain : (backTo cpos (starEach es X.env)).any (·.1) = false := by rfl) :
    PE X (.Call (.Attribute o name apos) (e :: es) [] cpos) (tBM X.K T r to t) := by
  intro pins s σ H Q I h
  refine wpAny_Call_method_late hbase hfew hline rfl (thn (ho pins s σ H _ I h) fun v s1 ⟨x, H1, I1, r1, ty, q1⟩ => ?_)
  obtain ⟨h1, h2⟩ := tyV_is I1 r1 ty
  refine ⟨T, id, pa, slot, hty, h1, h2, ?_⟩
  have hA := ha cpos pins s1 σ H1 _ I1 q1
  rw [hs] at hA ⊢
  refine Calls.callWith_builtin (by show (false || (backTo cpos (starEach es X.env)).any (·.1)) = false; rw [hplain] <;> rfl) (Calls.evalArgs_plain ?_)
  exact thn hA fun us s2 ⟨vs, H2, I2, r2, q2⟩ => hm pins s2 σ H2 x vs v us Q I2 r1 r2 q2
/- xs.append(e), list.index on a module's tuple .. are MtR facts of 06m -/
end
end L2

namespace L2
open PySem PySem.Spec PyProof.Rows

def MtM (X : Cx) (id : String) (r : V → List V → Hp → VK → Prop) : Prop :=
  ∀ (pins : List (Addr × Obj)) (s : Shared) (σ : St) (H : Hp) (x : V) (xs : List V) (v : Value) (us : List Value) (Q : VK), Inv X pins σ H s → RelV x v → Vals xs us → r x xs H Q →
    wpAny (model X.prog X.w) X.A (call (.builtin id) (v :: us)) (EP X pins σ Q) X.xe s

/-! ### lists of values -/
theorem Vals.one : ∀ {x : V} {us : List Value}, Vals [x] us → ∃ u, us = [u] ∧ RelV x u
  | _, _, .cons r .nil => ⟨_, rfl, r⟩

section
variable {X : Cx} {pins : List (Addr × Obj)} {σ : St} {H : Hp} {s : Shared} {l b : Addr} {xs ys zs : List V}

/-! ### the two steps: a tracked list is rewritten, a new list is laid -/
theorem Inv.lset {its its' : List Value} {n : Nat} {f : Array Value → Array Value} {t' : Nat} (I : Inv X pins σ H s) (hH : H l = some (.lst xs))
    (e : s.heap.get? l = some { cls := .type "list", data := .seq its.toArray n }) (hf : f its.toArray = its'.toArray) (hv : Vals ys its') (hz : ys.length ≤ sizeLine) :
    Inv X pins σ (upd H l (.lst ys)) { s with heap := s.heap.update l (Obj.mapSeq f), toks := t' } := by
  have q := PySem.IsL.update e f
  rw [hf] at q
  refine I.write (x := l) (e := l) (by rw [hH]; exact trivial) (.inl rfl) (fun b' u hb hu => (Heap.get?_update_other s.heap (Obj.mapSeq f) (Ne.symm hb)).trans hu) ⟨_, q⟩ ?_
  exact ⟨hz, its', _, hv, q⟩
theorem Inv.lnew {its : List Value} {t' : Nat} (I : Inv X pins σ H s) (hv : Vals ys its) (hz : ys.length ≤ sizeLine) :
    Inv X pins σ (upd H s.heap.objs.size (.lst ys)) { s with heap := s.heap.push { cls := .type "list", data := .seq its.toArray }, toks := t' } :=
  I.laid (fun _ _ q => Heap.get?_push_of_some _ q) (Nat.le_refl _) ⟨hz, its, 0, hv, Heap.get?_push_size _ rfl⟩
theorem Inv.fresh (I : Inv X pins σ H s) : H s.heap.objs.size = none := I.hok.fresh (Nat.le_refl _)
theorem Inv.lstM (I : Inv X pins σ H s) (hH : H l = some (.lst xs)) : xs.length ≤ sizeLine ∧ ∃ (its : List Value) (n : Nat), Vals xs its ∧ xs.length = its.length ∧ s.heap.get? l = some { cls := .type "list", data := .seq its.toArray n } := by
  obtain ⟨z, its, n, r, e⟩ := I.hok l _ hH
  exact ⟨z, its, n, r, r.length, e⟩

end

section
variable {X : Cx}

/-! ### methods -/
def rAppend : V → List V → Hp → VK → Prop := fun x vs H Q => ∃ l xs y, x = .ref l ∧ vs = [y] ∧ H l = some (.lst xs) ∧ xs.length < sizeLine ∧ Q .non (upd H l (.lst (xs ++ [y])))
theorem mt_append : MtM X "list.append" rAppend := by
  intro pins s σ H x vs v us Q I rx rv h
  obtain ⟨l, xs, y, rfl, rfl, hH, hz, q⟩ := h
  cases rx
  obtain ⟨u, rfl, ru⟩ := rv.one
  obtain ⟨z, its, n, r, hl, e⟩ := I.lstM hH
  refine call_meets F.slot_list_append ⟨_, e, rfl⟩ F.entry_list_append (F.args_list_append_2 _ _) (PySem.list_append l its.toArray n u (by rw [List.size_toArray]; omega)) ⟨e, ?_⟩
  refine ⟨.non, _, I.lset (its' := its ++ [u]) hH e (by simp) (r.append (.cons ru .nil)) ?_, rfl, q⟩
  rw [List.length_append, List.length_singleton]
  omega






/-! ### list + list, list += list, list * int -/
def rCat : R2 := fun x y H Q => ∃ l b xs zs, x = .ref l ∧ y = .ref b ∧ H l = some (.lst xs) ∧ H b = some (.lst zs) ∧ xs.length + zs.length ≤ sizeLine ∧ ∀ p, H p = none → Q (.ref p) (upd H p (.lst (xs ++ zs)))
theorem op_cat : OpR X (binaryOp .Add) rCat := by
  intro pins s σ H x y v u Q I rx ry h
  obtain ⟨l, b, xs, zs, rfl, rfl, hH, hB, hz, q⟩ := h
  cases rx
  cases ry
  obtain ⟨z, its, n, r, hl, e⟩ := I.lstM hH
  obtain ⟨z2, its2, n2, r2, hl2, e2⟩ := I.lstM hB
  refine PySem.P.add_list e e2 ?_ (by rw [List.size_toArray, List.size_toArray]; omega)
  have ea : its.toArray ++ its2.toArray = (its ++ its2).toArray := by simp
  rw [ea]
  exact ⟨.ref _, _, I.lnew (t' := s.toks) (r.append r2) (by rw [List.length_append]; omega), rfl, q _ I.fresh⟩

/-! ### del xs[i] -/
end

/-! ### xs[a:b] = ys -/
section
variable {prog : Program} {w : World} {A : Around} {E : Value → Shared → Prop} {s : Shared}
end

section
variable {X : Cx}
end
end L2

namespace L2
open PySem PySem.Spec PyProof.Rows

/-! ### lists of pairs as tables -/
section
variable {κ : Type} [DecidableEq κ]
def valV (kvs : List (κ × V)) (k : κ) : Option V := (kvs.find? fun kv => decide (kv.1 = k)).map (·.2)

theorem valV_pos {p : κ × V} {r : List (κ × V)} {k : κ} (e : p.1 = k) : valV (p :: r) k = some p.2 := by simp [valV, List.find?_cons, e]
theorem valV_neg {p : κ × V} {r : List (κ × V)} {k : κ} (e : ¬ p.1 = k) : valV (p :: r) k = valV r k := by simp [valV, List.find?_cons, e]

theorem RelO.isSome_eq {o : Option V} {u : Option Value} (r : RelO o u) : o.isSome = u.isSome := by
  cases o with
  | none => cases u with
    | none => rfl
    | some _ => exact (show False from r).elim
  | some _ => cases u with
    | none => exact (show False from r).elim
    | some _ => rfl

/-- raw tables of the same keys -/
theorem KV.val {kvs : List (κ × V)} {vs : List (κ × Value)} (r : KV kvs vs) (k : κ) : RelO (valV kvs k) (valueAt vs k) := by
  unfold KV at r
  induction r with
  | nil => exact True.intro
  | @cons p q ps qs h t ih =>
    obtain ⟨h1, h2⟩ := h
    by_cases e : p.1 = k
    · have e' : q.1 = k := h1.symm.trans e
      have b : valueAt (q :: qs) k = some q.2 := by simp [valueAt, List.find?_cons, e']
      rw [valV_pos e, b]; exact h2
    · have e' : ¬ q.1 = k := fun z => e (h1.trans z)
      have b : valueAt (q :: qs) k = valueAt qs k := by simp [valueAt, List.find?_cons, e']
      rw [valV_neg e, b]; exact ih
end


/-! ### a tracked dict, its keys ints and texts or tuples of these -/
theorem kV_is {P : Program} {w : World} {k : Key} {u : Value} (r : RelV (kV k) u) : (mixKind P w).is k u = true := by
  cases k with
  | inl i => obtain ⟨t, e⟩ := (show ∃ t, u = Value.int i t from r); subst e; exact mixKind_int P w i t
  | inr x => obtain ⟨t, e⟩ := (show ∃ t, u = Value.str x t from r); subst e; exact mixKind_str P w x t


section
variable {P : Program} {w : World} {H : Hp} {h : Heap} {a : Addr}
end



section
variable {X : Cx} {pins : List (Addr × Obj)} {σ : St} {H : Hp} {s : Shared} {a : Addr} {y v : V} {u r : Value} {o : Option V} {A : Around} {E : Value → Shared → Prop}


end

section
variable {X : Cx} {pins : List (Addr × Obj)} {σ : St} {H : Hp} {s : Shared} {a : Addr} {kvs : List (Key × V)} {k : Key} {u : Value} {A : Around} {E : Value → Shared → Prop}
end


/-! ### readings and rules -/



section
variable {X : Cx} {o i e value : Expr} {pos pos' tpos : Pos} {td ty tv : TE}
end


/-! ### displays -/
section
variable {X : Cx} {pos : Pos}
end




/-! ### methods -/


section
variable {X : Cx} {pins : List (Addr × Obj)} {σ : St} {H : Hp} {s : Shared} {a : Addr} {y d : V} {u r : Value} {o : Option V} {A : Around} {E : Value → Shared → Prop}
end

section
variable {X : Cx} {o e f : Expr} {apos cpos : Pos} {td ty tx : TE}
end

/-! ### dict(d): a copy -/
section
variable {X : Cx} {pins : List (Addr × Obj)} {σ : St} {H : Hp} {s : Shared} {a : Addr} {kvs : List (Key × V)} {A : Around} {E : Value → Shared → Prop}
end


section
variable {X : Cx} {pins : List (Addr × Obj)} {σ : St} {H : Hp} {s : Shared} {a : Addr} {y : V} {u : Value} {A : Around} {E : Value → Shared → Prop}
end
end L2

namespace Att
open PySem PySem.W PySem.Calls PyProof.Rows

/-! ### the script -/
theorem ints_of_wellAll {P : Params} {h : Heap} : ∀ (ns : List Int) (vs : List Value), WellAll P h vs (ns.map WData.int) → IntsAre vs ns := by
  intro ns
  induction ns with
  | nil =>
    intro vs w
    rw [List.map_nil] at w
    cases w
    exact .nil
  | cons n ns ih =>
    intro vs w
    rw [List.map_cons] at w
    cases w with
    | cons a b =>
      cases a
      exact .cons _ _ (ih _ b)

theorem script_of {l : OpenLaw} {n : Nat} (hn : l.most = some n) {P : Params} {h : Heap} {args : List WData} {vals : List Value}
    (hpre : l.row.toRowW.claim.pre args = true) (hwl : WellAll P h vals args) :
    ∃ a vs ns, vals = [Value.ref a] ∧ args = [WData.list (ns.map WData.int)] ∧ h.get? a = some { cls := .type "list", data := .seq vs.toArray } ∧ IntsAre vs ns ∧ ns.length ≤ n := by
  have hsh : WShape.hasAll [] args [.list .int] = true := (pre_splitW hpre).1
  have hc : l.pre.holds [] { args := args } = true := (pre_splitW hpre).2
  obtain ⟨d, r, rfl, h1, h2⟩ := hasAllW_cons hsh
  obtain rfl := hasAllW_nil h2
  obtain ⟨xs, rfl, h3⟩ := hasW_list h1
  obtain ⟨ns, rfl⟩ := items_int h3
  have hlen : ns.length ≤ n := by
    unfold OpenLaw.pre at hc
    have h4 : (WTm.not (.lt (.lit (.int (n : Int))) (.len (.arg 0)))).holds [] { args := [.list (ns.map .int)] } = true := by
      have h4 := (holds_andW hc).1
      rw [hn] at h4
      exact h4
    have h5 := condW_of h4 (w_not (w_lt w_lit (w_len_list (w_arg rfl))))
    rw [List.length_map] at h5
    refine Nat.le_of_not_lt fun q => ?_
    have q' : (n : Int) < ((ns.length : Nat) : Int) := by omega
    first
      | (rw [decide_eq_true q'] at h5; exact absurd h5 (by decide))
      | (simp at h5; omega)
  cases hwl with
  | cons w1 w2 =>
    cases w2
    cases w1 with
    | list ho hall => exact ⟨_, _, ns, rfl, rfl, ho, ints_of_wellAll ns _ hall, hlen⟩

theorem post_true (l : OpenLaw) (args : List WData) : l.row.toRowW.claim.post args (.bool true) args = true :=
  postW_of (r := l.row.toRowW) (X := (true == true))
    (show WShape.has [] (.bool true) .bool = true by first | rfl | decide | simp [WShape.has, WShape.arms, WShape.armsAll])
    (show (WTm.eq .res (.lit (.bool true))).value [] { args := args, res := some (.bool true), after := args } = some (.bool (true == true)) from w_eq_bool (w_res rfl) w_lit) rfl

/-! ### the attachment: holds_open's last premise (the goal 'hc' behind k_head) from a wpAny of the law's body -/

/-- the same from a codeAny of the CALL (for a layer whose function contracts speak of calls) -/
theorem attach_call {l : OpenLaw} {n : Nat} {q : Program} {loose : List Str} {XP : (Str → Option Value) → Heap → Prop} {YP : World → Heap → Prop} {d : DefRec}
    (hn : l.most = some n) (hdf : d.params.defaults = [])
    (call : ∀ (w : World) (s₀ s₁ : Shared) (mg mb : Str → Option Value) (fa : Addr) (o : Obj) (pm cd doc : Value) (a : Addr) (vs : List Value) (ns : List Int),
      Ground q loose [] XP w s₀ mg mb s₁.heap → YP w s₁.heap →
      s₁.heap.get? fa = some o → o.data = .func (docDef d.name d.params d.body d.scope pm cd doc) → s₁.heap.CodeRec cd d.name → mg d.name = some (.ref fa) →
      s₁.heap.get? a = some { cls := .type "list", data := .seq vs.toArray } → IntsAre vs ns → ns.length ≤ n → s₁.gens = #[] →
      codeAny (model l.prog w) callerA (.call (.ref fa) ⟨[.ref a], []⟩) (fun r s' => r = .ok (.ret (.bool true)) ∧ OldK s₁.heap s'.heap ∧ s'.os = s₁.os ∧ AllBare s'.gens) s₁) :
    WalkO q loose XP YP l.row.toRowW d [] (fun f vs => PySem.call f vs) := by
  intro w s₀ s₁ mg mb G Y fa o pm cd doc dV kV ho hd hcd hD hmg hg args vals as hpre hlay hrd hwl hlo
  obtain rfl : dV = .none := Dflts.none hD hdf
  obtain rfl : kV = .none := Dflts.noKw hD
  obtain ⟨a, vs, ns, rfl, rfl, hobj, hints, hlen⟩ := script_of hn hpre hwl
  refine enter_call (codeAny_mono (call w s₀ s₁ mg mb fa o pm cd doc a vs ns G Y ho (fd_plain hd) hcd hmg hobj hints hlen hg) fun r s' hq => ?_)
  obtain ⟨rfl, h2, h3, h4⟩ := hq
  exact ⟨.inl ⟨.bool true, .bool true, [], rfl, fun _ => rfl, .bool true, post_true l _, fun _ => ⟨List.Pairwise.nil, fun _ hm => (nomatch hm)⟩⟩, h2, h3, h4⟩


/-! ### rules over ANY heap (no ledger) from facts about the written part K: the library's own take a ledger (News) for what they write -/
section
variable {prog : Program} {w : World} {A : Around} {E : Value → Shared → Prop} {s : Shared} {K : Frag}





/-! the whole heap as the ledger: makes every rule that writes through a ledger a rule over any heap -/

end
end Att

namespace L2
open PySem PySem.Spec PyProof.Rows

theorem vals_ints : ∀ {vs : List Value} {ns : List Int}, IntsAre vs ns → Vals (ns.map V.int) vs
  | _, _, .nil => .nil
  | _, _, .cons n t h => .cons ⟨t, rfl⟩ (vals_ints h)

/-- nothing is tracked but the script, known to the object (or it is an object of the module) -/
def Only (H : Hp) : Prop := ∀ b, H b = none ∨ ∃ o xs, H b = some (.frz o (.lst xs))

/-- THE HEAD: the law's promise, at the heap behind the top. F, the promise of the law's def, may use that base is part of the heap (so K.In base, base.Ns mainGlobals mg stand in Mod) -/
theorem law_call {P : Program} {w : World} {K : PySem.W.Frag} {mg mb : Str → Option Value} {CX : CXT} {k : Nat} {fa a : Addr} {fd : FuncData} {x : Str} {sp : Sp} {s₁ : Shared} {vs : List Value} {ns : List Int}
    (KX : K.In s₁.heap) (hns : s₁.heap.Ns mainGlobals mg) (hb : s₁.heap.Ns builtinsNs mb) (hbb : ∀ x : Str, x ≠ "__name__" → mb x = bootBuiltins x) (hlim : s₁.heap.NoLimit) (hg : s₁.gens = #[])
    (ha : s₁.heap.get? a = some { cls := .type "list", data := .seq vs.toArray }) (hi : IntsAre vs ns) (hl : ns.length ≤ sizeLine) (hr : Room k callerA)
    (F : ∀ base : Heap, K.In base → base.Ns mainGlobals mg → FnOk P w K mg base CX k fa fd [x] sp) (hbind : ∀ (s : Shared) (u : Value), BindsTo s fd ⟨[u], []⟩ [(x, u)])
    (hsp : ∀ H : Hp, Only H → SqL K H a (ns.map V.int) → sp [.ref a] H (fun v _ => v = .bl true) fun _ _ _ => False)
    (hCX : ∀ H e s', CX [] H s₁ (fun _ _ _ => False) e s' → False) :
    codeAny (model P w) callerA (.call (.ref fa) ⟨[.ref a], []⟩) (fun r s' => r = .ok (.ret (.bool true)) ∧ OldK s₁.heap s'.heap ∧ s'.os = s₁.os ∧ AllBare s'.gens) s₁ := by
  have rv := vals_ints hi
  have lenV := hi.length
  -- from an abstract heap in which nothing but the script may be tracked
  have core : ∀ H : Hp, Only H → SqL K H a (ns.map V.int) → HOk P w H s₁.heap → (∀ b, H b ≠ none → b = a) → (H a ≠ none → K.lookup a = none) →
      codeAny (model P w) callerA (.call (.ref fa) ⟨[.ref a], []⟩) (fun r s' => r = .ok (.ret (.bool true)) ∧ OldK s₁.heap s'.heap ∧ s'.os = s₁.os ∧ AllBare s'.gens) s₁ := by
    intro H hO hS hok hA hK
    have base_of : ∀ {b : Addr} {o : Obj}, s₁.heap.get? b = some o → H b = none → (hidT s₁.heap H).get? b = some o := fun e n => hidT_get e n
    have noA : ∀ {b : Addr} {o : Obj} {es : Array DictEntry} {ep : Nat}, s₁.heap.get? b = some o → o.data = .dict es ep → H b = none := fun {b o es ep} e d => by
      cases q : H b with
      | none => rfl
      | some u =>
        have e' : b = a := hA b (by rw [q]; simp)
        subst e'
        rw [ha] at e; cases e
        have d' : Data.seq vs.toArray _ = Data.dict es ep := d
        cases d'
    have nsK : ∀ {b : Addr} {m : Str → Option Value}, s₁.heap.Ns b m → (hidT s₁.heap H).Ns b m := fun {b m} ⟨o, es, ep, e, d, r⟩ => ⟨o, es, ep, base_of e (noA e d), d, r⟩
    have hKb : K.In (hidT s₁.heap H) := fun b o e => base_of (KX b o e) (by
      cases q : H b with
      | none => rfl
      | some u =>
        have e' : b = a := hA b (by rw [q]; simp)
        subst e'
        rw [hK (by rw [q]; simp)] at e; cases e)
    have hM : Mod K mg (hidT s₁.heap H) := ⟨hKb, nsK hns, ⟨mb, nsK hb, hbb⟩, let ⟨mc, h1, h2⟩ := hlim; ⟨mc, nsK h1, h2⟩⟩
    have e0 : Env0 P w K mg (hidT s₁.heap H) callerA [] s₁ H := ⟨rfl, hM, fun b o e => of_hidT e, Nat.le_of_eq (hidT_size _ _), trivial, fun b hb => absurd (show b ∈ ([] : List Addr) from hb) (by simp), hok, .of_eq hg⟩
    refine codeAny_mono ((F _ hKb (nsK hns)).run callerA [] s₁ H ⟨[.ref a], []⟩ [.ref a] [.ref a] _ _ hr e0 (hbind s₁ (.ref a)) (.cons rfl .nil) (hsp H hO hS)) fun r s' h => ?_
    cases r with
    | error e => exact (hCX H e s' h).elim
    | ok fl =>
      cases fl with
      | next => exact False.elim h
      | brk => exact False.elim h
      | cont => exact False.elim h
      | ret u =>
        obtain ⟨v, H', os, bare, un, hok', r', q⟩ := h
        have q' : v = .bl true := q
        subst q'
        obtain rfl : u = Value.bool true := r'
        refine ⟨rfl, OldK.of_keep fun b o e => ?_, os, bare⟩
        cases q : H b with
        | none => exact un.keep b o e q (by intro z; exact absurd (show b ∈ ([] : List Addr) from z) (by simp)) (by simp)
        | some u =>
          rcases hO b with z | ⟨ob, xs, z⟩
          · rw [q] at z; cases z
          · have z2 := un.frzs b ob _ z
            obtain ⟨e1, _⟩ := hok b _ z
            obtain ⟨e2, _⟩ := hok' b _ z2
            rw [e] at e1; cases e1
            exact e2
  cases hk : K.lookup a with
  | some o =>
    -- the script is one of the module's own objects
    have e := KX a o hk
    rw [ha] at e
    cases e
    refine core (fun _ => none) (fun _ => .inl rfl) (.inr ⟨_, vs.toArray, _, hk, rfl, rfl, rfl, by rw [List.size_toArray, lenV]; exact hl, by simpa using rv⟩) (fun b u z => by have z' : (none : Option HO) = some u := z; cases z') (fun b z => absurd rfl z) fun z => absurd rfl z
  | none =>
    refine core (fun b => if b = a then some (.frz { cls := .type "list", data := .seq vs.toArray } (.lst (ns.map V.int))) else none) (fun b => ?_) (.inl (.inr ⟨{ cls := .type "list", data := .seq vs.toArray }, if_pos rfl⟩)) (fun b u z => ?_) (fun b z => ?_) fun _ => hk
    · by_cases hb : b = a
      · exact .inr ⟨_, _, if_pos hb⟩
      · exact .inl (if_neg hb)
    · by_cases hb : b = a
      · have z' := (if_pos hb).symm.trans z
        cases z'
        subst hb
        exact ⟨ha, by rw [List.length_map]; exact hl, vs, _, rv, ha⟩
      · have z' := (if_neg hb).symm.trans z
        cases z'
    · by_cases hb : b = a
      · exact hb
      · exact absurd (if_neg hb) z
end L2

namespace L2
open PySem PySem.Spec PyProof.Rows


/-- the goal that k_head leaves (case hc), from the law's promise. F gives the function object fd (K's own) once, then the promise over every base -/
theorem walk_of {l : PySem.W.OpenLaw} {n k : Nat} {q : Program} {loose : List Str} {XP : (Str → Option Value) → Heap → Prop} {YP : World → Heap → Prop} {d : DefRec} {K : Params → PySem.W.Frag} {CX : World → CXT} {sp : World → Sp} {x : Str}
    (hn : l.most = some n) (hn2 : n ≤ sizeLine) (hdf : d.params.defaults = []) (hr : Room k callerA)
    (hY : ∀ (w : World) (h : Heap), YP w h → (K w.params).In h)
    (F : ∀ (w : World) (mg : Str → Option Value) (fa : Addr) (h : Heap), (K w.params).In h → h.Ns mainGlobals mg → mg d.name = some (.ref fa) →
      ∃ fd : FuncData, (∀ (s : Shared) (u : Value), BindsTo s fd ⟨[u], []⟩ [(x, u)]) ∧
        ∀ base : Heap, (K w.params).In base → base.Ns mainGlobals mg → FnOk l.prog w (K w.params) mg base (CX w) k fa fd [x] (sp w))
    (hsp : ∀ (w : World) (H : Hp) (a : Addr) (ns : List Int), ns.length ≤ n → Only H → SqL (K w.params) H a (ns.map V.int) → sp w [.ref a] H (fun v _ => v = .bl true) fun _ _ _ => False)
    (hCX : ∀ (w : World) (H : Hp) (s : Shared) (e : Value) (s' : Shared), CX w [] H s (fun _ _ _ => False) e s' → False) :
    PySem.W.WalkO q loose XP YP l.row.toRowW d [] (fun f vs => PySem.call f vs) := by
  refine Att.attach_call hn hdf fun w s₀ s₁ mg mb fa o pm cd doc a vs ns G Y ho hd hcd hmg hobj hints hlen hg => ?_
  have KX := hY w _ Y
  obtain ⟨fd, hb, hF⟩ := F w mg fa _ KX G.T.g hmg
  exact law_call KX G.T.g G.T.b G.T.builtins G.T.nolimit hg hobj hints (Nat.le_trans hlen hn2) hr hF hb (fun H hO hS => hsp w H a ns hlen hO hS) fun H e s' => hCX w H s₁ e s'
end L2

/- THE LAST THEOREM (shape; LID, My.* are yours):
   My.Adr: a structure of the addresses that your layer names (classes, functions); My.Txt K t: a structure (Prop) of the equations over K;
   My.txt_mk : {K} {implicit addresses ..} (e1 : nsIn K mainGlobals "law" = some (some (.ref f))) (e2 : K.lookup f = some ⟨oc, od, .func (fnOf "law" "law" params body scope dV kV doc pm an cdv ct), sl⟩) (e3 : codeIn K cdv "law" = true) .. : ∃ t, My.Txt K t

set_option maxRecDepth 100000 in
set_option maxHeartbeats 0 in
theorem PySem.Challenge.cw_LID_holds : PySem.Challenge.rw_LID.Holds := by
  w_on; o_law; k_head; (case hw => w_witness2)
  k_fill
  refine L2.walk_of (l := PySem.Challenge.rw_LID) (n := 63) (k := 40) (x := "script") (CX := fun w => ..) (sp := fun _ => My.sp_law) rfl (by decide) rfl ⟨rfl, by decide, by decide⟩ (fun w h Y => PySem.W.kIn_of Y) ?F ?S ?C
  case F =>
    intro w mg fa h KX G hmg
    have T : ∃ t, My.Txt (L2.KOf KX) t := by
      dsimp only [L2.KOf]                          -- K must stand as «<heap const> w.params» for k_is
      refine' My.txt_mk ?e1 ?e2 ?e3 ..
      (case e1 => PySem.W.k_is)                    -- in the order: a name -> its address -> its object -> its parts
      (case e2 => PySem.W.k_is)
      ..
    obtain ⟨t, T⟩ := T
    have e0 := hmg.symm.trans (PySem.W.mg_of KX G T.law)
    cases e0                                       -- fa is the law's own address
    exact ⟨_, fun s u => .of_eq rfl, fun base kb nb => My.law_fn T kb nb⟩     -- if «.of_eq rfl» comes too early: refine' ⟨_, ?b, fun base kb nb => My.law_fn T kb nb⟩; exact fun s u => .of_eq rfl
  case S => exact fun w H a ns hl hO hS => ..
  case C => exact ..
(the tactic k_is has no namespace: write k_is) -/

/-! SHORT WORDS over the layer: a def of the text, its body, what a loop and a test want. -/
namespace L2
open PySem PySem.Spec PyProof.Rows

/-! ### the text by places -/
def defArgs (s : Stmt) : Arguments := match s with
  | .FunctionDef _ a _ _ _ _ _ _ _ _ => a
  | _ => { posonlyargs := [], args := [], vararg := none, kwonlyargs := [], kw_defaults := [], kwarg := none, defaults := [] }
def defBody (s : Stmt) : List Stmt := match s with
  | .FunctionDef _ _ b _ _ _ _ _ _ _ => b
  | _ => []
def defScope (s : Stmt) : Scope := match s with
  | .FunctionDef _ _ _ _ _ _ sc _ _ _ => sc
  | _ => { kind := .function, names := [], isGenerator := false, isCoroutine := false }

/-! ### no exception leaves a def -/
abbrev CX0 : CXT := fun _ _ _ _ _ _ => False
abbrev E0 : XK := fun _ _ _ => False
theorem pass0 {X : Cx} : Passes CX0 X E0 := fun _ _ _ _ _ _ _ h => h.elim

/-! ### a def (or method) of the text as it stands behind the top -/
structure Fun (K : PySem.W.Frag) (x qual : Str) (st : Stmt) (f : Addr) (fd : FuncData) : Prop where
  ex : ∃ (oc : Value) (od : Option Addr) (kV doc pm : Value) (an : Option Addr) (cdv ct : Value) (osl : Array (Option Value)),
    fd = PySem.W.fnOf x qual (defArgs st) (defBody st) (defScope st) .none kV doc pm an cdv ct ∧ K.lookup f = some ⟨oc, od, .func fd, osl⟩ ∧ PySem.W.codeIn K cdv qual = true
  kp : PySem.W.keepIn K (.ref f) = true
section
variable {P : Program} {w : World} {K : PySem.W.Frag} {mg : Str → Option Value} {base : Heap}
/-- THE RULE for a def: its body as a term of rules, and the reading of that term -/
theorem Fun.ok {x qual : Str} {st : Stmt} {f : Addr} {fd : FuncData} {N ps : List Str} {k : Nat} {sp : Sp} (F : Fun K x qual st f fd) (S : FnScope N ps (defScope st)) (len : ∀ vs H Q E, sp vs H Q E → vs.length = ps.length)
    (hbody : ∀ (cdv : Value) (A : Around) (outer : List Env) (s : Shared) (H : Hp) (vs : List V) (Q : VK) (E : XK), Room k (A.deeper (envOfC qual (defScope st) s.heap.objs.size f cdv)) → sp vs H Q E →
      ∃ t, PSs (cxOf CX0 P w K mg base N qual (defScope st) f cdv A outer s H E).nox (defBody st) t ∧ t { nx := fun _ H' => Q .non H', rt := Q } (start N vs) H) : FnOk P w K mg base CX0 (k + 1) f fd ps sp := by
  obtain ⟨oc, od, kV, doc, pm, an, cdv, ct, osl, rfl, lk, hcd⟩ := F.ex
  refine fn_of lk hcd S len fun A outer s H vs Q E hr hsp => ?_
  obtain ⟨t, h, q⟩ := hbody cdv A outer s H vs Q E hr hsp
  exact ⟨t, h.nox, q⟩
/-- how its arguments bind (no defaults): h is «fun _ _ _ _ _ _ us hl => match us, hl with | [_, _], _ => rfl», one _ a parameter -/
theorem Fun.binds {x qual : Str} {st : Stmt} {f : Addr} {fd : FuncData} {ps : List Str} (F : Fun K x qual st f fd)
    (h : ∀ (kV doc pm : Value) (an : Option Addr) (cdv ct : Value) (us : List Value), us.length = ps.length → bindArgs (PySem.W.fnOf x qual (defArgs st) (defBody st) (defScope st) .none kV doc pm an cdv ct) ⟨us, []⟩ = pure (ps.zip us)) : Binds K fd ps [] := by
  obtain ⟨oc, od, kV, doc, pm, an, cdv, ct, osl, rfl, lk, hcd⟩ := F.ex
  exact .all (h kV doc pm an cdv ct)
theorem fun_mk {x qual : Str} {st : Stmt} {f : Addr} {oc : Value} {od an : Option Addr} {osl : Array (Option Value)} {kV doc pm cdv ct : Value} (l : K.lookup f = some ⟨oc, od, .func (PySem.W.fnOf x qual (defArgs st) (defBody st) (defScope st) .none kV doc pm an cdv ct), osl⟩)
    (c : PySem.W.codeIn K cdv qual = true) (k : PySem.W.keepIn K (.ref f) = true) : Fun K x qual st f (PySem.W.fnOf x qual (defArgs st) (defBody st) (defScope st) .none kV doc pm an cdv ct) := ⟨⟨oc, od, kV, doc, pm, an, cdv, ct, osl, rfl, l, c⟩, k⟩
end
theorem hu_of {A : Around} {k : Nat} (hr : Room k A) : A.units + 1 < cLine := Nat.lt_of_le_of_lt (Nat.add_le_add_left (by decide : 1 ≤ 64) _) hr.units

/-! ### expressions in short: the name that stands in the i-th slot -/
section
variable {X : Cx}
theorem pv (i : Nat) {x : Str} {pos : Pos} (hN : X.N[i]? = some x := by rfl) (hv : Vis X.env.scope x := by first | exact Or.inl rfl | exact Or.inr (Or.inl rfl) | exact Or.inr (Or.inr rfl)) (hd : (x == ("__debug__" : Str)) = false := by decide)
    (hcd : (x == ("__classdict__" : Str)) = false := by decide) : PE X (.Name x pos) (tVar i) := pe_var hN hv hd hcd
end

/-! ### tests -/
theorem ite2 {c A B : Prop} [Decidable c] (h1 : c → A) (h2 : ¬ c → B) : if c then A else B := by
  by_cases h : c
  · rw [if_pos h]
    exact h1 h
  · rw [if_neg h]
    exact h2 h

/-! ### heaps -/
/-- all that was tracked is as it was -/
def Same (H H' : Hp) : Prop := ∀ b o, H b = some o → H' b = some o
theorem Same.refl (H : Hp) : Same H H := fun _ _ h => h
theorem Same.trans {H H1 H2 : Hp} (a : Same H H1) (b : Same H1 H2) : Same H H2 := fun c o h => b c o (a c o h)

/-! ### a dict's pairs: keys that differ -/
section
variable {κ : Type} [DecidableEq κ]
end
end L2

set_option Elab.async false
set_option linter.all false
set_option maxRecDepth 100000
/-! Short words of my own over the layer: defs by name, calls, joined operations. -/
namespace BB
open PySem PySem.Spec PyProof.Rows L2

/-- a def of the module's top: its object, under its name -/
structure Def (K : PySem.W.Frag) (mg : Str → Option Value) (x : Str) (st : Stmt) : Prop where
  ex : ∃ f fd, Fun K x x st f fd ∧ mg x = some (.ref f)
/-- a def that may be called by its name, with its promise -/
structure Can (P : Program) (w : World) (K : PySem.W.Frag) (mg : Str → Option Value) (base : Heap) (CX : CXT) (k : Nat) (x : Str) (ps : List Str) (sp : Sp) : Prop where
  ex : ∃ f fd, FnOk P w K mg base CX k f fd ps sp ∧ mg x = some (.ref f) ∧ PySem.W.keepIn K (.ref f) = true ∧ Binds K fd ps []
section
variable {P : Program} {w : World} {K : PySem.W.Frag} {mg : Str → Option Value} {base : Heap}
theorem Def.can {x : Str} {st : Stmt} {N ps : List Str} {k : Nat} {sp : Sp} (F : Def K mg x st) (S : FnScope N ps (defScope st))
    (hb : ∀ (kV doc pm : Value) (an : Option Addr) (cdv ct : Value) (us : List Value), us.length = ps.length → bindArgs (PySem.W.fnOf x x (defArgs st) (defBody st) (defScope st) .none kV doc pm an cdv ct) ⟨us, []⟩ = pure (ps.zip us))
    (len : ∀ vs H Q E, sp vs H Q E → vs.length = ps.length)
    (hbody : ∀ (f : Addr) (cdv : Value) (A : Around) (outer : List Env) (s : Shared) (H : Hp) (vs : List V) (Q : VK) (E : XK), Room k (A.deeper (envOfC x (defScope st) s.heap.objs.size f cdv)) → sp vs H Q E →
      ∃ t, PSs (cxOf CX0 P w K mg base N x (defScope st) f cdv A outer s H E).nox (defBody st) t ∧ t { nx := fun _ H' => Q .non H', rt := Q } (start N vs) H) : Can P w K mg base CX0 (k + 1) x ps sp := by
  obtain ⟨f, fd, F1, hm⟩ := F.ex
  exact ⟨f, fd, F1.ok S len (hbody f), hm, F1.kp, F1.binds hb⟩
end
section
variable {X : Cx} {x : Str} {k : Nat} {ps : List Str} {sp : Sp} {p pos : Pos} {e : Expr} {es : List Expr} {t : TA}
theorem pe_can (C : Can X.prog X.w X.K X.mg X.base CX0 k x ps sp) (hr : Room k X.A) (hg : Gl X x) (ha : PA X (e :: es) t)
    (hdb : (x == ("__debug__" : Str)) = false := by decide) (he : starEach (e :: es) X.env = (false, eval e X.env) :: starEach es X.env := by rfl) (hpl : (backTo pos (starEach es X.env)).any (·.1) = false := by rfl) :
    PE X (.Call (.Name x p) (e :: es) [] pos) (tCall sp [] E0 t) := by
  obtain ⟨f, fd, F, hm, hk, hb⟩ := C.ex
  exact pe_call F hr hg hm hk hb .nil pass0 ha hdb he hpl
end
/-- + of ints, texts, lists -/
theorem op_plus {X : Cx} : OpR X (binaryOp .Add) (fun x y H Q => rI0 (fun i j => V.int (i + j)) x y H Q ∨ (∃ i j, x = V.str i ∧ y = .str j ∧ i.length + j.length ≤ sizeLine ∧ Q (.str (i ++ j)) H) ∨ rCat x y H Q) :=
  op_add.or (op_add_str.or op_cat)
/-- x in a text; in a list or a tuple of flat items -/
theorem op_inx {X : Cx} : OpR X (compareOp .In) (fun x y H Q => (∃ i j, x = V.str i ∧ y = .str j ∧ Q (.bl (!(Builtin.Str.occurrences j i 0 j.length 1).isEmpty)) H) ∨ rIn X.K false x y H Q) := op_in_str.or op_in_seq
theorem sl_x {X : Cx} : SlR X (rSlL X.K) := sl_list
theorem bt_max : bootBuiltins "max" = some (.builtin "max") := by decide +kernel
theorem bt_len : bootBuiltins "len" = some (.builtin "len") := by decide +kernel
theorem bt_all : bootBuiltins "all" = some (.builtin "all") := by decide +kernel
theorem bt_isinstance : bootBuiltins "isinstance" = some (.builtin "isinstance") := by decide +kernel
theorem bt_int : bootBuiltins "int" = some (.type "int") := by decide +kernel
theorem bt_str : bootBuiltins "str" = some (.type "str") := by decide +kernel
theorem bt_bool : bootBuiltins "bool" = some (.type "bool") := by decide +kernel
theorem bt_tuple : bootBuiltins "tuple" = some (.type "tuple") := by decide +kernel
/-- the factors -/
theorem cmulR {i j : Int} (h1 : -(2 ^ 64) < j) (h2 : j < 2 ^ 64) : CMul i j := .inr ⟨h1, h2⟩
theorem cmulL {i j : Int} (h1 : -(2 ^ 64) < i) (h2 : i < 2 ^ 64) : CMul i j := .inl ⟨h1, h2⟩

/-! ### the draws: a list of n numbers from 0 to 719 -/
/-! ### lists, places, heaps -/
theorem at_mem {α : Type} {xs : List α} {i : Int} (h0 : 0 ≤ i) (h1 : i < xs.length) : ∃ v, v ∈ xs ∧ atI xs i = some v := by
  obtain ⟨j, rfl⟩ := Int.eq_ofNat_of_zero_le h0
  have hj : j < xs.length := by omega
  exact ⟨xs[j], List.getElem_mem hj, atI_nat (by simp [hj])⟩
theorem cutV_mem {xs : List V} {lo hi : Option Int} {x : V} (h : x ∈ cutV xs lo hi) : x ∈ xs := by
  unfold cutV at h
  exact List.mem_of_mem_drop (List.mem_of_mem_take h)
theorem same_upd {H : Hp} {p : Addr} {o : HO} (h : H p = none) : Same H (upd H p o) := fun b u e => by
  rw [upd_ne (ne_of_none e h)]; exact e
theorem in2 {x a b : Str} : (if false = true then !inV (V.str x) [.str a, .str b] else inV (V.str x) [.str a, .str b]) = true ↔ x = a ∨ x = b := by
  show inV (V.str x) [.str a, .str b] = true ↔ _
  unfold inV
  simp only [List.any_cons, List.any_nil, eqV, Bool.or_false, Bool.or_eq_true, beq_iff_eq]
  exact ⟨fun h => h.imp Eq.symm Eq.symm, fun h => h.imp Eq.symm Eq.symm⟩
theorem qb {Q : VK} {a b : Bool} {H : Hp} (e : a = b) (h : Q (.bl a) H) : Q (.bl b) H := e ▸ h
theorem if_t {c : Bool} {A B : Prop} (e : c = true) (h : A) : if c = true then A else B := by rw [if_pos e]; exact h
theorem if_f {c : Bool} {A B : Prop} (e : c = false) (h : B) : if c = true then A else B := by rw [if_neg (by rw [e]; exact Bool.false_ne_true)]; exact h
theorem same_at {H : Hp} {p : Addr} {o : HO} (h : H p = none) : Same H (upd H p o) ∧ upd H p o p = some o := ⟨same_upd h, upd_same⟩
/-! ### from what the top has written -/
section
variable {K : PySem.W.Frag} {h : Heap} {mg : Str → Option Value} {f : Addr} {od an : Option Addr} {sl : Array (Option Value)} {oc kV doc pm cd ct : Value}
theorem mk_def {x : Str} {st : Stmt} (X : K.In h) (G : h.Ns mainGlobals mg) (a : PySem.W.nsIn K mainGlobals x = some (some (.ref f)))
    (l : K.lookup f = some ⟨oc, od, .func (PySem.W.fnOf x x (defArgs st) (defBody st) (defScope st) .none kV doc pm an cd ct), sl⟩) (c : PySem.W.codeIn K cd x = true) (k : PySem.W.keepIn K (.ref f) = true) : Def K mg x st :=
  ⟨f, _, fun_mk l c k, PySem.W.mg_of X G a⟩
theorem mk_law {P : Program} {w : World} {st : Stmt} {fa : Addr} {x : Str} {k : Nat} {CX : CXT} {sp : Sp} (X : K.In h) (G : h.Ns mainGlobals mg) (hfa : mg "law" = some (.ref fa)) (a : PySem.W.nsIn K mainGlobals "law" = some (some (.ref f)))
    (l : K.lookup f = some ⟨oc, od, .func (PySem.W.fnOf "law" "law" (defArgs st) (defBody st) (defScope st) .none kV doc pm an cd ct), sl⟩) (c : PySem.W.codeIn K cd "law" = true) (kp : PySem.W.keepIn K (.ref f) = true)
    (hb : ∀ (kV doc pm : Value) (an : Option Addr) (cd ct v : Value), bindArgs (PySem.W.fnOf "law" "law" (defArgs st) (defBody st) (defScope st) .none kV doc pm an cd ct) ⟨[v], []⟩ = pure [(x, v)])
    (ok : ∀ (fd : FuncData) (base : Heap), Fun K "law" "law" st fa fd → FnOk P w K mg base CX k fa fd [x] sp) :
    ∃ fd : FuncData, (∀ (s : Shared) (v : Value), BindsTo s fd ⟨[v], []⟩ [(x, v)]) ∧ ∀ base : Heap, K.In base → base.Ns mainGlobals mg → FnOk P w K mg base CX k fa fd [x] sp := by
  have e := hfa.symm.trans (PySem.W.mg_of X G a)
  cases e
  exact ⟨_, fun s v => .of_eq (hb kV doc pm an cd ct v), fun base _ _ => ok _ base (fun_mk l c kp)⟩
end
end BB

set_option Elab.async false
set_option linter.all false
set_option maxRecDepth 100000
/-! A list comprehension of one clause, without a test. -/
namespace BB
open PySem PySem.Spec PyProof.Rows L2

def cxComp (X : Cx) (scope : Scope) (cl : List (Str × Addr)) (C : Addr) (N : List Str) (s : Shared) (H : Hp) (ex : List Addr) (pn : List (Addr × Obj)) : Cx :=
  { X with env := compEnvC scope cl C X.env, N := N, s₀ := s, H₀ := H, outer := X.stack, ex := ex, fn := fun _ => false, pn := pn, xe := fun _ _ => False }
/-- what the comprehension's names are: x its own, the others of the def around, by cells -/
structure CompSc (X : Cx) (scope : Scope) (cl : List (Str × Addr)) (x : Str) (N : List Str) (ci : List Nat) : Prop where
  clos : closureFor scope X.env = pure cl
  ncell : ∀ y ∈ scope.names, y.2 ≠ .cell
  kind : scope.kind = .function
  names : ∀ y ∈ scope.names, y.2 = .local → scope.names.lookup y.1 = some .local
  hx : scope.names.lookup x = some .local
  n0 : N[0]? = some x
  nd : N.Nodup
  len : N.length = ci.length + 1
  sub : ∀ y c, cl.lookup y = some c → X.env.cells.lookup y = some c
  has : ∀ y ∈ scope.names, y.2 = .free → (cl.lookup y.1).isSome = true
  cap : ∀ j i y, ci[j]? = some i → N[j + 1]? = some y → X.N[i]? = some y ∧ X.env.kindOf y = some .cell ∧ (relabel scope X.env).names.lookup y = some .cell
def capS (ci : List Nat) (σ : L2.St) : L2.St := ci.map fun i => (σ[i]?).join
/-- what is wanted of a comprehension's loop -/
def CompAt (J : It) (te : TE) (σc : L2.St) (Q : VK) (H1 : Hp) (D : Addr) : Prop := ∃ W : Nat → Nat → List V → Hp → Prop, (∃ m, W 0 m [] (upd H1 D (.lst []))) ∧ ∀ i m ys H, W i m ys H →
  H D = some (.lst ys) ∧ ((J.stop i H ∧ Q (.ref D) H) ∨ (J.go i H ∧ ys.length < sizeLine ∧ ∀ v H', J.yld i H v H' → te (some v :: σc) H' fun y H2 => H2 D = some (.lst ys) ∧ ∃ m', m' < m ∧ W (i + 1) m' (ys ++ [y]) (upd H2 D (.lst (ys ++ [y])))))
def tComp (wi : TI) (te : TE) (ci : List Nat) : TE := fun σ H Q => wi σ H fun J H1 => ∀ D, H1 D = none → CompAt J te (capS ci σ) Q H1 D

theorem un_but {fs ex : List Addr} {H H' : Hp} {h h1 h2 : Heap} {C : Addr} (u : Un fs ex H H' h h1) (hs : Heap.SameBut C h1 h2) (hC : h.objs.size ≤ C) : Un fs ex H H' h h2 where
  keep := fun b o e n hb hx => (hs.2 b (Nat.ne_of_lt (Nat.lt_of_lt_of_le (Heap.lt_size e) hC))).trans (u.keep b o e n hb hx)
  slot := fun b o e n hb hx => let ⟨sl, q⟩ := u.slot b o e n hb hx; ⟨sl, (hs.2 b (Nat.ne_of_lt (Nat.lt_of_lt_of_le (Heap.lt_size e) hC))).trans q⟩
  free := u.free
  there := fun b o e hx => let ⟨o', q⟩ := u.there b o e hx; ⟨o', (hs.2 b (Nat.ne_of_lt (Nat.lt_of_lt_of_le (Heap.lt_size e) hC))).trans q⟩
  tups := u.tups
  frzs := u.frzs
  tbls := u.tbls
theorem hok_but {P : Program} {w : World} {H : Hp} {h h' : Heap} {C : Addr} (x : HOk P w H h) (hs : Heap.SameBut C h h') (hC : H C = none) : HOk P w H h' := fun a o e =>
  (x a o e).stay (fun b u hb q => (hs.2 b (by
    rintro rfl
    rcases hb with rfl | hb
    · rw [hC] at e; cases e
    · rw [hC] at hb; cases hb)).trans q) (fun _ q => q) fun _ _ q => q
theorem lookup_mem {α β : Type} [BEq α] [LawfulBEq α] : ∀ {l : List (α × β)} {a : α} {b : β}, l.lookup a = some b → (a, b) ∈ l
  | [], _, _, h => by cases h
  | (a', b') :: r, a, b, h => by
    rw [List.lookup_cons] at h
    cases e : a == a' with
    | true => rw [e] at h; cases h; rw [eq_of_beq e]; exact List.mem_cons_self
    | false => rw [e] at h; exact List.mem_cons_of_mem _ (lookup_mem h)

theorem pe_comp {X : Cx} {scope : Scope} {cl : List (Str × Addr)} {x : Str} {px pos : Pos} {iter elt : Expr} {N : List Str} {ci : List Nat} {te : TE} {wi : TI} (S : CompSc X scope cl x N ci) (hc : X.calm = true) (hi : PI X (.Name x px) iter wi)
    (he : ∀ C s H ex pn, PE (cxComp X scope cl C N s H ex pn) elt te) (hs : ∀ y, foldedSetIterable iter X.env y = pure y := by intro _; rfl) :
    PE X (.ListComp elt [⟨.Name x px, iter, [], 0⟩] scope pos) (tComp wi te ci) := by
  intro pins s σ H Q I h
  rw [eval_ListComp]
  refine wpAny_comprehension_free (use := none) rfl hs S.clos S.kind S.names (thn (hi pins s σ H _ I h) fun v s1 h1 => thn h1 fun itv s2 h2 => ?_)
  obtain ⟨it, fp, tn, J, H2, rfl, I2, T, st2, f2, hD⟩ := h2
  obtain ⟨W, ⟨m0, w0⟩, turn⟩ := hD s2.heap.objs.size (I2.hok.fresh (Nat.le_refl _))
  refine wpAny_newObj_type (wpAny_newFunctionEnv S.ncell (by intro y hy; simp at hy) (fun h₁ hns₁ hsb₁ => ?_) S.kind)
  dsimp only at hns₁ hsb₁ ⊢
  generalize hH2 : s2.heap.push { cls := .type "list", dict := none, data := .seq ([] : List Value).toArray } = hp2 at hns₁ hsb₁ ⊢
  have hCz : hp2.objs.size = s2.heap.objs.size + 1 := by rw [← hH2, Heap.size_push]
  have hDC : s2.heap.objs.size ≠ hp2.objs.size := by rw [hCz]; exact Nat.ne_of_lt (Nat.lt_succ_self _)
  have hCle : s2.heap.objs.size ≤ hp2.objs.size := by rw [hCz]; exact Nat.le_succ _
  have old : ∀ b o, s2.heap.get? b = some o → h₁.get? b = some o := fun b o e => hsb₁.extBut b o (Nat.ne_of_lt (by rw [hCz]; exact Nat.lt_succ_of_lt (Heap.lt_size e))) (Heap.get?_push_of_some _ (hH2 ▸ Heap.get?_push_of_some _ e))
  have hDg : h₁.get? s2.heap.objs.size = some { cls := .type "list", dict := none, data := .seq ([] : List Value).toArray } := hsb₁.extBut _ _ hDC (Heap.get?_push_of_some _ (hH2 ▸ Heap.get?_push_size _ rfl))
  have f2z : ∀ b ∈ fp, b < s2.heap.objs.size := fun b hb => let ⟨o, e, _⟩ := T.obj _ _ st2 b hb; Heap.lt_size e
  let X' := cxComp X scope cl hp2.objs.size N s2 H2 fp (X.pn ++ pins)
  have hCnone : ∀ o, upd H2 s2.heap.objs.size o hp2.objs.size = none := fun o => by rw [upd_ne hDC.symm]; exact I2.hok.fresh hCle
  have sub2 : ∀ b ∈ frs X.stack, b < s2.heap.objs.size := fun b hb => by
    obtain ⟨_, o, ho, _⟩ := I2.stack.mem hb
    exact Heap.lt_size ho
  have cellz : ∀ y c, cl.lookup y = some c → c < s2.heap.objs.size ∧ H2 c = none := fun y c e => by
    have e' := S.sub y c e
    obtain ⟨v, q⟩ := I2.cell y c e'
    exact ⟨q.lt, I2.freeC y c e'⟩
  have kloc : X'.env.kindOf x = some .local := lookup_relabel_local S.hx
  have okX : X'.Ok := {
    mod := I2.ok.mod
    kind := S.kind
    glob := I2.ok.glob
    blt := I2.ok.blt
    above := hCle
    inj := fun y z c e1 e2 => I2.ok.inj y z c (S.sub y c e1) (S.sub z c e2)
    has := fun y hy => by
      have key : ∀ k, (relabel scope X.env).names.lookup y = some k → (k = .cell ∨ k = .free) → ∃ c, cl.lookup y = some c := fun k hk hkk => by
        have hm := lookup_mem hk
        obtain ⟨⟨n, k0⟩, hm0, e0⟩ := List.mem_map.mp hm
        have hn : n = y ∧ k0 = .free := by
          dsimp only at e0
          split at e0
          · rename_i hcond
            cases e0
            simp only [Bool.and_eq_true, beq_iff_eq] at hcond
            exact ⟨rfl, hcond.1.1⟩
          · cases e0
            rcases hkk with rfl | rfl
            · exact absurd rfl (S.ncell _ hm0)
            · exact ⟨rfl, rfl⟩
        obtain ⟨rfl, rfl⟩ := hn
        exact Option.isSome_iff_exists.mp (S.has _ hm0 rfl)
      rcases hy with hy | hy
      · exact key _ hy (.inl rfl)
      · exact key _ hy (.inr rfl)
    cab := fun y c hf _ => by cases hf
    hd := I2.ok.hd
    frames := I2.ok.frames
    stk := .inl rfl
    exf := fun b hb => ⟨Nat.ne_of_lt (by rw [show X'.env.locals = hp2.objs.size from rfl, hCz]; exact Nat.lt_succ_of_lt (f2z b hb)), fun y c e => (f2 b hb).2.2.2.2.1 y c (S.sub y c e)⟩
    bs := I2.bs
    bsz := Nat.le_trans I2.ok.bsz I2.sz
    noex := fun b o e hb => by
      rcases (f2 b hb).2.2.2.1 with z | z
      · exact I2.ok.noex b o e z
      · exact absurd (Nat.lt_of_lt_of_le (Heap.lt_size e) (Nat.le_trans I2.ok.bsz z)) (Nat.lt_irrefl _)
    exfs := fun b hb hb2 => by
      rcases List.mem_cons.mp (I2.stkSub b hb2) with z | z
      · exact (f2 b hb).2.1 z
      · exact (f2 b hb).2.2.1 z
    funs := I2.stack
    frf := I2.stkFree }
  have hokD : HOk X.prog X.w (upd H2 s2.heap.objs.size (.lst [])) h₁ := I2.hok.laid old (Nat.le_refl _) ⟨Nat.zero_le _, [], _, .nil, hDg⟩
  have I0 : L2.Inv X' [] (none :: capS ci σ) (upd H2 s2.heap.objs.size (.lst [])) { s2 with heap := h₁, toks := s2.toks + ([] : List (Str × Value)).length } := {
    ok := okX
    os := rfl
    bare := I2.bare
    base := Un.laid old (Nat.le_refl _) (I2.hok.fresh (Nat.le_refl _))
    loc := by
      refine ⟨_, hns₁, fun i y v e1 e2 e3 => ?_⟩
      cases i with
      | zero => simp at e2
      | succ j =>
        have e2' : (capS ci σ)[j]? = some (some v) := by simpa using e2
        unfold capS at e2'
        rw [List.getElem?_map] at e2'
        cases ej : ci[j]? with
        | none => rw [ej] at e2'; cases e2'
        | some i0 =>
          rw [ej] at e2'
          have e4 : (σ[i0]?).join = some v := Option.some.inj e2'
          have e5 : σ[i0]? = some (some v) := by
            cases q : σ[i0]? with
            | none => rw [q] at e4; cases e4
            | some o => rw [q] at e4; have : o = some v := e4; rw [this]
          obtain ⟨c1, c2, c3⟩ := S.cap j i0 y ej e1
          obtain ⟨m, hn, hl⟩ := I2.loc
          obtain ⟨u, r, l⟩ := hl i0 y v c1 e5 (.inr (.inl c2))
          refine ⟨u, r, .inr ⟨.inl c3, ?_⟩⟩
          rcases l with ⟨k, _⟩ | ⟨_, c, e, z⟩
          · rw [c2] at k; cases k
          · obtain ⟨c', hc'⟩ := okX.has y (.inl c3)
            have := S.sub y c' hc'
            rw [e] at this
            cases this
            obtain ⟨oz, hz, hd⟩ := z
            exact ⟨c, hc', oz, old _ _ hz, hd⟩
    cell := fun y c e => by
      obtain ⟨v, oz, hz, hd⟩ := I2.cell y c (S.sub y c e)
      exact ⟨v, oz, old _ _ hz, hd⟩
    free := hCnone _
    freeC := fun y c e => by
      rw [upd_ne (Nat.ne_of_lt (cellz y c e).1)]; exact (cellz y c e).2
    pin := fun p hp => by
      have hp' : p ∈ X.pn ++ pins := by simpa [X', cxComp] using hp
      obtain ⟨e, n, ne, nf, d⟩ := I2.pin p hp'
      refine ⟨old _ _ e, ?_, Nat.ne_of_lt (by rw [show X'.env.locals = hp2.objs.size from rfl, hCz]; exact Nat.lt_succ_of_lt (Heap.lt_size e)), fun z => ?_, d⟩
      · rw [upd_ne (Nat.ne_of_lt (Heap.lt_size e))]; exact n
      · rcases List.mem_cons.mp (I2.stkSub p.1 z) with z | z
        · exact ne z
        · exact nf z
    hok := hokD
    len := by show (none :: capS ci σ).length = N.length; rw [S.len]; simp [capS] }
  have loop : ∀ s₃ : Shared, s₃ = { s2 with heap := h₁, toks := s2.toks + ([] : List (Str × Value)).length } →
      codeAny (model X.prog X.w) X.A (.compLoop (.ListComp elt [⟨.Name x px, iter, [], 0⟩] scope pos) 0 (.ref it) (.ref s2.heap.objs.size) (compEnvC scope cl hp2.objs.size X.env))
        (compPost (model X.prog X.w) X.A X.xe none (EP X pins σ Q) (.ref s2.heap.objs.size) hp2.objs.size) s₃ := by
    rintro s₃ rfl
    have stat : ∀ {H' : Hp}, (∀ b ∈ fp, H' b = none) → ∀ b ∈ fp, FpOk X' [] H' b := fun hn b hb => ⟨hn b hb, (okX.exf b hb).1, okX.exfs b hb, .inl hb, (okX.exf b hb).2, fun p hp => (f2 b hb).2.2.2.2.2 p (by simpa [X', cxComp] using hp)⟩
    refine codeAny_compLoop_tests (fun n s' => ∃ i ys σ0 H', L2.Inv X' [] (σ0 :: capS ci σ) H' s' ∧ tn i s'.heap ∧ (∀ b ∈ fp, H' b = none) ∧ W i n ys H') ?_ m0
      ⟨0, [], none, _, I0, T.keep _ _ _ st2 (fun b _ o e => old b o e), fun b hb => by rw [upd_ne (Nat.ne_of_lt (f2z b hb))]; exact (f2 b hb).1, w0⟩
    rintro n s3 ⟨i, ys, σ0, H3, I3, st3, fr3, w3⟩
    obtain ⟨hD3, way⟩ := turn i n ys H3 w3
    rcases way with ⟨stop, q⟩ | ⟨go, hlen, step⟩
    · refine thn (T.done X' rfl rfl rfl hc i [] s3 _ H3 _ I3 (stat fr3) st3 stop) fun r s4 ⟨hr, I4⟩ => ?_
      subst hr
      obtain ⟨m, hn, _⟩ := I4.loc
      refine ⟨m, hn, fun h' hs' => ⟨.ref s2.heap.objs.size, H3, ?_, rfl, q⟩⟩
      refine Inv.call' (s' := { s4 with heap := h' }) (ch := fp) I2 I4.os (un_but I4.base hs' hCle) (hok_but I4.hok hs' I4.free) I4.bare fun b hb => ?_
      obtain ⟨g1, g2, g3, g4, g5, g6⟩ := f2 b hb
      exact ⟨g4, g2, g5, g6⟩
    · refine thn (T.item X' rfl rfl rfl hc i [] s3 _ H3 _ I3 (stat fr3) st3 go) fun r s4 ⟨u, hr, h4⟩ => ?_
      subst hr
      dsimp only
      have ff : ∀ (e : Value) (s' : Shared), X'.xe e s' → notedBy (model X.prog X.w) X.A (compEnvC scope cl hp2.objs.size X.env) (fun e s' => compPost (model X.prog X.w) X.A X.xe none (EP X pins σ Q) (.ref s2.heap.objs.size) hp2.objs.size (.error e) s') e s' := fun _ _ z => z.elim
      show wpAny _ _ (letOwnedTupleGo (.Name x px) (.ref it) u >>= fun _ => assign (.Name x px) (compEnvC scope cl hp2.objs.size X.env) u) _ _ _
      refine wpAny_bind (thn h4 fun _ s5 ⟨v, H5, I5, r5, y5, st5, fr5⟩ => ?_)
      have I5' := I5.pinned (stat fr5) (T.obj _ _ st5)
      have hg : PG X' (.Name x px) (gName 0) := pg_name S.nd S.n0 (.inl kloc) (.inr kloc)
      refine wpAny_mono (hg _ s5 _ H5 v u (fun σ' H' => σ' = some v :: capS ci σ ∧ H' = H5) I5' r5 ⟨rfl, rfl⟩) (fun _ s6 ⟨σ6, H6, I6, e6, e7⟩ => ?_) ff
      subst e6 e7
      refine wpAny_tests_nil ?_
      rw [if_pos rfl]
      refine wpAny_mono (he _ _ _ _ _ _ s6 _ H6 _ I6 (step v H6 y5)) (fun uy s7 ⟨y, H7, I7, ry, hD7, m', hm', w7⟩ => ?_) ff
      refine wpAny_mono (mt_append (X := X') _ s7 _ H7 (.ref s2.heap.objs.size) [y] (.ref s2.heap.objs.size) [uy] (fun v H' => v = .non ∧ H' = upd H7 s2.heap.objs.size (.lst (ys ++ [y]))) I7 rfl (.cons ry .nil) ⟨_, ys, y, rfl, rfl, hD7, hlen, rfl, rfl⟩) (fun _ s8 ⟨v8, H8, I8, _, e8, e9⟩ => ?_) ff
      subst e9
      refine ⟨m', hm', i + 1, _, _, _, I8.unpinned, T.keep _ _ _ st5 fun b hb o e => (I8.pin (b, o) (List.mem_append_right _ (List.mem_append_right _ (mem_pinsAt hb e)))).1, fun b hb => ?_, w7⟩
      obtain ⟨o, e, d⟩ := T.obj _ _ st5 b hb
      exact (I8.pin (b, o) (List.mem_append_right _ (List.mem_append_right _ (mem_pinsAt hb e)))).2.1
  exact codeAny_compStart_list (loop _ rfl) (T.self _ 0 _ _ _ (T.keep _ _ _ st2 fun b _ o e => old b o e) (loop _ rfl))
end BB

set_option Elab.async false
set_option linter.all false
set_option maxRecDepth 100000
/-! More rules: a text's signs, all, any, isinstance, is, partition, count, a text times a number, the module's dicts. -/
namespace BB
open PySem PySem.Spec PyProof.Rows L2

/-! ### a text's signs -/
def sgn (c : Nat) : V := .str ⟨#[c]⟩
def Its (x : Str) : It := ⟨fun i _ => i < x.length, fun i H v H' => H' = H ∧ ∃ c, x.cps[i]? = some c ∧ v = sgn c, fun i _ => i = x.length⟩
theorem turn_str {P : Program} {w : World} {K : PySem.W.Frag} {tg : Expr} (it : Addr) (x : Str) (t : Tok) (T : String)
    (hT : ["enumerate", "zip", "dict_itemiterator", "dict_reverseitemiterator", "odict_iterator", "itertools.zip_longest", "itertools.pairwise"].contains T = false)
    (S : ∀ (A : Around) (i : Nat) (s : Shared) (Q : Value → Shared → Prop) (E : Value → Shared → Prop), s.heap.IsStrIter it T x t i → Q (.ref it) s → wpAny (model P w) A (pyIter (.ref it)) Q E s)
    (W : ∀ A : Around, A.handled = none → Walks P w A it [it] [it] x.cps.size (SignAt x) (fun i h => h.IsStrIter it T x t i)) : Turn P w K tg (Its x) [it] it (fun i h => h.IsStrIter it T x t i) where
  mem := by simp
  obj := fun i h st b hb => by
    have e : b = it := by simpa using hb
    subst e
    obtain ⟨o, e, c, d⟩ := st
    exact ⟨o, e, fun v z => by rw [d] at z; cases z⟩
  keep := fun i h h' st k => let ⟨o, ho, r⟩ := st; ⟨o, k it (by simp) o ho, r⟩
  item := by
    intro X hP hw hK hc i pins s σ H E I hf st hg
    subst hP hw hK
    obtain ⟨f0, f1, f2, f3, f4, f5⟩ := hf it (by simp)
    refine (W X.A (I.ok.hd hc)).item i s _ _ (show i < x.cps.size from hg) st fun v h' tk hv st' kk => ?_
    obtain ⟨c, u, hcx, rfl⟩ := hv
    have I1 : L2.Inv X pins σ H { s with heap := h', toks := tk } := I.turned (fun b o hb e => kk b o (by simpa using hb) e) f0 f1 f3 f4 f5
    obtain ⟨o, e, cc, d⟩ := id st'
    exact ⟨_, rfl, go_of (s := { s with heap := h', toks := tk }) e cc d hT ⟨sgn c, H, I1, ⟨u, rfl⟩, ⟨rfl, c, hcx, rfl⟩, st', fun b hb => (hf b hb).1⟩⟩
  done := by
    intro X hP hw hK hc i pins s σ H E I hf st hg
    subst hP hw hK
    obtain ⟨f0, f1, f2, f3, f4, f5⟩ := hf it (by simp)
    have hi : i = x.cps.size := hg
    subst hi
    exact (W X.A (I.ok.hd hc)).done s _ _ st fun h' tk kk => ⟨rfl, I.turned (fun b o hb e => kk b o (by simpa using hb) e) f0 f1 f3 f4 f5⟩
  self := S
def iStr (tl : TE) : TI := fun σ H R => tl σ H fun x H1 => ∃ z, x = .str z ∧ R (Its z) H1
theorem pi_str {X : Cx} {tg l : Expr} {tl : TE} (hl : PE X l tl) : PI X tg l (iStr tl) := by
  intro pins s σ H R I h
  refine thn (hl pins s σ H _ I h) fun v s1 ⟨x, H1, I1, r1, q1⟩ => ?_
  obtain ⟨z, e, q⟩ := q1
  subst e
  obtain ⟨t, rfl⟩ := r1
  have fp : ∀ b ∈ [s1.heap.objs.size], FpOk X pins H1 b := fun b hb => by
    have e : b = s1.heap.objs.size := by simpa using hb
    subst e
    exact I1.fpOk (Nat.le_refl _) (I1.hok.fresh (Nat.le_refl _))
  cases ha : z.cps.all (· < 128)
  · refine wpAny_pyIter_wide ha ?_
    exact ⟨s1.heap.objs.size, [s1.heap.objs.size], _, _, H1, rfl, I1.kept (t' := s1.toks) fun b o e => Heap.get?_push_of_some _ e, turn_str _ z t "str_iterator" (by decide) (fun _ _ _ _ _ st h => wpAny_pyIter_striter_wide st h) fun A hA => Walks.strWide hA _ z t,
      ⟨_, Heap.get?_push_size _ rfl, rfl, rfl⟩, fp, q⟩
  · refine wpAny_pyIter_ascii ha ?_
    exact ⟨s1.heap.objs.size, [s1.heap.objs.size], _, _, H1, rfl, I1.kept (t' := s1.toks) fun b o e => Heap.get?_push_of_some _ e, turn_str _ z t "str_ascii_iterator" (by decide) (fun _ _ _ _ _ st h => wpAny_pyIter_striter_ascii st h) fun A hA => Walks.strAscii hA _ z t,
      ⟨_, Heap.get?_push_size _ rfl, rfl, rfl⟩, fp, q⟩
/-! ### all, any -/
theorem all_range (bs : List Bool) : (List.range bs.length).all (fun i => bs.getD i false) = bs.all id := by
  rw [Bool.eq_iff_iff, List.all_eq_true, List.all_eq_true]
  constructor
  · intro h b hb
    obtain ⟨i, hi, rfl⟩ := List.getElem_of_mem hb
    have := h i (List.mem_range.mpr hi)
    simpa [List.getD, hi] using this
  · intro h i hi
    have hi' := List.mem_range.mp hi
    have := h bs[i] (List.getElem_mem hi')
    simpa [List.getD, hi'] using this
theorem truth_bools {P : Program} {w : World} {A : Around} {bs : List Bool} {its : List Value} (r : Vals (bs.map V.bl) its) : TruthOf P w A (fun i v => its.toArray[i]? = some v) (fun i => bs.getD i false) := by
  intro i v s Q E hv q
  have hv' : its[i]? = some v := by simpa using hv
  have hl := r.length
  have hi : i < bs.length := by
    have := (List.getElem?_eq_some_iff.mp hv').1
    simp at hl; omega
  obtain ⟨u, hu, ru⟩ := r.get (i := i) (x := V.bl bs[i]) (by simp [hi])
  rw [hv'] at hu
  cases hu
  cases ru
  refine wpAny_truthy_bool ?_
  have e : bs.getD i false = bs[i] := by simp [List.getD, hi]
  dsimp only at q
  rw [e] at q
  exact q
theorem call_all {X : Cx} (hc : X.calm = true) : CallR X (.builtin "all") (fun xs H Q => ∃ (p : Addr) (bs : List Bool), xs = [.ref p] ∧ SqL X.K H p (bs.map V.bl) ∧ Q (.bl (bs.all id)) H) := by
  intro pins s σ H xs us Q I r h
  obtain ⟨p, bs, rfl, hq, q⟩ := h
  obtain ⟨u, rfl, ru⟩ := vals1 r
  cases ru
  obtain ⟨its, rv, pl, hz⟩ := I.list hq
  have hh : X.A.in1.handled = none := I.ok.hd hc
  refine call_all_walk (wpAny_pyIter_list pl.isList ?_)
  obtain ⟨ol, hol, hol'⟩ := id pl.isList
  have hne : p ≠ s.heap.objs.size := Nat.ne_of_lt (Heap.lt_size hol)
  refine ⟨s.heap.objs.size, _, _, its.toArray.size, _, _, fun i => bs.getD i false, rfl, Walks.list hh s.heap.objs.size p hne its.toArray, ⟨⟨_, Heap.get?_push_size _ rfl, rfl, rfl⟩, ⟨ol, Heap.get?_push_of_some _ hol, hol'⟩⟩, truth_bools rv, fun h' tk hk => ?_⟩
  have hl : its.toArray.size = bs.length := by have := rv.length; simp at this; simp [this]
  rw [hl, all_range]
  refine ⟨.bl _, H, I.kept (h' := h') (t' := tk) fun b o e => hk b o ?_ (Heap.get?_push_of_some _ e), rfl, q⟩
  intro hb
  have e' : b = s.heap.objs.size := by simpa using hb
  exact absurd (Heap.lt_size e) (by rw [e']; exact Nat.lt_irrefl _)
/-! ### isinstance, is -/
theorem call_isinst {X : Cx} : CallR X (.builtin "isinstance") (fun xs H Q => ∃ x T t b, xs = [x, .ty T] ∧ TyOf X.K H x t ∧ PySem.W.kitOne X.K t (.type T) = some b ∧ Q (.bl b) H) := by
  intro pins s σ H xs us Q I r h
  obtain ⟨x, T, t, b, rfl, ty, e, q⟩ := h
  obtain ⟨u, v, rfl, rx, rv⟩ := vals2 r
  cases rv
  exact isinst_ok I rx ty e fun tk => ⟨.bl b, H, I.tok _, rfl, q⟩
/-! ### texts -/
def partP (x y : Str) : Str × Str × Str := match Builtin.Str.occurrences x y 0 x.length 1 with
  | i :: _ => (Builtin.Str.strSub x 0 i, y, Builtin.Str.strSub x (i + y.length) x.length)
  | [] => (x, Str.empty, Str.empty)
theorem mt_partition {X : Cx} : MtR X "str.partition" (fun x xs H Q => ∃ z y, x = .str z ∧ xs = [.str y] ∧ (y.length == 0) = false ∧ z.length ≤ sizeLine ∧ ∀ p, H p = none → Q (.ref p) (upd H p (.tup [.str (partP z y).1, .str (partP z y).2.1, .str (partP z y).2.2]))) := by
  intro pins s σ H x xs v us Q I rx rs h
  obtain ⟨z, y, rfl, rfl, hy, hz, q⟩ := h
  obtain ⟨t, rfl⟩ := rx
  obtain ⟨u, rfl, t', rfl⟩ := vals1 rs
  refine call_meets PySem.F.slot_str_partition (typeIs_str s z t) PySem.F.entry_str_partition (PySem.F.args_str_partition_2 _ _) (meets_str_partition z y t t' hy hz) ?_
  have hn : H s.heap.objs.size = none := I.hok.fresh (Nat.le_refl _)
  have q2 := q _ hn
  have le : ∀ a b : Nat, (Builtin.Str.strSub z a b).length ≤ sizeLine := fun a b => Nat.le_trans (strSub_length_le ..) hz
  unfold partP at q2
  cases ho : Builtin.Str.occurrences z y 0 z.length 1 with
  | nil =>
    rw [ho] at q2
    refine ⟨.ref s.heap.objs.size, _, I.laid (o := .tup [.str z, .str Str.empty, .str Str.empty]) (t' := s.toks + 1) (fun b o e => Heap.get?_push_of_some _ e) (Nat.le_refl _) ⟨(by show 3 ≤ sizeLine; decide), [.str z t, .str Str.empty s.toks, .str Str.empty s.toks], .cons ⟨_, rfl⟩ (.cons ⟨_, rfl⟩ (.cons ⟨_, rfl⟩ .nil)), ⟨_, Heap.get?_push_size s.heap rfl, rfl, 0, rfl⟩⟩, rfl, q2⟩
  | cons i r =>
    rw [ho] at q2
    refine ⟨.ref s.heap.objs.size, _, I.laid (o := .tup [.str (Builtin.Str.strSub z 0 i), .str y, .str (Builtin.Str.strSub z (i + y.length) z.length)]) (t' := s.toks + 1 + 1) (fun b o e => Heap.get?_push_of_some _ e) (Nat.le_refl _) ⟨(by show 3 ≤ sizeLine; decide), [.str (Builtin.Str.strSub z 0 i) s.toks, .str y t', .str (Builtin.Str.strSub z (i + y.length) z.length) (s.toks + 1)], .cons ⟨_, rfl⟩ (.cons ⟨_, rfl⟩ (.cons ⟨_, rfl⟩ .nil)), ⟨_, Heap.get?_push_size s.heap rfl, rfl, 0, rfl⟩⟩, rfl, q2⟩
/-! ### the module's dicts: keys are texts -/
/-- the dict at a of the written part holds these pairs -/
def KDict (P : Program) (w : World) (K : PySem.W.Frag) (a : Addr) (kvs : List (Key × V)) : Prop :=
  kvs.length ≤ sizeLine ∧ (a == sysModules) = false ∧ ∀ h : Heap, K.In h → ∃ vs, KV kvs vs ∧ h.DictOf (mixKind P w) a vs
theorem op_in_kd {X : Cx} {a : Addr} {kvs : List (Key × V)} (D : KDict X.prog X.w X.K a kvs) : OpR X (compareOp .In) (fun x y H Q => ∃ k, x = kV k ∧ y = .ref a ∧ Q (.bl (valV kvs k).isSome) H) := by
  intro pins s σ H x y v u Q I rx ry h
  obtain ⟨k, rfl, rfl, q⟩ := h
  cases ry
  obtain ⟨_, hd, hD⟩ := D
  obtain ⟨vs, rel, dd⟩ := hD _ I.kIn
  refine wpAny_in_of (kV_is rx) hd dd.mapOf ?_
  rw [← (rel.val k).isSome_eq]
  exact ⟨.bl _, H, I.tok _, rfl, q⟩
theorem ix_kd {X : Cx} {a : Addr} {kvs : List (Key × V)} (D : KDict X.prog X.w X.K a kvs) : IxR X (fun x y H Q => ∃ k v, x = .ref a ∧ y = kV k ∧ valV kvs k = some v ∧ Q v H) := by
  intro value slice pins s σ H x y v u Q I rx ry h hs
  obtain ⟨k, v0, rfl, rfl, e, q⟩ := h
  cases rx
  obtain ⟨_, hd, hD⟩ := D
  obtain ⟨vs, rel, dd⟩ := hD _ I.kIn
  obtain ⟨w', hw, rw'⟩ := RelO.some_of (v := v0) (o := valueAt vs k) (by rw [← e]; exact rel.val k)
  exact tail_any dd.typeIs PySem.F.slot_dict_getitem.lookup (wpAny_getItem_of (kV_is ry) dd.mapOf hw ⟨v0, H, I.tok _, rw', q⟩) hs
/-- one pair of such a dict -/
def entK (p : Params) (x : Str) (t : Tok) (v : Value) : DictEntry := { hash := PyData.keyHash p x, key := .str x t, val := v }
theorem pairs_mk {P : Program} {w : World} : ∀ (l : List (Str × Tok × Value)), Pairs (mixKind P w) (l.map fun p => entK w.params p.1 p.2.1 p.2.2) (l.map fun p => ((Sum.inr p.1 : Key), p.2.2))
  | [] => .nil
  | p :: r => .cons (mixKind_str P w p.1 p.2.1) rfl (pairs_mk r)
theorem kdict_mk {P : Program} {w : World} {K : PySem.W.Frag} {a : Addr} {ep : Nat} (l : List (Str × Tok × Value)) (kvs : List (Key × V)) (lk : K.lookup a = some { cls := .type "dict", data := .dict (l.map fun p => entK w.params p.1 p.2.1 p.2.2).toArray ep })
    (nd : (l.map fun p => (Sum.inr p.1 : Key)).Nodup) (rel : KV kvs (l.map fun p => ((Sum.inr p.1 : Key), p.2.2))) (hz : l.length ≤ sizeLine) (ha : (a == sysModules) = false) : KDict P w K a kvs := by
  refine ⟨by rw [show kvs.length = (l.map fun p => ((Sum.inr p.1 : Key), p.2.2)).length from Paired.length rel, List.length_map]; exact hz, ha, fun h KX => ⟨_, rel, _, _, ep, KX _ _ lk, ⟨rfl, rfl, rfl⟩, rfl, ?_, ?_, ?_⟩⟩
  · intro e he
    obtain ⟨p, _, rfl⟩ := List.mem_map.mp (List.mem_toArray.mp he)
    exact ⟨Sum.inr p.1, mixKind_str P w p.1 p.2.1, rfl⟩
  · exact pairs_mk l
  · rw [List.map_map]; exact nd
theorem kd6 {P : Program} {w : World} {K : PySem.W.Frag} {a : Addr} {ep : Nat} {x1 x2 x3 x4 x5 x6 : Str} {t1 t2 t3 t4 t5 t6 u1 u2 u3 u4 u5 u6 : Tok} {i1 i2 i3 i4 i5 i6 : Int}
    (lk : K.lookup a = some { cls := .type "dict", data := .dict #[entK w.params x1 t1 (.int i1 u1), entK w.params x2 t2 (.int i2 u2), entK w.params x3 t3 (.int i3 u3), entK w.params x4 t4 (.int i4 u4), entK w.params x5 t5 (.int i5 u5), entK w.params x6 t6 (.int i6 u6)] ep })
    (nd : ([x1, x2, x3, x4, x5, x6].map fun p => (Sum.inr p : Key)).Nodup) (ha : (a == sysModules) = false) :
    KDict P w K a [(Sum.inr x1, .int i1), (Sum.inr x2, .int i2), (Sum.inr x3, .int i3), (Sum.inr x4, .int i4), (Sum.inr x5, .int i5), (Sum.inr x6, .int i6)] :=
  kdict_mk [(x1, t1, .int i1 u1), (x2, t2, .int i2 u2), (x3, t3, .int i3 u3), (x4, t4, .int i4 u4), (x5, t5, .int i5 u5), (x6, t6, .int i6 u6)] _ lk nd
    (.cons ⟨rfl, _, rfl⟩ (.cons ⟨rfl, _, rfl⟩ (.cons ⟨rfl, _, rfl⟩ (.cons ⟨rfl, _, rfl⟩ (.cons ⟨rfl, _, rfl⟩ (.cons ⟨rfl, _, rfl⟩ .nil)))))) (by show 6 ≤ sizeLine; decide) ha
example {K : PySem.W.Frag} : PySem.W.kitOne K (.type "int") (.type "int") = some true := rfl
example {K : PySem.W.Frag} : PySem.W.kitOne K (.type "bool") (.type "int") = some true := rfl
example {K : PySem.W.Frag} : PySem.W.kitOne K (.type "str") (.type "int") = some false := rfl
example {K : PySem.W.Frag} : PySem.W.kitOne K (.type "NoneType") (.type "tuple") = some false := rfl
end BB

set_option Elab.async false
set_option linter.all false
set_option maxRecDepth 100000
namespace BB
open PySem PySem.Spec PyProof.Rows L2
/-! ### a comprehension's names, by a look -/
def clOf (cells : List (Str × Addr)) : List (Str × NameKind) → List (Str × Addr) → List (Str × Addr)
  | [], acc => acc
  | (n, k) :: r, acc => clOf cells r (if (k == .free) = true then (n, (cells.lookup n).getD 0) :: acc else acc)
theorem clos_go {env : Env} : ∀ (names : List (Str × NameKind)) (acc : List (Str × Addr)), (∀ y ∈ names, y.2 = .free → ∃ c, env.cells.lookup y.1 = some c) →
    (forIn names acc fun (x : Str × NameKind) cs => do
      if (x.2 == NameKind.free) = true then do
        let a ← cellOf env x.1
        pure (ForInStep.yield ((x.1, a) :: cs))
      else pure (ForInStep.yield cs) : Sem (List (Str × Addr))) = pure (clOf env.cells names acc)
  | [], acc, _ => rfl
  | (n, k) :: r, acc, h => by
    have ih := fun acc => clos_go (env := env) r acc fun y hy => h y (List.mem_cons_of_mem _ hy)
    rw [List.forIn_cons]
    unfold clOf
    by_cases hk : (k == NameKind.free) = true
    · obtain ⟨c, hc⟩ := h (n, k) List.mem_cons_self (by simpa using hk)
      simp only [hk, if_true, cellOf, hc, Option.getD_some]
      exact ih _
    · simp only [if_neg hk]
      exact ih _
theorem closureFor_cl {scope : Scope} {env : Env} (h : ∀ y ∈ scope.names, y.2 = .free → ∃ c, env.cells.lookup y.1 = some c) : closureFor scope env = pure (clOf env.cells scope.names []) := by
  unfold closureFor
  have e := clos_go (env := env) scope.names [] h
  show ((forIn scope.names ([] : List (Str × Addr)) fun (x : Str × NameKind) cs => do
      if (x.2 == NameKind.free) = true then do
        let a ← cellOf env x.1
        pure (ForInStep.yield ((x.1, a) :: cs))
      else pure (ForInStep.yield cs) : Sem (List (Str × Addr))) >>= fun cs => pure cs) = _
  rw [e]
  rfl
theorem clOf_sub {cells : List (Str × Addr)} : ∀ {names : List (Str × NameKind)} {acc : List (Str × Addr)}, (∀ y ∈ names, y.2 = .free → ∃ c, cells.lookup y.1 = some c) → (∀ y c, acc.lookup y = some c → cells.lookup y = some c) →
    ∀ y c, (clOf cells names acc).lookup y = some c → cells.lookup y = some c
  | [], acc, _, ha => ha
  | (n, k) :: r, acc, h, ha => by
    unfold clOf
    refine clOf_sub (fun y hy => h y (List.mem_cons_of_mem _ hy)) fun y c e => ?_
    by_cases hk : (k == NameKind.free) = true
    · rw [if_pos hk, List.lookup_cons] at e
      obtain ⟨c', hc⟩ := h (n, k) List.mem_cons_self (by simpa using hk)
      cases hb : y == n with
      | true =>
        rw [hb] at e
        have hc' : cells.lookup n = some c' := hc
        rw [hc'] at e
        rw [eq_of_beq hb, hc']
        exact e
      | false => rw [hb] at e; exact ha y c e
    · rw [if_neg hk] at e
      exact ha y c e
theorem clOf_has {cells : List (Str × Addr)} : ∀ {names : List (Str × NameKind)} {acc : List (Str × Addr)} {y : Str}, ((∃ k, (y, k) ∈ names ∧ k = .free) ∨ (acc.lookup y).isSome = true) → ((clOf cells names acc).lookup y).isSome = true
  | [], acc, y, h => by
    rcases h with ⟨k, hk, _⟩ | h
    · cases hk
    · exact h
  | (n, k) :: r, acc, y, h => by
    unfold clOf
    refine clOf_has ?_
    have push : ∀ z : Addr, (acc.lookup y).isSome = true ∨ y = n → (((n, z) :: acc).lookup y).isSome = true := fun z hz => by
      rw [List.lookup_cons]
      cases hb : y == n with
      | true => rfl
      | false =>
        rcases hz with hz | hz
        · exact hz
        · rw [hz] at hb; simp at hb
    rcases h with ⟨k', hk', e⟩ | h
    · rcases List.mem_cons.mp hk' with z | z
      · cases z
        subst e
        refine .inr ?_
        rw [if_pos (show (NameKind.free == NameKind.free) = true from rfl)]
        exact push _ (.inr rfl)
      · exact .inl ⟨k', z, e⟩
    · refine .inr ?_
      by_cases hk : (k == NameKind.free) = true
      · rw [if_pos hk]; exact push _ (.inl h)
      · rw [if_neg hk]; exact h
theorem relabel_free {env : Env} (hk : (env.scope.kind == .function) = true) : ∀ {names : List (Str × NameKind)} {x : Str}, names.lookup x = some .free → env.kindOf x = some .cell →
    (names.map fun (n, k) => if (k == NameKind.free && env.scope.kind == .function && env.kindOf n == some .cell) then (n, NameKind.cell) else (n, k)).lookup x = some .cell
  | [], _, h, _ => by simp at h
  | (n, k) :: r, x, h, hx => by
    have ih := @relabel_free env hk r x
    show List.lookup x ((if (k == NameKind.free && env.scope.kind == .function && env.kindOf n == some .cell) = true then (n, NameKind.cell) else (n, k)) :: _) = _
    cases hb : x == n with
    | true =>
      simp only [List.lookup_cons, hb] at h
      cases h
      have hn : env.kindOf n = some .cell := by rw [← eq_of_beq hb]; exact hx
      rw [if_pos (by simp [hk, hn])]
      simp [List.lookup_cons, hb]
    | false =>
      simp only [List.lookup_cons, hb] at h
      split
      · simp only [List.lookup_cons, hb]; exact ih h hx
      · simp only [List.lookup_cons, hb]; exact ih h hx
/-- the look -/
def compLook (N0 : List Str) (sc0 : Scope) (sc : Scope) (x : Str) (N : List Str) (ci : List Nat) : Bool :=
  (sc.kind == .function) && (sc0.kind == .function) && (sc.names.all fun y => y.2 != .cell && (y.2 != .local || sc.names.lookup y.1 == some .local) && (y.2 != .free || sc0.names.lookup y.1 == some .cell)) &&
  (sc.names.lookup x == some .local) && (N[0]? == some x) && decide N.Nodup && (N.length == ci.length + 1) &&
  ((List.range ci.length).all fun j => (N0[ci.getD j 0]? == N[j + 1]?) && (match N[j + 1]? with | some y => sc0.names.lookup y == some .cell && sc.names.lookup y == some .free | none => false))
theorem compSc_of {X : Cx} {sc0 sc : Scope} {x : Str} {N : List Str} {ci : List Nat} {N0 : List Str} (h : compLook N0 sc0 sc x N ci = true) (hN : X.N = N0) (hE : X.env.scope = sc0) (hc : ∀ y, sc0.names.lookup y = some .cell → (X.env.cells.lookup y).isSome = true) :
    CompSc X sc (clOf X.env.cells sc.names []) x N ci := by
  subst hE
  subst hN
  unfold compLook at h
  simp only [Bool.and_eq_true] at h
  obtain ⟨⟨⟨⟨⟨⟨⟨h1, h0⟩, h2⟩, h3⟩, h4⟩, h5⟩, h6⟩, h7⟩ := h
  have h2' := List.all_eq_true.mp h2
  have hf : ∀ y ∈ sc.names, y.2 = .free → X.env.scope.names.lookup y.1 = some .cell := fun y hy e => by
    have := h2' y hy
    simp only [Bool.and_eq_true, Bool.or_eq_true] at this
    rcases this.2 with z | z
    · rw [e] at z; simp at z
    · simpa using z
  have hfc : ∀ y ∈ sc.names, y.2 = .free → ∃ c, X.env.cells.lookup y.1 = some c := fun y hy e => Option.isSome_iff_exists.mp (hc _ (hf y hy e))
  refine ⟨closureFor_cl hfc, fun y hy e => ?_, by simpa using h1, fun y hy e => ?_, by simpa using h3, by simpa using h4, of_decide_eq_true h5, by simpa using h6, clOf_sub hfc (fun y c e => nomatch e), fun y hy e => clOf_has (.inl ⟨y.2, hy, e⟩), fun j i y ej ey => ?_⟩
  · have := h2' y hy
    rw [e] at this; simp at this
  · have := h2' y hy
    simp only [Bool.and_eq_true, Bool.or_eq_true] at this
    rcases this.1.2 with z | z
    · rw [e] at z; simp at z
    · simpa using z
  · have hj : j < ci.length := (List.getElem?_eq_some_iff.mp ej).1
    have := List.all_eq_true.mp h7 j (List.mem_range.mpr hj)
    rw [ey] at this
    have e1 : ci.getD j 0 = i := by simp [List.getD, ej]
    rw [e1] at this
    simp only [Bool.and_eq_true, beq_iff_eq] at this
    exact ⟨this.1, this.2.1, relabel_free h0 this.2.2 this.2.1⟩
/-- a constant of the module -/
theorem pe_const {X : Cx} {x : Str} {v : V} {pos : Pos} (hg : Gl X x) (h : ∃ u, X.mg x = some u ∧ RelV v u) (hd : (x == ("__debug__" : Str)) = false := by decide) : PE X (.Name x pos) (tC v) := by
  obtain ⟨u, hm, r⟩ := h
  exact pe_glob hg hm r hd
/-- a comprehension by what holds between two turns, the end of a turn as a continuation -/
theorem comp_by {J : It} {te : TE} {σc : L2.St} {Q : VK} {H1 : Hp} {D : Addr} (n : Nat) (hn : n < sizeLine) (Pv : Nat → List V → Hp → Prop) (h0 : Pv 0 [] (upd H1 D (.lst [])))
    (hat : ∀ i ys H, i ≤ n → Pv i ys H → H D = some (.lst ys) ∧ ys.length = i) (hstop : ∀ ys H, Pv n ys H → J.stop n H ∧ Q (.ref D) H)
    (hgo : ∀ i ys H, i < n → Pv i ys H → J.go i H ∧ ∀ v H', J.yld i H v H' → ∀ R : VK, (∀ y H2, H2 D = some (.lst ys) → Pv (i + 1) (ys ++ [y]) (upd H2 D (.lst (ys ++ [y]))) → R y H2) → te (some v :: σc) H' R) :
    CompAt J te σc Q H1 D := by
  refine ⟨fun i m ys H => m = n - i ∧ i ≤ n ∧ Pv i ys H, ⟨n, by simp, Nat.zero_le _, h0⟩, ?_⟩
  rintro i m ys H ⟨rfl, hi, p⟩
  obtain ⟨e1, e2⟩ := hat i ys H hi p
  refine ⟨e1, ?_⟩
  by_cases hlt : i < n
  · obtain ⟨g, st⟩ := hgo i ys H hlt p
    exact .inr ⟨g, by omega, fun v H' y => st v H' y _ fun y H2 a b => ⟨a, n - (i + 1), by omega, rfl, hlt, b⟩⟩
  · have e : i = n := by omega
    subst e
    exact .inl (hstop ys H p)
/-! ### what a value is -/
inductive Kd where | non | bl | int | str | lst | tup | dct
  deriving DecidableEq
inductive IsK (H : Hp) : V → Kd → Prop where
  | non : IsK H .non .non
  | bl (b : Bool) : IsK H (.bl b) .bl
  | int (i : Int) : IsK H (.int i) .int
  | str (x : Str) : IsK H (.str x) .str
  | lst {a : Addr} {xs : List V} (e : H a = some (.lst xs)) : IsK H (.ref a) .lst
  | tup {a : Addr} {xs : List V} (e : H a = some (.tup xs)) : IsK H (.ref a) .tup
  | dct {a : Addr} {kvs : List (Key × V)} (e : H a = some (.dK kvs)) : IsK H (.ref a) .dct
def Kd.ty : Kd → String
  | .non => "NoneType" | .bl => "bool" | .int => "int" | .str => "str" | .lst => "list" | .tup => "tuple" | .dct => "dict"
theorem IsK.tyOf {K : PySem.W.Frag} {H : Hp} {x : V} {k : Kd} (h : IsK H x k) : TyOf K H x (.type k.ty) := by
  cases h with
  | non => exact .non
  | bl b => exact .bl b
  | int i => exact .int i
  | str x => exact .str x
  | lst e => exact .lst e
  | tup e => exact .tup e
  | dct e => exact .dK e
theorem IsK.same {H H' : Hp} {x : V} {k : Kd} (h : IsK H x k) (s : Same H H') : IsK H' x k := by
  cases h with
  | non => exact .non
  | bl b => exact .bl b
  | int i => exact .int i
  | str x => exact .str x
  | lst e => exact .lst (s _ _ e)
  | tup e => exact .tup (s _ _ e)
  | dct e => exact .dct (s _ _ e)
def isStr : Kd → Bool | .str => true | _ => false
def isInt : Kd → Bool | .int => true | .bl => true | _ => false
def isBool : Kd → Bool | .bl => true | _ => false
def isTup : Kd → Bool | .tup => true | _ => false
theorem kit_str {K : PySem.W.Frag} (k : Kd) : PySem.W.kitOne K (.type k.ty) (.type "str") = some (isStr k) := by cases k <;> rfl
theorem kit_int {K : PySem.W.Frag} (k : Kd) : PySem.W.kitOne K (.type k.ty) (.type "int") = some (isInt k) := by cases k <;> rfl
theorem kit_bool {K : PySem.W.Frag} (k : Kd) : PySem.W.kitOne K (.type k.ty) (.type "bool") = some (isBool k) := by cases k <;> rfl
theorem kit_tuple {K : PySem.W.Frag} (k : Kd) : PySem.W.kitOne K (.type k.ty) (.type "tuple") = some (isTup k) := by cases k <;> rfl
/-! ### the same, the written part named (inside a comprehension) -/
theorem op_inxK {X : Cx} (K : PySem.W.Frag) (h : X.K = K) : OpR X (compareOp .In) (fun x y H Q => (∃ i j, x = V.str i ∧ y = .str j ∧ Q (.bl (!(Builtin.Str.occurrences j i 0 j.length 1).isEmpty)) H) ∨ rIn K false x y H Q) := by subst h; exact op_inx
theorem call_isinstK {X : Cx} (K : PySem.W.Frag) (h : X.K = K) : CallR X (.builtin "isinstance") (fun xs H Q => ∃ x T t b, xs = [x, .ty T] ∧ TyOf K H x t ∧ PySem.W.kitOne K t (.type T) = some b ∧ Q (.bl b) H) := by subst h; exact call_isinst
theorem ix_seqK {X : Cx} (K : PySem.W.Frag) (h : X.K = K) : IxR X (rIx K) := by subst h; exact ix_seq
theorem call_lenK {X : Cx} (K : PySem.W.Frag) (h : X.K = K) : CallR X (.builtin "len") (fun xs H Q => ∃ x n, xs = [x] ∧ LenV K x H n ∧ Q (.int n) H) := by subst h; exact call_len
theorem IsK.isS {H : Hp} {x : V} {k : Kd} (h : IsK H x k) (e : isStr k = true) : ∃ s, x = .str s := by cases h <;> first | exact ⟨_, rfl⟩ | cases e
/-- texts that are not too long -/
def Small (x : V) : Prop := ∀ s, x = .str s → s.length < sizeLine
theorem part_small {z y : Str} (h : z.length < sizeLine) : (partP z y).1.length < sizeLine ∧ (partP z y).2.2.length < sizeLine := by
  unfold partP
  split
  · exact ⟨Nat.lt_of_le_of_lt (strSub_length_le ..) h, Nat.lt_of_le_of_lt (strSub_length_le ..) h⟩
  · exact ⟨h, Nat.lt_of_le_of_lt (Nat.zero_le _) h⟩
end BB

set_option Elab.async false
set_option linter.all false
set_option maxRecDepth 100000
open PySem
namespace L2
section
variable {X : Cx} {pos : Pos}
/-- a value that is no display and no comprehension -/
def plainE : Expr → Bool
  | .Tuple .. | .ListComp .. | .SetComp .. | .DictComp .. => false
  | _ => true
theorem plain_sole {tg e : Expr} {l : Nat} {env : Env} (h : plainE e = true) : swapsWithSole [tg] e l env = pure false := by
  cases e <;> first | rfl | cases h
theorem plain_stores {tg e : Expr} {env : Env} (h : plainE e = true) : swappedStores [tg] e env = pure none := by
  cases e <;> first | (cases h; done) | (cases tg <;> rfl)
/-- an argument that is no *e -/
def noStar : Expr → Bool
  | .Starred .. => false
  | _ => true
theorem star_of {e : Expr} {es : List Expr} {env : Env} (h : noStar e = true) : starEach (e :: es) env = (false, eval e env) :: starEach es env := by
  cases e <;> first | (cases h; done) | (rw [starEach]; intro _ _ q; cases q)
theorem stars_of {env : Env} : ∀ {es : List Expr}, es.all noStar = true → (backTo pos (starEach es env)).any (·.1) = false
  | [], _ => rfl
  | e :: es, h => by
    rw [List.all_cons, Bool.and_eq_true] at h
    rw [star_of h.1]
    show (false || (backTo pos (starEach es env)).any (·.1)) = false
    rw [stars_of h.2]; rfl
theorem pa_c {e : Expr} {es : List Expr} {te : TE} {t : TA} (ha : PE X e te) (hr : PA X es t) (hp : noStar e = true := by rfl) : PA X (e :: es) (tCons te t) := pa_cons ha hr (star_of hp)
/-- the judgements as structures: nothing unfolds them while a term is read -/
structure QS (X : Cx) (st : Stmt) (t : TS) : Prop where
  h : PS X st t
structure QSs (X : Cx) (st : List Stmt) (t : TS) : Prop where
  h : PSs X st t
structure TmQ (X : Cx) (b : List Stmt) where
  t : TS
  h : QSs X b t
theorem qss_cons {st : Stmt} {r : List Stmt} {a b : TS} (h1 : QS X st a) (h2 : QSs X r b) : QSs X (st :: r) (tSeq a b) := ⟨pss_cons h1.h h2.h⟩
theorem body_of {b : List Stmt} {t : TS} {D : Ends} {σ : St} {H : Hp} (h : QSs X b t) (q : t D σ H) : ∃ t, PSs X b t ∧ t D σ H := ⟨t, h.h, q⟩
end
end L2

set_option Elab.async false
set_option linter.all false
set_option maxRecDepth 100000
/-! Exceptions of one's own: raised in a def, passed on by its callers, caught by a try. -/
namespace L2
open PySem PySem.Spec PyProof.Rows
/-- an exception flies: at e, of class c; it and its trace are new since g, and not tracked -/
def Fly (g : Heap) (H : Hp) (h : Heap) (e : Addr) (c : Value) : Prop :=
  g.get? e = none ∧ H e = none ∧ ∃ oe vs a0 T oT ts, h.get? e = some oe ∧ oe.cls = c ∧ vs[0]? = some a0 ∧ oe.data = .fields vs ∧ vs[1]? = some (.ref T) ∧ g.get? T = none ∧ H T = none ∧ T ≠ e ∧ h.get? T = some oT ∧ oT.data = .fields ts ∧ ts[3]? = some .none
/-- how it lies behind a call -/
def CXR (P : Program) (w : World) : CXT := fun outer H s E x s' => ∃ e c H', x = .ref e ∧ s'.os = s.os ∧ AllBare s'.gens ∧ Un (frs outer) [] H H' s.heap s'.heap ∧ HOk P w H' s'.heap ∧ Fly s.heap H' s'.heap e c ∧ E c none H'
/-- what is known is kept but for the frames' slots -/
structure Kp (g : Heap) (H : Hp) (fs : List Addr) (h h' : Heap) : Prop where
  keep : ∀ b o, (g.get? b ≠ none ∨ H b ≠ none) → b ∉ fs → h.get? b = some o → h'.get? b = some o
  slot : ∀ b o, b ∈ fs → h.get? b = some o → ∃ sl, h'.get? b = some { o with slots := sl }
theorem Fly.older {g g' : Heap} {H : Hp} {h : Heap} {e : Addr} {c : Value} (F : Fly g H h e c) (k : ∀ b, g.get? b = none → g'.get? b = none) : Fly g' H h e c := by
  obtain ⟨a, b, oe, vs, a0, T, oT, ts, h1, h2, h3, h4, h5, h6, r⟩ := F
  exact ⟨k _ a, b, oe, vs, a0, T, oT, ts, h1, h2, h3, h4, h5, k _ h6, r⟩
/-- behind a look at the frames: all else stays -/
theorem kp_of {g h h' : Heap} {H : Hp} {l : List Env} {base : Heap} {e : Addr} {c a0 : Value} {xs : List Addr} (hl : h.FunFrames base l) (hxs : ∀ b ∈ e :: xs, g.get? b = none ∧ H b = none) (hin : ∀ b, (g.get? b ≠ none ∨ H b ≠ none) → ∃ o, h.get? b = some o)
    (st : (PySem.W.hideAll h (e :: (xs ++ frs l))).StaysIn h') (tr : h'.TracedW (PySem.W.hideAll h (e :: (xs ++ frs l))) e c a0) (up : h.UpToSlots h') : Kp g H (frs l) h h' ∧ Fly g H h' e c := by
  have known : ∀ b, (g.get? b ≠ none ∨ H b ≠ none) → b ∉ e :: xs := fun b hb hm => by
    obtain ⟨z1, z2⟩ := hxs b hm
    rcases hb with q | q
    · exact q z1
    · exact q z2
  have sl : ∀ b o, b ∈ frs l → h.get? b = some o → ∃ sl, h'.get? b = some { o with slots := sl } := fun b o hb q => by
    obtain ⟨_, o', q', hn⟩ := hl.mem hb
    rw [q] at q'; cases q'
    exact up b o q hn
  have kp : ∀ b o, (g.get? b ≠ none ∨ H b ≠ none) → b ∉ frs l → h.get? b = some o → h'.get? b = some o := fun b o hb hf q => by
    refine st b o (PySem.W.hideAll_get _ q fun hm => ?_)
    have hk := known b hb
    rcases List.mem_cons.mp hm with z | z
    · exact hk (z ▸ List.mem_cons_self ..)
    · rcases List.mem_append.mp z with z | z
      · exact hk (List.mem_cons_of_mem _ z)
      · exact hf z
  refine ⟨⟨kp, sl⟩, (hxs e (List.mem_cons_self ..)).1, (hxs e (List.mem_cons_self ..)).2, ?_⟩
  obtain ⟨oe, vs, T, oT, ts, he, ⟨hc, h0⟩, hd, h1, hnT, hTe, hT, hdT, h3⟩ := tr
  have free : ∀ q : g.get? T ≠ none ∨ H T ≠ none, False := fun q => by
    obtain ⟨o, ho⟩ := hin T q
    by_cases hm : T ∈ e :: (xs ++ frs l)
    · rcases List.mem_cons.mp hm with z | z
      · exact hTe z
      · rcases List.mem_append.mp z with z | z
        · exact known T q (List.mem_cons_of_mem _ z)
        · obtain ⟨s1, e1⟩ := sl T o z ho
          obtain ⟨_, o', q', hn⟩ := hl.mem z
          rw [ho] at q'; cases q'
          rw [hT] at e1; cases e1
          exact hn _ hdT
    · rw [PySem.W.hideAll_get _ ho hm] at hnT; cases hnT
  refine ⟨oe, vs, a0, T, oT, ts, he, hc, h0, hd, h1, ?_, ?_, hTe, hT, hdT, h3⟩
  · cases q : g.get? T with
    | none => rfl
    | some o => exact (free (.inl (by rw [q]; exact fun z => by cases z))).elim
  · cases q : H T with
    | none => rfl
    | some o => exact (free (.inr (by rw [q]; exact fun z => by cases z))).elim
section
variable {M : Model} {A : Around} {Ex : Value → Shared → Prop} {s : Shared} {env : Env} {outer : List Env} {L e : Addr} {g base : Heap} {H : Hp} {c : Value} {Q : Unit → Shared → Prop}
theorem hidden {l : List Env} {h : Heap} {xs : List Addr} (hl : h.FunFrames base l) (F : Fly g H h e c) : ∃ T a0, (∀ b ∈ e :: [T], g.get? b = none ∧ H b = none) ∧ Heap.FlyingW (PySem.W.hideAll h (e :: ([T] ++ frs l))) l e c a0 h := by
  obtain ⟨a, b, oe, vs, a0, T, oT, ts, h1, h2, h3, h4, h5, h6, h7, h8, h9, h10, h11⟩ := F
  refine ⟨T, a0, fun x hx => ?_, fun x o q => PySem.W.of_hideAll _ q, PySem.W.hideAll_none _ (List.mem_cons_self ..), PySem.W.funFrames_hide hl fun env hm x hx => ?_, oe, vs, T, oT, ts, h1, ⟨h2, h3⟩, h4, h5, PySem.W.hideAll_none _ (by simp), h8, h9, h10, h11⟩
  · simp only [List.mem_cons, List.not_mem_nil, or_false] at hx
    rcases hx with rfl | rfl
    · exact ⟨a, b⟩
    · exact ⟨h6, h7⟩
  · exact List.mem_cons_of_mem _ (List.mem_append_right _ (List.mem_filterMap.mpr ⟨env, hm, hx⟩))
/-- it leaves a frame -/
theorem leave_fly (hfr : A.frames = some (env :: outer)) (hf : env.frame = some L) (hl : s.heap.FunFrames base (env :: outer)) (hin : ∀ b, (g.get? b ≠ none ∨ H b ≠ none) → ∃ o, s.heap.get? b = some o) (F : Fly g H s.heap e c)
    (k : ∀ h', Kp g H (frs (env :: outer)) s.heap h' → Fly g H h' e c → Q () { s with heap := h' }) : wpAny M A (leaving env (.ref e)) Q Ex s := by
  obtain ⟨T, a0, hx, fl⟩ := hidden (xs := []) hl F
  obtain ⟨f1, f2, f3, f4⟩ := fl
  refine wpAny_leaving_nextW hfr f3 hf f4 f1 f2 fun h' hL => ?_
  obtain ⟨k1, _, k3, k4⟩ := hL
  have r := kp_of (g := g) (H := H) hl hx hin k1 k3 k4
  exact k h' r.1 r.2
/-- a new one leaves its frame -/
theorem leave_new {args : List Value} {C : Addr} {h0 : Heap} (hfr : A.frames = some (env :: outer)) (hf : env.frame = some L) (hl : s.heap.FunFrames base (env :: outer)) (hin : ∀ b, (g.get? b ≠ none ∨ H b ≠ none) → ∃ o, s.heap.get? b = some o)
    (he : ∃ t, s.heap.get? e = some { cls := c, data := .fields #[.ref t, .none, .none, .none, .bool false, .none] }) (hg : g.get? e = none) (hH : H e = none)
    (k : ∀ h', Kp g H (frs (env :: outer)) s.heap h' → Fly g H h' e c → Q () { s with heap := h' }) : wpAny M A (leaving env (.ref e)) Q Ex s := by
  obtain ⟨t, he⟩ := he
  refine wpAny_leaving_firstW (base := PySem.W.hideAll s.heap (e :: ([] ++ frs (env :: outer)))) hfr (PySem.W.funFrames_hide hl fun env hm x hx => List.mem_cons_of_mem _ (List.mem_filterMap.mpr ⟨env, hm, hx⟩)) hf he (fun x o q => PySem.W.of_hideAll _ q) (PySem.W.hideAll_none _ (List.mem_cons_self ..)) rfl rfl rfl fun h' hL => ?_
  obtain ⟨k1, _, k3, k4⟩ := hL
  have r := kp_of (g := g) (H := H) (xs := []) hl (fun b hb => by
    obtain rfl : b = e := by simpa using hb
    exact ⟨hg, hH⟩) hin k1 k3 k4
  exact k h' r.1 r.2
end
end L2

set_option Elab.async false
set_option linter.all false
set_option maxRecDepth 100000
namespace L2
open PySem PySem.Spec PyProof.Rows
section
variable {X : Cx} {pins : List (Addr × Obj)} {σ : St} {H H' : Hp} {s s' : Shared}
theorem hok_kp {P : Program} {w : World} {fs : List Addr} {g h h' : Heap} (ok : HOk P w H h) (kp : Kp g H fs h h') (hf : ∀ b ∈ fs, H b = none) : HOk P w H h' := fun a o q =>
  (ok a o q).stay (fun b u hb hq => by
    have hn : H b ≠ none := by
      rcases hb with rfl | hb
      · rw [q]; exact fun z => by cases z
      · rw [hb]; exact fun z => by cases z
    exact kp.keep b u (.inr hn) (fun z => hn (hf b z)) hq) (fun _ q => q) fun _ _ q => q
theorem hok_there {P : Program} {w : World} {h : Heap} (ok : HOk P w H h) {b : Addr} (hb : H b ≠ none) : ∃ o, h.get? b = some o := by
  cases q : H b with
  | none => exact (hb q).elim
  | some o =>
    have := ok b o q
    cases o with
    | lst xs => obtain ⟨_, _, _, _, e⟩ := this; exact ⟨_, e⟩
    | tup xs => obtain ⟨_, _, _, p⟩ := this; obtain ⟨ob, e, _⟩ := p; exact ⟨_, e⟩
    | dK kvs => obtain ⟨_, _, _, _, o, _, _, e, _⟩ := this; exact ⟨_, e⟩
    | dT kvs => obtain ⟨_, _, _, _, o, _, _, e, _⟩ := this; exact ⟨_, e⟩
    | set S n => obtain ⟨o, _, _, _, e, _⟩ := this; exact ⟨_, e⟩
    | ins C dx fs => obtain ⟨_, _, _, e, _⟩ := this; exact ⟨_, e⟩
    | own y => obtain ⟨_, e⟩ := this; exact ⟨_, e⟩
    | xd fs => obtain ⟨_, ⟨_, _, _, e, _⟩, _⟩ := this; exact ⟨_, e⟩
    | rng lo hi => obtain ⟨_, _, _, e⟩ := this; exact ⟨_, e⟩
    | frz ob u => obtain ⟨e, _⟩ := this; exact ⟨_, e⟩
    | tbl ps => exact ⟨_, this⟩
    | met f y => exact ⟨_, this⟩
    | ext φ => obtain ⟨_, e, _⟩ := this; exact e
theorem Inv.hin0 (I : Inv X pins σ H s) (hx : X.ex = []) : ∀ b, (X.s₀.heap.get? b ≠ none ∨ H b ≠ none) → ∃ o, s.heap.get? b = some o := fun b hb => by
  rcases hb with q | q
  · cases e : X.s₀.heap.get? b with
    | none => exact (q e).elim
    | some o => exact I.base.there b o e (by rw [hx]; simp)
  · exact hok_there I.hok q
theorem Inv.old0 (I : Inv X pins σ H s) (hx : X.ex = []) : ∀ b, s.heap.get? b = none → X.s₀.heap.get? b = none := fun b hb => by
  cases e : X.s₀.heap.get? b with
  | none => rfl
  | some o => obtain ⟨o', q⟩ := I.base.there b o e (by rw [hx]; simp); rw [hb] at q; cases q
/-- behind the fall of a frame -/
theorem cxr_of {P : Program} {w : World} {K : PySem.W.Frag} {mg : Str → Option Value} {base : Heap} {N : List Str} {qual : Str} {scope : Scope} {f : Addr} {cd : Value} {A : Around} {outer : List Env} {s0 : Shared} {H0 : Hp} {E : XK} {CX : CXT} {e : Addr} {c : Value} {h' : Heap}
    (I : Inv (cxOf CX P w K mg base N qual scope f cd A outer s0 H0 E) pins σ H s) (kp : Kp s0.heap H (frs (envOfC qual scope s0.heap.objs.size f cd :: outer)) s.heap h') (F : Fly s0.heap H h' e c) (hE : E c none H) :
    CXR P w outer H0 s0 E (.ref e) { s with heap := h' } := by
  have sub : ∀ b ∈ frs outer, b ∈ frs (envOfC qual scope s0.heap.objs.size f cd :: outer) := fun b hb => by
    obtain ⟨z, hz, hq⟩ := List.mem_filterMap.mp hb
    exact List.mem_filterMap.mpr ⟨z, List.mem_cons_of_mem _ hz, hq⟩
  have nin : ∀ b o, s0.heap.get? b = some o → b ∉ frs outer → b ∉ frs (envOfC qual scope s0.heap.objs.size f cd :: outer) := fun b o q hb hm => by
    obtain ⟨z, hz, hq⟩ := List.mem_filterMap.mp hm
    rcases List.mem_cons.mp hz with rfl | hz
    · have : s0.heap.objs.size = b := Option.some.inj hq
      exact absurd (Heap.lt_size q) (by rw [← this]; exact Nat.lt_irrefl _)
    · exact hb (List.mem_filterMap.mpr ⟨z, hz, hq⟩)
  refine ⟨e, c, H, rfl, I.os, I.bare, ⟨fun b o q n hb hx => ?_, fun b o q n hb hx => ?_, I.base.free, fun b o q hx => ?_, I.base.tups, I.base.frzs, I.base.tbls⟩, hok_kp I.hok kp I.stkFree, F, hE⟩
  · exact kp.keep b o (.inl (by rw [q]; exact fun z => by cases z)) (nin b o q hb) (I.base.keep b o q n hb hx)
  · obtain ⟨sl, e1⟩ := I.base.slot b o q n hb hx
    obtain ⟨sl', e2⟩ := kp.slot b _ (sub b hb) e1
    exact ⟨sl', e2⟩
  · obtain ⟨o', e1⟩ := I.base.there b o q hx
    by_cases hb : b ∈ frs (envOfC qual scope s0.heap.objs.size f cd :: outer)
    · obtain ⟨sl, e2⟩ := kp.slot b _ hb e1; exact ⟨_, e2⟩
    · exact ⟨o', kp.keep b o' (.inl (by rw [q]; exact fun z => by cases z)) hb e1⟩
end
section
variable {P : Program} {w : World} {K : PySem.W.Frag} {mg : Str → Option Value} {base : Heap} {N : List Str} {qual : Str} {scope : Scope} {f : Addr} {cd : Value} {A : Around} {outer : List Env} {s0 : Shared} {H0 : Hp} {E : XK}
/-- a callee's exception is passed on -/
theorem passR : Passes (CXR P w) (cxOf (CXR P w) P w K mg base N qual scope f cd A outer s0 H0 E) E := by
  intro pins σ H s x s' I h
  obtain ⟨e, c, H', rfl, os, bare, un, hok, F, hE⟩ := h
  have I' := I.call' os un hok bare (fun _ z => nomatch z)
  exact leave_fly (g := s0.heap) I'.ok.frames rfl I'.stack (I'.hin0 rfl) (F.older (I.old0 rfl)) fun h' kp F' => cxr_of I' kp F' hE
end
/-- a class of exceptions of one's own -/
structure Exc (K : PySem.W.Frag) (C : Addr) (bmB : List Value) (newId : String) : Prop where
  ok : PySem.W.excIn K C bmB newId = true
theorem Exc.get {K : PySem.W.Frag} {C : Addr} {bmB : List Value} {newId : String} {h : Heap} (x : Exc K C bmB newId) (KX : K.In h) :
    ∃ bm N nm q bs hdct sn sub ab col dd k0 k1 k2 k3 k5 mN, h.get? C = some (excClassObj nm q C N bs bm hdct sn sub ab col dd k0 k1 k2 k3 k5 newId) ∧ h.Ns N mN ∧ mN "__init__" = none ∧ OwnTail h bmB bm ∧ (∃ dc cd sl, K.lookup C = some ⟨.type "type", dc, .cls cd, sl⟩ ∧ cd.mro = .ref C :: bm) := by
  have q := x.ok
  unfold PySem.W.excIn at q
  split at q
  case h_2 => cases q
  case h_1 dc cl sl look =>
    split at q
    case h_2 => cases q
    case h_1 C2 tl a0 a1 a2 a3 made a5 em es =>
      simp only [Bool.and_eq_true, beq_iff_eq, Bool.not_eq_true'] at q
      obtain ⟨⟨⟨⟨⟨e1, e2⟩, e3⟩, e4⟩, e5⟩, e6⟩ := q
      subst e1 e2
      have em0 := em
      obtain ⟨nm, bs, mro, ns, qn, hd, sn, sub, ab, col, del⟩ := cl
      have er : sl = #[a0, a1, a2, a3, some (.builtin made), a5] := by cases sl; simpa using es
      dsimp only at em e3 e5 e6
      subst em e3 er
      exact ⟨tl, ns, nm, qn, bs, hd, sn, sub, ab, col, dc, a0, a1, a2, a3, a5, _, KX _ _ look, .of_isNs (PySem.W.isNs_of_in KX e5), PySem.W.nsMap_none_of_in KX e5 e6, PySem.W.tail_of_in KX e4, ⟨_, _, _, look, em0⟩⟩
end L2

set_option Elab.async false
set_option linter.all false
set_option maxRecDepth 100000
namespace L2
open PySem PySem.Spec PyProof.Rows
/-- raise C(..), C a class of one's own without __init__ -/
def tRaise (C : Addr) (t : TA) (E : XK) : TS := fun _ σ H => t σ H fun vs H1 => vs.length ≤ sizeLine ∧ E (.ref C) none H1
section
variable {P : Program} {w : World} {K : PySem.W.Frag} {mg : Str → Option Value} {base : Heap} {N : List Str} {qual : Str} {scope : Scope} {f : Addr} {cd : Value} {A : Around} {outer : List Env} {s0 : Shared} {H0 : Hp} {E : XK}
  {x : Str} {np cpos pos : Pos} {e0 : Expr} {rest : List Expr} {t : TA} {C : Addr} {bmB : List Value} {newId B initId : String}
theorem ps_raise (O : Exc K C bmB newId) (FB : ExcBaseFacts B newId initId bmB) (hg : Gl (cxOf (CXR P w) P w K mg base N qual scope f cd A outer s0 H0 E) x) (hm : mg x = some (.ref C)) (ha : PA (cxOf (CXR P w) P w K mg base N qual scope f cd A outer s0 H0 E) (e0 :: rest) t)
    (hp : noStar e0 = true := by rfl) (hps : rest.all noStar = true := by rfl) (hdb : (x == ("__debug__" : Str)) = false := by decide) :
    PS (cxOf (CXR P w) P w K mg base N qual scope f cd A outer s0 H0 E) (.Raise (some (.Call (.Name x np) (e0 :: rest) [] cpos)) none pos) (tRaise C t E) := by
  intro pins s σ H D I h
  obtain ⟨bm, N', nm, q, bs, hdct, sn, sub, ab, col, dd, k0, k1, k2, k3, k5, mN, hC, hN, hni, T, _⟩ := O.get I.ok.mod.kin
  refine wpAny_Raise_call_subT (C := C) (nm := nm) (q := q) (N := N') (bs := bs) (bm := bm) (hdct := hdct) (sn := sn) (sub := sub) (ab := ab) (col := col) (dd := dd) (k0 := k0) (k1 := k1) (k2 := k2) (k3 := k3) (k5 := k5) (mN := mN)
    FB (T.hasType FB.hasBase) (I.ok.hd rfl) (stars_of (by rw [List.all_cons, hp, hps]; rfl)) hni (ld_glob I hg hm ⟨rfl, ?_⟩ hdb)
  have h2 := ha cpos pins s σ H _ I h
  rw [star_of hp] at h2 ⊢
  refine Calls.evalArgs_plain (wpAny_mono h2 (fun us s2 z => ?_) fun _ _ y => y)
  obtain ⟨vs, H1, I1, r, hlen, hE⟩ := z
  refine ⟨rfl, by rw [← r.length]; exact hlen, I1.bk _ _ hC, hN.keeps I1.bk, T.keeps I1.bk, fun h' e made => ?_⟩
  have I2 := I1.kept (t' := s2.toks) made.keeps
  obtain ⟨t', he, _, _⟩ := made.there
  refine leave_new (args := us) (C := C) (h0 := base) (g := s0.heap) (H := H1) I2.ok.frames rfl I2.stack (I2.hin0 rfl) ⟨t', he⟩ (I1.old0 rfl e made.new) ?_ fun h'' kp F => cxr_of I2 kp F hE
  cases q1 : H1 e with
  | none => rfl
  | some o =>
    obtain ⟨ob, q2⟩ := hok_there I1.hok (b := e) (by rw [q1]; exact fun z => by cases z)
    rw [made.new] at q2; cases q2
end
end L2
namespace BB
open PySem PySem.Spec PyProof.Rows L2
section
variable {P : Program} {w : World} {K : PySem.W.Frag} {mg : Str → Option Value} {base : Heap}
/-- a def that may raise -/
theorem Def.canX {x : Str} {st : Stmt} {N ps : List Str} {k : Nat} {sp : Sp} (F : Def K mg x st) (S : FnScope N ps (defScope st))
    (hb : ∀ (kV doc pm : Value) (an : Option Addr) (cdv ct : Value) (us : List Value), us.length = ps.length → bindArgs (PySem.W.fnOf x x (defArgs st) (defBody st) (defScope st) .none kV doc pm an cdv ct) ⟨us, []⟩ = pure (ps.zip us))
    (len : ∀ vs H Q E, sp vs H Q E → vs.length = ps.length)
    (hbody : ∀ (f : Addr) (cdv : Value) (A : Around) (outer : List Env) (s : Shared) (H : Hp) (vs : List V) (Q : VK) (E : XK), Room k (A.deeper (envOfC x (defScope st) s.heap.objs.size f cdv)) → sp vs H Q E →
      ∃ t, PSs (cxOf (CXR P w) P w K mg base N x (defScope st) f cdv A outer s H E) (defBody st) t ∧ t { nx := fun _ H' => Q .non H', rt := Q } (start N vs) H) : Can P w K mg base (CXR P w) (k + 1) x ps sp := by
  obtain ⟨f, fd, F1, hm⟩ := F.ex
  refine ⟨f, fd, ?_, hm, F1.kp, F1.binds hb⟩
  obtain ⟨oc, od, kV, doc, pm, an, cdv, ct, osl, rfl, lk, hcd⟩ := F1.ex
  exact fn_of lk hcd S len fun A outer s H vs Q E hr hsp => hbody f cdv A outer s H vs Q E hr hsp
end
section
variable {P : Program} {w : World} {K : PySem.W.Frag} {mg : Str → Option Value} {base : Heap} {N : List Str} {qual : Str} {scope : Scope} {f : Addr} {cd : Value} {A : Around} {outer : List Env} {s0 : Shared} {H0 : Hp} {E : XK} {x : Str} {k : Nat} {ps : List Str} {sp : Sp} {p pos : Pos} {e : Expr} {es : List Expr} {t : TA}
/-- its call in a def that passes the exception on -/
theorem pe_canX (C : Can P w K mg base (CXR P w) k x ps sp) (hr : Room k (A.deeper (envOfC qual scope s0.heap.objs.size f cd))) (hg : Gl (cxOf (CXR P w) P w K mg base N qual scope f cd A outer s0 H0 E) x) (ha : PA (cxOf (CXR P w) P w K mg base N qual scope f cd A outer s0 H0 E) (e :: es) t)
    (hp : noStar e = true := by rfl) (hps : es.all noStar = true := by rfl) (hdb : (x == ("__debug__" : Str)) = false := by decide) :
    PE (cxOf (CXR P w) P w K mg base N qual scope f cd A outer s0 H0 E) (.Call (.Name x p) (e :: es) [] pos) (tCall sp [] E t) := by
  obtain ⟨f', fd, F, hm, hk, hb⟩ := C.ex
  exact pe_call F hr hg hm hk hb .nil passR ha hdb (star_of hp) (stars_of hps)
end
end BB
namespace L2
open PySem PySem.Spec PyProof.Rows
section
variable {X : Cx} {pins : List (Addr × Obj)} {σ σ₀ : St} {H H' : Hp} {s s' : Shared} {E : XK} {e : Addr}
end
end L2

set_option Elab.async false
set_option linter.all false
set_option maxRecDepth 100000
namespace PySem
section
variable {M : Model} {A : Around} {E : Value → Shared → Prop}
variable {nm q : Str} {C N : Addr} {bs bm : List Value} {hdct : Bool} {sn : List Str} {sub : List Value} {ab : Bool} {col : Option Bool} {dd : Option Addr} {k0 k1 k2 k3 k5 : Option Value} {newId : String}
  {nm' q' : Str} {C' N' : Addr} {bs' bm' : List Value} {hdct' : Bool} {sn' : List Str} {sub' : List Value} {ab' : Bool} {col' : Option Bool} {dd' : Option Addr} {k0' k1' k2' k3' k5' : Option Value} {newId' : String}
end
end PySem
namespace L2
open PySem PySem.Spec PyProof.Rows
/-- C is of the class C' -/
def SubE (K : PySem.W.Frag) (C C' : Addr) : Prop := ∃ oc od cd sl, K.lookup C = some ⟨oc, od, .cls cd, sl⟩ ∧ cd.mro.contains (.ref C') = true
section
variable {X : Cx}
end
end L2

set_option Elab.async false
set_option linter.all false
set_option maxRecDepth 100000
namespace PySem.W
open PySem PySem.Spec PySem.Calls PyProof.Rows Builtin Builtin.ObjectAttr Builtin.Getset_descriptor
section
variable {K : Frag} {e C : Addr}
/-- the class of an exception of one's own, as it is asked for its class -/
structure ExcKit (K : Frag) (C : Addr) : Prop where
  ga : findIn K (.ref C) "__getattribute__" = some (some (.builtin "BaseException.__getattribute__"))
  gn : findIn K (.ref C) "__getattr__" = some none
  ca : findIn K (.ref C) "__class__" = some (some (.builtin "object.__class__"))
  gt : specialIn K (.builtin "object.__class__") "__get__" = some (some (.builtin "getset_descriptor.__get__"))
  tk : takesIn K (.builtin "object.__class__") = some true
  mo : mroIn K C (.type "object") = some true
  mb : mroIn K C (.type "BaseException") = some true
  cl : ∃ oc od cd sl, K.lookup C = some ⟨oc, od, .cls cd, sl⟩
section
variable {prog : Program} {w : World} {A : Around} {s : Shared} {R : Result → Shared → Prop}
end
end
end PySem.W
namespace L2
open PySem PySem.Spec PyProof.Rows
end L2

set_option Elab.async false
set_option linter.all false
set_option maxRecDepth 100000
namespace L2
open PySem PySem.Spec PyProof.Rows
section
variable {X : Cx}
/-- == of two lists of flat values, as long -/
def eqVs (xs ys : List V) : Bool := (List.range xs.length).all fun j => eqV (xs.getD j .non) (ys.getD j .non)
theorem op_eq_lst (hu : X.A.units < cLine) : OpR X (compareOp .Eq) (fun x y H Q => ∃ a b xs ys, x = .ref a ∧ y = .ref b ∧ SqL X.K H a xs ∧ SqL X.K H b ys ∧ xs.length = ys.length ∧ (∀ v ∈ xs, flatV v = true) ∧ (∀ v ∈ ys, flatV v = true) ∧ Q (.bl (eqVs xs ys)) H) := by
  intro pins s σ H x y v u Q I rx ry h
  obtain ⟨a, b, xs, ys, rfl, rfl, ha, hb, hl, fx, fy, q⟩ := h
  cases rx; cases ry
  obtain ⟨its, r, pl, _⟩ := I.list ha
  obtain ⟨its2, r2, pl2, _⟩ := I.list hb
  refine SeqAt.eq_listAt (e := fun j => eqV (xs.getD j .non) (ys.getD j .non)) pl.isList pl2.isList (by simp [← r.length, ← r2.length, hl]) hu (fun j h1 h2 => ?_) ⟨.bl _, H, I, rfl, ?_⟩
  · have j1 : j < its.length := by simpa using h1
    have j2 : j < its2.length := by simpa using h2
    have k1 : j < xs.length := by rw [r.length]; exact j1
    have k2 : j < ys.length := by rw [r2.length]; exact j2
    obtain ⟨u1, e1, r1⟩ := r.get (i := j) (x := xs[j]) (by simp [k1])
    obtain ⟨u2, e2, r3⟩ := r2.get (i := j) (x := ys[j]) (by simp [k2])
    have z1 : its.toArray[j] = u1 := by simpa [j1] using e1
    have z2 : its2.toArray[j] = u2 := by simpa [j2] using e2
    rw [z1, z2]
    have w1 : xs.getD j .non = xs[j] := by simp [k1]
    have w2 : ys.getD j .non = ys[j] := by simp [k2]
    rw [w1, w2]
    exact eqAt_V r1 r3 (fx _ (List.getElem_mem k1)) (fy _ (List.getElem_mem k2))
  · have : its.toArray.size = xs.length := by simp [r.length]
    rw [this]
    exact q
/-- == : flat values, or two lists of them -/
theorem op_eqx (hu : X.A.units < cLine) : OpR X (compareOp .Eq) (fun x y H Q => rEq x y H Q ∨ (∃ a b xs ys, x = .ref a ∧ y = .ref b ∧ SqL X.K H a xs ∧ SqL X.K H b ys ∧ xs.length = ys.length ∧ (∀ v ∈ xs, flatV v = true) ∧ (∀ v ∈ ys, flatV v = true) ∧ Q (.bl (eqVs xs ys)) H)) := op_eq.or (op_eq_lst hu)
end
end L2
namespace BB
open PySem PySem.Spec PyProof.Rows L2
/-! ### texts -/
/-- a text's part -/
theorem sl_str {X : Cx} : SlR X (fun x lo hi H Q => ∃ z, x = .str z ∧ z.length ≤ sizeLine ∧ Q (.str (Txt.slice z lo hi)) H) := by
  intro pins s σ H x v vl vu lo hi sl Q I rx hs pl pu h
  obtain ⟨z, rfl, hz, q⟩ := h
  obtain ⟨t, rfl⟩ := rx
  refine ⟨"str", _, F.slot_str_getitem.lookup, typeIs_str _ _ _, ?_⟩
  have fin : ∀ {l u : Option (Int × Tok)}, s.heap.IsSlice sl l u none → l.map (·.1) = lo → u.map (·.1) = hi → wpAny (model X.prog X.w) X.A (getItem (.str z t) (.ref sl)) (EP X pins σ Q) X.xe s := fun {l u} hI e1 e2 => by
    subst e1 e2
    exact wpAny_getItem_str_slice hI rfl (post_val_or_str ⟨Nat.le_trans (Txt.slice_le z _ _) hz, fun t' k => ⟨.str _, H, I.tok _, ⟨_, rfl⟩, q⟩⟩)
  cases pl with
  | none => cases pu with
    | none => exact fin (l := none) (u := none) hs rfl rfl
    | int j tj => exact fin (l := none) (u := some (j, tj)) hs rfl rfl
  | int i ti => cases pu with
    | none => exact fin (l := some (i, ti)) (u := none) hs rfl rfl
    | int j tj => exact fin (l := some (i, ti)) (u := some (j, tj)) hs rfl rfl
/-- the texts of a list, put together -/
def joinS (sep : Str) : List Str → Str
  | [p] => p
  | l => Builtin.Str.glued sep l
theorem mt_join {X : Cx} : MtR X "str.join" (fun x xs H Q => ∃ z l ts, x = .str z ∧ xs = [.ref l] ∧ SqL X.K H l (ts.map V.str) ∧ Builtin.Str.tooLong (ts.toArray.foldl (· + ·.length + z.length) 0) = false ∧ (joinS z ts).length ≤ sizeLine ∧ Q (.str (joinS z ts)) H) := by
  intro pins s σ H x xs v us Q I rx rs h
  obtain ⟨z, l, ts, rfl, rfl, hl, h1, h2, q⟩ := h
  obtain ⟨t, rfl⟩ := rx
  obtain ⟨u, rfl, ru⟩ := vals1 rs
  cases ru
  obtain ⟨its, r, pl, _⟩ := I.list hl
  have key : ∀ (ts : List Str) (its : List Value), Vals (ts.map V.str) its → ∃ ps : List (Str × Tok), ps.map (·.1) = ts ∧ its = strValues ps := by
    intro ts
    induction ts with
    | nil => intro its r; cases r; exact ⟨[], rfl, rfl⟩
    | cons a ts ih =>
      intro its r
      cases r with
      | cons ra rr =>
        obtain ⟨tk, rfl⟩ := ra
        obtain ⟨ps, e1, e2⟩ := ih _ rr
        exact ⟨(a, tk) :: ps, by rw [← e1]; rfl, by rw [e2]; rfl⟩
  obtain ⟨ps, e1, e2⟩ := key ts its r
  subst e1 e2
  refine call_meets PySem.F.slot_str_join (typeIs_str s z t) PySem.F.entry_str_join (PySem.F.args_str_join_2 _ _) (meets_str_join_list z t l ps h1) ⟨pl.isList, ?_⟩
  match ps, h2, q with
  | [], h2, q => exact ⟨h2, .str _, H, I.tok _, ⟨_, rfl⟩, q⟩
  | [p], h2, q => exact ⟨.str _, H, I, ⟨_, rfl⟩, q⟩
  | p1 :: p2 :: ps, h2, q => exact ⟨h2, .str _, H, I.tok _, ⟨_, rfl⟩, q⟩
end BB

set_option Elab.async false
set_option linter.all false
set_option maxRecDepth 100000
namespace BB
open PySem PySem.Spec PyProof.Rows L2
open PySem.StrLaws in
theorem occ_run (x : Str) (c limit : Nat) : ∀ (l : List Nat) (found : Array Nat) (free : Nat), (∀ i ∈ l, free ≤ i) → l.Pairwise (· < ·) → found.size ≤ limit →
    (forIn l (found, free) (occBody x ⟨#[c]⟩ x.length limit)).run.fst.toList = found.toList ++ (l.filter fun i => decide (x.cps.toList[i]? = some c)).take (limit - found.size)
  | [], found, free, _, _, _ => by simp
  | a :: l, found, free, hf, hp, hs => by
    rw [List.forIn_cons]
    have hp' := List.pairwise_cons.mp hp
    have ha : free ≤ a := hf a (List.mem_cons_self ..)
    by_cases hc : x.cps.toList[a]? = some c
    · have hc2 := (subAt_one x c a).mpr hc
      rw [List.filter_cons_of_pos (by simpa using hc)]
      by_cases hlt : found.size < limit
      · have e : occBody x ⟨#[c]⟩ x.length limit a (found, free) = pure (ForInStep.yield (found.push a, a + 1)) := by
          unfold occBody; exact if_pos ⟨⟨⟨hlt, ha⟩, hc2.1⟩, hc2.2⟩
        rw [e]
        show (forIn l (found.push a, a + 1) (occBody x ⟨#[c]⟩ x.length limit)).run.fst.toList = _
        rw [occ_run x c limit l (found.push a) (a + 1) (fun i hi => hp'.1 i hi) hp'.2 (by simp; omega)]
        obtain ⟨k, hk⟩ : ∃ k, limit - found.size = k + 1 := ⟨limit - found.size - 1, by omega⟩
        rw [hk, List.take_succ_cons, Array.toList_push, List.append_assoc, Array.size_push, show limit - (found.size + 1) = k by omega]
        rfl
      · have e : occBody x ⟨#[c]⟩ x.length limit a (found, free) = pure (ForInStep.yield (found, free)) := by
          unfold occBody; exact if_neg fun h => hlt h.1.1.1
        rw [e]
        show (forIn l (found, free) (occBody x ⟨#[c]⟩ x.length limit)).run.fst.toList = _
        rw [occ_run x c limit l found free (fun i hi => hf i (List.mem_cons_of_mem _ hi)) hp'.2 hs, show limit - found.size = 0 by omega]
        simp
    · have e : occBody x ⟨#[c]⟩ x.length limit a (found, free) = pure (ForInStep.yield (found, free)) := by
        unfold occBody; exact if_neg fun h => hc ((subAt_one x c a).mp ⟨h.1.2, h.2⟩)
      rw [e]
      show (forIn l (found, free) (occBody x ⟨#[c]⟩ x.length limit)).run.fst.toList = _
      rw [occ_run x c limit l found free (fun i hi => hf i (List.mem_cons_of_mem _ hi)) hp'.2 hs, List.filter_cons_of_neg (by simpa using hc)]
/-- the places of a sign -/
def places (c : Nat) : List Nat → List Nat
  | [] => []
  | a :: l => if a = c then 0 :: (places c l).map (· + 1) else (places c l).map (· + 1)
theorem places_filter (c : Nat) : ∀ (l : List Nat), (List.range l.length).filter (fun i => decide (l[i]? = some c)) = places c l
  | [] => rfl
  | a :: l => by
    have ih := places_filter c l
    rw [List.length_cons, List.range_succ_eq_map, List.filter_cons, List.filter_map]
    have e : ((fun i => decide ((a :: l)[i]? = some c)) ∘ Nat.succ) = fun i => decide (l[i]? = some c) := by funext i; simp
    rw [e, ih]
    show _ = (if a = c then 0 :: (places c l).map (· + 1) else (places c l).map (· + 1))
    by_cases h : a = c
    · subst h; simp
    · simp [h]
theorem occ_places (x : Str) (c limit : Nat) : Builtin.Str.occurrences x ⟨#[c]⟩ 0 x.length limit = (places c x.cps.toList).take limit := by
  rw [PySem.StrLaws.occ_eq, occ_run x c limit _ #[] 0 (fun _ _ => Nat.zero_le _) (by simpa using List.pairwise_lt_range') (Nat.zero_le _)]
  have hl : x.cps.toList.length = x.length := by simp [Str.length]
  have e : List.range' 0 (x.length + 1 - 0) = List.range (x.length) ++ [x.length] := by
    rw [Nat.sub_zero, ← List.range_eq_range', List.range_succ]
  rw [e, List.filter_append]
  have n : [x.length].filter (fun i => decide (x.cps.toList[i]? = some c)) = [] := by
    rw [List.filter_cons_of_neg]
    · rfl
    · rw [← hl]; simp
  rw [n, List.append_nil, ← hl, places_filter]
  simp
theorem places_nil {c : Nat} : ∀ {l : List Nat}, places c l = [] ↔ c ∉ l
  | [] => by simp [places]
  | a :: l => by
    unfold places
    by_cases h : a = c
    · subst h; simp
    · simp [h, Ne.symm h, places_nil (l := l)]
/-- the first place parts the list -/
theorem places_cons {c i : Nat} : ∀ {l r : List Nat}, places c l = i :: r → i < l.length ∧ c ∉ l.take i ∧ r = (places c (l.drop (i + 1))).map (· + (i + 1))
  | [], r, h => by simp [places] at h
  | a :: l, r, h => by
    unfold places at h
    by_cases e : a = c
    · rw [if_pos e] at h
      cases h
      exact ⟨by simp, by simp, by simp⟩
    · rw [if_neg e] at h
      cases q : places c l with
      | nil => rw [q] at h; simp at h
      | cons j r' =>
        rw [q] at h
        simp only [List.map_cons, List.cons.injEq] at h
        obtain ⟨rfl, rfl⟩ := h
        obtain ⟨h1, h2, h3⟩ := places_cons q
        refine ⟨by simp; omega, ?_, ?_⟩
        · simp [Ne.symm e, h2]
        · rw [h3]
          simp [Function.comp_def, Nat.add_assoc]
theorem slice_to {x : Str} {i : Nat} (h : i ≤ x.length) : Txt.slice x none (some (i : Int)) = Builtin.Str.strSub x 0 i := by
  rw [eq_of_beq (slice_closes_toL (x := x) (j := i) (by omega) (by omega))]
  show (⟨_⟩ : Str) = ⟨_⟩
  congr 1
  apply Array.toList_inj.mp
  simp
end BB

set_option Elab.async false
set_option linter.all false
set_option maxRecDepth 100000
namespace L2
open PySem PySem.Spec PyProof.Rows
section
variable {X : Cx} {pins : List (Addr × Obj)} {σ : St} {H : Hp} {s : Shared}
/-- a written list, item by item, nothing unfolded -/
structure QA (X : Cx) (es : List Expr) (t : TA) : Prop where
  h : PA X es t
theorem qa_nil : QA X [] tNil := ⟨pa_nil⟩
end
end L2

set_option Elab.async false
set_option linter.all false
set_option maxRecDepth 100000
/-! Defs that are called inside an except suite: an exception is in hand there, so no loop and no raise of theirs is read. -/
namespace L2
open PySem PySem.Spec PyProof.Rows
section
variable {P : Program} {w : World} {K : PySem.W.Frag} {mg : Str → Option Value} {base : Heap} {N ps : List Str} {qual : Str} {scope : Scope} {f : Addr} {cd : Value} {A : Around} {outer : List Env} {s : Shared} {H : Hp} {E : XK}
end
end L2

set_option Elab.async false
set_option linter.all false
set_option maxRecDepth 100000
namespace BB
open PySem PySem.Spec PyProof.Rows L2
end BB

set_option Elab.async false
set_option linter.all false
set_option maxRecDepth 100000
namespace BB
open PySem PySem.Spec PyProof.Rows L2
end BB

set_option Elab.async false
set_option linter.all false
set_option maxRecDepth 100000
/-! Defs called inside an except suite, by name. -/
namespace BB
open PySem PySem.Spec PyProof.Rows L2
section
variable {P : Program} {w : World} {K : PySem.W.Frag} {mg : Str → Option Value} {base : Heap}
end
/-- its call where it does not raise -/
theorem passR0 {P : Program} {w : World} {X : Cx} : Passes (CXR P w) X E0 := fun _ _ _ _ _ _ _ h => by
  obtain ⟨_, _, _, _, _, _, _, _, _, z⟩ := h
  exact z.elim
theorem pe_can0 {X : Cx} {x : Str} {k : Nat} {ps : List Str} {sp : Sp} {p pos : Pos} {e : Expr} {es : List Expr} {t : TA} (C : Can X.prog X.w X.K X.mg X.base (CXR X.prog X.w) k x ps sp) (hr : Room k X.A) (hg : Gl X x) (ha : PA X (e :: es) t)
    (hp : noStar e = true := by rfl) (hps : es.all noStar = true := by rfl) (hdb : (x == ("__debug__" : Str)) = false := by decide) :
    PE X (.Call (.Name x p) (e :: es) [] pos) (tCall sp [] E0 t) := by
  obtain ⟨f', fd, F, hm, hk, hb⟩ := C.ex
  exact pe_call F hr hg hm hk hb .nil passR0 ha hdb (star_of hp) (stars_of hps)
end BB

set_option Elab.async false
set_option linter.all false
set_option maxRecDepth 100000
/-! People, answers, turns: what the program's defs tell, said without the program. -/
namespace PP
open PySem L2 BB
abbrev SM : Str := "abcdefghijklmnopqrstuvwxyz"
abbrev NM : Str := "abcdefghijklmnopqrstuvwxyz0123456789-"
abbrev VEb : List Value := [.type "ValueError", .type "Exception", .type "BaseException", .type "object"]
structure Blt (mg : Str → Option Value) : Prop where
  abs : mg "abs" = none
  int : mg "int" = none
  range : mg "range" = none
  all : mg "all" = none
  any : mg "any" = none
  len : mg "len" = none
  isinstance : mg "isinstance" = none
  str : mg "str" = none
  bool : mg "bool" = none
  tuple : mg "tuple" = none
  list : mg "list" = none
  ValueError : mg "ValueError" = none
  ord : mg "ord" = none
  max : mg "max" = none
  min : mg "min" = none
  enumerate : mg "enumerate" = none
  sorted : mg "sorted" = none
  set : mg "set" = none
  sum : mg "sum" = none
structure TP (mg : Str → Option Value) : Prop where
  HOUSE_SIGNS : ∃ u, mg "HOUSE_SIGNS" = some u ∧ RelV (.str SM) u
  HOUSE_LENGTH : ∃ u, mg "HOUSE_LENGTH" = some u ∧ RelV (.int 6) u
  NAME_SIGNS : ∃ u, mg "NAME_SIGNS" = some u ∧ RelV (.str NM) u
  NAME_LENGTH : ∃ u, mg "NAME_LENGTH" = some u ∧ RelV (.int 8) u
def leastD : List (Key × V) := [(Sum.inr "lets", .int 1), (Sum.inr "refuses", .int 1), (Sum.inr "bars", .int 1), (Sum.inr "gone", .int 1), (Sum.inr "moved", .int 1), (Sum.inr "open", .int 2)]
structure TH (P : Program) (w : World) (K : PySem.W.Frag) (mg : Str → Option Value) (aL : Addr) : Prop where
  LEAST_NUMBER : ∃ u, mg "LEAST_NUMBER" = some u ∧ RelV (.ref aL) u
  d_LEAST_NUMBER : KDict P w K aL leastD
/-- a class of refusals, right under the base at aE -/
structure XC (K : PySem.W.Frag) (mg : Str → Option Value) (aE a : Addr) (x : Str) : Prop where
  m : mg x = some (.ref a)
  x : Exc K a VEb "ValueError.__new__"
  sub : SubE K a aE
  kit : PySem.W.ExcKit K a
structure XB (K : PySem.W.Frag) (mg : Str → Option Value) (aE : Addr) : Prop where
  m : mg "BookError" = some (.ref aE)
  x : Exc K aE VEb "ValueError.__new__"
def madeF (t sg : Str) (m : Int) : Bool := (!decide (V.str t = V.str "")) && decide ((t.length : Int) ≤ m) && t.cps.toList.all fun c => decide (c ∈ sg.cps.toList)
def spMade : Sp := fun vs H Q _ => ∃ (t sg : Str) (m : Int), vs = [.str t, .str sg, .int m] ∧ t.length < sizeLine ∧ ∀ H', Same H H' → Q (.bl (madeF t sg m)) H'
def houseV : V → Bool
  | .str s => madeF s SM 6
  | _ => false
def personF (s : Str) : Bool := madeF (partP s "@").1 NM 8 && madeF (partP s "@").2.2 SM 6
def personV : V → Bool
  | .str s => personF s
  | _ => false
def sp1 (g : V → Bool) : Sp := fun vs H Q _ => ∃ (x : V) (k : Kd), vs = [x] ∧ IsK H x k ∧ Small x ∧ ∀ H', Same H H' → Q (.bl (g x)) H'
def spCheck (aP : Addr) : Sp := fun vs H Q E => ∃ (x : V) (k : Kd), vs = [x] ∧ IsK H x k ∧ Small x ∧ ∀ H', Same H H' → (personV x = true → Q .non H') ∧ (personV x = false → E (.ref aP) none H')
theorem person_str {x : V} (h : personV x = true) : ∃ z, x = .str z := by
  cases x <;> first | exact ⟨_, rfl⟩ | cases h
def spParts (aP : Addr) : Sp := fun vs H Q E => ∃ (x : V) (k : Kd), vs = [x] ∧ IsK H x k ∧ Small x ∧ (∀ H' z p, Same H H' → x = .str z → personV x = true → H' p = some (.tup [.str (partP z "@").1, .str (partP z "@").2.1, .str (partP z "@").2.2]) → Q (.ref p) H') ∧ ∀ H', Same H H' → personV x = false → E (.ref aP) none H'
def homeF (z : Str) : Str := (partP z "@").2.2
def spPart (aP : Addr) (g : Str → Str) : Sp := fun vs H Q E => ∃ (x : V) (k : Kd), vs = [x] ∧ IsK H x k ∧ Small x ∧ (∀ H' z, Same H H' → x = .str z → personV x = true → Q (.str (g z)) H') ∧ ∀ H', Same H H' → personV x = false → E (.ref aP) none H'
/-! ### halves -/
def wholeV : V → Bool
  | .int _ => true
  | _ => false
def sp0 (g : V → Bool) : Sp := fun vs H Q _ => ∃ (x : V) (k : Kd), vs = [x] ∧ IsK H x k ∧ ∀ H', Same H H' → Q (.bl (g x)) H'
def spAsks : Sp := fun vs H Q _ => ∃ i : Int, vs = [.int i] ∧ Q (.bl (decide (V.int (i % 2) = .int 1))) H
def askV : V → Bool
  | .int i => decide (0 < i) && decide (V.int (i % 2) = .int 1)
  | _ => false
theorem whole_int {x : V} (h : wholeV x = true) : ∃ i, x = .int i := by cases x <;> first | exact ⟨_, rfl⟩ | cases h
def noughtV : V → Bool
  | .int i => decide (V.int i = .int 0)
  | _ => false
def numF (n : Int) (w : Str) : Bool := if w = "none" then decide (V.int n = .int 0) else match valV leastD (Sum.inr w) with
  | some (.int k) => decide (k ≤ n)
  | _ => false
theorem least_int {w : Str} {v : V} (h : valV leastD (Sum.inr w) = some v) : ∃ k, v = .int k := by
  unfold valV at h
  obtain ⟨p, hp, rfl⟩ := Option.map_eq_some_iff.mp h
  have hm := List.mem_of_find?_eq_some hp
  unfold leastD at hm
  simp only [List.mem_cons, List.not_mem_nil, or_false] at hm
  rcases hm with rfl | rfl | rfl | rfl | rfl | rfl <;> exact ⟨_, rfl⟩
def spNum : Sp := fun vs H Q _ => ∃ (n : Int) (w : Str), vs = [.int n, .str w] ∧ Q (.bl (numF n w)) H
def atF (x : V) (w : Str) : Bool := if w = "lets" ∨ w = "refuses" then askV x else if w = "moved" then personV x else noughtV x
def spAt : Sp := fun vs H Q _ => ∃ (x : V) (k : Kd) (w : Str), vs = [x, .str w] ∧ IsK H x k ∧ Small x ∧ ∀ H', Same H H' → Q (.bl (atF x w)) H'
def ansF : List V → Bool
  | [.int n, .str w, a] => numF n w && atF a w
  | _ => false
/-- a thing handed in: no tuple, or a tuple of flat things -/
def Thing (H : Hp) (x : V) (o : Option (List V)) : Prop := match o with
  | none => ∃ k, IsK H x k ∧ isTup k = false
  | some xs => ∃ a, x = .ref a ∧ H a = some (.tup xs) ∧ xs.length ≤ sizeLine ∧ (∀ y ∈ xs, (∃ k, IsK H y k) ∧ Small y ∧ flatV y = true)
def ofO (g : List V → Bool) : Option (List V) → Bool
  | none => false
  | some xs => g xs
def spO (g : List V → Bool) : Sp := fun vs H Q _ => ∃ (x : V) (o : Option (List V)), vs = [x] ∧ Thing H x o ∧ ∀ H', Same H H' → Q (.bl (ofO g o)) H'
/-! ### turns -/
def posV : V → Bool
  | .int i => decide (0 < i)
  | _ => false
def wishF : List V → Bool
  | [t, _, _, n] => decide (t = .str "wish") && posV n
  | _ => false
def answerF : List V → Bool
  | t :: _ :: _ :: n :: r => decide (t = .str "answer") && ansF (n :: r) && posV n
  | _ => false
def turnF : List V → Bool
  | t :: a :: b :: n :: r => personV a && personV b && !decide (a = b) && (wishF (t :: a :: b :: n :: r) || answerF (t :: a :: b :: n :: r))
  | _ => false
def strOf : V → Str
  | .str s => s
  | _ => ""
def letterF : List V → Bool
  | t :: a :: b :: n :: r => turnF (t :: a :: b :: n :: r) && !decide (homeF (strOf a) = homeF (strOf b))
  | _ => false
end PP
namespace PP
open PySem L2 BB
theorem scal_str {x : V} {s : Str} (h : flatV x = true) : scal x (.str s) = true := by cases x <;> first | rfl | cases h
/-- a tuple of four flat things or more -/
def Four (H : Hp) (a : Addr) (x0 x1 x2 x3 : V) (r : List V) : Prop := H a = some (.tup (x0 :: x1 :: x2 :: x3 :: r)) ∧ (x0 :: x1 :: x2 :: x3 :: r).length ≤ sizeLine ∧ ∀ y ∈ x0 :: x1 :: x2 :: x3 :: r, (∃ k, IsK H y k) ∧ Small y ∧ flatV y = true
theorem Four.same {H H' : Hp} {a : Addr} {x0 x1 x2 x3 : V} {r : List V} (h : Four H a x0 x1 x2 x3 r) (s : Same H H') : Four H' a x0 x1 x2 x3 r :=
  ⟨s _ _ h.1, h.2.1, fun y hy => let ⟨⟨k, z⟩, q⟩ := h.2.2 y hy; ⟨⟨k, z.same s⟩, q⟩⟩
def spF (g : List V → Bool) : Sp := fun vs H Q _ => ∃ (a : Addr) (x0 x1 x2 x3 : V) (r : List V), vs = [.ref a] ∧ Four H a x0 x1 x2 x3 r ∧ ∀ H', Same H H' → Q (.bl (g (x0 :: x1 :: x2 :: x3 :: r))) H'
/-- what is told of a turn, by its first two people -/
def spG (g : V → Str → Str → V) : Sp := fun vs H Q _ => ∃ (a : Addr) (x0 : V) (t u : Str) (x3 : V) (r : List V), vs = [.ref a] ∧ Four H a x0 (.str t) (.str u) x3 r ∧ personF t = true ∧ personF u = true ∧ (x0 = .str "wish" ∨ x0 = .str "answer") ∧ ∀ H', Same H H' → Q (g x0 t u) H'
def betweenG (_ : V) (t u : Str) : V := .bl (!decide (V.str (homeF t) = V.str (homeF u)))
theorem len3 {r : List V} (h : r.length < 4) : turnF r = false ∧ letterF r = false := by
  match r, h with
  | [], _ => exact ⟨rfl, rfl⟩
  | [_], _ => exact ⟨rfl, rfl⟩
  | [_, _], _ => exact ⟨rfl, rfl⟩
  | [_, _, _], _ => exact ⟨rfl, rfl⟩
  | _ :: _ :: _ :: _ :: _, h => exact absurd h (by simp)
theorem len4 {r : List V} (h : 4 ≤ r.length) : ∃ a b c d t, r = a :: b :: c :: d :: t := by
  match r, h with
  | a :: b :: c :: d :: t, _ => exact ⟨a, b, c, d, t, rfl⟩
  | [], h => exact absurd h (by simp)
  | [_], h => exact absurd h (by simp)
  | [_, _], h => exact absurd h (by simp)
  | [_, _, _], h => exact absurd h (by simp)
theorem turn_word {x0 x1 x2 x3 : V} {r : List V} (h : turnF (x0 :: x1 :: x2 :: x3 :: r) = true) : personV x1 = true ∧ personV x2 = true ∧ (x0 = .str "wish" ∨ x0 = .str "answer") := by
  unfold turnF at h
  simp only [Bool.and_eq_true, Bool.or_eq_true] at h
  obtain ⟨⟨⟨h1, h2⟩, _⟩, h3⟩ := h
  refine ⟨h1, h2, ?_⟩
  rcases h3 with h3 | h3
  · left
    cases r with
    | nil => unfold wishF at h3; simp only [Bool.and_eq_true, decide_eq_true_eq] at h3; exact h3.1
    | cons a t => cases h3
  · right
    unfold answerF at h3; simp only [Bool.and_eq_true, decide_eq_true_eq] at h3; exact h3.1.1
end PP
namespace PP
open PySem L2 BB
theorem cut_from (xs : List V) (n : Nat) : cutV xs (some (n : Int)) none = xs.drop n := by
  unfold cutV
  rw [HT.sIx_none, HT.sIx_nat]
  by_cases h : n ≤ xs.length
  · rw [Nat.min_eq_left h]
    exact List.take_of_length_le (by simp)
  · rw [Nat.min_eq_right (by omega), List.drop_of_length_le (Nat.le_refl _), List.drop_of_length_le (by omega)]
    simp
theorem nw_from {n len : Nat} (h : 0 < n) (h2 : 0 < len) : ¬ (HT.sIx len 0 (some (n : Int)) = 0 ∧ HT.sIx len len none = len) := by
  rw [HT.sIx_nat]; omega
end PP
namespace PP
open PySem L2 BB
/-! ### people as lists of signs -/
def NML : List Nat := [97, 98, 99, 100, 101, 102, 103, 104, 105, 106, 107, 108, 109, 110, 111, 112, 113, 114, 115, 116, 117, 118, 119, 120, 121, 122, 48, 49, 50, 51, 52, 53, 54, 55, 56, 57, 45]
def SML : List Nat := [97, 98, 99, 100, 101, 102, 103, 104, 105, 106, 107, 108, 109, 110, 111, 112, 113, 114, 115, 116, 117, 118, 119, 120, 121, 122]
theorem nml : NM.cps.toList = NML := by decide +kernel
theorem sml : SM.cps.toList = SML := by decide +kernel
def madeL (l sg : List Nat) (m : Nat) : Bool := !l.isEmpty && decide (l.length ≤ m) && l.all fun c => decide (c ∈ sg)
theorem str_ext {a b : Str} (h : a.cps.toList = b.cps.toList) : a = b := by
  cases a; cases b; congr 1; exact Array.toList_inj.mp h
theorem made_list (t sg : Str) (m : Nat) : madeF t sg (m : Int) = madeL t.cps.toList sg.cps.toList m := by
  unfold madeF madeL
  have e1 : decide (V.str t = V.str "") = t.cps.toList.isEmpty := by
    rw [Bool.eq_iff_iff, decide_eq_true_iff, List.isEmpty_iff]
    constructor
    · intro h; cases h; decide +kernel
    · intro h
      have : t = "" := str_ext (h.trans (by decide +kernel))
      rw [this]
  have e2 : t.length = t.cps.toList.length := by simp [Str.length]
  rw [e1, e2]
  congr 2
  rw [Bool.eq_iff_iff, decide_eq_true_iff, decide_eq_true_iff]
  omega
def personL (l : List Nat) : Bool := madeL (l.takeWhile (· != 64)) NML 8 && madeL ((l.dropWhile (· != 64)).drop 1) SML 6
theorem at_sign : ("@" : Str) = ⟨#[64]⟩ := by decide +kernel
theorem places_tw {c i : Nat} : ∀ {l r : List Nat}, places c l = i :: r → l.takeWhile (· != c) = l.take i ∧ (l.dropWhile (· != c)).drop 1 = l.drop (i + 1)
  | [], r, h => by simp [places] at h
  | a :: l, r, h => by
    unfold places at h
    by_cases e : a = c
    · rw [if_pos e] at h
      cases h
      subst e
      simp
    · rw [if_neg e] at h
      cases q : places c l with
      | nil => rw [q] at h; simp at h
      | cons j r' =>
        rw [q] at h
        simp only [List.map_cons, List.cons.injEq] at h
        obtain ⟨rfl, rfl⟩ := h
        obtain ⟨h1, h2⟩ := places_tw q
        have en : (a != c) = true := by simpa using e
        rw [List.takeWhile_cons, List.dropWhile_cons, en]
        simp only [if_true, List.take_succ_cons, List.drop_succ_cons]
        exact ⟨by rw [h1], h2⟩
theorem no_tw {c : Nat} : ∀ {l : List Nat}, c ∉ l → l.takeWhile (· != c) = l ∧ l.dropWhile (· != c) = []
  | [], _ => ⟨rfl, rfl⟩
  | a :: l, h => by
    have en : (a != c) = true := by
      have : a ≠ c := fun e => h (e ▸ List.mem_cons_self ..)
      simpa using this
    obtain ⟨h1, h2⟩ := no_tw (l := l) (fun z => h (List.mem_cons_of_mem _ z))
    rw [List.takeWhile_cons, List.dropWhile_cons, en]
    exact ⟨by simp [h1], by simpa using h2⟩
theorem person_list (t : Str) : personF t = personL t.cps.toList := by
  have o1 : Builtin.Str.occurrences t "@" 0 t.length 1 = (places 64 t.cps.toList).take 1 := by rw [at_sign]; exact occ_places t 64 1
  unfold personF personL partP
  rw [o1]
  cases q : places 64 t.cps.toList with
  | nil =>
    obtain ⟨h1, h2⟩ := no_tw (places_nil.mp q)
    have z : madeF Str.empty SM 6 = false := by decide +kernel
    show (madeF t NM 8 && madeF Str.empty SM 6) = _
    rw [z, h2]
    show _ = (_ && madeL [] SML 6)
    have z2 : madeL [] SML 6 = false := by decide +kernel
    rw [z2, Bool.and_false, Bool.and_false]
  | cons i r =>
    obtain ⟨h1, h2⟩ := places_tw q
    show (madeF (Builtin.Str.strSub t 0 i) NM ((8 : Nat) : Int) && madeF (Builtin.Str.strSub t (i + ("@" : Str).length) t.length) SM ((6 : Nat) : Int)) = _
    rw [made_list, made_list, nml, sml, h1, h2, show ("@" : Str).length = 1 by decide +kernel]
    have e1 : (Builtin.Str.strSub t 0 i).cps.toList = t.cps.toList.take i := by
      unfold Builtin.Str.strSub
      rw [Array.toList_extract]
      simp
    have e2 : (Builtin.Str.strSub t (i + 1) t.length).cps.toList = t.cps.toList.drop (i + 1) := by
      unfold Builtin.Str.strSub
      rw [Array.toList_extract]
      show List.extract _ _ _ = _
      unfold List.extract
      exact List.take_of_length_le (by simp [Str.length])
    rw [e1, e2]
theorem madeL_true {l sg : List Nat} {m : Nat} (h0 : 0 < l.length) (h1 : l.length ≤ m) (h2 : ∀ c ∈ l, c ∈ sg) : madeL l sg m = true := by
  unfold madeL
  have e : l.isEmpty = false := by cases l with
    | nil => simp at h0
    | cons a r => rfl
  rw [e, decide_eq_true h1]
  simp only [Bool.not_false, Bool.true_and]
  exact List.all_eq_true.mpr fun c hc => decide_eq_true (h2 c hc)
theorem madeL_bad {l sg : List Nat} {m c : Nat} (h : c ∈ l) (hn : c ∉ sg) : madeL l sg m = false := by
  unfold madeL
  have : (l.all fun c => decide (c ∈ sg)) = false := by
    rw [List.all_eq_false]
    exact ⟨c, h, by simpa using hn⟩
  rw [this, Bool.and_false]
theorem tw_at {c : Nat} : ∀ {a b : List Nat}, c ∉ a → (a ++ c :: b).takeWhile (· != c) = a ∧ ((a ++ c :: b).dropWhile (· != c)).drop 1 = b
  | [], b, _ => by simp
  | x :: a, b, h => by
    have en : (x != c) = true := by
      have : x ≠ c := fun e => h (e ▸ List.mem_cons_self ..)
      simpa using this
    obtain ⟨h1, h2⟩ := tw_at (a := a) (b := b) (fun z => h (List.mem_cons_of_mem _ z))
    rw [List.cons_append, List.takeWhile_cons, List.dropWhile_cons, en]
    exact ⟨by simp [h1], by simpa using h2⟩
theorem person_at {a b : List Nat} (h : 64 ∉ a) : personL (a ++ 64 :: b) = (madeL a NML 8 && madeL b SML 6) := by
  unfold personL
  rw [(tw_at h).1, (tw_at h).2]

theorem home_at {n h : Str} (hn : 64 ∉ n.cps.toList) : partP (n ++ ("@" : Str) ++ h) "@" = (n, ("@" : Str), h) := by
  have cc : ∀ a b : Str, (a ++ b).cps.toList = a.cps.toList ++ b.cps.toList := fun a b => by
    show (a.cps ++ b.cps).toList = _
    simp
  have e : (n ++ ("@" : Str) ++ h).cps.toList = n.cps.toList ++ 64 :: h.cps.toList := by
    rw [cc, cc, List.append_assoc, show ("@" : Str).cps.toList = [64] by decide +kernel]; rfl
  have o1 : Builtin.Str.occurrences (n ++ ("@" : Str) ++ h) "@" 0 (n ++ ("@" : Str) ++ h).length 1 = (places 64 (n ++ ("@" : Str) ++ h).cps.toList).take 1 := by rw [at_sign]; exact occ_places _ 64 1
  unfold partP
  rw [o1, e]
  cases q : places 64 (n.cps.toList ++ 64 :: h.cps.toList) with
  | nil => exact absurd (List.mem_append_right _ (List.mem_cons_self ..)) (places_nil.mp q)
  | cons i r =>
    obtain ⟨h1, h2⟩ := places_tw q
    rw [(tw_at hn).1] at h1
    rw [(tw_at hn).2] at h2
    have li : i = n.cps.toList.length := by
      have := (places_cons q).1
      have z := congrArg List.length h1
      rw [List.length_take] at z
      omega
    show (Builtin.Str.strSub (n ++ ("@" : Str) ++ h) 0 i, ("@" : Str), Builtin.Str.strSub (n ++ ("@" : Str) ++ h) (i + ("@" : Str).length) (n ++ ("@" : Str) ++ h).length) = _
    rw [show ("@" : Str).length = 1 by decide +kernel]
    have e1 : Builtin.Str.strSub (n ++ ("@" : Str) ++ h) 0 i = n := by
      apply str_ext
      unfold Builtin.Str.strSub
      rw [Array.toList_extract, e]
      show List.extract _ _ _ = _
      unfold List.extract
      rw [List.drop_zero, Nat.sub_zero]
      exact h1.symm
    have e2 : Builtin.Str.strSub (n ++ ("@" : Str) ++ h) (i + 1) (n ++ ("@" : Str) ++ h).length = h := by
      apply str_ext
      unfold Builtin.Str.strSub
      rw [Array.toList_extract, e]
      show List.extract _ _ _ = _
      unfold List.extract
      rw [← h2]
      exact List.take_of_length_le (by
        have : (n ++ ("@" : Str) ++ h).length = (n.cps.toList ++ 64 :: h.cps.toList).length := by rw [← e]; simp [Str.length]
        rw [List.length_append, List.length_cons] at this
        omega)
    rw [e1, e2]
end PP

set_option Elab.async false
set_option linter.all false
set_option maxRecDepth 100000
/-! enumerate of a list, in a loop. -/
namespace L2
open PySem PySem.Spec PyProof.Rows
section
variable {X : Cx} {pins : List (Addr × Obj)} {σ : St} {H : Hp} {s : Shared} {h' : Heap}
end
end L2
namespace PP
open PySem L2 BB
end PP

set_option Elab.async false
set_option linter.all false
set_option maxRecDepth 100000
/-! Expressions as structures, too: nothing unfolds them while a term is read. -/
namespace L2
open PySem PySem.Spec PyProof.Rows
section
variable {X : Cx}
structure QE (X : Cx) (e : Expr) (t : TE) : Prop where
  h : PE X e t
structure QT (X : Cx) (e : Expr) (t : TT) : Prop where
  h : PT X e t
theorem qe_of {e : Expr} {t : TE} (h : PE X e t) : QE X e t := ⟨h⟩
theorem qt_of {e : Expr} {t : TT} (h : PT X e t) : QT X e t := ⟨h⟩
theorem qe_op {a b : Expr} {ta tb : TE} {op : Operator} {r : R2} {pos : Pos} (ho : OpR X (binaryOp op) r) (ha : QE X a ta) (hb : QE X b tb) : QE X (.BinOp a op b pos) (tOp r ta tb) := ⟨pe_op ho ha.h hb.h⟩
theorem qe_slice {e : Expr} {lo hi : Option Expr} {te : TE} {tl th : TO} {p2 pos : Pos} {r : V → Option Int → Option Int → Hp → VK → Prop} (hr : SlR X r) (he : QE X e te) (hl : PO X lo tl) (hu : PO X hi th) : QE X (.Subscript e (.Slice lo hi none p2) pos) (tSl r te tl th) := ⟨pe_slice hr he.h hl hu⟩
theorem qe_lst {es : List Expr} {t : TA} {pos : Pos} (h : QA X es t) : QE X (.List es pos) (tLst t) := ⟨pe_lst h.h⟩
theorem qa_cq {e : Expr} {es : List Expr} {te : TE} {t : TA} (ha : QE X e te) (hr : QA X es t) (hp : noStar e = true := by rfl) : QA X (e :: es) (tCons te t) := ⟨pa_c ha.h hr.h hp⟩
theorem qs_set {i : Nat} {x : Str} {e : Expr} {te : TE} {p' pos : Pos} (hN : X.N.Nodup) (hi : X.N[i]? = some x) (hx : X.env.scope.names.lookup x = some .local) (he : QE X e te) (hs : plainE e = true := by rfl) : QS X (.Assign [.Name x p'] e pos) (tAsg te (gName i)) :=
  ⟨ps_asg he.h (pg_name hN hi (.inl hx) (.inr hx)) (plain_sole hs) (plain_stores hs) rfl⟩
theorem qs_ret {e : Expr} {te : TE} {pos : Pos} (he : QE X e te) : QS X (.Return (some e) pos) (tRet te) := ⟨ps_ret he.h⟩
theorem qss_nil : QSs X [] tNext := ⟨pss_nil⟩
theorem qss_one {st : Stmt} {a : TS} (h : QS X st a) : QSs X [st] a := ⟨pss_one h.h⟩
theorem qs_if {c : Expr} {a b : List Stmt} {tc : TT} {t u : TS} {pos : Pos} (hc : QT X c tc) (ha : QSs X a t) (hb : QSs X b u) : QS X (.If c a b pos) (tIfS tc t u) := ⟨ps_if hc.h ha.h hb.h⟩
end
end L2
namespace L2
open PySem PySem.Spec PyProof.Rows
section
variable {X : Cx}
theorem qs_for {tg iter : Expr} {body : List Stmt} {wi : TI} {g : TG} {tb : TS} {pos : Pos} (hp : PassesOwn (model X.prog X.w) X.A X.env X.xe) (hc : X.calm = true) (hi : PI X tg iter wi) (hg : PG X tg g) (hb : QSs X body tb)
    (hs : ∀ y, foldedSetIterable iter X.env y = pure y := by intro _; rfl) : QS X (.For tg iter body [] pos) (tFor wi g tb) := ⟨ps_for hp hc hi hg hb.h hs⟩
theorem pi_listQ {tg l : Expr} {tl : TE} (h : QE X l tl) : PI X tg l (iList X.K tl) := pi_list h.h
end
end L2

set_option Elab.async false
set_option linter.all false
set_option maxRecDepth 100000
/-! Texts: split, str, int; tuples compared. -/
namespace BB
open PySem PySem.Spec PyProof.Rows L2
theorem vals_strs : ∀ (tk : Nat) (xs : List Str), Vals (xs.map V.str) (strsFrom tk xs)
  | _, [] => .nil
  | tk, x :: r => .cons ⟨tk, rfl⟩ (vals_strs (tk + 1) r)
/-- x.split(y) -/
theorem mt_split {X : Cx} : MtR X "str.split" (fun x xs H Q => ∃ z y, x = .str z ∧ xs = [.str y] ∧ (y.length == 0) = false ∧ z.length < sizeLine ∧ (Builtin.Str.partsBetween z (Builtin.Str.occurrences z y 0 z.length (z.length + 1)) y.length).length ≤ sizeLine ∧
    ∀ p, H p = none → Q (.ref p) (upd H p (.lst ((Txt.split z y).map V.str)))) := by
  intro pins s σ H x xs v us Q I rx rs h
  obtain ⟨z, y, rfl, rfl, hy, hz, hn, q⟩ := h
  obtain ⟨t, rfl⟩ := rx
  obtain ⟨w, rfl, u, rfl⟩ := vals1 rs
  have q2 := q s.heap.objs.size (I.hok.fresh (Nat.le_refl _))
  have one : Txt.split z y = [z] → ∃ v H', L2.Inv X pins σ H' { s with heap := s.heap.push { cls := .type "list", data := .seq [Value.str z t].toArray } } ∧ RelV v (.ref s.heap.objs.size) ∧ Q v H' := fun e => by
    rw [e] at q2
    exact ⟨.ref s.heap.objs.size, _, I.laid (t' := s.toks) (o := .lst [.str z]) (fun b o e => Heap.get?_push_of_some _ e) (Nat.le_refl _) ⟨by show 1 ≤ sizeLine; decide, [.str z t], 0, .cons ⟨_, rfl⟩ .nil, Heap.get?_push_size s.heap rfl⟩, rfl, q2⟩
  cases h1 : (decide (z.length < y.length) || decide (Builtin.Str.strKind z < Builtin.Str.strKind y))
  · cases hf : (Builtin.Str.occurrences z y 0 z.length (z.length + 1)).isEmpty
    · refine call_meets F.slot_str_split (typeIs_str _ _ _) F.entry_str_split (F.args_str_split_2 _ _) (meets_str_split_sep z y t u h1 hy hf (Nat.le_of_lt hz) hn) ?_
      have e : Txt.split z y = Builtin.Str.partsBetween z (Builtin.Str.occurrences z y 0 z.length (z.length + 1)) y.length := (if_neg (ne_true_of_eq_false h1)).trans (if_neg (ne_true_of_eq_false hf))
      rw [e] at q2
      exact ⟨.ref s.heap.objs.size, _, I.laid (o := .lst ((Builtin.Str.partsBetween z (Builtin.Str.occurrences z y 0 z.length (z.length + 1)) y.length).map V.str)) (fun b o e => Heap.get?_push_of_some _ e) (Nat.le_refl _) ⟨by rw [List.length_map]; exact hn, _, 0, vals_strs _ _, Heap.get?_push_size s.heap rfl⟩, rfl, q2⟩
    · exact call_meets F.slot_str_split (typeIs_str _ _ _) F.entry_str_split (F.args_str_split_2 _ _) (meets_str_split_not_found z y t u h1 hy hf) (one ((if_neg (ne_true_of_eq_false h1)).trans (if_pos hf)))
  · exact call_meets F.slot_str_split (typeIs_str _ _ _) F.entry_str_split (F.args_str_split_2 _ _) (meets_str_split_cannot_occur z y t u h1) (one (if_pos h1))
/-- x.split() -/
theorem mt_split0 {X : Cx} : MtR X "str.split" (fun x xs H Q => ∃ z, x = .str z ∧ xs = [] ∧ z.length < sizeLine ∧ (Builtin.Str.spaceWords z (z.length + 1)).length ≤ sizeLine ∧ ∀ p, H p = none → Q (.ref p) (upd H p (.lst ((Txt.words z).map V.str)))) := by
  intro pins s σ H x xs v us Q I rx rs h
  obtain ⟨z, rfl, rfl, hz, hn, q⟩ := h
  obtain ⟨t, rfl⟩ := rx
  cases rs
  have q2 := q s.heap.objs.size (I.hok.fresh (Nat.le_refl _))
  refine call_meets F.slot_str_split (typeIs_str _ _ _) F.entry_str_split (F.args_str_split_1 _) (meets_str_split_space z t (Nat.le_of_lt hz) hn) ?_
  cases hw : Builtin.Str.spaceWords z (z.length + 1) == [(0, z.length)]
  · simp only [Bool.false_eq_true, if_false]
    have e : Txt.words z = wordsOf z := if_neg (ne_true_of_eq_false hw)
    rw [e] at q2
    refine ⟨.ref s.heap.objs.size, _, I.laid (o := .lst ((wordsOf z).map V.str)) (fun b o e => Heap.get?_push_of_some _ e) (Nat.le_refl _) ⟨?_, _, 0, vals_strs _ _, Heap.get?_push_size s.heap rfl⟩, rfl, q2⟩
    rw [List.length_map]; unfold wordsOf; rw [List.length_map]; exact hn
  · simp only [if_true]
    have e : Txt.words z = [z] := if_pos hw
    rw [e] at q2
    exact ⟨.ref s.heap.objs.size, _, I.laid (t' := s.toks) (o := .lst [.str z]) (fun b o e => Heap.get?_push_of_some _ e) (Nat.le_refl _) ⟨by show 1 ≤ sizeLine; decide, [.str z t], 0, .cons ⟨_, rfl⟩ .nil, Heap.get?_push_size s.heap rfl⟩, rfl, q2⟩
/-- int(text) -/
theorem call_intT {X : Cx} : CallR X (.type "int") (fun xs H Q => ∃ z n, xs = [.str z] ∧ PySem.intText? z = some n ∧ z.length ≤ 640 ∧ Q (.int n) H) := by
  intro pins s σ H xs us Q I r h
  obtain ⟨z, n, rfl, hn, hl, q⟩ := h
  obtain ⟨u, rfl, t, rfl⟩ := vals1 r
  exact PySem.W.KIN.call_text hn hl ⟨.int n, H, I.tok _, ⟨_, rfl⟩, q⟩
end BB

set_option Elab.async false
set_option linter.all false
set_option maxRecDepth 100000
/-! Words and figures, without the program. -/
namespace PP
open PySem L2 BB
/-! ### a text split at a sign -/
def splitL (c : Nat) : List Nat → List (List Nat)
  | [] => [[]]
  | d :: l => if d = c then [] :: splitL c l else match splitL c l with
    | h :: t => (d :: h) :: t
    | [] => [[d]]
theorem splitL_ne (c : Nat) : ∀ l : List Nat, ∃ h t, splitL c l = h :: t
  | [] => ⟨_, _, rfl⟩
  | d :: l => by
    unfold splitL
    by_cases e : d = c
    · rw [if_pos e]; exact ⟨_, _, rfl⟩
    · rw [if_neg e]
      obtain ⟨h, t, q⟩ := splitL_ne c l
      rw [q]; exact ⟨_, _, rfl⟩
def headOn (g : List Nat) : List (List Nat) → List (List Nat)
  | h :: t => (g ++ h) :: t
  | [] => []
theorem sub_list (x : Str) (i j : Nat) : (Builtin.Str.strSub x i j).cps.toList = (x.cps.toList.take j).drop i := by
  unfold Builtin.Str.strSub
  rw [Array.toList_extract]
  show List.extract _ _ _ = _
  unfold List.extract
  rw [List.drop_take]
theorem parts_list (x : Str) (c : Nat) : ∀ (l pre : List Nat) (b : Nat), x.cps.toList = pre ++ l → b ≤ pre.length →
    (StrLaws.partsFrom x 1 b ((places c l).map (· + pre.length))).map (fun s => s.cps.toList) = headOn (pre.drop b) (splitL c l)
  | [], pre, b, hx, hb => by
    have e : pre = x.cps.toList := by rw [hx, List.append_nil]
    show [(Builtin.Str.strSub x b x.length).cps.toList] = [pre.drop b ++ []]
    rw [sub_list, List.append_nil, e, List.take_of_length_le (by simp [Str.length])]
  | d :: l, pre, b, hx, hb => by
    have hx' : x.cps.toList = (pre ++ [d]) ++ l := by rw [hx, List.append_assoc]; rfl
    have len' : (pre ++ [d]).length = pre.length + 1 := by simp
    unfold places splitL
    by_cases e : d = c
    · rw [if_pos e, if_pos e, List.map_cons, List.map_map]
      have ef : ((fun x => x + pre.length) ∘ fun x => x + 1) = fun x => x + (pre ++ [d]).length := by funext z; show z + 1 + pre.length = _; rw [len']; omega
      rw [ef, Nat.zero_add]
      show (Builtin.Str.strSub x b pre.length).cps.toList :: (StrLaws.partsFrom x 1 (pre.length + 1) _).map _ = (pre.drop b ++ []) :: splitL c l
      have ih := parts_list x c l (pre ++ [d]) (pre.length + 1) hx' (by rw [len']; exact Nat.le_refl _)
      rw [ih, sub_list, List.append_nil, hx, List.take_append_of_le_length (Nat.le_refl _), List.take_length, List.drop_of_length_le (l := pre ++ [d]) (by rw [len']; exact Nat.le_refl _)]
      obtain ⟨h, t, q⟩ := splitL_ne c l
      rw [q]; rfl
    · rw [if_neg e, if_neg e, List.map_map]
      have ef : ((fun x => x + pre.length) ∘ fun x => x + 1) = fun x => x + (pre ++ [d]).length := by funext z; show z + 1 + pre.length = _; rw [len']; omega
      rw [ef, parts_list x c l (pre ++ [d]) b hx' (by rw [len']; omega)]
      obtain ⟨h, t, q⟩ := splitL_ne c l
      rw [q]
      show ((pre ++ [d]).drop b ++ h) :: t = (pre.drop b ++ (d :: h)) :: t
      rw [List.drop_append_of_le_length hb, List.append_assoc]; rfl
theorem splitL_no {c : Nat} : ∀ {l : List Nat}, c ∉ l → splitL c l = [l]
  | [], _ => rfl
  | d :: l, h => by
    unfold splitL
    have ne : ¬ d = c := fun e => h (e ▸ List.mem_cons_self ..)
    rw [if_neg ne, splitL_no (l := l) (fun z => h (List.mem_cons_of_mem _ z))]
theorem blank1 : (" " : Str) = ⟨#[32]⟩ := by decide +kernel
theorem split_list (x : Str) : (Txt.split x " ").map (fun s => s.cps.toList) = splitL 32 x.cps.toList := by
  unfold Txt.split
  have ho : Builtin.Str.occurrences x " " 0 x.length (x.length + 1) = places 32 x.cps.toList := by
    rw [blank1, occ_places, List.take_of_length_le]
    rw [← places_filter]
    refine Nat.le_trans (List.length_filter_le _ _) ?_
    simp [Str.length]
  split
  · rename_i h
    rw [Bool.or_eq_true, decide_eq_true_iff, decide_eq_true_iff] at h
    have k1 : Builtin.Str.strKind (" " : Str) = 1 := by decide +kernel
    have l1 : (" " : Str).length = 1 := by decide +kernel
    have hx : x.cps.toList = [] := by
      rcases h with h | h
      · apply List.length_eq_zero_iff.mp
        have : x.cps.toList.length = x.length := by simp [Str.length]
        omega
      · rw [k1] at h
        exfalso
        unfold Builtin.Str.strKind at h
        split at h
        · omega
        · split at h <;> omega
    show [x.cps.toList] = _
    rw [hx]; rfl
  · split
    · rename_i h
      rw [ho, List.isEmpty_iff] at h
      show [x.cps.toList] = _
      rw [splitL_no (places_nil.mp h)]
    · rw [ho, StrLaws.partsBetween_eq, show (" " : Str).length = 1 by decide +kernel]
      have := parts_list x 32 x.cps.toList [] 0 rfl (Nat.le_refl _)
      rw [show (places 32 x.cps.toList).map (· + ([] : List Nat).length) = places 32 x.cps.toList by simp] at this
      rw [this]
      obtain ⟨h, t, q⟩ := splitL_ne 32 x.cps.toList
      rw [q]; rfl
/-- the texts, a sign between -/
def joinL (c : Nat) : List (List Nat) → List Nat
  | [] => []
  | [x] => x
  | x :: y :: r => x ++ c :: joinL c (y :: r)
theorem splitL_cat {c : Nat} : ∀ {a b : List Nat}, c ∉ a → splitL c (a ++ c :: b) = a :: splitL c b
  | [], b, _ => by show splitL c (c :: b) = _; rw [splitL, if_pos rfl]
  | d :: a, b, h => by
    show splitL c (d :: (a ++ c :: b)) = _
    have ne : ¬ d = c := fun e => h (e ▸ List.mem_cons_self ..)
    rw [splitL, if_neg ne, splitL_cat (a := a) (fun z => h (List.mem_cons_of_mem _ z))]
theorem splitL_join {c : Nat} : ∀ {ws : List (List Nat)}, ws ≠ [] → (∀ w ∈ ws, c ∉ w) → splitL c (joinL c ws) = ws
  | [], h, _ => absurd rfl h
  | [x], _, h => splitL_no (h x (by simp))
  | x :: y :: r, _, h => by
    show splitL c (x ++ c :: joinL c (y :: r)) = _
    rw [splitL_cat (h x (by simp)), splitL_join (ws := y :: r) (by simp) (fun w hw => h w (List.mem_cons_of_mem _ hw))]
theorem join_list : ∀ ws : List Str, (Str.join " " ws).cps.toList = joinL 32 (ws.map fun s => s.cps.toList)
  | [] => by show Str.empty.cps.toList = []; decide +kernel
  | [x] => rfl
  | x :: y :: r => by
    have cc : ∀ a b : Str, (a ++ b).cps.toList = a.cps.toList ++ b.cps.toList := fun a b => by
      show (a.cps ++ b.cps).toList = _
      simp
    show (x ++ (" " : Str) ++ Str.join " " (y :: r)).cps.toList = x.cps.toList ++ 32 :: joinL 32 ((y :: r).map fun s => s.cps.toList)
    rw [cc, cc, join_list (y :: r), show (" " : Str).cps.toList = [32] by decide +kernel, List.append_assoc]; rfl
theorem map_cps {a b : List Str} (h : a.map (fun s => s.cps.toList) = b.map (fun s => s.cps.toList)) : a = b := by
  induction a generalizing b with
  | nil => cases b with
    | nil => rfl
    | cons y r => cases h
  | cons x r ih => cases b with
    | nil => cases h
    | cons y s =>
      simp only [List.map_cons, List.cons.injEq] at h
      rw [str_ext h.1, ih h.2]
theorem split_join {ws : List Str} (hne : ws ≠ []) (hno : ∀ w ∈ ws, 32 ∉ w.cps.toList) : Txt.split (Str.join " " ws) " " = ws := by
  apply map_cps
  rw [split_list, join_list, splitL_join (by simpa using hne)]
  intro w hw
  obtain ⟨s, hs, rfl⟩ := List.mem_map.mp hw
  exact hno s hs
/-! ### words -/
theorem scan_plain : ∀ (l : List Nat) (a : Str), (∀ c ∈ l, Unicode.isSpace c = false) → KWd.scan a = ([], a) → KWd.scan (a ++ ⟨l.toArray⟩) = ([], a ++ ⟨l.toArray⟩)
  | [], a, _, h => by
    have : a ++ (⟨([] : List Nat).toArray⟩ : Str) = a := by
      apply str_ext
      show (a.cps ++ #[]).toList = _
      simp
    rw [this]; exact h
  | c :: l, a, hl, h => by
    have e : a ++ (⟨(c :: l).toArray⟩ : Str) = (a ++ ⟨#[c]⟩) ++ ⟨l.toArray⟩ := by
      apply str_ext
      show (a.cps ++ (c :: l).toArray).toList = ((a.cps ++ #[c]) ++ l.toArray).toList
      simp
    rw [e]
    exact scan_plain l _ (fun d hd => hl d (List.mem_cons_of_mem _ hd)) (KWd.scan_sign h (hl c (List.mem_cons_self ..)))
theorem words_one {x : Str} (h0 : 0 < x.length) (h : ∀ c ∈ x.cps.toList, Unicode.isSpace c = false) : Txt.words x = [x] := by
  have e : Str.empty ++ (⟨x.cps.toList.toArray⟩ : Str) = x := by
    apply str_ext
    show (Str.empty.cps ++ x.cps.toList.toArray).toList = _
    simp [Str.empty]
  have s := scan_plain x.cps.toList Str.empty h KWd.scan_empty
  rw [e] at s
  rw [KWd.words_of s, if_neg (by omega)]; rfl
/-! ### figures -/
theorem toDigits_le : ∀ (k m : Nat), 0 < k → m < 10 ^ k → (Nat.toDigits 10 m).length ≤ k
  | 0, _, h, _ => absurd h (by decide)
  | k + 1, m, _, hm => by
    by_cases h : m < 10
    · rw [Nat.toDigits_of_lt_base h]; simp
    · have h2 : m % 10 < 10 := Nat.mod_lt m (by decide)
      have t : Nat.toDigits 10 (m / 10) ++ Nat.toDigits 10 (m % 10) = Nat.toDigits 10 (10 * (m / 10) + m % 10) := Nat.toDigits_append_toDigits (by decide) (by omega) h2
      rw [Nat.div_add_mod] at t
      rw [← t, List.length_append, Nat.toDigits_of_lt_base h2]
      have k0 : 0 < k := by
        cases k with
        | zero => simp at hm; omega
        | succ k => omega
      have := toDigits_le k (m / 10) k0 (by rw [Nat.pow_succ] at hm; omega)
      simp; omega
theorem toDigits_head (m : Nat) (hm : 0 < m) : ∃ d r, Nat.toDigits 10 m = Nat.digitChar d :: r ∧ 0 < d ∧ d < 10 := by
  induction m using Nat.strongRecOn with
  | _ m ih =>
    by_cases h : m < 10
    · rw [Nat.toDigits_of_lt_base h]; exact ⟨m, [], rfl, hm, h⟩
    · have h2 : m % 10 < 10 := Nat.mod_lt m (by decide)
      have t : Nat.toDigits 10 (m / 10) ++ Nat.toDigits 10 (m % 10) = Nat.toDigits 10 (10 * (m / 10) + m % 10) := Nat.toDigits_append_toDigits (by decide) (by omega) h2
      rw [Nat.div_add_mod] at t
      obtain ⟨d, r, e, d0, d1⟩ := ih (m / 10) (by omega) (by omega)
      rw [← t, e]
      exact ⟨d, _, rfl, d0, d1⟩
abbrev numS (n : Int) : Str := Str.ofString (toString n)
structure NumT (n : Int) (t : Str) : Prop where
  pos : 0 < t.length
  len : t.length ≤ 20
  dig : ∀ c ∈ t.cps.toList, 48 ≤ c ∧ c ≤ 57
  led : t = "0" ∨ ∃ c r, t.cps.toList = c :: r ∧ c ≠ 48
  val : PySem.intText? t = some n
open PySem.W PySem.W.KIN PySem.NumText PyProof.Rows in
theorem num_text {n : Int} (h0 : 0 ≤ n) (h1 : n < 10 ^ 20) : NumT n (numS n) := by
  obtain ⟨m, rfl⟩ := Int.eq_ofNat_of_zero_le h0
  have hm : m < 10 ^ 20 := by exact_mod_cast h1
  have hs := signs_num m
  have hl : (numS (m : Int)).length = (Nat.toDigits 10 m).length := by
    have : (numS (m : Int)).length = (numS (m : Int)).cps.toList.length := by simp [Str.length]
    rw [this, hs, List.length_map]
  have hd : AllDigits (numS (m : Int)).cps.toList := by
    intro c hc
    rw [hs] at hc
    obtain ⟨ch, hch, e⟩ := List.mem_map.mp hc
    have r := digit_range (Nat.isDigit_of_mem_toDigits (by decide) (by decide) hch)
    rw [← e]
    exact r
  have hp : 0 < (numS (m : Int)).length := by rw [hl]; exact toDigits_len_ge 10 m
  have hle : (numS (m : Int)).length ≤ 20 := by rw [hl]; exact toDigits_le 20 m (by decide) hm
  have hne : (numS (m : Int)).cps.toList ≠ [] := fun e => by
    have : (numS (m : Int)).cps.toList.length = (numS (m : Int)).length := by simp [Str.length]
    rw [e] at this; simp at this; omega
  have ev := intText_digits hd hne (Nat.le_trans hle (by decide))
  rw [hs, val_back] at ev
  refine ⟨hp, hle, hd, ?_, ev⟩
  by_cases z : m = 0
  · left; subst z; decide +kernel
  · right
    obtain ⟨d, r, e, d0, d1⟩ := toDigits_head m (by omega)
    refine ⟨_, _, by rw [hs, e]; rfl, ?_⟩
    have : ∀ d < 10, 0 < d → (Nat.digitChar d).toNat ≠ 48 := by decide
    exact this d d1 d0
end PP

set_option Elab.async false
set_option linter.all false
set_option maxRecDepth 100000
namespace BB
open PySem PySem.Spec PyProof.Rows L2 PP
/-- str(x) -/
theorem call_strA {X : Cx} : CallR X (.type "str") (fun xs H Q => (∃ i, xs = [.int i] ∧ i.natAbs.log2 < 1920 ∧ Q (.str (numS i)) H) ∨ (∃ z, xs = [.str z] ∧ Q (.str z) H) ∨ (xs = [.non] ∧ Q (.str "None") H)) := by
  intro pins s σ H xs us Q I r h
  rcases h with ⟨i, rfl, hl, q⟩ | ⟨z, rfl, q⟩ | ⟨rfl, q⟩
  · exact call_str_int pins s σ H _ us Q I r ⟨i, rfl, hl, q⟩
  · obtain ⟨u, rfl, t, rfl⟩ := vals1 r
    exact PySem.P.str_of_str ⟨.str z, H, I, ⟨_, rfl⟩, q⟩
  · obtain ⟨u, rfl, ru⟩ := vals1 r
    cases ru
    exact PySem.P.str_of_none ⟨.str "None", H, I.tok _, ⟨_, rfl⟩, q⟩
/-- int(x) -/
theorem call_intA {X : Cx} : CallR X (.type "int") (fun xs H Q => ((∃ i, xs = [.int i] ∧ Q (.int i) H) ∨ ∃ k, xs = [.bl k] ∧ Q (.int (if k then 1 else 0)) H) ∨ (∃ z n, xs = [.str z] ∧ PySem.intText? z = some n ∧ z.length ≤ 640 ∧ Q (.int n) H)) := by
  intro pins s σ H xs us Q I r h
  rcases h with h | h
  · exact call_int1 pins s σ H xs us Q I r h
  · exact call_intT pins s σ H xs us Q I r h
end BB
namespace PP
open PySem L2 BB
theorem joinS_eq (sep : Str) (ts : List Str) : joinS sep ts = Str.join sep ts := by
  match ts with
  | [] => exact StrLaws.glued_eq_join sep []
  | [p] => rfl
  | p :: q :: r => exact StrLaws.glued_eq_join sep (p :: q :: r)
theorem fold_le (k : Nat) : ∀ (l : List Str) (a : Nat), (∀ s ∈ l, s.length ≤ 200) → l.foldl (fun a s => a + s.length + k) a ≤ a + l.length * (200 + k)
  | [], a, _ => by simp
  | x :: l, a, h => by
    rw [List.foldl_cons]
    have h1 := h x (List.mem_cons_self ..)
    have h2 := fold_le k l (a + x.length + k) (fun s hs => h s (List.mem_cons_of_mem _ hs))
    rw [List.length_cons, Nat.succ_mul]
    omega
theorem join_len (sep : Str) (h1 : sep.length ≤ 1) : ∀ (l : List Str), (∀ s ∈ l, s.length ≤ 200) → (Str.join sep l).length ≤ l.length * 201
  | [], _ => by show Str.empty.length ≤ _; exact Nat.zero_le _
  | [x], h => by
    have := h x (by simp)
    show x.length ≤ 1 * 201
    omega
  | x :: y :: r, h => by
    have a := h x (by simp)
    have b := join_len sep h1 (y :: r) (fun s hs => h s (List.mem_cons_of_mem _ hs))
    show (x ++ sep ++ Str.join sep (y :: r)).length ≤ _
    have cl : ∀ a b : Str, (a ++ b).length = a.length + b.length := fun a b => by
      show (a.cps ++ b.cps).size = _
      rw [Array.size_append]; rfl
    rw [cl, cl, List.length_cons, Nat.succ_mul]
    omega
/-- what join asks of short texts -/
theorem join_ok (sep : Str) (h1 : sep.length ≤ 1) {ts : List Str} (hl : ts.length ≤ 400) (h : ∀ s ∈ ts, s.length ≤ 200) : Builtin.Str.tooLong (ts.toArray.foldl (· + ·.length + sep.length) 0) = false ∧ (joinS sep ts).length ≤ sizeLine ∧ (Str.join sep ts).length < sizeLine := by
  have big : (1000000 : Nat) < sizeLine := by decide
  have a := fold_le sep.length ts 0 h
  have b := join_len sep h1 ts h
  have c1 : ts.length * (200 + sep.length) ≤ 400 * 201 := Nat.mul_le_mul hl (by omega)
  have c2 : ts.length * 201 ≤ 400 * 201 := Nat.mul_le_mul_right _ hl
  refine ⟨?_, by rw [joinS_eq]; omega, by omega⟩
  unfold Builtin.Str.tooLong
  refine decide_eq_false ?_
  rw [List.foldl_toArray]
  omega
/-- a part of a row: a text or a whole number -/
def partS : V → Str
  | .str z => z
  | .int i => numS i
  | .non => "None"
  | _ => ""
def Part (v : V) : Prop := (∃ z, v = .str z ∧ z.length ≤ 200) ∨ ∃ i : Int, v = .int i ∧ 0 ≤ i ∧ i < 10 ^ 20
theorem Part.len {v : V} (h : Part v) : (partS v).length ≤ 200 := by
  rcases h with ⟨z, rfl, l⟩ | ⟨i, rfl, a, b⟩
  · exact l
  · exact Nat.le_trans (num_text a b).len (by decide)
def deedS (v : V) : Str := if v = .non then "-" else partS v
theorem log_small {i : Int} (h0 : 0 ≤ i) (h1 : i < 10 ^ 20) : i.natAbs.log2 < 1920 := by
  have : i.natAbs < 2 ^ 67 := by omega
  have := Nat.log2_lt (n := i.natAbs) (k := 67)
  by_cases z : i.natAbs = 0
  · rw [z]; decide
  · have := (Nat.log2_lt z).mpr (show i.natAbs < 2 ^ 67 by omega)
    omega
/-- a text of no figures alone -/
def Plain (t : Str) : Prop := ∃ c ∈ t.cps.toList, c < 48 ∨ 57 < c
/-- how a word is read -/
def WV (t : Str) (v : V) : Prop := (∃ n, NumT n t ∧ v = .int n) ∨ (Plain t ∧ t.length ≤ 200 ∧ v = .str t)
abbrev FG : Str := "0123456789"
structure TF (mg : Str → Option Value) : Prop where
  FIGURES : ∃ u, mg "FIGURES" = some u ∧ RelV (.str FG) u
  MOST_FIGURES : ∃ u, mg "MOST_FIGURES" = some u ∧ RelV (.int 20) u
theorem made_num {n : Int} {t : Str} (h : NumT n t) : madeF t FG 20 = true := by
  have : madeF t FG ((20 : Nat) : Int) = true := by
    rw [made_list]
    have l : t.cps.toList.length = t.length := by simp [Str.length]
    refine madeL_true (by have := h.pos; omega) (by have := h.len; omega) (fun c hc => ?_)
    obtain ⟨a, b⟩ := h.dig c hc
    have : ∀ c < 58, 48 ≤ c → c ∈ FG.cps.toList := by decide +kernel
    exact this c (by omega) a
  exact this
theorem made_plain {t : Str} (h : Plain t) : madeF t FG 20 = false := by
  have : madeF t FG ((20 : Nat) : Int) = false := by
    rw [made_list]
    obtain ⟨c, hc, hd⟩ := h
    refine madeL_bad hc (fun z => ?_)
    have : ∀ c ∈ FG.cps.toList, 48 ≤ c ∧ c ≤ 57 := by decide +kernel
    have := this c z
    omega
  exact this
theorem parts_len {z : Str} (h : z.length < sizeLine) : (Builtin.Str.partsBetween z (Builtin.Str.occurrences z " " 0 z.length (z.length + 1)) (" " : Str).length).length ≤ sizeLine := by
  rw [StrLaws.partsBetween_eq]
  have pl : ∀ (cuts : List Nat) (a : Nat), (StrLaws.partsFrom z (" " : Str).length a cuts).length = cuts.length + 1 := by
    intro cuts
    induction cuts with
    | nil => intro a; rfl
    | cons c r ih => intro a; show (_ :: StrLaws.partsFrom z _ _ r).length = _; rw [List.length_cons, ih, List.length_cons]
  rw [pl, blank1, occ_places]
  have : ((places 32 z.cps.toList).take (z.length + 1)).length ≤ z.length := by
    rw [List.length_take]
    have : (places 32 z.cps.toList).length ≤ z.length := by
      rw [← places_filter]
      refine Nat.le_trans (List.length_filter_le _ _) ?_
      simp [Str.length]
    omega
  omega
end PP
namespace BB
open PySem PySem.Spec PyProof.Rows L2 PP
/-- two tuples of flat values -/
def tupEq (xs ys : List V) : Bool := (List.range (min xs.length ys.length)).all (fun j => eqV (xs.getD j .non) (ys.getD j .non)) && xs.length == ys.length
theorem tup_items {X : Cx} {pins : List (Addr × Obj)} {σ : L2.St} {H : Hp} {s : Shared} {xs ys : List V} {its its2 : List Value} (r : Vals xs its) (r2 : Vals ys its2) (fx : ∀ v ∈ xs, flatV v = true) (fy : ∀ v ∈ ys, flatV v = true) (j : Nat) (h1 : j < its.toArray.size) (h2 : j < its2.toArray.size) :
    SeqAt.EqAt X.A.in1 s its.toArray[j] its2.toArray[j] (eqV (xs.getD j .non) (ys.getD j .non)) := by
  have j1 : j < its.length := by simpa using h1
  have j2 : j < its2.length := by simpa using h2
  have k1 : j < xs.length := by rw [r.length]; exact j1
  have k2 : j < ys.length := by rw [r2.length]; exact j2
  obtain ⟨u1, e1, r1⟩ := r.get (i := j) (x := xs[j]) (by simp [k1])
  obtain ⟨u2, e2, r3⟩ := r2.get (i := j) (x := ys[j]) (by simp [k2])
  have z1 : its.toArray[j] = u1 := by simpa [j1] using e1
  have z2 : its2.toArray[j] = u2 := by simpa [j2] using e2
  rw [z1, z2]
  have w1 : xs.getD j .non = xs[j] := by simp [k1]
  have w2 : ys.getD j .non = ys[j] := by simp [k2]
  rw [w1, w2]
  exact eqAt_V r1 r3 (fx _ (List.getElem_mem k1)) (fy _ (List.getElem_mem k2))
theorem op_eqT {X : Cx} (hu : X.A.units < cLine) : OpR X (compareOp .Eq) (fun x y H Q => ∃ a b xs ys, x = .ref a ∧ y = .ref b ∧ SqT X.K H a xs ∧ SqT X.K H b ys ∧ (∀ v ∈ xs, flatV v = true) ∧ (∀ v ∈ ys, flatV v = true) ∧ Q (.bl (tupEq xs ys)) H) := by
  intro pins s σ H x y v u Q I rx ry h
  obtain ⟨a, b, xs, ys, rfl, rfl, ha, hb, fx, fy, q⟩ := h
  cases rx; cases ry
  obtain ⟨its, r, pl, _⟩ := I.tuple ha
  obtain ⟨its2, r2, pl2, _⟩ := I.tuple hb
  refine SeqAt.eq_tupleAt (e := fun j => eqV (xs.getD j .non) (ys.getD j .non)) (show s.heap.IsTuple a its.toArray from pl) (show s.heap.IsTuple b its2.toArray from pl2) hu (fun j h1 h2 => tup_items (X := X) (pins := pins) (σ := σ) (H := H) r r2 fx fy j h1 h2) ⟨.bl _, H, I, rfl, ?_⟩
  rw [List.size_toArray, List.size_toArray, ← r.length, ← r2.length]
  exact q
theorem op_neT {X : Cx} (hu : X.A.units < cLine) : OpR X (compareOp .NotEq) (fun x y H Q => ∃ a b xs ys, x = .ref a ∧ y = .ref b ∧ SqT X.K H a xs ∧ SqT X.K H b ys ∧ (∀ v ∈ xs, flatV v = true) ∧ (∀ v ∈ ys, flatV v = true) ∧ Q (.bl (!tupEq xs ys)) H) := by
  intro pins s σ H x y v u Q I rx ry h
  obtain ⟨a, b, xs, ys, rfl, rfl, ha, hb, fx, fy, q⟩ := h
  cases rx; cases ry
  obtain ⟨its, r, pl, _⟩ := I.tuple ha
  obtain ⟨its2, r2, pl2, _⟩ := I.tuple hb
  refine SeqAt.RcNeAt.tuples (e := fun j => eqV (xs.getD j .non) (ys.getD j .non)) (show s.heap.IsTuple a its.toArray from pl) (show s.heap.IsTuple b its2.toArray from pl2) hu (fun j h1 h2 => tup_items (X := X) (pins := pins) (σ := σ) (H := H) r r2 fx fy j h1 h2) _ _ _ _ ⟨.bl _, H, I, rfl, ?_⟩
  rw [List.size_toArray, List.size_toArray, ← r.length, ← r2.length]
  exact q
theorem tupEq_self {xs : List V} (h : ∀ v ∈ xs, flatV v = true) : tupEq xs xs = true := by
  unfold tupEq
  rw [Bool.and_eq_true]
  refine ⟨?_, by simp⟩
  rw [List.all_eq_true]
  intro j hj
  have lt : j < xs.length := by have := List.mem_range.mp hj; omega
  have f := h xs[j] (List.getElem_mem lt)
  have e : xs.getD j .non = xs[j] := by rw [List.getD_eq_getElem?_getD, List.getElem?_eq_getElem lt]; rfl
  rw [e]
  revert f
  cases xs[j] <;> intro f <;> first | (exact absurd (show false = true from f) Bool.false_ne_true) | (unfold eqV; simp)
def partsD : List (Key × V) := [(Sum.inr "ask", .int 2), (Sum.inr "back", .int 2), (Sum.inr "let", .int 2), (Sum.inr "refuse", .int 2), (Sum.inr "bar", .int 2), (Sum.inr "unbar", .int 2), (Sum.inr "leave", .int 2), (Sum.inr "carry", .int 1), (Sum.inr "lose", .int 1), (Sum.inr "double", .int 1), (Sum.inr "fall", .int 1), (Sum.inr "up", .int 1), (Sum.inr "slip", .int 1), (Sum.inr "mend", .int 2)]
structure TD (P : Program) (w : World) (K : PySem.W.Frag) (mg : Str → Option Value) (aD : Addr) : Prop where
  PARTS : ∃ u, mg "PARTS" = some u ∧ RelV (.ref aD) u
  d_PARTS : KDict P w K aD partsD
end BB

set_option Elab.async false
set_option linter.all false
set_option maxRecDepth 100000
namespace BB
open PySem PySem.Spec PyProof.Rows L2 PP
/-- two lists that hold the same -/
theorem eqAt_lists {A : Around} {s : Shared} {l b : Addr} {items items2 : Array Value} (hl : s.heap.IsList l items) (hb : s.heap.IsList b items2) (hsz : items.size = items2.size) (hu : A.units < cLine)
    (he : ∀ j (h1 : j < items.size) (h2 : j < items2.size), SeqAt.EqAt A.in1 s items[j] items2[j] true) : SeqAt.EqAt A s (.ref l) (.ref b) true := fun prog w E Q h => by
  have rc := SeqAt.RcAt.lists (e := fun _ => true) hl hb hsz hu he
  unfold eqBool
  refine wpAny_holding ?_
  refine wpAny_ite_split (fun hab => ?_) (fun _ => ?_)
  · exact wpAny_bind (wpAny_rule (wpAny_pure h))
  · have al : (List.range items.size).all (fun _ => true) = true := List.all_eq_true.mpr (fun _ _ => rfl)
    rw [al] at rc
    exact wpAny_bind (rc prog w E _ (wpAny_truthy_bool h))
/-- == of two lists of lists that hold the same flat values -/
theorem op_eqLL {X : Cx} (hu : X.A.units + 1 < cLine) : OpR X (compareOp .Eq) (fun x y H Q => ∃ (a b : Addr) (ps qs : List Addr), x = .ref a ∧ y = .ref b ∧ SqL X.K H a (ps.map V.ref) ∧ SqL X.K H b (qs.map V.ref) ∧ ps.length = qs.length ∧ (∀ (j : Nat) p q, ps[j]? = some p → qs[j]? = some q → ∃ xs, SqL X.K H p xs ∧ SqL X.K H q xs ∧ ∀ v ∈ xs, flatV v = true) ∧ Q (.bl true) H) := by
  intro pins s σ H x y v u Q I rx ry h
  obtain ⟨a, b, ps, qs, rfl, rfl, ha, hb, hl, hin, q⟩ := h
  cases rx; cases ry
  obtain ⟨its, r, pl, _⟩ := I.list ha
  obtain ⟨its2, r2, pl2, _⟩ := I.list hb
  have l1 : its.length = ps.length := by rw [← r.length, List.length_map]
  have l2 : its2.length = qs.length := by rw [← r2.length, List.length_map]
  refine SeqAt.eq_listAt (e := fun _ => true) pl.isList pl2.isList (by simp [l1, l2, hl]) (by omega) (fun j h1 h2 => ?_) ⟨.bl true, H, I, ?_, q⟩
  · have j1 : j < its.length := by simpa using h1
    have j2 : j < its2.length := by simpa using h2
    obtain ⟨u1, e1, r1⟩ := r.get (i := j) (x := .ref ps[j]) (by rw [List.getElem?_map, List.getElem?_eq_getElem (by omega)]; rfl)
    obtain ⟨u2, e2, r3⟩ := r2.get (i := j) (x := .ref qs[j]) (by rw [List.getElem?_map, List.getElem?_eq_getElem (by omega)]; rfl)
    have z1 : its.toArray[j] = u1 := by simpa [j1] using e1
    have z2 : its2.toArray[j] = u2 := by simpa [j2] using e2
    rw [z1, z2]
    cases r1; cases r3
    obtain ⟨xs, hp, hq, fl⟩ := hin j ps[j] qs[j] (List.getElem?_eq_getElem (by omega)) (List.getElem?_eq_getElem (by omega))
    obtain ⟨jts, t, tl, _⟩ := I.list hp
    obtain ⟨jts2, t2, tl2, _⟩ := I.list hq
    refine eqAt_lists tl.isList tl2.isList (by simp [← t.length, ← t2.length]) hu (fun k g1 g2 => ?_)
    have k1 : k < jts.length := by simpa using g1
    have k2 : k < jts2.length := by simpa using g2
    have k0 : k < xs.length := by rw [t.length]; exact k1
    obtain ⟨v1, f1, w1⟩ := t.get (i := k) (x := xs[k]) (by simp [k0])
    obtain ⟨v2, f2, w2⟩ := t2.get (i := k) (x := xs[k]) (by simp [k0])
    have y1 : jts.toArray[k] = v1 := by simpa [k1] using f1
    have y2 : jts2.toArray[k] = v2 := by simpa [k2] using f2
    rw [y1, y2]
    have fk := fl _ (List.getElem_mem k0)
    have ev : eqV xs[k] xs[k] = true := by
      revert fk
      cases xs[k] <;> intro f <;> first | (exact absurd (show false = true from f) Bool.false_ne_true) | (unfold eqV; simp)
    rw [← ev]
    exact eqAt_V w1 w2 fk fk
  · have al : (List.range its.toArray.size).all (fun _ => true) = true := List.all_eq_true.mpr (fun _ _ => rfl)
    rw [al]; rfl
end BB

set_option Elab.async false
set_option linter.all false
set_option maxRecDepth 100000
/-! A name set to a list comprehension on its own line: stored before the comprehension's frame is let go. -/
namespace BB
open PySem PySem.Spec PyProof.Rows L2
theorem inv_but {X : Cx} {pins : List (Addr × Obj)} {σ : L2.St} {H : Hp} {s : Shared} {h : Heap} {C : Addr} (I : L2.Inv X pins σ H s) (hs : Heap.SameBut C s.heap h) (h0 : X.s₀.heap.objs.size ≤ C) (hf : H C = none) (hl : X.env.locals ≠ C)
    (hc : ∀ x c, X.env.cells.lookup x = some c → c ≠ C) (hp : ∀ p ∈ X.pn ++ pins, p.1 ≠ C) : L2.Inv X pins σ H { s with heap := h } where
  ok := I.ok
  os := I.os
  bare := I.bare
  base := un_but I.base hs h0
  loc := by
    obtain ⟨m, hn, k⟩ := I.loc
    refine ⟨m, hn.sameBut hs hl, fun i x v e1 e2 e3 => ?_⟩
    obtain ⟨u, r, l⟩ := k i x v e1 e2 e3
    refine ⟨u, r, ?_⟩
    rcases l with l | ⟨kk, c, e, z⟩
    · exact .inl l
    · obtain ⟨oz, hz, hd⟩ := z
      exact .inr ⟨kk, c, e, oz, hs.extBut _ _ (hc x c e) hz, hd⟩
  cell := fun x c e => by
    obtain ⟨v, oz, hz, hd⟩ := I.cell x c e
    exact ⟨v, oz, hs.extBut _ _ (hc x c e) hz, hd⟩
  free := I.free
  freeC := I.freeC
  pin := fun p hp' => by
    obtain ⟨e, n, ne, nf, d⟩ := I.pin p hp'
    exact ⟨hs.extBut _ _ (hp p hp') e, n, ne, nf, d⟩
  hok := hok_but I.hok hs hf
  len := I.len
theorem ps_setComp {X : Cx} {iY : Nat} {yN : Str} {py spos : Pos} (hN : X.N.Nodup) (hiY : X.N[iY]? = some yN) (hyl : X.env.scope.names.lookup yN = some .local) {scope : Scope} {cl : List (Str × Addr)} {x : Str} {px pos : Pos} {iter elt : Expr} {N : List Str} {ci : List Nat} {te : TE} {wi : TI} (S : CompSc X scope cl x N ci) (hc : X.calm = true) (hi : PI X (.Name x px) iter wi)
    (he : ∀ C s H ex pn, PE (cxComp X scope cl C N s H ex pn) elt te) (hs : ∀ y, foldedSetIterable iter X.env y = pure y := by intro _; rfl) (hsw : swapsWith (.ListComp elt [⟨.Name x px, iter, [], 0⟩] scope pos) (some (.Name yN py)) spos.line X.env = pure true := by rfl) :
    PS X (.Assign [.Name yN py] (.ListComp elt [⟨.Name x px, iter, [], 0⟩] scope pos) spos) (tAsg (tComp wi te ci) (gName iY)) := by
  intro pins s σ H Dd I h
  rw [exec_Assign_Name_used _ _ _ _ hsw]
  refine wpAny_bind (wpAny_standAt (wpAny_bind ?_))
  show wpAny _ X.A (do let _ ← comprehension (.ListComp elt [⟨.Name x px, iter, [], 0⟩] scope pos) scope X.env _ (newList []) false (eval iter X.env) (some (assign (.Name yN py) X.env))) _ _ s
  refine wpAny_bind (wpAny_mono (wpAny_comprehension_free (use := some (assign (.Name yN py) X.env)) (Q := fun _ s' => SP X pins Dd .next s') rfl hs S.clos S.kind S.names (thn (hi pins s σ H _ I h) fun v s1 h1 => thn h1 fun itv s2 h2 => ?_)) (fun _ s' hq => wpAny_pure (wpAny_pure hq)) fun _ _ e => e)
  obtain ⟨it, fp, tn, J, H2, rfl, I2, T, st2, f2, hD⟩ := h2
  obtain ⟨W, ⟨m0, w0⟩, turn⟩ := hD s2.heap.objs.size (I2.hok.fresh (Nat.le_refl _))
  refine wpAny_newObj_type (wpAny_newFunctionEnv S.ncell (by intro y hy; simp at hy) (fun h₁ hns₁ hsb₁ => ?_) S.kind)
  dsimp only at hns₁ hsb₁ ⊢
  generalize hH2 : s2.heap.push { cls := .type "list", dict := none, data := .seq ([] : List Value).toArray } = hp2 at hns₁ hsb₁ ⊢
  have hCz : hp2.objs.size = s2.heap.objs.size + 1 := by rw [← hH2, Heap.size_push]
  have hDC : s2.heap.objs.size ≠ hp2.objs.size := by rw [hCz]; exact Nat.ne_of_lt (Nat.lt_succ_self _)
  have hCle : s2.heap.objs.size ≤ hp2.objs.size := by rw [hCz]; exact Nat.le_succ _
  have old : ∀ b o, s2.heap.get? b = some o → h₁.get? b = some o := fun b o e => hsb₁.extBut b o (Nat.ne_of_lt (by rw [hCz]; exact Nat.lt_succ_of_lt (Heap.lt_size e))) (Heap.get?_push_of_some _ (hH2 ▸ Heap.get?_push_of_some _ e))
  have hDg : h₁.get? s2.heap.objs.size = some { cls := .type "list", dict := none, data := .seq ([] : List Value).toArray } := hsb₁.extBut _ _ hDC (Heap.get?_push_of_some _ (hH2 ▸ Heap.get?_push_size _ rfl))
  have f2z : ∀ b ∈ fp, b < s2.heap.objs.size := fun b hb => let ⟨o, e, _⟩ := T.obj _ _ st2 b hb; Heap.lt_size e
  let X' := cxComp X scope cl hp2.objs.size N s2 H2 fp (X.pn ++ pins)
  have hCnone : ∀ o, upd H2 s2.heap.objs.size o hp2.objs.size = none := fun o => by rw [upd_ne hDC.symm]; exact I2.hok.fresh hCle
  have sub2 : ∀ b ∈ frs X.stack, b < s2.heap.objs.size := fun b hb => by
    obtain ⟨_, o, ho, _⟩ := I2.stack.mem hb
    exact Heap.lt_size ho
  have cellz : ∀ y c, cl.lookup y = some c → c < s2.heap.objs.size ∧ H2 c = none := fun y c e => by
    have e' := S.sub y c e
    obtain ⟨v, q⟩ := I2.cell y c e'
    exact ⟨q.lt, I2.freeC y c e'⟩
  have kloc : X'.env.kindOf x = some .local := lookup_relabel_local S.hx
  have okX : X'.Ok := {
    mod := I2.ok.mod
    kind := S.kind
    glob := I2.ok.glob
    blt := I2.ok.blt
    above := hCle
    inj := fun y z c e1 e2 => I2.ok.inj y z c (S.sub y c e1) (S.sub z c e2)
    has := fun y hy => by
      have key : ∀ k, (relabel scope X.env).names.lookup y = some k → (k = .cell ∨ k = .free) → ∃ c, cl.lookup y = some c := fun k hk hkk => by
        have hm := lookup_mem hk
        obtain ⟨⟨n, k0⟩, hm0, e0⟩ := List.mem_map.mp hm
        have hn : n = y ∧ k0 = .free := by
          dsimp only at e0
          split at e0
          · rename_i hcond
            cases e0
            simp only [Bool.and_eq_true, beq_iff_eq] at hcond
            exact ⟨rfl, hcond.1.1⟩
          · cases e0
            rcases hkk with rfl | rfl
            · exact absurd rfl (S.ncell _ hm0)
            · exact ⟨rfl, rfl⟩
        obtain ⟨rfl, rfl⟩ := hn
        exact Option.isSome_iff_exists.mp (S.has _ hm0 rfl)
      rcases hy with hy | hy
      · exact key _ hy (.inl rfl)
      · exact key _ hy (.inr rfl)
    cab := fun y c hf _ => by cases hf
    hd := I2.ok.hd
    frames := I2.ok.frames
    stk := .inl rfl
    exf := fun b hb => ⟨Nat.ne_of_lt (by rw [show X'.env.locals = hp2.objs.size from rfl, hCz]; exact Nat.lt_succ_of_lt (f2z b hb)), fun y c e => (f2 b hb).2.2.2.2.1 y c (S.sub y c e)⟩
    bs := I2.bs
    bsz := Nat.le_trans I2.ok.bsz I2.sz
    noex := fun b o e hb => by
      rcases (f2 b hb).2.2.2.1 with z | z
      · exact I2.ok.noex b o e z
      · exact absurd (Nat.lt_of_lt_of_le (Heap.lt_size e) (Nat.le_trans I2.ok.bsz z)) (Nat.lt_irrefl _)
    exfs := fun b hb hb2 => by
      rcases List.mem_cons.mp (I2.stkSub b hb2) with z | z
      · exact (f2 b hb).2.1 z
      · exact (f2 b hb).2.2.1 z
    funs := I2.stack
    frf := I2.stkFree }
  have hokD : HOk X.prog X.w (upd H2 s2.heap.objs.size (.lst [])) h₁ := I2.hok.laid old (Nat.le_refl _) ⟨Nat.zero_le _, [], _, .nil, hDg⟩
  have I0 : L2.Inv X' [] (none :: capS ci σ) (upd H2 s2.heap.objs.size (.lst [])) { s2 with heap := h₁, toks := s2.toks + ([] : List (Str × Value)).length } := {
    ok := okX
    os := rfl
    bare := I2.bare
    base := Un.laid old (Nat.le_refl _) (I2.hok.fresh (Nat.le_refl _))
    loc := by
      refine ⟨_, hns₁, fun i y v e1 e2 e3 => ?_⟩
      cases i with
      | zero => simp at e2
      | succ j =>
        have e2' : (capS ci σ)[j]? = some (some v) := by simpa using e2
        unfold capS at e2'
        rw [List.getElem?_map] at e2'
        cases ej : ci[j]? with
        | none => rw [ej] at e2'; cases e2'
        | some i0 =>
          rw [ej] at e2'
          have e4 : (σ[i0]?).join = some v := Option.some.inj e2'
          have e5 : σ[i0]? = some (some v) := by
            cases q : σ[i0]? with
            | none => rw [q] at e4; cases e4
            | some o => rw [q] at e4; have : o = some v := e4; rw [this]
          obtain ⟨c1, c2, c3⟩ := S.cap j i0 y ej e1
          obtain ⟨m, hn, hl⟩ := I2.loc
          obtain ⟨u, r, l⟩ := hl i0 y v c1 e5 (.inr (.inl c2))
          refine ⟨u, r, .inr ⟨.inl c3, ?_⟩⟩
          rcases l with ⟨k, _⟩ | ⟨_, c, e, z⟩
          · rw [c2] at k; cases k
          · obtain ⟨c', hc'⟩ := okX.has y (.inl c3)
            have := S.sub y c' hc'
            rw [e] at this
            cases this
            obtain ⟨oz, hz, hd⟩ := z
            exact ⟨c, hc', oz, old _ _ hz, hd⟩
    cell := fun y c e => by
      obtain ⟨v, oz, hz, hd⟩ := I2.cell y c (S.sub y c e)
      exact ⟨v, oz, old _ _ hz, hd⟩
    free := hCnone _
    freeC := fun y c e => by
      rw [upd_ne (Nat.ne_of_lt (cellz y c e).1)]; exact (cellz y c e).2
    pin := fun p hp => by
      have hp' : p ∈ X.pn ++ pins := by simpa [X', cxComp] using hp
      obtain ⟨e, n, ne, nf, d⟩ := I2.pin p hp'
      refine ⟨old _ _ e, ?_, Nat.ne_of_lt (by rw [show X'.env.locals = hp2.objs.size from rfl, hCz]; exact Nat.lt_succ_of_lt (Heap.lt_size e)), fun z => ?_, d⟩
      · rw [upd_ne (Nat.ne_of_lt (Heap.lt_size e))]; exact n
      · rcases List.mem_cons.mp (I2.stkSub p.1 z) with z | z
        · exact ne z
        · exact nf z
    hok := hokD
    len := by show (none :: capS ci σ).length = N.length; rw [S.len]; simp [capS] }
  have loop : ∀ s₃ : Shared, s₃ = { s2 with heap := h₁, toks := s2.toks + ([] : List (Str × Value)).length } →
      codeAny (model X.prog X.w) X.A (.compLoop (.ListComp elt [⟨.Name x px, iter, [], 0⟩] scope pos) 0 (.ref it) (.ref s2.heap.objs.size) (compEnvC scope cl hp2.objs.size X.env))
        (compPost (model X.prog X.w) X.A X.xe (some (assign (.Name yN py) X.env)) (fun _ s' => SP X pins Dd .next s') (.ref s2.heap.objs.size) hp2.objs.size) s₃ := by
    rintro s₃ rfl
    have stat : ∀ {H' : Hp}, (∀ b ∈ fp, H' b = none) → ∀ b ∈ fp, FpOk X' [] H' b := fun hn b hb => ⟨hn b hb, (okX.exf b hb).1, okX.exfs b hb, .inl hb, (okX.exf b hb).2, fun p hp => (f2 b hb).2.2.2.2.2 p (by simpa [X', cxComp] using hp)⟩
    refine codeAny_compLoop_tests (fun n s' => ∃ i ys σ0 H', L2.Inv X' [] (σ0 :: capS ci σ) H' s' ∧ tn i s'.heap ∧ (∀ b ∈ fp, H' b = none) ∧ W i n ys H') ?_ m0
      ⟨0, [], none, _, I0, T.keep _ _ _ st2 (fun b _ o e => old b o e), fun b hb => by rw [upd_ne (Nat.ne_of_lt (f2z b hb))]; exact (f2 b hb).1, w0⟩
    rintro n s3 ⟨i, ys, σ0, H3, I3, st3, fr3, w3⟩
    obtain ⟨hD3, way⟩ := turn i n ys H3 w3
    rcases way with ⟨stop, q⟩ | ⟨go, hlen, step⟩
    · refine thn (T.done X' rfl rfl rfl hc i [] s3 _ H3 _ I3 (stat fr3) st3 stop) fun r s4 ⟨hr, I4⟩ => ?_
      subst hr
      obtain ⟨m, hn, _⟩ := I4.loc
      have IX : Inv X pins σ H3 s4 := Inv.call' (s' := s4) (ch := fp) I2 I4.os I4.base I4.hok I4.bare fun b hb => by
        obtain ⟨g1, g2, g3, g4, g5, g6⟩ := f2 b hb
        exact ⟨g4, g2, g5, g6⟩
      obtain ⟨mL, hnL, _⟩ := I2.loc
      have hLC : X.env.locals ≠ hp2.objs.size := Nat.ne_of_lt (Nat.lt_of_lt_of_le hnL.lt hCle)
      have hcC : ∀ y c, X.env.cells.lookup y = some c → c ≠ hp2.objs.size := fun y c e => by
        obtain ⟨v, q⟩ := I2.cell y c e
        exact Nat.ne_of_lt (Nat.lt_of_lt_of_le q.lt hCle)
      show wpAny _ X.A (assign (.Name yN py) X.env (.ref s2.heap.objs.size)) _ _ _
      refine wpAny_assign_Name (store_ok2 (v := .ref s2.heap.objs.size) IX hN hiY (.inl hyl) rfl (fun s5 I5 sb => ?_) (.inr hyl))
      obtain ⟨a5, hs5, ha5⟩ := sb
      have hCa : hp2.objs.size ≠ a5 := by
        rcases ha5 with rfl | e
        · exact hLC.symm
        · exact (hcC _ _ e).symm
      refine ⟨m, hn.sameBut hs5 hCa, fun h' hs' => ⟨_, H3, inv_but I5 hs' (Nat.le_trans I2.sz hCle) I4.free hLC hcC (fun p hp => ?_), q⟩⟩
      exact Nat.ne_of_lt (Nat.lt_of_lt_of_le (Heap.lt_size (I2.pin p hp).1) hCle)
    · refine thn (T.item X' rfl rfl rfl hc i [] s3 _ H3 _ I3 (stat fr3) st3 go) fun r s4 ⟨u, hr, h4⟩ => ?_
      subst hr
      dsimp only
      have ff : ∀ (e : Value) (s' : Shared), X'.xe e s' → notedBy (model X.prog X.w) X.A (compEnvC scope cl hp2.objs.size X.env) (fun e s' => compPost (model X.prog X.w) X.A X.xe (some (assign (.Name yN py) X.env)) (fun _ s' => SP X pins Dd .next s') (.ref s2.heap.objs.size) hp2.objs.size (.error e) s') e s' := fun _ _ z => z.elim
      show wpAny _ _ (letOwnedTupleGo (.Name x px) (.ref it) u >>= fun _ => assign (.Name x px) (compEnvC scope cl hp2.objs.size X.env) u) _ _ _
      refine wpAny_bind (thn h4 fun _ s5 ⟨v, H5, I5, r5, y5, st5, fr5⟩ => ?_)
      have I5' := I5.pinned (stat fr5) (T.obj _ _ st5)
      have hg : PG X' (.Name x px) (gName 0) := pg_name S.nd S.n0 (.inl kloc) (.inr kloc)
      refine wpAny_mono (hg _ s5 _ H5 v u (fun σ' H' => σ' = some v :: capS ci σ ∧ H' = H5) I5' r5 ⟨rfl, rfl⟩) (fun _ s6 ⟨σ6, H6, I6, e6, e7⟩ => ?_) ff
      subst e6 e7
      refine wpAny_tests_nil ?_
      rw [if_pos rfl]
      refine wpAny_mono (he _ _ _ _ _ _ s6 _ H6 _ I6 (step v H6 y5)) (fun uy s7 ⟨y, H7, I7, ry, hD7, m', hm', w7⟩ => ?_) ff
      refine wpAny_mono (mt_append (X := X') _ s7 _ H7 (.ref s2.heap.objs.size) [y] (.ref s2.heap.objs.size) [uy] (fun v H' => v = .non ∧ H' = upd H7 s2.heap.objs.size (.lst (ys ++ [y]))) I7 rfl (.cons ry .nil) ⟨_, ys, y, rfl, rfl, hD7, hlen, rfl, rfl⟩) (fun _ s8 ⟨v8, H8, I8, _, e8, e9⟩ => ?_) ff
      subst e9
      refine ⟨m', hm', i + 1, _, _, _, I8.unpinned, T.keep _ _ _ st5 fun b hb o e => (I8.pin (b, o) (List.mem_append_right _ (List.mem_append_right _ (mem_pinsAt hb e)))).1, fun b hb => ?_, w7⟩
      obtain ⟨o, e, d⟩ := T.obj _ _ st5 b hb
      exact (I8.pin (b, o) (List.mem_append_right _ (List.mem_append_right _ (mem_pinsAt hb e)))).2.1
  exact codeAny_compStart_list (loop _ rfl) (T.self _ 0 _ _ _ (T.keep _ _ _ st2 fun b _ o e => old b o e) (loop _ rfl))
end BB

set_option Elab.async false
set_option linter.all false
set_option maxRecDepth 100000
local macro_rules | `(tactic| walk_at "bblk") => `(tactic| first | assumption | exact L2.upd_same | (refine Eq.trans (L2.upd_ne ?bbne) ?bbnx; (case bbne => walk_at "bbne"); (case bbnx => walk_at "bblk")))
local macro_rules | `(tactic| walk_at "bbne") => `(tactic| first | assumption | (refine Ne.symm ?bbn; (case bbn => assumption)) | (refine L2.ne_of_none (o := ?bbo) (h' := by assumption) (h := ?bbl); (case bbl => walk_at "bblk")) | (refine Ne.symm (L2.ne_of_none (o := ?bbo) (h' := by assumption) (h := ?bbl)); (case bbl => walk_at "bblk")))
namespace K80
open PySem L2 BB PP
def top (i : Nat) : Stmt := PySem.Challenge.pw_bothbooks_k80_letters_and_deeds_as_texts.main.body.getD i (.Pass ⟨0, 0, 0, 0⟩)
abbrev s_is_made_of : Stmt := top 9
abbrev s_is_house : Stmt := top 10
abbrev s_is_person : Stmt := top 11
abbrev s_check_person : Stmt := top 12
abbrev s_parts_of : Stmt := top 13
abbrev s_house_of : Stmt := top 14
abbrev s_is_whole : Stmt := top 17
abbrev s_asks : Stmt := top 18
abbrev s_is_asking_wish : Stmt := top 19
abbrev s_is_nought : Stmt := top 20
abbrev s_number_fits : Stmt := top 21
abbrev s_at_fits : Stmt := top 22
abbrev s_is_answer : Stmt := top 23
abbrev s_is_wish_turn : Stmt := top 27
abbrev s_is_answer_turn : Stmt := top 28
abbrev s_is_turn : Stmt := top 29
abbrev s_is_between_houses : Stmt := top 30
abbrev s_is_number_text : Stmt := top 31
abbrev s_turn_text : Stmt := top 32
abbrev s_read_word : Stmt := top 33
abbrev s_read_parts : Stmt := top 34
abbrev s_is_letter : Stmt := top 36
abbrev s_letter_text : Stmt := top 37
abbrev s_read_letter : Stmt := top 38
abbrev s_is_deed : Stmt := top 41
abbrev s_is_word : Stmt := top 43
abbrev s_words_of : Stmt := top 44
abbrev s_deed_text : Stmt := top 45
abbrev s_read_deed : Stmt := top 46
abbrev s_read_number : Stmt := top 47
abbrev s_law_cell_at : Stmt := top 49
abbrev s_law_mixed : Stmt := top 50
abbrev s_law_word : Stmt := top 52
abbrev s_law_houses : Stmt := top 53
abbrev s_law_people : Stmt := top 54
abbrev s_law_number : Stmt := top 55
abbrev s_law_letter : Stmt := top 56
abbrev s_law_deeds : Stmt := top 57
abbrev s_law_row : Stmt := top 58
abbrev s_law_same : Stmt := top 59
abbrev s_law : Stmt := top 60
section
variable {P : Program} {w : World} {K : PySem.W.Frag} {mg : Str → Option Value} {base : Heap} {aE aP aR : Addr}
theorem sc_is_made_of : FnScope ["text", "signs", "most"] ["text", "signs", "most"] (defScope s_is_made_of) := ⟨rfl, rfl, rfl, by decide +kernel, rfl, by decide +kernel, by decide +kernel⟩
theorem ok_made (F : Def K mg "is_made_of" s_is_made_of) (B : Blt mg) : Can P w K mg base CX0 1 "is_made_of" ["text", "signs", "most"] spMade := by
  refine F.can sc_is_made_of (fun _ _ _ _ _ _ us hl => match us, hl with | [_, _, _], _ => rfl) (fun vs H Q E h => ?_) (fun f cdv A outer s H vs Q E hr h => ?_)
  · obtain ⟨_, _, _, rfl, _⟩ := h; rfl
  · obtain ⟨t, sg, m, rfl, ht, k⟩ := h
    refine ⟨_, (pss_one (ps_ret (pe_and (pe_cmpR op_ne (pv 0) pe_str (nomark _)) (pe_and (pe_cmpR op_le (pe_callB call_len (by rfl) B.len bt_len (pa_cons (pv 0) pa_nil)) (pv 2) (nomark _)) (pe_one (pe_callB (call_all rfl) (by rfl) B.all bt_all (pa_cons (pe_comp (N := ["sign", "signs"]) (ci := [1]) (compSc_of (sc0 := defScope s_is_made_of) (N0 := ["text", "signs", "most"]) (by decide +kernel) rfl rfl (fun y hy => PySem.W.cellsFrom_some _ _ _ (.inl hy))) rfl (pi_str (pv 0)) (fun _ _ _ _ _ => (pe_cmpR (op_inxK K rfl) (pv 0) (pv 1) rfl))) pa_nil))))))), ?_⟩
    refine ⟨_, rfl, rfl, _, rfl, ?_⟩
    refine ite2 (fun g1 => ?_) (fun g1 => ?_)
    · refine ⟨_, rfl, _, _, rfl, ⟨Nat.le_of_lt ht, rfl⟩, _, rfl, _, _, rfl, rfl, _, rfl, ?_⟩
      refine ite2 (fun g2 => ?_) (fun g2 => ?_)
      · refine ⟨_, rfl, _, rfl, fun D hD => comp_by t.length ht (fun i ys H2 => ys = (t.cps.toList.take i).map (fun c => V.bl (decide (c ∈ sg.cps.toList))) ∧ H2 = upd H D (.lst ys)) ⟨rfl, rfl⟩ ?_ ?_ ?_⟩
        · rintro i ys H2 hi ⟨rfl, rfl⟩
          refine ⟨upd_same, ?_⟩
          rw [List.length_map, List.length_take]
          have : t.cps.toList.length = t.length := by simp [Str.length]
          omega
        · rintro ys H2 ⟨rfl, rfl⟩
          have el : t.cps.toList.take t.length = t.cps.toList := List.take_of_length_le (by simp [Str.length])
          refine ⟨rfl, D, t.cps.toList.map (fun c => decide (c ∈ sg.cps.toList)), rfl, SqL.of (by rw [upd_same, el, List.map_map]; rfl), ?_⟩
          refine qb ?_ (k _ (same_upd hD))
          unfold madeF
          rw [g1, g2, List.all_map]
          rfl
        · rintro i ys H2 hi ⟨rfl, rfl⟩
          refine ⟨hi, ?_⟩
          rintro v H' ⟨rfl, c, hc, rfl⟩ R hR
          refine ⟨_, rfl, _, rfl, Or.inl ⟨_, _, rfl, rfl, ?_⟩⟩
          refine hR _ _ upd_same ⟨?_, upd_upd⟩
          have hc' : t.cps.toList[i]? = some c := by simpa using hc
          rw [List.take_add_one, hc', List.map_append]
          show _ = _ ++ [V.bl (decide (c ∈ sg.cps.toList))]
          rw [StrLaws.found_one]
      · refine qb ?_ (k _ (Same.refl _))
        unfold madeF
        have : decide ((t.length : Int) ≤ m) = false := by simpa using g2
        rw [this, Bool.and_false, Bool.false_and]
    · refine qb ?_ (k _ (Same.refl _))
      unfold madeF
      have : (!decide (V.str t = V.str "")) = false := by simpa using g1
      rw [this, Bool.false_and, Bool.false_and]
theorem sc_is_house : FnScope ["thing"] ["thing"] (defScope s_is_house) := ⟨rfl, rfl, rfl, by decide +kernel, rfl, by decide +kernel, by decide +kernel⟩
theorem ok_house (F : Def K mg "is_house" s_is_house) (B : Blt mg) (TP : TP mg) (C_is_made_of : Can P w K mg base CX0 1 "is_made_of" ["text", "signs", "most"] spMade) : Can P w K mg base CX0 2 "is_house" ["thing"] (sp1 houseV) := by
  refine F.can sc_is_house (fun _ _ _ _ _ _ us hl => match us, hl with | [_], _ => rfl) (fun vs H Q E h => ?_) (fun f cdv A outer s H vs Q E hr h => ?_)
  · obtain ⟨_, _, rfl, _⟩ := h; rfl
  · obtain ⟨x, kd, rfl, hk, hz, k⟩ := h
    refine ⟨_, (pss_one (ps_ret (pe_and (pe_callB call_isinst (by rfl) B.isinstance bt_isinstance (pa_cons (pv 0) (pa_cons (pe_bltn (v := .ty "str") rfl B.str bt_str rfl) pa_nil))) (pe_one (pe_can C_is_made_of (hr.mono (by decide)) rfl (pa_cons (pv 0) (pa_cons (pe_const rfl TP.HOUSE_SIGNS) (pa_cons (pe_const rfl TP.HOUSE_LENGTH) pa_nil)))))))), ?_⟩
    refine ⟨_, rfl, _, _, _, _, rfl, hk.tyOf, kit_str kd, _, rfl, ?_⟩
    refine ite2 (fun g1 => ?_) (fun g1 => ?_)
    · obtain ⟨z, rfl⟩ := hk.isS g1
      exact ⟨_, rfl, z, _, _, rfl, hz z rfl, k⟩
    · have e : houseV x = false := by cases hk <;> first | rfl | exact absurd rfl g1
      exact qb e (k _ (Same.refl _))
theorem sc_is_person : FnScope ["thing", "parts"] ["thing"] (defScope s_is_person) := ⟨rfl, rfl, rfl, by decide +kernel, rfl, by decide +kernel, by decide +kernel⟩
theorem ok_person (F : Def K mg "is_person" s_is_person) (B : Blt mg) (TP : TP mg) (C_is_made_of : Can P w K mg base CX0 1 "is_made_of" ["text", "signs", "most"] spMade) (C_is_house : Can P w K mg base CX0 2 "is_house" ["thing"] (sp1 houseV)) :
    Can P w K mg base CX0 3 "is_person" ["thing"] (sp1 personV) := by
  refine F.can sc_is_person (fun _ _ _ _ _ _ us hl => match us, hl with | [_], _ => rfl) (fun vs H Q E h => ?_) (fun f cdv A outer s H vs Q E hr h => ?_)
  · obtain ⟨_, _, rfl, _⟩ := h; rfl
  · obtain ⟨x, kd, rfl, hk, hz, k⟩ := h
    refine ⟨_, (pss_cons (ps_if (pt_not (pt_truth (pe_callB call_isinst (by rfl) B.isinstance bt_isinstance (pa_cons (pv 0) (pa_cons (pe_bltn (v := .ty "str") rfl B.str bt_str rfl) pa_nil))) (fun _ => rfl))) (pss_one (ps_ret pe_bl)) pss_nil)
      (pss_cons (ps_set (i := 1) sc_is_person.nd rfl (by first | exact Or.inl rfl | exact Or.inr rfl) (pe_bm PySem.F.plainAttrs_str PySem.F.slot_str_partition PySem.F.type_str_partition mt_partition (pv 0) (pa_cons pe_str pa_nil)))
      (pss_one (ps_ret (pe_and (pe_can C_is_made_of (hr.mono (by decide)) rfl (pa_cons (pe_ix ix_seq (pv 1) pe_int (fun _ _ => rfl)) (pa_cons (pe_const rfl TP.NAME_SIGNS) (pa_cons (pe_const rfl TP.NAME_LENGTH) pa_nil)))) (pe_one (pe_can C_is_house (hr.mono (by decide)) rfl (pa_cons (pe_ix ix_seq (pv 1) pe_int (fun _ _ => rfl)) pa_nil)))))))), ?_⟩
    refine ⟨_, rfl, _, _, _, _, rfl, hk.tyOf, kit_str kd, _, rfl, ?_⟩
    refine ite2 (fun g1 => ?_) (fun g1 => ?_)
    · have e : personV x = false := by cases hk <;> first | rfl | (simp [isStr] at g1)
      exact qb e (k _ (Same.refl _))
    · obtain ⟨z, rfl⟩ := hk.isS (by simpa using g1)
      have hzz := hz z rfl
      refine ⟨_, rfl, rfl, z, "@", rfl, rfl, by decide +kernel, Nat.le_of_lt hzz, fun p hp => ?_⟩
      obtain ⟨s1, w1⟩ := same_at (o := .tup [.str (partP z "@").1, .str (partP z "@").2.1, .str (partP z "@").2.2]) hp
      obtain ⟨l1, l2⟩ := part_small (y := "@") hzz
      refine ⟨_, rfl, Or.inr (Or.inl ⟨p, _, _, _, rfl, rfl, SqT.of w1, rfl, _, _, _, rfl, l1, fun H2 s2 => ⟨_, rfl, ?_⟩⟩)⟩
      refine ite2 (fun g2 => ?_) (fun g2 => ?_)
      · refine ⟨_, rfl, Or.inr (Or.inl ⟨p, _, _, _, rfl, rfl, SqT.of (s2 _ _ w1), rfl, _, _, rfl, .str _, (fun s e => by cases e; exact l2), fun H3 s3 => ?_⟩)⟩
        refine qb ?_ (k _ ((s1.trans s2).trans s3))
        show personF z = _
        unfold personF
        rw [g2, Bool.true_and]
        rfl
      · refine qb ?_ (k _ (s1.trans s2))
        show personF z = _
        unfold personF
        have : madeF (partP z "@").1 NM 8 = false := by simpa using g2
        rw [this, Bool.false_and]
theorem sc_check_person : FnScope ["person"] ["person"] (defScope s_check_person) := ⟨rfl, rfl, rfl, by decide +kernel, rfl, by decide +kernel, by decide +kernel⟩
theorem ok_check (F : Def K mg "check_person" s_check_person) (X_NoPerson : XC K mg aE aP "NoPerson") (C_is_person : Can P w K mg base CX0 3 "is_person" ["thing"] (sp1 personV)) : Can P w K mg base (CXR P w) 4 "check_person" ["person"] (spCheck aP) := by
  refine F.canX sc_check_person (fun _ _ _ _ _ _ us hl => match us, hl with | [_], _ => rfl) (fun vs H Q E h => ?_) (fun f cdv A outer s H vs Q E hr h => ?_)
  · obtain ⟨_, _, rfl, _⟩ := h; rfl
  · obtain ⟨x, kd, rfl, hk, hz, k⟩ := h
    refine ⟨_, (pss_one (ps_if (pt_not (pt_truth (pe_can C_is_person (hr.mono (by decide)) rfl (pa_cons (pv 0) pa_nil)) (fun _ => rfl))) (pss_one (ps_raise X_NoPerson.x PySem.F.excBase_ValueError rfl X_NoPerson.m (pa_cons pe_str pa_nil))) pss_nil)), ?_⟩
    refine ⟨_, rfl, x, kd, rfl, hk, hz, fun H1 s1 => ⟨_, rfl, ?_⟩⟩
    refine ite2 (fun g1 => ?_) (fun g1 => ?_)
    · exact ⟨by show 1 ≤ sizeLine; decide, (k _ s1).2 (by simpa using g1)⟩
    · exact (k _ s1).1 (by simpa using g1)
theorem sc_parts_of : FnScope ["person"] ["person"] (defScope s_parts_of) := ⟨rfl, rfl, rfl, by decide +kernel, rfl, by decide +kernel, by decide +kernel⟩
theorem ok_parts (F : Def K mg "parts_of" s_parts_of) (C_check_person : Can P w K mg base (CXR P w) 4 "check_person" ["person"] (spCheck aP)) : Can P w K mg base (CXR P w) 5 "parts_of" ["person"] (spParts aP) := by
  refine F.canX sc_parts_of (fun _ _ _ _ _ _ us hl => match us, hl with | [_], _ => rfl) (fun vs H Q E h => ?_) (fun f cdv A outer s H vs Q E hr h => ?_)
  · obtain ⟨_, _, rfl, _⟩ := h; rfl
  · obtain ⟨x, kd, rfl, hk, hz, k1, k2⟩ := h
    refine ⟨_, (pss_cons (ps_expr (pe_canX C_check_person (hr.mono (by decide)) rfl (pa_cons (pv 0) pa_nil)))
      (pss_one (ps_ret (pe_bm PySem.F.plainAttrs_str PySem.F.slot_str_partition PySem.F.type_str_partition mt_partition (pv 0) (pa_cons pe_str pa_nil))))), ?_⟩
    refine ⟨_, rfl, x, kd, rfl, hk, hz, fun H1 s1 => ⟨fun g => ?_, fun g => k2 _ s1 g⟩⟩
    obtain ⟨z, rfl⟩ := person_str g
    refine ⟨_, rfl, rfl, z, "@", rfl, rfl, by decide +kernel, Nat.le_of_lt (hz z rfl), fun p hp => ?_⟩
    obtain ⟨s2, w2⟩ := same_at (o := .tup [.str (partP z "@").1, .str (partP z "@").2.1, .str (partP z "@").2.2]) hp
    exact k1 _ z p (s1.trans s2) rfl g w2
theorem sc_house_of : FnScope ["person"] ["person"] (defScope s_house_of) := ⟨rfl, rfl, rfl, by decide +kernel, rfl, by decide +kernel, by decide +kernel⟩
theorem ok_home (F : Def K mg "house_of" s_house_of) (C_parts_of : Can P w K mg base (CXR P w) 5 "parts_of" ["person"] (spParts aP)) : Can P w K mg base (CXR P w) 6 "house_of" ["person"] (spPart aP homeF) := by
  refine F.canX sc_house_of (fun _ _ _ _ _ _ us hl => match us, hl with | [_], _ => rfl) (fun vs H Q E h => ?_) (fun f cdv A outer s H vs Q E hr h => ?_)
  · obtain ⟨_, _, rfl, _⟩ := h; rfl
  · obtain ⟨x, kd, rfl, hk, hz, k1, k2⟩ := h
    refine ⟨_, (pss_one (ps_ret (pe_ix ix_seq (pe_canX C_parts_of (hr.mono (by decide)) rfl (pa_cons (pv 0) pa_nil)) pe_int (fun _ _ => rfl)))), ?_⟩
    refine ⟨_, rfl, x, kd, rfl, hk, hz, fun H1 z p s1 e g w1 => ?_, fun H1 s1 g => k2 _ s1 g⟩
    exact Or.inr (Or.inl ⟨p, _, _, _, rfl, rfl, SqT.of w1, rfl, k1 _ z s1 e g⟩)
end
end K80

set_option Elab.async false
set_option linter.all false
set_option maxRecDepth 100000
namespace K80
open PySem L2 BB PP
section
variable {P : Program} {w : World} {K : PySem.W.Frag} {mg : Str → Option Value} {base : Heap} {aL : Addr}
theorem sc_is_whole : FnScope ["thing"] ["thing"] (defScope s_is_whole) := ⟨rfl, rfl, rfl, by decide +kernel, rfl, by decide +kernel, by decide +kernel⟩
theorem ok_whole (F : Def K mg "is_whole" s_is_whole) (B : Blt mg) : Can P w K mg base CX0 1 "is_whole" ["thing"] (sp0 wholeV) := by
  refine F.can sc_is_whole (fun _ _ _ _ _ _ us hl => match us, hl with | [_], _ => rfl) (fun vs H Q E h => ?_) (fun f cdv A outer s H vs Q E hr h => ?_)
  · obtain ⟨_, _, rfl, _⟩ := h; rfl
  · obtain ⟨x, kd, rfl, hk, k⟩ := h
    refine ⟨_, (pss_one (ps_ret (pe_and (pe_callB call_isinst (by rfl) B.isinstance bt_isinstance (pa_cons (pv 0) (pa_cons (pe_bltn (v := .ty "int") rfl B.int bt_int rfl) pa_nil))) (pe_one (pe_not (pe_callB call_isinst (by rfl) B.isinstance bt_isinstance (pa_cons (pv 0) (pa_cons (pe_bltn (v := .ty "bool") rfl B.bool bt_bool rfl) pa_nil)))))))), ?_⟩
    refine ⟨_, rfl, _, _, _, _, rfl, hk.tyOf, kit_int kd, _, rfl, ?_⟩
    refine ite2 (fun g1 => ?_) (fun g1 => ?_)
    · refine ⟨_, rfl, _, _, _, _, rfl, hk.tyOf, kit_bool kd, _, rfl, ?_⟩
      refine qb ?_ (k _ (Same.refl _))
      cases hk <;> first | rfl | (simp [isInt] at g1)
    · have e : wholeV x = false := by cases hk <;> first | rfl | (simp [isInt] at g1)
      exact qb e (k _ (Same.refl _))
theorem sc_asks : FnScope ["wish"] ["wish"] (defScope s_asks) := ⟨rfl, rfl, rfl, by decide +kernel, rfl, by decide +kernel, by decide +kernel⟩
theorem ok_asks (F : Def K mg "asks" s_asks) : Can P w K mg base CX0 1 "asks" ["wish"] spAsks := by
  refine F.can sc_asks (fun _ _ _ _ _ _ us hl => match us, hl with | [_], _ => rfl) (fun vs H Q E h => ?_) (fun f cdv A outer s H vs Q E hr h => ?_)
  · obtain ⟨i, rfl, _⟩ := h; rfl
  · obtain ⟨i, rfl, k⟩ := h
    refine ⟨_, (pss_one (ps_ret (pe_cmpR op_eq (pe_op op_mod (pv 0) pe_int) pe_int (nomark _)))), ?_⟩
    exact ⟨_, rfl, _, _, rfl, rfl, (by show (0 : Int) < 2; decide), rfl, k⟩
theorem sc_is_asking_wish : FnScope ["thing"] ["thing"] (defScope s_is_asking_wish) := ⟨rfl, rfl, rfl, by decide +kernel, rfl, by decide +kernel, by decide +kernel⟩
theorem ok_askw (F : Def K mg "is_asking_wish" s_is_asking_wish) (C_is_whole : Can P w K mg base CX0 1 "is_whole" ["thing"] (sp0 wholeV)) (C_asks : Can P w K mg base CX0 1 "asks" ["wish"] spAsks) : Can P w K mg base CX0 2 "is_asking_wish" ["thing"] (sp1 askV) := by
  refine F.can sc_is_asking_wish (fun _ _ _ _ _ _ us hl => match us, hl with | [_], _ => rfl) (fun vs H Q E h => ?_) (fun f cdv A outer s H vs Q E hr h => ?_)
  · obtain ⟨_, _, rfl, _⟩ := h; rfl
  · obtain ⟨x, kd, rfl, hk, hz, k⟩ := h
    refine ⟨_, (pss_one (ps_ret (pe_and (pe_can C_is_whole (hr.mono (by decide)) rfl (pa_cons (pv 0) pa_nil)) (pe_and (pe_cmpR op_gt (pv 0) pe_int (nomark _)) (pe_one (pe_can C_asks (hr.mono (by decide)) rfl (pa_cons (pv 0) pa_nil))))))), ?_⟩
    refine ⟨_, rfl, x, kd, rfl, hk, fun H1 s1 => ⟨_, rfl, ?_⟩⟩
    refine ite2 (fun g1 => ?_) (fun g1 => ?_)
    · obtain ⟨i, rfl⟩ := whole_int g1
      refine ⟨_, rfl, _, _, rfl, rfl, _, rfl, ?_⟩
      refine ite2 (fun g2 => ?_) (fun g2 => ?_)
      · refine ⟨_, rfl, i, rfl, ?_⟩
        refine qb ?_ (k _ s1)
        show (decide (0 < i) && _) = _
        rw [g2, Bool.true_and]
      · refine qb ?_ (k _ s1)
        show (decide (0 < i) && _) = _
        have : decide (0 < i) = false := by simpa using g2
        rw [this, Bool.false_and]
    · have e : askV x = false := by cases x <;> first | rfl | exact absurd rfl g1
      exact qb e (k _ s1)
theorem sc_is_nought : FnScope ["thing"] ["thing"] (defScope s_is_nought) := ⟨rfl, rfl, rfl, by decide +kernel, rfl, by decide +kernel, by decide +kernel⟩
theorem ok_nought (F : Def K mg "is_nought" s_is_nought) (C_is_whole : Can P w K mg base CX0 1 "is_whole" ["thing"] (sp0 wholeV)) : Can P w K mg base CX0 2 "is_nought" ["thing"] (sp1 noughtV) := by
  refine F.can sc_is_nought (fun _ _ _ _ _ _ us hl => match us, hl with | [_], _ => rfl) (fun vs H Q E h => ?_) (fun f cdv A outer s H vs Q E hr h => ?_)
  · obtain ⟨_, _, rfl, _⟩ := h; rfl
  · obtain ⟨x, kd, rfl, hk, hz, k⟩ := h
    refine ⟨_, (pss_one (ps_ret (pe_and (pe_can C_is_whole (hr.mono (by decide)) rfl (pa_cons (pv 0) pa_nil)) (pe_one (pe_cmpR op_eq (pv 0) pe_int (nomark _)))))), ?_⟩
    refine ⟨_, rfl, x, kd, rfl, hk, fun H1 s1 => ⟨_, rfl, ?_⟩⟩
    refine ite2 (fun g1 => ?_) (fun g1 => ?_)
    · obtain ⟨i, rfl⟩ := whole_int g1
      exact ⟨_, rfl, rfl, k _ s1⟩
    · have e : noughtV x = false := by cases x <;> first | rfl | exact absurd rfl g1
      exact qb e (k _ s1)
theorem sc_number_fits : FnScope ["number", "word"] ["number", "word"] (defScope s_number_fits) := ⟨rfl, rfl, rfl, by decide +kernel, rfl, by decide +kernel, by decide +kernel⟩
theorem ok_num (F : Def K mg "number_fits" s_number_fits) (TH : TH P w K mg aL) : Can P w K mg base CX0 1 "number_fits" ["number", "word"] spNum := by
  refine F.can sc_number_fits (fun _ _ _ _ _ _ us hl => match us, hl with | [_, _], _ => rfl) (fun vs H Q E h => ?_) (fun f cdv A outer s H vs Q E hr h => ?_)
  · obtain ⟨_, _, rfl, _⟩ := h; rfl
  · obtain ⟨n, wd, rfl, k⟩ := h
    refine ⟨_, (pss_cons (ps_if (pt_cmpR op_eq (pv 1) pe_str (nomark _)) (pss_one (ps_ret (pe_cmpR op_eq (pv 0) pe_int (nomark _)))) pss_nil)
      (pss_one (ps_ret (pe_and (pe_cmpR (op_in_kd TH.d_LEAST_NUMBER) (pv 1) (pe_const rfl TH.LEAST_NUMBER) rfl) (pe_one (pe_cmpR op_ge (pv 0) (pe_ix (ix_kd TH.d_LEAST_NUMBER) (pe_const rfl TH.LEAST_NUMBER) (pv 1) (fun _ _ => rfl)) (nomark _))))))), ?_⟩
    refine ⟨_, rfl, rfl, _, rfl, ?_⟩
    refine ite2 (fun g1 => ?_) (fun g1 => ?_)
    · have g : wd = "none" := by simpa using g1
      refine ⟨_, rfl, rfl, ?_⟩
      refine qb ?_ k
      unfold numF; rw [if_pos g]
    · have g : ¬ wd = "none" := by simpa using g1
      refine ⟨_, rfl, Sum.inr wd, rfl, rfl, _, rfl, ?_⟩
      refine ite2 (fun g2 => ?_) (fun g2 => ?_)
      · obtain ⟨v, hv⟩ := Option.isSome_iff_exists.mp g2
        obtain ⟨kk, rfl⟩ := least_int hv
        refine ⟨_, rfl, _, rfl, Sum.inr wd, _, rfl, rfl, hv, _, _, rfl, rfl, ?_⟩
        refine qb ?_ k
        unfold numF; rw [if_neg g, hv]
      · refine qb ?_ k
        have g3 : valV leastD (Sum.inr wd) = none := by simpa using g2
        unfold numF; rw [if_neg g, g3]
theorem sc_at_fits : FnScope ["at", "word"] ["at", "word"] (defScope s_at_fits) := ⟨rfl, rfl, rfl, by decide +kernel, rfl, by decide +kernel, by decide +kernel⟩
theorem ok_at (F : Def K mg "at_fits" s_at_fits) (C_is_asking_wish : Can P w K mg base CX0 2 "is_asking_wish" ["thing"] (sp1 askV)) (C_is_person : Can P w K mg base CX0 3 "is_person" ["thing"] (sp1 personV)) (C_is_nought : Can P w K mg base CX0 2 "is_nought" ["thing"] (sp1 noughtV)) :
    Can P w K mg base CX0 4 "at_fits" ["at", "word"] spAt := by
  refine F.can sc_at_fits (fun _ _ _ _ _ _ us hl => match us, hl with | [_, _], _ => rfl) (fun vs H Q E h => ?_) (fun f cdv A outer s H vs Q E hr h => ?_)
  · obtain ⟨_, _, _, rfl, _⟩ := h; rfl
  · obtain ⟨x, kd, wd, rfl, hk, hz, k⟩ := h
    refine ⟨_, (pss_cons (ps_if (pt_cmpR op_inx (pv 1) (pe_tup (pa_cons pe_str (pa_cons pe_str pa_nil))) rfl) (pss_one (ps_ret (pe_can C_is_asking_wish (hr.mono (by decide)) rfl (pa_cons (pv 0) pa_nil)))) pss_nil)
      (pss_cons (ps_if (pt_cmpR op_eq (pv 1) pe_str (nomark _)) (pss_one (ps_ret (pe_can C_is_person (hr.mono (by decide)) rfl (pa_cons (pv 0) pa_nil)))) pss_nil)
      (pss_one (ps_ret (pe_can C_is_nought (hr.mono (by decide)) rfl (pa_cons (pv 0) pa_nil)))))), ?_⟩
    refine ⟨_, rfl, by show 2 ≤ sizeLine; decide, fun p hp => Or.inr ⟨p, _, rfl, .inr (SqT.of upd_same), rfl, rfl, _, rfl, ?_⟩⟩
    have s1 := same_upd (o := .tup [.str "lets", .str "refuses"]) hp
    refine ite2 (fun g1 => ?_) (fun g1 => ?_)
    · have g := in2.mp g1
      refine ⟨_, rfl, x, kd, rfl, hk.same s1, hz, fun H2 s2 => ?_⟩
      exact qb (by unfold atF; rw [if_pos g]) (k _ (s1.trans s2))
    have g : ¬ (wd = "lets" ∨ wd = "refuses") := fun z => g1 (in2.mpr z)
    refine ⟨_, rfl, rfl, _, rfl, ?_⟩
    refine ite2 (fun g2 => ?_) (fun g2 => ?_)
    · have g3 : wd = "moved" := by simpa using g2
      refine ⟨_, rfl, x, kd, rfl, hk.same s1, hz, fun H2 s2 => ?_⟩
      exact qb (by unfold atF; rw [if_neg g, if_pos g3]) (k _ (s1.trans s2))
    · have g3 : ¬ wd = "moved" := by simpa using g2
      refine ⟨_, rfl, x, kd, rfl, hk.same s1, hz, fun H2 s2 => ?_⟩
      exact qb (by unfold atF; rw [if_neg g, if_neg g3]) (k _ (s1.trans s2))
theorem sc_is_answer : FnScope ["thing"] ["thing"] (defScope s_is_answer) := ⟨rfl, rfl, rfl, by decide +kernel, rfl, by decide +kernel, by decide +kernel⟩
theorem ok_answer (F : Def K mg "is_answer" s_is_answer) (B : Blt mg) (C_is_whole : Can P w K mg base CX0 1 "is_whole" ["thing"] (sp0 wholeV)) (C_number_fits : Can P w K mg base CX0 1 "number_fits" ["number", "word"] spNum) (C_at_fits : Can P w K mg base CX0 4 "at_fits" ["at", "word"] spAt) :
    Can P w K mg base CX0 5 "is_answer" ["thing"] (spO ansF) := by
  refine F.can sc_is_answer (fun _ _ _ _ _ _ us hl => match us, hl with | [_], _ => rfl) (fun vs H Q E h => ?_) (fun f cdv A outer s H vs Q E hr h => ?_)
  · obtain ⟨_, _, rfl, _⟩ := h; rfl
  · obtain ⟨x, o, rfl, ht, k⟩ := h
    refine ⟨_, (pss_cons (ps_if (PW.pt (pw_or (pt_not (pt_truth (pe_callB call_isinst (by rfl) B.isinstance bt_isinstance (pa_cons (pv 0) (pa_cons (pe_bltn (v := .ty "tuple") rfl B.tuple bt_tuple rfl) pa_nil))) (fun _ => rfl))) (pw_or1 (pt_cmpR op_ne (pe_callB call_len (by rfl) B.len bt_len (pa_cons (pv 0) pa_nil)) pe_int (nomark _))))) (pss_one (ps_ret pe_bl)) pss_nil)
      (pss_cons (ps_if (PW.pt (pw_or (pt_not (pt_truth (pe_can C_is_whole (hr.mono (by decide)) rfl (pa_cons (pe_ix ix_seq (pv 0) pe_int (fun _ _ => rfl)) pa_nil)) (fun _ => rfl))) (pw_or1 (pt_not (pt_truth (pe_callB call_isinst (by rfl) B.isinstance bt_isinstance (pa_cons (pe_ix ix_seq (pv 0) pe_int (fun _ _ => rfl)) (pa_cons (pe_bltn (v := .ty "str") rfl B.str bt_str rfl) pa_nil))) (fun _ => rfl)))))) (pss_one (ps_ret pe_bl)) pss_nil)
      (pss_one (ps_ret (pe_and (pe_can C_number_fits (hr.mono (by decide)) rfl (pa_cons (pe_ix ix_seq (pv 0) pe_int (fun _ _ => rfl)) (pa_cons (pe_ix ix_seq (pv 0) pe_int (fun _ _ => rfl)) pa_nil))) (pe_one (pe_can C_at_fits (hr.mono (by decide)) rfl (pa_cons (pe_ix ix_seq (pv 0) pe_int (fun _ _ => rfl)) (pa_cons (pe_ix ix_seq (pv 0) pe_int (fun _ _ => rfl)) pa_nil))))))))), ?_⟩
    cases o with
    | none =>
      obtain ⟨kd, hk, hn⟩ := ht
      refine ⟨_, rfl, _, _, _, _, rfl, hk.tyOf, kit_tuple kd, _, rfl, ?_⟩
      rw [hn]
      exact k _ (Same.refl _)
    | some xs =>
      obtain ⟨a, rfl, ha, hl, hx⟩ := ht
      refine ⟨_, rfl, _, _, _, _, rfl, (IsK.tup ha).tyOf, kit_tuple .tup, _, rfl, ?_⟩
      refine ⟨_, rfl, _, _, rfl, .inr ⟨xs, SqT.of ha, rfl⟩, rfl, _, rfl, ?_⟩
      refine ite2 (fun g1 => ?_) (fun g1 => ?_)
      · have g : ¬ xs.length = 3 := by
          intro e; rw [e] at g1; revert g1; decide
        refine qb ?_ (k _ (Same.refl _))
        show ansF xs = false
        unfold ansF
        split
        · rename_i e; exact absurd rfl g
        · rfl
      · have g : xs.length = 3 := by
          apply Classical.byContradiction
          intro e
          apply g1
          have : ¬ V.int (xs.length : Int) = V.int 3 := fun z => e (by injection z with z; omega)
          simp [this]
        obtain ⟨x0, x1, x2, rfl⟩ : ∃ x0 x1 x2, xs = [x0, x1, x2] := by
          match xs, g with
          | [x0, x1, x2], _ => exact ⟨x0, x1, x2, rfl⟩
        obtain ⟨⟨k0, hk0⟩, _, _⟩ := hx x0 (by simp)
        obtain ⟨⟨k1, hk1⟩, _, _⟩ := hx x1 (by simp)
        obtain ⟨⟨k2, hk2⟩, z2, _⟩ := hx x2 (by simp)
        refine ⟨_, rfl, Or.inr (Or.inl ⟨a, _, _, _, rfl, rfl, SqT.of ha, rfl, x0, k0, rfl, hk0, fun H1 s1 => ⟨_, rfl, ?_⟩⟩)⟩
        have ha1 := s1 _ _ ha
        refine ite2 (fun g2 => ?_) (fun g2 => ?_)
        · refine qb ?_ (k _ s1)
          have g3 : wholeV x0 = false := by simpa using g2
          show ansF [x0, x1, x2] = false
          cases x0 <;> first | rfl | cases g3
        · have g3 : wholeV x0 = true := by simpa using g2
          obtain ⟨n, rfl⟩ := whole_int g3
          refine ⟨_, rfl, Or.inr (Or.inl ⟨a, _, _, _, rfl, rfl, SqT.of ha1, rfl, _, _, _, _, rfl, (hk1.same s1).tyOf, kit_str k1, _, rfl, ?_⟩)⟩
          refine ite2 (fun g4 => ?_) (fun g4 => ?_)
          · refine qb ?_ (k _ s1)
            have g5 : isStr k1 = false := by simpa using g4
            show ansF [.int n, x1, x2] = false
            cases hk1 <;> first | rfl | cases g5
          · obtain ⟨wd, rfl⟩ := hk1.isS (by simpa using g4)
            refine ⟨_, rfl, Or.inr (Or.inl ⟨a, _, _, _, rfl, rfl, SqT.of ha1, rfl, _, rfl, Or.inr (Or.inl ⟨a, _, _, _, rfl, rfl, SqT.of ha1, rfl, n, wd, rfl, _, rfl, ?_⟩)⟩)⟩
            refine ite2 (fun g6 => ?_) (fun g6 => ?_)
            · refine ⟨_, rfl, Or.inr (Or.inl ⟨a, _, _, _, rfl, rfl, SqT.of ha1, rfl, _, rfl, Or.inr (Or.inl ⟨a, _, _, _, rfl, rfl, SqT.of ha1, rfl, x2, k2, wd, rfl, hk2.same s1, z2, fun H2 s2 => ?_⟩)⟩)⟩
              refine qb ?_ (k _ (s1.trans s2))
              show (numF n wd && atF x2 wd) = _
              rw [g6, Bool.true_and]
            · refine qb ?_ (k _ s1)
              show (numF n wd && atF x2 wd) = _
              have g7 : numF n wd = false := by simpa using g6
              rw [g7, Bool.false_and]
end
end K80

set_option Elab.async false
set_option linter.all false
set_option maxRecDepth 100000
namespace K80
open PySem L2 BB PP
section
variable {P : Program} {w : World} {K : PySem.W.Frag} {mg : Str → Option Value} {base : Heap} {aE aP aR aT aO aX : Addr}
theorem sc_is_wish_turn : FnScope ["thing"] ["thing"] (defScope s_is_wish_turn) := ⟨rfl, rfl, rfl, by decide +kernel, rfl, by decide +kernel, by decide +kernel⟩
theorem ok_wturn (F : Def K mg "is_wish_turn" s_is_wish_turn) (B : Blt mg) (C_is_whole : Can P w K mg base CX0 1 "is_whole" ["thing"] (sp0 wholeV)) : Can P w K mg base CX0 2 "is_wish_turn" ["thing"] (spF wishF) := by
  refine F.can sc_is_wish_turn (fun _ _ _ _ _ _ us hl => match us, hl with | [_], _ => rfl) (fun vs H Q E h => ?_) (fun f cdv A outer s H vs Q E hr h => ?_)
  · obtain ⟨_, _, _, _, _, _, rfl, _⟩ := h; rfl
  · obtain ⟨a, x0, x1, x2, x3, r, rfl, hF, k⟩ := h
    obtain ⟨ha, hl, hx⟩ := id hF
    refine ⟨_, (pss_one (ps_ret (pe_and (pe_cmpR op_eq (pe_ix ix_seq (pv 0) pe_int (fun _ _ => rfl)) pe_str (nomark _)) (pe_and (pe_cmpR op_eq (pe_callB call_len (by rfl) B.len bt_len (pa_cons (pv 0) pa_nil)) pe_int (nomark _)) (pe_and (pe_can C_is_whole (hr.mono (by decide)) rfl (pa_cons (pe_ix ix_seq (pv 0) pe_int (fun _ _ => rfl)) pa_nil)) (pe_one (pe_cmpR op_gt (pe_ix ix_seq (pv 0) pe_int (fun _ _ => rfl)) pe_int (nomark _)))))))), ?_⟩
    obtain ⟨_, _, f0⟩ := hx x0 (by simp)
    obtain ⟨⟨k3, hk3⟩, _, f3⟩ := hx x3 (by simp)
    refine ⟨_, rfl, Or.inr (Or.inl ⟨a, _, _, _, rfl, rfl, SqT.of ha, atI_nat (j := 0) rfl, scal_str f0, _, rfl, ?_⟩)⟩
    refine ite2 (fun g1 => ?_) (fun g1 => ?_)
    · refine ⟨_, rfl, _, _, rfl, .inr ⟨_, SqT.of ha, rfl⟩, rfl, _, rfl, ?_⟩
      refine ite2 (fun g2 => ?_) (fun g2 => ?_)
      · have er : r = [] := by
          have : (V.int ((x0 :: x1 :: x2 :: x3 :: r).length : Nat)) = .int 4 := by simpa using g2
          cases r with
          | nil => rfl
          | cons a t => simp at this; omega
        subst er
        refine ⟨_, rfl, Or.inr (Or.inl ⟨a, _, _, _, rfl, rfl, SqT.of ha, rfl, x3, k3, rfl, hk3, fun H1 s1 => ⟨_, rfl, ?_⟩⟩)⟩
        have ha1 := s1 _ _ ha
        refine ite2 (fun g3 => ?_) (fun g3 => ?_)
        · obtain ⟨n, rfl⟩ := whole_int g3
          refine ⟨_, rfl, Or.inr (Or.inl ⟨a, _, _, _, rfl, rfl, SqT.of ha1, rfl, _, _, rfl, rfl, ?_⟩)⟩
          refine qb ?_ (k _ s1)
          show (decide (x0 = .str "wish") && decide (0 < n)) = _
          rw [g1, Bool.true_and]
        · refine qb ?_ (k _ s1)
          show (decide (x0 = .str "wish") && posV x3) = _
          have : posV x3 = false := by cases x3 <;> first | rfl | exact absurd rfl g3
          rw [this, Bool.and_false]
      · refine qb ?_ (k _ (Same.refl _))
        have ne : r ≠ [] := fun e => g2 (by subst e; rfl)
        cases r with
        | nil => exact absurd rfl ne
        | cons b t =>
          symm
          show _ = false
          simpa using g2
    · refine qb ?_ (k _ (Same.refl _))
      have g : decide (x0 = .str "wish") = false := by simpa using g1
      cases r with
      | nil => show (decide (x0 = .str "wish") && posV x3) = _; rw [g, Bool.false_and]
      | cons b t => rfl
theorem sc_is_answer_turn : FnScope ["thing"] ["thing"] (defScope s_is_answer_turn) := ⟨rfl, rfl, rfl, by decide +kernel, rfl, by decide +kernel, by decide +kernel⟩
theorem ok_aturn (F : Def K mg "is_answer_turn" s_is_answer_turn) (B : Blt mg) (C_is_answer : Can P w K mg base CX0 5 "is_answer" ["thing"] (spO ansF)) : Can P w K mg base CX0 6 "is_answer_turn" ["thing"] (spF answerF) := by
  refine F.can sc_is_answer_turn (fun _ _ _ _ _ _ us hl => match us, hl with | [_], _ => rfl) (fun vs H Q E h => ?_) (fun f cdv A outer s H vs Q E hr h => ?_)
  · obtain ⟨_, _, _, _, _, _, rfl, _⟩ := h; rfl
  · obtain ⟨a, x0, x1, x2, x3, r, rfl, hF, k⟩ := h
    obtain ⟨ha, hl, hx⟩ := id hF
    refine ⟨_, (pss_one (ps_ret (pe_and (pe_cmpR op_eq (pe_ix ix_seq (pv 0) pe_int (fun _ _ => rfl)) pe_str (nomark _)) (pe_and (pe_can C_is_answer (hr.mono (by decide)) rfl (pa_cons (pe_slice sl_tup (pv 0) (po_some pe_int) po_none) pa_nil)) (pe_one (pe_cmpR op_gt (pe_ix ix_seq (pv 0) pe_int (fun _ _ => rfl)) pe_int (nomark _))))))), ?_⟩
    obtain ⟨_, _, f0⟩ := hx x0 (by simp)
    refine ⟨_, rfl, Or.inr (Or.inl ⟨a, _, _, _, rfl, rfl, SqT.of ha, atI_nat (j := 0) rfl, scal_str f0, _, rfl, ?_⟩)⟩
    refine ite2 (fun g1 => ?_) (fun g1 => ?_)
    · refine ⟨_, rfl, _, rfl, a, _, rfl, SqT.of ha, nw_from (n := 3) (by decide) (by simp), fun p hp => ?_⟩
      obtain ⟨s1, w1⟩ := same_at (o := .tup (cutV (x0 :: x1 :: x2 :: x3 :: r) (some 3) none)) hp
      have ec : cutV (x0 :: x1 :: x2 :: x3 :: r) (some 3) none = x3 :: r := cut_from _ 3
      refine ⟨.ref p, some (x3 :: r), rfl, ⟨p, rfl, by rw [w1, ec], by simp at hl ⊢; omega, fun y hy => ?_⟩, fun H2 s2 => ⟨_, rfl, ?_⟩⟩
      · obtain ⟨⟨ky, hy1⟩, hy2⟩ := hx y (List.mem_cons_of_mem _ (List.mem_cons_of_mem _ (List.mem_cons_of_mem _ hy)))
        exact ⟨⟨ky, hy1.same s1⟩, hy2⟩
      have ha2 := s2 _ _ (s1 _ _ ha)
      refine ite2 (fun g2 => ?_) (fun g2 => ?_)
      · have g3 : ansF (x3 :: r) = true := g2
        obtain ⟨n, rfl⟩ : ∃ n, x3 = .int n := by
          cases x3 with
          | int n => exact ⟨n, rfl⟩
          | _ => cases g3
        refine ⟨_, rfl, Or.inr (Or.inl ⟨a, _, _, _, rfl, rfl, SqT.of ha2, atI_nat (j := 3) rfl, _, _, rfl, rfl, ?_⟩)⟩
        refine qb ?_ (k _ (s1.trans s2))
        show (decide (x0 = .str "answer") && ansF (.int n :: r) && decide (0 < n)) = _
        rw [g1, g3, Bool.true_and, Bool.true_and]
      · refine qb ?_ (k _ (s1.trans s2))
        have g3 : ansF (x3 :: r) = false := by
          have : ¬ ansF (x3 :: r) = true := g2
          simpa using this
        show (decide (x0 = .str "answer") && ansF (x3 :: r) && posV x3) = _
        rw [g3, Bool.and_false, Bool.false_and]
    · refine qb ?_ (k _ (Same.refl _))
      have g : decide (x0 = .str "answer") = false := by simpa using g1
      show (decide (x0 = .str "answer") && _ && _) = _
      rw [g, Bool.false_and, Bool.false_and]
theorem sc_is_turn : FnScope ["thing"] ["thing"] (defScope s_is_turn) := ⟨rfl, rfl, rfl, by decide +kernel, rfl, by decide +kernel, by decide +kernel⟩
theorem ok_turn (F : Def K mg "is_turn" s_is_turn) (B : Blt mg) (C_is_person : Can P w K mg base CX0 3 "is_person" ["thing"] (sp1 personV)) (C_is_wish_turn : Can P w K mg base CX0 2 "is_wish_turn" ["thing"] (spF wishF)) (C_is_answer_turn : Can P w K mg base CX0 6 "is_answer_turn" ["thing"] (spF answerF)) : Can P w K mg base CX0 7 "is_turn" ["thing"] (spO turnF) := by
  refine F.can sc_is_turn (fun _ _ _ _ _ _ us hl => match us, hl with | [_], _ => rfl) (fun vs H Q E h => ?_) (fun f cdv A outer s H vs Q E hr h => ?_)
  · obtain ⟨_, _, rfl, _⟩ := h; rfl
  · obtain ⟨x, o, rfl, ht, k⟩ := h
    refine ⟨_, (pss_cons (ps_if (PW.pt (pw_or (pt_not (pt_truth (pe_callB call_isinst (by rfl) B.isinstance bt_isinstance (pa_cons (pv 0) (pa_cons (pe_bltn (v := .ty "tuple") rfl B.tuple bt_tuple rfl) pa_nil))) (fun _ => rfl))) (pw_or1 (pt_cmpR op_lt (pe_callB call_len (by rfl) B.len bt_len (pa_cons (pv 0) pa_nil)) pe_int (nomark _))))) (pss_one (ps_ret pe_bl)) pss_nil)
      (pss_cons (ps_if (PW.pt (pw_or (pt_not (pt_truth (pe_can C_is_person (hr.mono (by decide)) rfl (pa_cons (pe_ix ix_seq (pv 0) pe_int (fun _ _ => rfl)) pa_nil)) (fun _ => rfl))) (pw_or (pt_not (pt_truth (pe_can C_is_person (hr.mono (by decide)) rfl (pa_cons (pe_ix ix_seq (pv 0) pe_int (fun _ _ => rfl)) pa_nil)) (fun _ => rfl))) (pw_or1 (pt_cmpR op_eq (pe_ix ix_seq (pv 0) pe_int (fun _ _ => rfl)) (pe_ix ix_seq (pv 0) pe_int (fun _ _ => rfl)) (nomark _)))))) (pss_one (ps_ret pe_bl)) pss_nil)
      (pss_one (ps_ret (pe_or (pe_can C_is_wish_turn (hr.mono (by decide)) rfl (pa_cons (pv 0) pa_nil)) (pe_one (pe_can C_is_answer_turn (hr.mono (by decide)) rfl (pa_cons (pv 0) pa_nil)))))))), ?_⟩
    cases o with
    | none =>
      obtain ⟨kd, hk, hn⟩ := ht
      refine ⟨_, rfl, _, _, _, _, rfl, hk.tyOf, kit_tuple kd, _, rfl, ?_⟩
      rw [hn]
      exact k _ (Same.refl _)
    | some xs =>
      obtain ⟨a, rfl, ha, hl, hx⟩ := ht
      refine ⟨_, rfl, _, _, _, _, rfl, (IsK.tup ha).tyOf, kit_tuple .tup, _, rfl, ?_⟩
      refine ⟨_, rfl, _, _, rfl, .inr ⟨xs, SqT.of ha, rfl⟩, _, _, rfl, rfl, _, rfl, ?_⟩
      refine ite2 (fun g1 => ?_) (fun g1 => ?_)
      · have g : xs.length < 4 := by have : (xs.length : Int) < 4 := of_decide_eq_true g1
                                     omega
        refine qb ?_ (k _ (Same.refl _))
        exact (len3 g).1
      · have g : 4 ≤ xs.length := by have : ¬ (xs.length : Int) < 4 := fun z => g1 (decide_eq_true z)
                                     omega
        obtain ⟨x0, x1, x2, x3, r, rfl⟩ := len4 g
        have hF : Four H a x0 x1 x2 x3 r := ⟨ha, hl, hx⟩
        obtain ⟨⟨k1, hk1⟩, z1, _⟩ := hx x1 (by simp)
        obtain ⟨⟨k2, hk2⟩, z2, _⟩ := hx x2 (by simp)
        refine ⟨_, rfl, Or.inr (Or.inl ⟨a, _, _, _, rfl, rfl, SqT.of ha, atI_nat (j := 1) rfl, x1, k1, rfl, hk1, z1, fun H1 s1 => ⟨_, rfl, ?_⟩⟩)⟩
        refine ite2 (fun g2 => ?_) (fun g2 => ?_)
        · refine qb ?_ (k _ s1)
          have : personV x1 = false := by simpa using g2
          show (personV x1 && _ && _ && _) = false
          rw [this, Bool.false_and, Bool.false_and, Bool.false_and]
        have p1 : personV x1 = true := by simpa using g2
        refine ⟨_, rfl, Or.inr (Or.inl ⟨a, _, _, _, rfl, rfl, SqT.of (s1 _ _ ha), atI_nat (j := 2) rfl, x2, k2, rfl, hk2.same s1, z2, fun H2 s2 => ⟨_, rfl, ?_⟩⟩)⟩
        refine ite2 (fun g3 => ?_) (fun g3 => ?_)
        · refine qb ?_ (k _ (s1.trans s2))
          have : personV x2 = false := by simpa using g3
          show (personV x1 && personV x2 && _ && _) = false
          rw [this, Bool.and_false, Bool.false_and, Bool.false_and]
        have p2 : personV x2 = true := by simpa using g3
        have hF2 := hF.same (s1.trans s2)
        obtain ⟨t1, rfl⟩ := person_str p1
        obtain ⟨t2, rfl⟩ := person_str p2
        refine ⟨_, rfl, Or.inr (Or.inl ⟨a, _, _, _, rfl, rfl, SqT.of hF2.1, atI_nat (j := 1) rfl, _, rfl, Or.inr (Or.inl ⟨a, _, _, _, rfl, rfl, SqT.of hF2.1, atI_nat (j := 2) rfl, rfl, _, rfl, ?_⟩)⟩)⟩
        refine ite2 (fun g4 => ?_) (fun g4 => ?_)
        · refine qb ?_ (k _ (s1.trans s2))
          show (personV _ && personV _ && !decide (V.str t1 = V.str t2) && _) = false
          rw [g4, Bool.not_true, Bool.and_false, Bool.false_and]
        have g5 : decide (V.str t1 = V.str t2) = false := by simpa using g4
        have e : turnF (x0 :: .str t1 :: .str t2 :: x3 :: r) = (wishF (x0 :: .str t1 :: .str t2 :: x3 :: r) || answerF (x0 :: .str t1 :: .str t2 :: x3 :: r)) := by
          show (personV _ && personV _ && !decide (V.str t1 = V.str t2) && _) = _
          rw [p1, p2, g5]; rfl
        refine ⟨_, rfl, a, x0, _, _, x3, r, rfl, hF2, fun H3 s3 => ⟨_, rfl, ?_⟩⟩
        refine ite2 (fun g6 => ?_) (fun g6 => ?_)
        · refine qb ?_ (k _ ((s1.trans s2).trans s3))
          refine e.trans ?_
          rw [g6, Bool.true_or]
        · refine ⟨_, rfl, a, x0, _, _, x3, r, rfl, hF2.same s3, fun H4 s4 => ?_⟩
          refine qb ?_ (k _ (((s1.trans s2).trans s3).trans s4))
          have g7 : wishF (x0 :: .str t1 :: .str t2 :: x3 :: r) = false := by simpa using g6
          refine e.trans ?_
          rw [g7, Bool.false_or]
theorem sc_is_between_houses : FnScope ["turn"] ["turn"] (defScope s_is_between_houses) := ⟨rfl, rfl, rfl, by decide +kernel, rfl, by decide +kernel, by decide +kernel⟩
theorem ok_between (F : Def K mg "is_between_houses" s_is_between_houses) (C_house_of : Can P w K mg base (CXR P w) 6 "house_of" ["person"] (spPart aP homeF)) : Can P w K mg base CX0 7 "is_between_houses" ["turn"] (spG betweenG) := by
  refine F.can sc_is_between_houses (fun _ _ _ _ _ _ us hl => match us, hl with | [_], _ => rfl) (fun vs H Q E h => ?_) (fun f cdv A outer s H vs Q E hr h => ?_)
  · obtain ⟨_, _, _, _, _, _, rfl, _⟩ := h; rfl
  · obtain ⟨a, x0, t, u, x3, r, rfl, hF, p1, p2, hw, k⟩ := h
    refine ⟨_, (pss_one (ps_ret (pe_cmpR op_ne (pe_can0 C_house_of (hr.mono (by decide)) rfl (pa_cons (pe_ix ix_seq (pv 0) pe_int (fun _ _ => rfl)) pa_nil)) (pe_can0 C_house_of (hr.mono (by decide)) rfl (pa_cons (pe_ix ix_seq (pv 0) pe_int (fun _ _ => rfl)) pa_nil)) (nomark _)))), ?_⟩
    obtain ⟨_, z1, _⟩ := hF.2.2 (.str t) (by simp)
    obtain ⟨_, z2, _⟩ := hF.2.2 (.str u) (by simp)
    refine ⟨_, rfl, Or.inr (Or.inl ⟨a, _, _, _, rfl, rfl, SqT.of hF.1, atI_nat (j := 1) rfl, _, _, rfl, .str t, z1, fun H1 z s1 e _ => ?_, fun H1 s1 g => absurd (g.symm.trans p1) Bool.false_ne_true⟩)⟩
    cases e
    refine ⟨_, rfl, Or.inr (Or.inl ⟨a, _, _, _, rfl, rfl, SqT.of (hF.same s1).1, atI_nat (j := 2) rfl, _, _, rfl, .str u, z2, fun H2 z s2 e _ => ?_, fun H1 s1 g => absurd (g.symm.trans p2) Bool.false_ne_true⟩)⟩
    cases e
    exact ⟨rfl, k _ (s1.trans s2)⟩
theorem sc_is_letter : FnScope ["thing"] ["thing"] (defScope s_is_letter) := ⟨rfl, rfl, rfl, by decide +kernel, rfl, by decide +kernel, by decide +kernel⟩
theorem ok_letter (F : Def K mg "is_letter" s_is_letter) (C_is_turn : Can P w K mg base CX0 7 "is_turn" ["thing"] (spO turnF)) (C_is_between_houses : Can P w K mg base CX0 7 "is_between_houses" ["turn"] (spG betweenG)) : Can P w K mg base CX0 8 "is_letter" ["thing"] (spO letterF) := by
  refine F.can sc_is_letter (fun _ _ _ _ _ _ us hl => match us, hl with | [_], _ => rfl) (fun vs H Q E h => ?_) (fun f cdv A outer s H vs Q E hr h => ?_)
  · obtain ⟨_, _, rfl, _⟩ := h; rfl
  · obtain ⟨x, o, rfl, ht, k⟩ := h
    refine ⟨_, (pss_one (ps_ret (pe_and (pe_can C_is_turn (hr.mono (by decide)) rfl (pa_cons (pv 0) pa_nil)) (pe_one (pe_can C_is_between_houses (hr.mono (by decide)) rfl (pa_cons (pv 0) pa_nil)))))), ?_⟩
    refine ⟨_, rfl, x, o, rfl, ht, fun H1 s1 => ⟨_, rfl, ?_⟩⟩
    refine ite2 (fun g1 => ?_) (fun g1 => ?_)
    · cases o with
      | none => cases g1
      | some xs =>
        obtain ⟨a, rfl, ha, hl, hx⟩ := ht
        have g : turnF xs = true := g1
        have l4 : 4 ≤ xs.length := by
          apply Classical.byContradiction
          intro z
          rw [(len3 (by omega)).1] at g; cases g
        obtain ⟨x0, x1, x2, x3, r, rfl⟩ := len4 l4
        have hF : Four H a x0 x1 x2 x3 r := ⟨ha, hl, hx⟩
        obtain ⟨q1, q2, q0⟩ := turn_word g
        obtain ⟨t1, rfl⟩ := person_str q1
        obtain ⟨t2, rfl⟩ := person_str q2
        refine ⟨_, rfl, a, x0, t1, t2, x3, r, rfl, hF.same s1, q1, q2, q0, fun H2 s2 => ?_⟩
        refine qb ?_ (k _ (s1.trans s2))
        show (turnF _ && !decide (homeF t1 = homeF t2)) = _
        rw [g, Bool.true_and]
        congr 1
        rw [Bool.eq_iff_iff, decide_eq_true_iff, decide_eq_true_iff]
        exact ⟨fun z => by rw [z], fun z => by injection z⟩
    · refine qb ?_ (k _ s1)
      cases o with
      | none => rfl
      | some xs =>
        have g : turnF xs = false := by
          have : ¬ turnF xs = true := g1
          simpa using this
        show letterF xs = false
        by_cases l4 : 4 ≤ xs.length
        · obtain ⟨x0, x1, x2, x3, r, rfl⟩ := len4 l4
          show (turnF _ && _) = false
          rw [g, Bool.false_and]
        · exact (len3 (by omega)).2
end
end K80

set_option Elab.async false
set_option linter.all false
set_option maxRecDepth 100000
namespace K80
open PySem L2 BB PP
section
variable {P : Program} {w : World} {K : PySem.W.Frag} {mg : Str → Option Value} {base : Heap} {aE aP aR aT aO aX : Addr}
theorem flat_kind {H : Hp} {y : V} (f : flatV y = true) : ∃ k, IsK H y k := by
  cases y with
  | non => exact ⟨_, .non⟩
  | bl b => exact ⟨_, .bl b⟩
  | int i => exact ⟨_, .int i⟩
  | str x => exact ⟨_, .str x⟩
  | _ => cases f
def spText (g : V → Str) (ok : V → Prop) : Sp := fun vs H Q _ => ∃ (a : Addr) (xs : List V), vs = [.ref a] ∧ H a = some (.tup xs) ∧ xs.length ≤ 400 ∧ (∀ x ∈ xs, ok x) ∧ ∀ H', Same H H' → Q (.str (Str.join " " (xs.map g))) H'
theorem sc_turn_text : FnScope ["turn"] ["turn"] (defScope s_turn_text) := ⟨rfl, rfl, rfl, by decide +kernel, rfl, by decide +kernel, by decide +kernel⟩
set_option maxHeartbeats 1000000 in
theorem ok_turn_text (F : Def K mg "turn_text" s_turn_text) (B : Blt mg) : Can P w K mg base CX0 1 "turn_text" ["turn"] (spText partS Part) := by
  refine F.can sc_turn_text (fun _ _ _ _ _ _ us hl => match us, hl with | [_], _ => rfl) (fun vs H Q E h => ?_) (fun f cdv A outer s H vs Q E hr h => ?_)
  · obtain ⟨_, _, rfl, _⟩ := h; rfl
  · obtain ⟨a, xs, rfl, ha, hl, hx, k⟩ := h
    refine ⟨_, (pss_one (ps_ret (pe_bm PySem.F.plainAttrs_str PySem.F.slot_str_join PySem.F.type_str_join mt_join pe_str (pa_cons (pe_comp (N := ["part"]) (ci := []) (compSc_of (sc0 := defScope s_turn_text) (N0 := ["turn"]) (by decide +kernel) rfl rfl (fun y hy => PySem.W.cellsFrom_some _ _ _ (.inl hy))) rfl (pi_tup (pv 0)) (fun _ _ _ _ _ => (pe_callTy call_strA (by rfl) B.str bt_str (pa_cons (pv 0) pa_nil)))) pa_nil)))), ?_⟩
    have big : (100000 : Nat) < sizeLine := by decide
    have sp1 : (" " : Str).length = 1 := by decide +kernel
    refine ⟨rfl, _, rfl, a, rfl, ⟨_, SqT.of ha⟩, fun D hD => comp_by xs.length (by omega) (fun i ys H2 => ys = (xs.take i).map (fun v => V.str (partS v)) ∧ H2 = upd H D (.lst ys)) ⟨rfl, rfl⟩ ?_ ?_ ?_⟩
    · rintro i ys H2 hi ⟨rfl, rfl⟩
      refine ⟨upd_same, ?_⟩
      rw [List.length_map, List.length_take]; omega
    · rintro ys H2 ⟨rfl, rfl⟩
      have hDa : a ≠ D := fun e => by rw [e, hD] at ha; cases ha
      have el : xs.take xs.length = xs := List.take_length ..
      obtain ⟨j1, j2, j3⟩ := join_ok " " (by omega) (ts := xs.map partS) (by rw [List.length_map]; exact hl) (fun s hs => by obtain ⟨v, hv, rfl⟩ := List.mem_map.mp hs; exact (hx v hv).len)
      refine ⟨⟨xs, SqT.of (by rw [upd_ne hDa]; exact ha), Nat.le_refl _⟩, " ", D, xs.map partS, rfl, rfl, SqL.of (by rw [upd_same, el, List.map_map]; rfl), j1, j2, ?_⟩
      rw [joinS_eq]
      exact k _ (same_upd hD)
    · rintro i ys H2 hi ⟨rfl, rfl⟩
      have hDa : a ≠ D := fun e => by rw [e, hD] at ha; cases ha
      have sq : SqT K (upd H D (.lst ((xs.take i).map fun v => V.str (partS v)))) a xs := SqT.of (by rw [upd_ne hDa]; exact ha)
      have hxi : xs[i]? = some xs[i] := List.getElem?_eq_getElem hi
      refine ⟨⟨xs, _, sq, hxi⟩, ?_⟩
      rintro v H' ⟨rfl, hv⟩ R hR
      have ev : v = xs[i] := by have := hv xs sq; rw [hxi] at this; exact (Option.some.inj this).symm
      have pv := hx xs[i] (List.getElem_mem _)
      rw [← ev] at pv
      have step : R (.str (partS v)) (upd H D (.lst ((xs.take i).map fun v => V.str (partS v)))) := by
        refine hR _ _ upd_same ⟨?_, upd_upd⟩
        rw [List.take_add_one, hxi, List.map_append, ev]; rfl
      rcases pv with ⟨z, rfl, _⟩ | ⟨n, rfl, n0, n1⟩
      · exact ⟨_, rfl, Or.inr (Or.inl ⟨z, rfl, step⟩)⟩
      · exact ⟨_, rfl, Or.inl ⟨n, rfl, log_small n0 n1, step⟩⟩
theorem sc_deed_text : FnScope ["deed"] ["deed"] (defScope s_deed_text) := ⟨rfl, rfl, rfl, by decide +kernel, rfl, by decide +kernel, by decide +kernel⟩
set_option maxHeartbeats 1000000 in
theorem ok_deed_text (F : Def K mg "deed_text" s_deed_text) (B : Blt mg) : Can P w K mg base CX0 1 "deed_text" ["deed"] (spText deedS fun v => v = .non ∨ Part v) := by
  refine F.can sc_deed_text (fun _ _ _ _ _ _ us hl => match us, hl with | [_], _ => rfl) (fun vs H Q E h => ?_) (fun f cdv A outer s H vs Q E hr h => ?_)
  · obtain ⟨_, _, rfl, _⟩ := h; rfl
  · obtain ⟨a, xs, rfl, ha, hl, hx, k⟩ := h
    refine ⟨_, (pss_one (ps_ret (pe_bm PySem.F.plainAttrs_str PySem.F.slot_str_join PySem.F.type_str_join mt_join pe_str (pa_cons (pe_comp (N := ["part"]) (ci := []) (compSc_of (sc0 := defScope s_deed_text) (N0 := ["deed"]) (by decide +kernel) rfl rfl (fun y hy => PySem.W.cellsFrom_some _ _ _ (.inl hy))) rfl (pi_tup (pv 0)) (fun _ _ _ _ _ => (pe_ifExp (pt_cmpR op_isN (pv 0) pe_non (nomark _)) pe_str (pe_callTy call_strA (by rfl) B.str bt_str (pa_cons (pv 0) pa_nil))))) pa_nil)))), ?_⟩
    have big : (100000 : Nat) < sizeLine := by decide
    have sp1 : (" " : Str).length = 1 := by decide +kernel
    have dl : ∀ v, (v = .non ∨ Part v) → (deedS v).length ≤ 200 := fun v hv => by
      unfold deedS
      split
      · decide +kernel
      · rcases hv with h | h
        · contradiction
        · exact h.len
    refine ⟨rfl, _, rfl, a, rfl, ⟨_, SqT.of ha⟩, fun D hD => comp_by xs.length (by omega) (fun i ys H2 => ys = (xs.take i).map (fun v => V.str (deedS v)) ∧ H2 = upd H D (.lst ys)) ⟨rfl, rfl⟩ ?_ ?_ ?_⟩
    · rintro i ys H2 hi ⟨rfl, rfl⟩
      refine ⟨upd_same, ?_⟩
      rw [List.length_map, List.length_take]; omega
    · rintro ys H2 ⟨rfl, rfl⟩
      have hDa : a ≠ D := fun e => by rw [e, hD] at ha; cases ha
      have el : xs.take xs.length = xs := List.take_length ..
      obtain ⟨j1, j2, j3⟩ := join_ok " " (by omega) (ts := xs.map deedS) (by rw [List.length_map]; exact hl) (fun s hs => by obtain ⟨v, hv, rfl⟩ := List.mem_map.mp hs; exact dl v (hx v hv))
      refine ⟨⟨xs, SqT.of (by rw [upd_ne hDa]; exact ha), Nat.le_refl _⟩, " ", D, xs.map deedS, rfl, rfl, SqL.of (by rw [upd_same, el, List.map_map]; rfl), j1, j2, ?_⟩
      rw [joinS_eq]
      exact k _ (same_upd hD)
    · rintro i ys H2 hi ⟨rfl, rfl⟩
      have hDa : a ≠ D := fun e => by rw [e, hD] at ha; cases ha
      have sq : SqT K (upd H D (.lst ((xs.take i).map fun v => V.str (deedS v)))) a xs := SqT.of (by rw [upd_ne hDa]; exact ha)
      have hxi : xs[i]? = some xs[i] := List.getElem?_eq_getElem hi
      refine ⟨⟨xs, _, sq, hxi⟩, ?_⟩
      rintro v H' ⟨rfl, hv⟩ R hR
      have ev : v = xs[i] := by have := hv xs sq; rw [hxi] at this; exact (Option.some.inj this).symm
      have pv := hx xs[i] (List.getElem_mem _)
      rw [← ev] at pv
      have step : R (.str (deedS v)) (upd H D (.lst ((xs.take i).map fun v => V.str (deedS v)))) := by
        refine hR _ _ upd_same ⟨?_, upd_upd⟩
        rw [List.take_add_one, hxi, List.map_append, ev]; rfl
      refine ⟨_, rfl, rfl, _, rfl, ?_⟩
      rcases pv with rfl | ⟨z, rfl, _⟩ | ⟨n, rfl, n0, n1⟩
      · exact if_t rfl step
      · exact if_f rfl ⟨_, rfl, Or.inr (Or.inl ⟨z, rfl, step⟩)⟩
      · exact if_f rfl ⟨_, rfl, Or.inl ⟨n, rfl, log_small n0 n1, step⟩⟩
def spNumT : Sp := fun vs H Q _ => ∃ (t : Str) (b : Bool), vs = [.str t] ∧ t.length < sizeLine ∧ ((b = true ∧ ∃ n, NumT n t) ∨ (b = false ∧ Plain t)) ∧ ∀ H', Same H H' → Q (.bl b) H'
theorem sc_is_number_text : FnScope ["text"] ["text"] (defScope s_is_number_text) := ⟨rfl, rfl, rfl, by decide +kernel, rfl, by decide +kernel, by decide +kernel⟩
theorem ok_numt (F : Def K mg "is_number_text" s_is_number_text) (TF : TF mg) (C_is_made_of : Can P w K mg base CX0 1 "is_made_of" ["text", "signs", "most"] spMade) : Can P w K mg base CX0 2 "is_number_text" ["text"] spNumT := by
  refine F.can sc_is_number_text (fun _ _ _ _ _ _ us hl => match us, hl with | [_], _ => rfl) (fun vs H Q E h => ?_) (fun f cdv A outer s H vs Q E hr h => ?_)
  · obtain ⟨_, _, rfl, _⟩ := h; rfl
  · obtain ⟨t, b, rfl, ht, hb, k⟩ := h
    refine ⟨_, (pss_one (ps_ret (pe_and (pe_can C_is_made_of (hr.mono (by decide)) rfl (pa_cons (pv 0) (pa_cons (pe_const rfl TF.FIGURES) (pa_cons (pe_const rfl TF.MOST_FIGURES) pa_nil)))) (pe_one (pe_or (pe_cmpR op_eq (pv 0) pe_str (nomark _)) (pe_one (pe_cmpR op_ne (pe_ix ix_seq (pv 0) pe_int (fun _ _ => rfl)) pe_str (nomark _)))))))), ?_⟩
    refine ⟨_, rfl, t, _, _, rfl, ht, fun H1 s1 => ⟨_, rfl, ?_⟩⟩
    rcases hb with ⟨rfl, n, hn⟩ | ⟨rfl, hp⟩
    · refine if_t (made_num hn) ?_
      refine ⟨_, rfl, rfl, _, rfl, ?_⟩
      refine ite2 (fun g => k _ s1) (fun g => ?_)
      have nz : t ≠ "0" := by simpa using g
      rcases hn.led with e | ⟨c, r, e, hc⟩
      · exact absurd e nz
      · refine ⟨_, rfl, Or.inr (Or.inr ⟨_, _, c, rfl, rfl, Nat.le_of_lt ht, by rw [e]; exact atI_nat (j := 0) rfl, rfl, ?_⟩)⟩
        refine qb ?_ (k _ s1)
        symm
        show (!decide (V.str ⟨#[c]⟩ = V.str "0")) = true
        rw [decide_eq_false]; rfl
        intro z
        injection z with z
        have z2 := congrArg (fun s : Str => s.cps.toList) z
        rw [show ("0" : Str).cps.toList = [48] by decide +kernel] at z2
        simp at z2
        exact hc z2
    · refine if_f (made_plain hp) ?_
      exact k _ s1
def spRead : Sp := fun vs H Q _ => ∃ (t : Str) (v : V), vs = [.str t] ∧ WV t v ∧ ∀ H', Same H H' → Q v H'
theorem sc_read_word : FnScope ["word"] ["word"] (defScope s_read_word) := ⟨rfl, rfl, rfl, by decide +kernel, rfl, by decide +kernel, by decide +kernel⟩
theorem ok_rword (F : Def K mg "read_word" s_read_word) (B : Blt mg) (C_is_number_text : Can P w K mg base CX0 2 "is_number_text" ["text"] spNumT) : Can P w K mg base CX0 3 "read_word" ["word"] spRead := by
  refine F.can sc_read_word (fun _ _ _ _ _ _ us hl => match us, hl with | [_], _ => rfl) (fun vs H Q E h => ?_) (fun f cdv A outer s H vs Q E hr h => ?_)
  · obtain ⟨_, _, rfl, _⟩ := h; rfl
  · obtain ⟨t, v, rfl, hv, k⟩ := h
    refine ⟨_, (pss_one (ps_ret (pe_ifExp (pt_truth (pe_can C_is_number_text (hr.mono (by decide)) rfl (pa_cons (pv 0) pa_nil)) (fun _ => rfl)) (pe_callTy call_intA (by rfl) B.int bt_int (pa_cons (pv 0) pa_nil)) (pv 0)))), ?_⟩
    have big : (100000 : Nat) < sizeLine := by decide
    rcases hv with ⟨n, hn, rfl⟩ | ⟨hp, hl, rfl⟩
    · have hl := hn.len
      refine ⟨_, rfl, t, true, rfl, by omega, .inl ⟨rfl, n, hn⟩, fun H1 s1 => ⟨_, rfl, if_t rfl ?_⟩⟩
      exact ⟨_, rfl, Or.inr ⟨t, n, rfl, hn.val, by omega, k _ s1⟩⟩
    · refine ⟨_, rfl, t, false, rfl, by omega, .inr ⟨rfl, hp⟩, fun H1 s1 => ⟨_, rfl, if_f rfl ?_⟩⟩
      exact ⟨_, rfl, k _ s1⟩
def spParts2 : Sp := fun vs H Q _ => ∃ (ws : List Str) (vals : List V), vs = [.str (Str.join " " ws)] ∧ ws ≠ [] ∧ ws.length ≤ 300 ∧ (∀ w ∈ ws, w.length ≤ 200 ∧ 32 ∉ w.cps.toList) ∧ ws.length = vals.length ∧ (∀ (i : Nat) t v, ws[i]? = some t → vals[i]? = some v → WV t v) ∧ ∀ p H', Same H H' → H' p = some (.tup vals) → Q (.ref p) H'
theorem sc_read_parts : FnScope ["text"] ["text"] (defScope s_read_parts) := ⟨rfl, rfl, rfl, by decide +kernel, rfl, by decide +kernel, by decide +kernel⟩
set_option maxHeartbeats 2000000 in
theorem ok_rparts (F : Def K mg "read_parts" s_read_parts) (B : Blt mg) (C_read_word : Can P w K mg base CX0 3 "read_word" ["word"] spRead) : Can P w K mg base CX0 4 "read_parts" ["text"] spParts2 := by
  refine F.can sc_read_parts (fun _ _ _ _ _ _ us hl => match us, hl with | [_], _ => rfl) (fun vs H Q E h => ?_) (fun f cdv A outer s H vs Q E hr h => ?_)
  · obtain ⟨_, _, rfl, _⟩ := h; rfl
  · obtain ⟨ws, vals, rfl, hne, hl, hw, hlen, hv, k⟩ := h
    refine ⟨_, (pss_one (ps_ret (pe_callTy call_tuple_of (by rfl) B.tuple bt_tuple (pa_cons (pe_comp (N := ["word"]) (ci := []) (compSc_of (sc0 := defScope s_read_parts) (N0 := ["text"]) (by decide +kernel) rfl rfl (fun y hy => PySem.W.cellsFrom_some _ _ _ (.inl hy))) rfl (pi_list (pe_bm PySem.F.plainAttrs_str PySem.F.slot_str_split PySem.F.type_str_split mt_split (pv 0) (pa_cons pe_str pa_nil))) (fun _ _ _ _ _ => (pe_can C_read_word (hr.mono (by decide)) rfl (pa_cons (pv 0) pa_nil)))) pa_nil)))), ?_⟩
    have big : (1000000 : Nat) < sizeLine := by decide
    have sp1 : (" " : Str).length = 1 := by decide +kernel
    obtain ⟨_, _, j3⟩ := join_ok " " (by omega) (ts := ws) (by omega) (fun s hs => (hw s hs).1)
    have esp := split_join hne (fun w hw' => (hw w hw').2)
    refine ⟨_, rfl, rfl, _, _, rfl, rfl, by decide +kernel, j3, parts_len j3, fun l hl0 => ?_⟩
    rw [esp]
    obtain ⟨H1, s1, w1, e1⟩ : ∃ H', Same H H' ∧ H' l = some (.lst (ws.map V.str)) ∧ upd H l (.lst (ws.map V.str)) = H' := ⟨_, (same_at hl0).1, upd_same, rfl⟩
    rw [e1]
    refine ⟨l, rfl, ⟨_, SqL.of w1⟩, fun D hD => comp_by ws.length (by omega) (fun i ys H2 => ys = vals.take i ∧ H2 D = some (.lst ys) ∧ Same H1 H2) ⟨rfl, upd_same, same_upd hD⟩ ?_ ?_ ?_⟩
    · rintro i ys H2 hi ⟨rfl, h2, _⟩
      refine ⟨h2, ?_⟩
      rw [List.length_take]; omega
    · rintro ys H2 ⟨rfl, h2, s2⟩
      have el : vals.take ws.length = vals := by rw [hlen]; exact List.take_length ..
      rw [el] at h2
      refine ⟨⟨_, SqL.of (s2 _ _ w1), by rw [List.length_map]; exact Nat.le_refl _⟩, D, vals, rfl, Or.inl ⟨SqL.of h2, fun p hp => ?_⟩⟩
      exact k p _ ((s1.trans s2).trans (same_upd hp)) upd_same
    · rintro i ys H2 hi ⟨rfl, h2, s2⟩
      have sq : SqL K H2 l (ws.map V.str) := SqL.of (s2 _ _ w1)
      have hwi : (ws.map V.str)[i]? = some (.str ws[i]) := by rw [List.getElem?_map, List.getElem?_eq_getElem hi]; rfl
      refine ⟨⟨_, _, sq, hwi⟩, ?_⟩
      rintro v H' ⟨rfl, hyl⟩ R hR
      have ev : v = .str ws[i] := by have := hyl _ sq; rw [hwi] at this; exact (Option.some.inj this).symm
      subst ev
      have hvi : vals[i]? = some vals[i] := List.getElem?_eq_getElem (by omega)
      refine ⟨_, rfl, ws[i], vals[i], rfl, hv i _ _ (List.getElem?_eq_getElem hi) hvi, fun H3 s3 => ?_⟩
      refine hR _ _ (s3 _ _ h2) ⟨?_, upd_same, fun b u e => ?_⟩
      · rw [List.take_add_one, hvi]; rfl
      · rw [upd_ne (ne_of_none e hD)]; exact s3 _ _ (s2 _ _ e)
theorem sc_letter_text : FnScope ["letter"] ["letter"] (defScope s_letter_text) := ⟨rfl, rfl, rfl, by decide +kernel, rfl, by decide +kernel, by decide +kernel⟩
theorem ok_ltext (F : Def K mg "letter_text" s_letter_text) (C_turn_text : Can P w K mg base CX0 1 "turn_text" ["turn"] (spText partS Part)) : Can P w K mg base CX0 2 "letter_text" ["letter"] (spText partS Part) := by
  refine F.can sc_letter_text (fun _ _ _ _ _ _ us hl => match us, hl with | [_], _ => rfl) (fun vs H Q E h => ?_) (fun f cdv A outer s H vs Q E hr h => ?_)
  · obtain ⟨_, _, rfl, _⟩ := h; rfl
  · obtain ⟨a, xs, rfl, ha, hl, hx, k⟩ := h
    exact ⟨_, (pss_one (ps_ret (pe_can C_turn_text (hr.mono (by decide)) rfl (pa_cons (pv 0) pa_nil)))), _, rfl, a, xs, rfl, ha, hl, hx, k⟩
def spRL : Sp := fun vs H Q _ => ∃ (ws : List Str) (vals : List V), vs = [.str (Str.join " " ws)] ∧ ws ≠ [] ∧ ws.length ≤ 300 ∧ (∀ w ∈ ws, w.length ≤ 200 ∧ 32 ∉ w.cps.toList) ∧ ws.length = vals.length ∧ (∀ (i : Nat) t v, ws[i]? = some t → vals[i]? = some v → WV t v) ∧ letterF vals = true ∧ ∀ p H', Same H H' → H' p = some (.tup vals) → Q (.ref p) H'
theorem sc_read_letter : FnScope ["text"] ["text"] (defScope s_read_letter) := ⟨rfl, rfl, rfl, by decide +kernel, rfl, by decide +kernel, by decide +kernel⟩
set_option maxHeartbeats 1000000 in
theorem ok_rletter (F : Def K mg "read_letter" s_read_letter) (B : Blt mg) (C_read_parts : Can P w K mg base CX0 4 "read_parts" ["text"] spParts2) (C_is_letter : Can P w K mg base CX0 8 "is_letter" ["thing"] (spO letterF)) : Can P w K mg base CX0 9 "read_letter" ["text"] spRL := by
  refine F.can sc_read_letter (fun _ _ _ _ _ _ us hl => match us, hl with | [_], _ => rfl) (fun vs H Q E h => ?_) (fun f cdv A outer s H vs Q E hr h => ?_)
  · obtain ⟨_, _, rfl, _⟩ := h; rfl
  · obtain ⟨ws, vals, rfl, hne, hl, hw, hlen, hv, gl, k⟩ := h
    refine ⟨_, (pss_cons (ps_if (PW.pt (pw_or (pt_not (pt_truth (pe_callB call_isinst (by rfl) B.isinstance bt_isinstance (pa_cons (pv 0) (pa_cons (pe_bltn (v := .ty "str") rfl B.str bt_str rfl) pa_nil))) (fun _ => rfl))) (pw_or1 (pt_not (pt_truth (pe_can C_is_letter (hr.mono (by decide)) rfl (pa_cons (pe_can C_read_parts (hr.mono (by decide)) rfl (pa_cons (pv 0) pa_nil)) pa_nil)) (fun _ => rfl)))))) (pss_one ps_never) pss_nil)
      (pss_one (ps_ret (pe_can C_read_parts (hr.mono (by decide)) rfl (pa_cons (pv 0) pa_nil))))), ?_⟩
    have big : (1000000 : Nat) < sizeLine := by decide
    refine ⟨_, rfl, _, _, _, _, rfl, (IsK.str (H := H) (Str.join " " ws)).tyOf, kit_str .str, _, rfl, if_f rfl ?_⟩
    refine ⟨_, rfl, ws, vals, rfl, hne, hl, hw, hlen, hv, fun p H1 s1 w1 => ?_⟩
    have flat : ∀ y ∈ vals, flatV y = true ∧ Small y := fun y hy => by
      obtain ⟨i, hi, rfl⟩ := List.getElem_of_mem hy
      rcases hv i _ _ (List.getElem?_eq_getElem (by omega)) (List.getElem?_eq_getElem hi) with ⟨n, _, e⟩ | ⟨_, hl2, e⟩
      · rw [e]; exact ⟨rfl, fun s z => by cases z⟩
      · rw [e]; exact ⟨rfl, fun s z => by cases z; omega⟩
    have th : Thing H1 (.ref p) (some vals) := ⟨p, rfl, w1, by omega, fun y hy => ⟨flat_kind (flat y hy).1, (flat y hy).2, (flat y hy).1⟩⟩
    have gO : ofO letterF (some vals) = true := gl
    refine ⟨_, _, rfl, th, fun H2 s2 => ⟨_, rfl, if_f (by rw [gO]; rfl) ?_⟩⟩
    exact ⟨_, rfl, ws, vals, rfl, hne, hl, hw, hlen, hv, fun p2 H3 s3 w3 => k p2 _ ((s1.trans s2).trans s3) w3⟩
def WordOk (t : Str) : Prop := 0 < t.length ∧ t.length ≤ 200 ∧ ∀ c ∈ t.cps.toList, Unicode.isSpace c = false
def spWord : Sp := fun vs H Q _ => ∃ t : Str, vs = [.str t] ∧ WordOk t ∧ ∀ H', Same H H' → Q (.bl true) H'
theorem sc_is_word : FnScope ["text"] ["text"] (defScope s_is_word) := ⟨rfl, rfl, rfl, by decide +kernel, rfl, by decide +kernel, by decide +kernel⟩
theorem ok_isword (F : Def K mg "is_word" s_is_word) : Can P w K mg base CX0 1 "is_word" ["text"] spWord := by
  refine F.can sc_is_word (fun _ _ _ _ _ _ us hl => match us, hl with | [_], _ => rfl) (fun vs H Q E h => ?_) (fun f cdv A outer s H vs Q E hr h => ?_)
  · obtain ⟨_, rfl, _⟩ := h; rfl
  · obtain ⟨t, rfl, ⟨h0, h1, h2⟩, k⟩ := h
    refine ⟨_, (pss_one (ps_ret (pe_cmpR (op_eqx (by have z := Nat.lt_of_succ_lt (hu_of hr); exact z)) (pe_bm0 PySem.F.plainAttrs_str PySem.F.slot_str_split PySem.F.type_str_split mt_split0 (pv 0)) (pe_lst (pa_cons (pv 0) pa_nil)) (nomark _)))), ?_⟩
    have big : (1000000 : Nat) < sizeLine := by decide
    have sw := StrLaws.sw_weight t
    have sl := StrLaws.len_le_wsum (Builtin.Str.spaceWords t (t.length + 1))
    refine ⟨_, rfl, rfl, t, rfl, rfl, by omega, by omega, fun p hp => ?_⟩
    rw [words_one h0 h2]
    obtain ⟨s1, w1⟩ := same_at (o := .lst ([t].map V.str)) hp
    refine ⟨_, rfl, by show 1 ≤ sizeLine; omega, fun q hq => ?_⟩
    obtain ⟨s2, w2⟩ := same_at (o := .lst [.str t]) hq
    have fl : ∀ v ∈ [V.str t], flatV v = true := fun v hv => by rw [List.mem_singleton.mp hv]; rfl
    refine Or.inr ⟨p, q, _, _, rfl, rfl, SqL.of (s2 _ _ w1), SqL.of w2, rfl, fl, fl, ?_⟩
    refine qb ?_ (k _ (s1.trans s2))
    symm
    show (List.range 1).all _ = true
    unfold eqV
    simp
def spWords : Sp := fun vs H Q _ => ∃ ws : List Str, vs = [.str (Str.join " " ws)] ∧ ws ≠ [] ∧ ws.length ≤ 300 ∧ (∀ w ∈ ws, WordOk w) ∧ ∀ p H', Same H H' → H' p = some (.tup (ws.map V.str)) → Q (.ref p) H'
theorem word_no32 {t : Str} (h : WordOk t) : 32 ∉ t.cps.toList := fun z => absurd (h.2.2 32 z) (by decide +kernel)
theorem sc_words_of : FnScope ["text", "words"] ["text"] (defScope s_words_of) := ⟨rfl, rfl, rfl, by decide +kernel, rfl, by decide +kernel, by decide +kernel⟩
set_option maxHeartbeats 2000000 in
theorem ok_wordsof (F : Def K mg "words_of" s_words_of) (B : Blt mg) (C_is_word : Can P w K mg base CX0 1 "is_word" ["text"] spWord) : Can P w K mg base CX0 2 "words_of" ["text"] spWords := by
  refine F.can sc_words_of (fun _ _ _ _ _ _ us hl => match us, hl with | [_], _ => rfl) (fun vs H Q E h => ?_) (fun f cdv A outer s H vs Q E hr h => ?_)
  · obtain ⟨_, rfl, _⟩ := h; rfl
  · obtain ⟨ws, rfl, hne, hl, hw, k⟩ := h
    refine ⟨_, (pss_cons (ps_if (pt_not (pt_truth (pe_callB call_isinst (by rfl) B.isinstance bt_isinstance (pa_cons (pv 0) (pa_cons (pe_bltn (v := .ty "str") rfl B.str bt_str rfl) pa_nil))) (fun _ => rfl))) (pss_one ps_never) pss_nil)
      (pss_cons (ps_set (i := 1) sc_words_of.nd rfl (by first | exact Or.inl rfl | exact Or.inr rfl) (pe_bm PySem.F.plainAttrs_str PySem.F.slot_str_split PySem.F.type_str_split mt_split (pv 0) (pa_cons pe_str pa_nil)))
      (pss_cons (ps_if (pt_not (pt_truth (pe_callB (call_all rfl) (by rfl) B.all bt_all (pa_cons (pe_comp (N := ["word"]) (ci := []) (compSc_of (sc0 := defScope s_words_of) (N0 := ["text", "words"]) (by decide +kernel) rfl rfl (fun y hy => PySem.W.cellsFrom_some _ _ _ (.inl hy))) rfl (pi_list (pv 1)) (fun _ _ _ _ _ => (pe_can C_is_word (hr.mono (by decide)) rfl (pa_cons (pv 0) pa_nil)))) pa_nil)) (fun _ => rfl))) (pss_one ps_never) pss_nil)
      (pss_one (ps_ret (pe_callTy call_tuple_of (by rfl) B.tuple bt_tuple (pa_cons (pv 1) pa_nil))))))), ?_⟩
    have big : (1000000 : Nat) < sizeLine := by decide
    have sp1 : (" " : Str).length = 1 := by decide +kernel
    obtain ⟨_, _, j3⟩ := join_ok " " (by omega) (ts := ws) (by omega) (fun s hs => (hw s hs).2.1)
    have esp := split_join hne (fun w hw' => word_no32 (hw w hw'))
    refine ⟨_, rfl, _, _, _, _, rfl, (IsK.str (H := H) (Str.join " " ws)).tyOf, kit_str .str, _, rfl, if_f rfl ?_⟩
    refine ⟨_, rfl, rfl, _, _, rfl, rfl, by decide +kernel, j3, parts_len j3, fun l hl0 => ?_⟩
    rw [esp]
    obtain ⟨H1, s1, w1, e1⟩ : ∃ H', Same H H' ∧ H' l = some (.lst (ws.map V.str)) ∧ upd H l (.lst (ws.map V.str)) = H' := ⟨_, (same_at hl0).1, upd_same, rfl⟩
    rw [e1]
    refine ⟨_, rfl, l, rfl, ⟨_, SqL.of w1⟩, fun D hD => comp_by ws.length (by omega) (fun i ys H2 => ys = (List.replicate i true).map V.bl ∧ H2 D = some (.lst ys) ∧ Same H1 H2) ⟨rfl, upd_same, same_upd hD⟩ ?_ ?_ ?_⟩
    · rintro i ys H2 hi ⟨rfl, h2, _⟩
      exact ⟨h2, by simp⟩
    · rintro ys H2 ⟨rfl, h2, s2⟩
      refine ⟨⟨_, SqL.of (s2 _ _ w1), by rw [List.length_map]; exact Nat.le_refl _⟩, D, List.replicate ws.length true, rfl, SqL.of h2, _, rfl, if_f (by simp) ?_⟩
      refine ⟨_, rfl, l, ws.map V.str, rfl, Or.inl ⟨SqL.of (s2 _ _ w1), fun p hp => ?_⟩⟩
      exact k p _ ((s1.trans s2).trans (same_upd hp)) upd_same
    · rintro i ys H2 hi ⟨rfl, h2, s2⟩
      have sq : SqL K H2 l (ws.map V.str) := SqL.of (s2 _ _ w1)
      have hwi : (ws.map V.str)[i]? = some (.str ws[i]) := by rw [List.getElem?_map, List.getElem?_eq_getElem hi]; rfl
      refine ⟨⟨_, _, sq, hwi⟩, ?_⟩
      rintro v H' ⟨rfl, hyl⟩ R hR
      have ev : v = .str ws[i] := by have := hyl _ sq; rw [hwi] at this; exact (Option.some.inj this).symm
      subst ev
      refine ⟨_, rfl, ws[i], rfl, hw _ (List.getElem_mem _), fun H3 s3 => ?_⟩
      refine hR _ _ (s3 _ _ h2) ⟨?_, upd_same, fun b u e => ?_⟩
      · rw [List.replicate_succ', List.map_append]; rfl
      · rw [upd_ne (ne_of_none e hD)]; exact s3 _ _ (s2 _ _ e)
def spRN : Sp := fun vs H Q _ => ∃ (t : Str) (n : Int), vs = [.str t] ∧ NumT n t ∧ ∀ H', Same H H' → Q (.int n) H'
theorem sc_read_number : FnScope ["word"] ["word"] (defScope s_read_number) := ⟨rfl, rfl, rfl, by decide +kernel, rfl, by decide +kernel, by decide +kernel⟩
theorem ok_rnumber (F : Def K mg "read_number" s_read_number) (B : Blt mg) (C_is_number_text : Can P w K mg base CX0 2 "is_number_text" ["text"] spNumT) : Can P w K mg base CX0 3 "read_number" ["word"] spRN := by
  refine F.can sc_read_number (fun _ _ _ _ _ _ us hl => match us, hl with | [_], _ => rfl) (fun vs H Q E h => ?_) (fun f cdv A outer s H vs Q E hr h => ?_)
  · obtain ⟨_, _, rfl, _⟩ := h; rfl
  · obtain ⟨t, n, rfl, hn, k⟩ := h
    refine ⟨_, (pss_cons (ps_if (pt_not (pt_truth (pe_can C_is_number_text (hr.mono (by decide)) rfl (pa_cons (pv 0) pa_nil)) (fun _ => rfl))) (pss_one ps_never) pss_nil)
      (pss_one (ps_ret (pe_callTy call_intA (by rfl) B.int bt_int (pa_cons (pv 0) pa_nil))))), ?_⟩
    have big : (100000 : Nat) < sizeLine := by decide
    have hl := hn.len
    refine ⟨_, rfl, t, true, rfl, by omega, .inl ⟨rfl, n, hn⟩, fun H1 s1 => ⟨_, rfl, if_f rfl ?_⟩⟩
    exact ⟨_, rfl, Or.inr ⟨t, n, rfl, hn.val, by omega, k _ s1⟩⟩
/-- a deed's words, by its first one -/
def spDeed : Sp := fun vs H Q _ => ∃ (a : Addr) (w0 : Str) (rest : List V) (n : Int), vs = [.ref a] ∧ H a = some (.tup (.str w0 :: rest)) ∧ rest.length ≤ 10 ∧ (∀ y ∈ rest, flatV y = true) ∧ valV partsD (Sum.inr w0) = some (.int n) ∧ (rest.length : Int) = n ∧ ∀ H', Same H H' → Q (.bl true) H'
theorem sc_is_deed : FnScope ["thing"] ["thing"] (defScope s_is_deed) := ⟨rfl, rfl, rfl, by decide +kernel, rfl, by decide +kernel, by decide +kernel⟩
set_option maxHeartbeats 1000000 in
theorem ok_isdeed {aD : Addr} (F : Def K mg "is_deed" s_is_deed) (B : Blt mg) (TD : TD P w K mg aD) : Can P w K mg base CX0 1 "is_deed" ["thing"] spDeed := by
  refine F.can sc_is_deed (fun _ _ _ _ _ _ us hl => match us, hl with | [_], _ => rfl) (fun vs H Q E h => ?_) (fun f cdv A outer s H vs Q E hr h => ?_)
  · obtain ⟨_, _, _, _, rfl, _⟩ := h; rfl
  · obtain ⟨a, w0, rest, n, rfl, ha, hl, hf, hv, hn, k⟩ := h
    refine ⟨_, (pss_cons (ps_if (PW.pt (pw_or (pt_not (pt_truth (pe_callB call_isinst (by rfl) B.isinstance bt_isinstance (pa_cons (pv 0) (pa_cons (pe_bltn (v := .ty "tuple") rfl B.tuple bt_tuple rfl) pa_nil))) (fun _ => rfl))) (pw_or (pt_cmpR (op_eqT (by have z := Nat.lt_of_succ_lt (hu_of hr); exact z)) (pv 0) (pe_tup pa_nil) (nomark _)) (pw_or1 (pt_not (pt_truth (pe_callB call_isinst (by rfl) B.isinstance bt_isinstance (pa_cons (pe_ix ix_seq (pv 0) pe_int (fun _ _ => rfl)) (pa_cons (pe_bltn (v := .ty "str") rfl B.str bt_str rfl) pa_nil))) (fun _ => rfl))))))) (pss_one (ps_ret pe_bl)) pss_nil)
      (pss_one (ps_ret (pe_and (pe_cmpR (op_in_kd TD.d_PARTS) (pe_ix ix_seq (pv 0) pe_int (fun _ _ => rfl)) (pe_const rfl TD.PARTS) rfl) (pe_one (pe_cmpR op_eq (pe_callB call_len (by rfl) B.len bt_len (pa_cons (pv 0) pa_nil)) (pe_op op_plus pe_int (pe_ix (ix_kd TD.d_PARTS) (pe_const rfl TD.PARTS) (pe_ix ix_seq (pv 0) pe_int (fun _ _ => rfl)) (fun _ _ => rfl))) (nomark _))))))), ?_⟩
    have big : (100000 : Nat) < sizeLine := by decide
    refine ⟨_, rfl, _, _, _, _, rfl, (IsK.tup ha).tyOf, kit_tuple .tup, _, rfl, if_f rfl ?_⟩
    refine ⟨_, rfl, by show 0 ≤ sizeLine; omega, fun p hp => ?_⟩
    obtain ⟨s1, w1⟩ := same_at (o := .tup []) hp
    have fl : ∀ v ∈ V.str w0 :: rest, flatV v = true := fun v hv => by
      rcases List.mem_cons.mp hv with rfl | h
      · rfl
      · exact hf v h
    refine ⟨a, p, _, _, rfl, rfl, SqT.of (s1 _ _ ha), SqT.of w1, fl, (fun v hv => nomatch hv), _, rfl, if_f (by unfold tupEq; simp) ?_⟩
    refine ⟨_, rfl, Or.inr (Or.inl ⟨a, _, _, _, rfl, rfl, SqT.of (s1 _ _ ha), atI_nat (j := 0) rfl, _, _, _, _, rfl, (IsK.str (H := _) w0).tyOf, kit_str .str, _, rfl, if_f rfl ?_⟩)⟩
    have e2 : ((V.str w0 :: rest).length : Int) = 1 + n := by rw [List.length_cons]; omega
    refine ⟨_, rfl, Or.inr (Or.inl ⟨a, _, _, _, rfl, rfl, SqT.of (s1 _ _ ha), atI_nat (j := 0) rfl, Sum.inr w0, rfl, rfl, _, rfl, if_t (by rw [hv]; rfl) ?_⟩)⟩
    refine ⟨_, rfl, _, _, rfl, .inr ⟨_, SqT.of (s1 _ _ ha), rfl⟩, _, rfl, Or.inr (Or.inl ⟨a, _, _, _, rfl, rfl, SqT.of (s1 _ _ ha), atI_nat (j := 0) rfl, Sum.inr w0, _, rfl, rfl, hv, Or.inl ⟨_, _, rfl, rfl, rfl, ?_⟩⟩)⟩
    refine qb ?_ (k _ s1)
    symm
    exact decide_eq_true (by rw [e2])
end
end K80

set_option Elab.async false
set_option linter.all false
set_option maxRecDepth 100000
namespace K80
open PySem L2 BB PP
section
variable {P : Program} {w : World} {K : PySem.W.Frag} {mg : Str → Option Value} {base : Heap}
/-- a deed, as the document lists them -/
inductive Deed : List V → Prop where
  | num (w0 : Str) (n : Int) (h : w0 = "carry" ∨ w0 = "lose" ∨ w0 = "double") (h0 : 0 ≤ n) (h1 : n < 10 ^ 20) : Deed [.str w0, .int n]
  | one (w0 a : Str) (h : w0 = "fall" ∨ w0 = "up" ∨ w0 = "slip") (ha : WordOk a) : Deed [.str w0, .str a]
  | two (w0 a b : Str) (h : w0 = "ask" ∨ w0 = "back" ∨ w0 = "let" ∨ w0 = "refuse" ∨ w0 = "bar" ∨ w0 = "unbar" ∨ w0 = "mend" ∨ (w0 = "leave" ∧ b ≠ "-")) (ha : WordOk a) (hb : WordOk b) : Deed [.str w0, .str a, .str b]
  | gone (a : Str) (ha : WordOk a) : Deed [.str "leave", .str a, .non]
theorem num_word {n : Int} (h0 : 0 ≤ n) (h1 : n < 10 ^ 20) : WordOk (numS n) := by
  have t := num_text h0 h1
  refine ⟨t.pos, by have := t.len; omega, fun c hc => ?_⟩
  obtain ⟨a, b⟩ := t.dig c hc
  have : ∀ c < 58, 48 ≤ c → Unicode.isSpace c = false := by decide +kernel
  exact this c (by omega) a
theorem lit_word {t : Str} (h : 0 < t.length ∧ t.length ≤ 200 ∧ (t.cps.toList.all fun c => !Unicode.isSpace c) = true) : WordOk t := ⟨h.1, h.2.1, fun c hc => by have := List.all_eq_true.mp h.2.2 c hc; simpa using this⟩
def spRD : Sp := fun vs H Q _ => ∃ D : List V, vs = [.str (Str.join " " (D.map deedS))] ∧ Deed D ∧ ∀ p H', Same H H' → H' p = some (.tup D) → Q (.ref p) H'
theorem deedS_str {z : Str} : deedS (.str z) = z := by unfold deedS; rw [if_neg (fun e => by cases e)]; rfl
theorem deedS_int {n : Int} : deedS (.int n) = numS n := by unfold deedS; rw [if_neg (fun e => by cases e)]; rfl
theorem deedS_non : deedS .non = "-" := by unfold deedS; rw [if_pos rfl]
theorem in3 {x a b c : Str} : inV (V.str x) [.str a, .str b, .str c] = decide (x = a ∨ x = b ∨ x = c) := by
  unfold inV
  rw [Bool.eq_iff_iff, decide_eq_true_iff]
  simp only [List.any_cons, List.any_nil, eqV, Bool.or_false, Bool.or_eq_true, beq_iff_eq]
  constructor
  · rintro (h | h | h)
    · exact .inl h.symm
    · exact .inr (.inl h.symm)
    · exact .inr (.inr h.symm)
  · rintro (h | h | h)
    · exact .inl h.symm
    · exact .inr (.inl h.symm)
    · exact .inr (.inr h.symm)
theorem deed_way {D : List V} (h : Deed D) : ∃ (w0 : Str) (rs : List Str), D.map deedS = w0 :: rs ∧ (∀ t ∈ w0 :: rs, WordOk t) ∧ valV partsD (Sum.inr w0) = some (.int (rs.length : Nat)) ∧ rs.length ≤ 2 ∧
    (((w0 = "carry" ∨ w0 = "lose" ∨ w0 = "double") ∧ ∃ n : Int, rs = [numS n] ∧ 0 ≤ n ∧ n < 10 ^ 20 ∧ D = [.str w0, .int n]) ∨ (¬ (w0 = "carry" ∨ w0 = "lose" ∨ w0 = "double") ∧ ((w0 = "leave" ∧ ∃ a : Str, rs = [a, ("-" : Str)] ∧ D = [.str w0, .str a, .non]) ∨ (¬ (w0 = "leave" ∧ rs[1]? = some ("-" : Str)) ∧ D = (w0 :: rs).map V.str)))) := by
  have wl : ∀ {t : Str}, (0 < t.length ∧ t.length ≤ 200 ∧ (t.cps.toList.all fun c => !Unicode.isSpace c) = true) → WordOk t := lit_word
  cases h with
  | num w0 n h h0 h1 =>
    refine ⟨w0, [numS n], by simp [deedS_str, deedS_int], ?_, ?_, by simp, .inl ⟨h, n, rfl, h0, h1, rfl⟩⟩
    · intro t ht
      simp only [List.mem_cons, List.not_mem_nil, or_false] at ht
      rcases ht with rfl | rfl
      · rcases h with rfl | rfl | rfl <;> exact wl (by decide +kernel)
      · exact num_word h0 h1
    · rcases h with rfl | rfl | rfl <;> exact (show valV partsD _ = some (.int ((1 : Nat) : Int)) from by decide +kernel)
  | one w0 a h ha =>
    refine ⟨w0, [a], by simp [deedS_str], ?_, ?_, by simp, .inr ⟨?_, .inr ⟨?_, rfl⟩⟩⟩
    · intro t ht
      simp only [List.mem_cons, List.not_mem_nil, or_false] at ht
      rcases ht with rfl | rfl
      · rcases h with rfl | rfl | rfl <;> exact wl (by decide +kernel)
      · exact ha
    · rcases h with rfl | rfl | rfl <;> exact (show valV partsD _ = some (.int ((1 : Nat) : Int)) from by decide +kernel)
    · rcases h with rfl | rfl | rfl <;> decide +kernel
    · intro z; simp at z
  | two w0 a b h ha hb =>
    have hw : w0 = "ask" ∨ w0 = "back" ∨ w0 = "let" ∨ w0 = "refuse" ∨ w0 = "bar" ∨ w0 = "unbar" ∨ w0 = "mend" ∨ w0 = "leave" := by
      rcases h with h | h | h | h | h | h | h | ⟨h, _⟩
      · exact .inl h
      · exact .inr (.inl h)
      · exact .inr (.inr (.inl h))
      · exact .inr (.inr (.inr (.inl h)))
      · exact .inr (.inr (.inr (.inr (.inl h))))
      · exact .inr (.inr (.inr (.inr (.inr (.inl h)))))
      · exact .inr (.inr (.inr (.inr (.inr (.inr (.inl h))))))
      · exact .inr (.inr (.inr (.inr (.inr (.inr (.inr h))))))
    refine ⟨w0, [a, b], by simp [deedS_str], ?_, ?_, by simp, .inr ⟨?_, .inr ⟨?_, rfl⟩⟩⟩
    · intro t ht
      simp only [List.mem_cons, List.not_mem_nil, or_false] at ht
      rcases ht with rfl | rfl | rfl
      · rcases hw with rfl | rfl | rfl | rfl | rfl | rfl | rfl | rfl <;> exact wl (by decide +kernel)
      · exact ha
      · exact hb
    · rcases hw with rfl | rfl | rfl | rfl | rfl | rfl | rfl | rfl <;> exact (show valV partsD _ = some (.int ((2 : Nat) : Int)) from by decide +kernel)
    · rcases hw with rfl | rfl | rfl | rfl | rfl | rfl | rfl | rfl <;> decide +kernel
    · rintro ⟨z, z2⟩
      have z3 : b = "-" := by simpa using z2
      subst z
      rcases h with h | h | h | h | h | h | h | ⟨_, h⟩
      · exact absurd h (by decide +kernel)
      · exact absurd h (by decide +kernel)
      · exact absurd h (by decide +kernel)
      · exact absurd h (by decide +kernel)
      · exact absurd h (by decide +kernel)
      · exact absurd h (by decide +kernel)
      · exact absurd h (by decide +kernel)
      · exact h z3
  | gone a ha =>
    refine ⟨"leave", [a, "-"], by simp [deedS_str, deedS_non], ?_, (show valV partsD _ = some (.int ((2 : Nat) : Int)) from by decide +kernel), by simp, .inr ⟨by decide +kernel, .inl ⟨rfl, a, rfl, rfl⟩⟩⟩
    intro t ht
    simp only [List.mem_cons, List.not_mem_nil, or_false] at ht
    rcases ht with rfl | rfl | rfl
    · exact wl (by decide +kernel)
    · exact ha
    · exact wl (by decide +kernel)
theorem sc_read_deed : FnScope ["text", "deed"] ["text"] (defScope s_read_deed) := ⟨rfl, rfl, rfl, by decide +kernel, rfl, by decide +kernel, by decide +kernel⟩
set_option maxHeartbeats 4000000 in
theorem ok_rdeed (F : Def K mg "read_deed" s_read_deed) (C_words_of : Can P w K mg base CX0 2 "words_of" ["text"] spWords) (C_is_deed : Can P w K mg base CX0 1 "is_deed" ["thing"] spDeed) (C_read_number : Can P w K mg base CX0 3 "read_number" ["word"] spRN) : Can P w K mg base CX0 4 "read_deed" ["text"] spRD := by
  refine F.can sc_read_deed (fun _ _ _ _ _ _ us hl => match us, hl with | [_], _ => rfl) (fun vs H Q E h => ?_) (fun f cdv A outer s H vs Q E hr h => ?_)
  · obtain ⟨_, rfl, _⟩ := h; rfl
  · obtain ⟨D, rfl, hD, k⟩ := h
    refine ⟨_, (pss_cons (ps_set (i := 1) sc_read_deed.nd rfl (by first | exact Or.inl rfl | exact Or.inr rfl) (pe_can C_words_of (hr.mono (by decide)) rfl (pa_cons (pv 0) pa_nil)))
      (pss_cons (ps_if (pt_not (pt_truth (pe_can C_is_deed (hr.mono (by decide)) rfl (pa_cons (pv 1) pa_nil)) (fun _ => rfl))) (pss_one ps_never) pss_nil)
      (pss_cons (ps_if (pt_cmpR op_inx (pe_ix ix_seq (pv 1) pe_int (fun _ _ => rfl)) (pe_tup (pa_cons pe_str (pa_cons pe_str (pa_cons pe_str pa_nil)))) rfl) (pss_one (ps_ret (pe_tup (pa_cons (pe_ix ix_seq (pv 1) pe_int (fun _ _ => rfl)) (pa_cons (pe_can C_read_number (hr.mono (by decide)) rfl (pa_cons (pe_ix ix_seq (pv 1) pe_int (fun _ _ => rfl)) pa_nil)) pa_nil))))) pss_nil)
      (pss_cons (ps_if (PW.pt (pw_and (pt_cmpR op_eq (pe_ix ix_seq (pv 1) pe_int (fun _ _ => rfl)) pe_str (nomark _)) (pw_and1 (pt_cmpR op_eq (pe_ix ix_seq (pv 1) pe_int (fun _ _ => rfl)) pe_str (nomark _))))) (pss_one (ps_ret (pe_tup (pa_cons (pe_ix ix_seq (pv 1) pe_int (fun _ _ => rfl)) (pa_cons (pe_ix ix_seq (pv 1) pe_int (fun _ _ => rfl)) (pa_cons pe_non pa_nil)))))) pss_nil)
      (pss_one (ps_ret (pv 1))))))), ?_⟩
    have big : (100000 : Nat) < sizeLine := by decide
    obtain ⟨w0, rs, ews, hw, hv, hl2, way⟩ := deed_way hD
    rw [ews]
    refine ⟨_, rfl, w0 :: rs, rfl, by simp, by rw [List.length_cons]; omega, hw, fun p H1 s1 w1 => ?_⟩
    have w1 : H1 p = some (.tup (.str w0 :: rs.map V.str)) := w1
    refine ⟨_, rfl, p, w0, rs.map V.str, _, rfl, w1, by rw [List.length_map]; omega, (fun y hy => by obtain ⟨z, _, rfl⟩ := List.mem_map.mp hy; rfl), hv, by rw [List.length_map], fun H2 s2 => ⟨_, rfl, if_f rfl ?_⟩⟩
    have w2 := s2 _ _ w1
    refine ⟨_, rfl, Or.inr (Or.inl ⟨p, _, _, _, rfl, rfl, SqT.of w2, atI_nat (j := 0) rfl, by show 3 ≤ sizeLine; omega, fun q hq => ?_⟩)⟩
    obtain ⟨H3, s3, w3, e3⟩ : ∃ H', Same H2 H' ∧ H' q = some (.tup [V.str "carry", V.str "lose", V.str "double"]) ∧ upd H2 q (.tup [V.str "carry", V.str "lose", V.str "double"]) = H' := ⟨_, (same_at hq).1, upd_same, rfl⟩
    rw [e3]
    have s13 : Same H H3 := (s1.trans s2).trans s3
    have w23 := s3 _ _ w2
    refine Or.inr ⟨q, _, rfl, .inr (SqT.of w3), rfl, rfl, _, rfl, ?_⟩
    rcases way with ⟨hin, n, rfl, n0, n1, rfl⟩ | ⟨hin, way⟩
    · refine if_t (by show inV _ _ = true; rw [in3]; exact decide_eq_true hin) ?_
      refine ⟨_, rfl, Or.inr (Or.inl ⟨p, _, _, _, rfl, rfl, SqT.of w23, atI_nat (j := 0) rfl, ?_⟩)⟩
      refine ⟨_, rfl, Or.inr (Or.inl ⟨p, _, _, _, rfl, rfl, SqT.of w23, atI_nat (j := 1) rfl, _, n, rfl, num_text n0 n1, fun H4 s4 => ?_⟩)⟩
      exact ⟨by show 2 ≤ sizeLine; omega, fun r hr2 => k r _ ((s13.trans s4).trans (same_upd hr2)) upd_same⟩
    · refine if_f (by show inV _ _ = false; rw [in3]; exact decide_eq_false hin) ?_
      refine ⟨_, rfl, Or.inr (Or.inl ⟨p, _, _, _, rfl, rfl, SqT.of w23, atI_nat (j := 0) rfl, rfl, _, rfl, ?_⟩)⟩
      rcases way with ⟨rfl, a, rfl, rfl⟩ | ⟨hno, rfl⟩
      · refine if_t (by decide +kernel) ?_
        refine ⟨_, rfl, Or.inr (Or.inl ⟨p, _, _, _, rfl, rfl, SqT.of w23, atI_nat (j := 2) rfl, rfl, _, rfl, if_t (by decide +kernel) ?_⟩)⟩
        refine ⟨_, rfl, Or.inr (Or.inl ⟨p, _, _, _, rfl, rfl, SqT.of w23, atI_nat (j := 0) rfl, ?_⟩)⟩
        refine ⟨_, rfl, Or.inr (Or.inl ⟨p, _, _, _, rfl, rfl, SqT.of w23, atI_nat (j := 1) rfl, by show 3 ≤ sizeLine; omega, fun r hr2 => ?_⟩)⟩
        exact k r _ (s13.trans (same_upd hr2)) upd_same
      · refine ite2 (fun g => ?_) (fun g => ?_)
        · have gl : w0 = "leave" := by simpa using g
          obtain ⟨a, b, rfl, hb⟩ : ∃ a b, rs = [a, b] ∧ b ≠ "-" := by
            have e2 : (rs.length : Int) = 2 := by
              subst gl
              have : valV partsD (Sum.inr "leave") = some (.int 2) := by decide +kernel
              rw [this] at hv
              injection hv with hv; injection hv with hv
              exact hv.symm
            match rs, e2 with
            | [a, b], _ => exact ⟨a, b, rfl, fun z => hno ⟨gl, by rw [z]; rfl⟩⟩
            | [], e => simp at e
            | [_], e => simp at e
            | _ :: _ :: _ :: _, e => simp at e; omega
          refine ⟨_, rfl, Or.inr (Or.inl ⟨p, _, _, _, rfl, rfl, SqT.of w23, atI_nat (j := 2) rfl, rfl, _, rfl, if_f (by simpa using hb) ?_⟩)⟩
          exact ⟨_, rfl, k p _ s13 w23⟩
        · exact ⟨_, rfl, k p _ s13 w23⟩
end
end K80

set_option Elab.async false
set_option linter.all false
set_option maxRecDepth 100000
namespace K80
open PySem L2 BB PP
section
variable {P : Program} {w : World} {K : PySem.W.Frag} {mg : Str → Option Value} {base : Heap}
theorem cat_cps (a b : Str) : (a ++ b).cps.toList = a.cps.toList ++ b.cps.toList := by
  show (a.cps ++ b.cps).toList = _
  simp
theorem cat_len (a b : Str) : (a ++ b).length = a.length + b.length := by
  show (a.cps ++ b.cps).size = _
  rw [Array.size_append]; rfl
def spCell (K : PySem.W.Frag) : Sp := fun vs H Q _ => ∃ (a : Addr) (ns : List Int), vs = [.ref a, .int 0] ∧ SqL K H a (ns.map V.int) ∧ ∀ z : Int, Q (.int z) H
theorem sc_law_cell_at : FnScope ["_law_script", "_law_k"] ["_law_script", "_law_k"] (defScope s_law_cell_at) := ⟨rfl, rfl, rfl, by decide +kernel, rfl, by decide +kernel, by decide +kernel⟩
theorem ok_cell (F : Def K mg "_law_cell_at" s_law_cell_at) (B : Blt mg) : Can P w K mg base CX0 1 "_law_cell_at" ["_law_script", "_law_k"] (spCell K) := by
  refine F.can sc_law_cell_at (fun _ _ _ _ _ _ us hl => match us, hl with | [_, _], _ => rfl) (fun vs H Q E h => ?_) (fun f cdv A outer s H vs Q E hr h => ?_)
  · obtain ⟨_, _, rfl, _⟩ := h; rfl
  · obtain ⟨a, ns, rfl, ha, k⟩ := h
    refine ⟨_, (pss_cons (ps_if (pt_cmpR op_lt (pv 1) (pe_callB call_len (by rfl) B.len bt_len (pa_cons (pv 0) pa_nil)) (nomark _)) (pss_one (ps_ret (pe_ix ix_seq (pv 0) (pv 1) (fun _ _ => rfl)))) pss_nil)
      (pss_one (ps_ret pe_int))), ?_⟩
    refine ⟨_, rfl, _, rfl, _, _, rfl, .inl ⟨_, ha, rfl⟩, _, _, rfl, rfl, _, rfl, ?_⟩
    refine ite2 (fun g => ?_) (fun g => k 0)
    have lt : 0 < ns.length := by
      have g2 : (0 : Int) < ((ns.map V.int).length : Nat) := of_decide_eq_true g
      rw [List.length_map] at g2; omega
    refine ⟨_, rfl, _, rfl, Or.inl ⟨a, _, _, .int ns[0], rfl, rfl, ha, atI_nat (j := 0) (by simp [lt]), k _⟩⟩
def spMixed : Sp := fun vs H Q _ => ∃ c k : Int, vs = [.int c, .int k] ∧ ∀ z : Int, 0 ≤ z → z < 2147483399 → Q (.int z) H
theorem sc_law_mixed : FnScope ["_law_cell", "_law_k", "_law_number_here"] ["_law_cell", "_law_k"] (defScope s_law_mixed) := ⟨rfl, rfl, rfl, by decide +kernel, rfl, by decide +kernel, by decide +kernel⟩
theorem ok_mixed (F : Def K mg "_law_mixed" s_law_mixed) : Can P w K mg base CX0 1 "_law_mixed" ["_law_cell", "_law_k"] spMixed := by
  refine F.can sc_law_mixed (fun _ _ _ _ _ _ us hl => match us, hl with | [_, _], _ => rfl) (fun vs H Q E h => ?_) (fun f cdv A outer s H vs Q E hr h => ?_)
  · obtain ⟨_, _, rfl, _⟩ := h; rfl
  · obtain ⟨c, n, rfl, k⟩ := h
    refine ⟨_, (pss_cons (ps_set (i := 2) sc_law_mixed.nd rfl (by first | exact Or.inl rfl | exact Or.inr rfl) (pe_op op_mod (pe_op op_mul (pe_op op_plus (pe_op op_plus (pe_op op_mod (pv 0) pe_int) (pe_op op_mul pe_int (pv 1))) pe_int) pe_int) pe_int))
      (pss_cons (ps_set (i := 2) sc_law_mixed.nd rfl (by first | exact Or.inl rfl | exact Or.inr rfl) (pe_op op_mod (pe_op op_mul (pv 2) (pe_op op_plus (pe_op op_fdiv (pv 2) pe_int) pe_int)) pe_int))
      (pss_one (ps_ret (pe_op op_mod (pe_op op_mul (pe_op op_plus (pv 2) (pe_op op_mul pe_int (pv 1))) (pe_op op_plus (pe_op op_fdiv (pv 2) pe_int) pe_int)) pe_int))))), ?_⟩
    refine ⟨_, rfl, _, _, rfl, rfl, (by dsimp only; decide), _, rfl, _, _, rfl, rfl, cmulL (by decide) (by decide), Or.inl ⟨_, _, rfl, rfl, Or.inl ⟨_, _, rfl, rfl, _, _, rfl, rfl, cmulR (by decide) (by decide), _, _, rfl, rfl, (by dsimp only; decide), ?_⟩⟩⟩
    obtain ⟨a, ha⟩ : ∃ a : Int, (c % 2147483647 + 7919 * n + 1) * 48271 % 2147483647 = a := ⟨_, rfl⟩
    have a0 : 0 ≤ a := by rw [← ha]; exact Int.emod_nonneg _ (by decide)
    have a1 : a < 2147483647 := by rw [← ha]; exact Int.emod_lt_of_pos _ (by decide)
    dsimp only
    rw [ha]
    refine ⟨_, rfl, _, rfl, _, _, rfl, rfl, ⟨by decide, by decide⟩, Or.inl ⟨_, _, rfl, rfl, _, _, rfl, rfl, cmulL (by omega) (by omega), _, _, rfl, rfl, (by dsimp only; decide), ?_⟩⟩
    obtain ⟨b, hb⟩ : ∃ b : Int, a * (a / 1009 + 69621) % 2147483647 = b := ⟨_, rfl⟩
    have b0 : 0 ≤ b := by rw [← hb]; exact Int.emod_nonneg _ (by decide)
    have b1 : b < 2147483647 := by rw [← hb]; exact Int.emod_lt_of_pos _ (by decide)
    dsimp only
    rw [hb]
    refine ⟨_, rfl, _, rfl, _, _, rfl, rfl, cmulL (by decide) (by decide), Or.inl ⟨_, _, rfl, rfl, _, rfl, _, _, rfl, rfl, ⟨by decide, by decide⟩, Or.inl ⟨_, _, rfl, rfl, _, _, rfl, rfl, cmulR (by omega) (by omega), _, _, rfl, rfl, (by dsimp only; decide), ?_⟩⟩⟩
    exact k _ (Int.emod_nonneg _ (by decide)) (Int.emod_lt_of_pos _ (by decide))
theorem join_signs : ∀ cs : List Nat, (Str.join "" (cs.map fun c => (⟨#[c]⟩ : Str))).cps.toList = cs
  | [] => by show Str.empty.cps.toList = []; decide +kernel
  | [c] => rfl
  | c :: d :: r => by
    show ((⟨#[c]⟩ : Str) ++ ("" : Str) ++ Str.join "" ((d :: r).map fun c => (⟨#[c]⟩ : Str))).cps.toList = _
    rw [cat_cps, cat_cps, join_signs (d :: r), show ("" : Str).cps.toList = [] by decide +kernel]; rfl
def spLWord : Sp := fun vs H Q _ => ∃ (c k : Int) (most : Nat) (sg : Str), vs = [.int c, .int k, .int most, .str sg] ∧ 0 < most ∧ most ≤ 20 ∧ 0 < sg.length ∧ sg.length ≤ 100 ∧ ∀ (t : Str) H', Same H H' → 0 < t.length → t.length ≤ most → (∀ c ∈ t.cps.toList, c ∈ sg.cps.toList) → Q (.str t) H'
theorem sc_law_word : FnScope ["_law_cell", "_law_k", "_law_most", "_law_signs", "_law_many"] ["_law_cell", "_law_k", "_law_most", "_law_signs"] (defScope s_law_word) := ⟨rfl, rfl, rfl, by decide +kernel, rfl, by decide +kernel, by decide +kernel⟩
set_option maxHeartbeats 2000000 in
theorem ok_lword (F : Def K mg "_law_word" s_law_word) (B : Blt mg) (C_law_mixed : Can P w K mg base CX0 1 "_law_mixed" ["_law_cell", "_law_k"] spMixed) : Can P w K mg base CX0 2 "_law_word" ["_law_cell", "_law_k", "_law_most", "_law_signs"] spLWord := by
  refine F.can sc_law_word (fun _ _ _ _ _ _ us hl => match us, hl with | [_, _, _, _], _ => rfl) (fun vs H Q E h => ?_) (fun f cdv A outer s H vs Q E hr h => ?_)
  · obtain ⟨_, _, _, _, rfl, _⟩ := h; rfl
  · obtain ⟨c, kk, most, sg, rfl, m0, m1, g0, g1, k⟩ := h
    refine ⟨_, (pss_cons (ps_set (i := 4) sc_law_word.nd rfl (by first | exact Or.inl rfl | exact Or.inr rfl) (pe_op op_plus pe_int (pe_op op_mod (pe_can C_law_mixed (hr.mono (by decide)) rfl (pa_cons (pv 0) (pa_cons (pe_op op_plus (pe_op op_mul pe_int (pv 1)) pe_int) pa_nil))) (pv 2))))
      (pss_one (ps_ret (pe_bm PySem.F.plainAttrs_str PySem.F.slot_str_join PySem.F.type_str_join mt_join pe_str (pa_cons (pe_comp (N := ["_law_j", "_law_signs", "_law_cell", "_law_k"]) (ci := [3, 0, 1]) (compSc_of (sc0 := defScope s_law_word) (N0 := ["_law_cell", "_law_k", "_law_most", "_law_signs", "_law_many"]) (by decide +kernel) rfl rfl (fun y hy => PySem.W.cellsFrom_some _ _ _ (.inl hy))) rfl (pi_range1 rfl B.range (pa_cons (pv 4) pa_nil)) (fun _ _ _ _ _ => (pe_ix (ix_seqK K rfl) (pv 1) (pe_op op_mod (pe_can C_law_mixed (hr.mono (by decide)) rfl (pa_cons (pv 2) (pa_cons (pe_op op_plus (pe_op op_mul pe_int (pv 3)) (pv 0)) pa_nil))) (pe_callB (call_lenK K rfl) (by rfl) B.len bt_len (pa_cons (pv 1) pa_nil))) (fun _ _ => rfl)))) pa_nil))))), ?_⟩
    have big : (100000 : Nat) < sizeLine := by decide
    refine ⟨_, rfl, _, rfl, _, _, rfl, rfl, cmulL (by decide) (by decide), Or.inl ⟨_, _, rfl, rfl, c, _, rfl, fun z z0 z1 => ⟨_, rfl, _, _, rfl, rfl, by omega, Or.inl ⟨_, _, rfl, rfl, ?_⟩⟩⟩⟩
    have y0 : 0 ≤ z % (most : Int) := Int.emod_nonneg _ (by omega)
    have y1 : z % (most : Int) < most := Int.emod_lt_of_pos _ (by omega)
    obtain ⟨mm, hmm⟩ : ∃ mm : Nat, (1 + z % (most : Int)) = mm := ⟨(1 + z % (most : Int)).toNat, by omega⟩
    refine ⟨rfl, _, rfl, (1 + z % (most : Int)), rfl, by omega, by omega, fun D hD => ?_⟩
    rw [show (1 + z % (most : Int)).toNat = mm by omega]
    have sgl : sg.cps.toList.length = sg.length := by simp [Str.length]
    refine comp_by mm (by omega) (fun i ys H2 => ∃ cs : List Nat, cs.length = i ∧ (∀ c ∈ cs, c ∈ sg.cps.toList) ∧ ys = cs.map (fun c => V.str ⟨#[c]⟩) ∧ H2 = upd H D (.lst ys)) ⟨[], rfl, (fun _ h => nomatch h), rfl, rfl⟩ ?_ ?_ ?_
    · rintro i ys H2 hi ⟨cs, hc, _, rfl, rfl⟩
      exact ⟨upd_same, by rw [List.length_map, hc]⟩
    · rintro ys H2 ⟨cs, hc, hs, rfl, rfl⟩
      obtain ⟨j1, j2, j3⟩ := join_ok "" (by decide +kernel) (ts := cs.map fun c => (⟨#[c]⟩ : Str)) (by rw [List.length_map]; omega) (fun s hs => by obtain ⟨v, hv, rfl⟩ := List.mem_map.mp hs; show 1 ≤ 200; decide)
      refine ⟨Nat.le_refl _, "", D, cs.map fun c => (⟨#[c]⟩ : Str), rfl, rfl, SqL.of (by rw [upd_same, List.map_map]; rfl), j1, j2, ?_⟩
      rw [joinS_eq]
      have el := join_signs cs
      have ll : (Str.join "" (cs.map fun c => (⟨#[c]⟩ : Str))).length = cs.length := by
        have : (Str.join "" (cs.map fun c => (⟨#[c]⟩ : Str))).length = (Str.join "" (cs.map fun c => (⟨#[c]⟩ : Str))).cps.toList.length := by simp [Str.length]
        rw [this, el]
      exact k _ _ (same_upd hD) (by omega) (by omega) (by rw [el]; exact hs)
    · rintro i ys H2 hi ⟨cs, hc, hs, rfl, rfl⟩
      refine ⟨hi, ?_⟩
      rintro v H' ⟨rfl, rfl⟩ R hR
      refine ⟨_, rfl, _, rfl, _, rfl, _, _, rfl, rfl, cmulL (by decide) (by decide), _, rfl, Or.inl ⟨_, _, rfl, rfl, c, _, rfl, fun z2 a0 a1 => ?_⟩⟩
      obtain ⟨ch, hm, hat⟩ := at_mem (xs := sg.cps.toList) (i := z2 % (sg.length : Int)) (Int.emod_nonneg _ (by omega)) (by rw [sgl]; exact Int.emod_lt_of_pos _ (by omega))
      refine ⟨_, rfl, _, sg.length, rfl, ⟨by omega, rfl⟩, _, _, rfl, rfl, by omega, Or.inr (Or.inr ⟨_, _, ch, rfl, rfl, by omega, hat, hR _ _ upd_same ⟨cs ++ [ch], by simp [hc], ?_, by simp, upd_upd⟩⟩)⟩
      intro c hc2
      rcases List.mem_append.mp hc2 with h | h
      · exact hs c h
      · rw [List.mem_singleton.mp h]; exact hm
end
end K80

set_option Elab.async false
set_option linter.all false
set_option maxRecDepth 100000
namespace K80
open PySem L2 BB PP
section
variable {P : Program} {w : World} {K : PySem.W.Frag} {mg : Str → Option Value} {base : Heap}
def HouseS (t : Str) : Prop := 0 < t.length ∧ t.length ≤ 6 ∧ ∀ c ∈ t.cps.toList, c ∈ SM.cps.toList
def NameS (t : Str) : Prop := 0 < t.length ∧ t.length ≤ 8 ∧ ∀ c ∈ t.cps.toList, c ∈ NM.cps.toList
theorem same_on {H H2 : Hp} {D : Addr} {o : HO} (h : H D = none) (s : Same H H2) : Same H (upd H2 D o) := fun b u e => by rw [upd_ne (ne_of_none e h)]; exact s _ _ e
def spHouses : Sp := fun vs H Q _ => ∃ c : Int, vs = [.int c, .int 2] ∧ ∀ (p : Addr) (a b : Str) (H' : Hp), Same H H' → H' p = some (.lst [.str a, .str b]) → HouseS a → HouseS b → a ≠ b → Q (.ref p) H'
theorem sc_law_houses : FnScope ["_law_cell", "_law_many"] ["_law_cell", "_law_many"] (defScope s_law_houses) := ⟨rfl, rfl, rfl, by decide +kernel, rfl, by decide +kernel, by decide +kernel⟩
set_option maxHeartbeats 2000000 in
theorem ok_houses (F : Def K mg "_law_houses" s_law_houses) (B : Blt mg) (C_law_word : Can P w K mg base CX0 2 "_law_word" ["_law_cell", "_law_k", "_law_most", "_law_signs"] spLWord) : Can P w K mg base CX0 3 "_law_houses" ["_law_cell", "_law_many"] spHouses := by
  refine F.can sc_law_houses (fun _ _ _ _ _ _ us hl => match us, hl with | [_, _], _ => rfl) (fun vs H Q E h => ?_) (fun f cdv A outer s H vs Q E hr h => ?_)
  · obtain ⟨_, rfl, _⟩ := h; rfl
  · obtain ⟨c, rfl, k⟩ := h
    refine ⟨_, (pss_one (ps_ret (pe_comp (N := ["_law_k", "_law_cell"]) (ci := [0]) (compSc_of (sc0 := defScope s_law_houses) (N0 := ["_law_cell", "_law_many"]) (by decide +kernel) rfl rfl (fun y hy => PySem.W.cellsFrom_some _ _ _ (.inl hy))) rfl (pi_range1 rfl B.range (pa_cons (pv 1) pa_nil)) (fun _ _ _ _ _ => (pe_op op_plus (pe_can C_law_word (hr.mono (by decide)) rfl (pa_cons (pv 1) (pa_cons (pv 0) (pa_cons pe_int (pa_cons pe_str pa_nil))))) (pe_ix (ix_seqK K rfl) pe_str (pv 0) (fun _ _ => rfl))))))), ?_⟩
    have big : (100000 : Nat) < sizeLine := by decide
    refine ⟨_, rfl, 2, rfl, by omega, by omega, fun D hD => ?_⟩
    refine comp_by 2 (by omega) (fun i ys H2 => ∃ ts : List Str, ys = ts.map V.str ∧ ts.length = i ∧ (∀ (j : Nat) t, ts[j]? = some t → HouseS t ∧ ∃ u : Str, t = u ++ (⟨#[97 + j]⟩ : Str)) ∧ H2 D = some (.lst ys) ∧ Same H H2) ⟨[], rfl, rfl, (fun _ _ h => nomatch h), upd_same, same_upd hD⟩ ?_ ?_ ?_
    · rintro i ys H2 hi ⟨ts, rfl, hl, _, h2, _⟩
      exact ⟨h2, by rw [List.length_map, hl]⟩
    · rintro ys H2 ⟨ts, rfl, hl, hs, h2, s2⟩
      obtain ⟨a, b, rfl⟩ : ∃ a b, ts = [a, b] := by
        match ts, hl with
        | [a, b], _ => exact ⟨a, b, rfl⟩
      obtain ⟨ga, u, ea⟩ := hs 0 a rfl
      obtain ⟨gb, v, eb⟩ := hs 1 b rfl
      refine ⟨Nat.le_refl _, k D a b H2 s2 h2 ga gb fun e => ?_⟩
      rw [ea, eb] at e
      have z := congrArg (fun s : Str => s.cps.toList.getLast?) e
      simp only [cat_cps, List.getLast?_append] at z
      revert z; simp
    · rintro i ys H2 hi ⟨ts, rfl, hl, hs, h2, s2⟩
      refine ⟨hi, ?_⟩
      rintro v H' ⟨rfl, rfl⟩ R hR
      refine ⟨_, rfl, _, rfl, c, _, 5, SM, rfl, by omega, by omega, by decide +kernel, by decide +kernel, fun t H3 s3 t0 t1 tm => ?_⟩
      have hat : atI ("abcd" : Str).cps.toList (0 + (i : Int)) = some (97 + i) := by
        match i, hi with
        | 0, _ => decide +kernel
        | 1, _ => decide +kernel
      have w3 := s3 _ _ h2
      have l1 : (⟨#[97 + i]⟩ : Str).length = 1 := rfl
      refine ⟨_, rfl, Or.inr (Or.inr ⟨_, _, _, rfl, rfl, by decide +kernel, hat, Or.inr (Or.inl ⟨_, _, rfl, rfl, by omega, hR _ _ w3 ⟨ts ++ [t ++ ⟨#[97 + i]⟩], by simp, by simp [hl], ?_, upd_same, same_on hD (s2.trans s3)⟩⟩)⟩)⟩
      intro j t2 ht2
      rcases Nat.lt_or_ge j ts.length with g | g
      · rw [List.getElem?_append_left g] at ht2; exact hs j t2 ht2
      · rw [List.getElem?_append_right g] at ht2
        have j0 : j - ts.length = 0 := by
          rcases Nat.eq_zero_or_pos (j - ts.length) with z | z
          · exact z
          · rw [List.getElem?_eq_none (by show 1 ≤ _; omega)] at ht2; cases ht2
        rw [j0] at ht2
        have e : t ++ ⟨#[97 + i]⟩ = t2 := Option.some.inj ht2
        have ji : j = i := by omega
        subst ji
        refine ⟨?_, t, e.symm⟩
        subst e
        refine ⟨by rw [cat_len]; omega, by rw [cat_len]; omega, fun c hc => ?_⟩
        rw [cat_cps] at hc
        rcases List.mem_append.mp hc with z | z
        · exact tm c z
        · have z : c = 97 + j := List.mem_singleton.mp z
          subst z
          match j, hi with
          | 0, _ => decide +kernel
          | 1, _ => decide +kernel
theorem snoc_at {α : Type} {xs : List α} {x y : α} {j n : Nat} (hl : xs.length = n) (h : (xs ++ [x])[j]? = some y) : xs[j]? = some y ∨ (j = n ∧ y = x) := by
  rcases Nat.lt_or_ge j xs.length with g | g
  · rw [List.getElem?_append_left g] at h; exact .inl h
  · rw [List.getElem?_append_right g] at h
    rcases Nat.eq_zero_or_pos (j - xs.length) with z | z
    · rw [z] at h; exact .inr ⟨by omega, (Option.some.inj h).symm⟩
    · rw [List.getElem?_eq_none (by show 1 ≤ _; omega)] at h; cases h
def homeAt (a b : Str) (i : Nat) : Str := if i % 2 = 0 then a else b
def spPeople : Sp := fun vs H Q _ => ∃ (c : Int) (ph : Addr) (a b : Str), vs = [.int c, .ref ph, .int 3] ∧ H ph = some (.lst [.str a, .str b]) ∧ HouseS a ∧ HouseS b ∧
  ∀ (q : Addr) (n0 n1 n2 : Str) (H' : Hp), Same H H' → H' q = some (.lst [.str (n0 ++ ("@" : Str) ++ a), .str (n1 ++ ("@" : Str) ++ b), .str (n2 ++ ("@" : Str) ++ a)]) → NameS n0 → NameS n1 → NameS n2 → Q (.ref q) H'
theorem sc_law_people : FnScope ["_law_cell", "_law_houses_here", "_law_many", "_law_found", "_law_k", "_law_signs", "_law_name"] ["_law_cell", "_law_houses_here", "_law_many"] (defScope s_law_people) := ⟨rfl, rfl, rfl, by decide +kernel, rfl, by decide +kernel, by decide +kernel⟩
set_option maxHeartbeats 4000000 in
theorem ok_people (F : Def K mg "_law_people" s_law_people) (B : Blt mg) (C_law_word : Can P w K mg base CX0 2 "_law_word" ["_law_cell", "_law_k", "_law_most", "_law_signs"] spLWord) : Can P w K mg base CX0 3 "_law_people" ["_law_cell", "_law_houses_here", "_law_many"] spPeople := by
  refine F.can sc_law_people (fun _ _ _ _ _ _ us hl => match us, hl with | [_, _, _], _ => rfl) (fun vs H Q E h => ?_) (fun f cdv A outer s H vs Q E hr h => ?_)
  · obtain ⟨_, _, _, _, rfl, _⟩ := h; rfl
  · obtain ⟨c, ph, a, b, rfl, hph, ha, hb, k⟩ := h
    refine ⟨_, (pss_cons (ps_set (i := 3) sc_law_people.nd rfl (by first | exact Or.inl rfl | exact Or.inr rfl) (pe_lst pa_nil))
      (pss_cons (ps_for PassesOwn.never rfl (pi_range1 rfl B.range (pa_cons (pv 2) pa_nil)) (pg_name (i := 4) sc_law_people.nd rfl (by first | exact Or.inl rfl | exact Or.inr rfl))
      (pss_cons (ps_set (i := 5) sc_law_people.nd rfl (by first | exact Or.inl rfl | exact Or.inr rfl) pe_str)
      (pss_cons (ps_set (i := 6) sc_law_people.nd rfl (by first | exact Or.inl rfl | exact Or.inr rfl) (pe_op op_plus (pe_can C_law_word (hr.mono (by decide)) rfl (pa_cons (pv 0) (pa_cons (pe_op op_plus pe_int (pv 4)) (pa_cons pe_int (pa_cons (pv 5) pa_nil))))) (pe_ix ix_seq (pv 5) (pe_op op_mod (pe_op op_mul pe_int (pv 4)) pe_int) (fun _ _ => rfl))))
      (pss_one (ps_expr (pe_bm PySem.F.plainAttrs_list PySem.F.slot_list_append PySem.F.type_list_append mt_append (pv 3) (pa_cons (pe_op op_plus (pe_op op_plus (pv 6) pe_str) (pe_ix ix_seq (pv 1) (pe_op op_mod (pv 4) (pe_callB call_len (by rfl) B.len bt_len (pa_cons (pv 1) pa_nil))) (fun _ _ => rfl))) pa_nil)))))))
      (pss_one (ps_ret (pv 3))))), ?_⟩
    have big : (100000 : Nat) < sizeLine := by decide
    have at1 : ("@" : Str).length = 1 := by decide +kernel
    refine ⟨by show 0 ≤ sizeLine; exact Nat.zero_le _, fun q hq => ?_⟩
    obtain ⟨s1, w1⟩ := same_at (o := .lst []) hq
    refine ⟨_, rfl, 3, rfl, by omega, by omega, for_range (lo := 0) (n := 3) (fun i σ H' => ∃ (x4 x5 x6 : Option V) (xs : List V), σ = [some (.int c), some (.ref ph), some (.int 3), some (.ref q), x4, x5, x6] ∧ xs.length = i ∧ (∀ (j : Nat) v, xs[j]? = some v → ∃ n, NameS n ∧ v = .str (n ++ ("@" : Str) ++ homeAt a b j)) ∧ H' q = some (.lst xs) ∧ Same H H') ?_ ?_ ?_⟩
    · exact ⟨_, _, _, [], rfl, rfl, (fun _ _ z => nomatch z), w1, s1⟩
    · rintro i σ H2 hi ⟨x4, x5, x6, xs, rfl, hl, hg, h2, s2⟩
      refine ⟨_, rfl, _, rfl, Or.inl ⟨_, _, rfl, rfl, _, rfl, c, _, 7, NM, rfl, by omega, by omega, by decide +kernel, by decide +kernel, fun t H3 s3 t0 t1 tm => ?_⟩⟩
      have e1 : 0 ≤ (11 * (0 + (i : Int))) % 37 := Int.emod_nonneg _ (by decide)
      have e2 : (11 * (0 + (i : Int))) % 37 < 37 := Int.emod_lt_of_pos _ (by decide)
      obtain ⟨ch, hm, hat⟩ := at_mem (xs := NM.cps.toList) (i := (11 * (0 + (i : Int))) % 37) e1 (by rw [show NM.cps.toList.length = 37 by decide +kernel]; exact e2)
      have l1 : (⟨#[ch]⟩ : Str).length = 1 := rfl
      obtain ⟨nm, enm, gnm⟩ : ∃ nm, nm = t ++ (⟨#[ch]⟩ : Str) ∧ NameS nm := by
        refine ⟨_, rfl, by rw [cat_len]; omega, by rw [cat_len]; omega, fun c hc => ?_⟩
        rw [cat_cps] at hc
        rcases List.mem_append.mp hc with z | z
        · exact tm c z
        · rw [show c = ch from List.mem_singleton.mp z]; exact hm
      refine ⟨_, rfl, _, rfl, _, _, rfl, rfl, cmulL (by decide) (by decide), _, _, rfl, rfl, (by dsimp only; decide), Or.inr (Or.inr ⟨_, _, _, rfl, rfl, by decide +kernel, hat, Or.inr (Or.inl ⟨_, _, rfl, rfl, by omega, ?_⟩)⟩)⟩
      rw [← enm]
      have w3 := s3 _ _ h2
      have p3 := s3 _ _ (s2 _ _ hph)
      have c1 : nm.length + ("@" : Str).length ≤ sizeLine := by rw [at1]; have := gnm.2.1; omega
      have c2 : (nm ++ ("@" : Str)).length + (homeAt a b i).length ≤ sizeLine := by rw [cat_len, at1]; have := gnm.2.1; have := ha.2.1; have := hb.2.1; unfold homeAt; split <;> omega
      have hix : atI [V.str a, V.str b] ((0 + (i : Int)) % ((2 : Nat) : Int)) = some (.str (homeAt a b i)) := by
        have e : (0 + (i : Int)) % ((2 : Nat) : Int) = ((i % 2 : Nat) : Int) := by omega
        rw [e]
        refine atI_nat ?_
        unfold homeAt
        rcases Nat.mod_two_eq_zero_or_one i with z | z <;> rw [z] <;> rfl
      refine ⟨_, rfl, .inl ⟨rfl, _, SqL.of w3⟩, _, rfl, Or.inr (Or.inl ⟨_, _, rfl, rfl, c1, _, rfl, _, rfl, _, rfl, _, 2, rfl, .inl ⟨_, SqL.of p3, rfl⟩, _, _, rfl, rfl, (by dsimp only; decide), Or.inl ⟨ph, _, _, _, rfl, rfl, SqL.of p3, hix, Or.inr (Or.inl ⟨_, _, rfl, rfl, c2, q, _, _, rfl, rfl, w3, by omega, ?_⟩)⟩⟩)⟩
      refine ⟨_, _, _, xs ++ [.str (nm ++ ("@" : Str) ++ homeAt a b i)], rfl, by simp [hl], fun j v hv => ?_, upd_same, same_on hq (s2.trans s3)⟩
      rcases snoc_at hl hv with z | ⟨rfl, rfl⟩
      · exact hg j v z
      · exact ⟨nm, gnm, rfl⟩
    · rintro σ H2 ⟨x4, x5, x6, xs, rfl, hl, hg, h2, s2⟩
      obtain ⟨x, y, z, rfl⟩ : ∃ x y z, xs = [x, y, z] := by
        match xs, hl with
        | [a, b, c], _ => exact ⟨a, b, c, rfl⟩
      obtain ⟨n0, g0, rfl⟩ := hg 0 x rfl
      obtain ⟨n1, g1, rfl⟩ := hg 1 y rfl
      obtain ⟨n2, g2, rfl⟩ := hg 2 z rfl
      exact ⟨_, rfl, k q n0 n1 n2 H2 s2 h2 g0 g1 g2⟩
end
end K80

set_option Elab.async false
set_option linter.all false
set_option maxRecDepth 100000
namespace K80
open PySem L2 BB PP
section
variable {P : Program} {w : World} {K : PySem.W.Frag} {mg : Str → Option Value} {base : Heap}
theorem fold_lt : ∀ (l : List Nat) (a : Nat), (∀ c ∈ l, 48 ≤ c ∧ c ≤ 57) → l.foldl (fun acc c => acc * 10 + (c - 48)) a < (a + 1) * 10 ^ l.length
  | [], a, _ => by simp
  | c :: l, a, h => by
    have hc := h c List.mem_cons_self
    have ih := fold_lt l (a * 10 + (c - 48)) (fun d hd => h d (List.mem_cons_of_mem _ hd))
    refine Nat.lt_of_lt_of_le ih ?_
    rw [List.length_cons, Nat.pow_succ, Nat.mul_comm (10 ^ l.length) 10, ← Nat.mul_assoc]
    exact Nat.mul_le_mul_right _ (by omega)
theorem slice_all {x : Str} {i : Nat} (h : x.length ≤ i) : Txt.slice x none (some (i : Int)) = Txt.slice x none (some (x.length : Int)) := by
  have e : Builtin.Str.strSliceIndices (none : Option Int) (some (i : Int)) 1 x.length = Builtin.Str.strSliceIndices (none : Option Int) (some (x.length : Int)) 1 x.length := by
    unfold Builtin.Str.strSliceIndices
    simp
    congr 1
    split <;> split <;> omega
  unfold Txt.slice
  rw [e]
open PySem.W PySem.W.KIN PySem.NumText PyProof.Rows in
theorem cut_digits {x : Str} {f : Nat} (hf : 1 ≤ f) (hp : 0 < x.length) (hl : x.length ≤ 20) (hd : ∀ c ∈ x.cps.toList, 48 ≤ c ∧ c ≤ 57) : ∃ m : Nat, PySem.intText? (Txt.slice x none (some (f : Int))) = some (m : Int) ∧ m < 10 ^ 20 ∧ (Txt.slice x none (some (f : Int))).length ≤ 640 := by
  have xl : x.cps.toList.length = x.length := by simp [Str.length]
  obtain ⟨g, hg0, hg1, e⟩ : ∃ g : Nat, 1 ≤ g ∧ g ≤ x.length ∧ (Txt.slice x none (some (f : Int))).cps.toList = x.cps.toList.take g := by
    rcases Nat.lt_or_ge f x.length with h | h
    · exact ⟨f, hf, by omega, by rw [slice_to (by omega), sub_list]; rfl⟩
    · exact ⟨x.length, hp, Nat.le_refl _, by rw [slice_all h, slice_to (Nat.le_refl _), sub_list]; rfl⟩
  have tl : (Txt.slice x none (some (f : Int))).length = g := by
    have : (Txt.slice x none (some (f : Int))).length = (Txt.slice x none (some (f : Int))).cps.toList.length := by simp [Str.length]
    rw [this, e, List.length_take]; omega
  have hd2 : ∀ c ∈ (Txt.slice x none (some (f : Int))).cps.toList, 48 ≤ c ∧ c ≤ 57 := fun c hc => by rw [e] at hc; exact hd c (List.mem_of_mem_take hc)
  have hne : (Txt.slice x none (some (f : Int))).cps.toList ≠ [] := fun z => by
    have q : (Txt.slice x none (some (f : Int))).length = (Txt.slice x none (some (f : Int))).cps.toList.length := by simp [Str.length]
    rw [z] at q
    have q : _ = 0 := q
    omega
  refine ⟨_, intText_digits hd2 hne (by omega), ?_, by omega⟩
  refine Nat.lt_of_lt_of_le (fold_lt _ 0 hd2) ?_
  rw [e, List.length_take, xl, Nat.one_mul]
  exact Nat.pow_le_pow_right (by decide) (by omega)
def spNumber : Sp := fun vs H Q _ => ∃ c k least : Int, vs = [.int c, .int k, .int least] ∧ 0 ≤ least ∧ least ≤ 1 ∧ ∀ r : Int, least ≤ r → r < 10 ^ 20 → Q (.int r) H
theorem sc_law_number : FnScope ["_law_cell", "_law_k", "_law_least", "_law_figures", "_law_number_here"] ["_law_cell", "_law_k", "_law_least"] (defScope s_law_number) := ⟨rfl, rfl, rfl, by decide +kernel, rfl, by decide +kernel, by decide +kernel⟩
set_option maxHeartbeats 2000000 in
theorem ok_number (F : Def K mg "_law_number" s_law_number) (B : Blt mg) (C_law_mixed : Can P w K mg base CX0 1 "_law_mixed" ["_law_cell", "_law_k"] spMixed) : Can P w K mg base CX0 2 "_law_number" ["_law_cell", "_law_k", "_law_least"] spNumber := by
  refine F.can sc_law_number (fun _ _ _ _ _ _ us hl => match us, hl with | [_, _, _], _ => rfl) (fun vs H Q E h => ?_) (fun f cdv A outer s H vs Q E hr h => ?_)
  · obtain ⟨_, _, _, rfl, _⟩ := h; rfl
  · obtain ⟨c, kk, least, rfl, l0, l1, k⟩ := h
    refine ⟨_, (pss_cons (ps_set (i := 3) sc_law_number.nd rfl (by first | exact Or.inl rfl | exact Or.inr rfl) (pe_op op_plus pe_int (pe_op op_mod (pe_can C_law_mixed (hr.mono (by decide)) rfl (pa_cons (pv 0) (pa_cons (pe_op op_plus pe_int (pv 1)) pa_nil))) pe_int)))
      (pss_cons (ps_set (i := 4) sc_law_number.nd rfl (by first | exact Or.inl rfl | exact Or.inr rfl) (pe_op op_plus (pe_op op_mul (pe_can C_law_mixed (hr.mono (by decide)) rfl (pa_cons (pv 0) (pa_cons (pe_op op_plus pe_int (pv 1)) pa_nil))) (pe_op op_pow pe_int pe_int)) (pe_can C_law_mixed (hr.mono (by decide)) rfl (pa_cons (pv 0) (pa_cons (pe_op op_plus pe_int (pv 1)) pa_nil)))))
      (pss_one (ps_ret (pe_callB (call_max2 rfl) (by rfl) B.max bt_max (pa_cons (pv 2) (pa_cons (pe_op op_sub (pe_callTy call_intA (by rfl) B.int bt_int (pa_cons (pe_slice sl_str (pe_callTy call_strA (by rfl) B.str bt_str (pa_cons (pv 4) pa_nil)) po_none (po_some (pv 3))) pa_nil)) (pv 2)) pa_nil))))))), ?_⟩
    have big : (100000 : Nat) < sizeLine := by decide
    refine ⟨_, rfl, _, rfl, Or.inl ⟨_, _, rfl, rfl, c, _, rfl, fun z z0 z1 => ⟨_, _, rfl, rfl, (by dsimp only; decide), Or.inl ⟨_, _, rfl, rfl, ?_⟩⟩⟩⟩
    refine ⟨_, rfl, _, rfl, Or.inl ⟨_, _, rfl, rfl, c, _, rfl, fun m1 a0 a1 => ⟨_, _, rfl, rfl, ⟨by decide, by decide, by decide⟩, _, _, rfl, rfl, cmulL (by omega) (by omega), _, rfl, _, rfl, Or.inl ⟨_, _, rfl, rfl, c, _, rfl, fun m2 b0 b1 => Or.inl ⟨_, _, rfl, rfl, ?_⟩⟩⟩⟩⟩
    have y0 : 0 ≤ z % 20 := Int.emod_nonneg _ (by decide)
    have y1 : z % 20 < 20 := Int.emod_lt_of_pos _ (by decide)
    obtain ⟨ff, hff⟩ : ∃ ff : Nat, 1 + z % 20 = (ff : Int) := ⟨(1 + z % 20).toNat, by omega⟩
    dsimp only
    obtain ⟨n, hn⟩ : ∃ n : Int, m1 * 10 ^ (10 : Int).toNat + m2 = n := ⟨_, rfl⟩
    have e10 : (10 : Int) ^ (10 : Int).toNat = 10000000000 := by decide
    have n0 : 0 ≤ n := by rw [← hn, e10]; omega
    have n1 : n < 10 ^ 20 := by rw [← hn, e10]; omega
    rw [hn, hff]
    have t := num_text n0 n1
    obtain ⟨m, em, hm, hl⟩ := cut_digits (x := numS n) (f := ff) (by omega) t.pos t.len t.dig
    have m1' : (m : Int) < 10 ^ 20 := by exact_mod_cast hm
    have tl := t.len
    refine ⟨_, rfl, _, rfl, Or.inl ⟨_, rfl, log_small n0 n1, ?_⟩⟩
    refine ⟨_, rfl, _, rfl, _, rfl, by omega, Or.inr ⟨_, _, rfl, em, hl, _, rfl, _, _, rfl, rfl, _, _, rfl, ?_⟩⟩
    dsimp only
    split
    · exact k _ (by omega) (by omega)
    · exact k _ (by omega) (by omega)
end
end K80

set_option Elab.async false
set_option linter.all false
set_option maxRecDepth 100000
namespace K80
open PySem L2 BB PP
section
variable {P : Program} {w : World} {K : PySem.W.Frag} {mg : Str → Option Value} {base : Heap}
theorem sc_law_row : FnScope ["_law_parts"] ["_law_parts"] (defScope s_law_row) := ⟨rfl, rfl, rfl, by decide +kernel, rfl, by decide +kernel, by decide +kernel⟩
set_option maxHeartbeats 2000000 in
theorem ok_row (F : Def K mg "_law_row" s_law_row) (B : Blt mg) : Can P w K mg base CX0 1 "_law_row" ["_law_parts"] (spText deedS fun v => v = .non ∨ Part v) := by
  refine F.can sc_law_row (fun _ _ _ _ _ _ us hl => match us, hl with | [_], _ => rfl) (fun vs H Q E h => ?_) (fun f cdv A outer s H vs Q E hr h => ?_)
  · obtain ⟨_, _, rfl, _⟩ := h; rfl
  · obtain ⟨a, xs, rfl, ha, hl, hx, k⟩ := h
    refine ⟨_, (pss_one (ps_ret (pe_bm PySem.F.plainAttrs_str PySem.F.slot_str_join PySem.F.type_str_join mt_join pe_str (pa_cons (pe_comp (N := ["_law_part"]) (ci := []) (compSc_of (sc0 := defScope s_law_row) (N0 := ["_law_parts"]) (by decide +kernel) rfl rfl (fun y hy => PySem.W.cellsFrom_some _ _ _ (.inl hy))) rfl (pi_tup (pv 0)) (fun _ _ _ _ _ => (pe_ix (ix_seqK K rfl) (pe_lst (pa_cons pe_str (pa_cons (pe_callTy call_strA (by rfl) B.str bt_str (pa_cons (pv 0) pa_nil)) pa_nil))) (pe_callTy call_intA (by rfl) B.int bt_int (pa_cons (pe_cmpR op_notN (pv 0) pe_non (nomark _)) pa_nil)) (fun _ _ => rfl)))) pa_nil)))), ?_⟩
    have big : (100000 : Nat) < sizeLine := by decide
    have sp1 : (" " : Str).length = 1 := by decide +kernel
    have dl : ∀ v, (v = .non ∨ Part v) → (deedS v).length ≤ 200 := fun v hv => by
      unfold deedS
      split
      · decide +kernel
      · rcases hv with h | h
        · contradiction
        · exact h.len
    refine ⟨rfl, _, rfl, a, rfl, ⟨_, SqT.of ha⟩, fun D hD => comp_by xs.length (by omega) (fun i ys H2 => ys = (xs.take i).map (fun v => V.str (deedS v)) ∧ H2 D = some (.lst ys) ∧ Same H H2) ⟨rfl, upd_same, same_upd hD⟩ ?_ ?_ ?_⟩
    · rintro i ys H2 hi ⟨rfl, h2, s2⟩
      refine ⟨h2, ?_⟩
      rw [List.length_map, List.length_take]; omega
    · rintro ys H2 ⟨rfl, h2, s2⟩
      have el : xs.take xs.length = xs := List.take_length ..
      obtain ⟨j1, j2, j3⟩ := join_ok " " (by omega) (ts := xs.map deedS) (by rw [List.length_map]; exact hl) (fun s hs => by obtain ⟨v, hv, rfl⟩ := List.mem_map.mp hs; exact dl v (hx v hv))
      refine ⟨⟨xs, SqT.of (s2 _ _ ha), Nat.le_refl _⟩, " ", D, xs.map deedS, rfl, rfl, SqL.of (by rw [h2, el, List.map_map]; rfl), j1, j2, ?_⟩
      rw [joinS_eq]
      exact k _ s2
    · rintro i ys H2 hi ⟨rfl, h2, s2⟩
      have sq : SqT K H2 a xs := SqT.of (s2 _ _ ha)
      have hxi : xs[i]? = some xs[i] := List.getElem?_eq_getElem hi
      refine ⟨⟨xs, _, sq, hxi⟩, ?_⟩
      rintro v H' ⟨rfl, hv⟩ R hR
      have ev : v = xs[i] := by have := hv xs sq; rw [hxi] at this; exact (Option.some.inj this).symm
      have pv := hx xs[i] (List.getElem_mem _)
      rw [← ev] at pv
      have step : ∀ q o, H' q = none → R (.str (deedS v)) (upd H' q o) := fun q o hq => by
        have s3 := same_upd (o := o) hq
        refine hR _ _ (s3 _ _ h2) ⟨?_, upd_same, same_on hD (s2.trans s3)⟩
        rw [List.take_add_one, hxi, List.map_append, ev]; rfl
      rcases pv with rfl | ⟨z, rfl, _⟩ | ⟨n, rfl, n0, n1⟩
      · refine ⟨_, rfl, Or.inr (Or.inr ⟨rfl, by show 2 ≤ sizeLine; omega, fun q hq => ?_⟩)⟩
        simp only [deedS_non] at step
        exact ⟨_, rfl, rfl, Or.inl (Or.inr ⟨_, rfl, Or.inl ⟨q, _, _, .str "-", rfl, rfl, SqL.of upd_same, (by rw [show (!decide (V.non = V.non)) = false by simp]; exact atI_nat (j := 0) rfl), step q _ hq⟩⟩)⟩
      · refine ⟨_, rfl, Or.inr (Or.inl ⟨z, rfl, by show 2 ≤ sizeLine; omega, fun q hq => ?_⟩)⟩
        simp only [deedS_str] at step
        exact ⟨_, rfl, rfl, Or.inl (Or.inr ⟨_, rfl, Or.inl ⟨q, _, _, .str z, rfl, rfl, SqL.of upd_same, (by rw [show (!decide (V.str z = V.non)) = true by simp]; exact atI_nat (j := 1) rfl), step q _ hq⟩⟩)⟩
      · refine ⟨_, rfl, Or.inl ⟨n, rfl, log_small n0 n1, by show 2 ≤ sizeLine; omega, fun q hq => ?_⟩⟩
        simp only [deedS_int] at step
        exact ⟨_, rfl, rfl, Or.inl (Or.inr ⟨_, rfl, Or.inl ⟨q, _, _, .str (numS n), rfl, rfl, SqL.of upd_same, (by rw [show (!decide (V.int n = V.non)) = true by simp]; exact atI_nat (j := 1) rfl), step q _ hq⟩⟩)⟩
end
end K80

set_option Elab.async false
set_option linter.all false
set_option maxRecDepth 100000
namespace K80
open PySem L2 BB PP
section
variable {P : Program} {w : World} {K : PySem.W.Frag} {mg : Str → Option Value} {base : Heap}
def Flat3 (v : V) : Prop := v = .non ∨ (∃ i, v = .int i) ∨ ∃ z, v = .str z
def kindsV (v : V) : List V := [.bl (match v with | .int _ => true | _ => false), .bl false]
theorem Flat3.flat {v : V} (h : Flat3 v) : flatV v = true := by rcases h with rfl | ⟨i, rfl⟩ | ⟨z, rfl⟩ <;> rfl
def spSame : Sp := fun vs H Q _ => ∃ (p q : Addr) (xs : List V), vs = [.ref p, .ref q] ∧ H p = some (.tup xs) ∧ H q = some (.tup xs) ∧ xs.length ≤ 400 ∧ (∀ v ∈ xs, Flat3 v) ∧ ∀ H', Same H H' → Q (.bl true) H'
theorem sc_law_same : FnScope ["_law_found", "_law_due", "_law_kinds"] ["_law_found", "_law_due"] (defScope s_law_same) := ⟨rfl, rfl, rfl, by decide +kernel, rfl, by decide +kernel, by decide +kernel⟩
/-- the lists of kinds: ps of xs, at H -/
def Kinds (H : Hp) (ps : List Addr) (xs : List V) : Prop := ps.length = xs.length ∧ ∀ (j : Nat) p v, ps[j]? = some p → xs[j]? = some v → H p = some (.lst (kindsV v))
def isiR (K : PySem.W.Frag) : List V → Hp → VK → Prop := fun xs H Q => ∃ x T t b, xs = [x, .ty T] ∧ TyOf K H x t ∧ PySem.W.kitOne K t (.type T) = some b ∧ Q (.bl b) H
def kindsT (K : PySem.W.Frag) : TE := tLst (tCons (tCB (isiR K) (tCons (tVar 0) (tCons (tC (V.ty "int")) tNil))) (tCons (tCB (isiR K) (tCons (tVar 0) (tCons (tC (V.ty "bool")) tNil))) tNil))
theorem kinds_comp {H : Hp} {q D : Addr} {xs : List V} {Q : VK} (hq : H q = some (.tup xs)) (hD : H D = none) (hl : xs.length ≤ 400) (hx : ∀ v ∈ xs, Flat3 v) (kQ : ∀ (ps : List Addr) (H' : Hp), Same H H' → H' D = some (.lst (ps.map V.ref)) → Kinds H' ps xs → Q (.ref D) H') : CompAt (Itt K q) (kindsT K) [] Q H D := by
  have big : (100000 : Nat) < sizeLine := by decide
  have kI : ∀ v, Flat3 v → ∀ H2 : Hp, ∃ t, TyOf K H2 v t ∧ PySem.W.kitOne K t (.type "int") = some (match v with | .int _ => true | _ => false) ∧ PySem.W.kitOne K t (.type "bool") = some false := fun v hv H2 => by
    rcases hv with rfl | ⟨i, rfl⟩ | ⟨z, rfl⟩
    · exact ⟨_, (IsK.non (H := H2)).tyOf, rfl, rfl⟩
    · exact ⟨_, (IsK.int (H := H2) i).tyOf, rfl, rfl⟩
    · exact ⟨_, (IsK.str (H := H2) z).tyOf, rfl, rfl⟩
  refine comp_by xs.length (by omega) (fun i ys H2 => ∃ ps : List Addr, ys = ps.map V.ref ∧ Kinds H2 ps (xs.take i) ∧ H2 D = some (.lst ys) ∧ D ∉ ps ∧ Same H H2) ⟨[], rfl, ⟨rfl, fun _ _ _ z => nomatch z⟩, upd_same, List.not_mem_nil, same_upd hD⟩ ?_ ?_ ?_
  · rintro i ys H2 hi ⟨ps, rfl, kd, h2, _, s2⟩
    refine ⟨h2, ?_⟩
    rw [List.length_map, kd.1, List.length_take]; omega
  · rintro ys H2 ⟨ps, rfl, kd, h2, nD, s2⟩
    rw [List.take_length] at kd
    exact ⟨⟨xs, SqT.of (s2 _ _ hq), Nat.le_refl _⟩, kQ ps H2 s2 h2 kd⟩
  · rintro i ys H2 hi ⟨ps, rfl, kd, h2, nD, s2⟩
    have sq : SqT K H2 q xs := SqT.of (s2 _ _ hq)
    have hxi : xs[i]? = some xs[i] := List.getElem?_eq_getElem hi
    refine ⟨⟨xs, _, sq, hxi⟩, ?_⟩
    rintro v H' ⟨rfl, hv⟩ R hR
    have ev : v = xs[i] := by have := hv xs sq; rw [hxi] at this; exact (Option.some.inj this).symm
    have pv := hx xs[i] (List.getElem_mem _)
    rw [← ev] at pv
    obtain ⟨t, t1, t2, t3⟩ := kI v pv H'
    refine ⟨_, rfl, _, _, _, _, rfl, t1, t2, _, rfl, _, _, _, _, rfl, t1, t3, by show 2 ≤ sizeLine; omega, fun r hr => ?_⟩
    have s3 := same_upd (o := .lst (kindsV v)) hr
    have rD : r ≠ D := fun e => by rw [e, h2] at hr; cases hr
    refine hR _ _ (s3 _ _ h2) ⟨ps ++ [r], by simp, ⟨?_, ?_⟩, upd_same, ?_, same_on hD (s2.trans s3)⟩
    · rw [List.length_append, kd.1, List.length_take, List.length_take]; simp; omega
    · intro j p' v' e1 e2
      have hlen : ps.length = i := by rw [kd.1, List.length_take]; omega
      rw [List.take_add_one, hxi] at e2
      rcases snoc_at hlen e1 with z | ⟨rfl, rfl⟩
      · have jl : j < ps.length := (List.getElem?_eq_some_iff.mp z).1
        rw [List.getElem?_append_left (by rw [List.length_take]; omega)] at e2
        have pD : p' ≠ D := fun e => nD (e ▸ List.mem_of_getElem? z)
        rw [upd_ne pD]
        exact s3 _ _ (kd.2 j p' v' z e2)
      · have l2 : (xs.take j).length = j := by rw [List.length_take]; omega
        rw [List.getElem?_append_right (by omega), l2, Nat.sub_self] at e2
        have e3 : xs[j] = v' := Option.some.inj e2
        rw [upd_ne rD, ← e3, ← ev]
        exact upd_same
    · intro z
      rcases List.mem_append.mp z with z | z
      · exact nD z
      · exact rD (List.mem_singleton.mp z).symm
set_option maxHeartbeats 4000000 in
theorem ok_same (F : Def K mg "_law_same" s_law_same) (B : Blt mg) : Can P w K mg base CX0 1 "_law_same" ["_law_found", "_law_due"] spSame := by
  refine F.can sc_law_same (fun _ _ _ _ _ _ us hl => match us, hl with | [_, _], _ => rfl) (fun vs H Q E h => ?_) (fun f cdv A outer s H vs Q E hr h => ?_)
  · obtain ⟨_, _, _, rfl, _⟩ := h; rfl
  · obtain ⟨p, q, xs, rfl, hp, hq, hl, hx, k⟩ := h
    refine ⟨_, (pss_cons (ps_setComp (iY := 2) sc_law_same.nd rfl rfl (N := ["_law_part"]) (ci := []) (compSc_of (sc0 := defScope s_law_same) (N0 := ["_law_found", "_law_due", "_law_kinds"]) (by decide +kernel) rfl rfl (fun y hy => PySem.W.cellsFrom_some _ _ _ (.inl hy))) rfl (pi_tup (pv 1)) (fun _ _ _ _ _ => (pe_lst (pa_cons (pe_callB (call_isinstK K rfl) (by rfl) B.isinstance bt_isinstance (pa_cons (pv 0) (pa_cons (pe_bltn (v := .ty "int") rfl B.int bt_int rfl) pa_nil))) (pa_cons (pe_callB (call_isinstK K rfl) (by rfl) B.isinstance bt_isinstance (pa_cons (pv 0) (pa_cons (pe_bltn (v := .ty "bool") rfl B.bool bt_bool rfl) pa_nil))) pa_nil)))))
      (pss_cons (ps_if (PW.pt (pw_or (pt_not (pt_truth (pe_callB call_isinst (by rfl) B.isinstance bt_isinstance (pa_cons (pv 0) (pa_cons (pe_bltn (v := .ty "tuple") rfl B.tuple bt_tuple rfl) pa_nil))) (fun _ => rfl))) (pw_or1 (pt_cmpR (op_neT (by have z := Nat.lt_of_succ_lt (hu_of hr); exact z)) (pv 0) (pv 1) (nomark _))))) (pss_one (ps_ret pe_bl)) pss_nil)
      (pss_one (ps_ret (pe_cmpR (op_eqLL (by have z := hu_of hr; exact z)) (pe_comp (N := ["_law_part"]) (ci := []) (compSc_of (sc0 := defScope s_law_same) (N0 := ["_law_found", "_law_due", "_law_kinds"]) (by decide +kernel) rfl rfl (fun y hy => PySem.W.cellsFrom_some _ _ _ (.inl hy))) rfl (pi_tup (pv 0)) (fun _ _ _ _ _ => (pe_lst (pa_cons (pe_callB (call_isinstK K rfl) (by rfl) B.isinstance bt_isinstance (pa_cons (pv 0) (pa_cons (pe_bltn (v := .ty "int") rfl B.int bt_int rfl) pa_nil))) (pa_cons (pe_callB (call_isinstK K rfl) (by rfl) B.isinstance bt_isinstance (pa_cons (pv 0) (pa_cons (pe_bltn (v := .ty "bool") rfl B.bool bt_bool rfl) pa_nil))) pa_nil))))) (pv 2) (nomark _)))))), ?_⟩
    have fl : ∀ v ∈ xs, flatV v = true := fun v hv => (hx v hv).flat
    refine ⟨_, rfl, q, rfl, ⟨_, SqT.of hq⟩, fun D hD => kinds_comp hq hD hl hx fun ps H2 s2 h2 kd => ?_⟩
    refine ⟨_, rfl, _, _, _, _, rfl, (IsK.tup (s2 _ _ hp)).tyOf, kit_tuple .tup, _, rfl, if_f rfl ?_⟩
    refine ⟨_, rfl, _, rfl, p, q, xs, xs, rfl, rfl, SqT.of (s2 _ _ hp), SqT.of (s2 _ _ hq), fl, fl, _, rfl, if_f (by show (!tupEq xs xs) = false; rw [tupEq_self fl]; rfl) ?_⟩
    refine ⟨_, rfl, p, rfl, ⟨_, SqT.of (s2 _ _ hp)⟩, fun D2 hD2 => kinds_comp (s2 _ _ hp) hD2 hl hx fun qs H3 s3 h3 kd3 => ?_⟩
    refine ⟨_, rfl, D2, D, qs, ps, rfl, rfl, SqL.of h3, SqL.of (s3 _ _ h2), by rw [kd.1, kd3.1], fun j p1 q1 e1 e2 => ?_, k _ (s2.trans s3)⟩
    have jl : j < xs.length := by rw [← kd3.1]; exact (List.getElem?_eq_some_iff.mp e1).1
    refine ⟨kindsV xs[j], SqL.of (kd3.2 j p1 _ e1 (List.getElem?_eq_getElem jl)), SqL.of (s3 _ _ (kd.2 j q1 _ e2 (List.getElem?_eq_getElem jl))), fun v hv => ?_⟩
    unfold kindsV at hv
    rcases List.mem_cons.mp hv with rfl | hv
    · rfl
    · rw [List.mem_singleton.mp hv]; rfl
end
end K80

set_option Elab.async false
set_option linter.all false
set_option maxRecDepth 100000
namespace K80
open PySem L2 BB PP
section
variable {P : Program} {w : World} {K : PySem.W.Frag} {mg : Str → Option Value} {base : Heap}
theorem upd_as {H : Hp} {p : Addr} {o : HO} (h : H p = none) : ∃ H', Same H H' ∧ H' p = some o ∧ upd H p o = H' := ⟨_, same_upd h, upd_same, rfl⟩
/-- what an answer's at may be -/
def AtOk (t2 : Str) (x : V) : Prop := (∃ i : Int, x = .int i ∧ 0 ≤ i ∧ i < 10 ^ 20) ∨ x = .str t2
def Words6 (w : Str) : Prop := w = "lets" ∨ w = "refuses" ∨ w = "bars" ∨ w = "gone" ∨ w = "open" ∨ w = "moved"
def spLetter : Sp := fun vs H Q _ => ∃ (c : Int) (q : Addr) (t0 t1 t2 : Str), vs = [.int c, .ref q] ∧ H q = some (.lst [.str t0, .str t1, .str t2]) ∧ personF t2 = true ∧
  ∀ (p a b : Addr) (n : Int) (w : Str) (x : V) (H' : Hp), Same H H' → H' p = some (.lst [.ref a, .ref b]) → H' a = some (.tup [.str "wish", .str t0, .str t1, .int n]) → H' b = some (.tup [.str "answer", .str t0, .str t1, .int n, .str w, x]) → 1 ≤ n → n < 10 ^ 20 → ansF [.int n, .str w, x] = true → Words6 w → AtOk t2 x → Q (.ref p) H'
theorem num_is {w : Str} {k n : Int} (hw : w ≠ "none") (hv : valV leastD (Sum.inr w) = some (.int k)) (hn : k ≤ n) : numF n w = true := by
  unfold numF
  rw [if_neg hw, hv]
  exact decide_eq_true hn
theorem sc_law_letter : FnScope ["_law_cell", "_law_people_here", "_law_number_here", "_law_word_here", "_law_at"] ["_law_cell", "_law_people_here"] (defScope s_law_letter) := ⟨rfl, rfl, rfl, by decide +kernel, rfl, by decide +kernel, by decide +kernel⟩
set_option maxHeartbeats 8000000 in
theorem ok_lletter (F : Def K mg "_law_letter" s_law_letter) (B : Blt mg) (C_law_mixed : Can P w K mg base CX0 1 "_law_mixed" ["_law_cell", "_law_k"] spMixed) (C_law_number : Can P w K mg base CX0 2 "_law_number" ["_law_cell", "_law_k", "_law_least"] spNumber) : Can P w K mg base CX0 3 "_law_letter" ["_law_cell", "_law_people_here"] spLetter := by
  refine F.can sc_law_letter (fun _ _ _ _ _ _ us hl => match us, hl with | [_, _], _ => rfl) (fun vs H Q E h => ?_) (fun f cdv A outer s H vs Q E hr h => ?_)
  · obtain ⟨_, _, _, _, _, rfl, _⟩ := h; rfl
  · obtain ⟨c, q, t0, t1, t2, rfl, hq, g2, k⟩ := h
    refine ⟨_, (pss_cons (ps_set (i := 2) sc_law_letter.nd rfl (by first | exact Or.inl rfl | exact Or.inr rfl) (pe_can C_law_number (hr.mono (by decide)) rfl (pa_cons (pv 0) (pa_cons pe_int (pa_cons pe_int pa_nil)))))
      (pss_cons (ps_set (i := 3) sc_law_letter.nd rfl (by first | exact Or.inl rfl | exact Or.inr rfl) (pe_ix ix_seq (pe_lst (pa_cons pe_str (pa_cons pe_str (pa_cons pe_str (pa_cons pe_str (pa_cons pe_str (pa_cons pe_str pa_nil))))))) (pe_op op_mod (pe_can C_law_mixed (hr.mono (by decide)) rfl (pa_cons (pv 0) (pa_cons pe_int pa_nil))) pe_int) (fun _ _ => rfl)))
      (pss_cons (ps_set (i := 4) sc_law_letter.nd rfl (by first | exact Or.inl rfl | exact Or.inr rfl) pe_int)
      (pss_cons (ps_if (pt_cmpR op_inx (pv 3) (pe_tup (pa_cons pe_str (pa_cons pe_str pa_nil))) rfl) (pss_cons (ps_set (i := 4) sc_law_letter.nd rfl (by first | exact Or.inl rfl | exact Or.inr rfl) (pe_can C_law_number (hr.mono (by decide)) rfl (pa_cons (pv 0) (pa_cons pe_int (pa_cons pe_int pa_nil)))))
      (pss_one (ps_set (i := 4) sc_law_letter.nd rfl (by first | exact Or.inl rfl | exact Or.inr rfl) (pe_op op_sub (pe_op op_plus (pv 4) pe_int) (pe_op op_mod (pv 4) pe_int))))) pss_nil)
      (pss_cons (ps_if (pt_cmpR op_eq (pv 3) pe_str (nomark _)) (pss_one (ps_set (i := 4) sc_law_letter.nd rfl (by first | exact Or.inl rfl | exact Or.inr rfl) (pe_ix ix_seq (pv 1) pe_int (fun _ _ => rfl)))) pss_nil)
      (pss_cons (ps_if (pt_cmpR op_eq (pv 3) pe_str (nomark _)) (pss_one (ps_set (i := 2) sc_law_letter.nd rfl (by first | exact Or.inl rfl | exact Or.inr rfl) (pe_callB (call_max2 rfl) (by rfl) B.max bt_max (pa_cons pe_int (pa_cons (pv 2) pa_nil))))) pss_nil)
      (pss_one (ps_ret (pe_lst (pa_cons (pe_tup (pa_cons pe_str (pa_cons (pe_ix ix_seq (pv 1) pe_int (fun _ _ => rfl)) (pa_cons (pe_ix ix_seq (pv 1) pe_int (fun _ _ => rfl)) (pa_cons (pv 2) pa_nil))))) (pa_cons (pe_tup (pa_cons pe_str (pa_cons (pe_ix ix_seq (pv 1) pe_int (fun _ _ => rfl)) (pa_cons (pe_ix ix_seq (pv 1) pe_int (fun _ _ => rfl)) (pa_cons (pv 2) (pa_cons (pv 3) (pa_cons (pv 4) pa_nil))))))) pa_nil))))))))))), ?_⟩
    have big : (100000 : Nat) < sizeLine := by decide
    refine ⟨_, rfl, c, 1, 1, rfl, by decide, by decide, fun n n0 n1 => ⟨by show 6 ≤ sizeLine; omega, fun q1 hq1 => ⟨_, rfl, c, _, rfl, fun z z0 z1 => ⟨_, _, rfl, rfl, (by dsimp only; decide), ?_⟩⟩⟩⟩
    have y0 : 0 ≤ z % 6 := Int.emod_nonneg _ (by decide)
    have y1 : z % 6 < 6 := Int.emod_lt_of_pos _ (by decide)
    obtain ⟨w0, hw0, hat⟩ : ∃ w0 : Str, Words6 w0 ∧ atI [V.str "lets", .str "refuses", .str "bars", .str "gone", .str "open", .str "moved"] (z % 6) = some (.str w0) := by
      obtain ⟨y, hy⟩ : ∃ y : Nat, z % 6 = (y : Int) := ⟨(z % 6).toNat, by omega⟩
      rw [hy]
      have : y < 6 := by omega
      match y, this with
      | 0, _ => exact ⟨"lets", .inl rfl, atI_nat rfl⟩
      | 1, _ => exact ⟨"refuses", .inr (.inl rfl), atI_nat rfl⟩
      | 2, _ => exact ⟨"bars", .inr (.inr (.inl rfl)), atI_nat rfl⟩
      | 3, _ => exact ⟨"gone", .inr (.inr (.inr (.inl rfl))), atI_nat rfl⟩
      | 4, _ => exact ⟨"open", .inr (.inr (.inr (.inr (.inl rfl)))), atI_nat rfl⟩
      | 5, _ => exact ⟨"moved", .inr (.inr (.inr (.inr (.inr rfl)))), atI_nat rfl⟩
    refine Or.inl ⟨q1, _, _, _, rfl, rfl, SqL.of upd_same, hat, ?_⟩
    obtain ⟨H1, s1, e1⟩ : ∃ H', Same H H' ∧ upd H q1 (.lst [V.str "lets", .str "refuses", .str "bars", .str "gone", .str "open", .str "moved"]) = H' := ⟨_, (same_at hq1).1, rfl⟩
    rw [e1]
    refine ⟨_, rfl, by show 2 ≤ sizeLine; omega, fun q2 hq2 => Or.inr ⟨q2, _, rfl, .inr (SqT.of upd_same), rfl, rfl, _, rfl, ?_⟩⟩
    obtain ⟨H2, s2', e2⟩ : ∃ H', Same H1 H' ∧ upd H1 q2 (.tup [V.str "lets", .str "refuses"]) = H' := ⟨_, (same_at hq2).1, rfl⟩
    rw [e2]
    have s2 := s1.trans s2'
    have hq2' := s2 _ _ hq
    rcases hw0 with rfl | rfl | rfl | rfl | rfl | rfl
    · refine if_t (by decide +kernel) ⟨_, rfl, c, 2, 1, rfl, by decide, by decide, fun a a0 a1 => ⟨_, rfl, Or.inl ⟨_, _, rfl, rfl, _, rfl, _, _, rfl, rfl, (by dsimp only; decide), _, _, rfl, rfl, ?_⟩⟩⟩
      refine ⟨_, rfl, rfl, _, rfl, if_f (by decide +kernel) ?_⟩
      refine ⟨_, rfl, rfl, _, rfl, if_f (by decide +kernel) ?_⟩
      have b0 : 0 < a + 1 - a % 2 := by omega
      have b1 : a + 1 - a % 2 < 10 ^ 20 := by omega
      have b2 : (a + 1 - a % 2) % 2 = 1 := by omega
      have ans : ansF [.int n, .str "lets", .int (a + 1 - a % 2)] = true := by
        show (numF n "lets" && atF (.int (a + 1 - a % 2)) "lets") = true
        rw [num_is (k := 1) (by decide +kernel) (by decide +kernel) n0]
        unfold atF
        rw [if_pos (Or.inl rfl)]
        show (decide (0 < a + 1 - a % 2) && decide (V.int ((a + 1 - a % 2) % 2) = .int 1)) = true
        rw [decide_eq_true b0, b2]; rfl
      refine ⟨_, rfl, Or.inl ⟨q, _, _, .str t0, rfl, rfl, SqL.of hq2', atI_nat (j := 0) rfl, _, rfl, Or.inl ⟨q, _, _, .str t1, rfl, rfl, SqL.of hq2', atI_nat (j := 1) rfl, _, rfl, by show 4 ≤ sizeLine; omega, fun p1 hp1 => ?_⟩⟩⟩
      obtain ⟨H3, s3, w3, e3⟩ := upd_as (o := .tup _) hp1
      rw [e3]
      have hq3 := s3 _ _ hq2'
      refine ⟨_, rfl, Or.inl ⟨q, _, _, .str t0, rfl, rfl, SqL.of hq3, atI_nat (j := 0) rfl, _, rfl, Or.inl ⟨q, _, _, .str t1, rfl, rfl, SqL.of hq3, atI_nat (j := 1) rfl, _, rfl, _, rfl, _, rfl, by show 6 ≤ sizeLine; omega, fun p2 hp2 => ?_⟩⟩⟩
      obtain ⟨H4, s4, w4, e4⟩ := upd_as (o := .tup _) hp2
      rw [e4]
      refine ⟨by show 2 ≤ sizeLine; omega, fun p3 hp3 => ?_⟩
      have s5 := same_upd (o := .lst [.ref p1, .ref p2]) hp3
      exact k p3 p1 p2 _ _ _ _ (((s2.trans s3).trans s4).trans s5) upd_same (s5 _ _ (s4 _ _ w3)) (s5 _ _ w4) n0 n1 ans (.inl rfl) (.inl ⟨_, rfl, by omega, b1⟩)
    · refine if_t (by decide +kernel) ⟨_, rfl, c, 2, 1, rfl, by decide, by decide, fun a a0 a1 => ⟨_, rfl, Or.inl ⟨_, _, rfl, rfl, _, rfl, _, _, rfl, rfl, (by dsimp only; decide), _, _, rfl, rfl, ?_⟩⟩⟩
      refine ⟨_, rfl, rfl, _, rfl, if_f (by decide +kernel) ?_⟩
      refine ⟨_, rfl, rfl, _, rfl, if_f (by decide +kernel) ?_⟩
      have b0 : 0 < a + 1 - a % 2 := by omega
      have b1 : a + 1 - a % 2 < 10 ^ 20 := by omega
      have b2 : (a + 1 - a % 2) % 2 = 1 := by omega
      have ans : ansF [.int n, .str "refuses", .int (a + 1 - a % 2)] = true := by
        show (numF n "refuses" && atF (.int (a + 1 - a % 2)) "refuses") = true
        rw [num_is (k := 1) (by decide +kernel) (by decide +kernel) n0]
        unfold atF
        rw [if_pos (Or.inr rfl)]
        show (decide (0 < a + 1 - a % 2) && decide (V.int ((a + 1 - a % 2) % 2) = .int 1)) = true
        rw [decide_eq_true b0, b2]; rfl
      refine ⟨_, rfl, Or.inl ⟨q, _, _, .str t0, rfl, rfl, SqL.of hq2', atI_nat (j := 0) rfl, _, rfl, Or.inl ⟨q, _, _, .str t1, rfl, rfl, SqL.of hq2', atI_nat (j := 1) rfl, _, rfl, by show 4 ≤ sizeLine; omega, fun p1 hp1 => ?_⟩⟩⟩
      obtain ⟨H3, s3, w3, e3⟩ := upd_as (o := .tup _) hp1
      rw [e3]
      have hq3 := s3 _ _ hq2'
      refine ⟨_, rfl, Or.inl ⟨q, _, _, .str t0, rfl, rfl, SqL.of hq3, atI_nat (j := 0) rfl, _, rfl, Or.inl ⟨q, _, _, .str t1, rfl, rfl, SqL.of hq3, atI_nat (j := 1) rfl, _, rfl, _, rfl, _, rfl, by show 6 ≤ sizeLine; omega, fun p2 hp2 => ?_⟩⟩⟩
      obtain ⟨H4, s4, w4, e4⟩ := upd_as (o := .tup _) hp2
      rw [e4]
      refine ⟨by show 2 ≤ sizeLine; omega, fun p3 hp3 => ?_⟩
      have s5 := same_upd (o := .lst [.ref p1, .ref p2]) hp3
      exact k p3 p1 p2 _ _ _ _ (((s2.trans s3).trans s4).trans s5) upd_same (s5 _ _ (s4 _ _ w3)) (s5 _ _ w4) n0 n1 ans (.inr (.inl rfl)) (.inl ⟨_, rfl, by omega, b1⟩)
    · refine if_f (by decide +kernel) ?_
      refine ⟨_, rfl, rfl, _, rfl, if_f (by decide +kernel) ?_⟩
      refine ⟨_, rfl, rfl, _, rfl, if_f (by decide +kernel) ?_⟩
      have ans : ansF [.int n, .str "bars", .int 0] = true := by
        show (numF n "bars" && atF (.int 0) "bars") = true
        rw [num_is (k := 1) (by decide +kernel) (by decide +kernel) n0]
        decide +kernel
      refine ⟨_, rfl, Or.inl ⟨q, _, _, .str t0, rfl, rfl, SqL.of hq2', atI_nat (j := 0) rfl, _, rfl, Or.inl ⟨q, _, _, .str t1, rfl, rfl, SqL.of hq2', atI_nat (j := 1) rfl, _, rfl, by show 4 ≤ sizeLine; omega, fun p1 hp1 => ?_⟩⟩⟩
      obtain ⟨H3, s3, w3, e3⟩ := upd_as (o := .tup _) hp1
      rw [e3]
      have hq3 := s3 _ _ hq2'
      refine ⟨_, rfl, Or.inl ⟨q, _, _, .str t0, rfl, rfl, SqL.of hq3, atI_nat (j := 0) rfl, _, rfl, Or.inl ⟨q, _, _, .str t1, rfl, rfl, SqL.of hq3, atI_nat (j := 1) rfl, _, rfl, _, rfl, _, rfl, by show 6 ≤ sizeLine; omega, fun p2 hp2 => ?_⟩⟩⟩
      obtain ⟨H4, s4, w4, e4⟩ := upd_as (o := .tup _) hp2
      rw [e4]
      refine ⟨by show 2 ≤ sizeLine; omega, fun p3 hp3 => ?_⟩
      have s5 := same_upd (o := .lst [.ref p1, .ref p2]) hp3
      exact k p3 p1 p2 _ _ _ _ (((s2.trans s3).trans s4).trans s5) upd_same (s5 _ _ (s4 _ _ w3)) (s5 _ _ w4) n0 n1 ans (.inr (.inr (.inl rfl))) (.inl ⟨_, rfl, by decide, by decide⟩)
    · refine if_f (by decide +kernel) ?_
      refine ⟨_, rfl, rfl, _, rfl, if_f (by decide +kernel) ?_⟩
      refine ⟨_, rfl, rfl, _, rfl, if_f (by decide +kernel) ?_⟩
      have ans : ansF [.int n, .str "gone", .int 0] = true := by
        show (numF n "gone" && atF (.int 0) "gone") = true
        rw [num_is (k := 1) (by decide +kernel) (by decide +kernel) n0]
        decide +kernel
      refine ⟨_, rfl, Or.inl ⟨q, _, _, .str t0, rfl, rfl, SqL.of hq2', atI_nat (j := 0) rfl, _, rfl, Or.inl ⟨q, _, _, .str t1, rfl, rfl, SqL.of hq2', atI_nat (j := 1) rfl, _, rfl, by show 4 ≤ sizeLine; omega, fun p1 hp1 => ?_⟩⟩⟩
      obtain ⟨H3, s3, w3, e3⟩ := upd_as (o := .tup _) hp1
      rw [e3]
      have hq3 := s3 _ _ hq2'
      refine ⟨_, rfl, Or.inl ⟨q, _, _, .str t0, rfl, rfl, SqL.of hq3, atI_nat (j := 0) rfl, _, rfl, Or.inl ⟨q, _, _, .str t1, rfl, rfl, SqL.of hq3, atI_nat (j := 1) rfl, _, rfl, _, rfl, _, rfl, by show 6 ≤ sizeLine; omega, fun p2 hp2 => ?_⟩⟩⟩
      obtain ⟨H4, s4, w4, e4⟩ := upd_as (o := .tup _) hp2
      rw [e4]
      refine ⟨by show 2 ≤ sizeLine; omega, fun p3 hp3 => ?_⟩
      have s5 := same_upd (o := .lst [.ref p1, .ref p2]) hp3
      exact k p3 p1 p2 _ _ _ _ (((s2.trans s3).trans s4).trans s5) upd_same (s5 _ _ (s4 _ _ w3)) (s5 _ _ w4) n0 n1 ans (.inr (.inr (.inr (.inl rfl)))) (.inl ⟨_, rfl, by decide, by decide⟩)
    · refine if_f (by decide +kernel) ?_
      refine ⟨_, rfl, rfl, _, rfl, if_f (by decide +kernel) ?_⟩
      refine ⟨_, rfl, rfl, _, rfl, if_t (by decide +kernel) ⟨_, rfl, _, _, rfl, ?_⟩⟩
      obtain ⟨m, em, m0, m1⟩ : ∃ m : Int, (if n > 2 then n else 2) = m ∧ 2 ≤ m ∧ m < 10 ^ 20 := by
        by_cases g : n > 2
        · exact ⟨n, if_pos g, by omega, n1⟩
        · exact ⟨2, if_neg g, by omega, by decide⟩
      rw [em]
      have ans : ansF [.int m, .str "open", .int 0] = true := by
        show (numF m "open" && atF (.int 0) "open") = true
        rw [num_is (k := 2) (by decide +kernel) (by decide +kernel) m0]
        decide +kernel
      refine ⟨_, rfl, Or.inl ⟨q, _, _, .str t0, rfl, rfl, SqL.of hq2', atI_nat (j := 0) rfl, _, rfl, Or.inl ⟨q, _, _, .str t1, rfl, rfl, SqL.of hq2', atI_nat (j := 1) rfl, _, rfl, by show 4 ≤ sizeLine; omega, fun p1 hp1 => ?_⟩⟩⟩
      obtain ⟨H3, s3, w3, e3⟩ := upd_as (o := .tup _) hp1
      rw [e3]
      have hq3 := s3 _ _ hq2'
      refine ⟨_, rfl, Or.inl ⟨q, _, _, .str t0, rfl, rfl, SqL.of hq3, atI_nat (j := 0) rfl, _, rfl, Or.inl ⟨q, _, _, .str t1, rfl, rfl, SqL.of hq3, atI_nat (j := 1) rfl, _, rfl, _, rfl, _, rfl, by show 6 ≤ sizeLine; omega, fun p2 hp2 => ?_⟩⟩⟩
      obtain ⟨H4, s4, w4, e4⟩ := upd_as (o := .tup _) hp2
      rw [e4]
      refine ⟨by show 2 ≤ sizeLine; omega, fun p3 hp3 => ?_⟩
      have s5 := same_upd (o := .lst [.ref p1, .ref p2]) hp3
      exact k p3 p1 p2 _ _ _ _ (((s2.trans s3).trans s4).trans s5) upd_same (s5 _ _ (s4 _ _ w3)) (s5 _ _ w4) (by omega) m1 ans (.inr (.inr (.inr (.inr (.inl rfl))))) (.inl ⟨_, rfl, by decide, by decide⟩)
    · refine if_f (by decide +kernel) ?_
      refine ⟨_, rfl, rfl, _, rfl, if_t (by decide +kernel) ⟨_, rfl, Or.inl ⟨q, _, _, .str t2, rfl, rfl, SqL.of hq2', atI_nat (j := 2) rfl, ?_⟩⟩⟩
      refine ⟨_, rfl, rfl, _, rfl, if_f (by decide +kernel) ?_⟩
      have ans : ansF [.int n, .str "moved", .str t2] = true := by
        show (numF n "moved" && atF (.str t2) "moved") = true
        rw [num_is (k := 1) (by decide +kernel) (by decide +kernel) n0]
        unfold atF
        rw [if_neg (by decide +kernel), if_pos rfl]
        exact g2
      refine ⟨_, rfl, Or.inl ⟨q, _, _, .str t0, rfl, rfl, SqL.of hq2', atI_nat (j := 0) rfl, _, rfl, Or.inl ⟨q, _, _, .str t1, rfl, rfl, SqL.of hq2', atI_nat (j := 1) rfl, _, rfl, by show 4 ≤ sizeLine; omega, fun p1 hp1 => ?_⟩⟩⟩
      obtain ⟨H3, s3, w3, e3⟩ := upd_as (o := .tup _) hp1
      rw [e3]
      have hq3 := s3 _ _ hq2'
      refine ⟨_, rfl, Or.inl ⟨q, _, _, .str t0, rfl, rfl, SqL.of hq3, atI_nat (j := 0) rfl, _, rfl, Or.inl ⟨q, _, _, .str t1, rfl, rfl, SqL.of hq3, atI_nat (j := 1) rfl, _, rfl, _, rfl, _, rfl, by show 6 ≤ sizeLine; omega, fun p2 hp2 => ?_⟩⟩⟩
      obtain ⟨H4, s4, w4, e4⟩ := upd_as (o := .tup _) hp2
      rw [e4]
      refine ⟨by show 2 ≤ sizeLine; omega, fun p3 hp3 => ?_⟩
      have s5 := same_upd (o := .lst [.ref p1, .ref p2]) hp3
      exact k p3 p1 p2 _ _ _ _ (((s2.trans s3).trans s4).trans s5) upd_same (s5 _ _ (s4 _ _ w3)) (s5 _ _ w4) n0 n1 ans (.inr (.inr (.inr (.inr (.inr rfl))))) (.inr rfl)
end
end K80

set_option Elab.async false
set_option linter.all false
set_option maxRecDepth 100000
namespace K80
open PySem L2 BB PP
section
variable {P : Program} {w : World} {K : PySem.W.Frag} {mg : Str → Option Value} {base : Heap}
/-- the deeds found so far -/
structure Acc (H H' : Hp) (r : Addr) (ds : List Addr) (m : Nat) : Prop where
  lst : H' r = some (.lst (ds.map V.ref))
  good : ∀ d ∈ ds, d ≠ r ∧ ∃ D, H' d = some (.tup D) ∧ Deed D
  len : ds.length ≤ m
  same : Same H H'
theorem Acc.keep {H H' H'' : Hp} {r : Addr} {ds : List Addr} {m : Nat} (h : Acc H H' r ds m) (s : Same H' H'') : Acc H H'' r ds m :=
  ⟨s _ _ h.lst, fun d hd => let ⟨a, D, b, c⟩ := h.good d hd; ⟨a, D, s _ _ b, c⟩, h.len, h.same.trans s⟩
theorem Acc.push {H H' : Hp} {r d : Addr} {ds : List Addr} {m : Nat} {D : List V} (h : Acc H H' r ds m) (hr : H r = none) (hd : H' d = none) (hD : Deed D) : Acc H (upd (upd H' d (.tup D)) r (.lst (ds.map V.ref ++ [.ref d]))) r (ds ++ [d]) (m + 1) := by
  have s := same_upd (o := .tup D) hd
  have dr : d ≠ r := fun e => by rw [e, h.lst] at hd; cases hd
  refine ⟨by rw [upd_same]; simp, fun x hx => ?_, by have := h.len; simp; omega, same_on hr (h.same.trans s)⟩
  rcases List.mem_append.mp hx with z | z
  · obtain ⟨a, D2, b, c⟩ := h.good x z
    exact ⟨a, D2, by rw [upd_ne a]; exact s _ _ b, c⟩
  · have z : x = d := List.mem_singleton.mp z
    subst z
    exact ⟨dr, D, by rw [upd_ne dr, upd_same], hD⟩
def spDeeds : Sp := fun vs H Q _ => ∃ (c : Int) (q ph : Addr) (t0 t1 t2 a b : Str), vs = [.int c, .ref q, .ref ph] ∧ H q = some (.lst [.str t0, .str t1, .str t2]) ∧ H ph = some (.lst [.str a, .str b]) ∧ WordOk t0 ∧ WordOk t1 ∧ WordOk t2 ∧ WordOk a ∧ WordOk b ∧ t2 ≠ "-" ∧
  ∀ (p : Addr) (ds : List Addr) (H' : Hp), Same H H' → H' p = some (.lst (ds.map V.ref)) → (∀ d ∈ ds, ∃ D, H' d = some (.tup D) ∧ Deed D) → ds.length ≤ 30 → Q (.ref p) H'
def OD : Str := "abcXYZ@!-.9"
theorem sc_law_deeds : FnScope ["_law_cell", "_law_people_here", "_law_houses_here", "_law_number_here", "_law_found", "_law_word_here", "_law_odd"] ["_law_cell", "_law_people_here", "_law_houses_here"] (defScope s_law_deeds) := ⟨rfl, rfl, rfl, by decide +kernel, rfl, by decide +kernel, by decide +kernel⟩
set_option maxHeartbeats 8000000 in
theorem ok_deeds (F : Def K mg "_law_deeds" s_law_deeds) (B : Blt mg) (C_law_mixed : Can P w K mg base CX0 1 "_law_mixed" ["_law_cell", "_law_k"] spMixed) (C_law_number : Can P w K mg base CX0 2 "_law_number" ["_law_cell", "_law_k", "_law_least"] spNumber) (C_law_word : Can P w K mg base CX0 2 "_law_word" ["_law_cell", "_law_k", "_law_most", "_law_signs"] spLWord) : Can P w K mg base CX0 3 "_law_deeds" ["_law_cell", "_law_people_here", "_law_houses_here"] spDeeds := by
  refine F.can sc_law_deeds (fun _ _ _ _ _ _ us hl => match us, hl with | [_, _, _], _ => rfl) (fun vs H Q E h => ?_) (fun f cdv A outer s H vs Q E hr h => ?_)
  · obtain ⟨_, _, _, _, _, _, _, _, rfl, _⟩ := h; rfl
  · obtain ⟨c, q, ph, t0, t1, t2, a, b, rfl, hq, hph, g0, g1, g2, ga, gb, t2d, k⟩ := h
    refine ⟨_, (pss_cons (ps_set (i := 3) sc_law_deeds.nd rfl (by first | exact Or.inl rfl | exact Or.inr rfl) (pe_can C_law_number (hr.mono (by decide)) rfl (pa_cons (pv 0) (pa_cons pe_int (pa_cons pe_int pa_nil)))))
      (pss_cons (ps_set (i := 4) sc_law_deeds.nd rfl (by first | exact Or.inl rfl | exact Or.inr rfl) (pe_lst pa_nil))
      (pss_cons (ps_for PassesOwn.never rfl (pi_list (pe_lst (pa_cons pe_str (pa_cons pe_str (pa_cons pe_str (pa_cons pe_str (pa_cons pe_str (pa_cons pe_str pa_nil)))))))) (pg_name (i := 5) sc_law_deeds.nd rfl (by first | exact Or.inl rfl | exact Or.inr rfl))
      (pss_one (ps_expr (pe_bm PySem.F.plainAttrs_list PySem.F.slot_list_append PySem.F.type_list_append mt_append (pv 4) (pa_cons (pe_tup (pa_cons (pv 5) (pa_cons (pe_ix ix_seq (pv 1) pe_int (fun _ _ => rfl)) (pa_cons (pe_ix ix_seq (pv 1) pe_int (fun _ _ => rfl)) pa_nil)))) pa_nil)))))
      (pss_cons (ps_for PassesOwn.never rfl (pi_list (pe_lst (pa_cons pe_str (pa_cons pe_str (pa_cons pe_str pa_nil))))) (pg_name (i := 5) sc_law_deeds.nd rfl (by first | exact Or.inl rfl | exact Or.inr rfl))
      (pss_one (ps_expr (pe_bm PySem.F.plainAttrs_list PySem.F.slot_list_append PySem.F.type_list_append mt_append (pv 4) (pa_cons (pe_tup (pa_cons (pv 5) (pa_cons (pv 3) pa_nil))) pa_nil)))))
      (pss_cons (ps_for PassesOwn.never rfl (pi_list (pe_lst (pa_cons pe_str (pa_cons pe_str (pa_cons pe_str pa_nil))))) (pg_name (i := 5) sc_law_deeds.nd rfl (by first | exact Or.inl rfl | exact Or.inr rfl))
      (pss_one (ps_expr (pe_bm PySem.F.plainAttrs_list PySem.F.slot_list_append PySem.F.type_list_append mt_append (pv 4) (pa_cons (pe_tup (pa_cons (pv 5) (pa_cons (pe_ix ix_seq (pv 2) pe_int (fun _ _ => rfl)) pa_nil))) pa_nil)))))
      (pss_cons (ps_expr (pe_bm PySem.F.plainAttrs_list PySem.F.slot_list_append PySem.F.type_list_append mt_append (pv 4) (pa_cons (pe_tup (pa_cons pe_str (pa_cons (pe_ix ix_seq (pv 2) pe_int (fun _ _ => rfl)) (pa_cons (pe_ix ix_seq (pv 2) pe_int (fun _ _ => rfl)) pa_nil)))) pa_nil)))
      (pss_cons (ps_expr (pe_bm PySem.F.plainAttrs_list PySem.F.slot_list_append PySem.F.type_list_append mt_append (pv 4) (pa_cons (pe_tup (pa_cons pe_str (pa_cons (pe_ix ix_seq (pv 1) pe_int (fun _ _ => rfl)) (pa_cons (pe_ix ix_seq (pe_lst (pa_cons pe_non (pa_cons (pe_ix ix_seq (pv 1) pe_int (fun _ _ => rfl)) pa_nil))) (pe_op op_mod (pe_can C_law_mixed (hr.mono (by decide)) rfl (pa_cons (pv 0) (pa_cons pe_int pa_nil))) pe_int) (fun _ _ => rfl)) pa_nil)))) pa_nil)))
      (pss_cons (ps_set (i := 6) sc_law_deeds.nd rfl (by first | exact Or.inl rfl | exact Or.inr rfl) (pe_can C_law_word (hr.mono (by decide)) rfl (pa_cons (pv 0) (pa_cons pe_int (pa_cons pe_int (pa_cons pe_str pa_nil))))))
      (pss_one (ps_ret (pe_op op_plus (pv 4) (pe_lst (pa_cons (pe_tup (pa_cons pe_str (pa_cons (pv 6) (pa_cons (pe_ix ix_seq (pv 1) pe_int (fun _ _ => rfl)) pa_nil)))) (pa_cons (pe_tup (pa_cons pe_str (pa_cons (pv 6) pa_nil))) (pa_cons (pe_tup (pa_cons pe_str (pa_cons (pv 6) (pa_cons (pv 6) pa_nil)))) (pa_cons (pe_tup (pa_cons pe_str (pa_cons (pv 6) (pa_cons pe_non pa_nil)))) pa_nil)))))))))))))))), ?_⟩
    have big : (100000 : Nat) < sizeLine := by decide
    refine ⟨_, rfl, c, 3, 0, rfl, by decide, by decide, fun n n0 n1 => ⟨by show 0 ≤ sizeLine; omega, fun r hr => ?_⟩⟩
    obtain ⟨H1, s1, w1, e1⟩ := upd_as (o := .lst []) hr
    rw [e1]
    have A1 : Acc H H1 r [] 0 := ⟨w1, (fun _ z => nomatch z), Nat.le_refl _, s1⟩
    refine ⟨by show 6 ≤ sizeLine; omega, fun q1 hq1 => ?_⟩
    obtain ⟨H2, s2, w2, e2⟩ := upd_as (o := .lst [V.str "ask", .str "back", .str "let", .str "refuse", .str "bar", .str "unbar"]) hq1
    rw [e2]
    have r1 : q1 ≠ r := fun e => by rw [e, w1] at hq1; cases hq1
    refine ⟨q1, rfl, ⟨_, SqL.of w2⟩, for_list (K := K) (a := q1) (xs := [V.str "ask", .str "back", .str "let", .str "refuse", .str "bar", .str "unbar"]) (fun i σ H' => ∃ (x5 : Option V) (ds : List Addr), σ = [some (.int c), some (.ref q), some (.ref ph), some (.int n), some (.ref r), x5, none] ∧ Acc H H' r ds i ∧ H' q1 = some (.lst [V.str "ask", .str "back", .str "let", .str "refuse", .str "bar", .str "unbar"])) ?_ ?_ ?_ ?_⟩
    · exact ⟨_, [], rfl, A1.keep s2, w2⟩
    · rintro i σ H' _ ⟨_, _, _, _, h⟩
      exact SqL.of h
    · rintro i x σ H3 hx ⟨x5, ds, rfl, A3, w3⟩
      obtain ⟨w0, rfl, hw⟩ : ∃ w0 : Str, x = .str w0 ∧ (w0 = "ask" ∨ w0 = "back" ∨ w0 = "let" ∨ w0 = "refuse" ∨ w0 = "bar" ∨ w0 = "unbar") := by
        match i, hx with
        | 0, hx => exact ⟨_, (Option.some.inj hx).symm, .inl rfl⟩
        | 1, hx => exact ⟨_, (Option.some.inj hx).symm, .inr (.inl rfl)⟩
        | 2, hx => exact ⟨_, (Option.some.inj hx).symm, .inr (.inr (.inl rfl))⟩
        | 3, hx => exact ⟨_, (Option.some.inj hx).symm, .inr (.inr (.inr (.inl rfl)))⟩
        | 4, hx => exact ⟨_, (Option.some.inj hx).symm, .inr (.inr (.inr (.inr (.inl rfl))))⟩
        | 5, hx => exact ⟨_, (Option.some.inj hx).symm, .inr (.inr (.inr (.inr (.inr rfl))))⟩
        | i + 6, hx => simp at hx
      have hD : Deed [.str w0, .str t0, .str t1] := .two w0 t0 t1 (by
        rcases hw with h | h | h | h | h | h
        · exact .inl h
        · exact .inr (.inl h)
        · exact .inr (.inr (.inl h))
        · exact .inr (.inr (.inr (.inl h)))
        · exact .inr (.inr (.inr (.inr (.inl h))))
        · exact .inr (.inr (.inr (.inr (.inr (.inl h)))))) g0 g1
      have hq3 := A3.same _ _ hq
      refine ⟨_, rfl, .inl ⟨rfl, _, SqL.of A3.lst⟩, _, rfl, _, rfl, Or.inl ⟨q, _, _, .str t0, rfl, rfl, SqL.of hq3, atI_nat (j := 0) rfl, _, rfl, Or.inl ⟨q, _, _, .str t1, rfl, rfl, SqL.of hq3, atI_nat (j := 1) rfl, by show 3 ≤ sizeLine; omega, fun d hd => ?_⟩⟩⟩
      have sd := same_upd (o := .tup [.str w0, .str t0, .str t1]) hd
      have l3 := A3.len
      refine ⟨r, _, _, rfl, rfl, sd _ _ A3.lst, by rw [List.length_map]; have : i < 6 := (List.getElem?_eq_some_iff.mp hx).1; omega, ?_⟩
      exact ⟨_, ds ++ [d], rfl, A3.push hr hd hD, by rw [upd_ne r1]; exact sd _ _ w3⟩
    · rintro σ H3 ⟨x5, ds, rfl, A3, w3⟩
      have A3 : Acc H H3 r ds 6 := A3
      clear w3
      refine ⟨by show 3 ≤ sizeLine; omega, fun q2 hq2 => ?_⟩
      obtain ⟨H4, s4, w4, e4⟩ := upd_as (o := .lst [V.str "carry", .str "lose", .str "double"]) hq2
      rw [e4]
      have r2 : q2 ≠ r := fun e => by rw [e, A3.lst] at hq2; cases hq2
      refine ⟨q2, rfl, ⟨_, SqL.of w4⟩, for_list (K := K) (a := q2) (xs := [V.str "carry", .str "lose", .str "double"]) (fun i σ H' => ∃ (x5 : Option V) (ds : List Addr), σ = [some (.int c), some (.ref q), some (.ref ph), some (.int n), some (.ref r), x5, none] ∧ Acc H H' r ds (6 + i) ∧ H' q2 = some (.lst [V.str "carry", .str "lose", .str "double"])) ?_ ?_ ?_ ?_⟩
      · exact ⟨_, ds, rfl, A3.keep s4, w4⟩
      · rintro i σ H' _ ⟨_, _, _, _, h⟩
        exact SqL.of h
      · rintro i x σ H5 hx ⟨x5, ds, rfl, A5, w5⟩
        obtain ⟨w0, rfl, hw⟩ : ∃ w0 : Str, x = .str w0 ∧ (w0 = "carry" ∨ w0 = "lose" ∨ w0 = "double") := by
          match i, hx with
          | 0, hx => exact ⟨_, (Option.some.inj hx).symm, .inl rfl⟩
          | 1, hx => exact ⟨_, (Option.some.inj hx).symm, .inr (.inl rfl)⟩
          | 2, hx => exact ⟨_, (Option.some.inj hx).symm, .inr (.inr rfl)⟩
          | i + 3, hx => simp at hx
        have hD : Deed [.str w0, .int n] := .num w0 n hw n0 n1
        refine ⟨_, rfl, .inl ⟨rfl, _, SqL.of A5.lst⟩, _, rfl, _, rfl, by show 2 ≤ sizeLine; omega, fun d hd => ?_⟩
        have sd := same_upd (o := .tup [.str w0, .int n]) hd
        have l3 := A5.len
        refine ⟨r, _, _, rfl, rfl, sd _ _ A5.lst, by rw [List.length_map]; have : i < 3 := (List.getElem?_eq_some_iff.mp hx).1; omega, ?_⟩
        exact ⟨_, ds ++ [d], rfl, A5.push hr hd hD, by rw [upd_ne r2]; exact sd _ _ w5⟩
      · rintro σ H5 ⟨x5, ds, rfl, A5, w5⟩
        have A5 : Acc H H5 r ds 9 := A5
        clear w5
        refine ⟨by show 3 ≤ sizeLine; omega, fun q3 hq3 => ?_⟩
        obtain ⟨H6, s6, w6, e6⟩ := upd_as (o := .lst [V.str "fall", .str "up", .str "slip"]) hq3
        rw [e6]
        have r3 : q3 ≠ r := fun e => by rw [e, A5.lst] at hq3; cases hq3
        refine ⟨q3, rfl, ⟨_, SqL.of w6⟩, for_list (K := K) (a := q3) (xs := [V.str "fall", .str "up", .str "slip"]) (fun i σ H' => ∃ (x5 : Option V) (ds : List Addr), σ = [some (.int c), some (.ref q), some (.ref ph), some (.int n), some (.ref r), x5, none] ∧ Acc H H' r ds (9 + i) ∧ H' q3 = some (.lst [V.str "fall", .str "up", .str "slip"])) ?_ ?_ ?_ ?_⟩
        · exact ⟨_, ds, rfl, A5.keep s6, w6⟩
        · rintro i σ H' _ ⟨_, _, _, _, h⟩
          exact SqL.of h
        · rintro i x σ H7 hx ⟨x5, ds, rfl, A7, w7⟩
          obtain ⟨w0, rfl, hw⟩ : ∃ w0 : Str, x = .str w0 ∧ (w0 = "fall" ∨ w0 = "up" ∨ w0 = "slip") := by
            match i, hx with
            | 0, hx => exact ⟨_, (Option.some.inj hx).symm, .inl rfl⟩
            | 1, hx => exact ⟨_, (Option.some.inj hx).symm, .inr (.inl rfl)⟩
            | 2, hx => exact ⟨_, (Option.some.inj hx).symm, .inr (.inr rfl)⟩
            | i + 3, hx => simp at hx
          have hD : Deed [.str w0, .str a] := .one w0 a hw ga
          refine ⟨_, rfl, .inl ⟨rfl, _, SqL.of A7.lst⟩, _, rfl, _, rfl, Or.inl ⟨ph, _, _, .str a, rfl, rfl, SqL.of (A7.same _ _ hph), atI_nat (j := 0) rfl, by show 2 ≤ sizeLine; omega, fun d hd => ?_⟩⟩
          have sd := same_upd (o := .tup [.str w0, .str a]) hd
          have l3 := A7.len
          refine ⟨r, _, _, rfl, rfl, sd _ _ A7.lst, by rw [List.length_map]; have : i < 3 := (List.getElem?_eq_some_iff.mp hx).1; omega, ?_⟩
          exact ⟨_, ds ++ [d], rfl, A7.push hr hd hD, by rw [upd_ne r3]; exact sd _ _ w7⟩
        · rintro σ H7 ⟨x5, ds, rfl, A7, w7⟩
          have A7 : Acc H H7 r ds 12 := A7
          clear w7
          have hph7 := A7.same _ _ hph
          have l7 := A7.len
          refine ⟨_, rfl, .inl ⟨rfl, _, SqL.of A7.lst⟩, _, rfl, Or.inl ⟨ph, _, _, .str a, rfl, rfl, SqL.of hph7, atI_nat (j := 0) rfl, _, rfl, Or.inl ⟨ph, _, _, .str b, rfl, rfl, SqL.of hph7, atI_nat (j := 1) rfl, by show 3 ≤ sizeLine; omega, fun d hd => ?_⟩⟩⟩
          refine ⟨r, _, _, rfl, rfl, same_upd hd _ _ A7.lst, by rw [List.length_map]; omega, ?_⟩
          have A8 := A7.push hr hd (.two "mend" a b (.inr (.inr (.inr (.inr (.inr (.inr (.inl rfl))))))) ga gb)
          generalize hH8 : upd (upd H7 d (.tup [.str "mend", .str a, .str b])) r (.lst (ds.map V.ref ++ [.ref d])) = H8 at A8
          clear hH8 A7
          have hq8 := A8.same _ _ hq
          refine ⟨_, rfl, .inl ⟨rfl, _, SqL.of A8.lst⟩, _, rfl, Or.inl ⟨q, _, _, .str t0, rfl, rfl, SqL.of hq8, atI_nat (j := 0) rfl, _, rfl, Or.inl ⟨q, _, _, .str t2, rfl, rfl, SqL.of hq8, atI_nat (j := 2) rfl, by show 2 ≤ sizeLine; omega, fun q4 hq4 => ?_⟩⟩⟩
          obtain ⟨H9, s9, w9, e9⟩ := upd_as (o := .lst [V.non, .str t2]) hq4
          rw [e9]
          have A9 := A8.keep s9
          refine ⟨_, rfl, c, _, rfl, fun z z0 z1 => ⟨_, _, rfl, rfl, (by dsimp only; decide), ?_⟩⟩
          have y0 : 0 ≤ z % 2 := Int.emod_nonneg _ (by decide)
          have y1 : z % 2 < 2 := Int.emod_lt_of_pos _ (by decide)
          obtain ⟨v, hat, hD⟩ : ∃ v, atI [V.non, .str t2] (z % 2) = some v ∧ Deed [.str "leave", .str t0, v] := by
            obtain ⟨y, hy⟩ : ∃ y : Nat, z % 2 = (y : Int) := ⟨(z % 2).toNat, by omega⟩
            rw [hy]
            have : y < 2 := by omega
            match y, this with
            | 0, _ => exact ⟨.non, atI_nat rfl, .gone t0 g0⟩
            | 1, _ => exact ⟨.str t2, atI_nat rfl, .two "leave" t0 t2 (.inr (.inr (.inr (.inr (.inr (.inr (.inr ⟨rfl, t2d⟩))))))) g0 g2⟩
          refine Or.inl ⟨q4, _, _, v, rfl, rfl, SqL.of w9, hat, by show 3 ≤ sizeLine; omega, fun d2 hd2 => ?_⟩
          refine ⟨r, _, _, rfl, rfl, same_upd hd2 _ _ A9.lst, by have := A9.len; rw [List.length_map]; omega, ?_⟩
          have A10 := A9.push hr hd2 hD
          generalize hHa : upd (upd H9 d2 (.tup [.str "leave", .str t0, v])) r (.lst ((ds ++ [d]).map V.ref ++ [.ref d2])) = Ha at A10
          clear hHa A8 A9
          refine ⟨_, rfl, c, 20, 9, OD, rfl, by decide, by decide, by decide +kernel, by decide +kernel, fun t Hb sb tl0 tl1 tm => ?_⟩
          have gt : WordOk t := by
            refine ⟨tl0, by omega, fun c hc => ?_⟩
            have al : ∀ c ∈ OD.cps.toList, Unicode.isSpace c = false := by decide +kernel
            exact al c (tm c hc)
          have A11 := A10.keep sb
          have hqb := A11.same _ _ hq
          refine ⟨_, rfl, _, rfl, _, rfl, Or.inl ⟨q, _, _, .str t0, rfl, rfl, SqL.of hqb, atI_nat (j := 0) rfl, by show 3 ≤ sizeLine; omega, fun p1 hp1 => ?_⟩⟩
          obtain ⟨K1, k1, v1, f1⟩ := upd_as (o := .tup [V.str "ask", .str t, .str t0]) hp1
          rw [f1]
          refine ⟨_, rfl, by show 2 ≤ sizeLine; omega, fun p2 hp2 => ?_⟩
          obtain ⟨K2, k2, v2, f2⟩ := upd_as (o := .tup [V.str "fall", .str t]) hp2
          rw [f2]
          refine ⟨_, rfl, _, rfl, by show 3 ≤ sizeLine; omega, fun p3 hp3 => ?_⟩
          obtain ⟨K3, k3, v3, f3⟩ := upd_as (o := .tup [V.str "mend", .str t, .str t]) hp3
          rw [f3]
          refine ⟨_, rfl, by show 3 ≤ sizeLine; omega, fun p4 hp4 => ?_⟩
          obtain ⟨K4, k4, v4, f4⟩ := upd_as (o := .tup [V.str "leave", .str t, .non]) hp4
          rw [f4]
          refine ⟨by show 4 ≤ sizeLine; omega, fun p5 hp5 => ?_⟩
          obtain ⟨K5, k5, v5, f5⟩ := upd_as (o := .lst [V.ref p1, .ref p2, .ref p3, .ref p4]) hp5
          rw [f5]
          have A15 := (((((A11.keep k1).keep k2).keep k3).keep k4).keep k5)
          refine Or.inr (Or.inr ⟨r, p5, _, _, rfl, rfl, A15.lst, v5, by have := A15.len; rw [List.length_map]; show _ + 4 ≤ _; omega, fun p6 hp6 => ?_⟩)
          have k6 := same_upd (o := .lst ((ds ++ [d] ++ [d2]).map V.ref ++ [V.ref p1, .ref p2, .ref p3, .ref p4])) hp6
          refine k p6 (ds ++ [d] ++ [d2] ++ [p1, p2, p3, p4]) _ (A15.same.trans k6) (by rw [upd_same]; simp) (fun x hx => ?_) (by have := A15.len; simp at this ⊢; omega)
          rcases List.mem_append.mp hx with z | z
          · obtain ⟨_, D, h1, h2⟩ := A15.good x z
            exact ⟨D, k6 _ _ h1, h2⟩
          · simp only [List.mem_cons, List.not_mem_nil, or_false] at z
            rcases z with rfl | rfl | rfl | rfl
            · exact ⟨_, k6 _ _ (k5 _ _ (k4 _ _ (k3 _ _ (k2 _ _ v1)))), .two "ask" t t0 (.inl rfl) gt g0⟩
            · exact ⟨_, k6 _ _ (k5 _ _ (k4 _ _ (k3 _ _ v2))), .one "fall" t (.inl rfl) gt⟩
            · exact ⟨_, k6 _ _ (k5 _ _ (k4 _ _ v3)), .two "mend" t t (.inr (.inr (.inr (.inr (.inr (.inr (.inl rfl))))))) gt gt⟩
            · exact ⟨_, k6 _ _ (k5 _ _ v4), .gone t gt⟩
end
end K80

set_option Elab.async false
set_option linter.all false
set_option maxRecDepth 100000
namespace K80
open PySem L2 BB PP
section
variable {P : Program} {w : World} {K : PySem.W.Frag} {mg : Str → Option Value} {base : Heap}
theorem no64 {n : Str} (h : NameS n) : 64 ∉ n.cps.toList := fun z => absurd (h.2.2 64 z) (by decide +kernel)
theorem pers_true {n h : Str} (hn : NameS n) (hh : HouseS h) : personF (n ++ ("@" : Str) ++ h) = true := by
  rw [person_list, cat_cps, cat_cps, List.append_assoc]
  have e : ("@" : Str).cps.toList = [64] := by decide +kernel
  rw [e]
  obtain ⟨n0, n1, n2⟩ := id hn
  obtain ⟨h0, h1, h2⟩ := hh
  have l1 : n.cps.toList.length = n.length := by simp [Str.length]
  have l2 : h.cps.toList.length = h.length := by simp [Str.length]
  show personL (n.cps.toList ++ 64 :: h.cps.toList) = true
  rw [person_at (no64 hn), madeL_true (by omega) (by omega) (nml ▸ n2), madeL_true (by omega) (by omega) (sml ▸ h2)]
  rfl
/-- a person's text -/
structure PersT (t : Str) : Prop where
  word : WordOk t
  plain : Plain t
  no32 : 32 ∉ t.cps.toList
  len : t.length ≤ 200
  odd : t ≠ "-"
theorem pers_t {n h : Str} (hn : NameS n) (hh : HouseS h) : PersT (n ++ ("@" : Str) ++ h) := by
  have e : ("@" : Str).cps.toList = [64] := by decide +kernel
  have el : ("@" : Str).length = 1 := by decide +kernel
  have ll : (n ++ ("@" : Str) ++ h).length = n.length + 1 + h.length := by rw [cat_len, cat_len, el]
  have all : ∀ c ∈ (n ++ ("@" : Str) ++ h).cps.toList, c ∈ NM.cps.toList ∨ c = 64 ∨ c ∈ SM.cps.toList := fun c hc => by
    rw [cat_cps, cat_cps, e] at hc
    rcases List.mem_append.mp hc with z | z
    · rcases List.mem_append.mp z with z | z
      · exact .inl (hn.2.2 c z)
      · exact .inr (.inl (List.mem_singleton.mp z))
    · exact .inr (.inr (hh.2.2 c z))
  have a1 : ∀ c ∈ NM.cps.toList, Unicode.isSpace c = false ∧ c ≠ 32 := by decide +kernel
  have a2 : ∀ c ∈ SM.cps.toList, Unicode.isSpace c = false ∧ c ≠ 32 := by decide +kernel
  have both : ∀ c ∈ (n ++ ("@" : Str) ++ h).cps.toList, Unicode.isSpace c = false ∧ c ≠ 32 := fun c hc => by
    rcases all c hc with z | rfl | z
    · exact a1 c z
    · decide +kernel
    · exact a2 c z
  have := hn.2.1
  have := hh.2.1
  have at64 : 64 ∈ (n ++ ("@" : Str) ++ h).cps.toList := by rw [cat_cps, cat_cps, e]; simp
  refine ⟨⟨by omega, by omega, fun c hc => (both c hc).1⟩, ⟨64, at64, .inr (by decide)⟩, fun z => (both 32 z).2 rfl, by omega, fun z => ?_⟩
  rw [z] at at64
  exact absurd at64 (by decide +kernel)
theorem house_word {h : Str} (hh : HouseS h) : WordOk h := by
  have a2 : ∀ c ∈ SM.cps.toList, Unicode.isSpace c = false := by decide +kernel
  exact ⟨hh.1, by have := hh.2.1; omega, fun c hc => a2 c (hh.2.2 c hc)⟩
/-- a letter's parts -/
def LPart (v : V) : Prop := (∃ i : Int, v = .int i ∧ 0 ≤ i ∧ i < 10 ^ 20) ∨ ∃ z, v = .str z ∧ Plain z ∧ z.length ≤ 200 ∧ 32 ∉ z.cps.toList
theorem LPart.part {v : V} (h : LPart v) : Part v := by
  rcases h with ⟨i, rfl, a, b⟩ | ⟨z, rfl, _, l, _⟩
  · exact .inr ⟨i, rfl, a, b⟩
  · exact .inl ⟨z, rfl, l⟩
theorem LPart.flat {v : V} (h : LPart v) : Flat3 v := by
  rcases h with ⟨i, rfl, a, b⟩ | ⟨z, rfl, _⟩
  · exact .inr (.inl ⟨i, rfl⟩)
  · exact .inr (.inr ⟨z, rfl⟩)
theorem LPart.same {v : V} (h : LPart v) : deedS v = partS v := by
  unfold deedS
  rw [if_neg]
  intro e
  rcases h with ⟨i, rfl, _⟩ | ⟨z, rfl, _⟩ <;> cases e
theorem LPart.wv {v : V} (h : LPart v) : WV (deedS v) v ∧ (deedS v).length ≤ 200 ∧ 32 ∉ (deedS v).cps.toList := by
  rcases h with ⟨i, rfl, a, b⟩ | ⟨z, rfl, p, l, n⟩
  · rw [deedS_int]
    have t := num_text a b
    refine ⟨.inl ⟨i, t, rfl⟩, by have := t.len; omega, fun z => ?_⟩
    have := (t.dig 32 z).1
    omega
  · rw [deedS_str]
    exact ⟨.inr ⟨p, l, rfl⟩, l, n⟩
theorem deed_parts {D : List V} (h : Deed D) : D.length ≤ 3 ∧ ∀ v ∈ D, (v = .non ∨ Part v) ∧ Flat3 v := by
  have st : ∀ {z : Str}, z.length ≤ 200 → ((V.str z = .non ∨ Part (.str z)) ∧ Flat3 (.str z)) := fun {z} l => ⟨.inr (.inl ⟨z, rfl, l⟩), .inr (.inr ⟨z, rfl⟩)⟩
  cases h with
  | num w0 n h h0 h1 =>
    refine ⟨by simp, fun v hv => ?_⟩
    simp only [List.mem_cons, List.not_mem_nil, or_false] at hv
    rcases hv with rfl | rfl
    · refine st ?_
      rcases h with rfl | rfl | rfl <;> decide +kernel
    · exact ⟨.inr (.inr ⟨n, rfl, h0, h1⟩), .inr (.inl ⟨n, rfl⟩)⟩
  | one w0 a h ha =>
    refine ⟨by simp, fun v hv => ?_⟩
    simp only [List.mem_cons, List.not_mem_nil, or_false] at hv
    rcases hv with rfl | rfl
    · refine st ?_
      rcases h with rfl | rfl | rfl <;> decide +kernel
    · exact st ha.2.1
  | two w0 a b h ha hb =>
    refine ⟨by simp, fun v hv => ?_⟩
    simp only [List.mem_cons, List.not_mem_nil, or_false] at hv
    rcases hv with rfl | rfl | rfl
    · refine st ?_
      rcases h with rfl | rfl | rfl | rfl | rfl | rfl | rfl | ⟨rfl, _⟩ <;> decide +kernel
    · exact st ha.2.1
    · exact st hb.2.1
  | gone a ha =>
    refine ⟨by simp, fun v hv => ?_⟩
    simp only [List.mem_cons, List.not_mem_nil, or_false] at hv
    rcases hv with rfl | rfl | rfl
    · exact st (by decide +kernel)
    · exact st ha.2.1
    · exact ⟨.inl rfl, .inl rfl⟩
theorem good_wish {t u : Str} {n : Int} (h1 : personF t = true) (h2 : personF u = true) (hd : homeF t ≠ homeF u) (hn : 1 ≤ n) : letterF [.str "wish", .str t, .str u, .int n] = true := by
  have ne : decide (V.str t = V.str u) = false := decide_eq_false fun e => hd (by injection e with e; rw [e])
  show ((personF t && personF u && !decide (V.str t = V.str u) && ((decide (V.str "wish" = V.str "wish") && decide (0 < n)) || answerF _)) && !decide (homeF t = homeF u)) = true
  rw [h1, h2, ne, decide_eq_true (show V.str "wish" = V.str "wish" from rfl), decide_eq_true (show 0 < n by omega), decide_eq_false hd]; rfl
theorem good_answer {t u : Str} {n : Int} {w : Str} {a : V} (h1 : personF t = true) (h2 : personF u = true) (hd : homeF t ≠ homeF u) (hn : 1 ≤ n) (ha : ansF [.int n, .str w, a] = true) : letterF [.str "answer", .str t, .str u, .int n, .str w, a] = true := by
  have ne : decide (V.str t = V.str u) = false := decide_eq_false fun e => hd (by injection e with e; rw [e])
  show ((personF t && personF u && !decide (V.str t = V.str u) && (false || (decide (V.str "answer" = V.str "answer") && ansF [.int n, .str w, a] && decide (0 < n)))) && !decide (homeF t = homeF u)) = true
  rw [h1, h2, ne, ha, decide_eq_true (show V.str "answer" = V.str "answer" from rfl), decide_eq_true (show 0 < n by omega), decide_eq_false hd]; rfl
end
end K80

set_option Elab.async false
set_option linter.all false
set_option maxRecDepth 100000
namespace K80
open PySem L2 BB PP
section
variable {P : Program} {w : World} {K : PySem.W.Frag} {mg : Str → Option Value} {base : Heap}
theorem sq_same {H H' : Hp} {a : Addr} {xs : List V} (h : SqL K H a xs) (s : Same H H') : SqL K H' a xs := by
  rcases h with (h | h) | h
  · exact .inl (.inl (s _ _ h))
  · obtain ⟨o, h⟩ := h
    exact .inl (.inr ⟨o, s _ _ h⟩)
  · exact .inr h
def spLaw (K : PySem.W.Frag) : Sp := fun vs H Q _ => ∃ (a : Addr) (ns : List Int), vs = [.ref a] ∧ SqL K H a (ns.map V.int) ∧ ns.length ≤ 63 ∧ ∀ H', Q (.bl true) H'
theorem sc_law : FnScope ["_law_script", "_law_cell", "_law_houses_here", "_law_people_here", "_law_turn", "_law_letter_here", "_law_deed"] ["_law_script"] (defScope s_law) := ⟨rfl, rfl, rfl, by decide +kernel, rfl, by decide +kernel, by decide +kernel⟩
set_option maxHeartbeats 8000000 in
def tm_law (B : Blt mg) (C_law_cell_at : Can P w K mg base CX0 1 "_law_cell_at" ["_law_script", "_law_k"] (spCell K)) (C_law_houses : Can P w K mg base CX0 3 "_law_houses" ["_law_cell", "_law_many"] spHouses) (C_law_people : Can P w K mg base CX0 3 "_law_people" ["_law_cell", "_law_houses_here", "_law_many"] spPeople) (C_law_letter : Can P w K mg base CX0 3 "_law_letter" ["_law_cell", "_law_people_here"] spLetter) (C_law_deeds : Can P w K mg base CX0 3 "_law_deeds" ["_law_cell", "_law_people_here", "_law_houses_here"] spDeeds)
    (C_law_row : Can P w K mg base CX0 1 "_law_row" ["_law_parts"] (spText deedS fun v => v = .non ∨ Part v)) (C_law_same : Can P w K mg base CX0 1 "_law_same" ["_law_found", "_law_due"] spSame) (C_letter_text : Can P w K mg base CX0 2 "letter_text" ["letter"] (spText partS Part)) (C_deed_text : Can P w K mg base CX0 1 "deed_text" ["deed"] (spText deedS fun v => v = .non ∨ Part v)) (C_read_letter : Can P w K mg base CX0 9 "read_letter" ["text"] spRL) (C_read_deed : Can P w K mg base CX0 4 "read_deed" ["text"] spRD)
    {f : Addr} {cdv : Value} {A : Around} {outer : List Env} {s : Shared} {H : Hp} {E : XK} (hr : Room 12 (A.deeper (PyProof.Rows.envOfC "law" (defScope s_law) s.heap.objs.size f cdv))) :
    TmQ (cxOf CX0 P w K mg base ["_law_script", "_law_cell", "_law_houses_here", "_law_people_here", "_law_turn", "_law_letter_here", "_law_deed"] "law" (defScope s_law) f cdv A outer s H E).nox (defBody s_law) := ⟨_, (qss_cons (qs_for PassesOwn.never rfl (pi_listQ (qe_op op_plus (qe_lst (qa_cq (qe_of (pe_can C_law_cell_at (hr.mono (by decide)) rfl (pa_cons (pv 0) (pa_cons pe_int pa_nil)))) qa_nil)) (qe_slice sl_x (qe_of (pv 0)) (po_some pe_int) (po_some pe_int)))) (pg_name (i := 1) sc_law.nd rfl (by first | exact Or.inl rfl | exact Or.inr rfl))
      (qss_cons (qs_set (i := 2) sc_law.nd rfl rfl (qe_of (pe_can C_law_houses (hr.mono (by decide)) rfl (pa_cons (pv 1) (pa_cons pe_int pa_nil)))))
      (qss_cons (qs_set (i := 3) sc_law.nd rfl rfl (qe_of (pe_can C_law_people (hr.mono (by decide)) rfl (pa_cons (pv 1) (pa_cons (pv 2) (pa_cons pe_int pa_nil))))))
      (qss_one (qs_for PassesOwn.never rfl (pi_range1 rfl B.range (pa_cons pe_int pa_nil)) (pg_name (i := 4) sc_law.nd rfl (by first | exact Or.inl rfl | exact Or.inr rfl))
      (qss_cons (qs_for PassesOwn.never rfl (pi_list (pe_can C_law_letter (hr.mono (by decide)) rfl (pa_cons (pv 1) (pa_cons (pv 3) pa_nil)))) (pg_name (i := 5) sc_law.nd rfl (by first | exact Or.inl rfl | exact Or.inr rfl))
      (qss_one (qs_if (qt_of (PW.pt (pw_or (pt_cmpR op_ne (pe_can C_letter_text (hr.mono (by decide)) rfl (pa_cons (pv 5) pa_nil)) (pe_can C_law_row (hr.mono (by decide)) rfl (pa_cons (pv 5) pa_nil)) (nomark _)) (pw_or1 (pt_not (pt_truth (pe_can C_law_same (hr.mono (by decide)) rfl (pa_cons (pe_can C_read_letter (hr.mono (by decide)) rfl (pa_cons (pe_can C_law_row (hr.mono (by decide)) rfl (pa_cons (pv 5) pa_nil)) pa_nil)) (pa_cons (pv 5) pa_nil))) (fun _ => rfl))))))) (qss_one (qs_ret (qe_of pe_bl))) qss_nil)))
      (qss_one (qs_for PassesOwn.never rfl (pi_list (pe_can C_law_deeds (hr.mono (by decide)) rfl (pa_cons (pv 1) (pa_cons (pv 3) (pa_cons (pv 2) pa_nil))))) (pg_name (i := 6) sc_law.nd rfl (by first | exact Or.inl rfl | exact Or.inr rfl))
      (qss_one (qs_if (qt_of (PW.pt (pw_or (pt_cmpR op_ne (pe_can C_deed_text (hr.mono (by decide)) rfl (pa_cons (pv 6) pa_nil)) (pe_can C_law_row (hr.mono (by decide)) rfl (pa_cons (pv 6) pa_nil)) (nomark _)) (pw_or1 (pt_not (pt_truth (pe_can C_law_same (hr.mono (by decide)) rfl (pa_cons (pe_can C_read_deed (hr.mono (by decide)) rfl (pa_cons (pe_can C_law_row (hr.mono (by decide)) rfl (pa_cons (pv 6) pa_nil)) pa_nil)) (pa_cons (pv 6) pa_nil))) (fun _ => rfl))))))) (qss_one (qs_ret (qe_of pe_bl))) qss_nil))))))))))
      (qss_one (qs_ret (qe_of pe_bl))))⟩
set_option maxHeartbeats 8000000 in
theorem ok_law {f : Addr} {fd : FuncData} (F : Fun K "law" "law" s_law f fd) (B : Blt mg) (C_law_cell_at : Can P w K mg base CX0 1 "_law_cell_at" ["_law_script", "_law_k"] (spCell K)) (C_law_houses : Can P w K mg base CX0 3 "_law_houses" ["_law_cell", "_law_many"] spHouses) (C_law_people : Can P w K mg base CX0 3 "_law_people" ["_law_cell", "_law_houses_here", "_law_many"] spPeople) (C_law_letter : Can P w K mg base CX0 3 "_law_letter" ["_law_cell", "_law_people_here"] spLetter) (C_law_deeds : Can P w K mg base CX0 3 "_law_deeds" ["_law_cell", "_law_people_here", "_law_houses_here"] spDeeds)
    (C_law_row : Can P w K mg base CX0 1 "_law_row" ["_law_parts"] (spText deedS fun v => v = .non ∨ Part v)) (C_law_same : Can P w K mg base CX0 1 "_law_same" ["_law_found", "_law_due"] spSame) (C_letter_text : Can P w K mg base CX0 2 "letter_text" ["letter"] (spText partS Part)) (C_deed_text : Can P w K mg base CX0 1 "deed_text" ["deed"] (spText deedS fun v => v = .non ∨ Part v)) (C_read_letter : Can P w K mg base CX0 9 "read_letter" ["text"] spRL) (C_read_deed : Can P w K mg base CX0 4 "read_deed" ["text"] spRD) :
    FnOk P w K mg base CX0 13 f fd ["_law_script"] (spLaw K) := by
  refine F.ok sc_law (fun vs H Q E h => ?_) (fun cdv A outer s H vs Q E hr h => ?_)
  · obtain ⟨_, _, rfl, _⟩ := h; rfl
  · obtain ⟨a, ns, rfl, ha, hl, k⟩ := h
    refine body_of (tm_law B C_law_cell_at C_law_houses C_law_people C_law_letter C_law_deeds C_law_row C_law_same C_letter_text C_deed_text C_read_letter C_read_deed hr).h ?_
    have big : (100000 : Nat) < sizeLine := by decide
    refine ⟨_, rfl, a, ns, rfl, ha, fun z0 => ⟨by show 1 ≤ sizeLine; decide, fun p1 hp1 => ?_⟩⟩
    obtain ⟨H1, s1, w1, e1⟩ := upd_as (o := .lst [.int z0]) hp1
    rw [e1]
    refine ⟨_, rfl, _, rfl, _, rfl, a, _, rfl, sq_same ha s1, fun p2 hp2 => ?_⟩
    obtain ⟨H2, s2, w2, e2⟩ := upd_as (o := .lst (cutV (ns.map V.int) (some 1) (some 20))) hp2
    rw [e2]
    have cl := cutV_length (ns.map V.int) (some 1) (some 20)
    rw [List.length_map] at cl
    refine Or.inr (Or.inr ⟨p1, p2, _, _, rfl, rfl, s2 _ _ w1, w2, by show 1 + _ ≤ _; omega, fun la hla => ?_⟩)
    obtain ⟨H3, s3, w3, e3⟩ := upd_as (o := .lst ([.int z0] ++ cutV (ns.map V.int) (some 1) (some 20))) hla
    rw [e3]
    refine ⟨la, rfl, ⟨_, SqL.of w3⟩, for_list (K := K) (a := la) (xs := [.int z0] ++ cutV (ns.map V.int) (some 1) (some 20))
      (fun i σ H' => ∃ x1 x2 x3 x4 x5 x6 : Option V, σ = [some (.ref a), x1, x2, x3, x4, x5, x6] ∧ H' la = some (.lst ([.int z0] ++ cutV (ns.map V.int) (some 1) (some 20)))) ?_ ?_ ?_ ?_⟩
    · exact ⟨_, _, _, _, _, _, rfl, w3⟩
    · rintro i σ H' _ ⟨_, _, _, _, _, _, rfl, h4⟩
      exact SqL.of h4
    · rintro i x σ H4 hx ⟨x1, x2, x3, x4, x5, x6, rfl, h4⟩
      obtain ⟨c, rfl⟩ : ∃ c, x = .int c := by
        rcases List.mem_append.mp (List.mem_of_getElem? hx) with z | z
        · exact ⟨z0, List.mem_singleton.mp z⟩
        · obtain ⟨i, _, e⟩ := List.mem_map.mp (cutV_mem z); exact ⟨i, e.symm⟩
      refine ⟨_, rfl, c, rfl, fun ph ha' hb' H5 s5 w5 ga gb nab => ⟨_, rfl, _, rfl, c, ph, ha', hb', rfl, w5, ga, gb, fun q n0 n1 n2 H6 s6 w6 g0 g1 g2 => ?_⟩⟩
      have h6 := s6 _ _ (s5 _ _ h4)
      have w56 := s6 _ _ w5
      generalize et0 : n0 ++ ("@" : Str) ++ ha' = t0 at w6
      generalize et1 : n1 ++ ("@" : Str) ++ hb' = t1 at w6
      generalize et2 : n2 ++ ("@" : Str) ++ ha' = t2 at w6
      have P0 : PersT t0 := et0 ▸ pers_t g0 ga
      have P1 : PersT t1 := et1 ▸ pers_t g1 gb
      have P2 : PersT t2 := et2 ▸ pers_t g2 ga
      have f0 : personF t0 = true := et0 ▸ pers_true g0 ga
      have f1 : personF t1 = true := et1 ▸ pers_true g1 gb
      have f2 : personF t2 = true := et2 ▸ pers_true g2 ga
      have hd : homeF t0 ≠ homeF t1 := by
        rw [← et0, ← et1]
        unfold homeF
        rw [home_at (no64 g0), home_at (no64 g1)]
        exact nab
      refine ⟨2, rfl, by decide, by decide, for_range (lo := 0) (n := 2) (fun i σ H' => ∃ x4 x5 x6 : Option V, σ = [some (.ref a), some (.int c), some (.ref ph), some (.ref q), x4, x5, x6] ∧ Same H6 H') ?_ ?_ ?_⟩
      · exact ⟨_, _, _, rfl, fun _ _ e => e⟩
      · rintro i σ H7 _ ⟨x4, x5, x6, rfl, s7⟩
        have w7 := s7 _ _ w6
        refine ⟨_, rfl, _, rfl, c, q, t0, t1, t2, rfl, w7, f2, fun p b1 b2 n w x H8 s8 w8 u1 u2 n0' n1' an w6' at' => ?_⟩
        have both : ∀ y ∈ [b1, b2], ∃ L, H8 y = some (.tup L) ∧ (∀ v ∈ L, LPart v) ∧ letterF L = true ∧ L ≠ [] ∧ L.length ≤ 6 := by
          have ps : ∀ {t : Str}, PersT t → LPart (.str t) := fun h => .inr ⟨_, rfl, h.plain, h.len, h.no32⟩
          have lt : ∀ {t : Str}, (t.cps.toList.any fun c => decide (c < 48 ∨ 57 < c)) = true ∧ t.length ≤ 200 ∧ 32 ∉ t.cps.toList → LPart (.str t) := fun {t} h => .inr ⟨t, rfl, by
            obtain ⟨c, hc, e⟩ := List.any_eq_true.mp h.1
            exact ⟨c, hc, of_decide_eq_true e⟩, h.2.1, h.2.2⟩
          intro y hy
          simp only [List.mem_cons, List.not_mem_nil, or_false] at hy
          rcases hy with rfl | rfl
          · refine ⟨_, u1, fun v hv => ?_, good_wish f0 f1 hd n0', by simp, by simp⟩
            simp only [List.mem_cons, List.not_mem_nil, or_false] at hv
            rcases hv with rfl | rfl | rfl | rfl
            · exact lt (by decide +kernel)
            · exact ps P0
            · exact ps P1
            · exact .inl ⟨n, rfl, by omega, n1'⟩
          · refine ⟨_, u2, fun v hv => ?_, good_answer f0 f1 hd n0' an, by simp, by simp⟩
            simp only [List.mem_cons, List.not_mem_nil, or_false] at hv
            rcases hv with rfl | rfl | rfl | rfl | rfl | rfl
            · exact lt (by decide +kernel)
            · exact ps P0
            · exact ps P1
            · exact .inl ⟨n, rfl, by omega, n1'⟩
            · rcases w6' with rfl | rfl | rfl | rfl | rfl | rfl <;> exact lt (by decide +kernel)
            · rcases at' with ⟨i, rfl, i0, i1⟩ | rfl
              · exact .inl ⟨i, rfl, i0, i1⟩
              · exact ps P2
        refine ⟨p, rfl, ⟨_, SqL.of w8⟩, for_list (K := K) (a := p) (xs := [.ref b1, .ref b2]) (fun j σ H' => ∃ x4 x5 x6 : Option V, σ = [some (.ref a), some (.int c), some (.ref ph), some (.ref q), x4, x5, x6] ∧ Same H8 H') ?_ ?_ ?_ ?_⟩
        · exact ⟨_, _, _, rfl, fun _ _ e => e⟩
        · rintro j σ H' _ ⟨_, _, _, rfl, s9⟩
          exact SqL.of (s9 _ _ w8)
        · rintro j y σ H9 hy ⟨x4, x5, x6, rfl, s9⟩
          obtain ⟨yb, rfl, hyb⟩ : ∃ yb, y = .ref yb ∧ yb ∈ [b1, b2] := by
            have m := List.mem_of_getElem? hy
            simp only [List.mem_cons, List.not_mem_nil, or_false] at m
            rcases m with rfl | rfl
            · exact ⟨b1, rfl, by simp⟩
            · exact ⟨b2, rfl, by simp⟩
          obtain ⟨L, hL8, lp, lf, lne, ll⟩ := both yb hyb
          have hL := s9 _ _ hL8
          have eqs : L.map partS = L.map deedS := List.map_congr_left fun v hv => ((lp v hv).same).symm
          have prt : ∀ v ∈ L, v = .non ∨ Part v := fun v hv => .inr (lp v hv).part
          refine ⟨_, rfl, yb, L, rfl, hL, by omega, fun v hv => (lp v hv).part, fun Ha sa => ⟨_, rfl, yb, L, rfl, sa _ _ hL, by omega, prt, fun Hb sb => ⟨rfl, _, rfl, if_f (by rw [eqs]; simp) ?_⟩⟩⟩
          have hLb := sb _ _ (sa _ _ hL)
          refine ⟨_, rfl, yb, L, rfl, hLb, by omega, prt, fun Hc sc => ?_⟩
          refine ⟨L.map deedS, L, rfl, by simpa using lne, by rw [List.length_map]; omega, fun w hw => ?_, by rw [List.length_map], fun i t v e1 e2 => ?_, lf, fun p2 Hd sd wd => ?_⟩
          · obtain ⟨v, hv, rfl⟩ := List.mem_map.mp hw
            exact (lp v hv).wv.2
          · rw [List.getElem?_map, e2] at e1
            have e1 : deedS v = t := Option.some.inj e1
            rw [← e1]
            exact (lp v (List.mem_of_getElem? e2)).wv.1
          · refine ⟨_, rfl, p2, yb, L, rfl, wd, sd _ _ (sc _ _ hLb), by omega, fun v hv => (lp v hv).flat, fun He se => ⟨_, rfl, if_f rfl ?_⟩⟩
            exact ⟨_, _, _, rfl, ((((s9.trans sa).trans sb).trans sc).trans sd).trans se⟩
        · rintro σ H9 ⟨x4, x5, x6, rfl, s9⟩
          have w9 := s9 _ _ (s8 _ _ w7)
          have p9 := s9 _ _ (s8 _ _ (s7 _ _ w56))
          refine ⟨_, rfl, _, rfl, _, rfl, c, q, ph, t0, t1, t2, ha', hb', rfl, w9, p9, P0.word, P1.word, P2.word, house_word ga, house_word gb, P2.odd, fun pd ds H10 s10 w10 good lds => ?_⟩
          refine ⟨pd, rfl, ⟨_, SqL.of w10⟩, for_list (K := K) (a := pd) (xs := ds.map V.ref) (fun j σ H' => ∃ x4 x5 x6 : Option V, σ = [some (.ref a), some (.int c), some (.ref ph), some (.ref q), x4, x5, x6] ∧ Same H10 H') ?_ ?_ ?_ ?_⟩
          · exact ⟨_, _, _, rfl, fun _ _ e => e⟩
          · rintro j σ H' _ ⟨_, _, _, rfl, s11⟩
            exact SqL.of (s11 _ _ w10)
          · rintro j y σ H11 hy ⟨x4, x5, x6, rfl, s11⟩
            obtain ⟨yd, hyd, rfl⟩ := List.mem_map.mp (List.mem_of_getElem? hy)
            obtain ⟨D, hD0, dD⟩ := good yd hyd
            have hD := s11 _ _ hD0
            obtain ⟨dl, dp⟩ := deed_parts dD
            have prt : ∀ v ∈ D, v = .non ∨ Part v := fun v hv => (dp v hv).1
            refine ⟨_, rfl, yd, D, rfl, hD, by omega, prt, fun Ha sa => ⟨_, rfl, yd, D, rfl, sa _ _ hD, by omega, prt, fun Hb sb => ⟨rfl, _, rfl, if_f (by simp) ?_⟩⟩⟩
            have hDb := sb _ _ (sa _ _ hD)
            refine ⟨_, rfl, yd, D, rfl, hDb, by omega, prt, fun Hc sc => ⟨D, rfl, dD, fun p2 Hd sd wd => ?_⟩⟩
            refine ⟨_, rfl, p2, yd, D, rfl, wd, sd _ _ (sc _ _ hDb), by omega, fun v hv => (dp v hv).2, fun He se => ⟨_, rfl, if_f rfl ?_⟩⟩
            exact ⟨_, _, _, rfl, ((((s11.trans sa).trans sb).trans sc).trans sd).trans se⟩
          · rintro σ H11 ⟨x4, x5, x6, rfl, s11⟩
            exact ⟨_, _, _, rfl, ((s7.trans s8).trans (s9.trans s10)).trans s11⟩
      · rintro σ H7 ⟨x4, x5, x6, rfl, s7⟩
        exact ⟨_, _, _, _, _, _, rfl, s7 _ _ h6⟩
    · rintro σ H4 ⟨_, _, _, _, _, _, rfl, h4⟩
      exact k _
end
end K80

set_option Elab.async false
set_option linter.all false
set_option maxRecDepth 100000
namespace K80
open PySem L2 BB PP
section
variable {P : Program} {w : World} {K : PySem.W.Frag} {mg : Str → Option Value} {base : Heap} {aE aP aL aD : Addr}
theorem all_law {f : Addr} {fd : FuncData} (B : Blt mg) (TP : TP mg) (TH : TH P w K mg aL) (TF : TF mg) (TD : TD P w K mg aD) (XE : XB K mg aE) (XP : XC K mg aE aP "NoPerson") (D_is_made_of : Def K mg "is_made_of" s_is_made_of) (D_is_house : Def K mg "is_house" s_is_house) (D_is_person : Def K mg "is_person" s_is_person) (D_check_person : Def K mg "check_person" s_check_person) (D_parts_of : Def K mg "parts_of" s_parts_of) (D_house_of : Def K mg "house_of" s_house_of) (D_is_whole : Def K mg "is_whole" s_is_whole) (D_asks : Def K mg "asks" s_asks) (D_is_asking_wish : Def K mg "is_asking_wish" s_is_asking_wish) (D_is_nought : Def K mg "is_nought" s_is_nought) (D_number_fits : Def K mg "number_fits" s_number_fits) (D_at_fits : Def K mg "at_fits" s_at_fits) (D_is_answer : Def K mg "is_answer" s_is_answer) (D_is_wish_turn : Def K mg "is_wish_turn" s_is_wish_turn) (D_is_answer_turn : Def K mg "is_answer_turn" s_is_answer_turn) (D_is_turn : Def K mg "is_turn" s_is_turn) (D_is_between_houses : Def K mg "is_between_houses" s_is_between_houses) (D_is_number_text : Def K mg "is_number_text" s_is_number_text) (D_turn_text : Def K mg "turn_text" s_turn_text) (D_read_word : Def K mg "read_word" s_read_word) (D_read_parts : Def K mg "read_parts" s_read_parts) (D_is_letter : Def K mg "is_letter" s_is_letter) (D_letter_text : Def K mg "letter_text" s_letter_text) (D_read_letter : Def K mg "read_letter" s_read_letter) (D_is_deed : Def K mg "is_deed" s_is_deed) (D_is_word : Def K mg "is_word" s_is_word) (D_words_of : Def K mg "words_of" s_words_of) (D_deed_text : Def K mg "deed_text" s_deed_text) (D_read_deed : Def K mg "read_deed" s_read_deed) (D_read_number : Def K mg "read_number" s_read_number) (D_law_cell_at : Def K mg "_law_cell_at" s_law_cell_at) (D_law_mixed : Def K mg "_law_mixed" s_law_mixed) (D_law_word : Def K mg "_law_word" s_law_word) (D_law_houses : Def K mg "_law_houses" s_law_houses) (D_law_people : Def K mg "_law_people" s_law_people) (D_law_number : Def K mg "_law_number" s_law_number) (D_law_letter : Def K mg "_law_letter" s_law_letter) (D_law_deeds : Def K mg "_law_deeds" s_law_deeds) (D_law_row : Def K mg "_law_row" s_law_row) (D_law_same : Def K mg "_law_same" s_law_same) (F : Fun K "law" "law" s_law f fd) :
    FnOk P w K mg base CX0 13 f fd ["_law_script"] (spLaw K) := by
  have c1 := ok_made (P := P) (w := w) (base := base) D_is_made_of B
  have c2 := ok_house D_is_house B TP c1
  have c3 := ok_person D_is_person B TP c1 c2
  have c4 := ok_check D_check_person XP c3
  have c5 := ok_parts D_parts_of c4
  have c6 := ok_home D_house_of c5
  have d1 := ok_whole (P := P) (w := w) (base := base) D_is_whole B
  have d2 := ok_asks (P := P) (w := w) (base := base) D_asks
  have d3 := ok_askw D_is_asking_wish d1 d2
  have d4 := ok_nought D_is_nought d1
  have d5 := ok_num (base := base) D_number_fits TH
  have d6 := ok_at D_at_fits d3 c3 d4
  have d7 := ok_answer D_is_answer B d1 d5 d6
  have e1 := ok_wturn D_is_wish_turn B d1
  have e2 := ok_aturn D_is_answer_turn B d7
  have e3 := ok_turn D_is_turn B c3 e1 e2
  have e4 := ok_between D_is_between_houses c6
  have e7 := ok_letter D_is_letter e3 e4
  have t1 := ok_turn_text (P := P) (w := w) (base := base) D_turn_text B
  have t2 := ok_deed_text (P := P) (w := w) (base := base) D_deed_text B
  have t3 := ok_numt D_is_number_text TF c1
  have t4 := ok_rword D_read_word B t3
  have t5 := ok_rparts D_read_parts B t4
  have t6 := ok_ltext D_letter_text t1
  have t7 := ok_rletter D_read_letter B t5 e7
  have t8 := ok_isword (P := P) (w := w) (base := base) D_is_word
  have t9 := ok_wordsof D_words_of B t8
  have t10 := ok_rnumber D_read_number B t3
  have t11 := ok_isdeed (base := base) D_is_deed B TD
  have t12 := ok_rdeed D_read_deed t9 t11 t10
  have l1 := ok_cell (P := P) (w := w) (base := base) D_law_cell_at B
  have l2 := ok_mixed (P := P) (w := w) (base := base) D_law_mixed
  have l3 := ok_lword D_law_word B l2
  have l4 := ok_houses D_law_houses B l3
  have l5 := ok_people D_law_people B l3
  have l6 := ok_number D_law_number B l2
  have l7 := ok_lletter D_law_letter B l2 l6
  have l8 := ok_deeds D_law_deeds B l2 l6 l3
  have l9 := ok_row (P := P) (w := w) (base := base) D_law_row B
  have l10 := ok_same (P := P) (w := w) (base := base) D_law_same B
  exact ok_law F B l1 l4 l5 l7 l8 l9 l10 t6 t2 t7 t12
end
theorem walk {l : PySem.W.OpenLaw} {q : Program} {loose : List Str} {XP : (Str → Option Value) → Heap → Prop} {YP : World → Heap → Prop} {d : DefRec} {K : Params → PySem.W.Frag} (hn : l.most = some 63) (hdf : d.params.defaults = [])
    (hY : ∀ (w : World) (h : Heap), YP w h → (K w.params).In h)
    (F : ∀ (w : World) (mg : Str → Option Value) (fa : Addr) (h : Heap), (K w.params).In h → h.Ns mainGlobals mg → mg d.name = some (.ref fa) →
      ∃ fd : FuncData, (∀ (s : Shared) (u : Value), BindsTo s fd ⟨[u], []⟩ [("_law_script", u)]) ∧ ∀ base : Heap, (K w.params).In base → base.Ns mainGlobals mg → FnOk l.prog w (K w.params) mg base CX0 13 fa fd ["_law_script"] (spLaw (K w.params))) :
    PySem.W.WalkO q loose XP YP l.row.toRowW d [] (fun f vs => PySem.call f vs) :=
  L2.walk_of (n := 63) (k := 13) (x := "_law_script") (CX := fun _ => CX0) (sp := fun w => spLaw (K w.params)) hn (by decide) hdf ⟨rfl, by decide, by decide⟩ hY F (fun _ _ a ns hl _ hS => ⟨a, ns, rfl, hS, hl, fun _ => rfl⟩) fun _ _ _ _ _ z => z
theorem mro_cls {K : PySem.W.Frag} {C : Addr} {v : Value} {b : Bool} (h : PySem.W.mroIn K C v = some b) : ∃ oc od cd sl, K.lookup C = some ⟨oc, od, .cls cd, sl⟩ ∧ cd.mro.contains v = b := by
  unfold PySem.W.mroIn at h
  obtain ⟨cd, h1, h2⟩ := Option.bind_eq_some_iff.mp h
  unfold PySem.W.clsIn at h1
  split at h1
  · rename_i ho
    cases h1
    split at h2
    · cases h2
    · cases h2
      exact ⟨_, _, _, _, ho, rfl⟩
  · cases h1
theorem mk_tp {K : PySem.W.Frag} {mg : Str → Option Value} {h : Heap} {t1 t2 t3 t4 : Tok} (KX : K.In h) (G : h.Ns mainGlobals mg) (h1 : PySem.W.nsIn K mainGlobals "HOUSE_SIGNS" = some (some (.str SM t1))) (h2 : PySem.W.nsIn K mainGlobals "HOUSE_LENGTH" = some (some (.int 6 t2)))
    (h3 : PySem.W.nsIn K mainGlobals "NAME_SIGNS" = some (some (.str NM t3))) (h4 : PySem.W.nsIn K mainGlobals "NAME_LENGTH" = some (some (.int 8 t4))) : TP mg :=
  ⟨⟨_, PySem.W.mg_of KX G h1, _, rfl⟩, ⟨_, PySem.W.mg_of KX G h2, _, rfl⟩, ⟨_, PySem.W.mg_of KX G h3, _, rfl⟩, ⟨_, PySem.W.mg_of KX G h4, _, rfl⟩⟩
theorem mk_xb {K : PySem.W.Frag} {mg : Str → Option Value} {h : Heap} {a : Addr} (KX : K.In h) (G : h.Ns mainGlobals mg) (h1 : PySem.W.nsIn K mainGlobals "BookError" = some (some (.ref a)))
    (x1 : PySem.W.excIn K a [.type "ValueError", .type "Exception", .type "BaseException", .type "object"] "ValueError.__new__" = true) : XB K mg a := ⟨PySem.W.mg_of KX G h1, ⟨x1⟩⟩
theorem mk_xc {K : PySem.W.Frag} {mg : Str → Option Value} {h : Heap} {aE C : Addr} {x : Str} (KX : K.In h) (G : h.Ns mainGlobals mg) (h1 : PySem.W.nsIn K mainGlobals x = some (some (.ref C)))
    (x1 : PySem.W.excIn K C [.type "ValueError", .type "Exception", .type "BaseException", .type "object"] "ValueError.__new__" = true) (m1 : PySem.W.mroIn K C (.ref aE) = some true)
    (f1 : PySem.W.findIn K (.ref C) "__getattribute__" = some (some (.builtin "BaseException.__getattribute__"))) (f2 : PySem.W.findIn K (.ref C) "__getattr__" = some none) (f3 : PySem.W.findIn K (.ref C) "__class__" = some (some (.builtin "object.__class__")))
    (f4 : PySem.W.specialIn K (.builtin "object.__class__") "__get__" = some (some (.builtin "getset_descriptor.__get__"))) (f5 : PySem.W.takesIn K (.builtin "object.__class__") = some true) (f6 : PySem.W.mroIn K C (.type "object") = some true) (f7 : PySem.W.mroIn K C (.type "BaseException") = some true) : XC K mg aE C x :=
  ⟨PySem.W.mg_of KX G h1, ⟨x1⟩, mro_cls m1, ⟨f1, f2, f3, f4, f5, f6, f7, let ⟨a, b, c, d, e, _⟩ := mro_cls m1; ⟨a, b, c, d, e⟩⟩⟩
theorem kd14 {P : Program} {w : World} {K : PySem.W.Frag} {a : Addr} {ep : Nat} {x1 x2 x3 x4 x5 x6 x7 x8 x9 x10 x11 x12 x13 x14 : Str} {t1 t2 t3 t4 t5 t6 t7 t8 t9 t10 t11 t12 t13 t14 u1 u2 u3 u4 u5 u6 u7 u8 u9 u10 u11 u12 u13 u14 : Tok} {i1 i2 i3 i4 i5 i6 i7 i8 i9 i10 i11 i12 i13 i14 : Int}
    (lk : K.lookup a = some { cls := .type "dict", data := .dict #[entK w.params x1 t1 (.int i1 u1), entK w.params x2 t2 (.int i2 u2), entK w.params x3 t3 (.int i3 u3), entK w.params x4 t4 (.int i4 u4), entK w.params x5 t5 (.int i5 u5), entK w.params x6 t6 (.int i6 u6), entK w.params x7 t7 (.int i7 u7), entK w.params x8 t8 (.int i8 u8), entK w.params x9 t9 (.int i9 u9), entK w.params x10 t10 (.int i10 u10), entK w.params x11 t11 (.int i11 u11), entK w.params x12 t12 (.int i12 u12), entK w.params x13 t13 (.int i13 u13), entK w.params x14 t14 (.int i14 u14)] ep })
    (nd : ([x1, x2, x3, x4, x5, x6, x7, x8, x9, x10, x11, x12, x13, x14].map fun p => (Sum.inr p : Key)).Nodup) (ha : (a == sysModules) = false) : KDict P w K a [(Sum.inr x1, .int i1), (Sum.inr x2, .int i2), (Sum.inr x3, .int i3), (Sum.inr x4, .int i4), (Sum.inr x5, .int i5), (Sum.inr x6, .int i6), (Sum.inr x7, .int i7), (Sum.inr x8, .int i8), (Sum.inr x9, .int i9), (Sum.inr x10, .int i10), (Sum.inr x11, .int i11), (Sum.inr x12, .int i12), (Sum.inr x13, .int i13), (Sum.inr x14, .int i14)] :=
  kdict_mk [(x1, t1, .int i1 u1), (x2, t2, .int i2 u2), (x3, t3, .int i3 u3), (x4, t4, .int i4 u4), (x5, t5, .int i5 u5), (x6, t6, .int i6 u6), (x7, t7, .int i7 u7), (x8, t8, .int i8 u8), (x9, t9, .int i9 u9), (x10, t10, .int i10 u10), (x11, t11, .int i11 u11), (x12, t12, .int i12 u12), (x13, t13, .int i13 u13), (x14, t14, .int i14 u14)] _ lk nd (.cons ⟨rfl, _, rfl⟩ (.cons ⟨rfl, _, rfl⟩ (.cons ⟨rfl, _, rfl⟩ (.cons ⟨rfl, _, rfl⟩ (.cons ⟨rfl, _, rfl⟩ (.cons ⟨rfl, _, rfl⟩ (.cons ⟨rfl, _, rfl⟩ (.cons ⟨rfl, _, rfl⟩ (.cons ⟨rfl, _, rfl⟩ (.cons ⟨rfl, _, rfl⟩ (.cons ⟨rfl, _, rfl⟩ (.cons ⟨rfl, _, rfl⟩ (.cons ⟨rfl, _, rfl⟩ (.cons ⟨rfl, _, rfl⟩ .nil)))))))))))))) (by show 14 ≤ sizeLine; decide) ha
theorem mk_th {P : Program} {w : World} {K : PySem.W.Frag} {mg : Str → Option Value} {h : Heap} {aL : Addr} (KX : K.In h) (G : h.Ns mainGlobals mg) (h1 : PySem.W.nsIn K mainGlobals "LEAST_NUMBER" = some (some (.ref aL))) (d : KDict P w K aL leastD) : TH P w K mg aL := ⟨⟨_, PySem.W.mg_of KX G h1, rfl⟩, d⟩
theorem mk_tf {K : PySem.W.Frag} {mg : Str → Option Value} {h : Heap} {t1 t2 : Tok} (KX : K.In h) (G : h.Ns mainGlobals mg) (h1 : PySem.W.nsIn K mainGlobals "FIGURES" = some (some (.str FG t1))) (h2 : PySem.W.nsIn K mainGlobals "MOST_FIGURES" = some (some (.int 20 t2))) : TF mg :=
  ⟨⟨_, PySem.W.mg_of KX G h1, _, rfl⟩, ⟨_, PySem.W.mg_of KX G h2, _, rfl⟩⟩
theorem mk_td {P : Program} {w : World} {K : PySem.W.Frag} {mg : Str → Option Value} {h : Heap} {aD : Addr} (KX : K.In h) (G : h.Ns mainGlobals mg) (h1 : PySem.W.nsIn K mainGlobals "PARTS" = some (some (.ref aD))) (d : KDict P w K aD partsD) : TD P w K mg aD := ⟨⟨_, PySem.W.mg_of KX G h1, rfl⟩, d⟩
end K80
open PySem PySem.W PyProof.Rows
set_option maxRecDepth 100000 in
set_option maxHeartbeats 0 in
theorem PySem.Challenge.cw_bothbooks_k80_letters_and_deeds_as_texts_holds : PySem.Challenge.rw_bothbooks_k80_letters_and_deeds_as_texts.Holds := by
  w_on; o_law; k_head; (case hw => w_witness2)
  k_fill
  refine K80.walk (l := PySem.Challenge.rw_bothbooks_k80_letters_and_deeds_as_texts) rfl rfl (fun w h Y => PySem.W.kIn_of Y) ?F
  case F =>
    intro w mg fa h KX G hmg
    have d1 := by refine' BB.mk_def (x := "is_made_of") (st := K80.s_is_made_of) KX G ?a1 ?l1 ?c1 ?k1; (case a1 => k_is); (case l1 => k_is); (case c1 => k_is); (case k1 => k_is)
    have d2 := by refine' BB.mk_def (x := "is_house") (st := K80.s_is_house) KX G ?a1 ?l1 ?c1 ?k1; (case a1 => k_is); (case l1 => k_is); (case c1 => k_is); (case k1 => k_is)
    have d3 := by refine' BB.mk_def (x := "is_person") (st := K80.s_is_person) KX G ?a1 ?l1 ?c1 ?k1; (case a1 => k_is); (case l1 => k_is); (case c1 => k_is); (case k1 => k_is)
    have d4 := by refine' BB.mk_def (x := "check_person") (st := K80.s_check_person) KX G ?a1 ?l1 ?c1 ?k1; (case a1 => k_is); (case l1 => k_is); (case c1 => k_is); (case k1 => k_is)
    have d5 := by refine' BB.mk_def (x := "parts_of") (st := K80.s_parts_of) KX G ?a1 ?l1 ?c1 ?k1; (case a1 => k_is); (case l1 => k_is); (case c1 => k_is); (case k1 => k_is)
    have d6 := by refine' BB.mk_def (x := "house_of") (st := K80.s_house_of) KX G ?a1 ?l1 ?c1 ?k1; (case a1 => k_is); (case l1 => k_is); (case c1 => k_is); (case k1 => k_is)
    have d7 := by refine' BB.mk_def (x := "is_whole") (st := K80.s_is_whole) KX G ?a1 ?l1 ?c1 ?k1; (case a1 => k_is); (case l1 => k_is); (case c1 => k_is); (case k1 => k_is)
    have d8 := by refine' BB.mk_def (x := "asks") (st := K80.s_asks) KX G ?a1 ?l1 ?c1 ?k1; (case a1 => k_is); (case l1 => k_is); (case c1 => k_is); (case k1 => k_is)
    have d9 := by refine' BB.mk_def (x := "is_asking_wish") (st := K80.s_is_asking_wish) KX G ?a1 ?l1 ?c1 ?k1; (case a1 => k_is); (case l1 => k_is); (case c1 => k_is); (case k1 => k_is)
    have d10 := by refine' BB.mk_def (x := "is_nought") (st := K80.s_is_nought) KX G ?a1 ?l1 ?c1 ?k1; (case a1 => k_is); (case l1 => k_is); (case c1 => k_is); (case k1 => k_is)
    have d11 := by refine' BB.mk_def (x := "number_fits") (st := K80.s_number_fits) KX G ?a1 ?l1 ?c1 ?k1; (case a1 => k_is); (case l1 => k_is); (case c1 => k_is); (case k1 => k_is)
    have d12 := by refine' BB.mk_def (x := "at_fits") (st := K80.s_at_fits) KX G ?a1 ?l1 ?c1 ?k1; (case a1 => k_is); (case l1 => k_is); (case c1 => k_is); (case k1 => k_is)
    have d13 := by refine' BB.mk_def (x := "is_answer") (st := K80.s_is_answer) KX G ?a1 ?l1 ?c1 ?k1; (case a1 => k_is); (case l1 => k_is); (case c1 => k_is); (case k1 => k_is)
    have d14 := by refine' BB.mk_def (x := "is_wish_turn") (st := K80.s_is_wish_turn) KX G ?a1 ?l1 ?c1 ?k1; (case a1 => k_is); (case l1 => k_is); (case c1 => k_is); (case k1 => k_is)
    have d15 := by refine' BB.mk_def (x := "is_answer_turn") (st := K80.s_is_answer_turn) KX G ?a1 ?l1 ?c1 ?k1; (case a1 => k_is); (case l1 => k_is); (case c1 => k_is); (case k1 => k_is)
    have d16 := by refine' BB.mk_def (x := "is_turn") (st := K80.s_is_turn) KX G ?a1 ?l1 ?c1 ?k1; (case a1 => k_is); (case l1 => k_is); (case c1 => k_is); (case k1 => k_is)
    have d17 := by refine' BB.mk_def (x := "is_between_houses") (st := K80.s_is_between_houses) KX G ?a1 ?l1 ?c1 ?k1; (case a1 => k_is); (case l1 => k_is); (case c1 => k_is); (case k1 => k_is)
    have d18 := by refine' BB.mk_def (x := "is_number_text") (st := K80.s_is_number_text) KX G ?a1 ?l1 ?c1 ?k1; (case a1 => k_is); (case l1 => k_is); (case c1 => k_is); (case k1 => k_is)
    have d19 := by refine' BB.mk_def (x := "turn_text") (st := K80.s_turn_text) KX G ?a1 ?l1 ?c1 ?k1; (case a1 => k_is); (case l1 => k_is); (case c1 => k_is); (case k1 => k_is)
    have d20 := by refine' BB.mk_def (x := "read_word") (st := K80.s_read_word) KX G ?a1 ?l1 ?c1 ?k1; (case a1 => k_is); (case l1 => k_is); (case c1 => k_is); (case k1 => k_is)
    have d21 := by refine' BB.mk_def (x := "read_parts") (st := K80.s_read_parts) KX G ?a1 ?l1 ?c1 ?k1; (case a1 => k_is); (case l1 => k_is); (case c1 => k_is); (case k1 => k_is)
    have d22 := by refine' BB.mk_def (x := "is_letter") (st := K80.s_is_letter) KX G ?a1 ?l1 ?c1 ?k1; (case a1 => k_is); (case l1 => k_is); (case c1 => k_is); (case k1 => k_is)
    have d23 := by refine' BB.mk_def (x := "letter_text") (st := K80.s_letter_text) KX G ?a1 ?l1 ?c1 ?k1; (case a1 => k_is); (case l1 => k_is); (case c1 => k_is); (case k1 => k_is)
    have d24 := by refine' BB.mk_def (x := "read_letter") (st := K80.s_read_letter) KX G ?a1 ?l1 ?c1 ?k1; (case a1 => k_is); (case l1 => k_is); (case c1 => k_is); (case k1 => k_is)
    have d25 := by refine' BB.mk_def (x := "is_deed") (st := K80.s_is_deed) KX G ?a1 ?l1 ?c1 ?k1; (case a1 => k_is); (case l1 => k_is); (case c1 => k_is); (case k1 => k_is)
    have d26 := by refine' BB.mk_def (x := "is_word") (st := K80.s_is_word) KX G ?a1 ?l1 ?c1 ?k1; (case a1 => k_is); (case l1 => k_is); (case c1 => k_is); (case k1 => k_is)
    have d27 := by refine' BB.mk_def (x := "words_of") (st := K80.s_words_of) KX G ?a1 ?l1 ?c1 ?k1; (case a1 => k_is); (case l1 => k_is); (case c1 => k_is); (case k1 => k_is)
    have d28 := by refine' BB.mk_def (x := "deed_text") (st := K80.s_deed_text) KX G ?a1 ?l1 ?c1 ?k1; (case a1 => k_is); (case l1 => k_is); (case c1 => k_is); (case k1 => k_is)
    have d29 := by refine' BB.mk_def (x := "read_deed") (st := K80.s_read_deed) KX G ?a1 ?l1 ?c1 ?k1; (case a1 => k_is); (case l1 => k_is); (case c1 => k_is); (case k1 => k_is)
    have d30 := by refine' BB.mk_def (x := "read_number") (st := K80.s_read_number) KX G ?a1 ?l1 ?c1 ?k1; (case a1 => k_is); (case l1 => k_is); (case c1 => k_is); (case k1 => k_is)
    have d31 := by refine' BB.mk_def (x := "_law_cell_at") (st := K80.s_law_cell_at) KX G ?a1 ?l1 ?c1 ?k1; (case a1 => k_is); (case l1 => k_is); (case c1 => k_is); (case k1 => k_is)
    have d32 := by refine' BB.mk_def (x := "_law_mixed") (st := K80.s_law_mixed) KX G ?a1 ?l1 ?c1 ?k1; (case a1 => k_is); (case l1 => k_is); (case c1 => k_is); (case k1 => k_is)
    have d33 := by refine' BB.mk_def (x := "_law_word") (st := K80.s_law_word) KX G ?a1 ?l1 ?c1 ?k1; (case a1 => k_is); (case l1 => k_is); (case c1 => k_is); (case k1 => k_is)
    have d34 := by refine' BB.mk_def (x := "_law_houses") (st := K80.s_law_houses) KX G ?a1 ?l1 ?c1 ?k1; (case a1 => k_is); (case l1 => k_is); (case c1 => k_is); (case k1 => k_is)
    have d35 := by refine' BB.mk_def (x := "_law_people") (st := K80.s_law_people) KX G ?a1 ?l1 ?c1 ?k1; (case a1 => k_is); (case l1 => k_is); (case c1 => k_is); (case k1 => k_is)
    have d36 := by refine' BB.mk_def (x := "_law_number") (st := K80.s_law_number) KX G ?a1 ?l1 ?c1 ?k1; (case a1 => k_is); (case l1 => k_is); (case c1 => k_is); (case k1 => k_is)
    have d37 := by refine' BB.mk_def (x := "_law_letter") (st := K80.s_law_letter) KX G ?a1 ?l1 ?c1 ?k1; (case a1 => k_is); (case l1 => k_is); (case c1 => k_is); (case k1 => k_is)
    have d38 := by refine' BB.mk_def (x := "_law_deeds") (st := K80.s_law_deeds) KX G ?a1 ?l1 ?c1 ?k1; (case a1 => k_is); (case l1 => k_is); (case c1 => k_is); (case k1 => k_is)
    have d39 := by refine' BB.mk_def (x := "_law_row") (st := K80.s_law_row) KX G ?a1 ?l1 ?c1 ?k1; (case a1 => k_is); (case l1 => k_is); (case c1 => k_is); (case k1 => k_is)
    have d40 := by refine' BB.mk_def (x := "_law_same") (st := K80.s_law_same) KX G ?a1 ?l1 ?c1 ?k1; (case a1 => k_is); (case l1 => k_is); (case c1 => k_is); (case k1 => k_is)
    have z1 : mg "abs" = none := by refine' PySem.W.mg_none_of KX G ?z; (case z => k_is)
    have z2 : mg "int" = none := by refine' PySem.W.mg_none_of KX G ?z; (case z => k_is)
    have z3 : mg "range" = none := by refine' PySem.W.mg_none_of KX G ?z; (case z => k_is)
    have z4 : mg "all" = none := by refine' PySem.W.mg_none_of KX G ?z; (case z => k_is)
    have z5 : mg "any" = none := by refine' PySem.W.mg_none_of KX G ?z; (case z => k_is)
    have z6 : mg "len" = none := by refine' PySem.W.mg_none_of KX G ?z; (case z => k_is)
    have z7 : mg "isinstance" = none := by refine' PySem.W.mg_none_of KX G ?z; (case z => k_is)
    have z8 : mg "str" = none := by refine' PySem.W.mg_none_of KX G ?z; (case z => k_is)
    have z9 : mg "bool" = none := by refine' PySem.W.mg_none_of KX G ?z; (case z => k_is)
    have z10 : mg "tuple" = none := by refine' PySem.W.mg_none_of KX G ?z; (case z => k_is)
    have z11 : mg "list" = none := by refine' PySem.W.mg_none_of KX G ?z; (case z => k_is)
    have z12 : mg "ValueError" = none := by refine' PySem.W.mg_none_of KX G ?z; (case z => k_is)
    have z13 : mg "ord" = none := by refine' PySem.W.mg_none_of KX G ?z; (case z => k_is)
    have z14 : mg "max" = none := by refine' PySem.W.mg_none_of KX G ?z; (case z => k_is)
    have z15 : mg "min" = none := by refine' PySem.W.mg_none_of KX G ?z; (case z => k_is)
    have z16 : mg "enumerate" = none := by refine' PySem.W.mg_none_of KX G ?z; (case z => k_is)
    have z17 : mg "sorted" = none := by refine' PySem.W.mg_none_of KX G ?z; (case z => k_is)
    have z18 : mg "set" = none := by refine' PySem.W.mg_none_of KX G ?z; (case z => k_is)
    have z19 : mg "sum" = none := by refine' PySem.W.mg_none_of KX G ?z; (case z => k_is)
    have tp := by refine' K80.mk_tp KX G ?h1 ?h2 ?h3 ?h4; (case h1 => k_is); (case h2 => k_is); (case h3 => k_is); (case h4 => k_is)
    have tf := by refine' K80.mk_tf KX G ?h1 ?h2; (case h1 => k_is); (case h2 => k_is)
    have th := by refine' K80.mk_th (P := PySem.Challenge.rw_bothbooks_k80_letters_and_deeds_as_texts.prog) (w := w) KX G ?h1 (BB.kd6 (P := PySem.Challenge.rw_bothbooks_k80_letters_and_deeds_as_texts.prog) (w := w) ?lk ?nd ?ha); (case h1 => k_is); (case lk => k_is); (case nd => decide); (case ha => decide)
    have td := by refine' K80.mk_td (P := PySem.Challenge.rw_bothbooks_k80_letters_and_deeds_as_texts.prog) (w := w) KX G ?h1 (K80.kd14 (P := PySem.Challenge.rw_bothbooks_k80_letters_and_deeds_as_texts.prog) (w := w) ?lk ?nd ?ha); (case h1 => k_is); (case lk => k_is); (case nd => decide); (case ha => decide)
    have xe := by refine' K80.mk_xb KX G ?h1 ?x1; (case h1 => k_is); (case x1 => k_exc)
    refine' BB.mk_law (st := K80.s_law) KX G hmg ?a1 ?l1 ?c1 ?k1 ?b1 ?ok
    (case a1 => k_is); (case l1 => k_is); (case c1 => k_is); (case k1 => k_is)
    (case b1 => intros; rfl)
    case ok =>
      intro fd base F
      refine' K80.all_law ⟨z1, z2, z3, z4, z5, z6, z7, z8, z9, z10, z11, z12, z13, z14, z15, z16, z17, z18, z19⟩ tp th tf td xe ?xp d1 d2 d3 d4 d5 d6 d7 d8 d9 d10 d11 d12 d13 d14 d15 d16 d17 d18 d19 d20 d21 d22 d23 d24 d25 d26 d27 d28 d29 d30 d31 d32 d33 d34 d35 d36 d37 d38 d39 d40 F
      case xp => refine' K80.mk_xc KX G ?h1 ?x1 ?m1 ?f1 ?f2 ?f3 ?f4 ?f5 ?f6 ?f7; (case h1 => k_is); (case x1 => k_exc); (case m1 => k_is); (case f1 => k_is); (case f2 => k_is); (case f3 => k_is); (case f4 => k_is); (case f5 => k_is); (case f6 => k_is); (case f7 => k_is)

