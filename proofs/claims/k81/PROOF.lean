import PyProof.Rows.All
import Wide.All
import OpenK.AllK
import Wide.FinOn
import Lean
import PyProof.EqAt
import PyProof.EqKinds
import PyProof.TupleCall
import PyProof.NeKinds
import PyProof.EnumStmt
import PyProof.EnumMake
import PyProof.LayNew
import PyProof.StrBlockG
import KE.KIntText
import KE.IntTextLaws
import KE.KWords
import PyProof.StrLawsChain
import PyProof.CompUse
import PyProof.FString
import KE.KSortTup
import PySem.Challenge.RW_bothbooks_k81_books_as_texts
set_option Elab.async false
set_option linter.all false
set_option maxRecDepth 100000
namespace L2
open PySem PySem.Spec PyProof.Rows
abbrev Key := Sum Int Str
def keyIs : Key → Value → Bool
  | .inl k, v => Value.isInt k v
  | .inr x, v => Value.isStrOf x v
def keyH (w : World) : Key → Int
  | .inl k => hashInt k
  | .inr x => hashStr w x
theorem keyIs_shape : ∀ {k : Key} {v : Value}, keyIs k v = true → (∃ i t, k = Sum.inl i ∧ v = Value.int i t) ∨ (∃ x t, k = Sum.inr x ∧ v = Value.str x t)
  | .inl i, v, h => by
    obtain ⟨t, e⟩ := Value.isInt_shape (k := i) (v := v) h
    exact .inl ⟨i, t, rfl, e⟩
  | .inr x, v, h => by
    obtain ⟨t, e⟩ := Value.isStrOf_shape (x := x) (v := v) h
    exact .inr ⟨x, t, rfl, e⟩
theorem keyIs_int (i : Int) (t : Tok) : keyIs (.inl i) (.int i t) = true := by simp [keyIs, Value.isInt]
theorem keyIs_str (x : Str) (t : Tok) : keyIs (.inr x) (.str x t) = true := by simp [keyIs, Value.isStrOf]
theorem key_ll (a b : Int) : decide ((Sum.inl a : Key) = Sum.inl b) = (a == b) := by
  by_cases e : a = b
  · subst e; simp
  · have h : ¬ (Sum.inl a : Key) = Sum.inl b := fun q => e (Sum.inl.inj q)
    rw [decide_eq_false h]
    exact (beq_eq_false_iff_ne.mpr e).symm
theorem key_rr (a b : Str) : decide ((Sum.inr a : Key) = Sum.inr b) = decide (a = b) := by
  by_cases e : a = b
  · subst e; simp
  · have h : ¬ (Sum.inr a : Key) = Sum.inr b := fun q => e (Sum.inr.inj q)
    rw [decide_eq_false h, decide_eq_false e]
theorem key_lr (a : Int) (b : Str) : decide ((Sum.inl a : Key) = Sum.inr b) = false := decide_eq_false (fun q => nomatch q)
theorem key_rl (a : Str) (b : Int) : decide ((Sum.inr a : Key) = Sum.inl b) = false := decide_eq_false (fun q => nomatch q)
def mixKind (prog : Program) (w : World) : PySem.KeyKind prog w Key where
  is := keyIs
  hash := keyH w
  inj := fun v a b ha hb => by
    rcases keyIs_shape ha with ⟨i, t, rfl, rfl⟩ | ⟨x, t, rfl, rfl⟩
    · rcases keyIs_shape hb with ⟨j, u, rfl, e⟩ | ⟨y, u, rfl, e⟩
      · injection e with e1 _; rw [e1]
      · exact nomatch e
    · rcases keyIs_shape hb with ⟨j, u, rfl, e⟩ | ⟨y, u, rfl, e⟩
      · exact nomatch e
      · injection e with e1 _; rw [e1]
  byValue := fun k v h => by
    rcases keyIs_shape h with ⟨i, t, rfl, rfl⟩ | ⟨x, t, rfl, rfl⟩ <;> rfl
  pyHash := fun hv h => by
    rcases keyIs_shape hv with ⟨i, t, rfl, rfl⟩ | ⟨x, t, rfl, rfl⟩
    · exact wpAny_pyHash_int h
    · exact wpAny_pyHash_str h
  eqBool := fun hu hv h => by
    rcases keyIs_shape hu with ⟨i, t, rfl, rfl⟩ | ⟨x, t, rfl, rfl⟩
    · rcases keyIs_shape hv with ⟨j, u, rfl, rfl⟩ | ⟨y, u, rfl, rfl⟩
      · rw [key_ll] at h; exact wpAny_eqBool_int h
      · rw [key_lr] at h; exact SeqAt.EqAt.int_str i t y u _ _ _ _ h
    · rcases keyIs_shape hv with ⟨j, u, rfl, rfl⟩ | ⟨y, u, rfl, rfl⟩
      · rw [key_rl] at h; exact SeqAt.EqAt.str_int x t j u _ _ _ _ h
      · rw [key_rr] at h; exact wpAny_eqBool_str h
  «strs» := fun k x t v h => by
    rcases keyIs_shape h with ⟨i, u, rfl, e⟩ | ⟨y, u, rfl, e⟩
    · exact nomatch e
    · injection e with e1 _
      subst e1
      cases v <;> rfl
theorem mixKind_int (prog : Program) (w : World) (i : Int) (t : Tok) : (mixKind prog w).is (.inl i) (.int i t) = true := keyIs_int i t
theorem mixKind_str (prog : Program) (w : World) (x : Str) (t : Tok) : (mixKind prog w).is (.inr x) (.str x t) = true := keyIs_str x t
end L2
namespace L2
open PySem PySem.Spec PyProof.Rows
inductive V where
  | non | bl (b : Bool) | int (i : Int) | str (x : Str) | byt (b : Array UInt8) | flt (b : UInt64) | ref (a : Addr) | ty (n : String)
  deriving DecidableEq
def RelV : V → Value → Prop
  | .non, u => u = Value.none
  | .bl b, u => u = Value.bool b
  | .int i, u => ∃ t, u = Value.int i t
  | .str x, u => ∃ t, u = Value.str x t
  | .byt b, u => ∃ t, u = Value.bytes b t
  | .flt b, u => ∃ t, u = Value.float b t
  | .ref a, u => u = Value.ref a
  | .ty n, u => u = Value.type n
abbrev Vals : List V → List Value → Prop := Paired RelV
theorem Vals.length {xs : List V} {us : List Value} (r : Vals xs us) : xs.length = us.length := Paired.length r
theorem Vals.get : ∀ {xs : List V} {us : List Value} {i : Nat} {x : V}, Vals xs us → xs[i]? = some x → ∃ u, us[i]? = some u ∧ RelV x u
  | _, _, _, _, .nil, e => by simp at e
  | _, _, 0, _, .cons r _, e => by simp at e; subst e; exact ⟨_, rfl, r⟩
  | _, _, i + 1, x, .cons _ t, e => by
    obtain ⟨u, h1, h2⟩ := Vals.get (i := i) (x := x) t (by simpa using e)
    exact ⟨u, by simpa using h1, h2⟩
theorem Vals.append : ∀ {xs ys : List V} {us ws : List Value}, Vals xs us → Vals ys ws → Vals (xs ++ ys) (us ++ ws)
  | _, _, _, _, .nil, s => s
  | _, _, _, _, .cons r t, s => .cons r (Vals.append t s)
theorem Vals.take : ∀ {xs : List V} {us : List Value} (n : Nat), Vals xs us → Vals (xs.take n) (us.take n)
  | _, _, 0, _ => .nil
  | _, _, _ + 1, .nil => .nil
  | _, _, n + 1, .cons r t => .cons r (Vals.take n t)
theorem Vals.drop : ∀ {xs : List V} {us : List Value} (n : Nat), Vals xs us → Vals (xs.drop n) (us.drop n)
  | _, _, 0, r => r
  | _, _, _ + 1, .nil => .nil
  | _, _, n + 1, .cons _ t => Vals.drop n t
def RelO : Option V → Option Value → Prop
  | some v, some u => RelV v u
  | none, none => True
  | _, _ => False
def KV {κ : Type} : List (κ × V) → List (κ × Value) → Prop := Paired fun (p : κ × V) (q : κ × Value) => p.1 = q.1 ∧ RelV p.2 q.2
def kV : Key → V
  | .inl i => .int i
  | .inr x => .str x
inductive HO where
  | lst (xs : List V)
  | tup (xs : List V)
  | dK (kvs : List (Key × V)) | dT (kvs : List (List Key × V))
  | set (S : Int → Bool) (n : Nat)
  | ins (C dx : Addr) (fs : List (Str × V))
  | own (x : Addr)
  | xd (fs : List (Str × V))
  | met (f x : Addr)
  | rng (lo hi : Int)
  | frz (o : Obj) (u : HO)
  | tbl (ps : Array Value)
  | ext (φ : Heap → Prop)
abbrev Hp := Addr → Option HO
def upd (H : Hp) (a : Addr) (o : HO) : Hp := fun b => if b = a then some o else H b
theorem upd_same {H : Hp} {a : Addr} {o : HO} : upd H a o a = some o := by unfold upd; rw [if_pos rfl]
theorem upd_ne {H : Hp} {a b : Addr} {o : HO} (h : b ≠ a) : upd H a o b = H b := by unfold upd; rw [if_neg h]
theorem ne_of_none {H : Hp} {a b : Addr} {o : HO} (h : H a = some o) (h' : H b = none) : a ≠ b := by
  intro e; subst e; rw [h] at h'; cases h'
section
variable (P : Program) (w : World)
def ObjOk (H : Hp) (h : Heap) (a : Addr) : HO → Prop
  | .lst xs => xs.length ≤ sizeLine ∧ ∃ (its : List Value) (n : Nat), Vals xs its ∧ h.get? a = some { cls := .type "list", data := .seq its.toArray n }
  | .tup xs => xs.length ≤ sizeLine ∧ ∃ its : List Value, Vals xs its ∧ IsTup h a its.toArray
  | .dK kvs => kvs.length ≤ sizeLine ∧ (a == sysModules) = false ∧ ∃ vs, KV kvs vs ∧ h.DictOf (mixKind P w) a vs
  | .dT kvs => kvs.length ≤ sizeLine ∧ (a == sysModules) = false ∧ ∃ xs : List (List Key × Addr × Value),
      Paired (fun (p : List Key × V) (q : List Key × Addr × Value) => p.1 = q.1 ∧ H q.2.1 = some (.tup (p.1.map kV)) ∧ RelV p.2 q.2.2) kvs xs ∧
      ∃ o es ep, h.get? a = some o ∧ o.ExactDict ∧ o.data = .dict es ep ∧ es.toList = xs.map (entryOfKey (tupleKind (mixKind P w))) ∧ (xs.map (·.1)).Nodup
  | .set S n => h.SetOf (intKind P w) a S n
  | .ins C dx fs => H dx = some (.own a) ∧ fs.length ≤ 1000 ∧ dx ≠ a ∧ h.get? a = some (PySem.W.instObj C dx) ∧
      ∃ mA, h.Ns1 dx mA ∧ (∀ f, RelO (fs.lookup f) (mA f)) ∧ PySem.Within mA (fs.map (·.1))
  | .own _ => ∃ o, h.get? a = some o
  | .xd fs => ∃ mA, h.Ns1 a mA ∧ ∀ f, RelO (fs.lookup f) (mA f)
  | .rng lo hi => ∃ t u v, h.get? a = some { cls := .type "range", data := .fields #[.int lo t, .int hi u, .int 1 v] }
  | .frz o u => h.get? a = some o ∧ ObjOk H h a u
  | .tbl ps => h.get? a = some { cls := .none, data := .fields ps }
  | .met f x => h.get? a = some (PySem.W.methodObj (.ref f) (.ref x))
  | .ext φ => φ h ∧ (∃ o, h.get? a = some o) ∧ ∀ h1 h2 : Heap, φ h1 → (∀ o, h1.get? a = some o → h2.get? a = some o) → φ h2
def HOk (H : Hp) (h : Heap) : Prop := ∀ a o, H a = some o → ObjOk P w H h a o
end
section
variable {P : Program} {w : World} {H H' : Hp} {h h' : Heap} {a : Addr} {o : HO}
theorem ObjOk.lt (x : ObjOk P w H h a o) : a < h.objs.size := by
  cases o with
  | lst xs => obtain ⟨_, _, _, _, e⟩ := x; exact Heap.lt_size e
  | tup xs => obtain ⟨_, _, _, p⟩ := x; exact p.lt
  | dK kvs => obtain ⟨_, _, _, _, o, _, _, e, _⟩ := x; exact Heap.lt_size e
  | dT kvs => obtain ⟨_, _, _, _, o, _, _, e, _⟩ := x; exact Heap.lt_size e
  | set S n => obtain ⟨o, _, _, _, e, _⟩ := x; exact Heap.lt_size e
  | ins C dx fs => obtain ⟨_, _, _, e, _⟩ := x; exact Heap.lt_size e
  | own y => obtain ⟨_, e⟩ := x; exact Heap.lt_size e
  | xd fs => obtain ⟨_, ⟨_, _, _, e, _⟩, _⟩ := x; exact Heap.lt_size e
  | rng lo hi => obtain ⟨_, _, _, e⟩ := x; exact Heap.lt_size e
  | frz ob u => obtain ⟨e, _⟩ := x; exact Heap.lt_size e
  | tbl ps => exact Heap.lt_size (show h.get? a = some _ from x)
  | met f y => exact Heap.lt_size (show h.get? a = some _ from x)
  | ext φ => obtain ⟨_, ⟨_, e⟩, _⟩ := x; exact Heap.lt_size e
theorem Paired.mapP {α β : Type} {F G : α → β → Prop} : ∀ {l₁ : List α} {l₂ : List β}, Paired F l₁ l₂ → (∀ a b, F a b → G a b) → Paired G l₁ l₂
  | _, _, .nil, _ => .nil
  | _, _, .cons r t, f => .cons (f _ _ r) (Paired.mapP t f)
theorem ObjOk.stay (x : ObjOk P w H h a o) (k : ∀ b u, (b = a ∨ H b = some (.own a)) → h.get? b = some u → h'.get? b = some u)
    (ho : ∀ b, H b = some (.own a) → H' b = some (.own a)) (ht : ∀ b xs, H b = some (.tup xs) → H' b = some (.tup xs)) : ObjOk P w H' h' a o := by
  induction o with
  | lst xs => obtain ⟨z, its, n, r, e⟩ := x; exact ⟨z, its, n, r, k _ _ (.inl rfl) e⟩
  | tup xs => obtain ⟨z, its, r, ob, e, c⟩ := x; exact ⟨z, its, r, ob, k _ _ (.inl rfl) e, c⟩
  | dK kvs => obtain ⟨z, y, vs, r, ob, es, ep, e, c⟩ := x; exact ⟨z, y, vs, r, ob, es, ep, k _ _ (.inl rfl) e, c⟩
  | dT kvs =>
    obtain ⟨z, y, xs, r, ob, es, ep, e, c⟩ := x
    exact ⟨z, y, xs, Paired.mapP r fun p q z => ⟨z.1, ht _ _ z.2.1, z.2.2⟩, ob, es, ep, k _ _ (.inl rfl) e, c⟩
  | set S n => obtain ⟨ob, es, ep, t, e, c⟩ := x; exact ⟨ob, es, ep, t, k _ _ (.inl rfl) e, c⟩
  | ins C dx fs =>
    obtain ⟨d, z, ne, e, mA, ⟨od, es, ep, e2, c⟩, r⟩ := x
    exact ⟨ho _ d, z, ne, k _ _ (.inl rfl) e, mA, ⟨od, es, ep, k _ _ (.inr d) e2, c⟩, r⟩
  | own y => obtain ⟨ob, e⟩ := x; exact ⟨ob, k _ _ (.inl rfl) e⟩
  | xd fs => obtain ⟨mA, ⟨od, es, ep, e, c⟩, r⟩ := x; exact ⟨mA, ⟨od, es, ep, k _ _ (.inl rfl) e, c⟩, r⟩
  | rng lo hi => obtain ⟨t, u, v, e⟩ := x; exact ⟨t, u, v, k _ _ (.inl rfl) e⟩
  | frz ob u ih => obtain ⟨e, q⟩ := x; exact ⟨k _ _ (.inl rfl) e, ih q⟩
  | tbl ps =>
    have e : h.get? a = some { cls := .none, data := .fields ps } := x
    show h'.get? a = some { cls := .none, data := .fields ps }
    exact k a _ (.inl rfl) e
  | met f y =>
    have e : h.get? a = some (PySem.W.methodObj (.ref f) (.ref y)) := x
    show h'.get? a = some (PySem.W.methodObj (.ref f) (.ref y))
    exact k a _ (.inl rfl) e
  | ext φ => obtain ⟨p, ⟨o, e⟩, st⟩ := x; exact ⟨st _ _ p fun o q => k _ _ (.inl rfl) q, ⟨o, k _ _ (.inl rfl) e⟩, st⟩
theorem HOk.lt (x : HOk P w H h) (e : H a = some o) : a < h.objs.size := (x a o e).lt
theorem HOk.fresh (x : HOk P w H h) (e : h.objs.size ≤ a) : H a = none := by
  cases q : H a with
  | none => rfl
  | some u => exact absurd (Nat.lt_of_lt_of_le (x.lt q) e) (Nat.lt_irrefl _)
theorem HOk.kept (x : HOk P w H h) (k : ∀ b u, h.get? b = some u → h'.get? b = some u) : HOk P w H h' := fun a o e =>
  (x a o e).stay (fun b u _ q => k b u q) (fun _ q => q) fun _ _ q => q
theorem HOk.laid (x : HOk P w H h) (k : ∀ b u, h.get? b = some u → h'.get? b = some u) (hp : h.objs.size ≤ a) (new : ObjOk P w (upd H a o) h' a o) : HOk P w (upd H a o) h' := fun b u e => by
  have hn := x.fresh hp
  by_cases hb : b = a
  · subst hb; rw [upd_same] at e; cases e; exact new
  · rw [upd_ne hb] at e
    exact (x b u e).stay (fun c v _ q => k c v q) (fun c q => by rw [upd_ne (ne_of_none q hn)]; exact q) fun c xs q => by rw [upd_ne (ne_of_none q hn)]; exact q
end
def Rd (H : Hp) (a : Addr) (u : HO) : Prop := H a = some u ∨ ∃ o, H a = some (.frz o u)
theorem Rd.of {H : Hp} {a : Addr} {u : HO} (h : H a = some u) : Rd H a u := .inl h
theorem Rd.ok {P : Program} {w : World} {H : Hp} {h : Heap} {a : Addr} {u : HO} (r : Rd H a u) (x : HOk P w H h) : ObjOk P w H h a u := by
  rcases r with r | ⟨o, r⟩
  · exact x a u r
  · obtain ⟨_, q⟩ := x a _ r
    exact q
def Mut : Option HO → Prop
  | some (.lst _) => True
  | some (.dK _) => True
  | some (.dT _) => True
  | some (.set _ _) => True
  | some (.ins _ _ _) => True
  | some (.ext _) => True
  | _ => False
section
variable {P : Program} {w : World} {H : Hp} {h h' : Heap} {x e : Addr} {o' : HO}
theorem HOk.write (ok : HOk P w H h) (mu : Mut (H x)) (he : e = x ∨ H e = some (.own x)) (k : ∀ b u, b ≠ e → h.get? b = some u → h'.get? b = some u) (heo : ∃ u, h'.get? e = some u)
    (new : ObjOk P w (upd H x o') h' x o') : HOk P w (upd H x o') h' := fun b u q => by
  have nown : ∀ c y, H c = some (.own y) → c ≠ x := fun c y r z => by subst z; rw [r] at mu; exact mu
  have ntup : ∀ c xs, H c = some (.tup xs) → c ≠ x := fun c xs r z => by subst z; rw [r] at mu; exact mu
  by_cases hb : b = x
  · subst hb; rw [upd_same] at q; cases q; exact new
  · rw [upd_ne hb] at q
    by_cases hbe : b = e
    · have q' : H b = some (.own x) := by
        rcases he with z | z
        · exact absurd (hbe.trans z) hb
        · rw [hbe]; exact z
      rw [q] at q'; cases q'
      obtain ⟨v, hv⟩ := heo
      exact ⟨v, by rw [hbe]; exact hv⟩
    · refine (ok b u q).stay (fun c v hc r => k c v ?_ r) (fun c r => by rw [upd_ne (nown c b r)]; exact r) fun c xs r => by rw [upd_ne (ntup c xs r)]; exact r
      rcases hc with rfl | hc
      · exact hbe
      · rintro rfl
        rcases he with z | z
        · exact nown c b hc z
        · rw [hc] at z; cases z; exact hb rfl
end
structure Un (fs ex : List Addr) (H H' : Hp) (h h' : Heap) : Prop where
  keep : ∀ b o, h.get? b = some o → H b = none → b ∉ fs → b ∉ ex → h'.get? b = some o
  slot : ∀ b o, h.get? b = some o → H b = none → b ∈ fs → b ∉ ex → ∃ sl, h'.get? b = some { o with slots := sl }
  free : ∀ b o, h.get? b = some o → H b = none → b ∉ ex → H' b = none
  there : ∀ b o, h.get? b = some o → b ∉ ex → ∃ o', h'.get? b = some o'
  tups : ∀ b xs, H b = some (.tup xs) → H' b = some (.tup xs)
  frzs : ∀ b o u, H b = some (.frz o u) → H' b = some (.frz o u)
  tbls : ∀ b ps, H b = some (.tbl ps) → ∃ more, H' b = some (.tbl (ps ++ more))
section
variable {fs fs' ex ex' : List Addr} {H H1 H2 : Hp} {h h1 h2 h' : Heap} {a x e : Addr} {o : HO}
theorem Un.any (u : Un fs ex H H1 h h1) {b : Addr} {ob : Obj} (q : h.get? b = some ob) (n : H b = none) (hx : b ∉ ex) : ∃ sl, h1.get? b = some { ob with slots := sl } := by
  by_cases hb : b ∈ fs
  · exact u.slot b ob q n hb hx
  · exact ⟨ob.slots, u.keep b ob q n hb hx⟩
theorem Un.trans (a : Un fs ex H H1 h h1) (b : Un fs ex H1 H2 h1 h2) : Un fs ex H H2 h h2 where
  keep := fun c ob q n hc hx => b.keep c ob (a.keep c ob q n hc hx) (a.free c ob q n hx) hc hx
  slot := fun c ob q n hc hx => by
    obtain ⟨sl, e1⟩ := a.slot c ob q n hc hx
    obtain ⟨sl', e2⟩ := b.slot c _ e1 (a.free c ob q n hx) hc hx
    exact ⟨sl', e2⟩
  free := fun c ob q n hx => by
    obtain ⟨o', e1⟩ := a.there c ob q hx
    exact b.free c o' e1 (a.free c ob q n hx) hx
  there := fun c ob q hx => by
    obtain ⟨o', e1⟩ := a.there c ob q hx
    exact b.there c o' e1 hx
  tups := fun c xs q => b.tups c xs (a.tups c xs q)
  frzs := fun c ob xs q => b.frzs c ob xs (a.frzs c ob xs q)
  tbls := fun c ps q => by
    obtain ⟨m1, e1⟩ := a.tbls c ps q
    obtain ⟨m2, e2⟩ := b.tbls c _ e1
    exact ⟨m1 ++ m2, by rw [e2, Array.append_assoc]⟩
theorem Un.kept (k : ∀ b u, h.get? b = some u → h'.get? b = some u) : Un fs ex H H h h' :=
  ⟨fun b ob q _ _ _ => k b ob q, fun b ob q _ _ _ => ⟨ob.slots, k b ob q⟩, fun _ _ _ n _ => n, fun b ob q _ => ⟨ob, k b ob q⟩, fun _ _ q => q, fun _ _ _ q => q, fun _ ps q => ⟨#[], by rw [q]; simp⟩⟩
theorem Un.refl : Un fs ex H H h h := Un.kept fun _ _ q => q
theorem Un.laid (k : ∀ b u, h.get? b = some u → h'.get? b = some u) (hp : h.objs.size ≤ a) (hn : H a = none) : Un fs ex H (upd H a o) h h' where
  keep := fun b u q _ _ _ => k b u q
  slot := fun b u q _ _ _ => ⟨u.slots, k b u q⟩
  free := fun b u q n _ => by rw [upd_ne (Nat.ne_of_lt (Nat.lt_of_lt_of_le (Heap.lt_size q) hp))]; exact n
  there := fun b u q _ => ⟨u, k b u q⟩
  tups := fun b xs q => by rw [upd_ne (ne_of_none q hn)]; exact q
  frzs := fun b u xs q => by rw [upd_ne (ne_of_none q hn)]; exact q
  tbls := fun b ps q => ⟨#[], by rw [upd_ne (ne_of_none q hn), q]; simp⟩
theorem Un.write (mu : Mut (H x)) (he : e = x ∨ H e = some (.own x)) (k : ∀ b u, b ≠ e → h.get? b = some u → h'.get? b = some u) (heo : ∃ u, h'.get? e = some u) : Un fs ex H (upd H x o) h h' := by
  have hx : ∀ b, H b = none → b ≠ x := fun b n z => by subst z; rw [n] at mu; exact mu
  have hb : ∀ b, H b = none → b ≠ e := fun b n z => by
    subst z
    rcases he with r | r
    · exact hx b n r
    · rw [n] at r; cases r
  have hm : ∀ b u, H b = some u → ¬ Mut (some u) → b ≠ x := fun b u q nm z => by subst z; rw [q] at mu; exact nm mu
  refine ⟨fun b u q n _ _ => k b u (hb b n) q, fun b u q n _ _ => ⟨u.slots, k b u (hb b n) q⟩, fun b u q n _ => by rw [upd_ne (hx b n)]; exact n, fun b u q _ => ?_,
    fun b xs q => by rw [upd_ne (hm b _ q fun z => z)]; exact q, fun b u xs q => by rw [upd_ne (hm b _ q fun z => z)]; exact q, fun b ps q => ⟨#[], by rw [upd_ne (hm b _ q fun z => z), q]; simp⟩⟩
  by_cases hbe : b = e
  · subst hbe; exact heo
  · exact ⟨u, k b u hbe q⟩
theorem Un.mono (u : Un fs ex H H1 h h1) (hs : ∀ b ∈ fs, b ∈ fs') (hx : ∀ b ∈ ex, b ∈ ex') : Un fs' ex' H H1 h h1 :=
  ⟨fun b ob q n hb he => u.keep b ob q n (fun z => hb (hs b z)) fun z => he (hx b z), fun _ _ q n _ he => u.any q n fun z => he (hx _ z), fun b ob q n he => u.free b ob q n fun z => he (hx b z), fun b ob q he => u.there b ob q fun z => he (hx b z), u.tups, u.frzs, u.tbls⟩
end
def trk (h : Heap) (H : Hp) : List Addr := (List.range h.objs.size).filter fun a => (H a).isSome
def hidT (h : Heap) (H : Hp) : Heap := PySem.W.hideAll h (trk h H)
theorem hidT_size (h : Heap) (H : Hp) : (hidT h H).objs.size = h.objs.size := PySem.W.hideAll_size _ _
theorem hidT_get {h : Heap} {H : Hp} {b : Addr} {o : Obj} (e : h.get? b = some o) (n : H b = none) : (hidT h H).get? b = some o :=
  PySem.W.hideAll_get _ e fun hm => by
    have q : (H b).isSome = true := (List.mem_filter.mp hm).2
    rw [n] at q; simp at q
theorem of_hidT {h : Heap} {H : Hp} {b : Addr} {o : Obj} (e : (hidT h H).get? b = some o) : h.get? b = some o ∧ H b = none := by
  have e' : h.get? b = some o := PySem.W.of_hideAll (trk h H) e
  refine ⟨e', ?_⟩
  cases q : H b with
  | none => rfl
  | some x =>
    have hm : b ∈ trk h H := List.mem_filter.mpr ⟨List.mem_range.mpr (Heap.lt_size e'), by simp [q]⟩
    have z : (hidT h H).get? b = none := PySem.W.hideAll_none (trk h H) hm
    rw [z] at e; cases e
end L2
namespace L2
open PySem PySem.Spec PyProof.Rows
structure Mod (K : PySem.W.Frag) (mg : Str → Option Value) (base : Heap) : Prop where
  kin : K.In base
  glob : base.Ns mainGlobals mg
  blt : ∃ mb, base.Ns builtinsNs mb ∧ ∀ x : Str, x ≠ "__name__" → mb x = bootBuiltins x
  nolimit : base.NoLimit
structure Cx where
  prog : Program
  w : World
  K : PySem.W.Frag
  mg : Str → Option Value
  base : Heap
  A : Around
  N : List Str
  s₀ : Shared
  H₀ : Hp
  env : Env
  outer : List Env
  stack : List Env
  ex : List Addr
  fn : Str → Bool
  calm : Bool
  pn : List (Addr × Obj)
  xe : Value → Shared → Prop
def frs (l : List Env) : List Addr := l.filterMap (·.frame)
abbrev Cx.fs (X : Cx) : List Addr := frs X.outer
def Vis (sc : Scope) (x : Str) : Prop := sc.names.lookup x = some .local ∨ sc.names.lookup x = some .cell ∨ sc.names.lookup x = some .free
def Loc (sc : Scope) (x : Str) : Prop := sc.names.lookup x = some .local ∨ sc.names.lookup x = some .cell
def Look (env : Env) (h : Heap) (m : Str → Option Value) (x : Str) (u : Value) : Prop :=
  (env.kindOf x = some .local ∧ m x = some u) ∨ ((env.kindOf x = some .cell ∨ env.kindOf x = some .free) ∧ ∃ c, env.cells.lookup x = some c ∧ h.IsCell c (some u))
structure Cx.Ok (X : Cx) : Prop where
  mod : Mod X.K X.mg X.base
  kind : X.env.scope.kind = .function
  glob : X.env.globals = mainGlobals
  blt : X.env.builtins = builtinsNs
  above : X.s₀.heap.objs.size ≤ X.env.locals
  inj : ∀ x y c, X.env.cells.lookup x = some c → X.env.cells.lookup y = some c → x = y
  has : ∀ x, (X.env.kindOf x = some .cell ∨ X.env.kindOf x = some .free) → ∃ c, X.env.cells.lookup x = some c
  cab : ∀ x c, X.fn x = true → X.env.cells.lookup x = some c → X.s₀.heap.objs.size ≤ c
  hd : X.calm = true → X.A.handled = none
  frames : X.A.frames = some X.stack
  stk : X.stack = X.outer ∨ (X.stack = X.env :: X.outer ∧ X.env.frame = some X.env.locals)
  exf : ∀ b ∈ X.ex, b ≠ X.env.locals ∧ ∀ x c, X.env.cells.lookup x = some c → c ≠ b
  bs : ∀ b o, X.base.get? b = some o → X.s₀.heap.get? b = some o ∧ X.H₀ b = none
  bsz : X.base.objs.size ≤ X.s₀.heap.objs.size
  noex : ∀ b o, X.base.get? b = some o → b ∉ X.ex
  exfs : ∀ b ∈ X.ex, b ∉ X.fs
  funs : X.s₀.heap.FunFrames X.base X.outer
  frf : ∀ b ∈ X.fs, X.H₀ b = none
structure Inv (X : Cx) (pins : List (Addr × Obj)) (σ : List (Option V)) (H : Hp) (s : Shared) : Prop where
  ok : X.Ok
  os : s.os = X.s₀.os
  bare : AllBare s.gens
  base : Un X.fs X.ex X.H₀ H X.s₀.heap s.heap
  loc : ∃ m, s.heap.Ns X.env.locals m ∧ ∀ (i : Nat) (x : Str) (v : V), X.N[i]? = some x → σ[i]? = some (some v) → Vis X.env.scope x → ∃ u, RelV v u ∧ Look X.env s.heap m x u
  cell : ∀ x c, X.env.cells.lookup x = some c → ∃ v, s.heap.IsCell c v
  free : H X.env.locals = none
  freeC : ∀ x c, X.env.cells.lookup x = some c → H c = none
  pin : ∀ p ∈ X.pn ++ pins, s.heap.get? p.1 = some p.2 ∧ H p.1 = none ∧ p.1 ≠ X.env.locals ∧ p.1 ∉ X.fs ∧ ∀ v, p.2.data ≠ .cell v
  hok : HOk X.prog X.w H s.heap
  len : σ.length = X.N.length
section
variable {X : Cx} {pins : List (Addr × Obj)} {σ : List (Option V)} {H H' : Hp} {s : Shared} {h' : Heap}
theorem Cx.Ok.nofr (ok : X.Ok) {b : Addr} {o : Obj} (e : X.base.get? b = some o) : b ∉ X.fs := fun hb => by
  have := (ok.funs.mem hb).1
  rw [e] at this; cases this
theorem Inv.bs (I : Inv X pins σ H s) : ∀ b o, X.base.get? b = some o → s.heap.get? b = some o ∧ H b = none := fun b o e =>
  ⟨I.base.keep b o (I.ok.bs b o e).1 (I.ok.bs b o e).2 (I.ok.nofr e) (I.ok.noex b o e), I.base.free b o (I.ok.bs b o e).1 (I.ok.bs b o e).2 (I.ok.noex b o e)⟩
theorem Inv.bk (I : Inv X pins σ H s) : ∀ b o, X.base.get? b = some o → s.heap.get? b = some o := fun b o e => (I.bs b o e).1
theorem Inv.mod (I : Inv X pins σ H s) : Mod X.K X.mg X.base := I.ok.mod
theorem Inv.kIn (I : Inv X pins σ H s) : X.K.In s.heap := I.ok.mod.kin.keeps I.bk
theorem Inv.lt (I : Inv X pins σ H s) : X.env.locals < s.heap.objs.size := let ⟨_, hn, _⟩ := I.loc; hn.lt
theorem Inv.sz (I : Inv X pins σ H s) : X.s₀.heap.objs.size ≤ s.heap.objs.size := Nat.le_trans I.ok.above (Nat.le_of_lt I.lt)
theorem Inv.nofs (I : Inv X pins σ H s) {a : Addr} (h : s.heap.objs.size ≤ a) : a ∉ X.fs := fun hb => by
  obtain ⟨_, o, ho, _⟩ := I.ok.funs.mem hb
  exact absurd (Nat.lt_of_lt_of_le (Heap.lt_size ho) (Nat.le_trans I.sz h)) (Nat.lt_irrefl _)
theorem Inv.cne (I : Inv X pins σ H s) : ∀ x c, X.env.cells.lookup x = some c → c ≠ X.env.locals := fun x c e z => by
  obtain ⟨v, o, ho, hd⟩ := I.cell x c e
  obtain ⟨m, ⟨o', es, ep, ho', hd', _⟩, _⟩ := I.loc
  rw [z, ho'] at ho; cases ho; rw [hd'] at hd; cases hd
theorem Inv.funs (I : Inv X pins σ H s) : s.heap.FunFrames X.base X.outer := by
  have all : ∀ (l : List Env), (∀ b ∈ frs l, b ∈ X.fs) → X.s₀.heap.FunFrames X.base l → s.heap.FunFrames X.base l := by
    intro l
    induction l with
    | nil => intro _ _; trivial
    | cons env r ih =>
      intro hs hl
      obtain ⟨hk, ⟨L, o, hf, hn, ho, hd⟩, hr⟩ := hl
      have hL : L ∈ X.fs := hs L (by unfold frs; rw [List.filterMap_cons, hf]; exact List.mem_cons_self)
      obtain ⟨sl, e⟩ := I.base.slot L o ho (I.ok.frf L hL) hL fun z => I.ok.exfs L z hL
      exact ⟨hk, ⟨L, _, hf, hn, e, hd⟩, ih (fun b hb => hs b (by unfold frs; rw [List.filterMap_cons, hf]; exact List.mem_cons_of_mem _ hb)) hr⟩
  exact all X.outer (fun _ hb => hb) I.ok.funs
theorem Inv.stack (I : Inv X pins σ H s) : s.heap.FunFrames X.base X.stack := by
  rcases I.ok.stk with e | ⟨e, hf⟩
  · rw [e]; exact I.funs
  · rw [e]
    obtain ⟨m, hn, _⟩ := I.loc
    refine .cons (by rw [I.ok.kind]; decide) hf hn ?_ I.funs
    exact Heap.get?_none_of_le (Nat.le_trans I.ok.bsz I.ok.above)
theorem Inv.stkSub (I : Inv X pins σ H s) : ∀ b ∈ frs X.stack, b ∈ X.env.locals :: X.fs := fun b hb => by
  rcases I.ok.stk with e | ⟨e, hf⟩
  · rw [e] at hb; exact List.mem_cons_of_mem _ hb
  · rw [e] at hb
    unfold frs at hb
    rw [List.filterMap_cons, hf] at hb
    exact hb
theorem Inv.stkFree (I : Inv X pins σ H s) : ∀ b ∈ frs X.stack, H b = none := fun b hb => by
  rcases List.mem_cons.mp (I.stkSub b hb) with e | hb
  · rw [e]; exact I.free
  · obtain ⟨_, o, ho, _⟩ := I.ok.funs.mem hb
    exact I.base.free b o ho (I.ok.frf b hb) fun z => I.ok.exfs b z hb
theorem Inv.step {g' : Array GenState} {t' : Nat} {d' : Drawn} {ch : List Addr} (I : Inv X pins σ H s)
    (hch : ∀ b ∈ ch, (b ∈ X.ex ∨ X.s₀.heap.objs.size ≤ b) ∧ b ≠ X.env.locals ∧ (∀ x c, X.env.cells.lookup x = some c → c ≠ b) ∧ ∀ p ∈ X.pn ++ pins, p.1 ≠ b)
    (keep : ∀ b o, b ≠ X.env.locals → b ∉ X.fs → b ∉ ch → s.heap.get? b = some o → H b = none → h'.get? b = some o)
    (slot : ∀ b o, b ≠ X.env.locals → b ∈ X.fs → b ∉ ch → s.heap.get? b = some o → H b = none → ∃ sl, h'.get? b = some { o with slots := sl }) (free : ∀ b o, b ∉ ch → s.heap.get? b = some o → H b = none → H' b = none)
    (there : ∀ b o, b ∉ ch → s.heap.get? b = some o → ∃ o', h'.get? b = some o')
    (tups : ∀ b xs, H b = some (.tup xs) → H' b = some (.tup xs)) (frzs : ∀ b o u, H b = some (.frz o u) → H' b = some (.frz o u)) (tbls : ∀ b ps, H b = some (.tbl ps) → ∃ more, H' b = some (.tbl (ps ++ more)))
    (ns : ∀ m, s.heap.Ns X.env.locals m → h'.Ns X.env.locals m) (hok : HOk X.prog X.w H' h') (hg : AllBare g') :
    Inv X pins σ H' { s with heap := h', gens := g', drawn := d', toks := t' } := by
  have neL : ∀ b o, X.s₀.heap.get? b = some o → b ≠ X.env.locals := fun b o e => Nat.ne_of_lt (Nat.lt_of_lt_of_le (Heap.lt_size e) I.ok.above)
  have neC : ∀ b o, X.s₀.heap.get? b = some o → b ∉ X.ex → b ∉ ch := fun b o e hx hb => by
    rcases (hch b hb).1 with z | z
    · exact hx z
    · exact absurd (Nat.lt_of_lt_of_le (Heap.lt_size e) z) (Nat.lt_irrefl _)
  have cellK : ∀ x c, X.env.cells.lookup x = some c → ∀ v, s.heap.IsCell c v → h'.IsCell c v := fun x c e v ⟨o, ho, hd⟩ => by
    have nch : c ∉ ch := fun z => (hch c z).2.2.1 x c e rfl
    by_cases hc : c ∈ X.fs
    · obtain ⟨sl, q⟩ := slot c o (I.cne x c e) hc nch ho (I.freeC x c e)
      exact ⟨_, q, hd⟩
    · exact ⟨o, keep c o (I.cne x c e) hc nch ho (I.freeC x c e), hd⟩
  refine ⟨I.ok, I.os, hg, ⟨fun b o e n hb hx => ?_, fun b o e n hb hx => ?_, fun b o e n hx => ?_, fun b o e hx => ?_, fun b xs e => tups b xs (I.base.tups b xs e), fun b o xs e => frzs b o xs (I.base.frzs b o xs e), fun b ps e => ?_⟩, ?_, fun x c e => ?_, ?_, fun x c e => ?_, fun p hp => ?_, hok, I.len⟩
  · exact keep b o (neL b o e) hb (neC b o e hx) (I.base.keep b o e n hb hx) (I.base.free b o e n hx)
  · obtain ⟨sl, e1⟩ := I.base.slot b o e n hb hx
    obtain ⟨sl', e2⟩ := slot b _ (neL b o e) hb (neC b o e hx) e1 (I.base.free b o e n hx)
    exact ⟨sl', e2⟩
  · obtain ⟨o', e1⟩ := I.base.there b o e hx
    exact free b o' (neC b o e hx) e1 (I.base.free b o e n hx)
  · obtain ⟨o', e1⟩ := I.base.there b o e hx
    exact there b o' (neC b o e hx) e1
  · obtain ⟨m1, e1⟩ := I.base.tbls b ps e
    obtain ⟨m2, e2⟩ := tbls b _ e1
    exact ⟨m1 ++ m2, by rw [e2, Array.append_assoc]⟩
  · obtain ⟨m, hn, hl⟩ := I.loc
    refine ⟨m, ns m hn, fun i x v e1 e2 e3 => ?_⟩
    obtain ⟨u, r, l⟩ := hl i x v e1 e2 e3
    refine ⟨u, r, ?_⟩
    rcases l with l | ⟨k, c, e, z⟩
    · exact .inl l
    · exact .inr ⟨k, c, e, cellK x c e _ z⟩
  · obtain ⟨v, z⟩ := I.cell x c e
    exact ⟨v, cellK x c e v z⟩
  · obtain ⟨m, ⟨o, _, _, ho, _⟩, _⟩ := I.loc
    exact free _ o (fun z => (hch _ z).2.1 rfl) ho I.free
  · obtain ⟨v, o, ho, hd⟩ := I.cell x c e
    exact free c o (fun z => (hch c z).2.2.1 x c e rfl) ho (I.freeC x c e)
  · obtain ⟨e, n, ne, nf, d⟩ := I.pin p hp
    have nch : p.1 ∉ ch := fun z => (hch p.1 z).2.2.2 p hp rfl
    exact ⟨keep p.1 p.2 ne nf nch e n, free p.1 p.2 nch e n, ne, nf, d⟩
theorem Inv.un {t' : Nat} (I : Inv X pins σ H s) (u : Un X.fs [] H H' s.heap h') (hok : HOk X.prog X.w H' h') : Inv X pins σ H' { s with heap := h', toks := t' } := by
  obtain ⟨m, ⟨o, es, ep, ho, r⟩, _⟩ := id I.loc
  obtain ⟨sl, hL⟩ := u.any ho I.free (by simp)
  exact I.step (g' := s.gens) (d' := s.drawn) (ch := []) (fun _ z => nomatch z) (fun b o _ hb _ e n => u.keep b o e n hb (by simp)) (fun b o _ hb _ e n => u.slot b o e n hb (by simp)) (fun b o _ e n => u.free b o e n (by simp)) (fun b o _ e => u.there b o e (by simp)) u.tups u.frzs u.tbls (fun m' hm => by
    obtain ⟨o', es', ep', ho', r'⟩ := hm
    rw [ho] at ho'; cases ho'
    exact ⟨_, es', ep', hL, r'⟩) hok I.bare
theorem Inv.call {g' : Array GenState} {t' : Nat} {d' : Drawn} {ch : List Addr} (I : Inv X pins σ H s) (u : Un (frs X.stack) ch H H' s.heap h') (hok : HOk X.prog X.w H' h') (hg : AllBare g')
    (hch : ∀ b ∈ ch, (b ∈ X.ex ∨ X.s₀.heap.objs.size ≤ b) ∧ b ≠ X.env.locals ∧ (∀ x c, X.env.cells.lookup x = some c → c ≠ b) ∧ ∀ p ∈ X.pn ++ pins, p.1 ≠ b) :
    Inv X pins σ H' { s with heap := h', gens := g', drawn := d', toks := t' } := by
  obtain ⟨m, ⟨o, es, ep, ho, r⟩, _⟩ := id I.loc
  obtain ⟨sl, hL⟩ := u.any ho I.free fun z => (hch _ z).2.1 rfl
  exact I.step (ch := ch) hch (fun b o hL hb hc e n => u.keep b o e n (fun z => (List.mem_cons.mp (I.stkSub b z)).elim hL hb) hc) (fun b o _ _ hc e n => u.any e n hc) (fun b o hc e n => u.free b o e n hc) (fun b o hc e => u.there b o e hc) u.tups u.frzs u.tbls (fun m' hm => by
    obtain ⟨o', es', ep', ho', r'⟩ := hm
    rw [ho] at ho'; cases ho'
    exact ⟨_, es', ep', hL, r'⟩) hok hg
theorem Inv.turned {t' : Nat} {it : Addr} (I : Inv X pins σ H s) (k : ∀ b o, b ≠ it → s.heap.get? b = some o → h'.get? b = some o) (hn : H it = none) (hL : it ≠ X.env.locals)
    (h1 : it ∈ X.ex ∨ X.s₀.heap.objs.size ≤ it) (h2 : ∀ x c, X.env.cells.lookup x = some c → c ≠ it) (h3 : ∀ p ∈ X.pn ++ pins, p.1 ≠ it) : Inv X pins σ H { s with heap := h', toks := t' } := by
  have nit : ∀ b u, H b = some u → b ≠ it := fun b u e z => by rw [z, hn] at e; cases e
  refine I.step (g' := s.gens) (d' := s.drawn) (ch := [it]) (fun b hb => ?_) (fun b o _ _ hc e _ => k b o (fun z => hc (by simp [z])) e) (fun b o _ _ hc e _ => ⟨o.slots, k b o (fun z => hc (by simp [z])) e⟩) (fun _ _ _ _ n => n)
    (fun b o hc e => ⟨o, k b o (fun z => hc (by simp [z])) e⟩) (fun _ _ e => e) (fun _ _ _ e => e) (fun b ps e => ⟨#[], by rw [e]; simp⟩) (fun m hm => ?_) (fun b u e => ?_) I.bare
  · have e : b = it := by simpa using hb
    subst e
    exact ⟨h1, hL, h2, h3⟩
  · obtain ⟨o, es, ep, ho, r⟩ := hm
    exact ⟨o, es, ep, k _ o (Ne.symm hL) ho, r⟩
  · refine (I.hok b u e).stay (fun c v hc q => k c v ?_ q) (fun _ q => q) fun _ _ q => q
    rcases hc with z | z
    · rw [z]; exact nit b u e
    · exact nit c _ z
theorem Inv.tok (I : Inv X pins σ H s) (t : Nat) : Inv X pins σ H { s with toks := t } := I.un (h' := s.heap) (t' := t) Un.refl I.hok
theorem Inv.kept {t' : Nat} (I : Inv X pins σ H s) (k : ∀ b u, s.heap.get? b = some u → h'.get? b = some u) : Inv X pins σ H { s with heap := h', toks := t' } := I.un (Un.kept k) (I.hok.kept k)
theorem Inv.laid {a : Addr} {o : HO} {t' : Nat} (I : Inv X pins σ H s) (k : ∀ b u, s.heap.get? b = some u → h'.get? b = some u) (hp : s.heap.objs.size ≤ a) (new : ObjOk X.prog X.w (upd H a o) h' a o) :
    Inv X pins σ (upd H a o) { s with heap := h', toks := t' } := I.un (Un.laid k hp (I.hok.fresh hp)) (I.hok.laid k hp new)
theorem Inv.write {x e : Addr} {o : HO} {t' : Nat} (I : Inv X pins σ H s) (mu : Mut (H x)) (he : e = x ∨ H e = some (.own x)) (k : ∀ b u, b ≠ e → s.heap.get? b = some u → h'.get? b = some u) (heo : ∃ u, h'.get? e = some u)
    (new : ObjOk X.prog X.w (upd H x o) h' x o) : Inv X pins σ (upd H x o) { s with heap := h', toks := t' } := I.un (Un.write mu he k heo) (I.hok.write mu he k heo new)
theorem Inv.pins_of {pins' : List (Addr × Obj)} (I : Inv X pins σ H s) (h : ∀ p ∈ pins', s.heap.get? p.1 = some p.2 ∧ H p.1 = none ∧ p.1 ≠ X.env.locals ∧ p.1 ∉ X.fs ∧ ∀ v, p.2.data ≠ .cell v) : Inv X pins' σ H s :=
  ⟨I.ok, I.os, I.bare, I.base, I.loc, I.cell, I.free, I.freeC, fun p hp => (List.mem_append.mp hp).elim (fun z => I.pin p (List.mem_append_left _ z)) (h p), I.hok, I.len⟩
theorem nodup_ix {N : List Str} (hN : N.Nodup) {i j : Nat} {x : Str} (a : N[i]? = some x) (b : N[j]? = some x) : i = j := by
  obtain ⟨h1, e1⟩ := List.getElem?_eq_some_iff.mp a
  obtain ⟨h2, e2⟩ := List.getElem?_eq_some_iff.mp b
  exact (List.getElem_inj hN).mp (e1.trans e2.symm)
theorem store_ok2 {M : Model} {A : Around} {E : Value → Shared → Prop} {i : Nat} {x : Str} {v : V} {u : Value} {Q : Unit → Shared → Prop} (I : Inv X pins σ H s) (hN : X.N.Nodup) (hi : X.N[i]? = some x) (hx : Loc X.env.scope x) (r : RelV v u)
    (h : ∀ s', Inv X pins (σ.set i (some v)) H s' → (∃ a, Heap.SameBut a s.heap s'.heap ∧ (a = X.env.locals ∨ X.env.cells.lookup x = some a)) → Q () s') (hf : X.fn x = true ∨ X.env.scope.names.lookup x = some .local := by first | exact .inl rfl | exact .inr rfl | assumption) : wpAny M A (storeName X.env x u) Q E s := by
  obtain ⟨m, hn, hl⟩ := id I.loc
  have hcls : (X.env.scope.kind == .class || (X.env.scope.kind == .module && X.env.locals != X.env.globals)) = false := by rw [I.ok.kind]; rfl
  have hiσ : i < σ.length := by rw [I.len]; exact (List.getElem?_eq_some_iff.mp hi).1
  have cne := I.cne
  have tracked : ∀ {a : Addr} {h' : Heap}, (∃ o, s.heap.get? a = some o ∧ H a = none) → Heap.SameBut a s.heap h' → HOk X.prog X.w H h' := fun {a h'} ha hs b ob e => by
    obtain ⟨_, _, hfree⟩ := ha
    refine (I.hok b ob e).stay (fun c w' hc q => (hs.2 c ?_).trans q) (fun _ q => q) fun _ _ q => q
    rintro rfl
    rcases hc with rfl | hc
    · rw [hfree] at e; cases e
    · rw [hfree] at hc; cases hc
  rcases hx with hk | hk
  · refine wpAny_storeName_local hk hn (fun h' hn' hs => ?_) hcls
    obtain ⟨oL, _, _, hoL, _⟩ := id hn
    refine h _ ⟨I.ok, I.os, I.bare, ⟨fun b o e n hb hx => ?_, fun b o e n hb hx => ?_, I.base.free, fun b o e hx => ?_, I.base.tups, I.base.frzs, I.base.tbls⟩, ⟨_, hn', fun j y v' e1 e2 e3 => ?_⟩, fun y c e => ?_, I.free, I.freeC, fun p hp => ?_, tracked ⟨oL, hoL, I.free⟩ hs, by simpa using I.len⟩ ⟨_, hs, .inl rfl⟩
    · exact (hs.2 b (Nat.ne_of_lt (Nat.lt_of_lt_of_le (Heap.lt_size e) I.ok.above))).trans (I.base.keep b o e n hb hx)
    · obtain ⟨sl, e1⟩ := I.base.slot b o e n hb hx
      exact ⟨sl, (hs.2 b (Nat.ne_of_lt (Nat.lt_of_lt_of_le (Heap.lt_size e) I.ok.above))).trans e1⟩
    · obtain ⟨o', e1⟩ := I.base.there b o e hx
      exact ⟨o', (hs.2 b (Nat.ne_of_lt (Nat.lt_of_lt_of_le (Heap.lt_size e) I.ok.above))).trans e1⟩
    · by_cases hj : j = i
      · subst hj
        rw [hi] at e1; cases e1
        rw [List.getElem?_set_self hiσ] at e2
        cases e2
        exact ⟨u, r, .inl ⟨hk, by simp⟩⟩
      · rw [List.getElem?_set_ne (Ne.symm hj)] at e2
        obtain ⟨u', r', q⟩ := hl j y v' e1 e2 e3
        refine ⟨u', r', ?_⟩
        rcases q with ⟨k, e⟩ | ⟨k, c, e, z⟩
        · refine .inl ⟨k, ?_⟩
          have : y ≠ x := fun e => hj (nodup_ix hN e1 (e ▸ hi))
          simp [this, e]
        · exact .inr ⟨k, c, e, z.sameBut hs (cne y c e)⟩
    · obtain ⟨w', z⟩ := I.cell y c e
      exact ⟨w', z.sameBut hs (cne y c e)⟩
    · obtain ⟨e, n, ne, nf, d⟩ := I.pin p hp
      exact ⟨(hs.2 p.1 ne).trans e, n, ne, nf, d⟩
  · have hfn : X.fn x = true := by
      rcases hf with z | z
      · exact z
      · rw [z] at hk; cases hk
    obtain ⟨c, hc⟩ := I.ok.has x (.inl hk)
    obtain ⟨w', z⟩ := I.cell x c hc
    refine wpAny_storeName_cell I.ok.kind hk hc z (fun h' hc' hs => ?_)
    obtain ⟨oc, hoc, hocd⟩ := id z
    refine h { s with heap := h' } ⟨I.ok, I.os, I.bare, ⟨fun b o e n hb hx => ?_, fun b o e n hb hx => ?_, I.base.free, fun b o e hx => ?_, I.base.tups, I.base.frzs, I.base.tbls⟩, ⟨m, hn.sameBut hs (Ne.symm (cne x c hc)), fun j y v' e1 e2 e3 => ?_⟩, fun y c' e => ?_, I.free, I.freeC, fun p hp => ?_, tracked ⟨oc, hoc, I.freeC x c hc⟩ hs, by simpa using I.len⟩ ⟨c, hs, .inr hc⟩
    · exact (hs.2 b (Nat.ne_of_lt (Nat.lt_of_lt_of_le (Heap.lt_size e) (I.ok.cab x c hfn hc)))).trans (I.base.keep b o e n hb hx)
    · obtain ⟨sl, e1⟩ := I.base.slot b o e n hb hx
      exact ⟨sl, (hs.2 b (Nat.ne_of_lt (Nat.lt_of_lt_of_le (Heap.lt_size e) (I.ok.cab x c hfn hc)))).trans e1⟩
    · obtain ⟨o', e1⟩ := I.base.there b o e hx
      exact ⟨o', (hs.2 b (Nat.ne_of_lt (Nat.lt_of_lt_of_le (Heap.lt_size e) (I.ok.cab x c hfn hc)))).trans e1⟩
    · by_cases hj : j = i
      · subst hj
        rw [hi] at e1; cases e1
        rw [List.getElem?_set_self hiσ] at e2
        cases e2
        exact ⟨u, r, .inr ⟨.inl hk, c, hc, hc'⟩⟩
      · rw [List.getElem?_set_ne (Ne.symm hj)] at e2
        obtain ⟨u', r', q⟩ := hl j y v' e1 e2 e3
        refine ⟨u', r', ?_⟩
        rcases q with q | ⟨k, c', e, z'⟩
        · exact .inl q
        · refine .inr ⟨k, c', e, z'.sameBut hs ?_⟩
          rintro rfl
          exact hj (nodup_ix hN e1 (I.ok.inj _ _ _ e hc ▸ hi))
    · by_cases hcc : c' = c
      · subst hcc; exact ⟨_, hc'⟩
      · obtain ⟨w2, z2⟩ := I.cell y c' e
        exact ⟨w2, z2.sameBut hs hcc⟩
    · obtain ⟨e, n, ne, nf, d⟩ := I.pin p hp
      refine ⟨(hs.2 p.1 ?_).trans e, n, ne, nf, d⟩
      intro q
      rw [q, hoc] at e
      have q' : oc = p.2 := Option.some.inj e
      exact d w' (by rw [← q']; exact hocd)
theorem store_ok {M : Model} {A : Around} {E : Value → Shared → Prop} {i : Nat} {x : Str} {v : V} {u : Value} {Q : Unit → Shared → Prop} (I : Inv X pins σ H s) (hN : X.N.Nodup) (hi : X.N[i]? = some x) (hx : Loc X.env.scope x) (r : RelV v u)
    (h : ∀ s', Inv X pins (σ.set i (some v)) H s' → Q () s') (hf : X.fn x = true ∨ X.env.scope.names.lookup x = some .local := by first | exact .inl rfl | exact .inr rfl | assumption) : wpAny M A (storeName X.env x u) Q E s :=
  store_ok2 I hN hi hx r (fun s' I' _ => h s' I') hf
theorem Inv.call' {s' : Shared} {ch : List Addr} (I : Inv X pins σ H s) (ho : s'.os = s.os) (u : Un (frs X.stack) ch H H' s.heap s'.heap) (hok : HOk X.prog X.w H' s'.heap) (hg : AllBare s'.gens)
    (hch : ∀ b ∈ ch, (b ∈ X.ex ∨ X.s₀.heap.objs.size ≤ b) ∧ b ≠ X.env.locals ∧ (∀ x c, X.env.cells.lookup x = some c → c ≠ b) ∧ ∀ p ∈ X.pn ++ pins, p.1 ≠ b) : Inv X pins σ H' s' := by
  obtain ⟨h', g', d', t', o'⟩ := s'
  have e : o' = s.os := ho
  subst e
  exact I.call (g' := g') (t' := t') (d' := d') u hok hg hch
end
abbrev XK := Value → Option Addr → Hp → Prop
abbrev St := List (Option V)
abbrev VK := V → Hp → Prop
abbrev TE := St → Hp → VK → Prop
abbrev TT := St → Hp → (Bool → Hp → Prop) → Prop
abbrev TA := St → Hp → (List V → Hp → Prop) → Prop
structure Ends where
  nx : St → Hp → Prop
  rt : VK
  bk : St → Hp → Prop := fun _ _ => False
  ct : St → Hp → Prop := fun _ _ => False
abbrev TS := Ends → St → Hp → Prop
def EP (X : Cx) (pins : List (Addr × Obj)) (σ : St) (Q : VK) (u : Value) (s' : Shared) : Prop := ∃ v H', Inv X pins σ H' s' ∧ RelV v u ∧ Q v H'
def TP (X : Cx) (pins : List (Addr × Obj)) (σ : St) (Q : Bool → Hp → Prop) (b : Bool) (s' : Shared) : Prop := ∃ H', Inv X pins σ H' s' ∧ Q b H'
def AP (X : Cx) (pins : List (Addr × Obj)) (σ : St) (Q : List V → Hp → Prop) (us : List Value) (s' : Shared) : Prop := ∃ vs H', Inv X pins σ H' s' ∧ Vals vs us ∧ Q vs H'
def SP (X : Cx) (pins : List (Addr × Obj)) (D : Ends) (f : Flow) (s' : Shared) : Prop :=
  match f with
  | .next => ∃ σ' H', Inv X pins σ' H' s' ∧ D.nx σ' H'
  | .brk => ∃ σ' H', Inv X pins σ' H' s' ∧ D.bk σ' H'
  | .cont => ∃ σ' H', Inv X pins σ' H' s' ∧ D.ct σ' H'
  | .ret u => ∃ v σ' H', Inv X pins σ' H' s' ∧ RelV v u ∧ D.rt v H'
def PE (X : Cx) (e : Expr) (t : TE) : Prop :=
  ∀ (pins : List (Addr × Obj)) (s : Shared) (σ : St) (H : Hp) (Q : VK), Inv X pins σ H s → t σ H Q → wpAny (model X.prog X.w) X.A (eval e X.env) (EP X pins σ Q) X.xe s
def PT (X : Cx) (e : Expr) (t : TT) : Prop :=
  ∀ (pins : List (Addr × Obj)) (s : Shared) (σ : St) (H : Hp) (Q : Bool → Hp → Prop), Inv X pins σ H s → t σ H Q → wpAny (model X.prog X.w) X.A (isTrue e X.env (eval e X.env)) (TP X pins σ Q) X.xe s
def PW (X : Cx) (e : Expr) (t : TT) : Prop :=
  ∀ (whole : Sem Value) (pins : List (Addr × Obj)) (s : Shared) (σ : St) (H : Hp) (Q : Bool → Hp → Prop), Inv X pins σ H s → t σ H Q → wpAny (model X.prog X.w) X.A (isTrue e X.env whole) (TP X pins σ Q) X.xe s
theorem PW.pt {X : Cx} {e : Expr} {t : TT} (h : PW X e t) : PT X e t := h _
def PA (X : Cx) (es : List Expr) (t : TA) : Prop :=
  ∀ (pos : Pos) (pins : List (Addr × Obj)) (s : Shared) (σ : St) (H : Hp) (Q : List V → Hp → Prop), Inv X pins σ H s → t σ H Q → wpAny (model X.prog X.w) X.A (spliced (backTo pos (starEach es X.env))) (AP X pins σ Q) X.xe s
def PS (X : Cx) (st : Stmt) (t : TS) : Prop :=
  ∀ (pins : List (Addr × Obj)) (s : Shared) (σ : St) (H : Hp) (D : Ends), Inv X pins σ H s → t D σ H → wpAny (model X.prog X.w) X.A (exec st X.env) (SP X pins D) X.xe s
def PSs (X : Cx) (st : List Stmt) (t : TS) : Prop :=
  ∀ (pins : List (Addr × Obj)) (s : Shared) (σ : St) (H : Hp) (D : Ends), Inv X pins σ H s → t D σ H → wpAny (model X.prog X.w) X.A (execs st X.env) (SP X pins D) X.xe s
theorem thn {α : Type} {t : Sem α} {Q Q' : α → Shared → Prop} {M : Model} {A : Around} {E : Value → Shared → Prop} {s : Shared} (h : wpAny M A t Q E s) (hQ : ∀ a s, Q a s → Q' a s) : wpAny M A t Q' E s := wpAny_mono h hQ fun _ _ x => x
end L2
namespace L2
open PySem PySem.Spec PyProof.Rows
section
variable {X : Cx}
def tVar (i : Nat) : TE := fun σ H Q => ∃ v, σ[i]? = some (some v) ∧ Q v H
def tC (v : V) : TE := fun _ H Q => Q v H
theorem pe_var {i : Nat} {x : Str} {pos : Pos} (hN : X.N[i]? = some x) (hv : Vis X.env.scope x) (hd : (x == ("__debug__" : Str)) = false := by decide) (hcd : (x == ("__classdict__" : Str)) = false := by decide) : PE X (.Name x pos) (tVar i) := by
  intro pins s σ H Q I h
  obtain ⟨v, e, h⟩ := h
  obtain ⟨m, hn, hl⟩ := I.loc
  obtain ⟨u, r, l⟩ := hl i x v hN e hv
  have fin : EP X pins σ Q u s := ⟨v, H, I, r, h⟩
  rcases l with ⟨hk, hm⟩ | ⟨hk, c, hc, hcell⟩
  · exact wpAny_Name (wpAny_loadName_local I.ok.kind hk hn hm fin) hd
  · rcases hk with hk | hk
    · exact wpAny_Name (wpAny_loadName_cell I.ok.kind hk hc hcell fin) hd
    · exact wpAny_Name (wpAny_loadName_free I.ok.kind hk hc hcell fin hcd) hd
theorem pe_int {i j pos} : PE X (.Constant (.int i) j pos) (tC (.int i)) := fun _ _ _ H _ I h => wpAny_Constant_int ⟨.int i, H, I.tok _, ⟨_, rfl⟩, h⟩
theorem pe_bl {b j pos} : PE X (.Constant (.bool b) j pos) (tC (.bl b)) := fun _ _ _ H _ I h => Constant_bool ⟨.bl b, H, I, rfl, h⟩
theorem pe_str {x j pos} : PE X (.Constant (.str x) j pos) (tC (.str x)) := fun _ _ _ H _ I h => Calls.Constant_str ⟨.str x, H, I.tok _, ⟨_, rfl⟩, h⟩
def Gl (X : Cx) (x : Str) : Prop := X.env.kindOf x = some .globalImplicit
theorem ld_glob {E : Value → Shared → Prop} {pins : List (Addr × Obj)} {s : Shared} {σ : St} {H : Hp} {x : Str} {u : Value} {pos : Pos} {Q : Value → Shared → Prop} (I : Inv X pins σ H s) (hg : Gl X x) (hm : X.mg x = some u) (h : Q u s)
    (hd : (x == ("__debug__" : Str)) = false := by decide) : wpAny (model X.prog X.w) X.A (eval (.Name x pos) X.env) Q E s :=
  Calls.Name_function_global I.ok.kind hg (Calls.loadGlobal_global (by rw [I.ok.glob]; exact I.mod.glob.keeps I.bk) hm h) hd
theorem ld_blt {E : Value → Shared → Prop} {pins : List (Addr × Obj)} {s : Shared} {σ : St} {H : Hp} {x : Str} {u : Value} {pos : Pos} {Q : Value → Shared → Prop} (I : Inv X pins σ H s) (hg : Gl X x) (hm : X.mg x = none) (hv : bootBuiltins x = some u) (h : Q u s)
    (hn : x ≠ "__name__" := by decide) (hd : (x == ("__debug__" : Str)) = false := by decide) : wpAny (model X.prog X.w) X.A (eval (.Name x pos) X.env) Q E s := by
  obtain ⟨mb, h1, h2⟩ := I.mod.blt
  exact Calls.Name_function_global I.ok.kind hg (Calls.loadGlobal_builtin (by rw [I.ok.glob]; exact I.mod.glob.keeps I.bk) hm (by rw [I.ok.blt]; exact h1.keeps I.bk) ((h2 x hn).trans hv) h) hd
theorem pe_glob {x : Str} {v : V} {u : Value} {pos : Pos} (hg : Gl X x) (hm : X.mg x = some u) (r : RelV v u) (hd : (x == ("__debug__" : Str)) = false := by decide) : PE X (.Name x pos) (tC v) :=
  fun _ _ _ H _ I h => ld_glob I hg hm ⟨v, H, I, r, h⟩ hd
theorem pe_bltn {x : Str} {v : V} {u : Value} {pos : Pos} (hg : Gl X x) (hm : X.mg x = none) (hv : bootBuiltins x = some u) (r : RelV v u) (hn : x ≠ "__name__" := by decide) (hd : (x == ("__debug__" : Str)) = false := by decide) : PE X (.Name x pos) (tC v) :=
  fun _ _ _ H _ I h => ld_blt I hg hm hv ⟨v, H, I, r, h⟩ hn hd
variable {a b : Expr} {ta tb : TE} {pos : Pos}
variable {tA tB' : TT} {rest : List Expr}
def tAnd (t u : TT) : TT := fun σ H Q => t σ H fun c H1 => if c = true then u σ H1 Q else Q false H1
def tOr (t u : TT) : TT := fun σ H Q => t σ H fun c H1 => if c = true then Q true H1 else u σ H1 Q
def tNot (t : TT) : TT := fun σ H Q => t σ H fun c H1 => Q (!c) H1
theorem pw_and1 (ha : PT X a tA) : PW X (.BoolOp .And [a] pos) tA := by
  intro wh pins s σ H Q I h
  refine isTrue_and (thn (ha pins s σ H Q I h) fun c s1 e => ?_)
  cases c with
  | true => exact isTrue_and_nil e
  | false => exact e
theorem pw_or1 (ha : PT X a tA) : PW X (.BoolOp .Or [a] pos) tA := by
  intro wh pins s σ H Q I h
  refine isTrue_or (thn (ha pins s σ H Q I h) fun c s1 e => ?_)
  cases c with
  | false => exact isTrue_or_nil e
  | true => exact e
theorem pw_and (ha : PT X a tA) (hb : PW X (.BoolOp .And (b :: rest) pos) tB') : PW X (.BoolOp .And (a :: b :: rest) pos) (tAnd tA tB') := by
  intro wh pins s σ H Q I h
  refine isTrue_and (thn (ha pins s σ H _ I h) fun c s1 ⟨H1, I1, q1⟩ => ?_)
  cases c with
  | true => exact hb wh pins s1 σ H1 Q I1 q1
  | false => exact ⟨H1, I1, q1⟩
theorem pw_or (ha : PT X a tA) (hb : PW X (.BoolOp .Or (b :: rest) pos) tB') : PW X (.BoolOp .Or (a :: b :: rest) pos) (tOr tA tB') := by
  intro wh pins s σ H Q I h
  refine isTrue_or (thn (ha pins s σ H _ I h) fun c s1 ⟨H1, I1, q1⟩ => ?_)
  cases c with
  | true => exact ⟨H1, I1, q1⟩
  | false => exact hb wh pins s1 σ H1 Q I1 q1
theorem pt_not (ha : PT X a tA) : PT X (.UnaryOp .Not a pos) (tNot tA) := by
  intro pins s σ H Q I h
  exact isTrue_not (ha pins s σ H (fun c H1 => Q (!c) H1) I h)
def tAndV (ta tb : TE) : TE := fun σ H Q => ta σ H fun x H1 => ∃ c, x = .bl c ∧ if c = true then tb σ H1 Q else Q (.bl false) H1
def tOrV (ta tb : TE) : TE := fun σ H Q => ta σ H fun x H1 => ∃ c, x = .bl c ∧ if c = true then Q (.bl true) H1 else tb σ H1 Q
def tNotV (ta : TE) : TE := fun σ H Q => ta σ H fun x H1 => ∃ c, x = .bl c ∧ Q (.bl (!c)) H1
theorem pe_one {op} {t : TE} (h : PE X a t) : PE X (.BoolOp op [a] pos) t := fun pins s σ H Q I hw => BoolOp_one (h pins s σ H Q I hw)
theorem pe_and (ha : PE X a ta) (hb : PE X (.BoolOp .And (b :: rest) pos) tb) : PE X (.BoolOp .And (a :: b :: rest) pos) (tAndV ta tb) := by
  intro pins s σ H Q I h
  refine BoolOp_and (thn (ha pins s σ H _ I h) fun v s1 ⟨x, H1, I1, r1, q1⟩ => ?_)
  obtain ⟨c, rfl, q1⟩ := q1
  cases r1
  refine wpAny_truthy_bool ?_
  cases c with
  | true => exact hb pins s1 σ H1 Q I1 q1
  | false => exact ⟨.bl false, H1, I1, rfl, q1⟩
theorem pe_or (ha : PE X a ta) (hb : PE X (.BoolOp .Or (b :: rest) pos) tb) : PE X (.BoolOp .Or (a :: b :: rest) pos) (tOrV ta tb) := by
  intro pins s σ H Q I h
  refine BoolOp_or (thn (ha pins s σ H _ I h) fun v s1 ⟨x, H1, I1, r1, q1⟩ => ?_)
  obtain ⟨c, rfl, q1⟩ := q1
  cases r1
  refine wpAny_truthy_bool ?_
  cases c with
  | false => exact hb pins s1 σ H1 Q I1 q1
  | true => exact ⟨.bl true, H1, I1, rfl, q1⟩
theorem pe_not (ha : PE X a ta) : PE X (.UnaryOp .Not a pos) (tNotV ta) := by
  intro pins s σ H Q I h
  refine UnaryOp_ (thn (ha pins s σ H _ I h) fun v s1 ⟨x, H1, I1, r1, q1⟩ => ?_)
  obtain ⟨c, rfl, q1⟩ := q1
  cases r1
  exact not_of (wpAny_truthy_bool ⟨.bl (!c), H1, I1, rfl, q1⟩)
def tIf (t : TT) (ta tb : TE) : TE := fun σ H Q => t σ H fun c H1 => if c = true then ta σ H1 Q else tb σ H1 Q
theorem pe_ifExp {c : Expr} (hc : PT X c tA) (ha : PE X a ta) (hb : PE X b tb) : PE X (.IfExp c a b pos) (tIf tA ta tb) := by
  intro pins s σ H Q I h
  refine wpAny_IfExp (thn (hc pins s σ H _ I h) fun d s1 ⟨H1, I1, q1⟩ => ?_)
  cases d with
  | true => exact ha pins s1 σ H1 Q I1 q1
  | false => exact hb pins s1 σ H1 Q I1 q1
end
end L2
namespace L2
open PySem PySem.Spec PyProof.Rows
def SqL (K : PySem.W.Frag) (H : Hp) (a : Addr) (xs : List V) : Prop :=
  Rd H a (.lst xs) ∨
    ∃ (o : Obj) (its : Array Value) (n : Nat), K.lookup a = some o ∧ o.cls = .type "list" ∧ o.dict = none ∧ o.data = .seq its n ∧ its.size ≤ sizeLine ∧ Vals xs its.toList
def SqT (K : PySem.W.Frag) (H : Hp) (a : Addr) (xs : List V) : Prop :=
  Rd H a (.tup xs) ∨
    ∃ (o : Obj) (its : Array Value) (n : Nat), K.lookup a = some o ∧ o.cls = .type "tuple" ∧ o.data = .seq its n ∧ its.size ≤ sizeLine ∧ Vals xs its.toList
def absV : Value → Option V
  | .none => some .non
  | .bool b => some (.bl b)
  | .int i _ => some (.int i)
  | .str x _ => some (.str x)
  | .bytes b _ => some (.byt b)
  | .float b _ => some (.flt b)
  | .ref a => some (.ref a)
  | .type n => some (.ty n)
  | _ => none
theorem RelV.abs {x : V} {u : Value} (r : RelV x u) : absV u = some x := by
  cases x with
  | non => cases r; rfl
  | bl _ => cases r; rfl
  | int _ => obtain ⟨t, rfl⟩ := r; rfl
  | str _ => obtain ⟨t, rfl⟩ := r; rfl
  | byt _ => obtain ⟨t, rfl⟩ := r; rfl
  | flt _ => obtain ⟨t, rfl⟩ := r; rfl
  | ref _ => cases r; rfl
  | ty _ => cases r; rfl
theorem RelV.inj {x y : V} {u : Value} (r : RelV x u) (q : RelV y u) : x = y := Option.some.inj (r.abs.symm.trans q.abs)
theorem Vals.inj : ∀ {xs ys : List V} {us : List Value}, Vals xs us → Vals ys us → xs = ys
  | _, _, _, .nil, .nil => rfl
  | _, _, _, .cons r t, .cons r' t' => by rw [r.inj r', Vals.inj t t']
section
variable {X : Cx} {pins : List (Addr × Obj)} {σ : St} {H : Hp} {s : Shared} {a : Addr} {xs ys : List V}
theorem SqT.of {K : PySem.W.Frag} (h : H a = some (.tup xs)) : SqT K H a xs := .inl (.inl h)
theorem Inv.list (I : Inv X pins σ H s) (h : SqL X.K H a xs) : ∃ its : List Value, Vals xs its ∧ PlainL s.heap a its.toArray ∧ xs.length ≤ sizeLine := by
  rcases h with h | ⟨o, its, n, hk, hc, hd, hs, hz, r⟩
  · obtain ⟨z, its, n, r, e⟩ := h.ok I.hok
    exact ⟨its, r, ⟨_, n, e, rfl, rfl, rfl⟩, z⟩
  · refine ⟨its.toList, r, ⟨o, n, I.kIn a o hk, hc, hd, by simpa using hs⟩, ?_⟩
    have e := r.length
    simp only [Array.length_toList] at e
    omega
theorem Inv.tuple (I : Inv X pins σ H s) (h : SqT X.K H a xs) : ∃ its : List Value, Vals xs its ∧ IsTup s.heap a its.toArray ∧ xs.length ≤ sizeLine := by
  rcases h with h | ⟨o, its, n, hk, hc, hs, hz, r⟩
  · obtain ⟨z, its, r, p⟩ := h.ok I.hok
    exact ⟨its, r, p, z⟩
  · refine ⟨its.toList, r, ⟨o, I.kIn a o hk, hc, n, by simpa using hs⟩, ?_⟩
    have e := r.length
    simp only [Array.length_toList] at e
    omega
theorem Inv.list_inj (I : Inv X pins σ H s) (h : SqL X.K H a xs) (h' : SqL X.K H a ys) : xs = ys := by
  obtain ⟨its, r, ⟨o, n, e, _, _, d⟩, _⟩ := I.list h
  obtain ⟨its', r', ⟨o', n', e', _, _, d'⟩, _⟩ := I.list h'
  rw [e] at e'; cases e'
  rw [d] at d'
  injection d' with d1 _
  have : its = its' := by simpa using congrArg Array.toList d1
  subst this
  exact r.inj r'
theorem Inv.tuple_inj (I : Inv X pins σ H s) (h : SqT X.K H a xs) (h' : SqT X.K H a ys) : xs = ys := by
  obtain ⟨its, r, ⟨o, e, _, n, d⟩, _⟩ := I.tuple h
  obtain ⟨its', r', ⟨o', e', _, n', d'⟩, _⟩ := I.tuple h'
  rw [e] at e'; cases e'
  rw [d] at d'
  injection d' with d1 _
  have : its = its' := by simpa using congrArg Array.toList d1
  subst this
  exact r.inj r'
end
abbrev Cx.wish (X : Cx) (E : Value → Shared → Prop) : Cx := { X with xe := E }
abbrev Cx.nox (X : Cx) : Cx := X.wish fun _ _ => False
theorem Cx.Ok.wish {X : Cx} (ok : X.Ok) (E : Value → Shared → Prop) : (X.wish E).Ok :=
  ⟨ok.mod, ok.kind, ok.glob, ok.blt, ok.above, ok.inj, ok.has, ok.cab, ok.hd, ok.frames, ok.stk, ok.exf, ok.bs, ok.bsz, ok.noex, ok.exfs, ok.funs, ok.frf⟩
theorem Cx.Ok.unwish {X : Cx} {E : Value → Shared → Prop} (ok : (X.wish E).Ok) : X.Ok :=
  ⟨ok.mod, ok.kind, ok.glob, ok.blt, ok.above, ok.inj, ok.has, ok.cab, ok.hd, ok.frames, ok.stk, ok.exf, ok.bs, ok.bsz, ok.noex, ok.exfs, ok.funs, ok.frf⟩
section
variable {X : Cx} {pins : List (Addr × Obj)} {σ : St} {H : Hp} {s : Shared} {E : Value → Shared → Prop}
theorem Inv.wish (I : Inv X pins σ H s) (E : Value → Shared → Prop) : Inv (X.wish E) pins σ H s := ⟨I.ok.wish E, I.os, I.bare, I.base, I.loc, I.cell, I.free, I.freeC, I.pin, I.hok, I.len⟩
theorem Inv.unwish (I : Inv (X.wish E) pins σ H s) : Inv X pins σ H s := ⟨I.ok.unwish, I.os, I.bare, I.base, I.loc, I.cell, I.free, I.freeC, I.pin, I.hok, I.len⟩
theorem SP.unwish {D : Ends} {f : Flow} {s' : Shared} (h : SP (X.wish E) pins D f s') : SP X pins D f s' := by
  cases f with
  | next => obtain ⟨σ', H', I, q⟩ := h; exact ⟨σ', H', I.unwish, q⟩
  | brk => obtain ⟨σ', H', I, q⟩ := h; exact ⟨σ', H', I.unwish, q⟩
  | cont => obtain ⟨σ', H', I, q⟩ := h; exact ⟨σ', H', I.unwish, q⟩
  | ret u => obtain ⟨v, σ', H', I, r, q⟩ := h; exact ⟨v, σ', H', I.unwish, r, q⟩
theorem PSs.nox {st : List Stmt} {t : TS} (h : PSs X.nox st t) : PSs X st t := fun pins s σ H D I hw =>
  wpAny_mono (h pins s σ H D (I.wish _) hw) (fun _ _ q => q.unwish) fun _ _ z => False.elim z
end
section
variable {X : Cx} {st : Stmt} {rest : List Stmt} {t u : TS} {e : Expr} {te : TE} {pos : Pos}
def tNext : TS := fun D σ H => D.nx σ H
def tSeq (t u : TS) : TS := fun D σ H => t { D with nx := u D } σ H
theorem pss_nil : PSs X [] tNext := fun _ _ σ H _ I h => wpAny_execs_nil ⟨σ, H, I, h⟩
theorem pss_cons (h1 : PS X st t) (h2 : PSs X rest u) : PSs X (st :: rest) (tSeq t u) := by
  intro pins s σ H D I h
  refine wpAny_execs_cons (thn (h1 pins s σ H { D with nx := u D } I h) fun f s1 q => ?_)
  cases f with
  | next =>
    obtain ⟨σ', H', I', q⟩ := q
    exact h2 pins s1 σ' H' D I' q
  | ret v => exact q
  | brk => exact q
  | cont => exact q
theorem pss_one (h1 : PS X st t) : PSs X [st] t := by
  intro pins s σ H D I h
  refine wpAny_execs_cons (thn (h1 pins s σ H D I h) fun f s1 q => ?_)
  cases f with
  | next => exact wpAny_execs_nil q
  | ret v => exact q
  | brk => exact q
  | cont => exact q
theorem Inv.quiet {pins : List (Addr × Obj)} {σ : St} {H : Hp} {s : Shared} (I : Inv X pins σ H s) : interactive X.env = false := by simp [interactive, I.ok.kind]
def tDrop (te : TE) : TS := fun D σ H => te σ H fun _ H1 => D.nx σ H1
theorem ps_expr (he : PE X e te) (hs : swapsWith e none pos.line X.env = pure false := by rfl) : PS X (.Expr e pos) (tDrop te) := by
  intro pins s σ H D I h
  exact wpAny_Expr_any (thn (he pins s σ H _ I h) fun v s1 ⟨x, H1, I1, r1, q1⟩ => ⟨σ, H1, I1, q1⟩) I.quiet hs
def tRet (te : TE) : TS := fun D σ H => te σ H D.rt
theorem ps_ret (he : PE X e te) : PS X (.Return (some e) pos) (tRet te) := by
  intro pins s σ H D I h
  exact wpAny_Return_some (thn (he pins s σ H _ I h) fun v s1 ⟨x, H1, I1, r1, q1⟩ => ⟨x, σ, H1, I1, r1, q1⟩)
def tIfS (c : TT) (t u : TS) : TS := fun D σ H => c σ H fun b H1 => if b = true then t D σ H1 else u D σ H1
theorem ps_if {c : Expr} {a b : List Stmt} {tc : TT} (hc : PT X c tc) (ha : PSs X a t) (hb : PSs X b u) : PS X (.If c a b pos) (tIfS tc t u) := by
  intro pins s σ H D I h
  refine wpAny_If (thn (hc pins s σ H _ I h) fun d s1 ⟨H1, I1, q1⟩ => ?_)
  cases d with
  | true => exact ha pins s1 σ H1 D I1 q1
  | false => exact hb pins s1 σ H1 D I1 q1
end
abbrev TG := V → St → Hp → (St → Hp → Prop) → Prop
abbrev TGs := List V → St → Hp → (St → Hp → Prop) → Prop
def PG (X : Cx) (target : Expr) (t : TG) : Prop :=
  ∀ (pins : List (Addr × Obj)) (s : Shared) (σ : St) (H : Hp) (v : V) (u : Value) (Q : St → Hp → Prop), Inv X pins σ H s → RelV v u → t v σ H Q →
    wpAny (model X.prog X.w) X.A (assign target X.env u) (fun _ s' => ∃ σ' H', Inv X pins σ' H' s' ∧ Q σ' H') X.xe s
def PGs (X : Cx) (ts : List Expr) (t : TGs) : Prop :=
  ∀ (pins : List (Addr × Obj)) (s : Shared) (σ : St) (H : Hp) (vs : List V) (us : List Value) (Q : St → Hp → Prop), Inv X pins σ H s → Vals vs us → t vs σ H Q →
    wpAny (model X.prog X.w) X.A (assignInOrder ((assignEach ts X.env).map (·.2)) us) (fun _ s' => ∃ σ' H', Inv X pins σ' H' s' ∧ Q σ' H') X.xe s
section
variable {X : Cx} {pos : Pos}
def gName (i : Nat) : TG := fun v σ H Q => Q (σ.set i (some v)) H
theorem pg_name {i : Nat} {x : Str} (hN : X.N.Nodup) (hi : X.N[i]? = some x) (hx : Loc X.env.scope x) (hf : X.fn x = true ∨ X.env.scope.names.lookup x = some .local := by first | exact .inl rfl | exact .inr rfl | assumption) : PG X (.Name x pos) (gName i) := by
  intro pins s σ H v u Q I r h
  exact wpAny_assign_Name (store_ok I hN hi hx r (fun s' I' => ⟨_, H, I', h⟩) hf)
def tAsg (te : TE) (g : TG) : TS := fun D σ H => te σ H fun x H1 => g x σ H1 D.nx
theorem ps_set {i : Nat} {x : Str} {e : Expr} {te : TE} {pos' : Pos} (hN : X.N.Nodup) (hi : X.N[i]? = some x) (hx : Loc X.env.scope x) (he : PE X e te) (hs : swapsWith e (some (.Name x pos')) pos.line X.env = pure false := by rfl) (hf : X.fn x = true ∨ X.env.scope.names.lookup x = some .local := by first | exact .inl rfl | exact .inr rfl | assumption) :
    PS X (.Assign [.Name x pos'] e pos) (tAsg te (gName i)) := by
  intro pins s σ H D I h
  refine wpAny_Assign_Name (thn (he pins s σ H _ I h) fun v s1 ⟨y, H1, I1, r1, q1⟩ => ?_) hs
  exact store_ok I1 hN hi hx r1 (fun s2 I2 => ⟨_, H1, I2, q1⟩) hf
end
section
variable {X : Cx} {pos : Pos}
end
structure It where
  go : Nat → Hp → Prop
  yld : Nat → Hp → V → Hp → Prop
  stop : Nat → Hp → Prop
def FpOk (X : Cx) (pins : List (Addr × Obj)) (H : Hp) (b : Addr) : Prop :=
  H b = none ∧ b ≠ X.env.locals ∧ b ∉ X.fs ∧ (b ∈ X.ex ∨ X.s₀.heap.objs.size ≤ b) ∧ (∀ x c, X.env.cells.lookup x = some c → c ≠ b) ∧ ∀ p ∈ X.pn ++ pins, p.1 ≠ b
theorem Inv.fpOk {X : Cx} {pins : List (Addr × Obj)} {σ : St} {H H' : Hp} {s : Shared} {b : Addr} (I : Inv X pins σ H s) (hb : s.heap.objs.size ≤ b) (hn : H' b = none) : FpOk X pins H' b := by
  refine ⟨hn, Nat.ne_of_gt (Nat.lt_of_lt_of_le I.lt hb), I.nofs hb, .inr (Nat.le_trans I.sz hb), fun x c e z => ?_, fun p hp z => ?_⟩
  · obtain ⟨v, q⟩ := I.cell x c e
    exact absurd (Nat.lt_of_lt_of_le q.lt (by rw [z]; exact hb)) (Nat.lt_irrefl _)
  · exact absurd (Nat.lt_of_lt_of_le (Heap.lt_size (I.pin p hp).1) (by rw [z]; exact hb)) (Nat.lt_irrefl _)
structure Turn (P : Program) (w : World) (K : PySem.W.Frag) (tg : Expr) (J : It) (fp : List Addr) (it : Addr) (tn : Nat → Heap → Prop) : Prop where
  mem : it ∈ fp
  obj : ∀ i h, tn i h → ∀ b ∈ fp, ∃ o, h.get? b = some o ∧ ∀ v, o.data ≠ .cell v
  keep : ∀ i h h', tn i h → (∀ b ∈ fp, ∀ o, h.get? b = some o → h'.get? b = some o) → tn i h'
  item : ∀ (X : Cx), X.prog = P → X.w = w → X.K = K → X.calm = true → ∀ (i : Nat) (pins : List (Addr × Obj)) (s : Shared) (σ : St) (H : Hp) (E : Value → Shared → Prop), Inv X pins σ H s → (∀ b ∈ fp, FpOk X pins H b) → tn i s.heap → J.go i H →
    wpAny (model P w) X.A (pyNext (.ref it)) (fun r s1 => ∃ u, r = some u ∧
      wpAny (model P w) X.A (letOwnedTupleGo tg (.ref it) u) (fun _ s2 => ∃ x H', Inv X pins σ H' s2 ∧ RelV x u ∧ J.yld i H x H' ∧ tn (i + 1) s2.heap ∧ ∀ b ∈ fp, H' b = none) E s1) E s
  done : ∀ (X : Cx), X.prog = P → X.w = w → X.K = K → X.calm = true → ∀ (i : Nat) (pins : List (Addr × Obj)) (s : Shared) (σ : St) (H : Hp) (E : Value → Shared → Prop), Inv X pins σ H s → (∀ b ∈ fp, FpOk X pins H b) → tn i s.heap → J.stop i H →
    wpAny (model P w) X.A (pyNext (.ref it)) (fun r s1 => r = none ∧ Inv X pins σ H s1) E s
  self : ∀ (A : Around) (i : Nat) (s : Shared) (Q : Value → Shared → Prop) (E : Value → Shared → Prop), tn i s.heap → Q (.ref it) s → wpAny (model P w) A (pyIter (.ref it)) Q E s
abbrev TI := St → Hp → (It → Hp → Prop) → Prop
def PIE (X : Cx) (pins : List (Addr × Obj)) (σ : St) (tg : Expr) (R : It → Hp → Prop) (itv : Value) (s2 : Shared) : Prop :=
  ∃ (it : Addr) (fp : List Addr) (tn : Nat → Heap → Prop) (J : It) (H' : Hp), itv = .ref it ∧ Inv X pins σ H' s2 ∧ Turn X.prog X.w X.K tg J fp it tn ∧ tn 0 s2.heap ∧ (∀ b ∈ fp, FpOk X pins H' b) ∧ R J H'
def PI (X : Cx) (tg iter : Expr) (wi : TI) : Prop :=
  ∀ (pins : List (Addr × Obj)) (s : Shared) (σ : St) (H : Hp) (R : It → Hp → Prop), Inv X pins σ H s → wi σ H R →
    wpAny (model X.prog X.w) X.A (eval iter X.env) (fun v s1 => wpAny (model X.prog X.w) X.A (pyIter v) (PIE X pins σ tg R) X.xe s1) X.xe s
theorem go_of {M : Model} {A : Around} {E : Value → Shared → Prop} {s : Shared} {tg : Expr} {it : Addr} {u : Value} {o : Obj} {n : String} {vs : Array Value} {Q : Unit → Shared → Prop} (ho : s.heap.get? it = some o) (hc : o.cls = .type n) (hd : o.data = .fields vs)
    (hn : ["enumerate", "zip", "dict_itemiterator", "dict_reverseitemiterator", "odict_iterator", "itertools.zip_longest", "itertools.pairwise"].contains n = false) (hQ : Q () s) : wpAny M A (letOwnedTupleGo tg (.ref it) u) Q E s := by
  unfold letOwnedTupleGo
  cases tg <;> first
    | exact wpAny_pure hQ
    | (cases u <;> first
        | exact wpAny_pure hQ
        | (refine wpAny_bind (wpAny_load ho ?_)
           rw [hc, hd]
           show wpAny M A (if (["enumerate", "zip", "dict_itemiterator", "dict_reverseitemiterator", "odict_iterator", "itertools.zip_longest", "itertools.pairwise"].contains n && vs[0]? == some (rawInt _)) = true then _ else _) Q E s
           rw [if_neg (by intro h; rw [hn, Bool.false_and] at h; cases h)]
           exact wpAny_pure hQ))
def Itl (K : PySem.W.Frag) (a : Addr) : It :=
  ⟨fun i H => ∃ xs x, SqL K H a xs ∧ xs[i]? = some x, fun i H x H' => H' = H ∧ ∀ xs, SqL K H a xs → xs[i]? = some x, fun i H => ∃ xs, SqL K H a xs ∧ xs.length ≤ i⟩
def Itt (K : PySem.W.Frag) (a : Addr) : It :=
  ⟨fun i H => ∃ xs x, SqT K H a xs ∧ xs[i]? = some x, fun i H x H' => H' = H ∧ ∀ xs, SqT K H a xs → xs[i]? = some x, fun i H => ∃ xs, SqT K H a xs ∧ xs.length ≤ i⟩
def Itr (lo : Int) (n : Nat) : It := ⟨fun i _ => i < n, fun i H x H' => H' = H ∧ x = .int (lo + i), fun i _ => n ≤ i⟩
theorem turn_list {P : Program} {w : World} {K : PySem.W.Frag} {tg : Expr} (a it : Addr) : Turn P w K tg (Itl K a) [it] it (fun i h => h.IsListIter it a i) where
  mem := by simp
  obj := fun i h st b hb => by
    have e : b = it := by simpa using hb
    subst e
    obtain ⟨o, e, c, d⟩ := st
    exact ⟨o, e, fun v z => by rw [d] at z; cases z⟩
  keep := fun i h h' st k => st.at fun o e => k it (by simp) o e
  item := by
    intro X hP hw hK hc i pins s σ H E I hf st hg
    subst hP hw hK
    obtain ⟨xs, x, hq, hx⟩ := hg
    obtain ⟨its, rv, p, hz⟩ := I.list hq
    obtain ⟨u, hu, ru⟩ := rv.get hx
    obtain ⟨f0, f1, f2, f3, f4, f5⟩ := hf it (by simp)
    refine wpAny_pyNext_list_item st p.isList (x := u) (by simpa using hu) fun h' st' sb => ?_
    have I1 : Inv X pins σ H { s with heap := h' } := I.turned (t' := s.toks) (fun b o hb e => (sb.2 b hb).trans e) f0 f1 f3 f4 f5
    obtain ⟨o, e, c, d⟩ := id st'
    exact ⟨u, rfl, go_of (s := { s with heap := h' }) e c d (by decide) ⟨x, H, I1, ru, ⟨rfl, fun ys hy => by rw [I.list_inj hy hq]; exact hx⟩, st', fun b hb => (hf b hb).1⟩⟩
  done := by
    intro X hP hw hK hc i pins s σ H E I hf st hg
    subst hP hw hK
    obtain ⟨xs, hq, hx⟩ := hg
    obtain ⟨its, rv, p, hz⟩ := I.list hq
    obtain ⟨f0, f1, f2, f3, f4, f5⟩ := hf it (by simp)
    have hl := rv.length
    exact wpAny_pyNext_list_end (I.ok.hd hc) st p.isList (by simp; omega) fun h' eb => ⟨rfl, I.turned (t' := s.toks) (fun b o hb e => eb b o hb e) f0 f1 f3 f4 f5⟩
  self := fun _ _ _ _ _ st h => wpAny_pyIter_listiter st h
theorem turn_tuple {P : Program} {w : World} {K : PySem.W.Frag} {tg : Expr} (a it : Addr) : Turn P w K tg (Itt K a) [it] it (fun i h => h.IsTupleIter it a i) where
  mem := by simp
  obj := fun i h st b hb => by
    have e : b = it := by simpa using hb
    subst e
    obtain ⟨o, e, c, d⟩ := st
    exact ⟨o, e, fun v z => by rw [d] at z; cases z⟩
  keep := fun i h h' st k => st.at fun o e => k it (by simp) o e
  item := by
    intro X hP hw hK hc i pins s σ H E I hf st hg
    subst hP hw hK
    obtain ⟨xs, x, hq, hx⟩ := hg
    obtain ⟨its, rv, p, hz⟩ := I.tuple hq
    obtain ⟨u, hu, ru⟩ := rv.get hx
    obtain ⟨f0, f1, f2, f3, f4, f5⟩ := hf it (by simp)
    refine wpAny_pyNext_tuple_item st (show s.heap.IsTuple a its.toArray from p) (x := u) (by simpa using hu) fun h' st' sb => ?_
    have I1 : Inv X pins σ H { s with heap := h' } := I.turned (t' := s.toks) (fun b o hb e => (sb.2 b hb).trans e) f0 f1 f3 f4 f5
    obtain ⟨o, e, c, d⟩ := id st'
    exact ⟨u, rfl, go_of (s := { s with heap := h' }) e c d (by decide) ⟨x, H, I1, ru, ⟨rfl, fun ys hy => by rw [I.tuple_inj hy hq]; exact hx⟩, st', fun b hb => (hf b hb).1⟩⟩
  done := by
    intro X hP hw hK hc i pins s σ H E I hf st hg
    subst hP hw hK
    obtain ⟨xs, hq, hx⟩ := hg
    obtain ⟨its, rv, p, hz⟩ := I.tuple hq
    obtain ⟨f0, f1, f2, f3, f4, f5⟩ := hf it (by simp)
    have hl := rv.length
    exact wpAny_pyNext_tuple_end (I.ok.hd hc) st (show s.heap.IsTuple a its.toArray from p) (by simp; omega) fun h' eb => ⟨rfl, I.turned (t' := s.toks) (fun b o hb e => eb b o hb e) f0 f1 f3 f4 f5⟩
  self := fun _ _ _ _ _ st h => wpAny_pyIter_tupleiter st h
theorem turn_range {P : Program} {w : World} {K : PySem.W.Frag} {tg : Expr} (it : Addr) (lo : Int) (n : Nat) : Turn P w K tg (Itr lo n) [it] it (fun i h => IsRangeIter h it (lo + (i : Nat) * 1) ((n : Int) - (i : Nat)) 1) where
  mem := by simp
  obj := fun i h st b hb => by
    have e : b = it := by simpa using hb
    subst e
    exact ⟨_, st, fun v z => by
      have z' : Data.fields _ = Data.cell v := z
      cases z'⟩
  keep := fun i h h' st k => k it (by simp) _ st
  item := by
    intro X hP hw hK hc i pins s σ H E I hf st hg
    subst hP hw hK
    obtain ⟨f0, f1, f2, f3, f4, f5⟩ := hf it (by simp)
    have W := Walks.range (prog := X.prog) (w := X.w) (I.ok.hd hc) it lo 1 n
    refine W.item i s _ _ hg st fun v h' tk hv st' kk => ?_
    obtain ⟨t, rfl⟩ := hv
    have I1 : Inv X pins σ H { s with heap := h', toks := tk } := I.turned (fun b o hb e => kk b o (by simpa using hb) e) f0 f1 f3 f4 f5
    refine ⟨_, rfl, go_of (s := { s with heap := h', toks := tk }) (n := "range_iterator") st' rfl rfl (by decide) ⟨.int (lo + i), H, I1, ⟨t, ?_⟩, ⟨rfl, rfl⟩, st', fun b hb => (hf b hb).1⟩⟩
    rw [Int.mul_one]
  done := by
    intro X hP hw hK hc i pins s σ H E I hf st hg
    subst hP hw hK
    obtain ⟨f0, f1, f2, f3, f4, f5⟩ := hf it (by simp)
    exact wpAny_pyNext_range_end (I.ok.hd hc) st (by have : n ≤ i := hg; omega) fun h' eb => ⟨rfl, I.turned (t' := s.toks) (fun b o hb e => eb b o hb e) f0 f1 f3 f4 f5⟩
  self := fun _ _ _ _ _ st h => wpAny_pyIter_rangeiter st h
end L2
namespace L2
open PySem PySem.Spec PyProof.Rows
section
variable {X : Cx} {tg : Expr}
def iList (K : PySem.W.Frag) (tl : TE) : TI := fun σ H R => tl σ H fun x H1 => ∃ a, x = .ref a ∧ (∃ xs, SqL K H1 a xs) ∧ R (Itl K a) H1
def iTup (K : PySem.W.Frag) (tl : TE) : TI := fun σ H R => tl σ H fun x H1 => ∃ a, x = .ref a ∧ (∃ xs, SqT K H1 a xs) ∧ R (Itt K a) H1
theorem pi_list {l : Expr} {tl : TE} (hl : PE X l tl) : PI X tg l (iList X.K tl) := by
  intro pins s σ H R I h
  refine thn (hl pins s σ H _ I h) fun v s1 ⟨x, H1, I1, r1, q1⟩ => ?_
  obtain ⟨a, e, ⟨xs, hq⟩, q⟩ := q1
  subst e
  cases r1
  obtain ⟨its, rv, p, hz⟩ := I1.list hq
  refine wpAny_pyIter_list p.isList ?_
  refine ⟨s1.heap.objs.size, [s1.heap.objs.size], _, _, H1, rfl, I1.kept (t' := s1.toks) fun b o e => Heap.get?_push_of_some _ e, turn_list a _, ⟨_, Heap.get?_push_size _ rfl, rfl, rfl⟩, fun b hb => ?_, q⟩
  have e : b = s1.heap.objs.size := by simpa using hb
  subst e
  exact I1.fpOk (Nat.le_refl _) (I1.hok.fresh (Nat.le_refl _))
theorem pi_tup {l : Expr} {tl : TE} (hl : PE X l tl) : PI X tg l (iTup X.K tl) := by
  intro pins s σ H R I h
  refine thn (hl pins s σ H _ I h) fun v s1 ⟨x, H1, I1, r1, q1⟩ => ?_
  obtain ⟨a, e, ⟨xs, hq⟩, q⟩ := q1
  subst e
  cases r1
  obtain ⟨its, rv, p, hz⟩ := I1.tuple hq
  refine wpAny_pyIter_tuple (show s1.heap.IsTuple a its.toArray from p) ?_
  refine ⟨s1.heap.objs.size, [s1.heap.objs.size], _, _, H1, rfl, I1.kept (t' := s1.toks) fun b o e => Heap.get?_push_of_some _ e, turn_tuple a _, ⟨_, Heap.get?_push_size _ rfl, rfl, rfl⟩, fun b hb => ?_, q⟩
  have e : b = s1.heap.objs.size := by simpa using hb
  subst e
  exact I1.fpOk (Nat.le_refl _) (I1.hok.fresh (Nat.le_refl _))
theorem range_it {pins : List (Addr × Obj)} {σ : St} {H : Hp} {s : Shared} {R : It → Hp → Prop} {E : Value → Shared → Prop} {lo hi : Int} {t u v : Tok} {tk : Nat} (I : Inv X pins σ H s) (h1 : -(2 ^ 62) ≤ lo) (h2 : lo < 2 ^ 62) (h3 : -(2 ^ 62) ≤ hi) (h4 : hi < 2 ^ 62)
    (q : R (Itr lo (hi - lo).toNat) H) : wpAny (model X.prog X.w) X.A (pyIter (.ref s.heap.objs.size)) (PIE X pins σ tg R) E { s with heap := s.heap.push { cls := .type "range", data := .fields #[.int lo t, .int hi u, .int 1 v] }, toks := tk } := by
  refine wpAny_pyIter_range (IsRange.new ..) (small_one h1 h2 h3 h4) ?_
  have I1 : Inv X pins σ H { s with heap := s.heap.push { cls := .type "range", data := .fields #[.int lo t, .int hi u, .int 1 v] }, toks := tk } := I.kept fun b o e => Heap.get?_push_of_some _ e
  refine ⟨(s.heap.push { cls := .type "range", data := .fields #[.int lo t, .int hi u, .int 1 v] }).objs.size, [(s.heap.push { cls := .type "range", data := .fields #[.int lo t, .int hi u, .int 1 v] }).objs.size], _, _, H, rfl,
    I1.kept (t' := tk) fun b o e => Heap.get?_push_of_some _ e, turn_range _ lo (hi - lo).toNat, ?_, fun b hb => ?_, q⟩
  · have e1 : lo + ((0 : Nat) : Int) * 1 = lo := by simp
    have e2 : (((hi - lo).toNat : Nat) : Int) - ((0 : Nat) : Int) = Builtin.Range.rangeSize lo hi 1 := by rw [rangeSize_one]; split <;> omega
    show IsRangeIter _ _ (lo + ((0 : Nat) : Int) * 1) ((((hi - lo).toNat : Nat) : Int) - ((0 : Nat) : Int)) 1
    rw [e1, e2]
    exact Heap.get?_push_size _ rfl
  · have e : b = (s.heap.push { cls := .type "range", data := .fields #[.int lo t, .int hi u, .int 1 v] }).objs.size := by simpa using hb
    subst e
    exact I1.fpOk (Nat.le_refl _) (I1.hok.fresh (Nat.le_refl _))
def iRng1 (ta : TA) : TI := fun σ H R => ta σ H fun vs H1 => ∃ j : Int, vs = [.int j] ∧ -(2 ^ 62) ≤ j ∧ j < 2 ^ 62 ∧ R (Itr 0 j.toNat) H1
def iRng2 (ta : TA) : TI := fun σ H R => ta σ H fun vs H1 => ∃ i j : Int, vs = [.int i, .int j] ∧ (-(2 ^ 62) ≤ i ∧ i < 2 ^ 62 ∧ -(2 ^ 62) ≤ j ∧ j < 2 ^ 62) ∧ R (Itr i (j - i).toNat) H1
theorem pi_range1 {a : Expr} {ta : TA} {p pos : Pos} (hg : Gl X "range") (hm : X.mg "range" = none) (ha : PA X [a] ta) (hs : starEach [a] X.env = [(false, eval a X.env)] := by rfl) : PI X tg (.Call (.Name "range" p) [a] [] pos) (iRng1 ta) := by
  intro pins s σ H R I h
  refine Call_ (ld_blt I hg hm boot_range (PyProof.Rows.callWith_type1 (thn (ha pos pins s σ H _ I h) fun us s1 ⟨vs, H1, I1, r1, q1⟩ => ?_) hs rfl))
  obtain ⟨j, e, q1, q2, q⟩ := q1
  subst e
  cases r1 with
  | cons r rr =>
    cases rr
    obtain ⟨t, rfl⟩ := r
    exact call_range_1 (range_it I1 (by omega) (by omega) q1 q2 (by simpa using q))
theorem pi_range2 {a b : Expr} {ta : TA} {p pos : Pos} (hg : Gl X "range") (hm : X.mg "range" = none) (ha : PA X [a, b] ta) (hs : starEach [a, b] X.env = [(false, eval a X.env), (false, eval b X.env)] := by rfl) (hs2 : starEach [b] X.env = [(false, eval b X.env)] := by rfl) :
    PI X tg (.Call (.Name "range" p) [a, b] [] pos) (iRng2 ta) := by
  intro pins s σ H R I h
  refine Call_ (ld_blt I hg hm boot_range (PyProof.Rows.callWith_type1 (thn (ha pos pins s σ H _ I h) fun us s1 ⟨vs, H1, I1, r1, q1⟩ => ?_) (by rw [hs, hs2]) (by rw [hs2]; rfl)))
  obtain ⟨i, j, e, ⟨q1, q2, q3, q4⟩, q⟩ := q1
  subst e
  cases r1 with
  | cons r rr =>
    cases rr with
    | cons r' rr =>
      cases rr
      obtain ⟨t, rfl⟩ := r
      obtain ⟨t', rfl⟩ := r'
      exact call_range_2 (range_it I1 q1 q2 q3 q4 q)
def tFor (wi : TI) (g : TG) (tb : TS) : TS := fun D σ H => wi σ H fun J H1 => ∃ W : Nat → Nat → St → Hp → Prop, (∃ m, W 0 m σ H1) ∧ ∀ i m σ H, W i m σ H →
  (J.stop i H ∧ D.nx σ H) ∨ (J.go i H ∧ ∃ N : St → Hp → Prop, (∀ σ' H', N σ' H' → ∃ m', m' < m ∧ W (i + 1) m' σ' H') ∧ ∀ x H', J.yld i H x H' → g x σ H' fun σ2 H2 => tb { D with nx := N, ct := N, bk := D.nx } σ2 H2)
def pinsAt (fp : List Addr) (h : Heap) : List (Addr × Obj) := fp.filterMap fun b => (h.get? b).map fun o => (b, o)
theorem mem_pinsAt {fp : List Addr} {h : Heap} {b : Addr} {o : Obj} (hb : b ∈ fp) (e : h.get? b = some o) : (b, o) ∈ pinsAt fp h := List.mem_filterMap.mpr ⟨b, hb, by rw [e]; rfl⟩
theorem of_pinsAt {fp : List Addr} {h : Heap} {p : Addr × Obj} (hp : p ∈ pinsAt fp h) : p.1 ∈ fp ∧ h.get? p.1 = some p.2 := by
  obtain ⟨b, hb, e⟩ := List.mem_filterMap.mp hp
  cases q : h.get? b with
  | none => rw [q] at e; cases e
  | some o =>
    rw [q] at e
    have e' : (b, o) = p := Option.some.inj e
    subst e'
    exact ⟨hb, q⟩
theorem Inv.pinned {pins : List (Addr × Obj)} {σ : St} {H : Hp} {s : Shared} {fp : List Addr} (I : Inv X pins σ H s) (hf : ∀ b ∈ fp, FpOk X pins H b) (ho : ∀ b ∈ fp, ∃ o, s.heap.get? b = some o ∧ ∀ v, o.data ≠ .cell v) : Inv X (pins ++ pinsAt fp s.heap) σ H s :=
  I.pins_of fun p hp => (List.mem_append.mp hp).elim (fun z => I.pin p (List.mem_append_right _ z)) fun z => by
    obtain ⟨hb, e⟩ := of_pinsAt z
    obtain ⟨f0, f1, f2, _⟩ := hf p.1 hb
    obtain ⟨o, e', d⟩ := ho p.1 hb
    rw [e] at e'; cases e'
    exact ⟨e, f0, f1, f2, d⟩
theorem Inv.unpinned {pins pl : List (Addr × Obj)} {σ : St} {H : Hp} {s : Shared} (I : Inv X (pins ++ pl) σ H s) : Inv X pins σ H s := I.pins_of fun p hp => I.pin p (List.mem_append_right _ (List.mem_append_left _ hp))
theorem ps_for {iter : Expr} {body : List Stmt} {wi : TI} {g : TG} {tb : TS} {pos : Pos} (hp : PassesOwn (model X.prog X.w) X.A X.env X.xe) (hc : X.calm = true) (hi : PI X tg iter wi) (hg : PG X tg g) (hb : PSs X body tb)
    (hs : ∀ x, foldedSetIterable iter X.env x = pure x := by intro _; rfl) : PS X (.For tg iter body [] pos) (tFor wi g tb) := by
  intro pins s σ H D I h
  refine wpAny_For (thn (hi pins s σ H _ I h) fun v s1 h1 => thn h1 fun itv s2 h2 => ?_) hs
  obtain ⟨it, fp, tn, J, H2, e, I2, T, st2, f2, W, ⟨m0, w0⟩, turn⟩ := h2
  subst e
  -- what stays true of the iterator's objects through the loop
  have stat : ∀ {H' : Hp}, (∀ b ∈ fp, H' b = none) → ∀ b ∈ fp, FpOk X pins H' b := fun hn b hb => ⟨hn b hb, (f2 b hb).2⟩
  refine codeAny_forLoop_any (fun n s' => ∃ i σ' H', Inv X pins σ' H' s' ∧ tn i s'.heap ∧ (∀ b ∈ fp, H' b = none) ∧ W i n σ' H') ?_ m0 ⟨0, σ, H2, I2, st2, fun b hb => (f2 b hb).1, w0⟩
  rintro n s3 ⟨i, σ3, H3, I3, st3, fr3, w3⟩
  rcases turn i n σ3 H3 w3 with ⟨stop, qn⟩ | ⟨go, N, hN, step⟩
  · refine wpAny_passesOwn hp (thn (T.done X rfl rfl rfl hc i pins s3 σ3 H3 X.xe I3 (stat fr3) st3 stop) fun r s4 ⟨hr, I4⟩ => ?_)
    subst hr
    exact wpAny_execs_nil ⟨σ3, H3, I4, qn⟩
  · refine wpAny_passesOwn hp (thn (T.item X rfl rfl rfl hc i pins s3 σ3 H3 X.xe I3 (stat fr3) st3 go) fun r s4 ⟨u, hr, h4⟩ => ?_)
    subst hr
    refine wpAny_passesOwn hp (thn h4 fun _ s5 ⟨x, H5, I5, r5, y5, st5, fr5⟩ => ?_)
    have I5' := I5.pinned (stat fr5) (T.obj _ _ st5)
    refine wpAny_passesOwn hp (thn (hg _ s5 σ3 H5 x u _ I5' r5 (step x H5 y5)) fun _ s6 ⟨σ6, H6, I6, q6⟩ => ?_)
    refine wpAny_passesOwn hp (thn (hb _ s6 σ6 H6 _ I6 q6) fun f s7 q7 => ?_)
    have again : ∀ {σ7 : St} {H7 : Hp}, Inv X (pins ++ pinsAt fp s5.heap) σ7 H7 s7 → N σ7 H7 → ∃ m, m < n ∧ ∃ i σ' H', Inv X pins σ' H' s7 ∧ tn i s7.heap ∧ (∀ b ∈ fp, H' b = none) ∧ W i m σ' H' := fun {σ7 H7} I7 n7 => by
      obtain ⟨m', hm, w7⟩ := hN σ7 H7 n7
      refine ⟨m', hm, i + 1, σ7, H7, I7.unpinned, T.keep _ _ _ st5 fun b hb o e => (I7.pin (b, o) (List.mem_append_right _ (List.mem_append_right _ (mem_pinsAt hb e)))).1, fun b hb => ?_, w7⟩
      obtain ⟨o, e, d⟩ := T.obj _ _ st5 b hb
      exact (I7.pin (b, o) (List.mem_append_right _ (List.mem_append_right _ (mem_pinsAt hb e)))).2.1
    cases f with
    | next => obtain ⟨σ7, H7, I7, n7⟩ := q7; exact again I7 n7
    | cont => obtain ⟨σ7, H7, I7, n7⟩ := q7; exact again I7 n7
    | brk => obtain ⟨σ7, H7, I7, q7⟩ := q7; exact ⟨σ7, H7, I7.unpinned, q7⟩
    | ret v => obtain ⟨x7, σ7, H7, I7, r7, q7⟩ := q7; exact ⟨x7, σ7, H7, I7.unpinned, r7, q7⟩
end
end L2
namespace L2
open PySem PySem.Spec PyProof.Rows
abbrev R2 := V → V → Hp → VK → Prop
def OpR (X : Cx) (f : Value → Value → Sem Value) (r : R2) : Prop :=
  ∀ (pins : List (Addr × Obj)) (s : Shared) (σ : St) (H : Hp) (x y : V) (v u : Value) (Q : VK), Inv X pins σ H s → RelV x v → RelV y u → r x y H Q →
    wpAny (model X.prog X.w) X.A (f v u) (EP X pins σ Q) X.xe s
def UnR (X : Cx) (f : Value → Sem Value) (r : V → Hp → VK → Prop) : Prop :=
  ∀ (pins : List (Addr × Obj)) (s : Shared) (σ : St) (H : Hp) (x : V) (v : Value) (Q : VK), Inv X pins σ H s → RelV x v → r x H Q →
    wpAny (model X.prog X.w) X.A (f v) (EP X pins σ Q) X.xe s
def CallR (X : Cx) (f : Value) (r : List V → Hp → VK → Prop) : Prop :=
  ∀ (pins : List (Addr × Obj)) (s : Shared) (σ : St) (H : Hp) (xs : List V) (us : List Value) (Q : VK), Inv X pins σ H s → Vals xs us → r xs H Q →
    wpAny (model X.prog X.w) X.A (call f us) (EP X pins σ Q) X.xe s
def TruR (X : Cx) (r : V → Hp → (Bool → Hp → Prop) → Prop) : Prop :=
  ∀ (pins : List (Addr × Obj)) (s : Shared) (σ : St) (H : Hp) (x : V) (v : Value) (Q : Bool → Hp → Prop), Inv X pins σ H s → RelV x v → r x H Q →
    wpAny (model X.prog X.w) X.A (truthy v) (TP X pins σ Q) X.xe s
def tOp (r : R2) (ta tb : TE) : TE := fun σ H Q => ta σ H fun x H1 => tb σ H1 fun y H2 => r x y H2 Q
def tUn (r : V → Hp → VK → Prop) (ta : TE) : TE := fun σ H Q => ta σ H fun x H1 => r x H1 Q
def rI (C : Int → Int → Prop) (g : Int → Int → V) : R2 := fun x y H Q => ∃ i j, x = .int i ∧ y = .int j ∧ C i j ∧ Q (g i j) H
def rI0 (g : Int → Int → V) : R2 := fun x y H Q => ∃ i j, x = .int i ∧ y = .int j ∧ Q (g i j) H
def rU (g : Int → V) : V → Hp → VK → Prop := fun x H Q => ∃ i, x = .int i ∧ Q (g i) H
section
variable {X : Cx} {a b c : Expr} {ta tb tc : TE} {pos : Pos}
theorem binT (ha : PE X a ta) (hb : PE X b tb) {pins : List (Addr × Obj)} {s : Shared} {σ : St} {H : Hp} {R : V → V → Hp → Prop} (I : Inv X pins σ H s)
    (h : ta σ H fun x H1 => tb σ H1 fun y H2 => R x y H2) {Q : Value → Shared → Prop} {f : Value → Value → Sem Value}
    (hf : ∀ v u s2 x y H2, Inv X pins σ H2 s2 → RelV x v → RelV y u → R x y H2 → wpAny (model X.prog X.w) X.A (f v u) Q X.xe s2) :
    wpAny (model X.prog X.w) X.A (eval a X.env) (fun v s₁ => wpAny (model X.prog X.w) X.A (eval b X.env) (fun u s₂ => wpAny (model X.prog X.w) X.A (f v u) Q X.xe s₂) X.xe s₁) X.xe s := by
  refine thn (ha pins s σ H _ I h) fun v s1 ⟨x, H1, I1, r1, q1⟩ => ?_
  refine thn (hb pins s1 σ H1 _ I1 q1) fun u s2 ⟨y, H2, I2, r2, q2⟩ => ?_
  exact hf v u s2 x y H2 I2 r1 r2 q2
theorem pe_op {op : Operator} {r : R2} (ho : OpR X (binaryOp op) r) (ha : PE X a ta) (hb : PE X b tb) : PE X (.BinOp a op b pos) (tOp r ta tb) := by
  intro pins s σ H Q I h
  exact wpAny_BinOp (binT ha hb I h fun v u s2 x y H2 I2 rx ry q => ho pins s2 σ H2 x y v u Q I2 rx ry q)
theorem pe_un {op : UnaryOp} {r : V → Hp → VK → Prop} (ho : UnR X (unaryOp op) r) (ha : PE X a ta) : PE X (.UnaryOp op a pos) (tUn r ta) := by
  intro pins s σ H Q I h
  exact UnaryOp_ (thn (ha pins s σ H _ I h) fun v s1 ⟨x, H1, I1, r1, q1⟩ => ho pins s1 σ H1 x v Q I1 r1 q1)
theorem opI {f : Value → Value → Sem Value} {C : Int → Int → Prop} {g : Int → Int → Int}
    (rule : ∀ (i j : Int) (t u : Tok) (s : Shared) (Q : Value → Shared → Prop) (E : Value → Shared → Prop), C i j → Q (.int (g i j) s.toks) { s with toks := s.toks + 1 } → wpAny (model X.prog X.w) X.A (f (.int i t) (.int j u)) Q E s) :
    OpR X f (rI C fun i j => .int (g i j)) := by
  intro pins s σ H x y v u Q I rx ry h
  obtain ⟨i, j, rfl, rfl, hc, q⟩ := h
  obtain ⟨t, rfl⟩ := rx
  obtain ⟨t', rfl⟩ := ry
  exact rule i j t t' s _ _ hc ⟨.int (g i j), H, I.tok _, ⟨_, rfl⟩, q⟩
theorem opI0 {f : Value → Value → Sem Value} {g : Int → Int → Int}
    (rule : ∀ (i j : Int) (t u : Tok) (s : Shared) (Q : Value → Shared → Prop) (E : Value → Shared → Prop), Q (.int (g i j) s.toks) { s with toks := s.toks + 1 } → wpAny (model X.prog X.w) X.A (f (.int i t) (.int j u)) Q E s) :
    OpR X f (rI0 fun i j => .int (g i j)) := by
  intro pins s σ H x y v u Q I rx ry h
  obtain ⟨i, j, rfl, rfl, q⟩ := h
  obtain ⟨t, rfl⟩ := rx
  obtain ⟨t', rfl⟩ := ry
  exact rule i j t t' s _ _ ⟨.int (g i j), H, I.tok _, ⟨_, rfl⟩, q⟩
theorem opB0 {f : Value → Value → Sem Value} {g : Int → Int → Bool}
    (rule : ∀ (i j : Int) (t u : Tok) (s : Shared) (Q : Value → Shared → Prop) (E : Value → Shared → Prop), Q (.bool (g i j)) s → wpAny (model X.prog X.w) X.A (f (.int i t) (.int j u)) Q E s) :
    OpR X f (rI0 fun i j => .bl (g i j)) := by
  intro pins s σ H x y v u Q I rx ry h
  obtain ⟨i, j, rfl, rfl, q⟩ := h
  obtain ⟨t, rfl⟩ := rx
  obtain ⟨t', rfl⟩ := ry
  exact rule i j t t' s _ _ ⟨.bl (g i j), H, I, rfl, q⟩
def CDiv (i j : Int) : Prop := 0 < j ∧ j < 1073741824
def CPow (i j : Int) : Prop := 0 ≤ j ∧ j ≤ 1000000 ∧ i.natAbs < 2 ^ 64
def CMul (i j : Int) : Prop := (-(2 ^ 64) < i ∧ i < 2 ^ 64) ∨ (-(2 ^ 64) < j ∧ j < 2 ^ 64)
theorem CMul.ok {i j : Int} (h : CMul i j) : IntMulOk i j := by
  rcases h with ⟨h1, h2⟩ | ⟨h1, h2⟩
  · exact .of_left (intBits_le_64 h1 h2)
  · exact .of_right (intBits_le_64 h1 h2)
theorem op_add : OpR X (binaryOp .Add) (rI0 fun i j => .int (i + j)) := opI0 fun _ _ _ _ _ _ _ q => add_int q
theorem op_mul : OpR X (binaryOp .Mult) (rI CMul fun i j => .int (i * j)) := opI fun _ _ _ _ _ _ _ hc q => mul_int q hc.ok
theorem op_fdiv : OpR X (binaryOp .FloorDiv) (rI CDiv fun i j => .int (i / j)) := opI fun i j _ _ _ _ _ hc q => by
  have h1 : (0 : Int) < j := hc.1
  have h2 : j < 1073741824 := hc.2
  exact floordiv_int (by omega) (by rw [Int.fdiv_eq_ediv_of_nonneg i (by omega)]; exact q) (.inl (PyProof.noPylong_small (by omega)))
theorem op_mod : OpR X (binaryOp .Mod) (rI (fun _ j => 0 < j) fun i j => .int (i % j)) := opI fun i j _ _ _ _ _ hc q => by
  have h1 : (0 : Int) < j := hc
  exact mod_int' (by omega) (by rw [Int.fmod_eq_emod_of_nonneg i (by omega)]; exact q)
theorem op_pow : OpR X (binaryOp .Pow) (rI CPow fun i j => .int (i ^ j.toNat)) := opI fun _ _ _ _ _ _ _ hc q => pow_int_small hc.1 hc.2.1 hc.2.2 q
theorem unI {f : Value → Sem Value} {g : Int → Int}
    (rule : ∀ (i : Int) (t : Tok) (s : Shared) (Q : Value → Shared → Prop) (E : Value → Shared → Prop), Q (.int (g i) s.toks) { s with toks := s.toks + 1 } → wpAny (model X.prog X.w) X.A (f (.int i t)) Q E s) :
    UnR X f (rU fun i => .int (g i)) := by
  intro pins s σ H x v Q I rx h
  obtain ⟨i, rfl, q⟩ := h
  obtain ⟨t, rfl⟩ := rx
  exact rule i t s _ _ ⟨.int (g i), H, I.tok _, ⟨_, rfl⟩, q⟩
theorem un_neg : UnR X (unaryOp .USub) (rU fun i => .int (-i)) := unI fun _ _ _ _ _ q => neg_int q
end
section
variable {X : Cx} {a b c : Expr} {ta tb tc : TE} {pos : Pos}
theorem fin_bl {pins : List (Addr × Obj)} {σ : St} {H : Hp} {s : Shared} {Q : VK} {k k' : Bool} (I : Inv X pins σ H s) (q : Q (.bl k) H) (e : k = k') : EP X pins σ Q (.bool k') s := by
  subst e
  exact ⟨.bl k, H, I, rfl, q⟩
theorem op_lt : OpR X (compareOp .Lt) (rI0 fun i j => .bl (decide (i < j))) := opB0 fun _ _ _ _ _ _ _ q => lt_int q
theorem op_le : OpR X (compareOp .LtE) (rI0 fun i j => .bl (decide (i ≤ j))) := opB0 fun _ _ _ _ _ _ _ q => le_int q
theorem op_gt : OpR X (compareOp .Gt) (rI0 fun i j => .bl (decide (j < i))) := opB0 fun _ _ _ _ _ _ _ q => gt_int q
theorem op_ge : OpR X (compareOp .GtE) (rI0 fun i j => .bl (decide (j ≤ i))) := opB0 fun _ _ _ _ _ _ _ q => ge_int q
theorem op_in_str : OpR X (compareOp .In) (fun x y H Q => ∃ i j, x = .str i ∧ y = .str j ∧ Q (.bl (!(Builtin.Str.occurrences j i 0 j.length 1).isEmpty)) H) := by
  intro pins s σ H x y v u Q I rx ry h
  obtain ⟨i, j, rfl, rfl, q⟩ := h
  obtain ⟨t, rfl⟩ := rx
  obtain ⟨t', rfl⟩ := ry
  exact in_str (fin_bl I q rfl)
theorem OpR.or {f : Value → Value → Sem Value} {r r' : R2} (h : OpR X f r) (h' : OpR X f r') : OpR X f (fun x y H Q => r x y H Q ∨ r' x y H Q) := by
  intro pins s σ H x y v u Q I rx ry q
  rcases q with q | q
  · exact h pins s σ H x y v u Q I rx ry q
  · exact h' pins s σ H x y v u Q I rx ry q
theorem nomark (b : Expr) {op : CmpOp} (h : op ≠ .In := by decide) (h2 : op ≠ .NotIn := by decide) : behindInMarks op b = false := by
  have e1 : (op == CmpOp.In) = false := by cases op <;> first | rfl | exact absurd rfl h
  have e2 : (op == CmpOp.NotIn) = false := by cases op <;> first | rfl | exact absurd rfl h2
  cases b <;> simp [behindInMarks, e1, e2]
theorem pe_cmpR {op : CmpOp} {r : R2} (ho : OpR X (compareOp op) r) (ha : PE X a ta) (hb : PE X b tb) (hm : behindInMarks op b = false) : PE X (.Compare a [op] [b] pos) (tOp r ta tb) := by
  intro pins s σ H Q I h
  exact wpAny_Compare1 (binT ha hb I h fun v u s2 x y H2 I2 rx ry q => ho pins s2 σ H2 x y v u Q I2 rx ry q) hm
def tTest (t : TE) : TT := fun σ H Q => t σ H fun x H' => ∃ k, x = .bl k ∧ Q k H'
theorem pt_cmpR {op : CmpOp} {r : R2} (ho : OpR X (compareOp op) r) (ha : PE X a ta) (hb : PE X b tb) (hm : behindInMarks op b = false) : PT X (.Compare a [op] [b] pos) (tTest (tOp r ta tb)) := by
  intro pins s σ H Q I h
  refine wpAny_isTrue_Compare1 (thn (ha pins s σ H _ I h) fun v s1 ⟨x, H1, I1, r1, q1⟩ => thn (hb pins s1 σ H1 _ I1 q1) fun u s2 ⟨y, H2, I2, r2, q2⟩ =>
    thn (ho pins s2 σ H2 x y v u _ I2 r1 r2 q2) fun c s3 ⟨z, H3, I3, r3, k, e, q3⟩ => ?_) hm
  subst e
  cases r3
  exact wpAny_truthy_bool ⟨H3, I3, q3⟩
def TruV (K : PySem.W.Frag) (x : V) (H : Hp) (k : Bool) : Prop :=
  match x with
  | .non => k = false
  | .bl b => k = b
  | .int i => k = (i != 0)
  | .str y => y.length ≤ sizeLine ∧ k = ((y.length : Int) != 0)
  | .byt y => y.size ≤ sizeLine ∧ k = ((y.size : Int) != 0)
  | .ref p => (∃ xs, SqL K H p xs ∧ k = !xs.isEmpty) ∨ (∃ xs, SqT K H p xs ∧ k = !xs.isEmpty) ∨ ∃ kvs, H p = some (.dK kvs) ∧ k = !kvs.isEmpty
  | _ => False
theorem isEmpty_kv {κ : Type} {kvs : List (κ × V)} {vs : List (κ × Value)} (r : KV kvs vs) : (!vs.isEmpty) = !kvs.isEmpty := by
  cases r <;> rfl
theorem isEmpty_of {xs : List V} {its : List Value} (r : Vals xs its) : (!its.toArray.isEmpty) = !xs.isEmpty := by
  cases r <;> simp
theorem line63 : (sizeLine : Nat) < 2 ^ 63 := by rw [sizeLine_eq]; decide
theorem tru_ok : TruR X (fun x H Q => ∃ k, TruV X.K x H k ∧ Q k H) := by
  intro pins s σ H x v Q I rx h
  obtain ⟨k, e, q⟩ := h
  have hl := line63
  have hs : sizeLine = 16777216 := sizeLine_eq
  cases x with
  | non =>
    cases rx
    have e' : k = false := e
    subst e'
    exact truthy_none ⟨H, I, q⟩
  | bl b =>
    cases rx
    have e' : k = b := e
    subst e'
    exact wpAny_truthy_bool ⟨H, I, q⟩
  | int i =>
    obtain ⟨t, rfl⟩ := rx
    have e' : k = (i != 0) := e
    subst e'
    exact PySem.P.truthy_int ⟨H, I, q⟩
  | str y =>
    obtain ⟨t, rfl⟩ := rx
    obtain ⟨hy, e'⟩ : y.length ≤ sizeLine ∧ k = ((y.length : Int) != 0) := e
    subst e'
    exact PySem.P.truthy_str (by omega) ⟨H, I.tok _, q⟩
  | byt y =>
    obtain ⟨t, rfl⟩ := rx
    obtain ⟨hy, e'⟩ : y.size ≤ sizeLine ∧ k = ((y.size : Int) != 0) := e
    subst e'
    exact PySem.W.truthy_bytes (by omega) ⟨H, I.tok _, q⟩
  | ref p =>
    cases rx
    have e' : (∃ xs, SqL X.K H p xs ∧ k = !xs.isEmpty) ∨ (∃ xs, SqT X.K H p xs ∧ k = !xs.isEmpty) ∨ ∃ kvs, H p = some (.dK kvs) ∧ k = !kvs.isEmpty := e
    rcases e' with ⟨xs, hx, e'⟩ | ⟨xs, hx, e'⟩ | ⟨kvs, hx, e'⟩
    · subst e'
      obtain ⟨its, r, pl, hz⟩ := I.list hx
      have hlen := r.length
      exact wpAny_truthy_list pl.isList (by simp only [List.size_toArray]; omega) ⟨H, I.tok _, by rw [isEmpty_of r]; exact q⟩
    · subst e'
      obtain ⟨its, r, pl, hz⟩ := I.tuple hx
      have hlen := r.length
      exact truthy_tuple pl (by simp only [List.size_toArray]; omega) ⟨H, I.tok _, by rw [isEmpty_of r]; exact q⟩
    · subst e'
      obtain ⟨hz, hS, vs, r, m⟩ : kvs.length ≤ sizeLine ∧ (p == sysModules) = false ∧ ∃ vs, KV kvs vs ∧ s.heap.DictOf (mixKind X.prog X.w) p vs := I.hok p _ hx
      have hlen : kvs.length = vs.length := Paired.length r
      exact wpAny_truthy_dict hS m (by omega) ⟨H, I.tok _, by rw [isEmpty_kv r]; exact q⟩
  | _ => exact (show False from e).elim
theorem pt_truth (ha : PE X a ta) (he : ∀ whole, isTrue a X.env whole = (do let v ← whole; standAt a.pos; holding [v] (truthy v))) :
    PT X a (fun σ H Q => ta σ H fun x H' => ∃ k, TruV X.K x H' k ∧ Q k H') := by
  intro pins s σ H Q I h
  exact isTrue_plain (thn (ha pins s σ H _ I h) fun v s1 ⟨x, H1, I1, r1, q1⟩ => tru_ok pins s1 σ H1 x v Q I1 r1 q1) (he _)
theorem op_add_str : OpR X (binaryOp .Add) (fun x y H Q => ∃ i j, x = .str i ∧ y = .str j ∧ i.length + j.length ≤ sizeLine ∧ Q (.str (i ++ j)) H) := by
  intro pins s σ H x y v u Q I rx ry h
  obtain ⟨i, j, rfl, rfl, hz, q⟩ := h
  obtain ⟨t, rfl⟩ := rx
  obtain ⟨t', rfl⟩ := ry
  exact add_str (fun t' tk => ⟨.str (i ++ j), H, I.tok _, ⟨_, rfl⟩, q⟩) hz
theorem vals1 {x : V} {us : List Value} (r : Vals [x] us) : ∃ u, us = [u] ∧ RelV x u := by
  cases r with
  | cons r1 r2 => cases r2; exact ⟨_, rfl, r1⟩
theorem vals2 {x y : V} {us : List Value} (r : Vals [x, y] us) : ∃ u w', us = [u, w'] ∧ RelV x u ∧ RelV y w' := by
  cases r with
  | cons r1 r2 =>
    cases r2 with
    | cons r3 r4 => cases r4; exact ⟨_, _, rfl, r1, r3⟩
theorem call_max2 (hc : X.calm = true) : CallR X (.builtin "max") (fun xs H Q => ∃ i j, xs = [.int i, .int j] ∧ Q (.int (if j > i then j else i)) H) := by
  intro pins s σ H xs us Q I r h
  obtain ⟨i, j, rfl, q⟩ := h
  obtain ⟨u, w', rfl, ⟨t, rfl⟩, ⟨t', rfl⟩⟩ := vals2 r
  refine max_two_ints (I.ok.hd hc) fun h' tk k => ⟨_, H, I.kept k, ?_, q⟩
  by_cases hj : j > i
  · rw [if_pos hj, if_pos hj]; exact ⟨_, rfl⟩
  · rw [if_neg hj, if_neg hj]; exact ⟨_, rfl⟩
theorem call_min2 (hc : X.calm = true) : CallR X (.builtin "min") (fun xs H Q => ∃ i j, xs = [.int i, .int j] ∧ Q (.int (if j < i then j else i)) H) := by
  intro pins s σ H xs us Q I r h
  obtain ⟨i, j, rfl, q⟩ := h
  obtain ⟨u, w', rfl, ⟨t, rfl⟩, ⟨t', rfl⟩⟩ := vals2 r
  refine min_two_ints (I.ok.hd hc) fun h' tk k => ⟨_, H, I.kept k, ?_, q⟩
  by_cases hj : j < i
  · rw [if_pos hj, if_pos hj]; exact ⟨_, rfl⟩
  · rw [if_neg hj, if_neg hj]; exact ⟨_, rfl⟩
theorem call_int1 : CallR X (.type "int") (fun xs H Q => (∃ i, xs = [.int i] ∧ Q (.int i) H) ∨ ∃ k, xs = [.bl k] ∧ Q (.int (if k then 1 else 0)) H) := by
  intro pins s σ H xs us Q I r h
  rcases h with ⟨i, rfl, q⟩ | ⟨k, rfl, q⟩
  · obtain ⟨u, rfl, t, rfl⟩ := vals1 r
    exact call_int_int ⟨.int i, H, I, ⟨_, rfl⟩, q⟩
  · obtain ⟨u, rfl, r1⟩ := vals1 r
    cases r1
    exact call_int_bool ⟨.int (if k then 1 else 0), H, I.tok _, ⟨_, rfl⟩, q⟩
theorem call_str_int : CallR X (.type "str") (fun xs H Q => ∃ i, xs = [.int i] ∧ i.natAbs.log2 < 1920 ∧ Q (.str (toString i)) H) := by
  intro pins s σ H xs us Q I r h
  obtain ⟨i, rfl, hz, q⟩ := h
  obtain ⟨u, rfl, t, rfl⟩ := vals1 r
  exact PySem.P.str_of_int hz ⟨.str _, H, I.tok _, ⟨_, rfl⟩, q⟩
def LenV (K : PySem.W.Frag) (x : V) (H : Hp) (n : Nat) : Prop :=
  match x with
  | .str y => y.length ≤ sizeLine ∧ n = y.length
  | .byt y => y.size ≤ sizeLine ∧ n = y.size
  | .ref p => (∃ xs, SqL K H p xs ∧ n = xs.length) ∨ ∃ xs, SqT K H p xs ∧ n = xs.length
  | _ => False
theorem call_len : CallR X (.builtin "len") (fun xs H Q => ∃ x n, xs = [x] ∧ LenV X.K x H n ∧ Q (.int n) H) := by
  intro pins s σ H xs us Q I r h
  obtain ⟨x, n, rfl, e, q⟩ := h
  obtain ⟨u, rfl, rx⟩ := vals1 r
  have hl := line63
  have hs : sizeLine = 16777216 := sizeLine_eq
  cases x with
  | str y =>
    obtain ⟨t, rfl⟩ := rx
    obtain ⟨hy, e'⟩ : y.length ≤ sizeLine ∧ n = y.length := e
    subst e'
    exact len_str (by omega) ⟨.int _, H, I.tok _, ⟨_, rfl⟩, q⟩
  | byt y =>
    obtain ⟨t, rfl⟩ := rx
    obtain ⟨hy, e'⟩ : y.size ≤ sizeLine ∧ n = y.size := e
    subst e'
    exact PySem.W.len_bytes (by omega) ⟨.int _, H, I.tok _, ⟨_, rfl⟩, q⟩
  | ref p =>
    cases rx
    have e' : (∃ xs, SqL X.K H p xs ∧ n = xs.length) ∨ ∃ xs, SqT X.K H p xs ∧ n = xs.length := e
    rcases e' with ⟨xs, hx, e'⟩ | ⟨xs, hx, e'⟩
    · subst e'
      obtain ⟨its, r', pl, hz⟩ := I.list hx
      have hlen := r'.length
      exact Calls.call_len_list pl.isList (by simp only [List.size_toArray]; omega) ⟨.int xs.length, H, I.tok _, ⟨_, by simp only [List.size_toArray]; rw [hlen]⟩, q⟩
    · subst e'
      obtain ⟨its, r', pl, hz⟩ := I.tuple hx
      have hlen := r'.length
      exact len_tuple pl (by simp only [List.size_toArray]; omega) ⟨.int xs.length, H, I.tok _, ⟨_, by simp only [List.size_toArray]; rw [hlen]⟩, q⟩
  | _ => exact (show False from e).elim
end
end L2
namespace L2
open PySem PySem.Spec PyProof.Rows
structure ObjM (h : Heap) (x dx C : Addr) (mA : Str → Option Value) : Prop where
  obj : h.get? x = some (PySem.W.instObj C dx)
  ns : h.Ns1 dx mA
  ne : dx ≠ x
theorem lookIn_ns {h : Heap} {dx : Addr} {mA : Str → Option Value} (n : h.Ns1 dx mA) : ∃ od, h.get? dx = some od ∧ ∀ name, PySem.W.lookIn name od = some (mA name) := by
  obtain ⟨o, es, ep, ho, hd, hk, _, hm⟩ := n
  refine ⟨o, ho, fun name => ?_⟩
  have e := hm name
  unfold nsFind findBy at e
  rw [← Array.find?_toList] at e
  unfold PySem.W.lookIn
  rw [hd]
  dsimp only
  split
  · rename_i y q
    rw [q] at e
    exact congrArg some e
  · rename_i q
    rw [q] at e
    have a : es.toList.any (·.refKey) = false := by
      rw [List.any_eq_false]
      intro y hy
      obtain ⟨z, t, hkey⟩ := hk y (Array.mem_toList_iff.mp hy)
      simp [DictEntry.refKey, hkey]
    have a' : ¬ es.toList.any (·.refKey) = true := by rw [a]; exact Bool.false_ne_true
    rw [if_neg a']
    exact congrArg some e
theorem ObjM.look {h : Heap} {x dx C : Addr} {mA : Str → Option Value} (I : ObjM h x dx C mA) : ∃ od, PySem.W.InstAt h x (PySem.W.instObj C dx) C (some od) ∧ ∀ name, PySem.W.lookIn name od = some (mA name) :=
  let ⟨od, ho, hl⟩ := lookIn_ns I.ns
  ⟨od, ⟨I.obj, rfl, rfl, ho⟩, hl⟩
section
variable {prog : Program} {w : World} {A : Around} {E : Value → Shared → Prop} {s : Shared} {K : PySem.W.Frag} {x dx C f : Addr} {mA : Str → Option Value} {name : Str} {v : Value}
end
theorem RelO.some_of {v : V} {o : Option Value} (r : RelO (some v) o) : ∃ u, o = some u ∧ RelV v u := by
  cases o with
  | none => exact (show False from r).elim
  | some u => exact ⟨u, rfl, r⟩
section
variable {P : Program} {w : World} {H H' : Hp} {h h' : Heap} {a C dx : Addr} {fs fs' : List (Str × V)}
end
structure Cls (K : PySem.W.Frag) (C : Addr) : Prop where
  pg : PySem.W.plainGet K C Str.empty = true
  hd : PySem.W.hasDictIn K C = true
  po : PySem.W.plainOver K C = true
  sa : PySem.W.findIn K (.ref C) "__setattr__" = some (some (.builtin "object.__setattr__"))
theorem Cls.get {K : PySem.W.Frag} {C : Addr} (c : Cls K C) (f : Str) : PySem.W.plainGet K C f = true := c.pg
structure Con (K : PySem.W.Frag) (C : Addr) (f : Str) (v : V) (u : Value) : Prop where
  at_ : PySem.W.findIn K (.ref C) f = some (some u)
  rel : RelV v u
  get : PySem.W.specialIn K u "__get__" = some none
  cp : PySem.W.copiedNames.contains f = false
section
variable {X : Cx} {pins : List (Addr × Obj)} {σ : St} {H : Hp} {s : Shared} {a C dx : Addr} {fs : List (Str × V)} {f : Str} {v : V} {A : Around} {E : Value → Shared → Prop}
end
section
variable {X : Cx} {o e value : Expr} {f : Str} {pos pos' tpos : Pos} {ta tv : TE}
end
section
variable {X : Cx} {pins : List (Addr × Obj)} {σ : St} {H : Hp} {s : Shared} {A : Around} {E : Value → Shared → Prop} {Q : Value → Shared → Prop} {c : Value} {b : Bool}
inductive TyOf (K : PySem.W.Frag) (H : Hp) : V → Value → Prop where
  | non : TyOf K H .non (.type "NoneType")
  | bl (x : Bool) : TyOf K H (.bl x) (.type "bool")
  | int (i : Int) : TyOf K H (.int i) (.type "int")
  | str (x : Str) : TyOf K H (.str x) (.type "str")
  | flt (x : UInt64) : TyOf K H (.flt x) (.type "float")
  | lst {a : Addr} {xs : List V} (e : H a = some (.lst xs)) : TyOf K H (.ref a) (.type "list")
  | frz {a : Addr} {o : Obj} {xs : List V} (e : H a = some (.frz o (.lst xs))) : TyOf K H (.ref a) (.type "list")
  | tup {a : Addr} {xs : List V} (e : H a = some (.tup xs)) : TyOf K H (.ref a) (.type "tuple")
  | dK {a : Addr} {kvs : List (Key × V)} (e : H a = some (.dK kvs)) : TyOf K H (.ref a) (.type "dict")
  | dT {a : Addr} {kvs : List (List Key × V)} (e : H a = some (.dT kvs)) : TyOf K H (.ref a) (.type "dict")
  | ins {a C dx : Addr} {fs : List (Str × V)} (e : H a = some (.ins C dx fs)) (cl : Cls K C) (ha : PySem.W.findIn K (.ref C) "__class__" = some (some (.builtin "object.__class__")))
      (hn : PySem.W.specialIn K (.builtin "object.__class__") "__get__" = some (some (.builtin "getset_descriptor.__get__"))) (htk : PySem.W.takesIn K (.builtin "object.__class__") = some true)
      (hm : PySem.W.mroIn K C (.type "object") = some true) : TyOf K H (.ref a) (.ref C)
end
end L2
namespace L2
open PySem PySem.Spec PyProof.Rows
structure Room (k : Nat) (A : Around) : Prop where
  hd : A.handled = none
  dp : A.depth + 3 * k + 5 < recursionLimit
  un : A.units + 16 * k + 200 < cLine
theorem Room.mono {j k : Nat} {A : Around} (r : Room k A) (h : j ≤ k) : Room j A := ⟨r.hd, by have := r.dp; omega, by have := r.un; omega⟩
theorem Room.deeper {k : Nat} {A : Around} (r : Room (k + 1) A) (env : Env) : Room k (A.deeper env) :=
  ⟨r.hd, by have := r.dp; show A.depth + 1 + 3 * k + 5 < _; omega, by have := r.un; show A.units + 3 + 16 * k + 200 < _; omega⟩
theorem Room.depth {k : Nat} {A : Around} (r : Room k A) : A.depth < recursionLimit := by have := r.dp; omega
def tNil : TA := fun _ H Q => Q [] H
def tCons (ta : TE) (tr : TA) : TA := fun σ H Q => ta σ H fun x H1 => tr σ H1 fun xs H2 => Q (x :: xs) H2
section
variable {X : Cx} {e : Expr} {es : List Expr} {te : TE} {t : TA} {pos : Pos}
theorem pa_nil : PA X [] tNil := fun _ _ _ _ H Q I h => Calls.spliced_nil ⟨[], H, I, .nil, h⟩
theorem pa_cons (ha : PE X e te) (hr : PA X es t) (hs : starEach (e :: es) X.env = (false, eval e X.env) :: starEach es X.env := by rfl) : PA X (e :: es) (tCons te t) := by
  intro pos pins s σ H Q I h
  rw [hs]
  show wpAny _ _ (spliced ((false, eval e X.env) :: backTo pos (starEach es X.env))) _ _ s
  refine Calls.spliced_cons (thn (ha pins s σ H _ I h) fun u s1 ⟨x, H1, I1, r1, q1⟩ => ?_)
  exact thn (hr pos pins s1 σ H1 _ I1 q1) fun us s2 ⟨xs, H2, I2, r2, q2⟩ => ⟨x :: xs, H2, I2, .cons r1 r2, q2⟩
def tTup (t : TA) : TE := fun σ H Q => t σ H fun xs H1 => xs.length ≤ sizeLine ∧ ∀ p, H1 p = none → Q (.ref p) (upd H1 p (.tup xs))
def tLst (t : TA) : TE := fun σ H Q => t σ H fun xs H1 => xs.length ≤ sizeLine ∧ ∀ p, H1 p = none → Q (.ref p) (upd H1 p (.lst xs))
theorem pe_tup {x1} (h : PA X es t) : PE X (.Tuple es x1 pos) (tTup t) := by
  intro pins s σ H Q I hq
  refine wpAny_Tuple_spliced (thn (h pos pins s σ H _ I hq) fun us s1 ⟨xs, H1, I1, r, z, q⟩ => ⟨by rw [← r.length]; exact z, ?_⟩)
  have hf : H1 s1.heap.objs.size = none := I1.hok.fresh (Nat.le_refl _)
  refine ⟨.ref s1.heap.objs.size, upd H1 s1.heap.objs.size (.tup xs), I1.laid (t' := s1.toks) (fun b u e => Heap.get?_push_of_some _ e) (Nat.le_refl _) ?_, rfl, q _ hf⟩
  exact ⟨z, us, r, ⟨_, Heap.get?_push_size _ rfl, rfl, _, rfl⟩⟩
theorem pe_lst (h : PA X es t) : PE X (.List es pos) (tLst t) := by
  intro pins s σ H Q I hq
  refine wpAny_List_spliced (thn (h pos pins s σ H _ I hq) fun us s1 ⟨xs, H1, I1, r, z, q⟩ => ⟨by rw [← r.length]; exact z, ?_⟩)
  have hf : H1 s1.heap.objs.size = none := I1.hok.fresh (Nat.le_refl _)
  refine ⟨.ref s1.heap.objs.size, upd H1 s1.heap.objs.size (.lst xs), I1.laid (t' := s1.toks) (fun b u e => Heap.get?_push_of_some _ e) (Nat.le_refl _) ?_, rfl, q _ hf⟩
  exact ⟨z, us, 0, r, Heap.get?_push_size _ rfl⟩
end
abbrev Sp := List V → Hp → VK → XK → Prop
abbrev CXT := List Env → Hp → Shared → XK → Value → Shared → Prop
structure Env0 (P : Program) (w : World) (K : PySem.W.Frag) (mg : Str → Option Value) (base : Heap) (A : Around) (outer : List Env) (s : Shared) (H : Hp) : Prop where
  frames : A.frames = some outer
  mod : Mod K mg base
  bs : ∀ b o, base.get? b = some o → s.heap.get? b = some o ∧ H b = none
  bsz : base.objs.size ≤ s.heap.objs.size
  funs : s.heap.FunFrames base outer
  frf : ∀ b ∈ frs outer, H b = none
  hok : HOk P w H s.heap
  bare : AllBare s.gens
def CE (outer : List Env) (P : Program) (w : World) (H : Hp) (s : Shared) (Q : VK) (u : Value) (s' : Shared) : Prop :=
  ∃ v H', s'.os = s.os ∧ AllBare s'.gens ∧ Un (frs outer) [] H H' s.heap s'.heap ∧ HOk P w H' s'.heap ∧ RelV v u ∧ Q v H'
def CR (CX : CXT) (outer : List Env) (P : Program) (w : World) (H : Hp) (s : Shared) (Q : VK) (E : XK) (r : Result) (s' : Shared) : Prop :=
  match r with
  | .ok (.ret u) => CE outer P w H s Q u s'
  | .ok _ => False
  | .error e => CX outer H s E e s'
structure FnOk (P : Program) (w : World) (K : PySem.W.Frag) (mg : Str → Option Value) (base : Heap) (CX : CXT) (k : Nat) (f : Addr) (fd : FuncData) (ps : List Str) (sp : Sp) : Prop where
  len : ∀ vs H Q E, sp vs H Q E → vs.length = ps.length
  run : ∀ (A : Around) (outer : List Env) (s : Shared) (H : Hp) (args : Args) (us : List Value) (vs : List V) (Q : VK) (E : XK), Room k A → Env0 P w K mg base A outer s H → BindsTo s fd args (ps.zip us) → Vals vs us → sp vs H Q E →
    codeAny (model P w) A (.call (.ref f) args) (CR CX outer P w H s Q E) s
theorem FnOk.mono {P : Program} {w : World} {K : PySem.W.Frag} {mg : Str → Option Value} {base : Heap} {CX : CXT} {j k : Nat} {f : Addr} {fd : FuncData} {ps : List Str} {sp : Sp} (F : FnOk P w K mg base CX j f fd ps sp) (h : j ≤ k) :
    FnOk P w K mg base CX k f fd ps sp := ⟨F.len, fun A outer s H args us vs Q E hr => F.run A outer s H args us vs Q E (hr.mono h)⟩
section
variable {X : Cx} {pins : List (Addr × Obj)} {σ : St} {H : Hp} {s s' : Shared}
theorem Inv.env0 (I : Inv X pins σ H s) : Env0 X.prog X.w X.K X.mg X.base X.A X.stack s H :=
  ⟨I.ok.frames, I.ok.mod, I.bs, Nat.le_trans I.ok.bsz I.sz, I.stack, I.stkFree, I.hok, I.bare⟩
theorem Inv.after {Q : VK} {u : Value} (I : Inv X pins σ H s) (h : CE X.stack X.prog X.w H s Q u s') : EP X pins σ Q u s' := by
  obtain ⟨v, H', os, bare, un, hok, r, q⟩ := h
  obtain ⟨hh, g, d, t, os'⟩ := s'
  obtain rfl : os' = s.os := os
  exact ⟨v, H', I.call (h' := hh) (g' := g) (d' := d) (t' := t) (ch := []) un hok bare (fun b z => absurd z (by simp)), r, q⟩
end
def tCall (sp : Sp) (dvs : List V) (E : XK) (t : TA) : TE := fun σ H Q => t σ H fun vs H1 => sp (vs ++ dvs) H1 Q E
def Binds (K : PySem.W.Frag) (fd : FuncData) (ps : List Str) (ds : List Value) : Prop :=
  ∀ (s : Shared) (us : List Value), K.In s.heap → (us ++ ds).length = ps.length → BindsTo s fd ⟨us, []⟩ (ps.zip (us ++ ds))
theorem Binds.all {K : PySem.W.Frag} {fd : FuncData} {ps : List Str} (h : ∀ us : List Value, us.length = ps.length → bindArgs fd ⟨us, []⟩ = pure (ps.zip us)) : Binds K fd ps [] := fun s us _ hl => by
  rw [List.append_nil] at hl ⊢
  exact .of_eq (h us hl)
def Passes (CX : CXT) (X : Cx) (E : XK) : Prop := ∀ (pins : List (Addr × Obj)) (σ : St) (H : Hp) (s : Shared) (e : Value) (s' : Shared), Inv X pins σ H s → CX X.stack H s E e s' → X.xe e s'
section
variable {X : Cx} {CX : CXT} {k : Nat} {f C : Addr} {fd : FuncData} {ps : List Str} {sp : Sp} {dvs : List V} {ds : List Value} {E : XK} {x m : Str} {p pos apos : Pos} {e o : Expr} {es : List Expr} {ta : TE} {t : TA}
theorem run_fn {pins : List (Addr × Obj)} {σ : St} {H : Hp} {s : Shared} {Q : VK} {us : List Value} {vs : List V} (F : FnOk X.prog X.w X.K X.mg X.base CX k f fd ps sp) (hr : Room k X.A) (hb : Binds X.K fd ps ds) (hd : Vals dvs ds) (hx : Passes CX X E)
    (I : Inv X pins σ H s) (r : Vals vs us) (h : sp (vs ++ dvs) H Q E) : wpAny (model X.prog X.w) X.A (call (.ref f) us) (EP X pins σ Q) X.xe s := by
  have r2 : Vals (vs ++ dvs) (us ++ ds) := r.append hd
  have hl : (us ++ ds).length = ps.length := by rw [← r2.length]; exact F.len _ _ _ _ h
  refine wpAny_call (codeAny_mono (F.run X.A X.stack s H ⟨us, []⟩ (us ++ ds) (vs ++ dvs) Q E hr I.env0 (hb s us I.kIn hl) r2 h) fun r s' hq => ?_)
  cases r with
  | error e => exact hx pins σ H s e s' I hq
  | ok fl =>
    cases fl with
    | ret u => exact I.after hq
    | next => exact False.elim hq
    | brk => exact False.elim hq
    | cont => exact False.elim hq
theorem pe_call (F : FnOk X.prog X.w X.K X.mg X.base CX k f fd ps sp) (hr : Room k X.A) (hg : Gl X x) (hm : X.mg x = some (.ref f)) (hk : PySem.W.keepIn X.K (.ref f) = true) (hb : Binds X.K fd ps ds) (hd : Vals dvs ds) (hx : Passes CX X E)
    (ha : PA X (e :: es) t) (hdb : (x == ("__debug__" : Str)) = false := by decide) (he : starEach (e :: es) X.env = (false, eval e X.env) :: starEach es X.env := by rfl) (hpl : (backTo pos (starEach es X.env)).any (·.1) = false := by rfl) :
    PE X (.Call (.Name x p) (e :: es) [] pos) (tCall sp dvs E t) := by
  intro pins s σ H Q I h
  refine wpAny_Call_Name_kw (ld_glob I hg hm ?_ hdb)
  refine PySem.W.callWith_K (h₀ := X.base) I.ok.mod.kin hk (thn (ha pos pins s σ H _ I h) fun us s1 ⟨vs, H1, I1, r, q⟩ => ⟨I1.kIn, ?_⟩) he hpl
  exact run_fn F hr hb hd hx I1 r q
theorem pe_call0 (F : FnOk X.prog X.w X.K X.mg X.base CX k f fd ps sp) (hr : Room k X.A) (hg : Gl X x) (hm : X.mg x = some (.ref f)) (hk : PySem.W.keepIn X.K (.ref f) = true) (hb : Binds X.K fd ps ds) (hd : Vals dvs ds) (hx : Passes CX X E)
    (hdb : (x == ("__debug__" : Str)) = false := by decide) : PE X (.Call (.Name x p) [] [] pos) (tCall sp dvs E tNil) := by
  intro pins s σ H Q I h
  refine wpAny_Call_Name_kw (ld_glob I hg hm ?_ hdb)
  exact PySem.W.callWith_K0 I.kIn hk (run_fn (us := []) F hr hb hd hx I .nil h)
end
section
variable {X : Cx} {CX : CXT} {k : Nat} {f C : Addr} {fd : FuncData} {ps ks : List Str} {sp : Sp} {E : XK} {x m : Str} {p pos apos kpos : Pos} {e o : Expr} {es : List Expr} {kws : List Keyword} {te ta : TE} {t tk : TA} {nm : Option Str}
structure KBinds (K : PySem.W.Frag) (fd : FuncData) (ps ks : List Str) (g : List Value → List Value → List Value) (gV : List V → List V → List V) : Prop where
  to : ∀ (s : Shared) (us ws : List Value), K.In s.heap → (g us ws).length = ps.length → BindsTo s fd ⟨us, ks.zip ws⟩ (ps.zip (g us ws))
  rel : ∀ {vs : List V} {us : List Value} {zs : List V} {ws : List Value}, Vals vs us → Vals zs ws → Vals (gV vs zs) (g us ws)
variable {g : List Value → List Value → List Value} {gV : List V → List V → List V}
end
structure FnScope (N P : List Str) (sc : Scope) : Prop where
  kind : sc.kind = .function
  co : sc.isCoroutine = false
  gen : sc.isGenerator = false
  nd : N.Nodup
  pre : N.take P.length = P
  par : ∀ x ∈ P, sc.names.lookup x = some .local ∨ sc.names.lookup x = some .cell
  nofree : ∀ y ∈ sc.names, y.2 ≠ .free
theorem bindL_out {kindOf : Str → Option NameKind} {x : Str} : ∀ {binds : List (Str × Value)} {m : Str → Option Value}, (∀ v, (x, v) ∉ binds) → bindL kindOf binds m x = m x
  | [], _, _ => rfl
  | (n, v) :: r, m, h => by
    unfold bindL
    rw [bindL_out fun w hw => h w (List.mem_cons_of_mem _ hw)]
    split
    · have : x ≠ n := by rintro rfl; exact h v List.mem_cons_self
      simp [this]
    · rfl
theorem bindC_out {kindOf : Str → Option NameKind} {x : Str} : ∀ {binds : List (Str × Value)} {m : Str → Option Value}, (∀ v, (x, v) ∉ binds) → bindC kindOf binds m x = m x
  | [], _, _ => rfl
  | (n, v) :: r, m, h => by
    unfold bindC
    rw [bindC_out fun w hw => h w (List.mem_cons_of_mem _ hw)]
    split
    · rfl
    · have : x ≠ n := by rintro rfl; exact h v List.mem_cons_self
      simp [this]
theorem bindL_get {kindOf : Str → Option NameKind} {x : Str} {v : Value} : ∀ {P : List Str} {vs : List Value} {i : Nat} {m : Str → Option Value}, P.Nodup → P[i]? = some x → vs[i]? = some v → kindOf x = some .local →
    bindL kindOf (P.zip vs) m x = some v
  | [], _, _, _, _, h, _, _ => by simp at h
  | _ :: _, [], _, _, _, _, h, _ => by simp at h
  | p :: P, w :: vs, 0, m, nd, h1, h2, hk => by
    simp at h1 h2; subst h1; subst h2
    show bindL kindOf ((p, w) :: P.zip vs) m p = _
    unfold bindL
    rw [bindL_out fun v hv => (List.nodup_cons.mp nd).1 (List.of_mem_zip hv).1, if_pos hk]
    simp
  | p :: P, w :: vs, i + 1, m, nd, h1, h2, hk => by
    show bindL kindOf ((p, w) :: P.zip vs) m x = _
    unfold bindL
    exact bindL_get (i := i) (List.nodup_cons.mp nd).2 (by simpa using h1) (by simpa using h2) hk
theorem bindC_get {kindOf : Str → Option NameKind} {x : Str} {v : Value} : ∀ {P : List Str} {vs : List Value} {i : Nat} {m : Str → Option Value}, P.Nodup → P[i]? = some x → vs[i]? = some v → kindOf x ≠ some .local →
    bindC kindOf (P.zip vs) m x = some v
  | [], _, _, _, _, h, _, _ => by simp at h
  | _ :: _, [], _, _, _, _, h, _ => by simp at h
  | p :: P, w :: vs, 0, m, nd, h1, h2, hk => by
    simp at h1 h2; subst h1; subst h2
    show bindC kindOf ((p, w) :: P.zip vs) m p = _
    unfold bindC
    rw [bindC_out fun v hv => (List.nodup_cons.mp nd).1 (List.of_mem_zip hv).1, if_neg hk]
    simp
  | p :: P, w :: vs, i + 1, m, nd, h1, h2, hk => by
    show bindC kindOf ((p, w) :: P.zip vs) m x = _
    unfold bindC
    exact bindC_get (i := i) (List.nodup_cons.mp nd).2 (by simpa using h1) (by simpa using h2) hk
def start (N : List Str) (vs : List V) : St := vs.map some ++ List.replicate (N.length - vs.length) none
def cxOf (CX : CXT) (P : Program) (w : World) (K : PySem.W.Frag) (mg : Str → Option Value) (base : Heap) (N : List Str) (qual : Str) (scope : Scope) (f : Addr) (cd : Value) (A : Around) (outer : List Env) (s : Shared) (H : Hp) (E : XK) : Cx where
  prog := P
  w := w
  K := K
  mg := mg
  base := base
  A := A.deeper (envOfC qual scope s.heap.objs.size f cd)
  N := N
  s₀ := s
  H₀ := H
  env := envOfC qual scope s.heap.objs.size f cd
  outer := outer
  stack := envOfC qual scope s.heap.objs.size f cd :: outer
  ex := []
  calm := true
  fn := fun _ => true
  pn := []
  xe := fun e s' => wpAny (model P w) (A.deeper (envOfC qual scope s.heap.objs.size f cd)) (leaving (envOfC qual scope s.heap.objs.size f cd) e) (fun _ s'' => CX outer H s E e s'') (fun e' s'' => CX outer H s E e' s'') s'
theorem cell_has {sc : Scope} {n : Nat} {x : Str} (h : sc.names.lookup x = some .cell) : ∃ c, (cellsFrom n sc.names []).lookup x = some c := by
  have q := PySem.W.cellsFrom_some sc.names n [] (.inl h)
  exact Option.isSome_iff_exists.mp q
theorem inv_start {CX : CXT} {P : Program} {w : World} {K : PySem.W.Frag} {mg : Str → Option Value} {base : Heap} {N ps : List Str} {qual : Str} {scope : Scope} {f : Addr} {cd : Value} {A : Around} {outer : List Env} {s s1 : Shared} {H : Hp} {E : XK} {us : List Value} {vs : List V}
    (S : FnScope N ps scope) (hd : A.handled = none) (e0 : Env0 P w K mg base A outer s H) (hl : vs.length = ps.length) (r : Vals vs us)
    (x : InCallC s s.heap.objs.size (bindL (envOfC qual scope s.heap.objs.size f cd).kindOf (ps.zip us) fun _ => none) (cellsFrom (s.heap.objs.size + 1) scope.names []) (bindC (envOfC qual scope s.heap.objs.size f cd).kindOf (ps.zip us) fun _ => none) s1) :
    Inv (cxOf CX P w K mg base N qual scope f cd A outer s H E) [] (start N vs) H s1 := by
  have hpl : ps.length ≤ N.length := by have := congrArg List.length S.pre; rw [List.length_take] at this; omega
  obtain ⟨h1, tk, rfl, hk⟩ := x.done
  have noA : ∀ b : Addr, b ∉ (cxOf CX P w K mg base N qual scope f cd A outer s H E).ex := fun b z => absurd (show b ∈ ([] : List Addr) from z) (by simp)
  refine ⟨⟨e0.mod, S.kind, rfl, rfl, Nat.le_refl _, fun y z c h1 h2 => ?_, fun y hy => ?_, fun y c _ h => ?_, fun _ => hd, Around.frames_deeper e0.frames, .inr ⟨rfl, rfl⟩, fun b z => absurd z (noA b), e0.bs, e0.bsz, fun b _ _ => noA b, fun b z => absurd z (noA b), e0.funs, e0.frf⟩,
    rfl, e0.bare, Un.kept hk, ⟨_, x.toInCall.ns, fun i y v h1 h2 h3 => ?_⟩, fun y c h => ⟨_, x.cell y c h⟩, e0.hok.fresh (Nat.le_refl _), fun y c h => ?_, fun p hp => absurd (show p ∈ ([] : List (Addr × Obj)) from hp) (by simp), e0.hok.kept hk, ?_⟩
  · exact name_of_addr x.apart (PySem.mem_of_lookup h1) (PySem.mem_of_lookup h2)
  · have hy : scope.names.lookup y = some .cell ∨ scope.names.lookup y = some .free := hy
    rcases hy with hy | hy
    · exact cell_has hy
    · exact absurd rfl (S.nofree _ (PySem.mem_of_lookup hy))
  · exact Nat.le_of_lt (x.above y c (PySem.mem_of_lookup h))
  · have hi : i < vs.length := by
      unfold start at h2
      by_cases hi : i < vs.length
      · exact hi
      · rw [List.getElem?_append_right (by simpa using hi)] at h2
        rw [List.getElem?_replicate] at h2
        split at h2 <;> cases h2
    have ha : vs[i]? = some v := by
      unfold start at h2
      rw [List.getElem?_append_left (by simpa using hi), List.getElem?_map] at h2
      cases e : vs[i]? with
      | none => rw [e] at h2; cases h2
      | some a => rw [e] at h2; cases h2; rfl
    obtain ⟨u, hu, rv⟩ := r.get ha
    have hp : ps[i]? = some y := by
      rw [← S.pre, List.getElem?_take_of_lt (by omega)]; exact h1
    have ndP : ps.Nodup := by rw [← S.pre]; exact S.nd.sublist (List.take_sublist _ _)
    refine ⟨u, rv, ?_⟩
    rcases S.par y (List.mem_of_getElem? hp) with k | k
    · exact .inl ⟨k, bindL_get ndP hp hu k⟩
    · obtain ⟨c, e⟩ := cell_has (n := s.heap.objs.size + 1) k
      refine .inr ⟨.inl k, c, e, ?_⟩
      have q := x.cell y c e
      rw [bindC_get ndP hp hu (by show scope.names.lookup y ≠ _; rw [k]; decide)] at q
      exact q
  · exact e0.hok.fresh (Nat.le_of_lt (x.above y c (PySem.mem_of_lookup h)))
  · unfold start
    show _ = N.length
    rw [List.length_append, List.length_map, List.length_replicate]
    omega
theorem fn_of {CX : CXT} {P : Program} {w : World} {K : PySem.W.Frag} {mg : Str → Option Value} {base : Heap} {k : Nat} {f : Addr} {name qual : Str} {params : Arguments} {body : List Stmt} {scope : Scope} {dV kV doc pm cdv ct oc : Value} {an od : Option Addr}
    {osl : Array (Option Value)} {N ps : List Str} {sp : Sp} (lk : K.lookup f = some ⟨oc, od, .func (PySem.W.fnOf name qual params body scope dV kV doc pm an cdv ct), osl⟩) (hcd : PySem.W.codeIn K cdv qual = true) (S : FnScope N ps scope)
    (len : ∀ vs H Q E, sp vs H Q E → vs.length = ps.length)
    (hbody : ∀ (A : Around) (outer : List Env) (s : Shared) (H : Hp) (vs : List V) (Q : VK) (E : XK), Room k (A.deeper (envOfC qual scope s.heap.objs.size f cdv)) → sp vs H Q E →
      ∃ t, PSs (cxOf CX P w K mg base N qual scope f cdv A outer s H E) body t ∧ t { nx := fun _ H' => Q .non H', rt := Q } (start N vs) H) :
    FnOk P w K mg base CX (k + 1) f (PySem.W.fnOf name qual params body scope dV kV doc pm an cdv ct) ps sp := by
  refine ⟨len, fun A outer s H args us vs Q E hr e0 hb r hsp => ?_⟩
  have hl := len _ _ _ _ hsp
  have KX : K.In s.heap := e0.mod.kin.keeps fun b o e => (e0.bs b o e).1
  have lim : s.heap.NoLimit := e0.mod.nolimit.keeps fun b o e => (e0.bs b o e).1
  have hkind : ∀ y ∈ ps.zip us, scope.names.lookup y.1 = some .local ∨ (scope.names.lookup y.1 = some .cell ∧ ((cellsFrom (s.heap.objs.size + 1) scope.names []).lookup y.1).isSome = true) := fun ⟨n, v⟩ hy => by
    rcases S.par n (List.of_mem_zip hy).1 with q | q
    · exact .inl q
    · exact .inr ⟨q, PySem.W.cellsFrom_some _ _ _ (.inl q)⟩
  refine codeAny_call_function hr.depth (KX _ _ lk) rfl S.co S.gen rfl (PySem.W.codeRec_of KX hcd) (hb _ _ _ _ ?_)
  refine wpAny_newFunctionEnv_cells S.kind hkind fun env he s1 x => ?_
  subst he
  refine ⟨lim.keeps x.toInCall.keep, codeAny_func ?_⟩
  obtain ⟨t, ht, hq⟩ := hbody A outer s H vs Q E (hr.deeper _) hsp
  have I : Inv (cxOf CX P w K mg base N qual scope f cdv A outer s H E) [] (start N vs) H s1 := inv_start S hr.hd e0 hl r x
  refine wpAny_mono (ht [] s1 (start N vs) H _ I hq) (fun fl s' hs => ?_) fun e s' hs => hs
  have fin : ∀ {σ' : St} {H' : Hp} {v : V} {u : Value}, Inv (cxOf CX P w K mg base N qual scope f cdv A outer s H E) [] σ' H' s' → RelV v u → Q v H' → CE outer P w H s Q u s' :=
    fun {σ' H' v u} J rv q => ⟨v, H', J.os, J.bare, J.base, J.hok, rv, q⟩
  cases fl with
  | ret u =>
    obtain ⟨v, σ', H', J, rv, q⟩ := hs
    exact fin J rv q
  | next =>
    obtain ⟨σ', H', J, q⟩ := hs
    exact fin (v := V.non) (u := Value.none) J rfl q
  | brk =>
    obtain ⟨_, _, _, q⟩ := hs
    exact False.elim q
  | cont =>
    obtain ⟨_, _, _, q⟩ := hs
    exact False.elim q
end L2
namespace L2
open PySem PySem.Spec PyProof.Rows
section
variable {X : Cx} {x : Str} {p pos : Pos} {e : Expr} {es : List Expr} {t : TA} {id T : String} {r : List V → Hp → VK → Prop}
def tCB (r : List V → Hp → VK → Prop) (t : TA) : TE := fun σ H Q => t σ H fun vs H1 => r vs H1 Q
theorem pe_callB (hc : CallR X (.builtin id) r) (hg : Gl X x) (hm : X.mg x = none) (hv : bootBuiltins x = some (.builtin id)) (ha : PA X (e :: es) t) (hn : x ≠ "__name__" := by decide) (hdb : (x == ("__debug__" : Str)) = false := by decide)
    (he : starEach (e :: es) X.env = (false, eval e X.env) :: starEach es X.env := by rfl) (hpl : (backTo pos (starEach es X.env)).any (·.1) = false := by rfl) : PE X (.Call (.Name x p) (e :: es) [] pos) (tCB r t) := by
  intro pins s σ H Q I h
  refine wpAny_Call_Name_kw (ld_blt I hg hm hv ?_ hn hdb)
  exact PyProof.Rows.callWith_builtin1 (thn (ha pos pins s σ H _ I h) fun us s1 ⟨vs, H1, I1, r1, q1⟩ => hc pins s1 σ H1 vs us Q I1 r1 q1) he hpl
theorem pe_callTy (hc : CallR X (.type T) r) (hg : Gl X x) (hm : X.mg x = none) (hv : bootBuiltins x = some (.type T)) (ha : PA X (e :: es) t) (hn : x ≠ "__name__" := by decide) (hdb : (x == ("__debug__" : Str)) = false := by decide)
    (he : starEach (e :: es) X.env = (false, eval e X.env) :: starEach es X.env := by rfl) (hpl : (backTo pos (starEach es X.env)).any (·.1) = false := by rfl) : PE X (.Call (.Name x p) (e :: es) [] pos) (tCB r t) := by
  intro pins s σ H Q I h
  refine wpAny_Call_Name_kw (ld_blt I hg hm hv ?_ hn hdb)
  exact PyProof.Rows.callWith_type1 (thn (ha pos pins s σ H _ I h) fun us s1 ⟨vs, H1, I1, r1, q1⟩ => hc pins s1 σ H1 vs us Q I1 r1 q1) he hpl
end
end L2
namespace HT
open PySem PyProof.Rows
section
open PySem.SeqAt
open PySem.AutoSeq1 (wpAny_loadPart')
open PySem.MeetsSeq PySem.MeetsSeq2 PySem.MeetsSeq3
end
section
variable {prog : Program} {w : World} {A : Around} {E : Value → Shared → Prop} {s : Shared}
theorem cat_tup {t b : Addr} {vs ws : List Value} {Q : Value → Shared → Prop} (ht : IsTup s.heap t vs.toArray) (hb : IsTup s.heap b ws.toArray) (hv : vs ≠ [])
    (h1 : ws = [] → Q (.ref t) s) (h2 : ws ≠ [] → Q (.ref s.heap.objs.size) { s with heap := s.heap.push { cls := .type "tuple", data := .seq (vs ++ ws).toArray } })
    (hsz : vs.length + ws.length ≤ sizeLine) : wpAny (model prog w) A (binaryOp .Add (.ref t) (.ref b)) Q E s := by
  obtain ⟨⟨cls, dd, data, sl⟩, ho, hc, n, hd⟩ := id ht
  obtain ⟨⟨cls2, dd2, data2, sl2⟩, ho2, hc2, n2, hd2⟩ := id hb
  simp only at hc hd hc2 hd2
  subst hc hd hc2 hd2
  have e : vs.toArray ++ ws.toArray = (vs ++ ws).toArray := by simp
  by_cases hw : ws = []
  · exact concat_meets ⟨_, ho, rfl⟩ ⟨_, ho2, rfl⟩ noFill_tuple_add seq_tuple_add PySem.F.slot_tuple_add PySem.F.entry_tuple_add (PySem.F.args_tuple_add_2 _ _)
      (tuple_addW1 t b vs.toArray ws.toArray n n2 dd dd2 sl sl2 (by simpa using hv) (by simp [hw])) ⟨ho, ho2, h1 hw⟩
  · refine concat_meets ⟨_, ho, rfl⟩ ⟨_, ho2, rfl⟩ noFill_tuple_add seq_tuple_add PySem.F.slot_tuple_add PySem.F.entry_tuple_add (PySem.F.args_tuple_add_2 _ _)
      (tuple_addW2 t b vs.toArray ws.toArray n n2 dd dd2 sl sl2 (by simpa using hv) (by simpa using hw) (by rw [List.size_toArray, List.size_toArray]; exact hsz)) ⟨ho, ho2, ?_⟩
    rw [e]
    exact h2 hw
def sIx (n d : Nat) : Option Int → Nat
  | none => d
  | some v => if v < 0 then (v + (n : Int)).toNat else min v.toNat n
theorem sIx_none (n d : Nat) : sIx n d none = d := rfl
theorem sIx_nat (n d k : Nat) : sIx n d (some (k : Int)) = min k n := by
  show (if (k : Int) < 0 then ((k : Int) + (n : Int)).toNat else min (k : Int).toNat n) = min k n
  rw [if_neg (by omega), Int.toNat_natCast]
theorem sIx_le (n d : Nat) (hd : d ≤ n) (o : Option Int) : sIx n d o ≤ n := by
  cases o with
  | none => exact hd
  | some v =>
    show (if v < 0 then (v + (n : Int)).toNat else min v.toNat n) ≤ n
    by_cases hv : v < 0
    · rw [if_pos hv]; omega
    · rw [if_neg hv]; exact Nat.min_le_right _ _
theorem clip_eq (v : Int) (n d : Nat) : (if v < 0 then max (v + (n : Int)) 0 else min v (n : Int)) = ((sIx n d (some v) : Nat) : Int) := by
  show (if v < 0 then max (v + (n : Int)) 0 else min v (n : Int)) = (((if v < 0 then (v + (n : Int)).toNat else min v.toNat n) : Nat) : Int)
  by_cases hv : v < 0
  · simp only [if_pos hv]; omega
  · simp only [if_neg hv]; omega
theorem adjust_gen (lo hi : Option Int) (n : Nat) : Builtin.Slice.sliceAdjust lo hi 1 (n : Int) = (((sIx n 0 lo : Nat) : Int), ((sIx n n hi : Nat) : Int)) := by
  have h1 : ¬ ((1 : Int) < 0) := by omega
  unfold Builtin.Slice.sliceAdjust
  simp only [h1, if_false]
  refine Prod.ext ?_ ?_
  · cases lo with
    | none => rfl
    | some v => exact clip_eq v n 0
  · cases hi with
    | none => rfl
    | some v => exact clip_eq v n n
theorem places_gen (i j : Nat) : Builtin.Slice.slicePlaces (i : Int) (j : Int) 1 = j - i := by
  unfold Builtin.Slice.slicePlaces
  have h1 : (1 : Int) > 0 := by omega
  simp only [h1, if_true, Int.ediv_one]
  split <;> omega
theorem slicePart_ {v : Value} {o : Option Int} {Q : Option Int → Shared → Prop} (p : IsPart v o) (h : Q o s) : wpAny (model prog w) A (Builtin.Slice.slicePartIndex v) Q E s := by
  cases p with
  | none => exact slicePart_none h
  | int i t => exact slicePart_int h
theorem sliceApplied_gen {sl : Addr} {vl vu : Value} {lo hi : Option Int} {n : Nat} {Q : Int × Int × Nat → Shared → Prop} (hs : s.heap.IsSliceOf sl vl vu .none) (pl : IsPart vl lo) (pu : IsPart vu hi)
    (h : Q (((sIx n 0 lo : Nat) : Int), 1, sIx n n hi - sIx n 0 lo) s) : wpAny (model prog w) A (Builtin.Slice.sliceApplied (.ref sl) (pure (n : Int))) Q E s := by
  obtain ⟨os, hos, hcs, hds⟩ := id hs
  unfold Builtin.Slice.sliceApplied Builtin.Slice.sliceFields
  refine wpAny_bind (wpAny_bind (wpAny_field hos hds (x := vl) rfl (wpAny_bind (wpAny_field hos hds (x := vu) rfl (wpAny_bind (wpAny_field hos hds (x := .none) rfl (wpAny_pure ?_)))))))
  refine wpAny_bind (slicePart_none ?_)
  show wpAny _ _ (if ((1 : Int) == 0) = true then _ else _) _ _ s
  rw [if_neg (by decide)]
  refine wpAny_bind (slicePart_ pl (wpAny_bind (slicePart_ pu (wpAny_bind (wpAny_pure ?_)))))
  show wpAny _ _ (match Builtin.Slice.sliceAdjust lo hi 1 (n : Int) with | (lo, hi) => pure (lo, (1 : Int), Builtin.Slice.slicePlaces lo hi 1)) _ _ s
  rw [adjust_gen lo hi n]
  show wpAny _ _ (pure (((sIx n 0 lo : Nat) : Int), (1 : Int), Builtin.Slice.slicePlaces ((sIx n 0 lo : Nat) : Int) ((sIx n n hi : Nat) : Int) 1)) _ _ s
  rw [places_gen]
  exact wpAny_pure h
theorem pick_gen (xs : Array Value) (i k : Nat) : ((List.range k).filterMap fun (m : Nat) => xs[((i : Int) + (m : Int) * 1).toNat]?).toArray = ((xs.toList.drop i).take k).toArray := by
  have e : (fun (m : Nat) => xs[((i : Int) + (m : Int) * 1).toNat]?) = fun m => xs[i + m]? := by
    funext m
    have : ((i : Int) + (m : Int) * 1).toNat = i + m := by omega
    rw [this]
  rw [e]
  have := pick_run xs i k
  rw [List.filterMap_map] at this
  have e2 : ((fun x => xs[x]?) ∘ fun x => i + x) = fun m => xs[i + m]? := rfl
  rw [e2] at this
  rw [this]
theorem getItem_tuple_cut {t sl : Addr} {items : Array Value} {vl vu : Value} {lo hi : Option Int} {Q : Value → Shared → Prop} (ht : IsTup s.heap t items) (hs : s.heap.IsSliceOf sl vl vu .none) (pl : IsPart vl lo) (pu : IsPart vu hi)
    (hw : ¬ (sIx items.size 0 lo = 0 ∧ sIx items.size items.size hi = items.size))
    (h : Q (.ref s.heap.objs.size) { s with heap := s.heap.push { cls := .type "tuple", data := .seq ((items.toList.drop (sIx items.size 0 lo)).take (sIx items.size items.size hi - sIx items.size 0 lo)).toArray } })
    (hsz : items.size ≤ sizeLine) : wpAny (model prog w) A (getItem (.ref t) (.ref sl)) Q E s := by
  have htake : sizeOk (.seq ((items.toList.drop (sIx items.size 0 lo)).take (sIx items.size items.size hi - sIx items.size 0 lo)).toArray) := by
    show ((items.toList.drop (sIx items.size 0 lo)).take (sIx items.size items.size hi - sIx items.size 0 lo)).toArray.size ≤ sizeLine
    rw [List.size_toArray, List.length_take, List.length_drop, Array.length_toList]
    omega
  have hj : sIx items.size items.size hi ≤ items.size := sIx_le _ _ (Nat.le_refl _) hi
  obtain ⟨os, hos, hcs, hds⟩ := id hs
  have hTs : s.TypeIs (.ref sl) "slice" := ⟨os, hos, hcs⟩
  unfold getItem
  try with_reducible refine wpAny_holding ?_
  first | refine wpAny_bind (wpAny_pure ?_) | skip
  refine wpAny_bind (wpAny_sequenceKey ht.typeIs (by decide) ?_)
  refine wpAny_bind (wpAny_callSpecial?_slot (name := Str.ofString "__getitem__") ht.typeIs PyProof.Rows.slot_tuple_getitem
    (wpAny_call_entry PyProof.Rows.slot_tuple_getitem ht.typeIs entry_tuple_getitem ?_ (args_tuple_getitem _ _)))
  show wpAny _ _ (Builtin.Tuple.tupleItemsOf (.ref t) >>= _) _ _ s
  refine wpAny_bind (tupleItemsOf_ ht ?_)
  refine wpAny_bind (wpAny_typeOf hTs ?_)
  rw [if_pos (by decide)]
  refine wpAny_bind (sliceApplied_gen hs pl pu ?_)
  have hno : ¬ ((((sIx items.size 0 lo : Nat) : Int) == 0 && (1 : Int) == 1 && (sIx items.size items.size hi - sIx items.size 0 lo) == items.size) = true) := by
    intro q
    rw [Bool.and_eq_true, Bool.and_eq_true] at q
    have q1 : ((sIx items.size 0 lo : Nat) : Int) = 0 := eq_of_beq q.1.1
    have q2 : sIx items.size items.size hi - sIx items.size 0 lo = items.size := eq_of_beq q.2
    exact hw ⟨by omega, by omega⟩
  show wpAny _ _ (if (((sIx items.size 0 lo : Nat) : Int) == 0 && (1 : Int) == 1 && (sIx items.size items.size hi - sIx items.size 0 lo) == items.size) = true then _ else _) _ _ s
  rw [if_neg hno, pick_gen]
  first
    | exact wpAny_bind (m := Builtin.Tuple.tupleExact _) (wpAny_newObj_type (wpAny_pure ⟨_, rfl, wpAny_pure h⟩) htake)
    | exact wpAny_bind (m := Builtin.Tuple.tupleExact _) (wpAny_newObj_type (wpAny_bind (wpAny_pure (wpAny_pure ⟨_, rfl, wpAny_pure h⟩))) htake)
    | exact wpAny_bind (wpAny_bind (m := Builtin.Tuple.tupleExact _) (wpAny_newObj_type (wpAny_pure (wpAny_pure ⟨_, rfl, wpAny_pure h⟩)) htake))
    | exact wpAny_bind (wpAny_bind (m := Builtin.Tuple.tupleExact _) (wpAny_newObj_type (wpAny_pure ⟨_, rfl, wpAny_pure h⟩) htake))
end
end HT
namespace L2
open PySem PySem.Spec PyProof.Rows
abbrev TO := St → Hp → (Option Int → Hp → Prop) → Prop
def PO (X : Cx) (e : Option Expr) (t : TO) : Prop :=
  ∀ (pins : List (Addr × Obj)) (s : Shared) (σ : St) (H : Hp) (Q : Option Int → Hp → Prop), Inv X pins σ H s → t σ H Q →
    wpAny (model X.prog X.w) X.A (evalPart e X.env) (fun u s' => ∃ o H', Inv X pins σ H' s' ∧ IsPart u o ∧ Q o H') X.xe s
def tNoPart : TO := fun _ H Q => Q none H
def tPart (t : TE) : TO := fun σ H Q => t σ H fun x H1 => ∃ i, x = .int i ∧ Q (some i) H1
section
variable {X : Cx} {e : Expr} {te : TE} {lo hi : Option Expr} {tl th : TO} {pos p2 : Pos}
theorem po_none : PO X none tNoPart := by
  intro pins s σ H Q I h
  rw [evalPart_none]
  exact wpAny_pure ⟨none, H, I, .none, h⟩
theorem po_some (h : PE X e te) : PO X (some e) (tPart te) := by
  intro pins s σ H Q I hw
  rw [evalPart_some]
  refine thn (h pins s σ H _ I hw) fun u s1 ⟨x, H1, I1, r1, q1⟩ => ?_
  obtain ⟨i, rfl, q⟩ := q1
  obtain ⟨t, rfl⟩ := r1
  exact ⟨some i, H1, I1, .int i t, q⟩
def SlR (X : Cx) (r : V → Option Int → Option Int → Hp → VK → Prop) : Prop :=
  ∀ (pins : List (Addr × Obj)) (s : Shared) (σ : St) (H : Hp) (x : V) (v vl vu : Value) (lo hi : Option Int) (sl : Addr) (Q : VK), Inv X pins σ H s → RelV x v → s.heap.IsSliceOf sl vl vu .none → IsPart vl lo → IsPart vu hi → r x lo hi H Q →
    ∃ T id, typeLookup (.type T) "__getitem__" = pure (some (.builtin id)) ∧ s.TypeIs v T ∧ wpAny (model X.prog X.w) X.A (getItem v (.ref sl)) (EP X pins σ Q) X.xe s
theorem SlR.or {r r' : V → Option Int → Option Int → Hp → VK → Prop} (h : SlR X r) (h' : SlR X r') : SlR X (fun x lo hi H Q => r x lo hi H Q ∨ r' x lo hi H Q) := by
  intro pins s σ H x v vl vu lo hi sl Q I rx hs pl pu q
  rcases q with q | q
  · exact h pins s σ H x v vl vu lo hi sl Q I rx hs pl pu q
  · exact h' pins s σ H x v vl vu lo hi sl Q I rx hs pl pu q
def tSl (r : V → Option Int → Option Int → Hp → VK → Prop) (te : TE) (tl th : TO) : TE := fun σ H Q => te σ H fun x H1 => tl σ H1 fun l H2 => th σ H2 fun u H3 => r x l u H3 Q
theorem pe_slice {r : V → Option Int → Option Int → Hp → VK → Prop} (hr : SlR X r) (he : PE X e te) (hl : PO X lo tl) (hu : PO X hi th) : PE X (.Subscript e (.Slice lo hi none p2) pos) (tSl r te tl th) := by
  intro pins s σ H Q I h
  refine Subscript_ (thn (he pins s σ H _ I h) fun v s1 ⟨x, H1, I1, r1, q1⟩ => ?_)
  refine wpAny_Slice (thn (hl pins s1 σ H1 _ I1 q1) fun vl s2 ⟨l, H2, I2, pl, q2⟩ => thn (hu pins s2 σ H2 _ I2 q2) fun vu s3 ⟨u, H3, I3, pu, q3⟩ => ?_)
  rw [evalPart_none]
  refine wpAny_pure ?_
  have I4 : Inv X pins σ H3 { s3 with heap := s3.heap.push { cls := .type "slice", data := .fields #[vl, vu, .none] } } := I3.kept (t' := s3.toks) fun b ob q => Heap.get?_push_of_some _ q
  obtain ⟨T, id, hT, ht, hg⟩ := hr pins { s3 with heap := s3.heap.push { cls := .type "slice", data := .fields #[vl, vu, .none] } } σ H3 x v vl vu l u s3.heap.objs.size Q I4 r1 (Heap.IsSliceOf.new ..) pl pu q3
  show wpAny (model X.prog X.w) X.A (subscriptTail e (.Slice lo hi none p2) v (.ref s3.heap.objs.size)) (EP X pins σ Q) X.xe { s3 with heap := s3.heap.push { cls := .type "slice", data := .fields #[vl, vu, .none] } }
  exact tail_any (ops := [.ref s3.heap.objs.size, v]) ht hT hg (by with_unfolding_all rfl)
def cutV (xs : List V) (lo hi : Option Int) : List V := (xs.drop (HT.sIx xs.length 0 lo)).take (HT.sIx xs.length xs.length hi - HT.sIx xs.length 0 lo)
theorem cutV_length (xs : List V) (lo hi : Option Int) : (cutV xs lo hi).length ≤ xs.length := by
  unfold cutV
  rw [List.length_take, List.length_drop]
  omega
def rSlT (K : PySem.W.Frag) : V → Option Int → Option Int → Hp → VK → Prop := fun x lo hi H Q => ∃ a xs, x = .ref a ∧ SqT K H a xs ∧
  ¬ (HT.sIx xs.length 0 lo = 0 ∧ HT.sIx xs.length xs.length hi = xs.length) ∧ ∀ p, H p = none → Q (.ref p) (upd H p (.tup (cutV xs lo hi)))
theorem sl_tup : SlR X (rSlT X.K) := by
  intro pins s σ H x v vl vu lo hi sl Q I rx hs pl pu h
  obtain ⟨a, xs, rfl, hx, hw, q⟩ := h
  cases rx
  obtain ⟨its, r, ht, hz⟩ := I.tuple hx
  have hlen : its.toArray.size = xs.length := by rw [List.size_toArray]; exact r.length.symm
  refine ⟨"tuple", _, PyProof.Rows.slot_tuple_getitem.lookup, ht.typeIs, ?_⟩
  refine HT.getItem_tuple_cut ht hs pl pu (by rw [hlen]; exact hw) ?_ (by rw [hlen]; exact hz)
  rw [hlen]
  refine ⟨.ref s.heap.objs.size, _, I.laid (t' := s.toks) (o := .tup (cutV xs lo hi)) (fun b ob q => Heap.get?_push_of_some _ q) (Nat.le_refl _) ?_, rfl, q _ (I.hok.fresh (Nat.le_refl _))⟩
  exact ⟨Nat.le_trans (cutV_length xs lo hi) hz, _, (r.drop (HT.sIx xs.length 0 lo)).take (HT.sIx xs.length xs.length hi - HT.sIx xs.length 0 lo), IsTup.new _ _⟩
def rCatT (K : PySem.W.Frag) : R2 := fun x y H Q => ∃ a b xs ys, x = .ref a ∧ y = .ref b ∧ SqT K H a xs ∧ SqT K H b ys ∧ xs ≠ [] ∧ xs.length + ys.length ≤ sizeLine ∧
  (ys = [] → Q (.ref a) H) ∧ (ys ≠ [] → ∀ p, H p = none → Q (.ref p) (upd H p (.tup (xs ++ ys))))
theorem Vals.nil_iff {xs : List V} {us : List Value} (r : Vals xs us) : us = [] ↔ xs = [] := by
  cases r with
  | nil => simp
  | cons _ _ => simp
theorem op_catT : OpR X (binaryOp .Add) (rCatT X.K) := by
  intro pins s σ H x y v u Q I rx ry h
  obtain ⟨a, b, xs, ys, rfl, rfl, ha, hb, hx, hz, q1, q2⟩ := h
  cases rx
  cases ry
  obtain ⟨its, r1, p1, _⟩ := I.tuple ha
  obtain ⟨its2, r2, p2, _⟩ := I.tuple hb
  refine HT.cat_tup p1 p2 (fun z => hx (r1.nil_iff.mp z)) (fun z => ⟨.ref a, H, I, rfl, q1 (r2.nil_iff.mp z)⟩) (fun z => ?_) (by rw [← r1.length, ← r2.length]; exact hz)
  refine ⟨.ref s.heap.objs.size, _, I.laid (t' := s.toks) (o := .tup (xs ++ ys)) (fun b ob q => Heap.get?_push_of_some _ q) (Nat.le_refl _) ?_, rfl, q2 (fun w => z (r2.nil_iff.mpr w)) _ (I.hok.fresh (Nat.le_refl _))⟩
  exact ⟨by rw [List.length_append]; exact hz, _, r1.append r2, IsTup.new _ _⟩
end
end L2
namespace L2
open PySem PySem.Spec PyProof.Rows
def ixN (n : Nat) (i : Int) : Option Nat := if 0 ≤ i then (if i < n then some i.toNat else none) else if -(n : Int) ≤ i then some (i + n).toNat else none
def atI {α : Type} (xs : List α) (i : Int) : Option α := (ixN xs.length i).bind fun j => xs[j]?
theorem ixN_seq {n : Nat} {i : Int} {j : Nat} (h : ixN n i = some j) : seqIndex? i n = some j ∧ j < n ∧ -(n : Int) ≤ i ∧ i < n := by
  unfold ixN at h
  by_cases h0 : 0 ≤ i
  · rw [if_pos h0] at h
    by_cases h1 : i < n
    · rw [if_pos h1] at h
      have e : i.toNat = j := Option.some.inj h
      exact ⟨by rw [seqIndex_of h0 h1, e], by omega, by omega, h1⟩
    · rw [if_neg h1] at h; cases h
  · rw [if_neg h0] at h
    by_cases h1 : -(n : Int) ≤ i
    · rw [if_pos h1] at h
      have e : (i + n).toNat = j := Option.some.inj h
      exact ⟨by rw [seqIndex_neg (by omega) h1, e], by omega, h1, by omega⟩
    · rw [if_neg h1] at h; cases h
theorem atI_get {α : Type} {xs : List α} {i : Int} {v : α} (h : atI xs i = some v) : ∃ j, seqIndex? i xs.length = some j ∧ xs[j]? = some v ∧ j < xs.length ∧ -(xs.length : Int) ≤ i ∧ i < xs.length := by
  unfold atI at h
  cases e : ixN xs.length i with
  | none => rw [e] at h; cases h
  | some j =>
    rw [e] at h
    obtain ⟨h1, h2, h3, h4⟩ := ixN_seq e
    exact ⟨j, h1, h, h2, h3, h4⟩
theorem atI_nat {α : Type} {xs : List α} {j : Nat} {v : α} (h : xs[j]? = some v) : atI xs (j : Int) = some v := by
  have hj : j < xs.length := (List.getElem?_eq_some_iff.mp h).1
  have e : ixN xs.length (j : Int) = some j := by
    unfold ixN
    rw [if_pos (by omega), if_pos (by omega)]; simp
  unfold atI; rw [e]; exact h
theorem atI_last {α : Type} (xs : List α) (v : α) : atI (xs ++ [v]) (-1) = some v := by
  have hl : (xs ++ [v]).length = xs.length + 1 := by simp
  have e : ixN (xs ++ [v]).length (-1) = some xs.length := by
    unfold ixN
    rw [hl, if_neg (by decide), if_pos (by omega)]
    congr 1
    omega
  unfold atI
  rw [e]
  show (xs ++ [v])[xs.length]? = some v
  simp
def PlainIx (b : Expr) : Prop := ∀ o i, subscripted b false o i = operate [o, i] (getItem o i)
def IxR (X : Cx) (r : R2) : Prop :=
  ∀ (value slice : Expr) (pins : List (Addr × Obj)) (s : Shared) (σ : St) (H : Hp) (x y : V) (v u : Value) (Q : VK), Inv X pins σ H s → RelV x v → RelV y u → r x y H Q →
    subscripted slice false v u = operate [v, u] (getItem v u) → wpAny (model X.prog X.w) X.A (subscriptTail value slice v u) (EP X pins σ Q) X.xe s
def MtR (X : Cx) (id : String) (r : V → List V → Hp → VK → Prop) : Prop :=
  ∀ (pins : List (Addr × Obj)) (s : Shared) (σ : St) (H : Hp) (x : V) (xs : List V) (v : Value) (us : List Value) (Q : VK), Inv X pins σ H s → RelV x v → Vals xs us → r x xs H Q →
    wpAny (model X.prog X.w) X.A (call (.builtin id) (v :: us)) (EP X pins σ Q) X.xe s
section
variable {X : Cx} {a b : Expr} {ta tb : TE} {pos : Pos}
theorem IxR.or {r r' : R2} (h : IxR X r) (h' : IxR X r') : IxR X (fun x y H Q => r x y H Q ∨ r' x y H Q) := by
  intro value slice pins s σ H x y v u Q I rx ry q hs
  rcases q with q | q
  · exact h value slice pins s σ H x y v u Q I rx ry q hs
  · exact h' value slice pins s σ H x y v u Q I rx ry q hs
theorem pe_ix {r : R2} (hr : IxR X r) (ha : PE X a ta) (hb : PE X b tb) (hs : PlainIx b) : PE X (.Subscript a b pos) (tOp r ta tb) := by
  intro pins s σ H Q I h
  exact Subscript_ (binT ha hb I h fun v u s2 x y H2 I2 rx ry q => hr a b pins s2 σ H2 x y v u Q I2 rx ry q (hs _ _))
def rIxL (K : PySem.W.Frag) : R2 := fun x y H Q => ∃ p xs i v, x = .ref p ∧ y = .int i ∧ SqL K H p xs ∧ atI xs i = some v ∧ Q v H
def rIxT (K : PySem.W.Frag) : R2 := fun x y H Q => ∃ p xs i v, x = .ref p ∧ y = .int i ∧ SqT K H p xs ∧ atI xs i = some v ∧ Q v H
def rIxS : R2 := fun x y H Q => ∃ z i c, x = .str z ∧ y = .int i ∧ z.length ≤ sizeLine ∧ atI z.cps.toList i = some c ∧ Q (.str ⟨#[c]⟩) H
theorem ix_list : IxR X (rIxL X.K) := by
  intro value slice pins s σ H x y v u Q I rx ry h hs
  obtain ⟨p, xs, i, z, rfl, rfl, hq, he, q⟩ := h
  cases rx
  obtain ⟨t, rfl⟩ := ry
  obtain ⟨its, r, pl, hz⟩ := I.list hq
  obtain ⟨j, h1, h2, h3, h4, h5⟩ := atI_get he
  obtain ⟨w, ew, rw'⟩ := r.get h2
  have hl := r.length
  have hn := line63
  have fin : EP X pins σ Q w s := ⟨z, H, I, rw', q⟩
  by_cases h0 : 0 ≤ i
  · have hj : i.toNat = j := by
      rw [seqIndex_of h0 h5] at h1
      exact Option.some.inj h1
    exact item_listR pl.isList h0 (by omega) (by rw [hj]; simpa using ew) fin hs
  · have hj : (i + (its.toArray.size : Int)).toNat = j := by
      rw [seqIndex_neg (by omega) h4] at h1
      rw [List.size_toArray, ← hl]
      exact Option.some.inj h1
    exact subscriptTail_builtinR (x := w) pl.isList.typeIs slot_list_getitem.lookup
      (wpAny_getItem_list_neg (Q := fun r s' => r = w ∧ EP X pins σ Q r s') pl.isList (by omega) (by rw [List.size_toArray] <;> omega) (by omega) (by rw [hj]; simpa using ew) ⟨rfl, fin⟩) hs
theorem ix_tup : IxR X (rIxT X.K) := by
  intro value slice pins s σ H x y v u Q I rx ry h hs
  obtain ⟨p, xs, i, z, rfl, rfl, hq, he, q⟩ := h
  cases rx
  obtain ⟨t, rfl⟩ := ry
  obtain ⟨its, r, pl, hz⟩ := I.tuple hq
  obtain ⟨j, h1, h2, h3, h4, h5⟩ := atI_get he
  obtain ⟨w, ew, rw'⟩ := r.get h2
  have hl := r.length
  have hn := line63
  have fin : EP X pins σ Q w s := ⟨z, H, I, rw', q⟩
  exact subscriptTail_builtinR (x := w) pl.typeIs slot_tuple_getitem.lookup
    (getItem_tuple (j := j) (Q := fun r s' => r = w ∧ EP X pins σ Q r s') pl (by omega) (by omega) (by rw [List.size_toArray, ← hl]; exact h1) (by simpa using ew) ⟨rfl, fin⟩) hs
theorem ix_str : IxR X rIxS := by
  intro value slice pins s σ H x y v u Q I rx ry h hs
  obtain ⟨z, i, c, rfl, rfl, hz, he, q⟩ := h
  obtain ⟨t, rfl⟩ := rx
  obtain ⟨t', rfl⟩ := ry
  obtain ⟨j, h1, h2, h3, h4, h5⟩ := atI_get he
  have hl : z.cps.toList.length = z.length := by simp [Str.length]
  rw [hl] at h1 h4 h5
  have hn := line63
  exact tail_any (typeIs_str s z t) slot_str_getitem.lookup (getItem_str (c := c) (by
    have e1 : decide (i < -(2 ^ 63 : Int)) = false := decide_eq_false (by omega)
    have e2 : decide (i ≥ 2 ^ 63) = false := decide_eq_false (by omega)
    rw [e1, e2, Bool.or_false]) (by rw [h1]; simpa using h2) ⟨.str ⟨#[c]⟩, H, I.tok _, ⟨_, rfl⟩, q⟩) hs
def rIx (K : PySem.W.Frag) : R2 := fun x y H Q => rIxL K x y H Q ∨ rIxT K x y H Q ∨ rIxS x y H Q
theorem ix_seq : IxR X (rIx X.K) := ix_list.or (ix_tup.or ix_str)
theorem Inv.lst {pins : List (Addr × Obj)} {σ : St} {H : Hp} {s : Shared} {p : Addr} {xs : List V} (I : Inv X pins σ H s) (h : H p = some (.lst xs)) :
    ∃ (its : List Value) (n : Nat), Vals xs its ∧ s.heap.get? p = some { cls := .type "list", data := .seq its.toArray n } ∧ xs.length ≤ sizeLine := by
  obtain ⟨z, its, n, r, e⟩ := I.hok p _ h
  exact ⟨its, n, r, e, z⟩
theorem slice_bounds (lo hi : Option Int) (n : Nat) : (sliceBounds lo hi none n).1 = ((HT.sIx n 0 lo : Nat) : Int) ∧ (sliceBounds lo hi none n).2.1 = ((HT.sIx n n hi : Nat) : Int) ∧ (sliceBounds lo hi none n).2.2 = 1 := by
  refine ⟨?_, ?_, rfl⟩
  · cases lo with
    | none => simp [sliceBounds, HT.sIx]
    | some i =>
      simp only [sliceBounds, HT.sIx, Option.getD_none, show (1 : Int) > 0 by decide, if_true]
      by_cases h : i < 0
      · simp only [h, if_true] <;> omega
      · simp only [h, if_false] <;> omega
  · cases hi with
    | none => simp [sliceBounds, HT.sIx]
    | some i =>
      simp only [sliceBounds, HT.sIx, Option.getD_none, show (1 : Int) > 0 by decide, if_true]
      by_cases h : i < 0
      · simp only [h, if_true] <;> omega
      · simp only [h, if_false] <;> omega
theorem slicePick_cut (its : List Value) (lo hi : Option Int) : slicePick its.toArray lo hi none = ((its.drop (HT.sIx its.length 0 lo)).take (HT.sIx its.length its.length hi - HT.sIx its.length 0 lo)).toArray := by
  obtain ⟨h1, h2, h3⟩ := slice_bounds lo hi its.toArray.size
  unfold slicePick
  rw [h1, h2, h3]
  simp only [sliceRange_one, pick_run, List.size_toArray] <;> rfl
def rSlL (K : PySem.W.Frag) : V → Option Int → Option Int → Hp → VK → Prop := fun x lo hi H Q => ∃ a xs, x = .ref a ∧ SqL K H a xs ∧ ∀ p, H p = none → Q (.ref p) (upd H p (.lst (cutV xs lo hi)))
theorem sl_list : SlR X (rSlL X.K) := by
  intro pins s σ H x v vl vu lo hi sl Q I rx hs pl pu h
  obtain ⟨a, xs, rfl, hx, q⟩ := h
  cases rx
  obtain ⟨its, r, ht, hz⟩ := I.list hx
  have hlen := r.length
  refine ⟨"list", _, slot_list_getitem.lookup, ht.isList.typeIs, ?_⟩
  refine wpAny_getItem_list_slice ht.isList hs pl pu .none (by simp) ?_ (by rw [List.size_toArray] <;> omega)
  rw [slicePick_cut, ← hlen]
  refine ⟨.ref s.heap.objs.size, _, I.laid (t' := s.toks) (o := .lst (cutV xs lo hi)) (fun b ob q => Heap.get?_push_of_some _ q) (Nat.le_refl _) ?_, rfl, q _ (I.hok.fresh (Nat.le_refl _))⟩
  exact ⟨Nat.le_trans (cutV_length xs lo hi) hz, _, 0, (r.drop (HT.sIx xs.length 0 lo)).take (HT.sIx xs.length xs.length hi - HT.sIx xs.length 0 lo), Heap.get?_push_size _ rfl⟩
def flatV : V → Bool
  | .non => true
  | .bl _ => true
  | .int _ => true
  | .str _ => true
  | _ => false
def eqV : V → V → Bool
  | .non, .non => true
  | .bl a, .bl b => a == b
  | .bl a, .int b => (if a then 1 else 0) == b
  | .int a, .bl b => a == (if b then 1 else 0)
  | .int a, .int b => a == b
  | .str a, .str b => a == b
  | _, _ => false
theorem eqAt_V {A : Around} {s : Shared} {y x : V} {u v : Value} (ry : RelV y u) (rx : RelV x v) (fy : flatV y = true) (fx : flatV x = true) : SeqAt.EqAt A s u v (eqV y x) := by
  cases y with
  | non =>
    cases ry
    cases x with
    | non => cases rx; exact SeqAt.EqAt.same _
    | bl b => cases rx; exact SeqAt.EqAt.none_bool b
    | int b => obtain ⟨t, rfl⟩ := rx; exact SeqAt.EqAt.none_int b t
    | str b => obtain ⟨t, rfl⟩ := rx; exact SeqAt.EqAt.none_str b t
    | _ => exact absurd (show false = true from fx) Bool.false_ne_true
  | bl a =>
    cases ry
    cases x with
    | non => cases rx; exact SeqAt.EqAt.bool_none a
    | bl b => cases rx; exact SeqAt.EqAt.bool_bool a b
    | int b => obtain ⟨t, rfl⟩ := rx; exact SeqAt.EqAt.bool_int a b t
    | str b => obtain ⟨t, rfl⟩ := rx; exact SeqAt.EqAt.bool_str a b t
    | _ => exact absurd (show false = true from fx) Bool.false_ne_true
  | int a =>
    obtain ⟨t', rfl⟩ := ry
    cases x with
    | non => cases rx; exact SeqAt.EqAt.int_none a t'
    | bl b => cases rx; exact SeqAt.EqAt.int_bool a t' b
    | int b => obtain ⟨t, rfl⟩ := rx; exact SeqAt.EqAt.int_int a t' b t
    | str b => obtain ⟨t, rfl⟩ := rx; exact SeqAt.EqAt.int_str a t' b t
    | _ => exact absurd (show false = true from fx) Bool.false_ne_true
  | str a =>
    obtain ⟨t', rfl⟩ := ry
    cases x with
    | non => cases rx; exact SeqAt.EqAt.str_none a t'
    | bl b => cases rx; exact SeqAt.EqAt.str_bool a t' b
    | int b => obtain ⟨t, rfl⟩ := rx; exact SeqAt.EqAt.str_int a t' b t
    | str b => obtain ⟨t, rfl⟩ := rx; exact SeqAt.EqAt.str_str a t' b t
    | _ => exact absurd (show false = true from fx) Bool.false_ne_true
  | _ => exact absurd (show false = true from fy) Bool.false_ne_true
def eqU (x : V) (u : Value) : Bool := match u with
  | .none => eqV .non x
  | .bool b => eqV (.bl b) x
  | .int i _ => eqV (.int i) x
  | .str z _ => eqV (.str z) x
  | _ => false
theorem eqU_of {x y : V} {u : Value} (r : RelV y u) (f : flatV y = true) : eqU x u = eqV y x := by
  cases y with
  | non => cases r; rfl
  | bl b => cases r; rfl
  | int i => obtain ⟨t, rfl⟩ := r; rfl
  | str z => obtain ⟨t, rfl⟩ := r; rfl
  | _ => exact absurd (show false = true from f) Bool.false_ne_true
theorem any_eqU {x : V} : ∀ {xs : List V} {us : List Value}, Vals xs us → xs.all flatV = true → us.any (eqU x) = xs.any fun y => eqV y x
  | _, _, .nil, _ => rfl
  | y :: xs, u :: us, .cons r t, f => by
    rw [List.all_cons, Bool.and_eq_true] at f
    rw [List.any_cons, List.any_cons, eqU_of r f.1, any_eqU t f.2]
theorem mem_eqAt {A : Around} {s : Shared} {x : V} {v : Value} (rx : RelV x v) (fx : flatV x = true) : ∀ {xs : List V} {us : List Value}, Vals xs us → xs.all flatV = true → ∀ u ∈ us, SeqAt.EqAt A s u v (eqU x u)
  | _, _, .nil, _ => fun u hu => by cases hu
  | y :: xs, u :: us, .cons r t, f => fun u' hu => by
    rw [List.all_cons, Bool.and_eq_true] at f
    rcases List.mem_cons.mp hu with rfl | hu
    · rw [eqU_of r f.1]; exact eqAt_V r rx f.1 fx
    · exact mem_eqAt rx fx t f.2 u' hu
theorem call_list_of : CallR X (.type "list") (fun xs H Q => ∃ p ys, xs = [.ref p] ∧ (SqL X.K H p ys ∨ SqT X.K H p ys) ∧ ∀ l, H l = none → Q (.ref l) (upd H l (.lst ys))) := by
  intro pins s σ H xs us Q I r h
  obtain ⟨p, ys, rfl, hq, q⟩ := h
  obtain ⟨u, rfl, rx⟩ := vals1 r
  cases rx
  have fin : ∀ (its : List Value), Vals ys its → ys.length ≤ sizeLine → ∀ (h' : Heap) (c' : Nat), (∀ b o', s.heap.get? b = some o' → h'.get? b = some o') →
      h'.get? s.heap.objs.size = some { cls := .type "list", dict := none, data := .seq its.toArray c', slots := #[] } → EP X pins σ Q (.ref s.heap.objs.size) { s with heap := h' } := fun its r' hz h' c' kp e =>
    ⟨.ref s.heap.objs.size, _, I.laid (t' := s.toks) kp (Nat.le_refl _) (show ObjOk X.prog X.w _ h' _ (.lst ys) from ⟨hz, its, c', r', e⟩), rfl, q _ (I.hok.fresh (Nat.le_refl _))⟩
  rcases hq with hq | hq
  · obtain ⟨its, r', pl, hz⟩ := I.list hq
    have hlen := r'.length
    obtain ⟨o, ho, hc, n, hd⟩ := pl.isList
    exact call_list_seq p (.inl rfl) ho hc hd (fun h' c' kp e => fin its r' hz h' c' kp e) (by simp only [List.size_toArray] <;> omega)
  · obtain ⟨its, r', pl, hz⟩ := I.tuple hq
    have hlen := r'.length
    obtain ⟨o, ho, hc, n, hd⟩ := pl
    exact call_list_seq p (.inr rfl) ho hc hd (fun h' c' kp e => fin its r' hz h' c' kp e) (by simp only [List.size_toArray] <;> omega)
theorem call_tuple_of : CallR X (.type "tuple") (fun xs H Q => ∃ p ys, xs = [.ref p] ∧ ((SqL X.K H p ys ∧ ∀ l, H l = none → Q (.ref l) (upd H l (.tup ys))) ∨ (SqT X.K H p ys ∧ Q (.ref p) H))) := by
  intro pins s σ H xs us Q I r h
  obtain ⟨p, ys, rfl, h⟩ := h
  obtain ⟨u, rfl, rx⟩ := vals1 r
  cases rx
  rcases h with ⟨hq, q⟩ | ⟨hq, q⟩
  · obtain ⟨its, r', pl, hz⟩ := I.list hq
    have hlen := r'.length
    refine call_tuple_list pl.isList (fun h' kp => ?_) (by simp only [List.size_toArray] <;> omega)
    have I1 : Inv X pins σ H { s with heap := h' } := I.kept (t' := s.toks) kp
    have I2 : Inv X pins σ (upd H h'.objs.size (.tup ys)) { s with heap := h'.push { cls := .type "tuple", data := .seq its.toArray } } :=
      I1.laid (t' := s.toks) (fun b o e => Heap.get?_push_of_some _ e) (Nat.le_refl _) (show ObjOk X.prog X.w _ _ _ (.tup ys) from ⟨hz, its, r', IsTup.new _ _⟩)
    exact ⟨.ref h'.objs.size, _, I2, rfl, q _ (I1.hok.fresh (Nat.le_refl _))⟩
  · obtain ⟨its, r', pl, hz⟩ := I.tuple hq
    exact call_tuple_same pl ⟨.ref p, H, I, rfl, q⟩
def tyV (K : PySem.W.Frag) (T : String) (x : V) (H : Hp) : Prop := match x with
  | .str _ => T = "str"
  | .int _ => T = "int"
  | .ref p => (T = "list" ∧ ∃ xs, SqL K H p xs) ∨ (T = "tuple" ∧ ∃ o, K.lookup p = some o ∧ o.cls = .type "tuple" ∧ o.dict = none) ∨
      (T = "dict" ∧ ((∃ kvs, H p = some (.dK kvs)) ∨ ∃ kvs, H p = some (.dT kvs))) ∨ (T = "set" ∧ ∃ S n, H p = some (.set S n))
  | _ => False
theorem tyV_is {pins : List (Addr × Obj)} {σ : St} {H : Hp} {s : Shared} {T : String} {x : V} {v : Value} (I : Inv X pins σ H s) (r : RelV x v) (ty : tyV X.K T x H) :
    s.TypeIs v T ∧ ∀ a, v = .ref a → ∃ ob, s.heap.get? a = some ob ∧ ob.dict = none := by
  cases x with
  | str z =>
    obtain ⟨t, rfl⟩ := r
    cases (show T = "str" from ty)
    exact ⟨typeIs_str s z t, fun _ e => nomatch e⟩
  | int i =>
    obtain ⟨t, rfl⟩ := r
    cases (show T = "int" from ty)
    exact ⟨typeIs_int s i t, fun _ e => nomatch e⟩
  | ref p =>
    cases r
    rcases ty with ⟨rfl, xs, hq⟩ | ⟨rfl, o, hk, hc, hd⟩ | ⟨rfl, hk⟩ | ⟨rfl, S, n, hk⟩
    · obtain ⟨its, _, pl, _⟩ := I.list hq
      refine ⟨pl.isList.typeIs, fun a e => ?_⟩
      cases e
      obtain ⟨o, n, e, c, hd, _⟩ := pl
      exact ⟨o, e, hd⟩
    · refine ⟨⟨o, I.kIn p o hk, hc⟩, fun a e => ?_⟩
      cases e
      exact ⟨o, I.kIn _ o hk, hd⟩
    · have z : ∃ o, s.heap.get? p = some o ∧ o.ExactDict := by
        rcases hk with ⟨kvs, hk⟩ | ⟨kvs, hk⟩
        · obtain ⟨_, _, _, _, o, _, _, e, ex, _⟩ := I.hok p _ hk
          exact ⟨o, e, ex⟩
        · obtain ⟨_, _, _, _, o, _, _, e, ex, _⟩ := I.hok p _ hk
          exact ⟨o, e, ex⟩
      obtain ⟨o, e, ex⟩ := z
      refine ⟨⟨o, e, ex.1⟩, fun a e2 => ?_⟩
      cases e2
      exact ⟨o, e, ex.2.1⟩
    · obtain ⟨o, _, _, _, e, ex, _⟩ := I.hok p _ hk
      refine ⟨⟨o, e, ex.1⟩, fun a e2 => ?_⟩
      cases e2
      exact ⟨o, e, ex.2.1⟩
  | _ => exact False.elim ty
def tBM (K : PySem.W.Frag) (T : String) (r : V → List V → Hp → VK → Prop) (to : TE) (t : TA) : TE := fun σ H Q => to σ H fun x H1 => tyV K T x H1 ∧ t σ H1 fun xs H2 => r x xs H2 Q
variable {o e : Expr} {es : List Expr} {to : TE} {t : TA} {name : Str} {apos cpos : Pos} {T id : String} {r : V → List V → Hp → VK → Prop}
theorem pe_bm (pa : PlainAttrs T) (slot : Slot T name id) (hty : typeOf (.builtin id) = pure (.type "method_descriptor")) (hm : MtR X id r) (ho : PE X o to) (ha : PA X (e :: es) t)
    (hbase : attributeBase o name X.env (eval o X.env) = eval o X.env := by rfl)
    (hfew : ((backTo cpos (starEach (e :: es) X.env)).all (fun x => !x.1) && (backToKw cpos (keywordEach [] X.env)).all (fun x => x.1.isSome)
      && decide ((e :: es).length + ([] : List Keyword).length + (if ([] : List Keyword).isEmpty then 0 else 1) < 30)) = true := by rfl)
    (hline : (apos.endLine == cpos.line) = true := by rfl) (hs : starEach (e :: es) X.env = (false, eval e X.env) :: starEach es X.env := by rfl) (hplain : (backTo cpos (starEach es X.env)).any (·.1) = false := by rfl) :
    PE X (.Call (.Attribute o name apos) (e :: es) [] cpos) (tBM X.K T r to t) := by
  intro pins s σ H Q I h
  refine wpAny_Call_method_late hbase hfew hline rfl (thn (ho pins s σ H _ I h) fun v s1 ⟨x, H1, I1, r1, ty, q1⟩ => ?_)
  obtain ⟨h1, h2⟩ := tyV_is I1 r1 ty
  refine ⟨T, id, pa, slot, hty, h1, h2, ?_⟩
  have hA := ha cpos pins s1 σ H1 _ I1 q1
  rw [hs] at hA ⊢
  refine Calls.callWith_builtin (by show (false || (backTo cpos (starEach es X.env)).any (·.1)) = false; rw [hplain] <;> rfl) (Calls.evalArgs_plain ?_)
  exact thn hA fun us s2 ⟨vs, H2, I2, r2, q2⟩ => hm pins s2 σ H2 x vs v us Q I2 r1 r2 q2
/- xs.append(e), list.index on a module's tuple .. are MtR facts of 06m -/
end
end L2
namespace L2
open PySem PySem.Spec PyProof.Rows
def MtM (X : Cx) (id : String) (r : V → List V → Hp → VK → Prop) : Prop :=
  ∀ (pins : List (Addr × Obj)) (s : Shared) (σ : St) (H : Hp) (x : V) (xs : List V) (v : Value) (us : List Value) (Q : VK), Inv X pins σ H s → RelV x v → Vals xs us → r x xs H Q →
    wpAny (model X.prog X.w) X.A (call (.builtin id) (v :: us)) (EP X pins σ Q) X.xe s
theorem Vals.one : ∀ {x : V} {us : List Value}, Vals [x] us → ∃ u, us = [u] ∧ RelV x u
  | _, _, .cons r .nil => ⟨_, rfl, r⟩
section
variable {X : Cx} {pins : List (Addr × Obj)} {σ : St} {H : Hp} {s : Shared} {l b : Addr} {xs ys zs : List V}
theorem Inv.lset {its its' : List Value} {n : Nat} {f : Array Value → Array Value} {t' : Nat} (I : Inv X pins σ H s) (hH : H l = some (.lst xs))
    (e : s.heap.get? l = some { cls := .type "list", data := .seq its.toArray n }) (hf : f its.toArray = its'.toArray) (hv : Vals ys its') (hz : ys.length ≤ sizeLine) :
    Inv X pins σ (upd H l (.lst ys)) { s with heap := s.heap.update l (Obj.mapSeq f), toks := t' } := by
  have q := PySem.IsL.update e f
  rw [hf] at q
  refine I.write (x := l) (e := l) (by rw [hH]; exact trivial) (.inl rfl) (fun b' u hb hu => (Heap.get?_update_other s.heap (Obj.mapSeq f) (Ne.symm hb)).trans hu) ⟨_, q⟩ ?_
  exact ⟨hz, its', _, hv, q⟩
theorem Inv.lnew {its : List Value} {t' : Nat} (I : Inv X pins σ H s) (hv : Vals ys its) (hz : ys.length ≤ sizeLine) :
    Inv X pins σ (upd H s.heap.objs.size (.lst ys)) { s with heap := s.heap.push { cls := .type "list", data := .seq its.toArray }, toks := t' } :=
  I.laid (fun _ _ q => Heap.get?_push_of_some _ q) (Nat.le_refl _) ⟨hz, its, 0, hv, Heap.get?_push_size _ rfl⟩
theorem Inv.fresh (I : Inv X pins σ H s) : H s.heap.objs.size = none := I.hok.fresh (Nat.le_refl _)
theorem Inv.lstM (I : Inv X pins σ H s) (hH : H l = some (.lst xs)) : xs.length ≤ sizeLine ∧ ∃ (its : List Value) (n : Nat), Vals xs its ∧ xs.length = its.length ∧ s.heap.get? l = some { cls := .type "list", data := .seq its.toArray n } := by
  obtain ⟨z, its, n, r, e⟩ := I.hok l _ hH
  exact ⟨z, its, n, r, r.length, e⟩
end
section
variable {X : Cx}
def rAppend : V → List V → Hp → VK → Prop := fun x vs H Q => ∃ l xs y, x = .ref l ∧ vs = [y] ∧ H l = some (.lst xs) ∧ xs.length < sizeLine ∧ Q .non (upd H l (.lst (xs ++ [y])))
theorem mt_append : MtM X "list.append" rAppend := by
  intro pins s σ H x vs v us Q I rx rv h
  obtain ⟨l, xs, y, rfl, rfl, hH, hz, q⟩ := h
  cases rx
  obtain ⟨u, rfl, ru⟩ := rv.one
  obtain ⟨z, its, n, r, hl, e⟩ := I.lstM hH
  refine call_meets F.slot_list_append ⟨_, e, rfl⟩ F.entry_list_append (F.args_list_append_2 _ _) (PySem.list_append l its.toArray n u (by rw [List.size_toArray]; omega)) ⟨e, ?_⟩
  refine ⟨.non, _, I.lset (its' := its ++ [u]) hH e (by simp) (r.append (.cons ru .nil)) ?_, rfl, q⟩
  rw [List.length_append, List.length_singleton]
  omega
end
section
variable {prog : Program} {w : World} {A : Around} {E : Value → Shared → Prop} {s : Shared}
end
section
variable {X : Cx}
end
end L2
namespace L2
open PySem PySem.Spec PyProof.Rows
section
variable {κ : Type} [DecidableEq κ]
def valV (kvs : List (κ × V)) (k : κ) : Option V := (kvs.find? fun kv => decide (kv.1 = k)).map (·.2)
def putK (kvs : List (κ × V)) (k : κ) (v : V) : List (κ × V) :=
  if (kvs.any fun kv => decide (kv.1 = k)) = true then kvs.map (fun kv => if kv.1 = k then (kv.1, v) else kv) else kvs ++ [(k, v)]
theorem valV_pos {p : κ × V} {r : List (κ × V)} {k : κ} (e : p.1 = k) : valV (p :: r) k = some p.2 := by simp [valV, List.find?_cons, e]
theorem valV_neg {p : κ × V} {r : List (κ × V)} {k : κ} (e : ¬ p.1 = k) : valV (p :: r) k = valV r k := by simp [valV, List.find?_cons, e]
theorem RelO.isSome_eq {o : Option V} {u : Option Value} (r : RelO o u) : o.isSome = u.isSome := by
  cases o with
  | none => cases u with
    | none => rfl
    | some _ => exact (show False from r).elim
  | some _ => cases u with
    | none => exact (show False from r).elim
    | some _ => rfl
theorem RelO.getD {o : Option V} {u : Option Value} {d : V} {d' : Value} (r : RelO o u) (rd : RelV d d') : RelV (o.getD d) (u.getD d') := by
  cases o with
  | none => cases u with
    | none => exact rd
    | some _ => exact (show False from r).elim
  | some _ => cases u with
    | none => exact (show False from r).elim
    | some _ => exact r
theorem KV.val {kvs : List (κ × V)} {vs : List (κ × Value)} (r : KV kvs vs) (k : κ) : RelO (valV kvs k) (valueAt vs k) := by
  unfold KV at r
  induction r with
  | nil => exact True.intro
  | @cons p q ps qs h t ih =>
    obtain ⟨h1, h2⟩ := h
    by_cases e : p.1 = k
    · have e' : q.1 = k := h1.symm.trans e
      have b : valueAt (q :: qs) k = some q.2 := by simp [valueAt, List.find?_cons, e']
      rw [valV_pos e, b]; exact h2
    · have e' : ¬ q.1 = k := fun z => e (h1.trans z)
      have b : valueAt (q :: qs) k = valueAt qs k := by simp [valueAt, List.find?_cons, e']
      rw [valV_neg e, b]; exact ih
theorem KV.length {kvs : List (κ × V)} {vs : List (κ × Value)} (r : KV kvs vs) : kvs.length = vs.length := Paired.length r
end
theorem kV_is {P : Program} {w : World} {k : Key} {u : Value} (r : RelV (kV k) u) : (mixKind P w).is k u = true := by
  cases k with
  | inl i => obtain ⟨t, e⟩ := (show ∃ t, u = Value.int i t from r); subst e; exact mixKind_int P w i t
  | inr x => obtain ⟨t, e⟩ := (show ∃ t, u = Value.str x t from r); subst e; exact mixKind_str P w x t
theorem items_are {P : Program} {w : World} : ∀ {ks : List Key} {us : List Value}, Vals (ks.map kV) us → ItemsAre (mixKind P w) ks us
  | [], _, r => by rw [List.map_nil] at r; cases r; exact .nil
  | k :: ks, _, r => by
    rw [List.map_cons] at r
    cases r with
    | cons h t => exact .cons (kV_is h) (items_are t)
abbrev KT (H : Hp) : List (List Key × V) → List (List Key × Addr × Value) → Prop := Paired fun p q => p.1 = q.1 ∧ H q.2.1 = some (.tup (p.1.map kV)) ∧ RelV p.2 q.2.2
theorem KT.val {H : Hp} {kvs : List (List Key × V)} {xs : List (List Key × Addr × Value)} (r : KT H kvs xs) (k : List Key) : RelO (valV kvs k) ((atKey xs k).map (·.2)) := by
  induction r with
  | nil => exact True.intro
  | @cons p q ps qs h t ih =>
    obtain ⟨h1, _, h2⟩ := h
    by_cases e : p.1 = k
    · have e' : q.1 = k := h1.symm.trans e
      have b : atKey (q :: qs) k = some q.2 := by simp [atKey, List.find?_cons, e']
      rw [valV_pos e, b]; exact h2
    · have e' : ¬ q.1 = k := fun z => e (h1.trans z)
      have b : atKey (q :: qs) k = atKey qs k := by simp [atKey, List.find?_cons, e']
      rw [valV_neg e, b]; exact ih
section
variable {P : Program} {w : World} {H : Hp} {h : Heap} {a : Addr}
theorem rd_of {u : HO} (ok : HOk P w H h) (e : Rd H a u) : ObjOk P w H h a u := e.ok ok
theorem dk_rd {kvs : List (Key × V)} (ok : HOk P w H h) (e : Rd H a (.dK kvs)) : kvs.length ≤ sizeLine ∧ (a == sysModules) = false ∧ ∃ vs, KV kvs vs ∧ h.DictOf (mixKind P w) a vs :=
  show ObjOk P w H h a (.dK kvs) from rd_of ok e
theorem key_of {ks : List Key} (ok : HOk P w H h) (e : H a = some (.tup (ks.map kV))) : (tupleKind (mixKind P w)).is h ks a := by
  obtain ⟨_, its, r, o, h1, h2, n, h3⟩ := (show ObjOk P w H h a (.tup (ks.map kV)) from ok a _ e)
  exact ⟨o, its.toArray, n, h1, h2, h3, by simpa using items_are r⟩
theorem dt_rd {kvs : List (List Key × V)} (ok : HOk P w H h) (e : Rd H a (.dT kvs)) : kvs.length ≤ sizeLine ∧ (a == sysModules) = false ∧
    ∃ xs, KT H kvs xs ∧ h.DictOfH (tupleKind (mixKind P w)) a xs := by
  obtain ⟨z, y, xs, r, o, es, ep, h1, h2, h3, h4, h5⟩ := (show ObjOk P w H h a (.dT kvs) from rd_of ok e)
  refine ⟨z, y, xs, r, o, es, ep, h1, h2, h3, h4, fun x hx => ?_, h5⟩
  have all : ∀ {l : List (List Key × V)} {m : List (List Key × Addr × Value)}, KT H l m → ∀ x ∈ m, (tupleKind (mixKind P w)).is h x.1 x.2.1 := by
    intro l m q
    induction q with
    | nil => intro x hx; exact nomatch hx
    | @cons p q ps qs hq t ih =>
      intro x hx
      rcases List.mem_cons.mp hx with e | hx
      · subst e
        exact key_of ok (by rw [← hq.1]; exact hq.2.1)
      · exact ih x hx
  exact all r x hx
end
def DGet (H : Hp) (a : Addr) (y : V) (r : Option V) : Prop :=
  (∃ kvs k, Rd H a (.dK kvs) ∧ y = kV k ∧ r = valV kvs k) ∨ ∃ kvs k b, Rd H a (.dT kvs) ∧ y = .ref b ∧ H b = some (.tup (k.map kV)) ∧ r = valV kvs k
def DPut (H : Hp) (a : Addr) (y v : V) (H' : Hp) : Prop :=
  (∃ kvs k, H a = some (.dK kvs) ∧ y = kV k ∧ kvs.length < sizeLine ∧ H' = upd H a (.dK (putK kvs k v))) ∨
  ∃ kvs k b, H a = some (.dT kvs) ∧ y = .ref b ∧ H b = some (.tup (k.map kV)) ∧ kvs.length < sizeLine ∧ H' = upd H a (.dT (putK kvs k v))
theorem DGet.k {H : Hp} {a : Addr} {kvs : List (Key × V)} {k : Key} (e : H a = some (.dK kvs)) : DGet H a (kV k) (valV kvs k) := .inl ⟨kvs, k, .inl e, rfl, rfl⟩
theorem DGet.t {H : Hp} {a b : Addr} {kvs : List (List Key × V)} {k : List Key} (e : H a = some (.dT kvs)) (eb : H b = some (.tup (k.map kV))) : DGet H a (.ref b) (valV kvs k) := .inr ⟨kvs, k, b, .inl e, rfl, eb, rfl⟩
theorem DPut.k {H : Hp} {a : Addr} {kvs : List (Key × V)} {k : Key} {v : V} (e : H a = some (.dK kvs)) (hl : kvs.length < sizeLine) : DPut H a (kV k) v (upd H a (.dK (putK kvs k v))) := .inl ⟨kvs, k, e, rfl, hl, rfl⟩
theorem DPut.t {H : Hp} {a b : Addr} {kvs : List (List Key × V)} {k : List Key} {v : V} (e : H a = some (.dT kvs)) (eb : H b = some (.tup (k.map kV))) (hl : kvs.length < sizeLine) :
    DPut H a (.ref b) v (upd H a (.dT (putK kvs k v))) := .inr ⟨kvs, k, b, e, rfl, eb, hl, rfl⟩
section
variable {X : Cx} {pins : List (Addr × Obj)} {σ : St} {H : Hp} {s : Shared} {a : Addr} {y v : V} {u r : Value} {o : Option V} {A : Around} {E : Value → Shared → Prop}
end
section
variable {X : Cx} {pins : List (Addr × Obj)} {σ : St} {H : Hp} {s : Shared} {a : Addr} {kvs : List (Key × V)} {k : Key} {u : Value} {A : Around} {E : Value → Shared → Prop}
end
section
variable {X : Cx} {o i e value : Expr} {pos pos' tpos : Pos} {td ty tv : TE}
end
section
variable {X : Cx} {pos : Pos}
end
section
variable {X : Cx} {pins : List (Addr × Obj)} {σ : St} {H : Hp} {s : Shared} {a : Addr} {y d : V} {u r : Value} {o : Option V} {A : Around} {E : Value → Shared → Prop}
end
section
variable {X : Cx} {o e f : Expr} {apos cpos : Pos} {td ty tx : TE}
end
section
variable {X : Cx} {pins : List (Addr × Obj)} {σ : St} {H : Hp} {s : Shared} {a : Addr} {kvs : List (Key × V)} {A : Around} {E : Value → Shared → Prop}
end
section
variable {X : Cx} {pins : List (Addr × Obj)} {σ : St} {H : Hp} {s : Shared} {a : Addr} {y : V} {u : Value} {A : Around} {E : Value → Shared → Prop}
end
end L2
namespace Att
open PySem PySem.W PySem.Calls PyProof.Rows
theorem ints_of_wellAll {P : Params} {h : Heap} : ∀ (ns : List Int) (vs : List Value), WellAll P h vs (ns.map WData.int) → IntsAre vs ns := by
  intro ns
  induction ns with
  | nil =>
    intro vs w
    rw [List.map_nil] at w
    cases w
    exact .nil
  | cons n ns ih =>
    intro vs w
    rw [List.map_cons] at w
    cases w with
    | cons a b =>
      cases a
      exact .cons _ _ (ih _ b)
theorem script_of {l : OpenLaw} {n : Nat} (hn : l.most = some n) {P : Params} {h : Heap} {args : List WData} {vals : List Value}
    (hpre : l.row.toRowW.claim.pre args = true) (hwl : WellAll P h vals args) :
    ∃ a vs ns, vals = [Value.ref a] ∧ args = [WData.list (ns.map WData.int)] ∧ h.get? a = some { cls := .type "list", data := .seq vs.toArray } ∧ IntsAre vs ns ∧ ns.length ≤ n := by
  have hsh : WShape.hasAll [] args [.list .int] = true := (pre_splitW hpre).1
  have hc : l.pre.holds [] { args := args } = true := (pre_splitW hpre).2
  obtain ⟨d, r, rfl, h1, h2⟩ := hasAllW_cons hsh
  obtain rfl := hasAllW_nil h2
  obtain ⟨xs, rfl, h3⟩ := hasW_list h1
  obtain ⟨ns, rfl⟩ := items_int h3
  have hlen : ns.length ≤ n := by
    unfold OpenLaw.pre at hc
    have h4 : (WTm.not (.lt (.lit (.int (n : Int))) (.len (.arg 0)))).holds [] { args := [.list (ns.map .int)] } = true := by
      have h4 := (holds_andW hc).1
      rw [hn] at h4
      exact h4
    have h5 := condW_of h4 (w_not (w_lt w_lit (w_len_list (w_arg rfl))))
    rw [List.length_map] at h5
    refine Nat.le_of_not_lt fun q => ?_
    have q' : (n : Int) < ((ns.length : Nat) : Int) := by omega
    first
      | (rw [decide_eq_true q'] at h5; exact absurd h5 (by decide))
      | (simp at h5; omega)
  cases hwl with
  | cons w1 w2 =>
    cases w2
    cases w1 with
    | list ho hall => exact ⟨_, _, ns, rfl, rfl, ho, ints_of_wellAll ns _ hall, hlen⟩
theorem post_true (l : OpenLaw) (args : List WData) : l.row.toRowW.claim.post args (.bool true) args = true :=
  postW_of (r := l.row.toRowW) (X := (true == true))
    (show WShape.has [] (.bool true) .bool = true by first | rfl | decide | simp [WShape.has, WShape.arms, WShape.armsAll])
    (show (WTm.eq .res (.lit (.bool true))).value [] { args := args, res := some (.bool true), after := args } = some (.bool (true == true)) from w_eq_bool (w_res rfl) w_lit) rfl
theorem attach_call {l : OpenLaw} {n : Nat} {q : Program} {loose : List Str} {XP : (Str → Option Value) → Heap → Prop} {YP : World → Heap → Prop} {d : DefRec}
    (hn : l.most = some n) (hdf : d.params.defaults = [])
    (call : ∀ (w : World) (s₀ s₁ : Shared) (mg mb : Str → Option Value) (fa : Addr) (o : Obj) (pm cd doc : Value) (a : Addr) (vs : List Value) (ns : List Int),
      Ground q loose [] XP w s₀ mg mb s₁.heap → YP w s₁.heap →
      s₁.heap.get? fa = some o → o.data = .func (docDef d.name d.params d.body d.scope pm cd doc) → s₁.heap.CodeRec cd d.name → mg d.name = some (.ref fa) →
      s₁.heap.get? a = some { cls := .type "list", data := .seq vs.toArray } → IntsAre vs ns → ns.length ≤ n → s₁.gens = #[] →
      codeAny (model l.prog w) callerA (.call (.ref fa) ⟨[.ref a], []⟩) (fun r s' => r = .ok (.ret (.bool true)) ∧ OldK s₁.heap s'.heap ∧ s'.os = s₁.os ∧ AllBare s'.gens) s₁) :
    WalkO q loose XP YP l.row.toRowW d [] (fun f vs => PySem.call f vs) := by
  intro w s₀ s₁ mg mb G Y fa o pm cd doc dV kV ho hd hcd hD hmg hg args vals as hpre hlay hrd hwl hlo
  obtain rfl : dV = .none := Dflts.none hD hdf
  obtain rfl : kV = .none := Dflts.noKw hD
  obtain ⟨a, vs, ns, rfl, rfl, hobj, hints, hlen⟩ := script_of hn hpre hwl
  refine enter_call (codeAny_mono (call w s₀ s₁ mg mb fa o pm cd doc a vs ns G Y ho (fd_plain hd) hcd hmg hobj hints hlen hg) fun r s' hq => ?_)
  obtain ⟨rfl, h2, h3, h4⟩ := hq
  exact ⟨.inl ⟨.bool true, .bool true, [], rfl, fun _ => rfl, .bool true, post_true l _, fun _ => ⟨List.Pairwise.nil, fun _ hm => (nomatch hm)⟩⟩, h2, h3, h4⟩
section
variable {prog : Program} {w : World} {A : Around} {E : Value → Shared → Prop} {s : Shared} {K : Frag}
end
end Att
namespace L2
open PySem PySem.Spec PyProof.Rows
theorem vals_ints : ∀ {vs : List Value} {ns : List Int}, IntsAre vs ns → Vals (ns.map V.int) vs
  | _, _, .nil => .nil
  | _, _, .cons n t h => .cons ⟨t, rfl⟩ (vals_ints h)
def Only (H : Hp) : Prop := ∀ b, H b = none ∨ ∃ o xs, H b = some (.frz o (.lst xs))
theorem law_call {P : Program} {w : World} {K : PySem.W.Frag} {mg mb : Str → Option Value} {CX : CXT} {k : Nat} {fa a : Addr} {fd : FuncData} {x : Str} {sp : Sp} {s₁ : Shared} {vs : List Value} {ns : List Int}
    (KX : K.In s₁.heap) (hns : s₁.heap.Ns mainGlobals mg) (hb : s₁.heap.Ns builtinsNs mb) (hbb : ∀ x : Str, x ≠ "__name__" → mb x = bootBuiltins x) (hlim : s₁.heap.NoLimit) (hg : s₁.gens = #[])
    (ha : s₁.heap.get? a = some { cls := .type "list", data := .seq vs.toArray }) (hi : IntsAre vs ns) (hl : ns.length ≤ sizeLine) (hr : Room k callerA)
    (F : ∀ base : Heap, K.In base → base.Ns mainGlobals mg → FnOk P w K mg base CX k fa fd [x] sp) (hbind : ∀ (s : Shared) (u : Value), BindsTo s fd ⟨[u], []⟩ [(x, u)])
    (hsp : ∀ H : Hp, Only H → SqL K H a (ns.map V.int) → sp [.ref a] H (fun v _ => v = .bl true) fun _ _ _ => False)
    (hCX : ∀ H e s', CX [] H s₁ (fun _ _ _ => False) e s' → False) :
    codeAny (model P w) callerA (.call (.ref fa) ⟨[.ref a], []⟩) (fun r s' => r = .ok (.ret (.bool true)) ∧ OldK s₁.heap s'.heap ∧ s'.os = s₁.os ∧ AllBare s'.gens) s₁ := by
  have rv := vals_ints hi
  have lenV := hi.length
  -- from an abstract heap in which nothing but the script may be tracked
  have core : ∀ H : Hp, Only H → SqL K H a (ns.map V.int) → HOk P w H s₁.heap → (∀ b, H b ≠ none → b = a) → (H a ≠ none → K.lookup a = none) →
      codeAny (model P w) callerA (.call (.ref fa) ⟨[.ref a], []⟩) (fun r s' => r = .ok (.ret (.bool true)) ∧ OldK s₁.heap s'.heap ∧ s'.os = s₁.os ∧ AllBare s'.gens) s₁ := by
    intro H hO hS hok hA hK
    have base_of : ∀ {b : Addr} {o : Obj}, s₁.heap.get? b = some o → H b = none → (hidT s₁.heap H).get? b = some o := fun e n => hidT_get e n
    have noA : ∀ {b : Addr} {o : Obj} {es : Array DictEntry} {ep : Nat}, s₁.heap.get? b = some o → o.data = .dict es ep → H b = none := fun {b o es ep} e d => by
      cases q : H b with
      | none => rfl
      | some u =>
        have e' : b = a := hA b (by rw [q]; simp)
        subst e'
        rw [ha] at e; cases e
        have d' : Data.seq vs.toArray _ = Data.dict es ep := d
        cases d'
    have nsK : ∀ {b : Addr} {m : Str → Option Value}, s₁.heap.Ns b m → (hidT s₁.heap H).Ns b m := fun {b m} ⟨o, es, ep, e, d, r⟩ => ⟨o, es, ep, base_of e (noA e d), d, r⟩
    have hKb : K.In (hidT s₁.heap H) := fun b o e => base_of (KX b o e) (by
      cases q : H b with
      | none => rfl
      | some u =>
        have e' : b = a := hA b (by rw [q]; simp)
        subst e'
        rw [hK (by rw [q]; simp)] at e; cases e)
    have hM : Mod K mg (hidT s₁.heap H) := ⟨hKb, nsK hns, ⟨mb, nsK hb, hbb⟩, let ⟨mc, h1, h2⟩ := hlim; ⟨mc, nsK h1, h2⟩⟩
    have e0 : Env0 P w K mg (hidT s₁.heap H) callerA [] s₁ H := ⟨rfl, hM, fun b o e => of_hidT e, Nat.le_of_eq (hidT_size _ _), trivial, fun b hb => absurd (show b ∈ ([] : List Addr) from hb) (by simp), hok, .of_eq hg⟩
    refine codeAny_mono ((F _ hKb (nsK hns)).run callerA [] s₁ H ⟨[.ref a], []⟩ [.ref a] [.ref a] _ _ hr e0 (hbind s₁ (.ref a)) (.cons rfl .nil) (hsp H hO hS)) fun r s' h => ?_
    cases r with
    | error e => exact (hCX H e s' h).elim
    | ok fl =>
      cases fl with
      | next => exact False.elim h
      | brk => exact False.elim h
      | cont => exact False.elim h
      | ret u =>
        obtain ⟨v, H', os, bare, un, hok', r', q⟩ := h
        have q' : v = .bl true := q
        subst q'
        obtain rfl : u = Value.bool true := r'
        refine ⟨rfl, OldK.of_keep fun b o e => ?_, os, bare⟩
        cases q : H b with
        | none => exact un.keep b o e q (by intro z; exact absurd (show b ∈ ([] : List Addr) from z) (by simp)) (by simp)
        | some u =>
          rcases hO b with z | ⟨ob, xs, z⟩
          · rw [q] at z; cases z
          · have z2 := un.frzs b ob _ z
            obtain ⟨e1, _⟩ := hok b _ z
            obtain ⟨e2, _⟩ := hok' b _ z2
            rw [e] at e1; cases e1
            exact e2
  cases hk : K.lookup a with
  | some o =>
    -- the script is one of the module's own objects
    have e := KX a o hk
    rw [ha] at e
    cases e
    refine core (fun _ => none) (fun _ => .inl rfl) (.inr ⟨_, vs.toArray, _, hk, rfl, rfl, rfl, by rw [List.size_toArray, lenV]; exact hl, by simpa using rv⟩) (fun b u z => by have z' : (none : Option HO) = some u := z; cases z') (fun b z => absurd rfl z) fun z => absurd rfl z
  | none =>
    refine core (fun b => if b = a then some (.frz { cls := .type "list", data := .seq vs.toArray } (.lst (ns.map V.int))) else none) (fun b => ?_) (.inl (.inr ⟨{ cls := .type "list", data := .seq vs.toArray }, if_pos rfl⟩)) (fun b u z => ?_) (fun b z => ?_) fun _ => hk
    · by_cases hb : b = a
      · exact .inr ⟨_, _, if_pos hb⟩
      · exact .inl (if_neg hb)
    · by_cases hb : b = a
      · have z' := (if_pos hb).symm.trans z
        cases z'
        subst hb
        exact ⟨ha, by rw [List.length_map]; exact hl, vs, _, rv, ha⟩
      · have z' := (if_neg hb).symm.trans z
        cases z'
    · by_cases hb : b = a
      · exact hb
      · exact absurd (if_neg hb) z
end L2
namespace L2
open PySem PySem.Spec PyProof.Rows
abbrev KOf {K : PySem.W.Frag} {h : Heap} (_ : K.In h) : PySem.W.Frag := K
theorem walk_of {l : PySem.W.OpenLaw} {n k : Nat} {q : Program} {loose : List Str} {XP : (Str → Option Value) → Heap → Prop} {YP : World → Heap → Prop} {d : DefRec} {K : Params → PySem.W.Frag} {CX : World → CXT} {sp : World → Sp} {x : Str}
    (hn : l.most = some n) (hn2 : n ≤ sizeLine) (hdf : d.params.defaults = []) (hr : Room k callerA)
    (hY : ∀ (w : World) (h : Heap), YP w h → (K w.params).In h)
    (F : ∀ (w : World) (mg : Str → Option Value) (fa : Addr) (h : Heap), (K w.params).In h → h.Ns mainGlobals mg → mg d.name = some (.ref fa) →
      ∃ fd : FuncData, (∀ (s : Shared) (u : Value), BindsTo s fd ⟨[u], []⟩ [(x, u)]) ∧
        ∀ base : Heap, (K w.params).In base → base.Ns mainGlobals mg → FnOk l.prog w (K w.params) mg base (CX w) k fa fd [x] (sp w))
    (hsp : ∀ (w : World) (H : Hp) (a : Addr) (ns : List Int), ns.length ≤ n → Only H → SqL (K w.params) H a (ns.map V.int) → sp w [.ref a] H (fun v _ => v = .bl true) fun _ _ _ => False)
    (hCX : ∀ (w : World) (H : Hp) (s : Shared) (e : Value) (s' : Shared), CX w [] H s (fun _ _ _ => False) e s' → False) :
    PySem.W.WalkO q loose XP YP l.row.toRowW d [] (fun f vs => PySem.call f vs) := by
  refine Att.attach_call hn hdf fun w s₀ s₁ mg mb fa o pm cd doc a vs ns G Y ho hd hcd hmg hobj hints hlen hg => ?_
  have KX := hY w _ Y
  obtain ⟨fd, hb, hF⟩ := F w mg fa _ KX G.T.g hmg
  exact law_call KX G.T.g G.T.b G.T.builtins G.T.nolimit hg hobj hints (Nat.le_trans hlen hn2) hr hF hb (fun H hO hS => hsp w H a ns hlen hO hS) fun H e s' => hCX w H s₁ e s'
end L2
/- THE LAST THEOREM (shape; LID, My.* are yours):
   My.Adr: a structure of the addresses that your layer names (classes, functions); My.Txt K t: a structure (Prop) of the equations over K;
   My.txt_mk : {K} {implicit addresses ..} (e1 : nsIn K mainGlobals "law" = some (some (.ref f))) (e2 : K.lookup f = some ⟨oc, od, .func (fnOf "law" "law" params body scope dV kV doc pm an cdv ct), sl⟩) (e3 : codeIn K cdv "law" = true) .. : ∃ t, My.Txt K t
set_option maxRecDepth 100000 in
set_option maxHeartbeats 0 in
theorem PySem.Challenge.cw_LID_holds : PySem.Challenge.rw_LID.Holds := by
  w_on; o_law; k_head; (case hw => w_witness2)
  k_fill
  refine L2.walk_of (l := PySem.Challenge.rw_LID) (n := 63) (k := 40) (x := "script") (CX := fun w => ..) (sp := fun _ => My.sp_law) rfl (by decide) rfl ⟨rfl, by decide, by decide⟩ (fun w h Y => PySem.W.kIn_of Y) ?F ?S ?C
  case F =>
    intro w mg fa h KX G hmg
    have T : ∃ t, My.Txt (L2.KOf KX) t := by
      dsimp only [L2.KOf]                          -- K must stand as «<heap const> w.params» for k_is
      refine' My.txt_mk ?e1 ?e2 ?e3 ..
      (case e1 => PySem.W.k_is)                    -- in the order: a name -> its address -> its object -> its parts
      (case e2 => PySem.W.k_is)
      ..
    obtain ⟨t, T⟩ := T
    have e0 := hmg.symm.trans (PySem.W.mg_of KX G T.law)
    cases e0                                       -- fa is the law's own address
    exact ⟨_, fun s u => .of_eq rfl, fun base kb nb => My.law_fn T kb nb⟩     -- if «.of_eq rfl» comes too early: refine' ⟨_, ?b, fun base kb nb => My.law_fn T kb nb⟩; exact fun s u => .of_eq rfl
  case S => exact fun w H a ns hl hO hS => ..
  case C => exact ..
(the tactic k_is has no namespace: write k_is) -/
namespace L2
open PySem PySem.Spec PyProof.Rows
def defArgs (s : Stmt) : Arguments := match s with
  | .FunctionDef _ a _ _ _ _ _ _ _ _ => a
  | _ => { posonlyargs := [], args := [], vararg := none, kwonlyargs := [], kw_defaults := [], kwarg := none, defaults := [] }
def defBody (s : Stmt) : List Stmt := match s with
  | .FunctionDef _ _ b _ _ _ _ _ _ _ => b
  | _ => []
def defScope (s : Stmt) : Scope := match s with
  | .FunctionDef _ _ _ _ _ _ sc _ _ _ => sc
  | _ => { kind := .function, names := [], isGenerator := false, isCoroutine := false }
abbrev CX0 : CXT := fun _ _ _ _ _ _ => False
abbrev E0 : XK := fun _ _ _ => False
structure Fun (K : PySem.W.Frag) (x qual : Str) (st : Stmt) (f : Addr) (fd : FuncData) : Prop where
  ex : ∃ (oc : Value) (od : Option Addr) (kV doc pm : Value) (an : Option Addr) (cdv ct : Value) (osl : Array (Option Value)),
    fd = PySem.W.fnOf x qual (defArgs st) (defBody st) (defScope st) .none kV doc pm an cdv ct ∧ K.lookup f = some ⟨oc, od, .func fd, osl⟩ ∧ PySem.W.codeIn K cdv qual = true
  kp : PySem.W.keepIn K (.ref f) = true
section
variable {P : Program} {w : World} {K : PySem.W.Frag} {mg : Str → Option Value} {base : Heap}
theorem Fun.ok {x qual : Str} {st : Stmt} {f : Addr} {fd : FuncData} {N ps : List Str} {k : Nat} {sp : Sp} (F : Fun K x qual st f fd) (S : FnScope N ps (defScope st)) (len : ∀ vs H Q E, sp vs H Q E → vs.length = ps.length)
    (hbody : ∀ (cdv : Value) (A : Around) (outer : List Env) (s : Shared) (H : Hp) (vs : List V) (Q : VK) (E : XK), Room k (A.deeper (envOfC qual (defScope st) s.heap.objs.size f cdv)) → sp vs H Q E →
      ∃ t, PSs (cxOf CX0 P w K mg base N qual (defScope st) f cdv A outer s H E).nox (defBody st) t ∧ t { nx := fun _ H' => Q .non H', rt := Q } (start N vs) H) : FnOk P w K mg base CX0 (k + 1) f fd ps sp := by
  obtain ⟨oc, od, kV, doc, pm, an, cdv, ct, osl, rfl, lk, hcd⟩ := F.ex
  refine fn_of lk hcd S len fun A outer s H vs Q E hr hsp => ?_
  obtain ⟨t, h, q⟩ := hbody cdv A outer s H vs Q E hr hsp
  exact ⟨t, h.nox, q⟩
theorem Fun.binds {x qual : Str} {st : Stmt} {f : Addr} {fd : FuncData} {ps : List Str} (F : Fun K x qual st f fd)
    (h : ∀ (kV doc pm : Value) (an : Option Addr) (cdv ct : Value) (us : List Value), us.length = ps.length → bindArgs (PySem.W.fnOf x qual (defArgs st) (defBody st) (defScope st) .none kV doc pm an cdv ct) ⟨us, []⟩ = pure (ps.zip us)) : Binds K fd ps [] := by
  obtain ⟨oc, od, kV, doc, pm, an, cdv, ct, osl, rfl, lk, hcd⟩ := F.ex
  exact .all (h kV doc pm an cdv ct)
theorem fun_mk {x qual : Str} {st : Stmt} {f : Addr} {oc : Value} {od an : Option Addr} {osl : Array (Option Value)} {kV doc pm cdv ct : Value} (l : K.lookup f = some ⟨oc, od, .func (PySem.W.fnOf x qual (defArgs st) (defBody st) (defScope st) .none kV doc pm an cdv ct), osl⟩)
    (c : PySem.W.codeIn K cdv qual = true) (k : PySem.W.keepIn K (.ref f) = true) : Fun K x qual st f (PySem.W.fnOf x qual (defArgs st) (defBody st) (defScope st) .none kV doc pm an cdv ct) := ⟨⟨oc, od, kV, doc, pm, an, cdv, ct, osl, rfl, l, c⟩, k⟩
end
section
variable {X : Cx}
theorem pv (i : Nat) {x : Str} {pos : Pos} (hN : X.N[i]? = some x := by rfl) (hv : Vis X.env.scope x := by first | exact Or.inl rfl | exact Or.inr (Or.inl rfl) | exact Or.inr (Or.inr rfl)) (hd : (x == ("__debug__" : Str)) = false := by decide)
    (hcd : (x == ("__classdict__" : Str)) = false := by decide) : PE X (.Name x pos) (tVar i) := pe_var hN hv hd hcd
end
def Same (H H' : Hp) : Prop := ∀ b o, H b = some o → H' b = some o
theorem Same.trans {H H1 H2 : Hp} (a : Same H H1) (b : Same H1 H2) : Same H H2 := fun c o h => b c o (a c o h)
theorem Same.free {H H' : Hp} (e : Same H H') {l : Addr} (h : H' l = Option.none) : H l = Option.none := by
  cases q : H l with
  | none => rfl
  | some o =>
    rw [e l o q] at h
    cases h
section
variable {κ : Type} [DecidableEq κ]
end
end L2
namespace BB
open PySem PySem.Spec PyProof.Rows L2
structure Def (K : PySem.W.Frag) (mg : Str → Option Value) (x : Str) (st : Stmt) : Prop where
  ex : ∃ f fd, Fun K x x st f fd ∧ mg x = some (.ref f)
structure Can (P : Program) (w : World) (K : PySem.W.Frag) (mg : Str → Option Value) (base : Heap) (CX : CXT) (k : Nat) (x : Str) (ps : List Str) (sp : Sp) : Prop where
  ex : ∃ f fd, FnOk P w K mg base CX k f fd ps sp ∧ mg x = some (.ref f) ∧ PySem.W.keepIn K (.ref f) = true ∧ Binds K fd ps []
section
variable {P : Program} {w : World} {K : PySem.W.Frag} {mg : Str → Option Value} {base : Heap}
end
section
variable {X : Cx} {x : Str} {k : Nat} {ps : List Str} {sp : Sp} {p pos : Pos} {e : Expr} {es : List Expr} {t : TA}
end
theorem bt_max : bootBuiltins "max" = some (.builtin "max") := by decide +kernel
theorem bt_len : bootBuiltins "len" = some (.builtin "len") := by decide +kernel
theorem bt_all : bootBuiltins "all" = some (.builtin "all") := by decide +kernel
theorem bt_isinstance : bootBuiltins "isinstance" = some (.builtin "isinstance") := by decide +kernel
theorem bt_int : bootBuiltins "int" = some (.type "int") := by decide +kernel
theorem bt_str : bootBuiltins "str" = some (.type "str") := by decide +kernel
theorem bt_bool : bootBuiltins "bool" = some (.type "bool") := by decide +kernel
theorem bt_list : bootBuiltins "list" = some (.type "list") := by decide +kernel
theorem bt_tuple : bootBuiltins "tuple" = some (.type "tuple") := by decide +kernel
structure Tm (X : Cx) (b : List Stmt) where
  t : TS
  h : PSs X b t
section
variable {K : PySem.W.Frag} {h : Heap} {mg : Str → Option Value} {f : Addr} {od an : Option Addr} {sl : Array (Option Value)} {oc kV doc pm cd ct : Value}
theorem mk_def {x : Str} {st : Stmt} (X : K.In h) (G : h.Ns mainGlobals mg) (a : PySem.W.nsIn K mainGlobals x = some (some (.ref f)))
    (l : K.lookup f = some ⟨oc, od, .func (PySem.W.fnOf x x (defArgs st) (defBody st) (defScope st) .none kV doc pm an cd ct), sl⟩) (c : PySem.W.codeIn K cd x = true) (k : PySem.W.keepIn K (.ref f) = true) : Def K mg x st :=
  ⟨f, _, fun_mk l c k, PySem.W.mg_of X G a⟩
theorem mk_law {P : Program} {w : World} {st : Stmt} {fa : Addr} {x : Str} {k : Nat} {CX : CXT} {sp : Sp} (X : K.In h) (G : h.Ns mainGlobals mg) (hfa : mg "law" = some (.ref fa)) (a : PySem.W.nsIn K mainGlobals "law" = some (some (.ref f)))
    (l : K.lookup f = some ⟨oc, od, .func (PySem.W.fnOf "law" "law" (defArgs st) (defBody st) (defScope st) .none kV doc pm an cd ct), sl⟩) (c : PySem.W.codeIn K cd "law" = true) (kp : PySem.W.keepIn K (.ref f) = true)
    (hb : ∀ (kV doc pm : Value) (an : Option Addr) (cd ct v : Value), bindArgs (PySem.W.fnOf "law" "law" (defArgs st) (defBody st) (defScope st) .none kV doc pm an cd ct) ⟨[v], []⟩ = pure [(x, v)])
    (ok : ∀ (fd : FuncData) (base : Heap), Fun K "law" "law" st fa fd → FnOk P w K mg base CX k fa fd [x] sp) :
    ∃ fd : FuncData, (∀ (s : Shared) (v : Value), BindsTo s fd ⟨[v], []⟩ [(x, v)]) ∧ ∀ base : Heap, K.In base → base.Ns mainGlobals mg → FnOk P w K mg base CX k fa fd [x] sp := by
  have e := hfa.symm.trans (PySem.W.mg_of X G a)
  cases e
  exact ⟨_, fun s v => .of_eq (hb kV doc pm an cd ct v), fun base _ _ => ok _ base (fun_mk l c kp)⟩
end
end BB
namespace BB
open PySem PySem.Spec PyProof.Rows L2
def cxComp (X : Cx) (scope : Scope) (cl : List (Str × Addr)) (C : Addr) (N : List Str) (s : Shared) (H : Hp) (ex : List Addr) (pn : List (Addr × Obj)) : Cx :=
  { X with env := compEnvC scope cl C X.env, N := N, s₀ := s, H₀ := H, outer := X.stack, ex := ex, fn := fun _ => false, pn := pn, xe := fun _ _ => False }
structure CompSc (X : Cx) (scope : Scope) (cl : List (Str × Addr)) (x : Str) (N : List Str) (ci : List Nat) : Prop where
  clos : closureFor scope X.env = pure cl
  ncell : ∀ y ∈ scope.names, y.2 ≠ .cell
  kind : scope.kind = .function
  names : ∀ y ∈ scope.names, y.2 = .local → scope.names.lookup y.1 = some .local
  hx : scope.names.lookup x = some .local
  n0 : N[0]? = some x
  nd : N.Nodup
  len : N.length = ci.length + 1
  sub : ∀ y c, cl.lookup y = some c → X.env.cells.lookup y = some c
  has : ∀ y ∈ scope.names, y.2 = .free → (cl.lookup y.1).isSome = true
  cap : ∀ j i y, ci[j]? = some i → N[j + 1]? = some y → X.N[i]? = some y ∧ X.env.kindOf y = some .cell ∧ (relabel scope X.env).names.lookup y = some .cell
def capS (ci : List Nat) (σ : L2.St) : L2.St := ci.map fun i => (σ[i]?).join
theorem un_but {fs ex : List Addr} {H H' : Hp} {h h1 h2 : Heap} {C : Addr} (u : Un fs ex H H' h h1) (hs : Heap.SameBut C h1 h2) (hC : h.objs.size ≤ C) : Un fs ex H H' h h2 where
  keep := fun b o e n hb hx => (hs.2 b (Nat.ne_of_lt (Nat.lt_of_lt_of_le (Heap.lt_size e) hC))).trans (u.keep b o e n hb hx)
  slot := fun b o e n hb hx => let ⟨sl, q⟩ := u.slot b o e n hb hx; ⟨sl, (hs.2 b (Nat.ne_of_lt (Nat.lt_of_lt_of_le (Heap.lt_size e) hC))).trans q⟩
  free := u.free
  there := fun b o e hx => let ⟨o', q⟩ := u.there b o e hx; ⟨o', (hs.2 b (Nat.ne_of_lt (Nat.lt_of_lt_of_le (Heap.lt_size e) hC))).trans q⟩
  tups := u.tups
  frzs := u.frzs
  tbls := u.tbls
theorem hok_but {P : Program} {w : World} {H : Hp} {h h' : Heap} {C : Addr} (x : HOk P w H h) (hs : Heap.SameBut C h h') (hC : H C = none) : HOk P w H h' := fun a o e =>
  (x a o e).stay (fun b u hb q => (hs.2 b (by
    rintro rfl
    rcases hb with rfl | hb
    · rw [hC] at e; cases e
    · rw [hC] at hb; cases hb)).trans q) (fun _ q => q) fun _ _ q => q
theorem lookup_mem {α β : Type} [BEq α] [LawfulBEq α] : ∀ {l : List (α × β)} {a : α} {b : β}, l.lookup a = some b → (a, b) ∈ l
  | [], _, _, h => by cases h
  | (a', b') :: r, a, b, h => by
    rw [List.lookup_cons] at h
    cases e : a == a' with
    | true => rw [e] at h; cases h; rw [eq_of_beq e]; exact List.mem_cons_self
    | false => rw [e] at h; exact List.mem_cons_of_mem _ (lookup_mem h)
end BB
namespace BB
open PySem PySem.Spec PyProof.Rows L2
def sgn (c : Nat) : V := .str ⟨#[c]⟩
def Its (x : Str) : It := ⟨fun i _ => i < x.length, fun i H v H' => H' = H ∧ ∃ c, x.cps[i]? = some c ∧ v = sgn c, fun i _ => i = x.length⟩
theorem turn_str {P : Program} {w : World} {K : PySem.W.Frag} {tg : Expr} (it : Addr) (x : Str) (t : Tok) (T : String)
    (hT : ["enumerate", "zip", "dict_itemiterator", "dict_reverseitemiterator", "odict_iterator", "itertools.zip_longest", "itertools.pairwise"].contains T = false)
    (S : ∀ (A : Around) (i : Nat) (s : Shared) (Q : Value → Shared → Prop) (E : Value → Shared → Prop), s.heap.IsStrIter it T x t i → Q (.ref it) s → wpAny (model P w) A (pyIter (.ref it)) Q E s)
    (W : ∀ A : Around, A.handled = none → Walks P w A it [it] [it] x.cps.size (SignAt x) (fun i h => h.IsStrIter it T x t i)) : Turn P w K tg (Its x) [it] it (fun i h => h.IsStrIter it T x t i) where
  mem := by simp
  obj := fun i h st b hb => by
    have e : b = it := by simpa using hb
    subst e
    obtain ⟨o, e, c, d⟩ := st
    exact ⟨o, e, fun v z => by rw [d] at z; cases z⟩
  keep := fun i h h' st k => let ⟨o, ho, r⟩ := st; ⟨o, k it (by simp) o ho, r⟩
  item := by
    intro X hP hw hK hc i pins s σ H E I hf st hg
    subst hP hw hK
    obtain ⟨f0, f1, f2, f3, f4, f5⟩ := hf it (by simp)
    refine (W X.A (I.ok.hd hc)).item i s _ _ (show i < x.cps.size from hg) st fun v h' tk hv st' kk => ?_
    obtain ⟨c, u, hcx, rfl⟩ := hv
    have I1 : L2.Inv X pins σ H { s with heap := h', toks := tk } := I.turned (fun b o hb e => kk b o (by simpa using hb) e) f0 f1 f3 f4 f5
    obtain ⟨o, e, cc, d⟩ := id st'
    exact ⟨_, rfl, go_of (s := { s with heap := h', toks := tk }) e cc d hT ⟨sgn c, H, I1, ⟨u, rfl⟩, ⟨rfl, c, hcx, rfl⟩, st', fun b hb => (hf b hb).1⟩⟩
  done := by
    intro X hP hw hK hc i pins s σ H E I hf st hg
    subst hP hw hK
    obtain ⟨f0, f1, f2, f3, f4, f5⟩ := hf it (by simp)
    have hi : i = x.cps.size := hg
    subst hi
    exact (W X.A (I.ok.hd hc)).done s _ _ st fun h' tk kk => ⟨rfl, I.turned (fun b o hb e => kk b o (by simpa using hb) e) f0 f1 f3 f4 f5⟩
  self := S
def iStr (tl : TE) : TI := fun σ H R => tl σ H fun x H1 => ∃ z, x = .str z ∧ R (Its z) H1
theorem pi_str {X : Cx} {tg l : Expr} {tl : TE} (hl : PE X l tl) : PI X tg l (iStr tl) := by
  intro pins s σ H R I h
  refine thn (hl pins s σ H _ I h) fun v s1 ⟨x, H1, I1, r1, q1⟩ => ?_
  obtain ⟨z, e, q⟩ := q1
  subst e
  obtain ⟨t, rfl⟩ := r1
  have fp : ∀ b ∈ [s1.heap.objs.size], FpOk X pins H1 b := fun b hb => by
    have e : b = s1.heap.objs.size := by simpa using hb
    subst e
    exact I1.fpOk (Nat.le_refl _) (I1.hok.fresh (Nat.le_refl _))
  cases ha : z.cps.all (· < 128)
  · refine wpAny_pyIter_wide ha ?_
    exact ⟨s1.heap.objs.size, [s1.heap.objs.size], _, _, H1, rfl, I1.kept (t' := s1.toks) fun b o e => Heap.get?_push_of_some _ e, turn_str _ z t "str_iterator" (by decide) (fun _ _ _ _ _ st h => wpAny_pyIter_striter_wide st h) fun A hA => Walks.strWide hA _ z t,
      ⟨_, Heap.get?_push_size _ rfl, rfl, rfl⟩, fp, q⟩
  · refine wpAny_pyIter_ascii ha ?_
    exact ⟨s1.heap.objs.size, [s1.heap.objs.size], _, _, H1, rfl, I1.kept (t' := s1.toks) fun b o e => Heap.get?_push_of_some _ e, turn_str _ z t "str_ascii_iterator" (by decide) (fun _ _ _ _ _ st h => wpAny_pyIter_striter_ascii st h) fun A hA => Walks.strAscii hA _ z t,
      ⟨_, Heap.get?_push_size _ rfl, rfl, rfl⟩, fp, q⟩
theorem all_range (bs : List Bool) : (List.range bs.length).all (fun i => bs.getD i false) = bs.all id := by
  rw [Bool.eq_iff_iff, List.all_eq_true, List.all_eq_true]
  constructor
  · intro h b hb
    obtain ⟨i, hi, rfl⟩ := List.getElem_of_mem hb
    have := h i (List.mem_range.mpr hi)
    simpa [List.getD, hi] using this
  · intro h i hi
    have hi' := List.mem_range.mp hi
    have := h bs[i] (List.getElem_mem hi')
    simpa [List.getD, hi'] using this
theorem truth_bools {P : Program} {w : World} {A : Around} {bs : List Bool} {its : List Value} (r : Vals (bs.map V.bl) its) : TruthOf P w A (fun i v => its.toArray[i]? = some v) (fun i => bs.getD i false) := by
  intro i v s Q E hv q
  have hv' : its[i]? = some v := by simpa using hv
  have hl := r.length
  have hi : i < bs.length := by
    have := (List.getElem?_eq_some_iff.mp hv').1
    simp at hl; omega
  obtain ⟨u, hu, ru⟩ := r.get (i := i) (x := V.bl bs[i]) (by simp [hi])
  rw [hv'] at hu
  cases hu
  cases ru
  refine wpAny_truthy_bool ?_
  have e : bs.getD i false = bs[i] := by simp [List.getD, hi]
  dsimp only at q
  rw [e] at q
  exact q
theorem call_all {X : Cx} (hc : X.calm = true) : CallR X (.builtin "all") (fun xs H Q => ∃ (p : Addr) (bs : List Bool), xs = [.ref p] ∧ SqL X.K H p (bs.map V.bl) ∧ Q (.bl (bs.all id)) H) := by
  intro pins s σ H xs us Q I r h
  obtain ⟨p, bs, rfl, hq, q⟩ := h
  obtain ⟨u, rfl, ru⟩ := vals1 r
  cases ru
  obtain ⟨its, rv, pl, hz⟩ := I.list hq
  have hh : X.A.in1.handled = none := I.ok.hd hc
  refine call_all_walk (wpAny_pyIter_list pl.isList ?_)
  obtain ⟨ol, hol, hol'⟩ := id pl.isList
  have hne : p ≠ s.heap.objs.size := Nat.ne_of_lt (Heap.lt_size hol)
  refine ⟨s.heap.objs.size, _, _, its.toArray.size, _, _, fun i => bs.getD i false, rfl, Walks.list hh s.heap.objs.size p hne its.toArray, ⟨⟨_, Heap.get?_push_size _ rfl, rfl, rfl⟩, ⟨ol, Heap.get?_push_of_some _ hol, hol'⟩⟩, truth_bools rv, fun h' tk hk => ?_⟩
  have hl : its.toArray.size = bs.length := by have := rv.length; simp at this; simp [this]
  rw [hl, all_range]
  refine ⟨.bl _, H, I.kept (h' := h') (t' := tk) fun b o e => hk b o ?_ (Heap.get?_push_of_some _ e), rfl, q⟩
  intro hb
  have e' : b = s.heap.objs.size := by simpa using hb
  exact absurd (Heap.lt_size e) (by rw [e']; exact Nat.lt_irrefl _)
def partP (x y : Str) : Str × Str × Str := match Builtin.Str.occurrences x y 0 x.length 1 with
  | i :: _ => (Builtin.Str.strSub x 0 i, y, Builtin.Str.strSub x (i + y.length) x.length)
  | [] => (x, Str.empty, Str.empty)
theorem mt_partition {X : Cx} : MtR X "str.partition" (fun x xs H Q => ∃ z y, x = .str z ∧ xs = [.str y] ∧ (y.length == 0) = false ∧ z.length ≤ sizeLine ∧ ∀ p, H p = none → Q (.ref p) (upd H p (.tup [.str (partP z y).1, .str (partP z y).2.1, .str (partP z y).2.2]))) := by
  intro pins s σ H x xs v us Q I rx rs h
  obtain ⟨z, y, rfl, rfl, hy, hz, q⟩ := h
  obtain ⟨t, rfl⟩ := rx
  obtain ⟨u, rfl, t', rfl⟩ := vals1 rs
  refine call_meets PySem.F.slot_str_partition (typeIs_str s z t) PySem.F.entry_str_partition (PySem.F.args_str_partition_2 _ _) (meets_str_partition z y t t' hy hz) ?_
  have hn : H s.heap.objs.size = none := I.hok.fresh (Nat.le_refl _)
  have q2 := q _ hn
  have le : ∀ a b : Nat, (Builtin.Str.strSub z a b).length ≤ sizeLine := fun a b => Nat.le_trans (strSub_length_le ..) hz
  unfold partP at q2
  cases ho : Builtin.Str.occurrences z y 0 z.length 1 with
  | nil =>
    rw [ho] at q2
    refine ⟨.ref s.heap.objs.size, _, I.laid (o := .tup [.str z, .str Str.empty, .str Str.empty]) (t' := s.toks + 1) (fun b o e => Heap.get?_push_of_some _ e) (Nat.le_refl _) ⟨(by show 3 ≤ sizeLine; decide), [.str z t, .str Str.empty s.toks, .str Str.empty s.toks], .cons ⟨_, rfl⟩ (.cons ⟨_, rfl⟩ (.cons ⟨_, rfl⟩ .nil)), ⟨_, Heap.get?_push_size s.heap rfl, rfl, 0, rfl⟩⟩, rfl, q2⟩
  | cons i r =>
    rw [ho] at q2
    refine ⟨.ref s.heap.objs.size, _, I.laid (o := .tup [.str (Builtin.Str.strSub z 0 i), .str y, .str (Builtin.Str.strSub z (i + y.length) z.length)]) (t' := s.toks + 1 + 1) (fun b o e => Heap.get?_push_of_some _ e) (Nat.le_refl _) ⟨(by show 3 ≤ sizeLine; decide), [.str (Builtin.Str.strSub z 0 i) s.toks, .str y t', .str (Builtin.Str.strSub z (i + y.length) z.length) (s.toks + 1)], .cons ⟨_, rfl⟩ (.cons ⟨_, rfl⟩ (.cons ⟨_, rfl⟩ .nil)), ⟨_, Heap.get?_push_size s.heap rfl, rfl, 0, rfl⟩⟩, rfl, q2⟩
def KDict (P : Program) (w : World) (K : PySem.W.Frag) (a : Addr) (kvs : List (Key × V)) : Prop :=
  kvs.length ≤ sizeLine ∧ (a == sysModules) = false ∧ ∀ h : Heap, K.In h → ∃ vs, KV kvs vs ∧ h.DictOf (mixKind P w) a vs
def entK (p : Params) (x : Str) (t : Tok) (v : Value) : DictEntry := { hash := PyData.keyHash p x, key := .str x t, val := v }
theorem pairs_mk {P : Program} {w : World} : ∀ (l : List (Str × Tok × Value)), Pairs (mixKind P w) (l.map fun p => entK w.params p.1 p.2.1 p.2.2) (l.map fun p => ((Sum.inr p.1 : Key), p.2.2))
  | [] => .nil
  | p :: r => .cons (mixKind_str P w p.1 p.2.1) rfl (pairs_mk r)
theorem kdict_mk {P : Program} {w : World} {K : PySem.W.Frag} {a : Addr} {ep : Nat} (l : List (Str × Tok × Value)) (kvs : List (Key × V)) (lk : K.lookup a = some { cls := .type "dict", data := .dict (l.map fun p => entK w.params p.1 p.2.1 p.2.2).toArray ep })
    (nd : (l.map fun p => (Sum.inr p.1 : Key)).Nodup) (rel : KV kvs (l.map fun p => ((Sum.inr p.1 : Key), p.2.2))) (hz : l.length ≤ sizeLine) (ha : (a == sysModules) = false) : KDict P w K a kvs := by
  refine ⟨by rw [show kvs.length = (l.map fun p => ((Sum.inr p.1 : Key), p.2.2)).length from Paired.length rel, List.length_map]; exact hz, ha, fun h KX => ⟨_, rel, _, _, ep, KX _ _ lk, ⟨rfl, rfl, rfl⟩, rfl, ?_, ?_, ?_⟩⟩
  · intro e he
    obtain ⟨p, _, rfl⟩ := List.mem_map.mp (List.mem_toArray.mp he)
    exact ⟨Sum.inr p.1, mixKind_str P w p.1 p.2.1, rfl⟩
  · exact pairs_mk l
  · rw [List.map_map]; exact nd
theorem kd6 {P : Program} {w : World} {K : PySem.W.Frag} {a : Addr} {ep : Nat} {x1 x2 x3 x4 x5 x6 : Str} {t1 t2 t3 t4 t5 t6 u1 u2 u3 u4 u5 u6 : Tok} {i1 i2 i3 i4 i5 i6 : Int}
    (lk : K.lookup a = some { cls := .type "dict", data := .dict #[entK w.params x1 t1 (.int i1 u1), entK w.params x2 t2 (.int i2 u2), entK w.params x3 t3 (.int i3 u3), entK w.params x4 t4 (.int i4 u4), entK w.params x5 t5 (.int i5 u5), entK w.params x6 t6 (.int i6 u6)] ep })
    (nd : ([x1, x2, x3, x4, x5, x6].map fun p => (Sum.inr p : Key)).Nodup) (ha : (a == sysModules) = false) :
    KDict P w K a [(Sum.inr x1, .int i1), (Sum.inr x2, .int i2), (Sum.inr x3, .int i3), (Sum.inr x4, .int i4), (Sum.inr x5, .int i5), (Sum.inr x6, .int i6)] :=
  kdict_mk [(x1, t1, .int i1 u1), (x2, t2, .int i2 u2), (x3, t3, .int i3 u3), (x4, t4, .int i4 u4), (x5, t5, .int i5 u5), (x6, t6, .int i6 u6)] _ lk nd
    (.cons ⟨rfl, _, rfl⟩ (.cons ⟨rfl, _, rfl⟩ (.cons ⟨rfl, _, rfl⟩ (.cons ⟨rfl, _, rfl⟩ (.cons ⟨rfl, _, rfl⟩ (.cons ⟨rfl, _, rfl⟩ .nil)))))) (by show 6 ≤ sizeLine; decide) ha
example {K : PySem.W.Frag} : PySem.W.kitOne K (.type "int") (.type "int") = some true := rfl
example {K : PySem.W.Frag} : PySem.W.kitOne K (.type "bool") (.type "int") = some true := rfl
example {K : PySem.W.Frag} : PySem.W.kitOne K (.type "str") (.type "int") = some false := rfl
example {K : PySem.W.Frag} : PySem.W.kitOne K (.type "NoneType") (.type "tuple") = some false := rfl
end BB
namespace BB
open PySem PySem.Spec PyProof.Rows L2
def clOf (cells : List (Str × Addr)) : List (Str × NameKind) → List (Str × Addr) → List (Str × Addr)
  | [], acc => acc
  | (n, k) :: r, acc => clOf cells r (if (k == .free) = true then (n, (cells.lookup n).getD 0) :: acc else acc)
theorem clos_go {env : Env} : ∀ (names : List (Str × NameKind)) (acc : List (Str × Addr)), (∀ y ∈ names, y.2 = .free → ∃ c, env.cells.lookup y.1 = some c) →
    (forIn names acc fun (x : Str × NameKind) cs => do
      if (x.2 == NameKind.free) = true then do
        let a ← cellOf env x.1
        pure (ForInStep.yield ((x.1, a) :: cs))
      else pure (ForInStep.yield cs) : Sem (List (Str × Addr))) = pure (clOf env.cells names acc)
  | [], acc, _ => rfl
  | (n, k) :: r, acc, h => by
    have ih := fun acc => clos_go (env := env) r acc fun y hy => h y (List.mem_cons_of_mem _ hy)
    rw [List.forIn_cons]
    unfold clOf
    by_cases hk : (k == NameKind.free) = true
    · obtain ⟨c, hc⟩ := h (n, k) List.mem_cons_self (by simpa using hk)
      simp only [hk, if_true, cellOf, hc, Option.getD_some]
      exact ih _
    · simp only [if_neg hk]
      exact ih _
theorem closureFor_cl {scope : Scope} {env : Env} (h : ∀ y ∈ scope.names, y.2 = .free → ∃ c, env.cells.lookup y.1 = some c) : closureFor scope env = pure (clOf env.cells scope.names []) := by
  unfold closureFor
  have e := clos_go (env := env) scope.names [] h
  show ((forIn scope.names ([] : List (Str × Addr)) fun (x : Str × NameKind) cs => do
      if (x.2 == NameKind.free) = true then do
        let a ← cellOf env x.1
        pure (ForInStep.yield ((x.1, a) :: cs))
      else pure (ForInStep.yield cs) : Sem (List (Str × Addr))) >>= fun cs => pure cs) = _
  rw [e]
  rfl
theorem clOf_sub {cells : List (Str × Addr)} : ∀ {names : List (Str × NameKind)} {acc : List (Str × Addr)}, (∀ y ∈ names, y.2 = .free → ∃ c, cells.lookup y.1 = some c) → (∀ y c, acc.lookup y = some c → cells.lookup y = some c) →
    ∀ y c, (clOf cells names acc).lookup y = some c → cells.lookup y = some c
  | [], acc, _, ha => ha
  | (n, k) :: r, acc, h, ha => by
    unfold clOf
    refine clOf_sub (fun y hy => h y (List.mem_cons_of_mem _ hy)) fun y c e => ?_
    by_cases hk : (k == NameKind.free) = true
    · rw [if_pos hk, List.lookup_cons] at e
      obtain ⟨c', hc⟩ := h (n, k) List.mem_cons_self (by simpa using hk)
      cases hb : y == n with
      | true =>
        rw [hb] at e
        have hc' : cells.lookup n = some c' := hc
        rw [hc'] at e
        rw [eq_of_beq hb, hc']
        exact e
      | false => rw [hb] at e; exact ha y c e
    · rw [if_neg hk] at e
      exact ha y c e
theorem clOf_has {cells : List (Str × Addr)} : ∀ {names : List (Str × NameKind)} {acc : List (Str × Addr)} {y : Str}, ((∃ k, (y, k) ∈ names ∧ k = .free) ∨ (acc.lookup y).isSome = true) → ((clOf cells names acc).lookup y).isSome = true
  | [], acc, y, h => by
    rcases h with ⟨k, hk, _⟩ | h
    · cases hk
    · exact h
  | (n, k) :: r, acc, y, h => by
    unfold clOf
    refine clOf_has ?_
    have push : ∀ z : Addr, (acc.lookup y).isSome = true ∨ y = n → (((n, z) :: acc).lookup y).isSome = true := fun z hz => by
      rw [List.lookup_cons]
      cases hb : y == n with
      | true => rfl
      | false =>
        rcases hz with hz | hz
        · exact hz
        · rw [hz] at hb; simp at hb
    rcases h with ⟨k', hk', e⟩ | h
    · rcases List.mem_cons.mp hk' with z | z
      · cases z
        subst e
        refine .inr ?_
        rw [if_pos (show (NameKind.free == NameKind.free) = true from rfl)]
        exact push _ (.inr rfl)
      · exact .inl ⟨k', z, e⟩
    · refine .inr ?_
      by_cases hk : (k == NameKind.free) = true
      · rw [if_pos hk]; exact push _ (.inl h)
      · rw [if_neg hk]; exact h
theorem relabel_free {env : Env} (hk : (env.scope.kind == .function) = true) : ∀ {names : List (Str × NameKind)} {x : Str}, names.lookup x = some .free → env.kindOf x = some .cell →
    (names.map fun (n, k) => if (k == NameKind.free && env.scope.kind == .function && env.kindOf n == some .cell) then (n, NameKind.cell) else (n, k)).lookup x = some .cell
  | [], _, h, _ => by simp at h
  | (n, k) :: r, x, h, hx => by
    have ih := @relabel_free env hk r x
    show List.lookup x ((if (k == NameKind.free && env.scope.kind == .function && env.kindOf n == some .cell) = true then (n, NameKind.cell) else (n, k)) :: _) = _
    cases hb : x == n with
    | true =>
      simp only [List.lookup_cons, hb] at h
      cases h
      have hn : env.kindOf n = some .cell := by rw [← eq_of_beq hb]; exact hx
      rw [if_pos (by simp [hk, hn])]
      simp [List.lookup_cons, hb]
    | false =>
      simp only [List.lookup_cons, hb] at h
      split
      · simp only [List.lookup_cons, hb]; exact ih h hx
      · simp only [List.lookup_cons, hb]; exact ih h hx
def compLook (N0 : List Str) (sc0 : Scope) (sc : Scope) (x : Str) (N : List Str) (ci : List Nat) : Bool :=
  (sc.kind == .function) && (sc0.kind == .function) && (sc.names.all fun y => y.2 != .cell && (y.2 != .local || sc.names.lookup y.1 == some .local) && (y.2 != .free || sc0.names.lookup y.1 == some .cell)) &&
  (sc.names.lookup x == some .local) && (N[0]? == some x) && decide N.Nodup && (N.length == ci.length + 1) &&
  ((List.range ci.length).all fun j => (N0[ci.getD j 0]? == N[j + 1]?) && (match N[j + 1]? with | some y => sc0.names.lookup y == some .cell && sc.names.lookup y == some .free | none => false))
theorem compSc_of {X : Cx} {sc0 sc : Scope} {x : Str} {N : List Str} {ci : List Nat} {N0 : List Str} (h : compLook N0 sc0 sc x N ci = true) (hN : X.N = N0) (hE : X.env.scope = sc0) (hc : ∀ y, sc0.names.lookup y = some .cell → (X.env.cells.lookup y).isSome = true) :
    CompSc X sc (clOf X.env.cells sc.names []) x N ci := by
  subst hE
  subst hN
  unfold compLook at h
  simp only [Bool.and_eq_true] at h
  obtain ⟨⟨⟨⟨⟨⟨⟨h1, h0⟩, h2⟩, h3⟩, h4⟩, h5⟩, h6⟩, h7⟩ := h
  have h2' := List.all_eq_true.mp h2
  have hf : ∀ y ∈ sc.names, y.2 = .free → X.env.scope.names.lookup y.1 = some .cell := fun y hy e => by
    have := h2' y hy
    simp only [Bool.and_eq_true, Bool.or_eq_true] at this
    rcases this.2 with z | z
    · rw [e] at z; simp at z
    · simpa using z
  have hfc : ∀ y ∈ sc.names, y.2 = .free → ∃ c, X.env.cells.lookup y.1 = some c := fun y hy e => Option.isSome_iff_exists.mp (hc _ (hf y hy e))
  refine ⟨closureFor_cl hfc, fun y hy e => ?_, by simpa using h1, fun y hy e => ?_, by simpa using h3, by simpa using h4, of_decide_eq_true h5, by simpa using h6, clOf_sub hfc (fun y c e => nomatch e), fun y hy e => clOf_has (.inl ⟨y.2, hy, e⟩), fun j i y ej ey => ?_⟩
  · have := h2' y hy
    rw [e] at this; simp at this
  · have := h2' y hy
    simp only [Bool.and_eq_true, Bool.or_eq_true] at this
    rcases this.1.2 with z | z
    · rw [e] at z; simp at z
    · simpa using z
  · have hj : j < ci.length := (List.getElem?_eq_some_iff.mp ej).1
    have := List.all_eq_true.mp h7 j (List.mem_range.mpr hj)
    rw [ey] at this
    have e1 : ci.getD j 0 = i := by simp [List.getD, ej]
    rw [e1] at this
    simp only [Bool.and_eq_true, beq_iff_eq] at this
    exact ⟨this.1, this.2.1, relabel_free h0 this.2.2 this.2.1⟩
theorem pe_const {X : Cx} {x : Str} {v : V} {pos : Pos} (hg : Gl X x) (h : ∃ u, X.mg x = some u ∧ RelV v u) (hd : (x == ("__debug__" : Str)) = false := by decide) : PE X (.Name x pos) (tC v) := by
  obtain ⟨u, hm, r⟩ := h
  exact pe_glob hg hm r hd
inductive Kd where | non | bl | int | str | lst | tup | dct
  deriving DecidableEq
inductive IsK (H : Hp) : V → Kd → Prop where
  | non : IsK H .non .non
  | bl (b : Bool) : IsK H (.bl b) .bl
  | int (i : Int) : IsK H (.int i) .int
  | str (x : Str) : IsK H (.str x) .str
  | lst {a : Addr} {xs : List V} (e : H a = some (.lst xs)) : IsK H (.ref a) .lst
  | tup {a : Addr} {xs : List V} (e : H a = some (.tup xs)) : IsK H (.ref a) .tup
  | dct {a : Addr} {kvs : List (Key × V)} (e : H a = some (.dK kvs)) : IsK H (.ref a) .dct
def Kd.ty : Kd → String
  | .non => "NoneType" | .bl => "bool" | .int => "int" | .str => "str" | .lst => "list" | .tup => "tuple" | .dct => "dict"
def isStr : Kd → Bool | .str => true | _ => false
def isInt : Kd → Bool | .int => true | .bl => true | _ => false
def isBool : Kd → Bool | .bl => true | _ => false
def isTup : Kd → Bool | .tup => true | _ => false
theorem kit_str {K : PySem.W.Frag} (k : Kd) : PySem.W.kitOne K (.type k.ty) (.type "str") = some (isStr k) := by cases k <;> rfl
theorem kit_int {K : PySem.W.Frag} (k : Kd) : PySem.W.kitOne K (.type k.ty) (.type "int") = some (isInt k) := by cases k <;> rfl
theorem kit_bool {K : PySem.W.Frag} (k : Kd) : PySem.W.kitOne K (.type k.ty) (.type "bool") = some (isBool k) := by cases k <;> rfl
theorem kit_tuple {K : PySem.W.Frag} (k : Kd) : PySem.W.kitOne K (.type k.ty) (.type "tuple") = some (isTup k) := by cases k <;> rfl
theorem part_small {z y : Str} (h : z.length < sizeLine) : (partP z y).1.length < sizeLine ∧ (partP z y).2.2.length < sizeLine := by
  unfold partP
  split
  · exact ⟨Nat.lt_of_le_of_lt (strSub_length_le ..) h, Nat.lt_of_le_of_lt (strSub_length_le ..) h⟩
  · exact ⟨h, Nat.lt_of_le_of_lt (Nat.zero_le _) h⟩
end BB
open PySem
namespace L2
section
variable {X : Cx} {pos : Pos}
def noStar : Expr → Bool
  | .Starred .. => false
  | _ => true
theorem star_of {e : Expr} {es : List Expr} {env : Env} (h : noStar e = true) : starEach (e :: es) env = (false, eval e env) :: starEach es env := by
  cases e <;> first | (cases h; done) | (rw [starEach]; intro _ _ q; cases q)
theorem stars_of {env : Env} : ∀ {es : List Expr}, es.all noStar = true → (backTo pos (starEach es env)).any (·.1) = false
  | [], _ => rfl
  | e :: es, h => by
    rw [List.all_cons, Bool.and_eq_true] at h
    rw [star_of h.1]
    show (false || (backTo pos (starEach es env)).any (·.1)) = false
    rw [stars_of h.2]; rfl
theorem pa_c {e : Expr} {es : List Expr} {te : TE} {t : TA} (ha : PE X e te) (hr : PA X es t) (hp : noStar e = true := by rfl) : PA X (e :: es) (tCons te t) := pa_cons ha hr (star_of hp)
structure QS (X : Cx) (st : Stmt) (t : TS) : Prop where
  h : PS X st t
structure QSs (X : Cx) (st : List Stmt) (t : TS) : Prop where
  h : PSs X st t
structure TmQ (X : Cx) (b : List Stmt) where
  t : TS
  h : QSs X b t
end
end L2
namespace L2
open PySem PySem.Spec PyProof.Rows
def Fly (g : Heap) (H : Hp) (h : Heap) (e : Addr) (c : Value) : Prop :=
  g.get? e = none ∧ H e = none ∧ ∃ oe vs a0 T oT ts, h.get? e = some oe ∧ oe.cls = c ∧ vs[0]? = some a0 ∧ oe.data = .fields vs ∧ vs[1]? = some (.ref T) ∧ g.get? T = none ∧ H T = none ∧ T ≠ e ∧ h.get? T = some oT ∧ oT.data = .fields ts ∧ ts[3]? = some .none
def CXR (P : Program) (w : World) : CXT := fun outer H s E x s' => ∃ e c H', x = .ref e ∧ s'.os = s.os ∧ AllBare s'.gens ∧ Un (frs outer) [] H H' s.heap s'.heap ∧ HOk P w H' s'.heap ∧ Fly s.heap H' s'.heap e c ∧ E c none H'
structure Kp (g : Heap) (H : Hp) (fs : List Addr) (h h' : Heap) : Prop where
  keep : ∀ b o, (g.get? b ≠ none ∨ H b ≠ none) → b ∉ fs → h.get? b = some o → h'.get? b = some o
  slot : ∀ b o, b ∈ fs → h.get? b = some o → ∃ sl, h'.get? b = some { o with slots := sl }
theorem Fly.older {g g' : Heap} {H : Hp} {h : Heap} {e : Addr} {c : Value} (F : Fly g H h e c) (k : ∀ b, g.get? b = none → g'.get? b = none) : Fly g' H h e c := by
  obtain ⟨a, b, oe, vs, a0, T, oT, ts, h1, h2, h3, h4, h5, h6, r⟩ := F
  exact ⟨k _ a, b, oe, vs, a0, T, oT, ts, h1, h2, h3, h4, h5, k _ h6, r⟩
theorem kp_of {g h h' : Heap} {H : Hp} {l : List Env} {base : Heap} {e : Addr} {c a0 : Value} {xs : List Addr} (hl : h.FunFrames base l) (hxs : ∀ b ∈ e :: xs, g.get? b = none ∧ H b = none) (hin : ∀ b, (g.get? b ≠ none ∨ H b ≠ none) → ∃ o, h.get? b = some o)
    (st : (PySem.W.hideAll h (e :: (xs ++ frs l))).StaysIn h') (tr : h'.TracedW (PySem.W.hideAll h (e :: (xs ++ frs l))) e c a0) (up : h.UpToSlots h') : Kp g H (frs l) h h' ∧ Fly g H h' e c := by
  have known : ∀ b, (g.get? b ≠ none ∨ H b ≠ none) → b ∉ e :: xs := fun b hb hm => by
    obtain ⟨z1, z2⟩ := hxs b hm
    rcases hb with q | q
    · exact q z1
    · exact q z2
  have sl : ∀ b o, b ∈ frs l → h.get? b = some o → ∃ sl, h'.get? b = some { o with slots := sl } := fun b o hb q => by
    obtain ⟨_, o', q', hn⟩ := hl.mem hb
    rw [q] at q'; cases q'
    exact up b o q hn
  have kp : ∀ b o, (g.get? b ≠ none ∨ H b ≠ none) → b ∉ frs l → h.get? b = some o → h'.get? b = some o := fun b o hb hf q => by
    refine st b o (PySem.W.hideAll_get _ q fun hm => ?_)
    have hk := known b hb
    rcases List.mem_cons.mp hm with z | z
    · exact hk (z ▸ List.mem_cons_self ..)
    · rcases List.mem_append.mp z with z | z
      · exact hk (List.mem_cons_of_mem _ z)
      · exact hf z
  refine ⟨⟨kp, sl⟩, (hxs e (List.mem_cons_self ..)).1, (hxs e (List.mem_cons_self ..)).2, ?_⟩
  obtain ⟨oe, vs, T, oT, ts, he, ⟨hc, h0⟩, hd, h1, hnT, hTe, hT, hdT, h3⟩ := tr
  have free : ∀ q : g.get? T ≠ none ∨ H T ≠ none, False := fun q => by
    obtain ⟨o, ho⟩ := hin T q
    by_cases hm : T ∈ e :: (xs ++ frs l)
    · rcases List.mem_cons.mp hm with z | z
      · exact hTe z
      · rcases List.mem_append.mp z with z | z
        · exact known T q (List.mem_cons_of_mem _ z)
        · obtain ⟨s1, e1⟩ := sl T o z ho
          obtain ⟨_, o', q', hn⟩ := hl.mem z
          rw [ho] at q'; cases q'
          rw [hT] at e1; cases e1
          exact hn _ hdT
    · rw [PySem.W.hideAll_get _ ho hm] at hnT; cases hnT
  refine ⟨oe, vs, a0, T, oT, ts, he, hc, h0, hd, h1, ?_, ?_, hTe, hT, hdT, h3⟩
  · cases q : g.get? T with
    | none => rfl
    | some o => exact (free (.inl (by rw [q]; exact fun z => by cases z))).elim
  · cases q : H T with
    | none => rfl
    | some o => exact (free (.inr (by rw [q]; exact fun z => by cases z))).elim
section
variable {M : Model} {A : Around} {Ex : Value → Shared → Prop} {s : Shared} {env : Env} {outer : List Env} {L e : Addr} {g base : Heap} {H : Hp} {c : Value} {Q : Unit → Shared → Prop}
theorem hidden {l : List Env} {h : Heap} {xs : List Addr} (hl : h.FunFrames base l) (F : Fly g H h e c) : ∃ T a0, (∀ b ∈ e :: [T], g.get? b = none ∧ H b = none) ∧ Heap.FlyingW (PySem.W.hideAll h (e :: ([T] ++ frs l))) l e c a0 h := by
  obtain ⟨a, b, oe, vs, a0, T, oT, ts, h1, h2, h3, h4, h5, h6, h7, h8, h9, h10, h11⟩ := F
  refine ⟨T, a0, fun x hx => ?_, fun x o q => PySem.W.of_hideAll _ q, PySem.W.hideAll_none _ (List.mem_cons_self ..), PySem.W.funFrames_hide hl fun env hm x hx => ?_, oe, vs, T, oT, ts, h1, ⟨h2, h3⟩, h4, h5, PySem.W.hideAll_none _ (by simp), h8, h9, h10, h11⟩
  · simp only [List.mem_cons, List.not_mem_nil, or_false] at hx
    rcases hx with rfl | rfl
    · exact ⟨a, b⟩
    · exact ⟨h6, h7⟩
  · exact List.mem_cons_of_mem _ (List.mem_append_right _ (List.mem_filterMap.mpr ⟨env, hm, hx⟩))
theorem leave_fly (hfr : A.frames = some (env :: outer)) (hf : env.frame = some L) (hl : s.heap.FunFrames base (env :: outer)) (hin : ∀ b, (g.get? b ≠ none ∨ H b ≠ none) → ∃ o, s.heap.get? b = some o) (F : Fly g H s.heap e c)
    (k : ∀ h', Kp g H (frs (env :: outer)) s.heap h' → Fly g H h' e c → Q () { s with heap := h' }) : wpAny M A (leaving env (.ref e)) Q Ex s := by
  obtain ⟨T, a0, hx, fl⟩ := hidden (xs := []) hl F
  obtain ⟨f1, f2, f3, f4⟩ := fl
  refine wpAny_leaving_nextW hfr f3 hf f4 f1 f2 fun h' hL => ?_
  obtain ⟨k1, _, k3, k4⟩ := hL
  have r := kp_of (g := g) (H := H) hl hx hin k1 k3 k4
  exact k h' r.1 r.2
end
end L2
namespace L2
open PySem PySem.Spec PyProof.Rows
section
variable {X : Cx} {pins : List (Addr × Obj)} {σ : St} {H H' : Hp} {s s' : Shared}
theorem hok_kp {P : Program} {w : World} {fs : List Addr} {g h h' : Heap} (ok : HOk P w H h) (kp : Kp g H fs h h') (hf : ∀ b ∈ fs, H b = none) : HOk P w H h' := fun a o q =>
  (ok a o q).stay (fun b u hb hq => by
    have hn : H b ≠ none := by
      rcases hb with rfl | hb
      · rw [q]; exact fun z => by cases z
      · rw [hb]; exact fun z => by cases z
    exact kp.keep b u (.inr hn) (fun z => hn (hf b z)) hq) (fun _ q => q) fun _ _ q => q
theorem hok_there {P : Program} {w : World} {h : Heap} (ok : HOk P w H h) {b : Addr} (hb : H b ≠ none) : ∃ o, h.get? b = some o := by
  cases q : H b with
  | none => exact (hb q).elim
  | some o =>
    have := ok b o q
    cases o with
    | lst xs => obtain ⟨_, _, _, _, e⟩ := this; exact ⟨_, e⟩
    | tup xs => obtain ⟨_, _, _, p⟩ := this; obtain ⟨ob, e, _⟩ := p; exact ⟨_, e⟩
    | dK kvs => obtain ⟨_, _, _, _, o, _, _, e, _⟩ := this; exact ⟨_, e⟩
    | dT kvs => obtain ⟨_, _, _, _, o, _, _, e, _⟩ := this; exact ⟨_, e⟩
    | set S n => obtain ⟨o, _, _, _, e, _⟩ := this; exact ⟨_, e⟩
    | ins C dx fs => obtain ⟨_, _, _, e, _⟩ := this; exact ⟨_, e⟩
    | own y => obtain ⟨_, e⟩ := this; exact ⟨_, e⟩
    | xd fs => obtain ⟨_, ⟨_, _, _, e, _⟩, _⟩ := this; exact ⟨_, e⟩
    | rng lo hi => obtain ⟨_, _, _, e⟩ := this; exact ⟨_, e⟩
    | frz ob u => obtain ⟨e, _⟩ := this; exact ⟨_, e⟩
    | tbl ps => exact ⟨_, this⟩
    | met f y => exact ⟨_, this⟩
    | ext φ => obtain ⟨_, e, _⟩ := this; exact e
theorem Inv.hin0 (I : Inv X pins σ H s) (hx : X.ex = []) : ∀ b, (X.s₀.heap.get? b ≠ none ∨ H b ≠ none) → ∃ o, s.heap.get? b = some o := fun b hb => by
  rcases hb with q | q
  · cases e : X.s₀.heap.get? b with
    | none => exact (q e).elim
    | some o => exact I.base.there b o e (by rw [hx]; simp)
  · exact hok_there I.hok q
theorem Inv.old0 (I : Inv X pins σ H s) (hx : X.ex = []) : ∀ b, s.heap.get? b = none → X.s₀.heap.get? b = none := fun b hb => by
  cases e : X.s₀.heap.get? b with
  | none => rfl
  | some o => obtain ⟨o', q⟩ := I.base.there b o e (by rw [hx]; simp); rw [hb] at q; cases q
theorem cxr_of {P : Program} {w : World} {K : PySem.W.Frag} {mg : Str → Option Value} {base : Heap} {N : List Str} {qual : Str} {scope : Scope} {f : Addr} {cd : Value} {A : Around} {outer : List Env} {s0 : Shared} {H0 : Hp} {E : XK} {CX : CXT} {e : Addr} {c : Value} {h' : Heap}
    (I : Inv (cxOf CX P w K mg base N qual scope f cd A outer s0 H0 E) pins σ H s) (kp : Kp s0.heap H (frs (envOfC qual scope s0.heap.objs.size f cd :: outer)) s.heap h') (F : Fly s0.heap H h' e c) (hE : E c none H) :
    CXR P w outer H0 s0 E (.ref e) { s with heap := h' } := by
  have sub : ∀ b ∈ frs outer, b ∈ frs (envOfC qual scope s0.heap.objs.size f cd :: outer) := fun b hb => by
    obtain ⟨z, hz, hq⟩ := List.mem_filterMap.mp hb
    exact List.mem_filterMap.mpr ⟨z, List.mem_cons_of_mem _ hz, hq⟩
  have nin : ∀ b o, s0.heap.get? b = some o → b ∉ frs outer → b ∉ frs (envOfC qual scope s0.heap.objs.size f cd :: outer) := fun b o q hb hm => by
    obtain ⟨z, hz, hq⟩ := List.mem_filterMap.mp hm
    rcases List.mem_cons.mp hz with rfl | hz
    · have : s0.heap.objs.size = b := Option.some.inj hq
      exact absurd (Heap.lt_size q) (by rw [← this]; exact Nat.lt_irrefl _)
    · exact hb (List.mem_filterMap.mpr ⟨z, hz, hq⟩)
  refine ⟨e, c, H, rfl, I.os, I.bare, ⟨fun b o q n hb hx => ?_, fun b o q n hb hx => ?_, I.base.free, fun b o q hx => ?_, I.base.tups, I.base.frzs, I.base.tbls⟩, hok_kp I.hok kp I.stkFree, F, hE⟩
  · exact kp.keep b o (.inl (by rw [q]; exact fun z => by cases z)) (nin b o q hb) (I.base.keep b o q n hb hx)
  · obtain ⟨sl, e1⟩ := I.base.slot b o q n hb hx
    obtain ⟨sl', e2⟩ := kp.slot b _ (sub b hb) e1
    exact ⟨sl', e2⟩
  · obtain ⟨o', e1⟩ := I.base.there b o q hx
    by_cases hb : b ∈ frs (envOfC qual scope s0.heap.objs.size f cd :: outer)
    · obtain ⟨sl, e2⟩ := kp.slot b _ hb e1; exact ⟨_, e2⟩
    · exact ⟨o', kp.keep b o' (.inl (by rw [q]; exact fun z => by cases z)) hb e1⟩
end
section
variable {P : Program} {w : World} {K : PySem.W.Frag} {mg : Str → Option Value} {base : Heap} {N : List Str} {qual : Str} {scope : Scope} {f : Addr} {cd : Value} {A : Around} {outer : List Env} {s0 : Shared} {H0 : Hp} {E : XK}
theorem passR : Passes (CXR P w) (cxOf (CXR P w) P w K mg base N qual scope f cd A outer s0 H0 E) E := by
  intro pins σ H s x s' I h
  obtain ⟨e, c, H', rfl, os, bare, un, hok, F, hE⟩ := h
  have I' := I.call' os un hok bare (fun _ z => nomatch z)
  exact leave_fly (g := s0.heap) I'.ok.frames rfl I'.stack (I'.hin0 rfl) (F.older (I.old0 rfl)) fun h' kp F' => cxr_of I' kp F' hE
end
structure Exc (K : PySem.W.Frag) (C : Addr) (bmB : List Value) (newId : String) : Prop where
  ok : PySem.W.excIn K C bmB newId = true
theorem Exc.get {K : PySem.W.Frag} {C : Addr} {bmB : List Value} {newId : String} {h : Heap} (x : Exc K C bmB newId) (KX : K.In h) :
    ∃ bm N nm q bs hdct sn sub ab col dd k0 k1 k2 k3 k5 mN, h.get? C = some (excClassObj nm q C N bs bm hdct sn sub ab col dd k0 k1 k2 k3 k5 newId) ∧ h.Ns N mN ∧ mN "__init__" = none ∧ OwnTail h bmB bm ∧ (∃ dc cd sl, K.lookup C = some ⟨.type "type", dc, .cls cd, sl⟩ ∧ cd.mro = .ref C :: bm) := by
  have q := x.ok
  unfold PySem.W.excIn at q
  split at q
  case h_2 => cases q
  case h_1 dc cl sl look =>
    split at q
    case h_2 => cases q
    case h_1 C2 tl a0 a1 a2 a3 made a5 em es =>
      simp only [Bool.and_eq_true, beq_iff_eq, Bool.not_eq_true'] at q
      obtain ⟨⟨⟨⟨⟨e1, e2⟩, e3⟩, e4⟩, e5⟩, e6⟩ := q
      subst e1 e2
      have em0 := em
      obtain ⟨nm, bs, mro, ns, qn, hd, sn, sub, ab, col, del⟩ := cl
      have er : sl = #[a0, a1, a2, a3, some (.builtin made), a5] := by cases sl; simpa using es
      dsimp only at em e3 e5 e6
      subst em e3 er
      exact ⟨tl, ns, nm, qn, bs, hd, sn, sub, ab, col, dc, a0, a1, a2, a3, a5, _, KX _ _ look, .of_isNs (PySem.W.isNs_of_in KX e5), PySem.W.nsMap_none_of_in KX e5 e6, PySem.W.tail_of_in KX e4, ⟨_, _, _, look, em0⟩⟩
end L2
namespace L2
open PySem PySem.Spec PyProof.Rows
section
variable {P : Program} {w : World} {K : PySem.W.Frag} {mg : Str → Option Value} {base : Heap} {N : List Str} {qual : Str} {scope : Scope} {f : Addr} {cd : Value} {A : Around} {outer : List Env} {s0 : Shared} {H0 : Hp} {E : XK}
  {x : Str} {np cpos pos : Pos} {e0 : Expr} {rest : List Expr} {t : TA} {C : Addr} {bmB : List Value} {newId B initId : String}
end
end L2
namespace BB
open PySem PySem.Spec PyProof.Rows L2
section
variable {P : Program} {w : World} {K : PySem.W.Frag} {mg : Str → Option Value} {base : Heap}
theorem Def.canX {x : Str} {st : Stmt} {N ps : List Str} {k : Nat} {sp : Sp} (F : Def K mg x st) (S : FnScope N ps (defScope st))
    (hb : ∀ (kV doc pm : Value) (an : Option Addr) (cdv ct : Value) (us : List Value), us.length = ps.length → bindArgs (PySem.W.fnOf x x (defArgs st) (defBody st) (defScope st) .none kV doc pm an cdv ct) ⟨us, []⟩ = pure (ps.zip us))
    (len : ∀ vs H Q E, sp vs H Q E → vs.length = ps.length)
    (hbody : ∀ (f : Addr) (cdv : Value) (A : Around) (outer : List Env) (s : Shared) (H : Hp) (vs : List V) (Q : VK) (E : XK), Room k (A.deeper (envOfC x (defScope st) s.heap.objs.size f cdv)) → sp vs H Q E →
      ∃ t, PSs (cxOf (CXR P w) P w K mg base N x (defScope st) f cdv A outer s H E) (defBody st) t ∧ t { nx := fun _ H' => Q .non H', rt := Q } (start N vs) H) : Can P w K mg base (CXR P w) (k + 1) x ps sp := by
  obtain ⟨f, fd, F1, hm⟩ := F.ex
  refine ⟨f, fd, ?_, hm, F1.kp, F1.binds hb⟩
  obtain ⟨oc, od, kV, doc, pm, an, cdv, ct, osl, rfl, lk, hcd⟩ := F1.ex
  exact fn_of lk hcd S len fun A outer s H vs Q E hr hsp => hbody f cdv A outer s H vs Q E hr hsp
end
section
variable {P : Program} {w : World} {K : PySem.W.Frag} {mg : Str → Option Value} {base : Heap} {N : List Str} {qual : Str} {scope : Scope} {f : Addr} {cd : Value} {A : Around} {outer : List Env} {s0 : Shared} {H0 : Hp} {E : XK} {x : Str} {k : Nat} {ps : List Str} {sp : Sp} {p pos : Pos} {e : Expr} {es : List Expr} {t : TA}
end
end BB
namespace L2
open PySem PySem.Spec PyProof.Rows
section
variable {X : Cx} {pins : List (Addr × Obj)} {σ σ₀ : St} {H H' : Hp} {s s' : Shared} {E : XK} {e : Addr}
end
end L2
namespace PySem
section
variable {M : Model} {A : Around} {E : Value → Shared → Prop}
variable {nm q : Str} {C N : Addr} {bs bm : List Value} {hdct : Bool} {sn : List Str} {sub : List Value} {ab : Bool} {col : Option Bool} {dd : Option Addr} {k0 k1 k2 k3 k5 : Option Value} {newId : String}
  {nm' q' : Str} {C' N' : Addr} {bs' bm' : List Value} {hdct' : Bool} {sn' : List Str} {sub' : List Value} {ab' : Bool} {col' : Option Bool} {dd' : Option Addr} {k0' k1' k2' k3' k5' : Option Value} {newId' : String}
end
end PySem
namespace L2
open PySem PySem.Spec PyProof.Rows
def SubE (K : PySem.W.Frag) (C C' : Addr) : Prop := ∃ oc od cd sl, K.lookup C = some ⟨oc, od, .cls cd, sl⟩ ∧ cd.mro.contains (.ref C') = true
section
variable {X : Cx}
end
end L2
namespace PySem.W
open PySem PySem.Spec PySem.Calls PyProof.Rows Builtin Builtin.ObjectAttr Builtin.Getset_descriptor
section
variable {K : Frag} {e C : Addr}
structure ExcKit (K : Frag) (C : Addr) : Prop where
  ga : findIn K (.ref C) "__getattribute__" = some (some (.builtin "BaseException.__getattribute__"))
  gn : findIn K (.ref C) "__getattr__" = some none
  ca : findIn K (.ref C) "__class__" = some (some (.builtin "object.__class__"))
  gt : specialIn K (.builtin "object.__class__") "__get__" = some (some (.builtin "getset_descriptor.__get__"))
  tk : takesIn K (.builtin "object.__class__") = some true
  mo : mroIn K C (.type "object") = some true
  mb : mroIn K C (.type "BaseException") = some true
  cl : ∃ oc od cd sl, K.lookup C = some ⟨oc, od, .cls cd, sl⟩
def ExcHere (e C : Addr) (h : Heap) : Prop := ∃ o, h.get? e = some o ∧ o.cls = .ref C
theorem ExcHere.ty {M : Model} {h : Heap} (x : ExcHere e C h) : Looks M h (typeOf (.ref e)) (.ref C) := by
  obtain ⟨o, h1, h2⟩ := x
  exact h2 ▸ (Looks.ld h1).andThen .now
section
variable {prog : Program} {w : World} {A : Around} {s : Shared} {R : Result → Shared → Prop}
end
end
end PySem.W
namespace L2
open PySem PySem.Spec PyProof.Rows
end L2
namespace L2
open PySem PySem.Spec PyProof.Rows
section
variable {X : Cx}
end
end L2
namespace BB
open PySem PySem.Spec PyProof.Rows L2
theorem sl_str {X : Cx} : SlR X (fun x lo hi H Q => ∃ z, x = .str z ∧ z.length ≤ sizeLine ∧ Q (.str (Txt.slice z lo hi)) H) := by
  intro pins s σ H x v vl vu lo hi sl Q I rx hs pl pu h
  obtain ⟨z, rfl, hz, q⟩ := h
  obtain ⟨t, rfl⟩ := rx
  refine ⟨"str", _, F.slot_str_getitem.lookup, typeIs_str _ _ _, ?_⟩
  have fin : ∀ {l u : Option (Int × Tok)}, s.heap.IsSlice sl l u none → l.map (·.1) = lo → u.map (·.1) = hi → wpAny (model X.prog X.w) X.A (getItem (.str z t) (.ref sl)) (EP X pins σ Q) X.xe s := fun {l u} hI e1 e2 => by
    subst e1 e2
    exact wpAny_getItem_str_slice hI rfl (post_val_or_str ⟨Nat.le_trans (Txt.slice_le z _ _) hz, fun t' k => ⟨.str _, H, I.tok _, ⟨_, rfl⟩, q⟩⟩)
  cases pl with
  | none => cases pu with
    | none => exact fin (l := none) (u := none) hs rfl rfl
    | int j tj => exact fin (l := none) (u := some (j, tj)) hs rfl rfl
  | int i ti => cases pu with
    | none => exact fin (l := some (i, ti)) (u := none) hs rfl rfl
    | int j tj => exact fin (l := some (i, ti)) (u := some (j, tj)) hs rfl rfl
def joinS (sep : Str) : List Str → Str
  | [p] => p
  | l => Builtin.Str.glued sep l
theorem mt_join {X : Cx} : MtR X "str.join" (fun x xs H Q => ∃ z l ts, x = .str z ∧ xs = [.ref l] ∧ SqL X.K H l (ts.map V.str) ∧ Builtin.Str.tooLong (ts.toArray.foldl (· + ·.length + z.length) 0) = false ∧ (joinS z ts).length ≤ sizeLine ∧ Q (.str (joinS z ts)) H) := by
  intro pins s σ H x xs v us Q I rx rs h
  obtain ⟨z, l, ts, rfl, rfl, hl, h1, h2, q⟩ := h
  obtain ⟨t, rfl⟩ := rx
  obtain ⟨u, rfl, ru⟩ := vals1 rs
  cases ru
  obtain ⟨its, r, pl, _⟩ := I.list hl
  have key : ∀ (ts : List Str) (its : List Value), Vals (ts.map V.str) its → ∃ ps : List (Str × Tok), ps.map (·.1) = ts ∧ its = strValues ps := by
    intro ts
    induction ts with
    | nil => intro its r; cases r; exact ⟨[], rfl, rfl⟩
    | cons a ts ih =>
      intro its r
      cases r with
      | cons ra rr =>
        obtain ⟨tk, rfl⟩ := ra
        obtain ⟨ps, e1, e2⟩ := ih _ rr
        exact ⟨(a, tk) :: ps, by rw [← e1]; rfl, by rw [e2]; rfl⟩
  obtain ⟨ps, e1, e2⟩ := key ts its r
  subst e1 e2
  refine call_meets PySem.F.slot_str_join (typeIs_str s z t) PySem.F.entry_str_join (PySem.F.args_str_join_2 _ _) (meets_str_join_list z t l ps h1) ⟨pl.isList, ?_⟩
  match ps, h2, q with
  | [], h2, q => exact ⟨h2, .str _, H, I.tok _, ⟨_, rfl⟩, q⟩
  | [p], h2, q => exact ⟨.str _, H, I, ⟨_, rfl⟩, q⟩
  | p1 :: p2 :: ps, h2, q => exact ⟨h2, .str _, H, I.tok _, ⟨_, rfl⟩, q⟩
end BB
namespace BB
open PySem PySem.Spec PyProof.Rows L2
open PySem.StrLaws in
theorem occ_run (x : Str) (c limit : Nat) : ∀ (l : List Nat) (found : Array Nat) (free : Nat), (∀ i ∈ l, free ≤ i) → l.Pairwise (· < ·) → found.size ≤ limit →
    (forIn l (found, free) (occBody x ⟨#[c]⟩ x.length limit)).run.fst.toList = found.toList ++ (l.filter fun i => decide (x.cps.toList[i]? = some c)).take (limit - found.size)
  | [], found, free, _, _, _ => by simp
  | a :: l, found, free, hf, hp, hs => by
    rw [List.forIn_cons]
    have hp' := List.pairwise_cons.mp hp
    have ha : free ≤ a := hf a (List.mem_cons_self ..)
    by_cases hc : x.cps.toList[a]? = some c
    · have hc2 := (subAt_one x c a).mpr hc
      rw [List.filter_cons_of_pos (by simpa using hc)]
      by_cases hlt : found.size < limit
      · have e : occBody x ⟨#[c]⟩ x.length limit a (found, free) = pure (ForInStep.yield (found.push a, a + 1)) := by
          unfold occBody; exact if_pos ⟨⟨⟨hlt, ha⟩, hc2.1⟩, hc2.2⟩
        rw [e]
        show (forIn l (found.push a, a + 1) (occBody x ⟨#[c]⟩ x.length limit)).run.fst.toList = _
        rw [occ_run x c limit l (found.push a) (a + 1) (fun i hi => hp'.1 i hi) hp'.2 (by simp; omega)]
        obtain ⟨k, hk⟩ : ∃ k, limit - found.size = k + 1 := ⟨limit - found.size - 1, by omega⟩
        rw [hk, List.take_succ_cons, Array.toList_push, List.append_assoc, Array.size_push, show limit - (found.size + 1) = k by omega]
        rfl
      · have e : occBody x ⟨#[c]⟩ x.length limit a (found, free) = pure (ForInStep.yield (found, free)) := by
          unfold occBody; exact if_neg fun h => hlt h.1.1.1
        rw [e]
        show (forIn l (found, free) (occBody x ⟨#[c]⟩ x.length limit)).run.fst.toList = _
        rw [occ_run x c limit l found free (fun i hi => hf i (List.mem_cons_of_mem _ hi)) hp'.2 hs, show limit - found.size = 0 by omega]
        simp
    · have e : occBody x ⟨#[c]⟩ x.length limit a (found, free) = pure (ForInStep.yield (found, free)) := by
        unfold occBody; exact if_neg fun h => hc ((subAt_one x c a).mp ⟨h.1.2, h.2⟩)
      rw [e]
      show (forIn l (found, free) (occBody x ⟨#[c]⟩ x.length limit)).run.fst.toList = _
      rw [occ_run x c limit l found free (fun i hi => hf i (List.mem_cons_of_mem _ hi)) hp'.2 hs, List.filter_cons_of_neg (by simpa using hc)]
def places (c : Nat) : List Nat → List Nat
  | [] => []
  | a :: l => if a = c then 0 :: (places c l).map (· + 1) else (places c l).map (· + 1)
theorem places_filter (c : Nat) : ∀ (l : List Nat), (List.range l.length).filter (fun i => decide (l[i]? = some c)) = places c l
  | [] => rfl
  | a :: l => by
    have ih := places_filter c l
    rw [List.length_cons, List.range_succ_eq_map, List.filter_cons, List.filter_map]
    have e : ((fun i => decide ((a :: l)[i]? = some c)) ∘ Nat.succ) = fun i => decide (l[i]? = some c) := by funext i; simp
    rw [e, ih]
    show _ = (if a = c then 0 :: (places c l).map (· + 1) else (places c l).map (· + 1))
    by_cases h : a = c
    · subst h; simp
    · simp [h]
theorem occ_places (x : Str) (c limit : Nat) : Builtin.Str.occurrences x ⟨#[c]⟩ 0 x.length limit = (places c x.cps.toList).take limit := by
  rw [PySem.StrLaws.occ_eq, occ_run x c limit _ #[] 0 (fun _ _ => Nat.zero_le _) (by simpa using List.pairwise_lt_range') (Nat.zero_le _)]
  have hl : x.cps.toList.length = x.length := by simp [Str.length]
  have e : List.range' 0 (x.length + 1 - 0) = List.range (x.length) ++ [x.length] := by
    rw [Nat.sub_zero, ← List.range_eq_range', List.range_succ]
  rw [e, List.filter_append]
  have n : [x.length].filter (fun i => decide (x.cps.toList[i]? = some c)) = [] := by
    rw [List.filter_cons_of_neg]
    · rfl
    · rw [← hl]; simp
  rw [n, List.append_nil, ← hl, places_filter]
  simp
theorem places_nil {c : Nat} : ∀ {l : List Nat}, places c l = [] ↔ c ∉ l
  | [] => by simp [places]
  | a :: l => by
    unfold places
    by_cases h : a = c
    · subst h; simp
    · simp [h, Ne.symm h, places_nil (l := l)]
theorem places_cons {c i : Nat} : ∀ {l r : List Nat}, places c l = i :: r → i < l.length ∧ c ∉ l.take i ∧ r = (places c (l.drop (i + 1))).map (· + (i + 1))
  | [], r, h => by simp [places] at h
  | a :: l, r, h => by
    unfold places at h
    by_cases e : a = c
    · rw [if_pos e] at h
      cases h
      exact ⟨by simp, by simp, by simp⟩
    · rw [if_neg e] at h
      cases q : places c l with
      | nil => rw [q] at h; simp at h
      | cons j r' =>
        rw [q] at h
        simp only [List.map_cons, List.cons.injEq] at h
        obtain ⟨rfl, rfl⟩ := h
        obtain ⟨h1, h2, h3⟩ := places_cons q
        refine ⟨by simp; omega, ?_, ?_⟩
        · simp [Ne.symm e, h2]
        · rw [h3]
          simp [Function.comp_def, Nat.add_assoc]
theorem slice_to {x : Str} {i : Nat} (h : i ≤ x.length) : Txt.slice x none (some (i : Int)) = Builtin.Str.strSub x 0 i := by
  rw [eq_of_beq (slice_closes_toL (x := x) (j := i) (by omega) (by omega))]
  show (⟨_⟩ : Str) = ⟨_⟩
  congr 1
  apply Array.toList_inj.mp
  simp
end BB
namespace L2
open PySem PySem.Spec PyProof.Rows
section
variable {X : Cx} {pins : List (Addr × Obj)} {σ : St} {H : Hp} {s : Shared}
structure QA (X : Cx) (es : List Expr) (t : TA) : Prop where
  h : PA X es t
end
end L2
namespace L2
open PySem PySem.Spec PyProof.Rows
structure RoomN (k : Nat) (A : Around) : Prop where
  dp : A.depth + 3 * k + 5 < recursionLimit
  un : A.units + 16 * k + 200 < cLine
theorem RoomN.mono {j k : Nat} {A : Around} (r : RoomN k A) (h : j ≤ k) : RoomN j A := ⟨by have := r.dp; omega, by have := r.un; omega⟩
structure FnOkN (P : Program) (w : World) (K : PySem.W.Frag) (mg : Str → Option Value) (base : Heap) (k : Nat) (f : Addr) (fd : FuncData) (ps : List Str) (sp : Sp) : Prop where
  len : ∀ vs H Q E, sp vs H Q E → vs.length = ps.length
  run : ∀ (A : Around) (outer : List Env) (s : Shared) (H : Hp) (args : Args) (us : List Value) (vs : List V) (Q : VK) (E : XK), RoomN k A → Env0 P w K mg base A outer s H → BindsTo s fd args (ps.zip us) → Vals vs us → sp vs H Q E →
    codeAny (model P w) A (.call (.ref f) args) (CR CX0 outer P w H s Q E) s
section
variable {P : Program} {w : World} {K : PySem.W.Frag} {mg : Str → Option Value} {base : Heap} {N ps : List Str} {qual : Str} {scope : Scope} {f : Addr} {cd : Value} {A : Around} {outer : List Env} {s : Shared} {H : Hp} {E : XK}
end
end L2
namespace BB
open PySem PySem.Spec PyProof.Rows L2
end BB
namespace BB
open PySem PySem.Spec PyProof.Rows L2
theorem eqU_one {x y : V} {u : Value} (r : RelV y u) (f : flatV y = true) : eqU x u = eqV y x := by
  have := any_eqU (x := x) (xs := [y]) (us := [u]) (.cons r .nil) (by simp [f])
  simpa using this
theorem mt_lindex {X : Cx} : MtR X "list.index" (fun x xs H Q => ∃ p ys y j z, x = .ref p ∧ xs = [y] ∧ SqL X.K H p ys ∧ ys.all flatV = true ∧ flatV y = true ∧ ys[j]? = some z ∧ eqV z y = true ∧ (∀ m z', m < j → ys[m]? = some z' → eqV z' y = false) ∧ j < 1000000 ∧ Q (.int (j : Nat)) H) := by
  intro pins s σ H x xs v us Q I rx rs h
  obtain ⟨p, ys, y, j, z, rfl, rfl, hp, fs, fy, hj, hz, hno, hs, q⟩ := h
  cases rx
  obtain ⟨u, rfl, ru⟩ := vals1 rs
  obtain ⟨its, r, pl, _⟩ := I.list hp
  obtain ⟨⟨oc, od, oda, osl⟩, n, e, h1, h2, h3⟩ := id pl
  cases h1; cases h2; cases h3
  have fl : ∀ {m z'}, ys[m]? = some z' → flatV z' = true := fun {m z'} e => List.all_eq_true.mp fs _ (List.mem_of_getElem? e)
  obtain ⟨uj, ej, rj⟩ := r.get hj
  have ltj : j < its.length := (List.getElem?_eq_some_iff.mp ej).1
  refine call_meets PySem.F.slot_list_index pl.isList.typeIs PySem.F.entry_list_index (PySem.F.args_list_index_2 _ _) (SeqAt.list_indexAt p its.toArray n none osl u (eqU y) j (by simpa using ltj) (by omega) ?_ ?_) ⟨e, fun w hw => mem_eqAt ru fy r fs w (by simpa using hw), .int _, H, I.tok _, ⟨_, rfl⟩, q⟩
  · have e2 : its.toArray[j]'(by simpa using ltj) = uj := by simpa [ltj] using ej
    rw [e2, eqU_one rj (fl hj)]; exact hz
  · intro m hm lt
    have hm' : m < its.length := by simpa using hm
    have hy : m < ys.length := by rw [r.length]; exact hm'
    obtain ⟨um, em, rm⟩ := r.get (i := m) (x := ys[m]) (by simp [hy])
    have e2 : its.toArray[m] = um := by simpa [hm'] using em
    rw [e2, eqU_one rm (fl (m := m) (by simp [hy]))]
    exact hno m _ lt (by simp [hy])
end BB
namespace BB
open PySem PySem.Spec PyProof.Rows L2
structure CanN (P : Program) (w : World) (K : PySem.W.Frag) (mg : Str → Option Value) (base : Heap) (k : Nat) (x : Str) (ps : List Str) (sp : Sp) : Prop where
  ex : ∃ f fd, FnOkN P w K mg base k f fd ps sp ∧ mg x = some (.ref f) ∧ PySem.W.keepIn K (.ref f) = true ∧ Binds K fd ps []
section
variable {P : Program} {w : World} {K : PySem.W.Frag} {mg : Str → Option Value} {base : Heap}
end
theorem passR0 {P : Program} {w : World} {X : Cx} : Passes (CXR P w) X E0 := fun _ _ _ _ _ _ _ h => by
  obtain ⟨_, _, _, _, _, _, _, _, _, z⟩ := h
  exact z.elim
end BB
namespace PP
open PySem L2 BB
abbrev SM : Str := "abcdefghijklmnopqrstuvwxyz"
abbrev NM : Str := "abcdefghijklmnopqrstuvwxyz0123456789-"
abbrev VEb : List Value := [.type "ValueError", .type "Exception", .type "BaseException", .type "object"]
structure Blt (mg : Str → Option Value) : Prop where
  abs : mg "abs" = none
  int : mg "int" = none
  range : mg "range" = none
  all : mg "all" = none
  any : mg "any" = none
  len : mg "len" = none
  isinstance : mg "isinstance" = none
  str : mg "str" = none
  bool : mg "bool" = none
  tuple : mg "tuple" = none
  list : mg "list" = none
  ValueError : mg "ValueError" = none
  ord : mg "ord" = none
  max : mg "max" = none
  min : mg "min" = none
  enumerate : mg "enumerate" = none
  sorted : mg "sorted" = none
  set : mg "set" = none
  sum : mg "sum" = none
structure XC (K : PySem.W.Frag) (mg : Str → Option Value) (aE a : Addr) (x : Str) : Prop where
  m : mg x = some (.ref a)
  x : Exc K a VEb "ValueError.__new__"
  sub : SubE K a aE
  kit : PySem.W.ExcKit K a
structure XB (K : PySem.W.Frag) (mg : Str → Option Value) (aE : Addr) : Prop where
  m : mg "BookError" = some (.ref aE)
  x : Exc K aE VEb "ValueError.__new__"
def madeF (t sg : Str) (m : Int) : Bool := (!decide (V.str t = V.str "")) && decide ((t.length : Int) ≤ m) && t.cps.toList.all fun c => decide (c ∈ sg.cps.toList)
def personF (s : Str) : Bool := madeF (partP s "@").1 NM 8 && madeF (partP s "@").2.2 SM 6
def homeF (z : Str) : Str := (partP z "@").2.2
def strOf : V → Str
  | .str s => s
  | _ => ""
end PP
namespace PP
open PySem L2 BB
end PP
namespace PP
open PySem L2 BB
end PP
namespace PP
open PySem L2 BB
def NML : List Nat := [97, 98, 99, 100, 101, 102, 103, 104, 105, 106, 107, 108, 109, 110, 111, 112, 113, 114, 115, 116, 117, 118, 119, 120, 121, 122, 48, 49, 50, 51, 52, 53, 54, 55, 56, 57, 45]
def SML : List Nat := [97, 98, 99, 100, 101, 102, 103, 104, 105, 106, 107, 108, 109, 110, 111, 112, 113, 114, 115, 116, 117, 118, 119, 120, 121, 122]
theorem nml : NM.cps.toList = NML := by decide +kernel
theorem sml : SM.cps.toList = SML := by decide +kernel
def madeL (l sg : List Nat) (m : Nat) : Bool := !l.isEmpty && decide (l.length ≤ m) && l.all fun c => decide (c ∈ sg)
theorem str_ext {a b : Str} (h : a.cps.toList = b.cps.toList) : a = b := by
  cases a; cases b; congr 1; exact Array.toList_inj.mp h
theorem made_list (t sg : Str) (m : Nat) : madeF t sg (m : Int) = madeL t.cps.toList sg.cps.toList m := by
  unfold madeF madeL
  have e1 : decide (V.str t = V.str "") = t.cps.toList.isEmpty := by
    rw [Bool.eq_iff_iff, decide_eq_true_iff, List.isEmpty_iff]
    constructor
    · intro h; cases h; decide +kernel
    · intro h
      have : t = "" := str_ext (h.trans (by decide +kernel))
      rw [this]
  have e2 : t.length = t.cps.toList.length := by simp [Str.length]
  rw [e1, e2]
  congr 2
  rw [Bool.eq_iff_iff, decide_eq_true_iff, decide_eq_true_iff]
  omega
def personL (l : List Nat) : Bool := madeL (l.takeWhile (· != 64)) NML 8 && madeL ((l.dropWhile (· != 64)).drop 1) SML 6
theorem at_sign : ("@" : Str) = ⟨#[64]⟩ := by decide +kernel
theorem places_tw {c i : Nat} : ∀ {l r : List Nat}, places c l = i :: r → l.takeWhile (· != c) = l.take i ∧ (l.dropWhile (· != c)).drop 1 = l.drop (i + 1)
  | [], r, h => by simp [places] at h
  | a :: l, r, h => by
    unfold places at h
    by_cases e : a = c
    · rw [if_pos e] at h
      cases h
      subst e
      simp
    · rw [if_neg e] at h
      cases q : places c l with
      | nil => rw [q] at h; simp at h
      | cons j r' =>
        rw [q] at h
        simp only [List.map_cons, List.cons.injEq] at h
        obtain ⟨rfl, rfl⟩ := h
        obtain ⟨h1, h2⟩ := places_tw q
        have en : (a != c) = true := by simpa using e
        rw [List.takeWhile_cons, List.dropWhile_cons, en]
        simp only [if_true, List.take_succ_cons, List.drop_succ_cons]
        exact ⟨by rw [h1], h2⟩
theorem no_tw {c : Nat} : ∀ {l : List Nat}, c ∉ l → l.takeWhile (· != c) = l ∧ l.dropWhile (· != c) = []
  | [], _ => ⟨rfl, rfl⟩
  | a :: l, h => by
    have en : (a != c) = true := by
      have : a ≠ c := fun e => h (e ▸ List.mem_cons_self ..)
      simpa using this
    obtain ⟨h1, h2⟩ := no_tw (l := l) (fun z => h (List.mem_cons_of_mem _ z))
    rw [List.takeWhile_cons, List.dropWhile_cons, en]
    exact ⟨by simp [h1], by simpa using h2⟩
theorem person_list (t : Str) : personF t = personL t.cps.toList := by
  have o1 : Builtin.Str.occurrences t "@" 0 t.length 1 = (places 64 t.cps.toList).take 1 := by rw [at_sign]; exact occ_places t 64 1
  unfold personF personL partP
  rw [o1]
  cases q : places 64 t.cps.toList with
  | nil =>
    obtain ⟨h1, h2⟩ := no_tw (places_nil.mp q)
    have z : madeF Str.empty SM 6 = false := by decide +kernel
    show (madeF t NM 8 && madeF Str.empty SM 6) = _
    rw [z, h2]
    show _ = (_ && madeL [] SML 6)
    have z2 : madeL [] SML 6 = false := by decide +kernel
    rw [z2, Bool.and_false, Bool.and_false]
  | cons i r =>
    obtain ⟨h1, h2⟩ := places_tw q
    show (madeF (Builtin.Str.strSub t 0 i) NM ((8 : Nat) : Int) && madeF (Builtin.Str.strSub t (i + ("@" : Str).length) t.length) SM ((6 : Nat) : Int)) = _
    rw [made_list, made_list, nml, sml, h1, h2, show ("@" : Str).length = 1 by decide +kernel]
    have e1 : (Builtin.Str.strSub t 0 i).cps.toList = t.cps.toList.take i := by
      unfold Builtin.Str.strSub
      rw [Array.toList_extract]
      simp
    have e2 : (Builtin.Str.strSub t (i + 1) t.length).cps.toList = t.cps.toList.drop (i + 1) := by
      unfold Builtin.Str.strSub
      rw [Array.toList_extract]
      show List.extract _ _ _ = _
      unfold List.extract
      exact List.take_of_length_le (by simp [Str.length])
    rw [e1, e2]
theorem madeL_true {l sg : List Nat} {m : Nat} (h0 : 0 < l.length) (h1 : l.length ≤ m) (h2 : ∀ c ∈ l, c ∈ sg) : madeL l sg m = true := by
  unfold madeL
  have e : l.isEmpty = false := by cases l with
    | nil => simp at h0
    | cons a r => rfl
  rw [e, decide_eq_true h1]
  simp only [Bool.not_false, Bool.true_and]
  exact List.all_eq_true.mpr fun c hc => decide_eq_true (h2 c hc)
theorem madeL_bad {l sg : List Nat} {m c : Nat} (h : c ∈ l) (hn : c ∉ sg) : madeL l sg m = false := by
  unfold madeL
  have : (l.all fun c => decide (c ∈ sg)) = false := by
    rw [List.all_eq_false]
    exact ⟨c, h, by simpa using hn⟩
  rw [this, Bool.and_false]
theorem tw_at {c : Nat} : ∀ {a b : List Nat}, c ∉ a → (a ++ c :: b).takeWhile (· != c) = a ∧ ((a ++ c :: b).dropWhile (· != c)).drop 1 = b
  | [], b, _ => by simp
  | x :: a, b, h => by
    have en : (x != c) = true := by
      have : x ≠ c := fun e => h (e ▸ List.mem_cons_self ..)
      simpa using this
    obtain ⟨h1, h2⟩ := tw_at (a := a) (b := b) (fun z => h (List.mem_cons_of_mem _ z))
    rw [List.cons_append, List.takeWhile_cons, List.dropWhile_cons, en]
    exact ⟨by simp [h1], by simpa using h2⟩
theorem person_at {a b : List Nat} (h : 64 ∉ a) : personL (a ++ 64 :: b) = (madeL a NML 8 && madeL b SML 6) := by
  unfold personL
  rw [(tw_at h).1, (tw_at h).2]
theorem home_at {n h : Str} (hn : 64 ∉ n.cps.toList) : partP (n ++ ("@" : Str) ++ h) "@" = (n, ("@" : Str), h) := by
  have cc : ∀ a b : Str, (a ++ b).cps.toList = a.cps.toList ++ b.cps.toList := fun a b => by
    show (a.cps ++ b.cps).toList = _
    simp
  have e : (n ++ ("@" : Str) ++ h).cps.toList = n.cps.toList ++ 64 :: h.cps.toList := by
    rw [cc, cc, List.append_assoc, show ("@" : Str).cps.toList = [64] by decide +kernel]; rfl
  have o1 : Builtin.Str.occurrences (n ++ ("@" : Str) ++ h) "@" 0 (n ++ ("@" : Str) ++ h).length 1 = (places 64 (n ++ ("@" : Str) ++ h).cps.toList).take 1 := by rw [at_sign]; exact occ_places _ 64 1
  unfold partP
  rw [o1, e]
  cases q : places 64 (n.cps.toList ++ 64 :: h.cps.toList) with
  | nil => exact absurd (List.mem_append_right _ (List.mem_cons_self ..)) (places_nil.mp q)
  | cons i r =>
    obtain ⟨h1, h2⟩ := places_tw q
    rw [(tw_at hn).1] at h1
    rw [(tw_at hn).2] at h2
    have li : i = n.cps.toList.length := by
      have := (places_cons q).1
      have z := congrArg List.length h1
      rw [List.length_take] at z
      omega
    show (Builtin.Str.strSub (n ++ ("@" : Str) ++ h) 0 i, ("@" : Str), Builtin.Str.strSub (n ++ ("@" : Str) ++ h) (i + ("@" : Str).length) (n ++ ("@" : Str) ++ h).length) = _
    rw [show ("@" : Str).length = 1 by decide +kernel]
    have e1 : Builtin.Str.strSub (n ++ ("@" : Str) ++ h) 0 i = n := by
      apply str_ext
      unfold Builtin.Str.strSub
      rw [Array.toList_extract, e]
      show List.extract _ _ _ = _
      unfold List.extract
      rw [List.drop_zero, Nat.sub_zero]
      exact h1.symm
    have e2 : Builtin.Str.strSub (n ++ ("@" : Str) ++ h) (i + 1) (n ++ ("@" : Str) ++ h).length = h := by
      apply str_ext
      unfold Builtin.Str.strSub
      rw [Array.toList_extract, e]
      show List.extract _ _ _ = _
      unfold List.extract
      rw [← h2]
      exact List.take_of_length_le (by
        have : (n ++ ("@" : Str) ++ h).length = (n.cps.toList ++ 64 :: h.cps.toList).length := by rw [← e]; simp [Str.length]
        rw [List.length_append, List.length_cons] at this
        omega)
    rw [e1, e2]
end PP
namespace L2
open PySem PySem.Spec PyProof.Rows
section
variable {X : Cx} {pins : List (Addr × Obj)} {σ : St} {H : Hp} {s : Shared} {h' : Heap}
end
end L2
namespace PP
open PySem L2 BB
end PP
namespace L2
open PySem PySem.Spec PyProof.Rows
section
variable {X : Cx}
structure QE (X : Cx) (e : Expr) (t : TE) : Prop where
  h : PE X e t
structure QT (X : Cx) (e : Expr) (t : TT) : Prop where
  h : PT X e t
end
end L2
namespace L2
open PySem PySem.Spec PyProof.Rows
section
variable {X : Cx}
end
end L2
namespace BB
open PySem PySem.Spec PyProof.Rows L2
theorem vals_strs : ∀ (tk : Nat) (xs : List Str), Vals (xs.map V.str) (strsFrom tk xs)
  | _, [] => .nil
  | tk, x :: r => .cons ⟨tk, rfl⟩ (vals_strs (tk + 1) r)
theorem mt_split {X : Cx} : MtR X "str.split" (fun x xs H Q => ∃ z y, x = .str z ∧ xs = [.str y] ∧ (y.length == 0) = false ∧ z.length < sizeLine ∧ (Builtin.Str.partsBetween z (Builtin.Str.occurrences z y 0 z.length (z.length + 1)) y.length).length ≤ sizeLine ∧
    ∀ p, H p = none → Q (.ref p) (upd H p (.lst ((Txt.split z y).map V.str)))) := by
  intro pins s σ H x xs v us Q I rx rs h
  obtain ⟨z, y, rfl, rfl, hy, hz, hn, q⟩ := h
  obtain ⟨t, rfl⟩ := rx
  obtain ⟨w, rfl, u, rfl⟩ := vals1 rs
  have q2 := q s.heap.objs.size (I.hok.fresh (Nat.le_refl _))
  have one : Txt.split z y = [z] → ∃ v H', L2.Inv X pins σ H' { s with heap := s.heap.push { cls := .type "list", data := .seq [Value.str z t].toArray } } ∧ RelV v (.ref s.heap.objs.size) ∧ Q v H' := fun e => by
    rw [e] at q2
    exact ⟨.ref s.heap.objs.size, _, I.laid (t' := s.toks) (o := .lst [.str z]) (fun b o e => Heap.get?_push_of_some _ e) (Nat.le_refl _) ⟨by show 1 ≤ sizeLine; decide, [.str z t], 0, .cons ⟨_, rfl⟩ .nil, Heap.get?_push_size s.heap rfl⟩, rfl, q2⟩
  cases h1 : (decide (z.length < y.length) || decide (Builtin.Str.strKind z < Builtin.Str.strKind y))
  · cases hf : (Builtin.Str.occurrences z y 0 z.length (z.length + 1)).isEmpty
    · refine call_meets F.slot_str_split (typeIs_str _ _ _) F.entry_str_split (F.args_str_split_2 _ _) (meets_str_split_sep z y t u h1 hy hf (Nat.le_of_lt hz) hn) ?_
      have e : Txt.split z y = Builtin.Str.partsBetween z (Builtin.Str.occurrences z y 0 z.length (z.length + 1)) y.length := (if_neg (ne_true_of_eq_false h1)).trans (if_neg (ne_true_of_eq_false hf))
      rw [e] at q2
      exact ⟨.ref s.heap.objs.size, _, I.laid (o := .lst ((Builtin.Str.partsBetween z (Builtin.Str.occurrences z y 0 z.length (z.length + 1)) y.length).map V.str)) (fun b o e => Heap.get?_push_of_some _ e) (Nat.le_refl _) ⟨by rw [List.length_map]; exact hn, _, 0, vals_strs _ _, Heap.get?_push_size s.heap rfl⟩, rfl, q2⟩
    · exact call_meets F.slot_str_split (typeIs_str _ _ _) F.entry_str_split (F.args_str_split_2 _ _) (meets_str_split_not_found z y t u h1 hy hf) (one ((if_neg (ne_true_of_eq_false h1)).trans (if_pos hf)))
  · exact call_meets F.slot_str_split (typeIs_str _ _ _) F.entry_str_split (F.args_str_split_2 _ _) (meets_str_split_cannot_occur z y t u h1) (one (if_pos h1))
theorem call_intT {X : Cx} : CallR X (.type "int") (fun xs H Q => ∃ z n, xs = [.str z] ∧ PySem.intText? z = some n ∧ z.length ≤ 640 ∧ Q (.int n) H) := by
  intro pins s σ H xs us Q I r h
  obtain ⟨z, n, rfl, hn, hl, q⟩ := h
  obtain ⟨u, rfl, t, rfl⟩ := vals1 r
  exact PySem.W.KIN.call_text hn hl ⟨.int n, H, I.tok _, ⟨_, rfl⟩, q⟩
end BB
namespace PP
open PySem L2 BB
def splitL (c : Nat) : List Nat → List (List Nat)
  | [] => [[]]
  | d :: l => if d = c then [] :: splitL c l else match splitL c l with
    | h :: t => (d :: h) :: t
    | [] => [[d]]
theorem splitL_ne (c : Nat) : ∀ l : List Nat, ∃ h t, splitL c l = h :: t
  | [] => ⟨_, _, rfl⟩
  | d :: l => by
    unfold splitL
    by_cases e : d = c
    · rw [if_pos e]; exact ⟨_, _, rfl⟩
    · rw [if_neg e]
      obtain ⟨h, t, q⟩ := splitL_ne c l
      rw [q]; exact ⟨_, _, rfl⟩
def headOn (g : List Nat) : List (List Nat) → List (List Nat)
  | h :: t => (g ++ h) :: t
  | [] => []
theorem sub_list (x : Str) (i j : Nat) : (Builtin.Str.strSub x i j).cps.toList = (x.cps.toList.take j).drop i := by
  unfold Builtin.Str.strSub
  rw [Array.toList_extract]
  show List.extract _ _ _ = _
  unfold List.extract
  rw [List.drop_take]
theorem parts_list (x : Str) (c : Nat) : ∀ (l pre : List Nat) (b : Nat), x.cps.toList = pre ++ l → b ≤ pre.length →
    (StrLaws.partsFrom x 1 b ((places c l).map (· + pre.length))).map (fun s => s.cps.toList) = headOn (pre.drop b) (splitL c l)
  | [], pre, b, hx, hb => by
    have e : pre = x.cps.toList := by rw [hx, List.append_nil]
    show [(Builtin.Str.strSub x b x.length).cps.toList] = [pre.drop b ++ []]
    rw [sub_list, List.append_nil, e, List.take_of_length_le (by simp [Str.length])]
  | d :: l, pre, b, hx, hb => by
    have hx' : x.cps.toList = (pre ++ [d]) ++ l := by rw [hx, List.append_assoc]; rfl
    have len' : (pre ++ [d]).length = pre.length + 1 := by simp
    unfold places splitL
    by_cases e : d = c
    · rw [if_pos e, if_pos e, List.map_cons, List.map_map]
      have ef : ((fun x => x + pre.length) ∘ fun x => x + 1) = fun x => x + (pre ++ [d]).length := by funext z; show z + 1 + pre.length = _; rw [len']; omega
      rw [ef, Nat.zero_add]
      show (Builtin.Str.strSub x b pre.length).cps.toList :: (StrLaws.partsFrom x 1 (pre.length + 1) _).map _ = (pre.drop b ++ []) :: splitL c l
      have ih := parts_list x c l (pre ++ [d]) (pre.length + 1) hx' (by rw [len']; exact Nat.le_refl _)
      rw [ih, sub_list, List.append_nil, hx, List.take_append_of_le_length (Nat.le_refl _), List.take_length, List.drop_of_length_le (l := pre ++ [d]) (by rw [len']; exact Nat.le_refl _)]
      obtain ⟨h, t, q⟩ := splitL_ne c l
      rw [q]; rfl
    · rw [if_neg e, if_neg e, List.map_map]
      have ef : ((fun x => x + pre.length) ∘ fun x => x + 1) = fun x => x + (pre ++ [d]).length := by funext z; show z + 1 + pre.length = _; rw [len']; omega
      rw [ef, parts_list x c l (pre ++ [d]) b hx' (by rw [len']; omega)]
      obtain ⟨h, t, q⟩ := splitL_ne c l
      rw [q]
      show ((pre ++ [d]).drop b ++ h) :: t = (pre.drop b ++ (d :: h)) :: t
      rw [List.drop_append_of_le_length hb, List.append_assoc]; rfl
theorem splitL_no {c : Nat} : ∀ {l : List Nat}, c ∉ l → splitL c l = [l]
  | [], _ => rfl
  | d :: l, h => by
    unfold splitL
    have ne : ¬ d = c := fun e => h (e ▸ List.mem_cons_self ..)
    rw [if_neg ne, splitL_no (l := l) (fun z => h (List.mem_cons_of_mem _ z))]
theorem blank1 : (" " : Str) = ⟨#[32]⟩ := by decide +kernel
theorem split_list (x : Str) : (Txt.split x " ").map (fun s => s.cps.toList) = splitL 32 x.cps.toList := by
  unfold Txt.split
  have ho : Builtin.Str.occurrences x " " 0 x.length (x.length + 1) = places 32 x.cps.toList := by
    rw [blank1, occ_places, List.take_of_length_le]
    rw [← places_filter]
    refine Nat.le_trans (List.length_filter_le _ _) ?_
    simp [Str.length]
  split
  · rename_i h
    rw [Bool.or_eq_true, decide_eq_true_iff, decide_eq_true_iff] at h
    have k1 : Builtin.Str.strKind (" " : Str) = 1 := by decide +kernel
    have l1 : (" " : Str).length = 1 := by decide +kernel
    have hx : x.cps.toList = [] := by
      rcases h with h | h
      · apply List.length_eq_zero_iff.mp
        have : x.cps.toList.length = x.length := by simp [Str.length]
        omega
      · rw [k1] at h
        exfalso
        unfold Builtin.Str.strKind at h
        split at h
        · omega
        · split at h <;> omega
    show [x.cps.toList] = _
    rw [hx]; rfl
  · split
    · rename_i h
      rw [ho, List.isEmpty_iff] at h
      show [x.cps.toList] = _
      rw [splitL_no (places_nil.mp h)]
    · rw [ho, StrLaws.partsBetween_eq, show (" " : Str).length = 1 by decide +kernel]
      have := parts_list x 32 x.cps.toList [] 0 rfl (Nat.le_refl _)
      rw [show (places 32 x.cps.toList).map (· + ([] : List Nat).length) = places 32 x.cps.toList by simp] at this
      rw [this]
      obtain ⟨h, t, q⟩ := splitL_ne 32 x.cps.toList
      rw [q]; rfl
def joinL (c : Nat) : List (List Nat) → List Nat
  | [] => []
  | [x] => x
  | x :: y :: r => x ++ c :: joinL c (y :: r)
theorem splitL_cat {c : Nat} : ∀ {a b : List Nat}, c ∉ a → splitL c (a ++ c :: b) = a :: splitL c b
  | [], b, _ => by show splitL c (c :: b) = _; rw [splitL, if_pos rfl]
  | d :: a, b, h => by
    show splitL c (d :: (a ++ c :: b)) = _
    have ne : ¬ d = c := fun e => h (e ▸ List.mem_cons_self ..)
    rw [splitL, if_neg ne, splitL_cat (a := a) (fun z => h (List.mem_cons_of_mem _ z))]
theorem splitL_join {c : Nat} : ∀ {ws : List (List Nat)}, ws ≠ [] → (∀ w ∈ ws, c ∉ w) → splitL c (joinL c ws) = ws
  | [], h, _ => absurd rfl h
  | [x], _, h => splitL_no (h x (by simp))
  | x :: y :: r, _, h => by
    show splitL c (x ++ c :: joinL c (y :: r)) = _
    rw [splitL_cat (h x (by simp)), splitL_join (ws := y :: r) (by simp) (fun w hw => h w (List.mem_cons_of_mem _ hw))]
theorem join_list : ∀ ws : List Str, (Str.join " " ws).cps.toList = joinL 32 (ws.map fun s => s.cps.toList)
  | [] => by show Str.empty.cps.toList = []; decide +kernel
  | [x] => rfl
  | x :: y :: r => by
    have cc : ∀ a b : Str, (a ++ b).cps.toList = a.cps.toList ++ b.cps.toList := fun a b => by
      show (a.cps ++ b.cps).toList = _
      simp
    show (x ++ (" " : Str) ++ Str.join " " (y :: r)).cps.toList = x.cps.toList ++ 32 :: joinL 32 ((y :: r).map fun s => s.cps.toList)
    rw [cc, cc, join_list (y :: r), show (" " : Str).cps.toList = [32] by decide +kernel, List.append_assoc]; rfl
theorem map_cps {a b : List Str} (h : a.map (fun s => s.cps.toList) = b.map (fun s => s.cps.toList)) : a = b := by
  induction a generalizing b with
  | nil => cases b with
    | nil => rfl
    | cons y r => cases h
  | cons x r ih => cases b with
    | nil => cases h
    | cons y s =>
      simp only [List.map_cons, List.cons.injEq] at h
      rw [str_ext h.1, ih h.2]
theorem split_join {ws : List Str} (hne : ws ≠ []) (hno : ∀ w ∈ ws, 32 ∉ w.cps.toList) : Txt.split (Str.join " " ws) " " = ws := by
  apply map_cps
  rw [split_list, join_list, splitL_join (by simpa using hne)]
  intro w hw
  obtain ⟨s, hs, rfl⟩ := List.mem_map.mp hw
  exact hno s hs
theorem toDigits_le : ∀ (k m : Nat), 0 < k → m < 10 ^ k → (Nat.toDigits 10 m).length ≤ k
  | 0, _, h, _ => absurd h (by decide)
  | k + 1, m, _, hm => by
    by_cases h : m < 10
    · rw [Nat.toDigits_of_lt_base h]; simp
    · have h2 : m % 10 < 10 := Nat.mod_lt m (by decide)
      have t : Nat.toDigits 10 (m / 10) ++ Nat.toDigits 10 (m % 10) = Nat.toDigits 10 (10 * (m / 10) + m % 10) := Nat.toDigits_append_toDigits (by decide) (by omega) h2
      rw [Nat.div_add_mod] at t
      rw [← t, List.length_append, Nat.toDigits_of_lt_base h2]
      have k0 : 0 < k := by
        cases k with
        | zero => simp at hm; omega
        | succ k => omega
      have := toDigits_le k (m / 10) k0 (by rw [Nat.pow_succ] at hm; omega)
      simp; omega
theorem toDigits_head (m : Nat) (hm : 0 < m) : ∃ d r, Nat.toDigits 10 m = Nat.digitChar d :: r ∧ 0 < d ∧ d < 10 := by
  induction m using Nat.strongRecOn with
  | _ m ih =>
    by_cases h : m < 10
    · rw [Nat.toDigits_of_lt_base h]; exact ⟨m, [], rfl, hm, h⟩
    · have h2 : m % 10 < 10 := Nat.mod_lt m (by decide)
      have t : Nat.toDigits 10 (m / 10) ++ Nat.toDigits 10 (m % 10) = Nat.toDigits 10 (10 * (m / 10) + m % 10) := Nat.toDigits_append_toDigits (by decide) (by omega) h2
      rw [Nat.div_add_mod] at t
      obtain ⟨d, r, e, d0, d1⟩ := ih (m / 10) (by omega) (by omega)
      rw [← t, e]
      exact ⟨d, _, rfl, d0, d1⟩
abbrev numS (n : Int) : Str := Str.ofString (toString n)
structure NumT (n : Int) (t : Str) : Prop where
  pos : 0 < t.length
  len : t.length ≤ 20
  dig : ∀ c ∈ t.cps.toList, 48 ≤ c ∧ c ≤ 57
  led : t = "0" ∨ ∃ c r, t.cps.toList = c :: r ∧ c ≠ 48
  val : PySem.intText? t = some n
open PySem.W PySem.W.KIN PySem.NumText PyProof.Rows in
theorem num_text {n : Int} (h0 : 0 ≤ n) (h1 : n < 10 ^ 20) : NumT n (numS n) := by
  obtain ⟨m, rfl⟩ := Int.eq_ofNat_of_zero_le h0
  have hm : m < 10 ^ 20 := by exact_mod_cast h1
  have hs := signs_num m
  have hl : (numS (m : Int)).length = (Nat.toDigits 10 m).length := by
    have : (numS (m : Int)).length = (numS (m : Int)).cps.toList.length := by simp [Str.length]
    rw [this, hs, List.length_map]
  have hd : AllDigits (numS (m : Int)).cps.toList := by
    intro c hc
    rw [hs] at hc
    obtain ⟨ch, hch, e⟩ := List.mem_map.mp hc
    have r := digit_range (Nat.isDigit_of_mem_toDigits (by decide) (by decide) hch)
    rw [← e]
    exact r
  have hp : 0 < (numS (m : Int)).length := by rw [hl]; exact toDigits_len_ge 10 m
  have hle : (numS (m : Int)).length ≤ 20 := by rw [hl]; exact toDigits_le 20 m (by decide) hm
  have hne : (numS (m : Int)).cps.toList ≠ [] := fun e => by
    have : (numS (m : Int)).cps.toList.length = (numS (m : Int)).length := by simp [Str.length]
    rw [e] at this; simp at this; omega
  have ev := intText_digits hd hne (Nat.le_trans hle (by decide))
  rw [hs, val_back] at ev
  refine ⟨hp, hle, hd, ?_, ev⟩
  by_cases z : m = 0
  · left; subst z; decide +kernel
  · right
    obtain ⟨d, r, e, d0, d1⟩ := toDigits_head m (by omega)
    refine ⟨_, _, by rw [hs, e]; rfl, ?_⟩
    have : ∀ d < 10, 0 < d → (Nat.digitChar d).toNat ≠ 48 := by decide
    exact this d d1 d0
end PP
namespace BB
open PySem PySem.Spec PyProof.Rows L2 PP
theorem call_strA {X : Cx} : CallR X (.type "str") (fun xs H Q => (∃ i, xs = [.int i] ∧ i.natAbs.log2 < 1920 ∧ Q (.str (numS i)) H) ∨ (∃ z, xs = [.str z] ∧ Q (.str z) H) ∨ (xs = [.non] ∧ Q (.str "None") H)) := by
  intro pins s σ H xs us Q I r h
  rcases h with ⟨i, rfl, hl, q⟩ | ⟨z, rfl, q⟩ | ⟨rfl, q⟩
  · exact call_str_int pins s σ H _ us Q I r ⟨i, rfl, hl, q⟩
  · obtain ⟨u, rfl, t, rfl⟩ := vals1 r
    exact PySem.P.str_of_str ⟨.str z, H, I, ⟨_, rfl⟩, q⟩
  · obtain ⟨u, rfl, ru⟩ := vals1 r
    cases ru
    exact PySem.P.str_of_none ⟨.str "None", H, I.tok _, ⟨_, rfl⟩, q⟩
theorem call_intA {X : Cx} : CallR X (.type "int") (fun xs H Q => ((∃ i, xs = [.int i] ∧ Q (.int i) H) ∨ ∃ k, xs = [.bl k] ∧ Q (.int (if k then 1 else 0)) H) ∨ (∃ z n, xs = [.str z] ∧ PySem.intText? z = some n ∧ z.length ≤ 640 ∧ Q (.int n) H)) := by
  intro pins s σ H xs us Q I r h
  rcases h with h | h
  · exact call_int1 pins s σ H xs us Q I r h
  · exact call_intT pins s σ H xs us Q I r h
end BB
namespace PP
open PySem L2 BB
theorem joinS_eq (sep : Str) (ts : List Str) : joinS sep ts = Str.join sep ts := by
  match ts with
  | [] => exact StrLaws.glued_eq_join sep []
  | [p] => rfl
  | p :: q :: r => exact StrLaws.glued_eq_join sep (p :: q :: r)
theorem fold_le (k : Nat) : ∀ (l : List Str) (a : Nat), (∀ s ∈ l, s.length ≤ 200) → l.foldl (fun a s => a + s.length + k) a ≤ a + l.length * (200 + k)
  | [], a, _ => by simp
  | x :: l, a, h => by
    rw [List.foldl_cons]
    have h1 := h x (List.mem_cons_self ..)
    have h2 := fold_le k l (a + x.length + k) (fun s hs => h s (List.mem_cons_of_mem _ hs))
    rw [List.length_cons, Nat.succ_mul]
    omega
theorem join_len (sep : Str) (h1 : sep.length ≤ 1) : ∀ (l : List Str), (∀ s ∈ l, s.length ≤ 200) → (Str.join sep l).length ≤ l.length * 201
  | [], _ => by show Str.empty.length ≤ _; exact Nat.zero_le _
  | [x], h => by
    have := h x (by simp)
    show x.length ≤ 1 * 201
    omega
  | x :: y :: r, h => by
    have a := h x (by simp)
    have b := join_len sep h1 (y :: r) (fun s hs => h s (List.mem_cons_of_mem _ hs))
    show (x ++ sep ++ Str.join sep (y :: r)).length ≤ _
    have cl : ∀ a b : Str, (a ++ b).length = a.length + b.length := fun a b => by
      show (a.cps ++ b.cps).size = _
      rw [Array.size_append]; rfl
    rw [cl, cl, List.length_cons, Nat.succ_mul]
    omega
theorem join_ok (sep : Str) (h1 : sep.length ≤ 1) {ts : List Str} (hl : ts.length ≤ 400) (h : ∀ s ∈ ts, s.length ≤ 200) : Builtin.Str.tooLong (ts.toArray.foldl (· + ·.length + sep.length) 0) = false ∧ (joinS sep ts).length ≤ sizeLine ∧ (Str.join sep ts).length < sizeLine := by
  have big : (1000000 : Nat) < sizeLine := by decide
  have a := fold_le sep.length ts 0 h
  have b := join_len sep h1 ts h
  have c1 : ts.length * (200 + sep.length) ≤ 400 * 201 := Nat.mul_le_mul hl (by omega)
  have c2 : ts.length * 201 ≤ 400 * 201 := Nat.mul_le_mul_right _ hl
  refine ⟨?_, by rw [joinS_eq]; omega, by omega⟩
  unfold Builtin.Str.tooLong
  refine decide_eq_false ?_
  rw [List.foldl_toArray]
  omega
def partS : V → Str
  | .str z => z
  | .int i => numS i
  | .non => "None"
  | _ => ""
def Part (v : V) : Prop := (∃ z, v = .str z ∧ z.length ≤ 200) ∨ ∃ i : Int, v = .int i ∧ 0 ≤ i ∧ i < 10 ^ 20
theorem Part.len {v : V} (h : Part v) : (partS v).length ≤ 200 := by
  rcases h with ⟨z, rfl, l⟩ | ⟨i, rfl, a, b⟩
  · exact l
  · exact Nat.le_trans (num_text a b).len (by decide)
theorem log_small {i : Int} (h0 : 0 ≤ i) (h1 : i < 10 ^ 20) : i.natAbs.log2 < 1920 := by
  have : i.natAbs < 2 ^ 67 := by omega
  have := Nat.log2_lt (n := i.natAbs) (k := 67)
  by_cases z : i.natAbs = 0
  · rw [z]; decide
  · have := (Nat.log2_lt z).mpr (show i.natAbs < 2 ^ 67 by omega)
    omega
def Plain (t : Str) : Prop := ∃ c ∈ t.cps.toList, c < 48 ∨ 57 < c
abbrev FG : Str := "0123456789"
theorem made_num {n : Int} {t : Str} (h : NumT n t) : madeF t FG 20 = true := by
  have : madeF t FG ((20 : Nat) : Int) = true := by
    rw [made_list]
    have l : t.cps.toList.length = t.length := by simp [Str.length]
    refine madeL_true (by have := h.pos; omega) (by have := h.len; omega) (fun c hc => ?_)
    obtain ⟨a, b⟩ := h.dig c hc
    have : ∀ c < 58, 48 ≤ c → c ∈ FG.cps.toList := by decide +kernel
    exact this c (by omega) a
  exact this
theorem made_plain {t : Str} (h : Plain t) : madeF t FG 20 = false := by
  have : madeF t FG ((20 : Nat) : Int) = false := by
    rw [made_list]
    obtain ⟨c, hc, hd⟩ := h
    refine madeL_bad hc (fun z => ?_)
    have : ∀ c ∈ FG.cps.toList, 48 ≤ c ∧ c ≤ 57 := by decide +kernel
    have := this c z
    omega
  exact this
theorem parts_len {z : Str} (h : z.length < sizeLine) : (Builtin.Str.partsBetween z (Builtin.Str.occurrences z " " 0 z.length (z.length + 1)) (" " : Str).length).length ≤ sizeLine := by
  rw [StrLaws.partsBetween_eq]
  have pl : ∀ (cuts : List Nat) (a : Nat), (StrLaws.partsFrom z (" " : Str).length a cuts).length = cuts.length + 1 := by
    intro cuts
    induction cuts with
    | nil => intro a; rfl
    | cons c r ih => intro a; show (_ :: StrLaws.partsFrom z _ _ r).length = _; rw [List.length_cons, ih, List.length_cons]
  rw [pl, blank1, occ_places]
  have : ((places 32 z.cps.toList).take (z.length + 1)).length ≤ z.length := by
    rw [List.length_take]
    have : (places 32 z.cps.toList).length ≤ z.length := by
      rw [← places_filter]
      refine Nat.le_trans (List.length_filter_le _ _) ?_
      simp [Str.length]
    omega
  omega
end PP
namespace BB
open PySem PySem.Spec PyProof.Rows L2 PP
end BB
namespace BB
open PySem PySem.Spec PyProof.Rows L2 PP
end BB
namespace BB
open PySem PySem.Spec PyProof.Rows L2
theorem inv_but {X : Cx} {pins : List (Addr × Obj)} {σ : L2.St} {H : Hp} {s : Shared} {h : Heap} {C : Addr} (I : L2.Inv X pins σ H s) (hs : Heap.SameBut C s.heap h) (h0 : X.s₀.heap.objs.size ≤ C) (hf : H C = none) (hl : X.env.locals ≠ C)
    (hc : ∀ x c, X.env.cells.lookup x = some c → c ≠ C) (hp : ∀ p ∈ X.pn ++ pins, p.1 ≠ C) : L2.Inv X pins σ H { s with heap := h } where
  ok := I.ok
  os := I.os
  bare := I.bare
  base := un_but I.base hs h0
  loc := by
    obtain ⟨m, hn, k⟩ := I.loc
    refine ⟨m, hn.sameBut hs hl, fun i x v e1 e2 e3 => ?_⟩
    obtain ⟨u, r, l⟩ := k i x v e1 e2 e3
    refine ⟨u, r, ?_⟩
    rcases l with l | ⟨kk, c, e, z⟩
    · exact .inl l
    · obtain ⟨oz, hz, hd⟩ := z
      exact .inr ⟨kk, c, e, oz, hs.extBut _ _ (hc x c e) hz, hd⟩
  cell := fun x c e => by
    obtain ⟨v, oz, hz, hd⟩ := I.cell x c e
    exact ⟨v, oz, hs.extBut _ _ (hc x c e) hz, hd⟩
  free := I.free
  freeC := I.freeC
  pin := fun p hp' => by
    obtain ⟨e, n, ne, nf, d⟩ := I.pin p hp'
    exact ⟨hs.extBut _ _ (hp p hp') e, n, ne, nf, d⟩
  hok := hok_but I.hok hs hf
  len := I.len
end BB
namespace BB
open PySem PySem.Spec PyProof.Rows L2
def tF1 (c : Str) (te : TE) : TE := fun σ H Q => te σ H fun v H1 => ∃ z, v = .str z ∧ c.length + z.length ≤ sizeLine ∧ Q (.str (c ++ z)) H1
theorem empty_cat (c : Str) : Str.empty ++ c = c := by
  cases c
  show (⟨_⟩ : Str) = ⟨_⟩
  congr 1
  simp [Str.empty]
theorem pe_f1 {X : Cx} {c : Str} {j : Nat} {p1 p2 pos : Pos} {e : Expr} {te : TE} (he : PE X e te) (hc : c.length ≤ sizeLine) : PE X (.JoinedStr [.Constant (.str c) j p1, .FormattedValue e (-1) none p2] pos) (tF1 c te) := by
  intro pins s σ H Q I h
  refine wpAny_JoinedStr ?_
  show wpAny _ _ (eval (.Constant (.str c) j p1) X.env) _ _ s
  refine Calls.Constant_str ⟨c, _, rfl, by rw [empty_cat]; exact hc, ?_⟩
  rw [empty_cat]
  show wpAny _ _ (eval (.FormattedValue e (-1) none p2) X.env) _ _ _
  refine wpAny_FormattedValue_plain (thn (he pins _ σ H _ (I.tok _) h) fun v s1 ⟨x, H1, I1, r1, z, ex, hz, q⟩ => ?_)
  subst ex
  obtain ⟨t, rfl⟩ := r1
  have hl : (c ++ z).length ≤ sizeLine := by
    have : (c ++ z).length = c.length + z.length := by
      show (c.cps ++ z.cps).size = _
      rw [Array.size_append]; rfl
    omega
  refine wpAny_formatField_str ⟨z, _, rfl, hl, hl, ?_⟩ ⟨z, _, rfl, hl, hl, ?_⟩ (by omega)
  · exact ⟨.str (c ++ z), H1, I1.tok _, ⟨_, rfl⟩, q⟩
  · exact ⟨.str (c ++ z), H1, (I1.tok _).tok _, ⟨_, rfl⟩, q⟩
end BB
namespace PP
open PySem L2 BB
theorem blank1N : ("\n" : Str) = ⟨#[10]⟩ := by decide +kernel
theorem split_listN (x : Str) : (Txt.split x "\n").map (fun s => s.cps.toList) = splitL 10 x.cps.toList := by
  unfold Txt.split
  have ho : Builtin.Str.occurrences x "\n" 0 x.length (x.length + 1) = places 10 x.cps.toList := by
    rw [blank1N, occ_places, List.take_of_length_le]
    rw [← places_filter]
    refine Nat.le_trans (List.length_filter_le _ _) ?_
    simp [Str.length]
  split
  · rename_i h
    rw [Bool.or_eq_true, decide_eq_true_iff, decide_eq_true_iff] at h
    have k1 : Builtin.Str.strKind ("\n" : Str) = 1 := by decide +kernel
    have l1 : ("\n" : Str).length = 1 := by decide +kernel
    have hx : x.cps.toList = [] := by
      rcases h with h | h
      · apply List.length_eq_zero_iff.mp
        have : x.cps.toList.length = x.length := by simp [Str.length]
        omega
      · rw [k1] at h
        exfalso
        unfold Builtin.Str.strKind at h
        split at h
        · omega
        · split at h <;> omega
    show [x.cps.toList] = _
    rw [hx]; rfl
  · split
    · rename_i h
      rw [ho, List.isEmpty_iff] at h
      show [x.cps.toList] = _
      rw [splitL_no (places_nil.mp h)]
    · rw [ho, StrLaws.partsBetween_eq, show ("\n" : Str).length = 1 by decide +kernel]
      have := parts_list x 10 x.cps.toList [] 0 rfl (Nat.le_refl _)
      rw [show (places 10 x.cps.toList).map (· + ([] : List Nat).length) = places 10 x.cps.toList by simp] at this
      rw [this]
      obtain ⟨h, t, q⟩ := splitL_ne 10 x.cps.toList
      rw [q]; rfl
theorem join_listN : ∀ ws : List Str, (Str.join "\n" ws).cps.toList = joinL 10 (ws.map fun s => s.cps.toList)
  | [] => by show Str.empty.cps.toList = []; decide +kernel
  | [x] => rfl
  | x :: y :: r => by
    have cc : ∀ a b : Str, (a ++ b).cps.toList = a.cps.toList ++ b.cps.toList := fun a b => by
      show (a.cps ++ b.cps).toList = _
      simp
    show (x ++ ("\n" : Str) ++ Str.join "\n" (y :: r)).cps.toList = x.cps.toList ++ 10 :: joinL 10 ((y :: r).map fun s => s.cps.toList)
    rw [cc, cc, join_listN (y :: r), show ("\n" : Str).cps.toList = [10] by decide +kernel, List.append_assoc]; rfl
theorem split_joinN {ws : List Str} (hne : ws ≠ []) (hno : ∀ w ∈ ws, 10 ∉ w.cps.toList) : Txt.split (Str.join "\n" ws) "\n" = ws := by
  apply map_cps
  rw [split_listN, join_listN, splitL_join (by simpa using hne)]
  intro w hw
  obtain ⟨s, hs, rfl⟩ := List.mem_map.mp hw
  exact hno s hs
theorem parts_lenN {z : Str} (h : z.length < sizeLine) : (Builtin.Str.partsBetween z (Builtin.Str.occurrences z "\n" 0 z.length (z.length + 1)) ("\n" : Str).length).length ≤ sizeLine := by
  rw [StrLaws.partsBetween_eq]
  have pl : ∀ (cuts : List Nat) (a : Nat), (StrLaws.partsFrom z ("\n" : Str).length a cuts).length = cuts.length + 1 := by
    intro cuts
    induction cuts with
    | nil => intro a; rfl
    | cons c r ih => intro a; show (_ :: StrLaws.partsFrom z _ _ r).length = _; rw [List.length_cons, ih, List.length_cons]
  rw [pl, blank1N, occ_places]
  have : ((places 10 z.cps.toList).take (z.length + 1)).length ≤ z.length := by
    rw [List.length_take]
    have : (places 10 z.cps.toList).length ≤ z.length := by
      rw [← places_filter]
      refine Nat.le_trans (List.length_filter_le _ _) ?_
      simp [Str.length]
    omega
  omega
end PP
namespace BB
open PySem PySem.Spec PyProof.Rows L2 PP
end BB
namespace MM
open PySem PySem.Spec PyProof.Rows L2 BB
inductive U where
  | non | bl (b : Bool) | int (i : Int) | str (x : Str) | ty (n : String) | adr (a : Addr) | ref (i : Nat)
  | tup (us : List U) | lst (us : List U) | dk (kvs : List (Key × U)) | dt (kvs : List (List Key × U)) | ins (C : Addr) (fs : List (Str × U)) | scr (us : List U)
structure Exn where
  cls : Addr
  fs : List (Str × U)
abbrev Gm := List U
inductive Res (α : Type) where
  | ok (a : α) (g : Gm)
  | exc (x : Exn) (g : Gm)
  | stuck
def Res.bind {α β : Type} (r : Res α) (f : α → Gm → Res β) : Res β := match r with
  | .ok a g => f a g
  | .exc x g => .exc x g
  | .stuck => .stuck
def Post {α : Type} (r : Res α) (q : α → Gm → Prop) (e : Exn → Gm → Prop) : Prop := match r with
  | .ok a g => q a g
  | .exc x g => e x g
  | .stuck => False
theorem post_bind {α β : Type} {r : Res α} {f : α → Gm → Res β} {q : β → Gm → Prop} {e : Exn → Gm → Prop} : Post (r.bind f) q e ↔ Post r (fun a g => Post (f a g) q e) e := by cases r <;> exact Iff.rfl
theorem Post.mono {α : Type} {r : Res α} {q q' : α → Gm → Prop} {e e' : Exn → Gm → Prop} (h : Post r q e) (hq : ∀ a g, q a g → q' a g) (he : ∀ x g, e x g → e' x g) : Post r q' e' := by
  cases r with
  | ok a g => exact hq _ _ h
  | exc x g => exact he _ _ h
  | stuck => exact h
structure Ab where
  Z : Hp
  ρ : List Addr
section
variable (P : Program) (w : World) (K : PySem.W.Frag) (S : Ab)
def DkAt (a : Addr) (zs : List (Key × V)) : Prop := Rd S.Z a (.dK zs) ∨ KDict P w K a zs
mutual
def Fz : U → V → Prop
  | .non, v => v = .non
  | .bl b, v => v = .bl b
  | .int i, v => v = .int i
  | .str x, v => v = .str x
  | .ty n, v => v = .ty n
  | .adr a, v => v = .ref a
  | .ref i, v => ∃ a, S.ρ[i]? = some a ∧ v = .ref a
  | .tup us, v => ∃ a xs, v = .ref a ∧ SqT K S.Z a xs ∧ FzL us xs
  | .lst us, v => ∃ a xs, v = .ref a ∧ Rd S.Z a (.lst xs) ∧ FzL us xs
  | .dk kvs, v => ∃ a zs, v = .ref a ∧ DkAt P w K S a zs ∧ FzK kvs zs
  | .dt kvs, v => ∃ a zs, v = .ref a ∧ Rd S.Z a (.dT zs) ∧ FzT kvs zs
  | .ins _ _, _ => False
  | .scr us, v => ∃ a xs, v = .ref a ∧ SqL K S.Z a xs ∧ FzL us xs
def FzL : List U → List V → Prop
  | [], xs => xs = []
  | u :: us, xs => ∃ x r, xs = x :: r ∧ Fz u x ∧ FzL us r
def FzK : List (Key × U) → List (Key × V) → Prop
  | [], xs => xs = []
  | (k, u) :: us, xs => ∃ x r, xs = (k, x) :: r ∧ Fz u x ∧ FzK us r
def FzT : List (List Key × U) → List (List Key × V) → Prop
  | [], xs => xs = []
  | (k, u) :: us, xs => ∃ x r, xs = (k, x) :: r ∧ Fz u x ∧ FzT us r
end
end
section
variable {P : Program} {w : World} {K : PySem.W.Frag}
structure Le (S S' : Ab) : Prop where
  z : ∀ a o, S.Z a = some o → S'.Z a = some o
  r : ∀ (i : Nat) (a : Addr), S.ρ[i]? = some a → S'.ρ[i]? = some a
theorem Le.refl (S : Ab) : Le S S := ⟨fun _ _ h => h, fun _ _ h => h⟩
theorem Le.trans {S S1 S2 : Ab} (a : Le S S1) (b : Le S1 S2) : Le S S2 := ⟨fun x o h => b.z x o (a.z x o h), fun i x h => b.r i x (a.r i x h)⟩
theorem rd_le {Z Z' : Hp} (h : ∀ a o, Z a = some o → Z' a = some o) {a : Addr} {u : HO} (r : Rd Z a u) : Rd Z' a u := r.elim (fun e => .inl (h _ _ e)) fun ⟨o, e⟩ => .inr ⟨o, h _ _ e⟩
theorem sqt_le {Z Z' : Hp} (h : ∀ a o, Z a = some o → Z' a = some o) {a : Addr} {xs : List V} (r : SqT K Z a xs) : SqT K Z' a xs := r.elim (fun e => .inl (rd_le h e)) .inr
theorem sql_le {Z Z' : Hp} (h : ∀ a o, Z a = some o → Z' a = some o) {a : Addr} {xs : List V} (r : SqL K Z a xs) : SqL K Z' a xs := r.elim (fun e => .inl (rd_le h e)) .inr
mutual
theorem Fz.le {S S' : Ab} (l : Le S S') : ∀ {u : U} {v : V}, Fz P w K S u v → Fz P w K S' u v
  | .non, _, h => h
  | .bl _, _, h => h
  | .int _, _, h => h
  | .str _, _, h => h
  | .ty _, _, h => h
  | .adr _, _, h => h
  | .ref _, _, h => let ⟨a, e, z⟩ := h; ⟨a, l.r _ _ e, z⟩
  | .tup _, _, h => let ⟨a, xs, e, q, f⟩ := h; ⟨a, xs, e, sqt_le l.z q, FzL.le l f⟩
  | .lst _, _, h => let ⟨a, xs, e, q, f⟩ := h; ⟨a, xs, e, rd_le l.z q, FzL.le l f⟩
  | .dk _, _, h => let ⟨a, xs, e, q, f⟩ := h; ⟨a, xs, e, q.elim (fun z => .inl (rd_le l.z z)) .inr, FzK.le l f⟩
  | .dt _, _, h => let ⟨a, xs, e, q, f⟩ := h; ⟨a, xs, e, rd_le l.z q, FzT.le l f⟩
  | .ins _ _, _, h => h
  | .scr _, _, h => let ⟨a, xs, e, q, f⟩ := h; ⟨a, xs, e, sql_le l.z q, FzL.le l f⟩
theorem FzL.le {S S' : Ab} (l : Le S S') : ∀ {us : List U} {xs : List V}, FzL P w K S us xs → FzL P w K S' us xs
  | [], _, h => h
  | _ :: _, _, h => let ⟨x, r, e, f, t⟩ := h; ⟨x, r, e, Fz.le l f, FzL.le l t⟩
theorem FzK.le {S S' : Ab} (l : Le S S') : ∀ {us : List (Key × U)} {xs : List (Key × V)}, FzK P w K S us xs → FzK P w K S' us xs
  | [], _, h => h
  | (_, _) :: _, _, h => let ⟨x, r, e, f, t⟩ := h; ⟨x, r, e, Fz.le l f, FzK.le l t⟩
theorem FzT.le {S S' : Ab} (l : Le S S') : ∀ {us : List (List Key × U)} {xs : List (List Key × V)}, FzT P w K S us xs → FzT P w K S' us xs
  | [], _, h => h
  | (_, _) :: _, _, h => let ⟨x, r, e, f, t⟩ := h; ⟨x, r, e, Fz.le l f, FzT.le l t⟩
end
theorem FzL.length {S : Ab} : ∀ {us : List U} {xs : List V}, FzL P w K S us xs → us.length = xs.length
  | [], _, h => by cases h; rfl
  | _ :: _, _, h => by obtain ⟨x, r, rfl, f, t⟩ := h; simp [FzL.length t]
theorem FzL.get {S : Ab} : ∀ {us : List U} {xs : List V} {i : Nat} {u : U}, FzL P w K S us xs → us[i]? = some u → ∃ x, xs[i]? = some x ∧ Fz P w K S u x
  | [], _, _, _, _, e => by simp at e
  | _ :: _, _, 0, _, h, e => by obtain ⟨x, r, rfl, f, t⟩ := h; cases e; exact ⟨x, rfl, f⟩
  | _ :: us, _, i + 1, u, h, e => by obtain ⟨x, r, rfl, f, t⟩ := h; obtain ⟨y, e1, e2⟩ := FzL.get (us := us) (i := i) (u := u) t (by simpa using e); exact ⟨y, by simpa using e1, e2⟩
theorem FzL.append {S : Ab} : ∀ {us us' : List U} {xs xs' : List V}, FzL P w K S us xs → FzL P w K S us' xs' → FzL P w K S (us ++ us') (xs ++ xs')
  | [], _, _, _, h, h' => by cases h; exact h'
  | _ :: _, _, _, _, h, h' => by obtain ⟨x, r, rfl, f, t⟩ := h; exact ⟨x, _, rfl, f, FzL.append t h'⟩
theorem FzL.one {S : Ab} {u : U} {x : V} (h : Fz P w K S u x) : FzL P w K S [u] [x] := ⟨x, [], rfl, h, rfl⟩
theorem FzL.drop {S : Ab} : ∀ {us : List U} {xs : List V} (n : Nat), FzL P w K S us xs → FzL P w K S (us.drop n) (xs.drop n)
  | _, _, 0, h => h
  | [], _, n + 1, h => by cases h; exact rfl
  | _ :: _, _, n + 1, h => by obtain ⟨x, r, rfl, f, t⟩ := h; exact FzL.drop n t
theorem FzL.take {S : Ab} : ∀ {us : List U} {xs : List V} (n : Nat), FzL P w K S us xs → FzL P w K S (us.take n) (xs.take n)
  | _, _, 0, h => rfl
  | [], _, n + 1, h => by cases h; exact rfl
  | _ :: _, _, n + 1, h => by obtain ⟨x, r, rfl, f, t⟩ := h; exact ⟨x, _, rfl, f, FzL.take n t⟩
def FzF (P : Program) (w : World) (K : PySem.W.Frag) (S : Ab) : List (Str × U) → List (Str × V) → Prop
  | [], xs => xs = []
  | (k, u) :: us, xs => ∃ x r, xs = (k, x) :: r ∧ Fz P w K S u x ∧ FzF P w K S us r
theorem FzF.le {S S' : Ab} (l : Le S S') : ∀ {us : List (Str × U)} {xs : List (Str × V)}, FzF P w K S us xs → FzF P w K S' us xs
  | [], _, h => h
  | (_, _) :: _, _, h => let ⟨x, r, e, f, t⟩ := h; ⟨x, r, e, Fz.le l f, FzF.le l t⟩
end
structure Ext (S S' : Ab) (H H' : Hp) : Prop where
  z : ∀ a o, S.Z a = some o → S'.Z a = some o
  zn : ∀ a, S'.Z a ≠ none → S.Z a ≠ none ∨ H a = none
  r : ∃ l, S'.ρ = S.ρ ++ l ∧ ∀ a ∈ l, H a = none
  fr : ∀ a o, H a = some o → a ∉ S.ρ → H' a = some o
  dom : ∀ a, H a ≠ none → H' a ≠ none
theorem Ext.refl (S : Ab) (H : Hp) : Ext S S H H := ⟨fun _ _ h => h, fun _ h => .inl h, ⟨[], by simp, by simp⟩, fun _ _ h _ => h, fun _ h => h⟩
theorem Ext.le {S S' : Ab} {H H' : Hp} (x : Ext S S' H H') : Le S S' := ⟨x.z, fun i a h => by
  obtain ⟨l, e, _⟩ := x.r
  rw [e]
  have := List.getElem?_eq_some_iff.mp h
  obtain ⟨hi, _⟩ := this
  rw [List.getElem?_append_left hi]; exact h⟩
theorem Ext.trans {S S1 S2 : Ab} {H H1 H2 : Hp} (x : Ext S S1 H H1) (y : Ext S1 S2 H1 H2) : Ext S S2 H H2 where
  z a o h := y.z a o (x.z a o h)
  zn a h := (y.zn a h).elim (fun h => x.zn a h) fun h => .inr (by
    cases e : H a with
    | none => rfl
    | some o => exact absurd h (x.dom a (by rw [e]; exact fun z => by cases z)))
  r := by
    obtain ⟨l, e, f⟩ := x.r
    obtain ⟨l', e', f'⟩ := y.r
    refine ⟨l ++ l', by rw [e', e, List.append_assoc], fun a h => ?_⟩
    rcases List.mem_append.mp h with h | h
    · exact f a h
    · cases q : H a with
      | none => rfl
      | some o => exact absurd (f' a h) (x.dom a (by rw [q]; exact fun z => by cases z))
  fr a o h n := y.fr a o (x.fr a o h n) (by
    obtain ⟨l, e, f⟩ := x.r
    rw [e]
    intro m
    rcases List.mem_append.mp m with m | m
    · exact n m
    · rw [f a m] at h; cases h)
  dom a h := y.dom a (x.dom a h)
def OwnAt (P : Program) (w : World) (K : PySem.W.Frag) (S : Ab) (H : Hp) (a : Addr) : U → Prop
  | .lst us => ∃ xs, H a = some (.lst xs) ∧ FzL P w K S us xs
  | .dk us => ∃ xs, H a = some (.dK xs) ∧ FzK P w K S us xs
  | .dt us => ∃ xs, H a = some (.dT xs) ∧ FzT P w K S us xs
  | _ => False
def CellAt (P : Program) (w : World) (K : PySem.W.Frag) (S : Ab) (H : Hp) (a : Addr) (u : U) : Prop := OwnAt P w K S H a u ∨ ∃ C fs dx gs, u = .ins C fs ∧ H a = some (.ins C dx gs) ∧ FzF P w K S fs gs
inductive Sl where
  | no
  | v (u : U)
  | own (u : U)
abbrev Env := List Sl
structure MC where
  S0 : Ab
  H0 : Hp
  E : XK
def Free (C : MC) (S : Ab) (a : Addr) : Prop := S.Z a = none ∧ a ∉ S.ρ ∧ C.H0 a = none
section
variable (P : Program) (w : World) (K : PySem.W.Frag) (C : MC)
structure RelG (S : Ab) (g : Gm) (H : Hp) : Prop where
  zs : ∀ a o, S.Z a = some o → H a = some o
  cs : ∀ (i : Nat) (u : U), g[i]? = some u → ∃ a, S.ρ[i]? = some a ∧ CellAt P w K S H a u
  rl : S.ρ.length = g.length
  rn : S.ρ.Nodup
  rz : ∀ a ∈ S.ρ, S.Z a = none
  ext : Ext C.S0 S C.H0 H
structure RelE (S : Ab) (env : Env) (σ : L2.St) (H : Hp) : Prop where
  el : env.length = σ.length
  ev : ∀ (j : Nat) (u : U), env[j]? = some (.v u) → ∃ v, σ[j]? = some (some v) ∧ Fz P w K S u v
  eo : ∀ (j : Nat) (u : U), env[j]? = some (.own u) → ∃ a, σ[j]? = some (some (.ref a)) ∧ OwnAt P w K S H a u ∧ Free C S a
  ed : ∀ (j j' : Nat) (u u' : U) (a : Addr), env[j]? = some (.own u) → env[j']? = some (.own u') → σ[j]? = some (some (.ref a)) → σ[j']? = some (some (.ref a)) → j = j'
structure Rel (S : Ab) (env : Env) (g : Gm) (σ : L2.St) (H : Hp) : Prop where
  G : RelG P w K C S g H
  L : RelE P w K C S env σ H
def ExOk (S : Ab) (x : Exn) (d : Option Addr) (H : Hp) : Prop := (x.fs = [] ∧ d = none) ∨ ∃ a gs, x.fs ≠ [] ∧ d = some a ∧ H a = some (.xd gs) ∧ FzF P w K S x.fs gs
def XPost (x : Exn) (g : Gm) : Prop := ∀ S H d, RelG P w K C S g H → ExOk P w K S x d H → C.E (.ref x.cls) d H
def Bw (S : Ab) (env : Env) (σ : L2.St) (u : U) (v : V) : Prop := Fz P w K S u v ∨ ∃ (j : Nat) (a : Addr), env[j]? = some (.own u) ∧ σ[j]? = some (some (.ref a)) ∧ v = .ref a
end
abbrev Ab.now (S : Ab) (H : Hp) : Ab := ⟨H, S.ρ⟩
def look (g : Gm) : U → U
  | .ref i => match g[i]? with
    | some (.lst us) => .lst us
    | some (.dk us) => .dk us
    | some (.dt us) => .dt us
    | _ => .ref i
  | u => u
section
variable {P : Program} {w : World} {K : PySem.W.Frag} {C : MC} {S S' : Ab} {g : Gm} {H H' : Hp} {env : Env} {σ : L2.St} {u : U} {v : V}
theorem OwnAt.le {a : Addr} (l : Le S S') (h : OwnAt P w K S H a u) : OwnAt P w K S' H a u := by
  cases u <;> first | exact h.elim | skip
  · obtain ⟨xs, e, f⟩ := h; exact ⟨xs, e, f.le l⟩
  · obtain ⟨xs, e, f⟩ := h; exact ⟨xs, e, f.le l⟩
  · obtain ⟨xs, e, f⟩ := h; exact ⟨xs, e, f.le l⟩
theorem OwnAt.at {a : Addr} (h : OwnAt P w K S H a u) (e : ∀ o, H a = some o → H' a = some o) : OwnAt P w K S H' a u := by
  cases u <;> first | exact h.elim | skip
  · obtain ⟨xs, q, f⟩ := h; exact ⟨xs, e _ q, f⟩
  · obtain ⟨xs, q, f⟩ := h; exact ⟨xs, e _ q, f⟩
  · obtain ⟨xs, q, f⟩ := h; exact ⟨xs, e _ q, f⟩
theorem OwnAt.some {a : Addr} (h : OwnAt P w K S H a u) : H a ≠ none := by
  cases u <;> first | exact h.elim | skip
  · obtain ⟨xs, q, f⟩ := h; rw [q]; exact fun z => by cases z
  · obtain ⟨xs, q, f⟩ := h; rw [q]; exact fun z => by cases z
  · obtain ⟨xs, q, f⟩ := h; rw [q]; exact fun z => by cases z
theorem CellAt.le {a : Addr} (l : Le S S') (h : CellAt P w K S H a u) : CellAt P w K S' H a u := h.elim (fun h => .inl (h.le l)) fun ⟨C, fs, dx, gs, e, q, f⟩ => .inr ⟨C, fs, dx, gs, e, q, f.le l⟩
theorem CellAt.at {a : Addr} (h : CellAt P w K S H a u) (e : ∀ o, H a = some o → H' a = some o) : CellAt P w K S H' a u := h.elim (fun h => .inl (h.at e)) fun ⟨C, fs, dx, gs, z, q, f⟩ => .inr ⟨C, fs, dx, gs, z, e _ q, f⟩
theorem CellAt.some {a : Addr} (h : CellAt P w K S H a u) : H a ≠ none := h.elim (fun h => h.some) fun ⟨C, fs, dx, gs, z, q, f⟩ => by rw [q]; exact fun z => by cases z
theorem RelG.now (R : RelG P w K C S g H) : Le S (S.now H) := ⟨R.zs, fun _ _ h => h⟩
theorem OwnAt.now {a : Addr} (R : RelG P w K C S g H) (h : OwnAt P w K S H a u) : Fz P w K (S.now H) u (.ref a) := by
  cases u <;> first | exact h.elim | skip
  · obtain ⟨xs, q, f⟩ := h; exact ⟨a, xs, rfl, Rd.of q, f.le R.now⟩
  · obtain ⟨xs, q, f⟩ := h; exact ⟨a, xs, rfl, .inl (Rd.of q), f.le R.now⟩
  · obtain ⟨xs, q, f⟩ := h; exact ⟨a, xs, rfl, Rd.of q, f.le R.now⟩
theorem Bw.now (R : Rel P w K C S env g σ H) (h : Bw P w K S env σ u v) : Fz P w K (S.now H) u v := by
  rcases h with h | ⟨j, a, e, e1, rfl⟩
  · exact h.le R.G.now
  · obtain ⟨b, e2, o, _⟩ := R.L.eo j u e
    rw [e1] at e2; cases e2
    exact o.now R.G
theorem Bw.look (R : Rel P w K C S env g σ H) (h : Bw P w K S env σ u v) : Fz P w K (S.now H) (look g u) v := by
  unfold MM.look
  cases u with
  | ref i =>
    have h1 := h.now R
    dsimp only
    obtain ⟨a, ea, rfl⟩ := h1
    have ea : S.ρ[i]? = Option.some a := ea
    split
    · next us e => obtain ⟨b, eb, c⟩ := R.G.cs i _ e; rw [ea] at eb; cases eb; exact OwnAt.now R.G (c.elim id fun ⟨_, _, _, _, z, _⟩ => by cases z)
    · next us e => obtain ⟨b, eb, c⟩ := R.G.cs i _ e; rw [ea] at eb; cases eb; exact OwnAt.now R.G (c.elim id fun ⟨_, _, _, _, z, _⟩ => by cases z)
    · next us e => obtain ⟨b, eb, c⟩ := R.G.cs i _ e; rw [ea] at eb; cases eb; exact OwnAt.now R.G (c.elim id fun ⟨_, _, _, _, z, _⟩ => by cases z)
    · exact ⟨a, ea, rfl⟩
  | _ => exact h.now R
theorem Bw.le (l : Le S S') (h : Bw P w K S env σ u v) : Bw P w K S' env σ u v := h.imp_left (fun h => h.le l)
end
end MM
namespace MM
open PySem PySem.Spec PyProof.Rows L2 BB
section
variable {P : Program} {w : World} {K : PySem.W.Frag} {C : MC} {S S' : Ab} {g : Gm} {H H' : Hp} {env : Env} {σ : L2.St} {u : U} {v : V} {p : Addr} {o : HO}
theorem RelG.zp (R : RelG P w K C S g H) (h : H p = none) : S.Z p = none := by
  cases e : S.Z p with
  | none => rfl
  | some o => rw [R.zs p o e] at h; cases h
theorem RelG.rp (R : RelG P w K C S g H) (h : H p = none) : p ∉ S.ρ := fun m => by
  obtain ⟨i, hi, e⟩ := List.getElem_of_mem m
  have hg : i < g.length := by rw [← R.rl]; exact hi
  obtain ⟨a, ea, c⟩ := R.cs i g[i] (List.getElem?_eq_getElem hg)
  rw [List.getElem?_eq_getElem hi, e] at ea
  cases ea
  exact c.some h
theorem RelG.h0 (R : RelG P w K C S g H) (h : H p = none) : C.H0 p = none := by
  cases e : C.H0 p with
  | none => rfl
  | some o => exact absurd h (R.ext.dom p (by rw [e]; exact fun z => by cases z))
theorem RelG.free (R : RelG P w K C S g H) (h : H p = none) : Free C S p := ⟨R.zp h, R.rp h, R.h0 h⟩
theorem upd_keeps (h : H p = none) : ∀ a q, H a = some q → upd H p o a = some q := fun a q e => by rw [upd_ne (ne_of_none e h)]; exact e
theorem Ext.grow (k : ∀ a q, H a = some q → H' a = some q) : Ext S S H H' := ⟨fun _ _ h => h, fun _ h => .inl h, ⟨[], by simp, by simp⟩, fun a q h _ => k a q h, fun a h => by
  cases e : H a with
  | none => exact absurd e h
  | some q => rw [k a q e]; exact fun z => by cases z⟩
theorem RelG.grow (R : RelG P w K C S g H) (k : ∀ a q, H a = some q → H' a = some q) : RelG P w K C S g H' :=
  ⟨fun a q h => k a q (R.zs a q h), fun i u e => let ⟨a, ea, c⟩ := R.cs i u e; ⟨a, ea, c.at fun q h => k a q h⟩, R.rl, R.rn, R.rz, R.ext.trans (Ext.grow k)⟩
theorem RelE.grow (R : RelE P w K C S env σ H) (k : ∀ a q, H a = some q → H' a = some q) : RelE P w K C S env σ H' :=
  ⟨R.el, R.ev, fun j u e => let ⟨a, ea, q, f⟩ := R.eo j u e; ⟨a, ea, q.at fun q h => k a q h, f⟩, R.ed⟩
theorem Rel.grow (R : Rel P w K C S env g σ H) (k : ∀ a q, H a = some q → H' a = some q) : Rel P w K C S env g σ H' := ⟨R.G.grow k, R.L.grow k⟩
abbrev Ab.frz (S : Ab) (p : Addr) (o : HO) : Ab := ⟨upd S.Z p o, S.ρ⟩
theorem Le.frz (h : S.Z p = none) : Le S (S.frz p o) := ⟨fun a q e => by show upd S.Z p o a = some q; rw [upd_ne (ne_of_none e h)]; exact e, fun _ _ h => h⟩
theorem RelG.frz (R : RelG P w K C S g H) (f : Free C S p) (h : H p = some o) : RelG P w K C (S.frz p o) g H where
  zs a q e := by
    have e : upd S.Z p o a = some q := e
    by_cases ha : a = p
    · subst ha; rw [upd_same] at e; cases e; exact h
    · rw [upd_ne ha] at e; exact R.zs a q e
  cs i u e := let ⟨a, ea, c⟩ := R.cs i u e; ⟨a, ea, c.le (Le.frz f.1)⟩
  rl := R.rl
  rn := R.rn
  rz a m := by
    have : a ≠ p := fun e => f.2.1 (e ▸ m)
    show upd S.Z p o a = none
    rw [upd_ne this]; exact R.rz a m
  ext := ⟨fun a q e => (Le.frz f.1).z a q (R.ext.z a q e), fun a hz => by
    by_cases ha : a = p
    · subst ha; exact .inr f.2.2
    · exact R.ext.zn a (by intro z; apply hz; show upd S.Z p o a = none; rw [upd_ne ha]; exact z), R.ext.r, R.ext.fr, R.ext.dom⟩
theorem RelE.frz (R : RelE P w K C S env σ H) (f : Free C S p) (n : ∀ (j : Nat) (u : U), env[j]? = some (.own u) → σ[j]? ≠ some (some (.ref p))) : RelE P w K C (S.frz p o) env σ H where
  el := R.el
  ev j u e := let ⟨v, e1, h⟩ := R.ev j u e; ⟨v, e1, h.le (Le.frz f.1)⟩
  eo j u e := by
    obtain ⟨a, e1, q, fa⟩ := R.eo j u e
    refine ⟨a, e1, q.le (Le.frz f.1), ?_, fa.2⟩
    have : a ≠ p := fun z => n j u e (z ▸ e1)
    show upd S.Z p o a = none
    rw [upd_ne this]; exact fa.1
  ed := R.ed
theorem Ext.new (zp : S.Z p = none) (h : H p = none) : Ext S (S.frz p o) H (upd H p o) := ⟨(Le.frz zp).z, fun a z => by
  by_cases ha : a = p
  · subst ha; exact .inr h
  · refine .inl fun y => z ?_
    show upd S.Z p o a = none
    rw [upd_ne ha]; exact y, ⟨[], by simp, by simp⟩, fun a q e _ => upd_keeps h a q e, fun a z => by
  cases e : H a with
  | none => exact absurd e z
  | some q => rw [upd_keeps h a q e]; exact fun z => by cases z⟩
def NoSlot (env : Env) (σ : L2.St) (a : Addr) : Prop := ∀ (j : Nat) (u : U), env[j]? = some (.own u) → σ[j]? ≠ some (some (.ref a))
theorem RelE.noslot (R : RelE P w K C S env σ H) (h : H p = none) : NoSlot env σ p := fun j u e z => by
  obtain ⟨a, e1, q, _⟩ := R.eo j u e
  rw [z] at e1; cases e1
  exact q.some h
theorem Rel.new (R : Rel P w K C S env g σ H) (h : H p = none) : Rel P w K C (S.frz p o) env g σ (upd H p o) :=
  ⟨(R.G.grow (upd_keeps h)).frz (R.G.free h) upd_same, (R.L.grow (upd_keeps h)).frz (R.G.free h) (R.L.noslot h)⟩
theorem new_tup {us : List U} {xs : List V} (R : Rel P w K C S env g σ H) (h : H p = none) (f : FzL P w K S us xs) : Fz P w K (S.frz p (.tup xs)) (.tup us) (.ref p) :=
  ⟨p, xs, rfl, SqT.of upd_same, f.le (Le.frz (R.G.zp h))⟩
end
inductive Fl where
  | nx | rt (u : U) | bk | ct
abbrev Me := Env → Gm → Res U
abbrev Mt := Env → Gm → Res Bool
abbrev Ma := Env → Gm → Res (List U)
abbrev Ms := Env → Gm → Res (Fl × Env)
section
variable (X : Cx) (C : MC)
abbrev RelX (S : Ab) (env : Env) (g : Gm) (σ : L2.St) (H : Hp) : Prop := Rel X.prog X.w X.K C S env g σ H
abbrev FzX (S : Ab) (u : U) (v : V) : Prop := Fz X.prog X.w X.K S u v
def liftE (m : Me) : TE := fun σ H Q => ∃ S env g, RelX X C S env g σ H ∧ Post (m env g) (fun u g' => ∀ S' v H', Ext S S' H H' → RelX X C S' env g' σ H' → FzX X S' u v → Q v H') (XPost X.prog X.w X.K C)
def liftB (m : Me) : TE := fun σ H Q => ∃ S env g, RelX X C S env g σ H ∧ Post (m env g) (fun u g' => ∀ S' v H', Ext S S' H H' → RelX X C S' env g' σ H' → Bw X.prog X.w X.K S' env σ u v → Q v H') (XPost X.prog X.w X.K C)
def liftO (m : Me) : TE := fun σ H Q => ∃ S env g, RelX X C S env g σ H ∧ Post (m env g) (fun u g' => ∀ S' a H', Ext S S' H H' → RelX X C S' env g' σ H' → OwnAt X.prog X.w X.K S' H' a u → Free C S' a → NoSlot env σ a → H a = none → Q (.ref a) H') (XPost X.prog X.w X.K C)
def liftT (m : Mt) : TT := fun σ H Q => ∃ S env g, RelX X C S env g σ H ∧ Post (m env g) (fun u g' => ∀ S' H', Ext S S' H H' → RelX X C S' env g' σ H' → Q u H') (XPost X.prog X.w X.K C)
def liftA (m : Ma) : TA := fun σ H Q => ∃ S env g, RelX X C S env g σ H ∧ Post (m env g) (fun us g' => ∀ S' vs H', Ext S S' H H' → RelX X C S' env g' σ H' → FzL X.prog X.w X.K S' us vs → Q vs H') (XPost X.prog X.w X.K C)
def ResOk (o : Bool) (S : Ab) (H : Hp) (u : U) (v : V) : Prop := match o with
  | false => Fz X.prog X.w X.K S u v
  | true => ∃ a, v = .ref a ∧ OwnAt X.prog X.w X.K S H a u ∧ Free C S a
def EndS (o : Bool) (D : Ends) (S : Ab) (z : Fl × Env) (g : Gm) : Prop := match z with
  | (.nx, env) => ∀ S' σ H, Le S S' → RelX X C S' env g σ H → D.nx σ H
  | (.bk, env) => ∀ S' σ H, Le S S' → RelX X C S' env g σ H → D.bk σ H
  | (.ct, env) => ∀ S' σ H, Le S S' → RelX X C S' env g σ H → D.ct σ H
  | (.rt u, _) => ∀ S' H v, RelG X.prog X.w X.K C S' g H → ResOk X C o S' H u v → D.rt v H
def liftS (o : Bool) (m : Ms) : TS := fun D σ H => ∃ S env g, RelX X C S env g σ H ∧ Post (m env g) (EndS X C o D S) (XPost X.prog X.w X.K C)
structure ME (e : Expr) (m : Me) : Prop where
  h : PE X e (liftE X C m)
structure MB (e : Expr) (m : Me) : Prop where
  h : PE X e (liftB X C m)
structure MO (e : Expr) (m : Me) : Prop where
  h : PE X e (liftO X C m)
structure MT (e : Expr) (m : Mt) : Prop where
  h : PT X e (liftT X C m)
structure MW (e : Expr) (m : Mt) : Prop where
  h : PW X e (liftT X C m)
structure MA (es : List Expr) (m : Ma) : Prop where
  h : PA X es (liftA X C m)
  ns : es.all noStar = true
  len : ∀ env g us g', m env g = .ok us g' → us.length = es.length
structure MS (o : Bool) (st : Stmt) (m : Ms) : Prop where
  h : PS X st (liftS X C o m)
structure MSs (o : Bool) (sts : List Stmt) (m : Ms) : Prop where
  h : PSs X sts (liftS X C o m)
end
section
variable {X : Cx} {C : MC} {e a b : Expr} {m ma mb : Me} {pos : Pos} {o : Bool}
theorem PE.imp {t t' : TE} (h : PE X e t) (k : ∀ σ H Q, t' σ H Q → t σ H Q) : PE X e t' := fun pins s σ H Q I z => h pins s σ H Q I (k σ H Q z)
theorem PT.imp {t t' : TT} (h : PT X e t) (k : ∀ σ H Q, t' σ H Q → t σ H Q) : PT X e t' := fun pins s σ H Q I z => h pins s σ H Q I (k σ H Q z)
theorem PW.imp {t t' : TT} (h : PW X e t) (k : ∀ σ H Q, t' σ H Q → t σ H Q) : PW X e t' := fun wh pins s σ H Q I z => h wh pins s σ H Q I (k σ H Q z)
theorem PA.imp {es : List Expr} {t t' : TA} (h : PA X es t) (k : ∀ σ H Q, t' σ H Q → t σ H Q) : PA X es t' := fun ps pins s σ H Q I z => h ps pins s σ H Q I (k σ H Q z)
theorem PS.imp {st : Stmt} {t t' : TS} (h : PS X st t) (k : ∀ D σ H, t' D σ H → t D σ H) : PS X st t' := fun pins s σ H D I z => h pins s σ H D I (k D σ H z)
theorem PSs.imp {st : List Stmt} {t t' : TS} (h : PSs X st t) (k : ∀ D σ H, t' D σ H → t D σ H) : PSs X st t' := fun pins s σ H D I z => h pins s σ H D I (k D σ H z)
theorem mb_of (h : ME X C e m) : MB X C e m := ⟨PE.imp h.h fun σ H Q ⟨S, env, g, R, p⟩ => ⟨S, env, g, R, p.mono (fun u g' q S' v H' x r f => q S' v H' x r (.inl f)) fun _ _ z => z⟩⟩
theorem me_of (h : MO X C e m) : ME X C e m := ⟨PE.imp h.h fun σ H Q ⟨S, env, g, R, p⟩ => ⟨S, env, g, R, p.mono (fun u g' q S' a H' x r ow f n ha => by
  obtain ⟨o, ho⟩ : ∃ o, H' a = some o := by
    cases z : H' a with
    | none => exact absurd z ow.some
    | some o => exact ⟨o, rfl⟩
  refine q (S'.frz a o) (.ref a) H' ?_ ⟨r.G.frz f ho, r.L.frz f n⟩ ?_
  · refine ⟨fun b q e => (Le.frz f.1).z b q (x.z b q e), fun b z => ?_, x.r, x.fr, x.dom⟩
    by_cases hb : b = a
    · subst hb; exact .inr ha
    · refine x.zn b fun y => z ?_
      show upd S'.Z a o b = none
      rw [upd_ne hb]; exact y
  · cases u <;> first | exact ow.elim | skip
    · obtain ⟨xs, e1, f1⟩ := ow; rw [ho] at e1; cases e1; exact ⟨a, xs, rfl, Rd.of upd_same, f1.le (Le.frz f.1)⟩
    · obtain ⟨xs, e1, f1⟩ := ow; rw [ho] at e1; cases e1; exact ⟨a, xs, rfl, .inl (Rd.of upd_same), f1.le (Le.frz f.1)⟩
    · obtain ⟨xs, e1, f1⟩ := ow; rw [ho] at e1; cases e1; exact ⟨a, xs, rfl, Rd.of upd_same, f1.le (Le.frz f.1)⟩) fun _ _ z => z⟩⟩
def vE (i : Nat) : Me := fun env g => match env[i]? with
  | some (.v u) => .ok u g
  | _ => .stuck
def oE (i : Nat) : Me := fun env g => match env[i]? with
  | some (.own u) => .ok u g
  | _ => .stuck
def cE (u : U) : Me := fun _ g => .ok u g
theorem me_var {i : Nat} {x : Str} (hp : PE X (.Name x pos) (tVar i)) : ME X C (.Name x pos) (vE i) := ⟨PE.imp hp fun σ H Q ⟨S, env, g, R, p⟩ => by
  unfold vE at p
  split at p
  · next u e => obtain ⟨v, e1, f⟩ := R.L.ev i u e; exact ⟨v, e1, p S v H (.refl S H) R f⟩
  · exact p.elim⟩
theorem mb_own {i : Nat} {x : Str} (hp : PE X (.Name x pos) (tVar i)) : MB X C (.Name x pos) (oE i) := ⟨PE.imp hp fun σ H Q ⟨S, env, g, R, p⟩ => by
  unfold oE at p
  split at p
  · next u e => obtain ⟨a, e1, f⟩ := R.L.eo i u e; exact ⟨.ref a, e1, p S _ H (.refl S H) R (.inr ⟨i, a, e, e1, rfl⟩)⟩
  · exact p.elim⟩
theorem me_c {u : U} {v : V} (h : PE X e (tC v)) (f : ∀ S, FzX X S u v) : ME X C e (cE u) := ⟨PE.imp h fun σ H Q ⟨S, env, g, R, p⟩ => p S v H (.refl S H) R (f S)⟩
theorem me_int {i : Int} {j : Nat} : ME X C (.Constant (.int i) j pos) (cE (.int i)) := me_c pe_int fun _ => rfl
theorem me_bl {i : Bool} {j : Nat} : ME X C (.Constant (.bool i) j pos) (cE (.bl i)) := me_c pe_bl fun _ => rfl
theorem me_str {x : Str} {j : Nat} : ME X C (.Constant (.str x) j pos) (cE (.str x)) := me_c pe_str fun _ => rfl
theorem me_const {x : Str} {u : U} {v : V} (hg : Gl X x) (h : ∃ z, X.mg x = some z ∧ RelV v z) (f : ∀ S, FzX X S u v) (hd : (x == ("__debug__" : Str)) = false := by decide) : ME X C (.Name x pos) (cE u) := me_c (pe_const hg h hd) f
abbrev OkE (X : Cx) (C : MC) (S : Ab) (env : Env) (σ : L2.St) (H : Hp) (Q : VK) (r : Res U) : Prop := Post r (fun u g' => ∀ S' v H', Ext S S' H H' → RelX X C S' env g' σ H' → FzX X S' u v → Q v H') (XPost X.prog X.w X.K C)
def Sim2 (X : Cx) (C : MC) (r : R2) (f : U → U → Gm → Res U) : Prop := ∀ S env g σ H x y u v Q, RelX X C S env g σ H → Bw X.prog X.w X.K S env σ x u → Bw X.prog X.w X.K S env σ y v → OkE X C S env σ H Q (f x y g) → r u v H Q
def opE (f : U → U → Gm → Res U) (ma mb : Me) : Me := fun env g => (ma env g).bind fun x g1 => (mb env g1).bind fun y g2 => f x y g2
theorem op_imp {r : R2} {f : U → U → Gm → Res U} (sim : Sim2 X C r f) : ∀ σ H Q, liftE X C (opE f ma mb) σ H Q → tOp r (liftB X C ma) (liftB X C mb) σ H Q := fun σ H Q ⟨S, env, g, R, p⟩ => by
  refine ⟨S, env, g, R, (post_bind.mp p).mono (fun x g1 p S1 v1 H1 X1 R1 F1 => ⟨S1, env, g1, R1, (post_bind.mp p).mono (fun y g2 p S2 v2 H2 X2 R2 F2 => ?_) fun _ _ z => z⟩) fun _ _ z => z⟩
  exact sim S2 env g2 σ H2 x y v1 v2 Q R2 (F1.le X2.le) F2 (p.mono (fun u g3 q S3 v3 H3 X3 R3 F3 => q S3 v3 H3 ((X1.trans X2).trans X3) R3 F3) fun _ _ z => z)
theorem me_op {op : Operator} {r : R2} {f : U → U → Gm → Res U} (ho : OpR X (binaryOp op) r) (sim : Sim2 X C r f) (ha : MB X C a ma) (hb : MB X C b mb) : ME X C (.BinOp a op b pos) (opE f ma mb) := ⟨PE.imp (pe_op ho ha.h hb.h) (op_imp sim)⟩
theorem me_cmp {op : CmpOp} {r : R2} {f : U → U → Gm → Res U} (ho : OpR X (compareOp op) r) (sim : Sim2 X C r f) (ha : MB X C a ma) (hb : MB X C b mb) (hm : behindInMarks op b = false) : ME X C (.Compare a [op] [b] pos) (opE f ma mb) := ⟨PE.imp (pe_cmpR ho ha.h hb.h hm) (op_imp sim)⟩
theorem me_ix {r : R2} {f : U → U → Gm → Res U} (ho : IxR X r) (sim : Sim2 X C r f) (ha : MB X C a ma) (hb : MB X C b mb) (hs : PlainIx b) : ME X C (.Subscript a b pos) (opE f ma mb) := ⟨PE.imp (pe_ix ho ha.h hb.h hs) (op_imp sim)⟩
def blE (m : Me) : Mt := fun env g => (m env g).bind fun u g1 => match u with
  | .bl b => .ok b g1
  | _ => .stuck
theorem mt_cmp {op : CmpOp} {r : R2} {f : U → U → Gm → Res U} (ho : OpR X (compareOp op) r) (sim : Sim2 X C r f) (ha : MB X C a ma) (hb : MB X C b mb) (hm : behindInMarks op b = false) : MT X C (.Compare a [op] [b] pos) (blE (opE f ma mb)) := ⟨PT.imp (pt_cmpR ho ha.h hb.h hm) fun σ H Q ⟨S, env, g, R, p⟩ => op_imp sim σ H _ ⟨S, env, g, R, (post_bind.mp p).mono (fun u g1 p S1 v1 H1 X1 R1 F1 => by
  cases u <;> first | exact p.elim | exact ⟨_, F1, p S1 H1 X1 R1⟩) fun _ _ z => z⟩⟩
def truth (g : Gm) (u : U) : Res Bool := match look g u with
  | .non => .ok false g
  | .bl b => .ok b g
  | .int i => .ok (i != 0) g
  | .str x => if x.length ≤ sizeLine then .ok ((x.length : Int) != 0) g else .stuck
  | .tup us => .ok (!us.isEmpty) g
  | .lst us => .ok (!us.isEmpty) g
  | _ => .stuck
theorem empty_of {P : Program} {w : World} {K : PySem.W.Frag} {S : Ab} {us : List U} {xs : List V} (h : FzL P w K S us xs) : (!us.isEmpty) = !xs.isEmpty := by
  cases us with
  | nil => cases h; rfl
  | cons u us => obtain ⟨x, r, rfl, _⟩ := h; rfl
def trE (m : Me) : Mt := fun env g => (m env g).bind fun u g1 => truth g1 u
theorem mt_val (h : MB X C a ma) (he : ∀ whole, isTrue a X.env whole = (do let v ← whole; standAt a.pos; holding [v] (truthy v))) : MT X C a (trE ma) := ⟨PT.imp (pt_truth h.h he) fun σ H Q ⟨S, env, g, R, p⟩ => ⟨S, env, g, R, (post_bind.mp p).mono (fun u g1 p S1 v1 H1 X1 R1 F1 => by
  have F := F1.look R1
  unfold truth at p
  split at p
  · next e => rw [e] at F; cases F; exact ⟨_, rfl, p S1 H1 X1 R1⟩
  · next e => rw [e] at F; cases F; exact ⟨_, rfl, p S1 H1 X1 R1⟩
  · next e => rw [e] at F; cases F; exact ⟨_, rfl, p S1 H1 X1 R1⟩
  · next e =>
    rw [e] at F; cases F
    split at p
    · next hl => exact ⟨_, ⟨hl, rfl⟩, p S1 H1 X1 R1⟩
    · exact p.elim
  · next e => rw [e] at F; obtain ⟨q, xs, rfl, sq, fl⟩ := F; exact ⟨_, .inr (.inl ⟨xs, sq, empty_of fl⟩), p S1 H1 X1 R1⟩
  · next e => rw [e] at F; obtain ⟨q, xs, rfl, sq, fl⟩ := F; exact ⟨_, .inl ⟨xs, .inl sq, empty_of fl⟩, p S1 H1 X1 R1⟩
  · exact p.elim) fun _ _ z => z⟩⟩
def notT (m : Mt) : Mt := fun env g => (m env g).bind fun c g1 => .ok (!c) g1
def andT (a b : Mt) : Mt := fun env g => (a env g).bind fun c g1 => if c = true then b env g1 else .ok false g1
def orT (a b : Mt) : Mt := fun env g => (a env g).bind fun c g1 => if c = true then .ok true g1 else b env g1
variable {ta tb : Mt} {rest : List Expr}
theorem mt_not (ha : MT X C a ta) : MT X C (.UnaryOp .Not a pos) (notT ta) := ⟨PT.imp (pt_not ha.h) fun σ H Q ⟨S, env, g, R, p⟩ => ⟨S, env, g, R, (post_bind.mp p).mono (fun _ _ p S1 H1 X1 R1 => p S1 H1 X1 R1) fun _ _ z => z⟩⟩
theorem mw_and1 (ha : MT X C a ta) : MW X C (.BoolOp .And [a] pos) ta := ⟨pw_and1 ha.h⟩
theorem mw_or1 (ha : MT X C a ta) : MW X C (.BoolOp .Or [a] pos) ta := ⟨pw_or1 ha.h⟩
theorem mw_and (ha : MT X C a ta) (hb : MW X C (.BoolOp .And (b :: rest) pos) tb) : MW X C (.BoolOp .And (a :: b :: rest) pos) (andT ta tb) := ⟨PW.imp (pw_and ha.h hb.h) fun σ H Q ⟨S, env, g, R, p⟩ => ⟨S, env, g, R, (post_bind.mp p).mono (fun c g1 p S1 H1 X1 R1 => by
  cases c with
  | true => exact ⟨S1, env, g1, R1, p.mono (fun _ _ q S2 H2 X2 R2 => q S2 H2 (X1.trans X2) R2) fun _ _ z => z⟩
  | false => exact p S1 H1 X1 R1) fun _ _ z => z⟩⟩
theorem mw_or (ha : MT X C a ta) (hb : MW X C (.BoolOp .Or (b :: rest) pos) tb) : MW X C (.BoolOp .Or (a :: b :: rest) pos) (orT ta tb) := ⟨PW.imp (pw_or ha.h hb.h) fun σ H Q ⟨S, env, g, R, p⟩ => ⟨S, env, g, R, (post_bind.mp p).mono (fun c g1 p S1 H1 X1 R1 => by
  cases c with
  | true => exact p S1 H1 X1 R1
  | false => exact ⟨S1, env, g1, R1, p.mono (fun _ _ q S2 H2 X2 R2 => q S2 H2 (X1.trans X2) R2) fun _ _ z => z⟩) fun _ _ z => z⟩⟩
theorem mt_w (h : MW X C a ta) : MT X C a ta := ⟨h.h.pt⟩
def andE (ma mb : Me) : Me := fun env g => (ma env g).bind fun x g1 => match x with
  | .bl true => mb env g1
  | .bl false => .ok (.bl false) g1
  | _ => .stuck
def orE (ma mb : Me) : Me := fun env g => (ma env g).bind fun x g1 => match x with
  | .bl true => .ok (.bl true) g1
  | .bl false => mb env g1
  | _ => .stuck
def notE (ma : Me) : Me := fun env g => (ma env g).bind fun x g1 => match x with
  | .bl b => .ok (.bl (!b)) g1
  | _ => .stuck
theorem me_one {op} (h : ME X C a ma) : ME X C (.BoolOp op [a] pos) ma := ⟨pe_one h.h⟩
theorem me_and (ha : ME X C a ma) (hb : ME X C (.BoolOp .And (b :: rest) pos) mb) : ME X C (.BoolOp .And (a :: b :: rest) pos) (andE ma mb) := ⟨PE.imp (pe_and ha.h hb.h) fun σ H Q ⟨S, env, g, R, p⟩ => ⟨S, env, g, R, (post_bind.mp p).mono (fun x g1 p S1 v1 H1 X1 R1 F1 => by
  split at p
  · cases F1; exact ⟨true, rfl, S1, env, g1, R1, p.mono (fun _ _ q S2 v2 H2 X2 R2 => q S2 v2 H2 (X1.trans X2) R2) fun _ _ z => z⟩
  · cases F1; exact ⟨false, rfl, p S1 _ H1 X1 R1 rfl⟩
  · exact p.elim) fun _ _ z => z⟩⟩
theorem me_or (ha : ME X C a ma) (hb : ME X C (.BoolOp .Or (b :: rest) pos) mb) : ME X C (.BoolOp .Or (a :: b :: rest) pos) (orE ma mb) := ⟨PE.imp (pe_or ha.h hb.h) fun σ H Q ⟨S, env, g, R, p⟩ => ⟨S, env, g, R, (post_bind.mp p).mono (fun x g1 p S1 v1 H1 X1 R1 F1 => by
  split at p
  · cases F1; exact ⟨true, rfl, p S1 _ H1 X1 R1 rfl⟩
  · cases F1; exact ⟨false, rfl, S1, env, g1, R1, p.mono (fun _ _ q S2 v2 H2 X2 R2 => q S2 v2 H2 (X1.trans X2) R2) fun _ _ z => z⟩
  · exact p.elim) fun _ _ z => z⟩⟩
theorem me_not (ha : ME X C a ma) : ME X C (.UnaryOp .Not a pos) (notE ma) := ⟨PE.imp (pe_not ha.h) fun σ H Q ⟨S, env, g, R, p⟩ => ⟨S, env, g, R, (post_bind.mp p).mono (fun x g1 p S1 v1 H1 X1 R1 F1 => by
  split at p
  · cases F1; exact ⟨_, rfl, p S1 _ H1 X1 R1 rfl⟩
  · exact p.elim) fun _ _ z => z⟩⟩
def ifE (t : Mt) (ma mb : Me) : Me := fun env g => (t env g).bind fun c g1 => if c = true then ma env g1 else mb env g1
theorem me_if {c : Expr} (hc : MT X C c ta) (ha : ME X C a ma) (hb : ME X C b mb) : ME X C (.IfExp c a b pos) (ifE ta ma mb) := ⟨PE.imp (pe_ifExp hc.h ha.h hb.h) fun σ H Q ⟨S, env, g, R, p⟩ => ⟨S, env, g, R, (post_bind.mp p).mono (fun c g1 p S1 H1 X1 R1 => by
  cases c with
  | true => exact ⟨S1, env, g1, R1, p.mono (fun _ _ q S2 v2 H2 X2 R2 => q S2 v2 H2 (X1.trans X2) R2) fun _ _ z => z⟩
  | false => exact ⟨S1, env, g1, R1, p.mono (fun _ _ q S2 v2 H2 X2 R2 => q S2 v2 H2 (X1.trans X2) R2) fun _ _ z => z⟩) fun _ _ z => z⟩⟩
theorem none_back {S S' : Ab} {H H' : Hp} {a : Addr} (x : Ext S S' H H') (h : H' a = none) : H a = none := by
  cases e : H a with
  | none => rfl
  | some o => exact absurd h (x.dom a (by rw [e]; exact fun z => by cases z))
def nilA : Ma := fun _ g => .ok [] g
def consA (m : Me) (r : Ma) : Ma := fun env g => (m env g).bind fun x g1 => (r env g1).bind fun xs g2 => .ok (x :: xs) g2
theorem ma_nil : MA X C [] nilA := ⟨PA.imp pa_nil fun σ H Q ⟨S, env, g, R, p⟩ => p S [] H (.refl S H) R rfl, rfl, fun _ _ _ _ e => by cases e; rfl⟩
theorem ma_cons {es : List Expr} {mr : Ma} (ha : ME X C e m) (hr : MA X C es mr) (hs : noStar e = true := by rfl) : MA X C (e :: es) (consA m mr) := ⟨PA.imp (pa_c ha.h hr.h hs) fun σ H Q ⟨S, env, g, R, p⟩ => ⟨S, env, g, R, (post_bind.mp p).mono (fun x g1 p S1 v1 H1 X1 R1 F1 => ⟨S1, env, g1, R1, (post_bind.mp p).mono (fun xs g2 p S2 v2 H2 X2 R2 F2 => p S2 _ H2 (X1.trans X2) R2 ⟨_, _, rfl, F1.le X2.le, F2⟩) fun _ _ z => z⟩) fun _ _ z => z⟩, by rw [List.all_cons, hs, hr.ns]; rfl, fun env g us g' e => by
  unfold consA at e
  cases q : m env g with
  | ok x g1 =>
    rw [q] at e
    cases q2 : mr env g1 with
    | ok xs g2 => have e : (mr env g1).bind (fun xs g2 => Res.ok (x :: xs) g2) = .ok us g' := e; rw [q2] at e; cases e; rw [List.length_cons, List.length_cons, hr.len _ _ _ _ q2]
    | exc y g2 => have e : (mr env g1).bind (fun xs g2 => Res.ok (x :: xs) g2) = .ok us g' := e; rw [q2] at e; cases e
    | stuck => have e : (mr env g1).bind (fun xs g2 => Res.ok (x :: xs) g2) = .ok us g' := e; rw [q2] at e; cases e
  | exc y g1 => rw [q] at e; cases e
  | stuck => rw [q] at e; cases e⟩
def tupE (m : Ma) : Me := fun env g => (m env g).bind fun us g1 => if us.length ≤ sizeLine then .ok (.tup us) g1 else .stuck
def lstE (m : Ma) : Me := fun env g => (m env g).bind fun us g1 => if us.length ≤ sizeLine then .ok (.lst us) g1 else .stuck
theorem me_tup {es : List Expr} {mr : Ma} {k : Nat} (h : MA X C es mr) : ME X C (.Tuple es k pos) (tupE mr) := ⟨PE.imp (pe_tup h.h) fun σ H Q ⟨S, env, g, R, p⟩ => ⟨S, env, g, R, (post_bind.mp p).mono (fun us g1 p S1 vs H1 X1 R1 F1 => by
  split at p
  · next hl => exact ⟨by rw [← F1.length]; exact hl, fun q hq => p _ _ _ (X1.trans (.new (R1.G.zp hq) hq)) (R1.new hq) (new_tup R1 hq F1)⟩
  · exact p.elim) fun _ _ z => z⟩⟩
theorem mo_lst {es : List Expr} {mr : Ma} (h : MA X C es mr) : MO X C (.List es pos) (lstE mr) := ⟨PE.imp (pe_lst h.h) fun σ H Q ⟨S, env, g, R, p⟩ => ⟨S, env, g, R, (post_bind.mp p).mono (fun us g1 p S1 vs H1 X1 R1 F1 => by
  split at p
  · next hl => exact ⟨by rw [← F1.length]; exact hl, fun q hq => p S1 q _ (X1.trans (.grow (upd_keeps hq))) (R1.grow (upd_keeps hq)) ⟨vs, upd_same, F1⟩ (R1.G.free hq) (R1.L.noslot hq) (none_back X1 hq)⟩
  · exact p.elim) fun _ _ z => z⟩⟩
end
end MM
namespace MM
open PySem PySem.Spec PyProof.Rows L2 BB
section
variable {P : Program} {w : World} {K : PySem.W.Frag} {C : MC} {S S' : Ab} {g g' : Gm} {H H' : Hp} {env : Env} {σ : L2.St} {u u' : U} {v : V} {p a : Addr} {o : HO} {i : Nat}
theorem get_set {α : Type} {l : List α} {i j : Nat} {x y : α} (h : (l.set i x)[j]? = some y) : (i = j ∧ i < l.length ∧ y = x) ∨ (i ≠ j ∧ l[j]? = some y) := by
  rw [List.getElem?_set] at h
  split at h
  · next e => split at h
              · next hl => cases h; exact .inl ⟨e, hl, rfl⟩
              · cases h
  · next e => exact .inr ⟨e, h⟩
theorem set_get {α : Type} {l : List α} {i : Nat} {x : α} (h : i < l.length) : (l.set i x)[i]? = some x := by rw [List.getElem?_set, if_pos rfl, if_pos h]
theorem set_ne {α : Type} {l : List α} {i j : Nat} {x : α} (h : i ≠ j) : (l.set i x)[j]? = l[j]? := by rw [List.getElem?_set, if_neg h]
theorem RelE.setv (R : RelE P w K C S env σ H) (h : Fz P w K S u v) : RelE P w K C S (env.set i (.v u)) (σ.set i (some v)) H where
  el := by rw [List.length_set, List.length_set]; exact R.el
  ev j u1 e := by
    rcases get_set e with ⟨rfl, hl, e⟩ | ⟨ne, e⟩
    · cases e; exact ⟨v, set_get (R.el ▸ hl), h⟩
    · obtain ⟨v1, e1, f⟩ := R.ev j u1 e; exact ⟨v1, by rw [set_ne ne]; exact e1, f⟩
  eo j u1 e := by
    rcases get_set e with ⟨rfl, hl, e⟩ | ⟨ne, e⟩
    · cases e
    · obtain ⟨v1, e1, f⟩ := R.eo j u1 e; exact ⟨v1, by rw [set_ne ne]; exact e1, f⟩
  ed j j' u1 u2 b e1 e2 e3 e4 := by
    rcases get_set e1 with ⟨_, _, z⟩ | ⟨ne, e1⟩
    · cases z
    rcases get_set e2 with ⟨_, _, z⟩ | ⟨ne2, e2⟩
    · cases z
    rw [set_ne ne] at e3; rw [set_ne ne2] at e4
    exact R.ed j j' u1 u2 b e1 e2 e3 e4
theorem RelE.seto (R : RelE P w K C S env σ H) (ow : OwnAt P w K S H a u) (f : Free C S a) (n : NoSlot env σ a) : RelE P w K C S (env.set i (.own u)) (σ.set i (some (.ref a))) H where
  el := by rw [List.length_set, List.length_set]; exact R.el
  ev j u1 e := by
    rcases get_set e with ⟨rfl, hl, e⟩ | ⟨ne, e⟩
    · cases e
    · obtain ⟨v1, e1, f⟩ := R.ev j u1 e; exact ⟨v1, by rw [set_ne ne]; exact e1, f⟩
  eo j u1 e := by
    rcases get_set e with ⟨rfl, hl, e⟩ | ⟨ne, e⟩
    · cases e; exact ⟨a, set_get (R.el ▸ hl), ow, f⟩
    · obtain ⟨v1, e1, f⟩ := R.eo j u1 e; exact ⟨v1, by rw [set_ne ne]; exact e1, f⟩
  ed j j' u1 u2 b e1 e2 e3 e4 := by
    rcases get_set e1 with ⟨rfl, hl, _⟩ | ⟨ne, e1⟩
    · rcases get_set e2 with ⟨rfl, _, z⟩ | ⟨ne2, e2⟩
      · rfl
      · rw [set_get (R.el ▸ hl)] at e3; cases e3
        rw [set_ne ne2] at e4
        exact absurd e4 (n j' u2 e2)
    · rcases get_set e2 with ⟨rfl, hl, z⟩ | ⟨ne2, e2⟩
      · rw [set_get (R.el ▸ hl)] at e4; cases e4
        rw [set_ne ne] at e3
        exact absurd e3 (n j u1 e1)
      · rw [set_ne ne] at e3; rw [set_ne ne2] at e4
        exact R.ed j j' u1 u2 b e1 e2 e3 e4
theorem RelE.drop (R : RelE P w K C S env σ H) : RelE P w K C S (env.set i .no) σ H where
  el := by rw [List.length_set]; exact R.el
  ev j u1 e := by
    rcases get_set e with ⟨rfl, hl, e⟩ | ⟨ne, e⟩
    · cases e
    · exact R.ev j u1 e
  eo j u1 e := by
    rcases get_set e with ⟨rfl, hl, e⟩ | ⟨ne, e⟩
    · cases e
    · exact R.eo j u1 e
  ed j j' u1 u2 b e1 e2 e3 e4 := by
    rcases get_set e1 with ⟨_, _, z⟩ | ⟨ne, e1⟩
    · cases z
    rcases get_set e2 with ⟨_, _, z⟩ | ⟨ne2, e2⟩
    · cases z
    exact R.ed j j' u1 u2 b e1 e2 e3 e4
theorem RelG.own (R : RelG P w K C S g H) (f : Free C S a) (h : H a ≠ none) : RelG P w K C S g (upd H a o) where
  zs b q e := by
    have : b ≠ a := fun z => by rw [z, f.1] at e; cases e
    rw [upd_ne this]; exact R.zs b q e
  cs i u e := by
    obtain ⟨b, eb, c⟩ := R.cs i u e
    have : b ≠ a := fun z => f.2.1 (z ▸ List.mem_of_getElem? eb)
    exact ⟨b, eb, c.at fun q hq => by rw [upd_ne this]; exact hq⟩
  rl := R.rl
  rn := R.rn
  rz := R.rz
  ext := ⟨R.ext.z, R.ext.zn, R.ext.r, fun b q e n => by
    have : b ≠ a := fun z => by rw [z, f.2.2] at e; cases e
    rw [upd_ne this]; exact R.ext.fr b q e n, fun b e => by
    by_cases hb : b = a
    · subst hb; rw [upd_same]; exact fun z => by cases z
    · rw [upd_ne hb]; exact R.ext.dom b e⟩
theorem RelE.own (R : RelE P w K C S env σ H) (e : env[i]? = some (.own u)) (es : σ[i]? = some (some (.ref a))) (ow : OwnAt P w K S (upd H a o) a u') : RelE P w K C S (env.set i (.own u')) σ (upd H a o) where
  el := by rw [List.length_set]; exact R.el
  ev j u1 q := by
    rcases get_set q with ⟨rfl, hl, z⟩ | ⟨ne, q⟩
    · cases z
    · exact R.ev j u1 q
  eo j u1 q := by
    rcases get_set q with ⟨rfl, hl, z⟩ | ⟨ne, q⟩
    · cases z
      obtain ⟨b, eb, _, f⟩ := R.eo i u e
      rw [es] at eb; cases eb
      exact ⟨a, es, ow, f⟩
    · obtain ⟨b, eb, ob, f⟩ := R.eo j u1 q
      refine ⟨b, eb, ob.at fun q1 hq => ?_, f⟩
      have : b ≠ a := fun z => ne (R.ed i j u u1 a e q es (z ▸ eb))
      rw [upd_ne this]; exact hq
  ed j j' u1 u2 b e1 e2 e3 e4 := by
    have k : ∀ (j : Nat) (u1 : U), (env.set i (.own u'))[j]? = some (.own u1) → ∃ z, env[j]? = some (.own z) := fun j u1 q => by
      rcases get_set q with ⟨rfl, hl, z⟩ | ⟨ne, q⟩
      · exact ⟨u, e⟩
      · exact ⟨u1, q⟩
    obtain ⟨z1, f1⟩ := k j u1 e1
    obtain ⟨z2, f2⟩ := k j' u2 e2
    exact R.ed j j' z1 z2 b f1 f2 e3 e4
theorem nodup_get {l : List Addr} (h : l.Nodup) {i j : Nat} (hi : l[i]? = some a) (hj : l[j]? = some a) : i = j := by
  obtain ⟨h1, e1⟩ := List.getElem?_eq_some_iff.mp hi
  obtain ⟨h2, e2⟩ := List.getElem?_eq_some_iff.mp hj
  exact (List.getElem_inj h).mp (e1.trans e2.symm)
theorem RelG.cell (R : RelG P w K C S g H) (e : S.ρ[i]? = some a) (c : CellAt P w K S (upd H a o) a u') : RelG P w K C S (g.set i u') (upd H a o) where
  zs b q z := by
    have : b ≠ a := fun y => by rw [y, R.rz a (List.mem_of_getElem? e)] at z; cases z
    rw [upd_ne this]; exact R.zs b q z
  cs j u1 q := by
    rcases get_set q with ⟨rfl, hl, z⟩ | ⟨ne, q⟩
    · cases z; exact ⟨a, e, c⟩
    · obtain ⟨b, eb, cb⟩ := R.cs j u1 q
      have : b ≠ a := fun z => ne (nodup_get R.rn e (z ▸ eb))
      exact ⟨b, eb, cb.at fun q1 hq => by rw [upd_ne this]; exact hq⟩
  rl := by rw [List.length_set]; exact R.rl
  rn := R.rn
  rz := R.rz
  ext := ⟨R.ext.z, R.ext.zn, R.ext.r, fun b q z n => by
    have : b ≠ a := fun y => by
      obtain ⟨l, el, hl⟩ := R.ext.r
      have m : a ∈ S.ρ := List.mem_of_getElem? e
      rw [el] at m
      rcases List.mem_append.mp m with m | m
      · exact n (y ▸ m)
      · rw [y, hl a m] at z; cases z
    rw [upd_ne this]; exact R.ext.fr b q z n, fun b z => by
    by_cases hb : b = a
    · subst hb; rw [upd_same]; exact fun z => by cases z
    · rw [upd_ne hb]; exact R.ext.dom b z⟩
theorem RelE.cell (R : RelE P w K C S env σ H) (m : a ∈ S.ρ) : RelE P w K C S env σ (upd H a o) :=
  ⟨R.el, R.ev, fun j u e => let ⟨b, eb, ob, f⟩ := R.eo j u e; ⟨b, eb, ob.at fun q h => by rw [upd_ne (fun z : b = a => f.2.1 (z ▸ m))]; exact h, f⟩, R.ed⟩
theorem Ext.cell (m : a ∈ S.ρ) : Ext S S H (upd H a o) := ⟨fun _ _ h => h, fun _ h => .inl h, ⟨[], by simp, by simp⟩, fun b q h n => by rw [upd_ne (fun z : b = a => n (z ▸ m))]; exact h, fun b h => by
  by_cases hb : b = a
  · subst hb; rw [upd_same]; exact fun z => by cases z
  · rw [upd_ne hb]; exact h⟩
abbrev Ab.add (S : Ab) (p : Addr) : Ab := ⟨S.Z, S.ρ ++ [p]⟩
theorem Le.add : Le S (S.add p) := ⟨fun _ _ h => h, fun i a h => by
  have ⟨hi, _⟩ := List.getElem?_eq_some_iff.mp h
  show (S.ρ ++ [p])[i]? = some a
  rw [List.getElem?_append_left hi]; exact h⟩
theorem RelG.add (R : RelG P w K C S g H) (f : Free C S p) (c : CellAt P w K S H p u) : RelG P w K C (S.add p) (g ++ [u]) H where
  zs := R.zs
  cs i u1 e := by
    by_cases hi : i < g.length
    · rw [List.getElem?_append_left hi] at e
      obtain ⟨a, ea, c1⟩ := R.cs i u1 e
      exact ⟨a, Le.add.r i a ea, c1.le Le.add⟩
    · rw [List.getElem?_append_right (by omega)] at e
      have hz : i - g.length = 0 := by
        have ⟨h1, _⟩ := List.getElem?_eq_some_iff.mp e
        simp at h1; omega
      rw [hz] at e; cases e
      refine ⟨p, ?_, c.le Le.add⟩
      show (S.ρ ++ [p])[i]? = some p
      rw [List.getElem?_append_right (by rw [R.rl]; omega), R.rl, hz]; rfl
  rl := by show (S.ρ ++ [p]).length = _; rw [List.length_append, List.length_append, R.rl]; rfl
  rn := by
    show (S.ρ ++ [p]).Nodup
    rw [List.nodup_append]
    exact ⟨R.rn, by simp, fun x hx y hy e => by rw [List.mem_singleton.mp hy] at e; exact f.2.1 (e ▸ hx)⟩
  rz a m := by
    have m : a ∈ S.ρ ++ [p] := m
    rcases List.mem_append.mp m with m | m
    · exact R.rz a m
    · rw [List.mem_singleton.mp m]; exact f.1
  ext := ⟨R.ext.z, R.ext.zn, by
    obtain ⟨l, e, hl⟩ := R.ext.r
    refine ⟨l ++ [p], by show S.ρ ++ [p] = _; rw [e, List.append_assoc], fun a m => ?_⟩
    rcases List.mem_append.mp m with m | m
    · exact hl a m
    · rw [List.mem_singleton.mp m]; exact f.2.2, R.ext.fr, R.ext.dom⟩
theorem RelE.add (R : RelE P w K C S env σ H) (n : NoSlot env σ p) : RelE P w K C (S.add p) env σ H :=
  ⟨R.el, fun j u e => let ⟨v, ev, f⟩ := R.ev j u e; ⟨v, ev, f.le Le.add⟩, fun j u e => by
    obtain ⟨a, ea, oa, f⟩ := R.eo j u e
    refine ⟨a, ea, oa.le Le.add, f.1, fun m => ?_, f.2.2⟩
    have m : a ∈ S.ρ ++ [p] := m
    rcases List.mem_append.mp m with m | m
    · exact f.2.1 m
    · rw [List.mem_singleton.mp m] at ea; exact n j u e ea, R.ed⟩
theorem RelG.call {E : XK} (R : RelG P w K C S g H) (R' : RelG P w K ⟨S, H, E⟩ S' g' H') : RelG P w K C S' g' H' := ⟨R'.zs, R'.cs, R'.rl, R'.rn, R'.rz, R.ext.trans R'.ext⟩
theorem RelE.ext (R : RelE P w K C S env σ H) (x : Ext S S' H H') : RelE P w K C S' env σ H' where
  el := R.el
  ev j u e := let ⟨v, ev, f⟩ := R.ev j u e; ⟨v, ev, f.le x.le⟩
  eo j u e := by
    obtain ⟨a, ea, oa, f⟩ := R.eo j u e
    have hs := oa.some
    refine ⟨a, ea, (oa.at fun q hq => x.fr a q hq f.2.1).le x.le, ?_, fun m => ?_, f.2.2⟩
    · cases z : S'.Z a with
      | none => rfl
      | some o =>
        rcases x.zn a (by rw [z]; exact fun y => by cases y) with h | h
        · exact absurd f.1 h
        · exact absurd h hs
    · obtain ⟨l, e1, hl⟩ := x.r
      rw [e1] at m
      rcases List.mem_append.mp m with m | m
      · exact f.2.1 m
      · exact hs (hl a m)
  ed := R.ed
end
section
variable {X : Cx} {C : MC} {e a b : Expr} {m ma mb : Me} {pos : Pos} {o : Bool} {st : Stmt} {sts : List Stmt} {ms m1 m2 : Ms}
theorem EndS.le {D : Ends} {S S' : Ab} {z : Fl × Env} {g : Gm} (l : Le S S') (h : EndS X C o D S z g) : EndS X C o D S' z g := by
  obtain ⟨fl, env⟩ := z
  cases fl with
  | nx => exact fun S2 σ H l2 R => h S2 σ H (l.trans l2) R
  | bk => exact fun S2 σ H l2 R => h S2 σ H (l.trans l2) R
  | ct => exact fun S2 σ H l2 R => h S2 σ H (l.trans l2) R
  | rt u => exact h
def nilS : Ms := fun env g => .ok (.nx, env) g
def seqS (m1 m2 : Ms) : Ms := fun env g => (m1 env g).bind fun z g1 => match z.1 with
  | .nx => m2 z.2 g1
  | _ => .ok z g1
theorem mss_nil : MSs X C o [] nilS := ⟨PSs.imp pss_nil fun D σ H ⟨S, env, g, R, p⟩ => p S σ H (.refl S) R⟩
theorem seq_imp : ∀ D σ H, liftS X C o (seqS m1 m2) D σ H → tSeq (liftS X C o m1) (liftS X C o m2) D σ H := fun D σ H ⟨S, env, g, R, p⟩ => ⟨S, env, g, R, (post_bind.mp p).mono (fun z g1 p => by
  obtain ⟨fl, env1⟩ := z
  cases fl with
  | nx => exact fun S1 σ1 H1 l R1 => ⟨S1, env1, g1, R1, Post.mono p (fun _ _ q => q.le l) fun _ _ q => q⟩
  | bk => exact p
  | ct => exact p
  | rt u => exact p) fun _ _ z => z⟩
theorem mss_cons (h1 : MS X C o st m1) (h2 : MSs X C o sts m2) : MSs X C o (st :: sts) (seqS m1 m2) := ⟨PSs.imp (pss_cons h1.h h2.h) seq_imp⟩
theorem mss_one (h1 : MS X C o st ms) : MSs X C o [st] ms := ⟨pss_one h1.h⟩
def exS (m : Me) : Ms := fun env g => (m env g).bind fun _ g1 => .ok (.nx, env) g1
theorem ms_expr (h : ME X C e m) (hs : swapsWith e none pos.line X.env = pure false := by rfl) : MS X C o (.Expr e pos) (exS m) := ⟨PS.imp (ps_expr h.h hs) fun D σ H ⟨S, env, g, R, p⟩ => ⟨S, env, g, R, (post_bind.mp p).mono (fun u g1 p S1 v1 H1 X1 R1 F1 => p S1 σ H1 X1.le R1) fun _ _ z => z⟩⟩
def ifS (t : Mt) (m1 m2 : Ms) : Ms := fun env g => (t env g).bind fun c g1 => if c = true then m1 env g1 else m2 env g1
theorem ms_if {c : Expr} {as bs : List Stmt} {t : Mt} (hc : MT X C c t) (ha : MSs X C o as m1) (hb : MSs X C o bs m2) : MS X C o (.If c as bs pos) (ifS t m1 m2) := ⟨PS.imp (ps_if hc.h ha.h hb.h) fun D σ H ⟨S, env, g, R, p⟩ => ⟨S, env, g, R, (post_bind.mp p).mono (fun c g1 p S1 H1 X1 R1 => by
  cases c with
  | true => exact ⟨S1, env, g1, R1, Post.mono p (fun _ _ q => q.le X1.le) fun _ _ q => q⟩
  | false => exact ⟨S1, env, g1, R1, Post.mono p (fun _ _ q => q.le X1.le) fun _ _ q => q⟩) fun _ _ z => z⟩⟩
def rtS (m : Me) : Ms := fun env g => (m env g).bind fun u g1 => .ok (.rt u, env) g1
theorem ms_ret (h : ME X C e m) : MS X C false (.Return (some e) pos) (rtS m) := ⟨PS.imp (ps_ret h.h) fun D σ H ⟨S, env, g, R, p⟩ => ⟨S, env, g, R, (post_bind.mp p).mono (fun u g1 p S1 v1 H1 X1 R1 F1 => p S1 H1 v1 R1.G F1) fun _ _ z => z⟩⟩
def rnS : Ms := fun env g => .ok (.rt .non, env) g
def setS (i : Nat) (m : Me) : Ms := fun env g => (m env g).bind fun u g1 => .ok (.nx, env.set i (.v u)) g1
def setO (i : Nat) (m : Me) : Ms := fun env g => (m env g).bind fun u g1 => .ok (.nx, env.set i (.own u)) g1
theorem ms_set {i : Nat} {x : Str} {p1 : Pos} (hp : ∀ te, PE X e te → PS X (.Assign [.Name x p1] e pos) (tAsg te (gName i))) (h : ME X C e m) : MS X C o (.Assign [.Name x p1] e pos) (setS i m) := ⟨PS.imp (hp _ h.h) fun D σ H ⟨S, env, g, R, p⟩ => ⟨S, env, g, R, (post_bind.mp p).mono (fun u g1 p S1 v1 H1 X1 R1 F1 => p S1 _ H1 X1.le ⟨R1.G, R1.L.setv F1⟩) fun _ _ z => z⟩⟩
theorem ms_seto {i : Nat} {x : Str} {p1 : Pos} (hp : ∀ te, PE X e te → PS X (.Assign [.Name x p1] e pos) (tAsg te (gName i))) (h : MO X C e m) : MS X C o (.Assign [.Name x p1] e pos) (setO i m) := ⟨PS.imp (hp _ h.h) fun D σ H ⟨S, env, g, R, p⟩ => ⟨S, env, g, R, (post_bind.mp p).mono (fun u g1 p S1 a H1 X1 R1 ow f n ha => p S1 _ H1 X1.le ⟨R1.G, R1.L.seto ow f n⟩) fun _ _ z => z⟩⟩
def frS (i : Nat) (m : Ms) : Ms := fun env g => match env[i]? with
  | some (.own u) => m (env.set i (.v u)) g
  | _ => .stuck
theorem mss_fr {i : Nat} (h : MSs X C o sts ms) : MSs X C o sts (frS i ms) := ⟨PSs.imp h.h fun D σ H ⟨S, env, g, R, p⟩ => by
  unfold frS at p
  split at p
  · next u e =>
    obtain ⟨a, ea, ow, f⟩ := R.L.eo i u e
    obtain ⟨ob, ho⟩ : ∃ o, H a = some o := by
      cases z : H a with
      | none => exact absurd z ow.some
      | some o => exact ⟨o, rfl⟩
    have hl : i < env.length := (List.getElem?_eq_some_iff.mp e).1
    have n : NoSlot (env.set i .no) σ a := fun j u1 q z => by
      rcases get_set q with ⟨rfl, _, y⟩ | ⟨ne, q⟩
      · cases y
      · exact ne (R.L.ed i j u u1 a e q ea z)
    have L1 := (R.L.drop (i := i)).frz (o := ob) f n
    have F : FzX X (S.frz a ob) u (.ref a) := by
      cases u <;> first | exact ow.elim | skip
      · obtain ⟨xs, e1, f1⟩ := ow; rw [ho] at e1; cases e1; exact ⟨a, xs, rfl, Rd.of upd_same, f1.le (Le.frz f.1)⟩
      · obtain ⟨xs, e1, f1⟩ := ow; rw [ho] at e1; cases e1; exact ⟨a, xs, rfl, .inl (Rd.of upd_same), f1.le (Le.frz f.1)⟩
      · obtain ⟨xs, e1, f1⟩ := ow; rw [ho] at e1; cases e1; exact ⟨a, xs, rfl, Rd.of upd_same, f1.le (Le.frz f.1)⟩
    have L2 := L1.setv (i := i) F
    have es : σ.set i (some (.ref a)) = σ := List.ext_getElem? fun j => by
      by_cases hj : i = j
      · subst hj; rw [set_get (R.L.el ▸ hl), ea]
      · rw [set_ne hj]
    rw [es, List.set_set] at L2
    exact ⟨S.frz a ob, _, g, ⟨R.G.frz f ho, L2⟩, Post.mono p (fun _ _ q => q.le (Le.frz f.1)) fun _ _ q => q⟩
  · exact p.elim⟩
end
end MM
namespace MM
open PySem PySem.Spec PyProof.Rows L2 BB
section
variable (P : Program) (w : World) (K : PySem.W.Frag)
def ResAt (C : MC) (o : Bool) (S : Ab) (H : Hp) (u : U) (v : V) : Prop := match o with
  | false => Fz P w K S u v
  | true => ∃ a, v = .ref a ∧ OwnAt P w K S H a u ∧ Free C S a
def spM (n : Nat) (o : Bool) (f : List U → Gm → Res U) : Sp := fun vs H Q E => ∃ S us g, vs.length = n ∧ RelG P w K ⟨S, H, E⟩ S g H ∧ FzL P w K S us vs ∧
  Post (f us g) (fun u g' => ∀ S' H' v, RelG P w K ⟨S, H, E⟩ S' g' H' → ResAt P w K ⟨S, H, E⟩ o S' H' u v → Q v H') (XPost P w K ⟨S, H, E⟩)
structure CanM (mg : Str → Option Value) (base : Heap) (k : Nat) (x : Str) (ps : List Str) (o : Bool) (f : List U → Gm → Res U) : Prop where
  c : Can P w K mg base (CXR P w) k x ps (spM P w K ps.length o f)
end
def runM (o : Bool) (n : Nat) (m : Ms) : List U → Gm → Res U := fun us g => (m (us.map .v ++ List.replicate (n - us.length) .no) g).bind fun z g1 => match z.1 with
  | .rt u => .ok u g1
  | .nx => if o = true then .stuck else .ok .non g1
  | _ => .stuck
section
variable {P : Program} {w : World} {K : PySem.W.Frag} {mg : Str → Option Value} {base : Heap}
theorem start_rel {C : MC} {S : Ab} {g : Gm} {H : Hp} {us : List U} {vs : List V} {N : List Str} (R : RelG P w K C S g H) (f : FzL P w K S us vs) : Rel P w K C S (us.map .v ++ List.replicate (N.length - us.length) .no) g (L2.start N vs) H := by
  have hl := f.length
  refine ⟨R, ?_, fun j u e => ?_, fun j u e => ?_, fun j j' u u' a e => ?_⟩
  · unfold L2.start; simp [hl]
  · by_cases hj : j < us.length
    · rw [List.getElem?_append_left (by simpa using hj), List.getElem?_map] at e
      cases z : us[j]? with
      | none => rw [z] at e; cases e
      | some y =>
        rw [z] at e; cases e
        obtain ⟨x, e1, h1⟩ := f.get z
        refine ⟨x, ?_, h1⟩
        unfold L2.start
        rw [List.getElem?_append_left (by simp; omega), List.getElem?_map, e1]; rfl
    · rw [List.getElem?_append_right (by simp; omega)] at e
      have := List.mem_of_getElem? e
      rw [List.mem_replicate] at this
      cases this.2
  · exfalso
    by_cases hj : j < us.length
    · rw [List.getElem?_append_left (by simpa using hj), List.getElem?_map] at e
      cases z : us[j]? with
      | none => rw [z] at e; cases e
      | some y => rw [z] at e; cases e
    · rw [List.getElem?_append_right (by simp; omega)] at e
      have := List.mem_of_getElem? e
      rw [List.mem_replicate] at this
      cases this.2
  · exfalso
    by_cases hj : j < us.length
    · rw [List.getElem?_append_left (by simpa using hj), List.getElem?_map] at e
      cases z : us[j]? with
      | none => rw [z] at e; cases e
      | some y => rw [z] at e; cases e
    · rw [List.getElem?_append_right (by simp; omega)] at e
      have := List.mem_of_getElem? e
      rw [List.mem_replicate] at this
      cases this.2
theorem body_runs {X : Cx} {C : MC} {o : Bool} {N : List Str} {m : Ms} {us : List U} {vs : List V} {g : Gm} {S : Ab} {H : Hp} {Q : VK} (f : FzL X.prog X.w X.K S us vs) (R : RelG X.prog X.w X.K C S g H)
    (p : Post (runM o N.length m us g) (fun u g' => ∀ S' H' v, RelG X.prog X.w X.K C S' g' H' → ResAt X.prog X.w X.K C o S' H' u v → Q v H') (XPost X.prog X.w X.K C)) :
    liftS X C o m { nx := fun _ H' => Q .non H', rt := Q } (L2.start N vs) H := by
  refine ⟨S, _, g, start_rel R f, (post_bind.mp p).mono (fun z g1 p => ?_) fun _ _ z => z⟩
  obtain ⟨fl, env⟩ := z
  cases fl with
  | rt u => cases o <;> exact fun S' H' v R' r => p S' H' v R' r
  | nx => cases o with
    | true => exact p.elim
    | false => exact fun S' σ' H' l R' => p S' H' .non R'.G rfl
  | bk => exact p.elim
  | ct => exact p.elim
theorem canM_of {x : Str} {st : Stmt} {N ps : List Str} {k : Nat} {o : Bool} {m : Ms} (F : Def K mg x st) (Sc : FnScope N ps (defScope st))
    (hb : ∀ (kV doc pm : Value) (an : Option Addr) (cdv ct : Value) (us : List Value), us.length = ps.length → bindArgs (PySem.W.fnOf x x (defArgs st) (defBody st) (defScope st) .none kV doc pm an cdv ct) ⟨us, []⟩ = pure (ps.zip us))
    (hbody : ∀ (f : Addr) (cdv : Value) (A : Around) (outer : List PySem.Env) (s : Shared) (H : Hp) (E : XK) (S : Ab), Room k (A.deeper (envOfC x (defScope st) s.heap.objs.size f cdv)) →
      MSs (cxOf (CXR P w) P w K mg base N x (defScope st) f cdv A outer s H E) ⟨S, H, E⟩ o (defBody st) m) : CanM P w K mg base (k + 1) x ps o (runM o N.length m) := ⟨by
  refine F.canX Sc hb (fun vs H Q E h => ?_) (fun f cdv A outer s H vs Q E hr h => ?_)
  · obtain ⟨_, _, _, l, _⟩ := h; exact l
  · obtain ⟨S, us, g, l, R, fz, p⟩ := h
    exact ⟨_, (hbody f cdv A outer s H E S hr).h, body_runs (X := cxOf (CXR P w) P w K mg base N x (defScope st) f cdv A outer s H E) fz R p⟩⟩
end
def callE (f : List U → Gm → Res U) (m : Ma) : Me := fun env g => (m env g).bind f
section
variable {X : Cx} {C : MC} {x : Str} {k : Nat} {ps : List Str} {o : Bool} {f : List U → Gm → Res U} {p pos : Pos} {e : Expr} {es : List Expr} {m : Ma}
theorem XPost.call {P : Program} {w : World} {K : PySem.W.Frag} {S : Ab} {H : Hp} {g : Gm} {y : Exn} {g' : Gm} (R : RelG P w K C S g H) (h : XPost P w K C y g') : XPost P w K ⟨S, H, C.E⟩ y g' := fun S' H' d R' q => h S' H' d (R.call R') q
theorem call_imp {env : Env} {g : Gm} {S S1 : Ab} {σ : L2.St} {H H1 : Hp} {us : List U} {vs : List V} {Q : VK} {n : Nat} (X1 : Ext S S1 H H1) (R1 : RelX X C S1 env g σ H1) (F1 : FzL X.prog X.w X.K S1 us vs) (hl : vs.length = n)
    (p : OkE X C S env σ H Q (f us g)) : spM X.prog X.w X.K n false f vs H1 Q C.E :=
  ⟨S1, us, g, hl, ⟨R1.G.zs, R1.G.cs, R1.G.rl, R1.G.rn, R1.G.rz, .refl _ _⟩, F1, p.mono (fun u g' q S' H' v R' r => q S' v H' (X1.trans R'.ext) ⟨R1.G.call R', R1.L.ext R'.ext⟩ r) fun y g' z => z.call R1.G⟩
theorem args_ok {m : Ma} {es : List Expr} (ha : MA X C es m) {env : Env} {g : Gm} {q : List U → Gm → Prop} {y : Exn → Gm → Prop} (p : Post (m env g) q y) : Post (m env g) (fun us g' => us.length = es.length ∧ q us g') y := by
  cases z : m env g with
  | ok us g' => rw [z] at p; exact ⟨ha.len _ _ _ _ z, p⟩
  | exc a b => rw [z] at p; exact p
  | stuck => rw [z] at p; exact p
theorem callA {m : Ma} {n : Nat} (ha : MA X C es m) (hl : es.length = n) : ∀ σ H Q, liftE X C (callE f m) σ H Q → tCall (spM X.prog X.w X.K n false f) [] C.E (liftA X C m) σ H Q := fun σ H Q ⟨S, env, g, R, p⟩ =>
  ⟨S, env, g, R, (args_ok ha (post_bind.mp p)).mono (fun us g1 p S1 vs H1 X1 R1 F1 => by
    show spM _ _ _ _ _ _ (vs ++ []) H1 Q C.E
    rw [List.append_nil]
    exact call_imp X1 R1 F1 (by rw [← F1.length, p.1, hl]) p.2) fun _ _ z => z⟩
theorem pe_can1 {sp : Sp} {t : TA} (D : Can X.prog X.w X.K X.mg X.base (CXR X.prog X.w) k x ps sp) (hr : Room k X.A) (hg : Gl X x) (hx : Passes (CXR X.prog X.w) X C.E) (ha : PA X es t) (ns : es.all noStar = true) (hdb : (x == ("__debug__" : Str)) = false) (h0 : es = [] → t = tNil) : PE X (.Call (.Name x p) es [] pos) (tCall sp [] C.E t) := by
  obtain ⟨f', fd, F, hm, hk, hb⟩ := D.ex
  cases es with
  | nil => rw [h0 rfl]; exact pe_call0 F hr hg hm hk hb .nil hx hdb
  | cons e es =>
    rw [List.all_cons, Bool.and_eq_true] at ns
    exact pe_call F hr hg hm hk hb .nil hx ha hdb (star_of ns.1) (stars_of ns.2)
theorem me_call (D : CanM X.prog X.w X.K X.mg X.base k x ps false f) (hr : Room k X.A) (hg : Gl X x) (hx : Passes (CXR X.prog X.w) X C.E) (hl : (e :: es).length = ps.length) (ha : MA X C (e :: es) m) (hdb : (x == ("__debug__" : Str)) = false := by decide) : ME X C (.Call (.Name x p) (e :: es) [] pos) (callE f m) :=
  ⟨PE.imp (pe_can1 D.c hr hg hx ha.h ha.ns hdb (by intro z; cases z)) (callA ha hl)⟩
abbrev Mg := U → Env → Gm → Res Env
def liftG (X : Cx) (C : MC) (m : Mg) : TG := fun v σ H Q => ∃ S env g u, RelX X C S env g σ H ∧ FzX X S u v ∧ Post (m u env g) (fun env' g' => ∀ S' σ' H', Le S S' → RelX X C S' env' g' σ' H' → Q σ' H') (fun _ _ => False)
structure MG (X : Cx) (C : MC) (tg : Expr) (m : Mg) : Prop where
  h : PG X tg (liftG X C m)
abbrev Mgs := List U → Env → Gm → Res Env
def liftGs (X : Cx) (C : MC) (m : Mgs) : TGs := fun vs σ H Q => ∃ S env g us, RelX X C S env g σ H ∧ FzL X.prog X.w X.K S us vs ∧ Post (m us env g) (fun env' g' => ∀ S' σ' H', Le S S' → RelX X C S' env' g' σ' H' → Q σ' H') (fun _ _ => False)
structure MGs (X : Cx) (C : MC) (tgs : List Expr) (m : Mgs) : Prop where
  h : PGs X tgs (liftGs X C m)
def nameG (i : Nat) : Mg := fun u env g => .ok (env.set i (.v u)) g
theorem PG.imp {tg : Expr} {t t' : TG} (h : PG X tg t) (k : ∀ v σ H Q, t' v σ H Q → t v σ H Q) : PG X tg t' := fun pins s σ H v u Q I r z => h pins s σ H v u Q I r (k v σ H Q z)
theorem mg_name {i : Nat} {tg : Expr} (h : PG X tg (gName i)) : MG X C tg (nameG i) := ⟨PG.imp h fun v σ H Q ⟨S, env, g, u, R, F, p⟩ => p S _ H (.refl S) ⟨R.G, R.L.setv F⟩⟩
theorem sqt_at {K : PySem.W.Frag} {P : Program} {w : World} {S : Ab} {g : Gm} {H : Hp} {a : Addr} {xs : List V} (R : RelG P w K C S g H) (h : SqT K S.Z a xs) : SqT K H a xs := sqt_le R.zs h
theorem passF : Passes (CXR X.prog X.w) X (fun _ _ _ => False) := passR0
end
end MM
namespace MM
open PySem PySem.Spec PyProof.Rows L2 BB
structure ItOk (X : Cx) (C : MC) (S1 : Ab) (J : It) (us : List U) : Prop where
  go : ∀ (i : Nat) S env g σ H, Le S1 S → RelX X C S env g σ H → i < us.length → J.go i H
  yld : ∀ (i : Nat) S env g σ H x H', Le S1 S → RelX X C S env g σ H → i < us.length → J.yld i H x H' → ∃ S' u, Ext S S' H H' ∧ RelX X C S' env g σ H' ∧ us[i]? = some u ∧ FzX X S' u x
  stop : ∀ S env g σ H, Le S1 S → RelX X C S env g σ H → J.stop us.length H
def liftI (X : Cx) (C : MC) (m : Ma) : TI := fun σ H R => ∃ S env g, RelX X C S env g σ H ∧ Post (m env g) (fun us g' => ∀ S' J H', Ext S S' H H' → RelX X C S' env g' σ H' → ItOk X C S' J us → R J H') (XPost X.prog X.w X.K C)
structure MI (X : Cx) (C : MC) (tg iter : Expr) (m : Ma) : Prop where
  h : PI X tg iter (liftI X C m)
section
variable {X : Cx} {C : MC} {tg e : Expr} {m : Me} {pos : Pos} {o : Bool}
theorem PI.imp {iter : Expr} {t t' : TI} (h : PI X tg iter t) (k : ∀ σ H R, t' σ H R → t σ H R) : PI X tg iter t' := fun pins s σ H R I z => h pins s σ H R I (k σ H R z)
theorem sql_at {K : PySem.W.Frag} {P : Program} {w : World} {S : Ab} {g : Gm} {H : Hp} {a : Addr} {xs : List V} (R : RelG P w K C S g H) (h : Rd S.Z a (.lst xs)) : SqL K H a xs := .inl (rd_le R.zs h)
def itemsL (m : Me) : Ma := fun env g => (m env g).bind fun u g1 => match u with
  | .lst us => .ok us g1
  | _ => .stuck
theorem itl_ok {S : Ab} {a : Addr} {xs : List V} {us : List U} (sq : Rd S.Z a (.lst xs)) (fl : FzL X.prog X.w X.K S us xs) : ItOk X C S (Itl X.K a) us where
  go i S2 env g σ H l R hi := ⟨xs, xs[i]'(by rw [← fl.length]; exact hi), .inl (rd_le (fun b o e => R.G.zs b o (l.z b o e)) sq), by simp⟩
  yld i S2 env g σ H x H' l R _ y := by
    obtain ⟨rfl, hx⟩ := y
    have h := hx xs (.inl (rd_le (fun b o e => R.G.zs b o (l.z b o e)) sq))
    have hi : i < xs.length := (List.getElem?_eq_some_iff.mp h).1
    have hu : i < us.length := by rw [fl.length]; exact hi
    obtain ⟨x', e', f'⟩ := fl.get (List.getElem?_eq_getElem hu)
    rw [h] at e'; cases e'
    exact ⟨S2, us[i], .refl _ _, R, List.getElem?_eq_getElem hu, f'.le l⟩
  stop S2 env g σ H l R := ⟨xs, .inl (rd_le (fun b o e => R.G.zs b o (l.z b o e)) sq), by rw [fl.length]; exact Nat.le_refl _⟩
theorem itt_ok {S : Ab} {a : Addr} {xs : List V} {us : List U} (sq : SqT X.K S.Z a xs) (fl : FzL X.prog X.w X.K S us xs) : ItOk X C S (Itt X.K a) us where
  go i S2 env g σ H l R hi := ⟨xs, xs[i]'(by rw [← fl.length]; exact hi), sqt_le (fun b o e => R.G.zs b o (l.z b o e)) sq, by simp⟩
  yld i S2 env g σ H x H' l R _ y := by
    obtain ⟨rfl, hx⟩ := y
    have h := hx xs (sqt_le (fun b o e => R.G.zs b o (l.z b o e)) sq)
    have hi : i < xs.length := (List.getElem?_eq_some_iff.mp h).1
    have hu : i < us.length := by rw [fl.length]; exact hi
    obtain ⟨x', e', f'⟩ := fl.get (List.getElem?_eq_getElem hu)
    rw [h] at e'; cases e'
    exact ⟨S2, us[i], .refl _ _, R, List.getElem?_eq_getElem hu, f'.le l⟩
  stop S2 env g σ H l R := ⟨xs, sqt_le (fun b o e => R.G.zs b o (l.z b o e)) sq, by rw [fl.length]; exact Nat.le_refl _⟩
theorem mi_list (h : ME X C e m) : MI X C tg e (itemsL m) := ⟨PI.imp (pi_list h.h) fun σ H R ⟨S, env, g, Rl, p⟩ => ⟨S, env, g, Rl, (post_bind.mp p).mono (fun u g1 p S1 v1 H1 X1 R1 F1 => by
  split at p
  · next us => obtain ⟨a, xs, rfl, sq, fl⟩ := F1; exact ⟨a, rfl, ⟨xs, sql_at R1.G sq⟩, p S1 _ H1 X1 R1 (itl_ok sq fl)⟩
  · exact p.elim) fun _ _ z => z⟩⟩
def itemsT (m : Me) : Ma := fun env g => (m env g).bind fun u g1 => match u with
  | .tup us => .ok us g1
  | _ => .stuck
theorem mi_tup (h : ME X C e m) : MI X C tg e (itemsT m) := ⟨PI.imp (pi_tup h.h) fun σ H R ⟨S, env, g, Rl, p⟩ => ⟨S, env, g, Rl, (post_bind.mp p).mono (fun u g1 p S1 v1 H1 X1 R1 F1 => by
  split at p
  · next us => obtain ⟨a, xs, rfl, sq, fl⟩ := F1; exact ⟨a, rfl, ⟨xs, sqt_at R1.G sq⟩, p S1 _ H1 X1 R1 (itt_ok sq fl)⟩
  · exact p.elim) fun _ _ z => z⟩⟩
def signs (x : Str) : List U := x.cps.toList.map fun c => .str ⟨#[c]⟩
def itemsS (m : Me) : Ma := fun env g => (m env g).bind fun u g1 => match u with
  | .str x => .ok (signs x) g1
  | _ => .stuck
theorem signs_len (x : Str) : (signs x).length = x.length := by unfold signs; rw [List.length_map]; rfl
theorem mi_str (h : ME X C e m) : MI X C tg e (itemsS m) := ⟨PI.imp (pi_str h.h) fun σ H R ⟨S, env, g, Rl, p⟩ => ⟨S, env, g, Rl, (post_bind.mp p).mono (fun u g1 p S1 v1 H1 X1 R1 F1 => by
  split at p
  · next x =>
    cases F1
    refine ⟨x, rfl, p S1 _ H1 X1 R1 ⟨fun i S2 env g σ H l R hi => by rw [signs_len] at hi; exact hi, fun i S2 env g σ H y H' l R _ z => ?_, fun S2 env g σ H l R => signs_len x⟩⟩
    obtain ⟨rfl, c, ec, rfl⟩ := z
    refine ⟨S2, .str ⟨#[c]⟩, .refl _ _, R, ?_, rfl⟩
    unfold signs
    rw [List.getElem?_map]
    have : x.cps.toList[i]? = some c := by simpa using ec
    rw [this]; rfl
  · exact p.elim) fun _ _ z => z⟩⟩
def intsU (lo : Int) (n : Nat) : List U := (List.range n).map fun (k : Nat) => .int (lo + (k : Int))
def rng1 (ma : Ma) : Ma := fun env g => (ma env g).bind fun us g1 => match us with
  | [.int j] => if -(2 ^ 62) ≤ j ∧ j < 2 ^ 62 then .ok (intsU 0 j.toNat) g1 else .stuck
  | _ => .stuck
def rng2 (ma : Ma) : Ma := fun env g => (ma env g).bind fun us g1 => match us with
  | [.int i, .int j] => if (-(2 ^ 62) ≤ i ∧ i < 2 ^ 62) ∧ -(2 ^ 62) ≤ j ∧ j < 2 ^ 62 then .ok (intsU i (j - i).toNat) g1 else .stuck
  | _ => .stuck
theorem itr_ok {S : Ab} {lo : Int} {n : Nat} : ItOk X C S (Itr lo n) (intsU lo n) where
  go i S2 env g σ H l R hi := by unfold intsU at hi; rw [List.length_map, List.length_range] at hi; exact hi
  yld i S2 env g σ H x H' l R hi y := by
    obtain ⟨rfl, rfl⟩ := y
    unfold intsU at hi; rw [List.length_map, List.length_range] at hi
    refine ⟨S2, .int (lo + i), .refl _ _, R, ?_, rfl⟩
    unfold intsU
    rw [List.getElem?_map, List.getElem?_range hi]; rfl
  stop S2 env g σ H l R := by show n ≤ (intsU lo n).length; unfold intsU; rw [List.length_map, List.length_range]; exact Nat.le_refl _
theorem mi_range1 {a : Expr} {ma : Ma} {p : Pos} (hg : Gl X "range") (hm : X.mg "range" = none) (ha : MA X C [a] ma) (hs : starEach [a] X.env = [(false, eval a X.env)] := by rfl) : MI X C tg (.Call (.Name "range" p) [a] [] pos) (rng1 ma) := ⟨PI.imp (pi_range1 hg hm ha.h hs) fun σ H R ⟨S, env, g, Rl, p⟩ => ⟨S, env, g, Rl, (post_bind.mp p).mono (fun us g1 p S1 vs H1 X1 R1 F1 => by
  split at p
  · next j =>
    obtain ⟨x, r, rfl, hx, hr⟩ := F1
    cases hx; cases hr
    split at p
    · next h => exact ⟨j, rfl, h.1, h.2, p S1 _ H1 X1 R1 itr_ok⟩
    · exact p.elim
  · exact p.elim) fun _ _ z => z⟩⟩
theorem mi_range2 {a b : Expr} {ma : Ma} {p : Pos} (hg : Gl X "range") (hm : X.mg "range" = none) (ha : MA X C [a, b] ma) (hs : starEach [a, b] X.env = [(false, eval a X.env), (false, eval b X.env)] := by rfl) (hs2 : starEach [b] X.env = [(false, eval b X.env)] := by rfl) : MI X C tg (.Call (.Name "range" p) [a, b] [] pos) (rng2 ma) := ⟨PI.imp (pi_range2 hg hm ha.h hs hs2) fun σ H R ⟨S, env, g, Rl, p⟩ => ⟨S, env, g, Rl, (post_bind.mp p).mono (fun us g1 p S1 vs H1 X1 R1 F1 => by
  split at p
  · next i j =>
    obtain ⟨x, r, rfl, hx, y, r2, rfl, hy, hr⟩ := F1
    cases hx; cases hy; cases hr
    split at p
    · next h => exact ⟨i, j, rfl, ⟨h.1.1, h.1.2, h.2.1, h.2.2⟩, p S1 _ H1 X1 R1 itr_ok⟩
    · exact p.elim
  · exact p.elim) fun _ _ z => z⟩⟩
def forL (t : Mg) (mb : Ms) : List U → Ms
  | [], env, g => .ok (.nx, env) g
  | u :: us, env, g => match t u env g with
    | .ok env1 g1 => (mb env1 g1).bind fun z g2 => match z.1 with
      | .nx => forL t mb us z.2 g2
      | .ct => forL t mb us z.2 g2
      | .bk => .ok (.nx, z.2) g2
      | .rt u => .ok (.rt u, z.2) g2
    | _ => .stuck
def forS (mi : Ma) (t : Mg) (mb : Ms) : Ms := fun env g => (mi env g).bind fun us g1 => forL t mb us env g1
theorem for_imp {mi : Ma} {t : Mg} {mb : Ms} : ∀ D σ H, liftS X C o (forS mi t mb) D σ H → tFor (liftI X C mi) (liftG X C t) (liftS X C o mb) D σ H := fun D σ H ⟨S, env, g, R, p⟩ => by
  refine ⟨S, env, g, R, (post_bind.mp p).mono (fun us g1 p S1 J H1 X1 R1 hJ => ?_) fun _ _ z => z⟩
  let W : Nat → Nat → L2.St → Hp → Prop := fun i n σ H => n = us.length - i ∧ i ≤ us.length ∧ ∃ S2 env2 g2, Le S1 S2 ∧ RelX X C S2 env2 g2 σ H ∧ Post (forL t mb (us.drop i) env2 g2) (EndS X C o D S2) (XPost X.prog X.w X.K C)
  refine ⟨W, ⟨us.length, by simp, Nat.zero_le _, S1, env, g1, .refl _, R1, Post.mono p (fun _ _ q => q.le X1.le) fun _ _ q => q⟩, ?_⟩
  rintro i n σ2 H2 ⟨hn, hi, S2, env2, g2, l2, R2, p2⟩
  by_cases he : i = us.length
  · subst he
    rw [List.drop_length] at p2
    exact .inl ⟨hJ.stop S2 env2 g2 σ2 H2 l2 R2, p2 S2 σ2 H2 (.refl _) R2⟩
  · have hlt : i < us.length := by omega
    refine .inr ⟨hJ.go i S2 env2 g2 σ2 H2 l2 R2 hlt, fun σ' H' => W (i + 1) (us.length - (i + 1)) σ' H', fun σ' H' h => ⟨_, by omega, h⟩, fun x H' hy => ?_⟩
    obtain ⟨S3, u, X3, R3, eu, F3⟩ := hJ.yld i S2 env2 g2 σ2 H2 x H' l2 R2 hlt hy
    have eu' : us[i] = u := by rw [List.getElem?_eq_getElem hlt] at eu; exact Option.some.inj eu
    rw [List.drop_eq_getElem_cons hlt, eu'] at p2
    refine ⟨S3, env2, g2, u, R3, F3, ?_⟩
    unfold forL at p2
    split at p2
    · next env3 g3 e3 =>
      rw [e3]
      intro S4 σ4 H4 l4 R4
      refine ⟨S4, env3, g3, R4, (post_bind.mp p2).mono (fun z g4 q => ?_) fun _ _ z => z⟩
      obtain ⟨fl, env4⟩ := z
      have l24 : Le S2 S4 := X3.le.trans l4
      cases fl with
      | nx => exact fun S5 σ5 H5 l5 R5 => ⟨rfl, hlt, S5, env4, g4, (l2.trans l24).trans l5, R5, Post.mono q (fun _ _ q => q.le (l24.trans l5)) fun _ _ q => q⟩
      | ct => exact fun S5 σ5 H5 l5 R5 => ⟨rfl, hlt, S5, env4, g4, (l2.trans l24).trans l5, R5, Post.mono q (fun _ _ q => q.le (l24.trans l5)) fun _ _ q => q⟩
      | bk => exact fun S5 σ5 H5 l5 R5 => q S5 σ5 H5 (l24.trans l5) R5
      | rt u => exact q
    · exact p2.elim
theorem ms_for {iter : Expr} {body : List Stmt} {mi : Ma} {t : Mg} {mb : Ms} (hp : PassesOwn (model X.prog X.w) X.A X.env X.xe) (hc : X.calm = true) (hi : MI X C tg iter mi) (hg : MG X C tg t) (hb : MSs X C o body mb) (hs : ∀ x, foldedSetIterable iter X.env x = pure x := by intro _; rfl) : MS X C o (.For tg iter body [] pos) (forS mi t mb) := ⟨PS.imp (ps_for hp hc hi.h hg.h hb.h hs) for_imp⟩
end
end MM
namespace MM
open PySem PySem.Spec PyProof.Rows L2 BB
def eqL (f : U → U → Option Bool) : List U → List U → Option Bool
  | [], [] => some true
  | [], _ :: _ => some false
  | _ :: _, [] => some false
  | u :: us, v :: vs => match f u v, eqL f us vs with
    | some a, some b => some (a && b)
    | _, _ => none
def okU : U → Bool
  | .non => true
  | .bl _ => true
  | .int _ => true
  | .str _ => true
  | .tup _ => true
  | .lst _ => true
  | _ => false
def oth (v : U) : Option Bool := match okU v with
  | true => some false
  | false => none
def eqB (f : List U → List U → Option Bool) (u v : U) : Option Bool := match u with
  | .non => match v with
    | .non => some true
    | v => oth v
  | .bl a => match v with
    | .bl b => some (a == b)
    | .int b => some ((if a then 1 else 0) == b)
    | v => oth v
  | .int a => match v with
    | .bl b => some (a == (if b then 1 else 0))
    | .int b => some (a == b)
    | v => oth v
  | .str a => match v with
    | .str b => some (a == b)
    | v => oth v
  | .tup us => match v with
    | .tup vs => f us vs
    | v => oth v
  | .lst us => match v with
    | .lst vs => f us vs
    | v => oth v
  | _ => none
def eqN : Nat → U → U → Option Bool
  | 0, u, v => eqB (fun _ _ => none) u v
  | n + 1, u, v => eqB (eqL (eqN n)) u v
theorem eqNs : (∀ (n : Nat), eqN n .non .non = some true) ∧ (∀ (n : Nat) (b2 : Bool), eqN n .non (.bl b2) = some false) ∧ (∀ (n : Nat) (i2 : Int), eqN n .non (.int i2) = some false) ∧ (∀ (n : Nat) (s2 : Str), eqN n .non (.str s2) = some false) ∧ (∀ (n : Nat) (us2 : List U), eqN n .non (.tup us2) = some false) ∧ (∀ (n : Nat) (us2 : List U), eqN n .non (.lst us2) = some false) ∧ (∀ (n : Nat) (b1 : Bool), eqN n (.bl b1) .non = some false) ∧ (∀ (n : Nat) (b1 : Bool) (b2 : Bool), eqN n (.bl b1) (.bl b2) = some (b1 == b2)) ∧ (∀ (n : Nat) (b1 : Bool) (i2 : Int), eqN n (.bl b1) (.int i2) = some ((if b1 then 1 else 0) == i2)) ∧ (∀ (n : Nat) (b1 : Bool) (s2 : Str), eqN n (.bl b1) (.str s2) = some false) ∧ (∀ (n : Nat) (b1 : Bool) (us2 : List U), eqN n (.bl b1) (.tup us2) = some false) ∧ (∀ (n : Nat) (b1 : Bool) (us2 : List U), eqN n (.bl b1) (.lst us2) = some false) ∧ (∀ (n : Nat) (i1 : Int), eqN n (.int i1) .non = some false) ∧ (∀ (n : Nat) (i1 : Int) (b2 : Bool), eqN n (.int i1) (.bl b2) = some (i1 == (if b2 then 1 else 0))) ∧ (∀ (n : Nat) (i1 : Int) (i2 : Int), eqN n (.int i1) (.int i2) = some (i1 == i2)) ∧ (∀ (n : Nat) (i1 : Int) (s2 : Str), eqN n (.int i1) (.str s2) = some false) ∧ (∀ (n : Nat) (i1 : Int) (us2 : List U), eqN n (.int i1) (.tup us2) = some false) ∧ (∀ (n : Nat) (i1 : Int) (us2 : List U), eqN n (.int i1) (.lst us2) = some false) ∧ (∀ (n : Nat) (s1 : Str), eqN n (.str s1) .non = some false) ∧ (∀ (n : Nat) (s1 : Str) (b2 : Bool), eqN n (.str s1) (.bl b2) = some false) ∧ (∀ (n : Nat) (s1 : Str) (i2 : Int), eqN n (.str s1) (.int i2) = some false) ∧ (∀ (n : Nat) (s1 : Str) (s2 : Str), eqN n (.str s1) (.str s2) = some (s1 == s2)) ∧ (∀ (n : Nat) (s1 : Str) (us2 : List U), eqN n (.str s1) (.tup us2) = some false) ∧ (∀ (n : Nat) (s1 : Str) (us2 : List U), eqN n (.str s1) (.lst us2) = some false) ∧ (∀ (n : Nat) (us1 : List U), eqN n (.tup us1) .non = some false) ∧ (∀ (n : Nat) (us1 : List U) (b2 : Bool), eqN n (.tup us1) (.bl b2) = some false) ∧ (∀ (n : Nat) (us1 : List U) (i2 : Int), eqN n (.tup us1) (.int i2) = some false) ∧ (∀ (n : Nat) (us1 : List U) (s2 : Str), eqN n (.tup us1) (.str s2) = some false) ∧ (∀ (n : Nat) (us1 : List U) (us2 : List U), eqN (n + 1) (.tup us1) (.tup us2) = eqL (eqN n) us1 us2) ∧ (∀ (n : Nat) (us1 : List U) (us2 : List U), eqN n (.tup us1) (.lst us2) = some false) ∧ (∀ (n : Nat) (us1 : List U), eqN n (.lst us1) .non = some false) ∧ (∀ (n : Nat) (us1 : List U) (b2 : Bool), eqN n (.lst us1) (.bl b2) = some false) ∧ (∀ (n : Nat) (us1 : List U) (i2 : Int), eqN n (.lst us1) (.int i2) = some false) ∧ (∀ (n : Nat) (us1 : List U) (s2 : Str), eqN n (.lst us1) (.str s2) = some false) ∧ (∀ (n : Nat) (us1 : List U) (us2 : List U), eqN n (.lst us1) (.tup us2) = some false) ∧ (∀ (n : Nat) (us1 : List U) (us2 : List U), eqN (n + 1) (.lst us1) (.lst us2) = eqL (eqN n) us1 us2) := by
  refine ⟨?_, ?_, ?_, ?_, ?_, ?_, ?_, ?_, ?_, ?_, ?_, ?_, ?_, ?_, ?_, ?_, ?_, ?_, ?_, ?_, ?_, ?_, ?_, ?_, ?_, ?_, ?_, ?_, ?_, ?_, ?_, ?_, ?_, ?_, ?_, ?_⟩ <;> intro n <;> intros <;> first | rfl | (cases n <;> rfl)
theorem eqB_ok {f : List U → List U → Option Bool} {u v : U} {k : Bool} (h : eqB f u v = some k) : okU u = true ∧ okU v = true := by
  cases u <;> first | (cases h; done) | (cases v <;> first | exact ⟨rfl, rfl⟩ | cases h)
theorem eqL_cons {f : U → U → Option Bool} {u v : U} {us vs : List U} {k : Bool} (h : eqL f (u :: us) (v :: vs) = some k) : ∃ a b, f u v = some a ∧ eqL f us vs = some b ∧ k = (a && b) := by
  unfold eqL at h
  split at h
  · next a b e1 e2 => cases h; exact ⟨a, b, e1, e2, rfl⟩
  · cases h
theorem eqL_get {f : U → U → Option Bool} : ∀ {us vs : List U} {k : Bool}, eqL f us vs = some k → ∃ e : Nat → Bool, (∀ (j : Nat) u v, us[j]? = some u → vs[j]? = some v → f u v = some (e j)) ∧ k = ((List.range (min us.length vs.length)).all e && us.length == vs.length)
  | [], [], k, h => by cases h; exact ⟨fun _ => true, fun j u v e => by simp at e, rfl⟩
  | [], _ :: _, k, h => by cases h; exact ⟨fun _ => true, fun j u v e => by simp at e, by simp⟩
  | _ :: _, [], k, h => by cases h; exact ⟨fun _ => true, fun j u v _ e => by simp at e, by simp⟩
  | u :: us, v :: vs, k, h => by
    obtain ⟨a, b, h1, h2, rfl⟩ := eqL_cons h
    obtain ⟨e, he, rfl⟩ := eqL_get h2
    refine ⟨fun j => match j with | 0 => a | j + 1 => e j, fun j x y ex ey => ?_, ?_⟩
    · cases j with
      | zero => cases ex; cases ey; exact h1
      | succ j => exact he j x y (by simpa using ex) (by simpa using ey)
    · have hm : min (u :: us).length (v :: vs).length = min us.length vs.length + 1 := by simp only [List.length_cons]; omega
      rw [hm, List.range_succ_eq_map, List.all_cons, List.all_map, List.length_cons, List.length_cons, Bool.and_assoc]
      congr 2
      simp [BEq.beq]
section
variable {X : Cx} {pins : List (Addr × Obj)} {σ : L2.St} {H : Hp} {s : Shared} {ρ : List Addr}
abbrev FzH (X : Cx) (H : Hp) (ρ : List Addr) (u : U) (v : V) : Prop := Fz X.prog X.w X.K ⟨H, ρ⟩ u v
theorem rd_list (I : Inv X pins σ H s) {a : Addr} {xs : List V} (h : Rd H a (.lst xs)) : ∃ its : List Value, Vals xs its ∧ s.heap.IsList a its.toArray ∧ xs.length ≤ sizeLine := by
  obtain ⟨its, r, pl, z⟩ := I.list (.inl h)
  exact ⟨its, r, pl.isList, z⟩
theorem rd_tup (I : Inv X pins σ H s) {a : Addr} {xs : List V} (h : SqT X.K H a xs) : ∃ its : List Value, Vals xs its ∧ s.heap.IsTuple a its.toArray ∧ xs.length ≤ sizeLine := by
  obtain ⟨its, r, pl, z⟩ := I.tuple h
  exact ⟨its, r, pl, z⟩
structure Tri (A : Around) (s : Shared) (a b : Value) (k : Bool) : Prop where
  rc : SeqAt.RcAt A s a b k
  eq : SeqAt.EqAt A s a b k
  ne : SeqAt.RcNeAt A s a b (!k)
theorem eqL_self {f : U → U → Option Bool} (ih : ∀ {u v : U} {x : V} {k : Bool}, FzH X H ρ u x → FzH X H ρ v x → f u v = some k → k = true) : ∀ {us vs : List U} {xs : List V} {k : Bool}, FzL X.prog X.w X.K ⟨H, ρ⟩ us xs → FzL X.prog X.w X.K ⟨H, ρ⟩ vs xs → eqL f us vs = some k → k = true
  | [], [], _, k, _, _, h => by cases h; rfl
  | [], _ :: _, _, k, h1, h2, h => by cases h1; obtain ⟨_, _, z, _⟩ := h2; cases z
  | _ :: _, [], _, k, h1, h2, h => by cases h2; obtain ⟨_, _, z, _⟩ := h1; cases z
  | u :: us, v :: vs, xs, k, h1, h2, h => by
    obtain ⟨x, r, rfl, f1, t1⟩ := h1
    obtain ⟨x2, r2, z, f2, t2⟩ := h2
    cases z
    obtain ⟨a, b, e1, e2, rfl⟩ := eqL_cons h
    rw [ih f1 f2 e1, eqL_self ih t1 t2 e2]; rfl
theorem fz_same (I : Inv X pins σ H s) {u v : U} {x : V} (hu : okU u = true) (hv : okU v = true) (hx : FzH X H ρ u x) (hy : FzH X H ρ v x) :
    u = v ∨ (∃ us vs xs, u = .tup us ∧ v = .tup vs ∧ FzL X.prog X.w X.K ⟨H, ρ⟩ us xs ∧ FzL X.prog X.w X.K ⟨H, ρ⟩ vs xs) ∨ ∃ us vs xs, u = .lst us ∧ v = .lst vs ∧ FzL X.prog X.w X.K ⟨H, ρ⟩ us xs ∧ FzL X.prog X.w X.K ⟨H, ρ⟩ vs xs := by
  cases u with
  | non => cases hx; cases v with
    | non => exact .inl rfl
    | tup _ => obtain ⟨_, _, z, _⟩ := hy; cases z
    | lst _ => obtain ⟨_, _, z, _⟩ := hy; cases z
    | bl _ => cases hy
    | int _ => cases hy
    | str _ => cases hy
    | _ => cases hv
  | bl b => cases hx; cases v with
    | bl _ => cases hy; exact .inl rfl
    | tup _ => obtain ⟨_, _, z, _⟩ := hy; cases z
    | lst _ => obtain ⟨_, _, z, _⟩ := hy; cases z
    | non => cases hy
    | int _ => cases hy
    | str _ => cases hy
    | _ => cases hv
  | int b => cases hx; cases v with
    | int _ => cases hy; exact .inl rfl
    | tup _ => obtain ⟨_, _, z, _⟩ := hy; cases z
    | lst _ => obtain ⟨_, _, z, _⟩ := hy; cases z
    | non => cases hy
    | bl _ => cases hy
    | str _ => cases hy
    | _ => cases hv
  | str b => cases hx; cases v with
    | str _ => cases hy; exact .inl rfl
    | tup _ => obtain ⟨_, _, z, _⟩ := hy; cases z
    | lst _ => obtain ⟨_, _, z, _⟩ := hy; cases z
    | non => cases hy
    | bl _ => cases hy
    | int _ => cases hy
    | _ => cases hv
  | tup us =>
    obtain ⟨a, xs, rfl, q1, f1⟩ := hx
    cases v with
    | tup vs =>
      obtain ⟨b, ys, z, q2, f2⟩ := hy
      cases z
      have e := I.tuple_inj q1 q2; subst e
      exact .inr (.inl ⟨us, vs, xs, rfl, rfl, f1, f2⟩)
    | lst vs =>
      obtain ⟨b, ys, z, q2, f2⟩ := hy
      cases z
      obtain ⟨_, _, y1, _⟩ := rd_tup I q1; obtain ⟨_, _, y2, _⟩ := rd_list I q2; exact (SeqAt.ne_of_list_tuple y2 y1 rfl).elim
    | non => cases hy
    | bl _ => cases hy
    | int _ => cases hy
    | str _ => cases hy
    | _ => cases hv
  | lst us =>
    obtain ⟨a, xs, rfl, q1, f1⟩ := hx
    cases v with
    | lst vs =>
      obtain ⟨b, ys, z, q2, f2⟩ := hy
      cases z
      have e := I.list_inj (Or.inl q1) (Or.inl q2); subst e
      exact .inr (.inr ⟨us, vs, xs, rfl, rfl, f1, f2⟩)
    | tup vs =>
      obtain ⟨b, ys, z, q2, f2⟩ := hy
      cases z
      obtain ⟨_, _, y1, _⟩ := rd_list I q1; obtain ⟨_, _, y2, _⟩ := rd_tup I q2; exact (SeqAt.ne_of_list_tuple y1 y2 rfl).elim
    | non => cases hy
    | bl _ => cases hy
    | int _ => cases hy
    | str _ => cases hy
    | _ => cases hv
  | _ => cases hu
theorem eqN_self (I : Inv X pins σ H s) : ∀ (n : Nat) {u v : U} {x : V} {k : Bool}, FzH X H ρ u x → FzH X H ρ v x → eqN n u v = some k → k = true := by
  intro n
  induction n with
  | zero =>
    intro u v x k hx hy h
    have h : eqB (fun _ _ => none) u v = some k := h
    rcases fz_same I (eqB_ok h).1 (eqB_ok h).2 hx hy with rfl | ⟨us, vs, xs, rfl, rfl, _⟩ | ⟨us, vs, xs, rfl, rfl, _⟩
    · cases u <;> cases h <;> simp
    · cases h
    · cases h
  | succ n ih =>
    intro u v x k hx hy h
    have h : eqB (eqL (eqN n)) u v = some k := h
    rcases fz_same I (eqB_ok h).1 (eqB_ok h).2 hx hy with rfl | ⟨us, vs, xs, rfl, rfl, f1, f2⟩ | ⟨us, vs, xs, rfl, rfl, f1, f2⟩
    · cases u with
      | tup us => obtain ⟨a, xs, rfl, q1, f1⟩ := hx; exact eqL_self (fun a b c => ih a b c) f1 f1 h
      | lst us => obtain ⟨a, xs, rfl, q1, f1⟩ := hx; exact eqL_self (fun a b c => ih a b c) f1 f1 h
      | non => cases h; rfl
      | bl b => cases h; exact beq_self_eq_true _
      | int b => cases h; exact beq_self_eq_true _
      | str b => cases h; exact beq_self_eq_true _
      | _ => cases h
    · exact eqL_self (fun a b c => ih a b c) f1 f2 h
    · exact eqL_self (fun a b c => ih a b c) f1 f2 h
theorem flat_tri (I : Inv X pins σ H s) {A : Around} {f : List U → List U → Option Bool} (hu : A.units < cLine) : ∀ {u v : U} {x y : V} {a b : Value} {k : Bool}, (∀ us vs, u = .tup us → v = .tup vs → False) → (∀ us vs, u = .lst us → v = .lst vs → False) → FzH X H ρ u x → FzH X H ρ v y → RelV x a → RelV y b → eqB f u v = some k → Tri A s a b k := by
  intro u v x y a b k n1 n2 hx hy rx ry h
  cases u with
  | non =>
    cases v with
    | non => cases h; cases hx; cases rx; cases hy; cases ry; exact ⟨SeqAt.RcAt.none_none, (SeqAt.EqAt.same _), SeqAt.RcNeAt.none_none⟩
    | bl p2 => cases h; cases hx; cases rx; cases hy; cases ry; exact ⟨(SeqAt.RcAt.none_bool p2), (SeqAt.EqAt.none_bool p2), (SeqAt.RcNeAt.none_bool p2)⟩
    | int p2 => cases h; cases hx; cases rx; cases hy; obtain ⟨t2, rfl⟩ := ry; exact ⟨(SeqAt.RcAt.none_int p2 t2), (SeqAt.EqAt.none_int p2 t2), (SeqAt.RcNeAt.none_int p2 t2)⟩
    | str p2 => cases h; cases hx; cases rx; cases hy; obtain ⟨t2, rfl⟩ := ry; exact ⟨(SeqAt.RcAt.none_str p2 t2), (SeqAt.EqAt.none_str p2 t2), (SeqAt.RcNeAt.none_str p2 t2)⟩
    | tup p2 => cases h; cases hx; cases rx; obtain ⟨l2, xs2, rfl, q2, f2⟩ := hy; cases ry; obtain ⟨its2, v2, z2, _⟩ := rd_tup I q2; exact ⟨(SeqAt.RcAt.none_tuple  z2 hu), (SeqAt.EqAt.none_tuple  z2 hu), (SeqAt.RcNeAt.none_tuple  z2 hu)⟩
    | lst p2 => cases h; cases hx; cases rx; obtain ⟨l2, xs2, rfl, q2, f2⟩ := hy; cases ry; obtain ⟨its2, v2, z2, _⟩ := rd_list I q2; exact ⟨(SeqAt.RcAt.none_list  z2 hu), (SeqAt.EqAt.none_list  z2 hu), (SeqAt.RcNeAt.none_list  z2 hu)⟩
    | _ => cases h
  | bl p1 =>
    cases v with
    | non => cases h; cases hx; cases rx; cases hy; cases ry; exact ⟨(SeqAt.RcAt.bool_none p1), (SeqAt.EqAt.bool_none p1), (SeqAt.RcNeAt.bool_none p1)⟩
    | bl p2 => cases h; cases hx; cases rx; cases hy; cases ry; exact ⟨(SeqAt.RcAt.bool_bool p1 p2), (SeqAt.EqAt.bool_bool p1 p2), (SeqAt.RcNeAt.bool_bool p1 p2)⟩
    | int p2 => cases h; cases hx; cases rx; cases hy; obtain ⟨t2, rfl⟩ := ry; exact ⟨(SeqAt.RcAt.bool_int p1 p2 t2), (SeqAt.EqAt.bool_int p1 p2 t2), (SeqAt.RcNeAt.bool_int p1 p2 t2)⟩
    | str p2 => cases h; cases hx; cases rx; cases hy; obtain ⟨t2, rfl⟩ := ry; exact ⟨(SeqAt.RcAt.bool_str p1 p2 t2), (SeqAt.EqAt.bool_str p1 p2 t2), (SeqAt.RcNeAt.bool_str p1 p2 t2)⟩
    | tup p2 => cases h; cases hx; cases rx; obtain ⟨l2, xs2, rfl, q2, f2⟩ := hy; cases ry; obtain ⟨its2, v2, z2, _⟩ := rd_tup I q2; exact ⟨(SeqAt.RcAt.bool_tuple p1 z2 hu), (SeqAt.EqAt.bool_tuple p1 z2 hu), (SeqAt.RcNeAt.bool_tuple p1 z2 hu)⟩
    | lst p2 => cases h; cases hx; cases rx; obtain ⟨l2, xs2, rfl, q2, f2⟩ := hy; cases ry; obtain ⟨its2, v2, z2, _⟩ := rd_list I q2; exact ⟨(SeqAt.RcAt.bool_list p1 z2 hu), (SeqAt.EqAt.bool_list p1 z2 hu), (SeqAt.RcNeAt.bool_list p1 z2 hu)⟩
    | _ => cases h
  | int p1 =>
    cases v with
    | non => cases h; cases hx; obtain ⟨t1, rfl⟩ := rx; cases hy; cases ry; exact ⟨(SeqAt.RcAt.int_none p1 t1), (SeqAt.EqAt.int_none p1 t1), (SeqAt.RcNeAt.int_none p1 t1)⟩
    | bl p2 => cases h; cases hx; obtain ⟨t1, rfl⟩ := rx; cases hy; cases ry; exact ⟨(SeqAt.RcAt.int_bool p1 t1 p2), (SeqAt.EqAt.int_bool p1 t1 p2), (SeqAt.RcNeAt.int_bool p1 t1 p2)⟩
    | int p2 => cases h; cases hx; obtain ⟨t1, rfl⟩ := rx; cases hy; obtain ⟨t2, rfl⟩ := ry; exact ⟨(SeqAt.RcAt.int_int p1 t1 p2 t2), (SeqAt.EqAt.int_int p1 t1 p2 t2), (SeqAt.RcNeAt.int_int p1 t1 p2 t2)⟩
    | str p2 => cases h; cases hx; obtain ⟨t1, rfl⟩ := rx; cases hy; obtain ⟨t2, rfl⟩ := ry; exact ⟨(SeqAt.RcAt.int_str p1 t1 p2 t2), (SeqAt.EqAt.int_str p1 t1 p2 t2), (SeqAt.RcNeAt.int_str p1 t1 p2 t2)⟩
    | tup p2 => cases h; cases hx; obtain ⟨t1, rfl⟩ := rx; obtain ⟨l2, xs2, rfl, q2, f2⟩ := hy; cases ry; obtain ⟨its2, v2, z2, _⟩ := rd_tup I q2; exact ⟨(SeqAt.RcAt.int_tuple p1 t1 z2 hu), (SeqAt.EqAt.int_tuple p1 t1 z2 hu), (SeqAt.RcNeAt.int_tuple p1 t1 z2 hu)⟩
    | lst p2 => cases h; cases hx; obtain ⟨t1, rfl⟩ := rx; obtain ⟨l2, xs2, rfl, q2, f2⟩ := hy; cases ry; obtain ⟨its2, v2, z2, _⟩ := rd_list I q2; exact ⟨(SeqAt.RcAt.int_list p1 t1 z2 hu), (SeqAt.EqAt.int_list p1 t1 z2 hu), (SeqAt.RcNeAt.int_list p1 t1 z2 hu)⟩
    | _ => cases h
  | str p1 =>
    cases v with
    | non => cases h; cases hx; obtain ⟨t1, rfl⟩ := rx; cases hy; cases ry; exact ⟨(SeqAt.RcAt.str_none p1 t1), (SeqAt.EqAt.str_none p1 t1), (SeqAt.RcNeAt.str_none p1 t1)⟩
    | bl p2 => cases h; cases hx; obtain ⟨t1, rfl⟩ := rx; cases hy; cases ry; exact ⟨(SeqAt.RcAt.str_bool p1 t1 p2), (SeqAt.EqAt.str_bool p1 t1 p2), (SeqAt.RcNeAt.str_bool p1 t1 p2)⟩
    | int p2 => cases h; cases hx; obtain ⟨t1, rfl⟩ := rx; cases hy; obtain ⟨t2, rfl⟩ := ry; exact ⟨(SeqAt.RcAt.str_int p1 t1 p2 t2), (SeqAt.EqAt.str_int p1 t1 p2 t2), (SeqAt.RcNeAt.str_int p1 t1 p2 t2)⟩
    | str p2 => cases h; cases hx; obtain ⟨t1, rfl⟩ := rx; cases hy; obtain ⟨t2, rfl⟩ := ry; exact ⟨(SeqAt.RcAt.str_str p1 t1 p2 t2), (SeqAt.EqAt.str_str p1 t1 p2 t2), (SeqAt.RcNeAt.str_str p1 t1 p2 t2)⟩
    | tup p2 => cases h; cases hx; obtain ⟨t1, rfl⟩ := rx; obtain ⟨l2, xs2, rfl, q2, f2⟩ := hy; cases ry; obtain ⟨its2, v2, z2, _⟩ := rd_tup I q2; exact ⟨(SeqAt.RcAt.str_tuple p1 t1 z2 hu), (SeqAt.EqAt.str_tuple p1 t1 z2 hu), (SeqAt.RcNeAt.str_tuple p1 t1 z2 hu)⟩
    | lst p2 => cases h; cases hx; obtain ⟨t1, rfl⟩ := rx; obtain ⟨l2, xs2, rfl, q2, f2⟩ := hy; cases ry; obtain ⟨its2, v2, z2, _⟩ := rd_list I q2; exact ⟨(SeqAt.RcAt.str_list p1 t1 z2 hu), (SeqAt.EqAt.str_list p1 t1 z2 hu), (SeqAt.RcNeAt.str_list p1 t1 z2 hu)⟩
    | _ => cases h
  | tup p1 =>
    cases v with
    | non => cases h; obtain ⟨l1, xs1, rfl, q1, f1⟩ := hx; cases rx; obtain ⟨its1, v1, z1, _⟩ := rd_tup I q1; cases hy; cases ry; exact ⟨(SeqAt.RcAt.tuple_none  z1 hu), (SeqAt.EqAt.tuple_none  z1 hu), (SeqAt.RcNeAt.tuple_none  z1 hu)⟩
    | bl p2 => cases h; obtain ⟨l1, xs1, rfl, q1, f1⟩ := hx; cases rx; obtain ⟨its1, v1, z1, _⟩ := rd_tup I q1; cases hy; cases ry; exact ⟨(SeqAt.RcAt.tuple_bool p2 z1 hu), (SeqAt.EqAt.tuple_bool p2 z1 hu), (SeqAt.RcNeAt.tuple_bool p2 z1 hu)⟩
    | int p2 => cases h; obtain ⟨l1, xs1, rfl, q1, f1⟩ := hx; cases rx; obtain ⟨its1, v1, z1, _⟩ := rd_tup I q1; cases hy; obtain ⟨t2, rfl⟩ := ry; exact ⟨(SeqAt.RcAt.tuple_int p2 t2 z1 hu), (SeqAt.EqAt.tuple_int p2 t2 z1 hu), (SeqAt.RcNeAt.tuple_int p2 t2 z1 hu)⟩
    | str p2 => cases h; obtain ⟨l1, xs1, rfl, q1, f1⟩ := hx; cases rx; obtain ⟨its1, v1, z1, _⟩ := rd_tup I q1; cases hy; obtain ⟨t2, rfl⟩ := ry; exact ⟨(SeqAt.RcAt.tuple_str p2 t2 z1 hu), (SeqAt.EqAt.tuple_str p2 t2 z1 hu), (SeqAt.RcNeAt.tuple_str p2 t2 z1 hu)⟩
    | tup p2 => exact (n1 _ _ rfl rfl).elim
    | lst p2 => cases h; obtain ⟨l1, xs1, rfl, q1, f1⟩ := hx; cases rx; obtain ⟨its1, v1, z1, _⟩ := rd_tup I q1; obtain ⟨l2, xs2, rfl, q2, f2⟩ := hy; cases ry; obtain ⟨its2, v2, z2, _⟩ := rd_list I q2; exact ⟨(SeqAt.RcAt.tuple_list z1 z2 hu), (SeqAt.EqAt.tuple_list z1 z2 hu), (SeqAt.RcNeAt.tuple_list z1 z2 hu)⟩
    | _ => cases h
  | lst p1 =>
    cases v with
    | non => cases h; obtain ⟨l1, xs1, rfl, q1, f1⟩ := hx; cases rx; obtain ⟨its1, v1, z1, _⟩ := rd_list I q1; cases hy; cases ry; exact ⟨(SeqAt.RcAt.list_none  z1 hu), (SeqAt.EqAt.list_none  z1 hu), (SeqAt.RcNeAt.list_none  z1 hu)⟩
    | bl p2 => cases h; obtain ⟨l1, xs1, rfl, q1, f1⟩ := hx; cases rx; obtain ⟨its1, v1, z1, _⟩ := rd_list I q1; cases hy; cases ry; exact ⟨(SeqAt.RcAt.list_bool p2 z1 hu), (SeqAt.EqAt.list_bool p2 z1 hu), (SeqAt.RcNeAt.list_bool p2 z1 hu)⟩
    | int p2 => cases h; obtain ⟨l1, xs1, rfl, q1, f1⟩ := hx; cases rx; obtain ⟨its1, v1, z1, _⟩ := rd_list I q1; cases hy; obtain ⟨t2, rfl⟩ := ry; exact ⟨(SeqAt.RcAt.list_int p2 t2 z1 hu), (SeqAt.EqAt.list_int p2 t2 z1 hu), (SeqAt.RcNeAt.list_int p2 t2 z1 hu)⟩
    | str p2 => cases h; obtain ⟨l1, xs1, rfl, q1, f1⟩ := hx; cases rx; obtain ⟨its1, v1, z1, _⟩ := rd_list I q1; cases hy; obtain ⟨t2, rfl⟩ := ry; exact ⟨(SeqAt.RcAt.list_str p2 t2 z1 hu), (SeqAt.EqAt.list_str p2 t2 z1 hu), (SeqAt.RcNeAt.list_str p2 t2 z1 hu)⟩
    | tup p2 => cases h; obtain ⟨l1, xs1, rfl, q1, f1⟩ := hx; cases rx; obtain ⟨its1, v1, z1, _⟩ := rd_list I q1; obtain ⟨l2, xs2, rfl, q2, f2⟩ := hy; cases ry; obtain ⟨its2, v2, z2, _⟩ := rd_tup I q2; exact ⟨(SeqAt.RcAt.list_tuple z1 z2 hu), (SeqAt.EqAt.list_tuple z1 z2 hu), (SeqAt.RcNeAt.list_tuple z1 z2 hu)⟩
    | lst p2 => exact (n2 _ _ rfl rfl).elim
    | _ => cases h
  | _ => cases h
theorem items_eq {A : Around} {n : Nat} {us vs : List U} {xs ys : List V} {its its2 : List Value} {k : Bool} (ih : ∀ {u v : U} {x y : V} {a b : Value} {k : Bool}, FzH X H ρ u x → FzH X H ρ v y → RelV x a → RelV y b → eqN n u v = some k → Tri A.in1 s a b k)
    (f1 : FzL X.prog X.w X.K ⟨H, ρ⟩ us xs) (f2 : FzL X.prog X.w X.K ⟨H, ρ⟩ vs ys) (r1 : Vals xs its) (r2 : Vals ys its2) (h : eqL (eqN n) us vs = some k) :
    ∃ e : Nat → Bool, (∀ j (h1 : j < its.toArray.size) (h2 : j < its2.toArray.size), SeqAt.EqAt A.in1 s its.toArray[j] its2.toArray[j] (e j)) ∧ k = ((List.range (min its.toArray.size its2.toArray.size)).all e && its.toArray.size == its2.toArray.size) := by
  obtain ⟨e, he, rfl⟩ := eqL_get h
  have l1 : us.length = its.toArray.size := by rw [f1.length, r1.length]; simp
  have l2 : vs.length = its2.toArray.size := by rw [f2.length, r2.length]; simp
  refine ⟨e, fun j h1 h2 => ?_, by rw [l1, l2]⟩
  have k1 : j < us.length := by omega
  have k2 : j < vs.length := by omega
  obtain ⟨x, ex, fx⟩ := f1.get (List.getElem?_eq_getElem k1)
  obtain ⟨y, ey, fy⟩ := f2.get (List.getElem?_eq_getElem k2)
  obtain ⟨a, ea, ra⟩ := r1.get ex
  obtain ⟨b, eb, rb⟩ := r2.get ey
  have j1 : j < its.length := by simpa using h1
  have j2 : j < its2.length := by simpa using h2
  have z1 : its.toArray[j] = a := by simpa [j1] using ea
  have z2 : its2.toArray[j] = b := by simpa [j2] using eb
  rw [z1, z2]
  exact (ih fx fy ra rb (he j _ _ (List.getElem?_eq_getElem k1) (List.getElem?_eq_getElem k2))).eq
theorem tri_N (I : Inv X pins σ H s) : ∀ (n : Nat) {A : Around} {u v : U} {x y : V} {a b : Value} {k : Bool}, A.units + n < cLine → FzH X H ρ u x → FzH X H ρ v y → RelV x a → RelV y b → eqN n u v = some k → Tri A s a b k := by
  intro n
  induction n with
  | zero =>
    intro A u v x y a b k hu hx hy rx ry h
    refine flat_tri I (f := fun _ _ => none) (by omega) (fun us vs e1 e2 => ?_) (fun us vs e1 e2 => ?_) hx hy rx ry h
    · subst e1; subst e2; cases h
    · subst e1; subst e2; cases h
  | succ n ih =>
    intro A u v x y a b k hu hx hy rx ry h
    have hu1 : A.in1.units + n < cLine := by show A.units + 1 + n < cLine; omega
    by_cases ht : ∃ us vs, u = .tup us ∧ v = .tup vs
    · obtain ⟨us, vs, rfl, rfl⟩ := ht
      obtain ⟨l1, xs, rfl, q1, f1⟩ := id hx
      obtain ⟨l2, ys, rfl, q2, f2⟩ := id hy
      cases rx; cases ry
      obtain ⟨its, v1, z1, _⟩ := rd_tup I q1
      obtain ⟨its2, v2, z2, _⟩ := rd_tup I q2
      obtain ⟨e, he, hk⟩ := items_eq (A := A) (n := n) (fun a b c d e => ih hu1 a b c d e) f1 f2 v1 v2 h
      have rc : SeqAt.RcAt A s (.ref l1) (.ref l2) k := by rw [hk]; exact SeqAt.RcAt.tuples z1 z2 (by omega) he
      refine ⟨rc, ?_, by rw [hk]; exact SeqAt.RcNeAt.tuples z1 z2 (by omega) he⟩
      by_cases hl : l1 = l2
      · subst hl
        rw [eqN_self I _ hx hy h]
        exact SeqAt.EqAt.same _
      · exact SeqAt.EqAt.of_refs hl rc
    · by_cases ht2 : ∃ us vs, u = .lst us ∧ v = .lst vs
      · obtain ⟨us, vs, rfl, rfl⟩ := ht2
        obtain ⟨l1, xs, rfl, q1, f1⟩ := id hx
        obtain ⟨l2, ys, rfl, q2, f2⟩ := id hy
        cases rx; cases ry
        obtain ⟨its, v1, z1, _⟩ := rd_list I q1
        obtain ⟨its2, v2, z2, _⟩ := rd_list I q2
        obtain ⟨e, he, hk⟩ := items_eq (A := A) (n := n) (fun a b c d e => ih hu1 a b c d e) f1 f2 v1 v2 h
        have both : SeqAt.RcAt A s (.ref l1) (.ref l2) k ∧ SeqAt.RcNeAt A s (.ref l1) (.ref l2) (!k) := by
          by_cases hs : its.toArray.size = its2.toArray.size
          · have hk' : k = (List.range its.toArray.size).all e := by rw [hk, hs]; simp
            rw [hk']
            exact ⟨SeqAt.RcAt.lists z1 z2 hs (by omega) he, SeqAt.RcNeAt.lists z1 z2 hs (by omega) he⟩
          · have hk' : k = false := by rw [hk, beq_eq_false_iff_ne.mpr hs, Bool.and_false]
            have hb : (its.toArray.size != its2.toArray.size) = true := by simpa using hs
            rw [hk']
            exact ⟨SeqAt.RcAt.lists_lengths z1 z2 hb (by omega), SeqAt.RcNeAt.lists_lengths z1 z2 hb (by omega)⟩
        refine ⟨both.1, ?_, both.2⟩
        by_cases hl : l1 = l2
        · subst hl
          rw [eqN_self I _ hx hy h]
          exact SeqAt.EqAt.same _
        · exact SeqAt.EqAt.of_refs hl both.1
      · refine flat_tri I (f := eqL (eqN n)) (by omega) (fun us vs e1 e2 => ht ⟨us, vs, e1, e2⟩) (fun us vs e1 e2 => ht2 ⟨us, vs, e1, e2⟩) hx hy rx ry h
end
def deep (g : Gm) (u : U) : U := match look g u with
  | .tup us => .tup (us.map (look g))
  | u => u
def eqU (g : Gm) (x y : U) : Option Bool := eqN 16 (deep g x) (deep g y)
section
variable {X : Cx} {C : MC}
theorem fz_map {P : Program} {w : World} {K : PySem.W.Frag} {S : Ab} {env : Env} {g : Gm} {σ : L2.St} {H : Hp} (R : Rel P w K C S env g σ H) : ∀ {us : List U} {xs : List V}, FzL P w K S us xs → FzL P w K (S.now H) (us.map (look g)) xs
  | [], _, h => h
  | _ :: _, _, h => let ⟨x, r, e, f, t⟩ := h; ⟨x, r, e, Bw.look R (.inl f), fz_map R t⟩
theorem Bw.deep {S : Ab} {env : Env} {g : Gm} {σ : L2.St} {H : Hp} {u : U} {v : V} (R : RelX X C S env g σ H) (h : Bw X.prog X.w X.K S env σ u v) : Fz X.prog X.w X.K (S.now H) (deep g u) v := by
  have h1 := h.look R
  unfold MM.deep
  split
  · next us e =>
    cases u with
    | tup us2 =>
      have : us2 = us := by cases e; rfl
      subst this
      rcases h with h | ⟨j, a, e1, e2, rfl⟩
      · obtain ⟨a, xs, e3, q, f⟩ := h
        exact ⟨a, xs, e3, sqt_le R.G.zs q, fz_map R f⟩
      · obtain ⟨b, _, ow, _⟩ := R.L.eo j _ e1
        exact ow.elim
    | ref i => unfold MM.look at e; dsimp only at e; split at e <;> cases e
    | _ => cases e
  · exact h1
theorem op_eqD (hu : X.A.units + 16 < cLine) : OpR X (compareOp .Eq) (fun x y H Q => ∃ ρ u v b, FzH X H ρ u x ∧ FzH X H ρ v y ∧ eqN 16 u v = some b ∧ Q (.bl b) H) := by
  intro pins s σ H x y v u Q I rx ry h
  obtain ⟨ρ, a, b, k, f1, f2, e, q⟩ := h
  exact (tri_N I 16 hu f1 f2 rx ry e).rc _ _ _ _ ⟨.bl k, H, I, rfl, q⟩
theorem op_neD (hu : X.A.units + 16 < cLine) : OpR X (compareOp .NotEq) (fun x y H Q => ∃ ρ u v b, FzH X H ρ u x ∧ FzH X H ρ v y ∧ eqN 16 u v = some b ∧ Q (.bl (!b)) H) := by
  intro pins s σ H x y v u Q I rx ry h
  obtain ⟨ρ, a, b, k, f1, f2, e, q⟩ := h
  exact (tri_N I 16 hu f1 f2 rx ry e).ne _ _ _ _ ⟨.bl (!k), H, I, rfl, q⟩
def eqF (x y : U) (g : Gm) : Res U := match eqU g x y with
  | some b => .ok (.bl b) g
  | none => .stuck
def neF (x y : U) (g : Gm) : Res U := match eqU g x y with
  | some b => .ok (.bl (!b)) g
  | none => .stuck
theorem sim_eq : Sim2 X C (fun x y H Q => ∃ ρ u v b, FzH X H ρ u x ∧ FzH X H ρ v y ∧ eqN 16 u v = some b ∧ Q (.bl b) H) eqF := fun S env g σ H x y u v Q R hx hy p => by
  unfold eqF at p
  split at p
  · next b e => exact ⟨S.ρ, _, _, b, hx.deep R, hy.deep R, e, p S _ H (.refl _ _) R rfl⟩
  · exact p.elim
theorem sim_ne : Sim2 X C (fun x y H Q => ∃ ρ u v b, FzH X H ρ u x ∧ FzH X H ρ v y ∧ eqN 16 u v = some b ∧ Q (.bl (!b)) H) neF := fun S env g σ H x y u v Q R hx hy p => by
  unfold neF at p
  split at p
  · next b e => exact ⟨S.ρ, _, _, b, hx.deep R, hy.deep R, e, p S _ H (.refl _ _) R rfl⟩
  · exact p.elim
variable {a b : Expr} {ma mb : Me} {pos : Pos}
theorem me_eq (hu : X.A.units + 16 < cLine) (ha : MB X C a ma) (hb : MB X C b mb) : ME X C (.Compare a [.Eq] [b] pos) (opE eqF ma mb) := me_cmp (op_eqD hu) sim_eq ha hb (nomark _)
theorem me_ne (hu : X.A.units + 16 < cLine) (ha : MB X C a ma) (hb : MB X C b mb) : ME X C (.Compare a [.NotEq] [b] pos) (opE neF ma mb) := me_cmp (op_neD hu) sim_ne ha hb (nomark _)
theorem mt_eq (hu : X.A.units + 16 < cLine) (ha : MB X C a ma) (hb : MB X C b mb) : MT X C (.Compare a [.Eq] [b] pos) (blE (opE eqF ma mb)) := mt_cmp (op_eqD hu) sim_eq ha hb (nomark _)
theorem mt_ne (hu : X.A.units + 16 < cLine) (ha : MB X C a ma) (hb : MB X C b mb) : MT X C (.Compare a [.NotEq] [b] pos) (blE (opE neF ma mb)) := mt_cmp (op_neD hu) sim_ne ha hb (nomark _)
end
end MM
namespace MM
open PySem PySem.Spec PyProof.Rows L2 BB
theorem hu16 {A : Around} {k : Nat} (hr : Room k A) : A.units + 16 < cLine := by have := hr.un; omega
theorem hu1 {A : Around} {k : Nat} (hr : Room k A) : A.units + 1 < cLine := by have := hr.un; omega
section
variable {X : Cx} {C : MC} {S S' : Ab} {env : Env} {g g' : Gm} {σ : L2.St} {H : Hp} {Q : VK}
abbrev OkO (X : Cx) (C : MC) (S : Ab) (env : Env) (σ : L2.St) (H : Hp) (Q : VK) (r : Res U) : Prop := Post r (fun u g' => ∀ S' a H', Ext S S' H H' → RelX X C S' env g' σ H' → OwnAt X.prog X.w X.K S' H' a u → Free C S' a → NoSlot env σ a → H a = none → Q (.ref a) H') (XPost X.prog X.w X.K C)
def Sim2O (X : Cx) (C : MC) (r : R2) (f : U → U → Gm → Res U) : Prop := ∀ S env g σ H x y u v Q, RelX X C S env g σ H → Bw X.prog X.w X.K S env σ x u → Bw X.prog X.w X.K S env σ y v → OkO X C S env σ H Q (f x y g) → r u v H Q
theorem op_impO {ma mb : Me} {r : R2} {f : U → U → Gm → Res U} (sim : Sim2O X C r f) : ∀ σ H Q, liftO X C (opE f ma mb) σ H Q → tOp r (liftB X C ma) (liftB X C mb) σ H Q := fun σ H Q ⟨S, env, g, R, p⟩ => by
  refine ⟨S, env, g, R, (post_bind.mp p).mono (fun x g1 p S1 v1 H1 X1 R1 F1 => ⟨S1, env, g1, R1, (post_bind.mp p).mono (fun y g2 p S2 v2 H2 X2 R2 F2 => ?_) fun _ _ z => z⟩) fun _ _ z => z⟩
  exact sim S2 env g2 σ H2 x y v1 v2 Q R2 (F1.le X2.le) F2 (p.mono (fun u g3 q S3 a H3 X3 R3 ow fr n h => q S3 a H3 ((X1.trans X2).trans X3) R3 ow fr n (none_back (X1.trans X2) h)) fun _ _ z => z)
theorem newO {us : List U} {xs : List V} {p : Addr} (q : ∀ S' a H', Ext S S' H H' → RelX X C S' env g σ H' → OwnAt X.prog X.w X.K S' H' a (.lst us) → Free C S' a → NoSlot env σ a → H a = none → Q (.ref a) H') (R : RelX X C S env g σ H) (f : FzL X.prog X.w X.K S us xs) (hp : H p = none) : Q (.ref p) (upd H p (.lst xs)) :=
  q S p _ (.grow (upd_keeps hp)) (R.grow (upd_keeps hp)) ⟨xs, upd_same, f⟩ (R.G.free hp) (R.L.noslot hp) hp
theorem newT {us : List U} {xs : List V} {p : Addr} (q : ∀ S' v H', Ext S S' H H' → RelX X C S' env g σ H' → FzX X S' (.tup us) v → Q v H') (R : RelX X C S env g σ H) (f : FzL X.prog X.w X.K S us xs) (hp : H p = none) : Q (.ref p) (upd H p (.tup xs)) :=
  q _ _ _ (.new (R.G.zp hp) hp) (R.new hp) (new_tup R hp f)
theorem Bw.list {u : U} {v : V} {us : List U} (R : RelX X C S env g σ H) (h : Bw X.prog X.w X.K S env σ u v) (e : MM.look g u = .lst us) : ∃ a xs, v = .ref a ∧ Rd H a (.lst xs) ∧ FzL X.prog X.w X.K S us xs := by
  cases u with
  | lst us2 =>
    have : us2 = us := by cases e; rfl
    subst this
    rcases h with h | ⟨j, a, e1, e2, rfl⟩
    · obtain ⟨a, xs, e3, q, f⟩ := h; exact ⟨a, xs, e3, rd_le R.G.zs q, f⟩
    · obtain ⟨b, e3, ow, _⟩ := R.L.eo j _ e1
      rw [e2] at e3; cases e3
      obtain ⟨xs, q, f⟩ := ow
      exact ⟨a, xs, rfl, .inl q, f⟩
  | ref i =>
    unfold MM.look at e
    dsimp only at e
    split at e <;> first | (cases e; done) | skip
    next us2 e1 =>
      cases e
      obtain ⟨a, ea, c⟩ := R.G.cs i _ e1
      rcases h with h | ⟨j, b, e2, e3, rfl⟩
      · obtain ⟨b, eb, rfl⟩ := h
        rw [ea] at eb; cases eb
        rcases c with c | ⟨_, _, _, _, z, _⟩
        · obtain ⟨xs, q, f⟩ := c; exact ⟨a, xs, rfl, .inl q, f⟩
        · cases z
      · obtain ⟨_, _, ow, _⟩ := R.L.eo j _ e2
        exact ow.elim
  | _ => cases e
theorem Bw.tuple {u : U} {v : V} {us : List U} (R : RelX X C S env g σ H) (h : Bw X.prog X.w X.K S env σ u v) (e : MM.look g u = .tup us) : ∃ a xs, v = .ref a ∧ SqT X.K H a xs ∧ FzL X.prog X.w X.K S us xs := by
  cases u with
  | tup us2 =>
    have : us2 = us := by cases e; rfl
    subst this
    rcases h with h | ⟨j, a, e1, e2, rfl⟩
    · obtain ⟨a, xs, e3, q, f⟩ := h; exact ⟨a, xs, e3, sqt_le R.G.zs q, f⟩
    · obtain ⟨b, e3, ow, _⟩ := R.L.eo j _ e1
      exact ow.elim
  | ref i => unfold MM.look at e; dsimp only at e; split at e <;> cases e
  | _ => cases e
theorem Bw.scr {u : U} {v : V} {us : List U} (R : RelX X C S env g σ H) (h : Bw X.prog X.w X.K S env σ u v) (e : MM.look g u = .scr us) : ∃ a xs, v = .ref a ∧ SqL X.K H a xs ∧ FzL X.prog X.w X.K S us xs := by
  cases u with
  | scr us2 =>
    have : us2 = us := by cases e; rfl
    subst this
    rcases h with h | ⟨j, a, e1, e2, rfl⟩
    · obtain ⟨a, xs, e3, q, f⟩ := h; exact ⟨a, xs, e3, sql_le R.G.zs q, f⟩
    · obtain ⟨_, _, ow, _⟩ := R.L.eo j _ e1
      exact ow.elim
  | ref i =>
    unfold MM.look at e
    dsimp only at e
    split at e <;> cases e
  | _ => cases e
theorem Bw.int {u : U} {v : V} {i : Int} (R : RelX X C S env g σ H) (h : Bw X.prog X.w X.K S env σ u v) (e : MM.look g u = .int i) : v = .int i := by have := h.look R; rw [e] at this; exact this
theorem Bw.str {u : U} {v : V} {i : Str} (R : RelX X C S env g σ H) (h : Bw X.prog X.w X.K S env σ u v) (e : MM.look g u = .str i) : v = .str i := by have := h.look R; rw [e] at this; exact this
theorem Bw.bl {u : U} {v : V} {i : Bool} (R : RelX X C S env g σ H) (h : Bw X.prog X.w X.K S env σ u v) (e : MM.look g u = .bl i) : v = .bl i := by have := h.look R; rw [e] at this; exact this
theorem Bw.non {u : U} {v : V} (R : RelX X C S env g σ H) (h : Bw X.prog X.w X.K S env σ u v) (e : MM.look g u = .non) : v = .non := by have := h.look R; rw [e] at this; exact this
end
section
variable {X : Cx} {C : MC} {a b : Expr} {ma mb : Me} {pos : Pos}
theorem op_catR : OpR X (binaryOp .Add) (fun x y H Q => ∃ l b xs zs, x = .ref l ∧ y = .ref b ∧ Rd H l (.lst xs) ∧ Rd H b (.lst zs) ∧ xs.length + zs.length ≤ sizeLine ∧ ∀ p, H p = none → Q (.ref p) (upd H p (.lst (xs ++ zs)))) := by
  intro pins s σ H x y v u Q I rx ry h
  obtain ⟨l, b, xs, zs, rfl, rfl, hH, hB, hz, q⟩ := h
  cases rx
  cases ry
  obtain ⟨_, its, n, r, e⟩ := hH.ok I.hok
  obtain ⟨_, its2, n2, r2, e2⟩ := hB.ok I.hok
  have l1 := r.length
  have l2 := r2.length
  refine PySem.P.add_list e e2 ?_ (by rw [List.size_toArray, List.size_toArray]; omega)
  have ea : its.toArray ++ its2.toArray = (its ++ its2).toArray := by simp
  rw [ea]
  exact ⟨.ref _, _, I.lnew (t' := s.toks) (r.append r2) (by rw [List.length_append]; omega), rfl, q _ I.fresh⟩
abbrev rAddX (X : Cx) : R2 := fun x y H Q => rI0 (fun i j => V.int (i + j)) x y H Q ∨ (∃ i j, x = V.str i ∧ y = .str j ∧ i.length + j.length ≤ sizeLine ∧ Q (.str (i ++ j)) H) ∨ rCatT X.K x y H Q
theorem op_addX : OpR X (binaryOp .Add) (rAddX X) := op_add.or (op_add_str.or op_catT)
def addF (x y : U) (g : Gm) : Res U := match look g x, look g y with
  | .int i, .int j => .ok (.int (i + j)) g
  | .str i, .str j => if i.length + j.length ≤ sizeLine then .ok (.str (i ++ j)) g else .stuck
  | .tup us, .tup vs => if us ≠ [] ∧ us.length + vs.length ≤ sizeLine then .ok (.tup (us ++ vs)) g else .stuck
  | _, _ => .stuck
theorem nil_iff {P : Program} {w : World} {K : PySem.W.Frag} {S : Ab} {us : List U} {xs : List V} (h : FzL P w K S us xs) : us = [] ↔ xs = [] := by
  cases us with
  | nil => cases h; exact ⟨fun _ => rfl, fun _ => rfl⟩
  | cons u us => obtain ⟨x, r, rfl, _⟩ := h; exact ⟨fun z => (nomatch z), fun z => (nomatch z)⟩
theorem sim_add : Sim2 X C (rAddX X) addF := fun S env g σ H x y u v Q R hx hy p => by
  unfold addF at p
  split at p
  · next i j e1 e2 => rw [hx.int R e1, hy.int R e2]; exact .inl ⟨i, j, rfl, rfl, p S _ H (.refl _ _) R rfl⟩
  · next i j e1 e2 =>
    split at p
    · next h => rw [hx.str R e1, hy.str R e2]; exact .inr (.inl ⟨i, j, rfl, rfl, h, p S _ H (.refl _ _) R rfl⟩)
    · exact p.elim
  · next us vs e1 e2 =>
    split at p
    · next h =>
      obtain ⟨l, xs, rfl, q1, f1⟩ := hx.tuple R e1
      obtain ⟨b, ys, rfl, q2, f2⟩ := hy.tuple R e2
      refine .inr (.inr ⟨l, b, xs, ys, rfl, rfl, q1, q2, fun z => h.1 ((nil_iff f1).mpr z), by rw [← f1.length, ← f2.length]; exact h.2, fun z => ?_, fun z r hr => newT p R (f1.append f2) hr⟩)
      have hv : vs = [] := (nil_iff f2).mpr z
      subst hv
      rw [List.append_nil] at p
      rcases hx with hx | ⟨j, a, e3, e4, e5⟩
      · have : x = .tup us := by
          cases x <;> first | exact e1 | (unfold look at e1; dsimp only at e1; split at e1 <;> cases e1) | (cases e1)
        subst this
        exact p S _ H (.refl _ _) R hx
      · obtain ⟨_, _, ow, _⟩ := R.L.eo j _ e3
        cases x <;> first | exact ow.elim | (cases e1)
    · exact p.elim
  · exact p.elim
theorem me_add (ha : MB X C a ma) (hb : MB X C b mb) : ME X C (.BinOp a .Add b pos) (opE addF ma mb) := me_op op_addX sim_add ha hb
def catF (x y : U) (g : Gm) : Res U := match look g x, look g y with
  | .lst us, .lst vs => if us.length + vs.length ≤ sizeLine then .ok (.lst (us ++ vs)) g else .stuck
  | _, _ => .stuck
theorem mo_cat (ha : MB X C a ma) (hb : MB X C b mb) : MO X C (.BinOp a .Add b pos) (opE catF ma mb) := ⟨PE.imp (pe_op op_catR ha.h hb.h) (op_impO fun S env g σ H x y u v Q R hx hy p => by
  unfold catF at p
  split at p
  · next us vs e1 e2 =>
    split at p
    · next h =>
      obtain ⟨l, xs, rfl, q1, f1⟩ := hx.list R e1
      obtain ⟨b, ys, rfl, q2, f2⟩ := hy.list R e2
      exact ⟨l, b, xs, ys, rfl, rfl, q1, q2, by rw [← f1.length, ← f2.length]; exact h, fun r hr => newO p R (f1.append f2) hr⟩
    · exact p.elim
  · exact p.elim)⟩
def intF (c : Int → Int → Prop) [∀ i j, Decidable (c i j)] (f : Int → Int → U) (x y : U) (g : Gm) : Res U := match look g x, look g y with
  | .int i, .int j => if c i j then .ok (f i j) g else .stuck
  | _, _ => .stuck
theorem sim_int {c : Int → Int → Prop} [∀ i j, Decidable (c i j)] {f : Int → Int → U} {h : Int → Int → V} (hf : ∀ S i j, FzX X S (f i j) (h i j)) : Sim2 X C (rI c h) (intF c f) := fun S env g σ H x y u v Q R hx hy p => by
  unfold intF at p
  split at p
  · next i j e1 e2 =>
    split at p
    · next hc => rw [hx.int R e1, hy.int R e2]; exact ⟨i, j, rfl, rfl, hc, p S _ H (.refl _ _) R (hf _ _ _)⟩
    · exact p.elim
  · exact p.elim
theorem sim_int0 {f : Int → Int → U} {h : Int → Int → V} (hf : ∀ S i j, FzX X S (f i j) (h i j)) : Sim2 X C (rI0 h) (intF (fun _ _ => True) f) := fun S env g σ H x y u v Q R hx hy p => by
  unfold intF at p
  split at p
  · next i j e1 e2 =>
    rw [if_pos trivial] at p
    rw [hx.int R e1, hy.int R e2]; exact ⟨i, j, rfl, rfl, p S _ H (.refl _ _) R (hf _ _ _)⟩
  · exact p.elim
instance (i j : Int) : Decidable (CMul i j) := by unfold CMul; infer_instance
instance (i j : Int) : Decidable (CDiv i j) := by unfold CDiv; infer_instance
instance (i j : Int) : Decidable (CPow i j) := by unfold CPow; infer_instance
abbrev mulF := intF CMul fun i j => .int (i * j)
abbrev divF := intF CDiv fun i j => .int (i / j)
abbrev modF := intF (fun _ j => 0 < j) fun i j => .int (i % j)
abbrev powF := intF CPow fun i j => .int (i ^ j.toNat)
abbrev ltF := intF (fun _ _ => True) fun i j => .bl (decide (i < j))
abbrev leF := intF (fun _ _ => True) fun i j => .bl (decide (i ≤ j))
abbrev gtF := intF (fun _ _ => True) fun i j => .bl (decide (j < i))
abbrev geF := intF (fun _ _ => True) fun i j => .bl (decide (j ≤ i))
theorem me_mul (ha : MB X C a ma) (hb : MB X C b mb) : ME X C (.BinOp a .Mult b pos) (opE mulF ma mb) := me_op op_mul (sim_int fun _ _ _ => rfl) ha hb
theorem me_div (ha : MB X C a ma) (hb : MB X C b mb) : ME X C (.BinOp a .FloorDiv b pos) (opE divF ma mb) := me_op op_fdiv (sim_int fun _ _ _ => rfl) ha hb
theorem me_mod (ha : MB X C a ma) (hb : MB X C b mb) : ME X C (.BinOp a .Mod b pos) (opE modF ma mb) := me_op op_mod (sim_int fun _ _ _ => rfl) ha hb
theorem me_pow (ha : MB X C a ma) (hb : MB X C b mb) : ME X C (.BinOp a .Pow b pos) (opE powF ma mb) := me_op op_pow (sim_int fun _ _ _ => rfl) ha hb
theorem me_le (ha : MB X C a ma) (hb : MB X C b mb) : ME X C (.Compare a [.LtE] [b] pos) (opE leF ma mb) := me_cmp op_le (sim_int0 fun _ _ _ => rfl) ha hb (nomark _)
theorem me_gt (ha : MB X C a ma) (hb : MB X C b mb) : ME X C (.Compare a [.Gt] [b] pos) (opE gtF ma mb) := me_cmp op_gt (sim_int0 fun _ _ _ => rfl) ha hb (nomark _)
theorem me_ge (ha : MB X C a ma) (hb : MB X C b mb) : ME X C (.Compare a [.GtE] [b] pos) (opE geF ma mb) := me_cmp op_ge (sim_int0 fun _ _ _ => rfl) ha hb (nomark _)
theorem mt_lt (ha : MB X C a ma) (hb : MB X C b mb) : MT X C (.Compare a [.Lt] [b] pos) (blE (opE ltF ma mb)) := mt_cmp op_lt (sim_int0 fun _ _ _ => rfl) ha hb (nomark _)
theorem mt_gt (ha : MB X C a ma) (hb : MB X C b mb) : MT X C (.Compare a [.Gt] [b] pos) (blE (opE gtF ma mb)) := mt_cmp op_gt (sim_int0 fun _ _ _ => rfl) ha hb (nomark _)
def negE (m : Me) : Me := fun env g => (m env g).bind fun u g1 => match u with
  | .int i => .ok (.int (-i)) g1
  | _ => .stuck
theorem me_neg (ha : ME X C a ma) : ME X C (.UnaryOp .USub a pos) (negE ma) := ⟨PE.imp (pe_un un_neg ha.h) fun σ H Q ⟨S, env, g, R, p⟩ => ⟨S, env, g, R, (post_bind.mp p).mono (fun x g1 p S1 v1 H1 X1 R1 F1 => by
  split at p
  · cases F1; exact ⟨_, rfl, p S1 _ H1 X1 R1 rfl⟩
  · exact p.elim) fun _ _ z => z⟩⟩
end
end MM
namespace MM
open PySem PySem.Spec PyProof.Rows L2 BB PP
def BwL (P : Program) (w : World) (K : PySem.W.Frag) (S : Ab) (env : Env) (σ : L2.St) : List U → List V → Prop
  | [], xs => xs = []
  | u :: us, xs => ∃ x r, xs = x :: r ∧ Bw P w K S env σ u x ∧ BwL P w K S env σ us r
def liftAB (X : Cx) (C : MC) (m : Ma) : TA := fun σ H Q => ∃ S env g, RelX X C S env g σ H ∧ Post (m env g) (fun us g' => ∀ S' vs H', Ext S S' H H' → RelX X C S' env g' σ H' → BwL X.prog X.w X.K S' env σ us vs → Q vs H') (XPost X.prog X.w X.K C)
structure MAB (X : Cx) (C : MC) (es : List Expr) (m : Ma) : Prop where
  h : PA X es (liftAB X C m)
  ns : es.all noStar = true
section
variable {X : Cx} {C : MC} {e a b : Expr} {es : List Expr} {m ma mb : Me} {pos : Pos}
theorem mab_nil : MAB X C [] nilA := ⟨PA.imp pa_nil fun σ H Q ⟨S, env, g, R, p⟩ => p S [] H (.refl S H) R rfl, rfl⟩
theorem mab_cons {mr : Ma} (ha : MB X C e m) (hr : MAB X C es mr) (hs : noStar e = true := by rfl) : MAB X C (e :: es) (consA m mr) := ⟨PA.imp (pa_c ha.h hr.h hs) fun σ H Q ⟨S, env, g, R, p⟩ => ⟨S, env, g, R, (post_bind.mp p).mono (fun x g1 p S1 v1 H1 X1 R1 F1 => ⟨S1, env, g1, R1, (post_bind.mp p).mono (fun xs g2 p S2 v2 H2 X2 R2 F2 => p S2 _ H2 (X1.trans X2) R2 ⟨_, _, rfl, F1.le X2.le, F2⟩) fun _ _ z => z⟩) fun _ _ z => z⟩, by rw [List.all_cons, hs, hr.ns]; rfl⟩
def SimC (X : Cx) (C : MC) (r : List V → Hp → VK → Prop) (f : List U → Gm → Res U) : Prop := ∀ S env g σ H us vs Q, RelX X C S env g σ H → BwL X.prog X.w X.K S env σ us vs → OkE X C S env σ H Q (f us g) → r vs H Q
def SimCO (X : Cx) (C : MC) (r : List V → Hp → VK → Prop) (f : List U → Gm → Res U) : Prop := ∀ S env g σ H us vs Q, RelX X C S env g σ H → BwL X.prog X.w X.K S env σ us vs → OkO X C S env σ H Q (f us g) → r vs H Q
theorem cb_imp {r : List V → Hp → VK → Prop} {f : List U → Gm → Res U} {m : Ma} (sim : SimC X C r f) : ∀ σ H Q, liftE X C (callE f m) σ H Q → tCB r (liftAB X C m) σ H Q := fun σ H Q ⟨S, env, g, R, p⟩ => ⟨S, env, g, R, (post_bind.mp p).mono (fun us g1 p S1 vs H1 X1 R1 F1 => sim S1 env g1 σ H1 us vs Q R1 F1 (Post.mono p (fun _ _ q S2 v2 H2 X2 R2 F2 => q S2 v2 H2 (X1.trans X2) R2 F2) fun _ _ z => z)) fun _ _ z => z⟩
theorem cb_impO {r : List V → Hp → VK → Prop} {f : List U → Gm → Res U} {m : Ma} (sim : SimCO X C r f) : ∀ σ H Q, liftO X C (callE f m) σ H Q → tCB r (liftAB X C m) σ H Q := fun σ H Q ⟨S, env, g, R, p⟩ => ⟨S, env, g, R, (post_bind.mp p).mono (fun us g1 p S1 vs H1 X1 R1 F1 => sim S1 env g1 σ H1 us vs Q R1 F1 (Post.mono p (fun _ _ q S2 v2 H2 X2 R2 ow fr n h => q S2 v2 H2 (X1.trans X2) R2 ow fr n (none_back X1 h)) fun _ _ z => z)) fun _ _ z => z⟩
variable {x : Str} {bid T : String} {p : Pos} {r : List V → Hp → VK → Prop} {f : List U → Gm → Res U} {mr : Ma}
theorem me_callB (hc : CallR X (.builtin bid) r) (sim : SimC X C r f) (hg : Gl X x) (hm : X.mg x = none) (hv : bootBuiltins x = some (.builtin bid)) (ha : MAB X C (e :: es) mr) (hn : x ≠ "__name__" := by decide) (hdb : (x == ("__debug__" : Str)) = false := by decide) : ME X C (.Call (.Name x p) (e :: es) [] pos) (callE f mr) := ⟨by
  have hs := ha.ns
  rw [List.all_cons, Bool.and_eq_true] at hs
  exact PE.imp (pe_callB hc hg hm hv ha.h hn hdb (star_of hs.1) (stars_of hs.2)) (cb_imp sim)⟩
theorem me_callT (hc : CallR X (.type T) r) (sim : SimC X C r f) (hg : Gl X x) (hm : X.mg x = none) (hv : bootBuiltins x = some (.type T)) (ha : MAB X C (e :: es) mr) (hn : x ≠ "__name__" := by decide) (hdb : (x == ("__debug__" : Str)) = false := by decide) : ME X C (.Call (.Name x p) (e :: es) [] pos) (callE f mr) := ⟨by
  have hs := ha.ns
  rw [List.all_cons, Bool.and_eq_true] at hs
  exact PE.imp (pe_callTy hc hg hm hv ha.h hn hdb (star_of hs.1) (stars_of hs.2)) (cb_imp sim)⟩
theorem mo_callB (hc : CallR X (.builtin bid) r) (sim : SimCO X C r f) (hg : Gl X x) (hm : X.mg x = none) (hv : bootBuiltins x = some (.builtin bid)) (ha : MAB X C (e :: es) mr) (hn : x ≠ "__name__" := by decide) (hdb : (x == ("__debug__" : Str)) = false := by decide) : MO X C (.Call (.Name x p) (e :: es) [] pos) (callE f mr) := ⟨by
  have hs := ha.ns
  rw [List.all_cons, Bool.and_eq_true] at hs
  exact PE.imp (pe_callB hc hg hm hv ha.h hn hdb (star_of hs.1) (stars_of hs.2)) (cb_impO sim)⟩
theorem mo_callT (hc : CallR X (.type T) r) (sim : SimCO X C r f) (hg : Gl X x) (hm : X.mg x = none) (hv : bootBuiltins x = some (.type T)) (ha : MAB X C (e :: es) mr) (hn : x ≠ "__name__" := by decide) (hdb : (x == ("__debug__" : Str)) = false := by decide) : MO X C (.Call (.Name x p) (e :: es) [] pos) (callE f mr) := ⟨by
  have hs := ha.ns
  rw [List.all_cons, Bool.and_eq_true] at hs
  exact PE.imp (pe_callTy hc hg hm hv ha.h hn hdb (star_of hs.1) (stars_of hs.2)) (cb_impO sim)⟩
theorem me_bt {n : String} (hg : Gl X x) (hm : X.mg x = none) (hv : bootBuiltins x = some (.type n)) (hn : x ≠ "__name__" := by decide) (hd : (x == ("__debug__" : Str)) = false := by decide) : ME X C (.Name x pos) (cE (.ty n)) := me_c (pe_bltn (v := .ty n) hg hm hv rfl hn hd) fun _ => rfl
theorem bw1 {P : Program} {w : World} {K : PySem.W.Frag} {S : Ab} {env : Env} {σ : L2.St} {u : U} {vs : List V} (h : BwL P w K S env σ [u] vs) : ∃ v, vs = [v] ∧ Bw P w K S env σ u v := by
  obtain ⟨v, r, rfl, h, rfl⟩ := h; exact ⟨v, rfl, h⟩
theorem bw2 {P : Program} {w : World} {K : PySem.W.Frag} {S : Ab} {env : Env} {σ : L2.St} {u u' : U} {vs : List V} (h : BwL P w K S env σ [u, u'] vs) : ∃ v v', vs = [v, v'] ∧ Bw P w K S env σ u v ∧ Bw P w K S env σ u' v' := by
  obtain ⟨v, r, rfl, h, v', r', rfl, h', rfl⟩ := h; exact ⟨v, v', rfl, h, h'⟩
def lenF (us : List U) (g : Gm) : Res U := match us with
  | [u] => match look g u with
    | .str y => if y.length ≤ sizeLine then .ok (.int y.length) g else .stuck
    | .tup us => .ok (.int us.length) g
    | .lst us => .ok (.int us.length) g
    | .scr us => .ok (.int us.length) g
    | _ => .stuck
  | _ => .stuck
theorem sim_len : SimC X C (fun xs H Q => ∃ x n, xs = [x] ∧ LenV X.K x H n ∧ Q (.int n) H) lenF := fun S env g σ H us vs Q R hb p => by
  unfold lenF at p
  split at p
  · next u =>
    obtain ⟨v, rfl, h⟩ := bw1 hb
    split at p
    · next y e =>
      split at p
      · next hl => rw [h.str R e]; exact ⟨_, _, rfl, ⟨hl, rfl⟩, p S _ H (.refl _ _) R rfl⟩
      · exact p.elim
    · next us e => obtain ⟨a, xs, rfl, q, f⟩ := h.tuple R e; exact ⟨_, _, rfl, .inr ⟨xs, q, f.length⟩, p S _ H (.refl _ _) R rfl⟩
    · next us e => obtain ⟨a, xs, rfl, q, f⟩ := h.list R e; exact ⟨_, _, rfl, .inl ⟨xs, .inl q, f.length⟩, p S _ H (.refl _ _) R rfl⟩
    · next us e => obtain ⟨a, xs, rfl, q, f⟩ := h.scr R e; exact ⟨_, _, rfl, .inl ⟨xs, q, f.length⟩, p S _ H (.refl _ _) R rfl⟩
    · exact p.elim
  · exact p.elim
def kdU : U → Option Kd
  | .non => some .non
  | .bl _ => some .bl
  | .int _ => some .int
  | .str _ => some .str
  | .tup _ => some .tup
  | .lst _ => some .lst
  | _ => none
def isLst : Kd → Bool | .lst => true | _ => false
def isKd (T : String) (k : Kd) : Option Bool := if T = "str" then some (isStr k) else if T = "int" then some (isInt k) else if T = "bool" then some (isBool k) else if T = "tuple" then some (isTup k) else if T = "list" then some (isLst k) else none
theorem kit_list {K : PySem.W.Frag} (k : Kd) : PySem.W.kitOne K (.type k.ty) (.type "list") = some (isLst k) := by cases k <;> rfl
theorem kit_kd {K : PySem.W.Frag} {T : String} {k : Kd} {b : Bool} (h : isKd T k = some b) : PySem.W.kitOne K (.type k.ty) (.type T) = some b := by
  unfold isKd at h
  split at h
  · next e => subst e; rw [kit_str]; exact h
  split at h
  · next e => subst e; rw [kit_int]; exact h
  split at h
  · next e => subst e; rw [kit_bool]; exact h
  split at h
  · next e => subst e; rw [kit_tuple]; exact h
  split at h
  · next e => subst e; rw [kit_list]; exact h
  · cases h
theorem call_isU : CallR X (.builtin "isinstance") (fun xs H Q => ∃ x T ρ u k b, xs = [x, .ty T] ∧ FzH X H ρ u x ∧ kdU u = some k ∧ isKd T k = some b ∧ Q (.bl b) H) := by
  intro pins s σ H xs us Q I r h
  obtain ⟨x, T, ρ, u, k, b, rfl, f, hk, hb, q⟩ := h
  obtain ⟨u1, u2, rfl, r1, r2⟩ := vals2 r
  cases r2
  have e := kit_kd (K := X.K) hb
  have fin : ∀ tk, EP X pins σ Q (.bool b) { s with toks := tk } := fun tk => ⟨.bl b, H, I.tok _, rfl, q⟩
  cases u with
  | non => cases f; cases r1; cases hk; exact PySem.W.kia_one PySem.W.kitx_none I.kIn True.intro e (fun z => nomatch z) fin
  | bl y => cases f; cases r1; cases hk; exact PySem.W.kia_one PySem.W.kitx_bool I.kIn True.intro e (fun z => nomatch z) fin
  | int i => cases f; obtain ⟨t, rfl⟩ := r1; cases hk; exact PySem.W.kia_one PySem.W.kitx_int I.kIn True.intro e (fun z => nomatch z) fin
  | str y => cases f; obtain ⟨t, rfl⟩ := r1; cases hk; exact PySem.W.kia_one PySem.W.kitx_str I.kIn True.intro e (fun z => nomatch z) fin
  | tup us =>
    obtain ⟨a, xs, rfl, sq, _⟩ := f
    cases r1; cases hk
    obtain ⟨its, _, ⟨o, h1, h2, _⟩, _⟩ := I.tuple sq
    exact PySem.W.kia_one PySem.W.kitx_tuple I.kIn ⟨o, h1, h2⟩ e (fun z => nomatch z) fin
  | lst us =>
    obtain ⟨a, xs, rfl, sq, _⟩ := f
    cases r1; cases hk
    obtain ⟨its, _, ⟨o, n, h1, h2, _⟩, _⟩ := I.list (.inl sq)
    exact PySem.W.kia_one PySem.W.kitx_list I.kIn ⟨o, h1, h2⟩ e (fun z => nomatch z) fin
  | _ => cases hk
def isF (us : List U) (g : Gm) : Res U := match us with
  | [u, .ty T] => match kdU (look g u) with
    | some k => match isKd T k with
      | some b => .ok (.bl b) g
      | none => .stuck
    | none => .stuck
  | _ => .stuck
theorem sim_isi : SimC X C (fun xs H Q => ∃ x T ρ u k b, xs = [x, .ty T] ∧ FzH X H ρ u x ∧ kdU u = some k ∧ isKd T k = some b ∧ Q (.bl b) H) isF := fun S env g σ H us vs Q R hb p => by
  unfold isF at p
  split at p
  · next u T =>
    obtain ⟨v, v', rfl, h, h'⟩ := bw2 hb
    have := h'.now R
    cases this
    split at p
    · next k ek =>
      split at p
      · next b eb => exact ⟨v, T, S.ρ, _, k, b, rfl, h.look R, ek, eb, p S _ H (.refl _ _) R rfl⟩
      · exact p.elim
    · exact p.elim
  · exact p.elim
def intOf (us : List U) (g : Gm) : Res U := match us with
  | [.int i] => .ok (.int i) g
  | [.bl k] => .ok (.int (if k then 1 else 0)) g
  | [.str z] => match PySem.intText? z with
    | some n => if z.length ≤ 640 then .ok (.int n) g else .stuck
    | none => .stuck
  | _ => .stuck
theorem sim_intOf : SimC X C (fun xs H Q => ((∃ i, xs = [.int i] ∧ Q (.int i) H) ∨ ∃ k, xs = [.bl k] ∧ Q (.int (if k then 1 else 0)) H) ∨ (∃ z n, xs = [.str z] ∧ PySem.intText? z = some n ∧ z.length ≤ 640 ∧ Q (.int n) H)) intOf := fun S env g σ H us vs Q R hb p => by
  unfold intOf at p
  split at p
  · obtain ⟨v, rfl, h⟩ := bw1 hb; rw [h.int R rfl]; exact .inl (.inl ⟨_, rfl, p S _ H (.refl _ _) R rfl⟩)
  · obtain ⟨v, rfl, h⟩ := bw1 hb; rw [h.bl R rfl]; exact .inl (.inr ⟨_, rfl, p S _ H (.refl _ _) R rfl⟩)
  · obtain ⟨v, rfl, h⟩ := bw1 hb; rw [h.str R rfl]
    split at p
    · next n e =>
      split at p
      · next hl => exact .inr ⟨_, n, rfl, e, hl, p S _ H (.refl _ _) R rfl⟩
      · exact p.elim
    · exact p.elim
  · exact p.elim
def strOf (us : List U) (g : Gm) : Res U := match us with
  | [.int i] => if i.natAbs.log2 < 1920 then .ok (.str (numS i)) g else .stuck
  | [.str z] => .ok (.str z) g
  | [.non] => .ok (.str "None") g
  | _ => .stuck
theorem sim_strOf : SimC X C (fun xs H Q => (∃ i, xs = [.int i] ∧ i.natAbs.log2 < 1920 ∧ Q (.str (numS i)) H) ∨ (∃ z, xs = [.str z] ∧ Q (.str z) H) ∨ (xs = [.non] ∧ Q (.str "None") H)) strOf := fun S env g σ H us vs Q R hb p => by
  unfold strOf at p
  split at p
  · obtain ⟨v, rfl, h⟩ := bw1 hb; rw [h.int R rfl]
    split at p
    · next hl => exact .inl ⟨_, rfl, hl, p S _ H (.refl _ _) R rfl⟩
    · exact p.elim
  · obtain ⟨v, rfl, h⟩ := bw1 hb; rw [h.str R rfl]; exact .inr (.inl ⟨_, rfl, p S _ H (.refl _ _) R rfl⟩)
  · obtain ⟨v, rfl, h⟩ := bw1 hb; rw [h.non R rfl]; exact .inr (.inr ⟨rfl, p S _ H (.refl _ _) R rfl⟩)
  · exact p.elim
def maxF (us : List U) (g : Gm) : Res U := match us with
  | [.int i, .int j] => .ok (.int (if j > i then j else i)) g
  | _ => .stuck
theorem sim_max : SimC X C (fun xs H Q => ∃ i j, xs = [.int i, .int j] ∧ Q (.int (if j > i then j else i)) H) maxF := fun S env g σ H us vs Q R hb p => by
  unfold maxF at p
  split at p
  · obtain ⟨v, v', rfl, h, h'⟩ := bw2 hb; rw [h.int R rfl, h'.int R rfl]; exact ⟨_, _, rfl, p S _ H (.refl _ _) R rfl⟩
  · exact p.elim
def minF (us : List U) (g : Gm) : Res U := match us with
  | [.int i, .int j] => .ok (.int (if j < i then j else i)) g
  | _ => .stuck
theorem sim_min : SimC X C (fun xs H Q => ∃ i j, xs = [.int i, .int j] ∧ Q (.int (if j < i then j else i)) H) minF := fun S env g σ H us vs Q R hb p => by
  unfold minF at p
  split at p
  · obtain ⟨v, v', rfl, h, h'⟩ := bw2 hb; rw [h.int R rfl, h'.int R rfl]; exact ⟨_, _, rfl, p S _ H (.refl _ _) R rfl⟩
  · exact p.elim
def blsOf : List U → Option (List Bool)
  | [] => some []
  | .bl b :: us => (blsOf us).map (b :: ·)
  | _ => none
theorem bls_fz {P : Program} {w : World} {K : PySem.W.Frag} {S : Ab} : ∀ {us : List U} {xs : List V} {bs : List Bool}, FzL P w K S us xs → blsOf us = some bs → xs = bs.map V.bl
  | [], _, _, h, e => by cases h; cases e; rfl
  | u :: us, _, bs, h, e => by
    obtain ⟨x, r, rfl, f, t⟩ := h
    cases u with
    | bl b =>
      unfold blsOf at e
      cases q : blsOf us with
      | none => rw [q] at e; cases e
      | some bs' => rw [q] at e; cases e; cases f; rw [bls_fz t q]; rfl
    | _ => cases e
def allF (us : List U) (g : Gm) : Res U := match us with
  | [u] => match look g u with
    | .lst us => match blsOf us with
      | some bs => .ok (.bl (bs.all id)) g
      | none => .stuck
    | _ => .stuck
  | _ => .stuck
theorem sim_all : SimC X C (fun xs H Q => ∃ (p : Addr) (bs : List Bool), xs = [.ref p] ∧ SqL X.K H p (bs.map V.bl) ∧ Q (.bl (bs.all id)) H) allF := fun S env g σ H us vs Q R hb p => by
  unfold allF at p
  split at p
  · next u =>
    obtain ⟨v, rfl, h⟩ := bw1 hb
    split at p
    · next us e =>
      split at p
      · next bs eb => obtain ⟨a, xs, rfl, q, f⟩ := h.list R e; exact ⟨a, bs, rfl, .inl (by rw [← bls_fz f eb]; exact q), p S _ H (.refl _ _) R rfl⟩
      · exact p.elim
    · exact p.elim
  · exact p.elim
def listF (us : List U) (g : Gm) : Res U := match us with
  | [u] => match look g u with
    | .lst us => .ok (.lst us) g
    | .tup us => .ok (.lst us) g
    | _ => .stuck
  | _ => .stuck
theorem sim_listF : SimCO X C (fun xs H Q => ∃ p ys, xs = [.ref p] ∧ (SqL X.K H p ys ∨ SqT X.K H p ys) ∧ ∀ l, H l = none → Q (.ref l) (upd H l (.lst ys))) listF := fun S env g σ H us vs Q R hb p => by
  unfold listF at p
  split at p
  · next u =>
    obtain ⟨v, rfl, h⟩ := bw1 hb
    split at p
    · next us e => obtain ⟨a, xs, rfl, q, f⟩ := h.list R e; exact ⟨a, xs, rfl, .inl (.inl q), fun l hl => newO p R f hl⟩
    · next us e => obtain ⟨a, xs, rfl, q, f⟩ := h.tuple R e; exact ⟨a, xs, rfl, .inr q, fun l hl => newO p R f hl⟩
    · exact p.elim
  · exact p.elim
def tupleF (us : List U) (g : Gm) : Res U := match us with
  | [u] => match look g u with
    | .lst us => .ok (.tup us) g
    | _ => .stuck
  | _ => .stuck
theorem sim_tupleF : SimC X C (fun xs H Q => ∃ p ys, xs = [.ref p] ∧ ((SqL X.K H p ys ∧ ∀ l, H l = none → Q (.ref l) (upd H l (.tup ys))) ∨ (SqT X.K H p ys ∧ Q (.ref p) H))) tupleF := fun S env g σ H us vs Q R hb p => by
  unfold tupleF at p
  split at p
  · next u =>
    obtain ⟨v, rfl, h⟩ := bw1 hb
    split at p
    · next us e => obtain ⟨a, xs, rfl, q, f⟩ := h.list R e; exact ⟨a, xs, rfl, .inl ⟨.inl q, fun l hl => newT p R f hl⟩⟩
    · exact p.elim
  · exact p.elim
def tyF (T : String) (g : Gm) (u : U) : Bool := match look g u with
  | .str _ => T == "str"
  | .lst _ => T == "list"
  | _ => false
theorem ty_ok {T : String} {S : Ab} {env : Env} {g : Gm} {σ : L2.St} {H : Hp} {u : U} {v : V} (R : RelX X C S env g σ H) (h : Bw X.prog X.w X.K S env σ u v) (e : tyF T g u = true) : tyV X.K T v H := by
  unfold tyF at e
  split at e
  · next x ex => rw [h.str R ex]; exact eq_of_beq e
  · next us ex => obtain ⟨a, xs, rfl, q, f⟩ := h.list R ex; exact .inl ⟨eq_of_beq e, xs, .inl q⟩
  · cases e
def bmE (T : String) (f : U → List U → Gm → Res U) (mo : Me) (ma : Ma) : Me := fun env g => (mo env g).bind fun x g1 => if tyF T g1 x = true then (ma env g1).bind fun us g2 => f x us g2 else .stuck
def SimM (X : Cx) (C : MC) (r : V → List V → Hp → VK → Prop) (f : U → List U → Gm → Res U) : Prop := ∀ S env g σ H u us v vs Q, RelX X C S env g σ H → Bw X.prog X.w X.K S env σ u v → BwL X.prog X.w X.K S env σ us vs → OkE X C S env σ H Q (f u us g) → r v vs H Q
def SimMO (X : Cx) (C : MC) (r : V → List V → Hp → VK → Prop) (f : U → List U → Gm → Res U) : Prop := ∀ S env g σ H u us v vs Q, RelX X C S env g σ H → Bw X.prog X.w X.K S env σ u v → BwL X.prog X.w X.K S env σ us vs → OkO X C S env σ H Q (f u us g) → r v vs H Q
variable {o : Expr} {mo : Me} {name : Str} {apos cpos : Pos} {rm : V → List V → Hp → VK → Prop} {fm : U → List U → Gm → Res U}
theorem bm_imp (sim : SimM X C rm fm) : ∀ σ H Q, liftE X C (bmE T fm mo mr) σ H Q → tBM X.K T rm (liftB X C mo) (liftAB X C mr) σ H Q := fun σ H Q ⟨S, env, g, R, p⟩ => ⟨S, env, g, R, (post_bind.mp p).mono (fun u g1 p S1 v1 H1 X1 R1 F1 => by
  split at p
  · next ht => exact ⟨ty_ok R1 F1 ht, S1, env, g1, R1, (post_bind.mp p).mono (fun us g2 p S2 vs H2 X2 R2 F2 => sim S2 env g2 σ H2 u us v1 vs Q R2 (F1.le X2.le) F2 (Post.mono p (fun _ _ q S3 v3 H3 X3 R3 F3 => q S3 v3 H3 ((X1.trans X2).trans X3) R3 F3) fun _ _ z => z)) fun _ _ z => z⟩
  · exact p.elim) fun _ _ z => z⟩
theorem bm_impO (sim : SimMO X C rm fm) : ∀ σ H Q, liftO X C (bmE T fm mo mr) σ H Q → tBM X.K T rm (liftB X C mo) (liftAB X C mr) σ H Q := fun σ H Q ⟨S, env, g, R, p⟩ => ⟨S, env, g, R, (post_bind.mp p).mono (fun u g1 p S1 v1 H1 X1 R1 F1 => by
  split at p
  · next ht => exact ⟨ty_ok R1 F1 ht, S1, env, g1, R1, (post_bind.mp p).mono (fun us g2 p S2 vs H2 X2 R2 F2 => sim S2 env g2 σ H2 u us v1 vs Q R2 (F1.le X2.le) F2 (Post.mono p (fun _ _ q S3 v3 H3 X3 R3 ow fr n h => q S3 v3 H3 ((X1.trans X2).trans X3) R3 ow fr n (none_back (X1.trans X2) h)) fun _ _ z => z)) fun _ _ z => z⟩
  · exact p.elim) fun _ _ z => z⟩
theorem me_bm (pa : PlainAttrs T) (slot : Slot T name bid) (hty : typeOf (.builtin bid) = pure (.type "method_descriptor")) (hm : MtR X bid rm) (sim : SimM X C rm fm) (ho : MB X C o mo) (ha : MAB X C (e :: es) mr) (hbase : attributeBase o name X.env (eval o X.env) = eval o X.env := by rfl) (hfew : ((backTo cpos (starEach (e :: es) X.env)).all (fun x => !x.1) && (backToKw cpos (keywordEach [] X.env)).all (fun x => x.1.isSome) && decide ((e :: es).length + ([] : List Keyword).length + (if ([] : List Keyword).isEmpty then 0 else 1) < 30)) = true := by rfl) (hline : (apos.endLine == cpos.line) = true := by rfl) : ME X C (.Call (.Attribute o name apos) (e :: es) [] cpos) (bmE T fm mo mr) := ⟨by
  have hs := ha.ns
  rw [List.all_cons, Bool.and_eq_true] at hs
  exact PE.imp (pe_bm pa slot hty hm ho.h ha.h hbase hfew hline (star_of hs.1) (stars_of hs.2)) (bm_imp sim)⟩
theorem mo_bm (pa : PlainAttrs T) (slot : Slot T name bid) (hty : typeOf (.builtin bid) = pure (.type "method_descriptor")) (hm : MtR X bid rm) (sim : SimMO X C rm fm) (ho : MB X C o mo) (ha : MAB X C (e :: es) mr) (hbase : attributeBase o name X.env (eval o X.env) = eval o X.env := by rfl) (hfew : ((backTo cpos (starEach (e :: es) X.env)).all (fun x => !x.1) && (backToKw cpos (keywordEach [] X.env)).all (fun x => x.1.isSome) && decide ((e :: es).length + ([] : List Keyword).length + (if ([] : List Keyword).isEmpty then 0 else 1) < 30)) = true := by rfl) (hline : (apos.endLine == cpos.line) = true := by rfl) : MO X C (.Call (.Attribute o name apos) (e :: es) [] cpos) (bmE T fm mo mr) := ⟨by
  have hs := ha.ns
  rw [List.all_cons, Bool.and_eq_true] at hs
  exact PE.imp (pe_bm pa slot hty hm ho.h ha.h hbase hfew hline (star_of hs.1) (stars_of hs.2)) (bm_impO sim)⟩
def strsOf : List U → Option (List Str)
  | [] => some []
  | .str b :: us => (strsOf us).map (b :: ·)
  | _ => none
theorem strs_fz {P : Program} {w : World} {K : PySem.W.Frag} {S : Ab} : ∀ {us : List U} {xs : List V} {bs : List Str}, FzL P w K S us xs → strsOf us = some bs → xs = bs.map V.str
  | [], _, _, h, e => by cases h; cases e; rfl
  | u :: us, _, bs, h, e => by
    obtain ⟨x, r, rfl, f, t⟩ := h
    cases u with
    | str b =>
      unfold strsOf at e
      cases q : strsOf us with
      | none => rw [q] at e; cases e
      | some bs' => rw [q] at e; cases e; cases f; rw [strs_fz t q]; rfl
    | _ => cases e
theorem fz_strs {P : Program} {w : World} {K : PySem.W.Frag} {S : Ab} : ∀ (ts : List Str), FzL P w K S (ts.map U.str) (ts.map V.str)
  | [] => rfl
  | _ :: ts => ⟨_, _, rfl, rfl, fz_strs ts⟩
def joinF (x : U) (us : List U) (g : Gm) : Res U := match x, us with
  | .str z, [u] => match look g u with
    | .lst us => match strsOf us with
      | some ts => if Builtin.Str.tooLong (ts.toArray.foldl (· + ·.length + z.length) 0) = false ∧ (joinS z ts).length ≤ sizeLine then .ok (.str (Str.join z ts)) g else .stuck
      | none => .stuck
    | _ => .stuck
  | _, _ => .stuck
theorem sim_join : SimM X C (fun x xs H Q => ∃ z l ts, x = .str z ∧ xs = [.ref l] ∧ SqL X.K H l (ts.map V.str) ∧ Builtin.Str.tooLong (ts.toArray.foldl (· + ·.length + z.length) 0) = false ∧ (joinS z ts).length ≤ sizeLine ∧ Q (.str (joinS z ts)) H) joinF := fun S env g σ H u us v vs Q R hu hb p => by
  unfold joinF at p
  split at p
  · next z u =>
    obtain ⟨v', rfl, h⟩ := bw1 hb
    split at p
    · next us e =>
      split at p
      · next ts et =>
        split at p
        · next hl => obtain ⟨a, xs, rfl, q, f⟩ := h.list R e; rw [hu.str R rfl]; exact ⟨z, a, ts, rfl, rfl, .inl (by rw [← strs_fz f et]; exact q), hl.1, hl.2, by rw [joinS_eq]; exact p S _ H (.refl _ _) R rfl⟩
        · exact p.elim
      · exact p.elim
    · exact p.elim
  · exact p.elim
def partF (x : U) (us : List U) (g : Gm) : Res U := match x, us with
  | .str z, [.str y] => if (y.length == 0) = false ∧ z.length ≤ sizeLine then .ok (.tup [.str (partP z y).1, .str (partP z y).2.1, .str (partP z y).2.2]) g else .stuck
  | _, _ => .stuck
theorem sim_part : SimM X C (fun x xs H Q => ∃ z y, x = .str z ∧ xs = [.str y] ∧ (y.length == 0) = false ∧ z.length ≤ sizeLine ∧ ∀ p, H p = none → Q (.ref p) (upd H p (.tup [.str (partP z y).1, .str (partP z y).2.1, .str (partP z y).2.2]))) partF := fun S env g σ H u us v vs Q R hu hb p => by
  unfold partF at p
  split at p
  · next z y =>
    obtain ⟨v', rfl, h⟩ := bw1 hb
    split at p
    · next hl => rw [hu.str R rfl, h.str R rfl]; exact ⟨z, y, rfl, rfl, hl.1, hl.2, fun q hq => newT p R ⟨_, _, rfl, rfl, _, _, rfl, rfl, _, _, rfl, rfl, rfl⟩ hq⟩
    · exact p.elim
  · exact p.elim
def splitF (x : U) (us : List U) (g : Gm) : Res U := match x, us with
  | .str z, [.str y] => if (y.length == 0) = false ∧ z.length < sizeLine ∧ (Builtin.Str.partsBetween z (Builtin.Str.occurrences z y 0 z.length (z.length + 1)) y.length).length ≤ sizeLine then .ok (.lst ((Txt.split z y).map .str)) g else .stuck
  | _, _ => .stuck
theorem sim_split : SimMO X C (fun x xs H Q => ∃ z y, x = .str z ∧ xs = [.str y] ∧ (y.length == 0) = false ∧ z.length < sizeLine ∧ (Builtin.Str.partsBetween z (Builtin.Str.occurrences z y 0 z.length (z.length + 1)) y.length).length ≤ sizeLine ∧ ∀ p, H p = none → Q (.ref p) (upd H p (.lst ((Txt.split z y).map V.str)))) splitF := fun S env g σ H u us v vs Q R hu hb p => by
  unfold splitF at p
  split at p
  · next z y =>
    obtain ⟨v', rfl, h⟩ := bw1 hb
    split at p
    · next hl => rw [hu.str R rfl, h.str R rfl]; exact ⟨z, y, rfl, rfl, hl.1, hl.2.1, hl.2.2, fun q hq => newO p R (fz_strs _) hq⟩
    · exact p.elim
  · exact p.elim
end
end MM
namespace MM
open PySem PySem.Spec PyProof.Rows L2 BB PP
def keyU : U → Option Key
  | .int i => some (.inl i)
  | .str x => some (.inr x)
  | _ => none
def keysU : List U → Option (List Key)
  | [] => some []
  | u :: us => match keyU u, keysU us with
    | some k, some ks => some (k :: ks)
    | _, _ => none
def valU {κ : Type} [DecidableEq κ] (kvs : List (κ × U)) (k : κ) : Option U := (kvs.find? fun kv => decide (kv.1 = k)).map (·.2)
def getU (d k : U) : Option (Option U) := match d with
  | .dk kvs => (keyU k).map (valU kvs)
  | .dt kvs => match k with
    | .tup us => (keysU us).map (valU kvs)
    | _ => none
  | _ => none
def DGetS (X : Cx) (H : Hp) (a : Addr) (y : V) (r : Option V) : Prop :=
  (∃ kvs k, (Rd H a (.dK kvs) ∨ KDict X.prog X.w X.K a kvs) ∧ y = kV k ∧ r = valV kvs k) ∨ ∃ kvs k b, Rd H a (.dT kvs) ∧ y = .ref b ∧ SqT X.K H b (k.map kV) ∧ r = valV kvs k
section
variable {X : Cx} {pins : List (Addr × Obj)} {σ : L2.St} {H : Hp} {s : Shared} {a : Addr} {y v : V} {u : Value} {o : Option V} {A : Around} {E : Value → Shared → Prop}
theorem key_sq {b : Addr} {ks : List Key} (I : Inv X pins σ H s) (h : SqT X.K H b (ks.map kV)) : (tupleKind (mixKind X.prog X.w)).is s.heap ks b := by
  obtain ⟨its, r, ⟨o, h1, h2, n, h3⟩, _⟩ := I.tuple h
  exact ⟨o, its.toArray, n, h1, h2, h3, by simpa using items_are r⟩
theorem dk_any {kvs : List (Key × V)} (I : Inv X pins σ H s) (e : Rd H a (.dK kvs) ∨ KDict X.prog X.w X.K a kvs) : (a == sysModules) = false ∧ ∃ vs, KV kvs vs ∧ s.heap.DictOf (mixKind X.prog X.w) a vs := by
  rcases e with e | ⟨_, hd, hD⟩
  · obtain ⟨_, hd, r⟩ := dk_rd I.hok e; exact ⟨hd, r⟩
  · exact ⟨hd, hD _ I.kIn⟩
theorem dict_ty (I : Inv X pins σ H s) (g : DGetS X H a y o) : s.TypeIs (.ref a) "dict" := by
  rcases g with ⟨kvs, k, e, _⟩ | ⟨kvs, k, b, e, _⟩
  · obtain ⟨_, vs, _, dd⟩ := dk_any I e; exact dd.typeIs
  · obtain ⟨_, _, xs, _, dd⟩ := dt_rd I.hok e; exact dd.typeIs
theorem d_getS {Q : Value → Shared → Prop} (hu : A.units + 1 < cLine) (I : Inv X pins σ H s) (g : DGetS X H a y (some v)) (ry : RelV y u) (h : ∀ w' s', Inv X pins σ H s' → RelV v w' → Q w' s') : wpAny (model X.prog X.w) A (getItem (.ref a) u) Q E s := by
  rcases g with ⟨kvs, k, e, ey, l⟩ | ⟨kvs, k, b, e, ey, eb, l⟩
  · subst ey
    obtain ⟨hd, vs, rel, dd⟩ := dk_any I e
    obtain ⟨w', hw, rw'⟩ := RelO.some_of (v := v) (o := valueAt vs k) (by rw [l]; exact rel.val k)
    exact wpAny_getItem_of (kV_is ry) dd.mapOf hw (h w' _ (I.tok _) rw')
  · subst ey
    cases (show u = Value.ref b from ry)
    obtain ⟨z, hd, xs, rel, dd⟩ := dt_rd I.hok e
    obtain ⟨w', hw, rw'⟩ := RelO.some_of (v := v) (o := (atKey xs k).map (·.2)) (by rw [l]; exact rel.val k)
    obtain ⟨p, hp, hp2⟩ := Option.map_eq_some_iff.mp hw
    refine wpAny_getItem_heap (tupleKind_room_in1 hu) (key_sq I eb) dd hp ?_
    rw [hp2]
    exact h w' _ (I.tok _) rw'
theorem d_inS {Q : Value → Shared → Prop} (hu : A.units + 1 < cLine) (I : Inv X pins σ H s) (g : DGetS X H a y o) (ry : RelV y u) (h : ∀ s', Inv X pins σ H s' → Q (.bool o.isSome) s') : wpAny (model X.prog X.w) A (compareOp .In u (.ref a)) Q E s := by
  rcases g with ⟨kvs, k, e, ey, l⟩ | ⟨kvs, k, b, e, ey, eb, l⟩
  · subst ey
    obtain ⟨hd, vs, rel, dd⟩ := dk_any I e
    refine wpAny_in_of (kV_is ry) hd dd.mapOf ?_
    rw [← (rel.val k).isSome_eq, ← l]
    exact h _ (I.tok _)
  · subst ey
    cases (show u = Value.ref b from ry)
    obtain ⟨z, hd, xs, rel, dd⟩ := dt_rd I.hok e
    refine wpAny_in_heap (tupleKind_room_in1 hu) (key_sq I eb) hd dd ?_
    have q := (rel.val k).isSome_eq
    rw [Option.isSome_map] at q
    rw [← q, ← l]
    exact h _ (I.tok _)
end
section
variable {P : Program} {w : World} {K : PySem.W.Frag} {S : Ab}
theorem keyU_fz {u : U} {v : V} {k : Key} (h : Fz P w K S u v) (e : keyU u = some k) : v = kV k := by
  cases u <;> first | (cases e; done) | skip
  · cases e; exact h
  · cases e; exact h
theorem keysU_fz : ∀ {us : List U} {xs : List V} {ks : List Key}, FzL P w K S us xs → keysU us = some ks → xs = ks.map kV
  | [], _, _, h, e => by cases h; cases e; rfl
  | u :: us, _, ks, h, e => by
    obtain ⟨x, r, rfl, f, t⟩ := h
    unfold keysU at e
    split at e
    · next k ks' e1 e2 => cases e; rw [keyU_fz f e1, keysU_fz t e2]; rfl
    · cases e
theorem valU_K : ∀ {kvs : List (Key × U)} {zs : List (Key × V)} (k : Key), FzK P w K S kvs zs → (valU kvs k = none ∧ valV zs k = none) ∨ ∃ u v, valU kvs k = some u ∧ valV zs k = some v ∧ Fz P w K S u v
  | [], _, k, h => by cases h; exact .inl ⟨rfl, rfl⟩
  | (k', u) :: us, _, k, h => by
    obtain ⟨x, r, rfl, f, t⟩ := h
    by_cases e : k' = k
    · subst e; exact .inr ⟨u, x, by simp [valU], by simp [valV], f⟩
    · rcases valU_K k t with ⟨a, b⟩ | ⟨a, b, c, d, e'⟩
      · exact .inl ⟨by simp only [valU, List.find?_cons, e, decide_false] at a ⊢; exact a, by rw [valV_neg e]; exact b⟩
      · exact .inr ⟨a, b, by simp only [valU, List.find?_cons, e, decide_false] at c ⊢; exact c, by rw [valV_neg e]; exact d, e'⟩
theorem valU_T : ∀ {kvs : List (List Key × U)} {zs : List (List Key × V)} (k : List Key), FzT P w K S kvs zs → (valU kvs k = none ∧ valV zs k = none) ∨ ∃ u v, valU kvs k = some u ∧ valV zs k = some v ∧ Fz P w K S u v
  | [], _, k, h => by cases h; exact .inl ⟨rfl, rfl⟩
  | (k', u) :: us, _, k, h => by
    obtain ⟨x, r, rfl, f, t⟩ := h
    by_cases e : k' = k
    · subst e; exact .inr ⟨u, x, by simp [valU], by simp [valV], f⟩
    · rcases valU_T k t with ⟨a, b⟩ | ⟨a, b, c, d, e'⟩
      · exact .inl ⟨by simp only [valU, List.find?_cons, e, decide_false] at a ⊢; exact a, by rw [valV_neg e]; exact b⟩
      · exact .inr ⟨a, b, by simp only [valU, List.find?_cons, e, decide_false] at c ⊢; exact c, by rw [valV_neg e]; exact d, e'⟩
end
section
variable {X : Cx} {C : MC} {S : Ab} {env : Env} {g : Gm} {σ : L2.St} {H : Hp}
theorem Bw.dict {u : U} {v : V} (R : RelX X C S env g σ H) (h : Bw X.prog X.w X.K S env σ u v) : (∀ kvs, MM.look g u = .dk kvs → ∃ a zs, v = .ref a ∧ (Rd H a (.dK zs) ∨ KDict X.prog X.w X.K a zs) ∧ FzK X.prog X.w X.K S kvs zs) ∧ (∀ kvs, MM.look g u = .dt kvs → ∃ a zs, v = .ref a ∧ Rd H a (.dT zs) ∧ FzT X.prog X.w X.K S kvs zs) := by
  constructor
  · intro kvs e
    cases u with
    | dk us2 =>
      have : us2 = kvs := by cases e; rfl
      subst this
      rcases h with h | ⟨j, a, e1, e2, rfl⟩
      · obtain ⟨a, xs, e3, q, f⟩ := h; exact ⟨a, xs, e3, q.imp_left (rd_le R.G.zs), f⟩
      · obtain ⟨b, e3, ow, _⟩ := R.L.eo j _ e1
        rw [e2] at e3; cases e3
        obtain ⟨xs, q, f⟩ := ow
        exact ⟨a, xs, rfl, .inl (.inl q), f⟩
    | ref i =>
      unfold MM.look at e
      dsimp only at e
      split at e <;> first | (cases e; done) | skip
      next us2 e1 =>
        cases e
        obtain ⟨a, ea, c⟩ := R.G.cs i _ e1
        rcases h with h | ⟨j, b, e2, e3, rfl⟩
        · obtain ⟨b, eb, rfl⟩ := h
          rw [ea] at eb; cases eb
          rcases c with c | ⟨_, _, _, _, z, _⟩
          · obtain ⟨xs, q, f⟩ := c; exact ⟨a, xs, rfl, .inl (.inl q), f⟩
          · cases z
        · obtain ⟨_, _, ow, _⟩ := R.L.eo j _ e2
          exact ow.elim
    | _ => cases e
  · intro kvs e
    cases u with
    | dt us2 =>
      have : us2 = kvs := by cases e; rfl
      subst this
      rcases h with h | ⟨j, a, e1, e2, rfl⟩
      · obtain ⟨a, xs, e3, q, f⟩ := h; exact ⟨a, xs, e3, rd_le R.G.zs q, f⟩
      · obtain ⟨b, e3, ow, _⟩ := R.L.eo j _ e1
        rw [e2] at e3; cases e3
        obtain ⟨xs, q, f⟩ := ow
        exact ⟨a, xs, rfl, .inl q, f⟩
    | ref i =>
      unfold MM.look at e
      dsimp only at e
      split at e <;> first | (cases e; done) | skip
      next us2 e1 =>
        cases e
        obtain ⟨a, ea, c⟩ := R.G.cs i _ e1
        rcases h with h | ⟨j, b, e2, e3, rfl⟩
        · obtain ⟨b, eb, rfl⟩ := h
          rw [ea] at eb; cases eb
          rcases c with c | ⟨_, _, _, _, z, _⟩
          · obtain ⟨xs, q, f⟩ := c; exact ⟨a, xs, rfl, .inl q, f⟩
          · cases z
        · obtain ⟨_, _, ow, _⟩ := R.L.eo j _ e2
          exact ow.elim
    | _ => cases e
theorem get_ok {d k : U} {r : Option U} {x y : V} (R : RelX X C S env g σ H) (hd : Bw X.prog X.w X.K S env σ d x) (hk : Bw X.prog X.w X.K S env σ k y) (e : getU (MM.look g d) k = some r) :
    ∃ a o, x = .ref a ∧ DGetS X H a y o ∧ ((r = none ∧ o = none) ∨ ∃ u v, r = some u ∧ o = some v ∧ FzX X S u v) := by
  unfold getU at e
  split at e
  · next kvs ed =>
    obtain ⟨a, zs, rfl, q, f⟩ := (hd.dict R).1 kvs ed
    cases ek : keyU k with
    | none => rw [ek] at e; cases e
    | some kk =>
      rw [ek] at e; cases e
      have hy : y = kV kk := keyU_fz (hk.now R) ek
      rcases valU_K kk f with ⟨e1, e2⟩ | ⟨u, v, e1, e2, f2⟩
      · exact ⟨a, none, rfl, .inl ⟨zs, kk, q, hy, e2.symm⟩, .inl ⟨e1, rfl⟩⟩
      · exact ⟨a, some v, rfl, .inl ⟨zs, kk, q, hy, e2.symm⟩, .inr ⟨u, v, e1, rfl, f2⟩⟩
  · next kvs ed =>
    obtain ⟨a, zs, rfl, q, f⟩ := (hd.dict R).2 kvs ed
    split at e
    · next us =>
      cases ek : keysU us with
      | none => rw [ek] at e; cases e
      | some kk =>
        rw [ek] at e; cases e
        obtain ⟨b, xs, rfl, sq, fl⟩ := hk.tuple R rfl
        rw [keysU_fz fl ek] at sq
        rcases valU_T kk f with ⟨e1, e2⟩ | ⟨u, v, e1, e2, f2⟩
        · exact ⟨a, none, rfl, .inr ⟨zs, kk, b, q, rfl, sq, e2.symm⟩, .inl ⟨e1, rfl⟩⟩
        · exact ⟨a, some v, rfl, .inr ⟨zs, kk, b, q, rfl, sq, e2.symm⟩, .inr ⟨u, v, e1, rfl, f2⟩⟩
    · cases e
  · cases e
end
section
variable {X : Cx} {C : MC} {a b : Expr} {ma mb : Me} {pos : Pos}
theorem ix_dictS (hu : X.A.units + 1 < cLine) : IxR X (fun x y H Q => ∃ a v, x = .ref a ∧ DGetS X H a y (some v) ∧ Q v H) := by
  intro value slice pins s σ H x y v u Q I rx ry h hs
  obtain ⟨a, v0, rfl, g, q⟩ := h
  cases rx
  exact tail_any (dict_ty I g) PySem.F.slot_dict_getitem.lookup (d_getS hu I g ry fun w' s3 I3 rw' => ⟨v0, H, I3, rw', q⟩) hs
def ixF (x y : U) (g : Gm) : Res U := match look g x, y with
  | .lst us, .int i => match atI us i with
    | some u => .ok u g
    | none => .stuck
  | .tup us, .int i => match atI us i with
    | some u => .ok u g
    | none => .stuck
  | .str z, .int i => if z.length ≤ sizeLine then match atI z.cps.toList i with
    | some c => .ok (.str ⟨#[c]⟩) g
    | none => .stuck
    else .stuck
  | .scr us, .int i => match atI us i with
    | some u => .ok u g
    | none => .stuck
  | d, k => match getU d k with
    | some (some u) => .ok u g
    | _ => .stuck
theorem atI_fz {P : Program} {w : World} {K : PySem.W.Frag} {S : Ab} {us : List U} {xs : List V} {i : Int} {u : U} (h : FzL P w K S us xs) (e : atI us i = some u) : ∃ x, atI xs i = some x ∧ Fz P w K S u x := by
  unfold atI at e ⊢
  rw [← h.length]
  cases q : ixN us.length i with
  | none => rw [q] at e; cases e
  | some j => rw [q] at e; exact h.get e
abbrev rIxD (X : Cx) : R2 := fun x y H Q => rIx X.K x y H Q ∨ ∃ a v, x = .ref a ∧ DGetS X H a y (some v) ∧ Q v H
theorem sim_ix : Sim2 X C (rIxD X) ixF := fun S env g σ H x y u v Q R hx hy p => by
  unfold ixF at p
  split at p
  · next us i e =>
    split at p
    · next z ez =>
      obtain ⟨a, xs, rfl, q, f⟩ := hx.list R e
      obtain ⟨w', ew, fw⟩ := atI_fz f ez
      rw [hy.int R rfl]
      exact .inl (.inl ⟨a, xs, i, w', rfl, rfl, .inl q, ew, p S _ H (.refl _ _) R fw⟩)
    · exact p.elim
  · next us i e =>
    split at p
    · next z ez =>
      obtain ⟨a, xs, rfl, q, f⟩ := hx.tuple R e
      obtain ⟨w', ew, fw⟩ := atI_fz f ez
      rw [hy.int R rfl]
      exact .inl (.inr (.inl ⟨a, xs, i, w', rfl, rfl, q, ew, p S _ H (.refl _ _) R fw⟩))
    · exact p.elim
  · next z i e =>
    split at p
    · next hl =>
      split at p
      · next c ec => rw [hx.str R e, hy.int R rfl]; exact .inl (.inr (.inr ⟨z, i, c, rfl, rfl, hl, ec, p S _ H (.refl _ _) R rfl⟩))
      · exact p.elim
    · exact p.elim
  · next us i e =>
    split at p
    · next z ez =>
      obtain ⟨a, xs, rfl, q, f⟩ := hx.scr R e
      obtain ⟨w', ew, fw⟩ := atI_fz f ez
      rw [hy.int R rfl]
      exact .inl (.inl ⟨a, xs, i, w', rfl, rfl, q, ew, p S _ H (.refl _ _) R fw⟩)
    · exact p.elim
  · split at p
    · next u' e =>
      obtain ⟨a, o, rfl, gt, h⟩ := get_ok R hx hy e
      rcases h with ⟨z, _⟩ | ⟨u2, v2, e1, rfl, f⟩
      · cases z
      · cases e1; exact .inr ⟨a, v2, rfl, gt, p S _ H (.refl _ _) R f⟩
    · exact p.elim
theorem me_sub' (hu : X.A.units + 1 < cLine) (ha : MB X C a ma) (hb : MB X C b mb) (hs : PlainIx b := by intro _ _; rfl) : ME X C (.Subscript a b pos) (opE ixF ma mb) := me_ix (ix_seq.or (ix_dictS hu)) sim_ix ha hb hs
end
end MM
namespace MM
open PySem PySem.Spec PyProof.Rows L2 BB PP
section
variable {X : Cx} {pins : List (Addr × Obj)} {σ : L2.St} {H : Hp} {s : Shared} {ρ : List Addr}
theorem eqL_det {f : U → U → Option Bool} (ih : ∀ {u v w : U} {x : V} {k l : Bool}, FzH X H ρ u x → FzH X H ρ v x → f u w = some k → f v w = some l → k = l) : ∀ {us vs ws : List U} {xs : List V} {k l : Bool}, FzL X.prog X.w X.K ⟨H, ρ⟩ us xs → FzL X.prog X.w X.K ⟨H, ρ⟩ vs xs → eqL f us ws = some k → eqL f vs ws = some l → k = l
  | [], [], ws, _, k, l, _, _, h1, h2 => by rw [h1] at h2; cases h2; rfl
  | [], _ :: _, _, _, k, l, h1, h2, _, _ => by cases h1; obtain ⟨_, _, z, _⟩ := h2; cases z
  | _ :: _, [], _, _, k, l, h1, h2, _, _ => by cases h2; obtain ⟨_, _, z, _⟩ := h1; cases z
  | u :: us, v :: vs, [], xs, k, l, _, _, h1, h2 => by cases h1; cases h2; rfl
  | u :: us, v :: vs, w :: ws, xs, k, l, h1, h2, e1, e2 => by
    obtain ⟨x, r, rfl, f1, t1⟩ := h1
    obtain ⟨x2, r2, z, f2, t2⟩ := h2
    cases z
    obtain ⟨a, b, p1, p2, rfl⟩ := eqL_cons e1
    obtain ⟨c, d, q1, q2, rfl⟩ := eqL_cons e2
    obtain rfl := ih f1 f2 p1 q1
    obtain rfl := eqL_det (f := f) (fun a b c d => ih a b c d) t1 t2 p2 q2
    rfl
theorem eqB_det {f : List U → List U → Option Bool} (I : Inv X pins σ H s) (ih : ∀ {us vs ws : List U} {xs : List V} {k l : Bool}, FzL X.prog X.w X.K ⟨H, ρ⟩ us xs → FzL X.prog X.w X.K ⟨H, ρ⟩ vs xs → f us ws = some k → f vs ws = some l → k = l) {u v w : U} {x : V} {k l : Bool} (hx : FzH X H ρ u x) (hy : FzH X H ρ v x) (h1 : eqB f u w = some k) (h2 : eqB f v w = some l) : k = l := by
  rcases fz_same I (eqB_ok h1).1 (eqB_ok h2).1 hx hy with rfl | ⟨us, vs, xs, rfl, rfl, f1, f2⟩ | ⟨us, vs, xs, rfl, rfl, f1, f2⟩
  · exact Option.some.inj (h1.symm.trans h2)
  · cases w with
    | tup ws => exact ih f1 f2 h1 h2
    | _ => exact Option.some.inj (h1.symm.trans h2)
  · cases w with
    | lst ws => exact ih f1 f2 h1 h2
    | _ => exact Option.some.inj (h1.symm.trans h2)
theorem eqN_det (I : Inv X pins σ H s) : ∀ (n : Nat) {u v w : U} {x : V} {k l : Bool}, FzH X H ρ u x → FzH X H ρ v x → eqN n u w = some k → eqN n v w = some l → k = l := by
  intro n
  induction n with
  | zero => exact fun hx hy h1 h2 => eqB_det (f := fun _ _ => none) I (fun _ _ a _ => by cases a) hx hy h1 h2
  | succ n ih => exact fun hx hy h1 h2 => eqB_det (f := eqL (eqN n)) I (fun a b c d => eqL_det (f := eqN n) (fun a b c d => ih a b c d) a b c d) hx hy h1 h2
def anyEq (us : List U) (x : U) : Option Bool := match us with
  | [] => some false
  | u :: us => match eqN 15 u x, anyEq us x with
    | some a, some b => some (a || b)
    | _, _ => none
theorem anyEq_get {x : U} : ∀ {us : List U} {k : Bool}, anyEq us x = some k → ∃ e : Nat → Bool, (∀ (j : Nat) u, us[j]? = some u → eqN 15 u x = some (e j)) ∧ k = (List.range us.length).any e
  | [], k, h => by cases h; exact ⟨fun _ => true, fun j u e => by simp at e, rfl⟩
  | u :: us, k, h => by
    unfold anyEq at h
    split at h
    · next a b e1 e2 =>
      cases h
      obtain ⟨e, he, rfl⟩ := anyEq_get e2
      refine ⟨fun j => match j with | 0 => a | j + 1 => e j, fun j x ex => ?_, ?_⟩
      · cases j with
        | zero => cases ex; exact e1
        | succ j => exact he j x (by simpa using ex)
      · rw [List.length_cons, List.range_succ_eq_map, List.any_cons, List.any_map]
        rfl
    · cases h
open Classical in
theorem items_any {A : Around} {us : List U} {xs : List V} {its : List Value} {x : U} {y : V} {b : Value} {k : Bool} (I : Inv X pins σ H s) (hu : A.units + 16 < cLine) (f1 : FzL X.prog X.w X.K ⟨H, ρ⟩ us xs) (f2 : FzH X H ρ x y) (r1 : Vals xs its) (r2 : RelV y b) (h : anyEq us x = some k) :
    ∃ e : Value → Bool, (∀ v, v ∈ its.toArray → SeqAt.EqAt A.in1 s v b (e v)) ∧ k = its.toArray.any e := by
  obtain ⟨e, he, rfl⟩ := anyEq_get h
  have hl : us.length = its.length := by rw [f1.length, r1.length]
  have at_ : ∀ (j : Nat) v, its[j]? = some v → ∃ u x', us[j]? = some u ∧ FzH X H ρ u x' ∧ RelV x' v ∧ eqN 15 u x = some (e j) := fun j v ej => by
    have hj : j < us.length := by rw [hl]; exact (List.getElem?_eq_some_iff.mp ej).1
    obtain ⟨x', ex, fx⟩ := f1.get (List.getElem?_eq_getElem hj)
    obtain ⟨v', ev, rv⟩ := r1.get ex
    rw [ej] at ev; cases ev
    exact ⟨us[j], x', List.getElem?_eq_getElem hj, fx, rv, he j _ (List.getElem?_eq_getElem hj)⟩
  have det : ∀ (i j : Nat) v, its[i]? = some v → its[j]? = some v → e i = e j := fun i j v ei ej => by
    obtain ⟨u1, x1, _, g1, q1, k1⟩ := at_ i v ei
    obtain ⟨u2, x2, _, g2, q2, k2⟩ := at_ j v ej
    have := RelV.inj q1 q2
    subst this
    exact eqN_det I 15 g1 g2 k1 k2
  refine ⟨fun v => decide (∃ j : Nat, its[j]? = some v ∧ e j = true), fun v hv => ?_, ?_⟩
  · have hv' : v ∈ its := by simpa using hv
    obtain ⟨j, hj, ej⟩ := List.getElem_of_mem hv'
    have ej' : its[j]? = some v := by rw [List.getElem?_eq_getElem hj, ej]
    obtain ⟨u1, x1, _, g1, q1, k1⟩ := at_ j v ej'
    have ed : decide (∃ j : Nat, its[j]? = some v ∧ e j = true) = e j := by
      cases z : e j with
      | true => exact decide_eq_true ⟨j, ej', z⟩
      | false =>
        refine decide_eq_false ?_
        rintro ⟨i, ei, hi⟩
        rw [det i j v ei ej', z] at hi
        cases hi
    show SeqAt.EqAt A.in1 s v b (decide (∃ j : Nat, its[j]? = some v ∧ e j = true))
    rw [ed]
    exact (tri_N I 15 (A := A.in1) (by show A.units + 1 + 15 < cLine; omega) g1 f2 q1 r2 k1).eq
  · rw [hl]
    apply Bool.eq_iff_iff.mpr
    rw [List.any_eq_true, List.any_toArray, List.any_eq_true]
    constructor
    · rintro ⟨j, hj, ej⟩
      have hj' : j < its.length := List.mem_range.mp hj
      exact ⟨its[j], List.getElem_mem hj', decide_eq_true ⟨j, List.getElem?_eq_getElem hj', ej⟩⟩
    · rintro ⟨v, hv, ev⟩
      obtain ⟨j, ej, he⟩ := of_decide_eq_true ev
      exact ⟨j, List.mem_range.mpr (List.getElem?_eq_some_iff.mp ej).1, he⟩
end
section
variable {X : Cx} {C : MC} {a b : Expr} {ma mb : Me} {pos : Pos}
theorem op_inD (hu : X.A.units + 16 < cLine) : OpR X (compareOp .In) (fun x y H Q => ∃ ρ l us xs u k, y = .ref l ∧ (Rd H l (.lst xs) ∨ SqT X.K H l xs) ∧ FzL X.prog X.w X.K ⟨H, ρ⟩ us xs ∧ FzH X H ρ u x ∧ anyEq us u = some k ∧ Q (.bl k) H) := by
  intro pins s σ H x y v u Q I rx ry h
  obtain ⟨ρ, l, us, xs, u0, k, rfl, sq, f1, f2, e, q⟩ := h
  cases ry
  rcases sq with sq | sq
  · obtain ⟨its, r, z, _⟩ := rd_list I sq
    obtain ⟨ev, hev, rfl⟩ := items_any I hu f1 f2 r rx e
    exact SeqAt.in_listAt ev z hev ⟨.bl _, H, I, rfl, q⟩
  · obtain ⟨its, r, z, _⟩ := rd_tup I sq
    obtain ⟨ev, hev, rfl⟩ := items_any I hu f1 f2 r rx e
    exact SeqAt.in_tupleAt ev z hev ⟨.bl _, H, I, rfl, q⟩
theorem op_inDict (hu : X.A.units + 1 < cLine) : OpR X (compareOp .In) (fun x y H Q => ∃ a o, y = .ref a ∧ DGetS X H a x o ∧ Q (.bl o.isSome) H) := by
  intro pins s σ H x y v u Q I rx ry h
  obtain ⟨a, o, rfl, g, q⟩ := h
  cases ry
  exact d_inS hu I g rx fun s3 I3 => ⟨.bl o.isSome, H, I3, rfl, q⟩
def inU (g : Gm) (x y : U) : Option Bool := match look g y with
  | .str j => match x with
    | .str i => some (!(Builtin.Str.occurrences j i 0 j.length 1).isEmpty)
    | _ => none
  | .lst us => anyEq us (look g x)
  | .tup us => anyEq us (look g x)
  | d => (getU d x).map (·.isSome)
def inF (x y : U) (g : Gm) : Res U := match inU g x y with
  | some b => .ok (.bl b) g
  | none => .stuck
abbrev rInD (X : Cx) (n : Bool → Bool) : R2 := fun x y H Q => (∃ i j, x = V.str i ∧ y = .str j ∧ Q (.bl (n (!(Builtin.Str.occurrences j i 0 j.length 1).isEmpty))) H) ∨ (∃ ρ l us xs u k, y = .ref l ∧ (Rd H l (.lst xs) ∨ SqT X.K H l xs) ∧ FzL X.prog X.w X.K ⟨H, ρ⟩ us xs ∧ FzH X H ρ u x ∧ anyEq us u = some k ∧ Q (.bl (n k)) H) ∨ ∃ a o, y = .ref a ∧ DGetS X H a x o ∧ Q (.bl (n o.isSome)) H
theorem in_any {n : Bool → Bool} {S : Ab} {env : Env} {g : Gm} {σ : L2.St} {H : Hp} {x y : U} {u v : V} {Q : VK} {k : Bool} (R : RelX X C S env g σ H) (hx : Bw X.prog X.w X.K S env σ x u) (hy : Bw X.prog X.w X.K S env σ y v) (e : inU g x y = some k) (q : Q (.bl (n k)) H) : rInD X n u v H Q := by
  unfold inU at e
  split at e
  · next j ej =>
    split at e
    · next i => cases e; rw [hx.str R rfl, hy.str R ej]; exact .inl ⟨i, j, rfl, rfl, q⟩
    · cases e
  · next us ej =>
    obtain ⟨a, xs, rfl, sq, f⟩ := hy.list R ej
    exact .inr (.inl ⟨S.ρ, a, us, xs, _, k, rfl, .inl sq, f.le R.G.now, hx.look R, e, q⟩)
  · next us ej =>
    obtain ⟨a, xs, rfl, sq, f⟩ := hy.tuple R ej
    exact .inr (.inl ⟨S.ρ, a, us, xs, _, k, rfl, .inr sq, f.le R.G.now, hx.look R, e, q⟩)
  · cases eg : getU (look g y) x with
    | none => rw [eg] at e; cases e
    | some r =>
      rw [eg] at e; cases e
      obtain ⟨a, o, rfl, gt, h⟩ := get_ok R hy hx eg
      refine .inr (.inr ⟨a, o, rfl, gt, ?_⟩)
      rcases h with ⟨rfl, rfl⟩ | ⟨u2, v2, rfl, rfl, f⟩
      · exact q
      · exact q
theorem sim_in : Sim2 X C (rInD X id) inF := fun S env g σ H x y u v Q R hx hy p => by
  unfold inF at p
  split at p
  · next b e => exact in_any (n := id) R hx hy e (p S _ H (.refl _ _) R rfl)
  · exact p.elim
theorem me_in (hu : X.A.units + 16 < cLine) (ha : MB X C a ma) (hb : MB X C b mb) (hm : behindInMarks .In b = false := by rfl) : ME X C (.Compare a [.In] [b] pos) (opE inF ma mb) := me_cmp (op_in_str.or ((op_inD hu).or (op_inDict (by omega)))) sim_in ha hb hm
theorem mt_in (hu : X.A.units + 16 < cLine) (ha : MB X C a ma) (hb : MB X C b mb) (hm : behindInMarks .In b = false := by rfl) : MT X C (.Compare a [.In] [b] pos) (blE (opE inF ma mb)) := mt_cmp (op_in_str.or ((op_inD hu).or (op_inDict (by omega)))) sim_in ha hb hm
abbrev Mo := Env → Gm → Res (Option Int)
def liftP (X : Cx) (C : MC) (m : Mo) : TO := fun σ H Q => ∃ S env g, RelX X C S env g σ H ∧ Post (m env g) (fun u g' => ∀ S' H', Ext S S' H H' → RelX X C S' env g' σ H' → Q u H') (XPost X.prog X.w X.K C)
structure MP (X : Cx) (C : MC) (e : Option Expr) (m : Mo) : Prop where
  h : PO X e (liftP X C m)
theorem PO.imp {e : Option Expr} {t t' : TO} (h : PO X e t) (k : ∀ σ H Q, t' σ H Q → t σ H Q) : PO X e t' := fun pins s σ H Q I z => h pins s σ H Q I (k σ H Q z)
def noP : Mo := fun _ g => .ok none g
def someP (m : Me) : Mo := fun env g => (m env g).bind fun u g1 => match u with
  | .int i => .ok (some i) g1
  | _ => .stuck
theorem mp_none : MP X C none noP := ⟨PO.imp po_none fun σ H Q ⟨S, env, g, R, p⟩ => p S H (.refl _ _) R⟩
theorem mp_some {m : Me} {e : Expr} (h : ME X C e m) : MP X C (some e) (someP m) := ⟨PO.imp (po_some h.h) fun σ H Q ⟨S, env, g, R, p⟩ => ⟨S, env, g, R, (post_bind.mp p).mono (fun u g1 p S1 v1 H1 X1 R1 F1 => by
  split at p
  · cases F1; exact ⟨_, rfl, p S1 H1 X1 R1⟩
  · exact p.elim) fun _ _ z => z⟩⟩
def cutU (us : List U) (lo hi : Option Int) : List U := (us.drop (HT.sIx us.length 0 lo)).take (HT.sIx us.length us.length hi - HT.sIx us.length 0 lo)
theorem cut_fz {P : Program} {w : World} {K : PySem.W.Frag} {S : Ab} {us : List U} {xs : List V} (h : FzL P w K S us xs) (lo hi : Option Int) : FzL P w K S (cutU us lo hi) (cutV xs lo hi) := by
  unfold cutU cutV
  rw [h.length]
  exact (h.drop _).take _
def slE (f : U → Option Int → Option Int → Gm → Res U) (m : Me) (lo hi : Mo) : Me := fun env g => (m env g).bind fun u g1 => (lo env g1).bind fun l g2 => (hi env g2).bind fun h g3 => f u l h g3
def slF (x : U) (lo hi : Option Int) (g : Gm) : Res U := match look g x with
  | .str z => if z.length ≤ sizeLine then .ok (.str (Txt.slice z lo hi)) g else .stuck
  | .tup us => if HT.sIx us.length 0 lo = 0 ∧ HT.sIx us.length us.length hi = us.length then .stuck else .ok (.tup (cutU us lo hi)) g
  | _ => .stuck
def slL (x : U) (lo hi : Option Int) (g : Gm) : Res U := match look g x with
  | .lst us => .ok (.lst (cutU us lo hi)) g
  | .scr us => .ok (.lst (cutU us lo hi)) g
  | _ => .stuck
theorem me_slice {e : Expr} {m : Me} {lo hi : Option Expr} {ml mh : Mo} {p2 : Pos} (he : MB X C e m) (hl : MP X C lo ml) (hh : MP X C hi mh) : ME X C (.Subscript e (.Slice lo hi none p2) pos) (slE slF m ml mh) := ⟨PE.imp (pe_slice (sl_str.or sl_tup) he.h hl.h hh.h) fun σ H Q ⟨S, env, g, R, p⟩ => ⟨S, env, g, R, (post_bind.mp p).mono (fun u g1 p S1 v1 H1 X1 R1 F1 => ⟨S1, env, g1, R1, (post_bind.mp p).mono (fun l g2 p S2 H2 X2 R2 => ⟨S2, env, g2, R2, (post_bind.mp p).mono (fun h g3 p S3 H3 X3 R3 => by
  have F3 := F1.le (X2.le.trans X3.le)
  have XX := (X1.trans X2).trans X3
  unfold slF at p
  split at p
  · next z e =>
    split at p
    · next hz => rw [F3.str R3 e]; exact .inl ⟨z, rfl, hz, p S3 _ H3 XX R3 rfl⟩
    · exact p.elim
  · next us e =>
    split at p
    · exact p.elim
    · next hn =>
      obtain ⟨a, xs, rfl, q, f⟩ := F3.tuple R3 e
      refine .inr ⟨a, xs, rfl, q, by rw [← f.length]; exact hn, fun r hr => ?_⟩
      exact newT (fun S4 v4 H4 X4 R4 F4 => p S4 v4 H4 (XX.trans X4) R4 F4) R3 (cut_fz f _ _) hr
  · exact p.elim) fun _ _ z => z⟩) fun _ _ z => z⟩) fun _ _ z => z⟩⟩
theorem mo_slice {e : Expr} {m : Me} {lo hi : Option Expr} {ml mh : Mo} {p2 : Pos} (he : MB X C e m) (hl : MP X C lo ml) (hh : MP X C hi mh) : MO X C (.Subscript e (.Slice lo hi none p2) pos) (slE slL m ml mh) := ⟨PE.imp (pe_slice sl_list he.h hl.h hh.h) fun σ H Q ⟨S, env, g, R, p⟩ => ⟨S, env, g, R, (post_bind.mp p).mono (fun u g1 p S1 v1 H1 X1 R1 F1 => ⟨S1, env, g1, R1, (post_bind.mp p).mono (fun l g2 p S2 H2 X2 R2 => ⟨S2, env, g2, R2, (post_bind.mp p).mono (fun h g3 p S3 H3 X3 R3 => by
  have F3 := F1.le (X2.le.trans X3.le)
  have XX := (X1.trans X2).trans X3
  unfold slL at p
  split at p
  · next us e =>
    obtain ⟨a, xs, rfl, q, f⟩ := F3.list R3 e
    refine ⟨a, xs, rfl, .inl q, fun r hr => ?_⟩
    exact newO (fun S4 v4 H4 X4 R4 ow fr n h => p S4 v4 H4 (XX.trans X4) R4 ow fr n (none_back XX h)) R3 (cut_fz f _ _) hr
  · next us e =>
    obtain ⟨a, xs, rfl, q, f⟩ := F3.scr R3 e
    refine ⟨a, xs, rfl, q, fun r hr => ?_⟩
    exact newO (fun S4 v4 H4 X4 R4 ow fr n h => p S4 v4 H4 (XX.trans X4) R4 ow fr n (none_back XX h)) R3 (cut_fz f _ _) hr
  · exact p.elim) fun _ _ z => z⟩) fun _ _ z => z⟩) fun _ _ z => z⟩⟩
end
end MM
namespace BB
open PySem PySem.Spec PyProof.Rows L2
def PTs (X : Cx) (ifs : List Expr) (t : TT) : Prop := ∀ (pins : List (Addr × Obj)) (s : Shared) (σ : L2.St) (H : Hp) (Q : Bool → Hp → Prop), Inv X pins σ H s → t σ H Q →
  wpAny (model X.prog X.w) X.A (forIn ifs true fun c r => if r = true then do let ok ← isTrue c X.env (eval c X.env); pure (ForInStep.yield ok) else pure (ForInStep.yield r)) (TP X pins σ Q) X.xe s
theorem pts_nil {X : Cx} : PTs X [] (fun _ H Q => Q true H) := fun pins s σ H Q I h => wpAny_tests_nil ⟨H, I, h⟩
theorem pts_one {X : Cx} {c : Expr} {t : TT} (h : PT X c t) : PTs X [c] t := fun pins s σ H Q I z => wpAny_tests_one (h pins s σ H Q I z)
def CompAt2 (J : It) (tt : TT) (te : TE) (σc : L2.St) (Q : VK) (H1 : Hp) (D : Addr) : Prop := ∃ W : Nat → Nat → List V → Hp → Prop, (∃ m, W 0 m [] (upd H1 D (.lst []))) ∧ ∀ i m ys H, W i m ys H →
  H D = some (.lst ys) ∧ ((J.stop i H ∧ Q (.ref D) H) ∨ (J.go i H ∧ ys.length < sizeLine ∧ ∀ v H', J.yld i H v H' → tt (some v :: σc) H' fun ok H2 => if ok = true then te (some v :: σc) H2 fun y H2 => H2 D = some (.lst ys) ∧ ∃ m', m' < m ∧ W (i + 1) m' (ys ++ [y]) (upd H2 D (.lst (ys ++ [y])))
    else H2 D = some (.lst ys) ∧ ∃ m', m' < m ∧ W (i + 1) m' ys H2))
def tComp2 (wi : TI) (tt : TT) (te : TE) (ci : List Nat) : TE := fun σ H Q => wi σ H fun J H1 => ∀ D, H1 D = none → CompAt2 J tt te (capS ci σ) Q H1 D
theorem comp_any {X : Cx} {scope : Scope} {cl : List (Str × Addr)} {x : Str} {px pos cpos : Pos} {iter elt : Expr} {ifs : List Expr} {N : List Str} {ci : List Nat} {te : TE} {tt : TT} {wi : TI} {use : Option (Value → Sem Unit)} {Qf : Value → Shared → Prop} {Q : VK} {pins : List (Addr × Obj)} {s : Shared} {σ : L2.St} {H : Hp}
    (S : CompSc X scope cl x N ci) (hc : X.calm = true) (hi : PI X (.Name x px) iter wi) (hts : ∀ C s H ex pn, PTs (cxComp X scope cl C N s H ex pn) ifs tt)
    (he : ∀ C s H ex pn, PE (cxComp X scope cl C N s H ex pn) elt te) (hs : ∀ y, foldedSetIterable iter X.env y = pure y) (I : Inv X pins σ H s) (h : tComp2 wi tt te ci σ H Q)
    (fin : ∀ (s2 s4 : Shared) (H2 H3 : Hp) (C D : Addr) (m : Str → Option Value), Inv X pins σ H2 s2 → s2.heap.objs.size ≤ C → Inv X pins σ H3 s4 → H3 C = none → s4.heap.Ns C m → (∀ h', Heap.SameBut C s4.heap h' → Inv X pins σ H3 { s4 with heap := h' }) → Q (.ref D) H3 → compPost (model X.prog X.w) X.A X.xe use Qf (.ref D) C (.ok .next) s4) :
    wpAny (model X.prog X.w) X.A (comprehension (.ListComp elt [⟨.Name x px, iter, ifs, 0⟩] scope pos) scope X.env cpos (newList []) false (eval iter X.env) use) Qf X.xe s := by
  refine wpAny_comprehension_free (use := use) rfl hs S.clos S.kind S.names (thn (hi pins s σ H _ I h) fun v s1 h1 => thn h1 fun itv s2 h2 => ?_)
  obtain ⟨it, fp, tn, J, H2, rfl, I2, T, st2, f2, hD⟩ := h2
  obtain ⟨W, ⟨m0, w0⟩, turn⟩ := hD s2.heap.objs.size (I2.hok.fresh (Nat.le_refl _))
  refine wpAny_newObj_type (wpAny_newFunctionEnv S.ncell (by intro y hy; simp at hy) (fun h₁ hns₁ hsb₁ => ?_) S.kind)
  dsimp only at hns₁ hsb₁ ⊢
  generalize hH2 : s2.heap.push { cls := .type "list", dict := none, data := .seq ([] : List Value).toArray } = hp2 at hns₁ hsb₁ ⊢
  have hCz : hp2.objs.size = s2.heap.objs.size + 1 := by rw [← hH2, Heap.size_push]
  have hDC : s2.heap.objs.size ≠ hp2.objs.size := by rw [hCz]; exact Nat.ne_of_lt (Nat.lt_succ_self _)
  have hCle : s2.heap.objs.size ≤ hp2.objs.size := by rw [hCz]; exact Nat.le_succ _
  have old : ∀ b o, s2.heap.get? b = some o → h₁.get? b = some o := fun b o e => hsb₁.extBut b o (Nat.ne_of_lt (by rw [hCz]; exact Nat.lt_succ_of_lt (Heap.lt_size e))) (Heap.get?_push_of_some _ (hH2 ▸ Heap.get?_push_of_some _ e))
  have hDg : h₁.get? s2.heap.objs.size = some { cls := .type "list", dict := none, data := .seq ([] : List Value).toArray } := hsb₁.extBut _ _ hDC (Heap.get?_push_of_some _ (hH2 ▸ Heap.get?_push_size _ rfl))
  have f2z : ∀ b ∈ fp, b < s2.heap.objs.size := fun b hb => let ⟨o, e, _⟩ := T.obj _ _ st2 b hb; Heap.lt_size e
  let X' := cxComp X scope cl hp2.objs.size N s2 H2 fp (X.pn ++ pins)
  have hCnone : ∀ o, upd H2 s2.heap.objs.size o hp2.objs.size = none := fun o => by rw [upd_ne hDC.symm]; exact I2.hok.fresh hCle
  have sub2 : ∀ b ∈ frs X.stack, b < s2.heap.objs.size := fun b hb => by
    obtain ⟨_, o, ho, _⟩ := I2.stack.mem hb
    exact Heap.lt_size ho
  have cellz : ∀ y c, cl.lookup y = some c → c < s2.heap.objs.size ∧ H2 c = none := fun y c e => by
    have e' := S.sub y c e
    obtain ⟨v, q⟩ := I2.cell y c e'
    exact ⟨q.lt, I2.freeC y c e'⟩
  have kloc : X'.env.kindOf x = some .local := lookup_relabel_local S.hx
  have okX : X'.Ok := {
    mod := I2.ok.mod
    kind := S.kind
    glob := I2.ok.glob
    blt := I2.ok.blt
    above := hCle
    inj := fun y z c e1 e2 => I2.ok.inj y z c (S.sub y c e1) (S.sub z c e2)
    has := fun y hy => by
      have key : ∀ k, (relabel scope X.env).names.lookup y = some k → (k = .cell ∨ k = .free) → ∃ c, cl.lookup y = some c := fun k hk hkk => by
        have hm := lookup_mem hk
        obtain ⟨⟨n, k0⟩, hm0, e0⟩ := List.mem_map.mp hm
        have hn : n = y ∧ k0 = .free := by
          dsimp only at e0
          split at e0
          · rename_i hcond
            cases e0
            simp only [Bool.and_eq_true, beq_iff_eq] at hcond
            exact ⟨rfl, hcond.1.1⟩
          · cases e0
            rcases hkk with rfl | rfl
            · exact absurd rfl (S.ncell _ hm0)
            · exact ⟨rfl, rfl⟩
        obtain ⟨rfl, rfl⟩ := hn
        exact Option.isSome_iff_exists.mp (S.has _ hm0 rfl)
      rcases hy with hy | hy
      · exact key _ hy (.inl rfl)
      · exact key _ hy (.inr rfl)
    cab := fun y c hf _ => by cases hf
    hd := I2.ok.hd
    frames := I2.ok.frames
    stk := .inl rfl
    exf := fun b hb => ⟨Nat.ne_of_lt (by rw [show X'.env.locals = hp2.objs.size from rfl, hCz]; exact Nat.lt_succ_of_lt (f2z b hb)), fun y c e => (f2 b hb).2.2.2.2.1 y c (S.sub y c e)⟩
    bs := I2.bs
    bsz := Nat.le_trans I2.ok.bsz I2.sz
    noex := fun b o e hb => by
      rcases (f2 b hb).2.2.2.1 with z | z
      · exact I2.ok.noex b o e z
      · exact absurd (Nat.lt_of_lt_of_le (Heap.lt_size e) (Nat.le_trans I2.ok.bsz z)) (Nat.lt_irrefl _)
    exfs := fun b hb hb2 => by
      rcases List.mem_cons.mp (I2.stkSub b hb2) with z | z
      · exact (f2 b hb).2.1 z
      · exact (f2 b hb).2.2.1 z
    funs := I2.stack
    frf := I2.stkFree }
  have hokD : HOk X.prog X.w (upd H2 s2.heap.objs.size (.lst [])) h₁ := I2.hok.laid old (Nat.le_refl _) ⟨Nat.zero_le _, [], _, .nil, hDg⟩
  have I0 : L2.Inv X' [] (none :: capS ci σ) (upd H2 s2.heap.objs.size (.lst [])) { s2 with heap := h₁, toks := s2.toks + ([] : List (Str × Value)).length } := {
    ok := okX
    os := rfl
    bare := I2.bare
    base := Un.laid old (Nat.le_refl _) (I2.hok.fresh (Nat.le_refl _))
    loc := by
      refine ⟨_, hns₁, fun i y v e1 e2 e3 => ?_⟩
      cases i with
      | zero => simp at e2
      | succ j =>
        have e2' : (capS ci σ)[j]? = some (some v) := by simpa using e2
        unfold capS at e2'
        rw [List.getElem?_map] at e2'
        cases ej : ci[j]? with
        | none => rw [ej] at e2'; cases e2'
        | some i0 =>
          rw [ej] at e2'
          have e4 : (σ[i0]?).join = some v := Option.some.inj e2'
          have e5 : σ[i0]? = some (some v) := by
            cases q : σ[i0]? with
            | none => rw [q] at e4; cases e4
            | some o => rw [q] at e4; have : o = some v := e4; rw [this]
          obtain ⟨c1, c2, c3⟩ := S.cap j i0 y ej e1
          obtain ⟨m, hn, hl⟩ := I2.loc
          obtain ⟨u, r, l⟩ := hl i0 y v c1 e5 (.inr (.inl c2))
          refine ⟨u, r, .inr ⟨.inl c3, ?_⟩⟩
          rcases l with ⟨k, _⟩ | ⟨_, c, e, z⟩
          · rw [c2] at k; cases k
          · obtain ⟨c', hc'⟩ := okX.has y (.inl c3)
            have := S.sub y c' hc'
            rw [e] at this
            cases this
            obtain ⟨oz, hz, hd⟩ := z
            exact ⟨c, hc', oz, old _ _ hz, hd⟩
    cell := fun y c e => by
      obtain ⟨v, oz, hz, hd⟩ := I2.cell y c (S.sub y c e)
      exact ⟨v, oz, old _ _ hz, hd⟩
    free := hCnone _
    freeC := fun y c e => by
      rw [upd_ne (Nat.ne_of_lt (cellz y c e).1)]; exact (cellz y c e).2
    pin := fun p hp => by
      have hp' : p ∈ X.pn ++ pins := by simpa [X', cxComp] using hp
      obtain ⟨e, n, ne, nf, d⟩ := I2.pin p hp'
      refine ⟨old _ _ e, ?_, Nat.ne_of_lt (by rw [show X'.env.locals = hp2.objs.size from rfl, hCz]; exact Nat.lt_succ_of_lt (Heap.lt_size e)), fun z => ?_, d⟩
      · rw [upd_ne (Nat.ne_of_lt (Heap.lt_size e))]; exact n
      · rcases List.mem_cons.mp (I2.stkSub p.1 z) with z | z
        · exact ne z
        · exact nf z
    hok := hokD
    len := by show (none :: capS ci σ).length = N.length; rw [S.len]; simp [capS] }
  have loop : ∀ s₃ : Shared, s₃ = { s2 with heap := h₁, toks := s2.toks + ([] : List (Str × Value)).length } →
      codeAny (model X.prog X.w) X.A (.compLoop (.ListComp elt [⟨.Name x px, iter, ifs, 0⟩] scope pos) 0 (.ref it) (.ref s2.heap.objs.size) (compEnvC scope cl hp2.objs.size X.env))
        (compPost (model X.prog X.w) X.A X.xe use Qf (.ref s2.heap.objs.size) hp2.objs.size) s₃ := by
    rintro s₃ rfl
    have stat : ∀ {H' : Hp}, (∀ b ∈ fp, H' b = none) → ∀ b ∈ fp, FpOk X' [] H' b := fun hn b hb => ⟨hn b hb, (okX.exf b hb).1, okX.exfs b hb, .inl hb, (okX.exf b hb).2, fun p hp => (f2 b hb).2.2.2.2.2 p (by simpa [X', cxComp] using hp)⟩
    refine codeAny_compLoop_tests (fun n s' => ∃ i ys σ0 H', L2.Inv X' [] (σ0 :: capS ci σ) H' s' ∧ tn i s'.heap ∧ (∀ b ∈ fp, H' b = none) ∧ W i n ys H') ?_ m0
      ⟨0, [], none, _, I0, T.keep _ _ _ st2 (fun b _ o e => old b o e), fun b hb => by rw [upd_ne (Nat.ne_of_lt (f2z b hb))]; exact (f2 b hb).1, w0⟩
    rintro n s3 ⟨i, ys, σ0, H3, I3, st3, fr3, w3⟩
    obtain ⟨hD3, way⟩ := turn i n ys H3 w3
    rcases way with ⟨stop, q⟩ | ⟨go, hlen, step⟩
    · refine thn (T.done X' rfl rfl rfl hc i [] s3 _ H3 _ I3 (stat fr3) st3 stop) fun r s4 ⟨hr, I4⟩ => ?_
      subst hr
      obtain ⟨m, hn, _⟩ := I4.loc
      have IX : ∀ h', Heap.SameBut hp2.objs.size s4.heap h' → Inv X pins σ H3 { s4 with heap := h' } := fun h' hs' => Inv.call' (s' := { s4 with heap := h' }) (ch := fp) I2 I4.os (un_but I4.base hs' hCle) (hok_but I4.hok hs' I4.free) I4.bare fun b hb => by
        obtain ⟨g1, g2, g3, g4, g5, g6⟩ := f2 b hb
        exact ⟨g4, g2, g5, g6⟩
      have IX0 : Inv X pins σ H3 s4 := Inv.call' (s' := s4) (ch := fp) I2 I4.os I4.base I4.hok I4.bare fun b hb => by
        obtain ⟨g1, g2, g3, g4, g5, g6⟩ := f2 b hb
        exact ⟨g4, g2, g5, g6⟩
      exact fin s2 s4 H2 H3 hp2.objs.size s2.heap.objs.size m I2 hCle IX0 I4.free hn IX q
    · refine thn (T.item X' rfl rfl rfl hc i [] s3 _ H3 _ I3 (stat fr3) st3 go) fun r s4 ⟨u, hr, h4⟩ => ?_
      subst hr
      dsimp only
      have ff : ∀ (e : Value) (s' : Shared), X'.xe e s' → notedBy (model X.prog X.w) X.A (compEnvC scope cl hp2.objs.size X.env) (fun e s' => compPost (model X.prog X.w) X.A X.xe use Qf (.ref s2.heap.objs.size) hp2.objs.size (.error e) s') e s' := fun _ _ z => z.elim
      show wpAny _ _ (letOwnedTupleGo (.Name x px) (.ref it) u >>= fun _ => assign (.Name x px) (compEnvC scope cl hp2.objs.size X.env) u) _ _ _
      refine wpAny_bind (thn h4 fun _ s5 ⟨v, H5, I5, r5, y5, st5, fr5⟩ => ?_)
      have I5' := I5.pinned (stat fr5) (T.obj _ _ st5)
      have hg : PG X' (.Name x px) (gName 0) := pg_name S.nd S.n0 (.inl kloc) (.inr kloc)
      refine wpAny_mono (hg _ s5 _ H5 v u (fun σ' H' => σ' = some v :: capS ci σ ∧ H' = H5) I5' r5 ⟨rfl, rfl⟩) (fun _ s6 ⟨σ6, H6, I6, e6, e7⟩ => ?_) ff
      subst e6 e7
      refine wpAny_mono (hts _ _ _ _ _ _ s6 _ H6 _ I6 (step v H6 y5)) (fun ok s6' ⟨H6', I6', way⟩ => ?_) ff
      dsimp only at way
      by_cases hok : ok = true
      · rw [if_pos hok] at way ⊢
        refine wpAny_mono (he _ _ _ _ _ _ s6' _ H6' _ I6' way) (fun uy s7 ⟨y, H7, I7, ry, hD7, m', hm', w7⟩ => ?_) ff
        refine wpAny_mono (mt_append (X := X') _ s7 _ H7 (.ref s2.heap.objs.size) [y] (.ref s2.heap.objs.size) [uy] (fun v H' => v = .non ∧ H' = upd H7 s2.heap.objs.size (.lst (ys ++ [y]))) I7 rfl (.cons ry .nil) ⟨_, ys, y, rfl, rfl, hD7, hlen, rfl, rfl⟩) (fun _ s8 ⟨v8, H8, I8, _, e8, e9⟩ => ?_) ff
        subst e9
        refine ⟨m', hm', i + 1, _, _, _, I8.unpinned, T.keep _ _ _ st5 fun b hb o e => (I8.pin (b, o) (List.mem_append_right _ (List.mem_append_right _ (mem_pinsAt hb e)))).1, fun b hb => ?_, w7⟩
        obtain ⟨o, e, d⟩ := T.obj _ _ st5 b hb
        exact (I8.pin (b, o) (List.mem_append_right _ (List.mem_append_right _ (mem_pinsAt hb e)))).2.1
      · rw [if_neg hok] at way ⊢
        obtain ⟨hD7, m', hm', w7⟩ := way
        refine ⟨m', hm', i + 1, _, _, _, I6'.unpinned, T.keep _ _ _ st5 fun b hb o e => (I6'.pin (b, o) (List.mem_append_right _ (List.mem_append_right _ (mem_pinsAt hb e)))).1, fun b hb => ?_, w7⟩
        obtain ⟨o, e, d⟩ := T.obj _ _ st5 b hb
        exact (I6'.pin (b, o) (List.mem_append_right _ (List.mem_append_right _ (mem_pinsAt hb e)))).2.1
  exact codeAny_compStart_list (loop _ rfl) (T.self _ 0 _ _ _ (T.keep _ _ _ st2 fun b _ o e => old b o e) (loop _ rfl))
theorem pe_comp2 {X : Cx} {scope : Scope} {cl : List (Str × Addr)} {x : Str} {px pos : Pos} {iter elt : Expr} {ifs : List Expr} {N : List Str} {ci : List Nat} {te : TE} {tt : TT} {wi : TI} (S : CompSc X scope cl x N ci) (hc : X.calm = true) (hi : PI X (.Name x px) iter wi)
    (hts : ∀ C s H ex pn, PTs (cxComp X scope cl C N s H ex pn) ifs tt) (he : ∀ C s H ex pn, PE (cxComp X scope cl C N s H ex pn) elt te) (hs : ∀ y, foldedSetIterable iter X.env y = pure y := by intro _; rfl) :
    PE X (.ListComp elt [⟨.Name x px, iter, ifs, 0⟩] scope pos) (tComp2 wi tt te ci) := by
  intro pins s σ H Q I h
  rw [eval_ListComp]
  exact comp_any S hc hi hts he hs I h fun s2 s4 H2 H3 C D m I2 hC I4 hf hn IX q => ⟨m, hn, fun h' hs' => ⟨.ref D, H3, IX h' hs', rfl, q⟩⟩
theorem ps_setComp2 {X : Cx} {iY : Nat} {yN : Str} {py spos : Pos} (hN : X.N.Nodup) (hiY : X.N[iY]? = some yN) (hyl : Loc X.env.scope yN) (hf : X.fn yN = true ∨ X.env.scope.names.lookup yN = some .local) {scope : Scope} {cl : List (Str × Addr)} {x : Str} {px pos : Pos} {iter elt : Expr} {ifs : List Expr} {N : List Str} {ci : List Nat} {te : TE} {tt : TT} {wi : TI} (S : CompSc X scope cl x N ci) (hc : X.calm = true) (hi : PI X (.Name x px) iter wi)
    (hts : ∀ C s H ex pn, PTs (cxComp X scope cl C N s H ex pn) ifs tt) (he : ∀ C s H ex pn, PE (cxComp X scope cl C N s H ex pn) elt te) (hs : ∀ y, foldedSetIterable iter X.env y = pure y := by intro _; rfl) (hsw : swapsWith (.ListComp elt [⟨.Name x px, iter, ifs, 0⟩] scope pos) (some (.Name yN py)) spos.line X.env = pure true := by rfl) :
    PS X (.Assign [.Name yN py] (.ListComp elt [⟨.Name x px, iter, ifs, 0⟩] scope pos) spos) (tAsg (tComp2 wi tt te ci) (gName iY)) := by
  intro pins s σ H Dd I h
  rw [exec_Assign_Name_used _ _ _ _ hsw]
  refine wpAny_bind (wpAny_standAt (wpAny_bind ?_))
  show wpAny _ X.A (do let _ ← comprehension (.ListComp elt [⟨.Name x px, iter, ifs, 0⟩] scope pos) scope X.env _ (newList []) false (eval iter X.env) (some (assign (.Name yN py) X.env))) _ _ s
  refine wpAny_bind (wpAny_mono (comp_any (use := some (assign (.Name yN py) X.env)) (Qf := fun _ s' => SP X pins Dd .next s') S hc hi hts he hs I h fun s2 s4 H2 H3 C D m I2 hC I4 hfr hn IX q => ?_) (fun _ s' hq => wpAny_pure (wpAny_pure hq)) fun _ _ e => e)
  obtain ⟨mL, hnL, _⟩ := I2.loc
  have hLC : X.env.locals ≠ C := Nat.ne_of_lt (Nat.lt_of_lt_of_le hnL.lt hC)
  have hcC : ∀ y c, X.env.cells.lookup y = some c → c ≠ C := fun y c e => by
    obtain ⟨v, q⟩ := I2.cell y c e
    exact Nat.ne_of_lt (Nat.lt_of_lt_of_le q.lt hC)
  show wpAny _ X.A (assign (.Name yN py) X.env (.ref D)) _ _ _
  refine wpAny_assign_Name (store_ok2 (v := .ref D) I4 hN hiY hyl rfl (fun s5 I5 sb => ?_) hf)
  obtain ⟨a5, hs5, ha5⟩ := sb
  have hCa : C ≠ a5 := by
    rcases ha5 with rfl | e
    · exact hLC.symm
    · exact (hcC _ _ e).symm
  refine ⟨m, hn.sameBut hs5 hCa, fun h' hs' => ⟨_, H3, inv_but I5 hs' (Nat.le_trans I2.sz hC) hfr hLC hcC (fun p hp => ?_), q⟩⟩
  exact Nat.ne_of_lt (Nat.lt_of_lt_of_le (Heap.lt_size (I2.pin p hp).1) hC)
end BB
namespace MM
open PySem PySem.Spec PyProof.Rows L2 BB PP
def MC.nox (C : MC) : MC := { C with E := fun _ _ _ => False }
section
variable {P : Program} {w : World} {K : PySem.W.Frag} {C : MC} {S S' S1 : Ab} {g : Gm} {H H' H1 : Hp} {env : Env} {σ : L2.St} {D : Addr} {o : HO}
theorem RelG.nox (R : RelG P w K C S g H) : RelG P w K C.nox S g H := ⟨R.zs, R.cs, R.rl, R.rn, R.rz, R.ext⟩
theorem RelG.unnox (R : RelG P w K C.nox S g H) : RelG P w K C S g H := ⟨R.zs, R.cs, R.rl, R.rn, R.rz, R.ext⟩
theorem RelG.bare (R : RelG P w K C S g H) : Rel P w K C S [] g [] H := ⟨R, rfl, fun j u e => by simp at e, fun j u e => by simp at e, fun j j' u u' a e => by simp at e⟩
theorem Free.ext (f : Free C S D) (h : H D ≠ none) (x : Ext S S' H H') : Free C S' D := ⟨by
  cases z : S'.Z D with
  | none => rfl
  | some o =>
    rcases x.zn D (by rw [z]; exact fun y => by cases y) with q | q
    · exact absurd f.1 q
    · exact absurd q h, fun m => by
  obtain ⟨l, e1, hl⟩ := x.r
  rw [e1] at m
  rcases List.mem_append.mp m with m | m
  · exact f.2.1 m
  · exact h (hl D m), f.2.2⟩
theorem Ext.fresh (x : Ext S1 S H1 H) (h1 : H1 D = none) (h : H D ≠ none) : Ext S1 S H1 (upd H D o) := ⟨x.z, x.zn, x.r, fun a q e n => by
  have : a ≠ D := fun z => by rw [z, h1] at e; cases e
  rw [upd_ne this]; exact x.fr a q e n, fun a e => by
  by_cases ha : a = D
  · subst ha; rw [upd_same]; exact fun z => by cases z
  · rw [upd_ne ha]; exact x.dom a e⟩
def capE (ci : List Nat) (env : Env) : Env := ci.map fun (i : Nat) => match (env[i]? : Option Sl) with
  | some (Sl.v u) => Sl.v u
  | _ => Sl.no
theorem capE_rel {C' : MC} {u : U} {v : V} {ci : List Nat} (L : RelE P w K C S1 env σ H1) (l : Le S1 S) (f : Fz P w K S u v) : RelE P w K C' S (.v u :: capE ci env) (some v :: capS ci σ) H where
  el := by simp [capE, capS]
  ev j u1 e := by
    cases j with
    | zero => cases e; exact ⟨v, rfl, f⟩
    | succ j =>
      have e' : (capE ci env)[j]? = some (.v u1) := by simpa using e
      unfold capE at e'
      rw [List.getElem?_map] at e'
      cases ej : ci[j]? with
      | none => rw [ej] at e'; cases e'
      | some i0 =>
        rw [ej] at e'
        have e2 : (match (env[i0]? : Option Sl) with | some (Sl.v u) => Sl.v u | _ => Sl.no) = .v u1 := Option.some.inj e'
        split at e2
        · next u2 e3 =>
          cases e2
          obtain ⟨v1, e4, f4⟩ := L.ev i0 u1 e3
          refine ⟨v1, ?_, f4.le l⟩
          show (capS ci σ)[j]? = some (some v1)
          unfold capS
          rw [List.getElem?_map, ej]
          show some ((σ[i0]?).join) = _
          rw [e4]; rfl
        · cases e2
  eo j u1 e := by
    exfalso
    cases j with
    | zero => cases e
    | succ j =>
      have e' : (capE ci env)[j]? = some (.own u1) := by simpa using e
      unfold capE at e'
      rw [List.getElem?_map] at e'
      cases ej : ci[j]? with
      | none => rw [ej] at e'; cases e'
      | some i0 =>
        rw [ej] at e'
        have e2 : (match (env[i0]? : Option Sl) with | some (Sl.v u) => Sl.v u | _ => Sl.no) = .own u1 := Option.some.inj e'
        split at e2 <;> cases e2
  ed j j' u1 u2 a e := by
    exfalso
    cases j with
    | zero => cases e
    | succ j =>
      have e' : (capE ci env)[j]? = some (.own u1) := by simpa using e
      unfold capE at e'
      rw [List.getElem?_map] at e'
      cases ej : ci[j]? with
      | none => rw [ej] at e'; cases e'
      | some i0 =>
        rw [ej] at e'
        have e2 : (match (env[i0]? : Option Sl) with | some (Sl.v u) => Sl.v u | _ => Sl.no) = .own u1 := Option.some.inj e'
        split at e2 <;> cases e2
end
structure MTs (X : Cx) (C : MC) (ifs : List Expr) (m : Mt) : Prop where
  h : PTs X ifs (liftT X C m)
def ttT : Mt := fun _ g => .ok true g
theorem PTs.imp {X : Cx} {ifs : List Expr} {t t' : TT} (h : PTs X ifs t) (k : ∀ σ H Q, t' σ H Q → t σ H Q) : PTs X ifs t' := fun pins s σ H Q I z => h pins s σ H Q I (k σ H Q z)
theorem mts_nil {X : Cx} {C : MC} : MTs X C [] ttT := ⟨PTs.imp pts_nil fun σ H Q ⟨S, env, g, R, p⟩ => p S H (.refl _ _) R⟩
theorem mts_one {X : Cx} {C : MC} {c : Expr} {m : Mt} (h : MT X C c m) : MTs X C [c] m := ⟨pts_one h.h⟩
def compL (mt : Mt) (me : Me) (envc : Env) : List U → Gm → Res (List U)
  | [], g => .ok [] g
  | u :: us, g => match mt (.v u :: envc) g with
    | .ok true g1 => match me (.v u :: envc) g1 with
      | .ok y g2 => (compL mt me envc us g2).bind fun ys g3 => .ok (y :: ys) g3
      | _ => .stuck
    | .ok false g1 => compL mt me envc us g1
    | _ => .stuck
def compE (mi : Ma) (mt : Mt) (me : Me) (ci : List Nat) : Me := fun env g => (mi env g).bind fun us g1 => if us.length < sizeLine then match compL mt me (capE ci env) us g1 with
    | .ok ys g2 => .ok (.lst ys) g2
    | _ => .stuck
  else .stuck
section
variable {X : Cx} {C : MC}
theorem compL_noexc {mt : Mt} {me : Me} {envc : Env} : ∀ {us : List U} {g : Gm} {x : Exn} {g' : Gm}, compL mt me envc us g = .exc x g' → False
  | [], g, x, g', h => by cases h
  | u :: us, g, x, g', h => by
    unfold compL at h
    split at h
    · split at h
      · next y g2 _ =>
        cases q : compL mt me envc us g2 with
        | ok a b => rw [q] at h; cases h
        | exc a b => exact compL_noexc q
        | stuck => rw [q] at h; cases h
      · cases h
    · exact compL_noexc h
    · cases h
theorem comp_imp {mi : Ma} {mt : Mt} {me : Me} {ci : List Nat} : ∀ σ H Q, liftO X C (compE mi mt me ci) σ H Q → tComp2 (liftI X C mi) (liftT X C.nox mt) (liftE X C.nox me) ci σ H Q := fun σ H Q ⟨S, env, g, R, p⟩ => by
  refine ⟨S, env, g, R, (post_bind.mp p).mono (fun us g1 p S1 J H1 X1 R1 hJ => ?_) fun _ _ z => z⟩
  split at p
  case isFalse => exact p.elim
  next hlen =>
  split at p
  case h_2 => exact p.elim
  next ysU g2 hrun =>
  intro D hD
  have fD := R1.G.free hD
  let W : Nat → Nat → List V → Hp → Prop := fun i n ys H' => n = us.length - i ∧ i ≤ us.length ∧ ∃ S2 g3 done rest, Ext S1 S2 H1 H' ∧ RelG X.prog X.w X.K C S2 g3 H' ∧ Free C S2 D ∧ H' D = some (.lst ys) ∧ FzL X.prog X.w X.K S2 done ys ∧ done.length ≤ i ∧ compL mt me (capE ci env) (us.drop i) g3 = .ok rest g2 ∧ done ++ rest = ysU
  refine ⟨W, ⟨us.length, by simp, Nat.zero_le _, S1, g1, [], ysU, .grow (upd_keeps hD), R1.G.grow (upd_keeps hD), fD, upd_same, rfl, Nat.le_refl _, hrun, rfl⟩, ?_⟩
  rintro i n ys H' ⟨hn, hi, S2, g3, done, rest, X2, R2, f2, hD2, fz, hdone, hr, hcat⟩
  refine ⟨hD2, ?_⟩
  by_cases he : i = us.length
  · subst he
    rw [List.drop_length] at hr
    cases hr
    rw [List.append_nil] at hcat
    subst hcat
    exact .inl ⟨hJ.stop S2 [] g2 [] H' X2.le R2.bare, p S2 D H' (X1.trans X2) ⟨R2, R1.L.ext X2⟩ ⟨ys, hD2, fz⟩ f2 (R1.L.noslot hD) (none_back X1 hD)⟩
  · have hlt : i < us.length := by omega
    refine .inr ⟨hJ.go i S2 [] g3 [] H' X2.le R2.bare hlt, by rw [← fz.length]; omega, fun v H3 hy => ?_⟩
    obtain ⟨S3, u, X3, R3, eu, F3⟩ := hJ.yld i S2 [] g3 [] H' v H3 X2.le R2.bare hlt hy
    have eu' : us[i] = u := by rw [List.getElem?_eq_getElem hlt] at eu; exact Option.some.inj eu
    rw [List.drop_eq_getElem_cons hlt, eu'] at hr
    have X13 := X2.trans X3
    have hs2 : H' D ≠ none := by rw [hD2]; exact fun z => by cases z
    have hD3 : H3 D = some (.lst ys) := X3.fr D _ hD2 f2.2.1
    have f3 := f2.ext hs2 X3
    have RC3 : RelX X C.nox S3 (.v u :: capE ci env) g3 (some v :: capS ci σ) H3 := ⟨R3.G.nox, capE_rel R1.L X13.le F3⟩
    unfold compL at hr
    split at hr
    · next g4 e4 =>
      split at hr
      · next y g5 e5 =>
        refine ⟨S3, _, g3, RC3, ?_⟩
        rw [e4]
        intro S4 H4 X4 R4
        rw [if_pos rfl]
        refine ⟨S4, _, g4, R4, ?_⟩
        rw [e5]
        intro S5 v5 H5 X5 R5 F5
        have hD4 : H4 D = some (.lst ys) := X4.fr D _ hD3 f3.2.1
        have f4 : Free C S4 D := f3.ext (by rw [hD3]; exact fun z => by cases z) X4
        have hD5 : H5 D = some (.lst ys) := X5.fr D _ hD4 f4.2.1
        have f5 : Free C S5 D := f4.ext (by rw [hD4]; exact fun z => by cases z) X5
        refine ⟨hD5, us.length - (i + 1), by omega, rfl, hlt, ?_⟩
        cases q : compL mt me (capE ci env) (us.drop (i + 1)) g5 with
        | exc a b => exact (compL_noexc q).elim
        | stuck => rw [q] at hr; cases hr
        | ok r2 g6 =>
          rw [q] at hr
          cases hr
          have s5 : H5 D ≠ none := by rw [hD5]; exact fun z => by cases z
          refine ⟨S5, g5, done ++ [y], r2, ((X13.trans X4).trans X5).fresh hD s5, R5.G.unnox.own f5 s5, f5, upd_same, (fz.le ((X3.le.trans X4.le).trans X5.le)).append (FzL.one F5), by rw [List.length_append, List.length_singleton]; omega, q, by rw [List.append_assoc]; exact hcat⟩
      · cases hr
    · next g4 e4 =>
      refine ⟨S3, _, g3, RC3, ?_⟩
      rw [e4]
      intro S4 H4 X4 R4
      rw [if_neg Bool.false_ne_true]
      have hD4 : H4 D = some (.lst ys) := X4.fr D _ hD3 f3.2.1
      have f4 : Free C S4 D := f3.ext (by rw [hD3]; exact fun z => by cases z) X4
      exact ⟨hD4, us.length - (i + 1), by omega, rfl, hlt, S4, g4, done, rest, X13.trans X4, R4.G.unnox, f4, hD4, fz.le (X3.le.trans X4.le), by omega, hr, hcat⟩
    · cases hr
variable {scope : Scope} {cl : List (Str × Addr)} {x : Str} {px pos : Pos} {iter elt : Expr} {ifs : List Expr} {N : List Str} {ci : List Nat} {mi : Ma} {mt : Mt} {me : Me}
theorem mo_comp (S : CompSc X scope cl x N ci) (hc : X.calm = true) (hi : MI X C (.Name x px) iter mi) (hts : ∀ A s H ex pn, MTs (cxComp X scope cl A N s H ex pn) C.nox ifs mt) (he : ∀ A s H ex pn, ME (cxComp X scope cl A N s H ex pn) C.nox elt me) (hs : ∀ y, foldedSetIterable iter X.env y = pure y := by intro _; rfl) :
    MO X C (.ListComp elt [⟨.Name x px, iter, ifs, 0⟩] scope pos) (compE mi mt me ci) := ⟨PE.imp (pe_comp2 S hc hi.h (fun A s H ex pn => (hts A s H ex pn).h) (fun A s H ex pn => (he A s H ex pn).h) hs) comp_imp⟩
theorem ms_setComp {o : Bool} {iY : Nat} {yN : Str} {py spos : Pos} (hN : X.N.Nodup) (hiY : X.N[iY]? = some yN) (hyl : Loc X.env.scope yN) (hf : X.fn yN = true ∨ X.env.scope.names.lookup yN = some .local) (S : CompSc X scope cl x N ci) (hc : X.calm = true) (hi : MI X C (.Name x px) iter mi) (hts : ∀ A s H ex pn, MTs (cxComp X scope cl A N s H ex pn) C.nox ifs mt) (he : ∀ A s H ex pn, ME (cxComp X scope cl A N s H ex pn) C.nox elt me) (hs : ∀ y, foldedSetIterable iter X.env y = pure y := by intro _; rfl) (hsw : swapsWith (.ListComp elt [⟨.Name x px, iter, ifs, 0⟩] scope pos) (some (.Name yN py)) spos.line X.env = pure true := by rfl) :
    MS X C o (.Assign [.Name yN py] (.ListComp elt [⟨.Name x px, iter, ifs, 0⟩] scope pos) spos) (setO iY (compE mi mt me ci)) := ⟨PS.imp (ps_setComp2 hN hiY hyl hf S hc hi.h (fun A s H ex pn => (hts A s H ex pn).h) (fun A s H ex pn => (he A s H ex pn).h) hs hsw) fun Dd σ H ⟨Sa, env, g, R, p⟩ => comp_imp σ H _ ⟨Sa, env, g, R, (post_bind.mp p).mono (fun u g1 p S1 a H1 X1 R1 ow fr n ha => p S1 _ H1 X1.le ⟨R1.G, R1.L.seto ow fr n⟩) fun _ _ z => z⟩⟩
end
end MM
namespace MM
open PySem PySem.Spec PyProof.Rows L2 BB PP
section
variable {X : Cx} {C : MC} {e : Expr} {m : Me} {pos p1 apos cpos : Pos} {o : Bool} {x : Str} {i : Nat}
abbrev Mut := List U → List U → Gm → Option (List U × U)
def appM : Mut := fun us as _ => match as with
  | [u] => if us.length < sizeLine then some (us ++ [u], .non) else none
  | _ => none
structure MutF (X : Cx) (C : MC) (r : V → List V → Hp → VK → Prop) (f : Mut) : Prop where
  ok : ∀ S env g σ H l xs us as vs us' u Q, RelX X C S env g σ H → H l = some (.lst xs) → FzL X.prog X.w X.K S us xs → FzL X.prog X.w X.K S as vs → f us as g = some (us', u) →
    (∀ xs' v, FzL X.prog X.w X.K S us' xs' → FzX X S u v → Q v (upd H l (.lst xs'))) → r (.ref l) vs H Q
structure MutB (X : Cx) (C : MC) (r : V → List V → Hp → VK → Prop) (f : Mut) : Prop where
  ok : ∀ S env g σ H l xs us as vs us' u Q, RelX X C S env g σ H → H l = some (.lst xs) → FzL X.prog X.w X.K S us xs → BwL X.prog X.w X.K S env σ as vs → f us as g = some (us', u) →
    (∀ xs' v, FzL X.prog X.w X.K S us' xs' → FzX X S u v → Q v (upd H l (.lst xs'))) → r (.ref l) vs H Q
theorem mut_app : MutF X C rAppend appM := ⟨fun S env g σ H l xs us as vs us' u Q R hl f b e q => by
  unfold appM at e
  split at e
  · next a =>
    split at e
    · next hz =>
      cases e
      obtain ⟨v, r, rfl, hv, rfl⟩ := b
      exact ⟨l, xs, v, rfl, rfl, hl, by rw [← f.length]; exact hz, q _ _ (f.append (FzL.one hv)) rfl⟩
    · cases e
  · cases e⟩
def mutO (i : Nat) (f : Mut) (ma : Ma) : Ms := fun env g => match env[i]? with
  | some (.own (.lst us)) => (ma env g).bind fun as g1 => match f us as g1 with
    | some (us', _) => .ok (.nx, env.set i (.own (.lst us'))) g1
    | none => .stuck
  | _ => .stuck
variable {name : Str} {bid : String} {r : V → List V → Hp → VK → Prop} {f : Mut} {es : List Expr} {ma : Ma}
theorem own_step {S1 S : Ab} {env : Env} {g1 : Gm} {σ : L2.St} {H1 : Hp} {us us' : List U} {a : Addr} {xs' : List V} {D : Ends} (R1 : RelX X C S1 env g1 σ H1) (e : env[i]? = some (.own (.lst us))) (es : σ[i]? = some (some (.ref a))) (f : FzL X.prog X.w X.K S1 us' xs') (l : Le S S1) (p : EndS X C o D S (.nx, env.set i (.own (.lst us'))) g1) : D.nx σ (upd H1 a (.lst xs')) := by
  obtain ⟨b, eb, ow, fr⟩ := R1.L.eo i _ e
  rw [es] at eb; cases eb
  exact p S1 σ _ l ⟨R1.G.own fr ow.some, R1.L.own e es ⟨xs', upd_same, f⟩⟩
theorem ms_mutO (hp : PE X (.Name x p1) (tVar i)) (slot : Slot "list" name bid) (hty : typeOf (.builtin bid) = pure (.type "method_descriptor")) (hm : MtR X bid r) (hf : MutF X C r f) (ha : MA X C (e :: es) ma)
    (hfew : ((backTo cpos (starEach (e :: es) X.env)).all (fun x => !x.1) && (backToKw cpos (keywordEach [] X.env)).all (fun x => x.1.isSome) && decide ((e :: es).length + ([] : List Keyword).length + (if ([] : List Keyword).isEmpty then 0 else 1) < 30)) = true := by rfl) (hline : (apos.endLine == cpos.line) = true := by rfl)
    (hs : swapsWith (.Call (.Attribute (.Name x p1) name apos) (e :: es) [] cpos) none pos.line X.env = pure false := by rfl) :
    MS X C o (.Expr (.Call (.Attribute (.Name x p1) name apos) (e :: es) [] cpos) pos) (mutO i f ma) := ⟨by
  have hn := ha.ns
  rw [List.all_cons, Bool.and_eq_true] at hn
  refine PS.imp (ps_expr (pe_bm PySem.F.plainAttrs_list slot hty hm hp ha.h rfl hfew hline (star_of hn.1) (stars_of hn.2)) hs) fun D σ H ⟨S, env, g, R, p⟩ => ?_
  unfold mutO at p
  split at p
  · next us e0 =>
    obtain ⟨a, ea, ow, fr⟩ := R.L.eo i _ e0
    obtain ⟨xs, hx, fz⟩ := ow
    refine ⟨.ref a, ea, .inl ⟨rfl, xs, .inl (.inl hx)⟩, S, env, g, R, (post_bind.mp p).mono (fun as g1 p S1 vs H1 X1 R1 F1 => ?_) fun _ _ z => z⟩
    obtain ⟨b, eb, ow1, fr1⟩ := R1.L.eo i _ e0
    rw [ea] at eb; cases eb
    obtain ⟨xs1, hx1, fz1⟩ := ow1
    split at p
    · next us' u1 ef => exact hf.ok S1 env g1 σ H1 a xs1 us as vs us' u1 _ R1 hx1 fz1 F1 ef fun xs' v f1 _ => own_step (o := o) R1 e0 ea f1 X1.le p
    · exact p.elim
  · exact p.elim⟩
def cellE (m : Me) : Me := fun env g => (m env g).bind fun u g1 => .ok (.ref g1.length) (g1 ++ [u])
theorem me_cell (h : MO X C e m) : ME X C e (cellE m) := ⟨PE.imp h.h fun σ H Q ⟨S, env, g, R, p⟩ => ⟨S, env, g, R, (post_bind.mp p).mono (fun u g1 p S1 a H1 X1 R1 ow fr n ha => by
  refine p (S1.add a) (.ref a) H1 ?_ ⟨R1.G.add fr (.inl ow), R1.L.add n⟩ ⟨a, ?_, rfl⟩
  · obtain ⟨l, el, hl⟩ := X1.r
    refine ⟨X1.z, X1.zn, ⟨l ++ [a], by show S1.ρ ++ [a] = _; rw [el, List.append_assoc], fun b hb => ?_⟩, X1.fr, X1.dom⟩
    rcases List.mem_append.mp hb with hb | hb
    · exact hl b hb
    · rw [List.mem_singleton.mp hb]; exact ha
  · show (S1.ρ ++ [a])[g1.length]? = some a
    rw [← R1.G.rl, List.getElem?_append_right (Nat.le_refl _), Nat.sub_self]; rfl) fun _ _ z => z⟩⟩
def mutC (f : Mut) (mo : Me) (ma : Ma) : Me := fun env g => (mo env g).bind fun x g1 => match x with
  | .ref j => if tyF "list" g1 x = true then (ma env g1).bind fun as g2 => match g2[j]? with
      | some (.lst us) => match f us as g2 with
        | some (us', u) => .ok u (g2.set j (.lst us'))
        | none => .stuck
      | _ => .stuck
    else .stuck
  | _ => .stuck
variable {oe : Expr} {mo : Me}
theorem cell_step {S1 S : Ab} {env : Env} {g2 : Gm} {σ : L2.St} {H1 H : Hp} {us' : List U} {a : Addr} {j : Nat} {xs' : List V} {u : U} {v : V} {Q : VK} (R1 : RelX X C S1 env g2 σ H1) (ea : S1.ρ[j]? = some a) (f : FzL X.prog X.w X.K S1 us' xs') (fu : FzX X S1 u v) (x : Ext S S1 H H1)
    (p : OkE X C S env σ H Q (.ok u (g2.set j (.lst us')))) : Q v (upd H1 a (.lst xs')) :=
  p S1 v _ (x.trans (.cell (List.mem_of_getElem? ea))) ⟨R1.G.cell ea (.inl ⟨xs', upd_same, f⟩), R1.L.cell (List.mem_of_getElem? ea)⟩ fu
theorem mutC_imp (hf : MutF X C r f) : ∀ σ H Q, liftE X C (mutC f mo ma) σ H Q → tBM X.K "list" r (liftB X C mo) (liftA X C ma) σ H Q := fun σ H Q ⟨S, env, g, R, p⟩ => ⟨S, env, g, R, (post_bind.mp p).mono (fun x g1 p S1 v1 H1 X1 R1 F1 => by
  split at p
  · next j =>
    split at p
    · next ht =>
      refine ⟨ty_ok R1 F1 ht, S1, env, g1, R1, (post_bind.mp p).mono (fun as g2 p S2 vs H2 X2 R2 F2 => ?_) fun _ _ z => z⟩
      split at p
      · next us eg =>
        obtain ⟨a, ea, c⟩ := R2.G.cs j _ eg
        have hv : v1 = .ref a := by
          rcases (F1.le X2.le) with q | ⟨j2, b, e2, _, _⟩
          · obtain ⟨b, eb, rfl⟩ := q; rw [ea] at eb; cases eb; rfl
          · obtain ⟨_, _, ow, _⟩ := R2.L.eo j2 _ e2; exact ow.elim
        subst hv
        obtain ⟨xs, hx, fz⟩ := c.elim id fun ⟨_, _, _, _, z, _⟩ => by cases z
        split at p
        · next us' u ef => exact hf.ok S2 env g2 σ H2 a xs us as vs us' u Q R2 hx fz F2 ef fun xs' v f1 fu => cell_step R2 ea f1 fu (X1.trans X2) p
        · exact p.elim
      · exact p.elim
    · exact p.elim
  · exact p.elim) fun _ _ z => z⟩
theorem me_mutC (slot : Slot "list" name bid) (hty : typeOf (.builtin bid) = pure (.type "method_descriptor")) (hm : MtR X bid r) (hf : MutF X C r f) (ho : MB X C oe mo) (ha : MA X C (e :: es) ma) (hbase : attributeBase oe name X.env (eval oe X.env) = eval oe X.env := by rfl)
    (hfew : ((backTo cpos (starEach (e :: es) X.env)).all (fun x => !x.1) && (backToKw cpos (keywordEach [] X.env)).all (fun x => x.1.isSome) && decide ((e :: es).length + ([] : List Keyword).length + (if ([] : List Keyword).isEmpty then 0 else 1) < 30)) = true := by rfl) (hline : (apos.endLine == cpos.line) = true := by rfl) :
    ME X C (.Call (.Attribute oe name apos) (e :: es) [] cpos) (mutC f mo ma) := ⟨by
  have hn := ha.ns
  rw [List.all_cons, Bool.and_eq_true] at hn
  exact PE.imp (pe_bm PySem.F.plainAttrs_list slot hty hm ho.h ha.h hbase hfew hline (star_of hn.1) (stars_of hn.2)) (mutC_imp hf)⟩
end
end MM
namespace MM
open PySem PySem.Spec PyProof.Rows L2 BB
theorem bt_min : bootBuiltins "min" = some (.builtin "min") := by decide +kernel
theorem bt_sorted : bootBuiltins "sorted" = some (.builtin "sorted") := by decide +kernel
section
variable {X : Cx} {C : MC} {e a b : Expr} {m ma mb : Me} {pos : Pos} {o : Bool} {st : Stmt} {sts : List Stmt}
def stuckS : Ms := fun _ _ => .stuck
theorem ms_stuck : MS X C o st stuckS := ⟨fun pins s σ H D I ⟨_, _, _, _, p⟩ => p.elim⟩
structure KOk (P : Program) (w : World) (K : PySem.W.Frag) (mg : Str → Option Value) (x : Str) (u : U) : Prop where
  h : ∃ v z, mg x = some z ∧ RelV v z ∧ ∀ S, Fz P w K S u v
theorem me_k {x : Str} {u : U} (hg : Gl X x) (h : KOk X.prog X.w X.K X.mg x u) (hd : (x == ("__debug__" : Str)) = false := by decide) : ME X C (.Name x pos) (cE u) := by
  obtain ⟨v, z, e, r, f⟩ := h.h
  exact me_const hg ⟨z, e, r⟩ f hd
theorem ms_frz {i : Nat} {mm : Me} (h : MS X C o st (setO i mm)) : MS X C o st (setS i mm) := ⟨PS.imp h.h fun D σ H ⟨S, env, g, R, p⟩ => ⟨S, env, g, R, by
  refine post_bind.mpr ((post_bind.mp p).mono (fun u g1 p => ?_) fun _ _ z => z)
  intro S' σ' H' l R'
  by_cases hl : i < env.length
  · have e : (env.set i (.own u))[i]? = some (.own u) := set_get hl
    obtain ⟨a, ea, ow, f⟩ := R'.L.eo i u e
    obtain ⟨ob, ho⟩ : ∃ o, H' a = some o := by
      cases z : H' a with
      | none => exact absurd z ow.some
      | some o => exact ⟨o, rfl⟩
    have n : NoSlot ((env.set i (.own u)).set i .no) σ' a := fun j u1 q z => by
      rcases get_set q with ⟨rfl, _, y⟩ | ⟨ne, q⟩
      · cases y
      · exact ne (R'.L.ed i j u u1 a e q ea z)
    have L1 := (R'.L.drop (i := i)).frz (o := ob) f n
    have F : FzX X (S'.frz a ob) u (.ref a) := by
      cases u <;> first | exact ow.elim | skip
      · obtain ⟨xs, e1, f1⟩ := ow; rw [ho] at e1; cases e1; exact ⟨a, xs, rfl, Rd.of upd_same, f1.le (Le.frz f.1)⟩
      · obtain ⟨xs, e1, f1⟩ := ow; rw [ho] at e1; cases e1; exact ⟨a, xs, rfl, .inl (Rd.of upd_same), f1.le (Le.frz f.1)⟩
      · obtain ⟨xs, e1, f1⟩ := ow; rw [ho] at e1; cases e1; exact ⟨a, xs, rfl, Rd.of upd_same, f1.le (Le.frz f.1)⟩
    have L2 := L1.setv (i := i) F
    have el := R'.L.el
    rw [List.length_set] at el
    have es : σ'.set i (some (.ref a)) = σ' := List.ext_getElem? fun j => by
      by_cases hj : i = j
      · subst hj; rw [set_get (el ▸ hl), ea]
      · rw [set_ne hj]
    rw [es, List.set_set, List.set_set] at L2
    exact p _ _ _ (l.trans (Le.frz f.1)) ⟨R'.G.frz f ho, L2⟩
  · rw [List.set_eq_of_length_le (by omega)] at R'
    exact p S' σ' H' l (by rw [List.set_eq_of_length_le (by omega)]; exact R')⟩⟩
def f1E (c : Str) (m : Me) : Me := fun env g => (m env g).bind fun u g1 => match u with
  | .str z => if c.length + z.length ≤ sizeLine then .ok (.str (c ++ z)) g1 else .stuck
  | _ => .stuck
theorem me_f1 {c : Str} {j : Nat} {p1 p2 : Pos} (he : ME X C e m) (hc : c.length ≤ sizeLine) : ME X C (.JoinedStr [.Constant (.str c) j p1, .FormattedValue e (-1) none p2] pos) (f1E c m) := ⟨PE.imp (pe_f1 he.h hc) fun σ H Q ⟨S, env, g, R, p⟩ => ⟨S, env, g, R, (post_bind.mp p).mono (fun u g1 p S1 v1 H1 X1 R1 F1 => by
  split at p
  · split at p
    · next hl => cases F1; exact ⟨_, rfl, hl, p S1 _ H1 X1 R1 rfl⟩
    · exact p.elim
  · exact p.elim) fun _ _ z => z⟩⟩
theorem mt_endswith : MtR X "str.endswith" (fun x xs H Q => ∃ z y, x = .str z ∧ xs = [.str y] ∧ Q (.bl (Txt.endswith z y)) H) := by
  intro pins s σ H x xs v us Q I rx rs h
  obtain ⟨z, y, rfl, rfl, q⟩ := h
  obtain ⟨t, rfl⟩ := rx
  obtain ⟨u, rfl, t', rfl⟩ := vals1 rs
  exact call_gives PySem.F.slot_str_endswith (typeIs_str s z t) PySem.F.entry_str_endswith (PySem.F.args_str_endswith_2 _ _) (gives_str_endswith z y t t') ⟨.bl _, H, I, rfl, q⟩
def endsF (x : U) (us : List U) (g : Gm) : Res U := match x, us with
  | .str z, [.str y] => .ok (.bl (Txt.endswith z y)) g
  | _, _ => .stuck
theorem sim_ends : SimM X C (fun x xs H Q => ∃ z y, x = .str z ∧ xs = [.str y] ∧ Q (.bl (Txt.endswith z y)) H) endsF := fun S env g σ H u us v vs Q R hu hs p => by
  unfold endsF at p
  split at p
  · obtain ⟨v', rfl, h1⟩ := bw1 hs
    exact ⟨_, _, hu.str R rfl, by rw [h1.str R rfl], p S _ H (.refl _ _) R rfl⟩
  · exact p.elim
def lindexF (x : U) (us : List U) (g : Gm) : Res U := match look g x, us with
  | .lst vs, [.str y] => match strsOf vs with
    | some ts => if ts.idxOf y < ts.length ∧ ts.length < 1000000 then .ok (.int (ts.idxOf y : Nat)) g else .stuck
    | none => .stuck
  | _, _ => .stuck
theorem flat_strs : ∀ (ts : List Str), (ts.map V.str).all flatV = true
  | [] => rfl
  | _ :: ts => by rw [List.map_cons, List.all_cons, flat_strs ts]; rfl
theorem sim_lindex : SimM X C (fun x xs H Q => ∃ p ys y j z, x = .ref p ∧ xs = [y] ∧ SqL X.K H p ys ∧ ys.all flatV = true ∧ flatV y = true ∧ ys[j]? = some z ∧ eqV z y = true ∧ (∀ m z', m < j → ys[m]? = some z' → eqV z' y = false) ∧ j < 1000000 ∧ Q (.int (j : Nat)) H) lindexF := fun S env g σ H u us v vs Q R hu hs p => by
  unfold lindexF at p
  split at p
  · next l y e =>
    split at p
    · next ts et =>
      split at p
      · next hl =>
        obtain ⟨v', rfl, h1⟩ := bw1 hs
        obtain ⟨a, xs, rfl, rd, f⟩ := hu.list R e
        have ex := strs_fz f et
        subst ex
        rw [h1.str R rfl]
        refine ⟨a, _, _, ts.idxOf y, .str y, rfl, rfl, .inl rd, flat_strs ts, rfl, ?_, ?_, ?_, by omega, p S _ H (.refl _ _) R rfl⟩
        · rw [List.getElem?_map, List.getElem?_eq_getElem hl.1, List.getElem_idxOf]; rfl
        · show decide (y = y) = true; exact decide_eq_true rfl
        · intro m z hm ez
          rw [List.getElem?_map] at ez
          obtain ⟨t, et, rfl⟩ := Option.map_eq_some_iff.mp ez
          show decide (t = y) = false
          refine decide_eq_false fun z => ?_
          subst z
          have h := List.not_of_lt_findIdx (p := (· == t)) (xs := ts) (i := m) hm
          obtain ⟨hm', et⟩ := List.getElem?_eq_some_iff.mp et
          rw [et] at h
          simp at h
      · exact p.elim
    · exact p.elim
  · exact p.elim
end
section
variable {P : Program} {w : World} {K : PySem.W.Frag} {mg : Str → Option Value} {base : Heap}
theorem fnM_of {x : Str} {st : Stmt} {N ps : List Str} {k : Nat} {o : Bool} {m : Ms} {fa : Addr} {fd : FuncData} (F : Fun K x x st fa fd) (Sc : FnScope N ps (defScope st))
    (hbody : ∀ (f : Addr) (cdv : Value) (A : Around) (outer : List PySem.Env) (s : Shared) (H : Hp) (E : XK) (S : Ab), Room k (A.deeper (envOfC x (defScope st) s.heap.objs.size f cdv)) →
      MSs (cxOf (CXR P w) P w K mg base N x (defScope st) f cdv A outer s H E) ⟨S, H, E⟩ o (defBody st) m) : FnOk P w K mg base (CXR P w) (k + 1) fa fd ps (spM P w K ps.length o (runM o N.length m)) := by
  obtain ⟨oc, od, kV, doc, pm, an, cdv, ct, osl, rfl, lk, hcd⟩ := F.ex
  refine fn_of lk hcd Sc (fun vs H Q E h => ?_) fun A outer s H vs Q E hr h => ?_
  · obtain ⟨_, _, _, l, _⟩ := h; exact l
  · obtain ⟨S, us, g, l, R, fz, p⟩ := h
    exact ⟨_, (hbody fa cdv A outer s H E S hr).h, body_runs (X := cxOf (CXR P w) P w K mg base N x (defScope st) fa cdv A outer s H E) fz R p⟩
theorem ints_fz {S : Ab} : ∀ ns : List Int, FzL P w K S (ns.map .int) (ns.map V.int)
  | [] => rfl
  | n :: ns => ⟨_, _, rfl, rfl, ints_fz ns⟩
theorem sp_law {f : List U → Gm → Res U} {H : Hp} {a : Addr} {ns : List Int} (h : ∃ g', f [.scr (ns.map .int)] [] = .ok (.bl true) g') (hS : SqL K H a (ns.map V.int)) : spM P w K 1 false f [.ref a] H (fun v _ => v = .bl true) fun _ _ _ => False := by
  obtain ⟨g', e⟩ := h
  refine ⟨⟨H, []⟩, [.scr (ns.map .int)], [], rfl, ⟨fun _ _ h => h, fun i u z => by simp at z, rfl, List.nodup_nil, (by simp), .refl _ _⟩, ⟨_, _, rfl, ⟨a, _, rfl, hS, ints_fz ns⟩, rfl⟩, ?_⟩
  rw [e]
  intro S' H' v _ r
  exact r
end
end MM
namespace TS
open PySem PyProof.Rows
def gal : Bool → Keyed → Array Keyed → Nat → Nat → Nat → StateT SortSt Sem (Option Nat) := sortPriv% PySem.Builtin.gallop
def mlo : Array Keyed → Array Keyed → StateT SortSt Sem (Array Keyed) := sortPriv% PySem.Builtin.mergeLo
def mhi : Array Keyed → Array Keyed → StateT SortSt Sem (Array Keyed) := sortPriv% PySem.Builtin.mergeHi
structure Tot (L : Keyed → Keyed → Bool) (a₀ : Array Keyed) : Prop where
  irr : ∀ x ∈ a₀, L x x = false
  tr : ∀ x y z, x ∈ a₀ → y ∈ a₀ → z ∈ a₀ → L x y = true → L y z = true → L x z = true
  tot : ∀ x y, x ∈ a₀ → y ∈ a₀ → x ≠ y → L x y = true ∨ L y x = true
  nd : a₀.toList.Nodup
theorem Tot.asym {L : Keyed → Keyed → Bool} {a₀ : Array Keyed} (O : Tot L a₀) {x y : Keyed} (hx : x ∈ a₀) (hy : y ∈ a₀) (h : L x y = true) : L y x = false := by
  cases e : L y x with
  | false => rfl
  | true => have := O.tr x y x hx hy hx h e; rw [O.irr x hx] at this; cases this
theorem Tot.not {L : Keyed → Keyed → Bool} {a₀ : Array Keyed} (O : Tot L a₀) {x y : Keyed} (hx : x ∈ a₀) (hy : y ∈ a₀) (ne : x ≠ y) (h : L x y = false) : L y x = true := by
  rcases O.tot x y hx hy ne with z | z
  · rw [z] at h; cases h
  · exact z
def Asks (prog : Program) (w : World) (A : Around) (s : Shared) (κ : SortKind) (L : Keyed → Keyed → Bool) (a₀ : Array Keyed) : Prop :=
  ∀ x y, x ∈ a₀ → y ∈ a₀ → wpAny (model prog w) A (keyLt' κ x.1 y.1) (fun b s' => s' = s ∧ b = L x y) (fun _ _ => False) s
section
variable {prog : Program} {w : World} {A : Around} {E : Value → Shared → Prop} {s : Shared} {st : SortSt} {κ : SortKind} {L : Keyed → Keyed → Bool} {a₀ : Array Keyed}
theorem s_lt {x y : Keyed} {Q : Option Bool → SortSt → Prop} (K : Asks prog w A s κ L a₀) (hk : kindOf st = κ) (hx : x ∈ a₀) (hy : y ∈ a₀) (h : Q (some (L x y)) st) : wpS (model prog w) A E s (lt' x y) Q st := by
  rw [lt'_eq]
  refine wpS_bind (wpS_get ?_)
  refine wpS_bind (wpS_lift (wpAny_attempt ?_))
  rw [hk]
  refine wpAny_mono (K x y hx hy) (fun b s' hb => ?_) fun _ _ z => z.elim
  obtain ⟨rfl, rfl⟩ := hb
  exact ⟨rfl, wpS_pure h⟩
theorem s_elem {arr : Array Keyed} {i : Nat} {x : Keyed} {Q : Keyed → SortSt → Prop} (hi : arr[i]? = some x) (h : Q x st) : wpS (model prog w) A E s (elem' arr i) Q st := by
  rw [elem'_eq, hi]
  exact wpS_pure h
def byd (L : Keyed → Keyed → Bool) (left : Bool) (key x : Keyed) : Bool := if left = true then L x key else !(L key x)
theorem s_byd {left : Bool} {key x : Keyed} {Q : Option Bool → SortSt → Prop} (K : Asks prog w A s κ L a₀) (hk : kindOf st = κ) (hx : x ∈ a₀) (hy : key ∈ a₀) (h : Q (some (byd L left key x)) st) :
    wpS (model prog w) A E s (if left = true then lt' x key else do let r ← lt' key x; pure (Option.map (fun x => !x) r)) Q st := by
  unfold byd at h
  cases left with
  | true => exact s_lt K hk hx hy h
  | false => exact wpS_bind (s_lt K hk hy hx (wpS_pure h))
theorem s_gal {left : Bool} {key : Keyed} {arr : Array Keyed} {base n hint : Nat} {b : Nat → Bool} {Q : Option Nat → SortSt → Prop} (K : Asks prog w A s κ L a₀) (hk : kindOf st = κ) (hy : key ∈ a₀)
    (hin : ∀ i, i < n → ∃ x, arr[base + i]? = some x ∧ x ∈ a₀ ∧ b i = byd L left key x) (mono : ∀ i j, i ≤ j → j < n → b j = true → b i = true) (hh : hint < n)
    (h : ∀ k, k ≤ n → (∀ i, i < k → b i = true) → (∀ i, k ≤ i → i < n → b i = false) → Q (some k) st) : wpS (model prog w) A E s (gal left key arr base n hint) Q st := by
  have anti : ∀ i j, i ≤ j → j < n → b i = false → b j = false := fun i j hij hj hb => by
    cases e : b j with
    | false => rfl
    | true => rw [mono i j hij hj e] at hb; cases hb
  have step : ∀ (i : Nat) (Q' : Option Bool → SortSt → Prop), i < n → Q' (some (b i)) st → wpS (model prog w) A E s (do let x ← elem' arr (base + i); if left = true then lt' x key else do let r ← lt' key x; pure (Option.map (fun x => !x) r)) Q' st := fun i Q' hi hq => by
    obtain ⟨x, ex, hx, eb⟩ := hin i hi
    rw [eb] at hq
    exact wpS_bind (s_elem ex (s_byd K hk hx hy hq))
  have last : ∀ lo hi : Nat, lo ≤ hi → hi ≤ n → (∀ i, i < lo → b i = true) → (∀ i, hi ≤ i → i < n → b i = false) →
      wpS (model prog w) A E s (forIn [0:n] ((none : Option (Option Nat)), lo, hi) fun x z =>
        if z.2.1 ≥ z.2.2 then pure (ForInStep.done (none, z.2.1, z.2.2)) else do
          let r ← (do let x ← elem' arr (base + (z.2.1 + (z.2.2 - z.2.1) / 2)); if left = true then lt' x key else do let r ← lt' key x; pure (Option.map (fun x => !x) r))
          match r with
          | some more => if more = true then pure (ForInStep.yield (none, z.2.1 + (z.2.2 - z.2.1) / 2 + 1, z.2.2)) else pure (ForInStep.yield (none, z.2.1, z.2.1 + (z.2.2 - z.2.1) / 2))
          | x => pure (ForInStep.done (some none, z.2.1, z.2.2))) (fun z st' => st = st' ∧ z.1 = none ∧ z.2.1 = z.2.2 ∧ z.2.2 ≤ n ∧ (∀ i, i < z.2.2 → b i = true) ∧ (∀ i, z.2.2 ≤ i → i < n → b i = false)) st := fun lo hi h1 h2 h3 h4 => by
    refine wpS_forRange (fun i z st' => st = st' ∧ z.1 = none ∧ z.2.1 ≤ z.2.2 ∧ z.2.2 ≤ n ∧ z.2.2 - z.2.1 + i ≤ n ∧ (∀ i, i < z.2.1 → b i = true) ∧ (∀ i, z.2.2 ≤ i → i < n → b i = false)) ?_ ?_ ⟨rfl, rfl, h1, h2, by dsimp only; omega, h3, h4⟩
    · rintro i ⟨r, lo, hi⟩ st' _ hi' ⟨rfl, rfl, g1, g2, g3, g4, g5⟩
      dsimp only at g1 g2 g3 g4 g5 ⊢
      by_cases hge : lo ≥ hi
      · rw [if_pos hge]
        have : lo = hi := by omega
        subst this
        exact wpS_pure ⟨rfl, rfl, rfl, g2, g4, g5⟩
      · rw [if_neg hge]
        have hm : lo + (hi - lo) / 2 < n := by omega
        refine wpS_bind (step _ _ hm ?_)
        dsimp only
        cases eb : b (lo + (hi - lo) / 2) with
        | true =>
          rw [if_pos rfl]
          refine wpS_pure ⟨rfl, rfl, by dsimp only; omega, g2, by dsimp only; omega, fun j hj => ?_, g5⟩
          dsimp only at hj
          exact mono j _ (by omega) hm eb
        | false =>
          rw [if_neg (by simp)]
          refine wpS_pure ⟨rfl, rfl, by dsimp only; omega, by dsimp only; omega, by dsimp only; omega, g4, fun j hj hn => ?_⟩
          dsimp only at hj
          exact anti _ j hj hn eb
    · rintro ⟨r, lo, hi⟩ st' ⟨rfl, rfl, g1, g2, g3, g4, g5⟩
      dsimp only at g1 g2 g3 g4 g5 ⊢
      have : lo = hi := by omega
      subst this
      exact ⟨rfl, rfl, rfl, g2, g4, g5⟩
  refine wpS_bind (step hint _ hh ?_)
  dsimp only
  cases eb : b hint with
  | true =>
    rw [if_pos rfl]
    refine wpS_bind (wpS_mono (Q := fun z st' => st = st' ∧ z.1 = none ∧ z.2.1 < z.2.2 ∧ hint + z.2.1 < n ∧ b (hint + z.2.1) = true ∧ (n - hint ≤ z.2.2 ∨ (hint + z.2.2 < n ∧ b (hint + z.2.2) = false))) ?_ ?_)
    · refine wpS_forRange (fun i z st' => st = st' ∧ z.1 = none ∧ z.2.1 < z.2.2 ∧ i + 1 ≤ z.2.2 ∧ hint + z.2.1 < n ∧ b (hint + z.2.1) = true) ?_ ?_ ⟨rfl, rfl, by decide, by decide, by simpa using hh, by simpa using eb⟩
      · rintro i ⟨r, lo, hi⟩ st' _ hi' ⟨rfl, rfl, g1, g2, g3, g4⟩
        dsimp only at g1 g2 g3 g4 ⊢
        by_cases hge : hi ≥ n - hint
        · rw [if_pos hge]
          exact wpS_pure ⟨rfl, rfl, g1, g3, g4, .inl hge⟩
        · rw [if_neg hge]
          have hm : hint + hi < n := by omega
          refine wpS_bind (step _ _ hm ?_)
          dsimp only
          cases eb : b (hint + hi) with
          | true =>
            rw [if_neg (by simp)]
            exact wpS_pure ⟨rfl, rfl, by dsimp only; omega, by dsimp only; omega, hm, eb⟩
          | false =>
            rw [if_pos (by simp)]
            exact wpS_pure ⟨rfl, rfl, g1, g3, g4, .inr ⟨hm, eb⟩⟩
      · rintro ⟨r, lo, hi⟩ st' ⟨rfl, rfl, g1, g2, g3, g4⟩
        dsimp only at g1 g2 g3 g4 ⊢
        exact ⟨rfl, rfl, g1, g3, g4, .inl (by omega)⟩
    · rintro ⟨r, lo, hi⟩ st' ⟨rfl, rfl, g1, g3, g4, g5⟩
      dsimp only at g1 g3 g4 g5 ⊢
      refine wpS_bind (wpS_mono (last (hint + lo + 1) (hint + min hi (n - hint)) (by omega) (by omega) (fun i hi => mono i _ (by omega) g3 g4) (fun i hi' hn => ?_)) ?_)
      · rcases g5 with g | ⟨g, g'⟩
        · omega
        · exact anti _ i (by omega) hn g'
      · rintro ⟨r, lo, hi⟩ st' ⟨rfl, rfl, e1, e2, e3, e4⟩
        exact wpS_pure (h _ e2 e3 e4)
  | false =>
    rw [if_neg (by simp)]
    refine wpS_bind (wpS_mono (Q := fun z st' => st = st' ∧ z.1 = none ∧ z.2.1 < z.2.2 ∧ z.2.1 ≤ hint ∧ b (hint - z.2.1) = false ∧ (hint + 1 ≤ z.2.2 ∨ b (hint - z.2.2) = true)) ?_ ?_)
    · refine wpS_forRange (fun i z st' => st = st' ∧ z.1 = none ∧ z.2.1 < z.2.2 ∧ i + 1 ≤ z.2.2 ∧ z.2.1 ≤ hint ∧ b (hint - z.2.1) = false) ?_ ?_ ⟨rfl, rfl, by decide, by decide, by simp, by simpa using eb⟩
      · rintro i ⟨r, lo, hi⟩ st' _ hi' ⟨rfl, rfl, g1, g2, g3, g4⟩
        dsimp only at g1 g2 g3 g4 ⊢
        by_cases hge : hi ≥ hint + 1
        · rw [if_pos hge]
          exact wpS_pure ⟨rfl, rfl, g1, g3, g4, .inl hge⟩
        · rw [if_neg hge]
          have hm : hint - hi < n := by omega
          refine wpS_bind (step _ _ hm ?_)
          dsimp only
          cases eb : b (hint - hi) with
          | true =>
            rw [if_pos rfl]
            exact wpS_pure ⟨rfl, rfl, g1, g3, g4, .inr eb⟩
          | false =>
            rw [if_neg (by simp)]
            exact wpS_pure ⟨rfl, rfl, by dsimp only; omega, by dsimp only; omega, by dsimp only; omega, eb⟩
      · rintro ⟨r, lo, hi⟩ st' ⟨rfl, rfl, g1, g2, g3, g4⟩
        dsimp only at g1 g2 g3 g4 ⊢
        exact ⟨rfl, rfl, g1, g3, g4, .inl (by omega)⟩
    · rintro ⟨r, lo, hi⟩ st' ⟨rfl, rfl, g1, g3, g4, g5⟩
      dsimp only at g1 g3 g4 g5 ⊢
      refine wpS_bind (wpS_mono (last (hint + 1 - min hi (hint + 1)) (hint - lo) (by omega) (by omega) (fun i hi' => ?_) (fun i hi' hn => anti _ i hi' hn g4)) ?_)
      · rcases g5 with g | g
        · omega
        · exact mono i (hint - hi) (by omega) (by omega) g
      · rintro ⟨r, lo, hi⟩ st' ⟨rfl, rfl, e1, e2, e3, e4⟩
        exact wpS_pure (h _ e2 e3 e4)
end
end TS
namespace TS
open PySem PyProof.Rows
abbrev Asc (L : Keyed → Keyed → Bool) (l : List Keyed) : Prop := l.Pairwise fun x y => L x y = true
structure JW (L : Keyed → Keyed → Bool) (A B out : List Keyed) (ia ib : Nat) : Prop where
  pm : out.Perm (A.take ia ++ B.take ib)
  so : Asc L out
  ba : ∀ x ∈ out, ∀ y ∈ A.drop ia, L x y = true
  bb : ∀ x ∈ out, ∀ y ∈ B.drop ib, L x y = true
section
variable {L : Keyed → Keyed → Bool} {A B out : List Keyed} {ia ib : Nat} {a₀ : Array Keyed}
theorem asc_get {l : List Keyed} (h : Asc L l) {i j : Nat} {x y : Keyed} (hij : i < j) (hx : l[i]? = some x) (hy : l[j]? = some y) : L x y = true := by
  obtain ⟨hi, rfl⟩ := List.getElem?_eq_some_iff.mp hx
  obtain ⟨hj, rfl⟩ := List.getElem?_eq_some_iff.mp hy
  exact List.pairwise_iff_getElem.mp h i j hi hj hij
theorem mem_drop {l : List Keyed} {n : Nat} {y : Keyed} (h : y ∈ l.drop n) : ∃ j, n ≤ j ∧ l[j]? = some y := by
  obtain ⟨i, hi, rfl⟩ := List.getElem_of_mem h
  refine ⟨n + i, by omega, ?_⟩
  rw [← List.getElem?_drop, List.getElem?_eq_getElem hi]
theorem drop_of {l : List Keyed} {n j : Nat} {y : Keyed} (hj : n ≤ j) (h : l[j]? = some y) : y ∈ l.drop n := by
  refine List.mem_of_getElem? (i := j - n) ?_
  rw [List.getElem?_drop, show n + (j - n) = j by omega]; exact h
theorem JW.fin (j : JW L A B out ia ib) {R : List Keyed} (hR : R.Perm (A.drop ia ++ B.drop ib)) (sR : Asc L R) : (out ++ R).Perm (A ++ B) ∧ Asc L (out ++ R) := by
  constructor
  · refine (List.Perm.append j.pm hR).trans ?_
    have h1 : ((A.take ia ++ B.take ib) ++ (A.drop ia ++ B.drop ib)).Perm ((A.take ia ++ A.drop ia) ++ (B.take ib ++ B.drop ib)) := by
      rw [List.append_assoc, List.append_assoc]
      refine List.Perm.append_left _ ?_
      rw [← List.append_assoc, ← List.append_assoc]
      exact List.Perm.append_right _ List.perm_append_comm
    rw [List.take_append_drop, List.take_append_drop] at h1
    exact h1
  · refine List.pairwise_append.mpr ⟨j.so, sR, fun x hx y hy => ?_⟩
    rcases List.mem_append.mp (hR.subset hy) with h | h
    · exact j.ba x hx y h
    · exact j.bb x hx y h
theorem take_one {l : List Keyed} {i : Nat} {y : Keyed} (h : l[i]? = some y) : l.take (i + 1) = l.take i ++ [y] := by rw [List.take_add_one, h]; rfl
theorem drop_one {l : List Keyed} {i : Nat} {z : Keyed} (h : z ∈ l.drop (i + 1)) : z ∈ l.drop i := by
  obtain ⟨j, hj, e⟩ := mem_drop h
  exact drop_of (by omega) e
theorem JW.pushB (j : JW L A B out ia ib) {y : Keyed} (e : B[ib]? = some y) (h1 : ∀ z ∈ A.drop ia, L y z = true) (sB : Asc L B) : JW L A B (out ++ [y]) ia (ib + 1) where
  pm := by
    rw [take_one e, ← List.append_assoc]
    exact List.Perm.append_right _ j.pm
  so := List.pairwise_append.mpr ⟨j.so, List.pairwise_singleton _ _, fun x hx z hz => by
    obtain rfl := List.mem_singleton.mp hz
    exact j.bb x hx _ (drop_of (Nat.le_refl _) e)⟩
  ba := fun x hx z hz => by
    rcases List.mem_append.mp hx with hx | hx
    · exact j.ba x hx z hz
    · obtain rfl := List.mem_singleton.mp hx; exact h1 z hz
  bb := fun x hx z hz => by
    rcases List.mem_append.mp hx with hx | hx
    · exact j.bb x hx z (drop_one hz)
    · obtain rfl := List.mem_singleton.mp hx
      obtain ⟨k, hk, ek⟩ := mem_drop hz
      exact asc_get sB (by omega) e ek
theorem JW.pushA (j : JW L A B out ia ib) {y : Keyed} (e : A[ia]? = some y) (h1 : ∀ z ∈ B.drop ib, L y z = true) (sA : Asc L A) : JW L A B (out ++ [y]) (ia + 1) ib where
  pm := by
    rw [take_one e]
    refine (List.Perm.append_right _ j.pm).trans ?_
    rw [List.append_assoc, List.append_assoc]
    exact List.Perm.append_left _ List.perm_append_comm
  so := List.pairwise_append.mpr ⟨j.so, List.pairwise_singleton _ _, fun x hx z hz => by
    obtain rfl := List.mem_singleton.mp hz
    exact j.ba x hx _ (drop_of (Nat.le_refl _) e)⟩
  bb := fun x hx z hz => by
    rcases List.mem_append.mp hx with hx | hx
    · exact j.bb x hx z hz
    · obtain rfl := List.mem_singleton.mp hx; exact h1 z hz
  ba := fun x hx z hz => by
    rcases List.mem_append.mp hx with hx | hx
    · exact j.ba x hx z (drop_one hz)
    · obtain rfl := List.mem_singleton.mp hx
      obtain ⟨k, hk, ek⟩ := mem_drop hz
      exact asc_get sA (by omega) e ek
theorem JW.chunkA (j : JW L A B out ia ib) (sA : Asc L A) : ∀ (k : Nat), ia + k ≤ A.length → (∀ i y, i < k → A[ia + i]? = some y → ∀ z ∈ B.drop ib, L y z = true) → JW L A B (out ++ (A.drop ia).take k) (ia + k) ib
  | 0, _, _ => by simpa using j
  | k + 1, hl, h => by
    have e : A[ia + k]? = some A[ia + k] := List.getElem?_eq_getElem (by omega)
    have ih := JW.chunkA j sA k (by omega) fun i y hi e => h i y (by omega) e
    have := ih.pushA e (h k _ (by omega) e) sA
    rw [List.append_assoc] at this
    have e2 : (A.drop ia).take (k + 1) = (A.drop ia).take k ++ [A[ia + k]] := take_one (by rw [List.getElem?_drop]; exact e)
    rw [e2]; exact this
theorem JW.chunkB (j : JW L A B out ia ib) (sB : Asc L B) : ∀ (k : Nat), ib + k ≤ B.length → (∀ i y, i < k → B[ib + i]? = some y → ∀ z ∈ A.drop ia, L y z = true) → JW L A B (out ++ (B.drop ib).take k) ia (ib + k)
  | 0, _, _ => by simpa using j
  | k + 1, hl, h => by
    have e : B[ib + k]? = some B[ib + k] := List.getElem?_eq_getElem (by omega)
    have ih := JW.chunkB j sB k (by omega) fun i y hi e => h i y (by omega) e
    have := ih.pushB e (h k _ (by omega) e) sB
    rw [List.append_assoc] at this
    have e2 : (B.drop ib).take (k + 1) = (B.drop ib).take k ++ [B[ib + k]] := take_one (by rw [List.getElem?_drop]; exact e)
    rw [e2]; exact this
theorem JW.len (j : JW L A B out ia ib) (ha : ia ≤ A.length) (hb : ib ≤ B.length) : out.length = ia + ib := by
  rw [j.pm.length_eq, List.length_append, List.length_take, List.length_take]; omega
theorem JW.doneB (j : JW L A B out ia ib) (sA : Asc L A) (h : B.length ≤ ib) : (out ++ A.drop ia ++ B.drop ib).Perm (A ++ B) ∧ Asc L (out ++ A.drop ia ++ B.drop ib) := by
  have e : B.drop ib = [] := List.drop_eq_nil_of_le h
  have := j.fin (R := A.drop ia) (by rw [e, List.append_nil]) (sA.sublist (List.drop_sublist ..))
  rw [e, List.append_nil]; exact this
theorem JW.lastA (j : JW L A B out ia ib) (sA : Asc L A) (sB : Asc L B) (h : ∀ x ∈ B.drop ib, ∀ y ∈ A.drop ia, L x y = true) : (out ++ B.drop ib ++ A.drop ia).Perm (A ++ B) ∧ Asc L (out ++ B.drop ib ++ A.drop ia) := by
  have := j.fin (R := B.drop ib ++ A.drop ia) List.perm_append_comm (List.pairwise_append.mpr ⟨sB.sublist (List.drop_sublist ..), sA.sublist (List.drop_sublist ..), h⟩)
  rw [List.append_assoc]; exact this
end
structure Sm (st st' : SortSt) : Prop where
  k : kindOf st' = kindOf st
  a : arrOf st' = arrOf st
  p : pendingOf st' = pendingOf st
  f : failedOf st' = failedOf st
theorem Sm.refl (st : SortSt) : Sm st st := ⟨rfl, rfl, rfl, rfl⟩
theorem Sm.trans {a b c : SortSt} (x : Sm a b) (y : Sm b c) : Sm a c := ⟨y.k.trans x.k, y.a.trans x.a, y.p.trans x.p, y.f.trans x.f⟩
def setG : Nat → StateT SortSt Sem Unit := sortPriv% PySem.Builtin.setMinGallop
section
variable {prog : Program} {w : World} {A : Around} {E : Value → Shared → Prop} {s : Shared} {st : SortSt} {κ : SortKind} {L : Keyed → Keyed → Bool} {a₀ : Array Keyed}
theorem s_setG {n : Nat} {Q : Unit → SortSt → Prop} (h : ∀ st', Sm st st' → Q () st') : wpS (model prog w) A E s (setG n) Q st := by
  refine wpS_modify ?_
  exact h _ ⟨rfl, rfl, rfl, rfl⟩
theorem s_rule {x : String} {Q : Unit → SortSt → Prop} (h : Q () st) : wpS (model prog w) A E s (liftM (rule x) : StateT SortSt Sem Unit) Q st := wpS_lift (wpAny_rule ⟨rfl, h⟩)
theorem ext_list (out a : Array Keyed) (i n : Nat) (h : a.size ≤ n) : (a.extract i n).toList = a.toList.drop i := by
  rw [Array.toList_extract, List.extract_eq_drop_take, List.take_of_length_le]
  rw [List.length_drop, Array.length_toList]; omega
structure Mg (L : Keyed → Keyed → Bool) (a₀ a b : Array Keyed) : Prop where
  ha : ∀ x ∈ a.toList, x ∈ a₀
  hb : ∀ x ∈ b.toList, x ∈ a₀
  sa : Asc L a.toList
  sb : Asc L b.toList
  ne : ∀ x ∈ a.toList, ∀ y ∈ b.toList, x ≠ y
  na : 0 < a.size
  nb : 0 < b.size
  fst : ∀ x ∈ a.toList, L b[0] x = true
  lst : ∀ x ∈ b.toList, L x (a[a.size - 1]'(by omega)) = true
abbrev Fin' (L : Keyed → Keyed → Bool) (a b r : Array Keyed) : Prop := r.toList.Perm (a.toList ++ b.toList) ∧ Asc L r.toList
end
end TS
namespace TS
open PySem PyProof.Rows
section
variable {prog : Program} {w : World} {W : Around} {E : Value → Shared → Prop} {s : Shared} {st : SortSt} {κ : SortKind} {L : Keyed → Keyed → Bool} {a₀ a b : Array Keyed}
theorem getL {arr : Array Keyed} {i : Nat} (h : i < arr.size) : arr[i]? = some arr[i] ∧ arr.toList[i]? = some arr[i] ∧ arr[i] ∈ arr.toList := ⟨by simp [h], by simp [h], by simp⟩
theorem dB {out : Array Keyed} {ia ib : Nat} (M : Mg L a₀ a b) (j : JW L a.toList b.toList out.toList ia ib) (h : b.size ≤ ib) : Fin' L a b (out ++ a.extract ia a.size ++ b.extract ib b.size) := by
  have := j.doneB M.sa (by simpa using h)
  rw [← ext_list out a ia a.size (Nat.le_refl _), ← ext_list out b ib b.size (Nat.le_refl _), ← Array.toList_append, ← Array.toList_append] at this
  exact this
theorem lA {out : Array Keyed} {ia ib : Nat} (M : Mg L a₀ a b) (j : JW L a.toList b.toList out.toList ia ib) (h : ia + 1 = a.size) : Fin' L a b (out ++ b.extract ib b.size ++ a.extract ia a.size) := by
  have := j.lastA M.sa M.sb (fun x hx y hy => by
    obtain ⟨k, hk, e⟩ := mem_drop hy
    obtain ⟨hl, e⟩ := List.getElem?_eq_some_iff.mp e
    have hl' : k < a.size := by simpa using hl
    have : k = a.size - 1 := by omega
    subst this
    have := M.lst x (List.mem_of_mem_drop hx)
    rw [← e]; simpa using this)
  rw [← ext_list out a ia a.size (Nat.le_refl _), ← ext_list out b ib b.size (Nat.le_refl _), ← Array.toList_append, ← Array.toList_append] at this
  exact this
theorem ahead {arr : Array Keyed} {x : Keyed} {i : Nat} (O : Tot L a₀) (ha : ∀ x ∈ arr.toList, x ∈ a₀) (sa : Asc L arr.toList) (hx : x ∈ a₀) (hi : i < arr.size) (h : L x arr[i] = true) : ∀ z ∈ arr.toList.drop i, L x z = true := fun z hz => by
  obtain ⟨k, hk, e⟩ := mem_drop hz
  by_cases he : k = i
  · subst he; rw [(getL hi).2.1] at e; cases e; exact h
  · exact O.tr x arr[i] z hx (ha _ (getL hi).2.2) (ha _ (List.mem_of_mem_drop hz)) h (asc_get sa (by omega) (getL hi).2.1 e)
theorem s_mlo {Q : Array Keyed → SortSt → Prop} (O : Tot L a₀) (K : Asks prog w W s κ L a₀) (M : Mg L a₀ a b) (hkn : kindOf st = κ) (h : ∀ r st', Sm st st' → Fin' L a b r → Q r st') : wpS (model prog w) W E s (mlo a b) Q st := by
  have lt_of : ∀ {i k : Nat} (hi : i < a.size) (hk : k < b.size), L b[k] a[i] = false → L a[i] b[k] = true := fun {i k} hi hk e => O.not (M.hb _ (getL hk).2.2) (M.ha _ (getL hi).2.2) (fun z => M.ne _ (getL hi).2.2 _ (getL hk).2.2 z.symm) e
  have aA : ∀ {x : Keyed} {i : Nat} (hx : x ∈ a₀) (hi : i < a.size), L x a[i] = true → ∀ z ∈ a.toList.drop i, L x z = true := fun hx hi e => ahead O M.ha M.sa hx hi e
  have aB : ∀ {x : Keyed} {i : Nat} (hx : x ∈ a₀) (hi : i < b.size), L x b[i] = true → ∀ z ∈ b.toList.drop i, L x z = true := fun hx hi e => ahead O M.hb M.sb hx hi e
  have na := M.na
  have nb := M.nb
  refine wpS_bind (s_rule ?_)
  refine wpS_bind (s_elem (getL M.nb).1 ?_)
  have j0 : JW L a.toList b.toList (#[b[0]] : Array Keyed).toList 0 1 := by
    have : JW L a.toList b.toList [] 0 0 := ⟨by simp, List.Pairwise.nil, by simp, by simp⟩
    exact this.pushB (getL M.nb).2.1 (fun z hz => M.fst z (by simpa using hz)) M.sb
  dsimp only
  by_cases c1 : b.size = 1
  · rw [if_pos (by simp [c1])]
    exact wpS_pure (h _ _ (Sm.refl _) (dB M j0 (by omega)))
  rw [if_neg (by simp; omega)]
  by_cases c2 : a.size = 1
  · rw [if_pos (by simp [c2])]
    exact wpS_pure (h _ _ (Sm.refl _) (lA M j0 (by omega)))
  rw [if_neg (by simp; omega)]
  refine wpS_bind (wpS_get ?_)
  refine wpS_bind (wpS_mono (Q := fun z st' => Sm st st' ∧ ∃ r, z.1 = some r ∧ Fin' L a b r) ?_ ?_)
  · refine wpS_forRange (fun i z st' => Sm st st' ∧ z.1 = none ∧ JW L a.toList b.toList z.2.1.toList z.2.2.1 z.2.2.2.1 ∧ z.2.2.1 + 1 < a.size ∧ z.2.2.2.1 < b.size ∧ i + 1 ≤ z.2.1.size) ?_ ?_ ⟨Sm.refl _, rfl, j0, by dsimp only; omega, by dsimp only; omega, by simp⟩
    · rintro i ⟨r0, out, ia, ib, mg⟩ st1 _ hi ⟨sm1, _, j1, b1, b2, b3⟩
      dsimp only at j1 b1 b2 b3 ⊢
      -- one by one
      refine wpS_bind (wpS_mono (Q := fun z st' => Sm st st' ∧ ((∃ r, z.1 = some r ∧ Fin' L a b r) ∨ (z.1 = none ∧ JW L a.toList b.toList z.2.1.toList z.2.2.1 z.2.2.2.1 ∧ z.2.2.1 + 1 < a.size ∧ z.2.2.2.1 < b.size ∧ out.size + 1 ≤ z.2.1.size))) ?_ ?_)
      · refine wpS_forRange (fun i z st' => Sm st st' ∧ z.1 = none ∧ JW L a.toList b.toList z.2.1.toList z.2.2.1 z.2.2.2.1 ∧ z.2.2.1 + 1 < a.size ∧ z.2.2.2.1 < b.size ∧ out.size + i ≤ z.2.1.size) ?_ ?_ ⟨sm1, rfl, j1, b1, b2, by simp⟩
        · rintro i ⟨r0, out1, ia, ib, ac, bc⟩ st2 _ hi ⟨sm2, _, j2, d1, d2, d3⟩
          dsimp only at j2 d1 d2 d3 ⊢
          have ea := getL (arr := a) (i := ia) (by omega)
          have eb := getL (arr := b) (i := ib) d2
          refine wpS_bind (s_elem eb.1 (wpS_bind (s_elem ea.1 (wpS_bind (s_lt K (sm2.k.trans hkn) (M.hb _ eb.2.2) (M.ha _ ea.2.2) ?_)))))
          dsimp only
          cases e : L b[ib] a[ia] with
          | true =>
            rw [if_pos rfl]
            refine wpS_bind (s_elem eb.1 ?_)
            have j3 : JW L a.toList b.toList (out1.push b[ib]).toList ia (ib + 1) := by
              rw [Array.toList_push]; exact j2.pushB eb.2.1 (aA (M.hb _ eb.2.2) (by omega) e) M.sb
            by_cases c : ib + 1 = b.size
            · rw [if_pos (by simp [c])]
              exact wpS_pure ⟨sm2, .inl ⟨_, rfl, dB M j3 (by omega)⟩⟩
            · rw [if_neg (by simp; omega)]
              split
              · exact wpS_pure ⟨sm2, .inr ⟨rfl, j3, d1, by dsimp only; omega, by simp; omega⟩⟩
              · exact wpS_pure ⟨sm2, rfl, j3, d1, by dsimp only; omega, by simp; omega⟩
          | false =>
            rw [if_neg (by simp)]
            refine wpS_bind (s_elem ea.1 ?_)
            have j3 : JW L a.toList b.toList (out1.push a[ia]).toList (ia + 1) ib := by
              rw [Array.toList_push]; exact j2.pushA ea.2.1 (aB (M.ha _ ea.2.2) d2 (lt_of _ _ e)) M.sa
            by_cases c : ia + 1 + 1 = a.size
            · rw [if_pos (by simp [c])]
              exact wpS_pure ⟨sm2, .inl ⟨_, rfl, lA M j3 (by omega)⟩⟩
            · rw [if_neg (by simp; omega)]
              split
              · exact wpS_pure ⟨sm2, .inr ⟨rfl, j3, by dsimp only; omega, d2, by simp; omega⟩⟩
              · exact wpS_pure ⟨sm2, rfl, j3, by dsimp only; omega, d2, by simp; omega⟩
        · rintro ⟨r0, out1, ia, ib, ac, bc⟩ st2 ⟨sm2, e0, j2, d1, d2, d3⟩
          dsimp only at j2 d1 d2 d3 e0 ⊢
          exact ⟨sm2, .inr ⟨e0, j2, d1, d2, by omega⟩⟩
      · rintro ⟨r0, out1, ia, ib, ac, bc⟩ st2 ⟨sm2, z⟩
        dsimp only at z ⊢
        rcases z with ⟨r, rfl, fr⟩ | ⟨rfl, j2, d1, d2, d3⟩
        · exact wpS_pure ⟨sm2, r, rfl, fr⟩
        dsimp only
        refine wpS_bind (s_rule ?_)
        -- by leaps
        refine wpS_bind (wpS_mono (Q := fun z st' => Sm st st' ∧ ((∃ r, z.1 = some r ∧ Fin' L a b r) ∨ (z.1 = none ∧ JW L a.toList b.toList z.2.1.toList z.2.2.1 z.2.2.2.1 ∧ z.2.2.1 + 1 < a.size ∧ z.2.2.2.1 < b.size ∧ out.size + 1 ≤ z.2.1.size))) ?_ ?_)
        · refine wpS_forRange (fun i z st' => Sm st st' ∧ z.1 = none ∧ JW L a.toList b.toList z.2.1.toList z.2.2.1 z.2.2.2.1 ∧ z.2.2.1 + 1 < a.size ∧ z.2.2.2.1 < b.size ∧ out.size + 1 ≤ z.2.1.size) ?_ ?_ ⟨sm2, rfl, j2, d1, d2, d3⟩
          · rintro i ⟨r0, out1, ia, ib, mg1, ac, bc⟩ st3 _ hi ⟨sm3, _, j3, d1, d2, d3⟩
            dsimp only at j3 d1 d2 d3 ⊢
            by_cases cm : mg1 > 1
            all_goals
              first | rw [if_pos cm] | rw [if_neg cm]
              refine wpS_bind (s_setG fun st4 sm4 => ?_)
              have sm5 := sm3.trans sm4
              have eb := getL (arr := b) (i := ib) d2
              refine wpS_bind (s_elem eb.1 ?_)
              refine wpS_bind (s_gal (b := fun i => if hi : ia + i < a.size then !(L b[ib] a[ia + i]) else false) K (sm5.k.trans hkn) (M.hb _ eb.2.2) (fun i hi => ?_) (fun i k hik hk e => ?_) (by omega) (fun k hk y1 y2 => ?_))
              · have hi' : ia + i < a.size := by omega
                refine ⟨_, (getL hi').1, M.ha _ (getL hi').2.2, ?_⟩
                try dsimp only
                rw [dif_pos hi']; rfl
              · have hk' : ia + k < a.size := by omega
                have hi' : ia + i < a.size := by omega
                try dsimp only at e ⊢
                rw [dif_pos hk'] at e
                rw [dif_pos hi']
                by_cases hik2 : i = k
                · subst hik2; exact e
                · cases q : L b[ib] a[ia + i] with
                  | false => rfl
                  | true =>
                    have := aA (M.hb _ eb.2.2) hi' q _ (drop_of (j := ia + k) (by omega) (getL hk').2.1)
                    rw [this] at e; cases e
              have f1 : ∀ i y, i < k → a.toList[ia + i]? = some y → ∀ z ∈ b.toList.drop ib, L y z = true := fun i y hi ey => by
                have hi' : ia + i < a.size := by omega
                have q := y1 i hi
                rw [dif_pos hi'] at q
                rw [(getL hi').2.1] at ey; cases ey
                exact aB (M.ha _ (getL hi').2.2) d2 (lt_of hi' d2 (by simpa using q))
              have f2 : ∀ z ∈ a.toList.drop (ia + k), L b[ib] z = true := fun z hz => by
                obtain ⟨n, hn, en⟩ := mem_drop hz
                obtain ⟨hl, en⟩ := List.getElem?_eq_some_iff.mp en
                have hl' : n < a.size := by simpa using hl
                have q := y2 (n - ia) (by omega) (by omega)
                have e3 : ia + (n - ia) = n := by omega
                have hl2 : ia + (n - ia) < a.size := by omega
                rw [dif_pos hl2] at q
                rw [← en]
                simp only [e3] at q
                simpa using q
              have j4 : JW L a.toList b.toList (out1 ++ a.extract ia (ia + k)).toList (ia + k) ib := by
                rw [Array.toList_append, Array.toList_extract, List.extract_eq_drop_take, show ia + k - ia = k by omega]
                exact j3.chunkA M.sa k (by simp; omega) f1
              have kl : ia + k < a.size := by
                rcases Nat.lt_or_ge (ia + k) a.size with g | g
                · exact g
                · exfalso
                  have hi' : a.size - 1 < a.size := by omega
                  have q := y1 (a.size - 1 - ia) (by omega)
                  have e3 : ia + (a.size - 1 - ia) = a.size - 1 := by omega
                  simp only [e3] at q
                  rw [dif_pos hi', M.lst _ eb.2.2] at q
                  cases q
              try dsimp only
              by_cases k0 : k > 0
              · rw [if_pos k0]
                by_cases c : ia + k + 1 = a.size
                · rw [if_pos (by simp [c])]
                  exact wpS_pure ⟨sm5, .inl ⟨_, rfl, lA M j4 c⟩⟩
                rw [if_neg (by simp; omega), if_neg (by simp; omega)]
                refine wpS_bind (s_elem eb.1 ?_)
                have j5 : JW L a.toList b.toList (Array.push (out1 ++ a.extract ia (ia + k)) b[ib]).toList (ia + k) (ib + 1) := by
                  rw [Array.toList_push]; exact JW.pushB j4 eb.2.1 f2 M.sb
                try dsimp only
                by_cases c3 : ib + 1 = b.size
                · rw [if_pos (by simp [c3])]
                  exact wpS_pure ⟨sm5, .inl ⟨_, rfl, dB M j5 (by omega)⟩⟩
                rw [if_neg (by simp; omega)]
                have ea := getL (arr := a) (i := ia + k) (by omega)
                refine wpS_bind (s_elem ea.1 ?_)
                refine wpS_bind (s_gal (b := fun i => if hi : ib + 1 + i < b.size then L b[ib + 1 + i] a[ia + k] else false) K (sm5.k.trans hkn) (M.ha _ ea.2.2) (fun i hi => ?_) (fun i k hik hk e => ?_) (by omega) (fun m hm x1 x2 => ?_))
                · have hi' : ib + 1 + i < b.size := by omega
                  refine ⟨_, (getL hi').1, M.hb _ (getL hi').2.2, ?_⟩
                  try dsimp only
                  rw [dif_pos hi']; rfl
                · have hk' : ib + 1 + k < b.size := by omega
                  have hi' : ib + 1 + i < b.size := by omega
                  try dsimp only at e ⊢
                  rw [dif_pos hk'] at e
                  rw [dif_pos hi']
                  by_cases hik2 : i = k
                  · subst hik2; exact e
                  · exact O.tr _ _ _ (M.hb _ (getL hi').2.2) (M.hb _ (getL hk').2.2) (M.ha _ ea.2.2) (asc_get M.sb (i := ib + 1 + i) (j := ib + 1 + k) (by omega) (getL hi').2.1 (getL hk').2.1) e
                have g1 : ∀ i y, i < m → b.toList[ib + 1 + i]? = some y → ∀ z ∈ a.toList.drop (ia + k), L y z = true := fun i y hi ey => by
                  have hi' : ib + 1 + i < b.size := by omega
                  have q := x1 i hi
                  rw [dif_pos hi'] at q
                  rw [(getL hi').2.1] at ey; cases ey
                  exact aA (M.hb _ (getL hi').2.2) (by omega) q
                have g2 : ∀ z ∈ b.toList.drop (ib + 1 + m), L a[ia + k] z = true := fun z hz => by
                  obtain ⟨n, hn, en⟩ := mem_drop hz
                  obtain ⟨hl, en⟩ := List.getElem?_eq_some_iff.mp en
                  have hl' : n < b.size := by simpa using hl
                  have q := x2 (n - (ib + 1)) (by omega) (by omega)
                  have e3 : ib + 1 + (n - (ib + 1)) = n := by omega
                  have hl2 : ib + 1 + (n - (ib + 1)) < b.size := by omega
                  rw [dif_pos hl2] at q
                  rw [← en]
                  simp only [e3] at q
                  have := lt_of (i := ia + k) (by omega) hl' (by simpa using q)
                  simpa using this
                have j6 : JW L a.toList b.toList (Array.push (out1 ++ a.extract ia (ia + k)) b[ib] ++ b.extract (ib + 1) (ib + 1 + m)).toList (ia + k) (ib + 1 + m) := by
                  rw [Array.toList_append, Array.toList_extract, List.extract_eq_drop_take, show ib + 1 + m - (ib + 1) = m by omega]
                  exact j5.chunkB M.sb m (by simp; omega) g1
                try dsimp only
                by_cases m0 : m > 0
                · rw [if_pos m0]
                  by_cases c4 : ib + 1 + m = b.size
                  · rw [if_pos (by simp [c4])]
                    exact wpS_pure ⟨sm5, .inl ⟨_, rfl, dB M j6 (by omega)⟩⟩
                  rw [if_neg (by simp; omega)]
                  refine wpS_bind (s_elem ea.1 ?_)
                  have j7 : JW L a.toList b.toList (Array.push (Array.push (out1 ++ a.extract ia (ia + k)) b[ib] ++ b.extract (ib + 1) (ib + 1 + m)) a[ia + k]).toList (ia + k + 1) (ib + 1 + m) := by
                    rw [Array.toList_push]; exact JW.pushA j6 ea.2.1 g2 M.sa
                  try dsimp only
                  by_cases c5 : ia + k + 1 + 1 = a.size
                  · rw [if_pos (by simp [c5])]
                    exact wpS_pure ⟨sm5, .inl ⟨_, rfl, lA M j7 (by omega)⟩⟩
                  rw [if_neg (by simp; omega)]
                  split
                  · exact wpS_pure ⟨sm5, .inr ⟨rfl, j7, by dsimp only; omega, by dsimp only; omega, by simp; omega⟩⟩
                  · exact wpS_pure ⟨sm5, rfl, j7, by dsimp only; omega, by dsimp only; omega, by simp; omega⟩
                · rw [if_neg m0]
                  obtain rfl : m = 0 := by omega
                  refine wpS_bind (s_elem ea.1 ?_)
                  have j7 : JW L a.toList b.toList (Array.push (Array.push (out1 ++ a.extract ia (ia + k)) b[ib]) a[ia + k]).toList (ia + k + 1) (ib + 1) := by
                    rw [Array.toList_push]; exact JW.pushA j5 ea.2.1 g2 M.sa
                  try dsimp only
                  by_cases c5 : ia + k + 1 + 1 = a.size
                  · rw [if_pos (by simp [c5])]
                    exact wpS_pure ⟨sm5, .inl ⟨_, rfl, lA M j7 (by omega)⟩⟩
                  rw [if_neg (by simp; omega)]
                  split
                  · exact wpS_pure ⟨sm5, .inr ⟨rfl, j7, by dsimp only; omega, by dsimp only; omega, by simp; omega⟩⟩
                  · exact wpS_pure ⟨sm5, rfl, j7, by dsimp only; omega, by dsimp only; omega, by simp; omega⟩
              · rw [if_neg k0]
                obtain rfl : k = 0 := by omega
                refine wpS_bind (s_elem eb.1 ?_)
                have j5 : JW L a.toList b.toList (Array.push (out1) b[ib]).toList (ia) (ib + 1) := by
                  rw [Array.toList_push]; exact JW.pushB j3 eb.2.1 f2 M.sb
                try dsimp only
                by_cases c3 : ib + 1 = b.size
                · rw [if_pos (by simp [c3])]
                  exact wpS_pure ⟨sm5, .inl ⟨_, rfl, dB M j5 (by omega)⟩⟩
                rw [if_neg (by simp; omega)]
                have ea := getL (arr := a) (i := ia) (by omega)
                refine wpS_bind (s_elem ea.1 ?_)
                refine wpS_bind (s_gal (b := fun i => if hi : ib + 1 + i < b.size then L b[ib + 1 + i] a[ia] else false) K (sm5.k.trans hkn) (M.ha _ ea.2.2) (fun i hi => ?_) (fun i k hik hk e => ?_) (by omega) (fun m hm x1 x2 => ?_))
                · have hi' : ib + 1 + i < b.size := by omega
                  refine ⟨_, (getL hi').1, M.hb _ (getL hi').2.2, ?_⟩
                  try dsimp only
                  rw [dif_pos hi']; rfl
                · have hk' : ib + 1 + k < b.size := by omega
                  have hi' : ib + 1 + i < b.size := by omega
                  try dsimp only at e ⊢
                  rw [dif_pos hk'] at e
                  rw [dif_pos hi']
                  by_cases hik2 : i = k
                  · subst hik2; exact e
                  · exact O.tr _ _ _ (M.hb _ (getL hi').2.2) (M.hb _ (getL hk').2.2) (M.ha _ ea.2.2) (asc_get M.sb (i := ib + 1 + i) (j := ib + 1 + k) (by omega) (getL hi').2.1 (getL hk').2.1) e
                have g1 : ∀ i y, i < m → b.toList[ib + 1 + i]? = some y → ∀ z ∈ a.toList.drop (ia), L y z = true := fun i y hi ey => by
                  have hi' : ib + 1 + i < b.size := by omega
                  have q := x1 i hi
                  rw [dif_pos hi'] at q
                  rw [(getL hi').2.1] at ey; cases ey
                  exact aA (M.hb _ (getL hi').2.2) (by omega) q
                have g2 : ∀ z ∈ b.toList.drop (ib + 1 + m), L a[ia] z = true := fun z hz => by
                  obtain ⟨n, hn, en⟩ := mem_drop hz
                  obtain ⟨hl, en⟩ := List.getElem?_eq_some_iff.mp en
                  have hl' : n < b.size := by simpa using hl
                  have q := x2 (n - (ib + 1)) (by omega) (by omega)
                  have e3 : ib + 1 + (n - (ib + 1)) = n := by omega
                  have hl2 : ib + 1 + (n - (ib + 1)) < b.size := by omega
                  rw [dif_pos hl2] at q
                  rw [← en]
                  simp only [e3] at q
                  have := lt_of (i := ia) (by omega) hl' (by simpa using q)
                  simpa using this
                have j6 : JW L a.toList b.toList (Array.push (out1) b[ib] ++ b.extract (ib + 1) (ib + 1 + m)).toList (ia) (ib + 1 + m) := by
                  rw [Array.toList_append, Array.toList_extract, List.extract_eq_drop_take, show ib + 1 + m - (ib + 1) = m by omega]
                  exact j5.chunkB M.sb m (by simp; omega) g1
                try dsimp only
                by_cases m0 : m > 0
                · rw [if_pos m0]
                  by_cases c4 : ib + 1 + m = b.size
                  · rw [if_pos (by simp [c4])]
                    exact wpS_pure ⟨sm5, .inl ⟨_, rfl, dB M j6 (by omega)⟩⟩
                  rw [if_neg (by simp; omega)]
                  refine wpS_bind (s_elem ea.1 ?_)
                  have j7 : JW L a.toList b.toList (Array.push (Array.push (out1) b[ib] ++ b.extract (ib + 1) (ib + 1 + m)) a[ia]).toList (ia + 1) (ib + 1 + m) := by
                    rw [Array.toList_push]; exact JW.pushA j6 ea.2.1 g2 M.sa
                  try dsimp only
                  by_cases c5 : ia + 1 + 1 = a.size
                  · rw [if_pos (by simp [c5])]
                    exact wpS_pure ⟨sm5, .inl ⟨_, rfl, lA M j7 (by omega)⟩⟩
                  rw [if_neg (by simp; omega)]
                  split
                  · exact wpS_pure ⟨sm5, .inr ⟨rfl, j7, by dsimp only; omega, by dsimp only; omega, by simp; omega⟩⟩
                  · exact wpS_pure ⟨sm5, rfl, j7, by dsimp only; omega, by dsimp only; omega, by simp; omega⟩
                · rw [if_neg m0]
                  obtain rfl : m = 0 := by omega
                  refine wpS_bind (s_elem ea.1 ?_)
                  have j7 : JW L a.toList b.toList (Array.push (Array.push (out1) b[ib]) a[ia]).toList (ia + 1) (ib + 1) := by
                    rw [Array.toList_push]; exact JW.pushA j5 ea.2.1 g2 M.sa
                  try dsimp only
                  by_cases c5 : ia + 1 + 1 = a.size
                  · rw [if_pos (by simp [c5])]
                    exact wpS_pure ⟨sm5, .inl ⟨_, rfl, lA M j7 (by omega)⟩⟩
                  rw [if_neg (by simp; omega)]
                  split
                  · exact wpS_pure ⟨sm5, .inr ⟨rfl, j7, by dsimp only; omega, by dsimp only; omega, by simp; omega⟩⟩
                  · exact wpS_pure ⟨sm5, rfl, j7, by dsimp only; omega, by dsimp only; omega, by simp; omega⟩
          · rintro ⟨r0, out1, ia, ib, mg1, ac, bc⟩ st3 ⟨sm3, e0, j3, d1, d2, d3⟩
            exact ⟨sm3, .inr ⟨e0, j3, d1, d2, d3⟩⟩
        · rintro ⟨r0, out1, ia, ib, mg1, ac, bc⟩ st3 ⟨sm3, z⟩
          dsimp only at z ⊢
          rcases z with ⟨r, rfl, fr⟩ | ⟨rfl, j3, d1, d2, d3⟩
          · exact wpS_pure ⟨sm3, r, rfl, fr⟩
          dsimp only
          refine wpS_bind (s_setG fun st4 sm4 => wpS_pure ⟨sm3.trans sm4, rfl, j3, d1, d2, by dsimp only; omega⟩)
    · rintro ⟨r0, out1, ia, ib, mg1⟩ st3 ⟨sm3, e0, j3, d1, d2, d3⟩
      dsimp only at j3 d1 d2 d3
      have := j3.len (by simp; omega) (by simp; omega)
      simp at this
      omega
  · rintro ⟨r0, out1, ia, ib, mg1⟩ st3 ⟨sm3, r, e0, fr⟩
    dsimp only at e0 ⊢
    subst e0
    exact wpS_pure (h r st3 sm3 fr)
end
end TS
namespace TS
open PySem PyProof.Rows
structure JH (L : Keyed → Keyed → Bool) (A B T : List Keyed) (na nb : Nat) : Prop where
  pm : T.Perm (A.drop na ++ B.drop nb)
  so : Asc L T
  ba : ∀ x ∈ A.take na, ∀ y ∈ T, L x y = true
  bb : ∀ x ∈ B.take nb, ∀ y ∈ T, L x y = true
section
variable {L : Keyed → Keyed → Bool} {A B T : List Keyed} {na nb : Nat} {a₀ : Array Keyed}
theorem mem_take {l : List Keyed} {n : Nat} {y : Keyed} (h : y ∈ l.take n) : ∃ j, j < n ∧ l[j]? = some y := by
  obtain ⟨i, hi, rfl⟩ := List.getElem_of_mem h
  rw [List.length_take] at hi
  refine ⟨i, by omega, ?_⟩
  rw [List.getElem_take, List.getElem?_eq_getElem (by omega)]
theorem take_of {l : List Keyed} {n j : Nat} {y : Keyed} (hj : j < n) (h : l[j]? = some y) : y ∈ l.take n := by
  refine List.mem_of_getElem? (i := j) ?_
  rw [List.getElem?_take, if_pos hj]; exact h
theorem JH.fin (j : JH L A B T na nb) {R : List Keyed} (hR : R.Perm (A.take na ++ B.take nb)) (sR : Asc L R) : (R ++ T).Perm (A ++ B) ∧ Asc L (R ++ T) := by
  constructor
  · refine (List.Perm.append hR j.pm).trans ?_
    have h1 : ((A.take na ++ B.take nb) ++ (A.drop na ++ B.drop nb)).Perm ((A.take na ++ A.drop na) ++ (B.take nb ++ B.drop nb)) := by
      rw [List.append_assoc, List.append_assoc]
      refine List.Perm.append_left _ ?_
      rw [← List.append_assoc, ← List.append_assoc]
      exact List.Perm.append_right _ List.perm_append_comm
    rw [List.take_append_drop, List.take_append_drop] at h1
    exact h1
  · refine List.pairwise_append.mpr ⟨sR, j.so, fun x hx y hy => ?_⟩
    rcases List.mem_append.mp (hR.subset hx) with h | h
    · exact j.ba x h y hy
    · exact j.bb x h y hy
theorem drop_cons {l : List Keyed} {i : Nat} {y : Keyed} (h : l[i]? = some y) : l.drop i = y :: l.drop (i + 1) := by
  obtain ⟨hi, rfl⟩ := List.getElem?_eq_some_iff.mp h
  exact List.drop_eq_getElem_cons hi
theorem JH.popA (j : JH L A B T (na + 1) nb) {y : Keyed} (e : A[na]? = some y) (h1 : ∀ z ∈ B.take nb, L z y = true) (sA : Asc L A) : JH L A B (y :: T) na nb where
  pm := by rw [drop_cons e, List.cons_append]; exact List.Perm.cons _ j.pm
  so := List.Pairwise.cons (fun z hz => j.ba y (take_of (Nat.lt_succ_self _) e) z hz) j.so
  ba := fun x hx z hz => by
    obtain ⟨i, hi, ei⟩ := mem_take hx
    rcases List.mem_cons.mp hz with rfl | hz
    · exact asc_get sA hi ei e
    · exact j.ba x (take_of (by omega) ei) z hz
  bb := fun x hx z hz => by
    rcases List.mem_cons.mp hz with rfl | hz
    · exact h1 x hx
    · exact j.bb x hx z hz
theorem JH.popB (j : JH L A B T na (nb + 1)) {y : Keyed} (e : B[nb]? = some y) (h1 : ∀ z ∈ A.take na, L z y = true) (sB : Asc L B) : JH L A B (y :: T) na nb where
  pm := by rw [drop_cons e]; exact (List.Perm.cons _ j.pm).trans List.perm_middle.symm
  so := List.Pairwise.cons (fun z hz => j.bb y (take_of (Nat.lt_succ_self _) e) z hz) j.so
  bb := fun x hx z hz => by
    obtain ⟨i, hi, ei⟩ := mem_take hx
    rcases List.mem_cons.mp hz with rfl | hz
    · exact asc_get sB hi ei e
    · exact j.bb x (take_of (by omega) ei) z hz
  ba := fun x hx z hz => by
    rcases List.mem_cons.mp hz with rfl | hz
    · exact h1 x hx
    · exact j.ba x hx z hz
theorem JH.chunkA (sA : Asc L A) (q : Nat) : ∀ (k : Nat) {T : List Keyed}, JH L A B T (q + k) nb → q + k ≤ A.length → (∀ i y, q ≤ i → i < q + k → A[i]? = some y → ∀ z ∈ B.take nb, L z y = true) → JH L A B ((A.drop q).take k ++ T) q nb
  | 0, _, j, _, _ => by simpa using j
  | k + 1, T, j, hl, h => by
    have e : A[q + k]? = some A[q + k] := List.getElem?_eq_getElem (by omega)
    have j1 : JH L A B (A[q + k] :: T) (q + k) nb := j.popA e (h (q + k) _ (by omega) (by omega) e) sA
    have ih := JH.chunkA sA q k j1 (by omega) fun i y hi hi2 e => h i y hi (by omega) e
    have e2 : (A.drop q).take (k + 1) = (A.drop q).take k ++ [A[q + k]] := take_one (by rw [List.getElem?_drop]; exact e)
    rw [e2, List.append_assoc]; exact ih
theorem JH.chunkB (sB : Asc L B) (q : Nat) : ∀ (k : Nat) {T : List Keyed}, JH L A B T na (q + k) → q + k ≤ B.length → (∀ i y, q ≤ i → i < q + k → B[i]? = some y → ∀ z ∈ A.take na, L z y = true) → JH L A B ((B.drop q).take k ++ T) na q
  | 0, _, j, _, _ => by simpa using j
  | k + 1, T, j, hl, h => by
    have e : B[q + k]? = some B[q + k] := List.getElem?_eq_getElem (by omega)
    have j1 : JH L A B (B[q + k] :: T) na (q + k) := j.popB e (h (q + k) _ (by omega) (by omega) e) sB
    have ih := JH.chunkB sB q k j1 (by omega) fun i y hi hi2 e => h i y hi (by omega) e
    have e2 : (B.drop q).take (k + 1) = (B.drop q).take k ++ [B[q + k]] := take_one (by rw [List.getElem?_drop]; exact e)
    rw [e2, List.append_assoc]; exact ih
theorem JH.popA' (j : JH L A B T na nb) (hn : 0 < na) {y : Keyed} (e : A[na - 1]? = some y) (h1 : ∀ z ∈ B.take nb, L z y = true) (sA : Asc L A) : JH L A B (y :: T) (na - 1) nb := by
  obtain ⟨n, rfl⟩ : ∃ n, na = n + 1 := ⟨na - 1, by omega⟩
  exact j.popA e h1 sA
theorem JH.popB' (j : JH L A B T na nb) (hn : 0 < nb) {y : Keyed} (e : B[nb - 1]? = some y) (h1 : ∀ z ∈ A.take na, L z y = true) (sB : Asc L B) : JH L A B (y :: T) na (nb - 1) := by
  obtain ⟨n, rfl⟩ : ∃ n, nb = n + 1 := ⟨nb - 1, by omega⟩
  exact j.popB e h1 sB
theorem JH.chunkA' (j : JH L A B T na nb) (sA : Asc L A) {q : Nat} (hq : q ≤ na) (hl : na ≤ A.length) (h : ∀ i y, q ≤ i → i < na → A[i]? = some y → ∀ z ∈ B.take nb, L z y = true) : JH L A B ((A.drop q).take (na - q) ++ T) q nb := by
  obtain ⟨k, rfl⟩ : ∃ k, na = q + k := ⟨na - q, by omega⟩
  rw [show q + k - q = k by omega]
  exact JH.chunkA sA q k j hl h
theorem JH.chunkB' (j : JH L A B T na nb) (sB : Asc L B) {q : Nat} (hq : q ≤ nb) (hl : nb ≤ B.length) (h : ∀ i y, q ≤ i → i < nb → B[i]? = some y → ∀ z ∈ A.take na, L z y = true) : JH L A B ((B.drop q).take (nb - q) ++ T) na q := by
  obtain ⟨k, rfl⟩ : ∃ k, nb = q + k := ⟨nb - q, by omega⟩
  rw [show q + k - q = k by omega]
  exact JH.chunkB sB q k j hl h
theorem JH.len (j : JH L A B T na nb) : T.length = (A.length - na) + (B.length - nb) := by
  rw [j.pm.length_eq, List.length_append, List.length_drop, List.length_drop]
end
section
variable {prog : Program} {w : World} {W : Around} {E : Value → Shared → Prop} {s : Shared} {st : SortSt} {κ : SortKind} {L : Keyed → Keyed → Bool} {a₀ a b : Array Keyed}
theorem ext0 (a : Array Keyed) (n : Nat) : (a.extract 0 n).toList = a.toList.take n := by
  rw [Array.toList_extract, List.extract_eq_drop_take]; simp
theorem hA {out : Array Keyed} {na nb : Nat} (M : Mg L a₀ a b) (j : JH L a.toList b.toList out.toList.reverse na nb) (h : na = 0 ∨ nb = 0) : Fin' L a b (a.extract 0 na ++ b.extract 0 nb ++ out.reverse) := by
  have : Asc L (a.toList.take na ++ b.toList.take nb) := by
    rcases h with rfl | rfl
    · simpa using M.sb.sublist (List.take_sublist ..)
    · simpa using M.sa.sublist (List.take_sublist ..)
  have := j.fin (R := a.toList.take na ++ b.toList.take nb) (List.Perm.refl _) this
  rw [← ext0, ← ext0, ← Array.toList_reverse, ← Array.toList_append, ← Array.toList_append] at this
  exact this
theorem hB {out : Array Keyed} {na nb : Nat} (M : Mg L a₀ a b) (j : JH L a.toList b.toList out.toList.reverse na nb) (h : nb = 1) : Fin' L a b (b.extract 0 nb ++ a.extract 0 na ++ out.reverse) := by
  subst h
  have nb := M.nb
  have : Asc L (b.toList.take 1 ++ a.toList.take na) := by
    refine List.pairwise_append.mpr ⟨M.sb.sublist (List.take_sublist ..), M.sa.sublist (List.take_sublist ..), fun x hx y hy => ?_⟩
    obtain ⟨i, hi, ei⟩ := mem_take hx
    obtain rfl : i = 0 := by omega
    rw [(getL M.nb).2.1] at ei; cases ei
    exact M.fst y (List.mem_of_mem_take hy)
  have := j.fin (R := b.toList.take 1 ++ a.toList.take na) List.perm_append_comm this
  rw [← ext0, ← ext0, ← Array.toList_reverse, ← Array.toList_append, ← Array.toList_append] at this
  exact this
theorem behind {arr : Array Keyed} {x : Keyed} {i : Nat} (O : Tot L a₀) (ha : ∀ x ∈ arr.toList, x ∈ a₀) (sa : Asc L arr.toList) (hx : x ∈ a₀) (hi : i < arr.size) (h : L arr[i] x = true) : ∀ z ∈ arr.toList.take (i + 1), L z x = true := fun z hz => by
  obtain ⟨k, hk, e⟩ := mem_take hz
  by_cases he : k = i
  · subst he; rw [(getL hi).2.1] at e; cases e; exact h
  · exact O.tr z arr[i] x (ha _ (List.mem_of_mem_take hz)) (ha _ (getL hi).2.2) hx (asc_get sa (by omega) e (getL hi).2.1) h
theorem rev_push (out : Array Keyed) (y : Keyed) : (out.push y).toList.reverse = y :: out.toList.reverse := by simp
theorem rev_ext (out c : Array Keyed) (p q : Nat) : (out ++ (c.extract p q).reverse).toList.reverse = (c.toList.drop p).take (q - p) ++ out.toList.reverse := by
  rw [Array.toList_append, List.reverse_append, Array.toList_reverse, List.reverse_reverse, Array.toList_extract, List.extract_eq_drop_take]
theorem s_mhi {Q : Array Keyed → SortSt → Prop} (O : Tot L a₀) (K : Asks prog w W s κ L a₀) (M : Mg L a₀ a b) (hkn : kindOf st = κ) (h : ∀ r st', Sm st st' → Fin' L a b r → Q r st') : wpS (model prog w) W E s (mhi a b) Q st := by
  have na' := M.na
  have nb' := M.nb
  have lt_of : ∀ {i k : Nat} (hi : i < a.size) (hk : k < b.size), L b[k] a[i] = false → L a[i] b[k] = true := fun {i k} hi hk e => O.not (M.hb _ (getL hk).2.2) (M.ha _ (getL hi).2.2) (fun z => M.ne _ (getL hi).2.2 _ (getL hk).2.2 z.symm) e
  refine wpS_bind (s_rule ?_)
  refine wpS_bind (s_elem (getL (i := a.size - 1) (by omega)).1 ?_)
  have j0 : JH L a.toList b.toList (#[a[a.size - 1]] : Array Keyed).toList.reverse (a.size - 1) b.size := by
    have : JH L a.toList b.toList [] (a.size - 1 + 1) b.size := ⟨by rw [show a.size - 1 + 1 = a.size by omega]; simp, List.Pairwise.nil, by simp, by simp⟩
    exact this.popA (getL (by omega)).2.1 (fun z hz => M.lst z (List.mem_of_mem_take hz)) M.sa
  dsimp only
  by_cases c1 : a.size - 1 = 0
  · rw [if_pos (by simp [c1])]
    exact wpS_pure (h _ _ (Sm.refl _) (hA M j0 (.inl c1)))
  rw [if_neg (by simpa using c1)]
  by_cases c2 : b.size = 1
  · rw [if_pos (by simp [c2])]
    exact wpS_pure (h _ _ (Sm.refl _) (hB M j0 c2))
  rw [if_neg (by simpa using c2)]
  refine wpS_bind (wpS_get ?_)
  refine wpS_bind (wpS_mono (Q := fun z st' => Sm st st' ∧ ∃ r, z.1 = some r ∧ Fin' L a b r) ?_ ?_)
  · refine wpS_forRange (fun i z st' => Sm st st' ∧ z.1 = none ∧ JH L a.toList b.toList z.2.2.2.1.toList.reverse z.2.1 z.2.2.1 ∧ 0 < z.2.1 ∧ 1 < z.2.2.1 ∧ z.2.1 ≤ a.size ∧ z.2.2.1 ≤ b.size ∧ i + 1 ≤ z.2.2.2.1.size) ?_ ?_ ⟨Sm.refl _, rfl, j0, by dsimp only; omega, by dsimp only; omega, by dsimp only; omega, by dsimp only; omega, by simp⟩
    · rintro i ⟨r0, na, nb, out, mg⟩ st1 _ hi ⟨sm1, _, j1, b1, b2, b4, b5, b3⟩
      dsimp only at j1 b1 b2 b3 b4 b5 ⊢
      -- one by one
      refine wpS_bind (wpS_mono (Q := fun z st' => Sm st st' ∧ ((∃ r, z.1 = some r ∧ Fin' L a b r) ∨ (z.1 = none ∧ JH L a.toList b.toList z.2.2.2.1.toList.reverse z.2.1 z.2.2.1 ∧ 0 < z.2.1 ∧ 1 < z.2.2.1 ∧ z.2.1 ≤ a.size ∧ z.2.2.1 ≤ b.size ∧ out.size + 1 ≤ z.2.2.2.1.size))) ?_ ?_)
      · refine wpS_forRange (fun i z st' => Sm st st' ∧ z.1 = none ∧ JH L a.toList b.toList z.2.2.2.1.toList.reverse z.2.1 z.2.2.1 ∧ 0 < z.2.1 ∧ 1 < z.2.2.1 ∧ z.2.1 ≤ a.size ∧ z.2.2.1 ≤ b.size ∧ out.size + i ≤ z.2.2.2.1.size) ?_ ?_ ⟨sm1, rfl, j1, b1, b2, b4, b5, by simp⟩
        · rintro i ⟨r0, na, nb, out1, ac, bc⟩ st2 _ hi ⟨sm2, _, j2, d1, d2, d4, d5, d3⟩
          dsimp only at j2 d1 d2 d3 d4 d5 ⊢
          have ea := getL (arr := a) (i := na - 1) (by omega)
          have eb := getL (arr := b) (i := nb - 1) (by omega)
          refine wpS_bind (s_elem eb.1 (wpS_bind (s_elem ea.1 (wpS_bind (s_lt K (sm2.k.trans hkn) (M.hb _ eb.2.2) (M.ha _ ea.2.2) ?_)))))
          dsimp only
          cases e : L (b[nb - 1]'(by omega)) (a[na - 1]'(by omega)) with
          | true =>
            rw [if_pos rfl]
            refine wpS_bind (s_elem ea.1 ?_)
            have j3 : JH L a.toList b.toList (out1.push (a[na - 1]'(by omega))).toList.reverse (na - 1) nb := by
              rw [rev_push]
              have bh := behind O M.hb M.sb (M.ha _ ea.2.2) (i := nb - 1) (by omega) e
              rw [show nb - 1 + 1 = nb by omega] at bh
              exact j2.popA' (by omega) ea.2.1 bh M.sa
            try dsimp only
            by_cases c : na - 1 = 0
            · rw [if_pos (by simp [c])]
              exact wpS_pure ⟨sm2, .inl ⟨_, rfl, hA M j3 (.inl c)⟩⟩
            · rw [if_neg (by simpa using c)]
              split
              · exact wpS_pure ⟨sm2, .inr ⟨rfl, j3, by dsimp only; omega, d2, by dsimp only; omega, d5, by simp; omega⟩⟩
              · exact wpS_pure ⟨sm2, rfl, j3, by dsimp only; omega, d2, by dsimp only; omega, d5, by simp; omega⟩
          | false =>
            rw [if_neg (by simp)]
            refine wpS_bind (s_elem eb.1 ?_)
            have j3 : JH L a.toList b.toList (out1.push (b[nb - 1]'(by omega))).toList.reverse na (nb - 1) := by
              rw [rev_push]
              have bh := behind O M.ha M.sa (M.hb _ eb.2.2) (i := na - 1) (by omega) (lt_of _ _ e)
              rw [show na - 1 + 1 = na by omega] at bh
              exact j2.popB' (by omega) eb.2.1 bh M.sb
            try dsimp only
            by_cases c : nb - 1 = 1
            · rw [if_pos (by simp [c])]
              exact wpS_pure ⟨sm2, .inl ⟨_, rfl, hB M j3 c⟩⟩
            · rw [if_neg (by simpa using c)]
              split
              · exact wpS_pure ⟨sm2, .inr ⟨rfl, j3, d1, by dsimp only; omega, d4, by dsimp only; omega, by simp; omega⟩⟩
              · exact wpS_pure ⟨sm2, rfl, j3, d1, by dsimp only; omega, d4, by dsimp only; omega, by simp; omega⟩
        · rintro ⟨r0, na, nb, out1, ac, bc⟩ st2 ⟨sm2, e0, j2, d1, d2, d4, d5, d3⟩
          dsimp only at j2 d1 d2 d3 d4 d5 e0 ⊢
          exact ⟨sm2, .inr ⟨e0, j2, d1, d2, d4, d5, by omega⟩⟩
      · rintro ⟨r0, na, nb, out1, ac, bc⟩ st2 ⟨sm2, z⟩
        dsimp only at z ⊢
        rcases z with ⟨r, rfl, fr⟩ | ⟨rfl, j2, d1, d2, d4, d5, d3⟩
        · exact wpS_pure ⟨sm2, r, rfl, fr⟩
        dsimp only
        refine wpS_bind (s_rule ?_)
        -- by leaps
        refine wpS_bind (wpS_mono (Q := fun z st' => Sm st st' ∧ ((∃ r, z.1 = some r ∧ Fin' L a b r) ∨ (z.1 = none ∧ JH L a.toList b.toList z.2.2.2.1.toList.reverse z.2.1 z.2.2.1 ∧ 0 < z.2.1 ∧ 1 < z.2.2.1 ∧ z.2.1 ≤ a.size ∧ z.2.2.1 ≤ b.size ∧ out.size + 1 ≤ z.2.2.2.1.size))) ?_ ?_)
        · refine wpS_forRange (fun i z st' => Sm st st' ∧ z.1 = none ∧ JH L a.toList b.toList z.2.2.2.1.toList.reverse z.2.1 z.2.2.1 ∧ 0 < z.2.1 ∧ 1 < z.2.2.1 ∧ z.2.1 ≤ a.size ∧ z.2.2.1 ≤ b.size ∧ out.size + 1 ≤ z.2.2.2.1.size) ?_ ?_ ⟨sm2, rfl, j2, d1, d2, d4, d5, d3⟩
          · rintro i ⟨r0, na, nb, out1, mg1, ac, bc⟩ st3 _ hi ⟨sm3, _, j3, d1, d2, d4, d5, d3⟩
            dsimp only at j3 d1 d2 d3 d4 d5 ⊢
            by_cases cm : mg1 > 1
            all_goals
              first | rw [if_pos cm] | rw [if_neg cm]
              refine wpS_bind (s_setG fun st4 sm4 => ?_)
              have sm5 := sm3.trans sm4
              have eb := getL (arr := b) (i := nb - 1) (by omega)
              refine wpS_bind (s_elem eb.1 ?_)
              refine wpS_bind (s_gal (b := fun i => if hi : i < a.size then !(L (b[nb - 1]'(by omega)) a[i]) else false) K (sm5.k.trans hkn) (M.hb _ eb.2.2) (fun i hi => ?_) (fun i k hik hk e => ?_) (by omega) (fun q hq y1 y2 => ?_))
              · have hi' : i < a.size := by omega
                rw [Nat.zero_add]
                refine ⟨_, (getL hi').1, M.ha _ (getL hi').2.2, ?_⟩
                try dsimp only
                rw [dif_pos hi']; rfl
              · have hk' : k < a.size := by omega
                have hi' : i < a.size := by omega
                try dsimp only at e ⊢
                rw [dif_pos hk'] at e
                rw [dif_pos hi']
                by_cases hik2 : i = k
                · subst hik2; exact e
                · cases q : L (b[nb - 1]'(by omega)) a[i] with
                  | false => rfl
                  | true =>
                    have := O.tr _ _ _ (M.hb _ eb.2.2) (M.ha _ (getL hi').2.2) (M.ha _ (getL hk').2.2) q (asc_get M.sa (i := i) (j := k) (by omega) (getL hi').2.1 (getL hk').2.1)
                    rw [this] at e; cases e
              have f1 : ∀ z ∈ a.toList.take q, L z (b[nb - 1]'(by omega)) = true := fun z hz => by
                obtain ⟨i, hi, ei⟩ := mem_take hz
                have hi' : i < a.size := by omega
                have z1 := y1 i hi
                rw [dif_pos hi'] at z1
                rw [(getL hi').2.1] at ei; cases ei
                exact lt_of hi' (by omega) (by simpa using z1)
              have f2 : ∀ i y, q ≤ i → i < na → a.toList[i]? = some y → ∀ z ∈ b.toList.take nb, L z y = true := fun i y hi hi2 ey => by
                have hi' : i < a.size := by omega
                have z1 := y2 i hi hi2
                rw [dif_pos hi'] at z1
                rw [(getL hi').2.1] at ey; cases ey
                have := behind O M.hb M.sb (M.ha _ (getL hi').2.2) (i := nb - 1) (by omega) (by simpa using z1)
                rw [show nb - 1 + 1 = nb by omega] at this
                exact this
              have j4 : JH L a.toList b.toList (out1 ++ (a.extract q na).reverse).toList.reverse q nb := by
                rw [rev_ext]
                exact j3.chunkA' M.sa hq (by simp; omega) f2
              try dsimp only
              by_cases k0 : na - q > 0
              · rw [if_pos k0]
                by_cases c : q = 0
                · rw [if_pos (by simp [c])]
                  exact wpS_pure ⟨sm5, .inl ⟨_, rfl, hA M j4 (.inl c)⟩⟩
                rw [if_neg (by simpa using c)]
                refine wpS_bind (s_elem eb.1 ?_)
                have j5 : JH L a.toList b.toList (Array.push (out1 ++ (a.extract q na).reverse) (b[nb - 1]'(by omega))).toList.reverse (q) (nb - 1) := by
                  rw [rev_push]
                  exact JH.popB' j4 (by omega) eb.2.1 f1 M.sb
                try dsimp only
                by_cases c3 : nb - 1 = 1
                · rw [if_pos (by simp [c3])]
                  exact wpS_pure ⟨sm5, .inl ⟨_, rfl, hB M j5 c3⟩⟩
                rw [if_neg (by simp; omega)]
                have ea := getL (arr := a) (i := q - 1) (by omega)
                refine wpS_bind (s_elem ea.1 ?_)
                refine wpS_bind (s_gal (b := fun i => if hi : i < b.size then L b[i] (a[q - 1]'(by omega)) else false) K (sm5.k.trans hkn) (M.ha _ ea.2.2) (fun i hi => ?_) (fun i k hik hk e => ?_) (by omega) (fun m hm x1 x2 => ?_))
                · have hi' : i < b.size := by omega
                  rw [Nat.zero_add]
                  refine ⟨_, (getL hi').1, M.hb _ (getL hi').2.2, ?_⟩
                  try dsimp only
                  rw [dif_pos hi']; rfl
                · have hk' : k < b.size := by omega
                  have hi' : i < b.size := by omega
                  try dsimp only at e ⊢
                  rw [dif_pos hk'] at e
                  rw [dif_pos hi']
                  by_cases hik2 : i = k
                  · subst hik2; exact e
                  · exact O.tr _ _ _ (M.hb _ (getL hi').2.2) (M.hb _ (getL hk').2.2) (M.ha _ ea.2.2) (asc_get M.sb (i := i) (j := k) (by omega) (getL hi').2.1 (getL hk').2.1) e
                have g1 : ∀ z ∈ b.toList.take m, L z (a[q - 1]'(by omega)) = true := fun z hz => by
                  obtain ⟨i, hi, ei⟩ := mem_take hz
                  have hi' : i < b.size := by omega
                  have z1 := x1 i hi
                  rw [dif_pos hi'] at z1
                  rw [(getL hi').2.1] at ei; cases ei
                  exact z1
                have g2 : ∀ i y, m ≤ i → i < nb - 1 → b.toList[i]? = some y → ∀ z ∈ a.toList.take (q), L z y = true := fun i y hi hi2 ey => by
                  have hi' : i < b.size := by omega
                  have z1 := x2 i hi hi2
                  rw [dif_pos hi'] at z1
                  rw [(getL hi').2.1] at ey; cases ey
                  have := lt_of (i := q - 1) (by omega) hi' z1
                  have := behind O M.ha M.sa (M.hb _ (getL hi').2.2) (i := q - 1) (by omega) this
                  rw [show q - 1 + 1 = q by omega] at this
                  exact this
                have j6 : JH L a.toList b.toList (Array.push (out1 ++ (a.extract q na).reverse) (b[nb - 1]'(by omega)) ++ (b.extract m (nb - 1)).reverse).toList.reverse (q) m := by
                  rw [rev_ext]
                  exact j5.chunkB' M.sb hm (by simp; omega) g2
                try dsimp only
                by_cases m0 : nb - 1 - m > 0
                · rw [if_pos m0]
                  by_cases c4 : m = 1
                  · rw [if_pos (by simp [c4])]
                    exact wpS_pure ⟨sm5, .inl ⟨_, rfl, hB M j6 c4⟩⟩
                  rw [if_neg (by simpa using c4)]
                  by_cases c6 : m = 0
                  · rw [if_pos (by simp [c6])]
                    exact wpS_pure ⟨sm5, .inl ⟨_, rfl, hA M j6 (.inr c6)⟩⟩
                  rw [if_neg (by simpa using c6)]
                  refine wpS_bind (s_elem ea.1 ?_)
                  have j7 : JH L a.toList b.toList (Array.push (Array.push (out1 ++ (a.extract q na).reverse) (b[nb - 1]'(by omega)) ++ (b.extract m (nb - 1)).reverse) (a[q - 1]'(by omega))).toList.reverse (q - 1) (m) := by
                    rw [rev_push]
                    exact JH.popA' j6 (by omega) ea.2.1 g1 M.sa
                  try dsimp only
                  by_cases c5 : q - 1 = 0
                  · rw [if_pos (by simp [c5])]
                    exact wpS_pure ⟨sm5, .inl ⟨_, rfl, hA M j7 (.inl c5)⟩⟩
                  rw [if_neg (by simp; omega)]
                  split
                  · exact wpS_pure ⟨sm5, .inr ⟨rfl, j7, by dsimp only; omega, by dsimp only; omega, by dsimp only; omega, by dsimp only; omega, by simp; omega⟩⟩
                  · exact wpS_pure ⟨sm5, rfl, j7, by dsimp only; omega, by dsimp only; omega, by dsimp only; omega, by dsimp only; omega, by simp; omega⟩
                · rw [if_neg m0]
                  obtain rfl : m = nb - 1 := by omega
                  refine wpS_bind (s_elem ea.1 ?_)
                  have j7 : JH L a.toList b.toList (Array.push (Array.push (out1 ++ (a.extract q na).reverse) (b[nb - 1]'(by omega))) (a[q - 1]'(by omega))).toList.reverse (q - 1) (nb - 1) := by
                    rw [rev_push]
                    exact JH.popA' j5 (by omega) ea.2.1 g1 M.sa
                  try dsimp only
                  by_cases c5 : q - 1 = 0
                  · rw [if_pos (by simp [c5])]
                    exact wpS_pure ⟨sm5, .inl ⟨_, rfl, hA M j7 (.inl c5)⟩⟩
                  rw [if_neg (by simp; omega)]
                  split
                  · exact wpS_pure ⟨sm5, .inr ⟨rfl, j7, by dsimp only; omega, by dsimp only; omega, by dsimp only; omega, by dsimp only; omega, by simp; omega⟩⟩
                  · exact wpS_pure ⟨sm5, rfl, j7, by dsimp only; omega, by dsimp only; omega, by dsimp only; omega, by dsimp only; omega, by simp; omega⟩
              · rw [if_neg k0]
                obtain rfl : q = na := by omega
                refine wpS_bind (s_elem eb.1 ?_)
                have j5 : JH L a.toList b.toList (Array.push (out1) (b[nb - 1]'(by omega))).toList.reverse (q) (nb - 1) := by
                  rw [rev_push]
                  exact JH.popB' j3 (by omega) eb.2.1 f1 M.sb
                try dsimp only
                by_cases c3 : nb - 1 = 1
                · rw [if_pos (by simp [c3])]
                  exact wpS_pure ⟨sm5, .inl ⟨_, rfl, hB M j5 c3⟩⟩
                rw [if_neg (by simp; omega)]
                have ea := getL (arr := a) (i := q - 1) (by omega)
                refine wpS_bind (s_elem ea.1 ?_)
                refine wpS_bind (s_gal (b := fun i => if hi : i < b.size then L b[i] (a[q - 1]'(by omega)) else false) K (sm5.k.trans hkn) (M.ha _ ea.2.2) (fun i hi => ?_) (fun i k hik hk e => ?_) (by omega) (fun m hm x1 x2 => ?_))
                · have hi' : i < b.size := by omega
                  rw [Nat.zero_add]
                  refine ⟨_, (getL hi').1, M.hb _ (getL hi').2.2, ?_⟩
                  try dsimp only
                  rw [dif_pos hi']; rfl
                · have hk' : k < b.size := by omega
                  have hi' : i < b.size := by omega
                  try dsimp only at e ⊢
                  rw [dif_pos hk'] at e
                  rw [dif_pos hi']
                  by_cases hik2 : i = k
                  · subst hik2; exact e
                  · exact O.tr _ _ _ (M.hb _ (getL hi').2.2) (M.hb _ (getL hk').2.2) (M.ha _ ea.2.2) (asc_get M.sb (i := i) (j := k) (by omega) (getL hi').2.1 (getL hk').2.1) e
                have g1 : ∀ z ∈ b.toList.take m, L z (a[q - 1]'(by omega)) = true := fun z hz => by
                  obtain ⟨i, hi, ei⟩ := mem_take hz
                  have hi' : i < b.size := by omega
                  have z1 := x1 i hi
                  rw [dif_pos hi'] at z1
                  rw [(getL hi').2.1] at ei; cases ei
                  exact z1
                have g2 : ∀ i y, m ≤ i → i < nb - 1 → b.toList[i]? = some y → ∀ z ∈ a.toList.take (q), L z y = true := fun i y hi hi2 ey => by
                  have hi' : i < b.size := by omega
                  have z1 := x2 i hi hi2
                  rw [dif_pos hi'] at z1
                  rw [(getL hi').2.1] at ey; cases ey
                  have := lt_of (i := q - 1) (by omega) hi' z1
                  have := behind O M.ha M.sa (M.hb _ (getL hi').2.2) (i := q - 1) (by omega) this
                  rw [show q - 1 + 1 = q by omega] at this
                  exact this
                have j6 : JH L a.toList b.toList (Array.push (out1) (b[nb - 1]'(by omega)) ++ (b.extract m (nb - 1)).reverse).toList.reverse (q) m := by
                  rw [rev_ext]
                  exact j5.chunkB' M.sb hm (by simp; omega) g2
                try dsimp only
                by_cases m0 : nb - 1 - m > 0
                · rw [if_pos m0]
                  by_cases c4 : m = 1
                  · rw [if_pos (by simp [c4])]
                    exact wpS_pure ⟨sm5, .inl ⟨_, rfl, hB M j6 c4⟩⟩
                  rw [if_neg (by simpa using c4)]
                  by_cases c6 : m = 0
                  · rw [if_pos (by simp [c6])]
                    exact wpS_pure ⟨sm5, .inl ⟨_, rfl, hA M j6 (.inr c6)⟩⟩
                  rw [if_neg (by simpa using c6)]
                  refine wpS_bind (s_elem ea.1 ?_)
                  have j7 : JH L a.toList b.toList (Array.push (Array.push (out1) (b[nb - 1]'(by omega)) ++ (b.extract m (nb - 1)).reverse) (a[q - 1]'(by omega))).toList.reverse (q - 1) (m) := by
                    rw [rev_push]
                    exact JH.popA' j6 (by omega) ea.2.1 g1 M.sa
                  try dsimp only
                  by_cases c5 : q - 1 = 0
                  · rw [if_pos (by simp [c5])]
                    exact wpS_pure ⟨sm5, .inl ⟨_, rfl, hA M j7 (.inl c5)⟩⟩
                  rw [if_neg (by simp; omega)]
                  split
                  · exact wpS_pure ⟨sm5, .inr ⟨rfl, j7, by dsimp only; omega, by dsimp only; omega, by dsimp only; omega, by dsimp only; omega, by simp; omega⟩⟩
                  · exact wpS_pure ⟨sm5, rfl, j7, by dsimp only; omega, by dsimp only; omega, by dsimp only; omega, by dsimp only; omega, by simp; omega⟩
                · rw [if_neg m0]
                  obtain rfl : m = nb - 1 := by omega
                  refine wpS_bind (s_elem ea.1 ?_)
                  have j7 : JH L a.toList b.toList (Array.push (Array.push (out1) (b[nb - 1]'(by omega))) (a[q - 1]'(by omega))).toList.reverse (q - 1) (nb - 1) := by
                    rw [rev_push]
                    exact JH.popA' j5 (by omega) ea.2.1 g1 M.sa
                  try dsimp only
                  by_cases c5 : q - 1 = 0
                  · rw [if_pos (by simp [c5])]
                    exact wpS_pure ⟨sm5, .inl ⟨_, rfl, hA M j7 (.inl c5)⟩⟩
                  rw [if_neg (by simp; omega)]
                  split
                  · exact wpS_pure ⟨sm5, .inr ⟨rfl, j7, by dsimp only; omega, by dsimp only; omega, by dsimp only; omega, by dsimp only; omega, by simp; omega⟩⟩
                  · exact wpS_pure ⟨sm5, rfl, j7, by dsimp only; omega, by dsimp only; omega, by dsimp only; omega, by dsimp only; omega, by simp; omega⟩
          · rintro ⟨r0, na, nb, out1, mg1, ac, bc⟩ st3 ⟨sm3, e0, j3, d1, d2, d4, d5, d3⟩
            exact ⟨sm3, .inr ⟨e0, j3, d1, d2, d4, d5, d3⟩⟩
        · rintro ⟨r0, na, nb, out1, mg1, ac, bc⟩ st3 ⟨sm3, z⟩
          dsimp only at z ⊢
          rcases z with ⟨r, rfl, fr⟩ | ⟨rfl, j3, d1, d2, d4, d5, d3⟩
          · exact wpS_pure ⟨sm3, r, rfl, fr⟩
          dsimp only
          refine wpS_bind (s_setG fun st4 sm4 => wpS_pure ⟨sm3.trans sm4, rfl, j3, d1, d2, d4, d5, by dsimp only; omega⟩)
    · rintro ⟨r0, na, nb, out1, mg1⟩ st3 ⟨sm3, e0, j3, d1, d2, d4, d5, d3⟩
      dsimp only at j3 d1 d2 d3 d4 d5
      have := j3.len
      simp at this
      omega
  · rintro ⟨r0, na, nb, out1, mg1⟩ st3 ⟨sm3, r, e0, fr⟩
    dsimp only at e0 ⊢
    subst e0
    exact wpS_pure (h r st3 sm3 fr)
end
end TS
namespace TS
open PySem PyProof.Rows
def Up (L : Keyed → Keyed → Bool) (arr : Array Keyed) (lo n : Nat) : Prop := ∀ (i j : Nat) x y, i < j → j < n → arr[lo + i]? = some x → arr[lo + j]? = some y → L x y = true
def Frame (arr arr' : Array Keyed) (lo hi : Nat) : Prop := ∀ k : Nat, (k < lo ∨ hi ≤ k) → arr'[k]? = arr[k]?
theorem Frame.refl (arr : Array Keyed) (lo hi : Nat) : Frame arr arr lo hi := fun _ _ => rfl
theorem Frame.trans {a b c : Array Keyed} {lo hi : Nat} (x : Frame a b lo hi) (y : Frame b c lo hi) : Frame a c lo hi := fun k h => (y k h).trans (x k h)
theorem Frame.wide {a b : Array Keyed} {lo hi lo' hi' : Nat} (x : Frame a b lo hi) (h1 : lo' ≤ lo) (h2 : hi ≤ hi') : Frame a b lo' hi' := fun k h => x k (by omega)
structure Sa (a₀ : Array Keyed) (st st' : SortSt) : Prop where
  k : kindOf st' = kindOf st
  p : pendingOf st' = pendingOf st
  f : failedOf st' = failedOf st
  m : (arrOf st').Perm a₀
theorem Sa.trans {a₀ : Array Keyed} {a b c : SortSt} (x : Sa a₀ a b) (y : Sa a₀ b c) : Sa a₀ a c := ⟨y.k.trans x.k, y.p.trans x.p, y.f.trans x.f, y.m⟩
section
variable {L : Keyed → Keyed → Bool} {a₀ arr arr' : Array Keyed} {lo n : Nat}
theorem mem_of_perm (m : arr.Perm a₀) {i : Nat} {x : Keyed} (e : arr[i]? = some x) : x ∈ a₀ := by
  have : x ∈ arr := Array.mem_of_getElem? e
  exact (Array.Perm.mem_iff m).mp this
theorem ne_of_perm (O : Tot L a₀) (m : arr.Perm a₀) {i j : Nat} {x y : Keyed} (hij : i ≠ j) (ei : arr[i]? = some x) (ej : arr[j]? = some y) : x ≠ y := fun z => by
  subst z
  have nd : arr.toList.Nodup := (List.Perm.nodup_iff (Array.perm_iff_toList_perm.mp m)).mpr O.nd
  have ei' : arr.toList[i]? = some x := by simpa using ei
  have ej' : arr.toList[j]? = some x := by simpa using ej
  obtain ⟨hi, ei'⟩ := List.getElem?_eq_some_iff.mp ei'
  obtain ⟨hj, ej'⟩ := List.getElem?_eq_some_iff.mp ej'
  exact hij ((List.getElem_inj nd).mp (ei'.trans ej'.symm))
theorem up_of (O : Tot L a₀) (m : arr.Perm a₀) (h : ∀ i x y, i + 1 < n → arr[lo + i]? = some x → arr[lo + (i + 1)]? = some y → L x y = true) (hn : lo + n ≤ arr.size) : Up L arr lo n := fun i j => by
  induction j with
  | zero => intro x y hij; omega
  | succ j ih =>
    intro x y hij hj ex ey
    by_cases hh : i = j
    · subst hh; exact h i x y hj ex ey
    · have hz : lo + j < arr.size := by omega
      have ez : arr[lo + j]? = some arr[lo + j] := by simp [hz]
      exact O.tr x _ y (mem_of_perm m ex) (mem_of_perm m ez) (mem_of_perm m ey) (ih x _ (by omega) (by omega) ex ez) (h j _ y hj ez ey)
theorem Up.frame {a b : Nat} (u : Up L arr lo n) (f : Frame arr arr' a b) (h : lo + n ≤ a ∨ b ≤ lo) : Up L arr' lo n := fun i j x y hij hj ex ey => u i j x y hij hj ((f _ (by omega)).symm.trans ex) ((f _ (by omega)).symm.trans ey)
end
section
variable {prog : Program} {w : World} {W : Around} {E : Value → Shared → Prop} {s : Shared} {st : SortSt} {κ : SortKind} {L : Keyed → Keyed → Bool} {a₀ : Array Keyed}
theorem s_ltAt {i j : Nat} {x y : Keyed} {Q : Option Bool → SortSt → Prop} (K : Asks prog w W s κ L a₀) (hk : kindOf st = κ) (m : (arrOf st).Perm a₀) (ei : (arrOf st)[i]? = some x) (ej : (arrOf st)[j]? = some y) (h : Q (some (L x y)) st) : wpS (model prog w) W E s (ltAt' i j) Q st := by
  rw [ltAt'_eq]
  refine wpS_bind (wpS_get ?_)
  exact wpS_bind (s_elem ei (wpS_bind (s_elem ej (s_lt K hk (mem_of_perm m ei) (mem_of_perm m ej) h))))
theorem atS {arr : Array Keyed} {i : Nat} (h : i < arr.size) : arr[i]? = some arr[i] := by simp [h]
theorem s_asc {lo nrem m : Nat} (O : Tot L a₀) (K : Asks prog w W s κ L a₀) (hkn : kindOf st = κ) (pm : (arrOf st).Perm a₀) (hl : lo + nrem ≤ (arrOf st).size) (h1 : 1 ≤ m) (hm : m ≤ nrem) (hu : ∀ i x y, i + 1 < m → (arrOf st)[lo + i]? = some x → (arrOf st)[lo + (i + 1)]? = some y → L x y = true) :
    wpS (model prog w) W E s (forIn [m:nrem] ((none : Option (Option Nat)), m) fun x z => do
      let r ← ltAt' (lo + z.2) (lo + z.2 - 1)
      match r with
      | some smaller => if smaller = true then pure (ForInStep.done (none, z.2)) else pure (ForInStep.yield (none, z.2 + 1))
      | x => pure (ForInStep.done (some none, z.2))) (fun z st' => st = st' ∧ z.1 = none ∧ m ≤ z.2 ∧ z.2 ≤ nrem ∧ (∀ i x y, i + 1 < z.2 → (arrOf st)[lo + i]? = some x → (arrOf st)[lo + (i + 1)]? = some y → L x y = true) ∧ (z.2 = nrem ∨ ∀ x y, (arrOf st)[lo + z.2]? = some x → (arrOf st)[lo + z.2 - 1]? = some y → L x y = true)) st := by
  refine wpS_forRange (fun i z st' => st = st' ∧ z.1 = none ∧ z.2 = i ∧ (∀ i x y, i + 1 < z.2 → (arrOf st)[lo + i]? = some x → (arrOf st)[lo + (i + 1)]? = some y → L x y = true)) ?_ ?_ ⟨rfl, rfl, rfl, hu⟩
  · rintro i ⟨r, k⟩ st' g1 g2 ⟨rfl, rfl, g3, g4⟩
    dsimp only at g3 g4 ⊢
    subst g3
    have ex := atS (arr := arrOf st) (i := lo + k) (by omega)
    have ey := atS (arr := arrOf st) (i := lo + k - 1) (by omega)
    refine wpS_bind (s_ltAt K hkn pm ex ey ?_)
    dsimp only
    cases e : L ((arrOf st)[lo + k]'(by omega)) ((arrOf st)[lo + k - 1]'(by omega)) with
    | true =>
      rw [if_pos rfl]
      refine wpS_pure ⟨rfl, rfl, g1, by dsimp only; omega, g4, .inr fun x y hx hy => ?_⟩
      dsimp only at hx hy
      rw [ex] at hx; rw [ey] at hy; cases hx; cases hy; exact e
    | false =>
      rw [if_neg (by simp)]
      refine wpS_pure ⟨rfl, rfl, rfl, fun i x y hi hx hy => ?_⟩
      dsimp only at hi
      by_cases hh : i + 1 = k
      · subst hh
        rw [ex] at hy; cases hy
        have hx' : (arrOf st)[lo + (i + 1) - 1]? = some x := by rw [show lo + (i + 1) - 1 = lo + i by omega]; exact hx
        have ey2 : (arrOf st)[lo + (i + 1) - 1] = x := Option.some.inj (ey.symm.trans hx')
        rw [ey2] at e
        exact O.not (mem_of_perm pm ex) (mem_of_perm pm hx) (ne_of_perm O pm (i := lo + (i + 1)) (j := lo + i) (by omega) ex hx) e
      · exact g4 i x y (by omega) hx hy
  · rintro ⟨r, k⟩ st' ⟨rfl, rfl, g3, g4⟩
    dsimp only at g3 g4 ⊢
    subst g3
    exact ⟨rfl, rfl, by omega, by omega, g4, .inl (by omega)⟩
theorem mir {xs : Array Keyed} {lo n : Nat} (h : lo + n ≤ xs.size) {k : Nat} (hk : k < n) : (mirror xs lo (lo + n) ((lo + n - lo) / 2))[lo + k]? = xs[lo + (n - 1 - k)]? := by
  rw [getElem?_mirror_all h, if_pos (by omega)]
  congr 1; omega
theorem s_run {lo nrem : Nat} {Q : Option Nat → SortSt → Prop} (O : Tot L a₀) (K : Asks prog w W s κ L a₀) (hkn : kindOf st = κ) (pm : (arrOf st).Perm a₀) (hl : lo + nrem ≤ (arrOf st).size) (h1 : 1 ≤ nrem)
    (h : ∀ n st', 1 ≤ n → n ≤ nrem → Sa a₀ st st' → Frame (arrOf st) (arrOf st') lo (lo + n) → Up L (arrOf st') lo n → Q (some n) st') : wpS (model prog w) W E s (countRun' lo nrem) Q st := by
  refine wpS_bind (wpS_mono (s_asc (lo := lo) (nrem := nrem) (m := 1) O K hkn pm hl (Nat.le_refl _) h1 (fun i x y hi => by omega)) ?_)
  rintro ⟨r, n⟩ st' ⟨rfl, rfl, g1, g2, g3, g4⟩
  dsimp only at g1 g2 g3 g4 ⊢
  by_cases c1 : n = nrem
  · subst c1
    rw [if_pos (by simp)]
    exact wpS_pure (h n st g1 g2 ⟨rfl, rfl, rfl, pm⟩ (Frame.refl _ _ _) (up_of O pm g3 hl))
  rw [if_neg (by simpa using c1)]
  by_cases c2 : n > 1
  · rw [if_pos c2]
    have ex := atS (arr := arrOf st) (i := lo) (by omega)
    have ey := atS (arr := arrOf st) (i := lo + n - 1) (by omega)
    refine wpS_bind (s_ltAt K hkn pm ex ey ?_)
    have u := up_of O pm g3 (by omega)
    have : L ((arrOf st)[lo]'(by omega)) ((arrOf st)[lo + n - 1]'(by omega)) = true := u 0 (n - 1) _ _ (by omega) (by omega) (by simpa using ex) (by rw [show lo + (n - 1) = lo + n - 1 by omega]; exact ey)
    dsimp only
    rw [this, if_pos rfl]
    exact wpS_pure (h n st g1 g2 ⟨rfl, rfl, rfl, pm⟩ (Frame.refl _ _ _) u)
  rw [if_neg c2]
  obtain rfl : n = 1 := by omega
  have g4 := g4.resolve_left c1
  refine wpS_bind (s_rule ?_)
  -- as long as it falls
  refine wpS_bind (wpS_mono (Q := fun z st' => st = st' ∧ z.1 = none ∧ 2 ≤ z.2.1 ∧ z.2.1 ≤ nrem ∧ z.2.2 = 0 ∧ (∀ i x y, i + 1 < z.2.1 → (arrOf st)[lo + i]? = some x → (arrOf st)[lo + (i + 1)]? = some y → L y x = true)) ?_ ?_)
  · refine wpS_forRange (fun i z st' => st = st' ∧ z.1 = none ∧ z.2.1 = i ∧ z.2.2 = 0 ∧ (∀ i x y, i + 1 < z.2.1 → (arrOf st)[lo + i]? = some x → (arrOf st)[lo + (i + 1)]? = some y → L y x = true)) ?_ ?_ ⟨rfl, rfl, rfl, rfl, fun i x y hi hx hy => ?_⟩
    · rintro i ⟨r, k, q⟩ st' f1 f2 ⟨rfl, rfl, f3, f4, f5⟩
      dsimp only at f3 f4 f5 ⊢
      subst f3 f4
      have ex := atS (arr := arrOf st) (i := lo + k) (by omega)
      have ey := atS (arr := arrOf st) (i := lo + k - 1) (by omega)
      refine wpS_bind (s_ltAt K hkn pm ex ey ?_)
      dsimp only
      cases e : L ((arrOf st)[lo + k]'(by omega)) ((arrOf st)[lo + k - 1]'(by omega)) with
      | true =>
        rw [if_pos rfl, if_neg (by decide)]
        refine wpS_pure ⟨rfl, rfl, rfl, rfl, fun i x y hi hx hy => ?_⟩
        dsimp only at hi
        by_cases hh : i + 1 = k
        · subst hh
          rw [ex] at hy; cases hy
          have hx' : (arrOf st)[lo + (i + 1) - 1]? = some x := by rw [show lo + (i + 1) - 1 = lo + i by omega]; exact hx
          have ey2 : (arrOf st)[lo + (i + 1) - 1] = x := Option.some.inj (ey.symm.trans hx')
          rw [ey2] at e
          exact e
        · exact f5 i x y (by omega) hx hy
      | false =>
        rw [if_neg (by simp)]
        refine wpS_bind (s_ltAt K hkn pm ey ex ?_)
        dsimp only
        rw [O.not (mem_of_perm pm ex) (mem_of_perm pm ey) (ne_of_perm O pm (i := lo + k) (j := lo + k - 1) (by omega) ex ey) e, if_pos rfl]
        exact wpS_pure ⟨rfl, rfl, by dsimp only; omega, by dsimp only; omega, rfl, f5⟩
    · rintro ⟨r, k, q⟩ st' ⟨rfl, rfl, f3, f4, f5⟩
      dsimp only at f3 f4 f5 ⊢
      exact ⟨rfl, rfl, by omega, by omega, f4, f5⟩
    · dsimp only at hi
      obtain rfl : i = 0 := by omega
      exact g4 y x hy (by simpa using hx)
  · rintro ⟨r, n, q⟩ st' ⟨rfl, rfl, f1, f2, f3, f4⟩
    dsimp only at f1 f2 f3 f4 ⊢
    subst f3
    rw [if_neg (by decide)]
    refine wpS_bind ?_
    rw [show (sortPriv% PySem.Builtin.reverseSlice) lo (lo + n) = reverseSlice' lo (lo + n) from rfl, reverseSlice'_eq]
    refine wpS_modify ?_
    have hn : lo + n ≤ (arrOf st).size := by omega
    have pm2 : (mirror (arrOf st) lo (lo + n) ((lo + n - lo) / 2)).Perm a₀ := (mirror_perm _ _ _ _).trans pm
    have hs : (mirror (arrOf st) lo (lo + n) ((lo + n - lo) / 2)).size = (arrOf st).size := mirror_size _ _ _ _
    refine wpS_bind (wpS_mono (s_asc (st := setArr st (mirror (arrOf st) lo (lo + n) ((lo + n - lo) / 2))) (lo := lo) (nrem := nrem) (m := n) O K hkn pm2 (by show _ ≤ (mirror (arrOf st) lo (lo + n) ((lo + n - lo) / 2)).size; omega) (by omega) f2 ?_) ?_)
    · intro i x y hi hx hy
      have hx : (mirror (arrOf st) lo (lo + n) ((lo + n - lo) / 2))[lo + i]? = some x := hx
      have hy : (mirror (arrOf st) lo (lo + n) ((lo + n - lo) / 2))[lo + (i + 1)]? = some y := hy
      rw [mir hn (by omega)] at hx hy
      refine f4 (n - 1 - (i + 1)) y x (by omega) hy ?_
      rw [show n - 1 - (i + 1) + 1 = n - 1 - i by omega]; exact hx
    · rintro ⟨r, k⟩ st' ⟨rfl, rfl, e1, e2, e3, _⟩
      dsimp only at e1 e2 e3 ⊢
      refine wpS_pure (h k _ (by omega) e2 ⟨rfl, rfl, rfl, pm2⟩ (fun j hj => ?_) (up_of O pm2 e3 (by show _ ≤ (mirror (arrOf st) lo (lo + n) ((lo + n - lo) / 2)).size; omega)))
      show (mirror (arrOf st) lo (lo + n) ((lo + n - lo) / 2))[j]? = _
      rw [getElem?_mirror_all hn, if_neg (by omega)]
theorem s_bin {lo n ok : Nat} {Q : Bool → SortSt → Prop} (O : Tot L a₀) (K : Asks prog w W s κ L a₀) (hkn : kindOf st = κ) (pm : (arrOf st).Perm a₀) (hl : lo + n ≤ (arrOf st).size) (hok : ok ≤ n) (h1 : 1 ≤ ok) (hu : Up L (arrOf st) lo ok)
    (h : ∀ st', Sa a₀ st st' → Frame (arrOf st) (arrOf st') lo (lo + n) → Up L (arrOf st') lo n → Q true st') : wpS (model prog w) W E s (binarySort' lo n ok) Q st := by
  refine wpS_bind (wpS_mono (Q := fun z st' => z.1 = none ∧ Sa a₀ st st' ∧ Frame (arrOf st) (arrOf st') lo (lo + n) ∧ Up L (arrOf st') lo n) ?_ ?_)
  · refine wpS_forRange (fun k z st' => z.1 = none ∧ Sa a₀ st st' ∧ Frame (arrOf st) (arrOf st') lo (lo + n) ∧ Up L (arrOf st') lo k) ?_ ?_ ⟨rfl, ⟨rfl, rfl, rfl, pm⟩, Frame.refl _ _ _, by rw [show max ok 1 = ok by omega]; exact hu⟩
    · rintro k ⟨r, _⟩ st1 g1 g2 ⟨rfl, sa, fr, u⟩
      dsimp only
      have sz : (arrOf st1).size = (arrOf st).size := (sa.m.trans pm.symm).size_eq
      have ex := atS (arr := arrOf st1) (i := lo + k) (by omega)
      refine wpS_bind (wpS_mono (Q := fun z st' => st1 = st' ∧ z.1 = none ∧ z.2.1 ≤ k ∧ (∀ i y, i < z.2.1 → (arrOf st1)[lo + i]? = some y → L y ((arrOf st1)[lo + k]'(by omega)) = true) ∧ (∀ i y, z.2.1 ≤ i → i < k → (arrOf st1)[lo + i]? = some y → L ((arrOf st1)[lo + k]'(by omega)) y = true)) ?_ ?_)
      · refine wpS_forRange (fun j z st' => st1 = st' ∧ z.1 = none ∧ z.2.1 ≤ z.2.2 ∧ z.2.2 ≤ k ∧ z.2.2 - z.2.1 + j ≤ k ∧ (∀ i y, i < z.2.1 → (arrOf st1)[lo + i]? = some y → L y ((arrOf st1)[lo + k]'(by omega)) = true) ∧ (∀ i y, z.2.2 ≤ i → i < k → (arrOf st1)[lo + i]? = some y → L ((arrOf st1)[lo + k]'(by omega)) y = true)) ?_ ?_ ⟨rfl, rfl, by simp, by simp, by simp, by intro i y hi; simp at hi, by intro i y hi hi2; dsimp only at hi; omega⟩
        · rintro j ⟨r, l, q⟩ st2 _ hj ⟨rfl, rfl, f1, f2, f3, f4, f5⟩
          dsimp only at f1 f2 f3 f4 f5 ⊢
          by_cases hge : l ≥ q
          · rw [if_pos hge]
            exact wpS_pure ⟨rfl, rfl, by dsimp only; omega, f4, fun i y hi => f5 i y (by dsimp only at hi; omega)⟩
          rw [if_neg hge]
          have ey := atS (arr := arrOf st1) (i := lo + (l + q) / 2) (by omega)
          refine wpS_bind (s_ltAt K (sa.k.trans hkn) sa.m ex ey ?_)
          dsimp only
          cases e : L ((arrOf st1)[lo + k]'(by omega)) ((arrOf st1)[lo + (l + q) / 2]'(by omega)) with
          | true =>
            rw [if_pos rfl]
            refine wpS_pure ⟨rfl, rfl, by dsimp only; omega, by dsimp only; omega, by dsimp only; omega, f4, fun i y hi hik hy => ?_⟩
            dsimp only at hi
            by_cases hh : i = (l + q) / 2
            · subst hh; rw [ey] at hy; cases hy; exact e
            · exact O.tr _ _ _ (mem_of_perm sa.m ex) (mem_of_perm sa.m ey) (mem_of_perm sa.m hy) e (u ((l + q) / 2) i _ y (by omega) (by omega) ey hy)
          | false =>
            rw [if_neg (by simp)]
            refine wpS_pure ⟨rfl, rfl, by dsimp only; omega, f2, by dsimp only; omega, fun i y hi hy => ?_, f5⟩
            dsimp only at hi
            have e2 := O.not (mem_of_perm sa.m ex) (mem_of_perm sa.m ey) (ne_of_perm O sa.m (i := lo + k) (j := lo + (l + q) / 2) (by omega) ex ey) e
            by_cases hh : i = (l + q) / 2
            · subst hh; rw [ey] at hy; cases hy; exact e2
            · exact O.tr _ _ _ (mem_of_perm sa.m hy) (mem_of_perm sa.m ey) (mem_of_perm sa.m ex) (u i ((l + q) / 2) y _ (by omega) (by omega) hy ey) e2
        · rintro ⟨r, l, q⟩ st2 ⟨rfl, rfl, f1, f2, f3, f4, f5⟩
          dsimp only at f1 f2 f3 f4 f5 ⊢
          exact ⟨rfl, rfl, by omega, f4, fun i y hi => f5 i y (by omega)⟩
      · rintro ⟨r, l, q⟩ st2 ⟨rfl, rfl, f1, f4, f5⟩
        dsimp only at f1 f4 f5 ⊢
        refine wpS_bind ?_
        rw [show (sortPriv% PySem.Builtin.moveDown) (lo + k) (lo + l) = moveDown' (lo + k) (lo + l) from rfl, moveDown'_eq]
        refine wpS_modify (wpS_pure ?_)
        have bub := fun j : Nat => getElem?_bubble (xs := arrOf st1) (src := lo + k) (by omega) (lo + k - (lo + l)) (by omega) j
        refine ⟨rfl, ⟨sa.k, sa.p, sa.f, (bubble_perm _ _ _).trans sa.m⟩, fr.trans fun j hj => ?_, fun i j x y hij hj hx hy => ?_⟩
        · show (bubble (arrOf st1) (lo + k) (lo + k - (lo + l)))[j]? = _
          rw [bub, if_neg (by omega), if_neg (by omega)]
        · have hx : (bubble (arrOf st1) (lo + k) (lo + k - (lo + l)))[lo + i]? = some x := hx
          have hy : (bubble (arrOf st1) (lo + k) (lo + k - (lo + l)))[lo + j]? = some y := hy
          rw [bub] at hx hy
          by_cases a1 : i = l
          · rw [if_pos (by omega), ex] at hx
            cases hx
            rw [if_neg (by omega), if_pos (by omega)] at hy
            exact f5 (j - 1) y (by omega) (by omega) (by rw [show lo + (j - 1) = lo + j - 1 by omega]; exact hy)
          · rw [if_neg (by omega)] at hx
            by_cases a2 : j = l
            · rw [if_pos (by omega), ex] at hy
              cases hy
              rw [if_neg (by omega)] at hx
              exact f4 i x (by omega) hx
            · rw [if_neg (by omega)] at hy
              by_cases a3 : l < i
              · rw [if_pos (by omega)] at hx hy
                exact u (i - 1) (j - 1) x y (by omega) (by omega) (by rw [show lo + (i - 1) = lo + i - 1 by omega]; exact hx) (by rw [show lo + (j - 1) = lo + j - 1 by omega]; exact hy)
              · rw [if_neg (by omega)] at hx
                by_cases a4 : l < j
                · rw [if_pos (by omega)] at hy
                  exact u i (j - 1) x y (by omega) (by omega) hx (by rw [show lo + (j - 1) = lo + j - 1 by omega]; exact hy)
                · rw [if_neg (by omega)] at hy
                  exact u i j x y hij (by omega) hx hy
    · rintro ⟨r, _⟩ st1 ⟨rfl, sa, fr, u⟩
      rw [show max (max ok 1) n = n by omega] at u
      exact ⟨rfl, sa, fr, u⟩
  · rintro ⟨r, _⟩ st1 ⟨rfl, sa, fr, u⟩
    exact wpS_pure (h st1 sa fr u)
end
end TS
namespace TS
open PySem PyProof.Rows
theorem wr_get {off : Nat} {f : Array Keyed → Keyed × Nat → Array Keyed} (hf : ∀ a p j, f a (p, j) = a.setIfInBounds (off + j) p) : ∀ (l : List Keyed) (m : Nat) (arr : Array Keyed), off + m + l.length ≤ arr.size → ∀ k : Nat, ((l.zipIdx m).foldl f arr)[k]? = if off + m ≤ k ∧ k < off + m + l.length then l[k - (off + m)]? else arr[k]?
  | [], m, arr, _, k => by rw [List.zipIdx_nil, List.foldl_nil, if_neg (by simp)]
  | x :: l, m, arr, h, k => by
    rw [List.length_cons] at h
    rw [List.zipIdx_cons, List.foldl_cons, hf, wr_get hf l (m + 1) _ (by rw [Array.size_setIfInBounds]; omega) k, Array.getElem?_setIfInBounds, List.length_cons]
    by_cases h1 : k = off + m
    · subst h1
      rw [if_neg (by omega), if_pos rfl, if_pos (by omega), if_pos (by omega)]
      simp
    · by_cases h2 : off + m ≤ k ∧ k < off + m + (l.length + 1)
      · rw [if_pos (by omega), if_pos h2]
        obtain ⟨d, rfl⟩ : ∃ d, k = off + m + 1 + d := ⟨k - (off + m + 1), by omega⟩
        rw [show off + m + 1 + d - (off + (m + 1)) = d by omega, show off + m + 1 + d - (off + m) = d + 1 by omega, List.getElem?_cons_succ]
      · rw [if_neg (by omega), if_neg h2, if_neg (by omega)]
theorem wr_list {arr r arr' : Array Keyed} {off : Nat} (h : off + r.size ≤ arr.size) (hk : ∀ k : Nat, arr'[k]? = if off ≤ k ∧ k < off + r.size then r[k - off]? else arr[k]?) : arr'.toList = arr.toList.take off ++ (r.toList ++ arr.toList.drop (off + r.size)) := by
  refine List.ext_getElem? fun k => ?_
  rw [Array.getElem?_toList, hk k, List.getElem?_append, List.length_take, Array.length_toList, List.getElem?_append, Array.length_toList, List.getElem?_drop, List.getElem?_take]
  by_cases h1 : k < off
  · rw [if_neg (by omega), if_pos (by omega), if_pos h1, Array.getElem?_toList]
  · rw [if_neg (show ¬ k < min off arr.size by omega), show min off arr.size = off by omega]
    by_cases h2 : k < off + r.size
    · rw [if_pos (by omega), if_pos (by omega), Array.getElem?_toList]
    · rw [if_neg (by omega), if_neg (by omega), Array.getElem?_toList]
      congr 1; omega
section
variable {prog : Program} {w : World} {W : Around} {E : Value → Shared → Prop} {s : Shared} {st : SortSt} {κ : SortKind} {L : Keyed → Keyed → Bool} {a₀ : Array Keyed}
theorem s_set {st' : SortSt} {Q : PUnit → SortSt → Prop} (h : Q ⟨⟩ st') : wpS (model prog w) W E s (set st' : StateT SortSt Sem PUnit) Q st := by
  unfold wpS
  exact wpAny_pure ⟨rfl, h⟩
theorem ext_get {arr : Array Keyed} {p q i : Nat} (hq : q ≤ arr.size) (hi : i < q - p) : (arr.extract p q)[i]? = arr[p + i]? := by
  rw [Array.getElem?_extract]
  rw [if_pos (by omega)]
theorem ext_mem {arr : Array Keyed} {p q : Nat} {x : Keyed} (hq : q ≤ arr.size) (h : x ∈ (arr.extract p q).toList) : ∃ i, p ≤ i ∧ i < q ∧ arr[i]? = some x := by
  obtain ⟨i, hi, e⟩ := List.getElem_of_mem h
  have hi' : i < (arr.extract p q).size := by rw [← Array.length_toList]; exact hi
  rw [Array.size_extract] at hi'
  refine ⟨p + i, by omega, by omega, ?_⟩
  rw [← ext_get (p := p) (q := q) hq (by omega), ← Array.getElem?_toList, List.getElem?_eq_getElem hi, e]
theorem s_merge {i sa na p1 nb p2 : Nat} {l1 l2 : List (Nat × Nat × Nat)} {Q : Bool → SortSt → Prop} (O : Tot L a₀) (K : Asks prog w W s κ L a₀) (hkn : kindOf st = κ) (hf : failedOf st = none) (pm : (arrOf st).Perm a₀)
    (hp : (pendingOf st).toList = l1 ++ (sa, na, p1) :: (sa + na, nb, p2) :: l2) (hi : l1.length = i) (h1 : 1 ≤ na) (h2 : 1 ≤ nb) (hs : sa + na + nb ≤ (arrOf st).size) (ua : Up L (arrOf st) sa na) (ub : Up L (arrOf st) (sa + na) nb)
    (h : ∀ st', kindOf st' = κ → failedOf st' = none → (arrOf st').Perm a₀ → (pendingOf st').toList = l1 ++ (sa, na + nb, p1) :: l2 → Frame (arrOf st) (arrOf st') sa (sa + na + nb) → Up L (arrOf st') sa (na + nb) → Q true st') : wpS (model prog w) W E s (mergeAt' i) Q st := by
  subst hi
  have e1 : (pendingOf st)[l1.length]? = some (sa, na, p1) := by rw [← Array.getElem?_toList, hp]; simp
  have e2 : (pendingOf st)[l1.length + 1]? = some (sa + na, nb, p2) := by rw [← Array.getElem?_toList, hp]; simp
  have pend : (((pendingOf st).setIfInBounds l1.length (sa, na + nb, p1)).eraseIdxIfInBounds (l1.length + 1)).toList = l1 ++ (sa, na + nb, p1) :: l2 := by
    rw [Array.toList_eraseIdxIfInBounds, Array.toList_setIfInBounds, hp, List.set_append, if_neg (by omega), List.eraseIdx_append_of_length_le (by omega), show l1.length - l1.length = 0 by omega, show l1.length + 1 - l1.length = 1 by omega]
    rfl
  have nl : ∀ {p q : Nat} {x y : Keyed}, p ≠ q → (arrOf st)[p]? = some x → (arrOf st)[q]? = some y → L x y = false → L y x = true := fun hpq hx hy e => O.not (mem_of_perm pm hx) (mem_of_perm pm hy) (ne_of_perm O pm hpq hx hy) e
  have tr : ∀ {x y z : Keyed}, x ∈ a₀ → y ∈ a₀ → z ∈ a₀ → L x y = true → L y z = true → L x z = true := fun hx hy hz => O.tr _ _ _ hx hy hz
  refine wpS_bind (wpS_get ?_)
  rw [e1, e2]
  dsimp only
  refine wpS_bind (s_set ?_)
  have eK := atS (arr := arrOf st) (i := sa + na) (by omega)
  have kK := mem_of_perm pm eK
  refine wpS_bind (s_elem eK ?_)
  refine wpS_bind (s_gal (b := fun i => if hi : sa + i < (arrOf st).size then !(L ((arrOf st)[sa + na]'(by omega)) (arrOf st)[sa + i]) else false) K hkn kK (fun i hi => ?_) (fun i j hij hj e => ?_) (by omega) (fun k hk y1 y2 => ?_))
  · have hi' : sa + i < (arrOf st).size := by omega
    refine ⟨_, atS hi', mem_of_perm pm (atS hi'), ?_⟩
    rw [dif_pos hi']; rfl
  · have hi' : sa + i < (arrOf st).size := by omega
    have hj' : sa + j < (arrOf st).size := by omega
    rw [dif_pos hj'] at e
    rw [dif_pos hi']
    by_cases hh : i = j
    · subst hh; exact e
    · cases q : L ((arrOf st)[sa + na]'(by omega)) (arrOf st)[sa + i] with
      | false => rfl
      | true =>
        have := tr kK (mem_of_perm pm (atS hi')) (mem_of_perm pm (atS hj')) q (ua i j _ _ (by omega) (by omega) (atS hi') (atS hj'))
        rw [this] at e; cases e
  -- the first k of the first run are ahead of all of the second
  have f1 : ∀ i x, i < k → (arrOf st)[sa + i]? = some x → L x ((arrOf st)[sa + na]'(by omega)) = true := fun i x hi ex => by
    have hi' : sa + i < (arrOf st).size := by omega
    have q := y1 i hi
    rw [dif_pos hi'] at q
    rw [atS hi'] at ex; cases ex
    exact nl (p := sa + na) (q := sa + i) (by omega) eK (atS hi') (by simpa using q)
  have f2 : ∀ i x, k ≤ i → i < na → (arrOf st)[sa + i]? = some x → L ((arrOf st)[sa + na]'(by omega)) x = true := fun i x hi hn ex => by
    have hi' : sa + i < (arrOf st).size := by omega
    have q := y2 i hi hn
    rw [dif_pos hi'] at q
    rw [atS hi'] at ex; cases ex
    simpa using q
  have f3 : ∀ i j x y, i < k → j < nb → (arrOf st)[sa + i]? = some x → (arrOf st)[sa + na + j]? = some y → L x y = true := fun i j x y hi hj ex ey => by
    have a1 := f1 i x hi ex
    by_cases hh : j = 0
    · subst hh
      rw [Nat.add_zero, eK] at ey; cases ey; exact a1
    · exact tr (mem_of_perm pm ex) kK (mem_of_perm pm ey) a1 (ub 0 j _ y (by omega) hj (by rw [Nat.add_zero]; exact eK) ey)
  dsimp only
  by_cases c1 : na - k = 0
  · rw [if_pos (by simpa using c1)]
    refine wpS_pure (h _ hkn hf pm pend (Frame.refl _ _ _) fun i j x y hij hj ex ey => ?_)
    by_cases a1 : j < na
    · exact ua i j x y hij a1 ex ey
    · by_cases a2 : i < na
      · exact f3 i (j - na) x y (by omega) (by omega) ex (by rw [show sa + na + (j - na) = sa + j by omega]; exact ey)
      · exact ub (i - na) (j - na) x y (by omega) (by omega) (by rw [show sa + na + (i - na) = sa + i by omega]; exact ex) (by rw [show sa + na + (j - na) = sa + j by omega]; exact ey)
  rw [if_neg (by simpa using c1)]
  have eM := atS (arr := arrOf st) (i := sa + k + (na - k) - 1) (by omega)
  have kM := mem_of_perm pm eM
  have eM' : (arrOf st)[sa + (na - 1)]? = some ((arrOf st)[sa + k + (na - k) - 1]'(by omega)) := by rw [show sa + (na - 1) = sa + k + (na - k) - 1 by omega]; exact eM
  refine wpS_bind (s_elem eM ?_)
  refine wpS_bind (s_gal (b := fun i => if hi : sa + na + i < (arrOf st).size then L (arrOf st)[sa + na + i] ((arrOf st)[sa + k + (na - k) - 1]'(by omega)) else false) K hkn kM (fun i hi => ?_) (fun i j hij hj e => ?_) (by omega) (fun m hm x1 x2 => ?_))
  · have hi' : sa + na + i < (arrOf st).size := by omega
    refine ⟨_, atS hi', mem_of_perm pm (atS hi'), ?_⟩
    rw [dif_pos hi']; rfl
  · have hi' : sa + na + i < (arrOf st).size := by omega
    have hj' : sa + na + j < (arrOf st).size := by omega
    rw [dif_pos hj'] at e
    rw [dif_pos hi']
    by_cases hh : i = j
    · subst hh; exact e
    · exact tr (mem_of_perm pm (atS hi')) (mem_of_perm pm (atS hj')) kM (ub i j _ _ (by omega) (by omega) (atS hi') (atS hj')) e
  have g1 : ∀ i x, i < m → (arrOf st)[sa + na + i]? = some x → L x ((arrOf st)[sa + k + (na - k) - 1]'(by omega)) = true := fun i x hi ex => by
    have hi' : sa + na + i < (arrOf st).size := by omega
    have q := x1 i hi
    rw [dif_pos hi'] at q
    rw [atS hi'] at ex; cases ex
    exact q
  have g2 : ∀ i x, m ≤ i → i < nb → (arrOf st)[sa + na + i]? = some x → L ((arrOf st)[sa + k + (na - k) - 1]'(by omega)) x = true := fun i x hi hn ex => by
    have hi' : sa + na + i < (arrOf st).size := by omega
    have q := x2 i hi hn
    rw [dif_pos hi'] at q
    rw [atS hi'] at ex; cases ex
    exact nl (p := sa + na + i) (q := sa + k + (na - k) - 1) (by omega) (atS hi') eM q
  have g3 : ∀ i j x y, i < na → m ≤ j → j < nb → (arrOf st)[sa + i]? = some x → (arrOf st)[sa + na + j]? = some y → L x y = true := fun i j x y hi hj hn ex ey => by
    have a1 := g2 j y hj hn ey
    by_cases hh : i = na - 1
    · subst hh
      rw [eM'] at ex; cases ex; exact a1
    · exact tr (mem_of_perm pm ex) kM (mem_of_perm pm ey) (ua i (na - 1) x _ (by omega) (by omega) ex eM') a1
  dsimp only
  by_cases c2 : m = 0
  · exfalso
    subst c2
    have a1 := g2 0 _ (by omega) (by omega) (by rw [Nat.add_zero]; exact eK)
    have a2 := f2 (na - 1) _ (by omega) (by omega) eM'
    rw [O.asym kM kK a1] at a2; cases a2
  rw [if_neg (by simpa using c2)]
  have hsx : ((arrOf st).extract (sa + k) (sa + na)).size = na - k := by rw [Array.size_extract]; omega
  have hsy : ((arrOf st).extract (sa + na) (sa + na + m)).size = m := by rw [Array.size_extract]; omega
  have gx : ∀ i, i < na - k → ((arrOf st).extract (sa + k) (sa + na))[i]? = (arrOf st)[sa + (k + i)]? := fun i hi => by rw [ext_get (by omega) (by omega)]; congr 1; omega
  have gy : ∀ i, i < m → ((arrOf st).extract (sa + na) (sa + na + m))[i]? = (arrOf st)[sa + na + i]? := fun i hi => by rw [ext_get (by omega) (by omega)]
  have M : Mg L a₀ ((arrOf st).extract (sa + k) (sa + na)) ((arrOf st).extract (sa + na) (sa + na + m)) := by
    refine ⟨fun x hx => ?_, fun x hx => ?_, ?_, ?_, fun x hx y hy => ?_, by omega, by omega, fun x hx => ?_, fun x hx => ?_⟩
    · obtain ⟨i, _, _, e⟩ := ext_mem (by omega) hx; exact mem_of_perm pm e
    · obtain ⟨i, _, _, e⟩ := ext_mem (by omega) hx; exact mem_of_perm pm e
    · refine List.pairwise_iff_getElem.mpr fun i j hi hj hij => ?_
      have hi' : i < na - k := by rw [← hsx, ← Array.length_toList]; exact hi
      have hj' : j < na - k := by rw [← hsx, ← Array.length_toList]; exact hj
      refine ua (k + i) (k + j) _ _ (by omega) (by omega) ?_ ?_
      · rw [← gx i hi', ← Array.getElem?_toList, List.getElem?_eq_getElem hi]
      · rw [← gx j hj', ← Array.getElem?_toList, List.getElem?_eq_getElem hj]
    · refine List.pairwise_iff_getElem.mpr fun i j hi hj hij => ?_
      have hi' : i < m := by rw [← hsy, ← Array.length_toList]; exact hi
      have hj' : j < m := by rw [← hsy, ← Array.length_toList]; exact hj
      refine ub i j _ _ (by omega) (by omega) ?_ ?_
      · rw [← gy i hi', ← Array.getElem?_toList, List.getElem?_eq_getElem hi]
      · rw [← gy j hj', ← Array.getElem?_toList, List.getElem?_eq_getElem hj]
    · obtain ⟨i, p1, p2, e⟩ := ext_mem (by omega) hx
      obtain ⟨j, q1, q2, e'⟩ := ext_mem (by omega) hy
      exact ne_of_perm O pm (by omega) e e'
    · obtain ⟨i, p1, p2, e⟩ := ext_mem (by omega) hx
      have e0 : ((arrOf st).extract (sa + na) (sa + na + m))[0]'(by omega) = (arrOf st)[sa + na]'(by omega) := by
        have := gy 0 (by omega)
        rw [atS (by omega), Nat.add_zero, eK] at this
        exact Option.some.inj this
      rw [e0]
      exact f2 (i - sa) x (by omega) (by omega) (by rw [show sa + (i - sa) = i by omega]; exact e)
    · obtain ⟨i, p1, p2, e⟩ := ext_mem (by omega) hx
      have e0 : ((arrOf st).extract (sa + k) (sa + na))[((arrOf st).extract (sa + k) (sa + na)).size - 1]'(by omega) = (arrOf st)[sa + k + (na - k) - 1]'(by omega) := by
        have := gx (na - k - 1) (by omega)
        rw [show sa + (k + (na - k - 1)) = sa + k + (na - k) - 1 by omega, eM] at this
        have z : ((arrOf st).extract (sa + k) (sa + na))[((arrOf st).extract (sa + k) (sa + na)).size - 1]? = some ((arrOf st)[sa + k + (na - k) - 1]'(by omega)) := by rw [hsx]; exact this
        rw [atS (by omega)] at z
        exact Option.some.inj z
      rw [e0]
      exact g1 (i - (sa + na)) x (by omega) (by rw [show sa + na + (i - (sa + na)) = i by omega]; exact e)
  have last : ∀ (r : Array Keyed) (st' : SortSt), kindOf st' = κ → arrOf st' = arrOf st → (pendingOf st').toList = l1 ++ (sa, na + nb, p1) :: l2 → failedOf st' = none → Fin' L ((arrOf st).extract (sa + k) (sa + na)) ((arrOf st).extract (sa + na) (sa + na + m)) r →
      ∀ {f : Array Keyed → Keyed × Nat → Array Keyed}, (∀ a p j, f a (p, j) = a.setIfInBounds (sa + k + j) p) → Q true (setArr st' (List.foldl f (arrOf st') r.toList.zipIdx)) := fun r st' k1 k2 k3 k4 fr f hf2 => by
    have rs : r.size = na - k + m := by
      have := fr.1.length_eq
      rw [Array.length_toList, List.length_append, Array.length_toList, Array.length_toList, hsx, hsy] at this
      exact this
    have get : ∀ j : Nat, (List.foldl f (arrOf st) r.toList.zipIdx)[j]? = if sa + k ≤ j ∧ j < sa + k + r.size then r[j - (sa + k)]? else (arrOf st)[j]? := fun j => by
      have := wr_get hf2 r.toList 0 (arrOf st) (by rw [Array.length_toList]; omega) j
      rw [Nat.add_zero, Array.length_toList, Array.getElem?_toList] at this
      exact this
    have lst := wr_list (arr := arrOf st) (r := r) (off := sa + k) (by omega) get
    have rmem : ∀ {j : Nat} {x : Keyed}, r[j]? = some x → (∃ i, k ≤ i ∧ i < na ∧ (arrOf st)[sa + i]? = some x) ∨ ∃ i, i < m ∧ (arrOf st)[sa + na + i]? = some x := fun {j x} e => by
      have : x ∈ r.toList := List.mem_of_getElem? (i := j) (by rw [Array.getElem?_toList]; exact e)
      rcases List.mem_append.mp (fr.1.subset this) with q | q
      · obtain ⟨i, p1, p2, e⟩ := ext_mem (by omega) q
        exact .inl ⟨i - sa, by omega, by omega, by rw [show sa + (i - sa) = i by omega]; exact e⟩
      · obtain ⟨i, p1, p2, e⟩ := ext_mem (by omega) q
        exact .inr ⟨i - (sa + na), by omega, by rw [show sa + na + (i - (sa + na)) = i by omega]; exact e⟩
    refine h _ k1 k4 ?_ k3 (fun j hj => ?_) fun i j x y hij hj ex ey => ?_
    · show (List.foldl f (arrOf st') r.toList.zipIdx).Perm a₀
      rw [k2]
      refine Array.Perm.trans (Array.perm_iff_toList_perm.mpr ?_) pm
      rw [lst, rs]
      have e3 : (arrOf st).toList = (arrOf st).toList.take (sa + k) ++ ((((arrOf st).extract (sa + k) (sa + na)).toList ++ ((arrOf st).extract (sa + na) (sa + na + m)).toList) ++ (arrOf st).toList.drop (sa + k + (na - k + m))) := by
        rw [Array.toList_extract, Array.toList_extract, List.extract_eq_drop_take, List.extract_eq_drop_take, show sa + na + m - (sa + na) = m by omega, show sa + na - (sa + k) = na - k by omega]
        have z1 : ((arrOf st).toList.drop (sa + k)).take (na - k + m) = ((arrOf st).toList.drop (sa + k)).take (na - k) ++ ((arrOf st).toList.drop (sa + na)).take m := by
          rw [List.take_add, List.drop_drop, show sa + k + (na - k) = sa + na by omega]
        rw [← z1]
        have z2 := List.take_append_drop (na - k + m) ((arrOf st).toList.drop (sa + k))
        rw [List.drop_drop] at z2
        rw [z2, List.take_append_drop]
      refine List.Perm.trans ?_ (List.Perm.of_eq e3.symm)
      exact List.Perm.append_left _ (List.Perm.append_right _ fr.1)
    · show (List.foldl f (arrOf st') r.toList.zipIdx)[j]? = _
      rw [k2, get, if_neg (by omega)]
    · have ex : (List.foldl f (arrOf st') r.toList.zipIdx)[sa + i]? = some x := ex
      have ey : (List.foldl f (arrOf st') r.toList.zipIdx)[sa + j]? = some y := ey
      rw [k2, get] at ex ey
      by_cases b1 : i < k
      · rw [if_neg (by omega)] at ex
        by_cases b2 : j < k
        · rw [if_neg (by omega)] at ey
          exact ua i j x y hij (by omega) ex ey
        · by_cases b3 : j < na + m
          · rw [if_pos (by omega)] at ey
            rcases rmem ey with ⟨q, q1, q2, eq⟩ | ⟨q, q1, eq⟩
            · exact ua i q x y (by omega) q2 ex eq
            · exact f3 i q x y b1 (by omega) ex eq
          · rw [if_neg (by omega)] at ey
            exact f3 i (j - na) x y b1 (by omega) ex (by rw [show sa + na + (j - na) = sa + j by omega]; exact ey)
      · by_cases b2 : i < na + m
        · rw [if_pos (by omega)] at ex
          by_cases b3 : j < na + m
          · rw [if_pos (by omega)] at ey
            refine asc_get fr.2 (i := sa + i - (sa + k)) (j := sa + j - (sa + k)) (by omega) ?_ ?_
            · rw [Array.getElem?_toList]; exact ex
            · rw [Array.getElem?_toList]; exact ey
          · rw [if_neg (by omega)] at ey
            have ey' : (arrOf st)[sa + na + (j - na)]? = some y := by rw [show sa + na + (j - na) = sa + j by omega]; exact ey
            rcases rmem ex with ⟨q, q1, q2, eq⟩ | ⟨q, q1, eq⟩
            · exact g3 q (j - na) x y q2 (by omega) (by omega) eq ey'
            · exact ub q (j - na) x y (by omega) (by omega) eq ey'
        · rw [if_neg (by omega)] at ex ey
          exact ub (i - na) (j - na) x y (by omega) (by omega) (by rw [show sa + na + (i - na) = sa + i by omega]; exact ex) (by rw [show sa + na + (j - na) = sa + j by omega]; exact ey)
  by_cases c3 : na - k ≤ m
  · rw [if_pos c3]
    refine wpS_bind (s_mlo O K M hkn fun r st' sm fr => ?_)
    refine wpS_bind (wpS_modify (wpS_bind (wpS_get (wpS_pure ?_))))
    have e9 : (failedOf st').isNone = true := by rw [sm.f]; show (failedOf st).isNone = true; rw [hf]; rfl
    show Q (failedOf st').isNone _
    rw [e9]
    refine last r st' (sm.k.trans hkn) sm.a (by rw [sm.p]; exact pend) (sm.f.trans hf) fr ?_
    intro _ _ _; rfl
  · rw [if_neg c3]
    refine wpS_bind (s_mhi O K M hkn fun r st' sm fr => ?_)
    refine wpS_bind (wpS_modify (wpS_bind (wpS_get (wpS_pure ?_))))
    have e9 : (failedOf st').isNone = true := by rw [sm.f]; show (failedOf st).isNone = true; rw [hf]; rfl
    show Q (failedOf st').isNone _
    rw [e9]
    refine last r st' (sm.k.trans hkn) sm.a (by rw [sm.p]; exact pend) (sm.f.trans hf) fr ?_
    intro _ _ _; rfl
end
end TS
namespace TS
open PySem PyProof.Rows
def Ch (L : Keyed → Keyed → Bool) (arr : Array Keyed) : List (Nat × Nat × Nat) → Nat → Nat → Prop
  | [], lo, hi => lo = hi
  | (s, n, _) :: r, lo, hi => s = lo ∧ 1 ≤ n ∧ Up L arr s n ∧ Ch L arr r (lo + n) hi
section
variable {L : Keyed → Keyed → Bool} {arr arr' : Array Keyed}
theorem Ch.app : ∀ {l1 l2 : List (Nat × Nat × Nat)} {lo hi : Nat}, Ch L arr (l1 ++ l2) lo hi ↔ ∃ m, Ch L arr l1 lo m ∧ Ch L arr l2 m hi
  | [], l2, lo, hi => ⟨fun h => ⟨lo, rfl, h⟩, fun ⟨m, e, h⟩ => by cases e; exact h⟩
  | (s, n, p) :: l1, l2, lo, hi => ⟨fun ⟨a, b, c, d⟩ => by
      obtain ⟨m, x, y⟩ := Ch.app.mp d
      exact ⟨m, ⟨a, b, c, x⟩, y⟩, fun ⟨m, ⟨a, b, c, x⟩, y⟩ => ⟨a, b, c, Ch.app.mpr ⟨m, x, y⟩⟩⟩
theorem Ch.le : ∀ {l : List (Nat × Nat × Nat)} {lo hi : Nat}, Ch L arr l lo hi → lo + l.length ≤ hi
  | [], lo, hi, h => by cases h; simp
  | (s, n, p) :: l, lo, hi, ⟨a, b, c, d⟩ => by have := Ch.le d; rw [List.length_cons]; omega
theorem Ch.frame {a b : Nat} (f : Frame arr arr' a b) : ∀ {l : List (Nat × Nat × Nat)} {lo hi : Nat}, (hi ≤ a ∨ b ≤ lo) → Ch L arr l lo hi → Ch L arr' l lo hi
  | [], lo, hi, _, h => h
  | (s, n, p) :: l, lo, hi, h, ⟨e1, e2, c, d⟩ => by
    have := Ch.le d
    exact ⟨e1, e2, c.frame f (by omega), Ch.frame f (by omega) d⟩
theorem Ch.two {l : List (Nat × Nat × Nat)} {hi i : Nat} (h : Ch L arr l 0 hi) (hi2 : i + 1 < l.length) : ∃ l1 l2 sa na p1 nb p2, l = l1 ++ (sa, na, p1) :: (sa + na, nb, p2) :: l2 ∧ l1.length = i ∧ 1 ≤ na ∧ 1 ≤ nb ∧ Up L arr sa na ∧ Up L arr (sa + na) nb ∧ sa + na + nb ≤ hi ∧ Ch L arr l1 0 sa ∧ Ch L arr l2 (sa + na + nb) hi := by
  have e : l = l.take i ++ l.drop i := (List.take_append_drop ..).symm
  rw [e] at h
  obtain ⟨m, c1, c2⟩ := Ch.app.mp h
  match hd : l.drop i, c2 with
  | [], _ => rw [List.drop_eq_nil_iff] at hd; omega
  | [x], _ =>
    have := congrArg List.length hd
    rw [List.length_drop] at this
    simp at this; omega
  | (s1, n1, p1) :: (s2, n2, p2) :: r, ⟨a1, a2, a3, b1, b2, b3, b4⟩ =>
    subst a1 b1
    have := Ch.le b4
    exact ⟨l.take i, r, s1, n1, p1, n2, p2, by rw [← hd, List.take_append_drop], by rw [List.length_take]; omega, a2, b2, a3, b3, by omega, c1, b4⟩
end
section
variable {prog : Program} {w : World} {W : Around} {E : Value → Shared → Prop} {s : Shared} {st : SortSt} {κ : SortKind} {L : Keyed → Keyed → Bool} {a₀ : Array Keyed}
structure Ok (L : Keyed → Keyed → Bool) (κ : SortKind) (a₀ : Array Keyed) (lo : Nat) (st : SortSt) : Prop where
  k : kindOf st = κ
  f : failedOf st = none
  m : (arrOf st).Perm a₀
  c : Ch L (arrOf st) (pendingOf st).toList 0 lo
theorem s_mg {i lo : Nat} {Q : Bool → SortSt → Prop} (O : Tot L a₀) (K : Asks prog w W s κ L a₀) (k : Ok L κ a₀ lo st) (hl : lo ≤ a₀.size) (hi : i + 1 < (pendingOf st).size)
    (h : ∀ st', Ok L κ a₀ lo st' → Frame (arrOf st) (arrOf st') 0 lo → (pendingOf st').size + 1 = (pendingOf st).size → Q true st') : wpS (model prog w) W E s (mergeAt' i) Q st := by
  obtain ⟨l1, l2, sa, na, p1, nb, p2, e, hi1, h1, h2, u1, u2, hh, c1, c2⟩ := k.c.two (i := i) (by rw [Array.length_toList]; exact hi)
  refine s_merge O K k.k k.f k.m e hi1 h1 h2 (by rw [k.m.size_eq]; omega) u1 u2 fun st' k1 k2 k3 k4 fr u => ?_
  refine h st' ⟨k1, k2, k3, ?_⟩ (fr.wide (Nat.zero_le _) hh) ?_
  · rw [k4]
    refine Ch.app.mpr ⟨sa, c1.frame fr (.inl (Nat.le_refl _)), rfl, by omega, u, ?_⟩
    rw [← Nat.add_assoc]
    exact c2.frame fr (.inr (Nat.le_refl _))
  · have a1 := congrArg List.length k4
    have a2 := congrArg List.length e
    simp only [Array.length_toList, List.length_append, List.length_cons] at a1 a2
    omega
theorem mod_last {l : List (Nat × Nat × Nat)} {f : Nat × Nat × Nat → Nat × Nat × Nat} {arr : Array Keyed} (hf : ∀ a b c, ∃ d, f (a, b, c) = (a, b, d)) : ∀ {lo hi i : Nat}, Ch L arr l lo hi → Ch L arr (l.modify i f) lo hi := by
  induction l with
  | nil => intro lo hi i h; simpa using h
  | cons x l ih =>
    intro lo hi i h
    obtain ⟨a, b, c⟩ := x
    cases i with
    | zero =>
      obtain ⟨d, e⟩ := hf a b c
      rw [List.modify_zero_cons, e]
      exact h
    | succ i =>
      obtain ⟨h1, h2, h3, h4⟩ := h
      rw [List.modify_succ_cons]
      exact ⟨h1, h2, h3, ih h4⟩
theorem ite_lt {c : Prop} [Decidable c] {a b n : Nat} (h1 : a + 1 < n) (h2 : b + 1 < n) : (if c then a else b) + 1 < n := by split <;> assumption
theorem s_sort {Q : Unit → SortSt → Prop} (O : Tot L a₀) (K : Asks prog w W s κ L a₀) (hk : kindOf st = κ) (hf : failedOf st = none) (hp : pendingOf st = #[]) (hm : (arrOf st).Perm a₀)
    (h : ∀ st', failedOf st' = none → (arrOf st').Perm a₀ → Up L (arrOf st') 0 a₀.size → Q () st') : wpS (model prog w) W E s sortRuns' Q st := by
  refine wpS_bind (wpS_get ?_)
  have sz : (arrOf st).size = a₀.size := hm.size_eq
  dsimp only
  rw [show (sortPriv% PySem.Builtin.SortState.a) st = arrOf st from rfl, sz]
  refine wpS_bind (wpS_mono (Q := fun z st' => z.1 = none ∧ Ok L κ a₀ a₀.size st') ?_ ?_)
  · refine wpS_forRange (fun i z st' => z.1 = none ∧ Ok L κ a₀ z.2 st' ∧ i ≤ z.2 ∧ z.2 ≤ a₀.size) ?_ ?_ ⟨rfl, ⟨hk, hf, hm, by rw [hp]; rfl⟩, Nat.le_refl _, Nat.zero_le _⟩
    · rintro i ⟨r, lo⟩ st1 _ hi ⟨rfl, k1, g1, g2⟩
      dsimp only at k1 g1 g2 ⊢
      by_cases c1 : lo ≥ a₀.size
      · rw [if_pos c1]
        obtain rfl : lo = a₀.size := by omega
        exact wpS_pure ⟨rfl, k1⟩
      rw [if_neg c1]
      have sz1 := k1.m.size_eq
      refine wpS_bind (s_run O K k1.k k1.m (by omega) (by omega) fun n st2 n1 n2 sa fr u => ?_)
      have k2 : Ok L κ a₀ lo st2 := ⟨sa.k.trans k1.k, sa.f.trans k1.f, sa.m, by rw [sa.p]; exact k1.c.frame fr (.inl (Nat.le_refl _))⟩
      dsimp only
      have push : ∀ (st3 : SortSt) (n : Nat), 1 ≤ n → Ok L κ a₀ lo st3 → Up L (arrOf st3) lo n → Ok L κ a₀ (lo + n) (SortSt.mk' (kindOf st3) (arrOf st3) ((pendingOf st3).push (lo, n, 0)) (gallopOf st3) (failedOf st3)) := fun st3 n n1 k3 u3 => ⟨k3.k, k3.f, k3.m, by
        show Ch L (arrOf st3) ((pendingOf st3).push (lo, n, 0)).toList 0 (lo + n)
        rw [Array.toList_push]
        exact Ch.app.mpr ⟨lo, k3.c, rfl, n1, u3, rfl⟩⟩
      by_cases c2 : n < (sortPriv% PySem.Builtin.minRun) a₀.size a₀.size 0
      · rw [if_pos c2]
        refine wpS_bind (s_rule ?_)
        refine wpS_bind (s_bin O K k2.k k2.m (ok := n) (by rw [k2.m.size_eq]; omega) (by omega) n1 u fun st3 sa3 fr3 u3 => ?_)
        rw [if_neg (by decide)]
        have k5 : Ok L κ a₀ lo st3 := ⟨sa3.k.trans k2.k, sa3.f.trans k2.f, sa3.m, by rw [sa3.p]; exact k2.c.frame fr3 (.inl (Nat.le_refl _))⟩
        refine wpS_bind (wpS_get ?_)
        try dsimp only
        split
        · next s1 n1' q eb =>
          refine wpS_bind (wpS_mono (Q := fun z st' => z.1 = none ∧ Ok L κ a₀ lo st' ∧ Up L (arrOf st') lo (min (a₀.size - lo) ((sortPriv% PySem.Builtin.minRun) a₀.size a₀.size 0))) ?_ ?_)
          · refine wpS_forRange (fun _ z st' => z.1 = none ∧ Ok L κ a₀ lo st' ∧ Up L (arrOf st') lo (min (a₀.size - lo) ((sortPriv% PySem.Builtin.minRun) a₀.size a₀.size 0))) ?_ ?_ ⟨rfl, k5, u3⟩
            · rintro j ⟨r, _⟩ st3 _ hj ⟨rfl, k3, u3⟩
              refine wpS_bind (wpS_get ?_)
              try dsimp only
              split
              · next e1 e2 older eo =>
                split
                · exact wpS_pure ⟨rfl, k3, u3⟩
                · have h2 : (pendingOf st3).size > 1 := by
                    by_cases hh : (pendingOf st3).size > 1
                    · exact hh
                    · rw [if_neg hh] at eo; cases eo
                  refine wpS_bind (s_mg O K k3 (by omega) (Nat.lt_of_lt_of_eq (show (pendingOf st3).size - 2 + 1 < (pendingOf st3).size by omega) rfl) fun st4 k4 fr4 _ => ?_)
                  rw [if_neg (by decide)]
                  exact wpS_pure ⟨rfl, k4, u3.frame fr4 (.inr (Nat.le_refl _))⟩
              · exact wpS_pure ⟨rfl, k3, u3⟩
            · rintro ⟨r, _⟩ st3 ⟨rfl, k3, u3⟩
              exact ⟨rfl, k3, u3⟩
          · rintro ⟨r, _⟩ st3 ⟨rfl, k3, u3⟩
            dsimp only
            refine wpS_bind (wpS_modify (wpS_bind (wpS_modify (wpS_pure ⟨rfl, ?_, by dsimp only; omega, by dsimp only; omega⟩))))
            refine push _ _ (by omega) ⟨k3.k, k3.f, k3.m, ?_⟩ u3
            show Ch L (arrOf st3) (Array.modify _ _ _).toList 0 lo
            rw [Array.toList_modify]
            exact mod_last (fun a b c => ⟨_, rfl⟩) k3.c
        · exact wpS_bind (wpS_modify (wpS_pure ⟨rfl, push _ _ (by omega) k5 u3, by dsimp only; omega, by dsimp only; omega⟩))
      · rw [if_neg c2]
        refine wpS_bind (wpS_get ?_)
        try dsimp only
        split
        · next s1 n1' q eb =>
          refine wpS_bind (wpS_mono (Q := fun z st' => z.1 = none ∧ Ok L κ a₀ lo st' ∧ Up L (arrOf st') lo n) ?_ ?_)
          · refine wpS_forRange (fun _ z st' => z.1 = none ∧ Ok L κ a₀ lo st' ∧ Up L (arrOf st') lo n) ?_ ?_ ⟨rfl, k2, u⟩
            · rintro j ⟨r, _⟩ st3 _ hj ⟨rfl, k3, u3⟩
              refine wpS_bind (wpS_get ?_)
              try dsimp only
              split
              · next e1 e2 older eo =>
                split
                · exact wpS_pure ⟨rfl, k3, u3⟩
                · have h2 : (pendingOf st3).size > 1 := by
                    by_cases hh : (pendingOf st3).size > 1
                    · exact hh
                    · rw [if_neg hh] at eo; cases eo
                  refine wpS_bind (s_mg O K k3 (by omega) (Nat.lt_of_lt_of_eq (show (pendingOf st3).size - 2 + 1 < (pendingOf st3).size by omega) rfl) fun st4 k4 fr4 _ => ?_)
                  rw [if_neg (by decide)]
                  exact wpS_pure ⟨rfl, k4, u3.frame fr4 (.inr (Nat.le_refl _))⟩
              · exact wpS_pure ⟨rfl, k3, u3⟩
            · rintro ⟨r, _⟩ st3 ⟨rfl, k3, u3⟩
              exact ⟨rfl, k3, u3⟩
          · rintro ⟨r, _⟩ st3 ⟨rfl, k3, u3⟩
            dsimp only
            refine wpS_bind (wpS_modify (wpS_bind (wpS_modify (wpS_pure ⟨rfl, ?_, by dsimp only; omega, by dsimp only; omega⟩))))
            refine push _ _ n1 ⟨k3.k, k3.f, k3.m, ?_⟩ u3
            show Ch L (arrOf st3) (Array.modify _ _ _).toList 0 lo
            rw [Array.toList_modify]
            exact mod_last (fun a b c => ⟨_, rfl⟩) k3.c
        · exact wpS_bind (wpS_modify (wpS_pure ⟨rfl, push _ _ n1 k2 u, by dsimp only; omega, by dsimp only; omega⟩))
    · rintro ⟨r, lo⟩ st1 ⟨rfl, k1, g1, g2⟩
      dsimp only at k1 g1 g2 ⊢
      obtain rfl : lo = a₀.size := by omega
      exact ⟨rfl, k1⟩
  · rintro ⟨r, lo⟩ st1 ⟨rfl, k1⟩
    dsimp only
    refine wpS_bind (wpS_mono (Q := fun z st' => z.1 = none ∧ Ok L κ a₀ a₀.size st' ∧ (pendingOf st').size ≤ 1) ?_ ?_)
    · have hl := k1.c.le
      rw [Array.length_toList] at hl
      refine wpS_forRange (fun i z st' => z.1 = none ∧ Ok L κ a₀ a₀.size st' ∧ (pendingOf st').size + i ≤ a₀.size) ?_ ?_ ⟨rfl, k1, by omega⟩
      · rintro i ⟨r, _⟩ st2 _ hi ⟨rfl, k2, g⟩
        refine wpS_bind (wpS_get ?_)
        try dsimp only
        by_cases c1 : (pendingOf st2).size ≤ 1
        · rw [if_pos c1]
          exact wpS_pure ⟨rfl, k2, c1⟩
        rw [if_neg c1]
        refine wpS_bind (s_mg O K k2 (Nat.le_refl _) ?_ fun st3 k3 _ e3 => ?_)
        · have c3 : ¬ (Array.size ((sortPriv% PySem.Builtin.SortState.pending) st2)) ≤ 1 := c1
          refine ite_lt ?_ ?_
          · show _ < Array.size ((sortPriv% PySem.Builtin.SortState.pending) st2); omega
          · show _ < Array.size ((sortPriv% PySem.Builtin.SortState.pending) st2); omega
        · rw [if_neg (by decide)]
          exact wpS_pure ⟨rfl, k3, by omega⟩
      · rintro ⟨r, _⟩ st2 ⟨rfl, k2, g⟩
        exact ⟨rfl, k2, by omega⟩
    · rintro ⟨r, _⟩ st2 ⟨rfl, k2, g⟩
      dsimp only
      refine wpS_pure (h st2 k2.f k2.m ?_)
      have c := k2.c
      have gl : (pendingOf st2).toList.length ≤ 1 := by rw [Array.length_toList]; exact g
      match hd : (pendingOf st2).toList, c with
      | [], c => have c : 0 = a₀.size := c; rw [← c]; intro i j x y hij hj; omega
      | [(s1, n1, _)], ⟨e1, e2, u, e3⟩ =>
        subst e1
        have e3 : 0 + n1 = a₀.size := e3
        rw [Nat.zero_add] at e3
        rw [← e3]; exact u
      | _ :: _ :: _, _ => rw [hd] at gl; simp at gl
end
end TS
namespace MM
open PySem PySem.Spec PyProof.Rows L2 BB
def lt1 : U → U → Option Bool
  | .str a, .str b => some (decide (a.cps.toList < b.cps.toList))
  | .int i, .int j => some (decide (i < j))
  | _, _ => none
def lexK : List U → List U → Option Bool
  | [], [] => some false
  | [], _ :: _ => some true
  | _ :: _, [] => some false
  | u :: us, v :: vs => match eqN 14 u v with
    | some true => lexK us vs
    | some false => lt1 u v
    | none => none
def ltK : U → U → Option Bool
  | .tup us, .tup vs => lexK us vs
  | .str a, .str b => lt1 (.str a) (.str b)
  | .int i, .int j => lt1 (.int i) (.int j)
  | _, _ => none
inductive Kn where
  | kS | kI | kT
def knOk : Kn → U → Bool
  | .kS, .str _ => true
  | .kI, .int _ => true
  | .kT, .tup (.str _ :: _) => true
  | _, _ => false
abbrev knKind : Kn → SortKind
  | .kS => oneType'
  | .kI => oneType'
  | .kT => tuples' true
section
variable {X : Cx} {pins : List (Addr × Obj)} {σ : L2.St} {H : Hp} {s : Shared} {ρ : List Addr} {A : Around} {prog : Program} {w : World}
theorem one_lt {E : Value → Shared → Prop} {b : Bool} {u v : U} {x y : V} {a c : Value} {k : Bool} (hx : FzH X H ρ u x) (hy : FzH X H ρ v y) (ra : RelV x a) (rc : RelV y c) (e : lt1 u v = some k) : wpAny (model prog w) A (oneLt' b a c) (fun r s' => s' = s ∧ r = k) E s := by
  cases u <;> cases v <;> first | cases e | skip
  · cases hx; cases hy
    obtain ⟨t, rfl⟩ := ra
    obtain ⟨t', rfl⟩ := rc
    cases b with
    | true => exact oneLt_int ⟨rfl, rfl⟩
    | false => exact PySem.W.kat_one _ _ (PyProof.Rows.lt_int (show PySem.W.BoolBack _ _ _ from ⟨rfl, rfl⟩))
  · cases hx; cases hy
    obtain ⟨t, rfl⟩ := ra
    obtain ⟨t', rfl⟩ := rc
    cases b with
    | true => exact oneLt_str ⟨rfl, rfl⟩
    | false => exact PySem.W.kat_one _ _ (PyProof.Rows.lt_str (show PySem.W.BoolBack _ _ _ from ⟨rfl, rfl⟩))
theorem lex_lt (I : Inv X pins σ H s) (hu : A.units + 14 < cLine) {b fin : Bool} : ∀ {us vs : List U} {xs ys : List V} {its its2 : List Value} {k : Bool} {i : Nat}, FzL X.prog X.w X.K ⟨H, ρ⟩ us xs → FzL X.prog X.w X.K ⟨H, ρ⟩ vs ys → Vals xs its → Vals ys its2 → lexK us vs = some k → fin = decide (its.length < its2.length) →
    PySem.W.KatLex prog w A b fin (fun r s' => s' = s ∧ r = k) (its.zip its2) i s
  | [], [], _, _, _, _, k, i, f1, f2, r1, r2, e, hf => by
    cases f1; cases f2; cases r1; cases r2; cases e
    exact PySem.W.kat_nil ⟨rfl, hf⟩
  | [], v :: vs, _, _, _, _, k, i, f1, f2, r1, r2, e, hf => by
    cases f1; cases r1; cases e
    obtain ⟨y, ys, rfl, _, _⟩ := f2
    have := r2.length
    rw [List.zip_nil_left]
    exact PySem.W.kat_nil ⟨rfl, by rw [hf]; simp at this ⊢; omega⟩
  | u :: us, [], _, _, _, _, k, i, f1, f2, r1, r2, e, hf => by
    cases f2; cases r2; cases e
    rw [List.zip_nil_right]
    exact PySem.W.kat_nil ⟨rfl, by rw [hf]; simp⟩
  | u :: us, v :: vs, _, _, _, _, k, i, f1, f2, r1, r2, e, hf => by
    obtain ⟨x, xs, rfl, fx, f1⟩ := f1
    obtain ⟨y, ys, rfl, fy, f2⟩ := f2
    cases r1 with
    | cons ra r1 =>
    cases r2 with
    | cons rb r2 =>
    rw [List.zip_cons_cons]
    unfold lexK at e
    refine PySem.W.kat_cons ?_
    cases q : eqN 14 u v with
    | none => rw [q] at e; cases e
    | some c =>
      have T := (tri_N I 14 hu fx fy ra rb q).eq
      rw [q] at e
      refine T _ _ _ _ ?_
      cases c with
      | true => exact PySem.W.kat_yes (lex_lt I hu f1 f2 r1 r2 e (by rw [hf]; simp))
      | false => exact PySem.W.kat_no (one_lt fx fy ra rb e)
theorem key_lt {kn : Kn} {u v : U} {x y : V} {a c : Value} {k : Bool} (I : Inv X pins σ H s) (hu : A.units + 14 < cLine) (ku : knOk kn u = true) (kv : knOk kn v = true) (hx : FzH X H ρ u x) (hy : FzH X H ρ v y) (ra : RelV x a) (rc : RelV y c) (e : ltK u v = some k) :
    wpAny (model prog w) A (keyLt' (knKind kn) a c) (fun r s' => s' = s ∧ r = k) (fun _ _ => False) s := by
  cases kn with
  | kS =>
    cases u <;> first | cases ku | skip
    cases v <;> first | cases kv | skip
    rw [keyLt'_oneType]; exact one_lt hx hy ra rc e
  | kI =>
    cases u <;> first | cases ku | skip
    cases v <;> first | cases kv | skip
    rw [keyLt'_oneType]; exact one_lt hx hy ra rc e
  | kT =>
    cases u <;> first | cases ku | skip
    cases v <;> first | cases kv | skip
    obtain ⟨p, xs, rfl, q1, f1⟩ := hx
    obtain ⟨p2, ys, rfl, q2, f2⟩ := hy
    cases ra; cases rc
    obtain ⟨its, r1, ⟨o, ho, hc, n, hd⟩, _⟩ := rd_tup I q1
    obtain ⟨its2, r2, ⟨o2, ho2, hc2, n2, hd2⟩, _⟩ := rd_tup I q2
    refine PySem.W.kat_lt ho hd ho2 hd2 ?_
    simp only [List.size_toArray]
    exact lex_lt I hu f1 f2 r1 r2 e rfl
theorem lt_self (I : Inv X pins σ H s) {u v : U} {x : V} (hx : FzH X H ρ u x) (hy : FzH X H ρ v x) (e : ltK u v = some true) : False := by
  have lex : ∀ {us vs : List U} {xs : List V}, FzL X.prog X.w X.K ⟨H, ρ⟩ us xs → FzL X.prog X.w X.K ⟨H, ρ⟩ vs xs → lexK us vs = some true → False := by
    intro us
    induction us with
    | nil =>
      intro vs xs f1 f2 e
      cases f1
      cases vs with
      | nil => cases e
      | cons v vs => obtain ⟨_, _, z, _⟩ := f2; cases z
    | cons u us ih =>
      intro vs xs f1 f2 e
      obtain ⟨x, xs, rfl, fx, f1⟩ := f1
      cases vs with
      | nil => cases f2
      | cons v vs =>
        obtain ⟨y, ys, z, fy, f2⟩ := f2
        cases z
        unfold lexK at e
        cases q : eqN 14 u v with
        | none => rw [q] at e; cases e
        | some c =>
          have := eqN_self I 14 fx fy q
          subst this
          rw [q] at e
          exact ih f1 f2 e
  cases u <;> cases v <;> first | cases e | skip
  · cases hx; cases hy; simp [ltK, lt1] at e
  · cases hx; cases hy
    have e := Option.some.inj e
    exact absurd (of_decide_eq_true e) (List.lt_irrefl _)
  · obtain ⟨p, xs, rfl, q1, f1⟩ := hx
    obtain ⟨p2, ys, z, q2, f2⟩ := hy
    cases z
    have e3 := I.tuple_inj q1 q2
    subst e3
    exact lex f1 f2 e
theorem kinds_tup (I : Inv X pins σ H s) : ∀ {us : List U} {xs : List V} {vs : List Value}, FzL X.prog X.w X.K ⟨H, ρ⟩ us xs → Vals xs vs → (∀ u ∈ us, knOk .kT u = true) → ∃ fs, PySem.W.KatTups s.heap vs fs ∧ fs.length = us.length ∧ ∀ v ∈ fs, ∃ z t, v = Value.str z t
  | [], _, _, f, r, _ => by cases f; cases r; exact ⟨[], PySem.W.KatTups.nil, rfl, by simp⟩
  | u :: us, _, _, f, r, h => by
    obtain ⟨x, xs, rfl, fx, f⟩ := f
    cases r with
    | cons ra r =>
    obtain ⟨fs, k, l, hs⟩ := kinds_tup I f r fun u hu => h u (List.mem_cons_of_mem _ hu)
    have hk := h u (List.mem_cons_self ..)
    cases u <;> first | cases hk | skip
    next us' =>
    cases us' with
    | nil => cases hk
    | cons u0 us' =>
      cases u0 <;> first | cases hk | skip
      obtain ⟨p, ys, rfl, q, g⟩ := fx
      cases ra
      obtain ⟨y, ys, rfl, e0, g⟩ := g
      cases e0
      obtain ⟨its, ri, ⟨o, ho, hc, n, hd⟩, _⟩ := rd_tup I q
      cases ri with
      | cons rb ri =>
      obtain ⟨t, rfl⟩ := rb
      refine ⟨Value.str _ t :: fs, PySem.W.KatTups.cons ho hc hd rfl k, by simp [l], fun v hv => ?_⟩
      rcases List.mem_cons.mp hv with rfl | hv
      · exact ⟨_, _, rfl⟩
      · exact hs v hv
theorem strs_of : ∀ {us : List U} {xs : List V} {vs : List Value}, FzL X.prog X.w X.K ⟨H, ρ⟩ us xs → Vals xs vs → (∀ u ∈ us, knOk .kS u = true) → ∃ ss, StrsAre vs ss
  | [], _, _, f, r, _ => by cases f; cases r; exact ⟨[], .nil⟩
  | u :: us, _, _, f, r, h => by
    obtain ⟨x, xs, rfl, fx, f⟩ := f
    cases r with
    | cons ra r =>
    obtain ⟨ss, k⟩ := strs_of f r fun u hu => h u (List.mem_cons_of_mem _ hu)
    have hk := h u (List.mem_cons_self ..)
    cases u <;> first | cases hk | skip
    cases fx
    obtain ⟨t, rfl⟩ := ra
    exact ⟨_, .cons _ t k⟩
theorem ints_of : ∀ {us : List U} {xs : List V} {vs : List Value}, FzL X.prog X.w X.K ⟨H, ρ⟩ us xs → Vals xs vs → (∀ u ∈ us, knOk .kI u = true) → ∃ ss, IntsAre vs ss
  | [], _, _, f, r, _ => by cases f; cases r; exact ⟨[], .nil⟩
  | u :: us, _, _, f, r, h => by
    obtain ⟨x, xs, rfl, fx, f⟩ := f
    cases r with
    | cons ra r =>
    obtain ⟨ss, k⟩ := ints_of f r fun u hu => h u (List.mem_cons_of_mem _ hu)
    have hk := h u (List.mem_cons_self ..)
    cases u <;> first | cases hk | skip
    cases fx
    obtain ⟨t, rfl⟩ := ra
    exact ⟨_, .cons _ t k⟩
theorem key_kind {kn : Kn} {us : List U} {xs : List V} {v1 v2 : Value} {vs : List Value} (I : Inv X pins σ H s) (f : FzL X.prog X.w X.K ⟨H, ρ⟩ us xs) (r : Vals xs (v1 :: v2 :: vs)) (h : ∀ u ∈ us, knOk kn u = true) :
    wpAny (model prog w) A (keyKind' (v1 :: v2 :: vs).toArray) (fun k s' => s' = s ∧ k = knKind kn) (fun _ _ => False) s := by
  cases kn with
  | kS =>
    obtain ⟨ss, k⟩ := strs_of f r h
    rw [keyKind_strs k]; exact wpAny_pure ⟨rfl, rfl⟩
  | kI =>
    obtain ⟨ss, k⟩ := ints_of f r h
    rw [keyKind_ints k]; exact wpAny_pure ⟨rfl, rfl⟩
  | kT =>
    obtain ⟨fs, k, l, hs⟩ := kinds_tup I f r h
    refine PySem.W.kat_kind (T := .type "str") k ?_ (fun v hv => ?_) (by decide) ⟨rfl, ?_⟩
    · rw [l, f.length, r.length]; simp
    · obtain ⟨z, t, rfl⟩ := hs v hv
      exact PySem.W.Looks.now
    · show tuples' (Value.type "str" != Value.type "tuple") = tuples' true
      rfl
end
end MM
namespace MM
open PySem PySem.Spec PyProof.Rows L2 BB TS
theorem perm_lift {α β : Type} {f : α → β} {l l2 : List β} (h : l.Perm l2) : ∀ {Z : List α}, l2 = Z.map f → ∃ Z' : List α, Z'.Perm Z ∧ Z'.map f = l := by
  induction h with
  | nil =>
    intro Z e
    cases Z with
    | nil => exact ⟨[], .nil, rfl⟩
    | cons _ _ => cases e
  | cons x _ ih =>
    intro Z e
    cases Z with
    | nil => cases e
    | cons z Z =>
      injection e with e1 e2
      obtain ⟨Z', p, q⟩ := ih e2
      exact ⟨z :: Z', p.cons z, by rw [List.map_cons, q, e1]⟩
  | swap x y l =>
    intro Z e
    match Z, e with
    | z1 :: z2 :: Z, e =>
      injection e with e1 e
      injection e with e2 e3
      exact ⟨z2 :: z1 :: Z, List.Perm.swap .., by rw [List.map_cons, List.map_cons, e1, e2, e3]⟩
  | trans _ _ ih1 ih2 =>
    intro Z e
    obtain ⟨Z2, p2, q2⟩ := ih2 e
    obtain ⟨Z1, p1, q1⟩ := ih1 q2.symm
    exact ⟨Z1, p1.trans p2, q1⟩
theorem sorted_uniq {α : Type} {R : α → α → Prop} : ∀ {l l' : List α}, l.Perm l' → l.Pairwise R → l'.Pairwise R → (∀ x ∈ l, ∀ y ∈ l, R x y → R y x → False) → l = l'
  | [], l', p, _, _, _ => (List.nil_perm.mp p).symm
  | x :: t, [], p, _, _, _ => absurd p.length_eq (by simp)
  | x :: t, y :: t', p, h, h', as => by
    have e : x = y := Classical.byContradiction fun ne => by
      have hx : x ∈ t' := by
        rcases List.mem_cons.mp (p.subset (List.mem_cons_self ..)) with z | z
        · exact absurd z ne
        · exact z
      have hy : y ∈ t := by
        rcases List.mem_cons.mp (p.symm.subset (List.mem_cons_self ..)) with z | z
        · exact absurd z.symm ne
        · exact z
      exact as x (List.mem_cons_self ..) y (List.mem_cons_of_mem _ hy) ((List.pairwise_cons.mp h).1 y hy) ((List.pairwise_cons.mp h').1 x hx)
    subst e
    rw [sorted_uniq (List.perm_cons x |>.mp p) (List.pairwise_cons.mp h).2 (List.pairwise_cons.mp h').2 fun a ha b hb => as a (List.mem_cons_of_mem _ ha) b (List.mem_cons_of_mem _ hb)]
structure SortOk (kn : Kn) (us ws : List U) : Prop where
  pm : ws.Perm us
  kd : ∀ u ∈ us, knOk kn u = true
  so : ws.Pairwise fun u v => ltK u v = some true ∧ ltK v u = some false
  ir : ∀ u ∈ ws, ltK u u = some false
section
variable {kn : Kn} {us ws : List U}
theorem SortOk.pos (S : SortOk kn us ws) {i j : Nat} {u v : U} (hi : ws[i]? = some u) (hj : ws[j]? = some v) (h : ltK u v = some true) : i < j := by
  rcases Nat.lt_trichotomy i j with z | z | z
  · exact z
  · subst z; rw [hi] at hj; cases hj
    rw [S.ir u (List.mem_of_getElem? hi)] at h; cases h
  · obtain ⟨a, rfl⟩ := List.getElem?_eq_some_iff.mp hi
    obtain ⟨b, rfl⟩ := List.getElem?_eq_some_iff.mp hj
    have := (List.pairwise_iff_getElem.mp S.so j i b a z).2
    rw [this] at h; cases h
theorem SortOk.tr (S : SortOk kn us ws) {u v w : U} (hu : u ∈ us) (hv : v ∈ us) (hw : w ∈ us) (h1 : ltK u v = some true) (h2 : ltK v w = some true) : ltK u w = some true := by
  obtain ⟨i, hi, rfl⟩ := List.getElem_of_mem (S.pm.symm.subset hu)
  obtain ⟨j, hj, rfl⟩ := List.getElem_of_mem (S.pm.symm.subset hv)
  obtain ⟨k, hk, rfl⟩ := List.getElem_of_mem (S.pm.symm.subset hw)
  have a := S.pos (List.getElem?_eq_getElem hi) (List.getElem?_eq_getElem hj) h1
  have b := S.pos (List.getElem?_eq_getElem hj) (List.getElem?_eq_getElem hk) h2
  exact (List.pairwise_iff_getElem.mp S.so i k hi hk (by omega)).1
theorem SortOk.two (S : SortOk kn us ws) {i j : Nat} {u v : U} (hij : i ≠ j) (hi : us[i]? = some u) (hj : us[j]? = some v) : (ltK u v = some true ∧ ltK v u = some false) ∨ (ltK v u = some true ∧ ltK u v = some false) := by
  have p : us.Pairwise fun u v => (ltK u v = some true ∧ ltK v u = some false) ∨ (ltK v u = some true ∧ ltK u v = some false) := (S.pm.pairwise_iff (fun h => h.symm)).mp (S.so.imp fun h => .inl h)
  obtain ⟨a, rfl⟩ := List.getElem?_eq_some_iff.mp hi
  obtain ⟨b, rfl⟩ := List.getElem?_eq_some_iff.mp hj
  rcases Nat.lt_or_gt_of_ne hij with z | z
  · exact List.pairwise_iff_getElem.mp p i j a b z
  · exact (List.pairwise_iff_getElem.mp p j i b a z).symm
theorem SortOk.def (S : SortOk kn us ws) {i j : Nat} {u v : U} (hi : us[i]? = some u) (hj : us[j]? = some v) : ∃ k, ltK u v = some k := by
  by_cases hij : i = j
  · subst hij; rw [hi] at hj; cases hj
    exact ⟨_, S.ir u (S.pm.symm.subset (List.mem_of_getElem? hi))⟩
  · rcases S.two hij hi hj with h | h
    · exact ⟨_, h.1⟩
    · exact ⟨_, h.2⟩
end
section
variable {X : Cx} {pins : List (Addr × Obj)} {σ : L2.St} {H : Hp} {s : Shared} {ρ : List Addr} {A : Around}
theorem rel_inj {x y : V} {v : Value} (h1 : RelV x v) (h2 : RelV y v) : x = y := by
  cases x <;> cases y <;> simp only [L2.RelV] at h1 h2 <;> first
    | (subst h1; cases h2; rfl; done)
    | (subst h1; cases h2; done)
    | (obtain ⟨_, rfl⟩ := h1; obtain ⟨_, z⟩ := h2; cases z; first | rfl | done)
    | (obtain ⟨_, rfl⟩ := h1; cases h2; done)
    | (obtain ⟨_, rfl⟩ := h2; cases h1; done)
    | skip
noncomputable def ordL (us : List U) (vs : List Value) : Keyed → Keyed → Bool := fun p q => @decide (∃ (i j : Nat) (u v : U), vs[i]? = some p.1 ∧ us[i]? = some u ∧ vs[j]? = some q.1 ∧ us[j]? = some v ∧ ltK u v = some true) (Classical.propDecidable _)
theorem mem_pairs {vs : List Value} {p : Keyed} (h : p ∈ pairsOf vs) : ∃ i : Nat, vs[i]? = some p.1 ∧ p.2 = p.1 := by
  have h : p ∈ (pairsOf vs).toList := by simpa using h
  rw [pairsOf_toList] at h
  obtain ⟨a, b⟩ := mem_zip_self h
  obtain ⟨i, hi, e⟩ := List.getElem_of_mem b
  exact ⟨i, by rw [List.getElem?_eq_getElem hi, e], a.symm⟩
theorem zip_self_nodup {vs : List Value} (h : vs.Nodup) : (vs.zip vs).Nodup := by
  have : vs.zip vs = vs.map fun v => (v, v) := by
    clear h
    induction vs with
    | nil => rfl
    | cons v vs ih => rw [List.zip_cons_cons, ih]; rfl
  rw [this]
  exact List.Pairwise.map _ (fun a b hab e => hab (by injection e)) h
theorem ord_tot {kn : Kn} {us ws : List U} {xs : List V} {vs : List Value} (I : Inv X pins σ H s) (S : SortOk kn us ws) (f : FzL X.prog X.w X.K ⟨H, ρ⟩ us xs) (r : Vals xs vs) :
    TS.Tot (ordL us vs) (pairsOf vs) ∧ ∀ (i j : Nat) (u v : U) (p q : Keyed), vs[i]? = some p.1 → us[i]? = some u → vs[j]? = some q.1 → us[j]? = some v → ltK u v = some (ordL us vs p q) := by
  have lu : us.length = vs.length := f.length.trans r.length
  have at_ : ∀ {i : Nat} {u : U}, us[i]? = some u → ∃ x v, xs[i]? = some x ∧ vs[i]? = some v ∧ FzH X H ρ u x ∧ RelV x v := fun {i u} e => by
    obtain ⟨x, ex, fx⟩ := f.get e
    obtain ⟨v, ev, rv⟩ := r.get ex
    exact ⟨x, v, ex, ev, fx, rv⟩
  have inj : ∀ {i j : Nat} {v : Value}, vs[i]? = some v → vs[j]? = some v → i = j := fun {i j v} hi hj => Classical.byContradiction fun ne => by
    have l1 := (List.getElem?_eq_some_iff.mp hi).1
    have l2 := (List.getElem?_eq_some_iff.mp hj).1
    obtain ⟨x, v1, _, e1, f1, r1⟩ := at_ (List.getElem?_eq_getElem (l := us) (i := i) (by omega))
    obtain ⟨y, v2, _, e2, f2, r2⟩ := at_ (List.getElem?_eq_getElem (l := us) (i := j) (by omega))
    rw [hi] at e1; cases e1
    rw [hj] at e2; cases e2
    have := rel_inj r1 r2
    subst this
    rcases S.two ne (List.getElem?_eq_getElem (by omega)) (List.getElem?_eq_getElem (by omega)) with h | h
    · exact lt_self I f1 f2 h.1
    · exact lt_self I f2 f1 h.1
  have nd : vs.Nodup := List.pairwise_iff_getElem.mpr fun i j hi hj hij e => by
    have := inj (List.getElem?_eq_getElem hi) (by rw [List.getElem?_eq_getElem hj, e])
    omega
  have val : ∀ (i j : Nat) (u v : U) (p q : Keyed), vs[i]? = some p.1 → us[i]? = some u → vs[j]? = some q.1 → us[j]? = some v → ltK u v = some (ordL us vs p q) := fun i j u v p q hi hu hj hv => by
    obtain ⟨k, ek⟩ := S.def hu hv
    rw [ek]
    congr 1
    unfold ordL
    cases k with
    | true => exact (@decide_eq_true _ (Classical.propDecidable _) ⟨i, j, u, v, hi, hu, hj, hv, ek⟩).symm
    | false =>
      refine (@decide_eq_false _ (Classical.propDecidable _) ?_).symm
      rintro ⟨i', j', u', v', hi', hu', hj', hv', e'⟩
      obtain rfl := inj hi hi'
      obtain rfl := inj hj hj'
      rw [hu] at hu'; cases hu'
      rw [hv] at hv'; cases hv'
      rw [ek] at e'; cases e'
  have idx : ∀ {p : Keyed}, p ∈ pairsOf vs → ∃ (i : Nat) (u : U), vs[i]? = some p.1 ∧ us[i]? = some u ∧ u ∈ us := fun {p} h => by
    obtain ⟨i, e, _⟩ := mem_pairs h
    have l1 := (List.getElem?_eq_some_iff.mp e).1
    exact ⟨i, us[i]'(by omega), e, List.getElem?_eq_getElem (by omega), List.getElem_mem _⟩
  refine ⟨⟨fun p hp => ?_, fun p q t hp hq ht h1 h2 => ?_, fun p q hp hq ne => ?_, ?_⟩, val⟩
  · obtain ⟨i, u, e, eu, mu⟩ := idx hp
    have := val i i u u p p e eu e eu
    rw [S.ir u (S.pm.symm.subset mu)] at this
    exact (Option.some.inj this).symm
  · obtain ⟨i, u, e, eu, mu⟩ := idx hp
    obtain ⟨j, v, e', ev, mv⟩ := idx hq
    obtain ⟨k, x, e'', ex, mx⟩ := idx ht
    have a := val i j u v p q e eu e' ev
    have b := val j k v x q t e' ev e'' ex
    rw [h1] at a; rw [h2] at b
    have c := val i k u x p t e eu e'' ex
    rw [S.tr mu mv mx a b] at c
    exact (Option.some.inj c).symm
  · obtain ⟨i, u, e, eu, mu⟩ := idx hp
    obtain ⟨j, v, e', ev, mv⟩ := idx hq
    have nij : i ≠ j := fun z => by
      subst z
      rw [e] at e'
      have e1 := Option.some.inj e'
      obtain ⟨_, _, p2⟩ := mem_pairs hp
      obtain ⟨_, _, q2⟩ := mem_pairs hq
      exact ne (Prod.ext e1 (by rw [p2, q2, e1]))
    have a := val i j u v p q e eu e' ev
    have b := val j i v u q p e' ev e eu
    rcases S.two nij eu ev with h | h
    · rw [h.1] at a; exact .inl (Option.some.inj a).symm
    · rw [h.1] at b; exact .inr (Option.some.inj b).symm
  · rw [pairsOf_toList]; exact zip_self_nodup nd
theorem ord_asks {kn : Kn} {us ws : List U} {xs : List V} {vs : List Value} (I : Inv X pins σ H s) (hu : A.units + 14 < cLine) (S : SortOk kn us ws) (f : FzL X.prog X.w X.K ⟨H, ρ⟩ us xs) (r : Vals xs vs) : TS.Asks X.prog X.w A s (knKind kn) (ordL us vs) (pairsOf vs) := fun p q hp hq => by
  have lu : us.length = vs.length := f.length.trans r.length
  obtain ⟨_, val⟩ := ord_tot I S f r
  obtain ⟨i, e, _⟩ := mem_pairs hp
  obtain ⟨j, e', _⟩ := mem_pairs hq
  have l1 := (List.getElem?_eq_some_iff.mp e).1
  have l2 := (List.getElem?_eq_some_iff.mp e').1
  have eu : us[i]? = some (us[i]'(by omega)) := List.getElem?_eq_getElem (by omega)
  have ev : us[j]? = some (us[j]'(by omega)) := List.getElem?_eq_getElem (by omega)
  obtain ⟨x, ex, fx⟩ := f.get eu
  obtain ⟨y, ey, fy⟩ := f.get ev
  obtain ⟨v, e1, rv⟩ := r.get ex
  obtain ⟨v', e2, rv'⟩ := r.get ey
  rw [e] at e1; cases e1
  rw [e'] at e2; cases e2
  exact key_lt I hu (S.kd _ (List.getElem_mem _)) (S.kd _ (List.getElem_mem _)) fx fy rv rv' (val i j _ _ p q e eu e' ev)
end
end MM
namespace MM
open PySem PySem.Spec PyProof.Rows L2 BB TS
theorem sort_out {X : Cx} {pins : List (Addr × Obj)} {σ : L2.St} {H : Hp} {s : Shared} {ρ : List Addr} {kn : Kn} {us ws : List U} {xs : List V} {vs : List Value} {arr : Array Keyed} (I : Inv X pins σ H s) (S : SortOk kn us ws) (f : FzL X.prog X.w X.K ⟨H, ρ⟩ us xs) (r : Vals xs vs)
    (pm : arr.Perm (pairsOf vs)) (up : Up (ordL us vs) arr 0 (pairsOf vs).size) : ∃ zs, (ws.zip zs).Perm (us.zip xs) ∧ zs.length = ws.length ∧ Vals zs (arr.map (·.2)).toList := by
  have lu : us.length = vs.length := f.length.trans r.length
  have lx : xs.length = vs.length := r.length
  obtain ⟨_, val⟩ := ord_tot I S f r
  -- places
  have p1 : (arr.map (·.2)).toList.Perm ((List.range vs.length).map fun i => vs.getD i Value.none) := by
    rw [Array.toList_map]
    refine (List.Perm.map _ (Array.perm_iff_toList_perm.mp pm)).trans ?_
    rw [pairsOf_toList]
    refine List.Perm.of_eq (List.ext_getElem? fun i => ?_)
    by_cases hi : i < vs.length
    · simp [hi, List.getD]
    · simp [hi, List.getD]
  obtain ⟨is, pi, ei⟩ := perm_lift p1 rfl
  have lt : ∀ i ∈ is, i < vs.length := fun i hi => by simpa using pi.subset hi
  have li : is.length = vs.length := by rw [pi.length_eq, List.length_range]
  have sa : arr.size = vs.length := by rw [pm.size_eq, pairsOf_size]
  -- the entry at a place of the sorted row
  have ent : ∀ (k : Nat) (hk : k < is.length), arr[k]? = some (vs.getD is[k] Value.none, vs.getD is[k] Value.none) := fun k hk => by
    have e1 : (arr.map (·.2)).toList[k]? = some (vs.getD is[k] Value.none) := by rw [← ei, List.getElem?_map, List.getElem?_eq_getElem hk]; rfl
    rw [Array.getElem?_toList, Array.getElem?_map] at e1
    obtain ⟨p, ep, e2⟩ := Option.map_eq_some_iff.mp e1
    have mp : p ∈ pairsOf vs := mem_of_perm pm ep
    obtain ⟨_, _, e3⟩ := mem_pairs mp
    rw [ep]
    congr 1
    exact Prod.ext (e3.symm.trans e2) e2
  have us_ : is.map (fun i => us.getD i .non) = ws := by
    have pu : (is.map (fun i => us.getD i .non)).Perm us := by
      refine (pi.map _).trans (List.Perm.of_eq (List.ext_getElem? fun i => ?_))
      by_cases hi : i < us.length
      · simp [hi, List.getD, ← lu]
      · simp [hi, List.getD, ← lu]
    refine sorted_uniq (R := fun u v => ltK u v = some true) (pu.trans S.pm.symm) (List.pairwise_iff_getElem.mpr fun i j hi hj hij => ?_) (S.so.imp fun h => h.1) (fun x hx y hy h1 h2 => ?_)
    · rw [List.length_map] at hi hj
      rw [List.getElem_map, List.getElem_map]
      have a := ent i hi
      have b := ent j hj
      have l1 := lt _ (List.getElem_mem hi)
      have l2 := lt _ (List.getElem_mem hj)
      have v := val is[i] is[j] (us.getD is[i] .non) (us.getD is[j] .non) (vs.getD is[i] Value.none, vs.getD is[i] Value.none) (vs.getD is[j] Value.none, vs.getD is[j] Value.none) (by simp [List.getD, l1]) (by simp [List.getD, lu, l1]) (by simp [List.getD, l2]) (by simp [List.getD, lu, l2])
      rw [v, up i j _ _ hij (by rw [pairsOf_size]; omega) (by rw [Nat.zero_add]; exact a) (by rw [Nat.zero_add]; exact b)]
    · have := S.tr (pu.subset hx) (pu.subset hy) (pu.subset hx) h1 h2
      rw [S.ir x (S.pm.symm.subset (pu.subset hx))] at this; cases this
  refine ⟨is.map fun i => xs.getD i .non, ?_, ?_, ?_⟩
  · rw [← us_]
    have : (is.map (fun i => us.getD i .non)).zip (is.map fun i => xs.getD i .non) = is.map fun i => (us.getD i .non, xs.getD i .non) := by
      clear us_ ei lt li ent pi
      induction is with
      | nil => rfl
      | cons i is ih => rw [List.map_cons, List.map_cons, List.zip_cons_cons, ih]; rfl
    rw [this]
    refine (pi.map _).trans (List.Perm.of_eq (List.ext_getElem? fun i => ?_))
    by_cases hi : i < vs.length
    · rw [List.getElem?_map, List.getElem?_range hi, List.getElem?_eq_getElem (l := us.zip xs) (by rw [List.length_zip]; omega), List.getElem_zip]
      simp [List.getD, lu, lx, hi]
    · rw [List.getElem?_eq_none (by simp; omega), List.getElem?_eq_none (by simp; omega)]
  · rw [← us_, List.length_map, List.length_map]
  · rw [← ei]
    have : ∀ l : List Nat, (∀ i ∈ l, i < vs.length) → Vals (l.map fun i => xs.getD i .non) (l.map fun i => vs.getD i Value.none) := by
      intro l
      induction l with
      | nil => intro _; exact .nil
      | cons i l ih =>
        intro h
        refine .cons ?_ (ih fun j hj => h j (List.mem_cons_of_mem _ hj))
        have hi := h i (List.mem_cons_self ..)
        have ex : xs[i]? = some (xs.getD i .non) := by simp [List.getD, lx, hi]
        obtain ⟨v, ev, rv⟩ := r.get ex
        have e3 : vs.getD i Value.none = v := by simp [List.getD, ev]
        show L2.RelV (xs.getD i .non) (vs.getD i Value.none)
        rw [e3]; exact rv
    exact this is lt
theorem nat_ne {b n m : Nat} (h : b < n) (h2 : n ≤ m) : b ≠ m := by omega
section
variable {X : Cx}
theorem call_sortedU (hu : X.A.units + 16 < cLine) : CallR X (.builtin "sorted") (fun xs H Q => ∃ p ρ us ws ys kn, xs = [.ref p] ∧ Rd H p (.lst ys) ∧ FzL X.prog X.w X.K ⟨H, ρ⟩ us ys ∧ SortOk kn us ws ∧ ∀ zs l, (ws.zip zs).Perm (us.zip ys) → zs.length = ws.length → H l = none → Q (.ref l) (upd H l (.lst zs))) := by
  intro pins s σ H xs us' Q I r h
  obtain ⟨p, ρ, us, ws, ys, kn, rfl, rd, f, S, q⟩ := h
  obtain ⟨u, rfl, rx⟩ := vals1 r
  cases rx
  obtain ⟨vs, rv, il, hz⟩ := rd_list I rd
  have lv : ys.length = vs.length := rv.length
  have lz : vs.length ≤ sizeLine := lv ▸ hz
  have lt0 : s.heap.objs.size ≠ s.heap.objs.size + 1 := by omega
  generalize hh1 : (s.heap.push (seqObj "list" #[] 0)).update s.heap.objs.size (Obj.mapSeq (· ++ vs.toArray)) = h1
  have s1 : h1.objs.size = s.heap.objs.size + 1 := by rw [← hh1, Heap.size_update, size_push']
  have k1 : ∀ b o, s.heap.get? b = some o → h1.get? b = some o := fun b o e => by
    have := Heap.lt_size e
    rw [← hh1, Heap.get?_update_ne _ _ _ _ (nat_ne this (by omega)), Heap.get?_push_ne _ _ _ (nat_ne this (by omega))]; exact e
  generalize hh2 : h1.push (seqObj "list" vs.toArray 0) = h2
  have e2 : h2.get? h1.objs.size = some (seqObj "list" vs.toArray 0) := by rw [← hh2]; exact Heap.get?_push_size _ rfl
  have k2 : ∀ b o, s.heap.get? b = some o → h2.get? b = some o := fun b o e => by
    have := Heap.lt_size e
    rw [← hh2, Heap.get?_push_ne _ _ _ (nat_ne this (by omega))]; exact k1 b o e
  have s2 : h2.objs.size = s.heap.objs.size + 2 := by rw [← hh2, size_push', s1]
  obtain ⟨n3, e3⟩ : ∃ n, (h2.update h1.objs.size (Obj.mapSeq fun _ => #[])).get? h1.objs.size = some (seqObj "list" #[] n) := ⟨_, get?_update_seq e2 _⟩
  generalize hh4 : ((h2.update h1.objs.size (Obj.mapSeq fun _ => #[])).push (seqObj "tuple" vs.toArray 0)).push (seqObj "list" #[] 0) = h4
  have e4 : h4.get? h1.objs.size = some (seqObj "list" #[] n3) := by
    have this : h1.objs.size < h1.objs.size + 1 := Nat.lt_succ_self _
    rw [← hh4, Heap.get?_push_ne _ _ _ (by rw [size_push', Heap.size_update]; exact nat_ne this (by omega)), Heap.get?_push_ne _ _ _ (by rw [Heap.size_update]; exact nat_ne this (by omega))]; exact e3
  have k4 : ∀ b o, s.heap.get? b = some o → h4.get? b = some o := fun b o e => by
    have := Heap.lt_size e
    rw [← hh4, Heap.get?_push_ne _ _ _ (by rw [size_push', Heap.size_update]; exact nat_ne this (by omega)), Heap.get?_push_ne _ _ _ (by rw [Heap.size_update]; exact nat_ne this (by omega)), Heap.get?_update_ne _ _ _ _ (nat_ne this (by omega))]; exact k2 b o e
  have I4 : Inv X pins σ H { s with heap := h4 } := I.kept (t' := s.toks) k4
  -- what is told
  have fin : ∀ (out : Array Value) (zs : List V), (ws.zip zs).Perm (us.zip ys) → zs.length = ws.length → Vals zs out.toList → EP X pins σ Q (.ref h1.objs.size) { s with heap := h4.update h1.objs.size (Obj.mapSeq fun _ => out) } := fun out zs p1 p2 p3 => by
    obtain ⟨n5, e5⟩ : ∃ n, (h4.update h1.objs.size (Obj.mapSeq fun _ => out)).get? h1.objs.size = some (seqObj "list" out n) := ⟨_, get?_update_seq e4 _⟩
    have lw : zs.length ≤ sizeLine := by rw [p2, S.pm.length_eq, f.length]; exact hz
    refine ⟨.ref h1.objs.size, _, I.laid (t' := s.toks) (fun b o e => ?_) (by omega) (show ObjOk X.prog X.w _ _ _ (.lst zs) from ⟨lw, out.toList, n5, p3, by rw [Array.toArray_toList]; exact e5⟩), rfl, q zs _ p1 p2 (I.hok.fresh (by omega))⟩
    have := Heap.lt_size e
    rw [Heap.get?_update_ne _ _ _ _ (nat_ne this (by omega))]; exact k4 b o e
  refine Calls.call_function_entry kind_sorted plain_sorted entry_sorted (args_sorted1 _) ?_
  unfold Builtin.«sorted»
  refine wpAny_bind (m := checkCount "sorted" 1 1 _) (wpAny_pure (wpAny_bind (collect_list il ?_ lz)))
  rw [hh1]
  refine wpAny_bind (wpAny_newList ?_ (by simpa using lz))
  show wpAny _ _ _ _ _ { s with heap := h1.push (seqObj "list" vs.toArray 0) }
  rw [hh2]
  refine wpAny_bind (wpAny_holding (wpAny_call_entry slot_list_sort ⟨_, e2, rfl⟩ entry_list_sort ?_ (args_list_sort _)))
  rw [list_sort_plain]
  refine wpAny_bind (listItems_at e2 rfl (wpAny_bind (listUpdate_at e2 rfl ?_ (hsz := by simpa using lz))))
  refine wpAny_bind (seqEpoch_at e3 rfl (wpAny_bind (wpAny_newTuple ?_ (by simpa using lz))))
  refine wpAny_bind (wpAny_newList (wpAny_holding ?_))
  show wpAny _ _ _ _ _ { s with heap := ((h2.update h1.objs.size (Obj.mapSeq fun _ => #[])).push (seqObj "tuple" vs.toArray 0)).push (seqObj "list" #[] 0) }
  rw [hh4]
  dsimp only
  by_cases c : vs.toArray.size < 2
  · rw [if_pos c, if_pos c]
    refine wpAny_bind (wpAny_pure ?_)
    rw [StateT.run_pure]
    refine wpAny_bind (wpAny_pure ?_)
    refine wpAny_bind (seqEpoch_at e4 rfl (wpAny_bind (listUpdate_at e4 rfl ?_ (hsz2 := by rw [Array.size_map]; show (pairsOf vs).size ≤ _; rw [pairsOf_size]; omega))))
    simp only [bne_self_eq_false, Bool.false_eq_true, if_false]
    obtain ⟨zs, z1, z2, z3⟩ := sort_out (arr := pairsOf vs) I S f rv (Array.Perm.refl _) (fun i j x y hij hj => by rw [pairsOf_size] at hj; simp at c; omega)
    exact wpAny_pure ⟨_, rfl, wpAny_pure ⟨_, rfl, fin _ zs z1 z2 z3⟩⟩
  · rw [if_neg c, if_neg c]
    obtain ⟨v1, v2, vs', rfl⟩ : ∃ v1 v2 vs', vs = v1 :: v2 :: vs' := by
      match vs, c with
      | [], c => simp at c
      | [_], c => simp at c
      | v1 :: v2 :: r, _ => exact ⟨v1, v2, r, rfl⟩
    refine wpAny_bind (wpAny_mono (key_kind (kn := kn) I4 f rv S.kd) (fun κ s' hκ => ?_) fun _ _ z => z.elim)
    obtain ⟨rfl, rfl⟩ := hκ
    refine wpAny_bind (wpAny_mono (TS.s_sort (L := ordL us (v1 :: v2 :: vs')) (a₀ := pairsOf (v1 :: v2 :: vs')) (κ := knKind kn)
      (Q := fun _ st' => failedOf st' = none ∧ (arrOf st').Perm (pairsOf (v1 :: v2 :: vs')) ∧ Up (ordL us (v1 :: v2 :: vs')) (arrOf st') 0 (pairsOf (v1 :: v2 :: vs')).size)
      (ord_tot I S f rv).1 (ord_asks I4 (by show X.A.units + 1 + 1 + 14 < cLine; omega) S f rv) rfl rfl rfl (Array.Perm.refl _) fun st' a1 a2 a3 => ⟨a1, a2, a3⟩) ?_ fun _ _ z => z)
    rintro ⟨⟨⟩, st'⟩ s' ⟨rfl, hf, hp, hs⟩
    obtain ⟨zs, z1, z2, z3⟩ := sort_out I S f rv hp hs
    refine wpAny_bind (seqEpoch_at e4 rfl (wpAny_bind (listUpdate_at e4 rfl ?_ (hsz2 := by rw [Array.size_map, hp.size_eq, pairsOf_size]; omega))))
    rw [hf]
    simp only [bne_self_eq_false, Bool.false_eq_true, if_false]
    exact wpAny_pure ⟨_, rfl, wpAny_pure ⟨_, rfl, fin _ zs z1 z2 z3⟩⟩
end
end MM
namespace MM
open PySem PySem.Spec PyProof.Rows L2 BB TS
def RcOp (op : CmpOp) (A : Around) (s : Shared) (x y : Value) (k : Bool) : Prop := ∀ (prog : Program) (w : World) (E : Value → Shared → Prop) (Q : Value → Shared → Prop), Q (.bool k) s → wpAny (model prog w) A (richCompare op x y) Q E s
def LexV (op : CmpOp) (A : Around) (s : Shared) (fin : Bool) : List (Value × Value) → Bool → Prop
  | [], k => k = fin
  | (x, y) :: r, k => ∃ e, SeqAt.EqAt A s x y e ∧ (e = true → LexV op A s fin r k) ∧ (e = false → RcOp op A s x y k)
section
open PySem.SeqAt
open PySem.AutoSeq1 (wpAny_loadPart')
open PySem.MeetsSeq PySem.MeetsSeq2 PySem.MeetsSeq3
theorem tup_le (l b : Addr) (its its2 : Array Value) (n n2 : Nat) (dd dd2 : Option Addr) (sl sl2 : Array (Option Value)) :
    Meets (Builtin.«tuple.__le__» ⟨[.ref l, .ref b], []⟩)
      (fun A R s => s.heap.get? l = some { cls := .type "tuple", dict := dd, data := .seq its n, slots := sl } ∧ s.heap.get? b = some { cls := .type "tuple", dict := dd2, data := .seq its2 n2, slots := sl2 } ∧
        ∃ k, LexV .LtE A.in1 s (decide (its.size ≤ its2.size)) (its.toList.zip its2.toList) k ∧ R (.ok (.ret (.bool k))) s) :=
  .of_wp fun prog w A R s h => by
    obtain ⟨hp, g, d, tk, os⟩ := s
    obtain ⟨hl, hb, k, lx, h⟩ := h
    have f2 := AutoSeq1.sub_tuple_tuple
    wp_walk using wpAny_loadPart' hl, wpAny_loadPart' hb, wpAny_forIn_list _ (fun rest z s' => z.1 = none ∧ s' = ⟨hp, g, d, tk, os⟩ ∧ LexV .LtE A.in1 ⟨hp, g, d, tk, os⟩ (decide (its.size ≤ its2.size)) rest k) _
    case turn =>
      rintro ⟨y, x⟩ rest z s' ⟨hz, rfl, e, he, h1, h2⟩
      refine wpAny_bind (he prog w _ _ ?_)
      cases e with
      | true =>
        wp_walk
        exact ⟨rfl, rfl, h1 rfl⟩
      | false =>
        have hri := h2 rfl prog w
        wp_walk using hri
        exact ⟨_, rfl, h⟩
    case fin =>
      rintro ⟨z1, z2⟩ s' ⟨hz, rfl, e⟩
      simp only at hz
      subst hz
      have e : k = decide (its.size ≤ its2.size) := e
      wp_walk
      exact ⟨_, rfl, by rw [e] at h; simpa [Builtin.Tuple.tupleCompareSizes] using h⟩
    case h => exact ⟨rfl, rfl, lx⟩
end
def le1 : U → U → Option Bool
  | .str a, .str b => some (!decide (b.cps.toList < a.cps.toList))
  | .int i, .int j => some (decide (i ≤ j))
  | _, _ => none
def lexLe : List U → List U → Option Bool
  | [], _ => some true
  | _ :: _, [] => some false
  | u :: us, v :: vs => match eqN 14 u v with
    | some true => lexLe us vs
    | some false => le1 u v
    | none => none
section
variable {X : Cx} {pins : List (Addr × Obj)} {σ : L2.St} {H : Hp} {s : Shared} {ρ : List Addr} {A : Around}
theorem one_le {u v : U} {x y : V} {a c : Value} {k : Bool} (hx : FzH X H ρ u x) (hy : FzH X H ρ v y) (ra : RelV x a) (rc : RelV y c) (e : le1 u v = some k) : RcOp .LtE A s a c k := fun prog w E Q q => by
  cases u <;> cases v <;> first | cases e | skip
  · cases hx; cases hy
    obtain ⟨t, rfl⟩ := ra
    obtain ⟨t', rfl⟩ := rc
    exact (PyProof.Rows.le_int q : wpAny (model prog w) A (compareOp .LtE _ _) Q E s)
  · cases hx; cases hy
    obtain ⟨t, rfl⟩ := ra
    obtain ⟨t', rfl⟩ := rc
    exact (PySem.P.le_str q : wpAny (model prog w) A (compareOp .LtE _ _) Q E s)
theorem lex_le (I : Inv X pins σ H s) (hu : A.units + 14 < cLine) {fin : Bool} : ∀ {us vs : List U} {xs ys : List V} {its its2 : List Value} {k : Bool}, FzL X.prog X.w X.K ⟨H, ρ⟩ us xs → FzL X.prog X.w X.K ⟨H, ρ⟩ vs ys → Vals xs its → Vals ys its2 → lexLe us vs = some k → fin = decide (its.length ≤ its2.length) → LexV .LtE A s fin (its.zip its2) k
  | [], vs, _, _, _, _, k, f1, f2, r1, r2, e, hf => by
    cases f1; cases r1; cases e
    rw [List.zip_nil_left]
    show true = fin
    rw [hf]; simp
  | u :: us, [], _, _, _, _, k, f1, f2, r1, r2, e, hf => by
    cases f2; cases r2; cases e
    obtain ⟨x, xs, rfl, _, _⟩ := f1
    have := r1.length
    rw [List.zip_nil_right]
    show false = fin
    cases r1; rw [hf]; simp
  | u :: us, v :: vs, _, _, _, _, k, f1, f2, r1, r2, e, hf => by
    obtain ⟨x, xs, rfl, fx, f1⟩ := f1
    obtain ⟨y, ys, rfl, fy, f2⟩ := f2
    cases r1 with
    | cons ra r1 =>
    cases r2 with
    | cons rb r2 =>
    rw [List.zip_cons_cons]
    unfold lexLe at e
    cases q : eqN 14 u v with
    | none => rw [q] at e; cases e
    | some c =>
      rw [q] at e
      refine ⟨c, (tri_N I 14 hu fx fy ra rb q).eq, fun hc => ?_, fun hc => ?_⟩
      · subst hc; exact lex_le I hu f1 f2 r1 r2 e (by rw [hf]; simp)
      · subst hc; exact one_le fx fy ra rb e
end
section
variable {X : Cx} {C : MC} {a b : Expr} {ma mb : Me} {pos : Pos}
theorem op_leT (hu : X.A.units + 16 < cLine) : OpR X (compareOp .LtE) (fun x y H Q => ∃ ρ us vs k, FzH X H ρ (.tup us) x ∧ FzH X H ρ (.tup vs) y ∧ lexLe us vs = some k ∧ Q (.bl k) H) := by
  intro pins s σ H x y v1 v2 Q I rx ry h
  obtain ⟨ρ, us, vs, k, hx, hy, e, q⟩ := h
  obtain ⟨p, xs, rfl, q1, f1⟩ := hx
  obtain ⟨p2, ys, rfl, q2, f2⟩ := hy
  cases rx; cases ry
  obtain ⟨its, r1, ⟨⟨cls, dd, data, sl⟩, ho, hc, n, hd⟩, _⟩ := rd_tup I q1
  obtain ⟨its2, r2, ⟨⟨cls2, dd2, data2, sl2⟩, ho2, hc2, n2, hd2⟩, _⟩ := rd_tup I q2
  simp only at hc hd hc2 hd2
  subst hc hd hc2 hd2
  refine richCompare_meets_room (op := .LtE) ⟨_, ho, rfl⟩ ⟨_, ho2, rfl⟩ PySem.F.slot_tuple_le PySem.F.entry_tuple_le (PySem.F.args_tuple_le_2 _ _) (tup_le p p2 its.toArray its2.toArray n n2 dd dd2 sl sl2) ⟨ho, ho2, k, ?_, (show Value.bool k ≠ Value.notImplemented ∧ EP X pins σ Q (.bool k) s from ⟨(fun x => nomatch x), ⟨.bl k, H, I, rfl, q⟩⟩)⟩ (by omega)
  simp only [List.size_toArray]
  exact lex_le I (by show X.A.units + 1 + 14 < cLine; omega) f1 f2 r1 r2 e rfl
def leT (x y : U) (g : Gm) : Res U := match look g x, look g y with
  | .tup us, .tup vs => match lexLe us vs with
    | some k => .ok (.bl k) g
    | none => .stuck
  | _, _ => .stuck
theorem sim_leT : Sim2 X C (fun x y H Q => ∃ ρ us vs k, FzH X H ρ (.tup us) x ∧ FzH X H ρ (.tup vs) y ∧ lexLe us vs = some k ∧ Q (.bl k) H) leT := fun S env g σ H x y u v Q R hx hy p => by
  unfold leT at p
  have F1 := hx.look R
  have F2 := hy.look R
  split at p
  · next us vs e1 e2 =>
    rw [e1] at F1; rw [e2] at F2
    split at p
    · next k e => exact ⟨S.ρ, us, vs, k, F1, F2, e, p S _ H (.refl _ _) R rfl⟩
    · exact p.elim
  · exact p.elim
theorem mt_leT (hu : X.A.units + 16 < cLine) (ha : MB X C a ma) (hb : MB X C b mb) : MT X C (.Compare a [.LtE] [b] pos) (blE (opE leT ma mb)) := mt_cmp (op_leT hu) sim_leT ha hb (nomark _)
open Classical in
noncomputable def sortedF (as : List U) (g : Gm) : Res U := match as with
  | [u] => match look g u with
    | .lst us => if h : ∃ p : Kn × List U, SortOk p.1 us p.2 then .ok (.lst (Classical.choose h).2) g else .stuck
    | _ => .stuck
  | _ => .stuck
theorem fzl_zip {P : Program} {w : World} {K : PySem.W.Frag} {S : Ab} : ∀ {us : List U} {xs : List V}, FzL P w K S us xs ↔ us.length = xs.length ∧ ∀ p ∈ us.zip xs, Fz P w K S p.1 p.2
  | [], [] => ⟨fun h => ⟨rfl, by simp⟩, fun _ => rfl⟩
  | [], _ :: _ => ⟨fun h => (by cases h), fun ⟨h, _⟩ => (by simp at h)⟩
  | u :: us, [] => ⟨fun h => (by obtain ⟨_, _, z, _⟩ := h; cases z), fun ⟨h, _⟩ => (by simp at h)⟩
  | u :: us, x :: xs => ⟨fun h => by
      obtain ⟨_, _, z, f, t⟩ := h
      cases z
      obtain ⟨a, b⟩ := fzl_zip.mp t
      refine ⟨by simp [a], fun p hp => ?_⟩
      rw [List.zip_cons_cons] at hp
      rcases List.mem_cons.mp hp with rfl | hp
      · exact f
      · exact b p hp, fun ⟨h, f⟩ => ⟨x, xs, rfl, f (u, x) (by rw [List.zip_cons_cons]; exact List.mem_cons_self ..), fzl_zip.mpr ⟨by simpa using h, fun p hp => f p (by rw [List.zip_cons_cons]; exact List.mem_cons_of_mem _ hp)⟩⟩⟩
theorem sim_sorted : SimCO X C (fun xs H Q => ∃ p ρ us ws ys kn, xs = [.ref p] ∧ Rd H p (.lst ys) ∧ FzL X.prog X.w X.K ⟨H, ρ⟩ us ys ∧ SortOk kn us ws ∧ ∀ zs l, (ws.zip zs).Perm (us.zip ys) → zs.length = ws.length → H l = none → Q (.ref l) (upd H l (.lst zs))) sortedF := fun S env g σ H as vs Q R hs p => by
  unfold sortedF at p
  split at p
  · obtain ⟨v, rfl, h1⟩ := bw1 hs
    split at p
    · next us e =>
      split at p
      · next hk =>
        obtain ⟨a, xs, rfl, rd, f⟩ := h1.list R e
        refine ⟨a, S.ρ, us, (Classical.choose hk).2, xs, (Classical.choose hk).1, rfl, rd, f.le R.G.now, Classical.choose_spec hk, fun zs l pz lz hl => newO p R (fzl_zip.mpr ⟨lz.symm, fun q hq => (fzl_zip.mp f).2 q (pz.subset hq)⟩) hl⟩
      · exact p.elim
    · exact p.elim
  · exact p.elim
end
end MM
namespace MM
open PySem PySem.Spec PyProof.Rows L2 BB
structure ItOkC (X : Cx) (C : MC) (S1 : Ab) (J : It) (j : Nat) (us : List U) : Prop where
  go : ∀ (i : Nat) S env g σ H, Le S1 S → RelX X C S env g σ H → g[j]? = some (.lst us) → i < us.length → J.go i H
  yld : ∀ (i : Nat) S env g σ H x H', Le S1 S → RelX X C S env g σ H → g[j]? = some (.lst us) → i < us.length → J.yld i H x H' → H' = H ∧ ∃ u, us[i]? = some u ∧ FzX X S u x
  stop : ∀ S env g σ H, Le S1 S → RelX X C S env g σ H → g[j]? = some (.lst us) → J.stop us.length H
abbrev Mc := Env → Gm → Res (Nat × List U)
def liftIC (X : Cx) (C : MC) (m : Mc) : TI := fun σ H R => ∃ S env g, RelX X C S env g σ H ∧ Post (m env g) (fun ju g' => ∀ S' J H', Ext S S' H H' → RelX X C S' env g' σ H' → g'[ju.1]? = some (.lst ju.2) → ItOkC X C S' J ju.1 ju.2 → R J H') (XPost X.prog X.w X.K C)
structure MIC (X : Cx) (C : MC) (tg iter : Expr) (m : Mc) : Prop where
  h : PI X tg iter (liftIC X C m)
def itemsC (m : Me) : Mc := fun env g => (m env g).bind fun u g1 => match u with
  | .ref j => match g1[j]? with
    | some (.lst us) => .ok (j, us) g1
    | _ => .stuck
  | _ => .stuck
section
variable {X : Cx} {C : MC} {tg e : Expr} {m : Me} {pos : Pos} {o : Bool}
theorem cell_lst {S1 S : Ab} {env : Env} {g : Gm} {σ : L2.St} {H : Hp} {j : Nat} {a : Addr} {us : List U} (ea : S1.ρ[j]? = some a) (l : Le S1 S) (R : RelX X C S env g σ H) (eg : g[j]? = some (.lst us)) : ∃ xs, H a = some (.lst xs) ∧ FzL X.prog X.w X.K S us xs := by
  obtain ⟨b, eb, c⟩ := R.G.cs j _ eg
  rw [l.r j a ea] at eb; cases eb
  rcases c with c | ⟨_, _, _, _, z, _⟩
  · exact c
  · cases z
theorem itl_okC {S1 : Ab} {j : Nat} {a : Addr} {us : List U} (ea : S1.ρ[j]? = some a) : ItOkC X C S1 (Itl X.K a) j us where
  go i S env g σ H l R eg hi := by
    obtain ⟨xs, ex, f⟩ := cell_lst ea l R eg
    exact ⟨xs, xs[i]'(by rw [← f.length]; exact hi), .inl (.inl ex), by simp⟩
  yld i S env g σ H x H' l R eg hi y := by
    obtain ⟨xs, ex, f⟩ := cell_lst ea l R eg
    obtain ⟨rfl, hx⟩ := y
    have h := hx xs (.inl (.inl ex))
    obtain ⟨x', e', f'⟩ := f.get (List.getElem?_eq_getElem hi)
    rw [h] at e'; cases e'
    exact ⟨rfl, us[i], List.getElem?_eq_getElem hi, f'⟩
  stop S env g σ H l R eg := by
    obtain ⟨xs, ex, f⟩ := cell_lst ea l R eg
    exact ⟨xs, .inl (.inl ex), by rw [f.length]; exact Nat.le_refl _⟩
theorem mi_cell (h : ME X C e m) : MIC X C tg e (itemsC m) := ⟨PI.imp (pi_list h.h) fun σ H R ⟨S, env, g, Rl, p⟩ => ⟨S, env, g, Rl, (post_bind.mp p).mono (fun u g1 p S1 v1 H1 X1 R1 F1 => by
  split at p
  · next j =>
    split at p
    · next us eg =>
      obtain ⟨a, ea, rfl⟩ := F1
      obtain ⟨xs, ex, _⟩ := cell_lst ea (Le.refl _) R1 eg
      exact ⟨a, rfl, ⟨xs, .inl (.inl ex)⟩, p S1 _ H1 X1 R1 eg (itl_okC ea)⟩
    · exact p.elim
  · exact p.elim) fun _ _ z => z⟩⟩
open Classical in
noncomputable def compLC (j : Nat) (us0 : List U) (mt : Mt) (me : Me) (envc : Env) : List U → Gm → Res (List U)
  | [], g => if g[j]? = some (.lst us0) then .ok [] g else .stuck
  | u :: us, g => if g[j]? = some (.lst us0) then match mt (.v u :: envc) g with
    | .ok true g1 => match me (.v u :: envc) g1 with
      | .ok y g2 => (compLC j us0 mt me envc us g2).bind fun ys g3 => .ok (y :: ys) g3
      | _ => .stuck
    | .ok false g1 => compLC j us0 mt me envc us g1
    | _ => .stuck
    else .stuck
noncomputable def compEC (mi : Mc) (mt : Mt) (me : Me) (ci : List Nat) : Me := fun env g => (mi env g).bind fun ju g1 => if ju.2.length < sizeLine then match compLC ju.1 ju.2 mt me (capE ci env) ju.2 g1 with
    | .ok ys g2 => .ok (.lst ys) g2
    | _ => .stuck
  else .stuck
theorem compLC_noexc {j : Nat} {us0 : List U} {mt : Mt} {me : Me} {envc : Env} : ∀ {us : List U} {g : Gm} {x : Exn} {g' : Gm}, compLC j us0 mt me envc us g = .exc x g' → False
  | [], g, x, g', h => by
    unfold compLC at h
    split at h <;> cases h
  | u :: us, g, x, g', h => by
    unfold compLC at h
    split at h
    · split at h
      · split at h
        · next y g2 _ =>
          cases q : compLC j us0 mt me envc us g2 with
          | ok a b => rw [q] at h; cases h
          | exc a b => exact compLC_noexc q
          | stuck => rw [q] at h; cases h
        · cases h
      · exact compLC_noexc h
      · cases h
    · cases h
theorem compLC_here {j : Nat} {us0 : List U} {mt : Mt} {me : Me} {envc : Env} {us : List U} {g : Gm} {ys : List U} {g' : Gm} (h : compLC j us0 mt me envc us g = .ok ys g') : g[j]? = some (.lst us0) := by
  cases us with
  | nil =>
    unfold compLC at h
    split at h
    · next z => exact z
    · cases h
  | cons u us =>
    unfold compLC at h
    split at h
    · next z => exact z
    · cases h
theorem comp_impC {mi : Mc} {mt : Mt} {me : Me} {ci : List Nat} : ∀ σ H Q, liftO X C (compEC mi mt me ci) σ H Q → tComp2 (liftIC X C mi) (liftT X C.nox mt) (liftE X C.nox me) ci σ H Q := fun σ H Q ⟨S, env, g, R, p⟩ => by
  refine ⟨S, env, g, R, (post_bind.mp p).mono (fun ju g1 p S1 J H1 X1 R1 eg1 hJ => ?_) fun _ _ z => z⟩
  obtain ⟨jj, us⟩ := ju
  dsimp only at p eg1 hJ
  split at p
  case isFalse => exact p.elim
  next hlen =>
  split at p
  case h_2 => exact p.elim
  next ysU g2 hrun =>
  intro D hD
  have fD := R1.G.free hD
  let W : Nat → Nat → List V → Hp → Prop := fun i n ys H' => n = us.length - i ∧ i ≤ us.length ∧ ∃ S2 g3 done rest, Ext S1 S2 H1 H' ∧ RelG X.prog X.w X.K C S2 g3 H' ∧ Free C S2 D ∧ H' D = some (.lst ys) ∧ FzL X.prog X.w X.K S2 done ys ∧ done.length ≤ i ∧ compLC jj us mt me (capE ci env) (us.drop i) g3 = .ok rest g2 ∧ done ++ rest = ysU
  refine ⟨W, ⟨us.length, by simp, Nat.zero_le _, S1, g1, [], ysU, .grow (upd_keeps hD), R1.G.grow (upd_keeps hD), fD, upd_same, rfl, Nat.le_refl _, hrun, rfl⟩, ?_⟩
  rintro i n ys H' ⟨hn, hi, S2, g3, done, rest, X2, R2, f2, hD2, fz, hdone, hr, hcat⟩
  refine ⟨hD2, ?_⟩
  have eg3 := compLC_here hr
  by_cases he : i = us.length
  · subst he
    rw [List.drop_length] at hr
    unfold compLC at hr
    rw [if_pos eg3] at hr
    cases hr
    rw [List.append_nil] at hcat
    subst hcat
    exact .inl ⟨hJ.stop S2 [] g2 [] H' X2.le R2.bare eg3, p S2 D H' (X1.trans X2) ⟨R2, R1.L.ext X2⟩ ⟨ys, hD2, fz⟩ f2 (R1.L.noslot hD) (none_back X1 hD)⟩
  · have hlt : i < us.length := by omega
    refine .inr ⟨hJ.go i S2 [] g3 [] H' X2.le R2.bare eg3 hlt, by rw [← fz.length]; omega, fun v H3 hy => ?_⟩
    obtain ⟨rfl, u, eu, F3⟩ := hJ.yld i S2 [] g3 [] H' v H3 X2.le R2.bare eg3 hlt hy
    have eu' : us[i] = u := by rw [List.getElem?_eq_getElem hlt] at eu; exact Option.some.inj eu
    rw [List.drop_eq_getElem_cons hlt, eu'] at hr
    have hs2 : H3 D ≠ none := by rw [hD2]; exact fun z => by cases z
    have RC3 : RelX X C.nox S2 (.v u :: capE ci env) g3 (some v :: capS ci σ) H3 := ⟨R2.nox, capE_rel R1.L X2.le F3⟩
    unfold compLC at hr
    rw [if_pos eg3] at hr
    split at hr
    · next g4 e4 =>
      split at hr
      · next y g5 e5 =>
        refine ⟨S2, _, g3, RC3, ?_⟩
        rw [e4]
        intro S4 H4 X4 R4
        rw [if_pos rfl]
        refine ⟨S4, _, g4, R4, ?_⟩
        rw [e5]
        intro S5 v5 H5 X5 R5 F5
        have hD4 : H4 D = some (.lst ys) := X4.fr D _ hD2 f2.2.1
        have f4 : Free C S4 D := f2.ext hs2 X4
        have hD5 : H5 D = some (.lst ys) := X5.fr D _ hD4 f4.2.1
        have f5 : Free C S5 D := f4.ext (by rw [hD4]; exact fun z => by cases z) X5
        refine ⟨hD5, us.length - (i + 1), by omega, rfl, hlt, ?_⟩
        cases q : compLC jj us mt me (capE ci env) (us.drop (i + 1)) g5 with
        | exc a b => exact (compLC_noexc q).elim
        | stuck => rw [q] at hr; cases hr
        | ok r2 g6 =>
          rw [q] at hr
          cases hr
          have s5 : H5 D ≠ none := by rw [hD5]; exact fun z => by cases z
          refine ⟨S5, g5, done ++ [y], r2, ((X2.trans X4).trans X5).fresh hD s5, R5.G.unnox.own f5 s5, f5, upd_same, (fz.le (X4.le.trans X5.le)).append (FzL.one F5), by rw [List.length_append, List.length_singleton]; omega, q, by rw [List.append_assoc]; exact hcat⟩
      · cases hr
    · next g4 e4 =>
      refine ⟨S2, _, g3, RC3, ?_⟩
      rw [e4]
      intro S4 H4 X4 R4
      rw [if_neg Bool.false_ne_true]
      have hD4 : H4 D = some (.lst ys) := X4.fr D _ hD2 f2.2.1
      have f4 : Free C S4 D := f2.ext hs2 X4
      exact ⟨hD4, us.length - (i + 1), by omega, rfl, hlt, S4, g4, done, rest, X2.trans X4, R4.G.unnox, f4, hD4, fz.le X4.le, by omega, hr, hcat⟩
    · cases hr
variable {scope : Scope} {cl : List (Str × Addr)} {x : Str} {px : Pos} {iter elt : Expr} {ifs : List Expr} {N : List Str} {ci : List Nat} {mi : Mc} {mt : Mt} {me : Me}
theorem mo_compC (S : CompSc X scope cl x N ci) (hc : X.calm = true) (hi : MIC X C (.Name x px) iter mi) (hts : ∀ A s H ex pn, MTs (cxComp X scope cl A N s H ex pn) C.nox ifs mt) (he : ∀ A s H ex pn, ME (cxComp X scope cl A N s H ex pn) C.nox elt me) (hs : ∀ y, foldedSetIterable iter X.env y = pure y := by intro _; rfl) :
    MO X C (.ListComp elt [⟨.Name x px, iter, ifs, 0⟩] scope pos) (compEC mi mt me ci) := ⟨PE.imp (pe_comp2 S hc hi.h (fun A s H ex pn => (hts A s H ex pn).h) (fun A s H ex pn => (he A s H ex pn).h) hs) comp_impC⟩
end
end MM
namespace MM
open PySem PySem.Spec PyProof.Rows L2 BB
abbrev E0 : Exn → Gm → Prop := fun _ _ => False
abbrev Ok' {α : Type} (r : Res α) (q : α → Gm → Prop) : Prop := Post r q E0
theorem ok_of {α : Type} {r : Res α} {q : α → Gm → Prop} {a : α} {g : Gm} (e : r = .ok a g) (h : q a g) : Ok' r q := by rw [e]; exact h
theorem ok_ex {α : Type} {r : Res α} {q : α → Gm → Prop} (h : Ok' r q) : ∃ a g, r = .ok a g ∧ q a g := by
  cases r with
  | ok a g => exact ⟨a, g, rfl, h⟩
  | exc x g => exact h.elim
  | stuck => exact h.elim
theorem ok_bind {α β : Type} {r : Res α} {f : α → Gm → Res β} {q : β → Gm → Prop} (h : Ok' r fun a g => Ok' (f a g) q) : Ok' (r.bind f) q := post_bind.mpr h
theorem ok_mono {α : Type} {r : Res α} {q q' : α → Gm → Prop} (h : Ok' r q) (k : ∀ a g, q a g → q' a g) : Ok' r q' := Post.mono h k fun _ _ z => z
theorem ok_b {α β : Type} {f : α → Gm → Res β} {a : α} {g : Gm} : (Res.ok a g).bind f = f a g := rfl
theorem exc_b {α β : Type} {f : α → Gm → Res β} {a : Exn} {g : Gm} : (Res.exc a g : Res α).bind f = .exc a g := rfl
theorem stuck_b {α β : Type} {f : α → Gm → Res β} : (Res.stuck : Res α).bind f = .stuck := rfl
theorem opE_eq {f : U → U → Gm → Res U} {ma mb : Me} {env : Env} {g g1 g2 : Gm} {x y : U} (h1 : ma env g = .ok x g1) (h2 : mb env g1 = .ok y g2) : opE f ma mb env g = f x y g2 := by unfold opE; rw [h1, ok_b, h2, ok_b]
theorem callE_eq {f : List U → Gm → Res U} {ma : Ma} {env : Env} {g g1 : Gm} {us : List U} (h : ma env g = .ok us g1) : callE f ma env g = f us g1 := by unfold callE; rw [h, ok_b]
theorem consA_eq {m : Me} {r : Ma} {env : Env} {g g1 g2 : Gm} {x : U} {xs : List U} (h1 : m env g = .ok x g1) (h2 : r env g1 = .ok xs g2) : consA m r env g = .ok (x :: xs) g2 := by unfold consA; rw [h1, ok_b, h2, ok_b]
theorem setS_eq {i : Nat} {m : Me} {env : Env} {g g1 : Gm} {u : U} (h : m env g = .ok u g1) : setS i m env g = .ok (.nx, env.set i (.v u)) g1 := by unfold setS; rw [h, ok_b]
theorem seqS_eq {m1 m2 : Ms} {env env1 : Env} {g g1 : Gm} (h : m1 env g = .ok (.nx, env1) g1) : seqS m1 m2 env g = m2 env1 g1 := by unfold seqS; rw [h, ok_b]
theorem seqS_rt {m1 m2 : Ms} {env env1 : Env} {g g1 : Gm} {u : U} (h : m1 env g = .ok (.rt u, env1) g1) : seqS m1 m2 env g = .ok (.rt u, env1) g1 := by unfold seqS; rw [h, ok_b]
theorem ifS_t {t : Mt} {m1 m2 : Ms} {env : Env} {g g1 : Gm} (h : t env g = .ok true g1) : ifS t m1 m2 env g = m1 env g1 := by unfold ifS; rw [h, ok_b]; rfl
theorem ifS_f {t : Mt} {m1 m2 : Ms} {env : Env} {g g1 : Gm} (h : t env g = .ok false g1) : ifS t m1 m2 env g = m2 env g1 := by unfold ifS; rw [h, ok_b]; rfl
theorem rtS_eq {m : Me} {env : Env} {g g1 : Gm} {u : U} (h : m env g = .ok u g1) : rtS m env g = .ok (.rt u, env) g1 := by unfold rtS; rw [h, ok_b]
theorem exS_eq {m : Me} {env : Env} {g g1 : Gm} {u : U} (h : m env g = .ok u g1) : exS m env g = .ok (.nx, env) g1 := by unfold exS; rw [h, ok_b]
theorem blE_eq {m : Me} {env : Env} {g g1 : Gm} {b : Bool} (h : m env g = .ok (.bl b) g1) : blE m env g = .ok b g1 := by unfold blE; rw [h, ok_b]
theorem trE_bl {m : Me} {env : Env} {g g1 : Gm} {b : Bool} (h : m env g = .ok (.bl b) g1) : trE m env g = .ok b g1 := by unfold trE; rw [h, ok_b]; rfl
theorem notT_eq {t : Mt} {env : Env} {g g1 : Gm} {b : Bool} (h : t env g = .ok b g1) : notT t env g = .ok (!b) g1 := by unfold notT; rw [h, ok_b]
theorem orT_f {t1 t2 : Mt} {env : Env} {g g1 : Gm} (h : t1 env g = .ok false g1) : orT t1 t2 env g = t2 env g1 := by unfold orT; rw [h, ok_b]; rfl
theorem andT_t {t1 t2 : Mt} {env : Env} {g g1 : Gm} (h : t1 env g = .ok true g1) : andT t1 t2 env g = t2 env g1 := by unfold andT; rw [h, ok_b]; rfl
theorem andT_f {t1 t2 : Mt} {env : Env} {g g1 : Gm} (h : t1 env g = .ok false g1) : andT t1 t2 env g = .ok false g1 := by unfold andT; rw [h, ok_b]; rfl
theorem orE_t {a b : Me} {env : Env} {g g1 : Gm} (h : a env g = .ok (.bl true) g1) : orE a b env g = .ok (.bl true) g1 := by unfold orE; rw [h, ok_b]
theorem orE_f {a b : Me} {env : Env} {g g1 : Gm} (h : a env g = .ok (.bl false) g1) : orE a b env g = b env g1 := by unfold orE; rw [h, ok_b]
theorem tupE_eq {m : Ma} {env : Env} {g g1 : Gm} {us : List U} (h : m env g = .ok us g1) (hl : us.length ≤ 1000) : tupE m env g = .ok (.tup us) g1 := by
  unfold tupE; rw [h, ok_b]; rw [if_pos (Nat.le_trans hl (by rw [sizeLine_eq]; decide))]
theorem lstE_eq {m : Ma} {env : Env} {g g1 : Gm} {us : List U} (h : m env g = .ok us g1) (hl : us.length ≤ 1000) : lstE m env g = .ok (.lst us) g1 := by
  unfold lstE; rw [h, ok_b]; rw [if_pos (Nat.le_trans hl (by rw [sizeLine_eq]; decide))]
theorem bmE_str {f : U → List U → Gm → Res U} {mo : Me} {ma : Ma} {env : Env} {g g1 g2 : Gm} {z : Str} {us : List U} (h : mo env g = .ok (.str z) g1) (h2 : ma env g1 = .ok us g2) : bmE "str" f mo ma env g = f (.str z) us g2 := by
  unfold bmE; rw [h, ok_b]; show (if (true = true) then _ else _) = _; rw [if_pos rfl, h2, ok_b]
theorem bmE_lst {f : U → List U → Gm → Res U} {mo : Me} {ma : Ma} {env : Env} {g g1 g2 : Gm} {l : List U} {us : List U} (h : mo env g = .ok (.lst l) g1) (h2 : ma env g1 = .ok us g2) : bmE "list" f mo ma env g = f (.lst l) us g2 := by
  unfold bmE; rw [h, ok_b]; show (if (true = true) then _ else _) = _; rw [if_pos rfl, h2, ok_b]
theorem runM_rt {n : Nat} {m : Ms} {us : List U} {g g1 : Gm} {u : U} {env1 : Env} (h : m (us.map .v ++ List.replicate (n - us.length) .no) g = .ok (.rt u, env1) g1) : runM false n m us g = .ok u g1 := by unfold runM; rw [h, ok_b]
theorem slE_eq {f : U → Option Int → Option Int → Gm → Res U} {m : Me} {lo hi : Mo} {env : Env} {g g1 g2 g3 : Gm} {u : U} {l h : Option Int} (h1 : m env g = .ok u g1) (h2 : lo env g1 = .ok l g2) (h3 : hi env g2 = .ok h g3) : slE f m lo hi env g = f u l h g3 := by unfold slE; rw [h1, ok_b, h2, ok_b, h3, ok_b]
theorem mutO_eq {i : Nat} {f : Mut} {ma : Ma} {env : Env} {g g1 : Gm} {us as us' : List U} {u : U} (h0 : env[i]? = some (.own (.lst us))) (h1 : ma env g = .ok as g1) (h2 : f us as g1 = some (us', u)) : mutO i f ma env g = .ok (.nx, env.set i (.own (.lst us'))) g1 := by
  unfold mutO; rw [h0]; dsimp only; rw [h1, ok_b, h2]
theorem for_ok {t : Mg} {mb : Ms} (I : Nat → Env → Gm → Prop) : ∀ {us : List U} {env : Env} {g : Gm} (n : Nat), I n env g →
    (∀ (k : Nat) (u : U) (env : Env) (g : Gm), us[k]? = some u → I (n + k) env g → ∃ env1 g1, t u env g = .ok env1 g1 ∧ Ok' (mb env1 g1) fun z g2 => z.1 = .nx ∧ I (n + k + 1) z.2 g2) →
    Ok' (forL t mb us env g) fun z g' => z.1 = .nx ∧ I (n + us.length) z.2 g'
  | [], env, g, n, h, _ => ⟨rfl, h⟩
  | u :: us, env, g, n, h, st => by
    obtain ⟨env1, g1, e, b⟩ := st 0 u env g rfl h
    unfold forL
    rw [e]
    refine ok_bind (ok_mono b fun z g2 ⟨z1, z2⟩ => ?_)
    obtain ⟨fl, env2⟩ := z
    dsimp only at z1 z2 ⊢
    subst z1
    dsimp only
    refine ok_mono (for_ok I (n + 1) (by simpa using z2) fun k u env g e i => ?_) fun z g' ⟨a, b⟩ => ⟨a, by rw [List.length_cons, show n + (us.length + 1) = n + 1 + us.length by omega]; exact b⟩
    have := st (k + 1) u env g (by simpa using e) (by rw [show n + (k + 1) = n + 1 + k by omega]; exact i)
    rw [show n + (k + 1) + 1 = n + 1 + k + 1 by omega] at this
    exact this
theorem compL_cons {mt : Mt} {me : Me} {envc : Env} {u : U} {us : List U} {g : Gm} : compL mt me envc (u :: us) g = match mt (.v u :: envc) g with
    | .ok true g1 => match me (.v u :: envc) g1 with
      | .ok y g2 => (compL mt me envc us g2).bind fun ys g3 => .ok (y :: ys) g3
      | _ => .stuck
    | .ok false g1 => compL mt me envc us g1
    | _ => .stuck := rfl
theorem in62 {i : Int} (h : -1000000 ≤ i ∧ i ≤ 1000000) : -(2 ^ 62) ≤ i ∧ i < 2 ^ 62 :=
  ⟨Int.le_trans (by decide +kernel) h.1, Int.lt_of_le_of_lt h.2 (by decide +kernel)⟩
theorem rng1_eq {ma : Ma} {env : Env} {g g1 : Gm} {j : Int} (e : ma env g = .ok [.int j] g1) (h : -1000000 ≤ j ∧ j ≤ 1000000) : rng1 ma env g = .ok (intsU 0 j.toNat) g1 := by
  unfold rng1
  rw [e, ok_b]
  dsimp only
  rw [if_pos (in62 h)]
theorem rng2_eq {ma : Ma} {env : Env} {g g1 : Gm} {i j : Int} (e : ma env g = .ok [.int i, .int j] g1) (h : -1000000 ≤ i ∧ i ≤ 1000000) (h2 : -1000000 ≤ j ∧ j ≤ 1000000) : rng2 ma env g = .ok (intsU i (j - i).toNat) g1 := by
  unfold rng2
  rw [e, ok_b]
  dsimp only
  rw [if_pos ⟨in62 h, in62 h2⟩]
theorem atI_nat {α : Type} (us : List α) (n : Nat) : atI us (n : Int) = us[n]? := by
  unfold atI ixN
  by_cases h : n < us.length
  · rw [if_pos (by omega), if_pos (by omega)]; simp
  · rw [if_pos (by omega), if_neg (by omega), List.getElem?_eq_none (by omega)]; rfl
theorem str_beq (a b : Str) : (a == b) = decide (V.str a = V.str b) := by
  by_cases h : a = b
  · subst h; simp
  · have : ¬ (V.str a = V.str b) := fun z => h (by injection z)
    rw [decide_eq_false this]; simpa using h
theorem kd_str (k : Kd) : isKd "str" k = some (isStr k) := rfl
theorem kd_int (k : Kd) : isKd "int" k = some (BB.isInt k) := rfl
theorem kd_bool (k : Kd) : isKd "bool" k = some (isBool k) := rfl
theorem kd_tuple (k : Kd) : isKd "tuple" k = some (isTup k) := rfl
theorem kd_list (k : Kd) : isKd "list" k = some (isLst k) := rfl
theorem at0 {α : Type} {a : α} {l : List α} : atI (a :: l) 0 = some a := by have := atI_nat (a :: l) 0; simpa using this
theorem at1 {α : Type} {a b : α} {l : List α} : atI (a :: b :: l) 1 = some b := by have := atI_nat (a :: b :: l) 1; simpa using this
theorem at2 {α : Type} {a b c : α} {l : List α} : atI (a :: b :: c :: l) 2 = some c := by have := atI_nat (a :: b :: c :: l) 2; simpa using this
theorem at3 {α : Type} {a b c d : α} {l : List α} : atI (a :: b :: c :: d :: l) 3 = some d := by have := atI_nat (a :: b :: c :: d :: l) 3; simpa using this
theorem cutU_to (xs : List U) (n : Nat) : cutU xs none (some (n : Int)) = xs.take n := by
  unfold cutU
  rw [HT.sIx_none, HT.sIx_nat, List.drop_zero, Nat.sub_zero]
  by_cases h : n ≤ xs.length
  · rw [Nat.min_eq_left h]
  · rw [Nat.min_eq_right (by omega), List.take_of_length_le (Nat.le_refl _), List.take_of_length_le (i := n) (by omega)]
theorem atI_last {α : Type} (us : List α) (u : α) : atI (us ++ [u]) (-1) = some u := by
  unfold atI ixN
  rw [if_neg (by decide), if_pos (by simp; omega)]
  show (us ++ [u])[(-1 + ((us ++ [u]).length : Int)).toNat]? = some u
  have : (-1 + ((us ++ [u]).length : Int)).toNat = us.length := by rw [List.length_append, List.length_singleton]; omega
  rw [this]; simp
end MM
namespace K81
open PySem PySem.Spec PyProof.Rows L2 BB PP MM
def top (i : Nat) : Stmt := PySem.Challenge.pw_bothbooks_k81_books_as_texts.main.body.getD i (.Pass ⟨0, 0, 0, 0⟩)
abbrev s_is_made_of : Stmt := top 9
abbrev s_is_house : Stmt := top 10
abbrev s_is_person : Stmt := top 11
abbrev s_check_person : Stmt := top 12
abbrev s_parts_of : Stmt := top 13
abbrev s_house_of : Stmt := top 14
abbrev s_is_whole : Stmt := top 17
abbrev s_asks : Stmt := top 18
abbrev s_is_asking_wish : Stmt := top 19
abbrev s_is_nought : Stmt := top 20
abbrev s_number_fits : Stmt := top 21
abbrev s_at_fits : Stmt := top 22
abbrev s_is_answer : Stmt := top 23
abbrev s_is_number_text : Stmt := top 27
abbrev s_turn_text : Stmt := top 28
abbrev s_read_word : Stmt := top 29
abbrev s_read_parts : Stmt := top 30
abbrev s_is_pair_of : Stmt := top 32
abbrev s_is_row : Stmt := top 33
abbrev s_book_text : Stmt := top 35
abbrev s_read_row : Stmt := top 36
abbrev s_read_head : Stmt := top 37
abbrev s_read_book_text : Stmt := top 38
abbrev s_law_cell_at : Stmt := top 40
abbrev s_law_mixed : Stmt := top 41
abbrev s_law_word : Stmt := top 43
abbrev s_law_houses : Stmt := top 44
abbrev s_law_people : Stmt := top 45
abbrev s_law_number : Stmt := top 46
abbrev s_law_answer : Stmt := top 47
abbrev s_law_rows : Stmt := top 48
abbrev s_law_line : Stmt := top 49
abbrev s_law : Stmt := top 50
def k_HOUSE_SIGNS : U := .str "abcdefghijklmnopqrstuvwxyz"
def k_HOUSE_LENGTH : U := .int 6
def k_NAME_SIGNS : U := .str "abcdefghijklmnopqrstuvwxyz0123456789-"
def k_NAME_LENGTH : U := .int 8
def k_LEAST_NUMBER : U := .dk [(.inr "lets", .int 1), (.inr "refuses", .int 1), (.inr "bars", .int 1), (.inr "gone", .int 1), (.inr "moved", .int 1), (.inr "open", .int 2)]
def k_FIGURES : U := .str "0123456789"
def k_MOST_FIGURES : U := .int 20
noncomputable section
variable {P : Program} {w : World} {K : PySem.W.Frag} {mg : Str → Option Value} {base : Heap}
def m_is_made_of : Ms :=
  (rtS (andE (opE neF (vE 0) (cE (.str ""))) (andE (opE leF (callE lenF (consA (vE 0) nilA)) (vE 2)) (callE allF (consA (compE (itemsS (vE 0)) ttT (opE inF (vE 0) (vE 1)) [1]) nilA)))))
def f_is_made_of : List U → Gm → Res U := runM false 3 m_is_made_of
theorem sc_is_made_of : FnScope ["text", "signs", "most"] ["text", "signs", "most"] (defScope s_is_made_of) := ⟨rfl, rfl, rfl, by decide +kernel, rfl, by decide +kernel, by decide +kernel⟩
theorem c_is_made_of (B : Blt mg) (F : Def K mg "is_made_of" s_is_made_of) : CanM P w K mg base 1 "is_made_of" ["text", "signs", "most"] false f_is_made_of :=
  canM_of (k := 0) F sc_is_made_of (fun _ _ _ _ _ _ us hl => match us, hl with | [_, _, _], _ => rfl) (fun f cdv A outer s H E S hr =>
    (mss_one (ms_ret (me_and (me_ne (hu16 hr) (mb_of (me_var (pv 0))) (mb_of me_str)) (me_and (me_le (mb_of (me_callB call_len sim_len rfl B.len bt_len (mab_cons (mb_of (me_var (pv 0))) mab_nil))) (mb_of (me_var (pv 2)))) (me_one (me_callB (call_all rfl) sim_all rfl B.all bt_all (mab_cons (mb_of (me_of (mo_comp (N := ["sign", "signs"]) (ci := [1]) (compSc_of (sc0 := defScope s_is_made_of) (N0 := ["text", "signs", "most"]) (by decide +kernel) rfl rfl (fun y hy => PySem.W.cellsFrom_some _ _ _ (.inl hy))) rfl (mi_str (me_var (pv 0))) (fun _ _ _ _ _ => mts_nil) (fun _ _ _ _ _ => (me_in (hu16 hr) (mb_of (me_var (pv 0))) (mb_of (me_var (pv 1)))))))) mab_nil))))))))
def m_is_house : Ms :=
  (rtS (andE (callE isF (consA (vE 0) (consA (cE (.ty "str")) nilA))) (callE f_is_made_of (consA (vE 0) (consA (cE k_HOUSE_SIGNS) (consA (cE k_HOUSE_LENGTH) nilA))))))
def f_is_house : List U → Gm → Res U := runM false 1 m_is_house
theorem sc_is_house : FnScope ["thing"] ["thing"] (defScope s_is_house) := ⟨rfl, rfl, rfl, by decide +kernel, rfl, by decide +kernel, by decide +kernel⟩
theorem c_is_house (B : Blt mg) (C_is_made_of : CanM P w K mg base 1 "is_made_of" ["text", "signs", "most"] false f_is_made_of) (K_HOUSE_LENGTH : KOk P w K mg "HOUSE_LENGTH" k_HOUSE_LENGTH) (K_HOUSE_SIGNS : KOk P w K mg "HOUSE_SIGNS" k_HOUSE_SIGNS) (F : Def K mg "is_house" s_is_house) : CanM P w K mg base 2 "is_house" ["thing"] false f_is_house :=
  canM_of (k := 1) F sc_is_house (fun _ _ _ _ _ _ us hl => match us, hl with | [_], _ => rfl) (fun f cdv A outer s H E S hr =>
    (mss_one (ms_ret (me_and (me_callB call_isU sim_isi rfl B.isinstance bt_isinstance (mab_cons (mb_of (me_var (pv 0))) (mab_cons (mb_of (me_bt rfl B.str bt_str)) mab_nil))) (me_one (me_call C_is_made_of (hr.mono (by decide)) rfl passR rfl (ma_cons (me_var (pv 0)) (ma_cons (me_k rfl K_HOUSE_SIGNS) (ma_cons (me_k rfl K_HOUSE_LENGTH) ma_nil)))))))))
def m_is_person : Ms :=
  (seqS (ifS (notT (trE (callE isF (consA (vE 0) (consA (cE (.ty "str")) nilA))))) (rtS (cE (.bl false)))
  nilS)
  (seqS (setS 1 (bmE "str" partF (vE 0) (consA (cE (.str "@")) nilA)))
  (rtS (andE (callE f_is_made_of (consA (opE ixF (vE 1) (cE (.int 0))) (consA (cE k_NAME_SIGNS) (consA (cE k_NAME_LENGTH) nilA)))) (callE f_is_house (consA (opE ixF (vE 1) (cE (.int 2))) nilA))))))
def f_is_person : List U → Gm → Res U := runM false 2 m_is_person
theorem sc_is_person : FnScope ["thing", "parts"] ["thing"] (defScope s_is_person) := ⟨rfl, rfl, rfl, by decide +kernel, rfl, by decide +kernel, by decide +kernel⟩
theorem c_is_person (B : Blt mg) (C_is_made_of : CanM P w K mg base 1 "is_made_of" ["text", "signs", "most"] false f_is_made_of) (C_is_house : CanM P w K mg base 2 "is_house" ["thing"] false f_is_house) (K_NAME_LENGTH : KOk P w K mg "NAME_LENGTH" k_NAME_LENGTH) (K_NAME_SIGNS : KOk P w K mg "NAME_SIGNS" k_NAME_SIGNS) (F : Def K mg "is_person" s_is_person) : CanM P w K mg base 3 "is_person" ["thing"] false f_is_person :=
  canM_of (k := 2) F sc_is_person (fun _ _ _ _ _ _ us hl => match us, hl with | [_], _ => rfl) (fun f cdv A outer s H E S hr =>
    (mss_cons (ms_if (mt_not (mt_val (mb_of (me_callB call_isU sim_isi rfl B.isinstance bt_isinstance (mab_cons (mb_of (me_var (pv 0))) (mab_cons (mb_of (me_bt rfl B.str bt_str)) mab_nil)))) (fun _ => rfl))) (mss_one (ms_ret me_bl))
    mss_nil)
    (mss_cons (ms_set (i := 1) (fun te h => ps_set (i := 1) sc_is_person.nd rfl (by first | exact Or.inl rfl | exact Or.inr rfl) h) (me_bm PySem.F.plainAttrs_str PySem.F.slot_str_partition PySem.F.type_str_partition mt_partition sim_part (mb_of (me_var (pv 0))) (mab_cons (mb_of me_str) mab_nil)))
    (mss_one (ms_ret (me_and (me_call C_is_made_of (hr.mono (by decide)) rfl passR rfl (ma_cons (me_sub' (hu1 hr) (mb_of (me_var (pv 1))) (mb_of me_int)) (ma_cons (me_k rfl K_NAME_SIGNS) (ma_cons (me_k rfl K_NAME_LENGTH) ma_nil)))) (me_one (me_call C_is_house (hr.mono (by decide)) rfl passR rfl (ma_cons (me_sub' (hu1 hr) (mb_of (me_var (pv 1))) (mb_of me_int)) ma_nil)))))))))
def m_check_person : Ms :=
  (ifS (notT (trE (callE f_is_person (consA (vE 0) nilA)))) stuckS
  nilS)
def f_check_person : List U → Gm → Res U := runM false 1 m_check_person
theorem sc_check_person : FnScope ["person"] ["person"] (defScope s_check_person) := ⟨rfl, rfl, rfl, by decide +kernel, rfl, by decide +kernel, by decide +kernel⟩
theorem c_check_person (B : Blt mg) (C_is_person : CanM P w K mg base 3 "is_person" ["thing"] false f_is_person) (F : Def K mg "check_person" s_check_person) : CanM P w K mg base 4 "check_person" ["person"] false f_check_person :=
  canM_of (k := 3) F sc_check_person (fun _ _ _ _ _ _ us hl => match us, hl with | [_], _ => rfl) (fun f cdv A outer s H E S hr =>
    (mss_one (ms_if (mt_not (mt_val (mb_of (me_call C_is_person (hr.mono (by decide)) rfl passR rfl (ma_cons (me_var (pv 0)) ma_nil))) (fun _ => rfl))) (mss_one ms_stuck)
    mss_nil)))
def m_parts_of : Ms :=
  (seqS (exS (callE f_check_person (consA (vE 0) nilA)))
  (rtS (bmE "str" partF (vE 0) (consA (cE (.str "@")) nilA))))
def f_parts_of : List U → Gm → Res U := runM false 1 m_parts_of
theorem sc_parts_of : FnScope ["person"] ["person"] (defScope s_parts_of) := ⟨rfl, rfl, rfl, by decide +kernel, rfl, by decide +kernel, by decide +kernel⟩
theorem c_parts_of (B : Blt mg) (C_check_person : CanM P w K mg base 4 "check_person" ["person"] false f_check_person) (F : Def K mg "parts_of" s_parts_of) : CanM P w K mg base 5 "parts_of" ["person"] false f_parts_of :=
  canM_of (k := 4) F sc_parts_of (fun _ _ _ _ _ _ us hl => match us, hl with | [_], _ => rfl) (fun f cdv A outer s H E S hr =>
    (mss_cons (ms_expr (me_call C_check_person (hr.mono (by decide)) rfl passR rfl (ma_cons (me_var (pv 0)) ma_nil)))
    (mss_one (ms_ret (me_bm PySem.F.plainAttrs_str PySem.F.slot_str_partition PySem.F.type_str_partition mt_partition sim_part (mb_of (me_var (pv 0))) (mab_cons (mb_of me_str) mab_nil))))))
def m_house_of : Ms :=
  (rtS (opE ixF (callE f_parts_of (consA (vE 0) nilA)) (cE (.int 2))))
def f_house_of : List U → Gm → Res U := runM false 1 m_house_of
theorem sc_house_of : FnScope ["person"] ["person"] (defScope s_house_of) := ⟨rfl, rfl, rfl, by decide +kernel, rfl, by decide +kernel, by decide +kernel⟩
theorem c_house_of (B : Blt mg) (C_parts_of : CanM P w K mg base 5 "parts_of" ["person"] false f_parts_of) (F : Def K mg "house_of" s_house_of) : CanM P w K mg base 6 "house_of" ["person"] false f_house_of :=
  canM_of (k := 5) F sc_house_of (fun _ _ _ _ _ _ us hl => match us, hl with | [_], _ => rfl) (fun f cdv A outer s H E S hr =>
    (mss_one (ms_ret (me_sub' (hu1 hr) (mb_of (me_call C_parts_of (hr.mono (by decide)) rfl passR rfl (ma_cons (me_var (pv 0)) ma_nil))) (mb_of me_int)))))
def m_is_whole : Ms :=
  (rtS (andE (callE isF (consA (vE 0) (consA (cE (.ty "int")) nilA))) (notE (callE isF (consA (vE 0) (consA (cE (.ty "bool")) nilA))))))
def f_is_whole : List U → Gm → Res U := runM false 1 m_is_whole
theorem sc_is_whole : FnScope ["thing"] ["thing"] (defScope s_is_whole) := ⟨rfl, rfl, rfl, by decide +kernel, rfl, by decide +kernel, by decide +kernel⟩
theorem c_is_whole (B : Blt mg) (F : Def K mg "is_whole" s_is_whole) : CanM P w K mg base 1 "is_whole" ["thing"] false f_is_whole :=
  canM_of (k := 0) F sc_is_whole (fun _ _ _ _ _ _ us hl => match us, hl with | [_], _ => rfl) (fun f cdv A outer s H E S hr =>
    (mss_one (ms_ret (me_and (me_callB call_isU sim_isi rfl B.isinstance bt_isinstance (mab_cons (mb_of (me_var (pv 0))) (mab_cons (mb_of (me_bt rfl B.int bt_int)) mab_nil))) (me_one (me_not (me_callB call_isU sim_isi rfl B.isinstance bt_isinstance (mab_cons (mb_of (me_var (pv 0))) (mab_cons (mb_of (me_bt rfl B.bool bt_bool)) mab_nil)))))))))
def m_asks : Ms :=
  (rtS (opE eqF (opE modF (vE 0) (cE (.int 2))) (cE (.int 1))))
def f_asks : List U → Gm → Res U := runM false 1 m_asks
theorem sc_asks : FnScope ["wish"] ["wish"] (defScope s_asks) := ⟨rfl, rfl, rfl, by decide +kernel, rfl, by decide +kernel, by decide +kernel⟩
theorem c_asks (B : Blt mg) (F : Def K mg "asks" s_asks) : CanM P w K mg base 1 "asks" ["wish"] false f_asks :=
  canM_of (k := 0) F sc_asks (fun _ _ _ _ _ _ us hl => match us, hl with | [_], _ => rfl) (fun f cdv A outer s H E S hr =>
    (mss_one (ms_ret (me_eq (hu16 hr) (mb_of (me_mod (mb_of (me_var (pv 0))) (mb_of me_int))) (mb_of me_int)))))
def m_is_asking_wish : Ms :=
  (rtS (andE (callE f_is_whole (consA (vE 0) nilA)) (andE (opE gtF (vE 0) (cE (.int 0))) (callE f_asks (consA (vE 0) nilA)))))
def f_is_asking_wish : List U → Gm → Res U := runM false 1 m_is_asking_wish
theorem sc_is_asking_wish : FnScope ["thing"] ["thing"] (defScope s_is_asking_wish) := ⟨rfl, rfl, rfl, by decide +kernel, rfl, by decide +kernel, by decide +kernel⟩
theorem c_is_asking_wish (B : Blt mg) (C_is_whole : CanM P w K mg base 1 "is_whole" ["thing"] false f_is_whole) (C_asks : CanM P w K mg base 1 "asks" ["wish"] false f_asks) (F : Def K mg "is_asking_wish" s_is_asking_wish) : CanM P w K mg base 2 "is_asking_wish" ["thing"] false f_is_asking_wish :=
  canM_of (k := 1) F sc_is_asking_wish (fun _ _ _ _ _ _ us hl => match us, hl with | [_], _ => rfl) (fun f cdv A outer s H E S hr =>
    (mss_one (ms_ret (me_and (me_call C_is_whole (hr.mono (by decide)) rfl passR rfl (ma_cons (me_var (pv 0)) ma_nil)) (me_and (me_gt (mb_of (me_var (pv 0))) (mb_of me_int)) (me_one (me_call C_asks (hr.mono (by decide)) rfl passR rfl (ma_cons (me_var (pv 0)) ma_nil))))))))
def m_is_nought : Ms :=
  (rtS (andE (callE f_is_whole (consA (vE 0) nilA)) (opE eqF (vE 0) (cE (.int 0)))))
def f_is_nought : List U → Gm → Res U := runM false 1 m_is_nought
theorem sc_is_nought : FnScope ["thing"] ["thing"] (defScope s_is_nought) := ⟨rfl, rfl, rfl, by decide +kernel, rfl, by decide +kernel, by decide +kernel⟩
theorem c_is_nought (B : Blt mg) (C_is_whole : CanM P w K mg base 1 "is_whole" ["thing"] false f_is_whole) (F : Def K mg "is_nought" s_is_nought) : CanM P w K mg base 2 "is_nought" ["thing"] false f_is_nought :=
  canM_of (k := 1) F sc_is_nought (fun _ _ _ _ _ _ us hl => match us, hl with | [_], _ => rfl) (fun f cdv A outer s H E S hr =>
    (mss_one (ms_ret (me_and (me_call C_is_whole (hr.mono (by decide)) rfl passR rfl (ma_cons (me_var (pv 0)) ma_nil)) (me_one (me_eq (hu16 hr) (mb_of (me_var (pv 0))) (mb_of me_int)))))))
def m_number_fits : Ms :=
  (seqS (ifS (blE (opE eqF (vE 1) (cE (.str "none")))) (rtS (opE eqF (vE 0) (cE (.int 0))))
  nilS)
  (rtS (andE (opE inF (vE 1) (cE k_LEAST_NUMBER)) (opE geF (vE 0) (opE ixF (cE k_LEAST_NUMBER) (vE 1))))))
def f_number_fits : List U → Gm → Res U := runM false 2 m_number_fits
theorem sc_number_fits : FnScope ["number", "word"] ["number", "word"] (defScope s_number_fits) := ⟨rfl, rfl, rfl, by decide +kernel, rfl, by decide +kernel, by decide +kernel⟩
theorem c_number_fits (B : Blt mg) (K_LEAST_NUMBER : KOk P w K mg "LEAST_NUMBER" k_LEAST_NUMBER) (F : Def K mg "number_fits" s_number_fits) : CanM P w K mg base 1 "number_fits" ["number", "word"] false f_number_fits :=
  canM_of (k := 0) F sc_number_fits (fun _ _ _ _ _ _ us hl => match us, hl with | [_, _], _ => rfl) (fun f cdv A outer s H E S hr =>
    (mss_cons (ms_if (mt_eq (hu16 hr) (mb_of (me_var (pv 1))) (mb_of me_str)) (mss_one (ms_ret (me_eq (hu16 hr) (mb_of (me_var (pv 0))) (mb_of me_int))))
    mss_nil)
    (mss_one (ms_ret (me_and (me_in (hu16 hr) (mb_of (me_var (pv 1))) (mb_of (me_k rfl K_LEAST_NUMBER))) (me_one (me_ge (mb_of (me_var (pv 0))) (mb_of (me_sub' (hu1 hr) (mb_of (me_k rfl K_LEAST_NUMBER)) (mb_of (me_var (pv 1))))))))))))
def m_at_fits : Ms :=
  (seqS (ifS (blE (opE inF (vE 1) (tupE (consA (cE (.str "lets")) (consA (cE (.str "refuses")) nilA))))) (rtS (callE f_is_asking_wish (consA (vE 0) nilA)))
  nilS)
  (seqS (ifS (blE (opE eqF (vE 1) (cE (.str "moved")))) (rtS (callE f_is_person (consA (vE 0) nilA)))
  nilS)
  (rtS (callE f_is_nought (consA (vE 0) nilA)))))
def f_at_fits : List U → Gm → Res U := runM false 2 m_at_fits
theorem sc_at_fits : FnScope ["at", "word"] ["at", "word"] (defScope s_at_fits) := ⟨rfl, rfl, rfl, by decide +kernel, rfl, by decide +kernel, by decide +kernel⟩
theorem c_at_fits (B : Blt mg) (C_is_person : CanM P w K mg base 3 "is_person" ["thing"] false f_is_person) (C_is_asking_wish : CanM P w K mg base 2 "is_asking_wish" ["thing"] false f_is_asking_wish) (C_is_nought : CanM P w K mg base 2 "is_nought" ["thing"] false f_is_nought) (F : Def K mg "at_fits" s_at_fits) : CanM P w K mg base 4 "at_fits" ["at", "word"] false f_at_fits :=
  canM_of (k := 3) F sc_at_fits (fun _ _ _ _ _ _ us hl => match us, hl with | [_, _], _ => rfl) (fun f cdv A outer s H E S hr =>
    (mss_cons (ms_if (mt_in (hu16 hr) (mb_of (me_var (pv 1))) (mb_of (me_tup (ma_cons me_str (ma_cons me_str ma_nil))))) (mss_one (ms_ret (me_call C_is_asking_wish (hr.mono (by decide)) rfl passR rfl (ma_cons (me_var (pv 0)) ma_nil))))
    mss_nil)
    (mss_cons (ms_if (mt_eq (hu16 hr) (mb_of (me_var (pv 1))) (mb_of me_str)) (mss_one (ms_ret (me_call C_is_person (hr.mono (by decide)) rfl passR rfl (ma_cons (me_var (pv 0)) ma_nil))))
    mss_nil)
    (mss_one (ms_ret (me_call C_is_nought (hr.mono (by decide)) rfl passR rfl (ma_cons (me_var (pv 0)) ma_nil)))))))
def m_is_answer : Ms :=
  (seqS (ifS (orT (notT (trE (callE isF (consA (vE 0) (consA (cE (.ty "tuple")) nilA))))) (blE (opE neF (callE lenF (consA (vE 0) nilA)) (cE (.int 3))))) (rtS (cE (.bl false)))
  nilS)
  (seqS (ifS (orT (notT (trE (callE f_is_whole (consA (opE ixF (vE 0) (cE (.int 0))) nilA)))) (notT (trE (callE isF (consA (opE ixF (vE 0) (cE (.int 1))) (consA (cE (.ty "str")) nilA)))))) (rtS (cE (.bl false)))
  nilS)
  (rtS (andE (callE f_number_fits (consA (opE ixF (vE 0) (cE (.int 0))) (consA (opE ixF (vE 0) (cE (.int 1))) nilA))) (callE f_at_fits (consA (opE ixF (vE 0) (cE (.int 2))) (consA (opE ixF (vE 0) (cE (.int 1))) nilA)))))))
def f_is_answer : List U → Gm → Res U := runM false 1 m_is_answer
theorem sc_is_answer : FnScope ["thing"] ["thing"] (defScope s_is_answer) := ⟨rfl, rfl, rfl, by decide +kernel, rfl, by decide +kernel, by decide +kernel⟩
theorem c_is_answer (B : Blt mg) (C_is_whole : CanM P w K mg base 1 "is_whole" ["thing"] false f_is_whole) (C_number_fits : CanM P w K mg base 1 "number_fits" ["number", "word"] false f_number_fits) (C_at_fits : CanM P w K mg base 4 "at_fits" ["at", "word"] false f_at_fits) (F : Def K mg "is_answer" s_is_answer) : CanM P w K mg base 5 "is_answer" ["thing"] false f_is_answer :=
  canM_of (k := 4) F sc_is_answer (fun _ _ _ _ _ _ us hl => match us, hl with | [_], _ => rfl) (fun f cdv A outer s H E S hr =>
    (mss_cons (ms_if (mt_w (mw_or (mt_not (mt_val (mb_of (me_callB call_isU sim_isi rfl B.isinstance bt_isinstance (mab_cons (mb_of (me_var (pv 0))) (mab_cons (mb_of (me_bt rfl B.tuple bt_tuple)) mab_nil)))) (fun _ => rfl))) (mw_or1 (mt_ne (hu16 hr) (mb_of (me_callB call_len sim_len rfl B.len bt_len (mab_cons (mb_of (me_var (pv 0))) mab_nil))) (mb_of me_int))))) (mss_one (ms_ret me_bl))
    mss_nil)
    (mss_cons (ms_if (mt_w (mw_or (mt_not (mt_val (mb_of (me_call C_is_whole (hr.mono (by decide)) rfl passR rfl (ma_cons (me_sub' (hu1 hr) (mb_of (me_var (pv 0))) (mb_of me_int)) ma_nil))) (fun _ => rfl))) (mw_or1 (mt_not (mt_val (mb_of (me_callB call_isU sim_isi rfl B.isinstance bt_isinstance (mab_cons (mb_of (me_sub' (hu1 hr) (mb_of (me_var (pv 0))) (mb_of me_int))) (mab_cons (mb_of (me_bt rfl B.str bt_str)) mab_nil)))) (fun _ => rfl)))))) (mss_one (ms_ret me_bl))
    mss_nil)
    (mss_one (ms_ret (me_and (me_call C_number_fits (hr.mono (by decide)) rfl passR rfl (ma_cons (me_sub' (hu1 hr) (mb_of (me_var (pv 0))) (mb_of me_int)) (ma_cons (me_sub' (hu1 hr) (mb_of (me_var (pv 0))) (mb_of me_int)) ma_nil))) (me_one (me_call C_at_fits (hr.mono (by decide)) rfl passR rfl (ma_cons (me_sub' (hu1 hr) (mb_of (me_var (pv 0))) (mb_of me_int)) (ma_cons (me_sub' (hu1 hr) (mb_of (me_var (pv 0))) (mb_of me_int)) ma_nil))))))))))
def m_is_number_text : Ms :=
  (rtS (andE (callE f_is_made_of (consA (vE 0) (consA (cE k_FIGURES) (consA (cE k_MOST_FIGURES) nilA)))) (orE (opE eqF (vE 0) (cE (.str "0"))) (opE neF (opE ixF (vE 0) (cE (.int 0))) (cE (.str "0"))))))
def f_is_number_text : List U → Gm → Res U := runM false 1 m_is_number_text
theorem sc_is_number_text : FnScope ["text"] ["text"] (defScope s_is_number_text) := ⟨rfl, rfl, rfl, by decide +kernel, rfl, by decide +kernel, by decide +kernel⟩
theorem c_is_number_text (B : Blt mg) (C_is_made_of : CanM P w K mg base 1 "is_made_of" ["text", "signs", "most"] false f_is_made_of) (K_FIGURES : KOk P w K mg "FIGURES" k_FIGURES) (K_MOST_FIGURES : KOk P w K mg "MOST_FIGURES" k_MOST_FIGURES) (F : Def K mg "is_number_text" s_is_number_text) : CanM P w K mg base 2 "is_number_text" ["text"] false f_is_number_text :=
  canM_of (k := 1) F sc_is_number_text (fun _ _ _ _ _ _ us hl => match us, hl with | [_], _ => rfl) (fun f cdv A outer s H E S hr =>
    (mss_one (ms_ret (me_and (me_call C_is_made_of (hr.mono (by decide)) rfl passR rfl (ma_cons (me_var (pv 0)) (ma_cons (me_k rfl K_FIGURES) (ma_cons (me_k rfl K_MOST_FIGURES) ma_nil)))) (me_one (me_or (me_eq (hu16 hr) (mb_of (me_var (pv 0))) (mb_of me_str)) (me_one (me_ne (hu16 hr) (mb_of (me_sub' (hu1 hr) (mb_of (me_var (pv 0))) (mb_of me_int))) (mb_of me_str)))))))))
def m_turn_text : Ms :=
  (rtS (bmE "str" joinF (cE (.str " ")) (consA (compE (itemsT (vE 0)) ttT (callE strOf (consA (vE 0) nilA)) []) nilA)))
def f_turn_text : List U → Gm → Res U := runM false 1 m_turn_text
theorem sc_turn_text : FnScope ["turn"] ["turn"] (defScope s_turn_text) := ⟨rfl, rfl, rfl, by decide +kernel, rfl, by decide +kernel, by decide +kernel⟩
theorem c_turn_text (B : Blt mg) (F : Def K mg "turn_text" s_turn_text) : CanM P w K mg base 1 "turn_text" ["turn"] false f_turn_text :=
  canM_of (k := 0) F sc_turn_text (fun _ _ _ _ _ _ us hl => match us, hl with | [_], _ => rfl) (fun f cdv A outer s H E S hr =>
    (mss_one (ms_ret (me_bm PySem.F.plainAttrs_str PySem.F.slot_str_join PySem.F.type_str_join mt_join sim_join (mb_of me_str) (mab_cons (mb_of (me_of (mo_comp (N := ["part"]) (ci := []) (compSc_of (sc0 := defScope s_turn_text) (N0 := ["turn"]) (by decide +kernel) rfl rfl (fun y hy => PySem.W.cellsFrom_some _ _ _ (.inl hy))) rfl (mi_tup (me_var (pv 0))) (fun _ _ _ _ _ => mts_nil) (fun _ _ _ _ _ => (me_callT call_strA sim_strOf rfl B.str bt_str (mab_cons (mb_of (me_var (pv 0))) mab_nil)))))) mab_nil)))))
def m_read_word : Ms :=
  (rtS (ifE (trE (callE f_is_number_text (consA (vE 0) nilA))) (callE intOf (consA (vE 0) nilA)) (vE 0)))
def f_read_word : List U → Gm → Res U := runM false 1 m_read_word
theorem sc_read_word : FnScope ["word"] ["word"] (defScope s_read_word) := ⟨rfl, rfl, rfl, by decide +kernel, rfl, by decide +kernel, by decide +kernel⟩
theorem c_read_word (B : Blt mg) (C_is_number_text : CanM P w K mg base 2 "is_number_text" ["text"] false f_is_number_text) (F : Def K mg "read_word" s_read_word) : CanM P w K mg base 3 "read_word" ["word"] false f_read_word :=
  canM_of (k := 2) F sc_read_word (fun _ _ _ _ _ _ us hl => match us, hl with | [_], _ => rfl) (fun f cdv A outer s H E S hr =>
    (mss_one (ms_ret (me_if (mt_val (mb_of (me_call C_is_number_text (hr.mono (by decide)) rfl passR rfl (ma_cons (me_var (pv 0)) ma_nil))) (fun _ => rfl)) (me_callT call_intA sim_intOf rfl B.int bt_int (mab_cons (mb_of (me_var (pv 0))) mab_nil)) (me_var (pv 0))))))
def m_read_parts : Ms :=
  (rtS (callE tupleF (consA (compE (itemsL (bmE "str" splitF (vE 0) (consA (cE (.str " ")) nilA))) ttT (callE f_read_word (consA (vE 0) nilA)) []) nilA)))
def f_read_parts : List U → Gm → Res U := runM false 1 m_read_parts
theorem sc_read_parts : FnScope ["text"] ["text"] (defScope s_read_parts) := ⟨rfl, rfl, rfl, by decide +kernel, rfl, by decide +kernel, by decide +kernel⟩
theorem c_read_parts (B : Blt mg) (C_read_word : CanM P w K mg base 3 "read_word" ["word"] false f_read_word) (F : Def K mg "read_parts" s_read_parts) : CanM P w K mg base 4 "read_parts" ["text"] false f_read_parts :=
  canM_of (k := 3) F sc_read_parts (fun _ _ _ _ _ _ us hl => match us, hl with | [_], _ => rfl) (fun f cdv A outer s H E S hr =>
    (mss_one (ms_ret (me_callT call_tuple_of sim_tupleF rfl B.tuple bt_tuple (mab_cons (mb_of (me_of (mo_comp (N := ["word"]) (ci := []) (compSc_of (sc0 := defScope s_read_parts) (N0 := ["text"]) (by decide +kernel) rfl rfl (fun y hy => PySem.W.cellsFrom_some _ _ _ (.inl hy))) rfl (mi_list (me_of (mo_bm PySem.F.plainAttrs_str PySem.F.slot_str_split PySem.F.type_str_split mt_split sim_split (mb_of (me_var (pv 0))) (mab_cons (mb_of me_str) mab_nil)))) (fun _ _ _ _ _ => mts_nil) (fun _ _ _ _ _ => (me_call C_read_word (hr.mono (by decide)) rfl passF rfl (ma_cons (me_var (pv 0)) ma_nil)))))) mab_nil)))))
def m_is_pair_of : Ms :=
  (seqS (ifS (orT (notT (trE (callE f_is_person (consA (vE 1) nilA)))) (orT (notT (trE (callE f_is_person (consA (vE 2) nilA)))) (blE (opE eqF (vE 1) (vE 2))))) (rtS (cE (.bl false)))
  nilS)
  (rtS (opE inF (vE 0) (tupE (consA (callE f_house_of (consA (vE 1) nilA)) (consA (callE f_house_of (consA (vE 2) nilA)) nilA))))))
def f_is_pair_of : List U → Gm → Res U := runM false 3 m_is_pair_of
theorem sc_is_pair_of : FnScope ["house", "first", "second"] ["house", "first", "second"] (defScope s_is_pair_of) := ⟨rfl, rfl, rfl, by decide +kernel, rfl, by decide +kernel, by decide +kernel⟩
theorem c_is_pair_of (B : Blt mg) (C_is_person : CanM P w K mg base 3 "is_person" ["thing"] false f_is_person) (C_house_of : CanM P w K mg base 6 "house_of" ["person"] false f_house_of) (F : Def K mg "is_pair_of" s_is_pair_of) : CanM P w K mg base 7 "is_pair_of" ["house", "first", "second"] false f_is_pair_of :=
  canM_of (k := 6) F sc_is_pair_of (fun _ _ _ _ _ _ us hl => match us, hl with | [_, _, _], _ => rfl) (fun f cdv A outer s H E S hr =>
    (mss_cons (ms_if (mt_w (mw_or (mt_not (mt_val (mb_of (me_call C_is_person (hr.mono (by decide)) rfl passR rfl (ma_cons (me_var (pv 1)) ma_nil))) (fun _ => rfl))) (mw_or (mt_not (mt_val (mb_of (me_call C_is_person (hr.mono (by decide)) rfl passR rfl (ma_cons (me_var (pv 2)) ma_nil))) (fun _ => rfl))) (mw_or1 (mt_eq (hu16 hr) (mb_of (me_var (pv 1))) (mb_of (me_var (pv 2)))))))) (mss_one (ms_ret me_bl))
    mss_nil)
    (mss_one (ms_ret (me_in (hu16 hr) (mb_of (me_var (pv 0))) (mb_of (me_tup (ma_cons (me_call C_house_of (hr.mono (by decide)) rfl passR rfl (ma_cons (me_var (pv 1)) ma_nil)) (ma_cons (me_call C_house_of (hr.mono (by decide)) rfl passR rfl (ma_cons (me_var (pv 2)) ma_nil)) ma_nil)))))))))
def m_is_row : Ms :=
  (seqS (ifS (orT (notT (trE (callE isF (consA (vE 1) (consA (cE (.ty "tuple")) nilA))))) (orT (blE (opE neF (callE lenF (consA (vE 1) nilA)) (cE (.int 4)))) (notT (trE (callE f_is_pair_of (consA (vE 0) (consA (opE ixF (vE 1) (cE (.int 0))) (consA (opE ixF (vE 1) (cE (.int 1))) nilA)))))))) (rtS (cE (.bl false)))
  nilS)
  (seqS (ifS (orT (notT (trE (callE f_is_whole (consA (opE ixF (vE 1) (cE (.int 2))) nilA)))) (orT (blE (opE ltF (opE ixF (vE 1) (cE (.int 2))) (cE (.int 0)))) (notT (trE (callE f_is_answer (consA (opE ixF (vE 1) (cE (.int 3))) nilA)))))) (rtS (cE (.bl false)))
  nilS)
  (rtS (orE (opE gtF (opE ixF (vE 1) (cE (.int 2))) (cE (.int 0))) (opE gtF (opE ixF (opE ixF (vE 1) (cE (.int 3))) (cE (.int 0))) (cE (.int 0)))))))
def f_is_row : List U → Gm → Res U := runM false 2 m_is_row
theorem sc_is_row : FnScope ["house", "thing"] ["house", "thing"] (defScope s_is_row) := ⟨rfl, rfl, rfl, by decide +kernel, rfl, by decide +kernel, by decide +kernel⟩
theorem c_is_row (B : Blt mg) (C_is_whole : CanM P w K mg base 1 "is_whole" ["thing"] false f_is_whole) (C_is_answer : CanM P w K mg base 5 "is_answer" ["thing"] false f_is_answer) (C_is_pair_of : CanM P w K mg base 7 "is_pair_of" ["house", "first", "second"] false f_is_pair_of) (F : Def K mg "is_row" s_is_row) : CanM P w K mg base 8 "is_row" ["house", "thing"] false f_is_row :=
  canM_of (k := 7) F sc_is_row (fun _ _ _ _ _ _ us hl => match us, hl with | [_, _], _ => rfl) (fun f cdv A outer s H E S hr =>
    (mss_cons (ms_if (mt_w (mw_or (mt_not (mt_val (mb_of (me_callB call_isU sim_isi rfl B.isinstance bt_isinstance (mab_cons (mb_of (me_var (pv 1))) (mab_cons (mb_of (me_bt rfl B.tuple bt_tuple)) mab_nil)))) (fun _ => rfl))) (mw_or (mt_ne (hu16 hr) (mb_of (me_callB call_len sim_len rfl B.len bt_len (mab_cons (mb_of (me_var (pv 1))) mab_nil))) (mb_of me_int)) (mw_or1 (mt_not (mt_val (mb_of (me_call C_is_pair_of (hr.mono (by decide)) rfl passR rfl (ma_cons (me_var (pv 0)) (ma_cons (me_sub' (hu1 hr) (mb_of (me_var (pv 1))) (mb_of me_int)) (ma_cons (me_sub' (hu1 hr) (mb_of (me_var (pv 1))) (mb_of me_int)) ma_nil))))) (fun _ => rfl))))))) (mss_one (ms_ret me_bl))
    mss_nil)
    (mss_cons (ms_if (mt_w (mw_or (mt_not (mt_val (mb_of (me_call C_is_whole (hr.mono (by decide)) rfl passR rfl (ma_cons (me_sub' (hu1 hr) (mb_of (me_var (pv 1))) (mb_of me_int)) ma_nil))) (fun _ => rfl))) (mw_or (mt_lt (mb_of (me_sub' (hu1 hr) (mb_of (me_var (pv 1))) (mb_of me_int))) (mb_of me_int)) (mw_or1 (mt_not (mt_val (mb_of (me_call C_is_answer (hr.mono (by decide)) rfl passR rfl (ma_cons (me_sub' (hu1 hr) (mb_of (me_var (pv 1))) (mb_of me_int)) ma_nil))) (fun _ => rfl))))))) (mss_one (ms_ret me_bl))
    mss_nil)
    (mss_one (ms_ret (me_or (me_gt (mb_of (me_sub' (hu1 hr) (mb_of (me_var (pv 1))) (mb_of me_int))) (mb_of me_int)) (me_one (me_gt (mb_of (me_sub' (hu1 hr) (mb_of (me_sub' (hu1 hr) (mb_of (me_var (pv 1))) (mb_of me_int))) (mb_of me_int))) (mb_of me_int)))))))))
def m_book_text : Ms :=
  (seqS (setS 2 (compE (itemsL (vE 1)) ttT (callE f_turn_text (consA (opE addF (slE slF (vE 0) noP (someP (cE (.int 3)))) (opE ixF (vE 0) (cE (.int 3)))) nilA)) []))
  (rtS (bmE "str" joinF (cE (.str "\n")) (consA (opE catF (lstE (consA (f1E "book " (vE 0)) nilA)) (vE 2)) nilA))))
def f_book_text : List U → Gm → Res U := runM false 3 m_book_text
theorem sc_book_text : FnScope ["house", "rows", "lines"] ["house", "rows"] (defScope s_book_text) := ⟨rfl, rfl, rfl, by decide +kernel, rfl, by decide +kernel, by decide +kernel⟩
theorem c_book_text (B : Blt mg) (C_turn_text : CanM P w K mg base 1 "turn_text" ["turn"] false f_turn_text) (F : Def K mg "book_text" s_book_text) : CanM P w K mg base 2 "book_text" ["house", "rows"] false f_book_text :=
  canM_of (k := 1) F sc_book_text (fun _ _ _ _ _ _ us hl => match us, hl with | [_, _], _ => rfl) (fun f cdv A outer s H E S hr =>
    (mss_cons (ms_frz (ms_setComp (iY := 2) sc_book_text.nd rfl (by first | exact Or.inl rfl | exact Or.inr rfl) (by first | exact Or.inl rfl | exact Or.inr rfl) (N := ["row"]) (ci := []) (compSc_of (sc0 := defScope s_book_text) (N0 := ["house", "rows", "lines"]) (by decide +kernel) rfl rfl (fun y hy => PySem.W.cellsFrom_some _ _ _ (.inl hy))) rfl (mi_list (me_var (pv 1))) (fun _ _ _ _ _ => mts_nil) (fun _ _ _ _ _ => (me_call C_turn_text (hr.mono (by decide)) rfl passF rfl (ma_cons (me_add (mb_of (me_slice (mb_of (me_var (pv 0))) mp_none (mp_some me_int))) (mb_of (me_sub' (hu1 hr) (mb_of (me_var (pv 0))) (mb_of me_int)))) ma_nil)))))
    (mss_one (ms_ret (me_bm PySem.F.plainAttrs_str PySem.F.slot_str_join PySem.F.type_str_join mt_join sim_join (mb_of me_str) (mab_cons (mb_of (me_of (mo_cat (mb_of (me_of (mo_lst (ma_cons (me_f1 (me_var (pv 0)) (by decide +kernel)) ma_nil)))) (mb_of (me_var (pv 2)))))) mab_nil))))))
def m_read_row : Ms :=
  (seqS (setS 1 (callE f_read_parts (consA (vE 0) nilA)))
  (rtS (opE addF (slE slF (vE 1) noP (someP (cE (.int 3)))) (tupE (consA (slE slF (vE 1) (someP (cE (.int 3))) noP) nilA)))))
def f_read_row : List U → Gm → Res U := runM false 2 m_read_row
theorem sc_read_row : FnScope ["line", "parts"] ["line"] (defScope s_read_row) := ⟨rfl, rfl, rfl, by decide +kernel, rfl, by decide +kernel, by decide +kernel⟩
theorem c_read_row (B : Blt mg) (C_read_parts : CanM P w K mg base 4 "read_parts" ["text"] false f_read_parts) (F : Def K mg "read_row" s_read_row) : CanM P w K mg base 5 "read_row" ["line"] false f_read_row :=
  canM_of (k := 4) F sc_read_row (fun _ _ _ _ _ _ us hl => match us, hl with | [_], _ => rfl) (fun f cdv A outer s H E S hr =>
    (mss_cons (ms_set (i := 1) (fun te h => ps_set (i := 1) sc_read_row.nd rfl (by first | exact Or.inl rfl | exact Or.inr rfl) h) (me_call C_read_parts (hr.mono (by decide)) rfl passR rfl (ma_cons (me_var (pv 0)) ma_nil)))
    (mss_one (ms_ret (me_add (mb_of (me_slice (mb_of (me_var (pv 1))) mp_none (mp_some me_int))) (mb_of (me_tup (ma_cons (me_slice (mb_of (me_var (pv 1))) (mp_some me_int) mp_none) ma_nil))))))))
def m_read_head : Ms :=
  (seqS (setS 1 (bmE "str" splitF (vE 0) (consA (cE (.str " ")) nilA)))
  (seqS (ifS (orT (blE (opE neF (callE lenF (consA (vE 1) nilA)) (cE (.int 2)))) (orT (blE (opE neF (opE ixF (vE 1) (cE (.int 0))) (cE (.str "book")))) (notT (trE (callE f_is_house (consA (opE ixF (vE 1) (cE (.int 1))) nilA)))))) stuckS
  nilS)
  (rtS (opE ixF (vE 1) (cE (.int 1))))))
def f_read_head : List U → Gm → Res U := runM false 2 m_read_head
theorem sc_read_head : FnScope ["line", "words"] ["line"] (defScope s_read_head) := ⟨rfl, rfl, rfl, by decide +kernel, rfl, by decide +kernel, by decide +kernel⟩
theorem c_read_head (B : Blt mg) (C_is_house : CanM P w K mg base 2 "is_house" ["thing"] false f_is_house) (F : Def K mg "read_head" s_read_head) : CanM P w K mg base 3 "read_head" ["line"] false f_read_head :=
  canM_of (k := 2) F sc_read_head (fun _ _ _ _ _ _ us hl => match us, hl with | [_], _ => rfl) (fun f cdv A outer s H E S hr =>
    (mss_cons (ms_set (i := 1) (fun te h => ps_set (i := 1) sc_read_head.nd rfl (by first | exact Or.inl rfl | exact Or.inr rfl) h) (me_of (mo_bm PySem.F.plainAttrs_str PySem.F.slot_str_split PySem.F.type_str_split mt_split sim_split (mb_of (me_var (pv 0))) (mab_cons (mb_of me_str) mab_nil))))
    (mss_cons (ms_if (mt_w (mw_or (mt_ne (hu16 hr) (mb_of (me_callB call_len sim_len rfl B.len bt_len (mab_cons (mb_of (me_var (pv 1))) mab_nil))) (mb_of me_int)) (mw_or (mt_ne (hu16 hr) (mb_of (me_sub' (hu1 hr) (mb_of (me_var (pv 1))) (mb_of me_int))) (mb_of me_str)) (mw_or1 (mt_not (mt_val (mb_of (me_call C_is_house (hr.mono (by decide)) rfl passR rfl (ma_cons (me_sub' (hu1 hr) (mb_of (me_var (pv 1))) (mb_of me_int)) ma_nil))) (fun _ => rfl))))))) (mss_one ms_stuck)
    mss_nil)
    (mss_one (ms_ret (me_sub' (hu1 hr) (mb_of (me_var (pv 1))) (mb_of me_int)))))))
def m_read_book_text : Ms :=
  (seqS (ifS (notT (trE (callE isF (consA (vE 0) (consA (cE (.ty "str")) nilA))))) stuckS
  nilS)
  (seqS (setS 1 (bmE "str" splitF (vE 0) (consA (cE (.str "\n")) nilA)))
  (seqS (setS 2 (callE f_read_head (consA (opE ixF (vE 1) (cE (.int 0))) nilA)))
  (seqS (setS 3 (cellE (lstE nilA)))
  (seqS (forS (rng2 (consA (cE (.int 1)) (consA (callE lenF (consA (vE 1) nilA)) nilA))) (nameG 4)
  (seqS (setS 5 (callE f_read_row (consA (opE ixF (vE 1) (vE 4)) nilA)))
  (seqS (ifS (orT (notT (trE (callE f_is_row (consA (vE 2) (consA (vE 5) nilA))))) (andT (blE (opE neF (vE 3) (lstE nilA))) (blE (opE leT (slE slF (vE 5) noP (someP (cE (.int 2)))) (slE slF (opE ixF (vE 3) (negE (cE (.int 1)))) noP (someP (cE (.int 2)))))))) stuckS
  nilS)
  (exS (mutC appM (vE 3) (consA (vE 5) nilA))))))
  (rtS (tupE (consA (vE 2) (consA (vE 3) nilA)))))))))
def f_read_book_text : List U → Gm → Res U := runM false 6 m_read_book_text
theorem sc_read_book_text : FnScope ["text", "lines", "house", "rows", "number", "row"] ["text"] (defScope s_read_book_text) := ⟨rfl, rfl, rfl, by decide +kernel, rfl, by decide +kernel, by decide +kernel⟩
theorem c_read_book_text (B : Blt mg) (C_is_row : CanM P w K mg base 8 "is_row" ["house", "thing"] false f_is_row) (C_read_row : CanM P w K mg base 5 "read_row" ["line"] false f_read_row) (C_read_head : CanM P w K mg base 3 "read_head" ["line"] false f_read_head) (F : Def K mg "read_book_text" s_read_book_text) : CanM P w K mg base 9 "read_book_text" ["text"] false f_read_book_text :=
  canM_of (k := 8) F sc_read_book_text (fun _ _ _ _ _ _ us hl => match us, hl with | [_], _ => rfl) (fun f cdv A outer s H E S hr =>
    (mss_cons (ms_if (mt_not (mt_val (mb_of (me_callB call_isU sim_isi rfl B.isinstance bt_isinstance (mab_cons (mb_of (me_var (pv 0))) (mab_cons (mb_of (me_bt rfl B.str bt_str)) mab_nil)))) (fun _ => rfl))) (mss_one ms_stuck)
    mss_nil)
    (mss_cons (ms_set (i := 1) (fun te h => ps_set (i := 1) sc_read_book_text.nd rfl (by first | exact Or.inl rfl | exact Or.inr rfl) h) (me_of (mo_bm PySem.F.plainAttrs_str PySem.F.slot_str_split PySem.F.type_str_split mt_split sim_split (mb_of (me_var (pv 0))) (mab_cons (mb_of me_str) mab_nil))))
    (mss_cons (ms_set (i := 2) (fun te h => ps_set (i := 2) sc_read_book_text.nd rfl (by first | exact Or.inl rfl | exact Or.inr rfl) h) (me_call C_read_head (hr.mono (by decide)) rfl passR rfl (ma_cons (me_sub' (hu1 hr) (mb_of (me_var (pv 1))) (mb_of me_int)) ma_nil)))
    (mss_cons (ms_set (i := 3) (fun te h => ps_set (i := 3) sc_read_book_text.nd rfl (by first | exact Or.inl rfl | exact Or.inr rfl) h) (me_cell (mo_lst ma_nil)))
    (mss_cons (ms_for PassesOwn.leaving rfl (mi_range2 rfl B.range (ma_cons me_int (ma_cons (me_callB call_len sim_len rfl B.len bt_len (mab_cons (mb_of (me_var (pv 1))) mab_nil)) ma_nil))) (mg_name (i := 4) (pg_name (i := 4) sc_read_book_text.nd rfl (by first | exact Or.inl rfl | exact Or.inr rfl)))
    (mss_cons (ms_set (i := 5) (fun te h => ps_set (i := 5) sc_read_book_text.nd rfl (by first | exact Or.inl rfl | exact Or.inr rfl) h) (me_call C_read_row (hr.mono (by decide)) rfl passR rfl (ma_cons (me_sub' (hu1 hr) (mb_of (me_var (pv 1))) (mb_of (me_var (pv 4)))) ma_nil)))
    (mss_cons (ms_if (mt_w (mw_or (mt_not (mt_val (mb_of (me_call C_is_row (hr.mono (by decide)) rfl passR rfl (ma_cons (me_var (pv 2)) (ma_cons (me_var (pv 5)) ma_nil)))) (fun _ => rfl))) (mw_or1 (mt_w (mw_and (mt_ne (hu16 hr) (mb_of (me_var (pv 3))) (mb_of (me_of (mo_lst ma_nil)))) (mw_and1 (mt_leT (hu16 hr) (mb_of (me_slice (mb_of (me_var (pv 5))) mp_none (mp_some me_int))) (mb_of (me_slice (mb_of (me_sub' (hu1 hr) (mb_of (me_var (pv 3))) (mb_of (me_neg me_int)))) mp_none (mp_some me_int)))))))))) (mss_one ms_stuck)
    mss_nil)
    (mss_one (ms_expr (me_mutC PySem.F.slot_list_append PySem.F.type_list_append mt_append mut_app (mb_of (me_var (pv 3))) (ma_cons (me_var (pv 5)) ma_nil)))))))
    (mss_one (ms_ret (me_tup (ma_cons (me_var (pv 2)) (ma_cons (me_var (pv 3)) ma_nil)))))))))))
def m_law_cell_at : Ms :=
  (seqS (ifS (blE (opE ltF (vE 1) (callE lenF (consA (vE 0) nilA)))) (rtS (opE ixF (vE 0) (vE 1)))
  nilS)
  (rtS (cE (.int 0))))
def f_law_cell_at : List U → Gm → Res U := runM false 2 m_law_cell_at
theorem sc_law_cell_at : FnScope ["_law_script", "_law_k"] ["_law_script", "_law_k"] (defScope s_law_cell_at) := ⟨rfl, rfl, rfl, by decide +kernel, rfl, by decide +kernel, by decide +kernel⟩
theorem c_law_cell_at (B : Blt mg) (F : Def K mg "_law_cell_at" s_law_cell_at) : CanM P w K mg base 1 "_law_cell_at" ["_law_script", "_law_k"] false f_law_cell_at :=
  canM_of (k := 0) F sc_law_cell_at (fun _ _ _ _ _ _ us hl => match us, hl with | [_, _], _ => rfl) (fun f cdv A outer s H E S hr =>
    (mss_cons (ms_if (mt_lt (mb_of (me_var (pv 1))) (mb_of (me_callB call_len sim_len rfl B.len bt_len (mab_cons (mb_of (me_var (pv 0))) mab_nil)))) (mss_one (ms_ret (me_sub' (hu1 hr) (mb_of (me_var (pv 0))) (mb_of (me_var (pv 1))))))
    mss_nil)
    (mss_one (ms_ret me_int))))
def m_law_mixed : Ms :=
  (seqS (setS 2 (opE modF (opE mulF (opE addF (opE addF (opE modF (vE 0) (cE (.int 2147483647))) (opE mulF (cE (.int 7919)) (vE 1))) (cE (.int 1))) (cE (.int 48271))) (cE (.int 2147483647))))
  (seqS (setS 2 (opE modF (opE mulF (vE 2) (opE addF (opE divF (vE 2) (cE (.int 1009))) (cE (.int 69621)))) (cE (.int 2147483647))))
  (rtS (opE modF (opE mulF (opE addF (vE 2) (opE mulF (cE (.int 7)) (vE 1))) (opE addF (opE divF (vE 2) (cE (.int 677))) (cE (.int 40692)))) (cE (.int 2147483399))))))
def f_law_mixed : List U → Gm → Res U := runM false 3 m_law_mixed
theorem sc_law_mixed : FnScope ["_law_cell", "_law_k", "_law_number_here"] ["_law_cell", "_law_k"] (defScope s_law_mixed) := ⟨rfl, rfl, rfl, by decide +kernel, rfl, by decide +kernel, by decide +kernel⟩
theorem c_law_mixed (B : Blt mg) (F : Def K mg "_law_mixed" s_law_mixed) : CanM P w K mg base 1 "_law_mixed" ["_law_cell", "_law_k"] false f_law_mixed :=
  canM_of (k := 0) F sc_law_mixed (fun _ _ _ _ _ _ us hl => match us, hl with | [_, _], _ => rfl) (fun f cdv A outer s H E S hr =>
    (mss_cons (ms_set (i := 2) (fun te h => ps_set (i := 2) sc_law_mixed.nd rfl (by first | exact Or.inl rfl | exact Or.inr rfl) h) (me_mod (mb_of (me_mul (mb_of (me_add (mb_of (me_add (mb_of (me_mod (mb_of (me_var (pv 0))) (mb_of me_int))) (mb_of (me_mul (mb_of me_int) (mb_of (me_var (pv 1))))))) (mb_of me_int))) (mb_of me_int))) (mb_of me_int)))
    (mss_cons (ms_set (i := 2) (fun te h => ps_set (i := 2) sc_law_mixed.nd rfl (by first | exact Or.inl rfl | exact Or.inr rfl) h) (me_mod (mb_of (me_mul (mb_of (me_var (pv 2))) (mb_of (me_add (mb_of (me_div (mb_of (me_var (pv 2))) (mb_of me_int))) (mb_of me_int))))) (mb_of me_int)))
    (mss_one (ms_ret (me_mod (mb_of (me_mul (mb_of (me_add (mb_of (me_var (pv 2))) (mb_of (me_mul (mb_of me_int) (mb_of (me_var (pv 1))))))) (mb_of (me_add (mb_of (me_div (mb_of (me_var (pv 2))) (mb_of me_int))) (mb_of me_int))))) (mb_of me_int)))))))
def m_law_word : Ms :=
  (seqS (setS 4 (opE addF (cE (.int 1)) (opE modF (callE f_law_mixed (consA (vE 0) (consA (opE addF (opE mulF (cE (.int 40)) (vE 1)) (cE (.int 39))) nilA))) (vE 2))))
  (rtS (bmE "str" joinF (cE (.str "")) (consA (compE (rng1 (consA (vE 4) nilA)) ttT (opE ixF (vE 1) (opE modF (callE f_law_mixed (consA (vE 2) (consA (opE addF (opE mulF (cE (.int 40)) (vE 3)) (vE 0)) nilA))) (callE lenF (consA (vE 1) nilA)))) [3, 0, 1]) nilA))))
def f_law_word : List U → Gm → Res U := runM false 5 m_law_word
theorem sc_law_word : FnScope ["_law_cell", "_law_k", "_law_most", "_law_signs", "_law_many"] ["_law_cell", "_law_k", "_law_most", "_law_signs"] (defScope s_law_word) := ⟨rfl, rfl, rfl, by decide +kernel, rfl, by decide +kernel, by decide +kernel⟩
theorem c_law_word (B : Blt mg) (C_law_mixed : CanM P w K mg base 1 "_law_mixed" ["_law_cell", "_law_k"] false f_law_mixed) (F : Def K mg "_law_word" s_law_word) : CanM P w K mg base 2 "_law_word" ["_law_cell", "_law_k", "_law_most", "_law_signs"] false f_law_word :=
  canM_of (k := 1) F sc_law_word (fun _ _ _ _ _ _ us hl => match us, hl with | [_, _, _, _], _ => rfl) (fun f cdv A outer s H E S hr =>
    (mss_cons (ms_set (i := 4) (fun te h => ps_set (i := 4) sc_law_word.nd rfl (by first | exact Or.inl rfl | exact Or.inr rfl) h) (me_add (mb_of me_int) (mb_of (me_mod (mb_of (me_call C_law_mixed (hr.mono (by decide)) rfl passR rfl (ma_cons (me_var (pv 0)) (ma_cons (me_add (mb_of (me_mul (mb_of me_int) (mb_of (me_var (pv 1))))) (mb_of me_int)) ma_nil)))) (mb_of (me_var (pv 2)))))))
    (mss_one (ms_ret (me_bm PySem.F.plainAttrs_str PySem.F.slot_str_join PySem.F.type_str_join mt_join sim_join (mb_of me_str) (mab_cons (mb_of (me_of (mo_comp (N := ["_law_j", "_law_signs", "_law_cell", "_law_k"]) (ci := [3, 0, 1]) (compSc_of (sc0 := defScope s_law_word) (N0 := ["_law_cell", "_law_k", "_law_most", "_law_signs", "_law_many"]) (by decide +kernel) rfl rfl (fun y hy => PySem.W.cellsFrom_some _ _ _ (.inl hy))) rfl (mi_range1 rfl B.range (ma_cons (me_var (pv 4)) ma_nil)) (fun _ _ _ _ _ => mts_nil) (fun _ _ _ _ _ => (me_sub' (hu1 hr) (mb_of (me_var (pv 1))) (mb_of (me_mod (mb_of (me_call C_law_mixed (hr.mono (by decide)) rfl passF rfl (ma_cons (me_var (pv 2)) (ma_cons (me_add (mb_of (me_mul (mb_of me_int) (mb_of (me_var (pv 3))))) (mb_of (me_var (pv 0)))) ma_nil)))) (mb_of (me_callB call_len sim_len rfl B.len bt_len (mab_cons (mb_of (me_var (pv 1))) mab_nil)))))))))) mab_nil))))))
def m_law_houses : Ms :=
  (rtS (compE (rng1 (consA (vE 1) nilA)) ttT (opE addF (callE f_law_word (consA (vE 1) (consA (vE 0) (consA (cE (.int 5)) (consA (cE (.str "abcdefghijklmnopqrstuvwxyz")) nilA))))) (opE ixF (cE (.str "abcd")) (vE 0))) [0]))
def f_law_houses : List U → Gm → Res U := runM false 2 m_law_houses
theorem sc_law_houses : FnScope ["_law_cell", "_law_many"] ["_law_cell", "_law_many"] (defScope s_law_houses) := ⟨rfl, rfl, rfl, by decide +kernel, rfl, by decide +kernel, by decide +kernel⟩
theorem c_law_houses (B : Blt mg) (C_law_word : CanM P w K mg base 2 "_law_word" ["_law_cell", "_law_k", "_law_most", "_law_signs"] false f_law_word) (F : Def K mg "_law_houses" s_law_houses) : CanM P w K mg base 3 "_law_houses" ["_law_cell", "_law_many"] false f_law_houses :=
  canM_of (k := 2) F sc_law_houses (fun _ _ _ _ _ _ us hl => match us, hl with | [_, _], _ => rfl) (fun f cdv A outer s H E S hr =>
    (mss_one (ms_ret (me_of (mo_comp (N := ["_law_k", "_law_cell"]) (ci := [0]) (compSc_of (sc0 := defScope s_law_houses) (N0 := ["_law_cell", "_law_many"]) (by decide +kernel) rfl rfl (fun y hy => PySem.W.cellsFrom_some _ _ _ (.inl hy))) rfl (mi_range1 rfl B.range (ma_cons (me_var (pv 1)) ma_nil)) (fun _ _ _ _ _ => mts_nil) (fun _ _ _ _ _ => (me_add (mb_of (me_call C_law_word (hr.mono (by decide)) rfl passF rfl (ma_cons (me_var (pv 1)) (ma_cons (me_var (pv 0)) (ma_cons me_int (ma_cons me_str ma_nil)))))) (mb_of (me_sub' (hu1 hr) (mb_of me_str) (mb_of (me_var (pv 0))))))))))))
def m_law_people : Ms :=
  (seqS (setO 3 (lstE nilA))
  (seqS (forS (rng1 (consA (vE 2) nilA)) (nameG 4)
  (seqS (setS 5 (cE (.str "abcdefghijklmnopqrstuvwxyz0123456789-")))
  (seqS (setS 6 (opE addF (callE f_law_word (consA (vE 0) (consA (opE addF (cE (.int 9)) (vE 4)) (consA (cE (.int 7)) (consA (vE 5) nilA))))) (opE ixF (vE 5) (opE modF (opE mulF (cE (.int 11)) (vE 4)) (cE (.int 37))))))
  (mutO 3 appM (consA (opE addF (opE addF (vE 6) (cE (.str "@"))) (opE ixF (vE 1) (opE modF (vE 4) (callE lenF (consA (vE 1) nilA))))) nilA)))))
  (frS 3 (rtS (vE 3)))))
def f_law_people : List U → Gm → Res U := runM false 7 m_law_people
theorem sc_law_people : FnScope ["_law_cell", "_law_houses_here", "_law_many", "_law_found", "_law_k", "_law_signs", "_law_name"] ["_law_cell", "_law_houses_here", "_law_many"] (defScope s_law_people) := ⟨rfl, rfl, rfl, by decide +kernel, rfl, by decide +kernel, by decide +kernel⟩
theorem c_law_people (B : Blt mg) (C_law_word : CanM P w K mg base 2 "_law_word" ["_law_cell", "_law_k", "_law_most", "_law_signs"] false f_law_word) (F : Def K mg "_law_people" s_law_people) : CanM P w K mg base 3 "_law_people" ["_law_cell", "_law_houses_here", "_law_many"] false f_law_people :=
  canM_of (k := 2) F sc_law_people (fun _ _ _ _ _ _ us hl => match us, hl with | [_, _, _], _ => rfl) (fun f cdv A outer s H E S hr =>
    (mss_cons (ms_seto (i := 3) (fun te h => ps_set (i := 3) sc_law_people.nd rfl (by first | exact Or.inl rfl | exact Or.inr rfl) h) (mo_lst ma_nil))
    (mss_cons (ms_for PassesOwn.leaving rfl (mi_range1 rfl B.range (ma_cons (me_var (pv 2)) ma_nil)) (mg_name (i := 4) (pg_name (i := 4) sc_law_people.nd rfl (by first | exact Or.inl rfl | exact Or.inr rfl)))
    (mss_cons (ms_set (i := 5) (fun te h => ps_set (i := 5) sc_law_people.nd rfl (by first | exact Or.inl rfl | exact Or.inr rfl) h) me_str)
    (mss_cons (ms_set (i := 6) (fun te h => ps_set (i := 6) sc_law_people.nd rfl (by first | exact Or.inl rfl | exact Or.inr rfl) h) (me_add (mb_of (me_call C_law_word (hr.mono (by decide)) rfl passR rfl (ma_cons (me_var (pv 0)) (ma_cons (me_add (mb_of me_int) (mb_of (me_var (pv 4)))) (ma_cons me_int (ma_cons (me_var (pv 5)) ma_nil)))))) (mb_of (me_sub' (hu1 hr) (mb_of (me_var (pv 5))) (mb_of (me_mod (mb_of (me_mul (mb_of me_int) (mb_of (me_var (pv 4))))) (mb_of me_int)))))))
    (mss_one (ms_mutO (i := 3) (pv 3) PySem.F.slot_list_append PySem.F.type_list_append mt_append mut_app (ma_cons (me_add (mb_of (me_add (mb_of (me_var (pv 6))) (mb_of me_str))) (mb_of (me_sub' (hu1 hr) (mb_of (me_var (pv 1))) (mb_of (me_mod (mb_of (me_var (pv 4))) (mb_of (me_callB call_len sim_len rfl B.len bt_len (mab_cons (mb_of (me_var (pv 1))) mab_nil)))))))) ma_nil))))))
    (mss_fr (i := 3) (mss_one (ms_ret (me_var (pv 3))))))))
def m_law_number : Ms :=
  (seqS (setS 2 (opE addF (cE (.int 1)) (opE modF (callE f_law_mixed (consA (vE 0) (consA (opE addF (cE (.int 400)) (vE 1)) nilA))) (cE (.int 20)))))
  (seqS (setS 3 (opE addF (opE mulF (callE f_law_mixed (consA (vE 0) (consA (opE addF (cE (.int 520)) (vE 1)) nilA))) (opE powF (cE (.int 10)) (cE (.int 10)))) (callE f_law_mixed (consA (vE 0) (consA (opE addF (cE (.int 640)) (vE 1)) nilA)))))
  (rtS (opE mulF (callE intOf (consA (slE slF (callE strOf (consA (vE 3) nilA)) noP (someP (vE 2))) nilA)) (callE minF (consA (cE (.int 1)) (consA (opE modF (callE f_law_mixed (consA (vE 0) (consA (opE addF (cE (.int 200)) (vE 1)) nilA))) (cE (.int 8))) nilA)))))))
def f_law_number : List U → Gm → Res U := runM false 4 m_law_number
theorem sc_law_number : FnScope ["_law_cell", "_law_k", "_law_figures", "_law_number_here"] ["_law_cell", "_law_k"] (defScope s_law_number) := ⟨rfl, rfl, rfl, by decide +kernel, rfl, by decide +kernel, by decide +kernel⟩
theorem c_law_number (B : Blt mg) (C_law_mixed : CanM P w K mg base 1 "_law_mixed" ["_law_cell", "_law_k"] false f_law_mixed) (F : Def K mg "_law_number" s_law_number) : CanM P w K mg base 2 "_law_number" ["_law_cell", "_law_k"] false f_law_number :=
  canM_of (k := 1) F sc_law_number (fun _ _ _ _ _ _ us hl => match us, hl with | [_, _], _ => rfl) (fun f cdv A outer s H E S hr =>
    (mss_cons (ms_set (i := 2) (fun te h => ps_set (i := 2) sc_law_number.nd rfl (by first | exact Or.inl rfl | exact Or.inr rfl) h) (me_add (mb_of me_int) (mb_of (me_mod (mb_of (me_call C_law_mixed (hr.mono (by decide)) rfl passR rfl (ma_cons (me_var (pv 0)) (ma_cons (me_add (mb_of me_int) (mb_of (me_var (pv 1)))) ma_nil)))) (mb_of me_int)))))
    (mss_cons (ms_set (i := 3) (fun te h => ps_set (i := 3) sc_law_number.nd rfl (by first | exact Or.inl rfl | exact Or.inr rfl) h) (me_add (mb_of (me_mul (mb_of (me_call C_law_mixed (hr.mono (by decide)) rfl passR rfl (ma_cons (me_var (pv 0)) (ma_cons (me_add (mb_of me_int) (mb_of (me_var (pv 1)))) ma_nil)))) (mb_of (me_pow (mb_of me_int) (mb_of me_int))))) (mb_of (me_call C_law_mixed (hr.mono (by decide)) rfl passR rfl (ma_cons (me_var (pv 0)) (ma_cons (me_add (mb_of me_int) (mb_of (me_var (pv 1)))) ma_nil))))))
    (mss_one (ms_ret (me_mul (mb_of (me_callT call_intA sim_intOf rfl B.int bt_int (mab_cons (mb_of (me_slice (mb_of (me_callT call_strA sim_strOf rfl B.str bt_str (mab_cons (mb_of (me_var (pv 3))) mab_nil))) mp_none (mp_some (me_var (pv 2))))) mab_nil))) (mb_of (me_callB (call_min2 rfl) sim_min rfl B.min bt_min (mab_cons (mb_of me_int) (mab_cons (mb_of (me_mod (mb_of (me_call C_law_mixed (hr.mono (by decide)) rfl passR rfl (ma_cons (me_var (pv 0)) (ma_cons (me_add (mb_of me_int) (mb_of (me_var (pv 1)))) ma_nil)))) (mb_of me_int))) mab_nil))))))))))
def m_law_answer : Ms :=
  (seqS (setS 3 (callE f_law_number (consA (vE 0) (consA (vE 1) nilA))))
  (seqS (ifS (blE (opE eqF (vE 3) (cE (.int 0)))) (rtS (tupE (consA (cE (.int 0)) (consA (cE (.str "none")) (consA (cE (.int 0)) nilA)))))
  nilS)
  (seqS (setS 4 (opE ixF (lstE (consA (cE (.str "lets")) (consA (cE (.str "refuses")) (consA (cE (.str "bars")) (consA (cE (.str "gone")) (consA (cE (.str "open")) (consA (cE (.str "moved")) nilA))))))) (opE modF (callE f_law_mixed (consA (vE 0) (consA (opE addF (cE (.int 760)) (vE 1)) nilA))) (cE (.int 6)))))
  (seqS (ifS (blE (opE eqF (vE 4) (cE (.str "open")))) (rtS (tupE (consA (callE maxF (consA (cE (.int 2)) (consA (vE 3) nilA))) (consA (vE 4) (consA (cE (.int 0)) nilA)))))
  nilS)
  (seqS (ifS (blE (opE eqF (vE 4) (cE (.str "moved")))) (rtS (tupE (consA (vE 3) (consA (vE 4) (consA (opE ixF (vE 2) (opE modF (vE 1) (callE lenF (consA (vE 2) nilA)))) nilA)))))
  nilS)
  (seqS (setS 5 (cE (.int 0)))
  (seqS (ifS (blE (opE inF (vE 4) (tupE (consA (cE (.str "lets")) (consA (cE (.str "refuses")) nilA))))) (setS 5 (opE addF (opE mulF (cE (.int 2)) (opE divF (callE f_law_number (consA (vE 0) (consA (opE addF (cE (.int 70)) (vE 1)) nilA))) (cE (.int 2)))) (cE (.int 1))))
  nilS)
  (rtS (tupE (consA (vE 3) (consA (vE 4) (consA (vE 5) nilA))))))))))))
def f_law_answer : List U → Gm → Res U := runM false 6 m_law_answer
theorem sc_law_answer : FnScope ["_law_cell", "_law_k", "_law_people_here", "_law_number_here", "_law_word_here", "_law_at"] ["_law_cell", "_law_k", "_law_people_here"] (defScope s_law_answer) := ⟨rfl, rfl, rfl, by decide +kernel, rfl, by decide +kernel, by decide +kernel⟩
theorem c_law_answer (B : Blt mg) (C_law_mixed : CanM P w K mg base 1 "_law_mixed" ["_law_cell", "_law_k"] false f_law_mixed) (C_law_number : CanM P w K mg base 2 "_law_number" ["_law_cell", "_law_k"] false f_law_number) (F : Def K mg "_law_answer" s_law_answer) : CanM P w K mg base 3 "_law_answer" ["_law_cell", "_law_k", "_law_people_here"] false f_law_answer :=
  canM_of (k := 2) F sc_law_answer (fun _ _ _ _ _ _ us hl => match us, hl with | [_, _, _], _ => rfl) (fun f cdv A outer s H E S hr =>
    (mss_cons (ms_set (i := 3) (fun te h => ps_set (i := 3) sc_law_answer.nd rfl (by first | exact Or.inl rfl | exact Or.inr rfl) h) (me_call C_law_number (hr.mono (by decide)) rfl passR rfl (ma_cons (me_var (pv 0)) (ma_cons (me_var (pv 1)) ma_nil))))
    (mss_cons (ms_if (mt_eq (hu16 hr) (mb_of (me_var (pv 3))) (mb_of me_int)) (mss_one (ms_ret (me_tup (ma_cons me_int (ma_cons me_str (ma_cons me_int ma_nil))))))
    mss_nil)
    (mss_cons (ms_set (i := 4) (fun te h => ps_set (i := 4) sc_law_answer.nd rfl (by first | exact Or.inl rfl | exact Or.inr rfl) h) (me_sub' (hu1 hr) (mb_of (me_of (mo_lst (ma_cons me_str (ma_cons me_str (ma_cons me_str (ma_cons me_str (ma_cons me_str (ma_cons me_str ma_nil))))))))) (mb_of (me_mod (mb_of (me_call C_law_mixed (hr.mono (by decide)) rfl passR rfl (ma_cons (me_var (pv 0)) (ma_cons (me_add (mb_of me_int) (mb_of (me_var (pv 1)))) ma_nil)))) (mb_of me_int)))))
    (mss_cons (ms_if (mt_eq (hu16 hr) (mb_of (me_var (pv 4))) (mb_of me_str)) (mss_one (ms_ret (me_tup (ma_cons (me_callB (call_max2 rfl) sim_max rfl B.max bt_max (mab_cons (mb_of me_int) (mab_cons (mb_of (me_var (pv 3))) mab_nil))) (ma_cons (me_var (pv 4)) (ma_cons me_int ma_nil))))))
    mss_nil)
    (mss_cons (ms_if (mt_eq (hu16 hr) (mb_of (me_var (pv 4))) (mb_of me_str)) (mss_one (ms_ret (me_tup (ma_cons (me_var (pv 3)) (ma_cons (me_var (pv 4)) (ma_cons (me_sub' (hu1 hr) (mb_of (me_var (pv 2))) (mb_of (me_mod (mb_of (me_var (pv 1))) (mb_of (me_callB call_len sim_len rfl B.len bt_len (mab_cons (mb_of (me_var (pv 2))) mab_nil)))))) ma_nil))))))
    mss_nil)
    (mss_cons (ms_set (i := 5) (fun te h => ps_set (i := 5) sc_law_answer.nd rfl (by first | exact Or.inl rfl | exact Or.inr rfl) h) me_int)
    (mss_cons (ms_if (mt_in (hu16 hr) (mb_of (me_var (pv 4))) (mb_of (me_tup (ma_cons me_str (ma_cons me_str ma_nil))))) (mss_one (ms_set (i := 5) (fun te h => ps_set (i := 5) sc_law_answer.nd rfl (by first | exact Or.inl rfl | exact Or.inr rfl) h) (me_add (mb_of (me_mul (mb_of me_int) (mb_of (me_div (mb_of (me_call C_law_number (hr.mono (by decide)) rfl passR rfl (ma_cons (me_var (pv 0)) (ma_cons (me_add (mb_of me_int) (mb_of (me_var (pv 1)))) ma_nil)))) (mb_of me_int))))) (mb_of me_int))))
    mss_nil)
    (mss_one (ms_ret (me_tup (ma_cons (me_var (pv 3)) (ma_cons (me_var (pv 4)) (ma_cons (me_var (pv 5)) ma_nil))))))))))))))
def m_law_rows : Ms :=
  (seqS (setO 3 (lstE nilA))
  (seqS (forS (itemsL (vE 1)) (nameG 4)
  (forS (itemsL (vE 1)) (nameG 5)
  (seqS (setS 6 (orE (bmE "str" endsF (vE 4) (consA (opE addF (cE (.str "@")) (vE 2)) nilA)) (bmE "str" endsF (vE 5) (consA (opE addF (cE (.str "@")) (vE 2)) nilA))))
  (ifS (andT (blE (opE neF (vE 4) (vE 5))) (trE (vE 6))) (seqS (setS 7 (opE mulF (callE lenF (consA (vE 1) nilA)) (bmE "list" lindexF (vE 1) (consA (vE 4) nilA))))
  (seqS (setS 7 (opE addF (vE 7) (bmE "list" lindexF (vE 1) (consA (vE 5) nilA))))
  (seqS (setS 8 (callE f_law_number (consA (vE 0) (consA (opE addF (cE (.int 100)) (vE 7)) nilA))))
  (seqS (setS 9 (callE f_law_answer (consA (vE 0) (consA (vE 7) (consA (vE 1) nilA)))))
  (seqS (setS 10 (orE (opE gtF (vE 8) (cE (.int 0))) (opE gtF (opE ixF (vE 9) (cE (.int 0))) (cE (.int 0)))))
  (ifS (andT (trE (vE 10)) (blE (opE gtF (opE modF (callE f_law_mixed (consA (vE 0) (consA (opE addF (cE (.int 900)) (vE 7)) nilA))) (cE (.int 4))) (cE (.int 0))))) (mutO 3 appM (consA (tupE (consA (vE 4) (consA (vE 5) (consA (vE 8) (consA (vE 9) nilA))))) nilA))
  nilS))))))
  nilS))))
  (rtS (slE slL (callE sortedF (consA (oE 3) nilA)) noP (someP (cE (.int 40)))))))
def f_law_rows : List U → Gm → Res U := runM false 11 m_law_rows
theorem sc_law_rows : FnScope ["_law_cell", "_law_people_here", "_law_house", "_law_found", "_law_first", "_law_second", "_law_here", "_law_k", "_law_wish", "_law_answer_here", "_law_turned"] ["_law_cell", "_law_people_here", "_law_house"] (defScope s_law_rows) := ⟨rfl, rfl, rfl, by decide +kernel, rfl, by decide +kernel, by decide +kernel⟩
theorem c_law_rows (B : Blt mg) (C_law_mixed : CanM P w K mg base 1 "_law_mixed" ["_law_cell", "_law_k"] false f_law_mixed) (C_law_number : CanM P w K mg base 2 "_law_number" ["_law_cell", "_law_k"] false f_law_number) (C_law_answer : CanM P w K mg base 3 "_law_answer" ["_law_cell", "_law_k", "_law_people_here"] false f_law_answer) (F : Def K mg "_law_rows" s_law_rows) : CanM P w K mg base 4 "_law_rows" ["_law_cell", "_law_people_here", "_law_house"] false f_law_rows :=
  canM_of (k := 3) F sc_law_rows (fun _ _ _ _ _ _ us hl => match us, hl with | [_, _, _], _ => rfl) (fun f cdv A outer s H E S hr =>
    (mss_cons (ms_seto (i := 3) (fun te h => ps_set (i := 3) sc_law_rows.nd rfl (by first | exact Or.inl rfl | exact Or.inr rfl) h) (mo_lst ma_nil))
    (mss_cons (ms_for PassesOwn.leaving rfl (mi_list (me_var (pv 1))) (mg_name (i := 4) (pg_name (i := 4) sc_law_rows.nd rfl (by first | exact Or.inl rfl | exact Or.inr rfl)))
    (mss_one (ms_for PassesOwn.leaving rfl (mi_list (me_var (pv 1))) (mg_name (i := 5) (pg_name (i := 5) sc_law_rows.nd rfl (by first | exact Or.inl rfl | exact Or.inr rfl)))
    (mss_cons (ms_set (i := 6) (fun te h => ps_set (i := 6) sc_law_rows.nd rfl (by first | exact Or.inl rfl | exact Or.inr rfl) h) (me_or (me_bm PySem.F.plainAttrs_str PySem.F.slot_str_endswith PySem.F.type_str_endswith mt_endswith sim_ends (mb_of (me_var (pv 4))) (mab_cons (mb_of (me_add (mb_of me_str) (mb_of (me_var (pv 2))))) mab_nil)) (me_one (me_bm PySem.F.plainAttrs_str PySem.F.slot_str_endswith PySem.F.type_str_endswith mt_endswith sim_ends (mb_of (me_var (pv 5))) (mab_cons (mb_of (me_add (mb_of me_str) (mb_of (me_var (pv 2))))) mab_nil)))))
    (mss_one (ms_if (mt_w (mw_and (mt_ne (hu16 hr) (mb_of (me_var (pv 4))) (mb_of (me_var (pv 5)))) (mw_and1 (mt_val (mb_of (me_var (pv 6))) (fun _ => rfl))))) (mss_cons (ms_set (i := 7) (fun te h => ps_set (i := 7) sc_law_rows.nd rfl (by first | exact Or.inl rfl | exact Or.inr rfl) h) (me_mul (mb_of (me_callB call_len sim_len rfl B.len bt_len (mab_cons (mb_of (me_var (pv 1))) mab_nil))) (mb_of (me_bm PySem.F.plainAttrs_list PySem.F.slot_list_index PySem.F.type_list_index mt_lindex sim_lindex (mb_of (me_var (pv 1))) (mab_cons (mb_of (me_var (pv 4))) mab_nil)))))
    (mss_cons (ms_set (i := 7) (fun te h => ps_set (i := 7) sc_law_rows.nd rfl (by first | exact Or.inl rfl | exact Or.inr rfl) h) (me_add (mb_of (me_var (pv 7))) (mb_of (me_bm PySem.F.plainAttrs_list PySem.F.slot_list_index PySem.F.type_list_index mt_lindex sim_lindex (mb_of (me_var (pv 1))) (mab_cons (mb_of (me_var (pv 5))) mab_nil)))))
    (mss_cons (ms_set (i := 8) (fun te h => ps_set (i := 8) sc_law_rows.nd rfl (by first | exact Or.inl rfl | exact Or.inr rfl) h) (me_call C_law_number (hr.mono (by decide)) rfl passR rfl (ma_cons (me_var (pv 0)) (ma_cons (me_add (mb_of me_int) (mb_of (me_var (pv 7)))) ma_nil))))
    (mss_cons (ms_set (i := 9) (fun te h => ps_set (i := 9) sc_law_rows.nd rfl (by first | exact Or.inl rfl | exact Or.inr rfl) h) (me_call C_law_answer (hr.mono (by decide)) rfl passR rfl (ma_cons (me_var (pv 0)) (ma_cons (me_var (pv 7)) (ma_cons (me_var (pv 1)) ma_nil)))))
    (mss_cons (ms_set (i := 10) (fun te h => ps_set (i := 10) sc_law_rows.nd rfl (by first | exact Or.inl rfl | exact Or.inr rfl) h) (me_or (me_gt (mb_of (me_var (pv 8))) (mb_of me_int)) (me_one (me_gt (mb_of (me_sub' (hu1 hr) (mb_of (me_var (pv 9))) (mb_of me_int))) (mb_of me_int)))))
    (mss_one (ms_if (mt_w (mw_and (mt_val (mb_of (me_var (pv 10))) (fun _ => rfl)) (mw_and1 (mt_gt (mb_of (me_mod (mb_of (me_call C_law_mixed (hr.mono (by decide)) rfl passR rfl (ma_cons (me_var (pv 0)) (ma_cons (me_add (mb_of me_int) (mb_of (me_var (pv 7)))) ma_nil)))) (mb_of me_int))) (mb_of me_int))))) (mss_one (ms_mutO (i := 3) (pv 3) PySem.F.slot_list_append PySem.F.type_list_append mt_append mut_app (ma_cons (me_tup (ma_cons (me_var (pv 4)) (ma_cons (me_var (pv 5)) (ma_cons (me_var (pv 8)) (ma_cons (me_var (pv 9)) ma_nil))))) ma_nil)))
    mss_nil)))))))
    mss_nil))))))
    (mss_one (ms_ret (me_of (mo_slice (mb_of (me_of (mo_callB (call_sortedU (hu16 hr)) sim_sorted rfl B.sorted bt_sorted (mab_cons (mb_own (pv 3)) mab_nil)))) mp_none (mp_some me_int))))))))
def m_law_line : Ms :=
  (rtS (bmE "str" joinF (cE (.str " ")) (consA (opE catF (lstE (consA (opE ixF (vE 0) (cE (.int 0))) (consA (opE ixF (vE 0) (cE (.int 1))) (consA (callE strOf (consA (opE ixF (vE 0) (cE (.int 2))) nilA)) nilA)))) (compE (itemsT (opE ixF (vE 0) (cE (.int 3)))) ttT (callE strOf (consA (vE 0) nilA)) [])) nilA)))
def f_law_line : List U → Gm → Res U := runM false 1 m_law_line
theorem sc_law_line : FnScope ["_law_row"] ["_law_row"] (defScope s_law_line) := ⟨rfl, rfl, rfl, by decide +kernel, rfl, by decide +kernel, by decide +kernel⟩
theorem c_law_line (B : Blt mg) (F : Def K mg "_law_line" s_law_line) : CanM P w K mg base 1 "_law_line" ["_law_row"] false f_law_line :=
  canM_of (k := 0) F sc_law_line (fun _ _ _ _ _ _ us hl => match us, hl with | [_], _ => rfl) (fun f cdv A outer s H E S hr =>
    (mss_one (ms_ret (me_bm PySem.F.plainAttrs_str PySem.F.slot_str_join PySem.F.type_str_join mt_join sim_join (mb_of me_str) (mab_cons (mb_of (me_of (mo_cat (mb_of (me_of (mo_lst (ma_cons (me_sub' (hu1 hr) (mb_of (me_var (pv 0))) (mb_of me_int)) (ma_cons (me_sub' (hu1 hr) (mb_of (me_var (pv 0))) (mb_of me_int)) (ma_cons (me_callT call_strA sim_strOf rfl B.str bt_str (mab_cons (mb_of (me_sub' (hu1 hr) (mb_of (me_var (pv 0))) (mb_of me_int))) mab_nil)) ma_nil)))))) (mb_of (me_of (mo_comp (N := ["_law_part"]) (ci := []) (compSc_of (sc0 := defScope s_law_line) (N0 := ["_law_row"]) (by decide +kernel) rfl rfl (fun y hy => PySem.W.cellsFrom_some _ _ _ (.inl hy))) rfl (mi_tup (me_sub' (hu1 hr) (mb_of (me_var (pv 0))) (mb_of me_int))) (fun _ _ _ _ _ => mts_nil) (fun _ _ _ _ _ => (me_callT call_strA sim_strOf rfl B.str bt_str (mab_cons (mb_of (me_var (pv 0))) mab_nil))))))))) mab_nil)))))
def m_law : Ms :=
  (seqS (forS (itemsL (opE catF (lstE (consA (callE f_law_cell_at (consA (vE 0) (consA (cE (.int 0)) nilA))) nilA)) (slE slL (vE 0) (someP (cE (.int 1))) (someP (cE (.int 8)))))) (nameG 1)
  (seqS (setS 2 (callE f_law_houses (consA (vE 1) (consA (opE addF (cE (.int 1)) (opE modF (callE f_law_mixed (consA (vE 1) (consA (cE (.int 300)) nilA))) (cE (.int 4)))) nilA))))
  (seqS (setS 3 (callE f_law_people (consA (vE 1) (consA (vE 2) (consA (opE addF (cE (.int 2)) (opE modF (callE f_law_mixed (consA (vE 1) (consA (cE (.int 301)) nilA))) (cE (.int 9)))) nilA)))))
  (seqS (setS 4 (opE ixF (vE 2) (cE (.int 0))))
  (seqS (setS 5 (callE f_law_rows (consA (vE 1) (consA (vE 3) (consA (vE 4) nilA)))))
  (seqS (setS 6 (bmE "str" joinF (cE (.str "\n")) (consA (opE catF (lstE (consA (opE addF (cE (.str "book ")) (vE 4)) nilA)) (compE (itemsL (vE 5)) ttT (callE f_law_line (consA (vE 0) nilA)) [])) nilA)))
  (forS (rng1 (consA (cE (.int 2)) nilA)) (nameG 7)
  (seqS (ifS (blE (opE neF (callE f_book_text (consA (vE 4) (consA (callE listF (consA (vE 5) nilA)) nilA))) (vE 6))) (rtS (cE (.bl false)))
  nilS)
  (seqS (setS 8 (callE f_read_book_text (consA (vE 6) nilA)))
  (seqS (ifS (orT (notT (trE (callE isF (consA (vE 8) (consA (cE (.ty "tuple")) nilA))))) (blE (opE neF (vE 8) (tupE (consA (vE 4) (consA (vE 5) nilA)))))) (rtS (cE (.bl false)))
  nilS)
  (seqS (ifS (notT (trE (callE isF (consA (opE ixF (vE 8) (cE (.int 1))) (consA (cE (.ty "list")) nilA))))) (rtS (cE (.bl false)))
  nilS)
  (seqS (ifS (blE (opE neF (compEC (itemsC (opE ixF (vE 8) (cE (.int 1)))) (trE (callE isF (consA (opE ixF (vE 0) (cE (.int 2))) (consA (cE (.ty "bool")) nilA)))) (vE 0) []) (lstE nilA))) (rtS (cE (.bl false)))
  nilS)
  (exS (mutC appM (opE ixF (vE 8) (cE (.int 1))) (consA (cE (.int 7)) nilA)))))))))))))))
  (rtS (cE (.bl true))))
def f_law : List U → Gm → Res U := runM false 9 m_law
theorem sc_law : FnScope ["_law_script", "_law_cell", "_law_houses_here", "_law_people_here", "_law_house", "_law_rows_here", "_law_due", "_law_turn", "_law_found"] ["_law_script"] (defScope s_law) := ⟨rfl, rfl, rfl, by decide +kernel, rfl, by decide +kernel, by decide +kernel⟩
theorem c_law {fa : Addr} {fd : FuncData} (B : Blt mg) (C_book_text : CanM P w K mg base 2 "book_text" ["house", "rows"] false f_book_text) (C_read_book_text : CanM P w K mg base 9 "read_book_text" ["text"] false f_read_book_text) (C_law_cell_at : CanM P w K mg base 1 "_law_cell_at" ["_law_script", "_law_k"] false f_law_cell_at) (C_law_mixed : CanM P w K mg base 1 "_law_mixed" ["_law_cell", "_law_k"] false f_law_mixed) (C_law_houses : CanM P w K mg base 3 "_law_houses" ["_law_cell", "_law_many"] false f_law_houses) (C_law_people : CanM P w K mg base 3 "_law_people" ["_law_cell", "_law_houses_here", "_law_many"] false f_law_people) (C_law_rows : CanM P w K mg base 4 "_law_rows" ["_law_cell", "_law_people_here", "_law_house"] false f_law_rows) (C_law_line : CanM P w K mg base 1 "_law_line" ["_law_row"] false f_law_line) (F : Fun K "law" "law" s_law fa fd) : FnOk P w K mg base (CXR P w) 10 fa fd ["_law_script"] (spM P w K 1 false f_law) :=
  fnM_of (k := 9) F sc_law (fun f cdv A outer s H E S hr =>
    (mss_cons (ms_for PassesOwn.leaving rfl (mi_list (me_of (mo_cat (mb_of (me_of (mo_lst (ma_cons (me_call C_law_cell_at (hr.mono (by decide)) rfl passR rfl (ma_cons (me_var (pv 0)) (ma_cons me_int ma_nil))) ma_nil)))) (mb_of (me_of (mo_slice (mb_of (me_var (pv 0))) (mp_some me_int) (mp_some me_int))))))) (mg_name (i := 1) (pg_name (i := 1) sc_law.nd rfl (by first | exact Or.inl rfl | exact Or.inr rfl)))
    (mss_cons (ms_set (i := 2) (fun te h => ps_set (i := 2) sc_law.nd rfl (by first | exact Or.inl rfl | exact Or.inr rfl) h) (me_call C_law_houses (hr.mono (by decide)) rfl passR rfl (ma_cons (me_var (pv 1)) (ma_cons (me_add (mb_of me_int) (mb_of (me_mod (mb_of (me_call C_law_mixed (hr.mono (by decide)) rfl passR rfl (ma_cons (me_var (pv 1)) (ma_cons me_int ma_nil)))) (mb_of me_int)))) ma_nil))))
    (mss_cons (ms_set (i := 3) (fun te h => ps_set (i := 3) sc_law.nd rfl (by first | exact Or.inl rfl | exact Or.inr rfl) h) (me_call C_law_people (hr.mono (by decide)) rfl passR rfl (ma_cons (me_var (pv 1)) (ma_cons (me_var (pv 2)) (ma_cons (me_add (mb_of me_int) (mb_of (me_mod (mb_of (me_call C_law_mixed (hr.mono (by decide)) rfl passR rfl (ma_cons (me_var (pv 1)) (ma_cons me_int ma_nil)))) (mb_of me_int)))) ma_nil)))))
    (mss_cons (ms_set (i := 4) (fun te h => ps_set (i := 4) sc_law.nd rfl (by first | exact Or.inl rfl | exact Or.inr rfl) h) (me_sub' (hu1 hr) (mb_of (me_var (pv 2))) (mb_of me_int)))
    (mss_cons (ms_set (i := 5) (fun te h => ps_set (i := 5) sc_law.nd rfl (by first | exact Or.inl rfl | exact Or.inr rfl) h) (me_call C_law_rows (hr.mono (by decide)) rfl passR rfl (ma_cons (me_var (pv 1)) (ma_cons (me_var (pv 3)) (ma_cons (me_var (pv 4)) ma_nil)))))
    (mss_cons (ms_set (i := 6) (fun te h => ps_set (i := 6) sc_law.nd rfl (by first | exact Or.inl rfl | exact Or.inr rfl) h) (me_bm PySem.F.plainAttrs_str PySem.F.slot_str_join PySem.F.type_str_join mt_join sim_join (mb_of me_str) (mab_cons (mb_of (me_of (mo_cat (mb_of (me_of (mo_lst (ma_cons (me_add (mb_of me_str) (mb_of (me_var (pv 4)))) ma_nil)))) (mb_of (me_of (mo_comp (N := ["_law_row"]) (ci := []) (compSc_of (sc0 := defScope s_law) (N0 := ["_law_script", "_law_cell", "_law_houses_here", "_law_people_here", "_law_house", "_law_rows_here", "_law_due", "_law_turn", "_law_found"]) (by decide +kernel) rfl rfl (fun y hy => PySem.W.cellsFrom_some _ _ _ (.inl hy))) rfl (mi_list (me_var (pv 5))) (fun _ _ _ _ _ => mts_nil) (fun _ _ _ _ _ => (me_call C_law_line (hr.mono (by decide)) rfl passF rfl (ma_cons (me_var (pv 0)) ma_nil))))))))) mab_nil)))
    (mss_one (ms_for PassesOwn.leaving rfl (mi_range1 rfl B.range (ma_cons me_int ma_nil)) (mg_name (i := 7) (pg_name (i := 7) sc_law.nd rfl (by first | exact Or.inl rfl | exact Or.inr rfl)))
    (mss_cons (ms_if (mt_ne (hu16 hr) (mb_of (me_call C_book_text (hr.mono (by decide)) rfl passR rfl (ma_cons (me_var (pv 4)) (ma_cons (me_of (mo_callT call_list_of sim_listF rfl B.list bt_list (mab_cons (mb_of (me_var (pv 5))) mab_nil))) ma_nil)))) (mb_of (me_var (pv 6)))) (mss_one (ms_ret me_bl))
    mss_nil)
    (mss_cons (ms_set (i := 8) (fun te h => ps_set (i := 8) sc_law.nd rfl (by first | exact Or.inl rfl | exact Or.inr rfl) h) (me_call C_read_book_text (hr.mono (by decide)) rfl passR rfl (ma_cons (me_var (pv 6)) ma_nil)))
    (mss_cons (ms_if (mt_w (mw_or (mt_not (mt_val (mb_of (me_callB call_isU sim_isi rfl B.isinstance bt_isinstance (mab_cons (mb_of (me_var (pv 8))) (mab_cons (mb_of (me_bt rfl B.tuple bt_tuple)) mab_nil)))) (fun _ => rfl))) (mw_or1 (mt_ne (hu16 hr) (mb_of (me_var (pv 8))) (mb_of (me_tup (ma_cons (me_var (pv 4)) (ma_cons (me_var (pv 5)) ma_nil)))))))) (mss_one (ms_ret me_bl))
    mss_nil)
    (mss_cons (ms_if (mt_not (mt_val (mb_of (me_callB call_isU sim_isi rfl B.isinstance bt_isinstance (mab_cons (mb_of (me_sub' (hu1 hr) (mb_of (me_var (pv 8))) (mb_of me_int))) (mab_cons (mb_of (me_bt rfl B.list bt_list)) mab_nil)))) (fun _ => rfl))) (mss_one (ms_ret me_bl))
    mss_nil)
    (mss_cons (ms_if (mt_ne (hu16 hr) (mb_of (me_of (mo_compC (N := ["_law_row"]) (ci := []) (compSc_of (sc0 := defScope s_law) (N0 := ["_law_script", "_law_cell", "_law_houses_here", "_law_people_here", "_law_house", "_law_rows_here", "_law_due", "_law_turn", "_law_found"]) (by decide +kernel) rfl rfl (fun y hy => PySem.W.cellsFrom_some _ _ _ (.inl hy))) rfl (mi_cell (me_sub' (hu1 hr) (mb_of (me_var (pv 8))) (mb_of me_int))) (fun _ _ _ _ _ => (mts_one (mt_val (mb_of (me_callB call_isU sim_isi rfl B.isinstance bt_isinstance (mab_cons (mb_of (me_sub' (hu1 hr) (mb_of (me_var (pv 0))) (mb_of me_int))) (mab_cons (mb_of (me_bt rfl B.bool bt_bool)) mab_nil)))) (fun _ => rfl)))) (fun _ _ _ _ _ => (me_var (pv 0)))))) (mb_of (me_of (mo_lst ma_nil)))) (mss_one (ms_ret me_bl))
    mss_nil)
    (mss_one (ms_expr (me_mutC PySem.F.slot_list_append PySem.F.type_list_append mt_append mut_app (mb_of (me_sub' (hu1 hr) (mb_of (me_var (pv 8))) (mb_of me_int))) (ma_cons me_int ma_nil)))))))))))))))))
    (mss_one (ms_ret me_bl))))
end
end K81
local macro_rules | `(tactic| simp only [mmS, $xs,*] $[$l:location]?) => `(tactic| simp only [MM.runM, MM.rtS, MM.seqS, MM.ifS, MM.setS, MM.setO, MM.exS, MM.nilS, MM.rnS, MM.opE, MM.callE, MM.consA, MM.nilA, MM.cE, MM.vE, MM.oE, MM.andE, MM.orE, MM.notE, MM.negE, MM.ifE, MM.blE, MM.trE, MM.truth, MM.notT, MM.andT, MM.orT, MM.ttT, MM.tupE, MM.lstE, MM.slE, MM.someP, MM.noP, MM.bmE, MM.tyF, MM.f1E, MM.compE, MM.capE, MM.itemsL, MM.itemsS, MM.itemsT, MM.intF, MM.ok_b, MM.exc_b, MM.stuck_b, List.map_cons, List.map_nil, List.cons_append, List.nil_append, List.append_nil, List.getElem?_cons_zero, List.getElem?_cons_succ, List.set_cons_zero, List.set_cons_succ, List.length_cons, List.length_nil, List.replicate, MM.look, PySem.sizeLine_eq, ↓reduceIte, if_true, if_false, Bool.not_true, Bool.not_false, Bool.false_eq_true, Bool.and_true, Bool.true_and, Bool.false_and, Bool.and_false, MM.kd_str, MM.kd_int, MM.kd_bool, MM.kd_tuple, MM.kd_list, MM.isF, MM.kdU, BB.isStr, BB.isInt, BB.isBool, BB.isTup, MM.isLst, MM.at0, MM.at1, MM.at2, MM.at3, beq_self_eq_true, MM.neF, MM.eqF, MM.eqU, MM.eqNs, MM.deep, MM.lenF, MM.partF, MM.ixF, and_self, and_true, true_and, Nat.reduceAdd, Nat.reduceSub, Nat.reduceLeDiff, Nat.reduceLT, Int.reduceLT, Int.reduceLE, decide_true, decide_false, Nat.zero_add, Int.reduceBEq, Int.reduceAdd, Int.cast_ofNat_Int, $xs,*] $[$l:location]?)
namespace K81
open PySem PyProof.Rows BB PP
open L2 hiding eqU
open MM
structure PersT (t : Str) : Prop where
  pers : personF t = true
  len : t.length ≤ 15
  bl : 32 ∉ t.cps.toList
  nl : 10 ∉ t.cps.toList
  plain : Plain t
theorem PersT.small {t : Str} (h : PersT t) : t.length < sizeLine := by have := h.len; rw [sizeLine_eq]; omega
theorem e_made {t sg : Str} {m : Int} {g : Gm} (h : t.length < sizeLine) : f_is_made_of [.str t, .str sg, .int m] g = .ok (.bl (madeF t sg m)) g := by
  have hc : compL ttT (opE inF (vE 0) (vE 1)) [.v (.str sg)] (MM.signs t) g = .ok (t.cps.toList.map fun c => .bl (decide (c ∈ sg.cps.toList))) g := by
    unfold MM.signs
    generalize t.cps.toList = l
    induction l with
    | nil => rfl
    | cons c l ih =>
      simp only [mmS, compL_cons, inF, inU, StrLaws.found_one, ih]
  have hl : (MM.signs t).length < sizeLine := by rw [signs_len]; exact h
  have hb : ∀ l : List Nat, blsOf (l.map fun c => U.bl (decide (c ∈ sg.cps.toList))) = some (l.map fun c => decide (c ∈ sg.cps.toList)) := by
    intro l
    induction l with
    | nil => rfl
    | cons c l ih => simp only [List.map_cons, blsOf, ih, Option.map_some]
  have hl2 : t.length ≤ sizeLine := Nat.le_of_lt h
  rw [sizeLine_eq] at hl hl2
  simp only [mmS, f_is_made_of, m_is_made_of, neF, MM.eqU, eqNs, deep, lenF, hl2, hl, hc, allF, hb, if_true]
  rw [show madeF t sg m = (!(t == "") && decide ((t.length : Int) ≤ m) && t.cps.toList.all fun c => decide (c ∈ sg.cps.toList)) by unfold madeF; rw [str_beq], List.all_map]
  cases (!(t == "")) with
  | false => rfl
  | true =>
    cases decide ((t.length : Int) ≤ m) with
    | false => rfl
    | true => rfl
theorem e_house {t : Str} {g : Gm} (h : t.length < sizeLine) : f_is_house [.str t] g = .ok (.bl (madeF t SM 6)) g := by
  simp only [mmS, f_is_house, m_is_house, k_HOUSE_SIGNS, k_HOUSE_LENGTH, e_made h]
theorem e_person {t : Str} {g : Gm} (h : t.length < sizeLine) : f_is_person [.str t] g = .ok (.bl (personF t)) g := by
  have hs : t.length ≤ 16777216 := by rw [← sizeLine_eq]; exact Nat.le_of_lt h
  obtain ⟨l1, l2⟩ := part_small (y := "@") h
  have a1 : (("@" : Str).length == 0) = false := by decide +kernel
  simp only [mmS, f_is_person, m_is_person, k_NAME_SIGNS, k_NAME_LENGTH, a1, hs, e_made l1, e_house l2]
  unfold personF
  show _ = Res.ok (U.bl (madeF (partP t "@").1 NM 8 && madeF (partP t "@").2.2 SM 6)) g
  cases madeF (partP t "@").1 NM 8 with
  | false => rfl
  | true => rfl
theorem e_check {t : Str} {g : Gm} (h : t.length < sizeLine) (hp : personF t = true) : f_check_person [.str t] g = .ok .non g := by
  simp only [mmS, f_check_person, m_check_person, e_person h, hp]
theorem e_parts {t : Str} {g : Gm} (h : t.length < sizeLine) (hp : personF t = true) : f_parts_of [.str t] g = .ok (.tup [.str (partP t "@").1, .str (partP t "@").2.1, .str (partP t "@").2.2]) g := by
  have hs : t.length ≤ 16777216 := by rw [← sizeLine_eq]; exact Nat.le_of_lt h
  have a1 : (("@" : Str).length == 0) = false := by decide +kernel
  simp only [mmS, f_parts_of, m_parts_of, e_check h hp, a1, hs]
theorem e_home {t : Str} {g : Gm} (h : t.length < sizeLine) (hp : personF t = true) : f_house_of [.str t] g = .ok (.str (homeF t)) g := by
  simp only [mmS, f_house_of, m_house_of, e_parts h hp]
  rfl
theorem e_whole {i : Int} {g : Gm} : f_is_whole [.int i] g = .ok (.bl true) g := by
  simp only [mmS, f_is_whole, m_is_whole]
theorem e_asks {i : Int} {g : Gm} : f_asks [.int i] g = .ok (.bl (i % 2 == 1)) g := by
  simp only [mmS, f_asks, m_asks, show (0 : Int) < 2 by decide]
theorem e_askw {i : Int} {g : Gm} (h : 0 < i) (h2 : i % 2 = 1) : f_is_asking_wish [.int i] g = .ok (.bl true) g := by
  simp only [mmS, f_is_asking_wish, m_is_asking_wish, e_whole, e_asks, h, h2, decide_true]
theorem e_nought {g : Gm} : f_is_nought [.int 0] g = .ok (.bl true) g := by
  simp only [mmS, f_is_nought, m_is_nought, e_whole]
inductive Ans : Int → Str → U → Prop
  | no : Ans 0 "none" (.int 0)
  | lets {n i : Int} : 1 ≤ n → 0 < i → i % 2 = 1 → i < 10 ^ 20 → Ans n "lets" (.int i)
  | refuses {n i : Int} : 1 ≤ n → 0 < i → i % 2 = 1 → i < 10 ^ 20 → Ans n "refuses" (.int i)
  | bars {n : Int} : 1 ≤ n → Ans n "bars" (.int 0)
  | gone {n : Int} : 1 ≤ n → Ans n "gone" (.int 0)
  | opn {n : Int} : 2 ≤ n → Ans n "open" (.int 0)
  | moved {n : Int} {t : Str} : 1 ≤ n → PersT t → Ans n "moved" (.str t)
theorem least {g : Gm} {w : Str} {k : Int} (h : getU k_LEAST_NUMBER (.str w) = some (some (.int k))) {n : Int} (hn : k ≤ n) (hw : (w == "none") = false) : f_number_fits [.int n, .str w] g = .ok (.bl true) g := by
  have h1 : inU g (.str w) k_LEAST_NUMBER = some true := by
    show (getU k_LEAST_NUMBER (.str w)).map (·.isSome) = some true
    rw [h]; rfl
  have h2 : ixF k_LEAST_NUMBER (.str w) g = .ok (.int k) g := by
    show (match getU k_LEAST_NUMBER (.str w) with | some (some u) => Res.ok u g | _ => .stuck) = _
    rw [h]
  simp only [f_number_fits, m_number_fits, runM, seqS, ifS, blE, rtS, nilS, opE, vE, cE, andE, ok_b, eqF, MM.eqU, eqNs, deep, look, hw, inF, h1, h2, intF, List.map_cons, List.map_nil, List.cons_append, List.nil_append, List.getElem?_cons_zero, List.getElem?_cons_succ, ↓reduceIte, if_true, Bool.false_eq_true, hn, decide_true]
theorem isA {w : Str} {g : Gm} {x : Bool} (h : x = ((w == "lets") || (w == "refuses"))) : inU g (.str w) (.tup [.str "lets", .str "refuses"]) = some x := by
  subst h
  show anyEq _ _ = _
  simp only [anyEq, eqNs, look, Bool.or_false]
  rw [show ((("lets" : Str) == w) : Bool) = (w == "lets") by simp [BEq.comm], show ((("refuses" : Str) == w) : Bool) = (w == "refuses") by simp [BEq.comm]]
theorem e_answer {n : Int} {w : Str} {a : U} {g : Gm} (h : Ans n w a) : f_is_answer [.tup [.int n, .str w, a]] g = .ok (.bl true) g := by
  have hat : f_at_fits [a, .str w] g = .ok (.bl true) g := by
    cases h with
    | no =>
      have e1 := isA (w := "none") (g := g) (x := false) (by decide +kernel)
      have e2 : (("none" : Str) == "moved") = false := by decide +kernel
      simp only [mmS, f_at_fits, m_at_fits, inF, e1, e2, e_nought]
    | lets h1 h2 h3 h4 =>
      have e1 := isA (w := "lets") (g := g) (x := true) (by decide +kernel)
      simp only [mmS, f_at_fits, m_at_fits, inF, e1, e_askw h2 h3]
    | refuses h1 h2 h3 h4 =>
      have e1 := isA (w := "refuses") (g := g) (x := true) (by decide +kernel)
      simp only [mmS, f_at_fits, m_at_fits, inF, e1, e_askw h2 h3]
    | bars h1 =>
      have e1 := isA (w := "bars") (g := g) (x := false) (by decide +kernel)
      have e2 : (("bars" : Str) == "moved") = false := by decide +kernel
      simp only [mmS, f_at_fits, m_at_fits, inF, e1, e2, e_nought]
    | gone h1 =>
      have e1 := isA (w := "gone") (g := g) (x := false) (by decide +kernel)
      have e2 : (("gone" : Str) == "moved") = false := by decide +kernel
      simp only [mmS, f_at_fits, m_at_fits, inF, e1, e2, e_nought]
    | opn h1 =>
      have e1 := isA (w := "open") (g := g) (x := false) (by decide +kernel)
      have e2 : (("open" : Str) == "moved") = false := by decide +kernel
      simp only [mmS, f_at_fits, m_at_fits, inF, e1, e2, e_nought]
    | moved h1 h2 =>
      have e1 := isA (w := "moved") (g := g) (x := false) (by decide +kernel)
      simp only [mmS, f_at_fits, m_at_fits, inF, e1, e_person h2.small, h2.pers]
  have hnum : f_number_fits [.int n, .str w] g = .ok (.bl true) g := by
    cases h with
    | no => simp only [mmS, f_number_fits, m_number_fits]
    | lets h1 => exact least (k := 1) rfl h1 (by decide +kernel)
    | refuses h1 => exact least (k := 1) rfl h1 (by decide +kernel)
    | bars h1 => exact least (k := 1) rfl h1 (by decide +kernel)
    | gone h1 => exact least (k := 1) rfl h1 (by decide +kernel)
    | opn h1 => exact least (k := 2) rfl h1 (by decide +kernel)
    | moved h1 => exact least (k := 1) rfl h1 (by decide +kernel)
  have e3 : ((3 : Int) == 3) = true := rfl
  simp only [mmS, f_is_answer, m_is_answer, e_whole, hat, hnum]
end K81
namespace K81
open PySem PyProof.Rows BB PP
open L2 hiding eqU
open MM
structure RW where
  p : Str
  q : Str
  wd : Str
  w : Int
  n : Int
  a : U
def rowU (r : RW) : U := .tup [.str r.p, .str r.q, .int r.w, .tup [.int r.n, .str r.wd, r.a]]
structure VR (h : Str) (r : RW) : Prop where
  p : PersT r.p
  q : PersT r.q
  ne : r.p ≠ r.q
  hm : homeF r.p = h ∨ homeF r.q = h
  w0 : 0 ≤ r.w
  w1 : r.w < 10 ^ 20
  n1 : r.n < 10 ^ 20
  an : Ans r.n r.wd r.a
  tu : 0 < r.w ∨ 0 < r.n
theorem Ans.pos {n : Int} {w : Str} {a : U} (h : Ans n w a) : 0 ≤ n := by cases h <;> omega
theorem e_pair {h : Str} {r : RW} {g : Gm} (v : VR h r) : f_is_pair_of [.str h, .str r.p, .str r.q] g = .ok (.bl true) g := by
  have e1 : (r.p == r.q) = false := by simpa using v.ne
  have e2 : inU g (.str h) (.tup [.str (homeF r.p), .str (homeF r.q)]) = some true := by
    show anyEq _ _ = _
    simp only [anyEq, eqNs, look, Bool.or_false]
    rcases v.hm with z | z
    · rw [z]; simp
    · rw [z]; simp
  simp only [mmS, f_is_pair_of, m_is_pair_of, e_person v.p.small, e_person v.q.small, v.p.pers, v.q.pers, e1, e_home v.p.small v.p.pers, e_home v.q.small v.q.pers, inF, e2]
theorem e_row {h : Str} {r : RW} {g : Gm} (v : VR h r) : f_is_row [.str h, rowU r] g = .ok (.bl true) g := by
  have n0 := v.an.pos
  have e1 : decide (r.w < 0) = false := decide_eq_false (by have := v.w0; omega)
  unfold rowU
  simp only [mmS, f_is_row, m_is_row, e_pair v, e_whole, e1, e_answer v.an]
  rcases v.tu with z | z
  · rw [decide_eq_true z]; rfl
  · rw [decide_eq_true z]
    cases decide (0 < r.w) with
    | true => rfl
    | false => rfl
def txt : U → Str
  | .str z => z
  | .int i => numS i
  | _ => ""
def TPa (u : U) : Prop := (∃ z, u = .str z ∧ z.length ≤ 200) ∨ ∃ i : Int, u = .int i ∧ 0 ≤ i ∧ i < 10 ^ 20
theorem TPa.len {u : U} (h : TPa u) : (txt u).length ≤ 200 := by
  rcases h with ⟨z, rfl, h⟩ | ⟨i, rfl, h0, h1⟩
  · exact h
  · have := (num_text h0 h1).len; show (numS i).length ≤ 200; omega
theorem str_of {u : U} {g : Gm} (h : TPa u) : strOf [u] g = .ok (.str (txt u)) g := by
  rcases h with ⟨z, rfl, h⟩ | ⟨i, rfl, h0, h1⟩
  · rfl
  · show (if i.natAbs.log2 < 1920 then _ else _) = _
    rw [if_pos (log_small h0 h1)]; rfl
theorem strs_map {α : Type} (f : α → Str) : ∀ l : List α, strsOf (l.map fun x => .str (f x)) = some (l.map f)
  | [] => rfl
  | x :: l => by simp only [List.map_cons, strsOf, strs_map f l, Option.map_some]
theorem comp_map {α : Type} {mt : Mt} {me : Me} {envc : MM.Env} {k h : α → U} : ∀ {l : List α} {g : Gm}, (∀ x ∈ l, mt (.v (k x) :: envc) g = .ok true g ∧ me (.v (k x) :: envc) g = .ok (h x) g) → compL mt me envc (l.map k) g = .ok (l.map h) g
  | [], _, _ => rfl
  | x :: l, g, c => by
    obtain ⟨a, b⟩ := c x (List.mem_cons_self ..)
    rw [List.map_cons, compL_cons, a]; dsimp only
    rw [b]; dsimp only
    rw [comp_map fun y hy => c y (List.mem_cons_of_mem _ hy)]
    rfl
theorem e_join {sep : Str} {us : List U} {ts : List Str} {g : Gm} (h1 : sep.length ≤ 1) (e : strsOf us = some ts) (hl : ts.length ≤ 400) (h : ∀ s ∈ ts, s.length ≤ 200) : joinF (.str sep) [.lst us] g = .ok (.str (Str.join sep ts)) g := by
  obtain ⟨j1, j2, _⟩ := join_ok sep h1 hl h
  simp only [joinF, look, e, j1, j2, and_self, ↓reduceIte]
theorem e_turn {us : List U} {g : Gm} (hl : us.length ≤ 100) (h : ∀ u ∈ us, TPa u) : f_turn_text [.tup us] g = .ok (.str (Str.join " " (us.map txt))) g := by
  have hc : compL ttT (callE strOf (consA (vE 0) nilA)) [] us g = .ok (us.map fun u => .str (txt u)) g := by
    have := comp_map (k := fun u : U => u) (h := fun u => U.str (txt u)) (l := us) (g := g) (mt := ttT) (me := callE strOf (consA (vE 0) nilA)) (envc := []) fun u hu => ⟨rfl, by simp only [mmS, str_of (h u hu)]⟩
    simpa using this
  have hj := e_join (sep := " ") (g := g) (by decide +kernel) (strs_map txt us) (by rw [List.length_map]; omega) (fun s hs => by obtain ⟨u, hu, rfl⟩ := List.mem_map.mp hs; exact (h u hu).len)
  have hl2 : us.length < 16777216 := by omega
  simp only [mmS, f_turn_text, m_turn_text, hl2, hc, hj]
def wordsR (r : RW) : List U := [.str r.p, .str r.q, .int r.w, .int r.n, .str r.wd, r.a]
def lineR (r : RW) : Str := Str.join " " ((wordsR r).map txt)
theorem Ans.word {n : Int} {w : Str} {a : U} (h : Ans n w a) : Plain w ∧ w.length ≤ 7 ∧ 32 ∉ w.cps.toList ∧ 10 ∉ w.cps.toList := by
  cases h <;> first
    | exact ⟨⟨101, by decide +kernel, by decide⟩, by decide +kernel, by decide +kernel, by decide +kernel⟩
    | exact ⟨⟨97, by decide +kernel, by decide⟩, by decide +kernel, by decide +kernel, by decide +kernel⟩
def RPa (u : U) : Prop := (∃ i : Int, u = .int i ∧ 0 ≤ i ∧ i < 10 ^ 20) ∨ ∃ z, u = .str z ∧ Plain z ∧ z.length ≤ 15 ∧ 32 ∉ z.cps.toList ∧ 10 ∉ z.cps.toList
theorem RPa.tp {u : U} (h : RPa u) : TPa u := by
  rcases h with ⟨i, rfl, h⟩ | ⟨z, rfl, _, h, _⟩
  · exact .inr ⟨i, rfl, h⟩
  · exact .inl ⟨z, rfl, by omega⟩
theorem RPa.signs {u : U} (h : RPa u) : (txt u).length ≤ 20 ∧ 32 ∉ (txt u).cps.toList ∧ 10 ∉ (txt u).cps.toList := by
  rcases h with ⟨i, rfl, h0, h1⟩ | ⟨z, rfl, _, h, h3, h4⟩
  · have t := num_text h0 h1
    exact ⟨t.len, fun z => by have := (t.dig _ z).1; omega, fun z => by have := (t.dig _ z).1; omega⟩
  · exact ⟨by show z.length ≤ 20; omega, h3, h4⟩
theorem Ans.at {n : Int} {w : Str} {a : U} (h : Ans n w a) : RPa a := by
  cases h with
  | no => exact .inl ⟨0, rfl, by decide, by decide⟩
  | lets _ h1 _ h3 => exact .inl ⟨_, rfl, by omega, h3⟩
  | refuses _ h1 _ h3 => exact .inl ⟨_, rfl, by omega, h3⟩
  | bars => exact .inl ⟨0, rfl, by decide, by decide⟩
  | gone => exact .inl ⟨0, rfl, by decide, by decide⟩
  | opn => exact .inl ⟨0, rfl, by decide, by decide⟩
  | moved _ t => exact .inr ⟨_, rfl, t.plain, t.len, t.bl, t.nl⟩
theorem VR.words {h : Str} {r : RW} (v : VR h r) : ∀ u ∈ wordsR r, RPa u := by
  obtain ⟨a1, a2, a3, a4⟩ := v.an.word
  intro u hu
  simp only [wordsR, List.mem_cons, List.not_mem_nil, or_false] at hu
  rcases hu with rfl | rfl | rfl | rfl | rfl | rfl
  · exact .inr ⟨_, rfl, v.p.plain, v.p.len, v.p.bl, v.p.nl⟩
  · exact .inr ⟨_, rfl, v.q.plain, v.q.len, v.q.bl, v.q.nl⟩
  · exact .inl ⟨_, rfl, v.w0, v.w1⟩
  · exact .inl ⟨_, rfl, v.an.pos, v.n1⟩
  · exact .inr ⟨_, rfl, a1, by omega, a3, a4⟩
  · exact v.an.at
theorem join_short (sep : Str) (h1 : sep.length ≤ 1) (k : Nat) : ∀ (l : List Str), (∀ s ∈ l, s.length ≤ k) → (Str.join sep l).length ≤ l.length * (k + 1)
  | [], _ => by simp [Str.join, Str.length, Str.empty]
  | [x], h => by
    have := h x (List.mem_cons_self ..)
    have e : Str.join sep [x] = x := rfl
    rw [e]; simp; omega
  | x :: y :: l, h => by
    have ih := join_short sep h1 k (y :: l) fun s hs => h s (List.mem_cons_of_mem _ hs)
    have hx := h x (List.mem_cons_self ..)
    have e : (Str.join sep (x :: y :: l)).length = x.length + sep.length + (Str.join sep (y :: l)).length := by
      have : Str.join sep (x :: y :: l) = x ++ sep ++ Str.join sep (y :: l) := rfl
      rw [this]
      show ((x.cps ++ sep.cps) ++ (Str.join sep (y :: l)).cps).size = _
      rw [Array.size_append, Array.size_append]; rfl
    rw [e, List.length_cons, Nat.succ_mul]
    omega
theorem VR.line {h : Str} {r : RW} (v : VR h r) : (lineR r).length ≤ 200 ∧ 10 ∉ (lineR r).cps.toList := by
  constructor
  · have := join_short " " (by decide +kernel) 20 ((wordsR r).map txt) fun s hs => by
      obtain ⟨u, hu, rfl⟩ := List.mem_map.mp hs
      exact (v.words u hu).signs.1
    have l6 : ((wordsR r).map txt).length = 6 := rfl
    rw [l6] at this
    show (Str.join " " ((wordsR r).map txt)).length ≤ 200
    omega
  · unfold lineR
    rw [PP.join_list]
    have : ∀ (ws : List (List Nat)), (∀ w ∈ ws, 10 ∉ w) → 10 ∉ joinL 32 ws := by
      intro ws
      induction ws with
      | nil => intro _ z; simp [joinL] at z
      | cons w ws ih =>
        intro h z
        cases ws with
        | nil => simp only [joinL] at z; exact h w (List.mem_cons_self ..) z
        | cons w2 ws =>
          simp only [joinL] at z
          rcases List.mem_append.mp z with z | z
          · exact h w (List.mem_cons_self ..) z
          · rcases List.mem_cons.mp z with z | z
            · cases z
            · exact ih (fun x hx => h x (List.mem_cons_of_mem _ hx)) z
    refine this _ fun w hw => ?_
    obtain ⟨s, hs, rfl⟩ := List.mem_map.mp hw
    obtain ⟨u, hu, rfl⟩ := List.mem_map.mp hs
    exact (v.words u hu).signs.2.2
theorem sl3 {a b c d : U} {g : Gm} : slF (.tup [a, b, c, d]) none (some 3) g = .ok (.tup [a, b, c]) g := rfl
theorem add6 {a b c d e f : U} {g : Gm} : addF (.tup [a, b, c]) (.tup [d, e, f]) g = .ok (.tup [a, b, c, d, e, f]) g := rfl
theorem e_line {h : Str} {r : RW} {g : Gm} (v : VR h r) : f_turn_text [.tup (wordsR r)] g = .ok (.str (lineR r)) g := e_turn (by show 6 ≤ 100; decide) fun u hu => (v.words u hu).tp
theorem cat_len (a b : Str) : (a ++ b).length = a.length + b.length := by
  show (a.cps ++ b.cps).size = _
  rw [Array.size_append]; rfl
theorem cat_cps (a b : Str) : (a ++ b).cps.toList = a.cps.toList ++ b.cps.toList := by
  show (a.cps ++ b.cps).toList = _
  rw [Array.toList_append]
def bookS (h : Str) (rs : List RW) : Str := Str.join "\n" (("book " ++ h) :: rs.map lineR)
theorem book5 : ("book " : Str).length = 5 := by decide +kernel
theorem bookL {h : Str} {rs : List RW} (hh : h.length ≤ 6) (hl : rs.length ≤ 40) (v : ∀ r ∈ rs, VR h r) : (("book " ++ h) :: rs.map lineR).length ≤ 41 ∧ ∀ s ∈ ("book " ++ h) :: rs.map lineR, s.length ≤ 200 := by
  refine ⟨by rw [List.length_cons, List.length_map]; omega, fun s hs => ?_⟩
  rcases List.mem_cons.mp hs with rfl | hs
  · rw [cat_len, book5]; omega
  · obtain ⟨r, hr, rfl⟩ := List.mem_map.mp hs
    exact (v r hr).line.1
theorem e_book {h : Str} {rs : List RW} {g : Gm} (hh : h.length ≤ 6) (hl : rs.length ≤ 40) (v : ∀ r ∈ rs, VR h r) : f_book_text [.str h, .lst (rs.map rowU)] g = .ok (.str (bookS h rs)) g := by
  have hc : compL ttT (callE f_turn_text (consA (opE addF (slE slF (vE 0) noP (someP (cE (.int 3)))) (opE ixF (vE 0) (cE (.int 3)))) nilA)) [] (rs.map rowU) g = .ok (rs.map fun r => .str (lineR r)) g := by
    refine comp_map fun r hr => ⟨rfl, ?_⟩
    have e := e_line (g := g) (v r hr)
    unfold wordsR at e
    simp only [mmS, rowU, sl3, add6, e]
  have hl2 : (rs.map rowU).length < 16777216 := by rw [List.length_map]; omega
  have hl3 : 5 + h.length ≤ 16777216 := by omega
  obtain ⟨b1, b2⟩ := bookL hh hl v
  have hj := e_join (sep := "\n") (us := .str ("book " ++ h) :: rs.map fun r => .str (lineR r)) (ts := ("book " ++ h) :: rs.map lineR) (g := g) (by decide +kernel) (by simp only [strsOf, strs_map, Option.map_some]) (by omega) b2
  have hl4 : 1 + (rs.map fun r => U.str (lineR r)).length ≤ 16777216 := by rw [List.length_map]; omega
  simp only [mmS, f_book_text, m_book_text, hl2, hc, book5, hl3, catF, hl4, hj]
  rfl
theorem e_numt {n : Int} {t : Str} {g : Gm} (h : NumT n t) : f_is_number_text [.str t] g = .ok (.bl true) g := by
  have hl := h.len
  have hs : t.length < sizeLine := by rw [sizeLine_eq]; omega
  have hs2 : t.length ≤ 16777216 := by omega
  have e1 : madeF t "0123456789" 20 = true := made_num h
  have hor : (t == "0") = true ∨ ∃ c r, t.cps.toList = c :: r ∧ ((⟨#[c]⟩ : Str) == "0") = false := by
    rcases h.led with z | ⟨c, r, e, ne⟩
    · left; rw [z]; simp
    · right
      refine ⟨c, r, e, ?_⟩
      have : (⟨#[c]⟩ : Str) ≠ "0" := fun z => ne (by
        have := congrArg (fun s : Str => s.cps.toList) z
        have e0 : ("0" : Str).cps.toList = [48] := by decide +kernel
        simp only [e0] at this
        simpa using this)
      simpa using this
  rcases hor with z | ⟨c, r, e, z⟩
  · simp only [mmS, f_is_number_text, m_is_number_text, k_FIGURES, k_MOST_FIGURES, e_made hs, e1, z]
  · cases q : (t == "0") with
    | true => simp only [mmS, f_is_number_text, m_is_number_text, k_FIGURES, k_MOST_FIGURES, e_made hs, e1, q]
    | false => simp only [mmS, f_is_number_text, m_is_number_text, k_FIGURES, k_MOST_FIGURES, e_made hs, e1, q, hs2, e, z]
theorem e_plain {t : Str} {g : Gm} (h : Plain t) (hl : t.length ≤ 200) : f_is_number_text [.str t] g = .ok (.bl false) g := by
  have hs : t.length < sizeLine := by rw [sizeLine_eq]; omega
  have e1 : madeF t "0123456789" 20 = false := made_plain h
  simp only [mmS, f_is_number_text, m_is_number_text, k_FIGURES, k_MOST_FIGURES, e_made hs, e1]
theorem e_rword {u : U} {g : Gm} (h : RPa u) : f_read_word [.str (txt u)] g = .ok u g := by
  rcases h with ⟨i, rfl, h0, h1⟩ | ⟨z, rfl, hp, hl, _⟩
  · have t := num_text h0 h1
    have e1 : intOf [.str (numS i)] g = .ok (.int i) g := by
      have l := t.len
      simp only [intOf, t.val, show (numS i).length ≤ 640 by omega, ↓reduceIte]
    have et : txt (.int i) = numS i := rfl
    simp only [mmS, f_read_word, m_read_word, et, e_numt t, e1]
  · have et : txt (.str z) = z := rfl
    simp only [mmS, f_read_word, m_read_word, et, e_plain (g := g) hp (by omega)]
theorem e_rparts {us : List U} {g : Gm} (hne : us ≠ []) (hl : us.length ≤ 100) (h : ∀ u ∈ us, RPa u) : f_read_parts [.str (Str.join " " (us.map txt))] g = .ok (.tup us) g := by
  have hts : ∀ s ∈ us.map txt, s.length ≤ 200 ∧ 32 ∉ s.cps.toList := fun s hs => by
    obtain ⟨u, hu, rfl⟩ := List.mem_map.mp hs
    exact ⟨(h u hu).tp.len, (h u hu).signs.2.1⟩
  obtain ⟨_, _, j3⟩ := join_ok " " (by decide +kernel) (ts := us.map txt) (by rw [List.length_map]; omega) (fun s hs => (hts s hs).1)
  have esp := split_join (ws := us.map txt) (by simpa using hne) (fun w hw => (hts w hw).2)
  have es : splitF (.str (Str.join " " (us.map txt))) [.str " "] g = .ok (.lst ((us.map txt).map .str)) g := by
    simp only [splitF]
    rw [if_pos ⟨by decide +kernel, j3, parts_len j3⟩, esp]
  have hc : compL ttT (callE f_read_word (consA (vE 0) nilA)) [] ((us.map txt).map .str) g = .ok us g := by
    have := comp_map (k := fun u : U => U.str (txt u)) (h := fun u : U => u) (l := us) (g := g) (mt := ttT) (me := callE f_read_word (consA (vE 0) nilA)) (envc := []) fun u hu => ⟨rfl, by simp only [mmS, e_rword (h u hu)]⟩
    rw [List.map_map]
    simpa [Function.comp_def] using this
  have hl2 : ((us.map txt).map U.str).length < 16777216 := by rw [List.length_map, List.length_map]; omega
  simp only [mmS, f_read_parts, m_read_parts, es, hl2, hc, tupleF]
theorem cut6 {a b c d e f : U} {g : Gm} : slF (.tup [a, b, c, d, e, f]) none (some 3) g = .ok (.tup [a, b, c]) g := rfl
theorem cut6' {a b c d e f : U} {g : Gm} : slF (.tup [a, b, c, d, e, f]) (some 3) none g = .ok (.tup [d, e, f]) g := rfl
theorem add4 {a b c d : U} {g : Gm} : addF (.tup [a, b, c]) (.tup [d]) g = .ok (.tup [a, b, c, d]) g := rfl
theorem e_rrow {h : Str} {r : RW} {g : Gm} (v : VR h r) : f_read_row [.str (lineR r)] g = .ok (rowU r) g := by
  have e := e_rparts (us := wordsR r) (g := g) (by simp [wordsR]) (by show 6 ≤ 100; decide) v.words
  have e2 : f_read_parts [.str (lineR r)] g = .ok (.tup [.str r.p, .str r.q, .int r.w, .int r.n, .str r.wd, r.a]) g := e
  simp only [mmS, f_read_row, m_read_row, e2, cut6, cut6', add4, rowU]
def HouseS (t : Str) : Prop := 0 < t.length ∧ t.length ≤ 6 ∧ ∀ c ∈ t.cps.toList, c ∈ SM.cps.toList
theorem HouseS.no {t : Str} (h : HouseS t) : 32 ∉ t.cps.toList ∧ 10 ∉ t.cps.toList ∧ 64 ∉ t.cps.toList :=
  ⟨fun z => absurd (h.2.2 32 z) (by decide +kernel), fun z => absurd (h.2.2 10 z) (by decide +kernel), fun z => absurd (h.2.2 64 z) (by decide +kernel)⟩
theorem e_rhead {h : Str} {g : Gm} (hh : HouseS h) : f_read_head [.str ("book " ++ h)] g = .ok (.str h) g := by
  have ej : ("book " ++ h : Str) = Str.join " " [("book" : Str), h] := by
    refine str_ext ?_
    rw [PP.join_list, cat_cps]
    show _ = joinL 32 [("book" : Str).cps.toList, h.cps.toList]
    simp only [joinL]
    have : ("book " : Str).cps.toList = ("book" : Str).cps.toList ++ [32] := by decide +kernel
    rw [this]; simp
  have hs : ("book " ++ h : Str).length < sizeLine := by rw [cat_len, book5, sizeLine_eq]; have := hh.2.1; omega
  have esp : Txt.split ("book " ++ h : Str) " " = [("book" : Str), h] := by
    rw [ej]
    exact split_join (by simp) fun w hw => by
      rcases List.mem_cons.mp hw with rfl | hw
      · decide +kernel
      · obtain rfl := List.mem_singleton.mp hw; exact hh.no.1
  have es : splitF (.str ("book " ++ h)) [.str " "] g = .ok (.lst [.str "book", .str h]) g := by
    simp only [splitF]
    rw [if_pos ⟨by decide +kernel, hs, parts_len hs⟩, esp]; rfl
  have hh2 : h.length < sizeLine := by rw [sizeLine_eq]; have := hh.2.1; omega
  have hm : madeF h SM 6 = true := by
    have : madeF h SM ((6 : Nat) : Int) = true := by
      rw [made_list]
      have l1 : h.cps.toList.length = h.length := by simp [Str.length]
      exact madeL_true (by have := hh.1; omega) (by have := hh.2.1; omega) hh.2.2
    exact this
  simp only [mmS, f_read_head, m_read_head, es, e_house hh2, hm]
end K81
namespace K81
open PySem PyProof.Rows BB PP
open L2 hiding eqU
open MM
def kl (a b : RW) : Prop := a.p.cps.toList < b.p.cps.toList ∨ (a.p = b.p ∧ a.q.cps.toList < b.q.cps.toList)
theorem le_no {a b : RW} (h : kl a b) : lexLe [.str b.p, .str b.q] [.str a.p, .str a.q] = some false := by
  rcases h with h | ⟨e, h⟩
  · have ne : (b.p == a.p) = false := by
      have : b.p ≠ a.p := fun z => by rw [z] at h; exact List.lt_irrefl _ h
      simpa using this
    simp only [lexLe, eqNs, ne, le1, decide_eq_true h, Bool.not_true]
  · have ne : (b.q == a.q) = false := by
      have : b.q ≠ a.q := fun z => by rw [z] at h; exact List.lt_irrefl _ h
      simpa using this
    have e' : (b.p == a.p) = true := by simp [e]
    simp only [lexLe, eqNs, ne, e', le1, decide_eq_true h, Bool.not_true]
theorem cut2 {r : RW} {g : Gm} : slF (rowU r) none (some 2) g = .ok (.tup [.str r.p, .str r.q]) g := rfl
def bodyR : Ms := (seqS (setS 5 (callE f_read_row (consA (opE ixF (vE 1) (vE 4)) nilA)))
  (seqS (ifS (orT (notT (trE (callE f_is_row (consA (vE 2) (consA (vE 5) nilA))))) (andT (blE (opE neF (vE 3) (lstE nilA))) (blE (opE leT (slE slF (vE 5) noP (someP (cE (.int 2)))) (slE slF (opE ixF (vE 3) (negE (cE (.int 1)))) noP (someP (cE (.int 2)))))))) stuckS
  nilS)
  (exS (mutC appM (vE 3) (consA (vE 5) nilA)))))
theorem e_body {h : Str} {L : List U} {k j : Nat} {r : RW} {done : List RW} {g : Gm} {t : U} {x5 : Sl} (v : VR h r) (eL : L[k]? = some (.str (lineR r))) (eg : g[j]? = some (.lst (done.map rowU))) (hd : done.length ≤ 100) (hk : ∀ d ∈ done.getLast?, kl d r) :
    bodyR [.v t, .v (.lst L), .v (.str h), .v (.ref j), .v (.int (k : Nat)), x5] g = .ok (.nx, [.v t, .v (.lst L), .v (.str h), .v (.ref j), .v (.int (k : Nat)), .v (rowU r)]) (g.set j (.lst ((done ++ [r]).map rowU))) := by
  have e1 : ixF (.lst L) (.int (k : Nat)) g = .ok (.str (lineR r)) g := by
    simp only [ixF, look, MM.atI_nat, eL]
  have lk : look g (.ref j) = .lst (done.map rowU) := by simp only [look, eg]
  have app : appM (done.map rowU) [rowU r] g = some ((done ++ [r]).map rowU, .non) := by
    simp only [appM]
    rw [if_pos (by rw [List.length_map, sizeLine_eq]; omega), List.map_append]; rfl
  rcases List.eq_nil_or_concat done with rfl | ⟨ini, l, rfl⟩
  · have ne : neF (.ref j) (.lst []) g = .ok (.bl false) g := by
      simp only [neF, MM.eqU, deep, lk]
      rfl
    simp only [bodyR, seqS, setS, ifS, orT, notT, trE, truth, andT, blE, exS, nilS, mutC, callE, opE, consA, nilA, vE, lstE, ok_b, List.getElem?_cons_zero, List.getElem?_cons_succ, List.set_cons_zero, List.set_cons_succ, e1, e_rrow v, e_row v, ne, eg, tyF, lk, app, List.length_nil, look, sizeLine_eq, ↓reduceIte, Nat.reduceLeDiff, Bool.not_true, Bool.false_eq_true, beq_self_eq_true, Nat.zero_le]
  · rw [List.concat_eq_append] at *
    have kk : kl l r := hk l (by simp)
    obtain ⟨x, xs, ex⟩ : ∃ x xs, (ini ++ [l]).map rowU = x :: xs := by
      cases ini with
      | nil => exact ⟨_, _, rfl⟩
      | cons a b => exact ⟨_, _, rfl⟩
    have ne : neF (.ref j) (.lst []) g = .ok (.bl true) g := by
      simp only [neF, MM.eqU, deep, lk, ex]
      rfl
    have e2 : ixF (.ref j) (.int (-1)) g = .ok (rowU l) g := by
      simp only [ixF, lk]
      rw [List.map_append, List.map_cons, List.map_nil, MM.atI_last]
    have e3 : leT (.tup [.str r.p, .str r.q]) (.tup [.str l.p, .str l.q]) g = .ok (.bl false) g := by
      simp only [leT, look, le_no kk]
    simp only [bodyR, seqS, setS, ifS, orT, notT, trE, truth, andT, blE, exS, nilS, mutC, callE, opE, consA, nilA, cE, negE, slE, noP, someP, vE, lstE, ok_b, List.getElem?_cons_zero, List.getElem?_cons_succ, List.set_cons_zero, List.set_cons_succ, e1, e2, e3, cut2, e_rrow v, e_row v, ne, eg, tyF, lk, app, List.length_nil, look, sizeLine_eq, ↓reduceIte, Nat.reduceLeDiff, Bool.not_true, Bool.false_eq_true, beq_self_eq_true, Nat.zero_le]
theorem e_read {h : Str} {rs : List RW} {g : Gm} (hh : HouseS h) (hl : rs.length ≤ 40) (v : ∀ r ∈ rs, VR h r) (so : rs.Pairwise kl) : f_read_book_text [.str (bookS h rs)] g = .ok (.tup [.str h, .ref g.length]) (g ++ [.lst (rs.map rowU)]) := by
  obtain ⟨b1, b2⟩ := bookL hh.2.1 hl v
  obtain ⟨_, _, j3⟩ := join_ok "\n" (by decide +kernel) (ts := ("book " ++ h) :: rs.map lineR) (by omega) b2
  have esp : Txt.split (bookS h rs) "\n" = ("book " ++ h) :: rs.map lineR := split_joinN (by simp) fun w hw => by
    rcases List.mem_cons.mp hw with rfl | hw
    · rw [cat_cps]
      intro z
      rcases List.mem_append.mp z with z | z
      · revert z; decide +kernel
      · exact hh.no.2.1 z
    · obtain ⟨r, hr, rfl⟩ := List.mem_map.mp hw
      exact (v r hr).line.2
  have es : splitF (.str (bookS h rs)) [.str "\n"] g = .ok (.lst ((("book " ++ h) :: rs.map lineR).map .str)) g := by
    simp only [splitF]
    rw [if_pos ⟨by decide +kernel, j3, parts_lenN j3⟩, esp]
  have er : rng2 (consA (cE (.int 1)) (consA (callE lenF (consA (vE 1) nilA)) nilA)) [.v (.str (bookS h rs)), .v (.lst ((("book " ++ h) :: rs.map lineR).map .str)), .v (.str h), .v (.ref g.length), .no, .no] (g ++ [.lst []]) = .ok (intsU 1 rs.length) (g ++ [.lst []]) := by
    have := rng2_eq (ma := consA (cE (.int 1)) (consA (callE lenF (consA (vE 1) nilA)) nilA)) (env := [.v (.str (bookS h rs)), .v (.lst ((("book " ++ h) :: rs.map lineR).map .str)), .v (.str h), .v (.ref g.length), .no, .no]) (g := g ++ [.lst []]) (g1 := g ++ [.lst []]) (i := 1) (j := ((rs.length + 1 : Nat) : Int))
      (by simp only [consA, nilA, cE, callE, vE, lenF, look, ok_b, List.getElem?_cons_zero, List.getElem?_cons_succ, List.length_map, List.length_cons]) (by decide) (by omega)
    rw [this, show (((rs.length + 1 : Nat) : Int) - 1).toNat = rs.length by omega]
  have lp := for_ok (t := nameG 4) (mb := bodyR) (us := intsU 1 rs.length) (env := [.v (.str (bookS h rs)), .v (.lst ((("book " ++ h) :: rs.map lineR).map .str)), .v (.str h), .v (.ref g.length), .no, .no]) (g := g ++ [.lst []])
    (fun k env g' => (∃ a b, env = [.v (.str (bookS h rs)), .v (.lst ((("book " ++ h) :: rs.map lineR).map .str)), .v (.str h), .v (.ref g.length), a, b]) ∧ g' = g ++ [.lst ((rs.take k).map rowU)]) 0 ⟨⟨_, _, rfl⟩, rfl⟩
    (by
      rintro k u env g' eu ⟨⟨a, b, rfl⟩, rfl⟩
      rw [Nat.zero_add]
      have hk : k < rs.length := by
        have := (List.getElem?_eq_some_iff.mp eu).1
        simpa [intsU] using this
      have eu2 : u = .int ((k + 1 : Nat) : Int) := by
        have : (intsU 1 rs.length)[k]? = some (.int (1 + (k : Int))) := by simp [intsU, hk]
        rw [this] at eu
        have := Option.some.inj eu
        rw [← this, show (1 + (k : Int)) = ((k + 1 : Nat) : Int) by omega]
      subst eu2
      refine ⟨_, _, rfl, ?_⟩
      have eb := e_body (h := h) (L := (("book " ++ h) :: rs.map lineR).map .str) (k := k + 1) (j := g.length) (r := rs[k]) (done := rs.take k) (g := g ++ [.lst ((rs.take k).map rowU)]) (t := .str (bookS h rs)) (x5 := b) (v _ (List.getElem_mem hk))
        (by simp [hk]) (by simp) (by rw [List.length_take]; omega) (fun d hd => by
          have hm : d ∈ rs.take k := List.mem_of_getLast? hd
          obtain ⟨i, hi, e⟩ := List.getElem_of_mem hm
          rw [List.length_take] at hi
          rw [List.getElem_take] at e
          rw [← e]
          exact List.pairwise_iff_getElem.mp so i k (by omega) hk (by omega))
      refine ok_of eb ⟨rfl, ⟨_, _, rfl⟩, ?_⟩
      rw [List.take_add_one, List.getElem?_eq_getElem hk]
      simp)
  obtain ⟨z, g', ez, z1, ⟨a, b, z2⟩, z3⟩ := ok_ex lp
  obtain ⟨fl, env'⟩ := z
  dsimp only at z1 z2
  subst z1 z2 z3
  have le2 : (intsU 1 rs.length).length = rs.length := by simp [intsU]
  rw [le2, Nat.zero_add, List.take_length] at ez
  have e0 : ixF (.lst ((("book " ++ h) :: rs.map lineR).map .str)) (.int 0) g = .ok (.str ("book " ++ h)) g := by
    simp only [ixF, look, List.map_cons, at0]
  have ez' : forL (nameG 4) (seqS (setS 5 (callE f_read_row (consA (opE ixF (vE 1) (vE 4)) nilA)))
      (seqS (ifS (orT (notT (trE (callE f_is_row (consA (vE 2) (consA (vE 5) nilA))))) (andT (blE (opE neF (vE 3) (lstE nilA))) (blE (opE leT (slE slF (vE 5) noP (someP (cE (.int 2)))) (slE slF (opE ixF (vE 3) (negE (cE (.int 1)))) noP (someP (cE (.int 2)))))))) stuckS nilS)
      (exS (mutC appM (vE 3) (consA (vE 5) nilA))))) (intsU 1 rs.length) [.v (.str (bookS h rs)), .v (.lst ((("book " ++ h) :: rs.map lineR).map .str)), .v (.str h), .v (.ref g.length), .no, .no] (g ++ [.lst []]) = _ := ez
  unfold f_read_book_text runM m_read_book_text
  show (seqS (ifS _ _ _) _ [.v (.str (bookS h rs)), .no, .no, .no, .no, .no] g).bind _ = _
  have s1 : ∀ m : Ms, seqS (ifS (notT (trE (callE isF (consA (vE 0) (consA (cE (.ty "str")) nilA))))) stuckS nilS) m [.v (.str (bookS h rs)), .no, .no, .no, .no, .no] g = m [.v (.str (bookS h rs)), .no, .no, .no, .no, .no] g := fun m => by
    simp only [mmS, ok_b]
  rw [s1]
  have s2 : ∀ m : Ms, seqS (setS 1 (bmE "str" splitF (vE 0) (consA (cE (.str "\n")) nilA))) m [.v (.str (bookS h rs)), .no, .no, .no, .no, .no] g = m [.v (.str (bookS h rs)), .v (.lst ((("book " ++ h) :: rs.map lineR).map .str)), .no, .no, .no, .no] g := fun m => by
    simp only [seqS, setS, bmE, vE, cE, consA, nilA, ok_b, tyF, look, es, List.getElem?_cons_zero, List.set_cons_zero, List.set_cons_succ, beq_self_eq_true, ↓reduceIte]
  rw [s2]
  have s3 : ∀ m : Ms, seqS (setS 2 (callE f_read_head (consA (opE ixF (vE 1) (cE (.int 0))) nilA))) m [.v (.str (bookS h rs)), .v (.lst ((("book " ++ h) :: rs.map lineR).map .str)), .no, .no, .no, .no] g = m [.v (.str (bookS h rs)), .v (.lst ((("book " ++ h) :: rs.map lineR).map .str)), .v (.str h), .no, .no, .no] g := fun m => by
    simp only [seqS, setS, callE, opE, vE, cE, consA, nilA, ok_b, e0, e_rhead hh, List.getElem?_cons_zero, List.getElem?_cons_succ, List.set_cons_zero, List.set_cons_succ]
  rw [s3]
  have s4 : ∀ m : Ms, seqS (setS 3 (cellE (lstE nilA))) m [.v (.str (bookS h rs)), .v (.lst ((("book " ++ h) :: rs.map lineR).map .str)), .v (.str h), .no, .no, .no] g = m [.v (.str (bookS h rs)), .v (.lst ((("book " ++ h) :: rs.map lineR).map .str)), .v (.str h), .v (.ref g.length), .no, .no] (g ++ [.lst []]) := fun m => by
    simp only [seqS, setS, cellE, lstE, nilA, ok_b, List.length_nil, Nat.zero_le, ↓reduceIte, List.set_cons_zero, List.set_cons_succ]
  rw [s4]
  have s5 : ∀ m : Ms, seqS (forS (rng2 (consA (cE (.int 1)) (consA (callE lenF (consA (vE 1) nilA)) nilA))) (nameG 4) bodyR) m [.v (.str (bookS h rs)), .v (.lst ((("book " ++ h) :: rs.map lineR).map .str)), .v (.str h), .v (.ref g.length), .no, .no] (g ++ [.lst []]) = m [.v (.str (bookS h rs)), .v (.lst ((("book " ++ h) :: rs.map lineR).map .str)), .v (.str h), .v (.ref g.length), a, b] (g ++ [.lst (rs.map rowU)]) := fun m => by
    unfold seqS forS
    rw [er, ok_b, ez]
    rfl
  have s6 := s5 (rtS (tupE (consA (vE 2) (consA (vE 3) nilA))))
  unfold bodyR at s6
  rw [s6]
  simp only [rtS, tupE, consA, nilA, vE, ok_b, List.getElem?_cons_zero, List.getElem?_cons_succ, List.length_cons, List.length_nil, sizeLine_eq, Nat.reduceAdd, Nat.reduceLeDiff, ↓reduceIte]
end K81
namespace K81
open PySem PyProof.Rows BB PP
open L2 hiding eqU
open MM
def mx (c k : Int) : Int :=
  let a := (c % 2147483647 + 7919 * k + 1) * 48271 % 2147483647
  let b := a * (a / 1009 + 69621) % 2147483647
  (b + 7 * k) * (b / 677 + 40692) % 2147483399
theorem mx_pos (c k : Int) : 0 ≤ mx c k ∧ mx c k < 2147483399 := ⟨Int.emod_nonneg _ (by decide), Int.emod_lt_of_pos _ (by decide)⟩
theorem cmL {i j : Int} (h : -1000000000000 < i ∧ i < 1000000000000) : CMul i j := .inl ⟨Int.lt_trans (by decide +kernel) h.1, Int.lt_trans h.2 (by decide +kernel)⟩
theorem cmR {i j : Int} (h : -1000000000000 < j ∧ j < 1000000000000) : CMul i j := .inr ⟨Int.lt_trans (by decide +kernel) h.1, Int.lt_trans h.2 (by decide +kernel)⟩
theorem e_mixed {c k : Int} {g : Gm} : f_law_mixed [.int c, .int k] g = .ok (.int (mx c k)) g := by
  have c1 : CMul 7919 k := cmL (by decide)
  have c2 : CMul (c % 2147483647 + 7919 * k + 1) 48271 := cmR (by decide)
  have a0 : 0 ≤ (c % 2147483647 + 7919 * k + 1) * 48271 % 2147483647 := Int.emod_nonneg _ (by decide)
  have a1 : (c % 2147483647 + 7919 * k + 1) * 48271 % 2147483647 < 2147483647 := Int.emod_lt_of_pos _ (by decide)
  unfold mx
  dsimp only
  generalize ha : (c % 2147483647 + 7919 * k + 1) * 48271 % 2147483647 = a at *
  have c3 : CMul a (a / 1009 + 69621) := cmL (by omega)
  have d3 : CDiv a 1009 := ⟨by decide, by decide⟩
  have b0 : 0 ≤ a * (a / 1009 + 69621) % 2147483647 := Int.emod_nonneg _ (by decide)
  have b1 : a * (a / 1009 + 69621) % 2147483647 < 2147483647 := Int.emod_lt_of_pos _ (by decide)
  generalize hb : a * (a / 1009 + 69621) % 2147483647 = b at *
  have c4 : CMul 7 k := cmL (by decide)
  have d5 : CDiv b 677 := ⟨by decide, by decide⟩
  have c5 : CMul (b + 7 * k) (b / 677 + 40692) := cmR (by omega)
  simp only [mmS, f_law_mixed, m_law_mixed, addF, c1, c2, c3, c4, c5, d3, d5, ha, hb]
def signAt (sg : Str) (i : Int) : Nat := sg.cps.toList.getD i.toNat 0
theorem sign_at {sg : Str} {z : Int} {g : Gm} (h0 : 0 < sg.length) (h1 : sg.length ≤ 100) (hz : 0 ≤ z) : ixF (.str sg) (.int (z % (sg.length : Int))) g = .ok (.str ⟨#[signAt sg (z % (sg.length : Int))]⟩) g ∧ signAt sg (z % (sg.length : Int)) ∈ sg.cps.toList := by
  have y0 : 0 ≤ z % (sg.length : Int) := Int.emod_nonneg _ (by omega)
  have y1 : z % (sg.length : Int) < sg.length := Int.emod_lt_of_pos _ (by omega)
  obtain ⟨n, hn⟩ : ∃ n : Nat, z % (sg.length : Int) = n := ⟨(z % (sg.length : Int)).toNat, by omega⟩
  rw [hn] at y1 ⊢
  have hl : n < sg.cps.toList.length := by have : sg.cps.toList.length = sg.length := by simp [Str.length]
                                           omega
  have e : sg.cps.toList[n]? = some (signAt sg (n : Int)) := by
    unfold signAt
    rw [Int.toNat_natCast, List.getD_eq_getElem?_getD, List.getElem?_eq_getElem hl]; rfl
  refine ⟨?_, List.mem_of_getElem? e⟩
  have hs : sg.length ≤ sizeLine := by rw [sizeLine_eq]; omega
  simp only [ixF, look, hs, ↓reduceIte, MM.atI_nat, e]
def wordL (c k most : Int) (sg : Str) : List Nat := (List.range (1 + mx c (40 * k + 39) % most).toNat).map fun (j : Nat) => signAt sg (mx c (40 * k + (0 + (j : Int))) % (sg.length : Int))
theorem join_signs : ∀ cs : List Nat, (Str.join "" (cs.map fun c => (⟨#[c]⟩ : Str))).cps.toList = cs
  | [] => by show Str.empty.cps.toList = []; decide +kernel
  | [c] => rfl
  | c :: d :: r => by
    show ((⟨#[c]⟩ : Str) ++ ("" : Str) ++ Str.join "" ((d :: r).map fun c => (⟨#[c]⟩ : Str))).cps.toList = _
    rw [cat_cps, cat_cps, join_signs (d :: r), show ("" : Str).cps.toList = [] by decide +kernel]; rfl
theorem join_sg (cs : List Nat) : Str.join "" (cs.map fun c => (⟨#[c]⟩ : Str)) = ⟨cs.toArray⟩ := str_ext (by rw [join_signs])
theorem e_word {c k most : Int} {sg : Str} {g : Gm} (m0 : 0 < most) (m1 : most ≤ 20) (h0 : 0 < sg.length) (h1 : sg.length ≤ 100) : f_law_word [.int c, .int k, .int most, .str sg] g = .ok (.str ⟨(wordL c k most sg).toArray⟩) g := by
  have y0 : 0 ≤ mx c (40 * k + 39) % most := Int.emod_nonneg _ (by omega)
  have y1 : mx c (40 * k + 39) % most < most := Int.emod_lt_of_pos _ m0
  have hl : (sg.length : Int) ≠ 0 := by omega
  have hl2 : (0 : Int) < sg.length := by omega
  have hs : sg.length ≤ 16777216 := by omega
  have cm : ∀ j : Int, CMul 40 j := fun j => cmL (by decide)
  have er := rng1_eq (ma := consA (vE 4) nilA) (env := [.v (.int c), .v (.int k), .v (.int most), .v (.str sg), .v (.int (1 + mx c (40 * k + 39) % most))]) (g := g) (g1 := g) (j := 1 + mx c (40 * k + 39) % most) rfl (by omega)
  have hc : compL ttT (opE ixF (vE 1) (opE modF (callE f_law_mixed (consA (vE 2) (consA (opE addF (opE mulF (cE (.int 40)) (vE 3)) (vE 0)) nilA))) (callE lenF (consA (vE 1) nilA)))) [.v (.str sg), .v (.int c), .v (.int k)] (intsU 0 (1 + mx c (40 * k + 39) % most).toNat) g = .ok ((wordL c k most sg).map fun c => .str ⟨#[c]⟩) g := by
    unfold intsU wordL
    rw [List.map_map]
    refine comp_map fun j _ => ⟨rfl, ?_⟩
    have e := (sign_at (g := g) h0 h1 (mx_pos c (40 * k + (0 + (j : Int)))).1).1
    simp only [opE, callE, consA, nilA, cE, vE, ok_b, List.getElem?_cons_zero, List.getElem?_cons_succ, intF, addF, look, cm, ↓reduceIte, e_mixed, lenF, hs, sizeLine_eq, hl2, e, Function.comp_def]
  have hn : (intsU 0 (1 + mx c (40 * k + 39) % most).toNat).length < 16777216 := by unfold intsU; rw [List.length_map, List.length_range]; omega
  have hw : (wordL c k most sg).length ≤ 20 := by unfold wordL; rw [List.length_map, List.length_range]; omega
  have hj := e_join (sep := "") (us := (wordL c k most sg).map fun c => .str ⟨#[c]⟩) (ts := (wordL c k most sg).map fun c => (⟨#[c]⟩ : Str)) (g := g) (by decide +kernel) (strs_map (fun c : Nat => (⟨#[c]⟩ : Str)) _) (by rw [List.length_map]; omega) (fun s hs => by
    obtain ⟨c, _, rfl⟩ := List.mem_map.mp hs
    show 1 ≤ 200; decide)
  rw [join_sg] at hj
  simp only [mmS, f_law_word, m_law_word, addF, cm, e_mixed, m0, er, hn, hc, hj]
theorem word_len {c k most : Int} {sg : Str} (m0 : 0 < most) (m1 : most ≤ 20) : 0 < (wordL c k most sg).length ∧ (wordL c k most sg).length ≤ most.toNat := by
  have y0 : 0 ≤ mx c (40 * k + 39) % most := Int.emod_nonneg _ (by omega)
  have y1 : mx c (40 * k + 39) % most < most := Int.emod_lt_of_pos _ m0
  unfold wordL
  rw [List.length_map, List.length_range]
  omega
theorem word_mem {c k most : Int} {sg : Str} (h0 : 0 < sg.length) (h1 : sg.length ≤ 100) : ∀ x ∈ wordL c k most sg, x ∈ sg.cps.toList := fun x hx => by
  obtain ⟨j, _, rfl⟩ := List.mem_map.mp hx
  exact (sign_at (g := []) h0 h1 (mx_pos c _).1).2
def houseT (c : Int) (k : Nat) : Str := ⟨(wordL c (0 + (k : Int)) 5 SM).toArray⟩ ++ ⟨#[97 + k]⟩
theorem e_houses {c : Int} {m : Nat} {g : Gm} (hm : m ≤ 4) : f_law_houses [.int c, .int (m : Int)] g = .ok (.lst ((List.range m).map fun k => .str (houseT c k))) g := by
  have er := rng1_eq (ma := consA (vE 1) nilA) (env := [.v (.int c), .v (.int (m : Int))]) (g := g) (g1 := g) (j := (m : Int)) rfl (by omega)
  rw [Int.toNat_natCast] at er
  have hc : compL ttT (opE addF (callE f_law_word (consA (vE 1) (consA (vE 0) (consA (cE (.int 5)) (consA (cE (.str "abcdefghijklmnopqrstuvwxyz")) nilA))))) (opE ixF (cE (.str "abcd")) (vE 0))) [.v (.int c)] (intsU 0 m) g = .ok ((List.range m).map fun k => .str (houseT c k)) g := by
    unfold intsU
    refine comp_map fun j hj => ⟨rfl, ?_⟩
    have hj : j < m := by simpa using hj
    have e1 := e_word (c := c) (k := 0 + (j : Int)) (most := 5) (sg := SM) (g := g) (by decide) (by decide) (by decide +kernel) (by decide +kernel)
    have e2 : ixF (.str "abcd") (.int (0 + (j : Int))) g = .ok (.str ⟨#[97 + j]⟩) g := by
      have hat : atI ("abcd" : Str).cps.toList (0 + (j : Int)) = some (97 + j) := by
        match j, (show j < 4 by omega) with
        | 0, _ => decide +kernel
        | 1, _ => decide +kernel
        | 2, _ => decide +kernel
        | 3, _ => decide +kernel
      simp only [ixF, look, show ("abcd" : Str).length ≤ sizeLine by decide +kernel, ↓reduceIte, hat]
    have wl := (word_len (c := c) (k := 0 + (j : Int)) (most := 5) (sg := SM) (by decide) (by decide)).2
    have hl : (⟨(wordL c (0 + (j : Int)) 5 SM).toArray⟩ : Str).length + (⟨#[97 + j]⟩ : Str).length ≤ sizeLine := by
      rw [sizeLine_eq]
      show (wordL c (0 + (j : Int)) 5 SM).toArray.size + 1 ≤ _
      rw [List.size_toArray]
      have : (5 : Int).toNat = 5 := rfl
      omega
    simp only [opE, callE, consA, nilA, cE, vE, ok_b, List.getElem?_cons_zero, List.getElem?_cons_succ, e1, e2, addF, look, hl, ↓reduceIte, houseT]
  have hn : (intsU 0 m).length < 16777216 := by unfold intsU; rw [List.length_map, List.length_range]; omega
  simp only [mmS, f_law_houses, m_law_houses, er, hn, hc]
end K81
namespace K81
open PySem PyProof.Rows BB PP
open L2 hiding eqU
open MM
def nameT (c : Int) (k : Nat) : Str := ⟨(wordL c (9 + (0 + (k : Int))) 7 NM).toArray⟩ ++ ⟨#[signAt NM (11 * (0 + (k : Int)) % 37)]⟩
def persT (c : Int) (hs : List Str) (k : Nat) : Str := nameT c k ++ "@" ++ hs.getD (k % hs.length) ""
def bodyP : Ms := (seqS (setS 5 (cE (.str "abcdefghijklmnopqrstuvwxyz0123456789-")))
  (seqS (setS 6 (opE addF (callE f_law_word (consA (vE 0) (consA (opE addF (cE (.int 9)) (vE 4)) (consA (cE (.int 7)) (consA (vE 5) nilA))))) (opE ixF (vE 5) (opE modF (opE mulF (cE (.int 11)) (vE 4)) (cE (.int 37))))))
  (mutO 3 appM (consA (opE addF (opE addF (vE 6) (cE (.str "@"))) (opE ixF (vE 1) (opE modF (vE 4) (callE lenF (consA (vE 1) nilA))))) nilA))))
theorem nm37 : NM.length = 37 := by decide +kernel
theorem name_len (c : Int) (k : Nat) : (nameT c k).length ≤ 8 ∧ 0 < (nameT c k).length := by
  have := word_len (c := c) (k := 9 + (0 + (k : Int))) (most := 7) (sg := NM) (by decide) (by decide)
  have e : (7 : Int).toNat = 7 := rfl
  unfold nameT
  rw [cat_len]
  have : (⟨(wordL c (9 + (0 + (k : Int))) 7 NM).toArray⟩ : Str).length = (wordL c (9 + (0 + (k : Int))) 7 NM).length := by show (wordL c _ 7 NM).toArray.size = _; simp
  have : (⟨#[signAt NM (11 * (0 + (k : Int)) % 37)]⟩ : Str).length = 1 := rfl
  omega
theorem e_bodyP {c m : Int} {hs : List Str} {k : Nat} {done : List U} {a5 a6 : Sl} {g : Gm} (hne : 0 < hs.length) (hl : hs.length ≤ 10) (hh : ∀ h ∈ hs, h.length ≤ 6) (hd : done.length ≤ 100) :
    bodyP [.v (.int c), .v (.lst (hs.map .str)), .v (.int m), .own (.lst done), .v (.int (0 + (k : Int))), a5, a6] g = .ok (.nx, [.v (.int c), .v (.lst (hs.map .str)), .v (.int m), .own (.lst (done ++ [.str (persT c hs k)])), .v (.int (0 + (k : Int))), .v (.str NM), .v (.str (nameT c k))]) g := by
  have e1 := e_word (c := c) (k := 9 + (0 + (k : Int))) (most := 7) (sg := NM) (g := g) (by decide) (by decide) (by decide +kernel) (by decide +kernel)
  have e2 := (sign_at (sg := NM) (z := 11 * (0 + (k : Int))) (g := g) (by decide +kernel) (by decide +kernel) (by omega)).1
  have cm : CMul 11 (0 + (k : Int)) := cmL (by decide)
  rw [nm37] at e2
  have e2 : ixF (.str NM) (.int (11 * (0 + (k : Int)) % 37)) g = .ok (.str ⟨#[signAt NM (11 * (0 + (k : Int)) % 37)]⟩) g := e2
  have nl := (name_len c k).1
  have l1 : (⟨(wordL c (9 + (0 + (k : Int))) 7 NM).toArray⟩ : Str).length + (⟨#[signAt NM (11 * (0 + (k : Int)) % 37)]⟩ : Str).length ≤ sizeLine := by
    rw [← cat_len, sizeLine_eq]; have : (nameT c k).length ≤ 8 := nl; unfold nameT at this; omega
  have a1 : addF (.str ⟨(wordL c (9 + (0 + (k : Int))) 7 NM).toArray⟩) (.str ⟨#[signAt NM (11 * (0 + (k : Int)) % 37)]⟩) g = .ok (.str (nameT c k)) g := by simp only [addF, look, l1, ↓reduceIte, nameT]
  have at1 : ("@" : Str).length = 1 := by decide +kernel
  have a2 : addF (.str (nameT c k)) (.str "@") g = .ok (.str (nameT c k ++ "@")) g := by
    have : (nameT c k).length + ("@" : Str).length ≤ sizeLine := by rw [at1, sizeLine_eq]; omega
    simp only [addF, look, this, ↓reduceIte]
  have km : k % hs.length < hs.length := Nat.mod_lt _ hne
  have ek : (0 + (k : Int)) % (hs.length : Int) = ((k % hs.length : Nat) : Int) := by rw [Int.zero_add]; exact (Int.natCast_emod k hs.length).symm
  have e3 : ixF (.lst (hs.map .str)) (.int ((0 + (k : Int)) % (hs.length : Int))) g = .ok (.str (hs.getD (k % hs.length) "")) g := by
    simp only [ixF, look, ek, MM.atI_nat, List.getElem?_map, List.getElem?_eq_getElem km, Option.map_some, List.getD_eq_getElem?_getD, Option.getD_some]
  have hpos : (0 : Int) < (hs.length : Int) := by omega
  have e4 : modF (.int (0 + (k : Int))) (.int (hs.length : Int)) g = .ok (.int ((0 + (k : Int)) % (hs.length : Int))) g := by simp only [intF, look, hpos, ↓reduceIte]
  have hg : (hs.getD (k % hs.length) "").length ≤ 6 := by
    rw [List.getD_eq_getElem?_getD, List.getElem?_eq_getElem km]
    exact hh _ (List.getElem_mem km)
  have a3 : addF (.str (nameT c k ++ "@")) (.str (hs.getD (k % hs.length) "")) g = .ok (.str (persT c hs k)) g := by
    have : (nameT c k ++ "@").length + (hs.getD (k % hs.length) "").length ≤ sizeLine := by rw [cat_len, at1, sizeLine_eq]; omega
    simp only [addF, look, this, ↓reduceIte, persT]
  have ap : appM done [.str (persT c hs k)] g = some (done ++ [.str (persT c hs k)], .non) := by
    simp only [appM]; rw [if_pos (by rw [sizeLine_eq]; omega)]
  have e9 : addF (.int 9) (.int (0 + (k : Int))) g = .ok (.int (9 + (0 + (k : Int)))) g := rfl
  have e11 : mulF (.int 11) (.int (0 + (k : Int))) g = .ok (.int (11 * (0 + (k : Int)))) g := by simp only [intF, look, cm, ↓reduceIte]
  have e37 : modF (.int (11 * (0 + (k : Int)))) (.int 37) g = .ok (.int (11 * (0 + (k : Int)) % 37)) g := rfl
  have eL : lenF [.lst (hs.map .str)] g = .ok (.int (hs.length : Int)) g := by simp only [lenF, look, List.length_map]
  simp only [bodyP, seqS, setS, mutO, callE, opE, consA, nilA, cE, vE, ok_b, List.getElem?_cons_zero, List.getElem?_cons_succ, List.set_cons_zero, List.set_cons_succ, e1, e2, a1, a2, a3, e3, e4, ap, e9, e11, e37, eL]
theorem e_people {c : Int} {hs : List Str} {m : Nat} {g : Gm} (hne : 0 < hs.length) (hl : hs.length ≤ 10) (hh : ∀ h ∈ hs, h.length ≤ 6) (hm : m ≤ 20) : f_law_people [.int c, .lst (hs.map .str), .int (m : Int)] g = .ok (.lst ((List.range m).map fun k => .str (persT c hs k))) g := by
  have er := rng1_eq (ma := consA (vE 2) nilA) (env := [.v (.int c), .v (.lst (hs.map .str)), .v (.int (m : Int)), .own (.lst []), .no, .no, .no]) (g := g) (g1 := g) (j := (m : Int)) rfl (by omega)
  rw [Int.toNat_natCast] at er
  have lp := for_ok (t := nameG 4) (mb := bodyP) (us := intsU 0 m) (env := [.v (.int c), .v (.lst (hs.map .str)), .v (.int (m : Int)), .own (.lst []), .no, .no, .no]) (g := g)
    (fun k env g' => (∃ a b d, env = [.v (.int c), .v (.lst (hs.map .str)), .v (.int (m : Int)), .own (.lst ((List.range k).map fun k => .str (persT c hs k))), a, b, d]) ∧ g' = g) 0 ⟨⟨_, _, _, rfl⟩, rfl⟩
    (by
      rintro k u env g' eu ⟨⟨a, b, d, rfl⟩, rfl⟩
      rw [Nat.zero_add]
      have hk : k < m := by
        have := (List.getElem?_eq_some_iff.mp eu).1
        simpa [intsU] using this
      have eu2 : u = .int (0 + (k : Int)) := by
        have : (intsU 0 m)[k]? = some (.int (0 + (k : Int))) := by simp [intsU, hk]
        rw [this] at eu
        exact (Option.some.inj eu).symm
      subst eu2
      refine ⟨_, _, rfl, ?_⟩
      exact ok_of (e_bodyP hne hl hh (by rw [List.length_map, List.length_range]; omega)) ⟨rfl, ⟨.v (.int (0 + (k : Int))), .v (.str NM), .v (.str (nameT c k)), by rw [List.range_succ, List.map_append]; rfl⟩, rfl⟩)
  obtain ⟨z, g', ez, z1, ⟨a, b, d, z2⟩, z3⟩ := ok_ex lp
  obtain ⟨fl, env'⟩ := z
  dsimp only at z1 z2
  subst z1 z2 z3
  have le2 : (intsU 0 m).length = m := by simp [intsU]
  rw [le2, Nat.zero_add] at ez
  have s1 : seqS (setO 3 (lstE nilA)) (seqS (forS (rng1 (consA (vE 2) nilA)) (nameG 4) bodyP) (frS 3 (rtS (vE 3)))) [.v (.int c), .v (.lst (hs.map .str)), .v (.int (m : Int)), .no, .no, .no, .no] g' = .ok (.rt (.lst ((List.range m).map fun k => .str (persT c hs k))), [.v (.int c), .v (.lst (hs.map .str)), .v (.int (m : Int)), .v (.lst ((List.range m).map fun k => .str (persT c hs k))), a, b, d]) g' := by
    have a1 : setO 3 (lstE nilA) [.v (.int c), .v (.lst (hs.map .str)), .v (.int (m : Int)), .no, .no, .no, .no] g' = .ok (.nx, [.v (.int c), .v (.lst (hs.map .str)), .v (.int (m : Int)), .own (.lst []), .no, .no, .no]) g' := rfl
    have a2 : forS (rng1 (consA (vE 2) nilA)) (nameG 4) bodyP [.v (.int c), .v (.lst (hs.map .str)), .v (.int (m : Int)), .own (.lst []), .no, .no, .no] g' = .ok (.nx, [.v (.int c), .v (.lst (hs.map .str)), .v (.int (m : Int)), .own (.lst ((List.range m).map fun k => .str (persT c hs k))), a, b, d]) g' := by
      unfold forS; rw [er, ok_b, ez]
    unfold seqS
    rw [a1, ok_b]
    dsimp only
    rw [a2, ok_b]
    rfl
  unfold f_law_people runM m_law_people
  unfold bodyP at s1
  show Res.bind (seqS (setO 3 (lstE nilA)) _ [.v (.int c), .v (.lst (hs.map .str)), .v (.int (m : Int)), .no, .no, .no, .no] g') _ = _
  rw [s1]
  rfl
theorem fold_lt : ∀ (l : List Nat) (a : Nat), (∀ c ∈ l, 48 ≤ c ∧ c ≤ 57) → l.foldl (fun acc c => acc * 10 + (c - 48)) a < (a + 1) * 10 ^ l.length
  | [], a, _ => by simp
  | c :: l, a, h => by
    have hc := h c List.mem_cons_self
    have ih := fold_lt l (a * 10 + (c - 48)) (fun d hd => h d (List.mem_cons_of_mem _ hd))
    refine Nat.lt_of_lt_of_le ih ?_
    rw [List.length_cons, Nat.pow_succ, Nat.mul_comm (10 ^ l.length) 10, ← Nat.mul_assoc]
    exact Nat.mul_le_mul_right _ (by omega)
theorem slice_all {x : Str} {i : Nat} (h : x.length ≤ i) : Txt.slice x none (some (i : Int)) = Txt.slice x none (some (x.length : Int)) := by
  have e : Builtin.Str.strSliceIndices (none : Option Int) (some (i : Int)) 1 x.length = Builtin.Str.strSliceIndices (none : Option Int) (some (x.length : Int)) 1 x.length := by
    unfold Builtin.Str.strSliceIndices
    simp
    congr 1
    split <;> split <;> omega
  unfold Txt.slice
  rw [e]
open PySem.W PySem.W.KIN PySem.NumText PyProof.Rows in
theorem cut_digits {x : Str} {f : Nat} (hf : 1 ≤ f) (hp : 0 < x.length) (hl : x.length ≤ 20) (hd : ∀ c ∈ x.cps.toList, 48 ≤ c ∧ c ≤ 57) : ∃ m : Nat, PySem.intText? (Txt.slice x none (some (f : Int))) = some (m : Int) ∧ m < 10 ^ 20 ∧ (Txt.slice x none (some (f : Int))).length ≤ 640 := by
  have xl : x.cps.toList.length = x.length := by simp [Str.length]
  obtain ⟨g, hg0, hg1, e⟩ : ∃ g : Nat, 1 ≤ g ∧ g ≤ x.length ∧ (Txt.slice x none (some (f : Int))).cps.toList = x.cps.toList.take g := by
    rcases Nat.lt_or_ge f x.length with h | h
    · exact ⟨f, hf, by omega, by rw [slice_to (by omega), sub_list]; rfl⟩
    · exact ⟨x.length, hp, Nat.le_refl _, by rw [slice_all h, slice_to (Nat.le_refl _), sub_list]; rfl⟩
  have tl : (Txt.slice x none (some (f : Int))).length = g := by
    have : (Txt.slice x none (some (f : Int))).length = (Txt.slice x none (some (f : Int))).cps.toList.length := by simp [Str.length]
    rw [this, e, List.length_take]; omega
  have hd2 : ∀ c ∈ (Txt.slice x none (some (f : Int))).cps.toList, 48 ≤ c ∧ c ≤ 57 := fun c hc => by rw [e] at hc; exact hd c (List.mem_of_mem_take hc)
  have hne : (Txt.slice x none (some (f : Int))).cps.toList ≠ [] := fun z => by
    have q : (Txt.slice x none (some (f : Int))).length = (Txt.slice x none (some (f : Int))).cps.toList.length := by simp [Str.length]
    rw [z] at q
    have q : _ = 0 := q
    omega
  refine ⟨_, intText_digits hd2 hne (by omega), ?_, by omega⟩
  refine Nat.lt_of_lt_of_le (fold_lt _ 0 hd2) ?_
  rw [e, List.length_take, xl, Nat.one_mul]
  exact Nat.pow_le_pow_right (by decide) (by omega)
theorem e_number (c k : Int) : ∃ z : Int, 0 ≤ z ∧ z < 10 ^ 20 ∧ ∀ g, f_law_number [.int c, .int k] g = .ok (.int z) g := by
  have p1 := mx_pos c (400 + k)
  have p2 := mx_pos c (520 + k)
  have p3 := mx_pos c (640 + k)
  have p4 := mx_pos c (200 + k)
  obtain ⟨ff, hff⟩ : ∃ ff : Nat, 1 + mx c (400 + k) % 20 = (ff : Int) := ⟨(1 + mx c (400 + k) % 20).toNat, by omega⟩
  have f1 : 1 ≤ ff := by omega
  have e10 : (10 : Int) ^ (10 : Int).toNat = 10000000000 := by decide +kernel
  obtain ⟨n, hn⟩ : ∃ n : Int, mx c (520 + k) * 10000000000 + mx c (640 + k) = n := ⟨_, rfl⟩
  have n0 : 0 ≤ n := by omega
  have n1 : n < 10 ^ 20 := Int.lt_of_lt_of_le (show n < 100000000000000000000 by omega) (by decide +kernel)
  have t := num_text n0 n1
  obtain ⟨m, hm, m1, m2⟩ := cut_digits f1 t.pos t.len t.dig
  have hmin : (if mx c (200 + k) % 8 < 1 then mx c (200 + k) % 8 else 1) = 0 ∨ (if mx c (200 + k) % 8 < 1 then mx c (200 + k) % 8 else 1) = 1 := by split <;> omega
  refine ⟨(m : Int) * (if mx c (200 + k) % 8 < 1 then mx c (200 + k) % 8 else 1), ?_, ?_, fun g => ?_⟩
  · rcases hmin with z | z <;> rw [z]
    · rw [Int.mul_zero]; exact Int.le_refl _
    · rw [Int.mul_one]; exact Int.natCast_nonneg m
  · have h20 : (m : Int) < 10 ^ 20 := by exact_mod_cast m1
    rcases hmin with z | z <;> rw [z]
    · rw [Int.mul_zero]; decide +kernel
    · rw [Int.mul_one]; exact h20
  · have cp : CPow 10 10 := ⟨by decide, by decide, by decide⟩
    have cm : CMul (mx c (520 + k)) 10000000000 := cmL ⟨by have := p2.1; clear n1 m1 hmin; omega, by have := p2.2; clear n1 m1 hmin; omega⟩
    have cm2 : CMul (m : Int) (if mx c (200 + k) % 8 < 1 then mx c (200 + k) % 8 else 1) := cmR (by rcases hmin with z | z <;> rw [z] <;> decide)
    have nl : (numS n).length ≤ sizeLine := Nat.le_trans t.len (by rw [sizeLine_eq]; decide)
    have s1 : strOf [.int n] g = .ok (.str (numS n)) g := str_of (.inr ⟨n, rfl, n0, n1⟩)
    have s2 : slF (.str (numS n)) none (some (ff : Int)) g = .ok (.str (Txt.slice (numS n) none (some (ff : Int)))) g := by simp only [slF, look, nl, ↓reduceIte]
    have s3 : intOf [.str (Txt.slice (numS n) none (some (ff : Int)))] g = .ok (.int (m : Int)) g := by simp only [intOf, hm, m2, ↓reduceIte]
    have s4 : minF [.int 1, .int (mx c (200 + k) % 8)] g = .ok (.int (if mx c (200 + k) % 8 < 1 then mx c (200 + k) % 8 else 1)) g := rfl
    have s5 : powF (.int 10) (.int 10) g = .ok (.int 10000000000) g := by simp only [intF, look, cp, ↓reduceIte, e10]
    have s6 : mulF (.int (mx c (520 + k))) (.int 10000000000) g = .ok (.int (mx c (520 + k) * 10000000000)) g := by simp only [intF, look, cm, ↓reduceIte]
    have s7 : mulF (.int (m : Int)) (.int (if mx c (200 + k) % 8 < 1 then mx c (200 + k) % 8 else 1)) g = .ok (.int ((m : Int) * (if mx c (200 + k) % 8 < 1 then mx c (200 + k) % 8 else 1))) g := by simp only [intF, look, cm2, ↓reduceIte]
    have q1 : ∀ a : Int, addF (.int a) (.int k) g = .ok (.int (a + k)) g := fun _ => rfl
    have q2 : addF (.int 1) (.int (mx c (400 + k) % 20)) g = .ok (.int (ff : Int)) g := by rw [← hff]; rfl
    have q3 : addF (.int (mx c (520 + k) * 10000000000)) (.int (mx c (640 + k))) g = .ok (.int n) g := by rw [← hn]; rfl
    have q4 : modF (.int (mx c (400 + k))) (.int 20) g = .ok (.int (mx c (400 + k) % 20)) g := rfl
    have q5 : modF (.int (mx c (200 + k))) (.int 8) g = .ok (.int (mx c (200 + k) % 8)) g := rfl
    have z1 : setS 2 (opE addF (cE (.int 1)) (opE modF (callE f_law_mixed (consA (vE 0) (consA (opE addF (cE (.int 400)) (vE 1)) nilA))) (cE (.int 20)))) [.v (.int c), .v (.int k), .no, .no] g = .ok (.nx, [.v (.int c), .v (.int k), .v (.int (ff : Int)), .no]) g := by
      simp only [setS, callE, opE, consA, nilA, cE, vE, ok_b, List.getElem?_cons_zero, List.getElem?_cons_succ, List.set_cons_zero, List.set_cons_succ, e_mixed, q1, q2, q4]
    have z2 : setS 3 (opE addF (opE mulF (callE f_law_mixed (consA (vE 0) (consA (opE addF (cE (.int 520)) (vE 1)) nilA))) (opE powF (cE (.int 10)) (cE (.int 10)))) (callE f_law_mixed (consA (vE 0) (consA (opE addF (cE (.int 640)) (vE 1)) nilA)))) [.v (.int c), .v (.int k), .v (.int (ff : Int)), .no] g = .ok (.nx, [.v (.int c), .v (.int k), .v (.int (ff : Int)), .v (.int n)]) g := by
      simp only [setS, callE, opE, consA, nilA, cE, vE, ok_b, List.getElem?_cons_zero, List.getElem?_cons_succ, List.set_cons_zero, List.set_cons_succ, e_mixed, q1, q3, s5, s6]
    have z3 : (opE mulF (callE intOf (consA (slE slF (callE strOf (consA (vE 3) nilA)) noP (someP (vE 2))) nilA)) (callE minF (consA (cE (.int 1)) (consA (opE modF (callE f_law_mixed (consA (vE 0) (consA (opE addF (cE (.int 200)) (vE 1)) nilA))) (cE (.int 8))) nilA)))) [.v (.int c), .v (.int k), .v (.int (ff : Int)), .v (.int n)] g = .ok (.int ((m : Int) * (if mx c (200 + k) % 8 < 1 then mx c (200 + k) % 8 else 1))) g := by
      have y1 : callE intOf (consA (slE slF (callE strOf (consA (vE 3) nilA)) noP (someP (vE 2))) nilA) [.v (.int c), .v (.int k), .v (.int (ff : Int)), .v (.int n)] g = .ok (.int (m : Int)) g := by
        show Res.bind (Res.bind (Res.bind (strOf [.int n] g) fun u g1 => Res.bind (noP _ g1) fun l g2 => Res.bind (someP (vE 2) [.v (.int c), .v (.int k), .v (.int (ff : Int)), .v (.int n)] g2) fun h g3 => slF u l h g3) fun x g1 => Res.bind (nilA _ g1) fun xs g2 => .ok (x :: xs) g2) intOf = _
        rw [s1, ok_b]
        show Res.bind (Res.bind (slF (.str (numS n)) none (some (ff : Int)) g) _) intOf = _
        rw [s2, ok_b]
        exact s3
      have y2 : callE minF (consA (cE (.int 1)) (consA (opE modF (callE f_law_mixed (consA (vE 0) (consA (opE addF (cE (.int 200)) (vE 1)) nilA))) (cE (.int 8))) nilA)) [.v (.int c), .v (.int k), .v (.int (ff : Int)), .v (.int n)] g = .ok (.int (if mx c (200 + k) % 8 < 1 then mx c (200 + k) % 8 else 1)) g := by
        have y3 : opE modF (callE f_law_mixed (consA (vE 0) (consA (opE addF (cE (.int 200)) (vE 1)) nilA))) (cE (.int 8)) [.v (.int c), .v (.int k), .v (.int (ff : Int)), .v (.int n)] g = .ok (.int (mx c (200 + k) % 8)) g := by
          simp only [callE, opE, consA, nilA, cE, vE, ok_b, List.getElem?_cons_zero, List.getElem?_cons_succ, e_mixed, q1, q5]
        exact (callE_eq (consA_eq rfl (consA_eq y3 rfl))).trans s4
      exact (opE_eq y1 y2).trans s7
    unfold f_law_number runM m_law_number
    show Res.bind (seqS (setS 2 _) _ [.v (.int c), .v (.int k), .no, .no] g) _ = _
    unfold seqS rtS
    rw [z1, ok_b]
    dsimp only
    rw [z2, ok_b]
    dsimp only
    rw [z3]
    rfl
end K81
namespace K81
open PySem PyProof.Rows BB PP
open L2 hiding eqU
open MM
def tailA : Ms := (seqS (ifS (blE (opE eqF (vE 4) (cE (.str "open")))) (rtS (tupE (consA (callE maxF (consA (cE (.int 2)) (consA (vE 3) nilA))) (consA (vE 4) (consA (cE (.int 0)) nilA)))))
  nilS)
  (seqS (ifS (blE (opE eqF (vE 4) (cE (.str "moved")))) (rtS (tupE (consA (vE 3) (consA (vE 4) (consA (opE ixF (vE 2) (opE modF (vE 1) (callE lenF (consA (vE 2) nilA)))) nilA)))))
  nilS)
  (seqS (setS 5 (cE (.int 0)))
  (seqS (ifS (blE (opE inF (vE 4) (tupE (consA (cE (.str "lets")) (consA (cE (.str "refuses")) nilA))))) (setS 5 (opE addF (opE mulF (cE (.int 2)) (opE divF (callE f_law_number (consA (vE 0) (consA (opE addF (cE (.int 70)) (vE 1)) nilA))) (cE (.int 2)))) (cE (.int 1))))
  nilS)
  (rtS (tupE (consA (vE 3) (consA (vE 4) (consA (vE 5) nilA)))))))))
theorem str_eq {a b : Str} {x : Bool} {g : Gm} (h : (a == b) = x) : eqF (.str a) (.str b) g = .ok (.bl x) g := by
  subst h; rfl
theorem tail_eq {c k : Int} {P : U} {z : Int} {w : Str} {g : Gm} {u : U} {env' : MM.Env} (h : tailA [.v (.int c), .v (.int k), .v P, .v (.int z), .v (.str w), .no] g = .ok (.rt u, env') g) (hz : f_law_number [.int c, .int k] g = .ok (.int z) g) (hne : z ≠ 0)
    (hw : ixF (.lst [.str "lets", .str "refuses", .str "bars", .str "gone", .str "open", .str "moved"]) (.int (mx c (760 + k) % 6)) g = .ok (.str w) g) : f_law_answer [.int c, .int k, P] g = .ok u g := by
  have e0 : (z == 0) = false := by simpa using hne
  have z1 : setS 3 (callE f_law_number (consA (vE 0) (consA (vE 1) nilA))) [.v (.int c), .v (.int k), .v P, .no, .no, .no] g = .ok (.nx, [.v (.int c), .v (.int k), .v P, .v (.int z), .no, .no]) g := setS_eq ((callE_eq (consA_eq rfl (consA_eq rfl rfl))).trans hz)
  have z2 : blE (opE eqF (vE 3) (cE (.int 0))) [.v (.int c), .v (.int k), .v P, .v (.int z), .no, .no] g = .ok false g := blE_eq ((opE_eq rfl rfl).trans (by show eqF (.int z) (.int 0) g = _; simp only [eqF, MM.eqU, eqNs, deep, look, e0]))
  have z3 : setS 4 (opE ixF (lstE (consA (cE (.str "lets")) (consA (cE (.str "refuses")) (consA (cE (.str "bars")) (consA (cE (.str "gone")) (consA (cE (.str "open")) (consA (cE (.str "moved")) nilA))))))) (opE modF (callE f_law_mixed (consA (vE 0) (consA (opE addF (cE (.int 760)) (vE 1)) nilA))) (cE (.int 6)))) [.v (.int c), .v (.int k), .v P, .v (.int z), .no, .no] g = .ok (.nx, [.v (.int c), .v (.int k), .v P, .v (.int z), .v (.str w), .no]) g :=
    setS_eq ((opE_eq (lstE_eq (consA_eq rfl (consA_eq rfl (consA_eq rfl (consA_eq rfl (consA_eq rfl (consA_eq rfl rfl)))))) (by decide)) ((opE_eq ((callE_eq (consA_eq rfl (consA_eq rfl rfl))).trans e_mixed) rfl).trans rfl)).trans hw)
  refine runM_rt (env1 := env') ?_
  show m_law_answer [.v (.int c), .v (.int k), .v P, .no, .no, .no] g = _
  exact (seqS_eq z1).trans ((seqS_eq (ifS_f z2)).trans ((seqS_eq z3).trans h))
theorem e_ans {c k : Int} {ps : List Str} (k0 : 0 ≤ k) (hne : 0 < ps.length) (hp : ∀ p ∈ ps, PersT p) : ∃ n w a, Ans n w a ∧ n < 10 ^ 20 ∧ ∀ g, f_law_answer [.int c, .int k, .lst (ps.map .str)] g = .ok (.tup [.int n, .str w, a]) g := by
  obtain ⟨z, z0, z1, hz⟩ := e_number c k
  obtain ⟨y, y0, y1, hy⟩ := e_number c (70 + k)
  by_cases hz0 : z = 0
  · subst hz0
    refine ⟨0, "none", .int 0, .no, by decide +kernel, fun g => ?_⟩
    have z1 : setS 3 (callE f_law_number (consA (vE 0) (consA (vE 1) nilA))) [.v (.int c), .v (.int k), .v (.lst (ps.map .str)), .no, .no, .no] g = .ok (.nx, [.v (.int c), .v (.int k), .v (.lst (ps.map .str)), .v (.int 0), .no, .no]) g := setS_eq ((callE_eq (consA_eq rfl (consA_eq rfl rfl))).trans (hz g))
    refine runM_rt (env1 := [.v (.int c), .v (.int k), .v (.lst (ps.map .str)), .v (.int 0), .no, .no]) ?_
    show m_law_answer [.v (.int c), .v (.int k), .v (.lst (ps.map .str)), .no, .no, .no] g = _
    refine (seqS_eq z1).trans (seqS_rt ((ifS_t (blE_eq ((opE_eq rfl rfl).trans rfl))).trans (rtS_eq (tupE_eq (consA_eq rfl (consA_eq rfl (consA_eq rfl rfl))) (by decide)))))
  have hz1 : 1 ≤ z := by clear z1 y1; omega
  obtain ⟨j, hj, j6⟩ : ∃ j : Nat, mx c (760 + k) % 6 = j ∧ j < 6 := by
    have := mx_pos c (760 + k)
    exact ⟨(mx c (760 + k) % 6).toNat, by clear z1 y1; omega, by clear z1 y1; omega⟩
  have two : ∀ g, mulF (.int 2) (.int (y / 2)) g = .ok (.int (2 * (y / 2))) g := fun g => by simp only [intF, look, show CMul 2 (y / 2) from cmL (by decide), ↓reduceIte]
  have dv : ∀ g, divF (.int y) (.int 2) g = .ok (.int (y / 2)) g := fun g => by simp only [intF, look, show CDiv y 2 from ⟨by decide, by decide⟩, ↓reduceIte]
  have odd : (2 * (y / 2) + 1) % 2 = 1 ∧ 0 < 2 * (y / 2) + 1 ∧ 2 * (y / 2) + 1 < 10 ^ 20 := by
    refine ⟨by clear z1 y1; omega, by clear z1 y1; omega, ?_⟩
    have e20 : (10 : Int) ^ 20 = 2 * 50000000000000000000 := by decide +kernel
    rw [e20] at y1 ⊢
    clear z1
    omega
  -- words that let or refuse
  have pA : ∀ (w : Str) g, (w == "open") = false → (w == "moved") = false → inU g (.str w) (.tup [.str "lets", .str "refuses"]) = some true → ∃ env', tailA [.v (.int c), .v (.int k), .v (.lst (ps.map .str)), .v (.int z), .v (.str w), .no] g = .ok (.rt (.tup [.int z, .str w, .int (2 * (y / 2) + 1)]), env') g := fun w g w1 w2 w3 => by
    have i1 : inF (.str w) (.tup [.str "lets", .str "refuses"]) g = .ok (.bl true) g := by simp only [inF, w3]
    refine ⟨[.v (.int c), .v (.int k), .v (.lst (ps.map .str)), .v (.int z), .v (.str w), .v (.int (2 * (y / 2) + 1))], ?_⟩
    refine (seqS_eq (ifS_f (blE_eq ((opE_eq rfl rfl).trans (str_eq w1))))).trans ?_
    refine (seqS_eq (ifS_f (blE_eq ((opE_eq rfl rfl).trans (str_eq w2))))).trans ?_
    refine (seqS_eq (setS_eq rfl)).trans ?_
    refine (seqS_eq ((ifS_t (blE_eq ((opE_eq rfl (tupE_eq (consA_eq rfl (consA_eq rfl rfl)) (by decide))).trans i1))).trans (setS_eq (u := .int (2 * (y / 2) + 1)) ((opE_eq ((opE_eq rfl ((opE_eq ((callE_eq (consA_eq rfl (consA_eq rfl rfl))).trans (hy g)) rfl).trans (dv g))).trans (two g)) rfl).trans rfl)))).trans ?_
    exact rtS_eq (tupE_eq (consA_eq rfl (consA_eq rfl (consA_eq rfl rfl))) (by show 3 ≤ 1000; decide))
  have pB : ∀ (w : Str) g, (w == "open") = false → (w == "moved") = false → inU g (.str w) (.tup [.str "lets", .str "refuses"]) = some false → ∃ env', tailA [.v (.int c), .v (.int k), .v (.lst (ps.map .str)), .v (.int z), .v (.str w), .no] g = .ok (.rt (.tup [.int z, .str w, .int 0]), env') g := fun w g w1 w2 w3 => by
    have i1 : inF (.str w) (.tup [.str "lets", .str "refuses"]) g = .ok (.bl false) g := by simp only [inF, w3]
    refine ⟨[.v (.int c), .v (.int k), .v (.lst (ps.map .str)), .v (.int z), .v (.str w), .v (.int 0)], ?_⟩
    refine (seqS_eq (ifS_f (blE_eq ((opE_eq rfl rfl).trans (str_eq w1))))).trans ?_
    refine (seqS_eq (ifS_f (blE_eq ((opE_eq rfl rfl).trans (str_eq w2))))).trans ?_
    refine (seqS_eq (setS_eq rfl)).trans ?_
    refine (seqS_eq (ifS_f (blE_eq ((opE_eq rfl (tupE_eq (consA_eq rfl (consA_eq rfl rfl)) (by decide))).trans i1)))).trans ?_
    exact rtS_eq (tupE_eq (consA_eq rfl (consA_eq rfl (consA_eq rfl rfl))) (by show 3 ≤ 1000; decide))
  have wd : ∀ (i : Nat) (w : Str) g, mx c (760 + k) % 6 = (i : Int) → ([.str "lets", .str "refuses", .str "bars", .str "gone", .str "open", .str "moved"] : List U)[i]? = some (.str w) → ixF (.lst [.str "lets", .str "refuses", .str "bars", .str "gone", .str "open", .str "moved"]) (.int (mx c (760 + k) % 6)) g = .ok (.str w) g := fun i w g e1 e2 => by
    rw [e1]; simp only [ixF, look, MM.atI_nat, e2]
  have cases6 : j = 0 ∨ j = 1 ∨ j = 2 ∨ j = 3 ∨ j = 4 ∨ j = 5 := by clear z1 y1; omega
  rcases cases6 with rfl | rfl | rfl | rfl | rfl | rfl
  · refine ⟨z, "lets", _, .lets hz1 odd.2.1 odd.1 odd.2.2, z1, fun g => ?_⟩
    obtain ⟨env', e⟩ := pA "lets" g (by decide +kernel) (by decide +kernel) (isA (by decide +kernel))
    exact tail_eq e (hz g) hz0 (wd 0 _ g hj rfl)
  · refine ⟨z, "refuses", _, .refuses hz1 odd.2.1 odd.1 odd.2.2, z1, fun g => ?_⟩
    obtain ⟨env', e⟩ := pA "refuses" g (by decide +kernel) (by decide +kernel) (isA (by decide +kernel))
    exact tail_eq e (hz g) hz0 (wd 1 _ g hj rfl)
  · refine ⟨z, "bars", _, .bars hz1, z1, fun g => ?_⟩
    obtain ⟨env', e⟩ := pB "bars" g (by decide +kernel) (by decide +kernel) (isA (by decide +kernel))
    exact tail_eq e (hz g) hz0 (wd 2 _ g hj rfl)
  · refine ⟨z, "gone", _, .gone hz1, z1, fun g => ?_⟩
    obtain ⟨env', e⟩ := pB "gone" g (by decide +kernel) (by decide +kernel) (isA (by decide +kernel))
    exact tail_eq e (hz g) hz0 (wd 3 _ g hj rfl)
  · refine ⟨if z > 2 then z else 2, "open", _, .opn (by clear z1 y1; split <;> omega), ?_, fun g => ?_⟩
    · split
      · exact z1
      · decide +kernel
    · refine tail_eq (w := "open") (env' := [.v (.int c), .v (.int k), .v (.lst (ps.map .str)), .v (.int z), .v (.str "open"), .no]) ?_ (hz g) hz0 (wd 4 _ g hj rfl)
      refine seqS_rt ((ifS_t (blE_eq ((opE_eq rfl rfl).trans (str_eq (by decide +kernel))))).trans (rtS_eq (tupE_eq (consA_eq ((callE_eq (consA_eq rfl (consA_eq rfl rfl))).trans rfl) (consA_eq rfl (consA_eq rfl rfl))) (by show 3 ≤ 1000; decide))))
  · obtain ⟨i, hi, il⟩ : ∃ i : Nat, k % (ps.length : Int) = i ∧ i < ps.length := by
      have a0 : 0 ≤ k % (ps.length : Int) := Int.emod_nonneg _ (by clear z1 y1; omega)
      have a1 : k % (ps.length : Int) < ps.length := Int.emod_lt_of_pos _ (by clear z1 y1; omega)
      exact ⟨(k % (ps.length : Int)).toNat, by clear z1 y1; omega, by clear z1 y1; omega⟩
    refine ⟨z, "moved", .str ps[i], .moved hz1 (hp _ (List.getElem_mem il)), z1, fun g => ?_⟩
    have hpos : (0 : Int) < (ps.length : Int) := by clear z1 y1; omega
    have eL : lenF [.lst (ps.map .str)] g = .ok (.int (ps.length : Int)) g := by simp only [lenF, look, List.length_map]
    have eM : modF (.int k) (.int (ps.length : Int)) g = .ok (.int (i : Int)) g := by simp only [intF, look, hpos, ↓reduceIte, hi]
    have eI : ixF (.lst (ps.map .str)) (.int (i : Int)) g = .ok (.str ps[i]) g := by simp only [ixF, look, MM.atI_nat, List.getElem?_map, List.getElem?_eq_getElem il, Option.map_some]
    refine tail_eq (w := "moved") (env' := [.v (.int c), .v (.int k), .v (.lst (ps.map .str)), .v (.int z), .v (.str "moved"), .no]) ?_ (hz g) hz0 (wd 5 _ g hj rfl)
    refine (seqS_eq (ifS_f (blE_eq ((opE_eq rfl rfl).trans (str_eq (by decide +kernel)))))).trans ?_
    refine seqS_rt ((ifS_t (blE_eq ((opE_eq rfl rfl).trans (str_eq (by decide +kernel))))).trans (rtS_eq (tupE_eq (consA_eq rfl (consA_eq rfl (consA_eq ((opE_eq rfl ((opE_eq rfl ((callE_eq (consA_eq rfl rfl)).trans eL)).trans eM)).trans eI) rfl))) (by show 3 ≤ 1000; decide))))
end K81
namespace K81
open PySem PyProof.Rows BB PP
open L2 hiding eqU
open MM
def NameS (t : Str) : Prop := 0 < t.length ∧ t.length ≤ 8 ∧ ∀ c ∈ t.cps.toList, c ∈ NM.cps.toList
structure PPe (p : Str) : Prop where
  ex : ∃ n hm, NameS n ∧ HouseS hm ∧ p = n ++ ("@" : Str) ++ hm
theorem no64 {n : Str} (h : NameS n) : 64 ∉ n.cps.toList := fun z => absurd (h.2.2 64 z) (by decide +kernel)
theorem at64 : ("@" : Str).cps.toList = [64] := by decide +kernel
theorem PPe.t {p : Str} (h : PPe p) : PersT p := by
  obtain ⟨n, hm, hn, hh, rfl⟩ := h.ex
  have el : ("@" : Str).length = 1 := by decide +kernel
  have ll : (n ++ ("@" : Str) ++ hm).length = n.length + 1 + hm.length := by rw [cat_len, cat_len, el]
  have all : ∀ c ∈ (n ++ ("@" : Str) ++ hm).cps.toList, c ∈ NM.cps.toList ∨ c = 64 ∨ c ∈ SM.cps.toList := fun c hc => by
    rw [cat_cps, cat_cps, at64] at hc
    rcases List.mem_append.mp hc with z | z
    · rcases List.mem_append.mp z with z | z
      · exact .inl (hn.2.2 c z)
      · exact .inr (.inl (List.mem_singleton.mp z))
    · exact .inr (.inr (hh.2.2 c z))
  have a1 : ∀ c ∈ NM.cps.toList, c ≠ 32 ∧ c ≠ 10 := by decide +kernel
  have a2 : ∀ c ∈ SM.cps.toList, c ≠ 32 ∧ c ≠ 10 := by decide +kernel
  have both : ∀ c ∈ (n ++ ("@" : Str) ++ hm).cps.toList, c ≠ 32 ∧ c ≠ 10 := fun c hc => by
    rcases all c hc with z | rfl | z
    · exact a1 c z
    · decide
    · exact a2 c z
  have m64 : 64 ∈ (n ++ ("@" : Str) ++ hm).cps.toList := by rw [cat_cps, cat_cps, at64]; simp
  refine ⟨?_, by have := hn.2.1; have := hh.2.1; omega, fun z => (both 32 z).1 rfl, fun z => (both 10 z).2 rfl, ⟨64, m64, .inr (by decide)⟩⟩
  rw [person_list, cat_cps, cat_cps, List.append_assoc, at64]
  obtain ⟨n0, n1, n2⟩ := id hn
  obtain ⟨h0, h1, h2⟩ := hh
  have l1 : n.cps.toList.length = n.length := by simp [Str.length]
  have l2 : hm.cps.toList.length = hm.length := by simp [Str.length]
  show personL (n.cps.toList ++ 64 :: hm.cps.toList) = true
  rw [person_at (no64 hn), madeL_true (by omega) (by omega) (nml ▸ n2), madeL_true (by omega) (by omega) (sml ▸ h2)]
  rfl
theorem ends_home {p h : Str} (hp : PPe p) (hh : HouseS h) (e : Txt.endswith p ("@" ++ h) = true) : homeF p = h := by
  obtain ⟨n, hm, hn, hh2, rfl⟩ := hp.ex
  have e1 : homeF (n ++ ("@" : Str) ++ hm) = hm := by unfold homeF; rw [home_at (no64 hn)]
  rw [e1]
  have suf : ∃ pre : List Nat, (n ++ ("@" : Str) ++ hm).cps.toList = pre ++ 64 :: h.cps.toList := by
    unfold Txt.endswith at e
    rw [Bool.and_eq_true] at e
    obtain ⟨e2, e3⟩ := e
    have e2 := of_decide_eq_true e2
    rw [StrLaws.subAt_eq] at e3
    have e3 := eq_of_beq e3
    have hl : (n ++ ("@" : Str) ++ hm).cps.toList.length = (n ++ ("@" : Str) ++ hm).length := by simp [Str.length]
    rw [List.take_of_length_le (by rw [List.length_drop]; omega)] at e3
    refine ⟨(n ++ ("@" : Str) ++ hm).cps.toList.take ((n ++ ("@" : Str) ++ hm).length - (("@" : Str) ++ h).length), ?_⟩
    have e4 : (("@" : Str) ++ h).cps.toList = 64 :: h.cps.toList := by rw [cat_cps, at64]; rfl
    rw [← e4, ← e3, List.take_append_drop]
  obtain ⟨pre, es⟩ := suf
  rw [cat_cps, cat_cps, at64, List.append_assoc] at es
  have es : n.cps.toList ++ 64 :: hm.cps.toList = pre ++ 64 :: h.cps.toList := es
  refine str_ext ?_
  have key : ∀ (a b c d : List Nat), 64 ∉ a → 64 ∉ b → 64 ∉ d → a ++ 64 :: b = c ++ 64 :: d → b = d := by
    intro a
    induction a with
    | nil =>
      intro b c d _ hb hd e
      cases c with
      | nil => simpa using e
      | cons x c =>
        simp only [List.nil_append, List.cons_append, List.cons.injEq] at e
        exact absurd (by rw [e.2]; simp) hb
    | cons x a ih =>
      intro b c d ha hb hd e
      cases c with
      | nil =>
        simp only [List.nil_append, List.cons_append, List.cons.injEq] at e
        exact absurd (by rw [e.1]; simp) ha
      | cons y c =>
        simp only [List.cons_append, List.cons.injEq] at e
        exact ih b c d (fun z => ha (List.mem_cons_of_mem _ z)) hb hd e.2
  exact key _ _ _ _ (no64 hn) hh2.no.2.2 hh.no.2.2 es
def lastI : Ms := (ifS (andT (trE (vE 10)) (blE (opE gtF (opE modF (callE f_law_mixed (consA (vE 0) (consA (opE addF (cE (.int 900)) (vE 7)) nilA))) (cE (.int 4))) (cE (.int 0))))) (mutO 3 appM (consA (tupE (consA (vE 4) (consA (vE 5) (consA (vE 8) (consA (vE 9) nilA))))) nilA))
  nilS)
def bodyI : Ms := (seqS (setS 6 (orE (bmE "str" endsF (vE 4) (consA (opE addF (cE (.str "@")) (vE 2)) nilA)) (bmE "str" endsF (vE 5) (consA (opE addF (cE (.str "@")) (vE 2)) nilA))))
  (ifS (andT (blE (opE neF (vE 4) (vE 5))) (trE (vE 6))) (seqS (setS 7 (opE mulF (callE lenF (consA (vE 1) nilA)) (bmE "list" lindexF (vE 1) (consA (vE 4) nilA))))
  (seqS (setS 7 (opE addF (vE 7) (bmE "list" lindexF (vE 1) (consA (vE 5) nilA))))
  (seqS (setS 8 (callE f_law_number (consA (vE 0) (consA (opE addF (cE (.int 100)) (vE 7)) nilA))))
  (seqS (setS 9 (callE f_law_answer (consA (vE 0) (consA (vE 7) (consA (vE 1) nilA)))))
  (seqS (setS 10 (orE (opE gtF (vE 8) (cE (.int 0))) (opE gtF (opE ixF (vE 9) (cE (.int 0))) (cE (.int 0)))))
  (ifS (andT (trE (vE 10)) (blE (opE gtF (opE modF (callE f_law_mixed (consA (vE 0) (consA (opE addF (cE (.int 900)) (vE 7)) nilA))) (cE (.int 4))) (cE (.int 0))))) (mutO 3 appM (consA (tupE (consA (vE 4) (consA (vE 5) (consA (vE 8) (consA (vE 9) nilA))))) nilA))
  nilS))))))
  nilS))
theorem bl_or {a b : Me} {env : MM.Env} {g : Gm} {x y : Bool} (h1 : a env g = .ok (.bl x) g) (h2 : b env g = .ok (.bl y) g) : orE a b env g = .ok (.bl (x || y)) g := by
  cases x with
  | true => rw [orE_t h1]; rfl
  | false => rw [orE_f h1, h2]; rfl
theorem t_and {a b : Mt} {env : MM.Env} {g : Gm} {x y : Bool} (h1 : a env g = .ok x g) (h2 : b env g = .ok y g) : andT a b env g = .ok (x && y) g := by
  cases x with
  | true => rw [andT_t h1, h2]; rfl
  | false => rw [andT_f h1]; rfl
theorem e_bodyI {c : Int} {ps : List Str} {h p q : Str} {done : List RW} {x5 x6 x7 x8 x9 x10 : Sl} {g : Gm} (hp : p ∈ ps) (hq : q ∈ ps) (hps : ∀ p ∈ ps, PPe p) (hl : ps.length ≤ 10) (hh : HouseS h) (hd : done.length ≤ 1000) :
    Ok' (bodyI [.v (.int c), .v (.lst (ps.map .str)), .v (.str h), .own (.lst (done.map rowU)), .v (.str p), .v (.str q), x6, x7, x8, x9, x10] g) fun z g' => z.1 = .nx ∧ g' = g ∧ ∃ ex : List RW, ∃ ys : List Sl, ys.length = 5 ∧ z.2 = .v (.int c) :: .v (.lst (ps.map .str)) :: .v (.str h) :: .own (.lst ((done ++ ex).map rowU)) :: .v (.str p) :: .v (.str q) :: ys ∧ (ex = [] ∨ ∃ r, ex = [r] ∧ VR h r ∧ r.p = p ∧ r.q = q) := by
  have pp := hps p hp
  have pq := hps q hq
  have at1 : ("@" : Str).length = 1 := by decide +kernel
  have a1 : addF (.str "@") (.str h) g = .ok (.str ("@" ++ h)) g := by
    have : ("@" : Str).length + h.length ≤ sizeLine := by rw [at1, sizeLine_eq]; have := hh.2.1; omega
    simp only [addF, look, this, ↓reduceIte]
  have s6 : setS 6 (orE (bmE "str" endsF (vE 4) (consA (opE addF (cE (.str "@")) (vE 2)) nilA)) (bmE "str" endsF (vE 5) (consA (opE addF (cE (.str "@")) (vE 2)) nilA))) [.v (.int c), .v (.lst (ps.map .str)), .v (.str h), .own (.lst (done.map rowU)), .v (.str p), .v (.str q), x6, x7, x8, x9, x10] g
      = .ok (.nx, [.v (.int c), .v (.lst (ps.map .str)), .v (.str h), .own (.lst (done.map rowU)), .v (.str p), .v (.str q), .v (.bl (Txt.endswith p ("@" ++ h) || Txt.endswith q ("@" ++ h))), x7, x8, x9, x10]) g :=
    setS_eq (bl_or ((bmE_str rfl (consA_eq ((opE_eq rfl rfl).trans a1) rfl)).trans rfl) ((bmE_str rfl (consA_eq ((opE_eq rfl rfl).trans a1) rfl)).trans rfl))
  have t1 : andT (blE (opE neF (vE 4) (vE 5))) (trE (vE 6)) [.v (.int c), .v (.lst (ps.map .str)), .v (.str h), .own (.lst (done.map rowU)), .v (.str p), .v (.str q), .v (.bl (Txt.endswith p ("@" ++ h) || Txt.endswith q ("@" ++ h))), x7, x8, x9, x10] g = .ok (!(p == q) && (Txt.endswith p ("@" ++ h) || Txt.endswith q ("@" ++ h))) g :=
    t_and (blE_eq ((opE_eq rfl rfl).trans rfl)) (trE_bl rfl)
  by_cases c1 : (!(p == q) && (Txt.endswith p ("@" ++ h) || Txt.endswith q ("@" ++ h))) = true
  case neg =>
    have c1 := Bool.eq_false_iff.mpr c1
    rw [c1] at t1
    refine ok_of (seqS_eq s6 |>.trans (ifS_f t1)) ⟨rfl, rfl, [], [.v (.bl (Txt.endswith p ("@" ++ h) || Txt.endswith q ("@" ++ h))), x7, x8, x9, x10], rfl, ?_, .inl rfl⟩
    rw [List.append_nil]
  rw [c1] at t1
  rw [Bool.and_eq_true, Bool.or_eq_true] at c1
  obtain ⟨cne, chm⟩ := c1
  have ne : p ≠ q := by simpa using cne
  have hm : homeF p = h ∨ homeF q = h := chm.imp (fun z => ends_home pp hh z) (fun z => ends_home pq hh z)
  have ix : ∀ x ∈ ps, lindexF (.lst (ps.map .str)) [.str x] g = .ok (.int (ps.idxOf x : Nat)) g := fun x hx => by
    have e : strsOf (ps.map .str) = some ps := by have := strs_map (fun s : Str => s) ps; simpa using this
    have i1 : ps.idxOf x < ps.length := List.idxOf_lt_length_iff.mpr hx
    simp only [lindexF, look, e, i1, show ps.length < 1000000 by omega, and_self, ↓reduceIte]
  have eL : lenF [.lst (ps.map .str)] g = .ok (.int (ps.length : Int)) g := by simp only [lenF, look, List.length_map]
  have m1 : mulF (.int (ps.length : Int)) (.int (ps.idxOf p : Nat)) g = .ok (.int ((ps.length : Int) * (ps.idxOf p : Nat))) g := by
    simp only [intF, look, show CMul (ps.length : Int) (ps.idxOf p : Nat) from cmL (by omega), ↓reduceIte]
  obtain ⟨k, hk⟩ : ∃ k : Int, (ps.length : Int) * (ps.idxOf p : Nat) + (ps.idxOf q : Nat) = k := ⟨_, rfl⟩
  have k0 : 0 ≤ k := by rw [← hk]; exact Int.add_nonneg (Int.mul_nonneg (by omega) (by omega)) (by omega)
  have m2 : addF (.int ((ps.length : Int) * (ps.idxOf p : Nat))) (.int (ps.idxOf q : Nat)) g = .ok (.int k) g := by rw [← hk]; rfl
  obtain ⟨w, w0, w1, hw⟩ := e_number c (100 + k)
  obtain ⟨n, wd, a, an, n1, ha⟩ := e_ans (c := c) (k := k) (ps := ps) k0 (List.length_pos_of_mem hp) (fun x hx => (hps x hx).t)
  have s7 : setS 7 (opE mulF (callE lenF (consA (vE 1) nilA)) (bmE "list" lindexF (vE 1) (consA (vE 4) nilA))) [.v (.int c), .v (.lst (ps.map .str)), .v (.str h), .own (.lst (done.map rowU)), .v (.str p), .v (.str q), .v (.bl (Txt.endswith p ("@" ++ h) || Txt.endswith q ("@" ++ h))), x7, x8, x9, x10] g = .ok (.nx, [.v (.int c), .v (.lst (ps.map .str)), .v (.str h), .own (.lst (done.map rowU)), .v (.str p), .v (.str q), .v (.bl (Txt.endswith p ("@" ++ h) || Txt.endswith q ("@" ++ h))), .v (.int ((ps.length : Int) * (ps.idxOf p : Nat))), x8, x9, x10]) g :=
    setS_eq ((opE_eq ((callE_eq (consA_eq rfl rfl)).trans eL) ((bmE_lst rfl (consA_eq rfl rfl)).trans (ix p hp))).trans m1)
  have s8 : setS 7 (opE addF (vE 7) (bmE "list" lindexF (vE 1) (consA (vE 5) nilA))) [.v (.int c), .v (.lst (ps.map .str)), .v (.str h), .own (.lst (done.map rowU)), .v (.str p), .v (.str q), .v (.bl (Txt.endswith p ("@" ++ h) || Txt.endswith q ("@" ++ h))), .v (.int ((ps.length : Int) * (ps.idxOf p : Nat))), x8, x9, x10] g = .ok (.nx, [.v (.int c), .v (.lst (ps.map .str)), .v (.str h), .own (.lst (done.map rowU)), .v (.str p), .v (.str q), .v (.bl (Txt.endswith p ("@" ++ h) || Txt.endswith q ("@" ++ h))), .v (.int k), x8, x9, x10]) g :=
    setS_eq ((opE_eq rfl ((bmE_lst rfl (consA_eq rfl rfl)).trans (ix q hq))).trans m2)
  generalize (Txt.endswith p ("@" ++ h) || Txt.endswith q ("@" ++ h)) = hb at *
  have s9 : setS 8 (callE f_law_number (consA (vE 0) (consA (opE addF (cE (.int 100)) (vE 7)) nilA))) [.v (.int c), .v (.lst (ps.map .str)), .v (.str h), .own (.lst (done.map rowU)), .v (.str p), .v (.str q), .v (.bl hb), .v (.int k), x8, x9, x10] g = .ok (.nx, [.v (.int c), .v (.lst (ps.map .str)), .v (.str h), .own (.lst (done.map rowU)), .v (.str p), .v (.str q), .v (.bl hb), .v (.int k), .v (.int w), x9, x10]) g :=
    setS_eq ((callE_eq (consA_eq rfl (consA_eq rfl rfl))).trans (hw g))
  have s10 : setS 9 (callE f_law_answer (consA (vE 0) (consA (vE 7) (consA (vE 1) nilA)))) [.v (.int c), .v (.lst (ps.map .str)), .v (.str h), .own (.lst (done.map rowU)), .v (.str p), .v (.str q), .v (.bl hb), .v (.int k), .v (.int w), x9, x10] g = .ok (.nx, [.v (.int c), .v (.lst (ps.map .str)), .v (.str h), .own (.lst (done.map rowU)), .v (.str p), .v (.str q), .v (.bl hb), .v (.int k), .v (.int w), .v (.tup [.int n, .str wd, a]), x10]) g :=
    setS_eq ((callE_eq (consA_eq rfl (consA_eq rfl (consA_eq rfl rfl)))).trans (ha g))
  have g0 : ∀ z : Int, gtF (.int z) (.int 0) g = .ok (.bl (decide (0 < z))) g := fun z => by simp only [intF, look, ↓reduceIte]
  have i0 : ixF (.tup [.int n, .str wd, a]) (.int 0) g = .ok (.int n) g := by simp only [ixF, look, at0]
  have s11 : setS 10 (orE (opE gtF (vE 8) (cE (.int 0))) (opE gtF (opE ixF (vE 9) (cE (.int 0))) (cE (.int 0)))) [.v (.int c), .v (.lst (ps.map .str)), .v (.str h), .own (.lst (done.map rowU)), .v (.str p), .v (.str q), .v (.bl hb), .v (.int k), .v (.int w), .v (.tup [.int n, .str wd, a]), x10] g = .ok (.nx, [.v (.int c), .v (.lst (ps.map .str)), .v (.str h), .own (.lst (done.map rowU)), .v (.str p), .v (.str q), .v (.bl hb), .v (.int k), .v (.int w), .v (.tup [.int n, .str wd, a]), .v (.bl (decide (0 < w) || decide (0 < n)))]) g :=
    setS_eq (bl_or ((opE_eq rfl rfl).trans (g0 w)) ((opE_eq ((opE_eq rfl rfl).trans i0) rfl).trans (g0 n)))
  have m4 : modF (.int (mx c (900 + k))) (.int 4) g = .ok (.int (mx c (900 + k) % 4)) g := rfl
  have t2 : andT (trE (vE 10)) (blE (opE gtF (opE modF (callE f_law_mixed (consA (vE 0) (consA (opE addF (cE (.int 900)) (vE 7)) nilA))) (cE (.int 4))) (cE (.int 0)))) [.v (.int c), .v (.lst (ps.map .str)), .v (.str h), .own (.lst (done.map rowU)), .v (.str p), .v (.str q), .v (.bl hb), .v (.int k), .v (.int w), .v (.tup [.int n, .str wd, a]), .v (.bl (decide (0 < w) || decide (0 < n)))] g = .ok ((decide (0 < w) || decide (0 < n)) && decide (0 < mx c (900 + k) % 4)) g :=
    t_and (trE_bl rfl) (blE_eq ((opE_eq ((opE_eq ((callE_eq (consA_eq rfl (consA_eq rfl rfl))).trans e_mixed) rfl).trans m4) rfl).trans (g0 _)))
  have run : ∀ m : Ms, seqS (setS 7 (opE mulF (callE lenF (consA (vE 1) nilA)) (bmE "list" lindexF (vE 1) (consA (vE 4) nilA)))) (seqS (setS 7 (opE addF (vE 7) (bmE "list" lindexF (vE 1) (consA (vE 5) nilA)))) (seqS (setS 8 (callE f_law_number (consA (vE 0) (consA (opE addF (cE (.int 100)) (vE 7)) nilA)))) (seqS (setS 9 (callE f_law_answer (consA (vE 0) (consA (vE 7) (consA (vE 1) nilA))))) (seqS (setS 10 (orE (opE gtF (vE 8) (cE (.int 0))) (opE gtF (opE ixF (vE 9) (cE (.int 0))) (cE (.int 0))))) m)))) [.v (.int c), .v (.lst (ps.map .str)), .v (.str h), .own (.lst (done.map rowU)), .v (.str p), .v (.str q), .v (.bl hb), x7, x8, x9, x10] g = m [.v (.int c), .v (.lst (ps.map .str)), .v (.str h), .own (.lst (done.map rowU)), .v (.str p), .v (.str q), .v (.bl hb), .v (.int k), .v (.int w), .v (.tup [.int n, .str wd, a]), .v (.bl (decide (0 < w) || decide (0 < n)))] g := fun m =>
    (seqS_eq s7).trans ((seqS_eq s8).trans ((seqS_eq s9).trans ((seqS_eq s10).trans (seqS_eq s11))))
  have whole : bodyI [.v (.int c), .v (.lst (ps.map .str)), .v (.str h), .own (.lst (done.map rowU)), .v (.str p), .v (.str q), x6, x7, x8, x9, x10] g = lastI [.v (.int c), .v (.lst (ps.map .str)), .v (.str h), .own (.lst (done.map rowU)), .v (.str p), .v (.str q), .v (.bl hb), .v (.int k), .v (.int w), .v (.tup [.int n, .str wd, a]), .v (.bl (decide (0 < w) || decide (0 < n)))] g := (seqS_eq s6).trans ((ifS_t t1).trans (run _))
  by_cases c2 : ((decide (0 < w) || decide (0 < n)) && decide (0 < mx c (900 + k) % 4)) = true
  case neg =>
    rw [Bool.eq_false_iff.mpr c2] at t2
    refine ok_of (whole.trans (ifS_f t2)) ⟨rfl, rfl, [], [.v (.bl hb), .v (.int k), .v (.int w), .v (.tup [.int n, .str wd, a]), .v (.bl (decide (0 < w) || decide (0 < n)))], rfl, ?_, .inl rfl⟩
    rw [List.append_nil]
  rw [c2] at t2
  rw [Bool.and_eq_true, Bool.or_eq_true] at c2
  have tu : 0 < w ∨ 0 < n := c2.1.imp of_decide_eq_true of_decide_eq_true
  have ap : appM (done.map rowU) [.tup [.str p, .str q, .int w, .tup [.int n, .str wd, a]]] g = some ((done ++ [(⟨p, q, wd, w, n, a⟩ : RW)]).map rowU, .non) := by
    simp only [appM]
    rw [if_pos (by rw [List.length_map, sizeLine_eq]; omega), List.map_append]; rfl
  refine ok_of (whole.trans ((ifS_t t2).trans (mutO_eq (i := 3) rfl (consA_eq (tupE_eq (consA_eq rfl (consA_eq rfl (consA_eq rfl (consA_eq rfl rfl)))) (by show 4 ≤ 1000; decide)) rfl) ap))) ⟨rfl, rfl, [⟨p, q, wd, w, n, a⟩], [.v (.bl hb), .v (.int k), .v (.int w), .v (.tup [.int n, .str wd, a]), .v (.bl (decide (0 < w) || decide (0 < n)))], rfl, rfl, .inr ⟨_, rfl, ⟨pp.t, pq.t, ne, hm, w0, w1, n1, an, tu⟩, rfl, rfl⟩⟩
end K81
namespace K81
open PySem PyProof.Rows BB PP
open L2 hiding eqU
open MM
abbrev key (r : RW) : Str × Str := (r.p, r.q)
theorem ls_irr (a : List Nat) : ¬ a < a := List.lt_irrefl a
theorem ls_tri {a b : List Nat} (h1 : ¬ a < b) (h2 : ¬ b < a) : a = b := List.le_antisymm (List.not_lt.mp h2) (List.not_lt.mp h1)
theorem kl_irr (a : RW) : ¬ kl a a := fun h => h.elim (ls_irr _) fun h => ls_irr _ h.2
theorem kl_tr {a b c : RW} (h1 : kl a b) (h2 : kl b c) : kl a c := by
  rcases h1 with h1 | ⟨e1, h1⟩ <;> rcases h2 with h2 | ⟨e2, h2⟩
  · exact .inl (List.lt_trans h1 h2)
  · exact .inl (e2 ▸ h1)
  · exact .inl (e1 ▸ h2)
  · exact .inr ⟨e1.trans e2, List.lt_trans h1 h2⟩
theorem kl_tri {a b : RW} (h1 : ¬ kl a b) (h2 : ¬ kl b a) : key a = key b := by
  have e1 : a.p = b.p := str_ext (ls_tri (fun z => h1 (.inl z)) (fun z => h2 (.inl z)))
  have e2 : a.q = b.q := str_ext (ls_tri (fun z => h1 (.inr ⟨e1, z⟩)) (fun z => h2 (.inr ⟨e1.symm, z⟩)))
  exact Prod.ext e1 e2
theorem lt_of_kl {a b : RW} (h : kl a b) : ltK (rowU a) (rowU b) = some true ∧ ltK (rowU b) (rowU a) = some false := by
  have asym : ∀ {x y : List Nat}, x < y → decide (y < x) = false := fun h => decide_eq_false fun z => ls_irr _ (List.lt_trans h z)
  rcases h with h | ⟨e, h⟩
  · have n1 : (a.p == b.p) = false := by
      have : a.p ≠ b.p := fun z => by rw [z] at h; exact ls_irr _ h
      simpa using this
    have n2 : (b.p == a.p) = false := by
      have : b.p ≠ a.p := fun z => by rw [z] at h; exact ls_irr _ h
      simpa using this
    simp only [rowU, ltK, lexK, eqNs, n1, n2, lt1, decide_eq_true h, asym h, and_self]
  · have n1 : (a.q == b.q) = false := by
      have : a.q ≠ b.q := fun z => by rw [z] at h; exact ls_irr _ h
      simpa using this
    have n2 : (b.q == a.q) = false := by
      have : b.q ≠ a.q := fun z => by rw [z] at h; exact ls_irr _ h
      simpa using this
    have e1 : (a.p == b.p) = true := by simp [e]
    have e2 : (b.p == a.p) = true := by simp [e]
    simp only [rowU, ltK, lexK, eqNs, n1, n2, e1, e2, lt1, decide_eq_true h, asym h, and_self]
theorem at_self {u : U} (h : RPa u) (n : Nat) : eqN n u u = some true := by
  rcases h with ⟨i, rfl, _⟩ | ⟨z, rfl, _⟩
  · cases n <;> simp [eqNs]
  · cases n <;> simp [eqNs]
theorem row_irr {h : Str} {r : RW} (v : VR h r) : ltK (rowU r) (rowU r) = some false := by
  have ea := at_self v.an.at 13
  simp only [rowU, ltK, lexK, eqNs, eqL, ea, beq_self_eq_true, Bool.and_self, Bool.and_true]
open Classical in
theorem sorted_ex {h : Str} {rs : List RW} (v : ∀ r ∈ rs, VR h r) (nd : (rs.map key).Nodup) : ∃ ss : List RW, ss.Perm rs ∧ ss.Pairwise kl := by
  have pm := List.mergeSort_perm rs fun a b => !decide (kl b a)
  refine ⟨_, pm, ?_⟩
  have so := List.pairwise_mergeSort (le := fun a b => !decide (kl b a)) (fun a b c h1 h2 => by
    simp only [Bool.not_eq_true', decide_eq_false_iff_not] at h1 h2 ⊢
    intro h3
    by_cases h4 : kl b c
    · by_cases h5 : kl a b
      · exact kl_irr _ (kl_tr h3 (kl_tr h5 h4))
      · have e := kl_tri h5 h1
        have : kl b b := by
          have h6 := kl_tr h4 h3
          have e1 : a.p = b.p := congrArg Prod.fst e
          have e2 : a.q = b.q := congrArg Prod.snd e
          rcases h6 with z | ⟨z1, z2⟩
          · exact .inl (e1 ▸ z)
          · exact .inr ⟨rfl, e2 ▸ z2⟩
        exact kl_irr _ this
    · have e := kl_tri h4 h2
      have e1 : b.p = c.p := congrArg Prod.fst e
      have e2 : b.q = c.q := congrArg Prod.snd e
      apply h1
      rcases h3 with z | ⟨z1, z2⟩
      · exact .inl (e1 ▸ z)
      · exact .inr ⟨e1.trans z1, e2 ▸ z2⟩) (fun a b => by
    by_cases h1 : kl b a
    · have : ¬ kl a b := fun z => kl_irr _ (kl_tr h1 z)
      simp [this]
    · simp [h1]) rs
  have nd2 : ((rs.mergeSort fun a b => !decide (kl b a)).map key).Nodup := (List.Perm.nodup_iff (pm.map key)).mpr nd
  have nd3 := List.pairwise_map.mp nd2
  refine (so.and nd3).imp fun {a b} hab => ?_
  obtain ⟨h1, h2⟩ := hab
  have h1 : ¬ kl b a := by simpa using h1
  exact Classical.byContradiction fun h3 => h2 (kl_tri h3 h1)
theorem e_sorted {h : Str} {rs : List RW} {u : U} {g : Gm} (v : ∀ r ∈ rs, VR h r) (nd : (rs.map key).Nodup) (hu : look g u = .lst (rs.map rowU)) : ∃ ss : List RW, ss.Perm rs ∧ ss.Pairwise kl ∧ sortedF [u] g = .ok (.lst (ss.map rowU)) g := by
  obtain ⟨s0, p0, o0⟩ := sorted_ex v nd
  have ex : ∃ p : Kn × List U, SortOk p.1 (rs.map rowU) p.2 := ⟨(.kT, s0.map rowU), p0.map _, fun u hu => by
    obtain ⟨r, _, rfl⟩ := List.mem_map.mp hu; rfl, List.pairwise_map.mpr (o0.imp fun h => lt_of_kl h), fun u hu => by
    obtain ⟨r, hr, rfl⟩ := List.mem_map.mp hu
    exact row_irr (v r (p0.subset hr))⟩
  have e : sortedF [u] g = .ok (.lst (Classical.choose ex).2) g := by
    simp only [sortedF, hu]
    rw [dif_pos ex]
  have S := Classical.choose_spec ex
  obtain ⟨ss, ps, es⟩ := perm_lift S.pm rfl
  refine ⟨ss, ps, ?_, by rw [e, es]⟩
  have so := S.so
  rw [← es] at so
  have nd2 : (ss.map key).Nodup := (List.Perm.nodup_iff (ps.map key)).mpr nd
  refine ((List.pairwise_map.mp so).and (List.pairwise_map.mp nd2)).imp fun {a b} hab => ?_
  obtain ⟨⟨h1, _⟩, h2⟩ := hab
  refine Classical.byContradiction fun h3 => ?_
  by_cases h4 : kl b a
  · rw [(lt_of_kl h4).2] at h1; cases h1
  · exact h2 (kl_tri h3 h4)
theorem pairs_nodup {ps : List Str} (h : ps.Nodup) : ∀ l : List Str, l.Nodup → (l.flatMap fun p => ps.map fun q => (p, q)).Nodup
  | [], _ => List.nodup_nil
  | p :: l, hl => by
    rw [List.flatMap_cons]
    obtain ⟨h1, h2⟩ := List.nodup_cons.mp hl
    refine List.nodup_append.mpr ⟨?_, pairs_nodup h l h2, fun a ha b hb e => ?_⟩
    · exact List.Pairwise.map _ (fun a b hab e => hab (by injection e)) h
    · obtain ⟨q, _, rfl⟩ := List.mem_map.mp ha
      obtain ⟨p', hp', hb⟩ := List.mem_flatMap.mp hb
      obtain ⟨q', _, rfl⟩ := List.mem_map.mp hb
      injection e with e1 e2
      exact h1 (e1 ▸ hp')
theorem e_inner {c : Int} {ps : List Str} {h p : Str} {done : List RW} {K : List (Str × Str)} {xs : List Sl} {g : Gm} (hp : p ∈ ps) (hps : ∀ p ∈ ps, PPe p) (hl : ps.length ≤ 10) (hh : HouseS h) (hx : xs.length = 6) (hv : ∀ r ∈ done, VR h r) (hk : (done.map key).Sublist K) (hK : K.length ≤ 200) :
    Ok' (forS (itemsL (vE 1)) (nameG 5) bodyI (.v (.int c) :: .v (.lst (ps.map .str)) :: .v (.str h) :: .own (.lst (done.map rowU)) :: .v (.str p) :: xs) g) fun z g' => z.1 = .nx ∧ g' = g ∧ ∃ done' : List RW, ∃ ys : List Sl, ys.length = 6 ∧ z.2 = .v (.int c) :: .v (.lst (ps.map .str)) :: .v (.str h) :: .own (.lst (done'.map rowU)) :: .v (.str p) :: ys ∧ (∀ r ∈ done', VR h r) ∧ (done'.map key).Sublist (K ++ ps.map fun q => (p, q)) := by
  have it : itemsL (vE 1) (.v (.int c) :: .v (.lst (ps.map .str)) :: .v (.str h) :: .own (.lst (done.map rowU)) :: .v (.str p) :: xs) g = .ok (ps.map .str) g := rfl
  unfold forS
  rw [it, ok_b]
  refine ok_mono (for_ok (fun k env g' => g' = g ∧ ∃ done' : List RW, ∃ ys : List Sl, ys.length = 6 ∧ env = .v (.int c) :: .v (.lst (ps.map .str)) :: .v (.str h) :: .own (.lst (done'.map rowU)) :: .v (.str p) :: ys ∧ (∀ r ∈ done', VR h r) ∧ (done'.map key).Sublist (K ++ (ps.take k).map fun q => (p, q))) 0 ⟨rfl, done, xs, hx, rfl, hv, by simpa using hk⟩ ?_) ?_
  · rintro k u env g' eu ⟨rfl, done', ys, hy, rfl, hv', hk'⟩
    rw [Nat.zero_add] at hk' ⊢
    rw [List.getElem?_map] at eu
    obtain ⟨q, eq, rfl⟩ := Option.map_eq_some_iff.mp eu
    have hq : q ∈ ps := List.mem_of_getElem? eq
    obtain ⟨y5, y6, y7, y8, y9, y10, rfl⟩ : ∃ a b c d e f, ys = [a, b, c, d, e, f] := by
      match ys, hy with
      | [a, b, c, d, e, f], _ => exact ⟨a, b, c, d, e, f, rfl⟩
    refine ⟨_, _, rfl, ?_⟩
    have hd : done'.length ≤ 1000 := by
      have := hk'.length_le
      rw [List.length_map, List.length_append, List.length_map, List.length_take] at this
      omega
    refine ok_mono (e_bodyI (x5 := y5) hp hq hps hl hh hd) fun z g2 ⟨z1, z2, ex, zs, zl, ze, zx⟩ => ⟨z1, z2, done' ++ ex, .v (.str q) :: zs, by simp [zl], ze, ?_, ?_⟩
    · intro r hr
      rcases List.mem_append.mp hr with hr | hr
      · exact hv' r hr
      · rcases zx with rfl | ⟨r', rfl, v, _⟩
        · simp at hr
        · obtain rfl := List.mem_singleton.mp hr; exact v
    · rw [List.take_add_one, eq, List.map_append, List.map_append, ← List.append_assoc]
      refine List.Sublist.append hk' ?_
      rcases zx with rfl | ⟨r', rfl, _, e1, e2⟩
      · exact List.nil_sublist _
      · show [key r'].Sublist [(p, q)]
        rw [show key r' = (p, q) from Prod.ext e1 e2]
        exact List.Sublist.refl _
  · rintro z g' ⟨z1, rfl, done', ys, hy, ze, hv', hk'⟩
    rw [Nat.zero_add, List.length_map, List.take_length] at hk'
    exact ⟨z1, rfl, done', ys, hy, ze, hv', hk'⟩
theorem e_rows {c : Int} {ps : List Str} {h : Str} {g : Gm} (hps : ∀ p ∈ ps, PPe p) (nd : ps.Nodup) (hl : ps.length ≤ 10) (hh : HouseS h) : ∃ rs : List RW, rs.length ≤ 40 ∧ (∀ r ∈ rs, VR h r) ∧ rs.Pairwise kl ∧ f_law_rows [.int c, .lst (ps.map .str), .str h] g = .ok (.lst (rs.map rowU)) g := by
  have it : ∀ env : MM.Env, itemsL (vE 1) (.v (.int c) :: .v (.lst (ps.map .str)) :: env) g = .ok (ps.map .str) g := fun _ => rfl
  have lp : Ok' (forS (itemsL (vE 1)) (nameG 4) (forS (itemsL (vE 1)) (nameG 5) bodyI) [.v (.int c), .v (.lst (ps.map .str)), .v (.str h), .own (.lst []), .no, .no, .no, .no, .no, .no, .no] g) fun z g' => z.1 = .nx ∧ g' = g ∧ ∃ done : List RW, ∃ ys : List Sl, z.2 = .v (.int c) :: .v (.lst (ps.map .str)) :: .v (.str h) :: .own (.lst (done.map rowU)) :: ys ∧ (∀ r ∈ done, VR h r) ∧ (done.map key).Sublist (ps.flatMap fun p => ps.map fun q => (p, q)) := by
    unfold forS
    rw [it, ok_b]
    refine ok_mono (for_ok (fun k env g' => g' = g ∧ ∃ done : List RW, ∃ ys : List Sl, ys.length = 7 ∧ env = .v (.int c) :: .v (.lst (ps.map .str)) :: .v (.str h) :: .own (.lst (done.map rowU)) :: ys ∧ (∀ r ∈ done, VR h r) ∧ (done.map key).Sublist ((ps.take k).flatMap fun p => ps.map fun q => (p, q))) 0 ⟨rfl, [], [.no, .no, .no, .no, .no, .no, .no], rfl, rfl, (by simp), by simp⟩ ?_) ?_
    · rintro k u env g' eu ⟨rfl, done, ys, hy, rfl, hv, hk⟩
      rw [Nat.zero_add] at hk ⊢
      rw [List.getElem?_map] at eu
      obtain ⟨p, ep, rfl⟩ := Option.map_eq_some_iff.mp eu
      have hp : p ∈ ps := List.mem_of_getElem? ep
      obtain ⟨y4, y5, y6, y7, y8, y9, y10, rfl⟩ : ∃ a b c d e f h, ys = [a, b, c, d, e, f, h] := by
        match ys, hy with
        | [a, b, c, d, e, f, h], _ => exact ⟨a, b, c, d, e, f, h, rfl⟩
      refine ⟨_, _, rfl, ?_⟩
      have hK : ((ps.take k).flatMap fun p => ps.map fun q => (p, q)).length ≤ 200 := by
        have : ∀ l : List Str, (l.flatMap fun p => ps.map fun q => (p, q)).length = l.length * ps.length := by
          intro l
          induction l with
          | nil => simp
          | cons a l ih => rw [List.flatMap_cons, List.length_append, ih, List.length_map, List.length_cons, Nat.succ_mul]; omega
        rw [this, List.length_take]
        have : min k ps.length * ps.length ≤ 10 * 10 := Nat.mul_le_mul (by omega) hl
        omega
      refine ok_mono (e_inner (xs := [y5, y6, y7, y8, y9, y10]) hp hps hl hh rfl hv hk hK) fun z g2 ⟨z1, z2, done', zs, zl, ze, zv, zk⟩ => ⟨z1, z2, done', .v (.str p) :: zs, by simp [zl], ze, zv, ?_⟩
      rw [List.take_add_one, ep, List.flatMap_append]
      simpa using zk
    · rintro z g' ⟨z1, rfl, done, ys, hy, ze, hv, hk⟩
      rw [Nat.zero_add, List.length_map, List.take_length] at hk
      exact ⟨z1, rfl, done, ys, ze, hv, hk⟩
  obtain ⟨z, g', ez, z1, rfl, done, ys, ze, hv, hk⟩ := ok_ex lp
  obtain ⟨fl, env'⟩ := z
  dsimp only at z1 ze
  subst z1 ze
  have ndk : (done.map key).Nodup := hk.nodup (pairs_nodup nd ps nd)
  obtain ⟨ss, sp, so, es⟩ := e_sorted (g := g') (u := .lst (done.map rowU)) hv ndk rfl
  refine ⟨ss.take 40, by rw [List.length_take]; omega, fun r hr => hv r (sp.subset (List.mem_of_mem_take hr)), so.sublist (List.take_sublist ..), ?_⟩
  have s1 : setO 3 (lstE nilA) [.v (.int c), .v (.lst (ps.map .str)), .v (.str h), .no, .no, .no, .no, .no, .no, .no, .no] g' = .ok (.nx, [.v (.int c), .v (.lst (ps.map .str)), .v (.str h), .own (.lst []), .no, .no, .no, .no, .no, .no, .no]) g' := rfl
  have s2 : slL (.lst (ss.map rowU)) none (some 40) g' = .ok (.lst ((ss.take 40).map rowU)) g' := by
    have := cutU_to (ss.map rowU) 40
    simp only [slL, look]
    rw [show (40 : Int) = ((40 : Nat) : Int) from rfl, this, List.map_take]
  refine runM_rt (env1 := .v (.int c) :: .v (.lst (ps.map .str)) :: .v (.str h) :: .own (.lst (done.map rowU)) :: ys) ?_
  show m_law_rows [.v (.int c), .v (.lst (ps.map .str)), .v (.str h), .no, .no, .no, .no, .no, .no, .no, .no] g' = _
  exact (seqS_eq s1).trans ((seqS_eq ez).trans (rtS_eq ((slE_eq ((callE_eq (consA_eq rfl rfl)).trans es) rfl rfl).trans s2)))
theorem e_lline {h : Str} {r : RW} {g : Gm} (v : VR h r) : f_law_line [rowU r] g = .ok (.str (lineR r)) g := by
  have ws := v.words
  have w2 := str_of (u := .int r.w) (g := g) (.inr ⟨_, rfl, v.w0, v.w1⟩)
  have hc : compL ttT (callE strOf (consA (vE 0) nilA)) [] [.int r.n, .str r.wd, r.a] g = .ok [.str (numS r.n), .str r.wd, .str (txt r.a)] g := by
    have := comp_map (k := fun u : U => u) (h := fun u => U.str (txt u)) (l := [.int r.n, .str r.wd, r.a]) (g := g) (mt := ttT) (me := callE strOf (consA (vE 0) nilA)) (envc := []) fun u hu => ⟨rfl, (callE_eq (consA_eq rfl rfl)).trans (str_of (ws u (by
      simp only [wordsR, List.mem_cons, List.not_mem_nil, or_false] at hu ⊢
      rcases hu with rfl | rfl | rfl <;> simp)).tp)⟩
    simp only [List.map_id'] at this
    exact this
  have hj := e_join (sep := " ") (us := [.str r.p, .str r.q, .str (numS r.w), .str (numS r.n), .str r.wd, .str (txt r.a)]) (ts := (wordsR r).map txt) (g := g) (by decide +kernel) rfl (by show 6 ≤ 400; decide) (fun s hs => by
    obtain ⟨u, hu, rfl⟩ := List.mem_map.mp hs
    exact (ws u hu).tp.len)
  have c1 : compE (itemsT (opE ixF (vE 0) (cE (.int 3)))) ttT (callE strOf (consA (vE 0) nilA)) [] [.v (rowU r)] g = .ok (.lst [.str (numS r.n), .str r.wd, .str (txt r.a)]) g := by
    have e1 : itemsT (opE ixF (vE 0) (cE (.int 3))) [.v (rowU r)] g = .ok [.int r.n, .str r.wd, r.a] g := by
      unfold itemsT
      rw [show opE ixF (vE 0) (cE (.int 3)) [.v (rowU r)] g = .ok (.tup [.int r.n, .str r.wd, r.a]) g from (opE_eq rfl rfl).trans (by simp only [rowU, ixF, look, at3]), ok_b]
    unfold compE
    rw [e1, ok_b]
    rw [if_pos (by show 3 < sizeLine; rw [sizeLine_eq]; decide)]
    show (match compL ttT (callE strOf (consA (vE 0) nilA)) [] [.int r.n, .str r.wd, r.a] g with | .ok ys g2 => Res.ok (U.lst ys) g2 | _ => .stuck) = _
    rw [hc]
  have i0 : ixF (rowU r) (.int 0) g = .ok (.str r.p) g := by simp only [rowU, ixF, look, at0]
  have i1 : ixF (rowU r) (.int 1) g = .ok (.str r.q) g := by simp only [rowU, ixF, look, at1]
  have i2 : ixF (rowU r) (.int 2) g = .ok (.int r.w) g := by simp only [rowU, ixF, look, at2]
  have w2 : strOf [.int r.w] g = .ok (.str (numS r.w)) g := w2
  have l1 : lstE (consA (opE ixF (vE 0) (cE (.int 0))) (consA (opE ixF (vE 0) (cE (.int 1))) (consA (callE strOf (consA (opE ixF (vE 0) (cE (.int 2))) nilA)) nilA))) [.v (rowU r)] g = .ok (.lst [.str r.p, .str r.q, .str (numS r.w)]) g :=
    lstE_eq (consA_eq ((opE_eq rfl rfl).trans i0) (consA_eq ((opE_eq rfl rfl).trans i1) (consA_eq ((callE_eq (consA_eq ((opE_eq rfl rfl).trans i2) rfl)).trans w2) rfl))) (by show 3 ≤ 1000; decide)
  have ca : catF (.lst [.str r.p, .str r.q, .str (numS r.w)]) (.lst [.str (numS r.n), .str r.wd, .str (txt r.a)]) g = .ok (.lst [.str r.p, .str r.q, .str (numS r.w), .str (numS r.n), .str r.wd, .str (txt r.a)]) g := by
    simp only [catF, look, List.length_cons, List.length_nil, sizeLine_eq, Nat.reduceAdd, Nat.zero_add, Nat.reduceLeDiff, ↓reduceIte, List.cons_append, List.nil_append]
  refine runM_rt (env1 := [.v (rowU r)]) ?_
  show m_law_line [.v (rowU r)] g = _
  exact rtS_eq ((bmE_str rfl (consA_eq ((opE_eq l1 c1).trans ca) rfl)).trans hj)
end K81
namespace K81
open PySem PyProof.Rows BB PP
open L2 hiding eqU
open MM
theorem arr_len (l : List Nat) : (⟨l.toArray⟩ : Str).length = l.length := by show l.toArray.size = _; simp
theorem house_s {c : Int} {k : Nat} (hk : k < 4) : HouseS (houseT c k) := by
  have wl := word_len (c := c) (k := 0 + (k : Int)) (most := 5) (sg := SM) (by decide) (by decide)
  have e5 : (5 : Int).toNat = 5 := rfl
  have l1 : (⟨#[97 + k]⟩ : Str).length = 1 := rfl
  unfold houseT
  refine ⟨by rw [cat_len, arr_len]; omega, by rw [cat_len, arr_len]; omega, fun x hx => ?_⟩
  rw [cat_cps] at hx
  rcases List.mem_append.mp hx with z | z
  · exact word_mem (by decide +kernel) (by decide +kernel) x (by simpa using z)
  · have : x = 97 + k := by simpa using z
    subst this
    match k, hk with
    | 0, _ => decide +kernel
    | 1, _ => decide +kernel
    | 2, _ => decide +kernel
    | 3, _ => decide +kernel
theorem sign_mem (k : Nat) : signAt NM (11 * (0 + (k : Int)) % 37) ∈ NM.cps.toList := by
  have := (sign_at (sg := NM) (z := 11 * (0 + (k : Int))) (g := []) (by decide +kernel) (by decide +kernel) (by omega)).2
  rw [nm37] at this
  exact this
theorem name_s (c : Int) (k : Nat) : NameS (nameT c k) := by
  refine ⟨(name_len c k).2, (name_len c k).1, fun x hx => ?_⟩
  unfold nameT at hx
  rw [cat_cps] at hx
  rcases List.mem_append.mp hx with z | z
  · exact word_mem (by decide +kernel) (by decide +kernel) x (by simpa using z)
  · have : x = signAt NM (11 * (0 + (k : Int)) % 37) := by simpa using z
    subst this; exact sign_mem k
theorem pers_p {c : Int} {hs : List Str} {k : Nat} (hne : 0 < hs.length) (hh : ∀ h ∈ hs, HouseS h) : PPe (persT c hs k) := by
  have km : k % hs.length < hs.length := Nat.mod_lt _ hne
  refine ⟨nameT c k, hs.getD (k % hs.length) "", name_s c k, ?_, rfl⟩
  rw [List.getD_eq_getElem?_getD, List.getElem?_eq_getElem km]
  exact hh _ (List.getElem_mem km)
theorem tw64 : ∀ {a b c d : List Nat}, 64 ∉ a → 64 ∉ c → a ++ 64 :: b = c ++ 64 :: d → a = c
  | [], _, [], _, _, _, _ => rfl
  | [], _, y :: c, _, _, h, e => by
    simp only [List.nil_append, List.cons_append, List.cons.injEq] at e
    exact absurd (by rw [← e.1]; simp) h
  | x :: a, _, [], _, h, _, e => by
    simp only [List.nil_append, List.cons_append, List.cons.injEq] at e
    exact absurd (by rw [e.1]; simp) h
  | x :: a, _, y :: c, _, h1, h2, e => by
    simp only [List.cons_append, List.cons.injEq] at e
    rw [e.1, tw64 (fun z => h1 (List.mem_cons_of_mem _ z)) (fun z => h2 (List.mem_cons_of_mem _ z)) e.2]
theorem signs10 : ∀ i < 10, ∀ j < 10, signAt NM (11 * (0 + ((i : Nat) : Int)) % 37) = signAt NM (11 * (0 + ((j : Nat) : Int)) % 37) → i = j := by decide +kernel
theorem pers_ne {c : Int} {hs : List Str} {i j : Nat} (hi : i < 10) (hj : j < 10) (h : persT c hs i = persT c hs j) : i = j := by
  have e := congrArg (fun s : Str => s.cps.toList) h
  unfold persT at e
  simp only [cat_cps, at64, List.append_assoc] at e
  have e : (nameT c i).cps.toList ++ 64 :: (hs.getD (i % hs.length) "").cps.toList = (nameT c j).cps.toList ++ 64 :: (hs.getD (j % hs.length) "").cps.toList := e
  have e2 := tw64 (no64 (name_s c i)) (no64 (name_s c j)) e
  unfold nameT at e2
  rw [cat_cps, cat_cps] at e2
  have e3 := congrArg List.getLast? e2
  simp only [List.getLast?_append] at e3
  have e4 : signAt NM (11 * (0 + (i : Int)) % 37) = signAt NM (11 * (0 + (j : Int)) % 37) := by simpa using e3
  exact signs10 i hi j hj e4
theorem row_self {h : Str} {r : RW} (v : VR h r) : eqN 14 (rowU r) (rowU r) = some true := by
  have ea := at_self v.an.at 12
  simp only [rowU, eqNs, eqL, ea, beq_self_eq_true, Bool.and_self, Bool.and_true]
theorem rows_self {h : Str} : ∀ {rs : List RW}, (∀ r ∈ rs, VR h r) → eqL (eqN 14) (rs.map rowU) (rs.map rowU) = some true
  | [], _ => rfl
  | r :: rs, v => by
    have a := row_self (v r (List.mem_cons_self ..))
    have b := rows_self fun r' hr => v r' (List.mem_cons_of_mem _ hr)
    simp only [List.map_cons, eqL, a, b, Bool.and_self]
noncomputable def bodyT : Ms := (seqS (ifS (blE (opE neF (callE f_book_text (consA (vE 4) (consA (callE listF (consA (vE 5) nilA)) nilA))) (vE 6))) (rtS (cE (.bl false)))
  nilS)
  (seqS (setS 8 (callE f_read_book_text (consA (vE 6) nilA)))
  (seqS (ifS (orT (notT (trE (callE isF (consA (vE 8) (consA (cE (.ty "tuple")) nilA))))) (blE (opE neF (vE 8) (tupE (consA (vE 4) (consA (vE 5) nilA)))))) (rtS (cE (.bl false)))
  nilS)
  (seqS (ifS (notT (trE (callE isF (consA (opE ixF (vE 8) (cE (.int 1))) (consA (cE (.ty "list")) nilA))))) (rtS (cE (.bl false)))
  nilS)
  (seqS (ifS (blE (opE neF (compEC (itemsC (opE ixF (vE 8) (cE (.int 1)))) (trE (callE isF (consA (opE ixF (vE 0) (cE (.int 2))) (consA (cE (.ty "bool")) nilA)))) (vE 0) []) (lstE nilA))) (rtS (cE (.bl false)))
  nilS)
  (exS (mutC appM (opE ixF (vE 8) (cE (.int 1))) (consA (cE (.int 7)) nilA))))))))
theorem none_bool {rs0 : List U} {j : Nat} {g : Gm} (eg : g[j]? = some (.lst rs0)) : ∀ rs : List RW, compLC j rs0 (trE (callE isF (consA (opE ixF (vE 0) (cE (.int 2))) (consA (cE (.ty "bool")) nilA)))) (vE 0) [] (rs.map rowU) g = .ok [] g
  | [] => by
    unfold compLC
    rw [List.map_nil]
    dsimp only
    rw [if_pos eg]
  | r :: rs => by
    have t : trE (callE isF (consA (opE ixF (vE 0) (cE (.int 2))) (consA (cE (.ty "bool")) nilA))) [.v (rowU r)] g = .ok false g := by
      have i2 : ixF (rowU r) (.int 2) g = .ok (.int r.w) g := by simp only [rowU, ixF, look, at2]
      exact trE_bl ((callE_eq (consA_eq ((opE_eq rfl rfl).trans i2) (consA_eq rfl rfl))).trans rfl)
    rw [List.map_cons]
    unfold compLC
    rw [if_pos eg, t]
    exact none_bool eg rs
theorem e_bodyT {s0 c hs ps x7 x8 : Sl} {h : Str} {rs : List RW} {g : Gm} (hh : HouseS h) (hl : rs.length ≤ 40) (v : ∀ r ∈ rs, VR h r) (so : rs.Pairwise kl) :
    ∃ y8 g', bodyT [s0, c, hs, ps, .v (.str h), .v (.lst (rs.map rowU)), .v (.str (bookS h rs)), x7, x8] g = .ok (.nx, [s0, c, hs, ps, .v (.str h), .v (.lst (rs.map rowU)), .v (.str (bookS h rs)), x7, y8]) g' := by
  have b1 := e_book (g := g) hh.2.1 hl v
  have n1 : neF (.str (bookS h rs)) (.str (bookS h rs)) g = .ok (.bl false) g := by simp only [neF, MM.eqU, eqNs, deep, look, beq_self_eq_true, Bool.not_true]
  have t1 : blE (opE neF (callE f_book_text (consA (vE 4) (consA (callE listF (consA (vE 5) nilA)) nilA))) (vE 6)) [s0, c, hs, ps, .v (.str h), .v (.lst (rs.map rowU)), .v (.str (bookS h rs)), x7, x8] g = .ok false g :=
    blE_eq ((opE_eq ((callE_eq (consA_eq rfl (consA_eq ((callE_eq (consA_eq rfl rfl)).trans rfl) rfl))).trans b1) rfl).trans n1)
  have s8 : setS 8 (callE f_read_book_text (consA (vE 6) nilA)) [s0, c, hs, ps, .v (.str h), .v (.lst (rs.map rowU)), .v (.str (bookS h rs)), x7, x8] g = .ok (.nx, [s0, c, hs, ps, .v (.str h), .v (.lst (rs.map rowU)), .v (.str (bookS h rs)), x7, .v (.tup [.str h, .ref g.length])]) (g ++ [.lst (rs.map rowU)]) :=
    setS_eq ((callE_eq (consA_eq rfl rfl)).trans (e_read hh hl v so))
  obtain ⟨g1, hg1⟩ : ∃ g1, g ++ [U.lst (rs.map rowU)] = g1 := ⟨_, rfl⟩
  have eg : g1[g.length]? = some (.lst (rs.map rowU)) := by rw [← hg1]; simp
  rw [hg1] at s8
  generalize hj : g.length = j at *
  have lk : look g1 (.ref j) = .lst (rs.map rowU) := by simp only [look, eg]
  have n2 : neF (.tup [.str h, .ref j]) (.tup [.str h, .lst (rs.map rowU)]) g1 = .ok (.bl false) g1 := by
    have e1 : deep g1 (.tup [.str h, .ref j]) = .tup [.str h, .lst (rs.map rowU)] := by
      show U.tup ([U.str h, .ref j].map (look g1)) = _
      rw [List.map_cons, List.map_cons, lk]; rfl
    have e2 : deep g1 (.tup [.str h, .lst (rs.map rowU)]) = .tup [.str h, .lst (rs.map rowU)] := rfl
    have e3 : eqN 16 (.tup [.str h, .lst (rs.map rowU)]) (.tup [.str h, .lst (rs.map rowU)]) = some true := by
      simp only [eqNs, eqL, rows_self v, beq_self_eq_true, Bool.and_self, Bool.and_true]
    simp only [neF, MM.eqU, e1, e2, e3, Bool.not_true]
  have t2 : orT (notT (trE (callE isF (consA (vE 8) (consA (cE (.ty "tuple")) nilA))))) (blE (opE neF (vE 8) (tupE (consA (vE 4) (consA (vE 5) nilA))))) [s0, c, hs, ps, .v (.str h), .v (.lst (rs.map rowU)), .v (.str (bookS h rs)), x7, .v (.tup [.str h, .ref j])] g1 = .ok false g1 :=
    (orT_f (notT_eq (trE_bl (b := true) ((callE_eq (consA_eq rfl (consA_eq rfl rfl))).trans rfl)))).trans (blE_eq ((opE_eq rfl (tupE_eq (consA_eq rfl (consA_eq rfl rfl)) (by show 2 ≤ 1000; decide))).trans n2))
  have i1 : opE ixF (vE 8) (cE (.int 1)) [s0, c, hs, ps, .v (.str h), .v (.lst (rs.map rowU)), .v (.str (bookS h rs)), x7, .v (.tup [.str h, .ref j])] g1 = .ok (.ref j) g1 := (opE_eq rfl rfl).trans (by simp only [ixF, look, at1])
  have is1 : isF [.ref j, .ty "list"] g1 = .ok (.bl true) g1 := by simp only [isF, lk, kdU, kd_list, isLst]
  have t3 : notT (trE (callE isF (consA (opE ixF (vE 8) (cE (.int 1))) (consA (cE (.ty "list")) nilA)))) [s0, c, hs, ps, .v (.str h), .v (.lst (rs.map rowU)), .v (.str (bookS h rs)), x7, .v (.tup [.str h, .ref j])] g1 = .ok false g1 :=
    notT_eq (trE_bl (b := true) ((callE_eq (consA_eq i1 (consA_eq rfl rfl))).trans is1))
  have c1 : compEC (itemsC (opE ixF (vE 8) (cE (.int 1)))) (trE (callE isF (consA (opE ixF (vE 0) (cE (.int 2))) (consA (cE (.ty "bool")) nilA)))) (vE 0) [] [s0, c, hs, ps, .v (.str h), .v (.lst (rs.map rowU)), .v (.str (bookS h rs)), x7, .v (.tup [.str h, .ref j])] g1 = .ok (.lst []) g1 := by
    have e1 : itemsC (opE ixF (vE 8) (cE (.int 1))) [s0, c, hs, ps, .v (.str h), .v (.lst (rs.map rowU)), .v (.str (bookS h rs)), x7, .v (.tup [.str h, .ref j])] g1 = .ok (j, rs.map rowU) g1 := by
      unfold itemsC
      rw [i1, ok_b]
      dsimp only
      rw [eg]
    unfold compEC
    rw [e1, ok_b]
    rw [if_pos (by rw [List.length_map, sizeLine_eq]; omega)]
    show (match compLC j (rs.map rowU) (trE (callE isF (consA (opE ixF (vE 0) (cE (.int 2))) (consA (cE (.ty "bool")) nilA)))) (vE 0) [] (rs.map rowU) g1 with | .ok ys g2 => Res.ok (U.lst ys) g2 | _ => .stuck) = _
    rw [none_bool eg]
  have t4 : blE (opE neF (compEC (itemsC (opE ixF (vE 8) (cE (.int 1)))) (trE (callE isF (consA (opE ixF (vE 0) (cE (.int 2))) (consA (cE (.ty "bool")) nilA)))) (vE 0) []) (lstE nilA)) [s0, c, hs, ps, .v (.str h), .v (.lst (rs.map rowU)), .v (.str (bookS h rs)), x7, .v (.tup [.str h, .ref j])] g1 = .ok false g1 :=
    blE_eq ((opE_eq c1 rfl).trans rfl)
  have ap : mutC appM (opE ixF (vE 8) (cE (.int 1))) (consA (cE (.int 7)) nilA) [s0, c, hs, ps, .v (.str h), .v (.lst (rs.map rowU)), .v (.str (bookS h rs)), x7, .v (.tup [.str h, .ref j])] g1 = .ok .non (g1.set j (.lst (rs.map rowU ++ [.int 7]))) := by
    have ty : tyF "list" g1 (.ref j) = true := by simp only [tyF, lk, beq_self_eq_true]
    have a1 : appM (rs.map rowU) [.int 7] g1 = some (rs.map rowU ++ [.int 7], .non) := by
      simp only [appM]; rw [if_pos (by rw [List.length_map, sizeLine_eq]; omega)]
    unfold mutC
    rw [i1, ok_b]
    dsimp only
    rw [if_pos ty, show consA (cE (.int 7)) nilA [s0, c, hs, ps, .v (.str h), .v (.lst (rs.map rowU)), .v (.str (bookS h rs)), x7, .v (.tup [.str h, .ref j])] g1 = .ok [.int 7] g1 from rfl, ok_b, eg]
    dsimp only
    rw [a1]
  refine ⟨.v (.tup [.str h, .ref j]), g1.set j (.lst (rs.map rowU ++ [.int 7])), ?_⟩
  exact (seqS_eq (ifS_f t1)).trans ((seqS_eq s8).trans ((seqS_eq (ifS_f t2)).trans ((seqS_eq (ifS_f t3)).trans ((seqS_eq (ifS_f t4)).trans (exS_eq ap)))))
noncomputable def bodyL : Ms := (seqS (setS 2 (callE f_law_houses (consA (vE 1) (consA (opE addF (cE (.int 1)) (opE modF (callE f_law_mixed (consA (vE 1) (consA (cE (.int 300)) nilA))) (cE (.int 4)))) nilA))))
  (seqS (setS 3 (callE f_law_people (consA (vE 1) (consA (vE 2) (consA (opE addF (cE (.int 2)) (opE modF (callE f_law_mixed (consA (vE 1) (consA (cE (.int 301)) nilA))) (cE (.int 9)))) nilA)))))
  (seqS (setS 4 (opE ixF (vE 2) (cE (.int 0))))
  (seqS (setS 5 (callE f_law_rows (consA (vE 1) (consA (vE 3) (consA (vE 4) nilA)))))
  (seqS (setS 6 (bmE "str" joinF (cE (.str "\n")) (consA (opE catF (lstE (consA (opE addF (cE (.str "book ")) (vE 4)) nilA)) (compE (itemsL (vE 5)) ttT (callE f_law_line (consA (vE 0) nilA)) [])) nilA)))
  (forS (rng1 (consA (cE (.int 2)) nilA)) (nameG 7)
  bodyT))))))
theorem e_bodyL {s0 : Sl} {c : Int} {x2 x3 x4 x5 x6 x7 x8 : Sl} {g : Gm} : Ok' (bodyL [s0, .v (.int c), x2, x3, x4, x5, x6, x7, x8] g) fun z _ => z.1 = .nx ∧ ∃ ys : List Sl, ys.length = 7 ∧ z.2 = s0 :: .v (.int c) :: ys := by
  have p0 := mx_pos c 300
  have p1 := mx_pos c 301
  obtain ⟨m, hm, m1, m4⟩ : ∃ m : Nat, 1 + mx c 300 % 4 = (m : Int) ∧ 1 ≤ m ∧ m ≤ 4 := ⟨(1 + mx c 300 % 4).toNat, by omega, by omega, by omega⟩
  obtain ⟨n, hn, n2, n10⟩ : ∃ n : Nat, 2 + mx c 301 % 9 = (n : Int) ∧ 2 ≤ n ∧ n ≤ 10 := ⟨(2 + mx c 301 % 9).toNat, by omega, by omega, by omega⟩
  obtain ⟨hs, ehs⟩ : ∃ hs : List Str, (List.range m).map (houseT c) = hs := ⟨_, rfl⟩
  have hsl : hs.length = m := by rw [← ehs]; simp
  have hsh : ∀ h ∈ hs, HouseS h := fun h hh => by
    rw [← ehs] at hh
    obtain ⟨k, hk, rfl⟩ := List.mem_map.mp hh
    exact house_s (by have : k < m := by simpa using hk
                      omega)
  obtain ⟨ps, eps⟩ : ∃ ps : List Str, (List.range n).map (persT c hs) = ps := ⟨_, rfl⟩
  have psl : ps.length = n := by rw [← eps]; simp
  have psp : ∀ p ∈ ps, PPe p := fun p hp => by
    rw [← eps] at hp
    obtain ⟨k, hk, rfl⟩ := List.mem_map.mp hp
    exact pers_p (by omega) hsh
  have psn : ps.Nodup := by
    rw [← eps]
    refine List.pairwise_map.mpr (List.Pairwise.imp_of_mem ?_ (List.nodup_range (n := n)))
    intro a b ha hb hab e
    exact hab (pers_ne (by have := List.mem_range.mp ha; omega) (by have := List.mem_range.mp hb; omega) e)
  have h0 : hs[0]? = some (houseT c 0) := by rw [← ehs, List.getElem?_map, List.getElem?_range (show 0 < m by omega)]; rfl
  have hh : HouseS (houseT c 0) := house_s (by decide)
  obtain ⟨h, eh⟩ : ∃ h, houseT c 0 = h := ⟨_, rfl⟩
  rw [eh] at h0 hh
  have e1 : f_law_houses [.int c, .int (m : Int)] g = .ok (.lst (hs.map .str)) g := by
    rw [e_houses m4, ← ehs, List.map_map]; rfl
  have e2 : f_law_people [.int c, .lst (hs.map .str), .int (n : Int)] g = .ok (.lst (ps.map .str)) g := by
    rw [e_people (by omega) (by omega) (fun h hh => (hsh h hh).2.1) (by omega), ← eps, List.map_map]; rfl
  obtain ⟨rs, rl, rv, ro, e3⟩ := e_rows (c := c) (g := g) psp psn (by omega) hh
  have q4 : modF (.int (mx c 300)) (.int 4) g = .ok (.int (mx c 300 % 4)) g := rfl
  have q9 : modF (.int (mx c 301)) (.int 9) g = .ok (.int (mx c 301 % 9)) g := rfl
  have a1 : addF (.int 1) (.int (mx c 300 % 4)) g = .ok (.int (m : Int)) g := by rw [← hm]; rfl
  have a2 : addF (.int 2) (.int (mx c 301 % 9)) g = .ok (.int (n : Int)) g := by rw [← hn]; rfl
  have s2 : setS 2 (callE f_law_houses (consA (vE 1) (consA (opE addF (cE (.int 1)) (opE modF (callE f_law_mixed (consA (vE 1) (consA (cE (.int 300)) nilA))) (cE (.int 4)))) nilA))) [s0, .v (.int c), x2, x3, x4, x5, x6, x7, x8] g = .ok (.nx, [s0, .v (.int c), .v (.lst (hs.map .str)), x3, x4, x5, x6, x7, x8]) g :=
    setS_eq ((callE_eq (consA_eq rfl (consA_eq ((opE_eq rfl ((opE_eq ((callE_eq (consA_eq rfl (consA_eq rfl rfl))).trans e_mixed) rfl).trans q4)).trans a1) rfl))).trans e1)
  have s3 : setS 3 (callE f_law_people (consA (vE 1) (consA (vE 2) (consA (opE addF (cE (.int 2)) (opE modF (callE f_law_mixed (consA (vE 1) (consA (cE (.int 301)) nilA))) (cE (.int 9)))) nilA)))) [s0, .v (.int c), .v (.lst (hs.map .str)), x3, x4, x5, x6, x7, x8] g = .ok (.nx, [s0, .v (.int c), .v (.lst (hs.map .str)), .v (.lst (ps.map .str)), x4, x5, x6, x7, x8]) g :=
    setS_eq ((callE_eq (consA_eq rfl (consA_eq rfl (consA_eq ((opE_eq rfl ((opE_eq ((callE_eq (consA_eq rfl (consA_eq rfl rfl))).trans e_mixed) rfl).trans q9)).trans a2) rfl)))).trans e2)
  have i0 : ixF (.lst (hs.map .str)) (.int 0) g = .ok (.str h) g := by
    have : atI (hs.map U.str) ((0 : Nat) : Int) = some (.str h) := by rw [MM.atI_nat, List.getElem?_map, h0]; rfl
    have this : atI (hs.map U.str) 0 = some (.str h) := this
    simp only [ixF, look, this]
  have s4 : setS 4 (opE ixF (vE 2) (cE (.int 0))) [s0, .v (.int c), .v (.lst (hs.map .str)), .v (.lst (ps.map .str)), x4, x5, x6, x7, x8] g = .ok (.nx, [s0, .v (.int c), .v (.lst (hs.map .str)), .v (.lst (ps.map .str)), .v (.str h), x5, x6, x7, x8]) g := setS_eq ((opE_eq rfl rfl).trans i0)
  have s5 : setS 5 (callE f_law_rows (consA (vE 1) (consA (vE 3) (consA (vE 4) nilA)))) [s0, .v (.int c), .v (.lst (hs.map .str)), .v (.lst (ps.map .str)), .v (.str h), x5, x6, x7, x8] g = .ok (.nx, [s0, .v (.int c), .v (.lst (hs.map .str)), .v (.lst (ps.map .str)), .v (.str h), .v (.lst (rs.map rowU)), x6, x7, x8]) g :=
    setS_eq ((callE_eq (consA_eq rfl (consA_eq rfl (consA_eq rfl rfl)))).trans e3)
  have cl : compE (itemsL (vE 5)) ttT (callE f_law_line (consA (vE 0) nilA)) [] [s0, .v (.int c), .v (.lst (hs.map .str)), .v (.lst (ps.map .str)), .v (.str h), .v (.lst (rs.map rowU)), x6, x7, x8] g = .ok (.lst (rs.map fun r => .str (lineR r))) g := by
    have hc : compL ttT (callE f_law_line (consA (vE 0) nilA)) [] (rs.map rowU) g = .ok (rs.map fun r => .str (lineR r)) g := comp_map fun r hr => ⟨rfl, (callE_eq (consA_eq rfl rfl)).trans (e_lline (rv r hr))⟩
    have e1 : itemsL (vE 5) [s0, .v (.int c), .v (.lst (hs.map .str)), .v (.lst (ps.map .str)), .v (.str h), .v (.lst (rs.map rowU)), x6, x7, x8] g = .ok (rs.map rowU) g := rfl
    unfold compE
    rw [e1, ok_b, if_pos (by rw [List.length_map, sizeLine_eq]; omega)]
    show (match compL ttT (callE f_law_line (consA (vE 0) nilA)) [] (rs.map rowU) g with | .ok ys g2 => Res.ok (U.lst ys) g2 | _ => .stuck) = _
    rw [hc]
  obtain ⟨b1, b2⟩ := bookL hh.2.1 rl rv
  have hj := e_join (sep := "\n") (us := .str ("book " ++ h) :: rs.map fun r => .str (lineR r)) (ts := ("book " ++ h) :: rs.map lineR) (g := g) (by decide +kernel) (by simp only [strsOf, strs_map, Option.map_some]) (by omega) b2
  have ab : addF (.str "book ") (.str h) g = .ok (.str ("book " ++ h)) g := by
    have : ("book " : Str).length + h.length ≤ sizeLine := by rw [book5, sizeLine_eq]; have := hh.2.1; omega
    simp only [addF, look, this, ↓reduceIte]
  have ca : catF (.lst [.str ("book " ++ h)]) (.lst (rs.map fun r => .str (lineR r))) g = .ok (.lst (.str ("book " ++ h) :: rs.map fun r => .str (lineR r))) g := by
    have : 0 + 1 + (rs.map fun r => U.str (lineR r)).length ≤ sizeLine := by rw [List.length_map, sizeLine_eq]; omega
    simp only [catF, look, List.length_cons, List.length_nil, this, ↓reduceIte, List.cons_append, List.nil_append]
  have s6 : setS 6 (bmE "str" joinF (cE (.str "\n")) (consA (opE catF (lstE (consA (opE addF (cE (.str "book ")) (vE 4)) nilA)) (compE (itemsL (vE 5)) ttT (callE f_law_line (consA (vE 0) nilA)) [])) nilA)) [s0, .v (.int c), .v (.lst (hs.map .str)), .v (.lst (ps.map .str)), .v (.str h), .v (.lst (rs.map rowU)), x6, x7, x8] g = .ok (.nx, [s0, .v (.int c), .v (.lst (hs.map .str)), .v (.lst (ps.map .str)), .v (.str h), .v (.lst (rs.map rowU)), .v (.str (bookS h rs)), x7, x8]) g :=
    setS_eq ((bmE_str rfl (consA_eq ((opE_eq (lstE_eq (consA_eq ((opE_eq rfl rfl).trans ab) rfl) (by show 1 ≤ 1000; decide)) cl).trans ca) rfl)).trans hj)
  have er := rng1_eq (ma := consA (cE (.int 2)) nilA) (env := [s0, .v (.int c), .v (.lst (hs.map .str)), .v (.lst (ps.map .str)), .v (.str h), .v (.lst (rs.map rowU)), .v (.str (bookS h rs)), x7, x8]) (g := g) (g1 := g) (j := 2) rfl (by decide)
  have lp := for_ok (t := nameG 7) (mb := bodyT) (us := intsU 0 2) (env := [s0, .v (.int c), .v (.lst (hs.map .str)), .v (.lst (ps.map .str)), .v (.str h), .v (.lst (rs.map rowU)), .v (.str (bookS h rs)), x7, x8]) (g := g)
    (fun _ env _ => ∃ a b, env = [s0, .v (.int c), .v (.lst (hs.map .str)), .v (.lst (ps.map .str)), .v (.str h), .v (.lst (rs.map rowU)), .v (.str (bookS h rs)), a, b]) 0 ⟨_, _, rfl⟩
    (by
      rintro k u env g' eu ⟨a, b, rfl⟩
      obtain ⟨y8, g2, e⟩ := e_bodyT (s0 := s0) (c := .v (.int c)) (hs := .v (.lst (hs.map .str))) (ps := .v (.lst (ps.map .str))) (x7 := .v u) (x8 := b) (g := g') hh rl rv ro
      exact ⟨_, _, rfl, ok_of e ⟨rfl, .v u, y8, rfl⟩⟩)
  have whole : bodyL [s0, .v (.int c), x2, x3, x4, x5, x6, x7, x8] g = forL (nameG 7) bodyT (intsU 0 2) [s0, .v (.int c), .v (.lst (hs.map .str)), .v (.lst (ps.map .str)), .v (.str h), .v (.lst (rs.map rowU)), .v (.str (bookS h rs)), x7, x8] g := by
    refine (seqS_eq s2).trans ((seqS_eq s3).trans ((seqS_eq s4).trans ((seqS_eq s5).trans ((seqS_eq s6).trans ?_))))
    unfold forS
    rw [er, ok_b]
    rfl
  rw [whole]
  exact ok_mono lp fun z g' ⟨z1, a, b, z2⟩ => ⟨z1, _, rfl, z2⟩
theorem law_ok (ns : List Int) (g : Gm) : ∃ g', f_law [.scr (ns.map .int)] g = .ok (.bl true) g' := by
  obtain ⟨z, ez⟩ : ∃ z : Int, f_law_cell_at [.scr (ns.map .int), .int 0] g = .ok (.int z) g := by
    cases ns with
    | nil =>
      refine ⟨0, ?_⟩
      refine runM_rt (env1 := [.v (.scr []), .v (.int 0)]) ?_
      show m_law_cell_at [.v (.scr []), .v (.int 0)] g = _
      exact (seqS_eq (ifS_f (blE_eq ((opE_eq rfl ((callE_eq (consA_eq rfl rfl)).trans rfl)).trans rfl)))).trans (rtS_eq rfl)
    | cons n ns =>
      refine ⟨n, ?_⟩
      refine runM_rt (env1 := [.v (.scr ((n :: ns).map .int)), .v (.int 0)]) ?_
      show m_law_cell_at [.v (.scr ((n :: ns).map .int)), .v (.int 0)] g = _
      have lt : ltF (.int 0) (.int (((n :: ns).map U.int).length : Int)) g = .ok (.bl true) g := by
        have : decide ((0 : Int) < (((n :: ns).map U.int).length : Int)) = true := decide_eq_true (by rw [List.length_map, List.length_cons]; omega)
        simp only [intF, look, this, ↓reduceIte]
      have ix : ixF (.scr ((n :: ns).map .int)) (.int 0) g = .ok (.int n) g := by simp only [ixF, look, List.map_cons, at0]
      exact seqS_rt ((ifS_t (blE_eq ((opE_eq rfl ((callE_eq (consA_eq rfl rfl)).trans rfl)).trans lt))).trans (rtS_eq ((opE_eq rfl rfl).trans ix)))
  obtain ⟨ms, ems⟩ : ∃ ms : List Int, cutU (ns.map .int) (some 1) (some 8) = ms.map U.int := ⟨_, by unfold cutU; rw [← List.map_drop, ← List.map_take]⟩
  have ml : ms.length ≤ 7 := by
    have := congrArg List.length ems
    unfold cutU at this
    simp only [List.length_take, List.length_drop, List.length_map] at this
    have e8 : HT.sIx ns.length ns.length (some 8) = min 8 ns.length := HT.sIx_nat ns.length ns.length 8
    have e1 : HT.sIx ns.length 0 (some 1) = min 1 ns.length := HT.sIx_nat ns.length 0 1
    rw [e8, e1] at this
    omega
  have sl : slL (.scr (ns.map .int)) (some 1) (some 8) g = .ok (.lst (ms.map .int)) g := by simp only [slL, look, ems]
  have ca : catF (.lst [.int z]) (.lst (ms.map .int)) g = .ok (.lst ((z :: ms).map .int)) g := by
    have : 0 + 1 + (ms.map U.int).length ≤ sizeLine := by rw [List.length_map, sizeLine_eq]; omega
    simp only [catF, look, List.length_cons, List.length_nil, this, ↓reduceIte, List.cons_append, List.nil_append, List.map_cons]
  have it : itemsL (opE catF (lstE (consA (callE f_law_cell_at (consA (vE 0) (consA (cE (.int 0)) nilA))) nilA)) (slE slL (vE 0) (someP (cE (.int 1))) (someP (cE (.int 8))))) [.v (.scr (ns.map .int)), .no, .no, .no, .no, .no, .no, .no, .no] g = .ok ((z :: ms).map .int) g := by
    unfold itemsL
    rw [(opE_eq (lstE_eq (consA_eq ((callE_eq (consA_eq rfl (consA_eq rfl rfl))).trans ez) rfl) (by show 1 ≤ 1000; decide)) ((slE_eq rfl rfl rfl).trans sl)).trans ca, ok_b]
  have lp := for_ok (t := nameG 1) (mb := bodyL) (us := (z :: ms).map U.int) (env := [.v (.scr (ns.map .int)), .no, .no, .no, .no, .no, .no, .no, .no]) (g := g)
    (fun _ env _ => ∃ ys : List Sl, ys.length = 8 ∧ env = .v (.scr (ns.map .int)) :: ys) 0 ⟨[.no, .no, .no, .no, .no, .no, .no, .no], rfl, rfl⟩
    (by
      rintro k u env g' eu ⟨ys, hy, rfl⟩
      rw [List.getElem?_map] at eu
      obtain ⟨c, _, rfl⟩ := Option.map_eq_some_iff.mp eu
      obtain ⟨x1, x2, x3, x4, x5, x6, x7, x8, rfl⟩ : ∃ a b c d e f h i, ys = [a, b, c, d, e, f, h, i] := by
        match ys, hy with
        | [a, b, c, d, e, f, h, i], _ => exact ⟨a, b, c, d, e, f, h, i, rfl⟩
      exact ⟨_, _, rfl, ok_mono e_bodyL fun z g2 ⟨z1, zs, zl, ze⟩ => ⟨z1, .v (.int c) :: zs, by simp [zl], ze⟩⟩)
  obtain ⟨w, g', ew, w1, ys, hy, w2⟩ := ok_ex lp
  obtain ⟨fl, env'⟩ := w
  dsimp only at w1 w2
  subst w1 w2
  refine ⟨g', runM_rt (env1 := .v (.scr (ns.map .int)) :: ys) ?_⟩
  show m_law [.v (.scr (ns.map .int)), .no, .no, .no, .no, .no, .no, .no, .no] g = _
  refine (seqS_eq (m1 := forS _ (nameG 1) bodyL) (env1 := .v (.scr (ns.map .int)) :: ys) (g1 := g') ?_).trans (rtS_eq rfl)
  unfold forS
  rw [it, ok_b]
  exact ew
end K81
namespace K81
open PySem PySem.Spec PyProof.Rows L2 BB PP MM
section
variable {P : Program} {w : World} {K : PySem.W.Frag} {mg : Str → Option Value} {base : Heap}
theorem all_law {fa : Addr} {fd : FuncData} (B : Blt mg) (K_HOUSE_SIGNS : KOk P w K mg "HOUSE_SIGNS" k_HOUSE_SIGNS) (K_HOUSE_LENGTH : KOk P w K mg "HOUSE_LENGTH" k_HOUSE_LENGTH) (K_NAME_SIGNS : KOk P w K mg "NAME_SIGNS" k_NAME_SIGNS) (K_NAME_LENGTH : KOk P w K mg "NAME_LENGTH" k_NAME_LENGTH) (K_LEAST_NUMBER : KOk P w K mg "LEAST_NUMBER" k_LEAST_NUMBER) (K_FIGURES : KOk P w K mg "FIGURES" k_FIGURES) (K_MOST_FIGURES : KOk P w K mg "MOST_FIGURES" k_MOST_FIGURES) (D_is_made_of : Def K mg "is_made_of" s_is_made_of) (D_is_house : Def K mg "is_house" s_is_house) (D_is_person : Def K mg "is_person" s_is_person) (D_check_person : Def K mg "check_person" s_check_person) (D_parts_of : Def K mg "parts_of" s_parts_of) (D_house_of : Def K mg "house_of" s_house_of) (D_is_whole : Def K mg "is_whole" s_is_whole) (D_asks : Def K mg "asks" s_asks) (D_is_asking_wish : Def K mg "is_asking_wish" s_is_asking_wish) (D_is_nought : Def K mg "is_nought" s_is_nought) (D_number_fits : Def K mg "number_fits" s_number_fits) (D_at_fits : Def K mg "at_fits" s_at_fits) (D_is_answer : Def K mg "is_answer" s_is_answer) (D_is_number_text : Def K mg "is_number_text" s_is_number_text) (D_turn_text : Def K mg "turn_text" s_turn_text) (D_read_word : Def K mg "read_word" s_read_word) (D_read_parts : Def K mg "read_parts" s_read_parts) (D_is_pair_of : Def K mg "is_pair_of" s_is_pair_of) (D_is_row : Def K mg "is_row" s_is_row) (D_book_text : Def K mg "book_text" s_book_text) (D_read_row : Def K mg "read_row" s_read_row) (D_read_head : Def K mg "read_head" s_read_head) (D_read_book_text : Def K mg "read_book_text" s_read_book_text) (D_law_cell_at : Def K mg "_law_cell_at" s_law_cell_at) (D_law_mixed : Def K mg "_law_mixed" s_law_mixed) (D_law_word : Def K mg "_law_word" s_law_word) (D_law_houses : Def K mg "_law_houses" s_law_houses) (D_law_people : Def K mg "_law_people" s_law_people) (D_law_number : Def K mg "_law_number" s_law_number) (D_law_answer : Def K mg "_law_answer" s_law_answer) (D_law_rows : Def K mg "_law_rows" s_law_rows) (D_law_line : Def K mg "_law_line" s_law_line) (F : Fun K "law" "law" s_law fa fd) : FnOk P w K mg base (CXR P w) 10 fa fd ["_law_script"] (spM P w K 1 false f_law) := by
  have C_is_made_of := c_is_made_of (P := P) (w := w) (base := base) B D_is_made_of
  have C_is_house := c_is_house (P := P) (w := w) (base := base) B C_is_made_of K_HOUSE_LENGTH K_HOUSE_SIGNS D_is_house
  have C_is_person := c_is_person (P := P) (w := w) (base := base) B C_is_made_of C_is_house K_NAME_LENGTH K_NAME_SIGNS D_is_person
  have C_check_person := c_check_person (P := P) (w := w) (base := base) B C_is_person D_check_person
  have C_parts_of := c_parts_of (P := P) (w := w) (base := base) B C_check_person D_parts_of
  have C_house_of := c_house_of (P := P) (w := w) (base := base) B C_parts_of D_house_of
  have C_is_whole := c_is_whole (P := P) (w := w) (base := base) B D_is_whole
  have C_asks := c_asks (P := P) (w := w) (base := base) B D_asks
  have C_is_asking_wish := c_is_asking_wish (P := P) (w := w) (base := base) B C_is_whole C_asks D_is_asking_wish
  have C_is_nought := c_is_nought (P := P) (w := w) (base := base) B C_is_whole D_is_nought
  have C_number_fits := c_number_fits (P := P) (w := w) (base := base) B K_LEAST_NUMBER D_number_fits
  have C_at_fits := c_at_fits (P := P) (w := w) (base := base) B C_is_person C_is_asking_wish C_is_nought D_at_fits
  have C_is_answer := c_is_answer (P := P) (w := w) (base := base) B C_is_whole C_number_fits C_at_fits D_is_answer
  have C_is_number_text := c_is_number_text (P := P) (w := w) (base := base) B C_is_made_of K_FIGURES K_MOST_FIGURES D_is_number_text
  have C_turn_text := c_turn_text (P := P) (w := w) (base := base) B D_turn_text
  have C_read_word := c_read_word (P := P) (w := w) (base := base) B C_is_number_text D_read_word
  have C_read_parts := c_read_parts (P := P) (w := w) (base := base) B C_read_word D_read_parts
  have C_is_pair_of := c_is_pair_of (P := P) (w := w) (base := base) B C_is_person C_house_of D_is_pair_of
  have C_is_row := c_is_row (P := P) (w := w) (base := base) B C_is_whole C_is_answer C_is_pair_of D_is_row
  have C_book_text := c_book_text (P := P) (w := w) (base := base) B C_turn_text D_book_text
  have C_read_row := c_read_row (P := P) (w := w) (base := base) B C_read_parts D_read_row
  have C_read_head := c_read_head (P := P) (w := w) (base := base) B C_is_house D_read_head
  have C_read_book_text := c_read_book_text (P := P) (w := w) (base := base) B C_is_row C_read_row C_read_head D_read_book_text
  have C_law_cell_at := c_law_cell_at (P := P) (w := w) (base := base) B D_law_cell_at
  have C_law_mixed := c_law_mixed (P := P) (w := w) (base := base) B D_law_mixed
  have C_law_word := c_law_word (P := P) (w := w) (base := base) B C_law_mixed D_law_word
  have C_law_houses := c_law_houses (P := P) (w := w) (base := base) B C_law_word D_law_houses
  have C_law_people := c_law_people (P := P) (w := w) (base := base) B C_law_word D_law_people
  have C_law_number := c_law_number (P := P) (w := w) (base := base) B C_law_mixed D_law_number
  have C_law_answer := c_law_answer (P := P) (w := w) (base := base) B C_law_mixed C_law_number D_law_answer
  have C_law_rows := c_law_rows (P := P) (w := w) (base := base) B C_law_mixed C_law_number C_law_answer D_law_rows
  have C_law_line := c_law_line (P := P) (w := w) (base := base) B D_law_line
  exact c_law B C_book_text C_read_book_text C_law_cell_at C_law_mixed C_law_houses C_law_people C_law_rows C_law_line F
end
theorem walk {l : PySem.W.OpenLaw} {q : Program} {loose : List Str} {XP : (Str → Option Value) → Heap → Prop} {YP : World → Heap → Prop} {d : DefRec} {K : Params → PySem.W.Frag} (hn : l.most = some 63) (hdf : d.params.defaults = [])
    (hY : ∀ (w : World) (h : Heap), YP w h → (K w.params).In h)
    (F : ∀ (w : World) (mg : Str → Option Value) (fa : Addr) (h : Heap), (K w.params).In h → h.Ns mainGlobals mg → mg d.name = some (.ref fa) →
      ∃ fd : FuncData, (∀ (s : Shared) (u : Value), BindsTo s fd ⟨[u], []⟩ [("_law_script", u)]) ∧ ∀ base : Heap, (K w.params).In base → base.Ns mainGlobals mg → FnOk l.prog w (K w.params) mg base (CXR l.prog w) 10 fa fd ["_law_script"] (spM l.prog w (K w.params) 1 false f_law)) :
    PySem.W.WalkO q loose XP YP l.row.toRowW d [] (fun f vs => PySem.call f vs) :=
  L2.walk_of (n := 63) (k := 10) (x := "_law_script") (CX := fun w => CXR l.prog w) (sp := fun w => spM l.prog w (K w.params) 1 false f_law) hn (by decide) hdf ⟨rfl, by decide, by decide⟩ hY F (fun _ _ a ns hl _ hS => sp_law (law_ok ns []) hS) fun _ _ _ _ _ z => by
    obtain ⟨_, _, _, _, _, _, _, _, _, e⟩ := z; exact e
theorem mk_str {P : Program} {w : World} {K : PySem.W.Frag} {mg : Str → Option Value} {h : Heap} {x s : Str} {t : Tok} (KX : K.In h) (G : h.Ns mainGlobals mg) (u : U) (hu : .str s = u) (h1 : PySem.W.nsIn K mainGlobals x = some (some (.str s t))) : KOk P w K mg x u := hu ▸ ⟨.str s, _, PySem.W.mg_of KX G h1, ⟨_, rfl⟩, fun _ => rfl⟩
theorem mk_int {P : Program} {w : World} {K : PySem.W.Frag} {mg : Str → Option Value} {h : Heap} {x : Str} {i : Int} {t : Tok} (KX : K.In h) (G : h.Ns mainGlobals mg) (u : U) (hu : .int i = u) (h1 : PySem.W.nsIn K mainGlobals x = some (some (.int i t))) : KOk P w K mg x u := hu ▸ ⟨.int i, _, PySem.W.mg_of KX G h1, ⟨_, rfl⟩, fun _ => rfl⟩
theorem mk_dk {P : Program} {w : World} {K : PySem.W.Frag} {mg : Str → Option Value} {h : Heap} {x : Str} {a : Addr} {kvs : List (Key × U)} {zs : List (Key × V)} (u : U) (hu : .dk kvs = u) (f : ∀ S, FzK P w K S kvs zs) (KX : K.In h) (G : h.Ns mainGlobals mg) (h1 : PySem.W.nsIn K mainGlobals x = some (some (.ref a))) (d : KDict P w K a zs) : KOk P w K mg x u := hu ▸ ⟨.ref a, _, PySem.W.mg_of KX G h1, rfl, fun S => ⟨a, zs, rfl, .inr d, f S⟩⟩
theorem fz_LEAST_NUMBER {P : Program} {w : World} {K : PySem.W.Frag} : ∀ S, FzK P w K S [(.inr "lets", .int 1), (.inr "refuses", .int 1), (.inr "bars", .int 1), (.inr "gone", .int 1), (.inr "moved", .int 1), (.inr "open", .int 2)] [(.inr "lets", .int 1), (.inr "refuses", .int 1), (.inr "bars", .int 1), (.inr "gone", .int 1), (.inr "moved", .int 1), (.inr "open", .int 2)] := fun _ => ⟨_, _, rfl, rfl, ⟨_, _, rfl, rfl, ⟨_, _, rfl, rfl, ⟨_, _, rfl, rfl, ⟨_, _, rfl, rfl, ⟨_, _, rfl, rfl, rfl⟩⟩⟩⟩⟩⟩
end K81
namespace PySem.W.Fast
def tw90343872475197607 : Type := PySem.Params
theorem te90343872475197607 : PySem.Params = tw90343872475197607 := rfl
end PySem.W.Fast
open PySem PySem.W PyProof.Rows
set_option maxRecDepth 100000 in
set_option maxHeartbeats 0 in
theorem PySem.Challenge.cw_bothbooks_k81_books_as_texts_holds : PySem.Challenge.rw_bothbooks_k81_books_as_texts.Holds := by
  w_on; o_law; k_head; (case hw => w_witness2)
  k_fill
  refine K81.walk (l := PySem.Challenge.rw_bothbooks_k81_books_as_texts) rfl rfl (fun w h Y => PySem.W.kIn_of Y) ?F
  case F =>
    intro w mg fa h KX G hmg
    have d1 := by refine' BB.mk_def (x := "is_made_of") (st := K81.s_is_made_of) KX G ?a1 ?l1 ?c1 ?k1; (case a1 => k_is); (case l1 => k_is); (case c1 => k_is); (case k1 => k_is)
    have d2 := by refine' BB.mk_def (x := "is_house") (st := K81.s_is_house) KX G ?a1 ?l1 ?c1 ?k1; (case a1 => k_is); (case l1 => k_is); (case c1 => k_is); (case k1 => k_is)
    have d3 := by refine' BB.mk_def (x := "is_person") (st := K81.s_is_person) KX G ?a1 ?l1 ?c1 ?k1; (case a1 => k_is); (case l1 => k_is); (case c1 => k_is); (case k1 => k_is)
    have d4 := by refine' BB.mk_def (x := "check_person") (st := K81.s_check_person) KX G ?a1 ?l1 ?c1 ?k1; (case a1 => k_is); (case l1 => k_is); (case c1 => k_is); (case k1 => k_is)
    have d5 := by refine' BB.mk_def (x := "parts_of") (st := K81.s_parts_of) KX G ?a1 ?l1 ?c1 ?k1; (case a1 => k_is); (case l1 => k_is); (case c1 => k_is); (case k1 => k_is)
    have d6 := by refine' BB.mk_def (x := "house_of") (st := K81.s_house_of) KX G ?a1 ?l1 ?c1 ?k1; (case a1 => k_is); (case l1 => k_is); (case c1 => k_is); (case k1 => k_is)
    have d7 := by refine' BB.mk_def (x := "is_whole") (st := K81.s_is_whole) KX G ?a1 ?l1 ?c1 ?k1; (case a1 => k_is); (case l1 => k_is); (case c1 => k_is); (case k1 => k_is)
    have d8 := by refine' BB.mk_def (x := "asks") (st := K81.s_asks) KX G ?a1 ?l1 ?c1 ?k1; (case a1 => k_is); (case l1 => k_is); (case c1 => k_is); (case k1 => k_is)
    have d9 := by refine' BB.mk_def (x := "is_asking_wish") (st := K81.s_is_asking_wish) KX G ?a1 ?l1 ?c1 ?k1; (case a1 => k_is); (case l1 => k_is); (case c1 => k_is); (case k1 => k_is)
    have d10 := by refine' BB.mk_def (x := "is_nought") (st := K81.s_is_nought) KX G ?a1 ?l1 ?c1 ?k1; (case a1 => k_is); (case l1 => k_is); (case c1 => k_is); (case k1 => k_is)
    have d11 := by refine' BB.mk_def (x := "number_fits") (st := K81.s_number_fits) KX G ?a1 ?l1 ?c1 ?k1; (case a1 => k_is); (case l1 => k_is); (case c1 => k_is); (case k1 => k_is)
    have d12 := by refine' BB.mk_def (x := "at_fits") (st := K81.s_at_fits) KX G ?a1 ?l1 ?c1 ?k1; (case a1 => k_is); (case l1 => k_is); (case c1 => k_is); (case k1 => k_is)
    have d13 := by refine' BB.mk_def (x := "is_answer") (st := K81.s_is_answer) KX G ?a1 ?l1 ?c1 ?k1; (case a1 => k_is); (case l1 => k_is); (case c1 => k_is); (case k1 => k_is)
    have d14 := by refine' BB.mk_def (x := "is_number_text") (st := K81.s_is_number_text) KX G ?a1 ?l1 ?c1 ?k1; (case a1 => k_is); (case l1 => k_is); (case c1 => k_is); (case k1 => k_is)
    have d15 := by refine' BB.mk_def (x := "turn_text") (st := K81.s_turn_text) KX G ?a1 ?l1 ?c1 ?k1; (case a1 => k_is); (case l1 => k_is); (case c1 => k_is); (case k1 => k_is)
    have d16 := by refine' BB.mk_def (x := "read_word") (st := K81.s_read_word) KX G ?a1 ?l1 ?c1 ?k1; (case a1 => k_is); (case l1 => k_is); (case c1 => k_is); (case k1 => k_is)
    have d17 := by refine' BB.mk_def (x := "read_parts") (st := K81.s_read_parts) KX G ?a1 ?l1 ?c1 ?k1; (case a1 => k_is); (case l1 => k_is); (case c1 => k_is); (case k1 => k_is)
    have d18 := by refine' BB.mk_def (x := "is_pair_of") (st := K81.s_is_pair_of) KX G ?a1 ?l1 ?c1 ?k1; (case a1 => k_is); (case l1 => k_is); (case c1 => k_is); (case k1 => k_is)
    have d19 := by refine' BB.mk_def (x := "is_row") (st := K81.s_is_row) KX G ?a1 ?l1 ?c1 ?k1; (case a1 => k_is); (case l1 => k_is); (case c1 => k_is); (case k1 => k_is)
    have d20 := by refine' BB.mk_def (x := "book_text") (st := K81.s_book_text) KX G ?a1 ?l1 ?c1 ?k1; (case a1 => k_is); (case l1 => k_is); (case c1 => k_is); (case k1 => k_is)
    have d21 := by refine' BB.mk_def (x := "read_row") (st := K81.s_read_row) KX G ?a1 ?l1 ?c1 ?k1; (case a1 => k_is); (case l1 => k_is); (case c1 => k_is); (case k1 => k_is)
    have d22 := by refine' BB.mk_def (x := "read_head") (st := K81.s_read_head) KX G ?a1 ?l1 ?c1 ?k1; (case a1 => k_is); (case l1 => k_is); (case c1 => k_is); (case k1 => k_is)
    have d23 := by refine' BB.mk_def (x := "read_book_text") (st := K81.s_read_book_text) KX G ?a1 ?l1 ?c1 ?k1; (case a1 => k_is); (case l1 => k_is); (case c1 => k_is); (case k1 => k_is)
    have d24 := by refine' BB.mk_def (x := "_law_cell_at") (st := K81.s_law_cell_at) KX G ?a1 ?l1 ?c1 ?k1; (case a1 => k_is); (case l1 => k_is); (case c1 => k_is); (case k1 => k_is)
    have d25 := by refine' BB.mk_def (x := "_law_mixed") (st := K81.s_law_mixed) KX G ?a1 ?l1 ?c1 ?k1; (case a1 => k_is); (case l1 => k_is); (case c1 => k_is); (case k1 => k_is)
    have d26 := by refine' BB.mk_def (x := "_law_word") (st := K81.s_law_word) KX G ?a1 ?l1 ?c1 ?k1; (case a1 => k_is); (case l1 => k_is); (case c1 => k_is); (case k1 => k_is)
    have d27 := by refine' BB.mk_def (x := "_law_houses") (st := K81.s_law_houses) KX G ?a1 ?l1 ?c1 ?k1; (case a1 => k_is); (case l1 => k_is); (case c1 => k_is); (case k1 => k_is)
    have d28 := by refine' BB.mk_def (x := "_law_people") (st := K81.s_law_people) KX G ?a1 ?l1 ?c1 ?k1; (case a1 => k_is); (case l1 => k_is); (case c1 => k_is); (case k1 => k_is)
    have d29 := by refine' BB.mk_def (x := "_law_number") (st := K81.s_law_number) KX G ?a1 ?l1 ?c1 ?k1; (case a1 => k_is); (case l1 => k_is); (case c1 => k_is); (case k1 => k_is)
    have d30 := by refine' BB.mk_def (x := "_law_answer") (st := K81.s_law_answer) KX G ?a1 ?l1 ?c1 ?k1; (case a1 => k_is); (case l1 => k_is); (case c1 => k_is); (case k1 => k_is)
    have d31 := by refine' BB.mk_def (x := "_law_rows") (st := K81.s_law_rows) KX G ?a1 ?l1 ?c1 ?k1; (case a1 => k_is); (case l1 => k_is); (case c1 => k_is); (case k1 => k_is)
    have d32 := by refine' BB.mk_def (x := "_law_line") (st := K81.s_law_line) KX G ?a1 ?l1 ?c1 ?k1; (case a1 => k_is); (case l1 => k_is); (case c1 => k_is); (case k1 => k_is)
    have z1 : mg "abs" = none := by refine' PySem.W.mg_none_of KX G ?z; (case z => k_is)
    have z2 : mg "int" = none := by refine' PySem.W.mg_none_of KX G ?z; (case z => k_is)
    have z3 : mg "range" = none := by refine' PySem.W.mg_none_of KX G ?z; (case z => k_is)
    have z4 : mg "all" = none := by refine' PySem.W.mg_none_of KX G ?z; (case z => k_is)
    have z5 : mg "any" = none := by refine' PySem.W.mg_none_of KX G ?z; (case z => k_is)
    have z6 : mg "len" = none := by refine' PySem.W.mg_none_of KX G ?z; (case z => k_is)
    have z7 : mg "isinstance" = none := by refine' PySem.W.mg_none_of KX G ?z; (case z => k_is)
    have z8 : mg "str" = none := by refine' PySem.W.mg_none_of KX G ?z; (case z => k_is)
    have z9 : mg "bool" = none := by refine' PySem.W.mg_none_of KX G ?z; (case z => k_is)
    have z10 : mg "tuple" = none := by refine' PySem.W.mg_none_of KX G ?z; (case z => k_is)
    have z11 : mg "list" = none := by refine' PySem.W.mg_none_of KX G ?z; (case z => k_is)
    have z12 : mg "ValueError" = none := by refine' PySem.W.mg_none_of KX G ?z; (case z => k_is)
    have z13 : mg "ord" = none := by refine' PySem.W.mg_none_of KX G ?z; (case z => k_is)
    have z14 : mg "max" = none := by refine' PySem.W.mg_none_of KX G ?z; (case z => k_is)
    have z15 : mg "min" = none := by refine' PySem.W.mg_none_of KX G ?z; (case z => k_is)
    have z16 : mg "enumerate" = none := by refine' PySem.W.mg_none_of KX G ?z; (case z => k_is)
    have z17 : mg "sorted" = none := by refine' PySem.W.mg_none_of KX G ?z; (case z => k_is)
    have z18 : mg "set" = none := by refine' PySem.W.mg_none_of KX G ?z; (case z => k_is)
    have z19 : mg "sum" = none := by refine' PySem.W.mg_none_of KX G ?z; (case z => k_is)
    have q_HOUSE_SIGNS := by refine' K81.mk_str (P := PySem.Challenge.rw_bothbooks_k81_books_as_texts.prog) (w := w) (x := "HOUSE_SIGNS") KX G K81.k_HOUSE_SIGNS rfl ?h1; (case h1 => k_is)
    have q_HOUSE_LENGTH := by refine' K81.mk_int (P := PySem.Challenge.rw_bothbooks_k81_books_as_texts.prog) (w := w) (x := "HOUSE_LENGTH") KX G K81.k_HOUSE_LENGTH rfl ?h1; (case h1 => k_is)
    have q_NAME_SIGNS := by refine' K81.mk_str (P := PySem.Challenge.rw_bothbooks_k81_books_as_texts.prog) (w := w) (x := "NAME_SIGNS") KX G K81.k_NAME_SIGNS rfl ?h1; (case h1 => k_is)
    have q_NAME_LENGTH := by refine' K81.mk_int (P := PySem.Challenge.rw_bothbooks_k81_books_as_texts.prog) (w := w) (x := "NAME_LENGTH") KX G K81.k_NAME_LENGTH rfl ?h1; (case h1 => k_is)
    have q_LEAST_NUMBER := by refine' K81.mk_dk (P := PySem.Challenge.rw_bothbooks_k81_books_as_texts.prog) (w := w) (x := "LEAST_NUMBER") K81.k_LEAST_NUMBER rfl K81.fz_LEAST_NUMBER KX G ?h1 (BB.kd6 (P := PySem.Challenge.rw_bothbooks_k81_books_as_texts.prog) (w := w) ?lk ?nd ?ha); (case h1 => k_is); (case lk => k_is); (case nd => decide); (case ha => decide)
    have q_FIGURES := by refine' K81.mk_str (P := PySem.Challenge.rw_bothbooks_k81_books_as_texts.prog) (w := w) (x := "FIGURES") KX G K81.k_FIGURES rfl ?h1; (case h1 => k_is)
    have q_MOST_FIGURES := by refine' K81.mk_int (P := PySem.Challenge.rw_bothbooks_k81_books_as_texts.prog) (w := w) (x := "MOST_FIGURES") KX G K81.k_MOST_FIGURES rfl ?h1; (case h1 => k_is)
    refine' BB.mk_law (st := K81.s_law) KX G hmg ?a1 ?l1 ?c1 ?k1 ?b1 ?ok
    (case a1 => k_is); (case l1 => k_is); (case c1 => k_is); (case k1 => k_is)
    (case b1 => intros; rfl)
    case ok =>
      intro fd base F
      exact K81.all_law ⟨z1, z2, z3, z4, z5, z6, z7, z8, z9, z10, z11, z12, z13, z14, z15, z16, z17, z18, z19⟩ q_HOUSE_SIGNS q_HOUSE_LENGTH q_NAME_SIGNS q_NAME_LENGTH q_LEAST_NUMBER q_FIGURES q_MOST_FIGURES d1 d2 d3 d4 d5 d6 d7 d8 d9 d10 d11 d12 d13 d14 d15 d16 d17 d18 d19 d20 d21 d22 d23 d24 d25 d26 d27 d28 d29 d30 d31 d32 F
