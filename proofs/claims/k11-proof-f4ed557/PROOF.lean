import PyProof.Rows.All
import Wide.All
import OpenK.AllK
import Wide.FinOn
import Lean
import PyProof.EqAt
import PyProof.EqKinds
import PyProof.TupleCall
import PyProof.NeKinds
import PySem.Challenge.RW_oddbases_k11_worth_summed
set_option Elab.async false
set_option linter.all false
set_option maxRecDepth 100000
/-! THE HAND LAYER, for ints, bools, texts, own classes, LISTS and tuples (index, slices, in, append, pop ..), calls, loops. Paste it whole ahead of your own text; what your proof does not reach may be deleted. -/
namespace L2
open PySem PySem.Spec PyProof.Rows

/-- a key: an int or a str -/
abbrev Key := Sum Int Str
def keyIs : Key → Value → Bool
  | .inl k, v => Value.isInt k v
  | .inr x, v => Value.isStrOf x v
def keyH (w : World) : Key → Int
  | .inl k => hashInt k
  | .inr x => hashStr w x
theorem keyIs_shape : ∀ {k : Key} {v : Value}, keyIs k v = true → (∃ i t, k = Sum.inl i ∧ v = Value.int i t) ∨ (∃ x t, k = Sum.inr x ∧ v = Value.str x t)
  | .inl i, v, h => by
    obtain ⟨t, e⟩ := Value.isInt_shape (k := i) (v := v) h
    exact .inl ⟨i, t, rfl, e⟩
  | .inr x, v, h => by
    obtain ⟨t, e⟩ := Value.isStrOf_shape (x := x) (v := v) h
    exact .inr ⟨x, t, rfl, e⟩
theorem key_ll (a b : Int) : decide ((Sum.inl a : Key) = Sum.inl b) = (a == b) := by
  by_cases e : a = b
  · subst e; simp
  · have h : ¬ (Sum.inl a : Key) = Sum.inl b := fun q => e (Sum.inl.inj q)
    rw [decide_eq_false h]
    exact (beq_eq_false_iff_ne.mpr e).symm
theorem key_rr (a b : Str) : decide ((Sum.inr a : Key) = Sum.inr b) = decide (a = b) := by
  by_cases e : a = b
  · subst e; simp
  · have h : ¬ (Sum.inr a : Key) = Sum.inr b := fun q => e (Sum.inr.inj q)
    rw [decide_eq_false h, decide_eq_false e]
theorem key_lr (a : Int) (b : Str) : decide ((Sum.inl a : Key) = Sum.inr b) = false := decide_eq_false (fun q => nomatch q)
theorem key_rl (a : Str) (b : Int) : decide ((Sum.inr a : Key) = Sum.inl b) = false := decide_eq_false (fun q => nomatch q)

def mixKind (prog : Program) (w : World) : PySem.KeyKind prog w Key where
  is := keyIs
  hash := keyH w
  inj := fun v a b ha hb => by
    rcases keyIs_shape ha with ⟨i, t, rfl, rfl⟩ | ⟨x, t, rfl, rfl⟩
    · rcases keyIs_shape hb with ⟨j, u, rfl, e⟩ | ⟨y, u, rfl, e⟩
      · injection e with e1 _; rw [e1]
      · exact nomatch e
    · rcases keyIs_shape hb with ⟨j, u, rfl, e⟩ | ⟨y, u, rfl, e⟩
      · exact nomatch e
      · injection e with e1 _; rw [e1]
  byValue := fun k v h => by
    rcases keyIs_shape h with ⟨i, t, rfl, rfl⟩ | ⟨x, t, rfl, rfl⟩ <;> rfl
  pyHash := fun hv h => by
    rcases keyIs_shape hv with ⟨i, t, rfl, rfl⟩ | ⟨x, t, rfl, rfl⟩
    · exact wpAny_pyHash_int h
    · exact wpAny_pyHash_str h
  eqBool := fun hu hv h => by
    rcases keyIs_shape hu with ⟨i, t, rfl, rfl⟩ | ⟨x, t, rfl, rfl⟩
    · rcases keyIs_shape hv with ⟨j, u, rfl, rfl⟩ | ⟨y, u, rfl, rfl⟩
      · rw [key_ll] at h; exact wpAny_eqBool_int h
      · rw [key_lr] at h; exact SeqAt.EqAt.int_str i t y u _ _ _ _ h
    · rcases keyIs_shape hv with ⟨j, u, rfl, rfl⟩ | ⟨y, u, rfl, rfl⟩
      · rw [key_rl] at h; exact SeqAt.EqAt.str_int x t j u _ _ _ _ h
      · rw [key_rr] at h; exact wpAny_eqBool_str h
  «strs» := fun k x t v h => by
    rcases keyIs_shape h with ⟨i, u, rfl, e⟩ | ⟨y, u, rfl, e⟩
    · exact nomatch e
    · injection e with e1 _
      subst e1
      cases v <;> rfl

end L2

namespace L2
open PySem PySem.Spec PyProof.Rows

/-- a value, without the heap -/
inductive V where
  | non | bl (b : Bool) | int (i : Int) | str (x : Str) | byt (b : Array UInt8) | flt (b : UInt64) | ref (a : Addr) | ty (n : String)
  deriving DecidableEq

def RelV : V → Value → Prop
  | .non, u => u = Value.none
  | .bl b, u => u = Value.bool b
  | .int i, u => ∃ t, u = Value.int i t
  | .str x, u => ∃ t, u = Value.str x t
  | .byt b, u => ∃ t, u = Value.bytes b t
  | .flt b, u => ∃ t, u = Value.float b t
  | .ref a, u => u = Value.ref a
  | .ty n, u => u = Value.type n

abbrev Vals : List V → List Value → Prop := Paired RelV
theorem Vals.length {xs : List V} {us : List Value} (r : Vals xs us) : xs.length = us.length := Paired.length r
theorem Vals.get : ∀ {xs : List V} {us : List Value} {i : Nat} {x : V}, Vals xs us → xs[i]? = some x → ∃ u, us[i]? = some u ∧ RelV x u
  | _, _, _, _, .nil, e => by simp at e
  | _, _, 0, _, .cons r _, e => by simp at e; subst e; exact ⟨_, rfl, r⟩
  | _, _, i + 1, x, .cons _ t, e => by
    obtain ⟨u, h1, h2⟩ := Vals.get (i := i) (x := x) t (by simpa using e)
    exact ⟨u, by simpa using h1, h2⟩
theorem Vals.set {x : V} {u : Value} (r : RelV x u) : ∀ {xs : List V} {us : List Value} (i : Nat), Vals xs us → Vals (xs.set i x) (us.set i u)
  | _, _, _, .nil => .nil
  | _, _, 0, .cons _ t => .cons r t
  | _, _, i + 1, .cons q t => .cons q (Vals.set r i t)
theorem Vals.append : ∀ {xs ys : List V} {us ws : List Value}, Vals xs us → Vals ys ws → Vals (xs ++ ys) (us ++ ws)
  | _, _, _, _, .nil, s => s
  | _, _, _, _, .cons r t, s => .cons r (Vals.append t s)
theorem Vals.take : ∀ {xs : List V} {us : List Value} (n : Nat), Vals xs us → Vals (xs.take n) (us.take n)
  | _, _, 0, _ => .nil
  | _, _, _ + 1, .nil => .nil
  | _, _, n + 1, .cons r t => .cons r (Vals.take n t)
theorem Vals.drop : ∀ {xs : List V} {us : List Value} (n : Nat), Vals xs us → Vals (xs.drop n) (us.drop n)
  | _, _, 0, r => r
  | _, _, _ + 1, .nil => .nil
  | _, _, n + 1, .cons _ t => Vals.drop n t
theorem Vals.none_of : ∀ {xs : List V} {us : List Value} {i : Nat}, Vals xs us → xs[i]? = none → us[i]? = none := fun {xs us i} r e => by
  have h1 := r.length
  have h2 : xs.length ≤ i := List.getElem?_eq_none_iff.mp e
  exact List.getElem?_eq_none_iff.mpr (by omega)

def RelO : Option V → Option Value → Prop
  | some v, some u => RelV v u
  | none, none => True
  | _, _ => False
def KV {κ : Type} : List (κ × V) → List (κ × Value) → Prop := Paired fun (p : κ × V) (q : κ × Value) => p.1 = q.1 ∧ RelV p.2 q.2

/-- a key of a dict (00_mix): an int or a text -/
def kV : Key → V
  | .inl i => .int i
  | .inr x => .str x

/-- what stands at a tracked address -/
inductive HO where
  /-- a list -/
  | lst (xs : List V)
  /-- a tuple (never changes) -/
  | tup (xs : List V)
  /-- a dict whose keys are ints and texts; one whose keys are tuples of ints and texts (the empty one is both) -/
  | dK (kvs : List (Key × V)) | dT (kvs : List (List Key × V))
  /-- a set of ints: its members, its size -/
  | set (S : Int → Bool) (n : Nat)
  /-- an instance of the class at C, its dict at dx, its attributes -/
  | ins (C dx : Addr) (fs : List (Str × V))
  /-- the dict of the instance at x -/
  | own (x : Addr)
  /-- the dict of an exception -/
  | xd (fs : List (Str × V))
  /-- a bound method, f of x -/
  | met (f x : Addr)
  /-- a range object lo, lo + 1, .. below hi -/
  | rng (lo hi : Int)
  /-- a thing that is known to the object (the script; a dict while a loop walks it): read, never written while it is so -/
  | frz (o : Obj) (u : HO)
  /-- a code object's table -/
  | tbl (ps : Array Value)
  /-- any other thing, by what is true of its one object (a def of one's own: SetO a S n := HO.ext fun h => ..) -/
  | ext (φ : Heap → Prop)

abbrev Hp := Addr → Option HO
def upd (H : Hp) (a : Addr) (o : HO) : Hp := fun b => if b = a then some o else H b
theorem upd_same {H : Hp} {a : Addr} {o : HO} : upd H a o a = some o := by unfold upd; rw [if_pos rfl]
theorem upd_ne {H : Hp} {a b : Addr} {o : HO} (h : b ≠ a) : upd H a o b = H b := by unfold upd; rw [if_neg h]
theorem ne_of_none {H : Hp} {a b : Addr} {o : HO} (h : H a = some o) (h' : H b = none) : a ≠ b := by
  intro e; subst e; rw [h] at h'; cases h'

section
variable (P : Program) (w : World)
def ObjOk (H : Hp) (h : Heap) (a : Addr) : HO → Prop
  | .lst xs => xs.length ≤ sizeLine ∧ ∃ (its : List Value) (n : Nat), Vals xs its ∧ h.get? a = some { cls := .type "list", data := .seq its.toArray n }
  | .tup xs => xs.length ≤ sizeLine ∧ ∃ its : List Value, Vals xs its ∧ IsTup h a its.toArray
  | .dK kvs => kvs.length ≤ sizeLine ∧ (a == sysModules) = false ∧ ∃ vs, KV kvs vs ∧ h.DictOf (mixKind P w) a vs
  | .dT kvs => kvs.length ≤ sizeLine ∧ (a == sysModules) = false ∧ ∃ xs : List (List Key × Addr × Value),
      Paired (fun (p : List Key × V) (q : List Key × Addr × Value) => p.1 = q.1 ∧ H q.2.1 = some (.tup (p.1.map kV)) ∧ RelV p.2 q.2.2) kvs xs ∧
      ∃ o es ep, h.get? a = some o ∧ o.ExactDict ∧ o.data = .dict es ep ∧ es.toList = xs.map (entryOfKey (tupleKind (mixKind P w))) ∧ (xs.map (·.1)).Nodup
  | .set S n => h.SetOf (intKind P w) a S n
  | .ins C dx fs => H dx = some (.own a) ∧ fs.length ≤ 1000 ∧ dx ≠ a ∧ h.get? a = some (PySem.W.instObj C dx) ∧
      ∃ mA, h.Ns1 dx mA ∧ (∀ f, RelO (fs.lookup f) (mA f)) ∧ PySem.Within mA (fs.map (·.1))
  | .own _ => ∃ o, h.get? a = some o
  | .xd fs => ∃ mA, h.Ns1 a mA ∧ ∀ f, RelO (fs.lookup f) (mA f)
  | .rng lo hi => ∃ t u v, h.get? a = some { cls := .type "range", data := .fields #[.int lo t, .int hi u, .int 1 v] }
  | .frz o u => h.get? a = some o ∧ ObjOk H h a u
  | .tbl ps => h.get? a = some { cls := .none, data := .fields ps }
  | .met f x => h.get? a = some (PySem.W.methodObj (.ref f) (.ref x))
  | .ext φ => φ h ∧ (∃ o, h.get? a = some o) ∧ ∀ h1 h2 : Heap, φ h1 → (∀ o, h1.get? a = some o → h2.get? a = some o) → φ h2
/-- the abstract heap is held -/
def HOk (H : Hp) (h : Heap) : Prop := ∀ a o, H a = some o → ObjOk P w H h a o
end

section
variable {P : Program} {w : World} {H H' : Hp} {h h' : Heap} {a : Addr} {o : HO}
theorem ObjOk.lt (x : ObjOk P w H h a o) : a < h.objs.size := by
  cases o with
  | lst xs => obtain ⟨_, _, _, _, e⟩ := x; exact Heap.lt_size e
  | tup xs => obtain ⟨_, _, _, p⟩ := x; exact p.lt
  | dK kvs => obtain ⟨_, _, _, _, o, _, _, e, _⟩ := x; exact Heap.lt_size e
  | dT kvs => obtain ⟨_, _, _, _, o, _, _, e, _⟩ := x; exact Heap.lt_size e
  | set S n => obtain ⟨o, _, _, _, e, _⟩ := x; exact Heap.lt_size e
  | ins C dx fs => obtain ⟨_, _, _, e, _⟩ := x; exact Heap.lt_size e
  | own y => obtain ⟨_, e⟩ := x; exact Heap.lt_size e
  | xd fs => obtain ⟨_, ⟨_, _, _, e, _⟩, _⟩ := x; exact Heap.lt_size e
  | rng lo hi => obtain ⟨_, _, _, e⟩ := x; exact Heap.lt_size e
  | frz ob u => obtain ⟨e, _⟩ := x; exact Heap.lt_size e
  | tbl ps => exact Heap.lt_size (show h.get? a = some _ from x)
  | met f y => exact Heap.lt_size (show h.get? a = some _ from x)
  | ext φ => obtain ⟨_, ⟨_, e⟩, _⟩ := x; exact Heap.lt_size e
theorem Paired.mapP {α β : Type} {F G : α → β → Prop} : ∀ {l₁ : List α} {l₂ : List β}, Paired F l₁ l₂ → (∀ a b, F a b → G a b) → Paired G l₁ l₂
  | _, _, .nil, _ => .nil
  | _, _, .cons r t, f => .cons (f _ _ r) (Paired.mapP t f)
/-- what an object's description leans on: its own object, its own dict, the tuples -/
theorem ObjOk.stay (x : ObjOk P w H h a o) (k : ∀ b u, (b = a ∨ H b = some (.own a)) → h.get? b = some u → h'.get? b = some u)
    (ho : ∀ b, H b = some (.own a) → H' b = some (.own a)) (ht : ∀ b xs, H b = some (.tup xs) → H' b = some (.tup xs)) : ObjOk P w H' h' a o := by
  induction o with
  | lst xs => obtain ⟨z, its, n, r, e⟩ := x; exact ⟨z, its, n, r, k _ _ (.inl rfl) e⟩
  | tup xs => obtain ⟨z, its, r, ob, e, c⟩ := x; exact ⟨z, its, r, ob, k _ _ (.inl rfl) e, c⟩
  | dK kvs => obtain ⟨z, y, vs, r, ob, es, ep, e, c⟩ := x; exact ⟨z, y, vs, r, ob, es, ep, k _ _ (.inl rfl) e, c⟩
  | dT kvs =>
    obtain ⟨z, y, xs, r, ob, es, ep, e, c⟩ := x
    exact ⟨z, y, xs, Paired.mapP r fun p q z => ⟨z.1, ht _ _ z.2.1, z.2.2⟩, ob, es, ep, k _ _ (.inl rfl) e, c⟩
  | set S n => obtain ⟨ob, es, ep, t, e, c⟩ := x; exact ⟨ob, es, ep, t, k _ _ (.inl rfl) e, c⟩
  | ins C dx fs =>
    obtain ⟨d, z, ne, e, mA, ⟨od, es, ep, e2, c⟩, r⟩ := x
    exact ⟨ho _ d, z, ne, k _ _ (.inl rfl) e, mA, ⟨od, es, ep, k _ _ (.inr d) e2, c⟩, r⟩
  | own y => obtain ⟨ob, e⟩ := x; exact ⟨ob, k _ _ (.inl rfl) e⟩
  | xd fs => obtain ⟨mA, ⟨od, es, ep, e, c⟩, r⟩ := x; exact ⟨mA, ⟨od, es, ep, k _ _ (.inl rfl) e, c⟩, r⟩
  | rng lo hi => obtain ⟨t, u, v, e⟩ := x; exact ⟨t, u, v, k _ _ (.inl rfl) e⟩
  | frz ob u ih => obtain ⟨e, q⟩ := x; exact ⟨k _ _ (.inl rfl) e, ih q⟩
  | tbl ps =>
    have e : h.get? a = some { cls := .none, data := .fields ps } := x
    show h'.get? a = some { cls := .none, data := .fields ps }
    exact k a _ (.inl rfl) e
  | met f y =>
    have e : h.get? a = some (PySem.W.methodObj (.ref f) (.ref y)) := x
    show h'.get? a = some (PySem.W.methodObj (.ref f) (.ref y))
    exact k a _ (.inl rfl) e
  | ext φ => obtain ⟨p, ⟨o, e⟩, st⟩ := x; exact ⟨st _ _ p fun o q => k _ _ (.inl rfl) q, ⟨o, k _ _ (.inl rfl) e⟩, st⟩
theorem HOk.lt (x : HOk P w H h) (e : H a = some o) : a < h.objs.size := (x a o e).lt
theorem HOk.fresh (x : HOk P w H h) (e : h.objs.size ≤ a) : H a = none := by
  cases q : H a with
  | none => rfl
  | some u => exact absurd (Nat.lt_of_lt_of_le (x.lt q) e) (Nat.lt_irrefl _)
/-- every object of the heap is kept -/
theorem HOk.kept (x : HOk P w H h) (k : ∀ b u, h.get? b = some u → h'.get? b = some u) : HOk P w H h' := fun a o e =>
  (x a o e).stay (fun b u _ q => k b u q) (fun _ q => q) fun _ _ q => q
/-- a new object is laid and tracked -/
theorem HOk.laid (x : HOk P w H h) (k : ∀ b u, h.get? b = some u → h'.get? b = some u) (hp : h.objs.size ≤ a) (new : ObjOk P w (upd H a o) h' a o) : HOk P w (upd H a o) h' := fun b u e => by
  have hn := x.fresh hp
  by_cases hb : b = a
  · subst hb; rw [upd_same] at e; cases e; exact new
  · rw [upd_ne hb] at e
    exact (x b u e).stay (fun c v _ q => k c v q) (fun c q => by rw [upd_ne (ne_of_none q hn)]; exact q) fun c xs q => by rw [upd_ne (ne_of_none q hn)]; exact q
end

/-- what may be read as u: it is u, or a known u -/
def Rd (H : Hp) (a : Addr) (u : HO) : Prop := H a = some u ∨ ∃ o, H a = some (.frz o u)
theorem Rd.of {H : Hp} {a : Addr} {u : HO} (h : H a = some u) : Rd H a u := .inl h
theorem Rd.ok {P : Program} {w : World} {H : Hp} {h : Heap} {a : Addr} {u : HO} (r : Rd H a u) (x : HOk P w H h) : ObjOk P w H h a u := by
  rcases r with r | ⟨o, r⟩
  · exact x a u r
  · obtain ⟨_, q⟩ := x a _ r
    exact q
/-- what may be written -/
def Mut : Option HO → Prop
  | some (.lst _) => True
  | some (.dK _) => True
  | some (.dT _) => True
  | some (.set _ _) => True
  | some (.ins _ _ _) => True
  | some (.ext _) => True
  | _ => False
section
variable {P : Program} {w : World} {H : Hp} {h h' : Heap} {x e : Addr} {o' : HO}
/-- the object at e is changed: x itself, or the dict of the instance x -/
theorem HOk.write (ok : HOk P w H h) (mu : Mut (H x)) (he : e = x ∨ H e = some (.own x)) (k : ∀ b u, b ≠ e → h.get? b = some u → h'.get? b = some u) (heo : ∃ u, h'.get? e = some u)
    (new : ObjOk P w (upd H x o') h' x o') : HOk P w (upd H x o') h' := fun b u q => by
  have nown : ∀ c y, H c = some (.own y) → c ≠ x := fun c y r z => by subst z; rw [r] at mu; exact mu
  have ntup : ∀ c xs, H c = some (.tup xs) → c ≠ x := fun c xs r z => by subst z; rw [r] at mu; exact mu
  by_cases hb : b = x
  · subst hb; rw [upd_same] at q; cases q; exact new
  · rw [upd_ne hb] at q
    by_cases hbe : b = e
    · have q' : H b = some (.own x) := by
        rcases he with z | z
        · exact absurd (hbe.trans z) hb
        · rw [hbe]; exact z
      rw [q] at q'; cases q'
      obtain ⟨v, hv⟩ := heo
      exact ⟨v, by rw [hbe]; exact hv⟩
    · refine (ok b u q).stay (fun c v hc r => k c v ?_ r) (fun c r => by rw [upd_ne (nown c b r)]; exact r) fun c xs r => by rw [upd_ne (ntup c xs r)]; exact r
      rcases hc with rfl | hc
      · exact hbe
      · rintro rfl
        rcases he with z | z
        · exact nown c b hc z
        · rw [hc] at z; cases z; exact hb rfl
end

/-! ### kept unless tracked; of the frames at fs (the callers') the slots may change (an exception that passes writes there); of the records at ex (iterators) nothing is said -/
structure Un (fs ex : List Addr) (H H' : Hp) (h h' : Heap) : Prop where
  keep : ∀ b o, h.get? b = some o → H b = none → b ∉ fs → b ∉ ex → h'.get? b = some o
  slot : ∀ b o, h.get? b = some o → H b = none → b ∈ fs → b ∉ ex → ∃ sl, h'.get? b = some { o with slots := sl }
  free : ∀ b o, h.get? b = some o → H b = none → b ∉ ex → H' b = none
  there : ∀ b o, h.get? b = some o → b ∉ ex → ∃ o', h'.get? b = some o'
  tups : ∀ b xs, H b = some (.tup xs) → H' b = some (.tup xs)
  frzs : ∀ b o u, H b = some (.frz o u) → H' b = some (.frz o u)
  tbls : ∀ b ps, H b = some (.tbl ps) → ∃ more, H' b = some (.tbl (ps ++ more))
section
variable {fs fs' ex ex' : List Addr} {H H1 H2 : Hp} {h h1 h2 h' : Heap} {a x e : Addr} {o : HO}
theorem Un.any (u : Un fs ex H H1 h h1) {b : Addr} {ob : Obj} (q : h.get? b = some ob) (n : H b = none) (hx : b ∉ ex) : ∃ sl, h1.get? b = some { ob with slots := sl } := by
  by_cases hb : b ∈ fs
  · exact u.slot b ob q n hb hx
  · exact ⟨ob.slots, u.keep b ob q n hb hx⟩
theorem Un.trans (a : Un fs ex H H1 h h1) (b : Un fs ex H1 H2 h1 h2) : Un fs ex H H2 h h2 where
  keep := fun c ob q n hc hx => b.keep c ob (a.keep c ob q n hc hx) (a.free c ob q n hx) hc hx
  slot := fun c ob q n hc hx => by
    obtain ⟨sl, e1⟩ := a.slot c ob q n hc hx
    obtain ⟨sl', e2⟩ := b.slot c _ e1 (a.free c ob q n hx) hc hx
    exact ⟨sl', e2⟩
  free := fun c ob q n hx => by
    obtain ⟨o', e1⟩ := a.there c ob q hx
    exact b.free c o' e1 (a.free c ob q n hx) hx
  there := fun c ob q hx => by
    obtain ⟨o', e1⟩ := a.there c ob q hx
    exact b.there c o' e1 hx
  tups := fun c xs q => b.tups c xs (a.tups c xs q)
  frzs := fun c ob xs q => b.frzs c ob xs (a.frzs c ob xs q)
  tbls := fun c ps q => by
    obtain ⟨m1, e1⟩ := a.tbls c ps q
    obtain ⟨m2, e2⟩ := b.tbls c _ e1
    exact ⟨m1 ++ m2, by rw [e2, Array.append_assoc]⟩
theorem Un.kept (k : ∀ b u, h.get? b = some u → h'.get? b = some u) : Un fs ex H H h h' :=
  ⟨fun b ob q _ _ _ => k b ob q, fun b ob q _ _ _ => ⟨ob.slots, k b ob q⟩, fun _ _ _ n _ => n, fun b ob q _ => ⟨ob, k b ob q⟩, fun _ _ q => q, fun _ _ _ q => q, fun _ ps q => ⟨#[], by rw [q]; simp⟩⟩
theorem Un.refl : Un fs ex H H h h := Un.kept fun _ _ q => q
theorem Un.laid (k : ∀ b u, h.get? b = some u → h'.get? b = some u) (hp : h.objs.size ≤ a) (hn : H a = none) : Un fs ex H (upd H a o) h h' where
  keep := fun b u q _ _ _ => k b u q
  slot := fun b u q _ _ _ => ⟨u.slots, k b u q⟩
  free := fun b u q n _ => by rw [upd_ne (Nat.ne_of_lt (Nat.lt_of_lt_of_le (Heap.lt_size q) hp))]; exact n
  there := fun b u q _ => ⟨u, k b u q⟩
  tups := fun b xs q => by rw [upd_ne (ne_of_none q hn)]; exact q
  frzs := fun b u xs q => by rw [upd_ne (ne_of_none q hn)]; exact q
  tbls := fun b ps q => ⟨#[], by rw [upd_ne (ne_of_none q hn), q]; simp⟩
theorem Un.write (mu : Mut (H x)) (he : e = x ∨ H e = some (.own x)) (k : ∀ b u, b ≠ e → h.get? b = some u → h'.get? b = some u) (heo : ∃ u, h'.get? e = some u) : Un fs ex H (upd H x o) h h' := by
  have hx : ∀ b, H b = none → b ≠ x := fun b n z => by subst z; rw [n] at mu; exact mu
  have hb : ∀ b, H b = none → b ≠ e := fun b n z => by
    subst z
    rcases he with r | r
    · exact hx b n r
    · rw [n] at r; cases r
  have hm : ∀ b u, H b = some u → ¬ Mut (some u) → b ≠ x := fun b u q nm z => by subst z; rw [q] at mu; exact nm mu
  refine ⟨fun b u q n _ _ => k b u (hb b n) q, fun b u q n _ _ => ⟨u.slots, k b u (hb b n) q⟩, fun b u q n _ => by rw [upd_ne (hx b n)]; exact n, fun b u q _ => ?_,
    fun b xs q => by rw [upd_ne (hm b _ q fun z => z)]; exact q, fun b u xs q => by rw [upd_ne (hm b _ q fun z => z)]; exact q, fun b ps q => ⟨#[], by rw [upd_ne (hm b _ q fun z => z), q]; simp⟩⟩
  by_cases hbe : b = e
  · subst hbe; exact heo
  · exact ⟨u, k b u hbe q⟩
theorem Un.mono (u : Un fs ex H H1 h h1) (hs : ∀ b ∈ fs, b ∈ fs') (hx : ∀ b ∈ ex, b ∈ ex') : Un fs' ex' H H1 h h1 :=
  ⟨fun b ob q n hb he => u.keep b ob q n (fun z => hb (hs b z)) fun z => he (hx b z), fun _ _ q n _ he => u.any q n fun z => he (hx _ z), fun b ob q n he => u.free b ob q n fun z => he (hx b z), fun b ob q he => u.there b ob q fun z => he (hx b z), u.tups, u.frzs, u.tbls⟩
end

/-! ### the heap without what is tracked -/
def trk (h : Heap) (H : Hp) : List Addr := (List.range h.objs.size).filter fun a => (H a).isSome
def hidT (h : Heap) (H : Hp) : Heap := PySem.W.hideAll h (trk h H)
theorem hidT_size (h : Heap) (H : Hp) : (hidT h H).objs.size = h.objs.size := PySem.W.hideAll_size _ _
theorem hidT_get {h : Heap} {H : Hp} {b : Addr} {o : Obj} (e : h.get? b = some o) (n : H b = none) : (hidT h H).get? b = some o :=
  PySem.W.hideAll_get _ e fun hm => by
    have q : (H b).isSome = true := (List.mem_filter.mp hm).2
    rw [n] at q; simp at q
theorem of_hidT {h : Heap} {H : Hp} {b : Addr} {o : Obj} (e : (hidT h H).get? b = some o) : h.get? b = some o ∧ H b = none := by
  have e' : h.get? b = some o := PySem.W.of_hideAll (trk h H) e
  refine ⟨e', ?_⟩
  cases q : H b with
  | none => rfl
  | some x =>
    have hm : b ∈ trk h H := List.mem_filter.mpr ⟨List.mem_range.mpr (Heap.lt_size e'), by simp [q]⟩
    have z : (hidT h H).get? b = none := PySem.W.hideAll_none (trk h H) hm
    rw [z] at e; cases e

/-! ### OpenK's ledger, filled with every new object but one -/
def allNews (g h : Heap) (L : Addr) : List (Addr × Obj) := (List.range h.objs.size).filterMap fun a => if a = L ∨ (g.get? a).isSome = true then none else (h.get? a).map fun o => (a, o)
def rest (g h : Heap) (L d : Addr) : List (Addr × Obj) := (allNews g h L).filter fun p => decide (p.1 ≠ d)
end L2

namespace L2
open PySem PySem.Spec PyProof.Rows

/-- the module's facts, over the base: the heap at the law's entry without what is tracked there -/
structure Mod (K : PySem.W.Frag) (mg : Str → Option Value) (base : Heap) : Prop where
  kin : K.In base
  glob : base.Ns mainGlobals mg
  blt : ∃ mb, base.Ns builtinsNs mb ∧ ∀ x : Str, x ≠ "__name__" → mb x = bootBuiltins x
  nolimit : base.NoLimit

/-- the context: a def's body (or a comprehension's block) running. base: fixed through the whole law; s₀, H₀: the entry; outer: the frames whose slots others may change (a def's callers); stack: all frames that run;
   ex: iterators that were made ahead of the entry and are walked here (a comprehension's); fn: the names whose cells were made at the entry (a def: all; a comprehension's block: its own); calm: not within an except suite; pn: pins that every state bears; xe: what is wanted of an exception that leaves the code -/
structure Cx where
  prog : Program
  w : World
  K : PySem.W.Frag
  mg : Str → Option Value
  base : Heap
  A : Around
  N : List Str
  s₀ : Shared
  H₀ : Hp
  env : Env
  outer : List Env
  stack : List Env
  ex : List Addr
  fn : Str → Bool
  calm : Bool
  pn : List (Addr × Obj)
  xe : Value → Shared → Prop
/-- the callers' frames -/
def frs (l : List Env) : List Addr := l.filterMap (·.frame)
abbrev Cx.fs (X : Cx) : List Addr := frs X.outer

def Vis (sc : Scope) (x : Str) : Prop := sc.names.lookup x = some .local ∨ sc.names.lookup x = some .cell ∨ sc.names.lookup x = some .free
def Loc (sc : Scope) (x : Str) : Prop := sc.names.lookup x = some .local ∨ sc.names.lookup x = some .cell
def Look (env : Env) (h : Heap) (m : Str → Option Value) (x : Str) (u : Value) : Prop :=
  (env.kindOf x = some .local ∧ m x = some u) ∨ ((env.kindOf x = some .cell ∨ env.kindOf x = some .free) ∧ ∃ c, env.cells.lookup x = some c ∧ h.IsCell c (some u))

structure Cx.Ok (X : Cx) : Prop where
  mod : Mod X.K X.mg X.base
  kind : X.env.scope.kind = .function
  glob : X.env.globals = mainGlobals
  blt : X.env.builtins = builtinsNs
  above : X.s₀.heap.objs.size ≤ X.env.locals
  inj : ∀ x y c, X.env.cells.lookup x = some c → X.env.cells.lookup y = some c → x = y
  has : ∀ x, (X.env.kindOf x = some .cell ∨ X.env.kindOf x = some .free) → ∃ c, X.env.cells.lookup x = some c
  cab : ∀ x c, X.fn x = true → X.env.cells.lookup x = some c → X.s₀.heap.objs.size ≤ c
  hd : X.calm = true → X.A.handled = none
  frames : X.A.frames = some X.stack
  stk : X.stack = X.outer ∨ (X.stack = X.env :: X.outer ∧ X.env.frame = some X.env.locals)
  exf : ∀ b ∈ X.ex, b ≠ X.env.locals ∧ ∀ x c, X.env.cells.lookup x = some c → c ≠ b
  bs : ∀ b o, X.base.get? b = some o → X.s₀.heap.get? b = some o ∧ X.H₀ b = none
  bsz : X.base.objs.size ≤ X.s₀.heap.objs.size
  noex : ∀ b o, X.base.get? b = some o → b ∉ X.ex
  exfs : ∀ b ∈ X.ex, b ∉ X.fs
  funs : X.s₀.heap.FunFrames X.base X.outer
  frf : ∀ b ∈ X.fs, X.H₀ b = none

structure Inv (X : Cx) (pins : List (Addr × Obj)) (σ : List (Option V)) (H : Hp) (s : Shared) : Prop where
  ok : X.Ok
  os : s.os = X.s₀.os
  bare : AllBare s.gens
  base : Un X.fs X.ex X.H₀ H X.s₀.heap s.heap
  loc : ∃ m, s.heap.Ns X.env.locals m ∧ ∀ (i : Nat) (x : Str) (v : V), X.N[i]? = some x → σ[i]? = some (some v) → Vis X.env.scope x → ∃ u, RelV v u ∧ Look X.env s.heap m x u
  cell : ∀ x c, X.env.cells.lookup x = some c → ∃ v, s.heap.IsCell c v
  free : H X.env.locals = none
  freeC : ∀ x c, X.env.cells.lookup x = some c → H c = none
  pin : ∀ p ∈ X.pn ++ pins, s.heap.get? p.1 = some p.2 ∧ H p.1 = none ∧ p.1 ≠ X.env.locals ∧ p.1 ∉ X.fs ∧ ∀ v, p.2.data ≠ .cell v
  hok : HOk X.prog X.w H s.heap
  len : σ.length = X.N.length

section
variable {X : Cx} {pins : List (Addr × Obj)} {σ : List (Option V)} {H H' : Hp} {s : Shared} {h' : Heap}

theorem Cx.Ok.nofr (ok : X.Ok) {b : Addr} {o : Obj} (e : X.base.get? b = some o) : b ∉ X.fs := fun hb => by
  have := (ok.funs.mem hb).1
  rw [e] at this; cases this
theorem Inv.bs (I : Inv X pins σ H s) : ∀ b o, X.base.get? b = some o → s.heap.get? b = some o ∧ H b = none := fun b o e =>
  ⟨I.base.keep b o (I.ok.bs b o e).1 (I.ok.bs b o e).2 (I.ok.nofr e) (I.ok.noex b o e), I.base.free b o (I.ok.bs b o e).1 (I.ok.bs b o e).2 (I.ok.noex b o e)⟩
theorem Inv.bk (I : Inv X pins σ H s) : ∀ b o, X.base.get? b = some o → s.heap.get? b = some o := fun b o e => (I.bs b o e).1
theorem Inv.mod (I : Inv X pins σ H s) : Mod X.K X.mg X.base := I.ok.mod
theorem Inv.kIn (I : Inv X pins σ H s) : X.K.In s.heap := I.ok.mod.kin.keeps I.bk
theorem Inv.nolimit (I : Inv X pins σ H s) : s.heap.NoLimit := I.ok.mod.nolimit.keeps I.bk
theorem Inv.lt (I : Inv X pins σ H s) : X.env.locals < s.heap.objs.size := let ⟨_, hn, _⟩ := I.loc; hn.lt
theorem Inv.sz (I : Inv X pins σ H s) : X.s₀.heap.objs.size ≤ s.heap.objs.size := Nat.le_trans I.ok.above (Nat.le_of_lt I.lt)
theorem Inv.nofs (I : Inv X pins σ H s) {a : Addr} (h : s.heap.objs.size ≤ a) : a ∉ X.fs := fun hb => by
  obtain ⟨_, o, ho, _⟩ := I.ok.funs.mem hb
  exact absurd (Nat.lt_of_lt_of_le (Heap.lt_size ho) (Nat.le_trans I.sz h)) (Nat.lt_irrefl _)
theorem Inv.cne (I : Inv X pins σ H s) : ∀ x c, X.env.cells.lookup x = some c → c ≠ X.env.locals := fun x c e z => by
  obtain ⟨v, o, ho, hd⟩ := I.cell x c e
  obtain ⟨m, ⟨o', es, ep, ho', hd', _⟩, _⟩ := I.loc
  rw [z, ho'] at ho; cases ho; rw [hd'] at hd; cases hd
theorem Inv.funs (I : Inv X pins σ H s) : s.heap.FunFrames X.base X.outer := by
  have all : ∀ (l : List Env), (∀ b ∈ frs l, b ∈ X.fs) → X.s₀.heap.FunFrames X.base l → s.heap.FunFrames X.base l := by
    intro l
    induction l with
    | nil => intro _ _; trivial
    | cons env r ih =>
      intro hs hl
      obtain ⟨hk, ⟨L, o, hf, hn, ho, hd⟩, hr⟩ := hl
      have hL : L ∈ X.fs := hs L (by unfold frs; rw [List.filterMap_cons, hf]; exact List.mem_cons_self)
      obtain ⟨sl, e⟩ := I.base.slot L o ho (I.ok.frf L hL) hL fun z => I.ok.exfs L z hL
      exact ⟨hk, ⟨L, _, hf, hn, e, hd⟩, ih (fun b hb => hs b (by unfold frs; rw [List.filterMap_cons, hf]; exact List.mem_cons_of_mem _ hb)) hr⟩
  exact all X.outer (fun _ hb => hb) I.ok.funs

/-- the frames that run, for a call -/
theorem Inv.stack (I : Inv X pins σ H s) : s.heap.FunFrames X.base X.stack := by
  rcases I.ok.stk with e | ⟨e, hf⟩
  · rw [e]; exact I.funs
  · rw [e]
    obtain ⟨m, hn, _⟩ := I.loc
    refine .cons (by rw [I.ok.kind]; decide) hf hn ?_ I.funs
    exact Heap.get?_none_of_le (Nat.le_trans I.ok.bsz I.ok.above)
theorem Inv.stkSub (I : Inv X pins σ H s) : ∀ b ∈ frs X.stack, b ∈ X.env.locals :: X.fs := fun b hb => by
  rcases I.ok.stk with e | ⟨e, hf⟩
  · rw [e] at hb; exact List.mem_cons_of_mem _ hb
  · rw [e] at hb
    unfold frs at hb
    rw [List.filterMap_cons, hf] at hb
    exact hb
theorem Inv.stkFree (I : Inv X pins σ H s) : ∀ b ∈ frs X.stack, H b = none := fun b hb => by
  rcases List.mem_cons.mp (I.stkSub b hb) with e | hb
  · rw [e]; exact I.free
  · obtain ⟨_, o, ho, _⟩ := I.ok.funs.mem hb
    exact I.base.free b o ho (I.ok.frf b hb) fun z => I.ok.exfs b z hb

/-- THE STEP: the untracked objects but the frame and the records at ch are kept (the callers' frames up to slots), the frame's map is kept, the new abstract heap is held -/
theorem Inv.step {g' : Array GenState} {t' : Nat} {d' : Drawn} {ch : List Addr} (I : Inv X pins σ H s)
    (hch : ∀ b ∈ ch, (b ∈ X.ex ∨ X.s₀.heap.objs.size ≤ b) ∧ b ≠ X.env.locals ∧ (∀ x c, X.env.cells.lookup x = some c → c ≠ b) ∧ ∀ p ∈ X.pn ++ pins, p.1 ≠ b)
    (keep : ∀ b o, b ≠ X.env.locals → b ∉ X.fs → b ∉ ch → s.heap.get? b = some o → H b = none → h'.get? b = some o)
    (slot : ∀ b o, b ≠ X.env.locals → b ∈ X.fs → b ∉ ch → s.heap.get? b = some o → H b = none → ∃ sl, h'.get? b = some { o with slots := sl }) (free : ∀ b o, b ∉ ch → s.heap.get? b = some o → H b = none → H' b = none)
    (there : ∀ b o, b ∉ ch → s.heap.get? b = some o → ∃ o', h'.get? b = some o')
    (tups : ∀ b xs, H b = some (.tup xs) → H' b = some (.tup xs)) (frzs : ∀ b o u, H b = some (.frz o u) → H' b = some (.frz o u)) (tbls : ∀ b ps, H b = some (.tbl ps) → ∃ more, H' b = some (.tbl (ps ++ more)))
    (ns : ∀ m, s.heap.Ns X.env.locals m → h'.Ns X.env.locals m) (hok : HOk X.prog X.w H' h') (hg : AllBare g') :
    Inv X pins σ H' { s with heap := h', gens := g', drawn := d', toks := t' } := by
  have neL : ∀ b o, X.s₀.heap.get? b = some o → b ≠ X.env.locals := fun b o e => Nat.ne_of_lt (Nat.lt_of_lt_of_le (Heap.lt_size e) I.ok.above)
  have neC : ∀ b o, X.s₀.heap.get? b = some o → b ∉ X.ex → b ∉ ch := fun b o e hx hb => by
    rcases (hch b hb).1 with z | z
    · exact hx z
    · exact absurd (Nat.lt_of_lt_of_le (Heap.lt_size e) z) (Nat.lt_irrefl _)
  have cellK : ∀ x c, X.env.cells.lookup x = some c → ∀ v, s.heap.IsCell c v → h'.IsCell c v := fun x c e v ⟨o, ho, hd⟩ => by
    have nch : c ∉ ch := fun z => (hch c z).2.2.1 x c e rfl
    by_cases hc : c ∈ X.fs
    · obtain ⟨sl, q⟩ := slot c o (I.cne x c e) hc nch ho (I.freeC x c e)
      exact ⟨_, q, hd⟩
    · exact ⟨o, keep c o (I.cne x c e) hc nch ho (I.freeC x c e), hd⟩
  refine ⟨I.ok, I.os, hg, ⟨fun b o e n hb hx => ?_, fun b o e n hb hx => ?_, fun b o e n hx => ?_, fun b o e hx => ?_, fun b xs e => tups b xs (I.base.tups b xs e), fun b o xs e => frzs b o xs (I.base.frzs b o xs e), fun b ps e => ?_⟩, ?_, fun x c e => ?_, ?_, fun x c e => ?_, fun p hp => ?_, hok, I.len⟩
  · exact keep b o (neL b o e) hb (neC b o e hx) (I.base.keep b o e n hb hx) (I.base.free b o e n hx)
  · obtain ⟨sl, e1⟩ := I.base.slot b o e n hb hx
    obtain ⟨sl', e2⟩ := slot b _ (neL b o e) hb (neC b o e hx) e1 (I.base.free b o e n hx)
    exact ⟨sl', e2⟩
  · obtain ⟨o', e1⟩ := I.base.there b o e hx
    exact free b o' (neC b o e hx) e1 (I.base.free b o e n hx)
  · obtain ⟨o', e1⟩ := I.base.there b o e hx
    exact there b o' (neC b o e hx) e1
  · obtain ⟨m1, e1⟩ := I.base.tbls b ps e
    obtain ⟨m2, e2⟩ := tbls b _ e1
    exact ⟨m1 ++ m2, by rw [e2, Array.append_assoc]⟩
  · obtain ⟨m, hn, hl⟩ := I.loc
    refine ⟨m, ns m hn, fun i x v e1 e2 e3 => ?_⟩
    obtain ⟨u, r, l⟩ := hl i x v e1 e2 e3
    refine ⟨u, r, ?_⟩
    rcases l with l | ⟨k, c, e, z⟩
    · exact .inl l
    · exact .inr ⟨k, c, e, cellK x c e _ z⟩
  · obtain ⟨v, z⟩ := I.cell x c e
    exact ⟨v, cellK x c e v z⟩
  · obtain ⟨m, ⟨o, _, _, ho, _⟩, _⟩ := I.loc
    exact free _ o (fun z => (hch _ z).2.1 rfl) ho I.free
  · obtain ⟨v, o, ho, hd⟩ := I.cell x c e
    exact free c o (fun z => (hch c z).2.2.1 x c e rfl) ho (I.freeC x c e)
  · obtain ⟨e, n, ne, nf, d⟩ := I.pin p hp
    have nch : p.1 ∉ ch := fun z => (hch p.1 z).2.2.2 p hp rfl
    exact ⟨keep p.1 p.2 ne nf nch e n, free p.1 p.2 nch e n, ne, nf, d⟩
/-- .. where the frame's own object is kept too -/
theorem Inv.un {t' : Nat} (I : Inv X pins σ H s) (u : Un X.fs [] H H' s.heap h') (hok : HOk X.prog X.w H' h') : Inv X pins σ H' { s with heap := h', toks := t' } := by
  obtain ⟨m, ⟨o, es, ep, ho, r⟩, _⟩ := id I.loc
  obtain ⟨sl, hL⟩ := u.any ho I.free (by simp)
  exact I.step (g' := s.gens) (d' := s.drawn) (ch := []) (fun _ z => nomatch z) (fun b o _ hb _ e n => u.keep b o e n hb (by simp)) (fun b o _ hb _ e n => u.slot b o e n hb (by simp)) (fun b o _ e n => u.free b o e n (by simp)) (fun b o _ e => u.there b o e (by simp)) u.tups u.frzs u.tbls (fun m' hm => by
    obtain ⟨o', es', ep', ho', r'⟩ := hm
    rw [ho] at ho'; cases ho'
    exact ⟨_, es', ep', hL, r'⟩) hok I.bare
/-- behind a call (or a comprehension's block): the slots of this frame may have changed too, the records at ch may have turned -/
theorem Inv.call {g' : Array GenState} {t' : Nat} {d' : Drawn} {ch : List Addr} (I : Inv X pins σ H s) (u : Un (frs X.stack) ch H H' s.heap h') (hok : HOk X.prog X.w H' h') (hg : AllBare g')
    (hch : ∀ b ∈ ch, (b ∈ X.ex ∨ X.s₀.heap.objs.size ≤ b) ∧ b ≠ X.env.locals ∧ (∀ x c, X.env.cells.lookup x = some c → c ≠ b) ∧ ∀ p ∈ X.pn ++ pins, p.1 ≠ b) :
    Inv X pins σ H' { s with heap := h', gens := g', drawn := d', toks := t' } := by
  obtain ⟨m, ⟨o, es, ep, ho, r⟩, _⟩ := id I.loc
  obtain ⟨sl, hL⟩ := u.any ho I.free fun z => (hch _ z).2.1 rfl
  exact I.step (ch := ch) hch (fun b o hL hb hc e n => u.keep b o e n (fun z => (List.mem_cons.mp (I.stkSub b z)).elim hL hb) hc) (fun b o _ _ hc e n => u.any e n hc) (fun b o hc e n => u.free b o e n hc) (fun b o hc e => u.there b o e hc) u.tups u.frzs u.tbls (fun m' hm => by
    obtain ⟨o', es', ep', ho', r'⟩ := hm
    rw [ho] at ho'; cases ho'
    exact ⟨_, es', ep', hL, r'⟩) hok hg
/-- an untracked record of ours (an iterator) has turned -/
theorem Inv.turned {t' : Nat} {it : Addr} (I : Inv X pins σ H s) (k : ∀ b o, b ≠ it → s.heap.get? b = some o → h'.get? b = some o) (hn : H it = none) (hL : it ≠ X.env.locals)
    (h1 : it ∈ X.ex ∨ X.s₀.heap.objs.size ≤ it) (h2 : ∀ x c, X.env.cells.lookup x = some c → c ≠ it) (h3 : ∀ p ∈ X.pn ++ pins, p.1 ≠ it) : Inv X pins σ H { s with heap := h', toks := t' } := by
  have nit : ∀ b u, H b = some u → b ≠ it := fun b u e z => by rw [z, hn] at e; cases e
  refine I.step (g' := s.gens) (d' := s.drawn) (ch := [it]) (fun b hb => ?_) (fun b o _ _ hc e _ => k b o (fun z => hc (by simp [z])) e) (fun b o _ _ hc e _ => ⟨o.slots, k b o (fun z => hc (by simp [z])) e⟩) (fun _ _ _ _ n => n)
    (fun b o hc e => ⟨o, k b o (fun z => hc (by simp [z])) e⟩) (fun _ _ e => e) (fun _ _ _ e => e) (fun b ps e => ⟨#[], by rw [e]; simp⟩) (fun m hm => ?_) (fun b u e => ?_) I.bare
  · have e : b = it := by simpa using hb
    subst e
    exact ⟨h1, hL, h2, h3⟩
  · obtain ⟨o, es, ep, ho, r⟩ := hm
    exact ⟨o, es, ep, k _ o (Ne.symm hL) ho, r⟩
  · refine (I.hok b u e).stay (fun c v hc q => k c v ?_ q) (fun _ q => q) fun _ _ q => q
    rcases hc with z | z
    · rw [z]; exact nit b u e
    · exact nit c _ z
theorem Inv.tok (I : Inv X pins σ H s) (t : Nat) : Inv X pins σ H { s with toks := t } := I.un (h' := s.heap) (t' := t) Un.refl I.hok
/-- all objects kept -/
theorem Inv.kept {t' : Nat} (I : Inv X pins σ H s) (k : ∀ b u, s.heap.get? b = some u → h'.get? b = some u) : Inv X pins σ H { s with heap := h', toks := t' } := I.un (Un.kept k) (I.hok.kept k)
/-- a new object laid and tracked -/
theorem Inv.laid {a : Addr} {o : HO} {t' : Nat} (I : Inv X pins σ H s) (k : ∀ b u, s.heap.get? b = some u → h'.get? b = some u) (hp : s.heap.objs.size ≤ a) (new : ObjOk X.prog X.w (upd H a o) h' a o) :
    Inv X pins σ (upd H a o) { s with heap := h', toks := t' } := I.un (Un.laid k hp (I.hok.fresh hp)) (I.hok.laid k hp new)
/-- an object written -/
theorem Inv.write {x e : Addr} {o : HO} {t' : Nat} (I : Inv X pins σ H s) (mu : Mut (H x)) (he : e = x ∨ H e = some (.own x)) (k : ∀ b u, b ≠ e → s.heap.get? b = some u → h'.get? b = some u) (heo : ∃ u, h'.get? e = some u)
    (new : ObjOk X.prog X.w (upd H x o) h' x o) : Inv X pins σ (upd H x o) { s with heap := h', toks := t' } := I.un (Un.write mu he k heo) (I.hok.write mu he k heo new)
theorem Inv.pins_of {pins' : List (Addr × Obj)} (I : Inv X pins σ H s) (h : ∀ p ∈ pins', s.heap.get? p.1 = some p.2 ∧ H p.1 = none ∧ p.1 ≠ X.env.locals ∧ p.1 ∉ X.fs ∧ ∀ v, p.2.data ≠ .cell v) : Inv X pins' σ H s :=
  ⟨I.ok, I.os, I.bare, I.base, I.loc, I.cell, I.free, I.freeC, fun p hp => (List.mem_append.mp hp).elim (fun z => I.pin p (List.mem_append_left _ z)) (h p), I.hok, I.len⟩

theorem nodup_ix {N : List Str} (hN : N.Nodup) {i j : Nat} {x : Str} (a : N[i]? = some x) (b : N[j]? = some x) : i = j := by
  obtain ⟨h1, e1⟩ := List.getElem?_eq_some_iff.mp a
  obtain ⟨h2, e2⟩ := List.getElem?_eq_some_iff.mp b
  exact (List.getElem_inj hN).mp (e1.trans e2.symm)

/-- a name is stored; what changed -/
theorem store_ok2 {M : Model} {A : Around} {E : Value → Shared → Prop} {i : Nat} {x : Str} {v : V} {u : Value} {Q : Unit → Shared → Prop} (I : Inv X pins σ H s) (hN : X.N.Nodup) (hi : X.N[i]? = some x) (hx : Loc X.env.scope x) (r : RelV v u)
    (h : ∀ s', Inv X pins (σ.set i (some v)) H s' → (∃ a, Heap.SameBut a s.heap s'.heap ∧ (a = X.env.locals ∨ X.env.cells.lookup x = some a)) → Q () s') (hf : X.fn x = true ∨ X.env.scope.names.lookup x = some .local := by first | exact .inl rfl | exact .inr rfl | assumption) : wpAny M A (storeName X.env x u) Q E s := by
  obtain ⟨m, hn, hl⟩ := id I.loc
  have hcls : (X.env.scope.kind == .class || (X.env.scope.kind == .module && X.env.locals != X.env.globals)) = false := by rw [I.ok.kind]; rfl
  have hiσ : i < σ.length := by rw [I.len]; exact (List.getElem?_eq_some_iff.mp hi).1
  have cne := I.cne
  have tracked : ∀ {a : Addr} {h' : Heap}, (∃ o, s.heap.get? a = some o ∧ H a = none) → Heap.SameBut a s.heap h' → HOk X.prog X.w H h' := fun {a h'} ha hs b ob e => by
    obtain ⟨_, _, hfree⟩ := ha
    refine (I.hok b ob e).stay (fun c w' hc q => (hs.2 c ?_).trans q) (fun _ q => q) fun _ _ q => q
    rintro rfl
    rcases hc with rfl | hc
    · rw [hfree] at e; cases e
    · rw [hfree] at hc; cases hc
  rcases hx with hk | hk
  · refine wpAny_storeName_local hk hn (fun h' hn' hs => ?_) hcls
    obtain ⟨oL, _, _, hoL, _⟩ := id hn
    refine h _ ⟨I.ok, I.os, I.bare, ⟨fun b o e n hb hx => ?_, fun b o e n hb hx => ?_, I.base.free, fun b o e hx => ?_, I.base.tups, I.base.frzs, I.base.tbls⟩, ⟨_, hn', fun j y v' e1 e2 e3 => ?_⟩, fun y c e => ?_, I.free, I.freeC, fun p hp => ?_, tracked ⟨oL, hoL, I.free⟩ hs, by simpa using I.len⟩ ⟨_, hs, .inl rfl⟩
    · exact (hs.2 b (Nat.ne_of_lt (Nat.lt_of_lt_of_le (Heap.lt_size e) I.ok.above))).trans (I.base.keep b o e n hb hx)
    · obtain ⟨sl, e1⟩ := I.base.slot b o e n hb hx
      exact ⟨sl, (hs.2 b (Nat.ne_of_lt (Nat.lt_of_lt_of_le (Heap.lt_size e) I.ok.above))).trans e1⟩
    · obtain ⟨o', e1⟩ := I.base.there b o e hx
      exact ⟨o', (hs.2 b (Nat.ne_of_lt (Nat.lt_of_lt_of_le (Heap.lt_size e) I.ok.above))).trans e1⟩
    · by_cases hj : j = i
      · subst hj
        rw [hi] at e1; cases e1
        rw [List.getElem?_set_self hiσ] at e2
        cases e2
        exact ⟨u, r, .inl ⟨hk, by simp⟩⟩
      · rw [List.getElem?_set_ne (Ne.symm hj)] at e2
        obtain ⟨u', r', q⟩ := hl j y v' e1 e2 e3
        refine ⟨u', r', ?_⟩
        rcases q with ⟨k, e⟩ | ⟨k, c, e, z⟩
        · refine .inl ⟨k, ?_⟩
          have : y ≠ x := fun e => hj (nodup_ix hN e1 (e ▸ hi))
          simp [this, e]
        · exact .inr ⟨k, c, e, z.sameBut hs (cne y c e)⟩
    · obtain ⟨w', z⟩ := I.cell y c e
      exact ⟨w', z.sameBut hs (cne y c e)⟩
    · obtain ⟨e, n, ne, nf, d⟩ := I.pin p hp
      exact ⟨(hs.2 p.1 ne).trans e, n, ne, nf, d⟩
  · have hfn : X.fn x = true := by
      rcases hf with z | z
      · exact z
      · rw [z] at hk; cases hk
    obtain ⟨c, hc⟩ := I.ok.has x (.inl hk)
    obtain ⟨w', z⟩ := I.cell x c hc
    refine wpAny_storeName_cell I.ok.kind hk hc z (fun h' hc' hs => ?_)
    obtain ⟨oc, hoc, hocd⟩ := id z
    refine h { s with heap := h' } ⟨I.ok, I.os, I.bare, ⟨fun b o e n hb hx => ?_, fun b o e n hb hx => ?_, I.base.free, fun b o e hx => ?_, I.base.tups, I.base.frzs, I.base.tbls⟩, ⟨m, hn.sameBut hs (Ne.symm (cne x c hc)), fun j y v' e1 e2 e3 => ?_⟩, fun y c' e => ?_, I.free, I.freeC, fun p hp => ?_, tracked ⟨oc, hoc, I.freeC x c hc⟩ hs, by simpa using I.len⟩ ⟨c, hs, .inr hc⟩
    · exact (hs.2 b (Nat.ne_of_lt (Nat.lt_of_lt_of_le (Heap.lt_size e) (I.ok.cab x c hfn hc)))).trans (I.base.keep b o e n hb hx)
    · obtain ⟨sl, e1⟩ := I.base.slot b o e n hb hx
      exact ⟨sl, (hs.2 b (Nat.ne_of_lt (Nat.lt_of_lt_of_le (Heap.lt_size e) (I.ok.cab x c hfn hc)))).trans e1⟩
    · obtain ⟨o', e1⟩ := I.base.there b o e hx
      exact ⟨o', (hs.2 b (Nat.ne_of_lt (Nat.lt_of_lt_of_le (Heap.lt_size e) (I.ok.cab x c hfn hc)))).trans e1⟩
    · by_cases hj : j = i
      · subst hj
        rw [hi] at e1; cases e1
        rw [List.getElem?_set_self hiσ] at e2
        cases e2
        exact ⟨u, r, .inr ⟨.inl hk, c, hc, hc'⟩⟩
      · rw [List.getElem?_set_ne (Ne.symm hj)] at e2
        obtain ⟨u', r', q⟩ := hl j y v' e1 e2 e3
        refine ⟨u', r', ?_⟩
        rcases q with q | ⟨k, c', e, z'⟩
        · exact .inl q
        · refine .inr ⟨k, c', e, z'.sameBut hs ?_⟩
          rintro rfl
          exact hj (nodup_ix hN e1 (I.ok.inj _ _ _ e hc ▸ hi))
    · by_cases hcc : c' = c
      · subst hcc; exact ⟨_, hc'⟩
      · obtain ⟨w2, z2⟩ := I.cell y c' e
        exact ⟨w2, z2.sameBut hs hcc⟩
    · obtain ⟨e, n, ne, nf, d⟩ := I.pin p hp
      refine ⟨(hs.2 p.1 ?_).trans e, n, ne, nf, d⟩
      intro q
      rw [q, hoc] at e
      have q' : oc = p.2 := Option.some.inj e
      exact d w' (by rw [← q']; exact hocd)
theorem store_ok {M : Model} {A : Around} {E : Value → Shared → Prop} {i : Nat} {x : Str} {v : V} {u : Value} {Q : Unit → Shared → Prop} (I : Inv X pins σ H s) (hN : X.N.Nodup) (hi : X.N[i]? = some x) (hx : Loc X.env.scope x) (r : RelV v u)
    (h : ∀ s', Inv X pins (σ.set i (some v)) H s' → Q () s') (hf : X.fn x = true ∨ X.env.scope.names.lookup x = some .local := by first | exact .inl rfl | exact .inr rfl | assumption) : wpAny M A (storeName X.env x u) Q E s :=
  store_ok2 I hN hi hx r (fun s' I' _ => h s' I') hf
/-- behind a call or a block, the state as it is -/
theorem Inv.call' {s' : Shared} {ch : List Addr} (I : Inv X pins σ H s) (ho : s'.os = s.os) (u : Un (frs X.stack) ch H H' s.heap s'.heap) (hok : HOk X.prog X.w H' s'.heap) (hg : AllBare s'.gens)
    (hch : ∀ b ∈ ch, (b ∈ X.ex ∨ X.s₀.heap.objs.size ≤ b) ∧ b ≠ X.env.locals ∧ (∀ x c, X.env.cells.lookup x = some c → c ≠ b) ∧ ∀ p ∈ X.pn ++ pins, p.1 ≠ b) : Inv X pins σ H' s' := by
  obtain ⟨h', g', d', t', o'⟩ := s'
  have e : o' = s.os := ho
  subst e
  exact I.call (g' := g') (t' := t') (d' := d') u hok hg hch
end

/-! ### the judgements -/
/-- an exception: its class, its own dict's address (where it has one), the abstract heap behind it -/
abbrev XK := Value → Option Addr → Hp → Prop
abbrev St := List (Option V)
abbrev VK := V → Hp → Prop
/-- an expression's reading; a test's; an argument list's -/
abbrev TE := St → Hp → VK → Prop
abbrev TT := St → Hp → (Bool → Hp → Prop) → Prop
abbrev TA := St → Hp → (List V → Hp → Prop) → Prop
/-- what is wanted behind a statement -/
structure Ends where
  nx : St → Hp → Prop
  rt : VK
  bk : St → Hp → Prop := fun _ _ => False
  ct : St → Hp → Prop := fun _ _ => False
abbrev TS := Ends → St → Hp → Prop

def EP (X : Cx) (pins : List (Addr × Obj)) (σ : St) (Q : VK) (u : Value) (s' : Shared) : Prop := ∃ v H', Inv X pins σ H' s' ∧ RelV v u ∧ Q v H'
def TP (X : Cx) (pins : List (Addr × Obj)) (σ : St) (Q : Bool → Hp → Prop) (b : Bool) (s' : Shared) : Prop := ∃ H', Inv X pins σ H' s' ∧ Q b H'
def AP (X : Cx) (pins : List (Addr × Obj)) (σ : St) (Q : List V → Hp → Prop) (us : List Value) (s' : Shared) : Prop := ∃ vs H', Inv X pins σ H' s' ∧ Vals vs us ∧ Q vs H'
def SP (X : Cx) (pins : List (Addr × Obj)) (D : Ends) (f : Flow) (s' : Shared) : Prop :=
  match f with
  | .next => ∃ σ' H', Inv X pins σ' H' s' ∧ D.nx σ' H'
  | .brk => ∃ σ' H', Inv X pins σ' H' s' ∧ D.bk σ' H'
  | .cont => ∃ σ' H', Inv X pins σ' H' s' ∧ D.ct σ' H'
  | .ret u => ∃ v σ' H', Inv X pins σ' H' s' ∧ RelV v u ∧ D.rt v H'

def PE (X : Cx) (e : Expr) (t : TE) : Prop :=
  ∀ (pins : List (Addr × Obj)) (s : Shared) (σ : St) (H : Hp) (Q : VK), Inv X pins σ H s → t σ H Q → wpAny (model X.prog X.w) X.A (eval e X.env) (EP X pins σ Q) X.xe s
def PT (X : Cx) (e : Expr) (t : TT) : Prop :=
  ∀ (pins : List (Addr × Obj)) (s : Shared) (σ : St) (H : Hp) (Q : Bool → Hp → Prop), Inv X pins σ H s → t σ H Q → wpAny (model X.prog X.w) X.A (isTrue e X.env (eval e X.env)) (TP X pins σ Q) X.xe s
/-- a test whatever its 'whole' is (and, or) -/
def PW (X : Cx) (e : Expr) (t : TT) : Prop :=
  ∀ (whole : Sem Value) (pins : List (Addr × Obj)) (s : Shared) (σ : St) (H : Hp) (Q : Bool → Hp → Prop), Inv X pins σ H s → t σ H Q → wpAny (model X.prog X.w) X.A (isTrue e X.env whole) (TP X pins σ Q) X.xe s
theorem PW.pt {X : Cx} {e : Expr} {t : TT} (h : PW X e t) : PT X e t := h _
/-- an argument list (no star), from the left -/
def PA (X : Cx) (es : List Expr) (t : TA) : Prop :=
  ∀ (pos : Pos) (pins : List (Addr × Obj)) (s : Shared) (σ : St) (H : Hp) (Q : List V → Hp → Prop), Inv X pins σ H s → t σ H Q → wpAny (model X.prog X.w) X.A (spliced (backTo pos (starEach es X.env))) (AP X pins σ Q) X.xe s
def PS (X : Cx) (st : Stmt) (t : TS) : Prop :=
  ∀ (pins : List (Addr × Obj)) (s : Shared) (σ : St) (H : Hp) (D : Ends), Inv X pins σ H s → t D σ H → wpAny (model X.prog X.w) X.A (exec st X.env) (SP X pins D) X.xe s
def PSs (X : Cx) (st : List Stmt) (t : TS) : Prop :=
  ∀ (pins : List (Addr × Obj)) (s : Shared) (σ : St) (H : Hp) (D : Ends), Inv X pins σ H s → t D σ H → wpAny (model X.prog X.w) X.A (execs st X.env) (SP X pins D) X.xe s
/-- weaken the end -/
theorem thn {α : Type} {t : Sem α} {Q Q' : α → Shared → Prop} {M : Model} {A : Around} {E : Value → Shared → Prop} {s : Shared} (h : wpAny M A t Q E s) (hQ : ∀ a s, Q a s → Q' a s) : wpAny M A t Q' E s := wpAny_mono h hQ fun _ _ x => x
end L2

namespace L2
open PySem PySem.Spec PyProof.Rows
section
variable {X : Cx}

/-! ### names and constants -/
def tVar (i : Nat) : TE := fun σ H Q => ∃ v, σ[i]? = some (some v) ∧ Q v H
def tC (v : V) : TE := fun _ H Q => Q v H
theorem pe_var {i : Nat} {x : Str} {pos : Pos} (hN : X.N[i]? = some x) (hv : Vis X.env.scope x) (hd : (x == ("__debug__" : Str)) = false := by decide) (hcd : (x == ("__classdict__" : Str)) = false := by decide) : PE X (.Name x pos) (tVar i) := by
  intro pins s σ H Q I h
  obtain ⟨v, e, h⟩ := h
  obtain ⟨m, hn, hl⟩ := I.loc
  obtain ⟨u, r, l⟩ := hl i x v hN e hv
  have fin : EP X pins σ Q u s := ⟨v, H, I, r, h⟩
  rcases l with ⟨hk, hm⟩ | ⟨hk, c, hc, hcell⟩
  · exact wpAny_Name (wpAny_loadName_local I.ok.kind hk hn hm fin) hd
  · rcases hk with hk | hk
    · exact wpAny_Name (wpAny_loadName_cell I.ok.kind hk hc hcell fin) hd
    · exact wpAny_Name (wpAny_loadName_free I.ok.kind hk hc hcell fin hcd) hd
theorem pe_int {i j pos} : PE X (.Constant (.int i) j pos) (tC (.int i)) := fun _ _ _ H _ I h => wpAny_Constant_int ⟨.int i, H, I.tok _, ⟨_, rfl⟩, h⟩
theorem pe_bl {b j pos} : PE X (.Constant (.bool b) j pos) (tC (.bl b)) := fun _ _ _ H _ I h => Constant_bool ⟨.bl b, H, I, rfl, h⟩
/-- a global name of the def -/
def Gl (X : Cx) (x : Str) : Prop := X.env.kindOf x = some .globalImplicit
theorem ld_glob {E : Value → Shared → Prop} {pins : List (Addr × Obj)} {s : Shared} {σ : St} {H : Hp} {x : Str} {u : Value} {pos : Pos} {Q : Value → Shared → Prop} (I : Inv X pins σ H s) (hg : Gl X x) (hm : X.mg x = some u) (h : Q u s)
    (hd : (x == ("__debug__" : Str)) = false := by decide) : wpAny (model X.prog X.w) X.A (eval (.Name x pos) X.env) Q E s :=
  Calls.Name_function_global I.ok.kind hg (Calls.loadGlobal_global (by rw [I.ok.glob]; exact I.mod.glob.keeps I.bk) hm h) hd
theorem ld_blt {E : Value → Shared → Prop} {pins : List (Addr × Obj)} {s : Shared} {σ : St} {H : Hp} {x : Str} {u : Value} {pos : Pos} {Q : Value → Shared → Prop} (I : Inv X pins σ H s) (hg : Gl X x) (hm : X.mg x = none) (hv : bootBuiltins x = some u) (h : Q u s)
    (hn : x ≠ "__name__" := by decide) (hd : (x == ("__debug__" : Str)) = false := by decide) : wpAny (model X.prog X.w) X.A (eval (.Name x pos) X.env) Q E s := by
  obtain ⟨mb, h1, h2⟩ := I.mod.blt
  exact Calls.Name_function_global I.ok.kind hg (Calls.loadGlobal_builtin (by rw [I.ok.glob]; exact I.mod.glob.keeps I.bk) hm (by rw [I.ok.blt]; exact h1.keeps I.bk) ((h2 x hn).trans hv) h) hd
theorem pe_bltn {x : Str} {v : V} {u : Value} {pos : Pos} (hg : Gl X x) (hm : X.mg x = none) (hv : bootBuiltins x = some u) (r : RelV v u) (hn : x ≠ "__name__" := by decide) (hd : (x == ("__debug__" : Str)) = false := by decide) : PE X (.Name x pos) (tC v) :=
  fun _ _ _ H _ I h => ld_blt I hg hm hv ⟨v, H, I, r, h⟩ hn hd

/-! ### arithmetic -/
variable {a b : Expr} {ta tb : TE} {pos : Pos}
/-! ### comparisons -/
/-- a comparison as a value, as a test -/
def tB (t : TE) : TT := fun σ H Q => t σ H fun x H1 => ∃ c, x = .bl c ∧ Q c H1
/-- an expression whose value is a bool, as a test -/
theorem pt_val {e : Expr} {t : TE} (h : PE X e t) (he : ∀ whole, isTrue e X.env whole = (do let v ← whole; standAt e.pos; holding [v] (truthy v)) := by intro _; rfl) : PT X e (tB t) := by
  intro pins s σ H Q I hw
  refine isTrue_plain (thn (h pins s σ H _ I hw) fun v s1 ⟨x, H1, I1, r1, q1⟩ => ?_) (he _)
  obtain ⟨d, rfl, q⟩ := q1
  cases r1
  exact wpAny_truthy_bool ⟨H1, I1, q⟩

/-! ### and, or, not -/
variable {tA tB' : TT} {rest : List Expr}
def tAnd (t u : TT) : TT := fun σ H Q => t σ H fun c H1 => if c = true then u σ H1 Q else Q false H1
def tOr (t u : TT) : TT := fun σ H Q => t σ H fun c H1 => if c = true then Q true H1 else u σ H1 Q
def tNot (t : TT) : TT := fun σ H Q => t σ H fun c H1 => Q (!c) H1
theorem pw_and1 (ha : PT X a tA) : PW X (.BoolOp .And [a] pos) tA := by
  intro wh pins s σ H Q I h
  refine isTrue_and (thn (ha pins s σ H Q I h) fun c s1 e => ?_)
  cases c with
  | true => exact isTrue_and_nil e
  | false => exact e
theorem pw_or1 (ha : PT X a tA) : PW X (.BoolOp .Or [a] pos) tA := by
  intro wh pins s σ H Q I h
  refine isTrue_or (thn (ha pins s σ H Q I h) fun c s1 e => ?_)
  cases c with
  | false => exact isTrue_or_nil e
  | true => exact e
theorem pw_and (ha : PT X a tA) (hb : PW X (.BoolOp .And (b :: rest) pos) tB') : PW X (.BoolOp .And (a :: b :: rest) pos) (tAnd tA tB') := by
  intro wh pins s σ H Q I h
  refine isTrue_and (thn (ha pins s σ H _ I h) fun c s1 ⟨H1, I1, q1⟩ => ?_)
  cases c with
  | true => exact hb wh pins s1 σ H1 Q I1 q1
  | false => exact ⟨H1, I1, q1⟩
theorem pw_or (ha : PT X a tA) (hb : PW X (.BoolOp .Or (b :: rest) pos) tB') : PW X (.BoolOp .Or (a :: b :: rest) pos) (tOr tA tB') := by
  intro wh pins s σ H Q I h
  refine isTrue_or (thn (ha pins s σ H _ I h) fun c s1 ⟨H1, I1, q1⟩ => ?_)
  cases c with
  | true => exact ⟨H1, I1, q1⟩
  | false => exact hb wh pins s1 σ H1 Q I1 q1
theorem pt_not (ha : PT X a tA) : PT X (.UnaryOp .Not a pos) (tNot tA) := by
  intro pins s σ H Q I h
  exact isTrue_not (ha pins s σ H (fun c H1 => Q (!c) H1) I h)
/-- .. as values (bools) -/
def tAndV (ta tb : TE) : TE := fun σ H Q => ta σ H fun x H1 => ∃ c, x = .bl c ∧ if c = true then tb σ H1 Q else Q (.bl false) H1
def tOrV (ta tb : TE) : TE := fun σ H Q => ta σ H fun x H1 => ∃ c, x = .bl c ∧ if c = true then Q (.bl true) H1 else tb σ H1 Q
def tNotV (ta : TE) : TE := fun σ H Q => ta σ H fun x H1 => ∃ c, x = .bl c ∧ Q (.bl (!c)) H1
theorem pe_one {op} {t : TE} (h : PE X a t) : PE X (.BoolOp op [a] pos) t := fun pins s σ H Q I hw => BoolOp_one (h pins s σ H Q I hw)
theorem pe_and (ha : PE X a ta) (hb : PE X (.BoolOp .And (b :: rest) pos) tb) : PE X (.BoolOp .And (a :: b :: rest) pos) (tAndV ta tb) := by
  intro pins s σ H Q I h
  refine BoolOp_and (thn (ha pins s σ H _ I h) fun v s1 ⟨x, H1, I1, r1, q1⟩ => ?_)
  obtain ⟨c, rfl, q1⟩ := q1
  cases r1
  refine wpAny_truthy_bool ?_
  cases c with
  | true => exact hb pins s1 σ H1 Q I1 q1
  | false => exact ⟨.bl false, H1, I1, rfl, q1⟩
theorem pe_or (ha : PE X a ta) (hb : PE X (.BoolOp .Or (b :: rest) pos) tb) : PE X (.BoolOp .Or (a :: b :: rest) pos) (tOrV ta tb) := by
  intro pins s σ H Q I h
  refine BoolOp_or (thn (ha pins s σ H _ I h) fun v s1 ⟨x, H1, I1, r1, q1⟩ => ?_)
  obtain ⟨c, rfl, q1⟩ := q1
  cases r1
  refine wpAny_truthy_bool ?_
  cases c with
  | false => exact hb pins s1 σ H1 Q I1 q1
  | true => exact ⟨.bl true, H1, I1, rfl, q1⟩
theorem pe_not (ha : PE X a ta) : PE X (.UnaryOp .Not a pos) (tNotV ta) := by
  intro pins s σ H Q I h
  refine UnaryOp_ (thn (ha pins s σ H _ I h) fun v s1 ⟨x, H1, I1, r1, q1⟩ => ?_)
  obtain ⟨c, rfl, q1⟩ := q1
  cases r1
  exact not_of (wpAny_truthy_bool ⟨.bl (!c), H1, I1, rfl, q1⟩)
end
end L2

namespace L2
open PySem PySem.Spec PyProof.Rows

/-! ### a list, a tuple that is read: tracked, frozen, or an object of the module -/
def SqL (K : PySem.W.Frag) (H : Hp) (a : Addr) (xs : List V) : Prop :=
  Rd H a (.lst xs) ∨
    ∃ (o : Obj) (its : Array Value) (n : Nat), K.lookup a = some o ∧ o.cls = .type "list" ∧ o.dict = none ∧ o.data = .seq its n ∧ its.size ≤ sizeLine ∧ Vals xs its.toList
def SqT (K : PySem.W.Frag) (H : Hp) (a : Addr) (xs : List V) : Prop :=
  Rd H a (.tup xs) ∨
    ∃ (o : Obj) (its : Array Value) (n : Nat), K.lookup a = some o ∧ o.cls = .type "tuple" ∧ o.data = .seq its n ∧ its.size ≤ sizeLine ∧ Vals xs its.toList
def absV : Value → Option V
  | .none => some .non
  | .bool b => some (.bl b)
  | .int i _ => some (.int i)
  | .str x _ => some (.str x)
  | .bytes b _ => some (.byt b)
  | .float b _ => some (.flt b)
  | .ref a => some (.ref a)
  | .type n => some (.ty n)
  | _ => none
theorem RelV.abs {x : V} {u : Value} (r : RelV x u) : absV u = some x := by
  cases x with
  | non => cases r; rfl
  | bl _ => cases r; rfl
  | int _ => obtain ⟨t, rfl⟩ := r; rfl
  | str _ => obtain ⟨t, rfl⟩ := r; rfl
  | byt _ => obtain ⟨t, rfl⟩ := r; rfl
  | flt _ => obtain ⟨t, rfl⟩ := r; rfl
  | ref _ => cases r; rfl
  | ty _ => cases r; rfl
theorem RelV.inj {x y : V} {u : Value} (r : RelV x u) (q : RelV y u) : x = y := Option.some.inj (r.abs.symm.trans q.abs)
theorem Vals.inj : ∀ {xs ys : List V} {us : List Value}, Vals xs us → Vals ys us → xs = ys
  | _, _, _, .nil, .nil => rfl
  | _, _, _, .cons r t, .cons r' t' => by rw [r.inj r', Vals.inj t t']
section
variable {X : Cx} {pins : List (Addr × Obj)} {σ : St} {H : Hp} {s : Shared} {a : Addr} {xs ys : List V}
theorem SqL.of {K : PySem.W.Frag} (h : H a = some (.lst xs)) : SqL K H a xs := .inl (.inl h)
theorem SqT.of {K : PySem.W.Frag} (h : H a = some (.tup xs)) : SqT K H a xs := .inl (.inl h)
theorem Inv.list (I : Inv X pins σ H s) (h : SqL X.K H a xs) : ∃ its : List Value, Vals xs its ∧ PlainL s.heap a its.toArray ∧ xs.length ≤ sizeLine := by
  rcases h with h | ⟨o, its, n, hk, hc, hd, hs, hz, r⟩
  · obtain ⟨z, its, n, r, e⟩ := h.ok I.hok
    exact ⟨its, r, ⟨_, n, e, rfl, rfl, rfl⟩, z⟩
  · refine ⟨its.toList, r, ⟨o, n, I.kIn a o hk, hc, hd, by simpa using hs⟩, ?_⟩
    have e := r.length
    simp only [Array.length_toList] at e
    omega
theorem Inv.tuple (I : Inv X pins σ H s) (h : SqT X.K H a xs) : ∃ its : List Value, Vals xs its ∧ IsTup s.heap a its.toArray ∧ xs.length ≤ sizeLine := by
  rcases h with h | ⟨o, its, n, hk, hc, hs, hz, r⟩
  · obtain ⟨z, its, r, p⟩ := h.ok I.hok
    exact ⟨its, r, p, z⟩
  · refine ⟨its.toList, r, ⟨o, I.kIn a o hk, hc, n, by simpa using hs⟩, ?_⟩
    have e := r.length
    simp only [Array.length_toList] at e
    omega
theorem Inv.list_inj (I : Inv X pins σ H s) (h : SqL X.K H a xs) (h' : SqL X.K H a ys) : xs = ys := by
  obtain ⟨its, r, ⟨o, n, e, _, _, d⟩, _⟩ := I.list h
  obtain ⟨its', r', ⟨o', n', e', _, _, d'⟩, _⟩ := I.list h'
  rw [e] at e'; cases e'
  rw [d] at d'
  injection d' with d1 _
  have : its = its' := by simpa using congrArg Array.toList d1
  subst this
  exact r.inj r'
end

/-! ### another wish about exceptions -/
abbrev Cx.wish (X : Cx) (E : Value → Shared → Prop) : Cx := { X with xe := E }
/-- no exception leaves -/
abbrev Cx.nox (X : Cx) : Cx := X.wish fun _ _ => False
theorem Cx.Ok.wish {X : Cx} (ok : X.Ok) (E : Value → Shared → Prop) : (X.wish E).Ok :=
  ⟨ok.mod, ok.kind, ok.glob, ok.blt, ok.above, ok.inj, ok.has, ok.cab, ok.hd, ok.frames, ok.stk, ok.exf, ok.bs, ok.bsz, ok.noex, ok.exfs, ok.funs, ok.frf⟩
theorem Cx.Ok.unwish {X : Cx} {E : Value → Shared → Prop} (ok : (X.wish E).Ok) : X.Ok :=
  ⟨ok.mod, ok.kind, ok.glob, ok.blt, ok.above, ok.inj, ok.has, ok.cab, ok.hd, ok.frames, ok.stk, ok.exf, ok.bs, ok.bsz, ok.noex, ok.exfs, ok.funs, ok.frf⟩
section
variable {X : Cx} {pins : List (Addr × Obj)} {σ : St} {H : Hp} {s : Shared} {E : Value → Shared → Prop}
theorem Inv.wish (I : Inv X pins σ H s) (E : Value → Shared → Prop) : Inv (X.wish E) pins σ H s := ⟨I.ok.wish E, I.os, I.bare, I.base, I.loc, I.cell, I.free, I.freeC, I.pin, I.hok, I.len⟩
theorem Inv.unwish (I : Inv (X.wish E) pins σ H s) : Inv X pins σ H s := ⟨I.ok.unwish, I.os, I.bare, I.base, I.loc, I.cell, I.free, I.freeC, I.pin, I.hok, I.len⟩
theorem SP.unwish {D : Ends} {f : Flow} {s' : Shared} (h : SP (X.wish E) pins D f s') : SP X pins D f s' := by
  cases f with
  | next => obtain ⟨σ', H', I, q⟩ := h; exact ⟨σ', H', I.unwish, q⟩
  | brk => obtain ⟨σ', H', I, q⟩ := h; exact ⟨σ', H', I.unwish, q⟩
  | cont => obtain ⟨σ', H', I, q⟩ := h; exact ⟨σ', H', I.unwish, q⟩
  | ret u => obtain ⟨v, σ', H', I, r, q⟩ := h; exact ⟨v, σ', H', I.unwish, r, q⟩
theorem PE.nox {e : Expr} {t : TE} (h : PE X.nox e t) : PE X e t := fun pins s σ H Q I hw =>
  wpAny_mono (h pins s σ H Q (I.wish _) hw) (fun _ _ ⟨v, H', I', r, q⟩ => ⟨v, H', I'.unwish, r, q⟩) fun _ _ z => False.elim z
theorem PT.nox {e : Expr} {t : TT} (h : PT X.nox e t) : PT X e t := fun pins s σ H Q I hw =>
  wpAny_mono (h pins s σ H Q (I.wish _) hw) (fun _ _ ⟨H', I', q⟩ => ⟨H', I'.unwish, q⟩) fun _ _ z => False.elim z
theorem PSs.nox {st : List Stmt} {t : TS} (h : PSs X.nox st t) : PSs X st t := fun pins s σ H D I hw =>
  wpAny_mono (h pins s σ H D (I.wish _) hw) (fun _ _ q => q.unwish) fun _ _ z => False.elim z
end

/-! ### blocks and small statements -/
section
variable {X : Cx} {st : Stmt} {rest : List Stmt} {t u : TS} {e : Expr} {te : TE} {pos : Pos}
def tNext : TS := fun D σ H => D.nx σ H
def tSeq (t u : TS) : TS := fun D σ H => t { D with nx := u D } σ H
theorem pss_nil : PSs X [] tNext := fun _ _ σ H _ I h => wpAny_execs_nil ⟨σ, H, I, h⟩
theorem pss_cons (h1 : PS X st t) (h2 : PSs X rest u) : PSs X (st :: rest) (tSeq t u) := by
  intro pins s σ H D I h
  refine wpAny_execs_cons (thn (h1 pins s σ H { D with nx := u D } I h) fun f s1 q => ?_)
  cases f with
  | next =>
    obtain ⟨σ', H', I', q⟩ := q
    exact h2 pins s1 σ' H' D I' q
  | ret v => exact q
  | brk => exact q
  | cont => exact q
theorem pss_one (h1 : PS X st t) : PSs X [st] t := by
  intro pins s σ H D I h
  refine wpAny_execs_cons (thn (h1 pins s σ H D I h) fun f s1 q => ?_)
  cases f with
  | next => exact wpAny_execs_nil q
  | ret v => exact q
  | brk => exact q
  | cont => exact q
/-- in a def's body nothing is shown -/
theorem Inv.quiet {pins : List (Addr × Obj)} {σ : St} {H : Hp} {s : Shared} (I : Inv X pins σ H s) : interactive X.env = false := by simp [interactive, I.ok.kind]
/-- an expression whose value is dropped -/
def tDrop (te : TE) : TS := fun D σ H => te σ H fun _ H1 => D.nx σ H1
theorem ps_expr (he : PE X e te) (hs : swapsWith e none pos.line X.env = pure false := by rfl) : PS X (.Expr e pos) (tDrop te) := by
  intro pins s σ H D I h
  exact wpAny_Expr_any (thn (he pins s σ H _ I h) fun v s1 ⟨x, H1, I1, r1, q1⟩ => ⟨σ, H1, I1, q1⟩) I.quiet hs
def tRet (te : TE) : TS := fun D σ H => te σ H D.rt
theorem ps_ret (he : PE X e te) : PS X (.Return (some e) pos) (tRet te) := by
  intro pins s σ H D I h
  exact wpAny_Return_some (thn (he pins s σ H _ I h) fun v s1 ⟨x, H1, I1, r1, q1⟩ => ⟨x, σ, H1, I1, r1, q1⟩)
def tIfS (c : TT) (t u : TS) : TS := fun D σ H => c σ H fun b H1 => if b = true then t D σ H1 else u D σ H1
theorem ps_if {c : Expr} {a b : List Stmt} {tc : TT} (hc : PT X c tc) (ha : PSs X a t) (hb : PSs X b u) : PS X (.If c a b pos) (tIfS tc t u) := by
  intro pins s σ H D I h
  refine wpAny_If (thn (hc pins s σ H _ I h) fun d s1 ⟨H1, I1, q1⟩ => ?_)
  cases d with
  | true => exact ha pins s1 σ H1 D I1 q1
  | false => exact hb pins s1 σ H1 D I1 q1
/-- code that the proof never comes to -/
def tNever : TS := fun _ _ _ => False
theorem ps_never : PS X st tNever := fun _ _ _ _ _ _ h => h.elim
end

/-! ### targets -/
abbrev TG := V → St → Hp → (St → Hp → Prop) → Prop
abbrev TGs := List V → St → Hp → (St → Hp → Prop) → Prop
def PG (X : Cx) (target : Expr) (t : TG) : Prop :=
  ∀ (pins : List (Addr × Obj)) (s : Shared) (σ : St) (H : Hp) (v : V) (u : Value) (Q : St → Hp → Prop), Inv X pins σ H s → RelV v u → t v σ H Q →
    wpAny (model X.prog X.w) X.A (assign target X.env u) (fun _ s' => ∃ σ' H', Inv X pins σ' H' s' ∧ Q σ' H') X.xe s
/-- several targets, one after another -/
def PGs (X : Cx) (ts : List Expr) (t : TGs) : Prop :=
  ∀ (pins : List (Addr × Obj)) (s : Shared) (σ : St) (H : Hp) (vs : List V) (us : List Value) (Q : St → Hp → Prop), Inv X pins σ H s → Vals vs us → t vs σ H Q →
    wpAny (model X.prog X.w) X.A (assignInOrder ((assignEach ts X.env).map (·.2)) us) (fun _ s' => ∃ σ' H', Inv X pins σ' H' s' ∧ Q σ' H') X.xe s
section
variable {X : Cx} {pos : Pos}
def gName (i : Nat) : TG := fun v σ H Q => Q (σ.set i (some v)) H
theorem pg_name {i : Nat} {x : Str} (hN : X.N.Nodup) (hi : X.N[i]? = some x) (hx : Loc X.env.scope x) (hf : X.fn x = true ∨ X.env.scope.names.lookup x = some .local := by first | exact .inl rfl | exact .inr rfl | assumption) : PG X (.Name x pos) (gName i) := by
  intro pins s σ H v u Q I r h
  exact wpAny_assign_Name (store_ok I hN hi hx r (fun s' I' => ⟨_, H, I', h⟩) hf)
def gNil : TGs := fun vs σ H Q => vs = [] ∧ Q σ H
def gCons (t : TG) (u : TGs) : TGs := fun vs σ H Q => ∃ v r, vs = v :: r ∧ t v σ H fun σ' H' => u r σ' H' Q
theorem pgs_nil : PGs X [] gNil := by
  intro pins s σ H vs us Q I r h
  obtain ⟨e, h⟩ := h
  subst e
  cases r
  exact assignInOrder_nil ⟨σ, H, I, h⟩
theorem pgs_cons {e : Expr} {es : List Expr} {t : TG} {u : TGs} (h1 : PG X e t) (h2 : PGs X es u)
    (hs : (assignEach (e :: es) X.env).map (·.2) = assign e X.env :: (assignEach es X.env).map (·.2) := by rfl) : PGs X (e :: es) (gCons t u) := by
  intro pins s σ H vs us Q I r h
  obtain ⟨v, vr, e1, h⟩ := h
  subst e1
  cases r with
  | cons r rr =>
    rw [hs]
    refine assignInOrder_cons (thn (h1 pins s σ H _ _ _ I r h) fun _ s1 ⟨σ1, H1, I1, q1⟩ => ?_)
    exact h2 pins s1 σ1 H1 _ _ Q I1 rr q1
/-- (a, b, ..) = a tuple of that length -/
def gTup (K : PySem.W.Frag) (n : Nat) (t : TGs) : TG := fun v σ H Q => ∃ a xs, v = .ref a ∧ SqT K H a xs ∧ xs.length = n ∧ t xs σ H Q
theorem pg_tup {es : List Expr} {k : Nat} {t : TGs} {n : Nat} (hc : X.calm = true) (h : PGs X es t)
    (hn : (assignEach es X.env).length = n := by rfl) (hst : (assignEach es X.env).findIdx? (·.1) = none := by rfl) : PG X (.Tuple es k pos) (gTup X.K n t) := by
  intro pins s σ H v u Q I r hw
  obtain ⟨a, xs, e1, hq, hl, hw⟩ := hw
  subst e1
  cases r
  obtain ⟨its, rv, ht, hz⟩ := I.tuple hq
  refine assign_Tuple_tuple (I.ok.hd hc) ht (by simp [hn, ← hl, rv.length]) hst fun h' hx => ?_
  have I1 : Inv X pins σ H { s with heap := h' } := I.kept (t' := s.toks) fun b o e => hx b o (Nat.ne_of_lt (Heap.lt_size e)) e
  exact h pins _ σ H xs _ Q I1 (by simpa using rv) hw
/-- target = value -/
def tAsg (te : TE) (g : TG) : TS := fun D σ H => te σ H fun x H1 => g x σ H1 D.nx
theorem ps_asg {tg e : Expr} {te : TE} {g : TG} (he : PE X e te) (hg : PG X tg g) (hs : swapsWithSole [tg] e pos.line X.env = pure false := by rfl) (hw : swappedStores [tg] e X.env = pure none := by rfl)
    (h1 : (assignEach [tg] X.env).map (·.2) = [assign tg X.env] := by rfl) : PS X (.Assign [tg] e pos) (tAsg te g) := by
  intro pins s σ H D I h
  refine wpAny_Assign_stores (thn (he pins s σ H _ I h) fun v s1 ⟨x, H1, I1, r1, q1⟩ => ?_) hs hw
  rw [h1]
  exact thn (hg pins s1 σ H1 x v _ I1 r1 q1) fun _ s2 q => q
/-- name = value -/
theorem ps_set {i : Nat} {x : Str} {e : Expr} {te : TE} {pos' : Pos} (hN : X.N.Nodup) (hi : X.N[i]? = some x) (hx : Loc X.env.scope x) (he : PE X e te) (hs : swapsWith e (some (.Name x pos')) pos.line X.env = pure false := by rfl) (hf : X.fn x = true ∨ X.env.scope.names.lookup x = some .local := by first | exact .inl rfl | exact .inr rfl | assumption) :
    PS X (.Assign [.Name x pos'] e pos) (tAsg te (gName i)) := by
  intro pins s σ H D I h
  refine wpAny_Assign_Name (thn (he pins s σ H _ I h) fun v s1 ⟨y, H1, I1, r1, q1⟩ => ?_) hs
  exact store_ok I1 hN hi hx r1 (fun s2 I2 => ⟨_, H1, I2, q1⟩) hf
/-- a, b = x, y with plain local names: stored from the right; the pair itself is not tracked (the opening rows as in PyProof/Rows/TupAssign.lean:23) -/
def tPar (i j : Nat) (ta : TA) : TS := fun D σ H => ta σ H fun vs H1 => ∃ v w, vs = [v, w] ∧ D.nx ((σ.set i (some v)).set j (some w)) H1
theorem ps_par {i j : Nat} {x y : Str} {a b : Expr} {ta : TA} {px py pt : Pos} {kt k2 pt2} (hc : X.calm = true) (hN : X.N.Nodup) (hi : X.N[i]? = some x) (hj : X.N[j]? = some y) (hij : i ≠ j)
    (hx : X.env.scope.names.lookup x = some .local) (hy : X.env.scope.names.lookup y = some .local) (ha : PA X [a, b] ta)
    (hw : swappedStores [.Tuple [.Name x px, .Name y py] kt pt] (.Tuple [a, b] k2 pt2) X.env = pure (some [x, y]))
    (hs : swapsWithSole [.Tuple [.Name x px, .Name y py] kt pt] (.Tuple [a, b] k2 pt2) pos.line X.env = pure false := by rfl) :
    PS X (.Assign [.Tuple [.Name x px, .Name y py] kt pt] (.Tuple [a, b] k2 pt2) pos) (tPar i j ta) := by
  intro pins s σ H D I h
  rw [exec_Assign_arm]
  refine wpAny_bind (wpAny_standAt ?_)
  rw [hs]
  refine wpAny_bind (wpAny_pure ?_)
  rw [if_neg (by decide)]
  refine wpAny_bind (Tuple_ (thn (ha _ pins s σ H _ I h) fun us s1 ⟨vs, H1, I1, r1, q1⟩ => ?_))
  obtain ⟨v, w, e1, q1⟩ := q1
  subst e1
  obtain ⟨u1, u2, rfl, rv, rw'⟩ : ∃ u1 u2, us = [u1, u2] ∧ RelV v u1 ∧ RelV w u2 := by
    cases r1 with
    | cons p q =>
      cases q with
      | cons p' q' =>
        cases q'
        exact ⟨_, _, rfl, p, p'⟩
  refine wpAny_newObj_type ?_ (by show 2 ≤ sizeLine; decide)
  have I2 : Inv X pins σ H1 { s1 with heap := s1.heap.push { cls := .type "tuple", data := .seq [u1, u2].toArray } } := I1.kept (t' := s1.toks) fun b o e => Heap.get?_push_of_some _ e
  rw [hw]
  refine wpAny_bind (wpAny_pure ?_)
  show wpAny (model X.prog X.w) X.A (do rule "assign.swapped-stores"; let items ← unpackItems (.ref s1.heap.objs.size) 2 none; assignInOrder [fun v => bindName X.env y v, fun v => bindName X.env x v] items.reverse; pure Flow.next) _ _ _
  refine wpAny_bind (wpAny_rule (wpAny_bind (unpackItems_tuple (items := #[u1, u2]) (I.ok.hd hc) (IsTup.new s1.heap _) fun h' hx' => ?_)))
  have I3 := I2.kept (h' := h') (t' := s1.toks) fun b o e => hx' b o (Nat.ne_of_lt (Heap.lt_size e)) e
  show wpAny _ _ (assignInOrder [fun v => bindName X.env y v, fun v => bindName X.env x v] [u2, u1] >>= fun _ => pure Flow.next) _ _ _
  refine wpAny_bind (assignInOrder_cons (wpAny_bindName (store_ok I3 hN hj (.inl hy) rw' (fun s2 I4 => ?_) (.inr hy))))
  refine assignInOrder_cons (wpAny_bindName (store_ok I4 hN hi (.inl hx) rv (fun s3 I5 => assignInOrder_nil (wpAny_pure ?_)) (.inr hx)))
  rw [List.set_comm _ _ (Ne.symm hij)] at I5
  exact ⟨_, H1, I5, q1⟩
end

/-! ### while -/
section
variable {X : Cx} {pos : Pos}
end

/-! ### what a loop or a comprehension walks -/
/-- at turn i: it yields x (the heap may grow), or it stops -/
structure It where
  go : Nat → Hp → Prop
  yld : Nat → Hp → V → Hp → Prop
  stop : Nat → Hp → Prop
/-- the iterator's own objects may turn: they are not the frame's, not pinned, younger than the entry (or a comprehension's own) -/
def FpOk (X : Cx) (pins : List (Addr × Obj)) (H : Hp) (b : Addr) : Prop :=
  H b = none ∧ b ≠ X.env.locals ∧ b ∉ X.fs ∧ (b ∈ X.ex ∨ X.s₀.heap.objs.size ≤ b) ∧ (∀ x c, X.env.cells.lookup x = some c → c ≠ b) ∧ ∀ p ∈ X.pn ++ pins, p.1 ≠ b
theorem Inv.fpOk {X : Cx} {pins : List (Addr × Obj)} {σ : St} {H H' : Hp} {s : Shared} {b : Addr} (I : Inv X pins σ H s) (hb : s.heap.objs.size ≤ b) (hn : H' b = none) : FpOk X pins H' b := by
  refine ⟨hn, Nat.ne_of_gt (Nat.lt_of_lt_of_le I.lt hb), I.nofs hb, .inr (Nat.le_trans I.sz hb), fun x c e z => ?_, fun p hp z => ?_⟩
  · obtain ⟨v, q⟩ := I.cell x c e
    exact absurd (Nat.lt_of_lt_of_le q.lt (by rw [z]; exact hb)) (Nat.lt_irrefl _)
  · exact absurd (Nat.lt_of_lt_of_le (Heap.lt_size (I.pin p hp).1) (by rw [z]; exact hb)) (Nat.lt_irrefl _)
structure Turn (P : Program) (w : World) (K : PySem.W.Frag) (tg : Expr) (J : It) (fp : List Addr) (it : Addr) (tn : Nat → Heap → Prop) : Prop where
  mem : it ∈ fp
  obj : ∀ i h, tn i h → ∀ b ∈ fp, ∃ o, h.get? b = some o ∧ ∀ v, o.data ≠ .cell v
  keep : ∀ i h h', tn i h → (∀ b ∈ fp, ∀ o, h.get? b = some o → h'.get? b = some o) → tn i h'
  item : ∀ (X : Cx), X.prog = P → X.w = w → X.K = K → X.calm = true → ∀ (i : Nat) (pins : List (Addr × Obj)) (s : Shared) (σ : St) (H : Hp) (E : Value → Shared → Prop), Inv X pins σ H s → (∀ b ∈ fp, FpOk X pins H b) → tn i s.heap → J.go i H →
    wpAny (model P w) X.A (pyNext (.ref it)) (fun r s1 => ∃ u, r = some u ∧
      wpAny (model P w) X.A (letOwnedTupleGo tg (.ref it) u) (fun _ s2 => ∃ x H', Inv X pins σ H' s2 ∧ RelV x u ∧ J.yld i H x H' ∧ tn (i + 1) s2.heap ∧ ∀ b ∈ fp, H' b = none) E s1) E s
  done : ∀ (X : Cx), X.prog = P → X.w = w → X.K = K → X.calm = true → ∀ (i : Nat) (pins : List (Addr × Obj)) (s : Shared) (σ : St) (H : Hp) (E : Value → Shared → Prop), Inv X pins σ H s → (∀ b ∈ fp, FpOk X pins H b) → tn i s.heap → J.stop i H →
    wpAny (model P w) X.A (pyNext (.ref it)) (fun r s1 => r = none ∧ Inv X pins σ H s1) E s
  self : ∀ (A : Around) (i : Nat) (s : Shared) (Q : Value → Shared → Prop) (E : Value → Shared → Prop), tn i s.heap → Q (.ref it) s → wpAny (model P w) A (pyIter (.ref it)) Q E s
abbrev TI := St → Hp → (It → Hp → Prop) → Prop
/-- an iterator has come -/
def PIE (X : Cx) (pins : List (Addr × Obj)) (σ : St) (tg : Expr) (R : It → Hp → Prop) (itv : Value) (s2 : Shared) : Prop :=
  ∃ (it : Addr) (fp : List Addr) (tn : Nat → Heap → Prop) (J : It) (H' : Hp), itv = .ref it ∧ Inv X pins σ H' s2 ∧ Turn X.prog X.w X.K tg J fp it tn ∧ tn 0 s2.heap ∧ (∀ b ∈ fp, FpOk X pins H' b) ∧ R J H'
def PI (X : Cx) (tg iter : Expr) (wi : TI) : Prop :=
  ∀ (pins : List (Addr × Obj)) (s : Shared) (σ : St) (H : Hp) (R : It → Hp → Prop), Inv X pins σ H s → wi σ H R →
    wpAny (model X.prog X.w) X.A (eval iter X.env) (fun v s1 => wpAny (model X.prog X.w) X.A (pyIter v) (PIE X pins σ tg R) X.xe s1) X.xe s

/-- the step ahead of the store is nothing for an iterator that keeps no tuple -/
theorem go_of {M : Model} {A : Around} {E : Value → Shared → Prop} {s : Shared} {tg : Expr} {it : Addr} {u : Value} {o : Obj} {n : String} {vs : Array Value} {Q : Unit → Shared → Prop} (ho : s.heap.get? it = some o) (hc : o.cls = .type n) (hd : o.data = .fields vs)
    (hn : ["enumerate", "zip", "dict_itemiterator", "dict_reverseitemiterator", "odict_iterator", "itertools.zip_longest", "itertools.pairwise"].contains n = false) (hQ : Q () s) : wpAny M A (letOwnedTupleGo tg (.ref it) u) Q E s := by
  unfold letOwnedTupleGo
  cases tg <;> first
    | exact wpAny_pure hQ
    | (cases u <;> first
        | exact wpAny_pure hQ
        | (refine wpAny_bind (wpAny_load ho ?_)
           rw [hc, hd]
           show wpAny M A (if (["enumerate", "zip", "dict_itemiterator", "dict_reverseitemiterator", "odict_iterator", "itertools.zip_longest", "itertools.pairwise"].contains n && vs[0]? == some (rawInt _)) = true then _ else _) Q E s
           rw [if_neg (by intro h; rw [hn, Bool.false_and] at h; cases h)]
           exact wpAny_pure hQ))

/-- the list at a, as it stands at each turn (a loop may append to it) -/
def Itl (K : PySem.W.Frag) (a : Addr) : It :=
  ⟨fun i H => ∃ xs x, SqL K H a xs ∧ xs[i]? = some x, fun i H x H' => H' = H ∧ ∀ xs, SqL K H a xs → xs[i]? = some x, fun i H => ∃ xs, SqL K H a xs ∧ xs.length ≤ i⟩
/-- lo, lo + 1, .. (n of them) -/
def Itr (lo : Int) (n : Nat) : It := ⟨fun i _ => i < n, fun i H x H' => H' = H ∧ x = .int (lo + i), fun i _ => n ≤ i⟩
theorem turn_list {P : Program} {w : World} {K : PySem.W.Frag} {tg : Expr} (a it : Addr) : Turn P w K tg (Itl K a) [it] it (fun i h => h.IsListIter it a i) where
  mem := by simp
  obj := fun i h st b hb => by
    have e : b = it := by simpa using hb
    subst e
    obtain ⟨o, e, c, d⟩ := st
    exact ⟨o, e, fun v z => by rw [d] at z; cases z⟩
  keep := fun i h h' st k => st.at fun o e => k it (by simp) o e
  item := by
    intro X hP hw hK hc i pins s σ H E I hf st hg
    subst hP hw hK
    obtain ⟨xs, x, hq, hx⟩ := hg
    obtain ⟨its, rv, p, hz⟩ := I.list hq
    obtain ⟨u, hu, ru⟩ := rv.get hx
    obtain ⟨f0, f1, f2, f3, f4, f5⟩ := hf it (by simp)
    refine wpAny_pyNext_list_item st p.isList (x := u) (by simpa using hu) fun h' st' sb => ?_
    have I1 : Inv X pins σ H { s with heap := h' } := I.turned (t' := s.toks) (fun b o hb e => (sb.2 b hb).trans e) f0 f1 f3 f4 f5
    obtain ⟨o, e, c, d⟩ := id st'
    exact ⟨u, rfl, go_of (s := { s with heap := h' }) e c d (by decide) ⟨x, H, I1, ru, ⟨rfl, fun ys hy => by rw [I.list_inj hy hq]; exact hx⟩, st', fun b hb => (hf b hb).1⟩⟩
  done := by
    intro X hP hw hK hc i pins s σ H E I hf st hg
    subst hP hw hK
    obtain ⟨xs, hq, hx⟩ := hg
    obtain ⟨its, rv, p, hz⟩ := I.list hq
    obtain ⟨f0, f1, f2, f3, f4, f5⟩ := hf it (by simp)
    have hl := rv.length
    exact wpAny_pyNext_list_end (I.ok.hd hc) st p.isList (by simp; omega) fun h' eb => ⟨rfl, I.turned (t' := s.toks) (fun b o hb e => eb b o hb e) f0 f1 f3 f4 f5⟩
  self := fun _ _ _ _ _ st h => wpAny_pyIter_listiter st h
theorem turn_range {P : Program} {w : World} {K : PySem.W.Frag} {tg : Expr} (it : Addr) (lo : Int) (n : Nat) : Turn P w K tg (Itr lo n) [it] it (fun i h => IsRangeIter h it (lo + (i : Nat) * 1) ((n : Int) - (i : Nat)) 1) where
  mem := by simp
  obj := fun i h st b hb => by
    have e : b = it := by simpa using hb
    subst e
    exact ⟨_, st, fun v z => by
      have z' : Data.fields _ = Data.cell v := z
      cases z'⟩
  keep := fun i h h' st k => k it (by simp) _ st
  item := by
    intro X hP hw hK hc i pins s σ H E I hf st hg
    subst hP hw hK
    obtain ⟨f0, f1, f2, f3, f4, f5⟩ := hf it (by simp)
    have W := Walks.range (prog := X.prog) (w := X.w) (I.ok.hd hc) it lo 1 n
    refine W.item i s _ _ hg st fun v h' tk hv st' kk => ?_
    obtain ⟨t, rfl⟩ := hv
    have I1 : Inv X pins σ H { s with heap := h', toks := tk } := I.turned (fun b o hb e => kk b o (by simpa using hb) e) f0 f1 f3 f4 f5
    refine ⟨_, rfl, go_of (s := { s with heap := h', toks := tk }) (n := "range_iterator") st' rfl rfl (by decide) ⟨.int (lo + i), H, I1, ⟨t, ?_⟩, ⟨rfl, rfl⟩, st', fun b hb => (hf b hb).1⟩⟩
    rw [Int.mul_one]
  done := by
    intro X hP hw hK hc i pins s σ H E I hf st hg
    subst hP hw hK
    obtain ⟨f0, f1, f2, f3, f4, f5⟩ := hf it (by simp)
    exact wpAny_pyNext_range_end (I.ok.hd hc) st (by have : n ≤ i := hg; omega) fun h' eb => ⟨rfl, I.turned (t' := s.toks) (fun b o hb e => eb b o hb e) f0 f1 f3 f4 f5⟩
  self := fun _ _ _ _ _ st h => wpAny_pyIter_rangeiter st h
end L2

namespace L2
open PySem PySem.Spec PyProof.Rows
section
variable {X : Cx} {tg : Expr}
def iList (K : PySem.W.Frag) (tl : TE) : TI := fun σ H R => tl σ H fun x H1 => ∃ a, x = .ref a ∧ (∃ xs, SqL K H1 a xs) ∧ R (Itl K a) H1
theorem pi_list {l : Expr} {tl : TE} (hl : PE X l tl) : PI X tg l (iList X.K tl) := by
  intro pins s σ H R I h
  refine thn (hl pins s σ H _ I h) fun v s1 ⟨x, H1, I1, r1, q1⟩ => ?_
  obtain ⟨a, e, ⟨xs, hq⟩, q⟩ := q1
  subst e
  cases r1
  obtain ⟨its, rv, p, hz⟩ := I1.list hq
  refine wpAny_pyIter_list p.isList ?_
  refine ⟨s1.heap.objs.size, [s1.heap.objs.size], _, _, H1, rfl, I1.kept (t' := s1.toks) fun b o e => Heap.get?_push_of_some _ e, turn_list a _, ⟨_, Heap.get?_push_size _ rfl, rfl, rfl⟩, fun b hb => ?_, q⟩
  have e : b = s1.heap.objs.size := by simpa using hb
  subst e
  exact I1.fpOk (Nat.le_refl _) (I1.hok.fresh (Nat.le_refl _))
/-- a range object just made, walked -/
theorem range_it {pins : List (Addr × Obj)} {σ : St} {H : Hp} {s : Shared} {R : It → Hp → Prop} {E : Value → Shared → Prop} {lo hi : Int} {t u v : Tok} {tk : Nat} (I : Inv X pins σ H s) (h1 : -(2 ^ 62) ≤ lo) (h2 : lo < 2 ^ 62) (h3 : -(2 ^ 62) ≤ hi) (h4 : hi < 2 ^ 62)
    (q : R (Itr lo (hi - lo).toNat) H) : wpAny (model X.prog X.w) X.A (pyIter (.ref s.heap.objs.size)) (PIE X pins σ tg R) E { s with heap := s.heap.push { cls := .type "range", data := .fields #[.int lo t, .int hi u, .int 1 v] }, toks := tk } := by
  refine wpAny_pyIter_range (IsRange.new ..) (small_one h1 h2 h3 h4) ?_
  have I1 : Inv X pins σ H { s with heap := s.heap.push { cls := .type "range", data := .fields #[.int lo t, .int hi u, .int 1 v] }, toks := tk } := I.kept fun b o e => Heap.get?_push_of_some _ e
  refine ⟨(s.heap.push { cls := .type "range", data := .fields #[.int lo t, .int hi u, .int 1 v] }).objs.size, [(s.heap.push { cls := .type "range", data := .fields #[.int lo t, .int hi u, .int 1 v] }).objs.size], _, _, H, rfl,
    I1.kept (t' := tk) fun b o e => Heap.get?_push_of_some _ e, turn_range _ lo (hi - lo).toNat, ?_, fun b hb => ?_, q⟩
  · have e1 : lo + ((0 : Nat) : Int) * 1 = lo := by simp
    have e2 : (((hi - lo).toNat : Nat) : Int) - ((0 : Nat) : Int) = Builtin.Range.rangeSize lo hi 1 := by rw [rangeSize_one]; split <;> omega
    show IsRangeIter _ _ (lo + ((0 : Nat) : Int) * 1) ((((hi - lo).toNat : Nat) : Int) - ((0 : Nat) : Int)) 1
    rw [e1, e2]
    exact Heap.get?_push_size _ rfl
  · have e : b = (s.heap.push { cls := .type "range", data := .fields #[.int lo t, .int hi u, .int 1 v] }).objs.size := by simpa using hb
    subst e
    exact I1.fpOk (Nat.le_refl _) (I1.hok.fresh (Nat.le_refl _))
def iRng1 (ta : TA) : TI := fun σ H R => ta σ H fun vs H1 => ∃ j : Int, vs = [.int j] ∧ -(2 ^ 62) ≤ j ∧ j < 2 ^ 62 ∧ R (Itr 0 j.toNat) H1
theorem pi_range1 {a : Expr} {ta : TA} {p pos : Pos} (hg : Gl X "range") (hm : X.mg "range" = none) (ha : PA X [a] ta) (hs : starEach [a] X.env = [(false, eval a X.env)] := by rfl) : PI X tg (.Call (.Name "range" p) [a] [] pos) (iRng1 ta) := by
  intro pins s σ H R I h
  refine Call_ (ld_blt I hg hm boot_range (PyProof.Rows.callWith_type1 (thn (ha pos pins s σ H _ I h) fun us s1 ⟨vs, H1, I1, r1, q1⟩ => ?_) hs rfl))
  obtain ⟨j, e, q1, q2, q⟩ := q1
  subst e
  cases r1 with
  | cons r rr =>
    cases rr
    obtain ⟨t, rfl⟩ := r
    exact call_range_1 (range_it I1 (by omega) (by omega) q1 q2 (by simpa using q))
/-! ### for -/
/-- W: the invariant by the turn and a measure; N: what the body is to reach -/
def tFor (wi : TI) (g : TG) (tb : TS) : TS := fun D σ H => wi σ H fun J H1 => ∃ W : Nat → Nat → St → Hp → Prop, (∃ m, W 0 m σ H1) ∧ ∀ i m σ H, W i m σ H →
  (J.stop i H ∧ D.nx σ H) ∨ (J.go i H ∧ ∃ N : St → Hp → Prop, (∀ σ' H', N σ' H' → ∃ m', m' < m ∧ W (i + 1) m' σ' H') ∧ ∀ x H', J.yld i H x H' → g x σ H' fun σ2 H2 => tb { D with nx := N, ct := N, bk := D.nx } σ2 H2)
/-- the records at fp as they stand -/
def pinsAt (fp : List Addr) (h : Heap) : List (Addr × Obj) := fp.filterMap fun b => (h.get? b).map fun o => (b, o)
theorem mem_pinsAt {fp : List Addr} {h : Heap} {b : Addr} {o : Obj} (hb : b ∈ fp) (e : h.get? b = some o) : (b, o) ∈ pinsAt fp h := List.mem_filterMap.mpr ⟨b, hb, by rw [e]; rfl⟩
theorem of_pinsAt {fp : List Addr} {h : Heap} {p : Addr × Obj} (hp : p ∈ pinsAt fp h) : p.1 ∈ fp ∧ h.get? p.1 = some p.2 := by
  obtain ⟨b, hb, e⟩ := List.mem_filterMap.mp hp
  cases q : h.get? b with
  | none => rw [q] at e; cases e
  | some o =>
    rw [q] at e
    have e' : (b, o) = p := Option.some.inj e
    subst e'
    exact ⟨hb, q⟩
theorem Inv.pinned {pins : List (Addr × Obj)} {σ : St} {H : Hp} {s : Shared} {fp : List Addr} (I : Inv X pins σ H s) (hf : ∀ b ∈ fp, FpOk X pins H b) (ho : ∀ b ∈ fp, ∃ o, s.heap.get? b = some o ∧ ∀ v, o.data ≠ .cell v) : Inv X (pins ++ pinsAt fp s.heap) σ H s :=
  I.pins_of fun p hp => (List.mem_append.mp hp).elim (fun z => I.pin p (List.mem_append_right _ z)) fun z => by
    obtain ⟨hb, e⟩ := of_pinsAt z
    obtain ⟨f0, f1, f2, _⟩ := hf p.1 hb
    obtain ⟨o, e', d⟩ := ho p.1 hb
    rw [e] at e'; cases e'
    exact ⟨e, f0, f1, f2, d⟩
theorem Inv.unpinned {pins pl : List (Addr × Obj)} {σ : St} {H : Hp} {s : Shared} (I : Inv X (pins ++ pl) σ H s) : Inv X pins σ H s := I.pins_of fun p hp => I.pin p (List.mem_append_right _ (List.mem_append_left _ hp))
theorem ps_for {iter : Expr} {body : List Stmt} {wi : TI} {g : TG} {tb : TS} {pos : Pos} (hp : PassesOwn (model X.prog X.w) X.A X.env X.xe) (hc : X.calm = true) (hi : PI X tg iter wi) (hg : PG X tg g) (hb : PSs X body tb)
    (hs : ∀ x, foldedSetIterable iter X.env x = pure x := by intro _; rfl) : PS X (.For tg iter body [] pos) (tFor wi g tb) := by
  intro pins s σ H D I h
  refine wpAny_For (thn (hi pins s σ H _ I h) fun v s1 h1 => thn h1 fun itv s2 h2 => ?_) hs
  obtain ⟨it, fp, tn, J, H2, e, I2, T, st2, f2, W, ⟨m0, w0⟩, turn⟩ := h2
  subst e
  -- what stays true of the iterator's objects through the loop
  have stat : ∀ {H' : Hp}, (∀ b ∈ fp, H' b = none) → ∀ b ∈ fp, FpOk X pins H' b := fun hn b hb => ⟨hn b hb, (f2 b hb).2⟩
  refine codeAny_forLoop_any (fun n s' => ∃ i σ' H', Inv X pins σ' H' s' ∧ tn i s'.heap ∧ (∀ b ∈ fp, H' b = none) ∧ W i n σ' H') ?_ m0 ⟨0, σ, H2, I2, st2, fun b hb => (f2 b hb).1, w0⟩
  rintro n s3 ⟨i, σ3, H3, I3, st3, fr3, w3⟩
  rcases turn i n σ3 H3 w3 with ⟨stop, qn⟩ | ⟨go, N, hN, step⟩
  · refine wpAny_passesOwn hp (thn (T.done X rfl rfl rfl hc i pins s3 σ3 H3 X.xe I3 (stat fr3) st3 stop) fun r s4 ⟨hr, I4⟩ => ?_)
    subst hr
    exact wpAny_execs_nil ⟨σ3, H3, I4, qn⟩
  · refine wpAny_passesOwn hp (thn (T.item X rfl rfl rfl hc i pins s3 σ3 H3 X.xe I3 (stat fr3) st3 go) fun r s4 ⟨u, hr, h4⟩ => ?_)
    subst hr
    refine wpAny_passesOwn hp (thn h4 fun _ s5 ⟨x, H5, I5, r5, y5, st5, fr5⟩ => ?_)
    have I5' := I5.pinned (stat fr5) (T.obj _ _ st5)
    refine wpAny_passesOwn hp (thn (hg _ s5 σ3 H5 x u _ I5' r5 (step x H5 y5)) fun _ s6 ⟨σ6, H6, I6, q6⟩ => ?_)
    refine wpAny_passesOwn hp (thn (hb _ s6 σ6 H6 _ I6 q6) fun f s7 q7 => ?_)
    have again : ∀ {σ7 : St} {H7 : Hp}, Inv X (pins ++ pinsAt fp s5.heap) σ7 H7 s7 → N σ7 H7 → ∃ m, m < n ∧ ∃ i σ' H', Inv X pins σ' H' s7 ∧ tn i s7.heap ∧ (∀ b ∈ fp, H' b = none) ∧ W i m σ' H' := fun {σ7 H7} I7 n7 => by
      obtain ⟨m', hm, w7⟩ := hN σ7 H7 n7
      refine ⟨m', hm, i + 1, σ7, H7, I7.unpinned, T.keep _ _ _ st5 fun b hb o e => (I7.pin (b, o) (List.mem_append_right _ (List.mem_append_right _ (mem_pinsAt hb e)))).1, fun b hb => ?_, w7⟩
      obtain ⟨o, e, d⟩ := T.obj _ _ st5 b hb
      exact (I7.pin (b, o) (List.mem_append_right _ (List.mem_append_right _ (mem_pinsAt hb e)))).2.1
    cases f with
    | next => obtain ⟨σ7, H7, I7, n7⟩ := q7; exact again I7 n7
    | cont => obtain ⟨σ7, H7, I7, n7⟩ := q7; exact again I7 n7
    | brk => obtain ⟨σ7, H7, I7, q7⟩ := q7; exact ⟨σ7, H7, I7.unpinned, q7⟩
    | ret v => obtain ⟨x7, σ7, H7, I7, r7, q7⟩ := q7; exact ⟨x7, σ7, H7, I7.unpinned, r7, q7⟩
end

/-! ### the forms one uses -/
/-- over a list that the body leaves as it is -/
theorem for_list {K : PySem.W.Frag} {a : Addr} {xs : List V} {g : TG} {tb : TS} {D : Ends} {σ : St} {H : Hp} (Pv : Nat → St → Hp → Prop) (h0 : Pv 0 σ H) (hl : ∀ i σ H, i ≤ xs.length → Pv i σ H → SqL K H a xs)
    (hs : ∀ i x σ H, xs[i]? = some x → Pv i σ H → g x σ H fun σ2 H2 => tb { D with nx := Pv (i + 1), ct := Pv (i + 1), bk := D.nx } σ2 H2) (hd : ∀ σ H, Pv xs.length σ H → D.nx σ H) :
    ∃ W : Nat → Nat → St → Hp → Prop, (∃ m, W 0 m σ H) ∧ ∀ i m σ H, W i m σ H →
      ((Itl K a).stop i H ∧ D.nx σ H) ∨ ((Itl K a).go i H ∧ ∃ N : St → Hp → Prop, (∀ σ' H', N σ' H' → ∃ m', m' < m ∧ W (i + 1) m' σ' H') ∧ ∀ x H', (Itl K a).yld i H x H' → g x σ H' fun σ2 H2 => tb { D with nx := N, ct := N, bk := D.nx } σ2 H2) := by
  refine ⟨fun i m σ H => m = xs.length - i ∧ i ≤ xs.length ∧ Pv i σ H, ⟨xs.length, by simp, Nat.zero_le _, h0⟩, ?_⟩
  rintro i m σ H ⟨rfl, hi, p⟩
  have q := hl i σ H hi p
  by_cases hlt : i < xs.length
  · refine .inr ⟨⟨xs, xs[i], q, by simp [hlt]⟩, Pv (i + 1), fun σ' H' p' => ⟨xs.length - (i + 1), by omega, rfl, hlt, p'⟩, fun x H' y => ?_⟩
    obtain ⟨e, y⟩ := y
    subst e
    exact hs i x σ _ (y xs q) p
  · have e : i = xs.length := by omega
    subst e
    exact .inl ⟨⟨xs, q, Nat.le_refl _⟩, hd σ H p⟩
theorem for_range {lo : Int} {n : Nat} {g : TG} {tb : TS} {D : Ends} {σ : St} {H : Hp} (Pv : Nat → St → Hp → Prop) (h0 : Pv 0 σ H)
    (hs : ∀ i σ H, i < n → Pv i σ H → g (.int (lo + i)) σ H fun σ2 H2 => tb { D with nx := Pv (i + 1), ct := Pv (i + 1), bk := D.nx } σ2 H2) (hd : ∀ σ H, Pv n σ H → D.nx σ H) :
    ∃ W : Nat → Nat → St → Hp → Prop, (∃ m, W 0 m σ H) ∧ ∀ i m σ H, W i m σ H →
      ((Itr lo n).stop i H ∧ D.nx σ H) ∨ ((Itr lo n).go i H ∧ ∃ N : St → Hp → Prop, (∀ σ' H', N σ' H' → ∃ m', m' < m ∧ W (i + 1) m' σ' H') ∧ ∀ x H', (Itr lo n).yld i H x H' → g x σ H' fun σ2 H2 => tb { D with nx := N, ct := N, bk := D.nx } σ2 H2) := by
  refine ⟨fun i m σ H => m = n - i ∧ i ≤ n ∧ Pv i σ H, ⟨n, by simp, Nat.zero_le _, h0⟩, ?_⟩
  rintro i m σ H ⟨rfl, hi, p⟩
  by_cases hlt : i < n
  · refine .inr ⟨hlt, Pv (i + 1), fun σ' H' p' => ⟨n - (i + 1), by omega, rfl, hlt, p'⟩, fun x H' y => ?_⟩
    obtain ⟨e, y⟩ := y
    subst e y
    exact hs i σ _ hlt p
  · have e : i = n := by omega
    subst e
    exact .inl ⟨Nat.le_refl _, hd σ H p⟩
end L2

namespace L2
open PySem PySem.Spec PyProof.Rows

abbrev R2 := V → V → Hp → VK → Prop
/-- a two-place operation on values: f is binaryOp op, inplaceOp op or compareOp op -/
def OpR (X : Cx) (f : Value → Value → Sem Value) (r : R2) : Prop :=
  ∀ (pins : List (Addr × Obj)) (s : Shared) (σ : St) (H : Hp) (x y : V) (v u : Value) (Q : VK), Inv X pins σ H s → RelV x v → RelV y u → r x y H Q →
    wpAny (model X.prog X.w) X.A (f v u) (EP X pins σ Q) X.xe s
/-- a one-place operation -/
def UnR (X : Cx) (f : Value → Sem Value) (r : V → Hp → VK → Prop) : Prop :=
  ∀ (pins : List (Addr × Obj)) (s : Shared) (σ : St) (H : Hp) (x : V) (v : Value) (Q : VK), Inv X pins σ H s → RelV x v → r x H Q →
    wpAny (model X.prog X.w) X.A (f v) (EP X pins σ Q) X.xe s
/-- a call of a value that is known (a builtin, a type) with values -/
def CallR (X : Cx) (f : Value) (r : List V → Hp → VK → Prop) : Prop :=
  ∀ (pins : List (Addr × Obj)) (s : Shared) (σ : St) (H : Hp) (xs : List V) (us : List Value) (Q : VK), Inv X pins σ H s → Vals xs us → r xs H Q →
    wpAny (model X.prog X.w) X.A (call f us) (EP X pins σ Q) X.xe s
def tOp (r : R2) (ta tb : TE) : TE := fun σ H Q => ta σ H fun x H1 => tb σ H1 fun y H2 => r x y H2 Q
def tUn (r : V → Hp → VK → Prop) (ta : TE) : TE := fun σ H Q => ta σ H fun x H1 => r x H1 Q
/-- ints in, under C, and a value out -/
def rI (C : Int → Int → Prop) (g : Int → Int → V) : R2 := fun x y H Q => ∃ i j, x = .int i ∧ y = .int j ∧ C i j ∧ Q (g i j) H
def rI0 (g : Int → Int → V) : R2 := fun x y H Q => ∃ i j, x = .int i ∧ y = .int j ∧ Q (g i j) H
def rU (g : Int → V) : V → Hp → VK → Prop := fun x H Q => ∃ i, x = .int i ∧ Q (g i) H

section
variable {X : Cx} {a b c : Expr} {ta tb tc : TE} {pos : Pos}

theorem binT (ha : PE X a ta) (hb : PE X b tb) {pins : List (Addr × Obj)} {s : Shared} {σ : St} {H : Hp} {R : V → V → Hp → Prop} (I : Inv X pins σ H s)
    (h : ta σ H fun x H1 => tb σ H1 fun y H2 => R x y H2) {Q : Value → Shared → Prop} {f : Value → Value → Sem Value}
    (hf : ∀ v u s2 x y H2, Inv X pins σ H2 s2 → RelV x v → RelV y u → R x y H2 → wpAny (model X.prog X.w) X.A (f v u) Q X.xe s2) :
    wpAny (model X.prog X.w) X.A (eval a X.env) (fun v s₁ => wpAny (model X.prog X.w) X.A (eval b X.env) (fun u s₂ => wpAny (model X.prog X.w) X.A (f v u) Q X.xe s₂) X.xe s₁) X.xe s := by
  refine thn (ha pins s σ H _ I h) fun v s1 ⟨x, H1, I1, r1, q1⟩ => ?_
  refine thn (hb pins s1 σ H1 _ I1 q1) fun u s2 ⟨y, H2, I2, r2, q2⟩ => ?_
  exact hf v u s2 x y H2 I2 r1 r2 q2

theorem pe_op {op : Operator} {r : R2} (ho : OpR X (binaryOp op) r) (ha : PE X a ta) (hb : PE X b tb) : PE X (.BinOp a op b pos) (tOp r ta tb) := by
  intro pins s σ H Q I h
  exact wpAny_BinOp (binT ha hb I h fun v u s2 x y H2 I2 rx ry q => ho pins s2 σ H2 x y v u Q I2 rx ry q)
theorem pe_un {op : UnaryOp} {r : V → Hp → VK → Prop} (ho : UnR X (unaryOp op) r) (ha : PE X a ta) : PE X (.UnaryOp op a pos) (tUn r ta) := by
  intro pins s σ H Q I h
  exact UnaryOp_ (thn (ha pins s σ H _ I h) fun v s1 ⟨x, H1, I1, r1, q1⟩ => ho pins s1 σ H1 x v Q I1 r1 q1)
/-! ### ints -/
theorem opI {f : Value → Value → Sem Value} {C : Int → Int → Prop} {g : Int → Int → Int}
    (rule : ∀ (i j : Int) (t u : Tok) (s : Shared) (Q : Value → Shared → Prop) (E : Value → Shared → Prop), C i j → Q (.int (g i j) s.toks) { s with toks := s.toks + 1 } → wpAny (model X.prog X.w) X.A (f (.int i t) (.int j u)) Q E s) :
    OpR X f (rI C fun i j => .int (g i j)) := by
  intro pins s σ H x y v u Q I rx ry h
  obtain ⟨i, j, rfl, rfl, hc, q⟩ := h
  obtain ⟨t, rfl⟩ := rx
  obtain ⟨t', rfl⟩ := ry
  exact rule i j t t' s _ _ hc ⟨.int (g i j), H, I.tok _, ⟨_, rfl⟩, q⟩
theorem opI0 {f : Value → Value → Sem Value} {g : Int → Int → Int}
    (rule : ∀ (i j : Int) (t u : Tok) (s : Shared) (Q : Value → Shared → Prop) (E : Value → Shared → Prop), Q (.int (g i j) s.toks) { s with toks := s.toks + 1 } → wpAny (model X.prog X.w) X.A (f (.int i t) (.int j u)) Q E s) :
    OpR X f (rI0 fun i j => .int (g i j)) := by
  intro pins s σ H x y v u Q I rx ry h
  obtain ⟨i, j, rfl, rfl, q⟩ := h
  obtain ⟨t, rfl⟩ := rx
  obtain ⟨t', rfl⟩ := ry
  exact rule i j t t' s _ _ ⟨.int (g i j), H, I.tok _, ⟨_, rfl⟩, q⟩
theorem opB0 {f : Value → Value → Sem Value} {g : Int → Int → Bool}
    (rule : ∀ (i j : Int) (t u : Tok) (s : Shared) (Q : Value → Shared → Prop) (E : Value → Shared → Prop), Q (.bool (g i j)) s → wpAny (model X.prog X.w) X.A (f (.int i t) (.int j u)) Q E s) :
    OpR X f (rI0 fun i j => .bl (g i j)) := by
  intro pins s σ H x y v u Q I rx ry h
  obtain ⟨i, j, rfl, rfl, q⟩ := h
  obtain ⟨t, rfl⟩ := rx
  obtain ⟨t', rfl⟩ := ry
  exact rule i j t t' s _ _ ⟨.bl (g i j), H, I, rfl, q⟩

def CDivN (i j : Int) : Prop := j ≠ 0 ∧ j.natAbs < 1073741824
def CPow (i j : Int) : Prop := 0 ≤ j ∧ j ≤ 1000000 ∧ i.natAbs < 2 ^ 64
def CMul (i j : Int) : Prop := (-(2 ^ 64) < i ∧ i < 2 ^ 64) ∨ (-(2 ^ 64) < j ∧ j < 2 ^ 64)
theorem CMul.ok {i j : Int} (h : CMul i j) : IntMulOk i j := by
  rcases h with ⟨h1, h2⟩ | ⟨h1, h2⟩
  · exact .of_left (intBits_le_64 h1 h2)
  · exact .of_right (intBits_le_64 h1 h2)
theorem op_add : OpR X (binaryOp .Add) (rI0 fun i j => .int (i + j)) := opI0 fun _ _ _ _ _ _ _ q => add_int q
theorem op_sub : OpR X (binaryOp .Sub) (rI0 fun i j => .int (i - j)) := opI0 fun _ _ _ _ _ _ _ q => sub_int q
theorem op_fdivN : OpR X (binaryOp .FloorDiv) (rI CDivN fun i j => .int (i.fdiv j)) := opI fun _ _ _ _ _ _ _ hc q => floordiv_int hc.1 q (.inl (PyProof.noPylong_small hc.2))
theorem op_modN : OpR X (binaryOp .Mod) (rI (fun _ j => j ≠ 0) fun i j => .int (i.fmod j)) := opI fun _ _ _ _ _ _ _ hc q => mod_int' hc q
theorem op_pow : OpR X (binaryOp .Pow) (rI CPow fun i j => .int (i ^ j.toNat)) := opI fun _ _ _ _ _ _ _ hc q => pow_int_small hc.1 hc.2.1 hc.2.2 q
theorem unI {f : Value → Sem Value} {g : Int → Int}
    (rule : ∀ (i : Int) (t : Tok) (s : Shared) (Q : Value → Shared → Prop) (E : Value → Shared → Prop), Q (.int (g i) s.toks) { s with toks := s.toks + 1 } → wpAny (model X.prog X.w) X.A (f (.int i t)) Q E s) :
    UnR X f (rU fun i => .int (g i)) := by
  intro pins s σ H x v Q I rx h
  obtain ⟨i, rfl, q⟩ := h
  obtain ⟨t, rfl⟩ := rx
  exact rule i t s _ _ ⟨.int (g i), H, I.tok _, ⟨_, rfl⟩, q⟩
theorem un_neg : UnR X (unaryOp .USub) (rU fun i => .int (-i)) := unI fun _ _ _ _ _ q => neg_int q
/-! ### bools among ints: n += (a < b) -/
end

/-! ### comparisons -/
section
variable {X : Cx} {a b c : Expr} {ta tb tc : TE} {pos : Pos}
theorem op_lt : OpR X (compareOp .Lt) (rI0 fun i j => .bl (decide (i < j))) := opB0 fun _ _ _ _ _ _ _ q => lt_int q
theorem op_le : OpR X (compareOp .LtE) (rI0 fun i j => .bl (decide (i ≤ j))) := opB0 fun _ _ _ _ _ _ _ q => le_int q
theorem op_gt : OpR X (compareOp .Gt) (rI0 fun i j => .bl (decide (j < i))) := opB0 fun _ _ _ _ _ _ _ q => gt_int q
theorem op_ge : OpR X (compareOp .GtE) (rI0 fun i j => .bl (decide (j ≤ i))) := opB0 fun _ _ _ _ _ _ _ q => ge_int q
/-- two rules for one operation: by cases -/
theorem OpR.or {f : Value → Value → Sem Value} {r r' : R2} (h : OpR X f r) (h' : OpR X f r') : OpR X f (fun x y H Q => r x y H Q ∨ r' x y H Q) := by
  intro pins s σ H x y v u Q I rx ry q
  rcases q with q | q
  · exact h pins s σ H x y v u Q I rx ry q
  · exact h' pins s σ H x y v u Q I rx ry q

theorem nomark (b : Expr) {op : CmpOp} (h : op ≠ .In := by decide) (h2 : op ≠ .NotIn := by decide) : behindInMarks op b = false := by
  have e1 : (op == CmpOp.In) = false := by cases op <;> first | rfl | exact absurd rfl h
  have e2 : (op == CmpOp.NotIn) = false := by cases op <;> first | rfl | exact absurd rfl h2
  cases b <;> simp [behindInMarks, e1, e2]
/-- a comparison as a value; hm: nomark b, or (for in, not in) by with_unfolding_all rfl -/
theorem pe_cmpR {op : CmpOp} {r : R2} (ho : OpR X (compareOp op) r) (ha : PE X a ta) (hb : PE X b tb) (hm : behindInMarks op b = false) : PE X (.Compare a [op] [b] pos) (tOp r ta tb) := by
  intro pins s σ H Q I h
  exact wpAny_Compare1 (binT ha hb I h fun v u s2 x y H2 I2 rx ry q => ho pins s2 σ H2 x y v u Q I2 rx ry q) hm
/-- a reading of a value as a test -/
def tTest (t : TE) : TT := fun σ H Q => t σ H fun x H' => ∃ k, x = .bl k ∧ Q k H'
theorem pt_cmpR {op : CmpOp} {r : R2} (ho : OpR X (compareOp op) r) (ha : PE X a ta) (hb : PE X b tb) (hm : behindInMarks op b = false) : PT X (.Compare a [op] [b] pos) (tTest (tOp r ta tb)) := by
  intro pins s σ H Q I h
  refine wpAny_isTrue_Compare1 (thn (ha pins s σ H _ I h) fun v s1 ⟨x, H1, I1, r1, q1⟩ => thn (hb pins s1 σ H1 _ I1 q1) fun u s2 ⟨y, H2, I2, r2, q2⟩ =>
    thn (ho pins s2 σ H2 x y v u _ I2 r1 r2 q2) fun c s3 ⟨z, H3, I3, r3, k, e, q3⟩ => ?_) hm
  subst e
  cases r3
  exact wpAny_truthy_bool ⟨H3, I3, q3⟩
/-- a op1 b op2 c -/
def tChain (r r' : R2) (ta tb tc : TE) : TE := fun σ H Q => ta σ H fun x H1 => tb σ H1 fun y H2 => r x y H2 fun z H3 => ∃ k, z = .bl k ∧
  (if k = true then tc σ H3 fun w' H4 => r' y w' H4 Q else Q (.bl false) H3)
theorem pt_chain {op op' : CmpOp} {r r' : R2} (ho : OpR X (compareOp op) r) (ho' : OpR X (compareOp op') r') (ha : PE X a ta) (hb : PE X b tb) (hc : PE X c tc)
    (hm : lastMarks [op, op'] [b, c] = false := by with_unfolding_all rfl) : PT X (.Compare a [op, op'] [b, c] pos) (tTest (tChain r r' ta tb tc)) := by
  intro pins s σ H Q I h
  refine isTrue_chain (thn (ha pins s σ H _ I h) fun v s1 ⟨x, H1, I1, r1, q1⟩ => test_link (thn (hb pins s1 σ H1 _ I1 q1) fun u s2 ⟨y, H2, I2, r2, q2⟩ =>
    thn (ho pins s2 σ H2 x y v u _ I2 r1 r2 q2) fun d s3 ⟨z, H3, I3, r3, k, e, q3⟩ => ?_)) hm
  subst e
  cases r3
  refine wpAny_truthy_bool ?_
  cases k with
  | false =>
    obtain ⟨k', e', q'⟩ := q3
    cases e'
    exact ite_ff ⟨H3, I3, q'⟩
  | true =>
    refine ite_tt (test_last (thn (hc pins s3 σ H3 _ I3 q3) fun w' s4 ⟨z', H4, I4, r4, q4⟩ => thn (ho' pins s4 σ H4 y z' u w' _ I4 r2 r4 q4) fun d' s5 ⟨z2, H5, I5, r5, k2, e2, q5⟩ => ?_))
    subst e2
    cases r5
    exact wpAny_truthy_bool ⟨H5, I5, q5⟩

/-! ### truth -/
theorem line63 : (sizeLine : Nat) < 2 ^ 63 := by rw [sizeLine_eq]; decide
/-! ### strs and bytes -/
/-! ### scalar builtins, by CallR -/
theorem vals1 {x : V} {us : List Value} (r : Vals [x] us) : ∃ u, us = [u] ∧ RelV x u := by
  cases r with
  | cons r1 r2 => cases r2; exact ⟨_, rfl, r1⟩
end
end L2

namespace L2
open PySem PySem.Spec PyProof.Rows

/-! ### an instance, its attributes a map -/
structure ObjM (h : Heap) (x dx C : Addr) (mA : Str → Option Value) : Prop where
  obj : h.get? x = some (PySem.W.instObj C dx)
  ns : h.Ns1 dx mA
  ne : dx ≠ x

theorem lookIn_ns {h : Heap} {dx : Addr} {mA : Str → Option Value} (n : h.Ns1 dx mA) : ∃ od, h.get? dx = some od ∧ ∀ name, PySem.W.lookIn name od = some (mA name) := by
  obtain ⟨o, es, ep, ho, hd, hk, _, hm⟩ := n
  refine ⟨o, ho, fun name => ?_⟩
  have e := hm name
  unfold nsFind findBy at e
  rw [← Array.find?_toList] at e
  unfold PySem.W.lookIn
  rw [hd]
  dsimp only
  split
  · rename_i y q
    rw [q] at e
    exact congrArg some e
  · rename_i q
    rw [q] at e
    have a : es.toList.any (·.refKey) = false := by
      rw [List.any_eq_false]
      intro y hy
      obtain ⟨z, t, hkey⟩ := hk y (Array.mem_toList_iff.mp hy)
      simp [DictEntry.refKey, hkey]
    have a' : ¬ es.toList.any (·.refKey) = true := by rw [a]; exact Bool.false_ne_true
    rw [if_neg a']
    exact congrArg some e

theorem ObjM.look {h : Heap} {x dx C : Addr} {mA : Str → Option Value} (I : ObjM h x dx C mA) : ∃ od, PySem.W.InstAt h x (PySem.W.instObj C dx) C (some od) ∧ ∀ name, PySem.W.lookIn name od = some (mA name) :=
  let ⟨od, ho, hl⟩ := lookIn_ns I.ns
  ⟨od, ⟨I.obj, rfl, rfl, ho⟩, hl⟩

section
variable {prog : Program} {w : World} {A : Around} {E : Value → Shared → Prop} {s : Shared} {K : PySem.W.Frag} {x dx C f : Addr} {mA : Str → Option Value} {name : Str} {v : Value}

theorem get_map {expr : Bool} {Q : Value → Shared → Prop} (X : K.In s.heap) (I : ObjM s.heap x dx C mA) (hg : PySem.W.plainGet K C name = true) (hh : PySem.W.hasDictIn K C = true)
    (ha : PySem.W.findIn K (.ref C) name = some none) (hv : mA name = some v) (hv' : PySem.W.handedIn v = true) (h : Q v { s with toks := s.toks + 1 }) :
    wpAny (model prog w) A (getAttr (.ref x) name expr) Q E s := by
  obtain ⟨od, J, hl⟩ := I.look
  exact PySem.W.get_value X J (PySem.W.plainGet_of hg).1 (PySem.W.findObj_own hh ha rfl (by rw [hl, hv])) hv' h

theorem get_meth {pl : Sem Bool} {Q : Value × List Value → Shared → Prop} (X : K.In s.heap) (I : ObjM s.heap x dx C mA) (hg : PySem.W.plainGet K C name = true)
    (hf : PySem.W.findIn K (.ref C) name = some (some (.ref f))) (ht : PySem.W.isFn K (.ref f) = true) (hv : mA name = none) (h : Q (.ref f, [.ref x]) s) :
    wpAny (model prog w) A (getMethod (.ref x) name pl) Q E s := by
  obtain ⟨od, J, hl⟩ := I.look
  exact PySem.W.method_fn X J (PySem.W.plainGet_of hg).1 (PySem.W.plainGet_of hg).2 hf (beq_iff_eq.mp ht) (by show (PySem.W.lookIn name od).map (·.isSome) = some false; rw [hl, hv]; rfl) h

theorem set_map {ns : List Str} {Q : Unit → Shared → Prop} (X : K.In s.heap) (I : ObjM s.heap x dx C mA)
    (hs : PySem.W.findIn K (.ref C) "__setattr__" = some (some (.builtin "object.__setattr__"))) (hp : PySem.W.plainOver K C = true) (ht : PySem.W.takerIn K C name = some none) (hh : PySem.W.hasDictIn K C = true)
    (hw : PySem.Within mA ns) (hsz : ns.length ≤ sizeLine)
    (h : ∀ h', ObjM h' x dx C (fun y => if y = name then some v else mA y) → Heap.SameBut dx s.heap h' → Q () { s with heap := h', toks := s.toks + 2 }) :
    wpAny (model prog w) A (setAttr (.ref x) name v) Q E s := by
  obtain ⟨od, J, hl⟩ := I.look
  refine PySem.W.set_plain X J hs (PySem.W.osa_open (s := { s with toks := s.toks + 1 }) (r := none) X J hp ht fun b => ?_)
  obtain ⟨cd, hc, hd'⟩ := PySem.W.any_some hh
  have hx : s.heap.get? x = some ⟨.ref C, some dx, .plain, #[]⟩ := I.obj
  refine wpAny_bind (wpAny_pure (wpAny_bind (wpAny_bind (wpAny_loadPart hx (wpAny_bind (PySem.W.Looks.here (s := { s with toks := s.toks + 1 }) (PySem.W.looks_clsIn X hc) ?_))))))
  rw [hd']
  refine wpAny_pure (a := some dx) (wpAny_bind (wpAny_pure (wpAny_bind ?_)))
  refine wpAny_nsSet1 (s := { s with toks := s.toks + 1 }) I.ns fun h' hn2 hs2 => ?_
  obtain ⟨oD, esD, epD, hoD, hdD, hcD⟩ := hn2.count (PySem.Within.cons name v hw)
  refine wpAny_bind (wpAny_lookBehind hoD (by rw [hdD]; exact pastItsLine_dict (Nat.le_trans hcD (by rw [List.length_cons]; omega))) ?_)
  exact wpAny_pure (h _ ⟨(hs2.2 _ (Ne.symm I.ne)).trans I.obj, hn2, I.ne⟩ hs2)

/-- C(..): the dict at the heap's end, the instance behind it; then its __init__ -/
theorem make_map {R : Result → Shared → Prop} {vs : List Value} {kw : List (Str × Value)} (X : K.In s.heap) (hm : PySem.W.makesIn K C = true)
    (hi : PySem.W.findIn K (.ref C) "__init__" = some (some (.ref f))) (hf : PySem.W.typeIn K (.ref f) = some (.type "function"))
    (h : codeAny (model prog w) (A.under (.builtin "type.__call__" ⟨.ref C :: vs, kw⟩)) (.call (.ref f) ⟨.ref (s.heap.objs.size + 1) :: vs, kw⟩) (PySem.W.InitBack (s.heap.objs.size + 1) R)
      { s with heap := (s.heap.push PySem.W.emptyDict).push (PySem.W.instObj C s.heap.objs.size) }) :
    codeAny (model prog w) A (.call (.ref C) ⟨vs, kw⟩) R s := by
  obtain ⟨hh, g, d, t, os⟩ := s
  exact PySem.W.make_core (PySem.W.makes_of X hm) (PySem.W.looks_findIn X hi) (fun self => PySem.W.bind_fn X self hf) (.inl rfl) h
end

/-! ### the attributes as a list of pairs -/
def putF (f : Str) (v : V) : List (Str × V) → List (Str × V)
  | [] => [(f, v)]
  | (g, x) :: r => if g = f then (g, v) :: r else (g, x) :: putF f v r
theorem lookup_putF (f g : Str) (v : V) : ∀ fs : List (Str × V), (putF f v fs).lookup g = if g = f then some v else fs.lookup g
  | [] => by
    show List.lookup g [(f, v)] = _
    by_cases h : g = f
    · have hb : (g == f) = true := beq_iff_eq.mpr h
      simp only [List.lookup, hb, if_pos h]
    · have hb : (g == f) = false := beq_eq_false_iff_ne.mpr h
      simp only [List.lookup, hb, if_neg h]
  | (k, x) :: r => by
    have ih := lookup_putF f g v r
    rw [show putF f v ((k, x) :: r) = (if k = f then (k, v) :: r else (k, x) :: putF f v r) from rfl]
    by_cases hk : k = f
    · rw [if_pos hk]
      by_cases h : g = k
      · have hb : (g == k) = true := beq_iff_eq.mpr h
        simp only [List.lookup, hb, if_pos (h.trans hk)]
      · have hb : (g == k) = false := beq_eq_false_iff_ne.mpr h
        simp only [List.lookup, hb, if_neg (fun e : g = f => h (e.trans hk.symm))]
    · rw [if_neg hk]
      by_cases h : g = k
      · have hb : (g == k) = true := beq_iff_eq.mpr h
        simp only [List.lookup, hb, if_neg (fun e : g = f => hk (h.symm.trans e))]
      · have hb : (g == k) = false := beq_eq_false_iff_ne.mpr h
        simp only [List.lookup, hb]
        exact ih
theorem keys_putF (f : Str) (v : V) : ∀ fs : List (Str × V), f ∈ (putF f v fs).map (·.1) ∧ ∀ g, g ∈ fs.map (·.1) → g ∈ (putF f v fs).map (·.1)
  | [] => ⟨by simp [putF], fun g h => by simp at h⟩
  | (k, x) :: r => by
    obtain ⟨i1, i2⟩ := keys_putF f v r
    rw [show putF f v ((k, x) :: r) = (if k = f then (k, v) :: r else (k, x) :: putF f v r) from rfl]
    by_cases hk : k = f
    · rw [if_pos hk]
      subst hk
      exact ⟨by simp, fun g h => by simpa using h⟩
    · rw [if_neg hk]
      refine ⟨?_, fun g h => ?_⟩
      · rw [List.map_cons]
        exact List.mem_cons_of_mem _ i1
      · rw [List.map_cons] at h ⊢
        rcases List.mem_cons.mp h with e | e
        · exact List.mem_cons.mpr (.inl e)
        · exact List.mem_cons_of_mem _ (i2 g e)
theorem length_putF (f : Str) (v : V) : ∀ fs : List (Str × V), (putF f v fs).length ≤ fs.length + 1
  | [] => by simp [putF]
  | (k, x) :: r => by
    have ih := length_putF f v r
    rw [show putF f v ((k, x) :: r) = (if k = f then (k, v) :: r else (k, x) :: putF f v r) from rfl]
    by_cases hk : k = f
    · rw [if_pos hk, List.length_cons, List.length_cons]; omega
    · rw [if_neg hk, List.length_cons, List.length_cons]; omega

theorem RelO.some_of {v : V} {o : Option Value} (r : RelO (some v) o) : ∃ u, o = some u ∧ RelV v u := by
  cases o with
  | none => exact (show False from r).elim
  | some u => exact ⟨u, rfl, r⟩
theorem RelO.none_of {o : Option Value} (r : RelO none o) : o = none := by
  cases o with
  | none => rfl
  | some u => exact (show False from r).elim
theorem handed_of {v : V} {u : Value} (r : RelV v u) : PySem.W.handedIn u = true := by
  cases v with
  | non => cases (show u = Value.none from r); rfl
  | bl b => cases (show u = Value.bool b from r); rfl
  | int i => obtain ⟨t, e⟩ := (show ∃ t, u = Value.int i t from r); cases e; rfl
  | str x => obtain ⟨t, e⟩ := (show ∃ t, u = Value.str x t from r); cases e; rfl
  | byt b => obtain ⟨t, e⟩ := (show ∃ t, u = Value.bytes b t from r); cases e; rfl
  | flt b => obtain ⟨t, e⟩ := (show ∃ t, u = Value.float b t from r); cases e; rfl
  | ref a => cases (show u = Value.ref a from r); rfl
  | ty n => cases (show u = Value.type n from r); rfl

section
variable {P : Program} {w : World} {H H' : Hp} {h h' : Heap} {a C dx : Addr} {fs fs' : List (Str × V)}
theorem ins_get (hok : HOk P w H h) (e : H a = some (.ins C dx fs)) : ∃ mA, ObjM h a dx C mA ∧ (∀ f, RelO (fs.lookup f) (mA f)) ∧ PySem.Within mA (fs.map (·.1)) ∧ fs.length ≤ 1000 ∧ H dx = some (.own a) := by
  obtain ⟨d, z, ne, ob, mA, n, r, q⟩ := (show ObjOk P w H h a (.ins C dx fs) from hok a _ e)
  exact ⟨mA, ⟨ob, n, ne⟩, r, q, z, d⟩
end

/-! ### what of the text a class must have -/
structure Cls (K : PySem.W.Frag) (C : Addr) : Prop where
  pg : PySem.W.plainGet K C Str.empty = true
  hd : PySem.W.hasDictIn K C = true
  po : PySem.W.plainOver K C = true
  sa : PySem.W.findIn K (.ref C) "__setattr__" = some (some (.builtin "object.__setattr__"))
theorem Cls.get {K : PySem.W.Frag} {C : Addr} (c : Cls K C) (f : Str) : PySem.W.plainGet K C f = true := c.pg
/-- no class of it has the name -/
def NoAttr (K : PySem.W.Frag) (C : Addr) (f : Str) : Prop := PySem.W.findIn K (.ref C) f = some none
theorem NoAttr.taker {K : PySem.W.Frag} {C : Addr} {f : Str} (n : NoAttr K C f) : PySem.W.takerIn K C f = some none := by
  unfold PySem.W.takerIn
  rw [show PySem.W.findIn K (.ref C) f = some none from n]
  rfl
/-- a constant of the class -/
structure Con (K : PySem.W.Frag) (C : Addr) (f : Str) (v : V) (u : Value) : Prop where
  at_ : PySem.W.findIn K (.ref C) f = some (some u)
  rel : RelV v u
  get : PySem.W.specialIn K u "__get__" = some none
  cp : PySem.W.copiedNames.contains f = false
/-- a method: a plain def of the class or of one above it -/
structure Meth (K : PySem.W.Frag) (C : Addr) (m : Str) (f : Addr) : Prop where
  at_ : PySem.W.findIn K (.ref C) m = some (some (.ref f))
  fn : PySem.W.isFn K (.ref f) = true
  kp : PySem.W.keepIn K (.ref f) = true

section
variable {X : Cx} {pins : List (Addr × Obj)} {σ : St} {H : Hp} {s : Shared} {a C dx : Addr} {fs : List (Str × V)} {f : Str} {v : V} {A : Around} {E : Value → Shared → Prop}

theorem getattr_ok {b : Bool} {Q : Value → Shared → Prop} (I : Inv X pins σ H s) (e : H a = some (.ins C dx fs)) (c : Cls X.K C) (n : NoAttr X.K C f) (l : fs.lookup f = some v)
    (h : ∀ u s', Inv X pins σ H s' → RelV v u → Q u s') : wpAny (model X.prog X.w) A (getAttr (.ref a) f b) Q E s := by
  obtain ⟨mA, O, r, _, _, _⟩ := ins_get I.hok e
  obtain ⟨u, hu, ru⟩ := RelO.some_of (v := v) (o := mA f) (by rw [← l]; exact r f)
  exact get_map I.kIn O (c.get f) c.hd n hu (handed_of ru) (h u _ (I.tok _) ru)

theorem getmeth_ok {m : Str} {g : Addr} {pl : Sem Bool} {Q : Value × List Value → Shared → Prop} (I : Inv X pins σ H s) (e : H a = some (.ins C dx fs)) (c : Cls X.K C) (k : Meth X.K C m g) (l : fs.lookup m = none)
    (h : Q (.ref g, [.ref a]) s) : wpAny (model X.prog X.w) A (getMethod (.ref a) m pl) Q E s := by
  obtain ⟨mA, O, r, _, _, _⟩ := ins_get I.hok e
  have hn : mA m = none := RelO.none_of (by rw [← l]; exact r m)
  exact get_meth I.kIn O (c.get m) k.at_ k.fn hn h

theorem setattr_ok {y : V} {u : Value} {Q : Unit → Shared → Prop} (I : Inv X pins σ H s) (e : H a = some (.ins C dx fs)) (c : Cls X.K C) (n : NoAttr X.K C f) (hl : fs.length < 1000) (ry : RelV y u)
    (h : ∀ s', Inv X pins σ (upd H a (.ins C dx (putF f y fs))) s' → Q () s') : wpAny (model X.prog X.w) A (setAttr (.ref a) f u) Q E s := by
  obtain ⟨mA, O, r, wi, _, ho⟩ := ins_get I.hok e
  have hz : (fs.map (·.1)).length ≤ sizeLine := by rw [List.length_map, sizeLine_eq]; omega
  refine set_map I.kIn O c.sa c.po n.taker c.hd wi hz fun h' O' sb => h _ ?_
  have hd : ∃ o, h'.get? dx = some o := let ⟨o, _, _, e', _⟩ := O'.ns; ⟨o, e'⟩
  refine I.write (x := a) (e := dx) (by rw [e]; exact True.intro) (.inr ho) (fun b q hb z => (sb.2 b hb).trans z) hd ?_
  refine ⟨by rw [upd_ne O.ne]; exact ho, ?_, O.ne, O'.obj, _, O'.ns, fun g => ?_, fun g hg => ?_⟩
  · have := length_putF f y fs; omega
  · show RelO ((putF f y fs).lookup g) (if g = f then some u else mA g)
    rw [lookup_putF]
    by_cases q : g = f
    · rw [if_pos q, if_pos q]; exact ry
    · rw [if_neg q, if_neg q]; exact r g
  · by_cases q : g = f
    · rw [q]; exact (keys_putF f y fs).1
    · refine (keys_putF f y fs).2 g (wi g fun z => hg ?_)
      show (if g = f then some u else mA g) = none
      rw [if_neg q]; exact z

/-- a new instance, tracked, without attributes -/
theorem Inv.made (I : Inv X pins σ H s) : Inv X pins σ (upd (upd H s.heap.objs.size (.own (s.heap.objs.size + 1))) (s.heap.objs.size + 1) (.ins C s.heap.objs.size []))
    { s with heap := (s.heap.push PySem.W.emptyDict).push (PySem.W.instObj C s.heap.objs.size) } := by
  have e1 : (s.heap.push PySem.W.emptyDict).get? s.heap.objs.size = some PySem.W.emptyDict := Heap.get?_push_size s.heap rfl
  have e2 : ((s.heap.push PySem.W.emptyDict).push (PySem.W.instObj C s.heap.objs.size)).get? (s.heap.objs.size + 1) = some (PySem.W.instObj C s.heap.objs.size) := by
    have := Heap.get?_push_size (s.heap.push PySem.W.emptyDict) (o := PySem.W.instObj C s.heap.objs.size) rfl
    rwa [Heap.size_push] at this
  have e3 : (s.heap.push PySem.W.emptyDict).Ns s.heap.objs.size (fun _ => none) := ⟨PySem.W.emptyDict, #[], _, e1, rfl, (fun e he => absurd he (by simp)), fun _ => rfl⟩
  have I1 := I.laid (a := s.heap.objs.size) (o := .own (s.heap.objs.size + 1)) (h' := s.heap.push PySem.W.emptyDict) (t' := s.toks) (fun b u q => Heap.get?_push_of_some _ q) (Nat.le_refl _) ⟨_, e1⟩
  refine I1.laid (a := s.heap.objs.size + 1) (o := .ins C s.heap.objs.size []) (t' := s.toks) (fun b u q => Heap.get?_push_of_some _ q) (Nat.le_of_eq (Heap.size_push _ _)) ?_
  have ne : s.heap.objs.size ≠ s.heap.objs.size + 1 := Nat.ne_of_lt (Nat.lt_succ_self _)
  refine ⟨by rw [upd_ne ne, upd_same], Nat.zero_le _, ne, e2, fun _ => none, (Heap.Ns1.of_empty e3).at fun o q => Heap.get?_push_of_some _ q, fun _ => True.intro, fun y hy => absurd rfl hy⟩

/-- e.f where nothing but the object is asked: through attributeBase (super) and the last hold -/
theorem attr_of {prog : Program} {w : World} {env : Env} {e : Expr} {f : Str} {pos : Pos} {s : Shared} {Q : Value → Shared → Prop} (hb : attributeBase e f env (eval e env) = eval e env)
    (h : wpAny (model prog w) A (eval e env) (fun o s₁ => wpAny (model prog w) A (getAttr o f true) Q E s₁) E s) : wpAny (model prog w) A (eval (.Attribute e f pos) env) Q E s :=
  Attribute_any_ h (by rw [arm_eval_Attribute, hb])
end

/-! ### readings and rules -/
/-- e.f, an attribute of the instance -/
def tFld (K : PySem.W.Frag) (ta : TE) (f : Str) : TE := fun σ H Q => ta σ H fun x H1 => ∃ a C dx fs v, x = .ref a ∧ H1 a = some (.ins C dx fs) ∧ Cls K C ∧ NoAttr K C f ∧ fs.lookup f = some v ∧ Q v H1
/-- e.f = value -/
def sFld (K : PySem.W.Frag) (ta tv : TE) (f : Str) : TS := fun D σ H => tv σ H fun y H1 => ta σ H1 fun x H2 => ∃ a C dx fs, x = .ref a ∧ H2 a = some (.ins C dx fs) ∧ Cls K C ∧ NoAttr K C f ∧ fs.length < 1000 ∧
  D.nx σ (upd H2 a (.ins C dx (putF f y fs)))
section
variable {X : Cx} {o e value : Expr} {f : Str} {pos pos' tpos : Pos} {ta tv : TE}
theorem pe_fld (he : PE X e ta) (hb : attributeBase e f X.env (eval e X.env) = eval e X.env) : PE X (.Attribute e f pos) (tFld X.K ta f) := by
  intro pins s σ H Q I h
  refine attr_of hb (thn (he pins s σ H _ I h) fun u s1 ⟨x, H1, I1, rx, a, C, dx, fs, v, ex, ea, c, n, l, q⟩ => ?_)
  subst ex
  obtain rfl : u = Value.ref a := rx
  exact getattr_ok I1 ea c n l fun u' s2 I2 ru => ⟨v, H1, I2, ru, q⟩
theorem ps_fld (ha : PE X o ta) (hv : PE X value tv) (hs : swapsWith value (some (.Attribute o f pos')) pos.line X.env = pure false) : PS X (.Assign [.Attribute o f pos'] value pos) (sFld X.K ta tv f) := by
  intro pins s σ H D I h
  refine plainObj_wpAny_Assign_Attribute (thn (hv pins s σ H _ I h) fun u s1 ⟨y, H1, I1, ry, q⟩ => thn (ha pins s1 σ H1 _ I1 q) fun ov s2 ⟨x, H2, I2, rx, a, C, dx, fs, ex, ea, c, n, l, q2⟩ => ?_) hs
  subst ex
  obtain rfl : ov = Value.ref a := rx
  exact setattr_ok I2 ea c n l ry fun s3 I3 => ⟨σ, _, I3, q2⟩
end

/-! ### isinstance -/
section
variable {X : Cx} {pins : List (Addr × Obj)} {σ : St} {H : Hp} {s : Shared} {A : Around} {E : Value → Shared → Prop} {Q : Value → Shared → Prop} {c : Value} {b : Bool}
/-- the type of a value, as the fragment's deciders take it; for an instance its class -/
inductive TyOf (K : PySem.W.Frag) (H : Hp) : V → Value → Prop where
  | non : TyOf K H .non (.type "NoneType")
  | bl (x : Bool) : TyOf K H (.bl x) (.type "bool")
  | int (i : Int) : TyOf K H (.int i) (.type "int")
  | str (x : Str) : TyOf K H (.str x) (.type "str")
  | flt (x : UInt64) : TyOf K H (.flt x) (.type "float")
  | lst {a : Addr} {xs : List V} (e : H a = some (.lst xs)) : TyOf K H (.ref a) (.type "list")
  | frz {a : Addr} {o : Obj} {xs : List V} (e : H a = some (.frz o (.lst xs))) : TyOf K H (.ref a) (.type "list")
  | tup {a : Addr} {xs : List V} (e : H a = some (.tup xs)) : TyOf K H (.ref a) (.type "tuple")
  | dK {a : Addr} {kvs : List (Key × V)} (e : H a = some (.dK kvs)) : TyOf K H (.ref a) (.type "dict")
  | dT {a : Addr} {kvs : List (List Key × V)} (e : H a = some (.dT kvs)) : TyOf K H (.ref a) (.type "dict")
  | ins {a C dx : Addr} {fs : List (Str × V)} (e : H a = some (.ins C dx fs)) (cl : Cls K C) (ha : PySem.W.findIn K (.ref C) "__class__" = some (some (.builtin "object.__class__")))
      (hn : PySem.W.specialIn K (.builtin "object.__class__") "__get__" = some (some (.builtin "getset_descriptor.__get__"))) (htk : PySem.W.takesIn K (.builtin "object.__class__") = some true)
      (hm : PySem.W.mroIn K C (.type "object") = some true) : TyOf K H (.ref a) (.ref C)
/-- isinstance(x, c) for one class c, a built-in or an own one: kitOne's answer -/
theorem isinst_ok {x : V} {u t : Value} (I : Inv X pins σ H s) (rx : RelV x u) (ty : TyOf X.K H x t) (e : PySem.W.kitOne X.K t c = some b) (h : ∀ tk, Q (.bool b) { s with toks := tk }) :
    wpAny (model X.prog X.w) A (call (.builtin "isinstance") [u, c]) Q E s := by
  cases ty with
  | non => cases (show u = Value.none from rx); exact PySem.W.kia_one PySem.W.kitx_none I.kIn True.intro e (fun z => nomatch z) h
  | bl y => cases (show u = Value.bool y from rx); exact PySem.W.kia_one PySem.W.kitx_bool I.kIn True.intro e (fun z => nomatch z) h
  | int i => obtain ⟨t, q⟩ := (show ∃ t, u = Value.int i t from rx); cases q; exact PySem.W.kia_one PySem.W.kitx_int I.kIn True.intro e (fun z => nomatch z) h
  | str y => obtain ⟨t, q⟩ := (show ∃ t, u = Value.str y t from rx); cases q; exact PySem.W.kia_one PySem.W.kitx_str I.kIn True.intro e (fun z => nomatch z) h
  | flt y => obtain ⟨t, q⟩ := (show ∃ t, u = Value.float y t from rx); cases q; exact PySem.W.kia_one PySem.W.kitx_float I.kIn True.intro e (fun z => nomatch z) h
  | @lst a xs ea =>
    cases (show u = Value.ref a from rx)
    obtain ⟨_, _, n, _, h1⟩ := (show ObjOk X.prog X.w H s.heap a (.lst xs) from I.hok a _ ea)
    exact PySem.W.kia_one PySem.W.kitx_list I.kIn ⟨_, h1, rfl⟩ e (fun z => nomatch z) h
  | @frz a ob xs ea =>
    cases (show u = Value.ref a from rx)
    obtain ⟨_, _, _, n, _, h1⟩ := (show ObjOk X.prog X.w H s.heap a (.frz ob (.lst xs)) from I.hok a _ ea)
    exact PySem.W.kia_one PySem.W.kitx_list I.kIn ⟨_, h1, rfl⟩ e (fun z => nomatch z) h
  | @tup a xs ea =>
    cases (show u = Value.ref a from rx)
    obtain ⟨_, _, _, p⟩ := (show ObjOk X.prog X.w H s.heap a (.tup xs) from I.hok a _ ea)
    obtain ⟨o, h1, h2, _⟩ := p
    exact PySem.W.kia_one PySem.W.kitx_tuple I.kIn ⟨o, h1, h2⟩ e (fun z => nomatch z) h
  | @dK a kvs ea =>
    cases (show u = Value.ref a from rx)
    obtain ⟨_, _, vs, _, p⟩ := (show ObjOk X.prog X.w H s.heap a (.dK kvs) from I.hok a _ ea)
    obtain ⟨o, es, ep, h1, h2, _⟩ := p
    exact PySem.W.kia_one PySem.W.kitx_dict I.kIn ⟨o, h1, h2.1⟩ e (fun z => nomatch z) h
  | @dT a kvs ea =>
    cases (show u = Value.ref a from rx)
    obtain ⟨_, _, xs, _, o, es, ep, h1, h2, _⟩ := (show ObjOk X.prog X.w H s.heap a (.dT kvs) from I.hok a _ ea)
    exact PySem.W.kia_one PySem.W.kitx_dict I.kIn ⟨o, h1, h2.1⟩ e (fun z => nomatch z) h
  | @ins a C dx fs ea cl ha hn htk hm =>
    cases (show u = Value.ref a from rx)
    obtain ⟨mA, O, _⟩ := ins_get I.hok ea
    obtain ⟨od, J, _⟩ := O.look
    exact PySem.W.kia_one (PySem.W.kitx_own (cl.get _) cl.hd ha hn htk hm) I.kIn J e (fun z => nomatch z) h
end
end L2

namespace L2
open PySem PySem.Spec PyProof.Rows

/-! ### room -/
structure Room (k : Nat) (A : Around) : Prop where
  hd : A.handled = none
  dp : A.depth + 3 * k + 5 < recursionLimit
  un : A.units + 16 * k + 200 < cLine
theorem Room.mono {j k : Nat} {A : Around} (r : Room k A) (h : j ≤ k) : Room j A := ⟨r.hd, by have := r.dp; omega, by have := r.un; omega⟩
theorem Room.deeper {k : Nat} {A : Around} (r : Room (k + 1) A) (env : Env) : Room k (A.deeper env) :=
  ⟨r.hd, by have := r.dp; show A.depth + 1 + 3 * k + 5 < _; omega, by have := r.un; show A.units + 3 + 16 * k + 200 < _; omega⟩
theorem make_depth {A : Around} {C : Addr} {us : List Value} {kw : List (Str × Value)} : (A.under (.builtin "type.__call__" ⟨.ref C :: us, kw⟩)).depth = A.depth + 1 := by
  first | rfl | simp [Around.under, Code.weight, Code.isCreation, Code.isGuard, Code.isCaller, Code.frames, Code.isFrame, guardIds]
theorem make_units {A : Around} {C : Addr} {us : List Value} {kw : List (Str × Value)} : (A.under (.builtin "type.__call__" ⟨.ref C :: us, kw⟩)).units = A.units + 1 := by
  first | rfl | simp [Around.under, Code.cUnits, Code.frames, Code.isFrame]
theorem Room.make {k : Nat} {A : Around} (r : Room (k + 1) A) (C : Addr) (us : List Value) (kw : List (Str × Value)) : Room k (A.under (.builtin "type.__call__" ⟨.ref C :: us, kw⟩)) :=
  ⟨r.hd, by have := r.dp; rw [make_depth]; omega, by have := r.un; rw [make_units]; omega⟩
theorem Room.depth {k : Nat} {A : Around} (r : Room k A) : A.depth < recursionLimit := by have := r.dp; omega
theorem Room.units {k : Nat} {A : Around} (r : Room k A) : A.units + 64 < cLine := by have := r.un; omega
/-! ### argument lists and displays -/
def tNil : TA := fun _ H Q => Q [] H
def tCons (ta : TE) (tr : TA) : TA := fun σ H Q => ta σ H fun x H1 => tr σ H1 fun xs H2 => Q (x :: xs) H2
section
variable {X : Cx} {e : Expr} {es : List Expr} {te : TE} {t : TA} {pos : Pos}
theorem pa_nil : PA X [] tNil := fun _ _ _ _ H Q I h => Calls.spliced_nil ⟨[], H, I, .nil, h⟩
theorem pa_cons (ha : PE X e te) (hr : PA X es t) (hs : starEach (e :: es) X.env = (false, eval e X.env) :: starEach es X.env := by rfl) : PA X (e :: es) (tCons te t) := by
  intro pos pins s σ H Q I h
  rw [hs]
  show wpAny _ _ (spliced ((false, eval e X.env) :: backTo pos (starEach es X.env))) _ _ s
  refine Calls.spliced_cons (thn (ha pins s σ H _ I h) fun u s1 ⟨x, H1, I1, r1, q1⟩ => ?_)
  exact thn (hr pos pins s1 σ H1 _ I1 q1) fun us s2 ⟨xs, H2, I2, r2, q2⟩ => ⟨x :: xs, H2, I2, .cons r1 r2, q2⟩

/-- a tuple, a list of written items -/
def tTup (t : TA) : TE := fun σ H Q => t σ H fun xs H1 => xs.length ≤ sizeLine ∧ ∀ p, H1 p = none → Q (.ref p) (upd H1 p (.tup xs))
def tLst (t : TA) : TE := fun σ H Q => t σ H fun xs H1 => xs.length ≤ sizeLine ∧ ∀ p, H1 p = none → Q (.ref p) (upd H1 p (.lst xs))
theorem pe_tup {x1} (h : PA X es t) : PE X (.Tuple es x1 pos) (tTup t) := by
  intro pins s σ H Q I hq
  refine wpAny_Tuple_spliced (thn (h pos pins s σ H _ I hq) fun us s1 ⟨xs, H1, I1, r, z, q⟩ => ⟨by rw [← r.length]; exact z, ?_⟩)
  have hf : H1 s1.heap.objs.size = none := I1.hok.fresh (Nat.le_refl _)
  refine ⟨.ref s1.heap.objs.size, upd H1 s1.heap.objs.size (.tup xs), I1.laid (t' := s1.toks) (fun b u e => Heap.get?_push_of_some _ e) (Nat.le_refl _) ?_, rfl, q _ hf⟩
  exact ⟨z, us, r, ⟨_, Heap.get?_push_size _ rfl, rfl, _, rfl⟩⟩
theorem pe_lst (h : PA X es t) : PE X (.List es pos) (tLst t) := by
  intro pins s σ H Q I hq
  refine wpAny_List_spliced (thn (h pos pins s σ H _ I hq) fun us s1 ⟨xs, H1, I1, r, z, q⟩ => ⟨by rw [← r.length]; exact z, ?_⟩)
  have hf : H1 s1.heap.objs.size = none := I1.hok.fresh (Nat.le_refl _)
  refine ⟨.ref s1.heap.objs.size, upd H1 s1.heap.objs.size (.lst xs), I1.laid (t' := s1.toks) (fun b u e => Heap.get?_push_of_some _ e) (Nat.le_refl _) ?_, rfl, q _ hf⟩
  exact ⟨z, us, 0, r, Heap.get?_push_size _ rfl⟩
end

/-! ### what a def promises -/
/-- a def's promise: the bound arguments in the parameters' order, the heap, the wanted end, the wanted exception -/
abbrev Sp := List V → Hp → VK → XK → Prop
/-- how an exception lies behind a call (file 08 gives it): the callers' frames, abstract heap and state ahead of the call, the wish, the exception, the state -/
abbrev CXT := List Env → Hp → Shared → XK → Value → Shared → Prop

/-- the state at a call -/
structure Env0 (P : Program) (w : World) (K : PySem.W.Frag) (mg : Str → Option Value) (base : Heap) (A : Around) (outer : List Env) (s : Shared) (H : Hp) : Prop where
  frames : A.frames = some outer
  mod : Mod K mg base
  bs : ∀ b o, base.get? b = some o → s.heap.get? b = some o ∧ H b = none
  bsz : base.objs.size ≤ s.heap.objs.size
  funs : s.heap.FunFrames base outer
  frf : ∀ b ∈ frs outer, H b = none
  hok : HOk P w H s.heap
  bare : AllBare s.gens
/-- a call's end -/
def CE (outer : List Env) (P : Program) (w : World) (H : Hp) (s : Shared) (Q : VK) (u : Value) (s' : Shared) : Prop :=
  ∃ v H', s'.os = s.os ∧ AllBare s'.gens ∧ Un (frs outer) [] H H' s.heap s'.heap ∧ HOk P w H' s'.heap ∧ RelV v u ∧ Q v H'
def CR (CX : CXT) (outer : List Env) (P : Program) (w : World) (H : Hp) (s : Shared) (Q : VK) (E : XK) (r : Result) (s' : Shared) : Prop :=
  match r with
  | .ok (.ret u) => CE outer P w H s Q u s'
  | .ok _ => False
  | .error e => CX outer H s E e s'
structure FnOk (P : Program) (w : World) (K : PySem.W.Frag) (mg : Str → Option Value) (base : Heap) (CX : CXT) (k : Nat) (f : Addr) (fd : FuncData) (ps : List Str) (sp : Sp) : Prop where
  len : ∀ vs H Q E, sp vs H Q E → vs.length = ps.length
  run : ∀ (A : Around) (outer : List Env) (s : Shared) (H : Hp) (args : Args) (us : List Value) (vs : List V) (Q : VK) (E : XK), Room k A → Env0 P w K mg base A outer s H → BindsTo s fd args (ps.zip us) → Vals vs us → sp vs H Q E →
    codeAny (model P w) A (.call (.ref f) args) (CR CX outer P w H s Q E) s
theorem FnOk.mono {P : Program} {w : World} {K : PySem.W.Frag} {mg : Str → Option Value} {base : Heap} {CX : CXT} {j k : Nat} {f : Addr} {fd : FuncData} {ps : List Str} {sp : Sp} (F : FnOk P w K mg base CX j f fd ps sp) (h : j ≤ k) :
    FnOk P w K mg base CX k f fd ps sp := ⟨F.len, fun A outer s H args us vs Q E hr => F.run A outer s H args us vs Q E (hr.mono h)⟩
/-- a weaker promise -/
theorem FnOk.imp {P : Program} {w : World} {K : PySem.W.Frag} {mg : Str → Option Value} {base : Heap} {CX : CXT} {k : Nat} {f : Addr} {fd : FuncData} {ps : List Str} {sp sp' : Sp} (F : FnOk P w K mg base CX k f fd ps sp)
    (h : ∀ vs H Q E, sp' vs H Q E → sp vs H Q E) : FnOk P w K mg base CX k f fd ps sp' :=
  ⟨fun vs H Q E q => F.len vs H Q E (h _ _ _ _ q), fun A outer s H args us vs Q E hr he hb hv hs => F.run A outer s H args us vs Q E hr he hb hv (h _ _ _ _ hs)⟩

theorem Env0.make {P : Program} {w : World} {K : PySem.W.Frag} {mg : Str → Option Value} {base : Heap} {A : Around} {outer : List Env} {s : Shared} {H : Hp} (e : Env0 P w K mg base A outer s H) (C : Addr) (us : List Value) (kw : List (Str × Value)) :
    Env0 P w K mg base (A.under (.builtin "type.__call__" ⟨.ref C :: us, kw⟩)) outer s H := ⟨by first | exact e.frames | (simpa [Around.under, Code.envs, Code.isFrame, pushEnvs] using e.frames), e.mod, e.bs, e.bsz, e.funs, e.frf, e.hok, e.bare⟩
section
variable {X : Cx} {pins : List (Addr × Obj)} {σ : St} {H : Hp} {s s' : Shared}
/-- from a body: what a callee wants -/
theorem Inv.env0 (I : Inv X pins σ H s) : Env0 X.prog X.w X.K X.mg X.base X.A X.stack s H :=
  ⟨I.ok.frames, I.ok.mod, I.bs, Nat.le_trans I.ok.bsz I.sz, I.stack, I.stkFree, I.hok, I.bare⟩
/-- behind a call -/
theorem Inv.after {Q : VK} {u : Value} (I : Inv X pins σ H s) (h : CE X.stack X.prog X.w H s Q u s') : EP X pins σ Q u s' := by
  obtain ⟨v, H', os, bare, un, hok, r, q⟩ := h
  obtain ⟨hh, g, d, t, os'⟩ := s'
  obtain rfl : os' = s.os := os
  exact ⟨v, H', I.call (h' := hh) (g' := g) (d' := d) (t' := t) (ch := []) un hok bare (fun b z => absurd z (by simp)), r, q⟩
end

/-! ### calls -/
/-- f(..): the written arguments, then the defaults dvs; E: what is wanted of an exception -/
def tCall (sp : Sp) (dvs : List V) (E : XK) (t : TA) : TE := fun σ H Q => t σ H fun vs H1 => sp (vs ++ dvs) H1 Q E
/-- C(..): a new instance and its dict, then __init__ -/
def tMake (C : Addr) (sp : Sp) (dvs : List V) (E : XK) (t : TA) : TE := fun σ H Q => t σ H fun vs H1 => ∀ x dx, H1 x = none → H1 dx = none → dx ≠ x →
  sp (.ref x :: (vs ++ dvs)) (upd (upd H1 dx (.own x)) x (.ins C dx [])) (fun v H2 => v = .non ∧ Q (.ref x) H2) E

/-- how the parameters are bound: us the positional arguments, kw the keywords' values by name, ds the defaults that fill up -/
def Binds (K : PySem.W.Frag) (fd : FuncData) (ps : List Str) (ds : List Value) : Prop :=
  ∀ (s : Shared) (us : List Value), K.In s.heap → (us ++ ds).length = ps.length → BindsTo s fd ⟨us, []⟩ (ps.zip (us ++ ds))
/-- every parameter is given -/
theorem Binds.all {K : PySem.W.Frag} {fd : FuncData} {ps : List Str} (h : ∀ us : List Value, us.length = ps.length → bindArgs fd ⟨us, []⟩ = pure (ps.zip us)) : Binds K fd ps [] := fun s us _ hl => by
  rw [List.append_nil] at hl ⊢
  exact .of_eq (h us hl)

/-- an exception of a callee reaches what this body wants of exceptions -/
def Passes (CX : CXT) (X : Cx) (E : XK) : Prop := ∀ (pins : List (Addr × Obj)) (σ : St) (H : Hp) (s : Shared) (e : Value) (s' : Shared), Inv X pins σ H s → CX X.stack H s E e s' → X.xe e s'

section
variable {X : Cx} {CX : CXT} {k : Nat} {f C : Addr} {fd : FuncData} {ps : List Str} {sp : Sp} {dvs : List V} {ds : List Value} {E : XK} {x m : Str} {p pos apos : Pos} {e o : Expr} {es : List Expr} {ta : TE} {t : TA}

/-- the callee runs -/
theorem run_fn {pins : List (Addr × Obj)} {σ : St} {H : Hp} {s : Shared} {Q : VK} {us : List Value} {vs : List V} (F : FnOk X.prog X.w X.K X.mg X.base CX k f fd ps sp) (hr : Room k X.A) (hb : Binds X.K fd ps ds) (hd : Vals dvs ds) (hx : Passes CX X E)
    (I : Inv X pins σ H s) (r : Vals vs us) (h : sp (vs ++ dvs) H Q E) : wpAny (model X.prog X.w) X.A (call (.ref f) us) (EP X pins σ Q) X.xe s := by
  have r2 : Vals (vs ++ dvs) (us ++ ds) := r.append hd
  have hl : (us ++ ds).length = ps.length := by rw [← r2.length]; exact F.len _ _ _ _ h
  refine wpAny_call (codeAny_mono (F.run X.A X.stack s H ⟨us, []⟩ (us ++ ds) (vs ++ dvs) Q E hr I.env0 (hb s us I.kIn hl) r2 h) fun r s' hq => ?_)
  cases r with
  | error e => exact hx pins σ H s e s' I hq
  | ok fl =>
    cases fl with
    | ret u => exact I.after hq
    | next => exact False.elim hq
    | brk => exact False.elim hq
    | cont => exact False.elim hq

theorem pe_call (F : FnOk X.prog X.w X.K X.mg X.base CX k f fd ps sp) (hr : Room k X.A) (hg : Gl X x) (hm : X.mg x = some (.ref f)) (hk : PySem.W.keepIn X.K (.ref f) = true) (hb : Binds X.K fd ps ds) (hd : Vals dvs ds) (hx : Passes CX X E)
    (ha : PA X (e :: es) t) (hdb : (x == ("__debug__" : Str)) = false := by decide) (he : starEach (e :: es) X.env = (false, eval e X.env) :: starEach es X.env := by rfl) (hpl : (backTo pos (starEach es X.env)).any (·.1) = false := by rfl) :
    PE X (.Call (.Name x p) (e :: es) [] pos) (tCall sp dvs E t) := by
  intro pins s σ H Q I h
  refine wpAny_Call_Name_kw (ld_glob I hg hm ?_ hdb)
  refine PySem.W.callWith_K (h₀ := X.base) I.ok.mod.kin hk (thn (ha pos pins s σ H _ I h) fun us s1 ⟨vs, H1, I1, r, q⟩ => ⟨I1.kIn, ?_⟩) he hpl
  exact run_fn F hr hb hd hx I1 r q
/-- what a class must have to be made -/
structure Mk (K : PySem.W.Frag) (C f : Addr) : Prop where
  makes : PySem.W.makesIn K C = true
  init : PySem.W.findIn K (.ref C) "__init__" = some (some (.ref f))
  fn : PySem.W.isFn K (.ref f) = true
  kp : PySem.W.keepIn K (.ref C) = true

theorem run_make {pins : List (Addr × Obj)} {σ : St} {H : Hp} {s : Shared} {Q : VK} {us : List Value} {vs : List V} (M : Mk X.K C f) (F : FnOk X.prog X.w X.K X.mg X.base CX k f fd ps sp) (hr : Room (k + 1) X.A) (hb : Binds X.K fd ps ds) (hd : Vals dvs ds)
    (hx : Passes CX X E) (I : Inv X pins σ H s) (r : Vals vs us)
    (h : ∀ x dx, H x = none → H dx = none → dx ≠ x → sp (.ref x :: (vs ++ dvs)) (upd (upd H dx (.own x)) x (.ins C dx [])) (fun v H2 => v = .non ∧ Q (.ref x) H2) E) :
    wpAny (model X.prog X.w) X.A (call (.ref C) us) (EP X pins σ Q) X.xe s := by
  have hq := h (s.heap.objs.size + 1) s.heap.objs.size (I.hok.fresh (Nat.le_succ _)) (I.hok.fresh (Nat.le_refl _)) (Nat.ne_of_lt (Nat.lt_succ_self _))
  have I2 := Inv.made (C := C) I
  have r2 : Vals (V.ref (s.heap.objs.size + 1) :: (vs ++ dvs)) (Value.ref (s.heap.objs.size + 1) :: (us ++ ds)) := .cons rfl (r.append hd)
  have hl : (Value.ref (s.heap.objs.size + 1) :: us ++ ds).length = ps.length := by
    have e := r2.length
    rw [F.len _ _ _ _ hq] at e
    exact e.symm
  refine wpAny_call (make_map (f := f) I.kIn M.makes M.init (beq_iff_eq.mp M.fn) (codeAny_mono (F.run _ X.stack _ _ ⟨Value.ref (s.heap.objs.size + 1) :: us, []⟩ (Value.ref (s.heap.objs.size + 1) :: (us ++ ds)) _ _ E (hr.make C us [])
    (I2.env0.make C us []) (hb _ (Value.ref (s.heap.objs.size + 1) :: us) I2.kIn hl) r2 hq) fun r s' hq' => ?_))
  cases r with
  | error e => exact hx pins σ _ _ e s' I2 hq'
  | ok fl =>
    cases fl with
    | ret u =>
      obtain ⟨v, H', I3, rv, ev, q3⟩ := I2.after hq'
      subst ev
      exact ⟨rv, ⟨V.ref (s.heap.objs.size + 1), H', I3, rfl, q3⟩⟩
    | next => exact False.elim hq'
    | brk => exact False.elim hq'
    | cont => exact False.elim hq'
theorem pe_make (M : Mk X.K C f) (F : FnOk X.prog X.w X.K X.mg X.base CX k f fd ps sp) (hr : Room (k + 1) X.A) (hg : Gl X x) (hm : X.mg x = some (.ref C)) (hb : Binds X.K fd ps ds) (hd : Vals dvs ds) (hx : Passes CX X E)
    (ha : PA X (e :: es) t) (hdb : (x == ("__debug__" : Str)) = false := by decide) (he : starEach (e :: es) X.env = (false, eval e X.env) :: starEach es X.env := by rfl) (hpl : (backTo pos (starEach es X.env)).any (·.1) = false := by rfl) :
    PE X (.Call (.Name x p) (e :: es) [] pos) (tMake C sp dvs E t) := by
  intro pins s σ H Q I h
  refine wpAny_Call_Name_kw (ld_glob I hg hm ?_ hdb)
  refine PySem.W.callWith_K (h₀ := X.base) I.ok.mod.kin M.kp (thn (ha pos pins s σ H _ I h) fun us s1 ⟨vs, H1, I1, r, q⟩ => ⟨I1.kIn, ?_⟩) he hpl
  exact run_make M F hr hb hd hx I1 r q
end

/-! ### keywords -/
section
variable {X : Cx} {CX : CXT} {k : Nat} {f C : Addr} {fd : FuncData} {ps ks : List Str} {sp : Sp} {E : XK} {x m : Str} {p pos apos kpos : Pos} {e o : Expr} {es : List Expr} {kws : List Keyword} {te ta : TE} {t tk : TA} {nm : Option Str}
/-- how a call with keywords binds: g puts the positional values us and the keywords' values ws (names ks) in the parameters' order, defaults among them -/
structure KBinds (K : PySem.W.Frag) (fd : FuncData) (ps ks : List Str) (g : List Value → List Value → List Value) (gV : List V → List V → List V) : Prop where
  to : ∀ (s : Shared) (us ws : List Value), K.In s.heap → (g us ws).length = ps.length → BindsTo s fd ⟨us, ks.zip ws⟩ (ps.zip (g us ws))
  rel : ∀ {vs : List V} {us : List Value} {zs : List V} {ws : List Value}, Vals vs us → Vals zs ws → Vals (gV vs zs) (g us ws)
variable {g : List Value → List Value → List Value} {gV : List V → List V → List V}
end

/-! ### a def's body keeps its promise -/
/-- names: the parameters first -/
structure FnScope (N P : List Str) (sc : Scope) : Prop where
  kind : sc.kind = .function
  co : sc.isCoroutine = false
  gen : sc.isGenerator = false
  nd : N.Nodup
  pre : N.take P.length = P
  par : ∀ x ∈ P, sc.names.lookup x = some .local ∨ sc.names.lookup x = some .cell
  nofree : ∀ y ∈ sc.names, y.2 ≠ .free

theorem bindL_out {kindOf : Str → Option NameKind} {x : Str} : ∀ {binds : List (Str × Value)} {m : Str → Option Value}, (∀ v, (x, v) ∉ binds) → bindL kindOf binds m x = m x
  | [], _, _ => rfl
  | (n, v) :: r, m, h => by
    unfold bindL
    rw [bindL_out fun w hw => h w (List.mem_cons_of_mem _ hw)]
    split
    · have : x ≠ n := by rintro rfl; exact h v List.mem_cons_self
      simp [this]
    · rfl
theorem bindC_out {kindOf : Str → Option NameKind} {x : Str} : ∀ {binds : List (Str × Value)} {m : Str → Option Value}, (∀ v, (x, v) ∉ binds) → bindC kindOf binds m x = m x
  | [], _, _ => rfl
  | (n, v) :: r, m, h => by
    unfold bindC
    rw [bindC_out fun w hw => h w (List.mem_cons_of_mem _ hw)]
    split
    · rfl
    · have : x ≠ n := by rintro rfl; exact h v List.mem_cons_self
      simp [this]
theorem bindL_get {kindOf : Str → Option NameKind} {x : Str} {v : Value} : ∀ {P : List Str} {vs : List Value} {i : Nat} {m : Str → Option Value}, P.Nodup → P[i]? = some x → vs[i]? = some v → kindOf x = some .local →
    bindL kindOf (P.zip vs) m x = some v
  | [], _, _, _, _, h, _, _ => by simp at h
  | _ :: _, [], _, _, _, _, h, _ => by simp at h
  | p :: P, w :: vs, 0, m, nd, h1, h2, hk => by
    simp at h1 h2; subst h1; subst h2
    show bindL kindOf ((p, w) :: P.zip vs) m p = _
    unfold bindL
    rw [bindL_out fun v hv => (List.nodup_cons.mp nd).1 (List.of_mem_zip hv).1, if_pos hk]
    simp
  | p :: P, w :: vs, i + 1, m, nd, h1, h2, hk => by
    show bindL kindOf ((p, w) :: P.zip vs) m x = _
    unfold bindL
    exact bindL_get (i := i) (List.nodup_cons.mp nd).2 (by simpa using h1) (by simpa using h2) hk
theorem bindC_get {kindOf : Str → Option NameKind} {x : Str} {v : Value} : ∀ {P : List Str} {vs : List Value} {i : Nat} {m : Str → Option Value}, P.Nodup → P[i]? = some x → vs[i]? = some v → kindOf x ≠ some .local →
    bindC kindOf (P.zip vs) m x = some v
  | [], _, _, _, _, h, _, _ => by simp at h
  | _ :: _, [], _, _, _, _, h, _ => by simp at h
  | p :: P, w :: vs, 0, m, nd, h1, h2, hk => by
    simp at h1 h2; subst h1; subst h2
    show bindC kindOf ((p, w) :: P.zip vs) m p = _
    unfold bindC
    rw [bindC_out fun v hv => (List.nodup_cons.mp nd).1 (List.of_mem_zip hv).1, if_neg hk]
    simp
  | p :: P, w :: vs, i + 1, m, nd, h1, h2, hk => by
    show bindC kindOf ((p, w) :: P.zip vs) m x = _
    unfold bindC
    exact bindC_get (i := i) (List.nodup_cons.mp nd).2 (by simpa using h1) (by simpa using h2) hk

/-- the names' values at the entry -/
def start (N : List Str) (vs : List V) : St := vs.map some ++ List.replicate (N.length - vs.length) none

/-- the context of a def's body, at its entry; an exception leaves the frame, then lies as CX says -/
def cxOf (CX : CXT) (P : Program) (w : World) (K : PySem.W.Frag) (mg : Str → Option Value) (base : Heap) (N : List Str) (qual : Str) (scope : Scope) (f : Addr) (cd : Value) (A : Around) (outer : List Env) (s : Shared) (H : Hp) (E : XK) : Cx where
  prog := P
  w := w
  K := K
  mg := mg
  base := base
  A := A.deeper (envOfC qual scope s.heap.objs.size f cd)
  N := N
  s₀ := s
  H₀ := H
  env := envOfC qual scope s.heap.objs.size f cd
  outer := outer
  stack := envOfC qual scope s.heap.objs.size f cd :: outer
  ex := []
  calm := true
  fn := fun _ => true
  pn := []
  xe := fun e s' => wpAny (model P w) (A.deeper (envOfC qual scope s.heap.objs.size f cd)) (leaving (envOfC qual scope s.heap.objs.size f cd) e) (fun _ s'' => CX outer H s E e s'') (fun e' s'' => CX outer H s E e' s'') s'

theorem cell_has {sc : Scope} {n : Nat} {x : Str} (h : sc.names.lookup x = some .cell) : ∃ c, (cellsFrom n sc.names []).lookup x = some c := by
  have q := PySem.W.cellsFrom_some sc.names n [] (.inl h)
  exact Option.isSome_iff_exists.mp q

theorem inv_start {CX : CXT} {P : Program} {w : World} {K : PySem.W.Frag} {mg : Str → Option Value} {base : Heap} {N ps : List Str} {qual : Str} {scope : Scope} {f : Addr} {cd : Value} {A : Around} {outer : List Env} {s s1 : Shared} {H : Hp} {E : XK} {us : List Value} {vs : List V}
    (S : FnScope N ps scope) (hd : A.handled = none) (e0 : Env0 P w K mg base A outer s H) (hl : vs.length = ps.length) (r : Vals vs us)
    (x : InCallC s s.heap.objs.size (bindL (envOfC qual scope s.heap.objs.size f cd).kindOf (ps.zip us) fun _ => none) (cellsFrom (s.heap.objs.size + 1) scope.names []) (bindC (envOfC qual scope s.heap.objs.size f cd).kindOf (ps.zip us) fun _ => none) s1) :
    Inv (cxOf CX P w K mg base N qual scope f cd A outer s H E) [] (start N vs) H s1 := by
  have hpl : ps.length ≤ N.length := by have := congrArg List.length S.pre; rw [List.length_take] at this; omega
  obtain ⟨h1, tk, rfl, hk⟩ := x.done
  have noA : ∀ b : Addr, b ∉ (cxOf CX P w K mg base N qual scope f cd A outer s H E).ex := fun b z => absurd (show b ∈ ([] : List Addr) from z) (by simp)
  refine ⟨⟨e0.mod, S.kind, rfl, rfl, Nat.le_refl _, fun y z c h1 h2 => ?_, fun y hy => ?_, fun y c _ h => ?_, fun _ => hd, Around.frames_deeper e0.frames, .inr ⟨rfl, rfl⟩, fun b z => absurd z (noA b), e0.bs, e0.bsz, fun b _ _ => noA b, fun b z => absurd z (noA b), e0.funs, e0.frf⟩,
    rfl, e0.bare, Un.kept hk, ⟨_, x.toInCall.ns, fun i y v h1 h2 h3 => ?_⟩, fun y c h => ⟨_, x.cell y c h⟩, e0.hok.fresh (Nat.le_refl _), fun y c h => ?_, fun p hp => absurd (show p ∈ ([] : List (Addr × Obj)) from hp) (by simp), e0.hok.kept hk, ?_⟩
  · exact name_of_addr x.apart (PySem.mem_of_lookup h1) (PySem.mem_of_lookup h2)
  · have hy : scope.names.lookup y = some .cell ∨ scope.names.lookup y = some .free := hy
    rcases hy with hy | hy
    · exact cell_has hy
    · exact absurd rfl (S.nofree _ (PySem.mem_of_lookup hy))
  · exact Nat.le_of_lt (x.above y c (PySem.mem_of_lookup h))
  · have hi : i < vs.length := by
      unfold start at h2
      by_cases hi : i < vs.length
      · exact hi
      · rw [List.getElem?_append_right (by simpa using hi)] at h2
        rw [List.getElem?_replicate] at h2
        split at h2 <;> cases h2
    have ha : vs[i]? = some v := by
      unfold start at h2
      rw [List.getElem?_append_left (by simpa using hi), List.getElem?_map] at h2
      cases e : vs[i]? with
      | none => rw [e] at h2; cases h2
      | some a => rw [e] at h2; cases h2; rfl
    obtain ⟨u, hu, rv⟩ := r.get ha
    have hp : ps[i]? = some y := by
      rw [← S.pre, List.getElem?_take_of_lt (by omega)]; exact h1
    have ndP : ps.Nodup := by rw [← S.pre]; exact S.nd.sublist (List.take_sublist _ _)
    refine ⟨u, rv, ?_⟩
    rcases S.par y (List.mem_of_getElem? hp) with k | k
    · exact .inl ⟨k, bindL_get ndP hp hu k⟩
    · obtain ⟨c, e⟩ := cell_has (n := s.heap.objs.size + 1) k
      refine .inr ⟨.inl k, c, e, ?_⟩
      have q := x.cell y c e
      rw [bindC_get ndP hp hu (by show scope.names.lookup y ≠ _; rw [k]; decide)] at q
      exact q
  · exact e0.hok.fresh (Nat.le_of_lt (x.above y c (PySem.mem_of_lookup h)))
  · unfold start
    show _ = N.length
    rw [List.length_append, List.length_map, List.length_replicate]
    omega

/-- THE RULE: a def (or a method) of the text, by its body. The body's reading t is chosen for each entry; it is run at the parameters' values -/
theorem fn_of {CX : CXT} {P : Program} {w : World} {K : PySem.W.Frag} {mg : Str → Option Value} {base : Heap} {k : Nat} {f : Addr} {name qual : Str} {params : Arguments} {body : List Stmt} {scope : Scope} {dV kV doc pm cdv ct oc : Value} {an od : Option Addr}
    {osl : Array (Option Value)} {N ps : List Str} {sp : Sp} (lk : K.lookup f = some ⟨oc, od, .func (PySem.W.fnOf name qual params body scope dV kV doc pm an cdv ct), osl⟩) (hcd : PySem.W.codeIn K cdv qual = true) (S : FnScope N ps scope)
    (len : ∀ vs H Q E, sp vs H Q E → vs.length = ps.length)
    (hbody : ∀ (A : Around) (outer : List Env) (s : Shared) (H : Hp) (vs : List V) (Q : VK) (E : XK), Room k (A.deeper (envOfC qual scope s.heap.objs.size f cdv)) → sp vs H Q E →
      ∃ t, PSs (cxOf CX P w K mg base N qual scope f cdv A outer s H E) body t ∧ t { nx := fun _ H' => Q .non H', rt := Q } (start N vs) H) :
    FnOk P w K mg base CX (k + 1) f (PySem.W.fnOf name qual params body scope dV kV doc pm an cdv ct) ps sp := by
  refine ⟨len, fun A outer s H args us vs Q E hr e0 hb r hsp => ?_⟩
  have hl := len _ _ _ _ hsp
  have KX : K.In s.heap := e0.mod.kin.keeps fun b o e => (e0.bs b o e).1
  have lim : s.heap.NoLimit := e0.mod.nolimit.keeps fun b o e => (e0.bs b o e).1
  have hkind : ∀ y ∈ ps.zip us, scope.names.lookup y.1 = some .local ∨ (scope.names.lookup y.1 = some .cell ∧ ((cellsFrom (s.heap.objs.size + 1) scope.names []).lookup y.1).isSome = true) := fun ⟨n, v⟩ hy => by
    rcases S.par n (List.of_mem_zip hy).1 with q | q
    · exact .inl q
    · exact .inr ⟨q, PySem.W.cellsFrom_some _ _ _ (.inl q)⟩
  refine codeAny_call_function hr.depth (KX _ _ lk) rfl S.co S.gen rfl (PySem.W.codeRec_of KX hcd) (hb _ _ _ _ ?_)
  refine wpAny_newFunctionEnv_cells S.kind hkind fun env he s1 x => ?_
  subst he
  refine ⟨lim.keeps x.toInCall.keep, codeAny_func ?_⟩
  obtain ⟨t, ht, hq⟩ := hbody A outer s H vs Q E (hr.deeper _) hsp
  have I : Inv (cxOf CX P w K mg base N qual scope f cdv A outer s H E) [] (start N vs) H s1 := inv_start S hr.hd e0 hl r x
  refine wpAny_mono (ht [] s1 (start N vs) H _ I hq) (fun fl s' hs => ?_) fun e s' hs => hs
  have fin : ∀ {σ' : St} {H' : Hp} {v : V} {u : Value}, Inv (cxOf CX P w K mg base N qual scope f cdv A outer s H E) [] σ' H' s' → RelV v u → Q v H' → CE outer P w H s Q u s' :=
    fun {σ' H' v u} J rv q => ⟨v, H', J.os, J.bare, J.base, J.hok, rv, q⟩
  cases fl with
  | ret u =>
    obtain ⟨v, σ', H', J, rv, q⟩ := hs
    exact fin J rv q
  | next =>
    obtain ⟨σ', H', J, q⟩ := hs
    exact fin (v := V.non) (u := Value.none) J rfl q
  | brk =>
    obtain ⟨_, _, _, q⟩ := hs
    exact False.elim q
  | cont =>
    obtain ⟨_, _, _, q⟩ := hs
    exact False.elim q
end L2

namespace L2
open PySem PySem.Spec PyProof.Rows
section
variable {X : Cx} {x : Str} {p pos : Pos} {e : Expr} {es : List Expr} {t : TA} {id T : String} {r : List V → Hp → VK → Prop}

def tCB (r : List V → Hp → VK → Prop) (t : TA) : TE := fun σ H Q => t σ H fun vs H1 => r vs H1 Q
/-- f(e, ..), f a built-in function -/
theorem pe_callB (hc : CallR X (.builtin id) r) (hg : Gl X x) (hm : X.mg x = none) (hv : bootBuiltins x = some (.builtin id)) (ha : PA X (e :: es) t) (hn : x ≠ "__name__" := by decide) (hdb : (x == ("__debug__" : Str)) = false := by decide)
    (he : starEach (e :: es) X.env = (false, eval e X.env) :: starEach es X.env := by rfl) (hpl : (backTo pos (starEach es X.env)).any (·.1) = false := by rfl) : PE X (.Call (.Name x p) (e :: es) [] pos) (tCB r t) := by
  intro pins s σ H Q I h
  refine wpAny_Call_Name_kw (ld_blt I hg hm hv ?_ hn hdb)
  exact PyProof.Rows.callWith_builtin1 (thn (ha pos pins s σ H _ I h) fun us s1 ⟨vs, H1, I1, r1, q1⟩ => hc pins s1 σ H1 vs us Q I1 r1 q1) he hpl
/-- T(e, ..), T a built-in type -/
theorem pe_callTy (hc : CallR X (.type T) r) (hg : Gl X x) (hm : X.mg x = none) (hv : bootBuiltins x = some (.type T)) (ha : PA X (e :: es) t) (hn : x ≠ "__name__" := by decide) (hdb : (x == ("__debug__" : Str)) = false := by decide)
    (he : starEach (e :: es) X.env = (false, eval e X.env) :: starEach es X.env := by rfl) (hpl : (backTo pos (starEach es X.env)).any (·.1) = false := by rfl) : PE X (.Call (.Name x p) (e :: es) [] pos) (tCB r t) := by
  intro pins s σ H Q I h
  refine wpAny_Call_Name_kw (ld_blt I hg hm hv ?_ hn hdb)
  exact PyProof.Rows.callWith_type1 (thn (ha pos pins s σ H _ I h) fun us s1 ⟨vs, H1, I1, r1, q1⟩ => hc pins s1 σ H1 vs us Q I1 r1 q1) he hpl
end
end L2

namespace HT
open PySem PyProof.Rows

section
open PySem.SeqAt
open PySem.AutoSeq1 (wpAny_loadPart')
open PySem.MeetsSeq PySem.MeetsSeq2 PySem.MeetsSeq3

end

section
variable {prog : Program} {w : World} {A : Around} {E : Value → Shared → Prop} {s : Shared}

/-! ### t[a:b], not the whole -/
/-- a slice's bound as a place among n (d where it is left out) -/
def sIx (n d : Nat) : Option Int → Nat
  | none => d
  | some v => if v < 0 then (v + (n : Int)).toNat else min v.toNat n
end
end HT

namespace L2
open PySem PySem.Spec PyProof.Rows

/-! ### the parts of a slice -/
abbrev TO := St → Hp → (Option Int → Hp → Prop) → Prop
/-- a slice's part (left out, or an int) -/
def PO (X : Cx) (e : Option Expr) (t : TO) : Prop :=
  ∀ (pins : List (Addr × Obj)) (s : Shared) (σ : St) (H : Hp) (Q : Option Int → Hp → Prop), Inv X pins σ H s → t σ H Q →
    wpAny (model X.prog X.w) X.A (evalPart e X.env) (fun u s' => ∃ o H', Inv X pins σ H' s' ∧ IsPart u o ∧ Q o H') X.xe s
def tNoPart : TO := fun _ H Q => Q none H
def tPart (t : TE) : TO := fun σ H Q => t σ H fun x H1 => ∃ i, x = .int i ∧ Q (some i) H1

section
variable {X : Cx} {e : Expr} {te : TE} {lo hi : Option Expr} {tl th : TO} {pos p2 : Pos}

theorem po_none : PO X none tNoPart := by
  intro pins s σ H Q I h
  rw [evalPart_none]
  exact wpAny_pure ⟨none, H, I, .none, h⟩
theorem po_some (h : PE X e te) : PO X (some e) (tPart te) := by
  intro pins s σ H Q I hw
  rw [evalPart_some]
  refine thn (h pins s σ H _ I hw) fun u s1 ⟨x, H1, I1, r1, q1⟩ => ?_
  obtain ⟨i, rfl, q⟩ := q1
  obtain ⟨t, rfl⟩ := r1
  exact ⟨some i, H1, I1, .int i t, q⟩

/-- what a slice of a value is, by values: the slice object stands at sl -/
def SlR (X : Cx) (r : V → Option Int → Option Int → Hp → VK → Prop) : Prop :=
  ∀ (pins : List (Addr × Obj)) (s : Shared) (σ : St) (H : Hp) (x : V) (v vl vu : Value) (lo hi : Option Int) (sl : Addr) (Q : VK), Inv X pins σ H s → RelV x v → s.heap.IsSliceOf sl vl vu .none → IsPart vl lo → IsPart vu hi → r x lo hi H Q →
    ∃ T id, typeLookup (.type T) "__getitem__" = pure (some (.builtin id)) ∧ s.TypeIs v T ∧ wpAny (model X.prog X.w) X.A (getItem v (.ref sl)) (EP X pins σ Q) X.xe s
theorem SlR.or {r r' : V → Option Int → Option Int → Hp → VK → Prop} (h : SlR X r) (h' : SlR X r') : SlR X (fun x lo hi H Q => r x lo hi H Q ∨ r' x lo hi H Q) := by
  intro pins s σ H x v vl vu lo hi sl Q I rx hs pl pu q
  rcases q with q | q
  · exact h pins s σ H x v vl vu lo hi sl Q I rx hs pl pu q
  · exact h' pins s σ H x v vl vu lo hi sl Q I rx hs pl pu q
def tSl (r : V → Option Int → Option Int → Hp → VK → Prop) (te : TE) (tl th : TO) : TE := fun σ H Q => te σ H fun x H1 => tl σ H1 fun l H2 => th σ H2 fun u H3 => r x l u H3 Q
/-- a[lo:hi], any a -/
theorem pe_slice {r : V → Option Int → Option Int → Hp → VK → Prop} (hr : SlR X r) (he : PE X e te) (hl : PO X lo tl) (hu : PO X hi th) : PE X (.Subscript e (.Slice lo hi none p2) pos) (tSl r te tl th) := by
  intro pins s σ H Q I h
  refine Subscript_ (thn (he pins s σ H _ I h) fun v s1 ⟨x, H1, I1, r1, q1⟩ => ?_)
  refine wpAny_Slice (thn (hl pins s1 σ H1 _ I1 q1) fun vl s2 ⟨l, H2, I2, pl, q2⟩ => thn (hu pins s2 σ H2 _ I2 q2) fun vu s3 ⟨u, H3, I3, pu, q3⟩ => ?_)
  rw [evalPart_none]
  refine wpAny_pure ?_
  have I4 : Inv X pins σ H3 { s3 with heap := s3.heap.push { cls := .type "slice", data := .fields #[vl, vu, .none] } } := I3.kept (t' := s3.toks) fun b ob q => Heap.get?_push_of_some _ q
  obtain ⟨T, id, hT, ht, hg⟩ := hr pins { s3 with heap := s3.heap.push { cls := .type "slice", data := .fields #[vl, vu, .none] } } σ H3 x v vl vu l u s3.heap.objs.size Q I4 r1 (Heap.IsSliceOf.new ..) pl pu q3
  show wpAny (model X.prog X.w) X.A (subscriptTail e (.Slice lo hi none p2) v (.ref s3.heap.objs.size)) (EP X pins σ Q) X.xe { s3 with heap := s3.heap.push { cls := .type "slice", data := .fields #[vl, vu, .none] } }
  exact tail_any (ops := [.ref s3.heap.objs.size, v]) ht hT hg (by with_unfolding_all rfl)

/-- the items of xs[lo:hi] -/
def cutV (xs : List V) (lo hi : Option Int) : List V := (xs.drop (HT.sIx xs.length 0 lo)).take (HT.sIx xs.length xs.length hi - HT.sIx xs.length 0 lo)
theorem cutV_length (xs : List V) (lo hi : Option Int) : (cutV xs lo hi).length ≤ xs.length := by
  unfold cutV
  rw [List.length_take, List.length_drop]
  omega
/-! ### t < u, t + u -/
end
end L2

namespace L2
open PySem PySem.Spec PyProof.Rows

/-! ### places -/
/-- the place that an index of any sign means -/
def ixN (n : Nat) (i : Int) : Option Nat := if 0 ≤ i then (if i < n then some i.toNat else none) else if -(n : Int) ≤ i then some (i + n).toNat else none
def atI {α : Type} (xs : List α) (i : Int) : Option α := (ixN xs.length i).bind fun j => xs[j]?
theorem ixN_seq {n : Nat} {i : Int} {j : Nat} (h : ixN n i = some j) : seqIndex? i n = some j ∧ j < n ∧ -(n : Int) ≤ i ∧ i < n := by
  unfold ixN at h
  by_cases h0 : 0 ≤ i
  · rw [if_pos h0] at h
    by_cases h1 : i < n
    · rw [if_pos h1] at h
      have e : i.toNat = j := Option.some.inj h
      exact ⟨by rw [seqIndex_of h0 h1, e], by omega, by omega, h1⟩
    · rw [if_neg h1] at h; cases h
  · rw [if_neg h0] at h
    by_cases h1 : -(n : Int) ≤ i
    · rw [if_pos h1] at h
      have e : (i + n).toNat = j := Option.some.inj h
      exact ⟨by rw [seqIndex_neg (by omega) h1, e], by omega, h1, by omega⟩
    · rw [if_neg h1] at h; cases h
theorem atI_get {α : Type} {xs : List α} {i : Int} {v : α} (h : atI xs i = some v) : ∃ j, seqIndex? i xs.length = some j ∧ xs[j]? = some v ∧ j < xs.length ∧ -(xs.length : Int) ≤ i ∧ i < xs.length := by
  unfold atI at h
  cases e : ixN xs.length i with
  | none => rw [e] at h; cases h
  | some j =>
    rw [e] at h
    obtain ⟨h1, h2, h3, h4⟩ := ixN_seq e
    exact ⟨j, h1, h, h2, h3, h4⟩
theorem atI_nat {α : Type} {xs : List α} {j : Nat} {v : α} (h : xs[j]? = some v) : atI xs (j : Int) = some v := by
  have hj : j < xs.length := (List.getElem?_eq_some_iff.mp h).1
  have e : ixN xs.length (j : Int) = some j := by
    unfold ixN
    rw [if_pos (by omega), if_pos (by omega)]; simp
  unfold atI; rw [e]; exact h
/-! ### what may be subscripted -/
/-- what stands as an index of a plain subscript -/
def PlainIx (b : Expr) : Prop := ∀ o i, subscripted b false o i = operate [o, i] (getItem o i)
/-- a subscript by values -/
def IxR (X : Cx) (r : R2) : Prop :=
  ∀ (value slice : Expr) (pins : List (Addr × Obj)) (s : Shared) (σ : St) (H : Hp) (x y : V) (v u : Value) (Q : VK), Inv X pins σ H s → RelV x v → RelV y u → r x y H Q →
    subscripted slice false v u = operate [v, u] (getItem v u) → wpAny (model X.prog X.w) X.A (subscriptTail value slice v u) (EP X pins σ Q) X.xe s
/-- a call of a builtin's method by values: the receiver, the arguments -/
def MtR (X : Cx) (id : String) (r : V → List V → Hp → VK → Prop) : Prop :=
  ∀ (pins : List (Addr × Obj)) (s : Shared) (σ : St) (H : Hp) (x : V) (xs : List V) (v : Value) (us : List Value) (Q : VK), Inv X pins σ H s → RelV x v → Vals xs us → r x xs H Q →
    wpAny (model X.prog X.w) X.A (call (.builtin id) (v :: us)) (EP X pins σ Q) X.xe s
section
variable {X : Cx} {a b : Expr} {ta tb : TE} {pos : Pos}
theorem IxR.or {r r' : R2} (h : IxR X r) (h' : IxR X r') : IxR X (fun x y H Q => r x y H Q ∨ r' x y H Q) := by
  intro value slice pins s σ H x y v u Q I rx ry q hs
  rcases q with q | q
  · exact h value slice pins s σ H x y v u Q I rx ry q hs
  · exact h' value slice pins s σ H x y v u Q I rx ry q hs
theorem MtR.or {id : String} {r r' : V → List V → Hp → VK → Prop} (h : MtR X id r) (h' : MtR X id r') : MtR X id (fun x xs H Q => r x xs H Q ∨ r' x xs H Q) := by
  intro pins s σ H x xs v us Q I rx rs q
  rcases q with q | q
  · exact h pins s σ H x xs v us Q I rx rs q
  · exact h' pins s σ H x xs v us Q I rx rs q
/-- a[b] -/
theorem pe_ix {r : R2} (hr : IxR X r) (ha : PE X a ta) (hb : PE X b tb) (hs : PlainIx b) : PE X (.Subscript a b pos) (tOp r ta tb) := by
  intro pins s σ H Q I h
  exact Subscript_ (binT ha hb I h fun v u s2 x y H2 I2 rx ry q => hr a b pins s2 σ H2 x y v u Q I2 rx ry q (hs _ _))

def rIxL (K : PySem.W.Frag) : R2 := fun x y H Q => ∃ p xs i v, x = .ref p ∧ y = .int i ∧ SqL K H p xs ∧ atI xs i = some v ∧ Q v H
def rIxT (K : PySem.W.Frag) : R2 := fun x y H Q => ∃ p xs i v, x = .ref p ∧ y = .int i ∧ SqT K H p xs ∧ atI xs i = some v ∧ Q v H
def rIxS : R2 := fun x y H Q => ∃ z i c, x = .str z ∧ y = .int i ∧ z.length ≤ sizeLine ∧ atI z.cps.toList i = some c ∧ Q (.str ⟨#[c]⟩) H
theorem ix_list : IxR X (rIxL X.K) := by
  intro value slice pins s σ H x y v u Q I rx ry h hs
  obtain ⟨p, xs, i, z, rfl, rfl, hq, he, q⟩ := h
  cases rx
  obtain ⟨t, rfl⟩ := ry
  obtain ⟨its, r, pl, hz⟩ := I.list hq
  obtain ⟨j, h1, h2, h3, h4, h5⟩ := atI_get he
  obtain ⟨w, ew, rw'⟩ := r.get h2
  have hl := r.length
  have hn := line63
  have fin : EP X pins σ Q w s := ⟨z, H, I, rw', q⟩
  by_cases h0 : 0 ≤ i
  · have hj : i.toNat = j := by
      rw [seqIndex_of h0 h5] at h1
      exact Option.some.inj h1
    exact item_listR pl.isList h0 (by omega) (by rw [hj]; simpa using ew) fin hs
  · have hj : (i + (its.toArray.size : Int)).toNat = j := by
      rw [seqIndex_neg (by omega) h4] at h1
      rw [List.size_toArray, ← hl]
      exact Option.some.inj h1
    exact subscriptTail_builtinR (x := w) pl.isList.typeIs slot_list_getitem.lookup
      (wpAny_getItem_list_neg (Q := fun r s' => r = w ∧ EP X pins σ Q r s') pl.isList (by omega) (by rw [List.size_toArray] <;> omega) (by omega) (by rw [hj]; simpa using ew) ⟨rfl, fin⟩) hs
theorem ix_tup : IxR X (rIxT X.K) := by
  intro value slice pins s σ H x y v u Q I rx ry h hs
  obtain ⟨p, xs, i, z, rfl, rfl, hq, he, q⟩ := h
  cases rx
  obtain ⟨t, rfl⟩ := ry
  obtain ⟨its, r, pl, hz⟩ := I.tuple hq
  obtain ⟨j, h1, h2, h3, h4, h5⟩ := atI_get he
  obtain ⟨w, ew, rw'⟩ := r.get h2
  have hl := r.length
  have hn := line63
  have fin : EP X pins σ Q w s := ⟨z, H, I, rw', q⟩
  exact subscriptTail_builtinR (x := w) pl.typeIs slot_tuple_getitem.lookup
    (getItem_tuple (j := j) (Q := fun r s' => r = w ∧ EP X pins σ Q r s') pl (by omega) (by omega) (by rw [List.size_toArray, ← hl]; exact h1) (by simpa using ew) ⟨rfl, fin⟩) hs
theorem ix_str : IxR X rIxS := by
  intro value slice pins s σ H x y v u Q I rx ry h hs
  obtain ⟨z, i, c, rfl, rfl, hz, he, q⟩ := h
  obtain ⟨t, rfl⟩ := rx
  obtain ⟨t', rfl⟩ := ry
  obtain ⟨j, h1, h2, h3, h4, h5⟩ := atI_get he
  have hl : z.cps.toList.length = z.length := by simp [Str.length]
  rw [hl] at h1 h4 h5
  have hn := line63
  exact tail_any (typeIs_str s z t) slot_str_getitem.lookup (getItem_str (c := c) (by
    have e1 : decide (i < -(2 ^ 63 : Int)) = false := decide_eq_false (by omega)
    have e2 : decide (i ≥ 2 ^ 63) = false := decide_eq_false (by omega)
    rw [e1, e2, Bool.or_false]) (by rw [h1]; simpa using h2) ⟨.str ⟨#[c]⟩, H, I.tok _, ⟨_, rfl⟩, q⟩) hs
/-- list, tuple or str -/
def rIx (K : PySem.W.Frag) : R2 := fun x y H Q => rIxL K x y H Q ∨ rIxT K x y H Q ∨ rIxS x y H Q
theorem ix_seq : IxR X (rIx X.K) := ix_list.or (ix_tup.or ix_str)

/-! ### xs[i] = v, any sign -/
theorem Inv.lst {pins : List (Addr × Obj)} {σ : St} {H : Hp} {s : Shared} {p : Addr} {xs : List V} (I : Inv X pins σ H s) (h : H p = some (.lst xs)) :
    ∃ (its : List Value) (n : Nat), Vals xs its ∧ s.heap.get? p = some { cls := .type "list", data := .seq its.toArray n } ∧ xs.length ≤ sizeLine := by
  obtain ⟨z, its, n, r, e⟩ := I.hok p _ h
  exact ⟨its, n, r, e, z⟩
/-! ### slices -/
theorem slice_bounds (lo hi : Option Int) (n : Nat) : (sliceBounds lo hi none n).1 = ((HT.sIx n 0 lo : Nat) : Int) ∧ (sliceBounds lo hi none n).2.1 = ((HT.sIx n n hi : Nat) : Int) ∧ (sliceBounds lo hi none n).2.2 = 1 := by
  refine ⟨?_, ?_, rfl⟩
  · cases lo with
    | none => simp [sliceBounds, HT.sIx]
    | some i =>
      simp only [sliceBounds, HT.sIx, Option.getD_none, show (1 : Int) > 0 by decide, if_true]
      by_cases h : i < 0
      · simp only [h, if_true] <;> omega
      · simp only [h, if_false] <;> omega
  · cases hi with
    | none => simp [sliceBounds, HT.sIx]
    | some i =>
      simp only [sliceBounds, HT.sIx, Option.getD_none, show (1 : Int) > 0 by decide, if_true]
      by_cases h : i < 0
      · simp only [h, if_true] <;> omega
      · simp only [h, if_false] <;> omega
theorem slicePick_cut (its : List Value) (lo hi : Option Int) : slicePick its.toArray lo hi none = ((its.drop (HT.sIx its.length 0 lo)).take (HT.sIx its.length its.length hi - HT.sIx its.length 0 lo)).toArray := by
  obtain ⟨h1, h2, h3⟩ := slice_bounds lo hi its.toArray.size
  unfold slicePick
  rw [h1, h2, h3]
  simp only [sliceRange_one, pick_run, List.size_toArray] <;> rfl
/-- xs[lo:hi] of a list: a new list -/
def rSlL (K : PySem.W.Frag) : V → Option Int → Option Int → Hp → VK → Prop := fun x lo hi H Q => ∃ a xs, x = .ref a ∧ SqL K H a xs ∧ ∀ p, H p = none → Q (.ref p) (upd H p (.lst (cutV xs lo hi)))
theorem sl_list : SlR X (rSlL X.K) := by
  intro pins s σ H x v vl vu lo hi sl Q I rx hs pl pu h
  obtain ⟨a, xs, rfl, hx, q⟩ := h
  cases rx
  obtain ⟨its, r, ht, hz⟩ := I.list hx
  have hlen := r.length
  refine ⟨"list", _, slot_list_getitem.lookup, ht.isList.typeIs, ?_⟩
  refine wpAny_getItem_list_slice ht.isList hs pl pu .none (by simp) ?_ (by rw [List.size_toArray] <;> omega)
  rw [slicePick_cut, ← hlen]
  refine ⟨.ref s.heap.objs.size, _, I.laid (t' := s.toks) (o := .lst (cutV xs lo hi)) (fun b ob q => Heap.get?_push_of_some _ q) (Nat.le_refl _) ?_, rfl, q _ (I.hok.fresh (Nat.le_refl _))⟩
  exact ⟨Nat.le_trans (cutV_length xs lo hi) hz, _, 0, (r.drop (HT.sIx xs.length 0 lo)).take (HT.sIx xs.length xs.length hi - HT.sIx xs.length 0 lo), Heap.get?_push_size _ rfl⟩

/-! ### in, not in: flat items -/
def flatV : V → Bool
  | .non => true
  | .bl _ => true
  | .int _ => true
  | .str _ => true
  | _ => false
/-- == of flat values -/
def eqV : V → V → Bool
  | .non, .non => true
  | .bl a, .bl b => a == b
  | .bl a, .int b => (if a then 1 else 0) == b
  | .int a, .bl b => a == (if b then 1 else 0)
  | .int a, .int b => a == b
  | .str a, .str b => a == b
  | _, _ => false
theorem eqAt_V {A : Around} {s : Shared} {y x : V} {u v : Value} (ry : RelV y u) (rx : RelV x v) (fy : flatV y = true) (fx : flatV x = true) : SeqAt.EqAt A s u v (eqV y x) := by
  cases y with
  | non =>
    cases ry
    cases x with
    | non => cases rx; exact SeqAt.EqAt.same _
    | bl b => cases rx; exact SeqAt.EqAt.none_bool b
    | int b => obtain ⟨t, rfl⟩ := rx; exact SeqAt.EqAt.none_int b t
    | str b => obtain ⟨t, rfl⟩ := rx; exact SeqAt.EqAt.none_str b t
    | _ => exact absurd (show false = true from fx) Bool.false_ne_true
  | bl a =>
    cases ry
    cases x with
    | non => cases rx; exact SeqAt.EqAt.bool_none a
    | bl b => cases rx; exact SeqAt.EqAt.bool_bool a b
    | int b => obtain ⟨t, rfl⟩ := rx; exact SeqAt.EqAt.bool_int a b t
    | str b => obtain ⟨t, rfl⟩ := rx; exact SeqAt.EqAt.bool_str a b t
    | _ => exact absurd (show false = true from fx) Bool.false_ne_true
  | int a =>
    obtain ⟨t', rfl⟩ := ry
    cases x with
    | non => cases rx; exact SeqAt.EqAt.int_none a t'
    | bl b => cases rx; exact SeqAt.EqAt.int_bool a t' b
    | int b => obtain ⟨t, rfl⟩ := rx; exact SeqAt.EqAt.int_int a t' b t
    | str b => obtain ⟨t, rfl⟩ := rx; exact SeqAt.EqAt.int_str a t' b t
    | _ => exact absurd (show false = true from fx) Bool.false_ne_true
  | str a =>
    obtain ⟨t', rfl⟩ := ry
    cases x with
    | non => cases rx; exact SeqAt.EqAt.str_none a t'
    | bl b => cases rx; exact SeqAt.EqAt.str_bool a t' b
    | int b => obtain ⟨t, rfl⟩ := rx; exact SeqAt.EqAt.str_int a t' b t
    | str b => obtain ⟨t, rfl⟩ := rx; exact SeqAt.EqAt.str_str a t' b t
    | _ => exact absurd (show false = true from fx) Bool.false_ne_true
  | _ => exact absurd (show false = true from fy) Bool.false_ne_true
/-- the items' answers, read off the values (a value's own answer does not lean on its token) -/
def eqU (x : V) (u : Value) : Bool := match u with
  | .none => eqV .non x
  | .bool b => eqV (.bl b) x
  | .int i _ => eqV (.int i) x
  | .str z _ => eqV (.str z) x
  | _ => false
theorem eqU_of {x y : V} {u : Value} (r : RelV y u) (f : flatV y = true) : eqU x u = eqV y x := by
  cases y with
  | non => cases r; rfl
  | bl b => cases r; rfl
  | int i => obtain ⟨t, rfl⟩ := r; rfl
  | str z => obtain ⟨t, rfl⟩ := r; rfl
  | _ => exact absurd (show false = true from f) Bool.false_ne_true
theorem any_eqU {x : V} : ∀ {xs : List V} {us : List Value}, Vals xs us → xs.all flatV = true → us.any (eqU x) = xs.any fun y => eqV y x
  | _, _, .nil, _ => rfl
  | y :: xs, u :: us, .cons r t, f => by
    rw [List.all_cons, Bool.and_eq_true] at f
    rw [List.any_cons, List.any_cons, eqU_of r f.1, any_eqU t f.2]
theorem mem_eqAt {A : Around} {s : Shared} {x : V} {v : Value} (rx : RelV x v) (fx : flatV x = true) : ∀ {xs : List V} {us : List Value}, Vals xs us → xs.all flatV = true → ∀ u ∈ us, SeqAt.EqAt A s u v (eqU x u)
  | _, _, .nil, _ => fun u hu => by cases hu
  | y :: xs, u :: us, .cons r t, f => fun u' hu => by
    rw [List.all_cons, Bool.and_eq_true] at f
    rcases List.mem_cons.mp hu with rfl | hu
    · rw [eqU_of r f.1]; exact eqAt_V r rx f.1 fx
    · exact mem_eqAt rx fx t f.2 u' hu
def inV (x : V) (xs : List V) : Bool := xs.any fun y => eqV y x
/-- x in a list or tuple of flat items -/
def rIn (K : PySem.W.Frag) (neg : Bool) : R2 := fun x y H Q => ∃ p xs, y = .ref p ∧ (SqL K H p xs ∨ SqT K H p xs) ∧ flatV x = true ∧ xs.all flatV = true ∧ Q (.bl (if neg then !inV x xs else inV x xs)) H
theorem op_in_seq : OpR X (compareOp .In) (rIn X.K false) := by
  intro pins s σ H x y v u Q I rx ry h
  obtain ⟨p, xs, rfl, hq, fx, fs, q⟩ := h
  cases ry
  rcases hq with hq | hq
  · obtain ⟨its, r, pl, hz⟩ := I.list hq
    refine SeqAt.in_listAt (eqU x) pl.isList (fun w hw => mem_eqAt rx fx r fs w (by simpa using hw)) ⟨.bl _, H, I, rfl, ?_⟩
    rw [show its.toArray.any (eqU x) = its.any (eqU x) by simp, any_eqU r fs]
    exact q
  · obtain ⟨its, r, pl, hz⟩ := I.tuple hq
    refine SeqAt.in_tupleAt (eqU x) pl (fun w hw => mem_eqAt rx fx r fs w (by simpa using hw)) ⟨.bl _, H, I, rfl, ?_⟩
    rw [show its.toArray.any (eqU x) = its.any (eqU x) by simp, any_eqU r fs]
    exact q
/-! ### len, list(x), tuple(x) of any list or tuple that is read -/
theorem call_len_seq : CallR X (.builtin "len") (fun xs H Q => ∃ p ys, xs = [.ref p] ∧ (SqL X.K H p ys ∨ SqT X.K H p ys) ∧ Q (.int ys.length) H) := by
  intro pins s σ H xs us Q I r h
  obtain ⟨p, ys, rfl, hq, q⟩ := h
  obtain ⟨u, rfl, rx⟩ := vals1 r
  cases rx
  have hn := line63
  rcases hq with hq | hq
  · obtain ⟨its, r', pl, hz⟩ := I.list hq
    have hlen := r'.length
    exact Calls.call_len_list pl.isList (by simp only [List.size_toArray] <;> omega) ⟨.int ys.length, H, I.tok _, ⟨s.toks + 1, by rw [List.size_toArray, hlen]⟩, q⟩
  · obtain ⟨its, r', pl, hz⟩ := I.tuple hq
    have hlen := r'.length
    exact len_tuple pl (by simp only [List.size_toArray] <;> omega) ⟨.int ys.length, H, I.tok _, ⟨s.toks + 1, by rw [List.size_toArray, hlen]⟩, q⟩
theorem CallR.or {f : Value} {r r' : List V → Hp → VK → Prop} (h : CallR X f r) (h' : CallR X f r') : CallR X f (fun xs H Q => r xs H Q ∨ r' xs H Q) := by
  intro pins s σ H xs us Q I rs q
  rcases q with q | q
  · exact h pins s σ H xs us Q I rs q
  · exact h' pins s σ H xs us Q I rs q
theorem call_list_of : CallR X (.type "list") (fun xs H Q => ∃ p ys, xs = [.ref p] ∧ (SqL X.K H p ys ∨ SqT X.K H p ys) ∧ ∀ l, H l = none → Q (.ref l) (upd H l (.lst ys))) := by
  intro pins s σ H xs us Q I r h
  obtain ⟨p, ys, rfl, hq, q⟩ := h
  obtain ⟨u, rfl, rx⟩ := vals1 r
  cases rx
  have fin : ∀ (its : List Value), Vals ys its → ys.length ≤ sizeLine → ∀ (h' : Heap) (c' : Nat), (∀ b o', s.heap.get? b = some o' → h'.get? b = some o') →
      h'.get? s.heap.objs.size = some { cls := .type "list", dict := none, data := .seq its.toArray c', slots := #[] } → EP X pins σ Q (.ref s.heap.objs.size) { s with heap := h' } := fun its r' hz h' c' kp e =>
    ⟨.ref s.heap.objs.size, _, I.laid (t' := s.toks) kp (Nat.le_refl _) (show ObjOk X.prog X.w _ h' _ (.lst ys) from ⟨hz, its, c', r', e⟩), rfl, q _ (I.hok.fresh (Nat.le_refl _))⟩
  rcases hq with hq | hq
  · obtain ⟨its, r', pl, hz⟩ := I.list hq
    have hlen := r'.length
    obtain ⟨o, ho, hc, n, hd⟩ := pl.isList
    exact call_list_seq p (.inl rfl) ho hc hd (fun h' c' kp e => fin its r' hz h' c' kp e) (by simp only [List.size_toArray] <;> omega)
  · obtain ⟨its, r', pl, hz⟩ := I.tuple hq
    have hlen := r'.length
    obtain ⟨o, ho, hc, n, hd⟩ := pl
    exact call_list_seq p (.inr rfl) ho hc hd (fun h' c' kp e => fin its r' hz h' c' kp e) (by simp only [List.size_toArray] <;> omega)
/-! ### the call of a builtin's method: o.m(..) -/
/-- the value is of that builtin type -/
def tyV (K : PySem.W.Frag) (T : String) (x : V) (H : Hp) : Prop := match x with
  | .str _ => T = "str"
  | .int _ => T = "int"
  | .ref p => (T = "list" ∧ ∃ xs, SqL K H p xs) ∨ (T = "tuple" ∧ ∃ o, K.lookup p = some o ∧ o.cls = .type "tuple" ∧ o.dict = none) ∨
      (T = "dict" ∧ ((∃ kvs, H p = some (.dK kvs)) ∨ ∃ kvs, H p = some (.dT kvs))) ∨ (T = "set" ∧ ∃ S n, H p = some (.set S n))
  | _ => False
theorem tyV_is {pins : List (Addr × Obj)} {σ : St} {H : Hp} {s : Shared} {T : String} {x : V} {v : Value} (I : Inv X pins σ H s) (r : RelV x v) (ty : tyV X.K T x H) :
    s.TypeIs v T ∧ ∀ a, v = .ref a → ∃ ob, s.heap.get? a = some ob ∧ ob.dict = none := by
  cases x with
  | str z =>
    obtain ⟨t, rfl⟩ := r
    cases (show T = "str" from ty)
    exact ⟨typeIs_str s z t, fun _ e => nomatch e⟩
  | int i =>
    obtain ⟨t, rfl⟩ := r
    cases (show T = "int" from ty)
    exact ⟨typeIs_int s i t, fun _ e => nomatch e⟩
  | ref p =>
    cases r
    rcases ty with ⟨rfl, xs, hq⟩ | ⟨rfl, o, hk, hc, hd⟩ | ⟨rfl, hk⟩ | ⟨rfl, S, n, hk⟩
    · obtain ⟨its, _, pl, _⟩ := I.list hq
      refine ⟨pl.isList.typeIs, fun a e => ?_⟩
      cases e
      obtain ⟨o, n, e, c, hd, _⟩ := pl
      exact ⟨o, e, hd⟩
    · refine ⟨⟨o, I.kIn p o hk, hc⟩, fun a e => ?_⟩
      cases e
      exact ⟨o, I.kIn _ o hk, hd⟩
    · have z : ∃ o, s.heap.get? p = some o ∧ o.ExactDict := by
        rcases hk with ⟨kvs, hk⟩ | ⟨kvs, hk⟩
        · obtain ⟨_, _, _, _, o, _, _, e, ex, _⟩ := I.hok p _ hk
          exact ⟨o, e, ex⟩
        · obtain ⟨_, _, _, _, o, _, _, e, ex, _⟩ := I.hok p _ hk
          exact ⟨o, e, ex⟩
      obtain ⟨o, e, ex⟩ := z
      refine ⟨⟨o, e, ex.1⟩, fun a e2 => ?_⟩
      cases e2
      exact ⟨o, e, ex.2.1⟩
    · obtain ⟨o, _, _, _, e, ex, _⟩ := I.hok p _ hk
      refine ⟨⟨o, e, ex.1⟩, fun a e2 => ?_⟩
      cases e2
      exact ⟨o, e, ex.2.1⟩
  | _ => exact False.elim ty
def tBM0 (K : PySem.W.Frag) (T : String) (r : V → List V → Hp → VK → Prop) (to : TE) : TE := fun σ H Q => to σ H fun x H1 => tyV K T x H1 ∧ r x [] H1 Q
def tBM (K : PySem.W.Frag) (T : String) (r : V → List V → Hp → VK → Prop) (to : TE) (t : TA) : TE := fun σ H Q => to σ H fun x H1 => tyV K T x H1 ∧ t σ H1 fun xs H2 => r x xs H2 Q
variable {o e : Expr} {es : List Expr} {to : TE} {t : TA} {name : Str} {apos cpos : Pos} {T id : String} {r : V → List V → Hp → VK → Prop}
theorem pe_bm0 (pa : PlainAttrs T) (slot : Slot T name id) (hty : typeOf (.builtin id) = pure (.type "method_descriptor")) (hm : MtR X id r) (ho : PE X o to)
    (hbase : attributeBase o name X.env (eval o X.env) = eval o X.env := by rfl) (hline : (apos.endLine == cpos.line) = true := by rfl) : PE X (.Call (.Attribute o name apos) [] [] cpos) (tBM0 X.K T r to) := by
  intro pins s σ H Q I h
  refine wpAny_Call_method0_late hbase hline (thn (ho pins s σ H _ I h) fun v s1 ⟨x, H1, I1, r1, ty, q1⟩ => ?_)
  obtain ⟨h1, h2⟩ := tyV_is I1 r1 ty
  exact ⟨T, id, pa, slot, hty, h1, h2, Calls.callWith_builtin rfl (PySem.evalArgs_none (hm pins s1 σ H1 x [] v [] Q I1 r1 .nil q1))⟩
theorem pe_bm (pa : PlainAttrs T) (slot : Slot T name id) (hty : typeOf (.builtin id) = pure (.type "method_descriptor")) (hm : MtR X id r) (ho : PE X o to) (ha : PA X (e :: es) t)
    (hbase : attributeBase o name X.env (eval o X.env) = eval o X.env := by rfl)
    (hfew : ((backTo cpos (starEach (e :: es) X.env)).all (fun x => !x.1) && (backToKw cpos (keywordEach [] X.env)).all (fun x => x.1.isSome)
      && decide ((e :: es).length + ([] : List Keyword).length + (if ([] : List Keyword).isEmpty then 0 else 1) < 30)) = true := by rfl)
    (hline : (apos.endLine == cpos.line) = true := by rfl) (hs : starEach (e :: es) X.env = (false, eval e X.env) :: starEach es X.env := by rfl) (hplain : (backTo cpos (starEach es X.env)).any (·.1) = false := by rfl) :
    PE X (.Call (.Attribute o name apos) (e :: es) [] cpos) (tBM X.K T r to t) := by
  intro pins s σ H Q I h
  refine wpAny_Call_method_late hbase hfew hline rfl (thn (ho pins s σ H _ I h) fun v s1 ⟨x, H1, I1, r1, ty, q1⟩ => ?_)
  obtain ⟨h1, h2⟩ := tyV_is I1 r1 ty
  refine ⟨T, id, pa, slot, hty, h1, h2, ?_⟩
  have hA := ha cpos pins s1 σ H1 _ I1 q1
  rw [hs] at hA ⊢
  refine Calls.callWith_builtin (by show (false || (backTo cpos (starEach es X.env)).any (·.1)) = false; rw [hplain] <;> rfl) (Calls.evalArgs_plain ?_)
  exact thn hA fun us s2 ⟨vs, H2, I2, r2, q2⟩ => hm pins s2 σ H2 x vs v us Q I2 r1 r2 q2
/- xs.append(e), list.index on a module's tuple .. are MtR facts of 06m -/
end
end L2

namespace L2
open PySem PySem.Spec PyProof.Rows

def MtM (X : Cx) (id : String) (r : V → List V → Hp → VK → Prop) : Prop :=
  ∀ (pins : List (Addr × Obj)) (s : Shared) (σ : St) (H : Hp) (x : V) (xs : List V) (v : Value) (us : List Value) (Q : VK), Inv X pins σ H s → RelV x v → Vals xs us → r x xs H Q →
    wpAny (model X.prog X.w) X.A (call (.builtin id) (v :: us)) (EP X pins σ Q) X.xe s

/-! ### lists of values -/
theorem Vals.one : ∀ {x : V} {us : List Value}, Vals [x] us → ∃ u, us = [u] ∧ RelV x u
  | _, _, .cons r .nil => ⟨_, rfl, r⟩
theorem Vals.two : ∀ {x y : V} {us : List Value}, Vals [x, y] us → ∃ u v, us = [u, v] ∧ RelV x u ∧ RelV y v
  | _, _, _, .cons r (.cons q .nil) => ⟨_, _, rfl, r, q⟩
theorem Vals.zero : ∀ {us : List Value}, Vals [] us → us = []
  | _, .nil => rfl
theorem Vals.reverse {xs : List V} {us : List Value} (h : Vals xs us) : Vals xs.reverse us.reverse := by
  induction h with
  | nil => exact .nil
  | cons r t ih => rw [List.reverse_cons, List.reverse_cons]; exact Vals.append ih (.cons r .nil)
section
variable {X : Cx} {pins : List (Addr × Obj)} {σ : St} {H : Hp} {s : Shared} {l b : Addr} {xs ys zs : List V}

/-! ### the two steps: a tracked list is rewritten, a new list is laid -/
theorem Inv.lset {its its' : List Value} {n : Nat} {f : Array Value → Array Value} {t' : Nat} (I : Inv X pins σ H s) (hH : H l = some (.lst xs))
    (e : s.heap.get? l = some { cls := .type "list", data := .seq its.toArray n }) (hf : f its.toArray = its'.toArray) (hv : Vals ys its') (hz : ys.length ≤ sizeLine) :
    Inv X pins σ (upd H l (.lst ys)) { s with heap := s.heap.update l (Obj.mapSeq f), toks := t' } := by
  have q := PySem.IsL.update e f
  rw [hf] at q
  refine I.write (x := l) (e := l) (by rw [hH]; exact trivial) (.inl rfl) (fun b' u hb hu => (Heap.get?_update_other s.heap (Obj.mapSeq f) (Ne.symm hb)).trans hu) ⟨_, q⟩ ?_
  exact ⟨hz, its', _, hv, q⟩
theorem Inv.lnew {its : List Value} {t' : Nat} (I : Inv X pins σ H s) (hv : Vals ys its) (hz : ys.length ≤ sizeLine) :
    Inv X pins σ (upd H s.heap.objs.size (.lst ys)) { s with heap := s.heap.push { cls := .type "list", data := .seq its.toArray }, toks := t' } :=
  I.laid (fun _ _ q => Heap.get?_push_of_some _ q) (Nat.le_refl _) ⟨hz, its, 0, hv, Heap.get?_push_size _ rfl⟩
theorem Inv.fresh (I : Inv X pins σ H s) : H s.heap.objs.size = none := I.hok.fresh (Nat.le_refl _)
theorem Inv.lstM (I : Inv X pins σ H s) (hH : H l = some (.lst xs)) : xs.length ≤ sizeLine ∧ ∃ (its : List Value) (n : Nat), Vals xs its ∧ xs.length = its.length ∧ s.heap.get? l = some { cls := .type "list", data := .seq its.toArray n } := by
  obtain ⟨z, its, n, r, e⟩ := I.hok l _ hH
  exact ⟨z, its, n, r, r.length, e⟩

end

section
variable {X : Cx}

/-! ### methods -/
def rAppend : V → List V → Hp → VK → Prop := fun x vs H Q => ∃ l xs y, x = .ref l ∧ vs = [y] ∧ H l = some (.lst xs) ∧ xs.length < sizeLine ∧ Q .non (upd H l (.lst (xs ++ [y])))
theorem mt_append : MtM X "list.append" rAppend := by
  intro pins s σ H x vs v us Q I rx rv h
  obtain ⟨l, xs, y, rfl, rfl, hH, hz, q⟩ := h
  cases rx
  obtain ⟨u, rfl, ru⟩ := rv.one
  obtain ⟨z, its, n, r, hl, e⟩ := I.lstM hH
  refine call_meets F.slot_list_append ⟨_, e, rfl⟩ F.entry_list_append (F.args_list_append_2 _ _) (PySem.list_append l its.toArray n u (by rw [List.size_toArray]; omega)) ⟨e, ?_⟩
  refine ⟨.non, _, I.lset (its' := its ++ [u]) hH e (by simp) (r.append (.cons ru .nil)) ?_, rfl, q⟩
  rw [List.length_append, List.length_singleton]
  omega

def rReverse : V → List V → Hp → VK → Prop := fun x vs H Q => ∃ l xs, x = .ref l ∧ vs = [] ∧ H l = some (.lst xs) ∧ Q .non (upd H l (.lst xs.reverse))
theorem mt_reverse : MtM X "list.reverse" rReverse := by
  intro pins s σ H x vs v us Q I rx rv h
  obtain ⟨l, xs, rfl, rfl, hH, q⟩ := h
  cases rx
  have hus := rv.zero
  subst hus
  obtain ⟨z, its, n, r, hl, e⟩ := I.lstM hH
  refine call_meets F.slot_list_reverse ⟨_, e, rfl⟩ F.entry_list_reverse (F.args_list_reverse_1 _) (AutoSeq1.list_reverse_list_0 l its.toArray n (by rw [List.size_toArray]; omega)) ⟨e, ?_⟩
  refine ⟨.non, _, I.lset (its' := its.reverse) hH e (by simp) r.reverse ?_, rfl, q⟩
  rw [List.length_reverse]
  omega

/-! ### list + list, list += list, list * int -/
def rCat : R2 := fun x y H Q => ∃ l b xs zs, x = .ref l ∧ y = .ref b ∧ H l = some (.lst xs) ∧ H b = some (.lst zs) ∧ xs.length + zs.length ≤ sizeLine ∧ ∀ p, H p = none → Q (.ref p) (upd H p (.lst (xs ++ zs)))
theorem op_cat : OpR X (binaryOp .Add) rCat := by
  intro pins s σ H x y v u Q I rx ry h
  obtain ⟨l, b, xs, zs, rfl, rfl, hH, hB, hz, q⟩ := h
  cases rx
  cases ry
  obtain ⟨z, its, n, r, hl, e⟩ := I.lstM hH
  obtain ⟨z2, its2, n2, r2, hl2, e2⟩ := I.lstM hB
  refine PySem.P.add_list e e2 ?_ (by rw [List.size_toArray, List.size_toArray]; omega)
  have ea : its.toArray ++ its2.toArray = (its ++ its2).toArray := by simp
  rw [ea]
  exact ⟨.ref _, _, I.lnew (t' := s.toks) (r.append r2) (by rw [List.length_append]; omega), rfl, q _ I.fresh⟩
/-! ### del xs[i] -/
end

/-! ### xs[a:b] = ys -/
section
variable {prog : Program} {w : World} {A : Around} {E : Value → Shared → Prop} {s : Shared}
set_option maxRecDepth 100000 in
end

section
variable {X : Cx}
end
end L2

namespace Att
open PySem PySem.W PySem.Calls PyProof.Rows

/-! ### the script -/
theorem ints_of_wellAll {P : Params} {h : Heap} : ∀ (ns : List Int) (vs : List Value), WellAll P h vs (ns.map WData.int) → IntsAre vs ns := by
  intro ns
  induction ns with
  | nil =>
    intro vs w
    rw [List.map_nil] at w
    cases w
    exact .nil
  | cons n ns ih =>
    intro vs w
    rw [List.map_cons] at w
    cases w with
    | cons a b =>
      cases a
      exact .cons _ _ (ih _ b)

theorem script_of {l : OpenLaw} {n : Nat} (hn : l.most = some n) {P : Params} {h : Heap} {args : List WData} {vals : List Value}
    (hpre : l.row.toRowW.claim.pre args = true) (hwl : WellAll P h vals args) :
    ∃ a vs ns, vals = [Value.ref a] ∧ args = [WData.list (ns.map WData.int)] ∧ h.get? a = some { cls := .type "list", data := .seq vs.toArray } ∧ IntsAre vs ns ∧ ns.length ≤ n := by
  have hsh : WShape.hasAll [] args [.list .int] = true := (pre_splitW hpre).1
  have hc : l.pre.holds [] { args := args } = true := (pre_splitW hpre).2
  obtain ⟨d, r, rfl, h1, h2⟩ := hasAllW_cons hsh
  obtain rfl := hasAllW_nil h2
  obtain ⟨xs, rfl, h3⟩ := hasW_list h1
  obtain ⟨ns, rfl⟩ := items_int h3
  have hlen : ns.length ≤ n := by
    unfold OpenLaw.pre at hc
    have h4 : (WTm.not (.lt (.lit (.int (n : Int))) (.len (.arg 0)))).holds [] { args := [.list (ns.map .int)] } = true := by
      have h4 := (holds_andW hc).1
      rw [hn] at h4
      exact h4
    have h5 := condW_of h4 (w_not (w_lt w_lit (w_len_list (w_arg rfl))))
    rw [List.length_map] at h5
    refine Nat.le_of_not_lt fun q => ?_
    have q' : (n : Int) < ((ns.length : Nat) : Int) := by omega
    first
      | (rw [decide_eq_true q'] at h5; exact absurd h5 (by decide))
      | (simp at h5; omega)
  cases hwl with
  | cons w1 w2 =>
    cases w2
    cases w1 with
    | list ho hall => exact ⟨_, _, ns, rfl, rfl, ho, ints_of_wellAll ns _ hall, hlen⟩

theorem post_true (l : OpenLaw) (args : List WData) : l.row.toRowW.claim.post args (.bool true) args = true :=
  postW_of (r := l.row.toRowW) (X := (true == true))
    (show WShape.has [] (.bool true) .bool = true by first | rfl | decide | simp [WShape.has, WShape.arms, WShape.armsAll])
    (show (WTm.eq .res (.lit (.bool true))).value [] { args := args, res := some (.bool true), after := args } = some (.bool (true == true)) from w_eq_bool (w_res rfl) w_lit) rfl

/-! ### the attachment: holds_open's last premise (the goal 'hc' behind k_head) from a wpAny of the law's body -/
/-- the same from a codeAny of the CALL (for a layer whose function contracts speak of calls) -/
theorem attach_call {l : OpenLaw} {n : Nat} {q : Program} {loose : List Str} {XP : (Str → Option Value) → Heap → Prop} {YP : World → Heap → Prop} {d : DefRec}
    (hn : l.most = some n) (hdf : d.params.defaults = [])
    (call : ∀ (w : World) (s₀ s₁ : Shared) (mg mb : Str → Option Value) (fa : Addr) (o : Obj) (pm cd doc : Value) (a : Addr) (vs : List Value) (ns : List Int),
      Ground q loose [] XP w s₀ mg mb s₁.heap → YP w s₁.heap →
      s₁.heap.get? fa = some o → o.data = .func (docDef d.name d.params d.body d.scope pm cd doc) → s₁.heap.CodeRec cd d.name → mg d.name = some (.ref fa) →
      s₁.heap.get? a = some { cls := .type "list", data := .seq vs.toArray } → IntsAre vs ns → ns.length ≤ n → s₁.gens = #[] →
      codeAny (model l.prog w) callerA (.call (.ref fa) ⟨[.ref a], []⟩) (fun r s' => r = .ok (.ret (.bool true)) ∧ OldK s₁.heap s'.heap ∧ s'.os = s₁.os ∧ AllBare s'.gens) s₁) :
    WalkO q loose XP YP l.row.toRowW d [] (fun f vs => PySem.call f vs) := by
  intro w s₀ s₁ mg mb G Y fa o pm cd doc dV kV ho hd hcd hD hmg hg args vals as hpre hlay hrd hwl hlo
  obtain rfl : dV = .none := Dflts.none hD hdf
  obtain rfl : kV = .none := Dflts.noKw hD
  obtain ⟨a, vs, ns, rfl, rfl, hobj, hints, hlen⟩ := script_of hn hpre hwl
  refine enter_call (codeAny_mono (call w s₀ s₁ mg mb fa o pm cd doc a vs ns G Y ho (fd_plain hd) hcd hmg hobj hints hlen hg) fun r s' hq => ?_)
  obtain ⟨rfl, h2, h3, h4⟩ := hq
  exact ⟨.inl ⟨.bool true, .bool true, [], rfl, fun _ => rfl, .bool true, post_true l _, fun _ => ⟨List.Pairwise.nil, fun _ hm => (nomatch hm)⟩⟩, h2, h3, h4⟩

/-! ### rules over ANY heap (no ledger) from facts about the written part K: the library's own take a ledger (News) for what they write -/
section
variable {prog : Program} {w : World} {A : Around} {E : Value → Shared → Prop} {s : Shared} {K : Frag}

/-! the whole heap as the ledger: makes every rule that writes through a ledger a rule over any heap -/
def ledger (h : Heap) (L d : Addr) : List (Addr × Obj) := (List.range h.objs.size).filterMap fun a => if a = L ∨ a = d then none else (h.get? a).map fun o => (a, o)
end
end Att

namespace L2
open PySem PySem.Spec PyProof.Rows

theorem vals_ints : ∀ {vs : List Value} {ns : List Int}, IntsAre vs ns → Vals (ns.map V.int) vs
  | _, _, .nil => .nil
  | _, _, .cons n t h => .cons ⟨t, rfl⟩ (vals_ints h)

/-- nothing is tracked but the script, known to the object (or it is an object of the module) -/
def Only (H : Hp) : Prop := ∀ b, H b = none ∨ ∃ o xs, H b = some (.frz o (.lst xs))

/-- THE HEAD: the law's promise, at the heap behind the top. F, the promise of the law's def, may use that base is part of the heap (so K.In base, base.Ns mainGlobals mg stand in Mod) -/
theorem law_call {P : Program} {w : World} {K : PySem.W.Frag} {mg mb : Str → Option Value} {CX : CXT} {k : Nat} {fa a : Addr} {fd : FuncData} {x : Str} {sp : Sp} {s₁ : Shared} {vs : List Value} {ns : List Int}
    (KX : K.In s₁.heap) (hns : s₁.heap.Ns mainGlobals mg) (hb : s₁.heap.Ns builtinsNs mb) (hbb : ∀ x : Str, x ≠ "__name__" → mb x = bootBuiltins x) (hlim : s₁.heap.NoLimit) (hg : s₁.gens = #[])
    (ha : s₁.heap.get? a = some { cls := .type "list", data := .seq vs.toArray }) (hi : IntsAre vs ns) (hl : ns.length ≤ sizeLine) (hr : Room k callerA)
    (F : ∀ base : Heap, K.In base → base.Ns mainGlobals mg → FnOk P w K mg base CX k fa fd [x] sp) (hbind : ∀ (s : Shared) (u : Value), BindsTo s fd ⟨[u], []⟩ [(x, u)])
    (hsp : ∀ H : Hp, Only H → SqL K H a (ns.map V.int) → sp [.ref a] H (fun v _ => v = .bl true) fun _ _ _ => False)
    (hCX : ∀ H e s', CX [] H s₁ (fun _ _ _ => False) e s' → False) :
    codeAny (model P w) callerA (.call (.ref fa) ⟨[.ref a], []⟩) (fun r s' => r = .ok (.ret (.bool true)) ∧ OldK s₁.heap s'.heap ∧ s'.os = s₁.os ∧ AllBare s'.gens) s₁ := by
  have rv := vals_ints hi
  have lenV := hi.length
  -- from an abstract heap in which nothing but the script may be tracked
  have core : ∀ H : Hp, Only H → SqL K H a (ns.map V.int) → HOk P w H s₁.heap → (∀ b, H b ≠ none → b = a) → (H a ≠ none → K.lookup a = none) →
      codeAny (model P w) callerA (.call (.ref fa) ⟨[.ref a], []⟩) (fun r s' => r = .ok (.ret (.bool true)) ∧ OldK s₁.heap s'.heap ∧ s'.os = s₁.os ∧ AllBare s'.gens) s₁ := by
    intro H hO hS hok hA hK
    have base_of : ∀ {b : Addr} {o : Obj}, s₁.heap.get? b = some o → H b = none → (hidT s₁.heap H).get? b = some o := fun e n => hidT_get e n
    have noA : ∀ {b : Addr} {o : Obj} {es : Array DictEntry} {ep : Nat}, s₁.heap.get? b = some o → o.data = .dict es ep → H b = none := fun {b o es ep} e d => by
      cases q : H b with
      | none => rfl
      | some u =>
        have e' : b = a := hA b (by rw [q]; simp)
        subst e'
        rw [ha] at e; cases e
        have d' : Data.seq vs.toArray _ = Data.dict es ep := d
        cases d'
    have nsK : ∀ {b : Addr} {m : Str → Option Value}, s₁.heap.Ns b m → (hidT s₁.heap H).Ns b m := fun {b m} ⟨o, es, ep, e, d, r⟩ => ⟨o, es, ep, base_of e (noA e d), d, r⟩
    have hKb : K.In (hidT s₁.heap H) := fun b o e => base_of (KX b o e) (by
      cases q : H b with
      | none => rfl
      | some u =>
        have e' : b = a := hA b (by rw [q]; simp)
        subst e'
        rw [hK (by rw [q]; simp)] at e; cases e)
    have hM : Mod K mg (hidT s₁.heap H) := ⟨hKb, nsK hns, ⟨mb, nsK hb, hbb⟩, let ⟨mc, h1, h2⟩ := hlim; ⟨mc, nsK h1, h2⟩⟩
    have e0 : Env0 P w K mg (hidT s₁.heap H) callerA [] s₁ H := ⟨rfl, hM, fun b o e => of_hidT e, Nat.le_of_eq (hidT_size _ _), trivial, fun b hb => absurd (show b ∈ ([] : List Addr) from hb) (by simp), hok, .of_eq hg⟩
    refine codeAny_mono ((F _ hKb (nsK hns)).run callerA [] s₁ H ⟨[.ref a], []⟩ [.ref a] [.ref a] _ _ hr e0 (hbind s₁ (.ref a)) (.cons rfl .nil) (hsp H hO hS)) fun r s' h => ?_
    cases r with
    | error e => exact (hCX H e s' h).elim
    | ok fl =>
      cases fl with
      | next => exact False.elim h
      | brk => exact False.elim h
      | cont => exact False.elim h
      | ret u =>
        obtain ⟨v, H', os, bare, un, hok', r', q⟩ := h
        have q' : v = .bl true := q
        subst q'
        obtain rfl : u = Value.bool true := r'
        refine ⟨rfl, OldK.of_keep fun b o e => ?_, os, bare⟩
        cases q : H b with
        | none => exact un.keep b o e q (by intro z; exact absurd (show b ∈ ([] : List Addr) from z) (by simp)) (by simp)
        | some u =>
          rcases hO b with z | ⟨ob, xs, z⟩
          · rw [q] at z; cases z
          · have z2 := un.frzs b ob _ z
            obtain ⟨e1, _⟩ := hok b _ z
            obtain ⟨e2, _⟩ := hok' b _ z2
            rw [e] at e1; cases e1
            exact e2
  cases hk : K.lookup a with
  | some o =>
    -- the script is one of the module's own objects
    have e := KX a o hk
    rw [ha] at e
    cases e
    refine core (fun _ => none) (fun _ => .inl rfl) (.inr ⟨_, vs.toArray, _, hk, rfl, rfl, rfl, by rw [List.size_toArray, lenV]; exact hl, by simpa using rv⟩) (fun b u z => by have z' : (none : Option HO) = some u := z; cases z') (fun b z => absurd rfl z) fun z => absurd rfl z
  | none =>
    refine core (fun b => if b = a then some (.frz { cls := .type "list", data := .seq vs.toArray } (.lst (ns.map V.int))) else none) (fun b => ?_) (.inl (.inr ⟨{ cls := .type "list", data := .seq vs.toArray }, if_pos rfl⟩)) (fun b u z => ?_) (fun b z => ?_) fun _ => hk
    · by_cases hb : b = a
      · exact .inr ⟨_, _, if_pos hb⟩
      · exact .inl (if_neg hb)
    · by_cases hb : b = a
      · have z' := (if_pos hb).symm.trans z
        cases z'
        subst hb
        exact ⟨ha, by rw [List.length_map]; exact hl, vs, _, rv, ha⟩
      · have z' := (if_neg hb).symm.trans z
        cases z'
    · by_cases hb : b = a
      · exact hb
      · exact absurd (if_neg hb) z
end L2

namespace L2
open PySem PySem.Spec PyProof.Rows

abbrev KOf {K : PySem.W.Frag} {h : Heap} (_ : K.In h) : PySem.W.Frag := K

/-- the goal that k_head leaves (case hc), from the law's promise. F gives the function object fd (K's own) once, then the promise over every base -/
theorem walk_of {l : PySem.W.OpenLaw} {n k : Nat} {q : Program} {loose : List Str} {XP : (Str → Option Value) → Heap → Prop} {YP : World → Heap → Prop} {d : DefRec} {K : Params → PySem.W.Frag} {CX : World → CXT} {sp : World → Sp} {x : Str}
    (hn : l.most = some n) (hn2 : n ≤ sizeLine) (hdf : d.params.defaults = []) (hr : Room k callerA)
    (hY : ∀ (w : World) (h : Heap), YP w h → (K w.params).In h)
    (F : ∀ (w : World) (mg : Str → Option Value) (fa : Addr) (h : Heap), (K w.params).In h → h.Ns mainGlobals mg → mg d.name = some (.ref fa) →
      ∃ fd : FuncData, (∀ (s : Shared) (u : Value), BindsTo s fd ⟨[u], []⟩ [(x, u)]) ∧
        ∀ base : Heap, (K w.params).In base → base.Ns mainGlobals mg → FnOk l.prog w (K w.params) mg base (CX w) k fa fd [x] (sp w))
    (hsp : ∀ (w : World) (H : Hp) (a : Addr) (ns : List Int), ns.length ≤ n → Only H → SqL (K w.params) H a (ns.map V.int) → sp w [.ref a] H (fun v _ => v = .bl true) fun _ _ _ => False)
    (hCX : ∀ (w : World) (H : Hp) (s : Shared) (e : Value) (s' : Shared), CX w [] H s (fun _ _ _ => False) e s' → False) :
    PySem.W.WalkO q loose XP YP l.row.toRowW d [] (fun f vs => PySem.call f vs) := by
  refine Att.attach_call hn hdf fun w s₀ s₁ mg mb fa o pm cd doc a vs ns G Y ho hd hcd hmg hobj hints hlen hg => ?_
  have KX := hY w _ Y
  obtain ⟨fd, hb, hF⟩ := F w mg fa _ KX G.T.g hmg
  exact law_call KX G.T.g G.T.b G.T.builtins G.T.nolimit hg hobj hints (Nat.le_trans hlen hn2) hr hF hb (fun H hO hS => hsp w H a ns hlen hO hS) fun H e s' => hCX w H s₁ e s'
end L2


/-! SHORT WORDS over the layer: a def of the text, its body, what a loop and a test want. -/
namespace L2
open PySem PySem.Spec PyProof.Rows

/-! ### the text by places -/
/-- the j-th statement of a class's body -/
def inClass (s : Stmt) (j : Nat) : Stmt := match s with
  | .ClassDef _ _ _ body _ _ _ _ _ _ _ => body.getD j (.Pass ⟨0, 0, 0, 0⟩)
  | _ => .Pass ⟨0, 0, 0, 0⟩
def defArgs (s : Stmt) : Arguments := match s with
  | .FunctionDef _ a _ _ _ _ _ _ _ _ => a
  | _ => { posonlyargs := [], args := [], vararg := none, kwonlyargs := [], kw_defaults := [], kwarg := none, defaults := [] }
def defBody (s : Stmt) : List Stmt := match s with
  | .FunctionDef _ _ b _ _ _ _ _ _ _ => b
  | _ => []
def defScope (s : Stmt) : Scope := match s with
  | .FunctionDef _ _ _ _ _ _ sc _ _ _ => sc
  | _ => { kind := .function, names := [], isGenerator := false, isCoroutine := false }

/-! ### no exception leaves a def -/
abbrev CX0 : CXT := fun _ _ _ _ _ _ => False
abbrev E0 : XK := fun _ _ _ => False
theorem pass0 {X : Cx} : Passes CX0 X E0 := fun _ _ _ _ _ _ _ h => h.elim

/-! ### a def (or method) of the text as it stands behind the top -/
structure Fun (K : PySem.W.Frag) (x qual : Str) (st : Stmt) (f : Addr) (fd : FuncData) : Prop where
  ex : ∃ (oc : Value) (od : Option Addr) (kV doc pm : Value) (an : Option Addr) (cdv ct : Value) (osl : Array (Option Value)),
    fd = PySem.W.fnOf x qual (defArgs st) (defBody st) (defScope st) .none kV doc pm an cdv ct ∧ K.lookup f = some ⟨oc, od, .func fd, osl⟩ ∧ PySem.W.codeIn K cdv qual = true
  kp : PySem.W.keepIn K (.ref f) = true
section
variable {P : Program} {w : World} {K : PySem.W.Frag} {mg : Str → Option Value} {base : Heap}
/-- THE RULE for a def: its body as a term of rules, and the reading of that term -/
theorem Fun.ok {x qual : Str} {st : Stmt} {f : Addr} {fd : FuncData} {N ps : List Str} {k : Nat} {sp : Sp} (F : Fun K x qual st f fd) (S : FnScope N ps (defScope st)) (len : ∀ vs H Q E, sp vs H Q E → vs.length = ps.length)
    (hbody : ∀ (cdv : Value) (A : Around) (outer : List Env) (s : Shared) (H : Hp) (vs : List V) (Q : VK) (E : XK), Room k (A.deeper (envOfC qual (defScope st) s.heap.objs.size f cdv)) → sp vs H Q E →
      ∃ t, PSs (cxOf CX0 P w K mg base N qual (defScope st) f cdv A outer s H E).nox (defBody st) t ∧ t { nx := fun _ H' => Q .non H', rt := Q } (start N vs) H) : FnOk P w K mg base CX0 (k + 1) f fd ps sp := by
  obtain ⟨oc, od, kV, doc, pm, an, cdv, ct, osl, rfl, lk, hcd⟩ := F.ex
  refine fn_of lk hcd S len fun A outer s H vs Q E hr hsp => ?_
  obtain ⟨t, h, q⟩ := hbody cdv A outer s H vs Q E hr hsp
  exact ⟨t, h.nox, q⟩
/-- how its arguments bind (no defaults): h is «fun _ _ _ _ _ _ us hl => match us, hl with | [_, _], _ => rfl», one _ a parameter -/
theorem Fun.binds {x qual : Str} {st : Stmt} {f : Addr} {fd : FuncData} {ps : List Str} (F : Fun K x qual st f fd)
    (h : ∀ (kV doc pm : Value) (an : Option Addr) (cdv ct : Value) (us : List Value), us.length = ps.length → bindArgs (PySem.W.fnOf x qual (defArgs st) (defBody st) (defScope st) .none kV doc pm an cdv ct) ⟨us, []⟩ = pure (ps.zip us)) : Binds K fd ps [] := by
  obtain ⟨oc, od, kV, doc, pm, an, cdv, ct, osl, rfl, lk, hcd⟩ := F.ex
  exact .all (h kV doc pm an cdv ct)
theorem fun_mk {x qual : Str} {st : Stmt} {f : Addr} {oc : Value} {od an : Option Addr} {osl : Array (Option Value)} {kV doc pm cdv ct : Value} (l : K.lookup f = some ⟨oc, od, .func (PySem.W.fnOf x qual (defArgs st) (defBody st) (defScope st) .none kV doc pm an cdv ct), osl⟩)
    (c : PySem.W.codeIn K cdv qual = true) (k : PySem.W.keepIn K (.ref f) = true) : Fun K x qual st f (PySem.W.fnOf x qual (defArgs st) (defBody st) (defScope st) .none kV doc pm an cdv ct) := ⟨⟨oc, od, kV, doc, pm, an, cdv, ct, osl, rfl, l, c⟩, k⟩
end
/-! ### expressions in short: the name that stands in the i-th slot -/
section
variable {X : Cx}
theorem pv (i : Nat) {x : Str} {pos : Pos} (hN : X.N[i]? = some x := by rfl) (hv : Vis X.env.scope x := by first | exact Or.inl rfl | exact Or.inr (Or.inl rfl) | exact Or.inr (Or.inr rfl)) (hd : (x == ("__debug__" : Str)) = false := by decide)
    (hcd : (x == ("__classdict__" : Str)) = false := by decide) : PE X (.Name x pos) (tVar i) := pe_var hN hv hd hcd
end

/-! ### tests -/
theorem iteF {A B : Prop} (h : B) : if false = true then A else B := by
  rw [if_neg Bool.false_ne_true]
  exact h
theorem iteT {A B : Prop} (h : A) : if true = true then A else B := by
  rw [if_pos rfl]
  exact h
theorem ite2 {c A B : Prop} [Decidable c] (h1 : c → A) (h2 : ¬ c → B) : if c then A else B := by
  by_cases h : c
  · rw [if_pos h]
    exact h1 h
  · rw [if_neg h]
    exact h2 h
/-! ### heaps -/
/-- all that was tracked is as it was -/
def Same (H H' : Hp) : Prop := ∀ b o, H b = some o → H' b = some o
theorem Same.refl (H : Hp) : Same H H := fun _ _ h => h
theorem Same.trans {H H1 H2 : Hp} (a : Same H H1) (b : Same H1 H2) : Same H H2 := fun c o h => b c o (a c o h)
theorem Same.free {H H' : Hp} (e : Same H H') {l : Addr} (h : H' l = Option.none) : H l = Option.none := by
  cases q : H l with
  | none => rfl
  | some o =>
    rw [e l o q] at h
    cases h
theorem Same.seq {K : PySem.W.Frag} {H H' : Hp} {a : Addr} {xs : List V} (e : Same H H') (h : SqL K H a xs) : SqL K H' a xs := by
  rcases h with (h | ⟨o, h⟩) | h
  · exact .inl (.inl (e _ _ h))
  · exact .inl (.inr ⟨o, e _ _ h⟩)
  · exact .inr h

end L2

set_option maxRecDepth 1000000
set_option maxHeartbeats 0
open PySem in
def My.top (i : Nat) : Stmt := PySem.Challenge.pw_oddbases_k11_worth_summed.main.body.getD i (.Pass ⟨0, 0, 0, 0⟩)
section
open PySem My
abbrev My.N_ := @W.BT.node
noncomputable def My.o544 : ((x0 : @Params) → @Obj) := (fun (x0 : @Params) => (@Obj.mk (.type "function") none (@Data.func (@FuncData.mk (.ofString "law") (.ofString "law") (L2.defArgs (My.top 31)) (@FuncBody.stmts (L2.defBody (My.top 31))) (L2.defScope (My.top 31)) 3 (@List.nil.{0} (@Prod.{0, 0} @Str @Nat)) .none .none .none (.str (.ofString "law_oddbases_k11_worth_summed") 700) none (.ref 477) .none 0)) (@List.toArray.{0} (@Option.{0} @Value) (@List.nil.{0} (@Option.{0} @Value)))))
noncomputable def My.o543 : ((x0 : @Params) → @Obj) := (fun (x0 : @Params) => (@Obj.mk (.type "code") none (@Data.fields (List.toArray [(.str (.ofString "law") 773), (.str (.ofString "law") 774), (.str (.ofString "/claim/cut.py") 775), (@Value.int (204 : Int) 0), (@Value.int (1 : Int) 0), (@Value.int (0 : Int) 0), (@Value.int (0 : Int) 0), (@Value.int (3 : Int) 0), (.ref 474), (.bool @Bool.true), (@Value.int (181 : Int) 0), (.ref 475), .none, .none, .none, (.ref 476), (@Value.int (776 : Int) 0), (@Value.int (204 : Int) 0), (.str (.ofString "/claim/cut.py") 777)])) (@List.toArray.{0} (@Option.{0} @Value) (@List.nil.{0} (@Option.{0} @Value)))))
noncomputable def My.o542 : ((x0 : @Params) → @Obj) := (fun (x0 : @Params) => (@Obj.mk .none none (@Data.func (@FuncData.mk (.ofString "law") (.ofString "law") (L2.defArgs (My.top 31)) (@FuncBody.stmts (L2.defBody (My.top 31))) (L2.defScope (My.top 31)) 0 (@List.nil.{0} (@Prod.{0, 0} @Str @Nat)) .none .none .none .none none .none .none 0)) (@List.toArray.{0} (@Option.{0} @Value) (@List.nil.{0} (@Option.{0} @Value)))))
noncomputable def My.o541 : ((x0 : @Params) → @Obj) := (fun (x0 : @Params) => (@Obj.mk .none none (@Data.fields #[]) (@List.toArray.{0} (@Option.{0} @Value) (@List.nil.{0} (@Option.{0} @Value)))))
noncomputable def My.o540 : ((x0 : @Params) → @Obj) := (fun (x0 : @Params) => (@Obj.mk (.type "tuple") none (@Data.seq #[] 0) (@List.toArray.{0} (@Option.{0} @Value) (@List.nil.{0} (@Option.{0} @Value)))))
noncomputable def My.o539 : ((x0 : @Params) → @Obj) := (fun (x0 : @Params) => (@Obj.mk (.type "function") none (@Data.func (@FuncData.mk (.ofString "_law_thing") (.ofString "_law_thing") (L2.defArgs (My.top 30)) (@FuncBody.stmts (L2.defBody (My.top 30))) (L2.defScope (My.top 30)) 3 (@List.nil.{0} (@Prod.{0, 0} @Str @Nat)) .none .none .none (.str (.ofString "law_oddbases_k11_worth_summed") 700) none (.ref 472) .none 0)) (@List.toArray.{0} (@Option.{0} @Value) (@List.nil.{0} (@Option.{0} @Value)))))
noncomputable def My.o538 : ((x0 : @Params) → @Obj) := (fun (x0 : @Params) => (@Obj.mk (.type "code") none (@Data.fields (List.toArray [(.str (.ofString "_law_thing") 765), (.str (.ofString "_law_thing") 766), (.str (.ofString "/claim/cut.py") 767), (@Value.int (201 : Int) 0), (@Value.int (1 : Int) 0), (@Value.int (0 : Int) 0), (@Value.int (0 : Int) 0), (@Value.int (3 : Int) 0), (.ref 467), (.bool @Bool.true), (@Value.int (181 : Int) 0), (.ref 468), .none, (.ref 469), (.ref 470), (.ref 471), (@Value.int (770 : Int) 0), (@Value.int (201 : Int) 0), (.str (.ofString "/claim/cut.py") 771)])) (@List.toArray.{0} (@Option.{0} @Value) (@List.nil.{0} (@Option.{0} @Value)))))
noncomputable def My.o537 : ((x0 : @Params) → @Obj) := (fun (x0 : @Params) => (@Obj.mk .none none (@Data.func (@FuncData.mk (.ofString "_law_thing") (.ofString "_law_thing") (L2.defArgs (My.top 30)) (@FuncBody.stmts (L2.defBody (My.top 30))) (L2.defScope (My.top 30)) 0 (@List.nil.{0} (@Prod.{0, 0} @Str @Nat)) .none .none .none .none none .none .none 0)) (@List.toArray.{0} (@Option.{0} @Value) (@List.nil.{0} (@Option.{0} @Value)))))
noncomputable def My.o536 : ((x0 : @Params) → @Obj) := (fun (x0 : @Params) => (@Obj.mk (.type "tuple") none (@Data.seq #[] 0) (@List.toArray.{0} (@Option.{0} @Value) (@List.nil.{0} (@Option.{0} @Value)))))
noncomputable def My.o535 : ((x0 : @Params) → @Obj) := (fun (x0 : @Params) => (@Obj.mk (.type "tuple") none (@Data.seq (List.toArray [(.str (.ofString "_law_cell") 768), (.str (.ofString "_law_far") 769)]) 0) (@List.toArray.{0} (@Option.{0} @Value) (@List.nil.{0} (@Option.{0} @Value)))))
noncomputable def My.o534 : ((x0 : @Params) → @Obj) := (fun (x0 : @Params) => (@Obj.mk .none none (@Data.fields #[]) (@List.toArray.{0} (@Option.{0} @Value) (@List.nil.{0} (@Option.{0} @Value)))))
noncomputable def My.o533 : ((x0 : @Params) → @Obj) := (fun (x0 : @Params) => (@Obj.mk (.type "tuple") none (@Data.seq #[] 0) (@List.toArray.{0} (@Option.{0} @Value) (@List.nil.{0} (@Option.{0} @Value)))))
noncomputable def My.o532 : ((x0 : @Params) → @Obj) := (fun (x0 : @Params) => (@Obj.mk (.type "function") none (@Data.func (@FuncData.mk (.ofString "_law_is_number") (.ofString "_law_is_number") (L2.defArgs (My.top 29)) (@FuncBody.stmts (L2.defBody (My.top 29))) (L2.defScope (My.top 29)) 3 (@List.nil.{0} (@Prod.{0, 0} @Str @Nat)) .none .none .none (.str (.ofString "law_oddbases_k11_worth_summed") 700) none (.ref 465) .none 0)) (@List.toArray.{0} (@Option.{0} @Value) (@List.nil.{0} (@Option.{0} @Value)))))
noncomputable def My.o531 : ((x0 : @Params) → @Obj) := (fun (x0 : @Params) => (@Obj.mk (.type "code") none (@Data.fields (List.toArray [(.str (.ofString "_law_is_number") 757), (.str (.ofString "_law_is_number") 758), (.str (.ofString "/claim/cut.py") 759), (@Value.int (197 : Int) 0), (@Value.int (2 : Int) 0), (@Value.int (0 : Int) 0), (@Value.int (0 : Int) 0), (@Value.int (3 : Int) 0), (.ref 460), (.bool @Bool.true), (@Value.int (181 : Int) 0), (.ref 461), .none, (.ref 462), (.ref 463), (.ref 464), (@Value.int (762 : Int) 0), (@Value.int (197 : Int) 0), (.str (.ofString "/claim/cut.py") 763)])) (@List.toArray.{0} (@Option.{0} @Value) (@List.nil.{0} (@Option.{0} @Value)))))
noncomputable def My.o530 : ((x0 : @Params) → @Obj) := (fun (x0 : @Params) => (@Obj.mk .none none (@Data.func (@FuncData.mk (.ofString "_law_is_number") (.ofString "_law_is_number") (L2.defArgs (My.top 29)) (@FuncBody.stmts (L2.defBody (My.top 29))) (L2.defScope (My.top 29)) 0 (@List.nil.{0} (@Prod.{0, 0} @Str @Nat)) .none .none .none .none none .none .none 0)) (@List.toArray.{0} (@Option.{0} @Value) (@List.nil.{0} (@Option.{0} @Value)))))
noncomputable def My.o529 : ((x0 : @Params) → @Obj) := (fun (x0 : @Params) => (@Obj.mk (.type "tuple") none (@Data.seq #[] 0) (@List.toArray.{0} (@Option.{0} @Value) (@List.nil.{0} (@Option.{0} @Value)))))
noncomputable def My.o528 : ((x0 : @Params) → @Obj) := (fun (x0 : @Params) => (@Obj.mk (.type "tuple") none (@Data.seq (List.toArray [(.str (.ofString "_law_found") 760), (.str (.ofString "_law_kind") 761)]) 0) (@List.toArray.{0} (@Option.{0} @Value) (@List.nil.{0} (@Option.{0} @Value)))))
noncomputable def My.o527 : ((x0 : @Params) → @Obj) := (fun (x0 : @Params) => (@Obj.mk .none none (@Data.fields #[]) (@List.toArray.{0} (@Option.{0} @Value) (@List.nil.{0} (@Option.{0} @Value)))))
noncomputable def My.o526 : ((x0 : @Params) → @Obj) := (fun (x0 : @Params) => (@Obj.mk (.type "tuple") none (@Data.seq #[] 0) (@List.toArray.{0} (@Option.{0} @Value) (@List.nil.{0} (@Option.{0} @Value)))))
noncomputable def My.o525 : ((x0 : @Params) → @Obj) := (fun (x0 : @Params) => (@Obj.mk (.type "function") none (@Data.func (@FuncData.mk (.ofString "_law_worth") (.ofString "_law_worth") (L2.defArgs (My.top 28)) (@FuncBody.stmts (L2.defBody (My.top 28))) (L2.defScope (My.top 28)) 3 (@List.nil.{0} (@Prod.{0, 0} @Str @Nat)) .none .none .none (.str (.ofString "law_oddbases_k11_worth_summed") 700) none (.ref 458) .none 0)) (@List.toArray.{0} (@Option.{0} @Value) (@List.nil.{0} (@Option.{0} @Value)))))
noncomputable def My.o524 : ((x0 : @Params) → @Obj) := (fun (x0 : @Params) => (@Obj.mk (.type "code") none (@Data.fields (List.toArray [(.str (.ofString "_law_worth") 744), (.str (.ofString "_law_worth") 745), (.str (.ofString "/claim/cut.py") 746), (@Value.int (186 : Int) 0), (@Value.int (3 : Int) 0), (@Value.int (0 : Int) 0), (@Value.int (0 : Int) 0), (@Value.int (3 : Int) 0), (.ref 453), (.bool @Bool.true), (@Value.int (181 : Int) 0), (.ref 454), .none, (.ref 455), (.ref 456), (.ref 457), (@Value.int (754 : Int) 0), (@Value.int (186 : Int) 0), (.str (.ofString "/claim/cut.py") 755)])) (@List.toArray.{0} (@Option.{0} @Value) (@List.nil.{0} (@Option.{0} @Value)))))
noncomputable def My.o523 : ((x0 : @Params) → @Obj) := (fun (x0 : @Params) => (@Obj.mk .none none (@Data.func (@FuncData.mk (.ofString "_law_worth") (.ofString "_law_worth") (L2.defArgs (My.top 28)) (@FuncBody.stmts (L2.defBody (My.top 28))) (L2.defScope (My.top 28)) 0 (@List.nil.{0} (@Prod.{0, 0} @Str @Nat)) .none .none .none .none none .none .none 0)) (@List.toArray.{0} (@Option.{0} @Value) (@List.nil.{0} (@Option.{0} @Value)))))
noncomputable def My.o522 : ((x0 : @Params) → @Obj) := (fun (x0 : @Params) => (@Obj.mk (.type "tuple") none (@Data.seq #[] 0) (@List.toArray.{0} (@Option.{0} @Value) (@List.nil.{0} (@Option.{0} @Value)))))
noncomputable def My.o521 : ((x0 : @Params) → @Obj) := (fun (x0 : @Params) => (@Obj.mk (.type "tuple") none (@Data.seq (List.toArray [(.str (.ofString "_law_kind") 747), (.str (.ofString "_law_size_here") 748), (.str (.ofString "_law_row") 749), (.str (.ofString "_law_lower") 750), (.str (.ofString "_law_here") 751), (.str (.ofString "_law_found") 752), (.str (.ofString "_law_place") 753)]) 0) (@List.toArray.{0} (@Option.{0} @Value) (@List.nil.{0} (@Option.{0} @Value)))))
noncomputable def My.o520 : ((x0 : @Params) → @Obj) := (fun (x0 : @Params) => (@Obj.mk .none none (@Data.fields #[]) (@List.toArray.{0} (@Option.{0} @Value) (@List.nil.{0} (@Option.{0} @Value)))))
noncomputable def My.o519 : ((x0 : @Params) → @Obj) := (fun (x0 : @Params) => (@Obj.mk (.type "tuple") none (@Data.seq #[] 0) (@List.toArray.{0} (@Option.{0} @Value) (@List.nil.{0} (@Option.{0} @Value)))))
noncomputable def My.o518 : ((x0 : @Params) → @Obj) := (fun (x0 : @Params) => (@Obj.mk (.type "function") none (@Data.func (@FuncData.mk (.ofString "_law_next") (.ofString "_law_next") (L2.defArgs (My.top 27)) (@FuncBody.stmts (L2.defBody (My.top 27))) (L2.defScope (My.top 27)) 3 (@List.nil.{0} (@Prod.{0, 0} @Str @Nat)) .none .none .none (.str (.ofString "law_oddbases_k11_worth_summed") 700) none (.ref 451) .none 0)) (@List.toArray.{0} (@Option.{0} @Value) (@List.nil.{0} (@Option.{0} @Value)))))
noncomputable def My.o517 : ((x0 : @Params) → @Obj) := (fun (x0 : @Params) => (@Obj.mk (.type "code") none (@Data.fields (List.toArray [(.str (.ofString "_law_next") 733), (.str (.ofString "_law_next") 734), (.str (.ofString "/claim/cut.py") 735), (@Value.int (180 : Int) 0), (@Value.int (5 : Int) 0), (@Value.int (0 : Int) 0), (@Value.int (0 : Int) 0), (@Value.int (3 : Int) 0), (.ref 446), (.bool @Bool.true), (@Value.int (181 : Int) 0), (.ref 447), .none, (.ref 448), (.ref 449), (.ref 450), (@Value.int (741 : Int) 0), (@Value.int (180 : Int) 0), (.str (.ofString "/claim/cut.py") 742)])) (@List.toArray.{0} (@Option.{0} @Value) (@List.nil.{0} (@Option.{0} @Value)))))
noncomputable def My.o516 : ((x0 : @Params) → @Obj) := (fun (x0 : @Params) => (@Obj.mk .none none (@Data.func (@FuncData.mk (.ofString "_law_next") (.ofString "_law_next") (L2.defArgs (My.top 27)) (@FuncBody.stmts (L2.defBody (My.top 27))) (L2.defScope (My.top 27)) 0 (@List.nil.{0} (@Prod.{0, 0} @Str @Nat)) .none .none .none .none none .none .none 0)) (@List.toArray.{0} (@Option.{0} @Value) (@List.nil.{0} (@Option.{0} @Value)))))
noncomputable def My.o515 : ((x0 : @Params) → @Obj) := (fun (x0 : @Params) => (@Obj.mk (.type "tuple") none (@Data.seq #[] 0) (@List.toArray.{0} (@Option.{0} @Value) (@List.nil.{0} (@Option.{0} @Value)))))
noncomputable def My.o514 : ((x0 : @Params) → @Obj) := (fun (x0 : @Params) => (@Obj.mk (.type "tuple") none (@Data.seq (List.toArray [(.str (.ofString "_law_kind") 736), (.str (.ofString "_law_size_here") 737), (.str (.ofString "_law_place") 738), (.str (.ofString "_law_lower") 739), (.str (.ofString "_law_here") 740)]) 0) (@List.toArray.{0} (@Option.{0} @Value) (@List.nil.{0} (@Option.{0} @Value)))))
noncomputable def My.o513 : ((x0 : @Params) → @Obj) := (fun (x0 : @Params) => (@Obj.mk .none none (@Data.fields #[]) (@List.toArray.{0} (@Option.{0} @Value) (@List.nil.{0} (@Option.{0} @Value)))))
noncomputable def My.o512 : ((x0 : @Params) → @Obj) := (fun (x0 : @Params) => (@Obj.mk (.type "tuple") none (@Data.seq #[] 0) (@List.toArray.{0} (@Option.{0} @Value) (@List.nil.{0} (@Option.{0} @Value)))))
noncomputable def My.o511 : ((x0 : @Params) → @Obj) := (fun (x0 : @Params) => (@Obj.mk (.type "function") none (@Data.func (@FuncData.mk (.ofString "_law_made") (.ofString "_law_made") (L2.defArgs (My.top 26)) (@FuncBody.stmts (L2.defBody (My.top 26))) (L2.defScope (My.top 26)) 3 (@List.nil.{0} (@Prod.{0, 0} @Str @Nat)) .none .none .none (.str (.ofString "law_oddbases_k11_worth_summed") 700) none (.ref 444) .none 0)) (@List.toArray.{0} (@Option.{0} @Value) (@List.nil.{0} (@Option.{0} @Value)))))
noncomputable def My.o510 : ((x0 : @Params) → @Obj) := (fun (x0 : @Params) => (@Obj.mk (.type "code") none (@Data.fields (List.toArray [(.str (.ofString "_law_made") 725), (.str (.ofString "_law_made") 726), (.str (.ofString "/claim/cut.py") 727), (@Value.int (168 : Int) 0), (@Value.int (2 : Int) 0), (@Value.int (0 : Int) 0), (@Value.int (0 : Int) 0), (@Value.int (3 : Int) 0), (.ref 439), (.bool @Bool.true), (@Value.int (181 : Int) 0), (.ref 440), .none, (.ref 441), (.ref 442), (.ref 443), (@Value.int (730 : Int) 0), (@Value.int (168 : Int) 0), (.str (.ofString "/claim/cut.py") 731)])) (@List.toArray.{0} (@Option.{0} @Value) (@List.nil.{0} (@Option.{0} @Value)))))
noncomputable def My.o509 : ((x0 : @Params) → @Obj) := (fun (x0 : @Params) => (@Obj.mk .none none (@Data.func (@FuncData.mk (.ofString "_law_made") (.ofString "_law_made") (L2.defArgs (My.top 26)) (@FuncBody.stmts (L2.defBody (My.top 26))) (L2.defScope (My.top 26)) 0 (@List.nil.{0} (@Prod.{0, 0} @Str @Nat)) .none .none .none .none none .none .none 0)) (@List.toArray.{0} (@Option.{0} @Value) (@List.nil.{0} (@Option.{0} @Value)))))
noncomputable def My.o508 : ((x0 : @Params) → @Obj) := (fun (x0 : @Params) => (@Obj.mk (.type "tuple") none (@Data.seq #[] 0) (@List.toArray.{0} (@Option.{0} @Value) (@List.nil.{0} (@Option.{0} @Value)))))
noncomputable def My.o507 : ((x0 : @Params) → @Obj) := (fun (x0 : @Params) => (@Obj.mk (.type "tuple") none (@Data.seq (List.toArray [(.str (.ofString "_law_kind") 728), (.str (.ofString "_law_size_here") 729)]) 0) (@List.toArray.{0} (@Option.{0} @Value) (@List.nil.{0} (@Option.{0} @Value)))))
noncomputable def My.o506 : ((x0 : @Params) → @Obj) := (fun (x0 : @Params) => (@Obj.mk .none none (@Data.fields #[]) (@List.toArray.{0} (@Option.{0} @Value) (@List.nil.{0} (@Option.{0} @Value)))))
noncomputable def My.o505 : ((x0 : @Params) → @Obj) := (fun (x0 : @Params) => (@Obj.mk (.type "tuple") none (@Data.seq #[] 0) (@List.toArray.{0} (@Option.{0} @Value) (@List.nil.{0} (@Option.{0} @Value)))))
noncomputable def My.o504 : ((x0 : @Params) → @Obj) := (fun (x0 : @Params) => (@Obj.mk (.type "function") none (@Data.func (@FuncData.mk (.ofString "_law_size") (.ofString "_law_size") (L2.defArgs (My.top 25)) (@FuncBody.stmts (L2.defBody (My.top 25))) (L2.defScope (My.top 25)) 3 (@List.nil.{0} (@Prod.{0, 0} @Str @Nat)) .none .none .none (.str (.ofString "law_oddbases_k11_worth_summed") 700) none (.ref 437) .none 0)) (@List.toArray.{0} (@Option.{0} @Value) (@List.nil.{0} (@Option.{0} @Value)))))
noncomputable def My.o503 : ((x0 : @Params) → @Obj) := (fun (x0 : @Params) => (@Obj.mk (.type "code") none (@Data.fields (List.toArray [(.str (.ofString "_law_size") 717), (.str (.ofString "_law_size") 718), (.str (.ofString "/claim/cut.py") 719), (@Value.int (166 : Int) 0), (@Value.int (2 : Int) 0), (@Value.int (0 : Int) 0), (@Value.int (0 : Int) 0), (@Value.int (3 : Int) 0), (.ref 432), (.bool @Bool.true), (@Value.int (181 : Int) 0), (.ref 433), .none, (.ref 434), (.ref 435), (.ref 436), (@Value.int (722 : Int) 0), (@Value.int (166 : Int) 0), (.str (.ofString "/claim/cut.py") 723)])) (@List.toArray.{0} (@Option.{0} @Value) (@List.nil.{0} (@Option.{0} @Value)))))
noncomputable def My.o502 : ((x0 : @Params) → @Obj) := (fun (x0 : @Params) => (@Obj.mk .none none (@Data.func (@FuncData.mk (.ofString "_law_size") (.ofString "_law_size") (L2.defArgs (My.top 25)) (@FuncBody.stmts (L2.defBody (My.top 25))) (L2.defScope (My.top 25)) 0 (@List.nil.{0} (@Prod.{0, 0} @Str @Nat)) .none .none .none .none none .none .none 0)) (@List.toArray.{0} (@Option.{0} @Value) (@List.nil.{0} (@Option.{0} @Value)))))
noncomputable def My.o501 : ((x0 : @Params) → @Obj) := (fun (x0 : @Params) => (@Obj.mk (.type "tuple") none (@Data.seq #[] 0) (@List.toArray.{0} (@Option.{0} @Value) (@List.nil.{0} (@Option.{0} @Value)))))
noncomputable def My.o500 : ((x0 : @Params) → @Obj) := (fun (x0 : @Params) => (@Obj.mk (.type "tuple") none (@Data.seq (List.toArray [(.str (.ofString "_law_kind") 720), (.str (.ofString "_law_number") 721)]) 0) (@List.toArray.{0} (@Option.{0} @Value) (@List.nil.{0} (@Option.{0} @Value)))))
noncomputable def My.o499 : ((x0 : @Params) → @Obj) := (fun (x0 : @Params) => (@Obj.mk .none none (@Data.fields #[]) (@List.toArray.{0} (@Option.{0} @Value) (@List.nil.{0} (@Option.{0} @Value)))))
noncomputable def My.o498 : ((x0 : @Params) → @Obj) := (fun (x0 : @Params) => (@Obj.mk (.type "tuple") none (@Data.seq #[] 0) (@List.toArray.{0} (@Option.{0} @Value) (@List.nil.{0} (@Option.{0} @Value)))))
noncomputable def My.o497 : ((x0 : @Params) → @Obj) := (fun (x0 : @Params) => (@Obj.mk (.type "function") none (@Data.func (@FuncData.mk (.ofString "_law_whole") (.ofString "_law_whole") (L2.defArgs (My.top 24)) (@FuncBody.stmts (L2.defBody (My.top 24))) (L2.defScope (My.top 24)) 3 (@List.nil.{0} (@Prod.{0, 0} @Str @Nat)) .none .none .none (.str (.ofString "law_oddbases_k11_worth_summed") 700) none (.ref 430) .none 0)) (@List.toArray.{0} (@Option.{0} @Value) (@List.nil.{0} (@Option.{0} @Value)))))
noncomputable def My.o496 : ((x0 : @Params) → @Obj) := (fun (x0 : @Params) => (@Obj.mk (.type "code") none (@Data.fields (List.toArray [(.str (.ofString "_law_whole") 710), (.str (.ofString "_law_whole") 711), (.str (.ofString "/claim/cut.py") 712), (@Value.int (164 : Int) 0), (@Value.int (1 : Int) 0), (@Value.int (0 : Int) 0), (@Value.int (0 : Int) 0), (@Value.int (3 : Int) 0), (.ref 425), (.bool @Bool.true), (@Value.int (181 : Int) 0), (.ref 426), .none, (.ref 427), (.ref 428), (.ref 429), (@Value.int (714 : Int) 0), (@Value.int (164 : Int) 0), (.str (.ofString "/claim/cut.py") 715)])) (@List.toArray.{0} (@Option.{0} @Value) (@List.nil.{0} (@Option.{0} @Value)))))
noncomputable def My.o495 : ((x0 : @Params) → @Obj) := (fun (x0 : @Params) => (@Obj.mk .none none (@Data.func (@FuncData.mk (.ofString "_law_whole") (.ofString "_law_whole") (L2.defArgs (My.top 24)) (@FuncBody.stmts (L2.defBody (My.top 24))) (L2.defScope (My.top 24)) 0 (@List.nil.{0} (@Prod.{0, 0} @Str @Nat)) .none .none .none .none none .none .none 0)) (@List.toArray.{0} (@Option.{0} @Value) (@List.nil.{0} (@Option.{0} @Value)))))
noncomputable def My.o494 : ((x0 : @Params) → @Obj) := (fun (x0 : @Params) => (@Obj.mk (.type "tuple") none (@Data.seq #[] 0) (@List.toArray.{0} (@Option.{0} @Value) (@List.nil.{0} (@Option.{0} @Value)))))
noncomputable def My.o493 : ((x0 : @Params) → @Obj) := (fun (x0 : @Params) => (@Obj.mk (.type "tuple") none (@Data.seq (List.toArray [(.str (.ofString "_law_found") 713)]) 0) (@List.toArray.{0} (@Option.{0} @Value) (@List.nil.{0} (@Option.{0} @Value)))))
noncomputable def My.o492 : ((x0 : @Params) → @Obj) := (fun (x0 : @Params) => (@Obj.mk .none none (@Data.fields #[]) (@List.toArray.{0} (@Option.{0} @Value) (@List.nil.{0} (@Option.{0} @Value)))))
noncomputable def My.o491 : ((x0 : @Params) → @Obj) := (fun (x0 : @Params) => (@Obj.mk (.type "tuple") none (@Data.seq #[] 0) (@List.toArray.{0} (@Option.{0} @Value) (@List.nil.{0} (@Option.{0} @Value)))))
noncomputable def My.o490 : ((x0 : @Params) → @Obj) := (fun (x0 : @Params) => (@Obj.mk (.type "function") none (@Data.func (@FuncData.mk (.ofString "_law_cell_at") (.ofString "_law_cell_at") (L2.defArgs (My.top 23)) (@FuncBody.stmts (L2.defBody (My.top 23))) (L2.defScope (My.top 23)) 3 (@List.nil.{0} (@Prod.{0, 0} @Str @Nat)) .none .none .none (.str (.ofString "law_oddbases_k11_worth_summed") 700) none (.ref 423) .none 0)) (@List.toArray.{0} (@Option.{0} @Value) (@List.nil.{0} (@Option.{0} @Value)))))
noncomputable def My.o489 : ((x0 : @Params) → @Obj) := (fun (x0 : @Params) => (@Obj.mk (.type "code") none (@Data.fields (List.toArray [(.str (.ofString "_law_cell_at") 702), (.str (.ofString "_law_cell_at") 703), (.str (.ofString "/claim/cut.py") 704), (@Value.int (160 : Int) 0), (@Value.int (2 : Int) 0), (@Value.int (0 : Int) 0), (@Value.int (0 : Int) 0), (@Value.int (3 : Int) 0), (.ref 418), (.bool @Bool.true), (@Value.int (181 : Int) 0), (.ref 419), .none, (.ref 420), (.ref 421), (.ref 422), (@Value.int (707 : Int) 0), (@Value.int (160 : Int) 0), (.str (.ofString "/claim/cut.py") 708)])) (@List.toArray.{0} (@Option.{0} @Value) (@List.nil.{0} (@Option.{0} @Value)))))
noncomputable def My.o488 : ((x0 : @Params) → @Obj) := (fun (x0 : @Params) => (@Obj.mk .none none (@Data.func (@FuncData.mk (.ofString "_law_cell_at") (.ofString "_law_cell_at") (L2.defArgs (My.top 23)) (@FuncBody.stmts (L2.defBody (My.top 23))) (L2.defScope (My.top 23)) 0 (@List.nil.{0} (@Prod.{0, 0} @Str @Nat)) .none .none .none .none none .none .none 0)) (@List.toArray.{0} (@Option.{0} @Value) (@List.nil.{0} (@Option.{0} @Value)))))
noncomputable def My.o487 : ((x0 : @Params) → @Obj) := (fun (x0 : @Params) => (@Obj.mk (.type "tuple") none (@Data.seq #[] 0) (@List.toArray.{0} (@Option.{0} @Value) (@List.nil.{0} (@Option.{0} @Value)))))
noncomputable def My.o486 : ((x0 : @Params) → @Obj) := (fun (x0 : @Params) => (@Obj.mk (.type "tuple") none (@Data.seq (List.toArray [(.str (.ofString "_law_script") 705), (.str (.ofString "_law_k") 706)]) 0) (@List.toArray.{0} (@Option.{0} @Value) (@List.nil.{0} (@Option.{0} @Value)))))
noncomputable def My.o485 : ((x0 : @Params) → @Obj) := (fun (x0 : @Params) => (@Obj.mk .none none (@Data.fields #[]) (@List.toArray.{0} (@Option.{0} @Value) (@List.nil.{0} (@Option.{0} @Value)))))
noncomputable def My.o484 : ((x0 : @Params) → @Obj) := (fun (x0 : @Params) => (@Obj.mk (.type "tuple") none (@Data.seq #[] 0) (@List.toArray.{0} (@Option.{0} @Value) (@List.nil.{0} (@Option.{0} @Value)))))
noncomputable def My.o483 : ((x0 : @Params) → @Obj) := (fun (x0 : @Params) => (@Obj.mk (.type "function") none (@Data.func (@FuncData.mk (.ofString "worth") (.ofString "worth") (L2.defArgs (My.top 21)) (@FuncBody.stmts (L2.defBody (My.top 21))) (L2.defScope (My.top 21)) 3 (@List.nil.{0} (@Prod.{0, 0} @Str @Nat)) .none .none .none (.str (.ofString "oddbases.writings") 687) none (.ref 416) .none 0)) (@List.toArray.{0} (@Option.{0} @Value) (@List.nil.{0} (@Option.{0} @Value)))))
noncomputable def My.o482 : ((x0 : @Params) → @Obj) := (fun (x0 : @Params) => (@Obj.mk (.type "code") none (@Data.fields (List.toArray [(.str (.ofString "worth") 689), (.str (.ofString "worth") 690), (.str (.ofString "/claim/cut.py") 691), (@Value.int (154 : Int) 0), (@Value.int (2 : Int) 0), (@Value.int (0 : Int) 0), (@Value.int (0 : Int) 0), (@Value.int (3 : Int) 0), (.ref 411), (.bool @Bool.true), (@Value.int (181 : Int) 0), (.ref 412), .none, (.ref 413), (.ref 414), (.ref 415), (@Value.int (697 : Int) 0), (@Value.int (154 : Int) 0), (.str (.ofString "/claim/cut.py") 698)])) (@List.toArray.{0} (@Option.{0} @Value) (@List.nil.{0} (@Option.{0} @Value)))))
noncomputable def My.o481 : ((x0 : @Params) → @Obj) := (fun (x0 : @Params) => (@Obj.mk .none none (@Data.func (@FuncData.mk (.ofString "worth") (.ofString "worth") (L2.defArgs (My.top 21)) (@FuncBody.stmts (L2.defBody (My.top 21))) (L2.defScope (My.top 21)) 0 (@List.nil.{0} (@Prod.{0, 0} @Str @Nat)) .none .none .none .none none .none .none 0)) (@List.toArray.{0} (@Option.{0} @Value) (@List.nil.{0} (@Option.{0} @Value)))))
noncomputable def My.o480 : ((x0 : @Params) → @Obj) := (fun (x0 : @Params) => (@Obj.mk (.type "tuple") none (@Data.seq #[] 0) (@List.toArray.{0} (@Option.{0} @Value) (@List.nil.{0} (@Option.{0} @Value)))))
noncomputable def My.o479 : ((x0 : @Params) → @Obj) := (fun (x0 : @Params) => (@Obj.mk (.type "tuple") none (@Data.seq (List.toArray [(.str (.ofString "way") 692), (.str (.ofString "row") 693), (.str (.ofString "number") 694), (.str (.ofString "thing") 695), (.str (.ofString "weight") 696)]) 0) (@List.toArray.{0} (@Option.{0} @Value) (@List.nil.{0} (@Option.{0} @Value)))))
noncomputable def My.o478 : ((x0 : @Params) → @Obj) := (fun (x0 : @Params) => (@Obj.mk .none none (@Data.fields #[]) (@List.toArray.{0} (@Option.{0} @Value) (@List.nil.{0} (@Option.{0} @Value)))))
noncomputable def My.o477 : ((x0 : @Params) → @Obj) := (fun (x0 : @Params) => (@Obj.mk (.type "tuple") none (@Data.seq #[] 0) (@List.toArray.{0} (@Option.{0} @Value) (@List.nil.{0} (@Option.{0} @Value)))))
noncomputable def My.o474 : ((x0 : @Params) → @Obj) := (fun (x0 : @Params) => (@Obj.mk (.type "builtin_function_or_method") none (@Data.fields (List.toArray [(.builtin "object.__init_subclass__"), (.ref 408)])) (@List.toArray.{0} (@Option.{0} @Value) (@List.nil.{0} (@Option.{0} @Value)))))
noncomputable def My.o473 : ((x0 : @Params) → @Obj) := (fun (x0 : @Params) => (@Obj.mk (.type "super") none (@Data.fields (List.toArray [(.ref 408), (.ref 408), (.ref 408)])) (@List.toArray.{0} (@Option.{0} @Value) (@List.nil.{0} (@Option.{0} @Value)))))
noncomputable def My.o472 : ((x0 : @Params) → @Obj) := (fun (x0 : @Params) => (@Obj.mk (.type "type") none (@Data.cls (@ClassData.mk (.ofString "Pairs") [(.ref 152)] [(.ref 408), (.ref 152), (.type "object")] 407 (.ofString "Pairs") @Bool.true [] [] @Bool.false (@Option.none.{0} @Bool) @Bool.false)) (@List.toArray.{0} (@Option.{0} @Value) [(@Option.some.{0} @Value (.ref 357)), (@Option.none.{0} @Value), (@Option.some.{0} @Value (.str (.ofString "Pairs") 622)), (@Option.some.{0} @Value (.str (.ofString "Pairs") 630)), (@Option.some.{0} @Value (.builtin "object.__new__")), (@Option.some.{0} @Value (.bool @Bool.true))])))
noncomputable def My.o471 : ((x0 : @Params) → @Obj) := (fun (x0 : @Params) => (@Obj.mk (.type "dict") none (@Data.dict (List.toArray [(@DictEntry.mk (@PyData.keyHash x0 (.ofString "__module__")) (.str (.ofString "__module__") 629) (.str (.ofString "oddbases.ways") 289)), (@DictEntry.mk (@PyData.keyHash x0 (.ofString "__firstlineno__")) (.str (.ofString "__firstlineno__") 633) (@Value.int (134 : Int) 632)), (@DictEntry.mk (@PyData.keyHash x0 (.ofString "__init__")) (.str (.ofString "__init__") 641) (.ref 370)), (@DictEntry.mk (@PyData.keyHash x0 (.ofString "nought")) (.str (.ofString "nought") 648) (.ref 377)), (@DictEntry.mk (@PyData.keyHash x0 (.ofString "high")) (.str (.ofString "high") 656) (.ref 384)), (@DictEntry.mk (@PyData.keyHash x0 (.ofString "ratio")) (.str (.ofString "ratio") 664) (.ref 391)), (@DictEntry.mk (@PyData.keyHash x0 (.ofString "split")) (.str (.ofString "split") 673) (.ref 398)), (@DictEntry.mk (@PyData.keyHash x0 (.ofString "has")) (.str (.ofString "has") 681) (.ref 405)), (@DictEntry.mk (@PyData.keyHash x0 (.ofString "__static_attributes__")) (.str (.ofString "__static_attributes__") 683) (.ref 406)), (@DictEntry.mk (@PyData.keyHash x0 (.ofString "__doc__")) (.str (.ofString "__doc__") 684) .none)]) 2) (@List.toArray.{0} (@Option.{0} @Value) (@List.nil.{0} (@Option.{0} @Value)))))
noncomputable def My.o470 : ((x0 : @Params) → @Obj) := (fun (x0 : @Params) => (@Obj.mk (.type "tuple") none (@Data.seq (List.toArray [(.str (.ofString "most") 682)]) 0) (@List.toArray.{0} (@Option.{0} @Value) (@List.nil.{0} (@Option.{0} @Value)))))
noncomputable def My.o469 : ((x0 : @Params) → @Obj) := (fun (x0 : @Params) => (@Obj.mk (.type "function") none (@Data.func (@FuncData.mk (.ofString "has") (.ofString "Pairs.has") (L2.defArgs (L2.inClass (My.top 19) 5)) (@FuncBody.stmts (L2.defBody (L2.inClass (My.top 19) 5))) (L2.defScope (L2.inClass (My.top 19) 5)) 3 (@List.nil.{0} (@Prod.{0, 0} @Str @Nat)) .none .none .none (.str (.ofString "oddbases.ways") 289) none (.ref 404) .none 0)) (@List.toArray.{0} (@Option.{0} @Value) (@List.nil.{0} (@Option.{0} @Value)))))
noncomputable def My.o468 : ((x0 : @Params) → @Obj) := (fun (x0 : @Params) => (@Obj.mk (.type "code") none (@Data.fields (List.toArray [(.str (.ofString "has") 674), (.str (.ofString "Pairs.has") 675), (.str (.ofString "/claim/cut.py") 676), (@Value.int (151 : Int) 0), (@Value.int (2 : Int) 0), (@Value.int (0 : Int) 0), (@Value.int (0 : Int) 0), (@Value.int (3 : Int) 0), (.ref 399), (.bool @Bool.true), (@Value.int (181 : Int) 0), (.ref 400), .none, (.ref 401), (.ref 402), (.ref 403), (@Value.int (679 : Int) 0), (@Value.int (151 : Int) 0), (.str (.ofString "/claim/cut.py") 680)])) (@List.toArray.{0} (@Option.{0} @Value) (@List.nil.{0} (@Option.{0} @Value)))))
noncomputable def My.o467 : ((x0 : @Params) → @Obj) := (fun (x0 : @Params) => (@Obj.mk .none none (@Data.func (@FuncData.mk (.ofString "has") (.ofString "Pairs.has") (L2.defArgs (L2.inClass (My.top 19) 5)) (@FuncBody.stmts (L2.defBody (L2.inClass (My.top 19) 5))) (L2.defScope (L2.inClass (My.top 19) 5)) 0 (@List.nil.{0} (@Prod.{0, 0} @Str @Nat)) .none .none .none .none none .none .none 0)) (@List.toArray.{0} (@Option.{0} @Value) (@List.nil.{0} (@Option.{0} @Value)))))
noncomputable def My.o466 : ((x0 : @Params) → @Obj) := (fun (x0 : @Params) => (@Obj.mk (.type "tuple") none (@Data.seq #[] 0) (@List.toArray.{0} (@Option.{0} @Value) (@List.nil.{0} (@Option.{0} @Value)))))
noncomputable def My.o465 : ((x0 : @Params) → @Obj) := (fun (x0 : @Params) => (@Obj.mk (.type "tuple") none (@Data.seq (List.toArray [(.str (.ofString "self") 677), (.str (.ofString "number") 678)]) 0) (@List.toArray.{0} (@Option.{0} @Value) (@List.nil.{0} (@Option.{0} @Value)))))
noncomputable def My.o464 : ((x0 : @Params) → @Obj) := (fun (x0 : @Params) => (@Obj.mk .none none (@Data.fields #[]) (@List.toArray.{0} (@Option.{0} @Value) (@List.nil.{0} (@Option.{0} @Value)))))
noncomputable def My.o463 : ((x0 : @Params) → @Obj) := (fun (x0 : @Params) => (@Obj.mk (.type "tuple") none (@Data.seq #[] 0) (@List.toArray.{0} (@Option.{0} @Value) (@List.nil.{0} (@Option.{0} @Value)))))
noncomputable def My.o462 : ((x0 : @Params) → @Obj) := (fun (x0 : @Params) => (@Obj.mk (.type "function") none (@Data.func (@FuncData.mk (.ofString "split") (.ofString "Pairs.split") (L2.defArgs (L2.inClass (My.top 19) 4)) (@FuncBody.stmts (L2.defBody (L2.inClass (My.top 19) 4))) (L2.defScope (L2.inClass (My.top 19) 4)) 3 (@List.nil.{0} (@Prod.{0, 0} @Str @Nat)) .none .none .none (.str (.ofString "oddbases.ways") 289) none (.ref 397) .none 0)) (@List.toArray.{0} (@Option.{0} @Value) (@List.nil.{0} (@Option.{0} @Value)))))
noncomputable def My.o461 : ((x0 : @Params) → @Obj) := (fun (x0 : @Params) => (@Obj.mk (.type "code") none (@Data.fields (List.toArray [(.str (.ofString "split") 665), (.str (.ofString "Pairs.split") 666), (.str (.ofString "/claim/cut.py") 667), (@Value.int (148 : Int) 0), (@Value.int (3 : Int) 0), (@Value.int (0 : Int) 0), (@Value.int (0 : Int) 0), (@Value.int (3 : Int) 0), (.ref 392), (.bool @Bool.true), (@Value.int (181 : Int) 0), (.ref 393), .none, (.ref 394), (.ref 395), (.ref 396), (@Value.int (671 : Int) 0), (@Value.int (148 : Int) 0), (.str (.ofString "/claim/cut.py") 672)])) (@List.toArray.{0} (@Option.{0} @Value) (@List.nil.{0} (@Option.{0} @Value)))))
noncomputable def My.o460 : ((x0 : @Params) → @Obj) := (fun (x0 : @Params) => (@Obj.mk .none none (@Data.func (@FuncData.mk (.ofString "split") (.ofString "Pairs.split") (L2.defArgs (L2.inClass (My.top 19) 4)) (@FuncBody.stmts (L2.defBody (L2.inClass (My.top 19) 4))) (L2.defScope (L2.inClass (My.top 19) 4)) 0 (@List.nil.{0} (@Prod.{0, 0} @Str @Nat)) .none .none .none .none none .none .none 0)) (@List.toArray.{0} (@Option.{0} @Value) (@List.nil.{0} (@Option.{0} @Value)))))
noncomputable def My.o459 : ((x0 : @Params) → @Obj) := (fun (x0 : @Params) => (@Obj.mk (.type "tuple") none (@Data.seq #[] 0) (@List.toArray.{0} (@Option.{0} @Value) (@List.nil.{0} (@Option.{0} @Value)))))
noncomputable def My.o458 : ((x0 : @Params) → @Obj) := (fun (x0 : @Params) => (@Obj.mk (.type "tuple") none (@Data.seq (List.toArray [(.str (.ofString "self") 668), (.str (.ofString "total") 669), (.str (.ofString "place") 670)]) 0) (@List.toArray.{0} (@Option.{0} @Value) (@List.nil.{0} (@Option.{0} @Value)))))
noncomputable def My.o457 : ((x0 : @Params) → @Obj) := (fun (x0 : @Params) => (@Obj.mk .none none (@Data.fields #[]) (@List.toArray.{0} (@Option.{0} @Value) (@List.nil.{0} (@Option.{0} @Value)))))
noncomputable def My.o456 : ((x0 : @Params) → @Obj) := (fun (x0 : @Params) => (@Obj.mk (.type "tuple") none (@Data.seq #[] 0) (@List.toArray.{0} (@Option.{0} @Value) (@List.nil.{0} (@Option.{0} @Value)))))
noncomputable def My.o455 : ((x0 : @Params) → @Obj) := (fun (x0 : @Params) => (@Obj.mk (.type "function") none (@Data.func (@FuncData.mk (.ofString "ratio") (.ofString "Pairs.ratio") (L2.defArgs (L2.inClass (My.top 19) 3)) (@FuncBody.stmts (L2.defBody (L2.inClass (My.top 19) 3))) (L2.defScope (L2.inClass (My.top 19) 3)) 3 (@List.nil.{0} (@Prod.{0, 0} @Str @Nat)) .none .none .none (.str (.ofString "oddbases.ways") 289) none (.ref 390) .none 0)) (@List.toArray.{0} (@Option.{0} @Value) (@List.nil.{0} (@Option.{0} @Value)))))
noncomputable def My.o454 : ((x0 : @Params) → @Obj) := (fun (x0 : @Params) => (@Obj.mk (.type "code") none (@Data.fields (List.toArray [(.str (.ofString "ratio") 657), (.str (.ofString "Pairs.ratio") 658), (.str (.ofString "/claim/cut.py") 659), (@Value.int (145 : Int) 0), (@Value.int (2 : Int) 0), (@Value.int (0 : Int) 0), (@Value.int (0 : Int) 0), (@Value.int (3 : Int) 0), (.ref 385), (.bool @Bool.true), (@Value.int (181 : Int) 0), (.ref 386), .none, (.ref 387), (.ref 388), (.ref 389), (@Value.int (662 : Int) 0), (@Value.int (145 : Int) 0), (.str (.ofString "/claim/cut.py") 663)])) (@List.toArray.{0} (@Option.{0} @Value) (@List.nil.{0} (@Option.{0} @Value)))))
noncomputable def My.o453 : ((x0 : @Params) → @Obj) := (fun (x0 : @Params) => (@Obj.mk .none none (@Data.func (@FuncData.mk (.ofString "ratio") (.ofString "Pairs.ratio") (L2.defArgs (L2.inClass (My.top 19) 3)) (@FuncBody.stmts (L2.defBody (L2.inClass (My.top 19) 3))) (L2.defScope (L2.inClass (My.top 19) 3)) 0 (@List.nil.{0} (@Prod.{0, 0} @Str @Nat)) .none .none .none .none none .none .none 0)) (@List.toArray.{0} (@Option.{0} @Value) (@List.nil.{0} (@Option.{0} @Value)))))
noncomputable def My.o452 : ((x0 : @Params) → @Obj) := (fun (x0 : @Params) => (@Obj.mk (.type "tuple") none (@Data.seq #[] 0) (@List.toArray.{0} (@Option.{0} @Value) (@List.nil.{0} (@Option.{0} @Value)))))
noncomputable def My.o451 : ((x0 : @Params) → @Obj) := (fun (x0 : @Params) => (@Obj.mk (.type "tuple") none (@Data.seq (List.toArray [(.str (.ofString "self") 660), (.str (.ofString "place") 661)]) 0) (@List.toArray.{0} (@Option.{0} @Value) (@List.nil.{0} (@Option.{0} @Value)))))
noncomputable def My.o450 : ((x0 : @Params) → @Obj) := (fun (x0 : @Params) => (@Obj.mk .none none (@Data.fields #[]) (@List.toArray.{0} (@Option.{0} @Value) (@List.nil.{0} (@Option.{0} @Value)))))
noncomputable def My.o449 : ((x0 : @Params) → @Obj) := (fun (x0 : @Params) => (@Obj.mk (.type "tuple") none (@Data.seq #[] 0) (@List.toArray.{0} (@Option.{0} @Value) (@List.nil.{0} (@Option.{0} @Value)))))
noncomputable def My.o448 : ((x0 : @Params) → @Obj) := (fun (x0 : @Params) => (@Obj.mk (.type "function") none (@Data.func (@FuncData.mk (.ofString "high") (.ofString "Pairs.high") (L2.defArgs (L2.inClass (My.top 19) 2)) (@FuncBody.stmts (L2.defBody (L2.inClass (My.top 19) 2))) (L2.defScope (L2.inClass (My.top 19) 2)) 3 (@List.nil.{0} (@Prod.{0, 0} @Str @Nat)) .none .none .none (.str (.ofString "oddbases.ways") 289) none (.ref 383) .none 0)) (@List.toArray.{0} (@Option.{0} @Value) (@List.nil.{0} (@Option.{0} @Value)))))
noncomputable def My.o447 : ((x0 : @Params) → @Obj) := (fun (x0 : @Params) => (@Obj.mk (.type "code") none (@Data.fields (List.toArray [(.str (.ofString "high") 649), (.str (.ofString "Pairs.high") 650), (.str (.ofString "/claim/cut.py") 651), (@Value.int (142 : Int) 0), (@Value.int (2 : Int) 0), (@Value.int (0 : Int) 0), (@Value.int (0 : Int) 0), (@Value.int (3 : Int) 0), (.ref 378), (.bool @Bool.true), (@Value.int (181 : Int) 0), (.ref 379), .none, (.ref 380), (.ref 381), (.ref 382), (@Value.int (654 : Int) 0), (@Value.int (142 : Int) 0), (.str (.ofString "/claim/cut.py") 655)])) (@List.toArray.{0} (@Option.{0} @Value) (@List.nil.{0} (@Option.{0} @Value)))))
noncomputable def My.o446 : ((x0 : @Params) → @Obj) := (fun (x0 : @Params) => (@Obj.mk .none none (@Data.func (@FuncData.mk (.ofString "high") (.ofString "Pairs.high") (L2.defArgs (L2.inClass (My.top 19) 2)) (@FuncBody.stmts (L2.defBody (L2.inClass (My.top 19) 2))) (L2.defScope (L2.inClass (My.top 19) 2)) 0 (@List.nil.{0} (@Prod.{0, 0} @Str @Nat)) .none .none .none .none none .none .none 0)) (@List.toArray.{0} (@Option.{0} @Value) (@List.nil.{0} (@Option.{0} @Value)))))
noncomputable def My.o445 : ((x0 : @Params) → @Obj) := (fun (x0 : @Params) => (@Obj.mk (.type "tuple") none (@Data.seq #[] 0) (@List.toArray.{0} (@Option.{0} @Value) (@List.nil.{0} (@Option.{0} @Value)))))
noncomputable def My.o444 : ((x0 : @Params) → @Obj) := (fun (x0 : @Params) => (@Obj.mk (.type "tuple") none (@Data.seq (List.toArray [(.str (.ofString "self") 652), (.str (.ofString "place") 653)]) 0) (@List.toArray.{0} (@Option.{0} @Value) (@List.nil.{0} (@Option.{0} @Value)))))
noncomputable def My.o443 : ((x0 : @Params) → @Obj) := (fun (x0 : @Params) => (@Obj.mk .none none (@Data.fields #[]) (@List.toArray.{0} (@Option.{0} @Value) (@List.nil.{0} (@Option.{0} @Value)))))
noncomputable def My.o442 : ((x0 : @Params) → @Obj) := (fun (x0 : @Params) => (@Obj.mk (.type "tuple") none (@Data.seq #[] 0) (@List.toArray.{0} (@Option.{0} @Value) (@List.nil.{0} (@Option.{0} @Value)))))
noncomputable def My.o441 : ((x0 : @Params) → @Obj) := (fun (x0 : @Params) => (@Obj.mk (.type "function") none (@Data.func (@FuncData.mk (.ofString "nought") (.ofString "Pairs.nought") (L2.defArgs (L2.inClass (My.top 19) 1)) (@FuncBody.stmts (L2.defBody (L2.inClass (My.top 19) 1))) (L2.defScope (L2.inClass (My.top 19) 1)) 3 (@List.nil.{0} (@Prod.{0, 0} @Str @Nat)) .none .none .none (.str (.ofString "oddbases.ways") 289) none (.ref 376) .none 0)) (@List.toArray.{0} (@Option.{0} @Value) (@List.nil.{0} (@Option.{0} @Value)))))
noncomputable def My.o440 : ((x0 : @Params) → @Obj) := (fun (x0 : @Params) => (@Obj.mk (.type "code") none (@Data.fields (List.toArray [(.str (.ofString "nought") 642), (.str (.ofString "Pairs.nought") 643), (.str (.ofString "/claim/cut.py") 644), (@Value.int (139 : Int) 0), (@Value.int (1 : Int) 0), (@Value.int (0 : Int) 0), (@Value.int (0 : Int) 0), (@Value.int (3 : Int) 0), (.ref 371), (.bool @Bool.true), (@Value.int (181 : Int) 0), (.ref 372), .none, (.ref 373), (.ref 374), (.ref 375), (@Value.int (646 : Int) 0), (@Value.int (139 : Int) 0), (.str (.ofString "/claim/cut.py") 647)])) (@List.toArray.{0} (@Option.{0} @Value) (@List.nil.{0} (@Option.{0} @Value)))))
noncomputable def My.o439 : ((x0 : @Params) → @Obj) := (fun (x0 : @Params) => (@Obj.mk .none none (@Data.func (@FuncData.mk (.ofString "nought") (.ofString "Pairs.nought") (L2.defArgs (L2.inClass (My.top 19) 1)) (@FuncBody.stmts (L2.defBody (L2.inClass (My.top 19) 1))) (L2.defScope (L2.inClass (My.top 19) 1)) 0 (@List.nil.{0} (@Prod.{0, 0} @Str @Nat)) .none .none .none .none none .none .none 0)) (@List.toArray.{0} (@Option.{0} @Value) (@List.nil.{0} (@Option.{0} @Value)))))
noncomputable def My.o438 : ((x0 : @Params) → @Obj) := (fun (x0 : @Params) => (@Obj.mk (.type "tuple") none (@Data.seq #[] 0) (@List.toArray.{0} (@Option.{0} @Value) (@List.nil.{0} (@Option.{0} @Value)))))
noncomputable def My.o437 : ((x0 : @Params) → @Obj) := (fun (x0 : @Params) => (@Obj.mk (.type "tuple") none (@Data.seq (List.toArray [(.str (.ofString "self") 645)]) 0) (@List.toArray.{0} (@Option.{0} @Value) (@List.nil.{0} (@Option.{0} @Value)))))
noncomputable def My.o436 : ((x0 : @Params) → @Obj) := (fun (x0 : @Params) => (@Obj.mk .none none (@Data.fields #[]) (@List.toArray.{0} (@Option.{0} @Value) (@List.nil.{0} (@Option.{0} @Value)))))
noncomputable def My.o435 : ((x0 : @Params) → @Obj) := (fun (x0 : @Params) => (@Obj.mk (.type "tuple") none (@Data.seq #[] 0) (@List.toArray.{0} (@Option.{0} @Value) (@List.nil.{0} (@Option.{0} @Value)))))
noncomputable def My.o434 : ((x0 : @Params) → @Obj) := (fun (x0 : @Params) => (@Obj.mk (.type "function") none (@Data.func (@FuncData.mk (.ofString "__init__") (.ofString "Pairs.__init__") (L2.defArgs (L2.inClass (My.top 19) 0)) (@FuncBody.stmts (L2.defBody (L2.inClass (My.top 19) 0))) (L2.defScope (L2.inClass (My.top 19) 0)) 3 (@List.nil.{0} (@Prod.{0, 0} @Str @Nat)) .none .none .none (.str (.ofString "oddbases.ways") 289) none (.ref 369) .none 0)) (@List.toArray.{0} (@Option.{0} @Value) (@List.nil.{0} (@Option.{0} @Value)))))
noncomputable def My.o433 : ((x0 : @Params) → @Obj) := (fun (x0 : @Params) => (@Obj.mk (.type "code") none (@Data.fields (List.toArray [(.str (.ofString "__init__") 634), (.str (.ofString "Pairs.__init__") 635), (.str (.ofString "/claim/cut.py") 636), (@Value.int (136 : Int) 0), (@Value.int (2 : Int) 0), (@Value.int (0 : Int) 0), (@Value.int (0 : Int) 0), (@Value.int (3 : Int) 0), (.ref 364), (.bool @Bool.true), (@Value.int (181 : Int) 0), (.ref 365), .none, (.ref 366), (.ref 367), (.ref 368), (@Value.int (639 : Int) 0), (@Value.int (136 : Int) 0), (.str (.ofString "/claim/cut.py") 640)])) (@List.toArray.{0} (@Option.{0} @Value) (@List.nil.{0} (@Option.{0} @Value)))))
noncomputable def My.o432 : ((x0 : @Params) → @Obj) := (fun (x0 : @Params) => (@Obj.mk .none none (@Data.func (@FuncData.mk (.ofString "__init__") (.ofString "Pairs.__init__") (L2.defArgs (L2.inClass (My.top 19) 0)) (@FuncBody.stmts (L2.defBody (L2.inClass (My.top 19) 0))) (L2.defScope (L2.inClass (My.top 19) 0)) 0 (@List.nil.{0} (@Prod.{0, 0} @Str @Nat)) .none .none .none .none none .none .none 0)) (@List.toArray.{0} (@Option.{0} @Value) (@List.nil.{0} (@Option.{0} @Value)))))
noncomputable def My.o431 : ((x0 : @Params) → @Obj) := (fun (x0 : @Params) => (@Obj.mk (.type "tuple") none (@Data.seq #[] 0) (@List.toArray.{0} (@Option.{0} @Value) (@List.nil.{0} (@Option.{0} @Value)))))
noncomputable def My.o430 : ((x0 : @Params) → @Obj) := (fun (x0 : @Params) => (@Obj.mk (.type "tuple") none (@Data.seq (List.toArray [(.str (.ofString "self") 637), (.str (.ofString "most") 638)]) 0) (@List.toArray.{0} (@Option.{0} @Value) (@List.nil.{0} (@Option.{0} @Value)))))
noncomputable def My.o429 : ((x0 : @Params) → @Obj) := (fun (x0 : @Params) => (@Obj.mk .none none (@Data.fields #[]) (@List.toArray.{0} (@Option.{0} @Value) (@List.nil.{0} (@Option.{0} @Value)))))
noncomputable def My.o428 : ((x0 : @Params) → @Obj) := (fun (x0 : @Params) => (@Obj.mk (.type "tuple") none (@Data.seq #[] 0) (@List.toArray.{0} (@Option.{0} @Value) (@List.nil.{0} (@Option.{0} @Value)))))
noncomputable def My.o427 : ((x0 : @Params) → @Obj) := (fun (x0 : @Params) => (@Obj.mk (.type "frame") none @Data.plain (@List.toArray.{0} (@Option.{0} @Value) [(@Option.some.{0} @Value (.ref 362)), (@Option.some.{0} @Value (.ref 3)), (@Option.some.{0} @Value (.ref 359)), (@Option.none.{0} @Value), (@Option.some.{0} @Value (.str (.ofString "oddbases.ways") 289)), (@Option.none.{0} @Value), (@Option.some.{0} @Value (.ref 0))])))
noncomputable def My.o426 : ((x0 : @Params) → @Obj) := (fun (x0 : @Params) => (@Obj.mk (.type "code") none (@Data.fields (List.toArray [(.str (.ofString "Pairs") 624), (.str (.ofString "Pairs") 625), (.str (.ofString "/claim/cut.py") 626), (@Value.int (134 : Int) 0), (@Value.int (0 : Int) 0), (@Value.int (0 : Int) 0), (@Value.int (0 : Int) 0), (@Value.int (0 : Int) 0), (.ref 360), (.bool @Bool.false), (@Value.int (181 : Int) 0), (.ref 361), .none, .none, .none, .none, (@Value.int (627 : Int) 0), (@Value.int (134 : Int) 0), (.str (.ofString "/claim/cut.py") 628)])) (@List.toArray.{0} (@Option.{0} @Value) (@List.nil.{0} (@Option.{0} @Value)))))
noncomputable def My.o425 : ((x0 : @Params) → @Obj) := (fun (x0 : @Params) => (@Obj.mk .none none (@Data.fields (List.toArray [(@Value.int (136 : Int) 0), (@Value.int (4 : Int) 0), (.ref 369), (@Value.int (139 : Int) 0), (@Value.int (4 : Int) 0), (.ref 376), (@Value.int (142 : Int) 0), (@Value.int (4 : Int) 0), (.ref 383), (@Value.int (145 : Int) 0), (@Value.int (4 : Int) 0), (.ref 390), (@Value.int (148 : Int) 0), (@Value.int (4 : Int) 0), (.ref 397), (@Value.int (151 : Int) 0), (@Value.int (4 : Int) 0), (.ref 404)])) (@List.toArray.{0} (@Option.{0} @Value) (@List.nil.{0} (@Option.{0} @Value)))))
noncomputable def My.o424 : ((x0 : @Params) → @Obj) := (fun (x0 : @Params) => (@Obj.mk (.type "tuple") none (@Data.seq #[] 0) (@List.toArray.{0} (@Option.{0} @Value) (@List.nil.{0} (@Option.{0} @Value)))))
noncomputable def My.o423 : ((x0 : @Params) → @Obj) := (fun (x0 : @Params) => (@Obj.mk (.type "dict") none (@Data.dict (List.toArray [(@DictEntry.mk (@PyData.keyHash x0 (.ofString "__module__")) (.str (.ofString "__module__") 629) (.str (.ofString "oddbases.ways") 289)), (@DictEntry.mk (@PyData.keyHash x0 (.ofString "__qualname__")) (.str (.ofString "__qualname__") 631) (.str (.ofString "Pairs") 630)), (@DictEntry.mk (@PyData.keyHash x0 (.ofString "__firstlineno__")) (.str (.ofString "__firstlineno__") 633) (@Value.int (134 : Int) 632)), (@DictEntry.mk (@PyData.keyHash x0 (.ofString "__init__")) (.str (.ofString "__init__") 641) (.ref 370)), (@DictEntry.mk (@PyData.keyHash x0 (.ofString "nought")) (.str (.ofString "nought") 648) (.ref 377)), (@DictEntry.mk (@PyData.keyHash x0 (.ofString "high")) (.str (.ofString "high") 656) (.ref 384)), (@DictEntry.mk (@PyData.keyHash x0 (.ofString "ratio")) (.str (.ofString "ratio") 664) (.ref 391)), (@DictEntry.mk (@PyData.keyHash x0 (.ofString "split")) (.str (.ofString "split") 673) (.ref 398)), (@DictEntry.mk (@PyData.keyHash x0 (.ofString "has")) (.str (.ofString "has") 681) (.ref 405)), (@DictEntry.mk (@PyData.keyHash x0 (.ofString "__static_attributes__")) (.str (.ofString "__static_attributes__") 683) (.ref 406))]) 10) (@List.toArray.{0} (@Option.{0} @Value) (@List.nil.{0} (@Option.{0} @Value)))))
noncomputable def My.o422 : ((x0 : @Params) → @Obj) := (fun (x0 : @Params) => (@Obj.mk (.type "builtin_function_or_method") none (@Data.fields (List.toArray [(.builtin "type.__prepare__"), (.type "type")])) (@List.toArray.{0} (@Option.{0} @Value) (@List.nil.{0} (@Option.{0} @Value)))))
noncomputable def My.o421 : ((x0 : @Params) → @Obj) := (fun (x0 : @Params) => (@Obj.mk (.type "tuple") none (@Data.seq (List.toArray [(.ref 152)]) 0) (@List.toArray.{0} (@Option.{0} @Value) (@List.nil.{0} (@Option.{0} @Value)))))
noncomputable def My.o417 : ((x0 : @Params) → @Obj) := (fun (x0 : @Params) => (@Obj.mk (.type "builtin_function_or_method") none (@Data.fields (List.toArray [(.builtin "object.__init_subclass__"), (.ref 354)])) (@List.toArray.{0} (@Option.{0} @Value) (@List.nil.{0} (@Option.{0} @Value)))))
noncomputable def My.o416 : ((x0 : @Params) → @Obj) := (fun (x0 : @Params) => (@Obj.mk (.type "super") none (@Data.fields (List.toArray [(.ref 354), (.ref 354), (.ref 354)])) (@List.toArray.{0} (@Option.{0} @Value) (@List.nil.{0} (@Option.{0} @Value)))))
noncomputable def My.o415 : ((x0 : @Params) → @Obj) := (fun (x0 : @Params) => (@Obj.mk (.type "type") none (@Data.cls (@ClassData.mk (.ofString "Falling") [(.ref 152)] [(.ref 354), (.ref 152), (.type "object")] 353 (.ofString "Falling") @Bool.true [] [] @Bool.false (@Option.none.{0} @Bool) @Bool.false)) (@List.toArray.{0} (@Option.{0} @Value) [(@Option.some.{0} @Value (.ref 310)), (@Option.none.{0} @Value), (@Option.some.{0} @Value (.str (.ofString "Falling") 559)), (@Option.some.{0} @Value (.str (.ofString "Falling") 567)), (@Option.some.{0} @Value (.builtin "object.__new__")), (@Option.some.{0} @Value (.bool @Bool.true))])))
noncomputable def My.o414 : ((x0 : @Params) → @Obj) := (fun (x0 : @Params) => (@Obj.mk (.type "dict") none (@Data.dict (List.toArray [(@DictEntry.mk (@PyData.keyHash x0 (.ofString "__module__")) (.str (.ofString "__module__") 566) (.str (.ofString "oddbases.ways") 289)), (@DictEntry.mk (@PyData.keyHash x0 (.ofString "__firstlineno__")) (.str (.ofString "__firstlineno__") 570) (@Value.int (110 : Int) 569)), (@DictEntry.mk (@PyData.keyHash x0 (.ofString "__init__")) (.str (.ofString "__init__") 578) (.ref 323)), (@DictEntry.mk (@PyData.keyHash x0 (.ofString "high")) (.str (.ofString "high") 586) (.ref 330)), (@DictEntry.mk (@PyData.keyHash x0 (.ofString "weights")) (.str (.ofString "weights") 599) (.ref 337)), (@DictEntry.mk (@PyData.keyHash x0 (.ofString "ratio")) (.str (.ofString "ratio") 607) (.ref 344)), (@DictEntry.mk (@PyData.keyHash x0 (.ofString "split")) (.str (.ofString "split") 616) (.ref 351)), (@DictEntry.mk (@PyData.keyHash x0 (.ofString "__static_attributes__")) (.str (.ofString "__static_attributes__") 618) (.ref 352)), (@DictEntry.mk (@PyData.keyHash x0 (.ofString "__doc__")) (.str (.ofString "__doc__") 619) .none)]) 2) (@List.toArray.{0} (@Option.{0} @Value) (@List.nil.{0} (@Option.{0} @Value)))))
noncomputable def My.o413 : ((x0 : @Params) → @Obj) := (fun (x0 : @Params) => (@Obj.mk (.type "tuple") none (@Data.seq (List.toArray [(.str (.ofString "most") 617)]) 0) (@List.toArray.{0} (@Option.{0} @Value) (@List.nil.{0} (@Option.{0} @Value)))))
noncomputable def My.o412 : ((x0 : @Params) → @Obj) := (fun (x0 : @Params) => (@Obj.mk (.type "function") none (@Data.func (@FuncData.mk (.ofString "split") (.ofString "Falling.split") (L2.defArgs (L2.inClass (My.top 18) 4)) (@FuncBody.stmts (L2.defBody (L2.inClass (My.top 18) 4))) (L2.defScope (L2.inClass (My.top 18) 4)) 3 (@List.nil.{0} (@Prod.{0, 0} @Str @Nat)) .none .none .none (.str (.ofString "oddbases.ways") 289) none (.ref 350) .none 0)) (@List.toArray.{0} (@Option.{0} @Value) (@List.nil.{0} (@Option.{0} @Value)))))
noncomputable def My.o411 : ((x0 : @Params) → @Obj) := (fun (x0 : @Params) => (@Obj.mk (.type "code") none (@Data.fields (List.toArray [(.str (.ofString "split") 608), (.str (.ofString "Falling.split") 609), (.str (.ofString "/claim/cut.py") 610), (@Value.int (132 : Int) 0), (@Value.int (3 : Int) 0), (@Value.int (0 : Int) 0), (@Value.int (0 : Int) 0), (@Value.int (3 : Int) 0), (.ref 345), (.bool @Bool.true), (@Value.int (181 : Int) 0), (.ref 346), .none, (.ref 347), (.ref 348), (.ref 349), (@Value.int (614 : Int) 0), (@Value.int (132 : Int) 0), (.str (.ofString "/claim/cut.py") 615)])) (@List.toArray.{0} (@Option.{0} @Value) (@List.nil.{0} (@Option.{0} @Value)))))
noncomputable def My.o410 : ((x0 : @Params) → @Obj) := (fun (x0 : @Params) => (@Obj.mk .none none (@Data.func (@FuncData.mk (.ofString "split") (.ofString "Falling.split") (L2.defArgs (L2.inClass (My.top 18) 4)) (@FuncBody.stmts (L2.defBody (L2.inClass (My.top 18) 4))) (L2.defScope (L2.inClass (My.top 18) 4)) 0 (@List.nil.{0} (@Prod.{0, 0} @Str @Nat)) .none .none .none .none none .none .none 0)) (@List.toArray.{0} (@Option.{0} @Value) (@List.nil.{0} (@Option.{0} @Value)))))
noncomputable def My.o409 : ((x0 : @Params) → @Obj) := (fun (x0 : @Params) => (@Obj.mk (.type "tuple") none (@Data.seq #[] 0) (@List.toArray.{0} (@Option.{0} @Value) (@List.nil.{0} (@Option.{0} @Value)))))
noncomputable def My.o408 : ((x0 : @Params) → @Obj) := (fun (x0 : @Params) => (@Obj.mk (.type "tuple") none (@Data.seq (List.toArray [(.str (.ofString "self") 611), (.str (.ofString "total") 612), (.str (.ofString "place") 613)]) 0) (@List.toArray.{0} (@Option.{0} @Value) (@List.nil.{0} (@Option.{0} @Value)))))
noncomputable def My.o407 : ((x0 : @Params) → @Obj) := (fun (x0 : @Params) => (@Obj.mk .none none (@Data.fields #[]) (@List.toArray.{0} (@Option.{0} @Value) (@List.nil.{0} (@Option.{0} @Value)))))
noncomputable def My.o406 : ((x0 : @Params) → @Obj) := (fun (x0 : @Params) => (@Obj.mk (.type "tuple") none (@Data.seq #[] 0) (@List.toArray.{0} (@Option.{0} @Value) (@List.nil.{0} (@Option.{0} @Value)))))
noncomputable def My.o405 : ((x0 : @Params) → @Obj) := (fun (x0 : @Params) => (@Obj.mk (.type "function") none (@Data.func (@FuncData.mk (.ofString "ratio") (.ofString "Falling.ratio") (L2.defArgs (L2.inClass (My.top 18) 3)) (@FuncBody.stmts (L2.defBody (L2.inClass (My.top 18) 3))) (L2.defScope (L2.inClass (My.top 18) 3)) 3 (@List.nil.{0} (@Prod.{0, 0} @Str @Nat)) .none .none .none (.str (.ofString "oddbases.ways") 289) none (.ref 343) .none 0)) (@List.toArray.{0} (@Option.{0} @Value) (@List.nil.{0} (@Option.{0} @Value)))))
noncomputable def My.o404 : ((x0 : @Params) → @Obj) := (fun (x0 : @Params) => (@Obj.mk (.type "code") none (@Data.fields (List.toArray [(.str (.ofString "ratio") 600), (.str (.ofString "Falling.ratio") 601), (.str (.ofString "/claim/cut.py") 602), (@Value.int (129 : Int) 0), (@Value.int (2 : Int) 0), (@Value.int (0 : Int) 0), (@Value.int (0 : Int) 0), (@Value.int (3 : Int) 0), (.ref 338), (.bool @Bool.true), (@Value.int (181 : Int) 0), (.ref 339), .none, (.ref 340), (.ref 341), (.ref 342), (@Value.int (605 : Int) 0), (@Value.int (129 : Int) 0), (.str (.ofString "/claim/cut.py") 606)])) (@List.toArray.{0} (@Option.{0} @Value) (@List.nil.{0} (@Option.{0} @Value)))))
noncomputable def My.o403 : ((x0 : @Params) → @Obj) := (fun (x0 : @Params) => (@Obj.mk .none none (@Data.func (@FuncData.mk (.ofString "ratio") (.ofString "Falling.ratio") (L2.defArgs (L2.inClass (My.top 18) 3)) (@FuncBody.stmts (L2.defBody (L2.inClass (My.top 18) 3))) (L2.defScope (L2.inClass (My.top 18) 3)) 0 (@List.nil.{0} (@Prod.{0, 0} @Str @Nat)) .none .none .none .none none .none .none 0)) (@List.toArray.{0} (@Option.{0} @Value) (@List.nil.{0} (@Option.{0} @Value)))))
noncomputable def My.o402 : ((x0 : @Params) → @Obj) := (fun (x0 : @Params) => (@Obj.mk (.type "tuple") none (@Data.seq #[] 0) (@List.toArray.{0} (@Option.{0} @Value) (@List.nil.{0} (@Option.{0} @Value)))))
noncomputable def My.o401 : ((x0 : @Params) → @Obj) := (fun (x0 : @Params) => (@Obj.mk (.type "tuple") none (@Data.seq (List.toArray [(.str (.ofString "self") 603), (.str (.ofString "place") 604)]) 0) (@List.toArray.{0} (@Option.{0} @Value) (@List.nil.{0} (@Option.{0} @Value)))))
noncomputable def My.o400 : ((x0 : @Params) → @Obj) := (fun (x0 : @Params) => (@Obj.mk .none none (@Data.fields #[]) (@List.toArray.{0} (@Option.{0} @Value) (@List.nil.{0} (@Option.{0} @Value)))))
noncomputable def My.o399 : ((x0 : @Params) → @Obj) := (fun (x0 : @Params) => (@Obj.mk (.type "tuple") none (@Data.seq #[] 0) (@List.toArray.{0} (@Option.{0} @Value) (@List.nil.{0} (@Option.{0} @Value)))))
noncomputable def My.o398 : ((x0 : @Params) → @Obj) := (fun (x0 : @Params) => (@Obj.mk (.type "function") none (@Data.func (@FuncData.mk (.ofString "weights") (.ofString "Falling.weights") (L2.defArgs (L2.inClass (My.top 18) 2)) (@FuncBody.stmts (L2.defBody (L2.inClass (My.top 18) 2))) (L2.defScope (L2.inClass (My.top 18) 2)) 3 (@List.nil.{0} (@Prod.{0, 0} @Str @Nat)) .none .none .none (.str (.ofString "oddbases.ways") 289) none (.ref 336) .none 0)) (@List.toArray.{0} (@Option.{0} @Value) (@List.nil.{0} (@Option.{0} @Value)))))
noncomputable def My.o397 : ((x0 : @Params) → @Obj) := (fun (x0 : @Params) => (@Obj.mk (.type "code") none (@Data.fields (List.toArray [(.str (.ofString "weights") 587), (.str (.ofString "Falling.weights") 588), (.str (.ofString "/claim/cut.py") 589), (@Value.int (118 : Int) 0), (@Value.int (2 : Int) 0), (@Value.int (0 : Int) 0), (@Value.int (0 : Int) 0), (@Value.int (3 : Int) 0), (.ref 331), (.bool @Bool.true), (@Value.int (181 : Int) 0), (.ref 332), .none, (.ref 333), (.ref 334), (.ref 335), (@Value.int (597 : Int) 0), (@Value.int (118 : Int) 0), (.str (.ofString "/claim/cut.py") 598)])) (@List.toArray.{0} (@Option.{0} @Value) (@List.nil.{0} (@Option.{0} @Value)))))
noncomputable def My.o396 : ((x0 : @Params) → @Obj) := (fun (x0 : @Params) => (@Obj.mk .none none (@Data.func (@FuncData.mk (.ofString "weights") (.ofString "Falling.weights") (L2.defArgs (L2.inClass (My.top 18) 2)) (@FuncBody.stmts (L2.defBody (L2.inClass (My.top 18) 2))) (L2.defScope (L2.inClass (My.top 18) 2)) 0 (@List.nil.{0} (@Prod.{0, 0} @Str @Nat)) .none .none .none .none none .none .none 0)) (@List.toArray.{0} (@Option.{0} @Value) (@List.nil.{0} (@Option.{0} @Value)))))
noncomputable def My.o395 : ((x0 : @Params) → @Obj) := (fun (x0 : @Params) => (@Obj.mk (.type "tuple") none (@Data.seq #[] 0) (@List.toArray.{0} (@Option.{0} @Value) (@List.nil.{0} (@Option.{0} @Value)))))
noncomputable def My.o394 : ((x0 : @Params) → @Obj) := (fun (x0 : @Params) => (@Obj.mk (.type "tuple") none (@Data.seq (List.toArray [(.str (.ofString "self") 590), (.str (.ofString "many") 591), (.str (.ofString "weights") 592), (.str (.ofString "ahead") 593), (.str (.ofString "weight") 594), (.str (.ofString "place") 595), (.str (.ofString "following") 596)]) 0) (@List.toArray.{0} (@Option.{0} @Value) (@List.nil.{0} (@Option.{0} @Value)))))
noncomputable def My.o393 : ((x0 : @Params) → @Obj) := (fun (x0 : @Params) => (@Obj.mk .none none (@Data.fields #[]) (@List.toArray.{0} (@Option.{0} @Value) (@List.nil.{0} (@Option.{0} @Value)))))
noncomputable def My.o392 : ((x0 : @Params) → @Obj) := (fun (x0 : @Params) => (@Obj.mk (.type "tuple") none (@Data.seq #[] 0) (@List.toArray.{0} (@Option.{0} @Value) (@List.nil.{0} (@Option.{0} @Value)))))
noncomputable def My.o391 : ((x0 : @Params) → @Obj) := (fun (x0 : @Params) => (@Obj.mk (.type "function") none (@Data.func (@FuncData.mk (.ofString "high") (.ofString "Falling.high") (L2.defArgs (L2.inClass (My.top 18) 1)) (@FuncBody.stmts (L2.defBody (L2.inClass (My.top 18) 1))) (L2.defScope (L2.inClass (My.top 18) 1)) 3 (@List.nil.{0} (@Prod.{0, 0} @Str @Nat)) .none .none .none (.str (.ofString "oddbases.ways") 289) none (.ref 329) .none 0)) (@List.toArray.{0} (@Option.{0} @Value) (@List.nil.{0} (@Option.{0} @Value)))))
noncomputable def My.o390 : ((x0 : @Params) → @Obj) := (fun (x0 : @Params) => (@Obj.mk (.type "code") none (@Data.fields (List.toArray [(.str (.ofString "high") 579), (.str (.ofString "Falling.high") 580), (.str (.ofString "/claim/cut.py") 581), (@Value.int (115 : Int) 0), (@Value.int (2 : Int) 0), (@Value.int (0 : Int) 0), (@Value.int (0 : Int) 0), (@Value.int (3 : Int) 0), (.ref 324), (.bool @Bool.true), (@Value.int (181 : Int) 0), (.ref 325), .none, (.ref 326), (.ref 327), (.ref 328), (@Value.int (584 : Int) 0), (@Value.int (115 : Int) 0), (.str (.ofString "/claim/cut.py") 585)])) (@List.toArray.{0} (@Option.{0} @Value) (@List.nil.{0} (@Option.{0} @Value)))))
noncomputable def My.o389 : ((x0 : @Params) → @Obj) := (fun (x0 : @Params) => (@Obj.mk .none none (@Data.func (@FuncData.mk (.ofString "high") (.ofString "Falling.high") (L2.defArgs (L2.inClass (My.top 18) 1)) (@FuncBody.stmts (L2.defBody (L2.inClass (My.top 18) 1))) (L2.defScope (L2.inClass (My.top 18) 1)) 0 (@List.nil.{0} (@Prod.{0, 0} @Str @Nat)) .none .none .none .none none .none .none 0)) (@List.toArray.{0} (@Option.{0} @Value) (@List.nil.{0} (@Option.{0} @Value)))))
noncomputable def My.o388 : ((x0 : @Params) → @Obj) := (fun (x0 : @Params) => (@Obj.mk (.type "tuple") none (@Data.seq #[] 0) (@List.toArray.{0} (@Option.{0} @Value) (@List.nil.{0} (@Option.{0} @Value)))))
noncomputable def My.o387 : ((x0 : @Params) → @Obj) := (fun (x0 : @Params) => (@Obj.mk (.type "tuple") none (@Data.seq (List.toArray [(.str (.ofString "self") 582), (.str (.ofString "place") 583)]) 0) (@List.toArray.{0} (@Option.{0} @Value) (@List.nil.{0} (@Option.{0} @Value)))))
noncomputable def My.o386 : ((x0 : @Params) → @Obj) := (fun (x0 : @Params) => (@Obj.mk .none none (@Data.fields #[]) (@List.toArray.{0} (@Option.{0} @Value) (@List.nil.{0} (@Option.{0} @Value)))))
noncomputable def My.o385 : ((x0 : @Params) → @Obj) := (fun (x0 : @Params) => (@Obj.mk (.type "tuple") none (@Data.seq #[] 0) (@List.toArray.{0} (@Option.{0} @Value) (@List.nil.{0} (@Option.{0} @Value)))))
noncomputable def My.o384 : ((x0 : @Params) → @Obj) := (fun (x0 : @Params) => (@Obj.mk (.type "function") none (@Data.func (@FuncData.mk (.ofString "__init__") (.ofString "Falling.__init__") (L2.defArgs (L2.inClass (My.top 18) 0)) (@FuncBody.stmts (L2.defBody (L2.inClass (My.top 18) 0))) (L2.defScope (L2.inClass (My.top 18) 0)) 3 (@List.nil.{0} (@Prod.{0, 0} @Str @Nat)) .none .none .none (.str (.ofString "oddbases.ways") 289) none (.ref 322) .none 0)) (@List.toArray.{0} (@Option.{0} @Value) (@List.nil.{0} (@Option.{0} @Value)))))
noncomputable def My.o383 : ((x0 : @Params) → @Obj) := (fun (x0 : @Params) => (@Obj.mk (.type "code") none (@Data.fields (List.toArray [(.str (.ofString "__init__") 571), (.str (.ofString "Falling.__init__") 572), (.str (.ofString "/claim/cut.py") 573), (@Value.int (112 : Int) 0), (@Value.int (2 : Int) 0), (@Value.int (0 : Int) 0), (@Value.int (0 : Int) 0), (@Value.int (3 : Int) 0), (.ref 317), (.bool @Bool.true), (@Value.int (181 : Int) 0), (.ref 318), .none, (.ref 319), (.ref 320), (.ref 321), (@Value.int (576 : Int) 0), (@Value.int (112 : Int) 0), (.str (.ofString "/claim/cut.py") 577)])) (@List.toArray.{0} (@Option.{0} @Value) (@List.nil.{0} (@Option.{0} @Value)))))
noncomputable def My.o382 : ((x0 : @Params) → @Obj) := (fun (x0 : @Params) => (@Obj.mk .none none (@Data.func (@FuncData.mk (.ofString "__init__") (.ofString "Falling.__init__") (L2.defArgs (L2.inClass (My.top 18) 0)) (@FuncBody.stmts (L2.defBody (L2.inClass (My.top 18) 0))) (L2.defScope (L2.inClass (My.top 18) 0)) 0 (@List.nil.{0} (@Prod.{0, 0} @Str @Nat)) .none .none .none .none none .none .none 0)) (@List.toArray.{0} (@Option.{0} @Value) (@List.nil.{0} (@Option.{0} @Value)))))
noncomputable def My.o381 : ((x0 : @Params) → @Obj) := (fun (x0 : @Params) => (@Obj.mk (.type "tuple") none (@Data.seq #[] 0) (@List.toArray.{0} (@Option.{0} @Value) (@List.nil.{0} (@Option.{0} @Value)))))
noncomputable def My.o380 : ((x0 : @Params) → @Obj) := (fun (x0 : @Params) => (@Obj.mk (.type "tuple") none (@Data.seq (List.toArray [(.str (.ofString "self") 574), (.str (.ofString "most") 575)]) 0) (@List.toArray.{0} (@Option.{0} @Value) (@List.nil.{0} (@Option.{0} @Value)))))
noncomputable def My.o379 : ((x0 : @Params) → @Obj) := (fun (x0 : @Params) => (@Obj.mk .none none (@Data.fields #[]) (@List.toArray.{0} (@Option.{0} @Value) (@List.nil.{0} (@Option.{0} @Value)))))
noncomputable def My.o378 : ((x0 : @Params) → @Obj) := (fun (x0 : @Params) => (@Obj.mk (.type "tuple") none (@Data.seq #[] 0) (@List.toArray.{0} (@Option.{0} @Value) (@List.nil.{0} (@Option.{0} @Value)))))
noncomputable def My.o377 : ((x0 : @Params) → @Obj) := (fun (x0 : @Params) => (@Obj.mk (.type "frame") none @Data.plain (@List.toArray.{0} (@Option.{0} @Value) [(@Option.some.{0} @Value (.ref 315)), (@Option.some.{0} @Value (.ref 3)), (@Option.some.{0} @Value (.ref 312)), (@Option.none.{0} @Value), (@Option.some.{0} @Value (.str (.ofString "oddbases.ways") 289)), (@Option.none.{0} @Value), (@Option.some.{0} @Value (.ref 0))])))
noncomputable def My.o376 : ((x0 : @Params) → @Obj) := (fun (x0 : @Params) => (@Obj.mk (.type "code") none (@Data.fields (List.toArray [(.str (.ofString "Falling") 561), (.str (.ofString "Falling") 562), (.str (.ofString "/claim/cut.py") 563), (@Value.int (110 : Int) 0), (@Value.int (0 : Int) 0), (@Value.int (0 : Int) 0), (@Value.int (0 : Int) 0), (@Value.int (0 : Int) 0), (.ref 313), (.bool @Bool.false), (@Value.int (181 : Int) 0), (.ref 314), .none, .none, .none, .none, (@Value.int (564 : Int) 0), (@Value.int (110 : Int) 0), (.str (.ofString "/claim/cut.py") 565)])) (@List.toArray.{0} (@Option.{0} @Value) (@List.nil.{0} (@Option.{0} @Value)))))
noncomputable def My.o375 : ((x0 : @Params) → @Obj) := (fun (x0 : @Params) => (@Obj.mk .none none (@Data.fields (List.toArray [(@Value.int (112 : Int) 0), (@Value.int (4 : Int) 0), (.ref 322), (@Value.int (115 : Int) 0), (@Value.int (4 : Int) 0), (.ref 329), (@Value.int (118 : Int) 0), (@Value.int (4 : Int) 0), (.ref 336), (@Value.int (129 : Int) 0), (@Value.int (4 : Int) 0), (.ref 343), (@Value.int (132 : Int) 0), (@Value.int (4 : Int) 0), (.ref 350)])) (@List.toArray.{0} (@Option.{0} @Value) (@List.nil.{0} (@Option.{0} @Value)))))
noncomputable def My.o374 : ((x0 : @Params) → @Obj) := (fun (x0 : @Params) => (@Obj.mk (.type "tuple") none (@Data.seq #[] 0) (@List.toArray.{0} (@Option.{0} @Value) (@List.nil.{0} (@Option.{0} @Value)))))
noncomputable def My.o373 : ((x0 : @Params) → @Obj) := (fun (x0 : @Params) => (@Obj.mk (.type "dict") none (@Data.dict (List.toArray [(@DictEntry.mk (@PyData.keyHash x0 (.ofString "__module__")) (.str (.ofString "__module__") 566) (.str (.ofString "oddbases.ways") 289)), (@DictEntry.mk (@PyData.keyHash x0 (.ofString "__qualname__")) (.str (.ofString "__qualname__") 568) (.str (.ofString "Falling") 567)), (@DictEntry.mk (@PyData.keyHash x0 (.ofString "__firstlineno__")) (.str (.ofString "__firstlineno__") 570) (@Value.int (110 : Int) 569)), (@DictEntry.mk (@PyData.keyHash x0 (.ofString "__init__")) (.str (.ofString "__init__") 578) (.ref 323)), (@DictEntry.mk (@PyData.keyHash x0 (.ofString "high")) (.str (.ofString "high") 586) (.ref 330)), (@DictEntry.mk (@PyData.keyHash x0 (.ofString "weights")) (.str (.ofString "weights") 599) (.ref 337)), (@DictEntry.mk (@PyData.keyHash x0 (.ofString "ratio")) (.str (.ofString "ratio") 607) (.ref 344)), (@DictEntry.mk (@PyData.keyHash x0 (.ofString "split")) (.str (.ofString "split") 616) (.ref 351)), (@DictEntry.mk (@PyData.keyHash x0 (.ofString "__static_attributes__")) (.str (.ofString "__static_attributes__") 618) (.ref 352))]) 9) (@List.toArray.{0} (@Option.{0} @Value) (@List.nil.{0} (@Option.{0} @Value)))))
noncomputable def My.o372 : ((x0 : @Params) → @Obj) := (fun (x0 : @Params) => (@Obj.mk (.type "builtin_function_or_method") none (@Data.fields (List.toArray [(.builtin "type.__prepare__"), (.type "type")])) (@List.toArray.{0} (@Option.{0} @Value) (@List.nil.{0} (@Option.{0} @Value)))))
noncomputable def My.o371 : ((x0 : @Params) → @Obj) := (fun (x0 : @Params) => (@Obj.mk (.type "tuple") none (@Data.seq (List.toArray [(.ref 152)]) 0) (@List.toArray.{0} (@Option.{0} @Value) (@List.nil.{0} (@Option.{0} @Value)))))
noncomputable def My.o367 : ((x0 : @Params) → @Obj) := (fun (x0 : @Params) => (@Obj.mk (.type "builtin_function_or_method") none (@Data.fields (List.toArray [(.builtin "object.__init_subclass__"), (.ref 307)])) (@List.toArray.{0} (@Option.{0} @Value) (@List.nil.{0} (@Option.{0} @Value)))))
noncomputable def My.o366 : ((x0 : @Params) → @Obj) := (fun (x0 : @Params) => (@Obj.mk (.type "super") none (@Data.fields (List.toArray [(.ref 307), (.ref 307), (.ref 307)])) (@List.toArray.{0} (@Option.{0} @Value) (@List.nil.{0} (@Option.{0} @Value)))))
noncomputable def My.o365 : ((x0 : @Params) → @Obj) := (fun (x0 : @Params) => (@Obj.mk (.type "type") none (@Data.cls (@ClassData.mk (.ofString "Growing") [(.ref 152)] [(.ref 307), (.ref 152), (.type "object")] 306 (.ofString "Growing") @Bool.true [] [] @Bool.false (@Option.none.{0} @Bool) @Bool.false)) (@List.toArray.{0} (@Option.{0} @Value) [(@Option.some.{0} @Value (.ref 277)), (@Option.none.{0} @Value), (@Option.some.{0} @Value (.str (.ofString "Growing") 518)), (@Option.some.{0} @Value (.str (.ofString "Growing") 526)), (@Option.some.{0} @Value (.builtin "object.__new__")), (@Option.some.{0} @Value (.bool @Bool.true))])))
noncomputable def My.o364 : ((x0 : @Params) → @Obj) := (fun (x0 : @Params) => (@Obj.mk (.type "dict") none (@Data.dict (List.toArray [(@DictEntry.mk (@PyData.keyHash x0 (.ofString "__module__")) (.str (.ofString "__module__") 525) (.str (.ofString "oddbases.ways") 289)), (@DictEntry.mk (@PyData.keyHash x0 (.ofString "__firstlineno__")) (.str (.ofString "__firstlineno__") 529) (@Value.int (100 : Int) 528)), (@DictEntry.mk (@PyData.keyHash x0 (.ofString "__init__")) (.str (.ofString "__init__") 537) (.ref 290)), (@DictEntry.mk (@PyData.keyHash x0 (.ofString "high")) (.str (.ofString "high") 545) (.ref 297)), (@DictEntry.mk (@PyData.keyHash x0 (.ofString "ratio")) (.str (.ofString "ratio") 553) (.ref 304)), (@DictEntry.mk (@PyData.keyHash x0 (.ofString "__static_attributes__")) (.str (.ofString "__static_attributes__") 555) (.ref 305)), (@DictEntry.mk (@PyData.keyHash x0 (.ofString "__doc__")) (.str (.ofString "__doc__") 556) .none)]) 2) (@List.toArray.{0} (@Option.{0} @Value) (@List.nil.{0} (@Option.{0} @Value)))))
noncomputable def My.o363 : ((x0 : @Params) → @Obj) := (fun (x0 : @Params) => (@Obj.mk (.type "tuple") none (@Data.seq (List.toArray [(.str (.ofString "first") 554)]) 0) (@List.toArray.{0} (@Option.{0} @Value) (@List.nil.{0} (@Option.{0} @Value)))))
noncomputable def My.o362 : ((x0 : @Params) → @Obj) := (fun (x0 : @Params) => (@Obj.mk (.type "function") none (@Data.func (@FuncData.mk (.ofString "ratio") (.ofString "Growing.ratio") (L2.defArgs (L2.inClass (My.top 17) 2)) (@FuncBody.stmts (L2.defBody (L2.inClass (My.top 17) 2))) (L2.defScope (L2.inClass (My.top 17) 2)) 3 (@List.nil.{0} (@Prod.{0, 0} @Str @Nat)) .none .none .none (.str (.ofString "oddbases.ways") 289) none (.ref 303) .none 0)) (@List.toArray.{0} (@Option.{0} @Value) (@List.nil.{0} (@Option.{0} @Value)))))
noncomputable def My.o361 : ((x0 : @Params) → @Obj) := (fun (x0 : @Params) => (@Obj.mk (.type "code") none (@Data.fields (List.toArray [(.str (.ofString "ratio") 546), (.str (.ofString "Growing.ratio") 547), (.str (.ofString "/claim/cut.py") 548), (@Value.int (108 : Int) 0), (@Value.int (2 : Int) 0), (@Value.int (0 : Int) 0), (@Value.int (0 : Int) 0), (@Value.int (3 : Int) 0), (.ref 298), (.bool @Bool.true), (@Value.int (181 : Int) 0), (.ref 299), .none, (.ref 300), (.ref 301), (.ref 302), (@Value.int (551 : Int) 0), (@Value.int (108 : Int) 0), (.str (.ofString "/claim/cut.py") 552)])) (@List.toArray.{0} (@Option.{0} @Value) (@List.nil.{0} (@Option.{0} @Value)))))
noncomputable def My.o360 : ((x0 : @Params) → @Obj) := (fun (x0 : @Params) => (@Obj.mk .none none (@Data.func (@FuncData.mk (.ofString "ratio") (.ofString "Growing.ratio") (L2.defArgs (L2.inClass (My.top 17) 2)) (@FuncBody.stmts (L2.defBody (L2.inClass (My.top 17) 2))) (L2.defScope (L2.inClass (My.top 17) 2)) 0 (@List.nil.{0} (@Prod.{0, 0} @Str @Nat)) .none .none .none .none none .none .none 0)) (@List.toArray.{0} (@Option.{0} @Value) (@List.nil.{0} (@Option.{0} @Value)))))
noncomputable def My.o359 : ((x0 : @Params) → @Obj) := (fun (x0 : @Params) => (@Obj.mk (.type "tuple") none (@Data.seq #[] 0) (@List.toArray.{0} (@Option.{0} @Value) (@List.nil.{0} (@Option.{0} @Value)))))
noncomputable def My.o358 : ((x0 : @Params) → @Obj) := (fun (x0 : @Params) => (@Obj.mk (.type "tuple") none (@Data.seq (List.toArray [(.str (.ofString "self") 549), (.str (.ofString "place") 550)]) 0) (@List.toArray.{0} (@Option.{0} @Value) (@List.nil.{0} (@Option.{0} @Value)))))
noncomputable def My.o357 : ((x0 : @Params) → @Obj) := (fun (x0 : @Params) => (@Obj.mk .none none (@Data.fields #[]) (@List.toArray.{0} (@Option.{0} @Value) (@List.nil.{0} (@Option.{0} @Value)))))
noncomputable def My.o356 : ((x0 : @Params) → @Obj) := (fun (x0 : @Params) => (@Obj.mk (.type "tuple") none (@Data.seq #[] 0) (@List.toArray.{0} (@Option.{0} @Value) (@List.nil.{0} (@Option.{0} @Value)))))
noncomputable def My.o355 : ((x0 : @Params) → @Obj) := (fun (x0 : @Params) => (@Obj.mk (.type "function") none (@Data.func (@FuncData.mk (.ofString "high") (.ofString "Growing.high") (L2.defArgs (L2.inClass (My.top 17) 1)) (@FuncBody.stmts (L2.defBody (L2.inClass (My.top 17) 1))) (L2.defScope (L2.inClass (My.top 17) 1)) 3 (@List.nil.{0} (@Prod.{0, 0} @Str @Nat)) .none .none .none (.str (.ofString "oddbases.ways") 289) none (.ref 296) .none 0)) (@List.toArray.{0} (@Option.{0} @Value) (@List.nil.{0} (@Option.{0} @Value)))))
noncomputable def My.o354 : ((x0 : @Params) → @Obj) := (fun (x0 : @Params) => (@Obj.mk (.type "code") none (@Data.fields (List.toArray [(.str (.ofString "high") 538), (.str (.ofString "Growing.high") 539), (.str (.ofString "/claim/cut.py") 540), (@Value.int (105 : Int) 0), (@Value.int (2 : Int) 0), (@Value.int (0 : Int) 0), (@Value.int (0 : Int) 0), (@Value.int (3 : Int) 0), (.ref 291), (.bool @Bool.true), (@Value.int (181 : Int) 0), (.ref 292), .none, (.ref 293), (.ref 294), (.ref 295), (@Value.int (543 : Int) 0), (@Value.int (105 : Int) 0), (.str (.ofString "/claim/cut.py") 544)])) (@List.toArray.{0} (@Option.{0} @Value) (@List.nil.{0} (@Option.{0} @Value)))))
noncomputable def My.o353 : ((x0 : @Params) → @Obj) := (fun (x0 : @Params) => (@Obj.mk .none none (@Data.func (@FuncData.mk (.ofString "high") (.ofString "Growing.high") (L2.defArgs (L2.inClass (My.top 17) 1)) (@FuncBody.stmts (L2.defBody (L2.inClass (My.top 17) 1))) (L2.defScope (L2.inClass (My.top 17) 1)) 0 (@List.nil.{0} (@Prod.{0, 0} @Str @Nat)) .none .none .none .none none .none .none 0)) (@List.toArray.{0} (@Option.{0} @Value) (@List.nil.{0} (@Option.{0} @Value)))))
noncomputable def My.o352 : ((x0 : @Params) → @Obj) := (fun (x0 : @Params) => (@Obj.mk (.type "tuple") none (@Data.seq #[] 0) (@List.toArray.{0} (@Option.{0} @Value) (@List.nil.{0} (@Option.{0} @Value)))))
noncomputable def My.o351 : ((x0 : @Params) → @Obj) := (fun (x0 : @Params) => (@Obj.mk (.type "tuple") none (@Data.seq (List.toArray [(.str (.ofString "self") 541), (.str (.ofString "place") 542)]) 0) (@List.toArray.{0} (@Option.{0} @Value) (@List.nil.{0} (@Option.{0} @Value)))))
noncomputable def My.o350 : ((x0 : @Params) → @Obj) := (fun (x0 : @Params) => (@Obj.mk .none none (@Data.fields #[]) (@List.toArray.{0} (@Option.{0} @Value) (@List.nil.{0} (@Option.{0} @Value)))))
noncomputable def My.o349 : ((x0 : @Params) → @Obj) := (fun (x0 : @Params) => (@Obj.mk (.type "tuple") none (@Data.seq #[] 0) (@List.toArray.{0} (@Option.{0} @Value) (@List.nil.{0} (@Option.{0} @Value)))))
noncomputable def My.o348 : ((x0 : @Params) → @Obj) := (fun (x0 : @Params) => (@Obj.mk (.type "function") none (@Data.func (@FuncData.mk (.ofString "__init__") (.ofString "Growing.__init__") (L2.defArgs (L2.inClass (My.top 17) 0)) (@FuncBody.stmts (L2.defBody (L2.inClass (My.top 17) 0))) (L2.defScope (L2.inClass (My.top 17) 0)) 3 (@List.nil.{0} (@Prod.{0, 0} @Str @Nat)) .none .none .none (.str (.ofString "oddbases.ways") 289) none (.ref 289) .none 0)) (@List.toArray.{0} (@Option.{0} @Value) (@List.nil.{0} (@Option.{0} @Value)))))
noncomputable def My.o347 : ((x0 : @Params) → @Obj) := (fun (x0 : @Params) => (@Obj.mk (.type "code") none (@Data.fields (List.toArray [(.str (.ofString "__init__") 530), (.str (.ofString "Growing.__init__") 531), (.str (.ofString "/claim/cut.py") 532), (@Value.int (102 : Int) 0), (@Value.int (2 : Int) 0), (@Value.int (0 : Int) 0), (@Value.int (0 : Int) 0), (@Value.int (3 : Int) 0), (.ref 284), (.bool @Bool.true), (@Value.int (181 : Int) 0), (.ref 285), .none, (.ref 286), (.ref 287), (.ref 288), (@Value.int (535 : Int) 0), (@Value.int (102 : Int) 0), (.str (.ofString "/claim/cut.py") 536)])) (@List.toArray.{0} (@Option.{0} @Value) (@List.nil.{0} (@Option.{0} @Value)))))
noncomputable def My.o346 : ((x0 : @Params) → @Obj) := (fun (x0 : @Params) => (@Obj.mk .none none (@Data.func (@FuncData.mk (.ofString "__init__") (.ofString "Growing.__init__") (L2.defArgs (L2.inClass (My.top 17) 0)) (@FuncBody.stmts (L2.defBody (L2.inClass (My.top 17) 0))) (L2.defScope (L2.inClass (My.top 17) 0)) 0 (@List.nil.{0} (@Prod.{0, 0} @Str @Nat)) .none .none .none .none none .none .none 0)) (@List.toArray.{0} (@Option.{0} @Value) (@List.nil.{0} (@Option.{0} @Value)))))
noncomputable def My.o345 : ((x0 : @Params) → @Obj) := (fun (x0 : @Params) => (@Obj.mk (.type "tuple") none (@Data.seq #[] 0) (@List.toArray.{0} (@Option.{0} @Value) (@List.nil.{0} (@Option.{0} @Value)))))
noncomputable def My.o344 : ((x0 : @Params) → @Obj) := (fun (x0 : @Params) => (@Obj.mk (.type "tuple") none (@Data.seq (List.toArray [(.str (.ofString "self") 533), (.str (.ofString "first") 534)]) 0) (@List.toArray.{0} (@Option.{0} @Value) (@List.nil.{0} (@Option.{0} @Value)))))
noncomputable def My.o343 : ((x0 : @Params) → @Obj) := (fun (x0 : @Params) => (@Obj.mk .none none (@Data.fields #[]) (@List.toArray.{0} (@Option.{0} @Value) (@List.nil.{0} (@Option.{0} @Value)))))
noncomputable def My.o342 : ((x0 : @Params) → @Obj) := (fun (x0 : @Params) => (@Obj.mk (.type "tuple") none (@Data.seq #[] 0) (@List.toArray.{0} (@Option.{0} @Value) (@List.nil.{0} (@Option.{0} @Value)))))
noncomputable def My.o341 : ((x0 : @Params) → @Obj) := (fun (x0 : @Params) => (@Obj.mk (.type "frame") none @Data.plain (@List.toArray.{0} (@Option.{0} @Value) [(@Option.some.{0} @Value (.ref 282)), (@Option.some.{0} @Value (.ref 3)), (@Option.some.{0} @Value (.ref 279)), (@Option.none.{0} @Value), (@Option.some.{0} @Value (.str (.ofString "oddbases.ways") 289)), (@Option.none.{0} @Value), (@Option.some.{0} @Value (.ref 0))])))
noncomputable def My.o340 : ((x0 : @Params) → @Obj) := (fun (x0 : @Params) => (@Obj.mk (.type "code") none (@Data.fields (List.toArray [(.str (.ofString "Growing") 520), (.str (.ofString "Growing") 521), (.str (.ofString "/claim/cut.py") 522), (@Value.int (100 : Int) 0), (@Value.int (0 : Int) 0), (@Value.int (0 : Int) 0), (@Value.int (0 : Int) 0), (@Value.int (0 : Int) 0), (.ref 280), (.bool @Bool.false), (@Value.int (181 : Int) 0), (.ref 281), .none, .none, .none, .none, (@Value.int (523 : Int) 0), (@Value.int (100 : Int) 0), (.str (.ofString "/claim/cut.py") 524)])) (@List.toArray.{0} (@Option.{0} @Value) (@List.nil.{0} (@Option.{0} @Value)))))
noncomputable def My.o339 : ((x0 : @Params) → @Obj) := (fun (x0 : @Params) => (@Obj.mk .none none (@Data.fields (List.toArray [(@Value.int (102 : Int) 0), (@Value.int (4 : Int) 0), (.ref 289), (@Value.int (105 : Int) 0), (@Value.int (4 : Int) 0), (.ref 296), (@Value.int (108 : Int) 0), (@Value.int (4 : Int) 0), (.ref 303)])) (@List.toArray.{0} (@Option.{0} @Value) (@List.nil.{0} (@Option.{0} @Value)))))
noncomputable def My.o338 : ((x0 : @Params) → @Obj) := (fun (x0 : @Params) => (@Obj.mk (.type "tuple") none (@Data.seq #[] 0) (@List.toArray.{0} (@Option.{0} @Value) (@List.nil.{0} (@Option.{0} @Value)))))
noncomputable def My.o337 : ((x0 : @Params) → @Obj) := (fun (x0 : @Params) => (@Obj.mk (.type "dict") none (@Data.dict (List.toArray [(@DictEntry.mk (@PyData.keyHash x0 (.ofString "__module__")) (.str (.ofString "__module__") 525) (.str (.ofString "oddbases.ways") 289)), (@DictEntry.mk (@PyData.keyHash x0 (.ofString "__qualname__")) (.str (.ofString "__qualname__") 527) (.str (.ofString "Growing") 526)), (@DictEntry.mk (@PyData.keyHash x0 (.ofString "__firstlineno__")) (.str (.ofString "__firstlineno__") 529) (@Value.int (100 : Int) 528)), (@DictEntry.mk (@PyData.keyHash x0 (.ofString "__init__")) (.str (.ofString "__init__") 537) (.ref 290)), (@DictEntry.mk (@PyData.keyHash x0 (.ofString "high")) (.str (.ofString "high") 545) (.ref 297)), (@DictEntry.mk (@PyData.keyHash x0 (.ofString "ratio")) (.str (.ofString "ratio") 553) (.ref 304)), (@DictEntry.mk (@PyData.keyHash x0 (.ofString "__static_attributes__")) (.str (.ofString "__static_attributes__") 555) (.ref 305))]) 7) (@List.toArray.{0} (@Option.{0} @Value) (@List.nil.{0} (@Option.{0} @Value)))))
noncomputable def My.o336 : ((x0 : @Params) → @Obj) := (fun (x0 : @Params) => (@Obj.mk (.type "builtin_function_or_method") none (@Data.fields (List.toArray [(.builtin "type.__prepare__"), (.type "type")])) (@List.toArray.{0} (@Option.{0} @Value) (@List.nil.{0} (@Option.{0} @Value)))))
noncomputable def My.o335 : ((x0 : @Params) → @Obj) := (fun (x0 : @Params) => (@Obj.mk (.type "tuple") none (@Data.seq (List.toArray [(.ref 152)]) 0) (@List.toArray.{0} (@Option.{0} @Value) (@List.nil.{0} (@Option.{0} @Value)))))
noncomputable def My.o331 : ((x0 : @Params) → @Obj) := (fun (x0 : @Params) => (@Obj.mk (.type "builtin_function_or_method") none (@Data.fields (List.toArray [(.builtin "object.__init_subclass__"), (.ref 274)])) (@List.toArray.{0} (@Option.{0} @Value) (@List.nil.{0} (@Option.{0} @Value)))))
noncomputable def My.o330 : ((x0 : @Params) → @Obj) := (fun (x0 : @Params) => (@Obj.mk (.type "super") none (@Data.fields (List.toArray [(.ref 274), (.ref 274), (.ref 274)])) (@List.toArray.{0} (@Option.{0} @Value) (@List.nil.{0} (@Option.{0} @Value)))))
noncomputable def My.o329 : ((x0 : @Params) → @Obj) := (fun (x0 : @Params) => (@Obj.mk (.type "type") none (@Data.cls (@ClassData.mk (.ofString "Balanced") [(.ref 152)] [(.ref 274), (.ref 152), (.type "object")] 273 (.ofString "Balanced") @Bool.true [] [] @Bool.false (@Option.none.{0} @Bool) @Bool.false)) (@List.toArray.{0} (@Option.{0} @Value) [(@Option.some.{0} @Value (.ref 230)), (@Option.none.{0} @Value), (@Option.some.{0} @Value (.str (.ofString "Balanced") 461)), (@Option.some.{0} @Value (.str (.ofString "Balanced") 469)), (@Option.some.{0} @Value (.builtin "object.__new__")), (@Option.some.{0} @Value (.bool @Bool.true))])))
noncomputable def My.o328 : ((x0 : @Params) → @Obj) := (fun (x0 : @Params) => (@Obj.mk (.type "dict") none (@Data.dict (List.toArray [(@DictEntry.mk (@PyData.keyHash x0 (.ofString "__module__")) (.str (.ofString "__module__") 468) (.str (.ofString "oddbases.ways") 289)), (@DictEntry.mk (@PyData.keyHash x0 (.ofString "__firstlineno__")) (.str (.ofString "__firstlineno__") 472) (@Value.int (84 : Int) 471)), (@DictEntry.mk (@PyData.keyHash x0 (.ofString "__init__")) (.str (.ofString "__init__") 480) (.ref 243)), (@DictEntry.mk (@PyData.keyHash x0 (.ofString "low")) (.str (.ofString "low") 488) (.ref 250)), (@DictEntry.mk (@PyData.keyHash x0 (.ofString "high")) (.str (.ofString "high") 496) (.ref 257)), (@DictEntry.mk (@PyData.keyHash x0 (.ofString "ratio")) (.str (.ofString "ratio") 504) (.ref 264)), (@DictEntry.mk (@PyData.keyHash x0 (.ofString "has")) (.str (.ofString "has") 512) (.ref 271)), (@DictEntry.mk (@PyData.keyHash x0 (.ofString "__static_attributes__")) (.str (.ofString "__static_attributes__") 514) (.ref 272)), (@DictEntry.mk (@PyData.keyHash x0 (.ofString "__doc__")) (.str (.ofString "__doc__") 515) .none)]) 2) (@List.toArray.{0} (@Option.{0} @Value) (@List.nil.{0} (@Option.{0} @Value)))))
noncomputable def My.o327 : ((x0 : @Params) → @Obj) := (fun (x0 : @Params) => (@Obj.mk (.type "tuple") none (@Data.seq (List.toArray [(.str (.ofString "half") 513)]) 0) (@List.toArray.{0} (@Option.{0} @Value) (@List.nil.{0} (@Option.{0} @Value)))))
noncomputable def My.o326 : ((x0 : @Params) → @Obj) := (fun (x0 : @Params) => (@Obj.mk (.type "function") none (@Data.func (@FuncData.mk (.ofString "has") (.ofString "Balanced.has") (L2.defArgs (L2.inClass (My.top 16) 4)) (@FuncBody.stmts (L2.defBody (L2.inClass (My.top 16) 4))) (L2.defScope (L2.inClass (My.top 16) 4)) 3 (@List.nil.{0} (@Prod.{0, 0} @Str @Nat)) .none .none .none (.str (.ofString "oddbases.ways") 289) none (.ref 270) .none 0)) (@List.toArray.{0} (@Option.{0} @Value) (@List.nil.{0} (@Option.{0} @Value)))))
noncomputable def My.o325 : ((x0 : @Params) → @Obj) := (fun (x0 : @Params) => (@Obj.mk (.type "code") none (@Data.fields (List.toArray [(.str (.ofString "has") 505), (.str (.ofString "Balanced.has") 506), (.str (.ofString "/claim/cut.py") 507), (@Value.int (98 : Int) 0), (@Value.int (2 : Int) 0), (@Value.int (0 : Int) 0), (@Value.int (0 : Int) 0), (@Value.int (3 : Int) 0), (.ref 265), (.bool @Bool.true), (@Value.int (181 : Int) 0), (.ref 266), .none, (.ref 267), (.ref 268), (.ref 269), (@Value.int (510 : Int) 0), (@Value.int (98 : Int) 0), (.str (.ofString "/claim/cut.py") 511)])) (@List.toArray.{0} (@Option.{0} @Value) (@List.nil.{0} (@Option.{0} @Value)))))
noncomputable def My.o324 : ((x0 : @Params) → @Obj) := (fun (x0 : @Params) => (@Obj.mk .none none (@Data.func (@FuncData.mk (.ofString "has") (.ofString "Balanced.has") (L2.defArgs (L2.inClass (My.top 16) 4)) (@FuncBody.stmts (L2.defBody (L2.inClass (My.top 16) 4))) (L2.defScope (L2.inClass (My.top 16) 4)) 0 (@List.nil.{0} (@Prod.{0, 0} @Str @Nat)) .none .none .none .none none .none .none 0)) (@List.toArray.{0} (@Option.{0} @Value) (@List.nil.{0} (@Option.{0} @Value)))))
noncomputable def My.o323 : ((x0 : @Params) → @Obj) := (fun (x0 : @Params) => (@Obj.mk (.type "tuple") none (@Data.seq #[] 0) (@List.toArray.{0} (@Option.{0} @Value) (@List.nil.{0} (@Option.{0} @Value)))))
noncomputable def My.o322 : ((x0 : @Params) → @Obj) := (fun (x0 : @Params) => (@Obj.mk (.type "tuple") none (@Data.seq (List.toArray [(.str (.ofString "self") 508), (.str (.ofString "number") 509)]) 0) (@List.toArray.{0} (@Option.{0} @Value) (@List.nil.{0} (@Option.{0} @Value)))))
noncomputable def My.o321 : ((x0 : @Params) → @Obj) := (fun (x0 : @Params) => (@Obj.mk .none none (@Data.fields #[]) (@List.toArray.{0} (@Option.{0} @Value) (@List.nil.{0} (@Option.{0} @Value)))))
noncomputable def My.o320 : ((x0 : @Params) → @Obj) := (fun (x0 : @Params) => (@Obj.mk (.type "tuple") none (@Data.seq #[] 0) (@List.toArray.{0} (@Option.{0} @Value) (@List.nil.{0} (@Option.{0} @Value)))))
noncomputable def My.o319 : ((x0 : @Params) → @Obj) := (fun (x0 : @Params) => (@Obj.mk (.type "function") none (@Data.func (@FuncData.mk (.ofString "ratio") (.ofString "Balanced.ratio") (L2.defArgs (L2.inClass (My.top 16) 3)) (@FuncBody.stmts (L2.defBody (L2.inClass (My.top 16) 3))) (L2.defScope (L2.inClass (My.top 16) 3)) 3 (@List.nil.{0} (@Prod.{0, 0} @Str @Nat)) .none .none .none (.str (.ofString "oddbases.ways") 289) none (.ref 263) .none 0)) (@List.toArray.{0} (@Option.{0} @Value) (@List.nil.{0} (@Option.{0} @Value)))))
noncomputable def My.o318 : ((x0 : @Params) → @Obj) := (fun (x0 : @Params) => (@Obj.mk (.type "code") none (@Data.fields (List.toArray [(.str (.ofString "ratio") 497), (.str (.ofString "Balanced.ratio") 498), (.str (.ofString "/claim/cut.py") 499), (@Value.int (95 : Int) 0), (@Value.int (2 : Int) 0), (@Value.int (0 : Int) 0), (@Value.int (0 : Int) 0), (@Value.int (3 : Int) 0), (.ref 258), (.bool @Bool.true), (@Value.int (181 : Int) 0), (.ref 259), .none, (.ref 260), (.ref 261), (.ref 262), (@Value.int (502 : Int) 0), (@Value.int (95 : Int) 0), (.str (.ofString "/claim/cut.py") 503)])) (@List.toArray.{0} (@Option.{0} @Value) (@List.nil.{0} (@Option.{0} @Value)))))
noncomputable def My.o317 : ((x0 : @Params) → @Obj) := (fun (x0 : @Params) => (@Obj.mk .none none (@Data.func (@FuncData.mk (.ofString "ratio") (.ofString "Balanced.ratio") (L2.defArgs (L2.inClass (My.top 16) 3)) (@FuncBody.stmts (L2.defBody (L2.inClass (My.top 16) 3))) (L2.defScope (L2.inClass (My.top 16) 3)) 0 (@List.nil.{0} (@Prod.{0, 0} @Str @Nat)) .none .none .none .none none .none .none 0)) (@List.toArray.{0} (@Option.{0} @Value) (@List.nil.{0} (@Option.{0} @Value)))))
noncomputable def My.o316 : ((x0 : @Params) → @Obj) := (fun (x0 : @Params) => (@Obj.mk (.type "tuple") none (@Data.seq #[] 0) (@List.toArray.{0} (@Option.{0} @Value) (@List.nil.{0} (@Option.{0} @Value)))))
noncomputable def My.o315 : ((x0 : @Params) → @Obj) := (fun (x0 : @Params) => (@Obj.mk (.type "tuple") none (@Data.seq (List.toArray [(.str (.ofString "self") 500), (.str (.ofString "place") 501)]) 0) (@List.toArray.{0} (@Option.{0} @Value) (@List.nil.{0} (@Option.{0} @Value)))))
noncomputable def My.o314 : ((x0 : @Params) → @Obj) := (fun (x0 : @Params) => (@Obj.mk .none none (@Data.fields #[]) (@List.toArray.{0} (@Option.{0} @Value) (@List.nil.{0} (@Option.{0} @Value)))))
noncomputable def My.o313 : ((x0 : @Params) → @Obj) := (fun (x0 : @Params) => (@Obj.mk (.type "tuple") none (@Data.seq #[] 0) (@List.toArray.{0} (@Option.{0} @Value) (@List.nil.{0} (@Option.{0} @Value)))))
noncomputable def My.o312 : ((x0 : @Params) → @Obj) := (fun (x0 : @Params) => (@Obj.mk (.type "function") none (@Data.func (@FuncData.mk (.ofString "high") (.ofString "Balanced.high") (L2.defArgs (L2.inClass (My.top 16) 2)) (@FuncBody.stmts (L2.defBody (L2.inClass (My.top 16) 2))) (L2.defScope (L2.inClass (My.top 16) 2)) 3 (@List.nil.{0} (@Prod.{0, 0} @Str @Nat)) .none .none .none (.str (.ofString "oddbases.ways") 289) none (.ref 256) .none 0)) (@List.toArray.{0} (@Option.{0} @Value) (@List.nil.{0} (@Option.{0} @Value)))))
noncomputable def My.o311 : ((x0 : @Params) → @Obj) := (fun (x0 : @Params) => (@Obj.mk (.type "code") none (@Data.fields (List.toArray [(.str (.ofString "high") 489), (.str (.ofString "Balanced.high") 490), (.str (.ofString "/claim/cut.py") 491), (@Value.int (92 : Int) 0), (@Value.int (2 : Int) 0), (@Value.int (0 : Int) 0), (@Value.int (0 : Int) 0), (@Value.int (3 : Int) 0), (.ref 251), (.bool @Bool.true), (@Value.int (181 : Int) 0), (.ref 252), .none, (.ref 253), (.ref 254), (.ref 255), (@Value.int (494 : Int) 0), (@Value.int (92 : Int) 0), (.str (.ofString "/claim/cut.py") 495)])) (@List.toArray.{0} (@Option.{0} @Value) (@List.nil.{0} (@Option.{0} @Value)))))
noncomputable def My.o310 : ((x0 : @Params) → @Obj) := (fun (x0 : @Params) => (@Obj.mk .none none (@Data.func (@FuncData.mk (.ofString "high") (.ofString "Balanced.high") (L2.defArgs (L2.inClass (My.top 16) 2)) (@FuncBody.stmts (L2.defBody (L2.inClass (My.top 16) 2))) (L2.defScope (L2.inClass (My.top 16) 2)) 0 (@List.nil.{0} (@Prod.{0, 0} @Str @Nat)) .none .none .none .none none .none .none 0)) (@List.toArray.{0} (@Option.{0} @Value) (@List.nil.{0} (@Option.{0} @Value)))))
noncomputable def My.o309 : ((x0 : @Params) → @Obj) := (fun (x0 : @Params) => (@Obj.mk (.type "tuple") none (@Data.seq #[] 0) (@List.toArray.{0} (@Option.{0} @Value) (@List.nil.{0} (@Option.{0} @Value)))))
noncomputable def My.o308 : ((x0 : @Params) → @Obj) := (fun (x0 : @Params) => (@Obj.mk (.type "tuple") none (@Data.seq (List.toArray [(.str (.ofString "self") 492), (.str (.ofString "place") 493)]) 0) (@List.toArray.{0} (@Option.{0} @Value) (@List.nil.{0} (@Option.{0} @Value)))))
noncomputable def My.o307 : ((x0 : @Params) → @Obj) := (fun (x0 : @Params) => (@Obj.mk .none none (@Data.fields #[]) (@List.toArray.{0} (@Option.{0} @Value) (@List.nil.{0} (@Option.{0} @Value)))))
noncomputable def My.o306 : ((x0 : @Params) → @Obj) := (fun (x0 : @Params) => (@Obj.mk (.type "tuple") none (@Data.seq #[] 0) (@List.toArray.{0} (@Option.{0} @Value) (@List.nil.{0} (@Option.{0} @Value)))))
noncomputable def My.o305 : ((x0 : @Params) → @Obj) := (fun (x0 : @Params) => (@Obj.mk (.type "function") none (@Data.func (@FuncData.mk (.ofString "low") (.ofString "Balanced.low") (L2.defArgs (L2.inClass (My.top 16) 1)) (@FuncBody.stmts (L2.defBody (L2.inClass (My.top 16) 1))) (L2.defScope (L2.inClass (My.top 16) 1)) 3 (@List.nil.{0} (@Prod.{0, 0} @Str @Nat)) .none .none .none (.str (.ofString "oddbases.ways") 289) none (.ref 249) .none 0)) (@List.toArray.{0} (@Option.{0} @Value) (@List.nil.{0} (@Option.{0} @Value)))))
noncomputable def My.o304 : ((x0 : @Params) → @Obj) := (fun (x0 : @Params) => (@Obj.mk (.type "code") none (@Data.fields (List.toArray [(.str (.ofString "low") 481), (.str (.ofString "Balanced.low") 482), (.str (.ofString "/claim/cut.py") 483), (@Value.int (89 : Int) 0), (@Value.int (2 : Int) 0), (@Value.int (0 : Int) 0), (@Value.int (0 : Int) 0), (@Value.int (3 : Int) 0), (.ref 244), (.bool @Bool.true), (@Value.int (181 : Int) 0), (.ref 245), .none, (.ref 246), (.ref 247), (.ref 248), (@Value.int (486 : Int) 0), (@Value.int (89 : Int) 0), (.str (.ofString "/claim/cut.py") 487)])) (@List.toArray.{0} (@Option.{0} @Value) (@List.nil.{0} (@Option.{0} @Value)))))
noncomputable def My.o303 : ((x0 : @Params) → @Obj) := (fun (x0 : @Params) => (@Obj.mk .none none (@Data.func (@FuncData.mk (.ofString "low") (.ofString "Balanced.low") (L2.defArgs (L2.inClass (My.top 16) 1)) (@FuncBody.stmts (L2.defBody (L2.inClass (My.top 16) 1))) (L2.defScope (L2.inClass (My.top 16) 1)) 0 (@List.nil.{0} (@Prod.{0, 0} @Str @Nat)) .none .none .none .none none .none .none 0)) (@List.toArray.{0} (@Option.{0} @Value) (@List.nil.{0} (@Option.{0} @Value)))))
noncomputable def My.o302 : ((x0 : @Params) → @Obj) := (fun (x0 : @Params) => (@Obj.mk (.type "tuple") none (@Data.seq #[] 0) (@List.toArray.{0} (@Option.{0} @Value) (@List.nil.{0} (@Option.{0} @Value)))))
noncomputable def My.o301 : ((x0 : @Params) → @Obj) := (fun (x0 : @Params) => (@Obj.mk (.type "tuple") none (@Data.seq (List.toArray [(.str (.ofString "self") 484), (.str (.ofString "place") 485)]) 0) (@List.toArray.{0} (@Option.{0} @Value) (@List.nil.{0} (@Option.{0} @Value)))))
noncomputable def My.o300 : ((x0 : @Params) → @Obj) := (fun (x0 : @Params) => (@Obj.mk .none none (@Data.fields #[]) (@List.toArray.{0} (@Option.{0} @Value) (@List.nil.{0} (@Option.{0} @Value)))))
noncomputable def My.o299 : ((x0 : @Params) → @Obj) := (fun (x0 : @Params) => (@Obj.mk (.type "tuple") none (@Data.seq #[] 0) (@List.toArray.{0} (@Option.{0} @Value) (@List.nil.{0} (@Option.{0} @Value)))))
noncomputable def My.o298 : ((x0 : @Params) → @Obj) := (fun (x0 : @Params) => (@Obj.mk (.type "function") none (@Data.func (@FuncData.mk (.ofString "__init__") (.ofString "Balanced.__init__") (L2.defArgs (L2.inClass (My.top 16) 0)) (@FuncBody.stmts (L2.defBody (L2.inClass (My.top 16) 0))) (L2.defScope (L2.inClass (My.top 16) 0)) 3 (@List.nil.{0} (@Prod.{0, 0} @Str @Nat)) .none .none .none (.str (.ofString "oddbases.ways") 289) none (.ref 242) .none 0)) (@List.toArray.{0} (@Option.{0} @Value) (@List.nil.{0} (@Option.{0} @Value)))))
noncomputable def My.o297 : ((x0 : @Params) → @Obj) := (fun (x0 : @Params) => (@Obj.mk (.type "code") none (@Data.fields (List.toArray [(.str (.ofString "__init__") 473), (.str (.ofString "Balanced.__init__") 474), (.str (.ofString "/claim/cut.py") 475), (@Value.int (86 : Int) 0), (@Value.int (2 : Int) 0), (@Value.int (0 : Int) 0), (@Value.int (0 : Int) 0), (@Value.int (3 : Int) 0), (.ref 237), (.bool @Bool.true), (@Value.int (181 : Int) 0), (.ref 238), .none, (.ref 239), (.ref 240), (.ref 241), (@Value.int (478 : Int) 0), (@Value.int (86 : Int) 0), (.str (.ofString "/claim/cut.py") 479)])) (@List.toArray.{0} (@Option.{0} @Value) (@List.nil.{0} (@Option.{0} @Value)))))
noncomputable def My.o296 : ((x0 : @Params) → @Obj) := (fun (x0 : @Params) => (@Obj.mk .none none (@Data.func (@FuncData.mk (.ofString "__init__") (.ofString "Balanced.__init__") (L2.defArgs (L2.inClass (My.top 16) 0)) (@FuncBody.stmts (L2.defBody (L2.inClass (My.top 16) 0))) (L2.defScope (L2.inClass (My.top 16) 0)) 0 (@List.nil.{0} (@Prod.{0, 0} @Str @Nat)) .none .none .none .none none .none .none 0)) (@List.toArray.{0} (@Option.{0} @Value) (@List.nil.{0} (@Option.{0} @Value)))))
noncomputable def My.o295 : ((x0 : @Params) → @Obj) := (fun (x0 : @Params) => (@Obj.mk (.type "tuple") none (@Data.seq #[] 0) (@List.toArray.{0} (@Option.{0} @Value) (@List.nil.{0} (@Option.{0} @Value)))))
noncomputable def My.o294 : ((x0 : @Params) → @Obj) := (fun (x0 : @Params) => (@Obj.mk (.type "tuple") none (@Data.seq (List.toArray [(.str (.ofString "self") 476), (.str (.ofString "half") 477)]) 0) (@List.toArray.{0} (@Option.{0} @Value) (@List.nil.{0} (@Option.{0} @Value)))))
noncomputable def My.o293 : ((x0 : @Params) → @Obj) := (fun (x0 : @Params) => (@Obj.mk .none none (@Data.fields #[]) (@List.toArray.{0} (@Option.{0} @Value) (@List.nil.{0} (@Option.{0} @Value)))))
noncomputable def My.o292 : ((x0 : @Params) → @Obj) := (fun (x0 : @Params) => (@Obj.mk (.type "tuple") none (@Data.seq #[] 0) (@List.toArray.{0} (@Option.{0} @Value) (@List.nil.{0} (@Option.{0} @Value)))))
noncomputable def My.o291 : ((x0 : @Params) → @Obj) := (fun (x0 : @Params) => (@Obj.mk (.type "frame") none @Data.plain (@List.toArray.{0} (@Option.{0} @Value) [(@Option.some.{0} @Value (.ref 235)), (@Option.some.{0} @Value (.ref 3)), (@Option.some.{0} @Value (.ref 232)), (@Option.none.{0} @Value), (@Option.some.{0} @Value (.str (.ofString "oddbases.ways") 289)), (@Option.none.{0} @Value), (@Option.some.{0} @Value (.ref 0))])))
noncomputable def My.o290 : ((x0 : @Params) → @Obj) := (fun (x0 : @Params) => (@Obj.mk (.type "code") none (@Data.fields (List.toArray [(.str (.ofString "Balanced") 463), (.str (.ofString "Balanced") 464), (.str (.ofString "/claim/cut.py") 465), (@Value.int (84 : Int) 0), (@Value.int (0 : Int) 0), (@Value.int (0 : Int) 0), (@Value.int (0 : Int) 0), (@Value.int (0 : Int) 0), (.ref 233), (.bool @Bool.false), (@Value.int (181 : Int) 0), (.ref 234), .none, .none, .none, .none, (@Value.int (466 : Int) 0), (@Value.int (84 : Int) 0), (.str (.ofString "/claim/cut.py") 467)])) (@List.toArray.{0} (@Option.{0} @Value) (@List.nil.{0} (@Option.{0} @Value)))))
noncomputable def My.o289 : ((x0 : @Params) → @Obj) := (fun (x0 : @Params) => (@Obj.mk .none none (@Data.fields (List.toArray [(@Value.int (86 : Int) 0), (@Value.int (4 : Int) 0), (.ref 242), (@Value.int (89 : Int) 0), (@Value.int (4 : Int) 0), (.ref 249), (@Value.int (92 : Int) 0), (@Value.int (4 : Int) 0), (.ref 256), (@Value.int (95 : Int) 0), (@Value.int (4 : Int) 0), (.ref 263), (@Value.int (98 : Int) 0), (@Value.int (4 : Int) 0), (.ref 270)])) (@List.toArray.{0} (@Option.{0} @Value) (@List.nil.{0} (@Option.{0} @Value)))))
noncomputable def My.o288 : ((x0 : @Params) → @Obj) := (fun (x0 : @Params) => (@Obj.mk (.type "tuple") none (@Data.seq #[] 0) (@List.toArray.{0} (@Option.{0} @Value) (@List.nil.{0} (@Option.{0} @Value)))))
noncomputable def My.o287 : ((x0 : @Params) → @Obj) := (fun (x0 : @Params) => (@Obj.mk (.type "dict") none (@Data.dict (List.toArray [(@DictEntry.mk (@PyData.keyHash x0 (.ofString "__module__")) (.str (.ofString "__module__") 468) (.str (.ofString "oddbases.ways") 289)), (@DictEntry.mk (@PyData.keyHash x0 (.ofString "__qualname__")) (.str (.ofString "__qualname__") 470) (.str (.ofString "Balanced") 469)), (@DictEntry.mk (@PyData.keyHash x0 (.ofString "__firstlineno__")) (.str (.ofString "__firstlineno__") 472) (@Value.int (84 : Int) 471)), (@DictEntry.mk (@PyData.keyHash x0 (.ofString "__init__")) (.str (.ofString "__init__") 480) (.ref 243)), (@DictEntry.mk (@PyData.keyHash x0 (.ofString "low")) (.str (.ofString "low") 488) (.ref 250)), (@DictEntry.mk (@PyData.keyHash x0 (.ofString "high")) (.str (.ofString "high") 496) (.ref 257)), (@DictEntry.mk (@PyData.keyHash x0 (.ofString "ratio")) (.str (.ofString "ratio") 504) (.ref 264)), (@DictEntry.mk (@PyData.keyHash x0 (.ofString "has")) (.str (.ofString "has") 512) (.ref 271)), (@DictEntry.mk (@PyData.keyHash x0 (.ofString "__static_attributes__")) (.str (.ofString "__static_attributes__") 514) (.ref 272))]) 9) (@List.toArray.{0} (@Option.{0} @Value) (@List.nil.{0} (@Option.{0} @Value)))))
noncomputable def My.o286 : ((x0 : @Params) → @Obj) := (fun (x0 : @Params) => (@Obj.mk (.type "builtin_function_or_method") none (@Data.fields (List.toArray [(.builtin "type.__prepare__"), (.type "type")])) (@List.toArray.{0} (@Option.{0} @Value) (@List.nil.{0} (@Option.{0} @Value)))))
noncomputable def My.o285 : ((x0 : @Params) → @Obj) := (fun (x0 : @Params) => (@Obj.mk (.type "tuple") none (@Data.seq (List.toArray [(.ref 152)]) 0) (@List.toArray.{0} (@Option.{0} @Value) (@List.nil.{0} (@Option.{0} @Value)))))
noncomputable def My.o281 : ((x0 : @Params) → @Obj) := (fun (x0 : @Params) => (@Obj.mk (.type "builtin_function_or_method") none (@Data.fields (List.toArray [(.builtin "object.__init_subclass__"), (.ref 227)])) (@List.toArray.{0} (@Option.{0} @Value) (@List.nil.{0} (@Option.{0} @Value)))))
noncomputable def My.o280 : ((x0 : @Params) → @Obj) := (fun (x0 : @Params) => (@Obj.mk (.type "super") none (@Data.fields (List.toArray [(.ref 227), (.ref 227), (.ref 227)])) (@List.toArray.{0} (@Option.{0} @Value) (@List.nil.{0} (@Option.{0} @Value)))))
noncomputable def My.o279 : ((x0 : @Params) → @Obj) := (fun (x0 : @Params) => (@Obj.mk (.type "type") none (@Data.cls (@ClassData.mk (.ofString "Below") [(.ref 152)] [(.ref 227), (.ref 152), (.type "object")] 226 (.ofString "Below") @Bool.true [] [] @Bool.false (@Option.none.{0} @Bool) @Bool.false)) (@List.toArray.{0} (@Option.{0} @Value) [(@Option.some.{0} @Value (.ref 190)), (@Option.none.{0} @Value), (@Option.some.{0} @Value (.str (.ofString "Below") 412)), (@Option.some.{0} @Value (.str (.ofString "Below") 420)), (@Option.some.{0} @Value (.builtin "object.__new__")), (@Option.some.{0} @Value (.bool @Bool.true))])))
noncomputable def My.o278 : ((x0 : @Params) → @Obj) := (fun (x0 : @Params) => (@Obj.mk (.type "dict") none (@Data.dict (List.toArray [(@DictEntry.mk (@PyData.keyHash x0 (.ofString "__module__")) (.str (.ofString "__module__") 419) (.str (.ofString "oddbases.ways") 289)), (@DictEntry.mk (@PyData.keyHash x0 (.ofString "__firstlineno__")) (.str (.ofString "__firstlineno__") 423) (@Value.int (71 : Int) 422)), (@DictEntry.mk (@PyData.keyHash x0 (.ofString "__init__")) (.str (.ofString "__init__") 431) (.ref 203)), (@DictEntry.mk (@PyData.keyHash x0 (.ofString "high")) (.str (.ofString "high") 439) (.ref 210)), (@DictEntry.mk (@PyData.keyHash x0 (.ofString "ratio")) (.str (.ofString "ratio") 447) (.ref 217)), (@DictEntry.mk (@PyData.keyHash x0 (.ofString "has")) (.str (.ofString "has") 455) (.ref 224)), (@DictEntry.mk (@PyData.keyHash x0 (.ofString "__static_attributes__")) (.str (.ofString "__static_attributes__") 457) (.ref 225)), (@DictEntry.mk (@PyData.keyHash x0 (.ofString "__doc__")) (.str (.ofString "__doc__") 458) .none)]) 2) (@List.toArray.{0} (@Option.{0} @Value) (@List.nil.{0} (@Option.{0} @Value)))))
noncomputable def My.o277 : ((x0 : @Params) → @Obj) := (fun (x0 : @Params) => (@Obj.mk (.type "tuple") none (@Data.seq (List.toArray [(.str (.ofString "base") 456)]) 0) (@List.toArray.{0} (@Option.{0} @Value) (@List.nil.{0} (@Option.{0} @Value)))))
noncomputable def My.o276 : ((x0 : @Params) → @Obj) := (fun (x0 : @Params) => (@Obj.mk (.type "function") none (@Data.func (@FuncData.mk (.ofString "has") (.ofString "Below.has") (L2.defArgs (L2.inClass (My.top 15) 3)) (@FuncBody.stmts (L2.defBody (L2.inClass (My.top 15) 3))) (L2.defScope (L2.inClass (My.top 15) 3)) 3 (@List.nil.{0} (@Prod.{0, 0} @Str @Nat)) .none .none .none (.str (.ofString "oddbases.ways") 289) none (.ref 223) .none 0)) (@List.toArray.{0} (@Option.{0} @Value) (@List.nil.{0} (@Option.{0} @Value)))))
noncomputable def My.o275 : ((x0 : @Params) → @Obj) := (fun (x0 : @Params) => (@Obj.mk (.type "code") none (@Data.fields (List.toArray [(.str (.ofString "has") 448), (.str (.ofString "Below.has") 449), (.str (.ofString "/claim/cut.py") 450), (@Value.int (82 : Int) 0), (@Value.int (2 : Int) 0), (@Value.int (0 : Int) 0), (@Value.int (0 : Int) 0), (@Value.int (3 : Int) 0), (.ref 218), (.bool @Bool.true), (@Value.int (181 : Int) 0), (.ref 219), .none, (.ref 220), (.ref 221), (.ref 222), (@Value.int (453 : Int) 0), (@Value.int (82 : Int) 0), (.str (.ofString "/claim/cut.py") 454)])) (@List.toArray.{0} (@Option.{0} @Value) (@List.nil.{0} (@Option.{0} @Value)))))
noncomputable def My.o274 : ((x0 : @Params) → @Obj) := (fun (x0 : @Params) => (@Obj.mk .none none (@Data.func (@FuncData.mk (.ofString "has") (.ofString "Below.has") (L2.defArgs (L2.inClass (My.top 15) 3)) (@FuncBody.stmts (L2.defBody (L2.inClass (My.top 15) 3))) (L2.defScope (L2.inClass (My.top 15) 3)) 0 (@List.nil.{0} (@Prod.{0, 0} @Str @Nat)) .none .none .none .none none .none .none 0)) (@List.toArray.{0} (@Option.{0} @Value) (@List.nil.{0} (@Option.{0} @Value)))))
noncomputable def My.o273 : ((x0 : @Params) → @Obj) := (fun (x0 : @Params) => (@Obj.mk (.type "tuple") none (@Data.seq #[] 0) (@List.toArray.{0} (@Option.{0} @Value) (@List.nil.{0} (@Option.{0} @Value)))))
noncomputable def My.o272 : ((x0 : @Params) → @Obj) := (fun (x0 : @Params) => (@Obj.mk (.type "tuple") none (@Data.seq (List.toArray [(.str (.ofString "self") 451), (.str (.ofString "number") 452)]) 0) (@List.toArray.{0} (@Option.{0} @Value) (@List.nil.{0} (@Option.{0} @Value)))))
noncomputable def My.o271 : ((x0 : @Params) → @Obj) := (fun (x0 : @Params) => (@Obj.mk .none none (@Data.fields #[]) (@List.toArray.{0} (@Option.{0} @Value) (@List.nil.{0} (@Option.{0} @Value)))))
noncomputable def My.o270 : ((x0 : @Params) → @Obj) := (fun (x0 : @Params) => (@Obj.mk (.type "tuple") none (@Data.seq #[] 0) (@List.toArray.{0} (@Option.{0} @Value) (@List.nil.{0} (@Option.{0} @Value)))))
noncomputable def My.o269 : ((x0 : @Params) → @Obj) := (fun (x0 : @Params) => (@Obj.mk (.type "function") none (@Data.func (@FuncData.mk (.ofString "ratio") (.ofString "Below.ratio") (L2.defArgs (L2.inClass (My.top 15) 2)) (@FuncBody.stmts (L2.defBody (L2.inClass (My.top 15) 2))) (L2.defScope (L2.inClass (My.top 15) 2)) 3 (@List.nil.{0} (@Prod.{0, 0} @Str @Nat)) .none .none .none (.str (.ofString "oddbases.ways") 289) none (.ref 216) .none 0)) (@List.toArray.{0} (@Option.{0} @Value) (@List.nil.{0} (@Option.{0} @Value)))))
noncomputable def My.o268 : ((x0 : @Params) → @Obj) := (fun (x0 : @Params) => (@Obj.mk (.type "code") none (@Data.fields (List.toArray [(.str (.ofString "ratio") 440), (.str (.ofString "Below.ratio") 441), (.str (.ofString "/claim/cut.py") 442), (@Value.int (79 : Int) 0), (@Value.int (2 : Int) 0), (@Value.int (0 : Int) 0), (@Value.int (0 : Int) 0), (@Value.int (3 : Int) 0), (.ref 211), (.bool @Bool.true), (@Value.int (181 : Int) 0), (.ref 212), .none, (.ref 213), (.ref 214), (.ref 215), (@Value.int (445 : Int) 0), (@Value.int (79 : Int) 0), (.str (.ofString "/claim/cut.py") 446)])) (@List.toArray.{0} (@Option.{0} @Value) (@List.nil.{0} (@Option.{0} @Value)))))
noncomputable def My.o267 : ((x0 : @Params) → @Obj) := (fun (x0 : @Params) => (@Obj.mk .none none (@Data.func (@FuncData.mk (.ofString "ratio") (.ofString "Below.ratio") (L2.defArgs (L2.inClass (My.top 15) 2)) (@FuncBody.stmts (L2.defBody (L2.inClass (My.top 15) 2))) (L2.defScope (L2.inClass (My.top 15) 2)) 0 (@List.nil.{0} (@Prod.{0, 0} @Str @Nat)) .none .none .none .none none .none .none 0)) (@List.toArray.{0} (@Option.{0} @Value) (@List.nil.{0} (@Option.{0} @Value)))))
noncomputable def My.o266 : ((x0 : @Params) → @Obj) := (fun (x0 : @Params) => (@Obj.mk (.type "tuple") none (@Data.seq #[] 0) (@List.toArray.{0} (@Option.{0} @Value) (@List.nil.{0} (@Option.{0} @Value)))))
noncomputable def My.o265 : ((x0 : @Params) → @Obj) := (fun (x0 : @Params) => (@Obj.mk (.type "tuple") none (@Data.seq (List.toArray [(.str (.ofString "self") 443), (.str (.ofString "place") 444)]) 0) (@List.toArray.{0} (@Option.{0} @Value) (@List.nil.{0} (@Option.{0} @Value)))))
noncomputable def My.o264 : ((x0 : @Params) → @Obj) := (fun (x0 : @Params) => (@Obj.mk .none none (@Data.fields #[]) (@List.toArray.{0} (@Option.{0} @Value) (@List.nil.{0} (@Option.{0} @Value)))))
noncomputable def My.o263 : ((x0 : @Params) → @Obj) := (fun (x0 : @Params) => (@Obj.mk (.type "tuple") none (@Data.seq #[] 0) (@List.toArray.{0} (@Option.{0} @Value) (@List.nil.{0} (@Option.{0} @Value)))))
noncomputable def My.o262 : ((x0 : @Params) → @Obj) := (fun (x0 : @Params) => (@Obj.mk (.type "function") none (@Data.func (@FuncData.mk (.ofString "high") (.ofString "Below.high") (L2.defArgs (L2.inClass (My.top 15) 1)) (@FuncBody.stmts (L2.defBody (L2.inClass (My.top 15) 1))) (L2.defScope (L2.inClass (My.top 15) 1)) 3 (@List.nil.{0} (@Prod.{0, 0} @Str @Nat)) .none .none .none (.str (.ofString "oddbases.ways") 289) none (.ref 209) .none 0)) (@List.toArray.{0} (@Option.{0} @Value) (@List.nil.{0} (@Option.{0} @Value)))))
noncomputable def My.o261 : ((x0 : @Params) → @Obj) := (fun (x0 : @Params) => (@Obj.mk (.type "code") none (@Data.fields (List.toArray [(.str (.ofString "high") 432), (.str (.ofString "Below.high") 433), (.str (.ofString "/claim/cut.py") 434), (@Value.int (76 : Int) 0), (@Value.int (2 : Int) 0), (@Value.int (0 : Int) 0), (@Value.int (0 : Int) 0), (@Value.int (3 : Int) 0), (.ref 204), (.bool @Bool.true), (@Value.int (181 : Int) 0), (.ref 205), .none, (.ref 206), (.ref 207), (.ref 208), (@Value.int (437 : Int) 0), (@Value.int (76 : Int) 0), (.str (.ofString "/claim/cut.py") 438)])) (@List.toArray.{0} (@Option.{0} @Value) (@List.nil.{0} (@Option.{0} @Value)))))
noncomputable def My.o260 : ((x0 : @Params) → @Obj) := (fun (x0 : @Params) => (@Obj.mk .none none (@Data.func (@FuncData.mk (.ofString "high") (.ofString "Below.high") (L2.defArgs (L2.inClass (My.top 15) 1)) (@FuncBody.stmts (L2.defBody (L2.inClass (My.top 15) 1))) (L2.defScope (L2.inClass (My.top 15) 1)) 0 (@List.nil.{0} (@Prod.{0, 0} @Str @Nat)) .none .none .none .none none .none .none 0)) (@List.toArray.{0} (@Option.{0} @Value) (@List.nil.{0} (@Option.{0} @Value)))))
noncomputable def My.o259 : ((x0 : @Params) → @Obj) := (fun (x0 : @Params) => (@Obj.mk (.type "tuple") none (@Data.seq #[] 0) (@List.toArray.{0} (@Option.{0} @Value) (@List.nil.{0} (@Option.{0} @Value)))))
noncomputable def My.o258 : ((x0 : @Params) → @Obj) := (fun (x0 : @Params) => (@Obj.mk (.type "tuple") none (@Data.seq (List.toArray [(.str (.ofString "self") 435), (.str (.ofString "place") 436)]) 0) (@List.toArray.{0} (@Option.{0} @Value) (@List.nil.{0} (@Option.{0} @Value)))))
noncomputable def My.o257 : ((x0 : @Params) → @Obj) := (fun (x0 : @Params) => (@Obj.mk .none none (@Data.fields #[]) (@List.toArray.{0} (@Option.{0} @Value) (@List.nil.{0} (@Option.{0} @Value)))))
noncomputable def My.o256 : ((x0 : @Params) → @Obj) := (fun (x0 : @Params) => (@Obj.mk (.type "tuple") none (@Data.seq #[] 0) (@List.toArray.{0} (@Option.{0} @Value) (@List.nil.{0} (@Option.{0} @Value)))))
noncomputable def My.o255 : ((x0 : @Params) → @Obj) := (fun (x0 : @Params) => (@Obj.mk (.type "function") none (@Data.func (@FuncData.mk (.ofString "__init__") (.ofString "Below.__init__") (L2.defArgs (L2.inClass (My.top 15) 0)) (@FuncBody.stmts (L2.defBody (L2.inClass (My.top 15) 0))) (L2.defScope (L2.inClass (My.top 15) 0)) 3 (@List.nil.{0} (@Prod.{0, 0} @Str @Nat)) .none .none .none (.str (.ofString "oddbases.ways") 289) none (.ref 202) .none 0)) (@List.toArray.{0} (@Option.{0} @Value) (@List.nil.{0} (@Option.{0} @Value)))))
noncomputable def My.o254 : ((x0 : @Params) → @Obj) := (fun (x0 : @Params) => (@Obj.mk (.type "code") none (@Data.fields (List.toArray [(.str (.ofString "__init__") 424), (.str (.ofString "Below.__init__") 425), (.str (.ofString "/claim/cut.py") 426), (@Value.int (73 : Int) 0), (@Value.int (2 : Int) 0), (@Value.int (0 : Int) 0), (@Value.int (0 : Int) 0), (@Value.int (3 : Int) 0), (.ref 197), (.bool @Bool.true), (@Value.int (181 : Int) 0), (.ref 198), .none, (.ref 199), (.ref 200), (.ref 201), (@Value.int (429 : Int) 0), (@Value.int (73 : Int) 0), (.str (.ofString "/claim/cut.py") 430)])) (@List.toArray.{0} (@Option.{0} @Value) (@List.nil.{0} (@Option.{0} @Value)))))
noncomputable def My.o253 : ((x0 : @Params) → @Obj) := (fun (x0 : @Params) => (@Obj.mk .none none (@Data.func (@FuncData.mk (.ofString "__init__") (.ofString "Below.__init__") (L2.defArgs (L2.inClass (My.top 15) 0)) (@FuncBody.stmts (L2.defBody (L2.inClass (My.top 15) 0))) (L2.defScope (L2.inClass (My.top 15) 0)) 0 (@List.nil.{0} (@Prod.{0, 0} @Str @Nat)) .none .none .none .none none .none .none 0)) (@List.toArray.{0} (@Option.{0} @Value) (@List.nil.{0} (@Option.{0} @Value)))))
noncomputable def My.o252 : ((x0 : @Params) → @Obj) := (fun (x0 : @Params) => (@Obj.mk (.type "tuple") none (@Data.seq #[] 0) (@List.toArray.{0} (@Option.{0} @Value) (@List.nil.{0} (@Option.{0} @Value)))))
noncomputable def My.o251 : ((x0 : @Params) → @Obj) := (fun (x0 : @Params) => (@Obj.mk (.type "tuple") none (@Data.seq (List.toArray [(.str (.ofString "self") 427), (.str (.ofString "base") 428)]) 0) (@List.toArray.{0} (@Option.{0} @Value) (@List.nil.{0} (@Option.{0} @Value)))))
noncomputable def My.o250 : ((x0 : @Params) → @Obj) := (fun (x0 : @Params) => (@Obj.mk .none none (@Data.fields #[]) (@List.toArray.{0} (@Option.{0} @Value) (@List.nil.{0} (@Option.{0} @Value)))))
noncomputable def My.o249 : ((x0 : @Params) → @Obj) := (fun (x0 : @Params) => (@Obj.mk (.type "tuple") none (@Data.seq #[] 0) (@List.toArray.{0} (@Option.{0} @Value) (@List.nil.{0} (@Option.{0} @Value)))))
noncomputable def My.o248 : ((x0 : @Params) → @Obj) := (fun (x0 : @Params) => (@Obj.mk (.type "frame") none @Data.plain (@List.toArray.{0} (@Option.{0} @Value) [(@Option.some.{0} @Value (.ref 195)), (@Option.some.{0} @Value (.ref 3)), (@Option.some.{0} @Value (.ref 192)), (@Option.none.{0} @Value), (@Option.some.{0} @Value (.str (.ofString "oddbases.ways") 289)), (@Option.none.{0} @Value), (@Option.some.{0} @Value (.ref 0))])))
noncomputable def My.o247 : ((x0 : @Params) → @Obj) := (fun (x0 : @Params) => (@Obj.mk (.type "code") none (@Data.fields (List.toArray [(.str (.ofString "Below") 414), (.str (.ofString "Below") 415), (.str (.ofString "/claim/cut.py") 416), (@Value.int (71 : Int) 0), (@Value.int (0 : Int) 0), (@Value.int (0 : Int) 0), (@Value.int (0 : Int) 0), (@Value.int (0 : Int) 0), (.ref 193), (.bool @Bool.false), (@Value.int (181 : Int) 0), (.ref 194), .none, .none, .none, .none, (@Value.int (417 : Int) 0), (@Value.int (71 : Int) 0), (.str (.ofString "/claim/cut.py") 418)])) (@List.toArray.{0} (@Option.{0} @Value) (@List.nil.{0} (@Option.{0} @Value)))))
noncomputable def My.o246 : ((x0 : @Params) → @Obj) := (fun (x0 : @Params) => (@Obj.mk .none none (@Data.fields (List.toArray [(@Value.int (73 : Int) 0), (@Value.int (4 : Int) 0), (.ref 202), (@Value.int (76 : Int) 0), (@Value.int (4 : Int) 0), (.ref 209), (@Value.int (79 : Int) 0), (@Value.int (4 : Int) 0), (.ref 216), (@Value.int (82 : Int) 0), (@Value.int (4 : Int) 0), (.ref 223)])) (@List.toArray.{0} (@Option.{0} @Value) (@List.nil.{0} (@Option.{0} @Value)))))
noncomputable def My.o245 : ((x0 : @Params) → @Obj) := (fun (x0 : @Params) => (@Obj.mk (.type "tuple") none (@Data.seq #[] 0) (@List.toArray.{0} (@Option.{0} @Value) (@List.nil.{0} (@Option.{0} @Value)))))
noncomputable def My.o244 : ((x0 : @Params) → @Obj) := (fun (x0 : @Params) => (@Obj.mk (.type "dict") none (@Data.dict (List.toArray [(@DictEntry.mk (@PyData.keyHash x0 (.ofString "__module__")) (.str (.ofString "__module__") 419) (.str (.ofString "oddbases.ways") 289)), (@DictEntry.mk (@PyData.keyHash x0 (.ofString "__qualname__")) (.str (.ofString "__qualname__") 421) (.str (.ofString "Below") 420)), (@DictEntry.mk (@PyData.keyHash x0 (.ofString "__firstlineno__")) (.str (.ofString "__firstlineno__") 423) (@Value.int (71 : Int) 422)), (@DictEntry.mk (@PyData.keyHash x0 (.ofString "__init__")) (.str (.ofString "__init__") 431) (.ref 203)), (@DictEntry.mk (@PyData.keyHash x0 (.ofString "high")) (.str (.ofString "high") 439) (.ref 210)), (@DictEntry.mk (@PyData.keyHash x0 (.ofString "ratio")) (.str (.ofString "ratio") 447) (.ref 217)), (@DictEntry.mk (@PyData.keyHash x0 (.ofString "has")) (.str (.ofString "has") 455) (.ref 224)), (@DictEntry.mk (@PyData.keyHash x0 (.ofString "__static_attributes__")) (.str (.ofString "__static_attributes__") 457) (.ref 225))]) 8) (@List.toArray.{0} (@Option.{0} @Value) (@List.nil.{0} (@Option.{0} @Value)))))
noncomputable def My.o243 : ((x0 : @Params) → @Obj) := (fun (x0 : @Params) => (@Obj.mk (.type "builtin_function_or_method") none (@Data.fields (List.toArray [(.builtin "type.__prepare__"), (.type "type")])) (@List.toArray.{0} (@Option.{0} @Value) (@List.nil.{0} (@Option.{0} @Value)))))
noncomputable def My.o242 : ((x0 : @Params) → @Obj) := (fun (x0 : @Params) => (@Obj.mk (.type "tuple") none (@Data.seq (List.toArray [(.ref 152)]) 0) (@List.toArray.{0} (@Option.{0} @Value) (@List.nil.{0} (@Option.{0} @Value)))))
noncomputable def My.o238 : ((x0 : @Params) → @Obj) := (fun (x0 : @Params) => (@Obj.mk (.type "builtin_function_or_method") none (@Data.fields (List.toArray [(.builtin "object.__init_subclass__"), (.ref 187)])) (@List.toArray.{0} (@Option.{0} @Value) (@List.nil.{0} (@Option.{0} @Value)))))
noncomputable def My.o237 : ((x0 : @Params) → @Obj) := (fun (x0 : @Params) => (@Obj.mk (.type "super") none (@Data.fields (List.toArray [(.ref 187), (.ref 187), (.ref 187)])) (@List.toArray.{0} (@Option.{0} @Value) (@List.nil.{0} (@Option.{0} @Value)))))
noncomputable def My.o236 : ((x0 : @Params) → @Obj) := (fun (x0 : @Params) => (@Obj.mk (.type "type") none (@Data.cls (@ClassData.mk (.ofString "Plain") [(.ref 152)] [(.ref 187), (.ref 152), (.type "object")] 186 (.ofString "Plain") @Bool.true [] [] @Bool.false (@Option.none.{0} @Bool) @Bool.false)) (@List.toArray.{0} (@Option.{0} @Value) [(@Option.some.{0} @Value (.ref 157)), (@Option.none.{0} @Value), (@Option.some.{0} @Value (.str (.ofString "Plain") 371)), (@Option.some.{0} @Value (.str (.ofString "Plain") 379)), (@Option.some.{0} @Value (.builtin "object.__new__")), (@Option.some.{0} @Value (.bool @Bool.true))])))
noncomputable def My.o235 : ((x0 : @Params) → @Obj) := (fun (x0 : @Params) => (@Obj.mk (.type "dict") none (@Data.dict (List.toArray [(@DictEntry.mk (@PyData.keyHash x0 (.ofString "__module__")) (.str (.ofString "__module__") 378) (.str (.ofString "oddbases.ways") 289)), (@DictEntry.mk (@PyData.keyHash x0 (.ofString "__firstlineno__")) (.str (.ofString "__firstlineno__") 382) (@Value.int (61 : Int) 381)), (@DictEntry.mk (@PyData.keyHash x0 (.ofString "__init__")) (.str (.ofString "__init__") 390) (.ref 170)), (@DictEntry.mk (@PyData.keyHash x0 (.ofString "high")) (.str (.ofString "high") 398) (.ref 177)), (@DictEntry.mk (@PyData.keyHash x0 (.ofString "ratio")) (.str (.ofString "ratio") 406) (.ref 184)), (@DictEntry.mk (@PyData.keyHash x0 (.ofString "__static_attributes__")) (.str (.ofString "__static_attributes__") 408) (.ref 185)), (@DictEntry.mk (@PyData.keyHash x0 (.ofString "__doc__")) (.str (.ofString "__doc__") 409) .none)]) 2) (@List.toArray.{0} (@Option.{0} @Value) (@List.nil.{0} (@Option.{0} @Value)))))
noncomputable def My.o234 : ((x0 : @Params) → @Obj) := (fun (x0 : @Params) => (@Obj.mk (.type "tuple") none (@Data.seq (List.toArray [(.str (.ofString "base") 407)]) 0) (@List.toArray.{0} (@Option.{0} @Value) (@List.nil.{0} (@Option.{0} @Value)))))
noncomputable def My.o233 : ((x0 : @Params) → @Obj) := (fun (x0 : @Params) => (@Obj.mk (.type "function") none (@Data.func (@FuncData.mk (.ofString "ratio") (.ofString "Plain.ratio") (L2.defArgs (L2.inClass (My.top 14) 2)) (@FuncBody.stmts (L2.defBody (L2.inClass (My.top 14) 2))) (L2.defScope (L2.inClass (My.top 14) 2)) 3 (@List.nil.{0} (@Prod.{0, 0} @Str @Nat)) .none .none .none (.str (.ofString "oddbases.ways") 289) none (.ref 183) .none 0)) (@List.toArray.{0} (@Option.{0} @Value) (@List.nil.{0} (@Option.{0} @Value)))))
noncomputable def My.o232 : ((x0 : @Params) → @Obj) := (fun (x0 : @Params) => (@Obj.mk (.type "code") none (@Data.fields (List.toArray [(.str (.ofString "ratio") 399), (.str (.ofString "Plain.ratio") 400), (.str (.ofString "/claim/cut.py") 401), (@Value.int (69 : Int) 0), (@Value.int (2 : Int) 0), (@Value.int (0 : Int) 0), (@Value.int (0 : Int) 0), (@Value.int (3 : Int) 0), (.ref 178), (.bool @Bool.true), (@Value.int (181 : Int) 0), (.ref 179), .none, (.ref 180), (.ref 181), (.ref 182), (@Value.int (404 : Int) 0), (@Value.int (69 : Int) 0), (.str (.ofString "/claim/cut.py") 405)])) (@List.toArray.{0} (@Option.{0} @Value) (@List.nil.{0} (@Option.{0} @Value)))))
noncomputable def My.o231 : ((x0 : @Params) → @Obj) := (fun (x0 : @Params) => (@Obj.mk .none none (@Data.func (@FuncData.mk (.ofString "ratio") (.ofString "Plain.ratio") (L2.defArgs (L2.inClass (My.top 14) 2)) (@FuncBody.stmts (L2.defBody (L2.inClass (My.top 14) 2))) (L2.defScope (L2.inClass (My.top 14) 2)) 0 (@List.nil.{0} (@Prod.{0, 0} @Str @Nat)) .none .none .none .none none .none .none 0)) (@List.toArray.{0} (@Option.{0} @Value) (@List.nil.{0} (@Option.{0} @Value)))))
noncomputable def My.o230 : ((x0 : @Params) → @Obj) := (fun (x0 : @Params) => (@Obj.mk (.type "tuple") none (@Data.seq #[] 0) (@List.toArray.{0} (@Option.{0} @Value) (@List.nil.{0} (@Option.{0} @Value)))))
noncomputable def My.o229 : ((x0 : @Params) → @Obj) := (fun (x0 : @Params) => (@Obj.mk (.type "tuple") none (@Data.seq (List.toArray [(.str (.ofString "self") 402), (.str (.ofString "place") 403)]) 0) (@List.toArray.{0} (@Option.{0} @Value) (@List.nil.{0} (@Option.{0} @Value)))))
noncomputable def My.o228 : ((x0 : @Params) → @Obj) := (fun (x0 : @Params) => (@Obj.mk .none none (@Data.fields #[]) (@List.toArray.{0} (@Option.{0} @Value) (@List.nil.{0} (@Option.{0} @Value)))))
noncomputable def My.o227 : ((x0 : @Params) → @Obj) := (fun (x0 : @Params) => (@Obj.mk (.type "tuple") none (@Data.seq #[] 0) (@List.toArray.{0} (@Option.{0} @Value) (@List.nil.{0} (@Option.{0} @Value)))))
noncomputable def My.o226 : ((x0 : @Params) → @Obj) := (fun (x0 : @Params) => (@Obj.mk (.type "function") none (@Data.func (@FuncData.mk (.ofString "high") (.ofString "Plain.high") (L2.defArgs (L2.inClass (My.top 14) 1)) (@FuncBody.stmts (L2.defBody (L2.inClass (My.top 14) 1))) (L2.defScope (L2.inClass (My.top 14) 1)) 3 (@List.nil.{0} (@Prod.{0, 0} @Str @Nat)) .none .none .none (.str (.ofString "oddbases.ways") 289) none (.ref 176) .none 0)) (@List.toArray.{0} (@Option.{0} @Value) (@List.nil.{0} (@Option.{0} @Value)))))
noncomputable def My.o225 : ((x0 : @Params) → @Obj) := (fun (x0 : @Params) => (@Obj.mk (.type "code") none (@Data.fields (List.toArray [(.str (.ofString "high") 391), (.str (.ofString "Plain.high") 392), (.str (.ofString "/claim/cut.py") 393), (@Value.int (66 : Int) 0), (@Value.int (2 : Int) 0), (@Value.int (0 : Int) 0), (@Value.int (0 : Int) 0), (@Value.int (3 : Int) 0), (.ref 171), (.bool @Bool.true), (@Value.int (181 : Int) 0), (.ref 172), .none, (.ref 173), (.ref 174), (.ref 175), (@Value.int (396 : Int) 0), (@Value.int (66 : Int) 0), (.str (.ofString "/claim/cut.py") 397)])) (@List.toArray.{0} (@Option.{0} @Value) (@List.nil.{0} (@Option.{0} @Value)))))
noncomputable def My.o224 : ((x0 : @Params) → @Obj) := (fun (x0 : @Params) => (@Obj.mk .none none (@Data.func (@FuncData.mk (.ofString "high") (.ofString "Plain.high") (L2.defArgs (L2.inClass (My.top 14) 1)) (@FuncBody.stmts (L2.defBody (L2.inClass (My.top 14) 1))) (L2.defScope (L2.inClass (My.top 14) 1)) 0 (@List.nil.{0} (@Prod.{0, 0} @Str @Nat)) .none .none .none .none none .none .none 0)) (@List.toArray.{0} (@Option.{0} @Value) (@List.nil.{0} (@Option.{0} @Value)))))
noncomputable def My.o223 : ((x0 : @Params) → @Obj) := (fun (x0 : @Params) => (@Obj.mk (.type "tuple") none (@Data.seq #[] 0) (@List.toArray.{0} (@Option.{0} @Value) (@List.nil.{0} (@Option.{0} @Value)))))
noncomputable def My.o222 : ((x0 : @Params) → @Obj) := (fun (x0 : @Params) => (@Obj.mk (.type "tuple") none (@Data.seq (List.toArray [(.str (.ofString "self") 394), (.str (.ofString "place") 395)]) 0) (@List.toArray.{0} (@Option.{0} @Value) (@List.nil.{0} (@Option.{0} @Value)))))
noncomputable def My.o221 : ((x0 : @Params) → @Obj) := (fun (x0 : @Params) => (@Obj.mk .none none (@Data.fields #[]) (@List.toArray.{0} (@Option.{0} @Value) (@List.nil.{0} (@Option.{0} @Value)))))
noncomputable def My.o220 : ((x0 : @Params) → @Obj) := (fun (x0 : @Params) => (@Obj.mk (.type "tuple") none (@Data.seq #[] 0) (@List.toArray.{0} (@Option.{0} @Value) (@List.nil.{0} (@Option.{0} @Value)))))
noncomputable def My.o219 : ((x0 : @Params) → @Obj) := (fun (x0 : @Params) => (@Obj.mk (.type "function") none (@Data.func (@FuncData.mk (.ofString "__init__") (.ofString "Plain.__init__") (L2.defArgs (L2.inClass (My.top 14) 0)) (@FuncBody.stmts (L2.defBody (L2.inClass (My.top 14) 0))) (L2.defScope (L2.inClass (My.top 14) 0)) 3 (@List.nil.{0} (@Prod.{0, 0} @Str @Nat)) .none .none .none (.str (.ofString "oddbases.ways") 289) none (.ref 169) .none 0)) (@List.toArray.{0} (@Option.{0} @Value) (@List.nil.{0} (@Option.{0} @Value)))))
noncomputable def My.o218 : ((x0 : @Params) → @Obj) := (fun (x0 : @Params) => (@Obj.mk (.type "code") none (@Data.fields (List.toArray [(.str (.ofString "__init__") 383), (.str (.ofString "Plain.__init__") 384), (.str (.ofString "/claim/cut.py") 385), (@Value.int (63 : Int) 0), (@Value.int (2 : Int) 0), (@Value.int (0 : Int) 0), (@Value.int (0 : Int) 0), (@Value.int (3 : Int) 0), (.ref 164), (.bool @Bool.true), (@Value.int (181 : Int) 0), (.ref 165), .none, (.ref 166), (.ref 167), (.ref 168), (@Value.int (388 : Int) 0), (@Value.int (63 : Int) 0), (.str (.ofString "/claim/cut.py") 389)])) (@List.toArray.{0} (@Option.{0} @Value) (@List.nil.{0} (@Option.{0} @Value)))))
noncomputable def My.o217 : ((x0 : @Params) → @Obj) := (fun (x0 : @Params) => (@Obj.mk .none none (@Data.func (@FuncData.mk (.ofString "__init__") (.ofString "Plain.__init__") (L2.defArgs (L2.inClass (My.top 14) 0)) (@FuncBody.stmts (L2.defBody (L2.inClass (My.top 14) 0))) (L2.defScope (L2.inClass (My.top 14) 0)) 0 (@List.nil.{0} (@Prod.{0, 0} @Str @Nat)) .none .none .none .none none .none .none 0)) (@List.toArray.{0} (@Option.{0} @Value) (@List.nil.{0} (@Option.{0} @Value)))))
noncomputable def My.o216 : ((x0 : @Params) → @Obj) := (fun (x0 : @Params) => (@Obj.mk (.type "tuple") none (@Data.seq #[] 0) (@List.toArray.{0} (@Option.{0} @Value) (@List.nil.{0} (@Option.{0} @Value)))))
noncomputable def My.o215 : ((x0 : @Params) → @Obj) := (fun (x0 : @Params) => (@Obj.mk (.type "tuple") none (@Data.seq (List.toArray [(.str (.ofString "self") 386), (.str (.ofString "base") 387)]) 0) (@List.toArray.{0} (@Option.{0} @Value) (@List.nil.{0} (@Option.{0} @Value)))))
noncomputable def My.o214 : ((x0 : @Params) → @Obj) := (fun (x0 : @Params) => (@Obj.mk .none none (@Data.fields #[]) (@List.toArray.{0} (@Option.{0} @Value) (@List.nil.{0} (@Option.{0} @Value)))))
noncomputable def My.o213 : ((x0 : @Params) → @Obj) := (fun (x0 : @Params) => (@Obj.mk (.type "tuple") none (@Data.seq #[] 0) (@List.toArray.{0} (@Option.{0} @Value) (@List.nil.{0} (@Option.{0} @Value)))))
noncomputable def My.o212 : ((x0 : @Params) → @Obj) := (fun (x0 : @Params) => (@Obj.mk (.type "frame") none @Data.plain (@List.toArray.{0} (@Option.{0} @Value) [(@Option.some.{0} @Value (.ref 162)), (@Option.some.{0} @Value (.ref 3)), (@Option.some.{0} @Value (.ref 159)), (@Option.none.{0} @Value), (@Option.some.{0} @Value (.str (.ofString "oddbases.ways") 289)), (@Option.none.{0} @Value), (@Option.some.{0} @Value (.ref 0))])))
noncomputable def My.o211 : ((x0 : @Params) → @Obj) := (fun (x0 : @Params) => (@Obj.mk (.type "code") none (@Data.fields (List.toArray [(.str (.ofString "Plain") 373), (.str (.ofString "Plain") 374), (.str (.ofString "/claim/cut.py") 375), (@Value.int (61 : Int) 0), (@Value.int (0 : Int) 0), (@Value.int (0 : Int) 0), (@Value.int (0 : Int) 0), (@Value.int (0 : Int) 0), (.ref 160), (.bool @Bool.false), (@Value.int (181 : Int) 0), (.ref 161), .none, .none, .none, .none, (@Value.int (376 : Int) 0), (@Value.int (61 : Int) 0), (.str (.ofString "/claim/cut.py") 377)])) (@List.toArray.{0} (@Option.{0} @Value) (@List.nil.{0} (@Option.{0} @Value)))))
noncomputable def My.o210 : ((x0 : @Params) → @Obj) := (fun (x0 : @Params) => (@Obj.mk .none none (@Data.fields (List.toArray [(@Value.int (63 : Int) 0), (@Value.int (4 : Int) 0), (.ref 169), (@Value.int (66 : Int) 0), (@Value.int (4 : Int) 0), (.ref 176), (@Value.int (69 : Int) 0), (@Value.int (4 : Int) 0), (.ref 183)])) (@List.toArray.{0} (@Option.{0} @Value) (@List.nil.{0} (@Option.{0} @Value)))))
noncomputable def My.o209 : ((x0 : @Params) → @Obj) := (fun (x0 : @Params) => (@Obj.mk (.type "tuple") none (@Data.seq #[] 0) (@List.toArray.{0} (@Option.{0} @Value) (@List.nil.{0} (@Option.{0} @Value)))))
noncomputable def My.o208 : ((x0 : @Params) → @Obj) := (fun (x0 : @Params) => (@Obj.mk (.type "dict") none (@Data.dict (List.toArray [(@DictEntry.mk (@PyData.keyHash x0 (.ofString "__module__")) (.str (.ofString "__module__") 378) (.str (.ofString "oddbases.ways") 289)), (@DictEntry.mk (@PyData.keyHash x0 (.ofString "__qualname__")) (.str (.ofString "__qualname__") 380) (.str (.ofString "Plain") 379)), (@DictEntry.mk (@PyData.keyHash x0 (.ofString "__firstlineno__")) (.str (.ofString "__firstlineno__") 382) (@Value.int (61 : Int) 381)), (@DictEntry.mk (@PyData.keyHash x0 (.ofString "__init__")) (.str (.ofString "__init__") 390) (.ref 170)), (@DictEntry.mk (@PyData.keyHash x0 (.ofString "high")) (.str (.ofString "high") 398) (.ref 177)), (@DictEntry.mk (@PyData.keyHash x0 (.ofString "ratio")) (.str (.ofString "ratio") 406) (.ref 184)), (@DictEntry.mk (@PyData.keyHash x0 (.ofString "__static_attributes__")) (.str (.ofString "__static_attributes__") 408) (.ref 185))]) 7) (@List.toArray.{0} (@Option.{0} @Value) (@List.nil.{0} (@Option.{0} @Value)))))
noncomputable def My.o207 : ((x0 : @Params) → @Obj) := (fun (x0 : @Params) => (@Obj.mk (.type "builtin_function_or_method") none (@Data.fields (List.toArray [(.builtin "type.__prepare__"), (.type "type")])) (@List.toArray.{0} (@Option.{0} @Value) (@List.nil.{0} (@Option.{0} @Value)))))
noncomputable def My.o206 : ((x0 : @Params) → @Obj) := (fun (x0 : @Params) => (@Obj.mk (.type "tuple") none (@Data.seq (List.toArray [(.ref 152)]) 0) (@List.toArray.{0} (@Option.{0} @Value) (@List.nil.{0} (@Option.{0} @Value)))))
noncomputable def My.o202 : ((x0 : @Params) → @Obj) := (fun (x0 : @Params) => (@Obj.mk (.type "builtin_function_or_method") none (@Data.fields (List.toArray [(.builtin "object.__init_subclass__"), (.ref 152)])) (@List.toArray.{0} (@Option.{0} @Value) (@List.nil.{0} (@Option.{0} @Value)))))
noncomputable def My.o201 : ((x0 : @Params) → @Obj) := (fun (x0 : @Params) => (@Obj.mk (.type "super") none (@Data.fields (List.toArray [(.ref 152), (.ref 152), (.ref 152)])) (@List.toArray.{0} (@Option.{0} @Value) (@List.nil.{0} (@Option.{0} @Value)))))
noncomputable def My.o200 : ((x0 : @Params) → @Obj) := (fun (x0 : @Params) => (@Obj.mk (.type "getset_descriptor") none (@Data.fields (List.toArray [(.str (.ofString "__weakref__") 366), (.ref 152), (.builtin "ExceptionGroup.__weakref__"), .none])) (@List.toArray.{0} (@Option.{0} @Value) (@List.nil.{0} (@Option.{0} @Value)))))
noncomputable def My.o199 : ((x0 : @Params) → @Obj) := (fun (x0 : @Params) => (@Obj.mk (.type "getset_descriptor") none (@Data.fields (List.toArray [(.str (.ofString "__dict__") 364), (.ref 152), (.builtin "function.__dict__"), (.builtin "function.__dict__#set")])) (@List.toArray.{0} (@Option.{0} @Value) (@List.nil.{0} (@Option.{0} @Value)))))
noncomputable def My.o420 : ((x0 : @Params) → @Obj) := (fun (x0 : @Params) => (@Obj.mk (.type "type") none (@Data.cls (@ClassData.mk (.ofString "Way") [(.type "object")] [(.ref 152), (.type "object")] 151 (.ofString "Way") @Bool.true [] [(.ref 187), (.ref 227), (.ref 274), (.ref 307), (.ref 354), (.ref 408)] @Bool.false (@Option.none.{0} @Bool) @Bool.false)) (@List.toArray.{0} (@Option.{0} @Value) [(@Option.none.{0} @Value), (@Option.none.{0} @Value), (@Option.some.{0} @Value (.str (.ofString "Way") 300)), (@Option.some.{0} @Value (.str (.ofString "Way") 308)), (@Option.some.{0} @Value (.builtin "object.__new__")), (@Option.some.{0} @Value (.bool @Bool.true))])))
noncomputable def My.o197 : ((x0 : @Params) → @Obj) := (fun (x0 : @Params) => (@Obj.mk (.type "dict") none (@Data.dict (List.toArray [(@DictEntry.mk (@PyData.keyHash x0 (.ofString "__module__")) (.str (.ofString "__module__") 307) (.str (.ofString "oddbases.ways") 289)), (@DictEntry.mk (@PyData.keyHash x0 (.ofString "__firstlineno__")) (.str (.ofString "__firstlineno__") 311) (@Value.int (37 : Int) 310)), (@DictEntry.mk (@PyData.keyHash x0 (.ofString "nought")) (.str (.ofString "nought") 318) (.ref 114)), (@DictEntry.mk (@PyData.keyHash x0 (.ofString "low")) (.str (.ofString "low") 326) (.ref 121)), (@DictEntry.mk (@PyData.keyHash x0 (.ofString "weights")) (.str (.ofString "weights") 337) (.ref 128)), (@DictEntry.mk (@PyData.keyHash x0 (.ofString "weight")) (.str (.ofString "weight") 345) (.ref 135)), (@DictEntry.mk (@PyData.keyHash x0 (.ofString "split")) (.str (.ofString "split") 354) (.ref 142)), (@DictEntry.mk (@PyData.keyHash x0 (.ofString "has")) (.str (.ofString "has") 362) (.ref 149)), (@DictEntry.mk (@PyData.keyHash x0 (.ofString "__static_attributes__")) (.str (.ofString "__static_attributes__") 363) (.ref 150)), (@DictEntry.mk (@PyData.keyHash x0 (.ofString "__dict__")) (.str (.ofString "__dict__") 365) (.ref 153)), (@DictEntry.mk (@PyData.keyHash x0 (.ofString "__weakref__")) (.str (.ofString "__weakref__") 367) (.ref 154)), (@DictEntry.mk (@PyData.keyHash x0 (.ofString "__doc__")) (.str (.ofString "__doc__") 368) .none)]) 4) (@List.toArray.{0} (@Option.{0} @Value) (@List.nil.{0} (@Option.{0} @Value)))))
noncomputable def My.o196 : ((x0 : @Params) → @Obj) := (fun (x0 : @Params) => (@Obj.mk (.type "tuple") none (@Data.seq #[] 0) (@List.toArray.{0} (@Option.{0} @Value) (@List.nil.{0} (@Option.{0} @Value)))))
noncomputable def My.o195 : ((x0 : @Params) → @Obj) := (fun (x0 : @Params) => (@Obj.mk (.type "function") none (@Data.func (@FuncData.mk (.ofString "has") (.ofString "Way.has") (L2.defArgs (L2.inClass (My.top 13) 5)) (@FuncBody.stmts (L2.defBody (L2.inClass (My.top 13) 5))) (L2.defScope (L2.inClass (My.top 13) 5)) 3 (@List.nil.{0} (@Prod.{0, 0} @Str @Nat)) .none .none .none (.str (.ofString "oddbases.ways") 289) none (.ref 148) .none 0)) (@List.toArray.{0} (@Option.{0} @Value) (@List.nil.{0} (@Option.{0} @Value)))))
noncomputable def My.o194 : ((x0 : @Params) → @Obj) := (fun (x0 : @Params) => (@Obj.mk (.type "code") none (@Data.fields (List.toArray [(.str (.ofString "has") 355), (.str (.ofString "Way.has") 356), (.str (.ofString "/claim/cut.py") 357), (@Value.int (59 : Int) 0), (@Value.int (2 : Int) 0), (@Value.int (0 : Int) 0), (@Value.int (0 : Int) 0), (@Value.int (3 : Int) 0), (.ref 143), (.bool @Bool.true), (@Value.int (181 : Int) 0), (.ref 144), .none, (.ref 145), (.ref 146), (.ref 147), (@Value.int (360 : Int) 0), (@Value.int (59 : Int) 0), (.str (.ofString "/claim/cut.py") 361)])) (@List.toArray.{0} (@Option.{0} @Value) (@List.nil.{0} (@Option.{0} @Value)))))
noncomputable def My.o193 : ((x0 : @Params) → @Obj) := (fun (x0 : @Params) => (@Obj.mk .none none (@Data.func (@FuncData.mk (.ofString "has") (.ofString "Way.has") (L2.defArgs (L2.inClass (My.top 13) 5)) (@FuncBody.stmts (L2.defBody (L2.inClass (My.top 13) 5))) (L2.defScope (L2.inClass (My.top 13) 5)) 0 (@List.nil.{0} (@Prod.{0, 0} @Str @Nat)) .none .none .none .none none .none .none 0)) (@List.toArray.{0} (@Option.{0} @Value) (@List.nil.{0} (@Option.{0} @Value)))))
noncomputable def My.o192 : ((x0 : @Params) → @Obj) := (fun (x0 : @Params) => (@Obj.mk (.type "tuple") none (@Data.seq #[] 0) (@List.toArray.{0} (@Option.{0} @Value) (@List.nil.{0} (@Option.{0} @Value)))))
noncomputable def My.o191 : ((x0 : @Params) → @Obj) := (fun (x0 : @Params) => (@Obj.mk (.type "tuple") none (@Data.seq (List.toArray [(.str (.ofString "self") 358), (.str (.ofString "number") 359)]) 0) (@List.toArray.{0} (@Option.{0} @Value) (@List.nil.{0} (@Option.{0} @Value)))))
noncomputable def My.o190 : ((x0 : @Params) → @Obj) := (fun (x0 : @Params) => (@Obj.mk .none none (@Data.fields #[]) (@List.toArray.{0} (@Option.{0} @Value) (@List.nil.{0} (@Option.{0} @Value)))))
noncomputable def My.o189 : ((x0 : @Params) → @Obj) := (fun (x0 : @Params) => (@Obj.mk (.type "tuple") none (@Data.seq #[] 0) (@List.toArray.{0} (@Option.{0} @Value) (@List.nil.{0} (@Option.{0} @Value)))))
noncomputable def My.o188 : ((x0 : @Params) → @Obj) := (fun (x0 : @Params) => (@Obj.mk (.type "function") none (@Data.func (@FuncData.mk (.ofString "split") (.ofString "Way.split") (L2.defArgs (L2.inClass (My.top 13) 4)) (@FuncBody.stmts (L2.defBody (L2.inClass (My.top 13) 4))) (L2.defScope (L2.inClass (My.top 13) 4)) 3 (@List.nil.{0} (@Prod.{0, 0} @Str @Nat)) .none .none .none (.str (.ofString "oddbases.ways") 289) none (.ref 141) .none 0)) (@List.toArray.{0} (@Option.{0} @Value) (@List.nil.{0} (@Option.{0} @Value)))))
noncomputable def My.o187 : ((x0 : @Params) → @Obj) := (fun (x0 : @Params) => (@Obj.mk (.type "code") none (@Data.fields (List.toArray [(.str (.ofString "split") 346), (.str (.ofString "Way.split") 347), (.str (.ofString "/claim/cut.py") 348), (@Value.int (56 : Int) 0), (@Value.int (3 : Int) 0), (@Value.int (0 : Int) 0), (@Value.int (0 : Int) 0), (@Value.int (3 : Int) 0), (.ref 136), (.bool @Bool.true), (@Value.int (181 : Int) 0), (.ref 137), .none, (.ref 138), (.ref 139), (.ref 140), (@Value.int (352 : Int) 0), (@Value.int (56 : Int) 0), (.str (.ofString "/claim/cut.py") 353)])) (@List.toArray.{0} (@Option.{0} @Value) (@List.nil.{0} (@Option.{0} @Value)))))
noncomputable def My.o186 : ((x0 : @Params) → @Obj) := (fun (x0 : @Params) => (@Obj.mk .none none (@Data.func (@FuncData.mk (.ofString "split") (.ofString "Way.split") (L2.defArgs (L2.inClass (My.top 13) 4)) (@FuncBody.stmts (L2.defBody (L2.inClass (My.top 13) 4))) (L2.defScope (L2.inClass (My.top 13) 4)) 0 (@List.nil.{0} (@Prod.{0, 0} @Str @Nat)) .none .none .none .none none .none .none 0)) (@List.toArray.{0} (@Option.{0} @Value) (@List.nil.{0} (@Option.{0} @Value)))))
noncomputable def My.o185 : ((x0 : @Params) → @Obj) := (fun (x0 : @Params) => (@Obj.mk (.type "tuple") none (@Data.seq #[] 0) (@List.toArray.{0} (@Option.{0} @Value) (@List.nil.{0} (@Option.{0} @Value)))))
noncomputable def My.o184 : ((x0 : @Params) → @Obj) := (fun (x0 : @Params) => (@Obj.mk (.type "tuple") none (@Data.seq (List.toArray [(.str (.ofString "self") 349), (.str (.ofString "total") 350), (.str (.ofString "place") 351)]) 0) (@List.toArray.{0} (@Option.{0} @Value) (@List.nil.{0} (@Option.{0} @Value)))))
noncomputable def My.o183 : ((x0 : @Params) → @Obj) := (fun (x0 : @Params) => (@Obj.mk .none none (@Data.fields #[]) (@List.toArray.{0} (@Option.{0} @Value) (@List.nil.{0} (@Option.{0} @Value)))))
noncomputable def My.o182 : ((x0 : @Params) → @Obj) := (fun (x0 : @Params) => (@Obj.mk (.type "tuple") none (@Data.seq #[] 0) (@List.toArray.{0} (@Option.{0} @Value) (@List.nil.{0} (@Option.{0} @Value)))))
noncomputable def My.o181 : ((x0 : @Params) → @Obj) := (fun (x0 : @Params) => (@Obj.mk (.type "function") none (@Data.func (@FuncData.mk (.ofString "weight") (.ofString "Way.weight") (L2.defArgs (L2.inClass (My.top 13) 3)) (@FuncBody.stmts (L2.defBody (L2.inClass (My.top 13) 3))) (L2.defScope (L2.inClass (My.top 13) 3)) 3 (@List.nil.{0} (@Prod.{0, 0} @Str @Nat)) .none .none .none (.str (.ofString "oddbases.ways") 289) none (.ref 134) .none 0)) (@List.toArray.{0} (@Option.{0} @Value) (@List.nil.{0} (@Option.{0} @Value)))))
noncomputable def My.o180 : ((x0 : @Params) → @Obj) := (fun (x0 : @Params) => (@Obj.mk (.type "code") none (@Data.fields (List.toArray [(.str (.ofString "weight") 338), (.str (.ofString "Way.weight") 339), (.str (.ofString "/claim/cut.py") 340), (@Value.int (53 : Int) 0), (@Value.int (2 : Int) 0), (@Value.int (0 : Int) 0), (@Value.int (0 : Int) 0), (@Value.int (3 : Int) 0), (.ref 129), (.bool @Bool.true), (@Value.int (181 : Int) 0), (.ref 130), .none, (.ref 131), (.ref 132), (.ref 133), (@Value.int (343 : Int) 0), (@Value.int (53 : Int) 0), (.str (.ofString "/claim/cut.py") 344)])) (@List.toArray.{0} (@Option.{0} @Value) (@List.nil.{0} (@Option.{0} @Value)))))
noncomputable def My.o179 : ((x0 : @Params) → @Obj) := (fun (x0 : @Params) => (@Obj.mk .none none (@Data.func (@FuncData.mk (.ofString "weight") (.ofString "Way.weight") (L2.defArgs (L2.inClass (My.top 13) 3)) (@FuncBody.stmts (L2.defBody (L2.inClass (My.top 13) 3))) (L2.defScope (L2.inClass (My.top 13) 3)) 0 (@List.nil.{0} (@Prod.{0, 0} @Str @Nat)) .none .none .none .none none .none .none 0)) (@List.toArray.{0} (@Option.{0} @Value) (@List.nil.{0} (@Option.{0} @Value)))))
noncomputable def My.o178 : ((x0 : @Params) → @Obj) := (fun (x0 : @Params) => (@Obj.mk (.type "tuple") none (@Data.seq #[] 0) (@List.toArray.{0} (@Option.{0} @Value) (@List.nil.{0} (@Option.{0} @Value)))))
noncomputable def My.o177 : ((x0 : @Params) → @Obj) := (fun (x0 : @Params) => (@Obj.mk (.type "tuple") none (@Data.seq (List.toArray [(.str (.ofString "self") 341), (.str (.ofString "place") 342)]) 0) (@List.toArray.{0} (@Option.{0} @Value) (@List.nil.{0} (@Option.{0} @Value)))))
noncomputable def My.o176 : ((x0 : @Params) → @Obj) := (fun (x0 : @Params) => (@Obj.mk .none none (@Data.fields #[]) (@List.toArray.{0} (@Option.{0} @Value) (@List.nil.{0} (@Option.{0} @Value)))))
noncomputable def My.o175 : ((x0 : @Params) → @Obj) := (fun (x0 : @Params) => (@Obj.mk (.type "tuple") none (@Data.seq #[] 0) (@List.toArray.{0} (@Option.{0} @Value) (@List.nil.{0} (@Option.{0} @Value)))))
noncomputable def My.o174 : ((x0 : @Params) → @Obj) := (fun (x0 : @Params) => (@Obj.mk (.type "function") none (@Data.func (@FuncData.mk (.ofString "weights") (.ofString "Way.weights") (L2.defArgs (L2.inClass (My.top 13) 2)) (@FuncBody.stmts (L2.defBody (L2.inClass (My.top 13) 2))) (L2.defScope (L2.inClass (My.top 13) 2)) 3 (@List.nil.{0} (@Prod.{0, 0} @Str @Nat)) .none .none .none (.str (.ofString "oddbases.ways") 289) none (.ref 127) .none 0)) (@List.toArray.{0} (@Option.{0} @Value) (@List.nil.{0} (@Option.{0} @Value)))))
noncomputable def My.o173 : ((x0 : @Params) → @Obj) := (fun (x0 : @Params) => (@Obj.mk (.type "code") none (@Data.fields (List.toArray [(.str (.ofString "weights") 327), (.str (.ofString "Way.weights") 328), (.str (.ofString "/claim/cut.py") 329), (@Value.int (45 : Int) 0), (@Value.int (2 : Int) 0), (@Value.int (0 : Int) 0), (@Value.int (0 : Int) 0), (@Value.int (3 : Int) 0), (.ref 122), (.bool @Bool.true), (@Value.int (181 : Int) 0), (.ref 123), .none, (.ref 124), (.ref 125), (.ref 126), (@Value.int (335 : Int) 0), (@Value.int (45 : Int) 0), (.str (.ofString "/claim/cut.py") 336)])) (@List.toArray.{0} (@Option.{0} @Value) (@List.nil.{0} (@Option.{0} @Value)))))
noncomputable def My.o172 : ((x0 : @Params) → @Obj) := (fun (x0 : @Params) => (@Obj.mk .none none (@Data.func (@FuncData.mk (.ofString "weights") (.ofString "Way.weights") (L2.defArgs (L2.inClass (My.top 13) 2)) (@FuncBody.stmts (L2.defBody (L2.inClass (My.top 13) 2))) (L2.defScope (L2.inClass (My.top 13) 2)) 0 (@List.nil.{0} (@Prod.{0, 0} @Str @Nat)) .none .none .none .none none .none .none 0)) (@List.toArray.{0} (@Option.{0} @Value) (@List.nil.{0} (@Option.{0} @Value)))))
noncomputable def My.o171 : ((x0 : @Params) → @Obj) := (fun (x0 : @Params) => (@Obj.mk (.type "tuple") none (@Data.seq #[] 0) (@List.toArray.{0} (@Option.{0} @Value) (@List.nil.{0} (@Option.{0} @Value)))))
noncomputable def My.o170 : ((x0 : @Params) → @Obj) := (fun (x0 : @Params) => (@Obj.mk (.type "tuple") none (@Data.seq (List.toArray [(.str (.ofString "self") 330), (.str (.ofString "many") 331), (.str (.ofString "weights") 332), (.str (.ofString "weight") 333), (.str (.ofString "place") 334)]) 0) (@List.toArray.{0} (@Option.{0} @Value) (@List.nil.{0} (@Option.{0} @Value)))))
noncomputable def My.o169 : ((x0 : @Params) → @Obj) := (fun (x0 : @Params) => (@Obj.mk .none none (@Data.fields #[]) (@List.toArray.{0} (@Option.{0} @Value) (@List.nil.{0} (@Option.{0} @Value)))))
noncomputable def My.o168 : ((x0 : @Params) → @Obj) := (fun (x0 : @Params) => (@Obj.mk (.type "tuple") none (@Data.seq #[] 0) (@List.toArray.{0} (@Option.{0} @Value) (@List.nil.{0} (@Option.{0} @Value)))))
noncomputable def My.o167 : ((x0 : @Params) → @Obj) := (fun (x0 : @Params) => (@Obj.mk (.type "function") none (@Data.func (@FuncData.mk (.ofString "low") (.ofString "Way.low") (L2.defArgs (L2.inClass (My.top 13) 1)) (@FuncBody.stmts (L2.defBody (L2.inClass (My.top 13) 1))) (L2.defScope (L2.inClass (My.top 13) 1)) 3 (@List.nil.{0} (@Prod.{0, 0} @Str @Nat)) .none .none .none (.str (.ofString "oddbases.ways") 289) none (.ref 120) .none 0)) (@List.toArray.{0} (@Option.{0} @Value) (@List.nil.{0} (@Option.{0} @Value)))))
noncomputable def My.o166 : ((x0 : @Params) → @Obj) := (fun (x0 : @Params) => (@Obj.mk (.type "code") none (@Data.fields (List.toArray [(.str (.ofString "low") 319), (.str (.ofString "Way.low") 320), (.str (.ofString "/claim/cut.py") 321), (@Value.int (42 : Int) 0), (@Value.int (2 : Int) 0), (@Value.int (0 : Int) 0), (@Value.int (0 : Int) 0), (@Value.int (3 : Int) 0), (.ref 115), (.bool @Bool.true), (@Value.int (181 : Int) 0), (.ref 116), .none, (.ref 117), (.ref 118), (.ref 119), (@Value.int (324 : Int) 0), (@Value.int (42 : Int) 0), (.str (.ofString "/claim/cut.py") 325)])) (@List.toArray.{0} (@Option.{0} @Value) (@List.nil.{0} (@Option.{0} @Value)))))
noncomputable def My.o165 : ((x0 : @Params) → @Obj) := (fun (x0 : @Params) => (@Obj.mk .none none (@Data.func (@FuncData.mk (.ofString "low") (.ofString "Way.low") (L2.defArgs (L2.inClass (My.top 13) 1)) (@FuncBody.stmts (L2.defBody (L2.inClass (My.top 13) 1))) (L2.defScope (L2.inClass (My.top 13) 1)) 0 (@List.nil.{0} (@Prod.{0, 0} @Str @Nat)) .none .none .none .none none .none .none 0)) (@List.toArray.{0} (@Option.{0} @Value) (@List.nil.{0} (@Option.{0} @Value)))))
noncomputable def My.o164 : ((x0 : @Params) → @Obj) := (fun (x0 : @Params) => (@Obj.mk (.type "tuple") none (@Data.seq #[] 0) (@List.toArray.{0} (@Option.{0} @Value) (@List.nil.{0} (@Option.{0} @Value)))))
noncomputable def My.o163 : ((x0 : @Params) → @Obj) := (fun (x0 : @Params) => (@Obj.mk (.type "tuple") none (@Data.seq (List.toArray [(.str (.ofString "self") 322), (.str (.ofString "place") 323)]) 0) (@List.toArray.{0} (@Option.{0} @Value) (@List.nil.{0} (@Option.{0} @Value)))))
noncomputable def My.o162 : ((x0 : @Params) → @Obj) := (fun (x0 : @Params) => (@Obj.mk .none none (@Data.fields #[]) (@List.toArray.{0} (@Option.{0} @Value) (@List.nil.{0} (@Option.{0} @Value)))))
noncomputable def My.o161 : ((x0 : @Params) → @Obj) := (fun (x0 : @Params) => (@Obj.mk (.type "tuple") none (@Data.seq #[] 0) (@List.toArray.{0} (@Option.{0} @Value) (@List.nil.{0} (@Option.{0} @Value)))))
noncomputable def My.o160 : ((x0 : @Params) → @Obj) := (fun (x0 : @Params) => (@Obj.mk (.type "function") none (@Data.func (@FuncData.mk (.ofString "nought") (.ofString "Way.nought") (L2.defArgs (L2.inClass (My.top 13) 0)) (@FuncBody.stmts (L2.defBody (L2.inClass (My.top 13) 0))) (L2.defScope (L2.inClass (My.top 13) 0)) 3 (@List.nil.{0} (@Prod.{0, 0} @Str @Nat)) .none .none .none (.str (.ofString "oddbases.ways") 289) none (.ref 113) .none 0)) (@List.toArray.{0} (@Option.{0} @Value) (@List.nil.{0} (@Option.{0} @Value)))))
noncomputable def My.o159 : ((x0 : @Params) → @Obj) := (fun (x0 : @Params) => (@Obj.mk (.type "code") none (@Data.fields (List.toArray [(.str (.ofString "nought") 312), (.str (.ofString "Way.nought") 313), (.str (.ofString "/claim/cut.py") 314), (@Value.int (39 : Int) 0), (@Value.int (1 : Int) 0), (@Value.int (0 : Int) 0), (@Value.int (0 : Int) 0), (@Value.int (3 : Int) 0), (.ref 108), (.bool @Bool.true), (@Value.int (181 : Int) 0), (.ref 109), .none, (.ref 110), (.ref 111), (.ref 112), (@Value.int (316 : Int) 0), (@Value.int (39 : Int) 0), (.str (.ofString "/claim/cut.py") 317)])) (@List.toArray.{0} (@Option.{0} @Value) (@List.nil.{0} (@Option.{0} @Value)))))
noncomputable def My.o158 : ((x0 : @Params) → @Obj) := (fun (x0 : @Params) => (@Obj.mk .none none (@Data.func (@FuncData.mk (.ofString "nought") (.ofString "Way.nought") (L2.defArgs (L2.inClass (My.top 13) 0)) (@FuncBody.stmts (L2.defBody (L2.inClass (My.top 13) 0))) (L2.defScope (L2.inClass (My.top 13) 0)) 0 (@List.nil.{0} (@Prod.{0, 0} @Str @Nat)) .none .none .none .none none .none .none 0)) (@List.toArray.{0} (@Option.{0} @Value) (@List.nil.{0} (@Option.{0} @Value)))))
noncomputable def My.o157 : ((x0 : @Params) → @Obj) := (fun (x0 : @Params) => (@Obj.mk (.type "tuple") none (@Data.seq #[] 0) (@List.toArray.{0} (@Option.{0} @Value) (@List.nil.{0} (@Option.{0} @Value)))))
noncomputable def My.o156 : ((x0 : @Params) → @Obj) := (fun (x0 : @Params) => (@Obj.mk (.type "tuple") none (@Data.seq (List.toArray [(.str (.ofString "self") 315)]) 0) (@List.toArray.{0} (@Option.{0} @Value) (@List.nil.{0} (@Option.{0} @Value)))))
noncomputable def My.o155 : ((x0 : @Params) → @Obj) := (fun (x0 : @Params) => (@Obj.mk .none none (@Data.fields #[]) (@List.toArray.{0} (@Option.{0} @Value) (@List.nil.{0} (@Option.{0} @Value)))))
noncomputable def My.o154 : ((x0 : @Params) → @Obj) := (fun (x0 : @Params) => (@Obj.mk (.type "tuple") none (@Data.seq #[] 0) (@List.toArray.{0} (@Option.{0} @Value) (@List.nil.{0} (@Option.{0} @Value)))))
noncomputable def My.o153 : ((x0 : @Params) → @Obj) := (fun (x0 : @Params) => (@Obj.mk (.type "frame") none @Data.plain (@List.toArray.{0} (@Option.{0} @Value) [(@Option.some.{0} @Value (.ref 106)), (@Option.some.{0} @Value (.ref 3)), (@Option.some.{0} @Value (.ref 103)), (@Option.none.{0} @Value), (@Option.some.{0} @Value (.str (.ofString "oddbases.ways") 289)), (@Option.none.{0} @Value), (@Option.some.{0} @Value (.ref 0))])))
noncomputable def My.o152 : ((x0 : @Params) → @Obj) := (fun (x0 : @Params) => (@Obj.mk (.type "code") none (@Data.fields (List.toArray [(.str (.ofString "Way") 302), (.str (.ofString "Way") 303), (.str (.ofString "/claim/cut.py") 304), (@Value.int (37 : Int) 0), (@Value.int (0 : Int) 0), (@Value.int (0 : Int) 0), (@Value.int (0 : Int) 0), (@Value.int (0 : Int) 0), (.ref 104), (.bool @Bool.false), (@Value.int (181 : Int) 0), (.ref 105), .none, .none, .none, .none, (@Value.int (305 : Int) 0), (@Value.int (37 : Int) 0), (.str (.ofString "/claim/cut.py") 306)])) (@List.toArray.{0} (@Option.{0} @Value) (@List.nil.{0} (@Option.{0} @Value)))))
noncomputable def My.o151 : ((x0 : @Params) → @Obj) := (fun (x0 : @Params) => (@Obj.mk .none none (@Data.fields (List.toArray [(@Value.int (39 : Int) 0), (@Value.int (4 : Int) 0), (.ref 113), (@Value.int (42 : Int) 0), (@Value.int (4 : Int) 0), (.ref 120), (@Value.int (45 : Int) 0), (@Value.int (4 : Int) 0), (.ref 127), (@Value.int (53 : Int) 0), (@Value.int (4 : Int) 0), (.ref 134), (@Value.int (56 : Int) 0), (@Value.int (4 : Int) 0), (.ref 141), (@Value.int (59 : Int) 0), (@Value.int (4 : Int) 0), (.ref 148)])) (@List.toArray.{0} (@Option.{0} @Value) (@List.nil.{0} (@Option.{0} @Value)))))
noncomputable def My.o150 : ((x0 : @Params) → @Obj) := (fun (x0 : @Params) => (@Obj.mk (.type "tuple") none (@Data.seq #[] 0) (@List.toArray.{0} (@Option.{0} @Value) (@List.nil.{0} (@Option.{0} @Value)))))
noncomputable def My.o149 : ((x0 : @Params) → @Obj) := (fun (x0 : @Params) => (@Obj.mk (.type "dict") none (@Data.dict (List.toArray [(@DictEntry.mk (@PyData.keyHash x0 (.ofString "__module__")) (.str (.ofString "__module__") 307) (.str (.ofString "oddbases.ways") 289)), (@DictEntry.mk (@PyData.keyHash x0 (.ofString "__qualname__")) (.str (.ofString "__qualname__") 309) (.str (.ofString "Way") 308)), (@DictEntry.mk (@PyData.keyHash x0 (.ofString "__firstlineno__")) (.str (.ofString "__firstlineno__") 311) (@Value.int (37 : Int) 310)), (@DictEntry.mk (@PyData.keyHash x0 (.ofString "nought")) (.str (.ofString "nought") 318) (.ref 114)), (@DictEntry.mk (@PyData.keyHash x0 (.ofString "low")) (.str (.ofString "low") 326) (.ref 121)), (@DictEntry.mk (@PyData.keyHash x0 (.ofString "weights")) (.str (.ofString "weights") 337) (.ref 128)), (@DictEntry.mk (@PyData.keyHash x0 (.ofString "weight")) (.str (.ofString "weight") 345) (.ref 135)), (@DictEntry.mk (@PyData.keyHash x0 (.ofString "split")) (.str (.ofString "split") 354) (.ref 142)), (@DictEntry.mk (@PyData.keyHash x0 (.ofString "has")) (.str (.ofString "has") 362) (.ref 149)), (@DictEntry.mk (@PyData.keyHash x0 (.ofString "__static_attributes__")) (.str (.ofString "__static_attributes__") 363) (.ref 150))]) 10) (@List.toArray.{0} (@Option.{0} @Value) (@List.nil.{0} (@Option.{0} @Value)))))
noncomputable def My.o148 : ((x0 : @Params) → @Obj) := (fun (x0 : @Params) => (@Obj.mk (.type "builtin_function_or_method") none (@Data.fields (List.toArray [(.builtin "type.__prepare__"), (.type "type")])) (@List.toArray.{0} (@Option.{0} @Value) (@List.nil.{0} (@Option.{0} @Value)))))
noncomputable def My.o147 : ((x0 : @Params) → @Obj) := (fun (x0 : @Params) => (@Obj.mk (.type "tuple") none (@Data.seq #[] 0) (@List.toArray.{0} (@Option.{0} @Value) (@List.nil.{0} (@Option.{0} @Value)))))
noncomputable def My.o144 : ((x0 : @Params) → @Obj) := (fun (x0 : @Params) => (@Obj.mk (.type "function") none (@Data.func (@FuncData.mk (.ofString "bounded") (.ofString "bounded") (L2.defArgs (My.top 12)) (@FuncBody.stmts (L2.defBody (My.top 12))) (L2.defScope (My.top 12)) 3 (@List.nil.{0} (@Prod.{0, 0} @Str @Nat)) .none .none .none (.str (.ofString "oddbases.ways") 289) none (.ref 99) .none 0)) (@List.toArray.{0} (@Option.{0} @Value) (@List.nil.{0} (@Option.{0} @Value)))))
noncomputable def My.o143 : ((x0 : @Params) → @Obj) := (fun (x0 : @Params) => (@Obj.mk (.type "code") none (@Data.fields (List.toArray [(.str (.ofString "bounded") 291), (.str (.ofString "bounded") 292), (.str (.ofString "/claim/cut.py") 293), (@Value.int (33 : Int) 0), (@Value.int (3 : Int) 0), (@Value.int (0 : Int) 0), (@Value.int (0 : Int) 0), (@Value.int (3 : Int) 0), (.ref 94), (.bool @Bool.true), (@Value.int (181 : Int) 0), (.ref 95), .none, (.ref 96), (.ref 97), (.ref 98), (@Value.int (297 : Int) 0), (@Value.int (33 : Int) 0), (.str (.ofString "/claim/cut.py") 298)])) (@List.toArray.{0} (@Option.{0} @Value) (@List.nil.{0} (@Option.{0} @Value)))))
noncomputable def My.o142 : ((x0 : @Params) → @Obj) := (fun (x0 : @Params) => (@Obj.mk .none none (@Data.func (@FuncData.mk (.ofString "bounded") (.ofString "bounded") (L2.defArgs (My.top 12)) (@FuncBody.stmts (L2.defBody (My.top 12))) (L2.defScope (My.top 12)) 0 (@List.nil.{0} (@Prod.{0, 0} @Str @Nat)) .none .none .none .none none .none .none 0)) (@List.toArray.{0} (@Option.{0} @Value) (@List.nil.{0} (@Option.{0} @Value)))))
noncomputable def My.o141 : ((x0 : @Params) → @Obj) := (fun (x0 : @Params) => (@Obj.mk (.type "tuple") none (@Data.seq #[] 0) (@List.toArray.{0} (@Option.{0} @Value) (@List.nil.{0} (@Option.{0} @Value)))))
noncomputable def My.o140 : ((x0 : @Params) → @Obj) := (fun (x0 : @Params) => (@Obj.mk (.type "tuple") none (@Data.seq (List.toArray [(.str (.ofString "number") 294), (.str (.ofString "least") 295), (.str (.ofString "most") 296)]) 0) (@List.toArray.{0} (@Option.{0} @Value) (@List.nil.{0} (@Option.{0} @Value)))))
noncomputable def My.o139 : ((x0 : @Params) → @Obj) := (fun (x0 : @Params) => (@Obj.mk .none none (@Data.fields #[]) (@List.toArray.{0} (@Option.{0} @Value) (@List.nil.{0} (@Option.{0} @Value)))))
noncomputable def My.o138 : ((x0 : @Params) → @Obj) := (fun (x0 : @Params) => (@Obj.mk (.type "tuple") none (@Data.seq #[] 0) (@List.toArray.{0} (@Option.{0} @Value) (@List.nil.{0} (@Option.{0} @Value)))))
noncomputable def My.o135 : ((x0 : @Params) → @Obj) := (fun (x0 : @Params) => (@Obj.mk (.type "function") none (@Data.func (@FuncData.mk (.ofString "multiplied") (.ofString "multiplied") (L2.defArgs (My.top 10)) (@FuncBody.stmts (L2.defBody (My.top 10))) (L2.defScope (My.top 10)) 3 (@List.nil.{0} (@Prod.{0, 0} @Str @Nat)) .none .none .none (.str (.ofString "oddbases.pairs") 246) none (.ref 92) .none 0)) (@List.toArray.{0} (@Option.{0} @Value) (@List.nil.{0} (@Option.{0} @Value)))))
noncomputable def My.o134 : ((x0 : @Params) → @Obj) := (fun (x0 : @Params) => (@Obj.mk (.type "code") none (@Data.fields (List.toArray [(.str (.ofString "multiplied") 279), (.str (.ofString "multiplied") 280), (.str (.ofString "/claim/cut.py") 281), (@Value.int (26 : Int) 0), (@Value.int (2 : Int) 0), (@Value.int (0 : Int) 0), (@Value.int (0 : Int) 0), (@Value.int (3 : Int) 0), (.ref 87), (.bool @Bool.true), (@Value.int (181 : Int) 0), (.ref 88), .none, (.ref 89), (.ref 90), (.ref 91), (@Value.int (286 : Int) 0), (@Value.int (26 : Int) 0), (.str (.ofString "/claim/cut.py") 287)])) (@List.toArray.{0} (@Option.{0} @Value) (@List.nil.{0} (@Option.{0} @Value)))))
noncomputable def My.o133 : ((x0 : @Params) → @Obj) := (fun (x0 : @Params) => (@Obj.mk .none none (@Data.func (@FuncData.mk (.ofString "multiplied") (.ofString "multiplied") (L2.defArgs (My.top 10)) (@FuncBody.stmts (L2.defBody (My.top 10))) (L2.defScope (My.top 10)) 0 (@List.nil.{0} (@Prod.{0, 0} @Str @Nat)) .none .none .none .none none .none .none 0)) (@List.toArray.{0} (@Option.{0} @Value) (@List.nil.{0} (@Option.{0} @Value)))))
noncomputable def My.o132 : ((x0 : @Params) → @Obj) := (fun (x0 : @Params) => (@Obj.mk (.type "tuple") none (@Data.seq #[] 0) (@List.toArray.{0} (@Option.{0} @Value) (@List.nil.{0} (@Option.{0} @Value)))))
noncomputable def My.o131 : ((x0 : @Params) → @Obj) := (fun (x0 : @Params) => (@Obj.mk (.type "tuple") none (@Data.seq (List.toArray [(.str (.ofString "one") 282), (.str (.ofString "other") 283), (.str (.ofString "left") 284), (.str (.ofString "right") 285)]) 0) (@List.toArray.{0} (@Option.{0} @Value) (@List.nil.{0} (@Option.{0} @Value)))))
noncomputable def My.o130 : ((x0 : @Params) → @Obj) := (fun (x0 : @Params) => (@Obj.mk .none none (@Data.fields #[]) (@List.toArray.{0} (@Option.{0} @Value) (@List.nil.{0} (@Option.{0} @Value)))))
noncomputable def My.o129 : ((x0 : @Params) → @Obj) := (fun (x0 : @Params) => (@Obj.mk (.type "tuple") none (@Data.seq #[] 0) (@List.toArray.{0} (@Option.{0} @Value) (@List.nil.{0} (@Option.{0} @Value)))))
noncomputable def My.o128 : ((x0 : @Params) → @Obj) := (fun (x0 : @Params) => (@Obj.mk (.type "function") none (@Data.func (@FuncData.mk (.ofString "added") (.ofString "added") (L2.defArgs (My.top 9)) (@FuncBody.stmts (L2.defBody (My.top 9))) (L2.defScope (My.top 9)) 3 (@List.nil.{0} (@Prod.{0, 0} @Str @Nat)) .none .none .none (.str (.ofString "oddbases.pairs") 246) none (.ref 85) .none 0)) (@List.toArray.{0} (@Option.{0} @Value) (@List.nil.{0} (@Option.{0} @Value)))))
noncomputable def My.o127 : ((x0 : @Params) → @Obj) := (fun (x0 : @Params) => (@Obj.mk (.type "code") none (@Data.fields (List.toArray [(.str (.ofString "added") 269), (.str (.ofString "added") 270), (.str (.ofString "/claim/cut.py") 271), (@Value.int (20 : Int) 0), (@Value.int (2 : Int) 0), (@Value.int (0 : Int) 0), (@Value.int (0 : Int) 0), (@Value.int (3 : Int) 0), (.ref 80), (.bool @Bool.true), (@Value.int (181 : Int) 0), (.ref 81), .none, (.ref 82), (.ref 83), (.ref 84), (@Value.int (276 : Int) 0), (@Value.int (20 : Int) 0), (.str (.ofString "/claim/cut.py") 277)])) (@List.toArray.{0} (@Option.{0} @Value) (@List.nil.{0} (@Option.{0} @Value)))))
noncomputable def My.o126 : ((x0 : @Params) → @Obj) := (fun (x0 : @Params) => (@Obj.mk .none none (@Data.func (@FuncData.mk (.ofString "added") (.ofString "added") (L2.defArgs (My.top 9)) (@FuncBody.stmts (L2.defBody (My.top 9))) (L2.defScope (My.top 9)) 0 (@List.nil.{0} (@Prod.{0, 0} @Str @Nat)) .none .none .none .none none .none .none 0)) (@List.toArray.{0} (@Option.{0} @Value) (@List.nil.{0} (@Option.{0} @Value)))))
noncomputable def My.o125 : ((x0 : @Params) → @Obj) := (fun (x0 : @Params) => (@Obj.mk (.type "tuple") none (@Data.seq #[] 0) (@List.toArray.{0} (@Option.{0} @Value) (@List.nil.{0} (@Option.{0} @Value)))))
noncomputable def My.o124 : ((x0 : @Params) → @Obj) := (fun (x0 : @Params) => (@Obj.mk (.type "tuple") none (@Data.seq (List.toArray [(.str (.ofString "one") 272), (.str (.ofString "other") 273), (.str (.ofString "left") 274), (.str (.ofString "right") 275)]) 0) (@List.toArray.{0} (@Option.{0} @Value) (@List.nil.{0} (@Option.{0} @Value)))))
noncomputable def My.o123 : ((x0 : @Params) → @Obj) := (fun (x0 : @Params) => (@Obj.mk .none none (@Data.fields #[]) (@List.toArray.{0} (@Option.{0} @Value) (@List.nil.{0} (@Option.{0} @Value)))))
noncomputable def My.o122 : ((x0 : @Params) → @Obj) := (fun (x0 : @Params) => (@Obj.mk (.type "tuple") none (@Data.seq #[] 0) (@List.toArray.{0} (@Option.{0} @Value) (@List.nil.{0} (@Option.{0} @Value)))))
noncomputable def My.o121 : ((x0 : @Params) → @Obj) := (fun (x0 : @Params) => (@Obj.mk (.type "function") none (@Data.func (@FuncData.mk (.ofString "as_pair") (.ofString "as_pair") (L2.defArgs (My.top 8)) (@FuncBody.stmts (L2.defBody (My.top 8))) (L2.defScope (My.top 8)) 3 (@List.nil.{0} (@Prod.{0, 0} @Str @Nat)) .none .none .none (.str (.ofString "oddbases.pairs") 246) none (.ref 78) .none 0)) (@List.toArray.{0} (@Option.{0} @Value) (@List.nil.{0} (@Option.{0} @Value)))))
noncomputable def My.o120 : ((x0 : @Params) → @Obj) := (fun (x0 : @Params) => (@Obj.mk (.type "code") none (@Data.fields (List.toArray [(.str (.ofString "as_pair") 262), (.str (.ofString "as_pair") 263), (.str (.ofString "/claim/cut.py") 264), (@Value.int (16 : Int) 0), (@Value.int (1 : Int) 0), (@Value.int (0 : Int) 0), (@Value.int (0 : Int) 0), (@Value.int (3 : Int) 0), (.ref 73), (.bool @Bool.true), (@Value.int (181 : Int) 0), (.ref 74), .none, (.ref 75), (.ref 76), (.ref 77), (@Value.int (266 : Int) 0), (@Value.int (16 : Int) 0), (.str (.ofString "/claim/cut.py") 267)])) (@List.toArray.{0} (@Option.{0} @Value) (@List.nil.{0} (@Option.{0} @Value)))))
noncomputable def My.o119 : ((x0 : @Params) → @Obj) := (fun (x0 : @Params) => (@Obj.mk .none none (@Data.func (@FuncData.mk (.ofString "as_pair") (.ofString "as_pair") (L2.defArgs (My.top 8)) (@FuncBody.stmts (L2.defBody (My.top 8))) (L2.defScope (My.top 8)) 0 (@List.nil.{0} (@Prod.{0, 0} @Str @Nat)) .none .none .none .none none .none .none 0)) (@List.toArray.{0} (@Option.{0} @Value) (@List.nil.{0} (@Option.{0} @Value)))))
noncomputable def My.o118 : ((x0 : @Params) → @Obj) := (fun (x0 : @Params) => (@Obj.mk (.type "tuple") none (@Data.seq #[] 0) (@List.toArray.{0} (@Option.{0} @Value) (@List.nil.{0} (@Option.{0} @Value)))))
noncomputable def My.o117 : ((x0 : @Params) → @Obj) := (fun (x0 : @Params) => (@Obj.mk (.type "tuple") none (@Data.seq (List.toArray [(.str (.ofString "number") 265)]) 0) (@List.toArray.{0} (@Option.{0} @Value) (@List.nil.{0} (@Option.{0} @Value)))))
noncomputable def My.o116 : ((x0 : @Params) → @Obj) := (fun (x0 : @Params) => (@Obj.mk .none none (@Data.fields #[]) (@List.toArray.{0} (@Option.{0} @Value) (@List.nil.{0} (@Option.{0} @Value)))))
noncomputable def My.o115 : ((x0 : @Params) → @Obj) := (fun (x0 : @Params) => (@Obj.mk (.type "tuple") none (@Data.seq #[] 0) (@List.toArray.{0} (@Option.{0} @Value) (@List.nil.{0} (@Option.{0} @Value)))))
noncomputable def My.o114 : ((x0 : @Params) → @Obj) := (fun (x0 : @Params) => (@Obj.mk (.type "function") none (@Data.func (@FuncData.mk (.ofString "is_pair") (.ofString "is_pair") (L2.defArgs (My.top 7)) (@FuncBody.stmts (L2.defBody (My.top 7))) (L2.defScope (My.top 7)) 3 (@List.nil.{0} (@Prod.{0, 0} @Str @Nat)) .none .none .none (.str (.ofString "oddbases.pairs") 246) none (.ref 71) .none 0)) (@List.toArray.{0} (@Option.{0} @Value) (@List.nil.{0} (@Option.{0} @Value)))))
noncomputable def My.o113 : ((x0 : @Params) → @Obj) := (fun (x0 : @Params) => (@Obj.mk (.type "code") none (@Data.fields (List.toArray [(.str (.ofString "is_pair") 255), (.str (.ofString "is_pair") 256), (.str (.ofString "/claim/cut.py") 257), (@Value.int (14 : Int) 0), (@Value.int (1 : Int) 0), (@Value.int (0 : Int) 0), (@Value.int (0 : Int) 0), (@Value.int (3 : Int) 0), (.ref 66), (.bool @Bool.true), (@Value.int (181 : Int) 0), (.ref 67), .none, (.ref 68), (.ref 69), (.ref 70), (@Value.int (259 : Int) 0), (@Value.int (14 : Int) 0), (.str (.ofString "/claim/cut.py") 260)])) (@List.toArray.{0} (@Option.{0} @Value) (@List.nil.{0} (@Option.{0} @Value)))))
noncomputable def My.o112 : ((x0 : @Params) → @Obj) := (fun (x0 : @Params) => (@Obj.mk .none none (@Data.func (@FuncData.mk (.ofString "is_pair") (.ofString "is_pair") (L2.defArgs (My.top 7)) (@FuncBody.stmts (L2.defBody (My.top 7))) (L2.defScope (My.top 7)) 0 (@List.nil.{0} (@Prod.{0, 0} @Str @Nat)) .none .none .none .none none .none .none 0)) (@List.toArray.{0} (@Option.{0} @Value) (@List.nil.{0} (@Option.{0} @Value)))))
noncomputable def My.o111 : ((x0 : @Params) → @Obj) := (fun (x0 : @Params) => (@Obj.mk (.type "tuple") none (@Data.seq #[] 0) (@List.toArray.{0} (@Option.{0} @Value) (@List.nil.{0} (@Option.{0} @Value)))))
noncomputable def My.o110 : ((x0 : @Params) → @Obj) := (fun (x0 : @Params) => (@Obj.mk (.type "tuple") none (@Data.seq (List.toArray [(.str (.ofString "value") 258)]) 0) (@List.toArray.{0} (@Option.{0} @Value) (@List.nil.{0} (@Option.{0} @Value)))))
noncomputable def My.o109 : ((x0 : @Params) → @Obj) := (fun (x0 : @Params) => (@Obj.mk .none none (@Data.fields #[]) (@List.toArray.{0} (@Option.{0} @Value) (@List.nil.{0} (@Option.{0} @Value)))))
noncomputable def My.o108 : ((x0 : @Params) → @Obj) := (fun (x0 : @Params) => (@Obj.mk (.type "tuple") none (@Data.seq #[] 0) (@List.toArray.{0} (@Option.{0} @Value) (@List.nil.{0} (@Option.{0} @Value)))))
noncomputable def My.o107 : ((x0 : @Params) → @Obj) := (fun (x0 : @Params) => (@Obj.mk (.type "function") none (@Data.func (@FuncData.mk (.ofString "is_whole") (.ofString "is_whole") (L2.defArgs (My.top 6)) (@FuncBody.stmts (L2.defBody (My.top 6))) (L2.defScope (My.top 6)) 3 (@List.nil.{0} (@Prod.{0, 0} @Str @Nat)) .none .none .none (.str (.ofString "oddbases.pairs") 246) none (.ref 64) .none 0)) (@List.toArray.{0} (@Option.{0} @Value) (@List.nil.{0} (@Option.{0} @Value)))))
noncomputable def My.o106 : ((x0 : @Params) → @Obj) := (fun (x0 : @Params) => (@Obj.mk (.type "code") none (@Data.fields (List.toArray [(.str (.ofString "is_whole") 248), (.str (.ofString "is_whole") 249), (.str (.ofString "/claim/cut.py") 250), (@Value.int (12 : Int) 0), (@Value.int (1 : Int) 0), (@Value.int (0 : Int) 0), (@Value.int (0 : Int) 0), (@Value.int (3 : Int) 0), (.ref 59), (.bool @Bool.true), (@Value.int (181 : Int) 0), (.ref 60), .none, (.ref 61), (.ref 62), (.ref 63), (@Value.int (252 : Int) 0), (@Value.int (12 : Int) 0), (.str (.ofString "/claim/cut.py") 253)])) (@List.toArray.{0} (@Option.{0} @Value) (@List.nil.{0} (@Option.{0} @Value)))))
noncomputable def My.o105 : ((x0 : @Params) → @Obj) := (fun (x0 : @Params) => (@Obj.mk .none none (@Data.func (@FuncData.mk (.ofString "is_whole") (.ofString "is_whole") (L2.defArgs (My.top 6)) (@FuncBody.stmts (L2.defBody (My.top 6))) (L2.defScope (My.top 6)) 0 (@List.nil.{0} (@Prod.{0, 0} @Str @Nat)) .none .none .none .none none .none .none 0)) (@List.toArray.{0} (@Option.{0} @Value) (@List.nil.{0} (@Option.{0} @Value)))))
noncomputable def My.o104 : ((x0 : @Params) → @Obj) := (fun (x0 : @Params) => (@Obj.mk (.type "tuple") none (@Data.seq #[] 0) (@List.toArray.{0} (@Option.{0} @Value) (@List.nil.{0} (@Option.{0} @Value)))))
noncomputable def My.o103 : ((x0 : @Params) → @Obj) := (fun (x0 : @Params) => (@Obj.mk (.type "tuple") none (@Data.seq (List.toArray [(.str (.ofString "value") 251)]) 0) (@List.toArray.{0} (@Option.{0} @Value) (@List.nil.{0} (@Option.{0} @Value)))))
noncomputable def My.o102 : ((x0 : @Params) → @Obj) := (fun (x0 : @Params) => (@Obj.mk .none none (@Data.fields #[]) (@List.toArray.{0} (@Option.{0} @Value) (@List.nil.{0} (@Option.{0} @Value)))))
noncomputable def My.o101 : ((x0 : @Params) → @Obj) := (fun (x0 : @Params) => (@Obj.mk (.type "tuple") none (@Data.seq #[] 0) (@List.toArray.{0} (@Option.{0} @Value) (@List.nil.{0} (@Option.{0} @Value)))))
noncomputable def My.o100 : ((x0 : @Params) → @Obj) := (fun (x0 : @Params) => (@Obj.mk (.type "builtin_function_or_method") none (@Data.fields (List.toArray [(.builtin "object.__init_subclass__"), (.ref 56)])) (@List.toArray.{0} (@Option.{0} @Value) (@List.nil.{0} (@Option.{0} @Value)))))
noncomputable def My.o99 : ((x0 : @Params) → @Obj) := (fun (x0 : @Params) => (@Obj.mk (.type "super") none (@Data.fields (List.toArray [(.ref 56), (.ref 56), (.ref 56)])) (@List.toArray.{0} (@Option.{0} @Value) (@List.nil.{0} (@Option.{0} @Value)))))
noncomputable def My.o98 : ((x0 : @Params) → @Obj) := (fun (x0 : @Params) => (@Obj.mk (.type "type") none (@Data.cls (@ClassData.mk (.ofString "NoRatio") [(.ref 31)] [(.ref 56), (.ref 31), (.type "ValueError"), (.type "Exception"), (.type "BaseException"), (.type "object")] 55 (.ofString "NoRatio") @Bool.true [] [] @Bool.false (@Option.none.{0} @Bool) @Bool.false)) (@List.toArray.{0} (@Option.{0} @Value) [(@Option.some.{0} @Value (.ref 47)), (@Option.none.{0} @Value), (@Option.some.{0} @Value (.str (.ofString "NoRatio") 230)), (@Option.some.{0} @Value (.str (.ofString "NoRatio") 238)), (@Option.some.{0} @Value (.builtin "ValueError.__new__")), (@Option.some.{0} @Value (.bool @Bool.true))])))
noncomputable def My.o97 : ((x0 : @Params) → @Obj) := (fun (x0 : @Params) => (@Obj.mk (.type "dict") none (@Data.dict (List.toArray [(@DictEntry.mk (@PyData.keyHash x0 (.ofString "__module__")) (.str (.ofString "__module__") 237) (.str (.ofString "oddbases.errors") 194)), (@DictEntry.mk (@PyData.keyHash x0 (.ofString "__firstlineno__")) (.str (.ofString "__firstlineno__") 241) (@Value.int (9 : Int) 240)), (@DictEntry.mk (@PyData.keyHash x0 (.ofString "__static_attributes__")) (.str (.ofString "__static_attributes__") 242) (.ref 54)), (@DictEntry.mk (@PyData.keyHash x0 (.ofString "__doc__")) (.str (.ofString "__doc__") 243) .none)]) 2) (@List.toArray.{0} (@Option.{0} @Value) (@List.nil.{0} (@Option.{0} @Value)))))
noncomputable def My.o96 : ((x0 : @Params) → @Obj) := (fun (x0 : @Params) => (@Obj.mk (.type "tuple") none (@Data.seq #[] 0) (@List.toArray.{0} (@Option.{0} @Value) (@List.nil.{0} (@Option.{0} @Value)))))
noncomputable def My.o95 : ((x0 : @Params) → @Obj) := (fun (x0 : @Params) => (@Obj.mk (.type "frame") none @Data.plain (@List.toArray.{0} (@Option.{0} @Value) [(@Option.some.{0} @Value (.ref 52)), (@Option.some.{0} @Value (.ref 3)), (@Option.some.{0} @Value (.ref 49)), (@Option.none.{0} @Value), (@Option.some.{0} @Value (.str (.ofString "oddbases.errors") 194)), (@Option.none.{0} @Value), (@Option.some.{0} @Value (.ref 0))])))
noncomputable def My.o94 : ((x0 : @Params) → @Obj) := (fun (x0 : @Params) => (@Obj.mk (.type "code") none (@Data.fields (List.toArray [(.str (.ofString "NoRatio") 232), (.str (.ofString "NoRatio") 233), (.str (.ofString "/claim/cut.py") 234), (@Value.int (9 : Int) 0), (@Value.int (0 : Int) 0), (@Value.int (0 : Int) 0), (@Value.int (0 : Int) 0), (@Value.int (0 : Int) 0), (.ref 50), (.bool @Bool.false), (@Value.int (181 : Int) 0), (.ref 51), .none, .none, .none, .none, (@Value.int (235 : Int) 0), (@Value.int (9 : Int) 0), (.str (.ofString "/claim/cut.py") 236)])) (@List.toArray.{0} (@Option.{0} @Value) (@List.nil.{0} (@Option.{0} @Value)))))
noncomputable def My.o93 : ((x0 : @Params) → @Obj) := (fun (x0 : @Params) => (@Obj.mk .none none (@Data.fields #[]) (@List.toArray.{0} (@Option.{0} @Value) (@List.nil.{0} (@Option.{0} @Value)))))
noncomputable def My.o92 : ((x0 : @Params) → @Obj) := (fun (x0 : @Params) => (@Obj.mk (.type "tuple") none (@Data.seq #[] 0) (@List.toArray.{0} (@Option.{0} @Value) (@List.nil.{0} (@Option.{0} @Value)))))
noncomputable def My.o91 : ((x0 : @Params) → @Obj) := (fun (x0 : @Params) => (@Obj.mk (.type "dict") none (@Data.dict (List.toArray [(@DictEntry.mk (@PyData.keyHash x0 (.ofString "__module__")) (.str (.ofString "__module__") 237) (.str (.ofString "oddbases.errors") 194)), (@DictEntry.mk (@PyData.keyHash x0 (.ofString "__qualname__")) (.str (.ofString "__qualname__") 239) (.str (.ofString "NoRatio") 238)), (@DictEntry.mk (@PyData.keyHash x0 (.ofString "__firstlineno__")) (.str (.ofString "__firstlineno__") 241) (@Value.int (9 : Int) 240)), (@DictEntry.mk (@PyData.keyHash x0 (.ofString "__static_attributes__")) (.str (.ofString "__static_attributes__") 242) (.ref 54))]) 4) (@List.toArray.{0} (@Option.{0} @Value) (@List.nil.{0} (@Option.{0} @Value)))))
noncomputable def My.o90 : ((x0 : @Params) → @Obj) := (fun (x0 : @Params) => (@Obj.mk (.type "builtin_function_or_method") none (@Data.fields (List.toArray [(.builtin "type.__prepare__"), (.type "type")])) (@List.toArray.{0} (@Option.{0} @Value) (@List.nil.{0} (@Option.{0} @Value)))))
noncomputable def My.o89 : ((x0 : @Params) → @Obj) := (fun (x0 : @Params) => (@Obj.mk (.type "tuple") none (@Data.seq (List.toArray [(.ref 31)]) 0) (@List.toArray.{0} (@Option.{0} @Value) (@List.nil.{0} (@Option.{0} @Value)))))
noncomputable def My.o85 : ((x0 : @Params) → @Obj) := (fun (x0 : @Params) => (@Obj.mk (.type "builtin_function_or_method") none (@Data.fields (List.toArray [(.builtin "object.__init_subclass__"), (.ref 44)])) (@List.toArray.{0} (@Option.{0} @Value) (@List.nil.{0} (@Option.{0} @Value)))))
noncomputable def My.o84 : ((x0 : @Params) → @Obj) := (fun (x0 : @Params) => (@Obj.mk (.type "super") none (@Data.fields (List.toArray [(.ref 44), (.ref 44), (.ref 44)])) (@List.toArray.{0} (@Option.{0} @Value) (@List.nil.{0} (@Option.{0} @Value)))))
noncomputable def My.o83 : ((x0 : @Params) → @Obj) := (fun (x0 : @Params) => (@Obj.mk (.type "type") none (@Data.cls (@ClassData.mk (.ofString "NoWay") [(.ref 31)] [(.ref 44), (.ref 31), (.type "ValueError"), (.type "Exception"), (.type "BaseException"), (.type "object")] 43 (.ofString "NoWay") @Bool.true [] [] @Bool.false (@Option.none.{0} @Bool) @Bool.false)) (@List.toArray.{0} (@Option.{0} @Value) [(@Option.some.{0} @Value (.ref 35)), (@Option.none.{0} @Value), (@Option.some.{0} @Value (.str (.ofString "NoWay") 214)), (@Option.some.{0} @Value (.str (.ofString "NoWay") 222)), (@Option.some.{0} @Value (.builtin "ValueError.__new__")), (@Option.some.{0} @Value (.bool @Bool.true))])))
noncomputable def My.o82 : ((x0 : @Params) → @Obj) := (fun (x0 : @Params) => (@Obj.mk (.type "dict") none (@Data.dict (List.toArray [(@DictEntry.mk (@PyData.keyHash x0 (.ofString "__module__")) (.str (.ofString "__module__") 221) (.str (.ofString "oddbases.errors") 194)), (@DictEntry.mk (@PyData.keyHash x0 (.ofString "__firstlineno__")) (.str (.ofString "__firstlineno__") 225) (@Value.int (7 : Int) 224)), (@DictEntry.mk (@PyData.keyHash x0 (.ofString "__static_attributes__")) (.str (.ofString "__static_attributes__") 226) (.ref 42)), (@DictEntry.mk (@PyData.keyHash x0 (.ofString "__doc__")) (.str (.ofString "__doc__") 227) .none)]) 2) (@List.toArray.{0} (@Option.{0} @Value) (@List.nil.{0} (@Option.{0} @Value)))))
noncomputable def My.o81 : ((x0 : @Params) → @Obj) := (fun (x0 : @Params) => (@Obj.mk (.type "tuple") none (@Data.seq #[] 0) (@List.toArray.{0} (@Option.{0} @Value) (@List.nil.{0} (@Option.{0} @Value)))))
noncomputable def My.o80 : ((x0 : @Params) → @Obj) := (fun (x0 : @Params) => (@Obj.mk (.type "frame") none @Data.plain (@List.toArray.{0} (@Option.{0} @Value) [(@Option.some.{0} @Value (.ref 40)), (@Option.some.{0} @Value (.ref 3)), (@Option.some.{0} @Value (.ref 37)), (@Option.none.{0} @Value), (@Option.some.{0} @Value (.str (.ofString "oddbases.errors") 194)), (@Option.none.{0} @Value), (@Option.some.{0} @Value (.ref 0))])))
noncomputable def My.o79 : ((x0 : @Params) → @Obj) := (fun (x0 : @Params) => (@Obj.mk (.type "code") none (@Data.fields (List.toArray [(.str (.ofString "NoWay") 216), (.str (.ofString "NoWay") 217), (.str (.ofString "/claim/cut.py") 218), (@Value.int (7 : Int) 0), (@Value.int (0 : Int) 0), (@Value.int (0 : Int) 0), (@Value.int (0 : Int) 0), (@Value.int (0 : Int) 0), (.ref 38), (.bool @Bool.false), (@Value.int (181 : Int) 0), (.ref 39), .none, .none, .none, .none, (@Value.int (219 : Int) 0), (@Value.int (7 : Int) 0), (.str (.ofString "/claim/cut.py") 220)])) (@List.toArray.{0} (@Option.{0} @Value) (@List.nil.{0} (@Option.{0} @Value)))))
noncomputable def My.o78 : ((x0 : @Params) → @Obj) := (fun (x0 : @Params) => (@Obj.mk .none none (@Data.fields #[]) (@List.toArray.{0} (@Option.{0} @Value) (@List.nil.{0} (@Option.{0} @Value)))))
noncomputable def My.o77 : ((x0 : @Params) → @Obj) := (fun (x0 : @Params) => (@Obj.mk (.type "tuple") none (@Data.seq #[] 0) (@List.toArray.{0} (@Option.{0} @Value) (@List.nil.{0} (@Option.{0} @Value)))))
noncomputable def My.o76 : ((x0 : @Params) → @Obj) := (fun (x0 : @Params) => (@Obj.mk (.type "dict") none (@Data.dict (List.toArray [(@DictEntry.mk (@PyData.keyHash x0 (.ofString "__module__")) (.str (.ofString "__module__") 221) (.str (.ofString "oddbases.errors") 194)), (@DictEntry.mk (@PyData.keyHash x0 (.ofString "__qualname__")) (.str (.ofString "__qualname__") 223) (.str (.ofString "NoWay") 222)), (@DictEntry.mk (@PyData.keyHash x0 (.ofString "__firstlineno__")) (.str (.ofString "__firstlineno__") 225) (@Value.int (7 : Int) 224)), (@DictEntry.mk (@PyData.keyHash x0 (.ofString "__static_attributes__")) (.str (.ofString "__static_attributes__") 226) (.ref 42))]) 4) (@List.toArray.{0} (@Option.{0} @Value) (@List.nil.{0} (@Option.{0} @Value)))))
noncomputable def My.o75 : ((x0 : @Params) → @Obj) := (fun (x0 : @Params) => (@Obj.mk (.type "builtin_function_or_method") none (@Data.fields (List.toArray [(.builtin "type.__prepare__"), (.type "type")])) (@List.toArray.{0} (@Option.{0} @Value) (@List.nil.{0} (@Option.{0} @Value)))))
noncomputable def My.o74 : ((x0 : @Params) → @Obj) := (fun (x0 : @Params) => (@Obj.mk (.type "tuple") none (@Data.seq (List.toArray [(.ref 31)]) 0) (@List.toArray.{0} (@Option.{0} @Value) (@List.nil.{0} (@Option.{0} @Value)))))
noncomputable def My.o70 : ((x0 : @Params) → @Obj) := (fun (x0 : @Params) => (@Obj.mk (.type "builtin_function_or_method") none (@Data.fields (List.toArray [(.builtin "object.__init_subclass__"), (.ref 31)])) (@List.toArray.{0} (@Option.{0} @Value) (@List.nil.{0} (@Option.{0} @Value)))))
noncomputable def My.o69 : ((x0 : @Params) → @Obj) := (fun (x0 : @Params) => (@Obj.mk (.type "super") none (@Data.fields (List.toArray [(.ref 31), (.ref 31), (.ref 31)])) (@List.toArray.{0} (@Option.{0} @Value) (@List.nil.{0} (@Option.{0} @Value)))))
noncomputable def My.o68 : ((x0 : @Params) → @Obj) := (fun (x0 : @Params) => (@Obj.mk (.type "getset_descriptor") none (@Data.fields (List.toArray [(.str (.ofString "__weakref__") 209), (.ref 31), (.builtin "ExceptionGroup.__weakref__"), .none])) (@List.toArray.{0} (@Option.{0} @Value) (@List.nil.{0} (@Option.{0} @Value)))))
noncomputable def My.o88 : ((x0 : @Params) → @Obj) := (fun (x0 : @Params) => (@Obj.mk (.type "type") none (@Data.cls (@ClassData.mk (.ofString "OddError") [(.type "ValueError")] [(.ref 31), (.type "ValueError"), (.type "Exception"), (.type "BaseException"), (.type "object")] 30 (.ofString "OddError") @Bool.true [] [(.ref 44), (.ref 56)] @Bool.false (@Option.none.{0} @Bool) @Bool.false)) (@List.toArray.{0} (@Option.{0} @Value) [(@Option.some.{0} @Value (.ref 22)), (@Option.none.{0} @Value), (@Option.some.{0} @Value (.str (.ofString "OddError") 196)), (@Option.some.{0} @Value (.str (.ofString "OddError") 204)), (@Option.some.{0} @Value (.builtin "ValueError.__new__")), (@Option.some.{0} @Value (.bool @Bool.true))])))
noncomputable def My.o66 : ((x0 : @Params) → @Obj) := (fun (x0 : @Params) => (@Obj.mk (.type "dict") none (@Data.dict (List.toArray [(@DictEntry.mk (@PyData.keyHash x0 (.ofString "__module__")) (.str (.ofString "__module__") 203) (.str (.ofString "oddbases.errors") 194)), (@DictEntry.mk (@PyData.keyHash x0 (.ofString "__firstlineno__")) (.str (.ofString "__firstlineno__") 207) (@Value.int (5 : Int) 206)), (@DictEntry.mk (@PyData.keyHash x0 (.ofString "__static_attributes__")) (.str (.ofString "__static_attributes__") 208) (.ref 29)), (@DictEntry.mk (@PyData.keyHash x0 (.ofString "__weakref__")) (.str (.ofString "__weakref__") 210) (.ref 32)), (@DictEntry.mk (@PyData.keyHash x0 (.ofString "__doc__")) (.str (.ofString "__doc__") 211) .none)]) 3) (@List.toArray.{0} (@Option.{0} @Value) (@List.nil.{0} (@Option.{0} @Value)))))
noncomputable def My.o65 : ((x0 : @Params) → @Obj) := (fun (x0 : @Params) => (@Obj.mk (.type "tuple") none (@Data.seq #[] 0) (@List.toArray.{0} (@Option.{0} @Value) (@List.nil.{0} (@Option.{0} @Value)))))
noncomputable def My.o64 : ((x0 : @Params) → @Obj) := (fun (x0 : @Params) => (@Obj.mk (.type "frame") none @Data.plain (@List.toArray.{0} (@Option.{0} @Value) [(@Option.some.{0} @Value (.ref 27)), (@Option.some.{0} @Value (.ref 3)), (@Option.some.{0} @Value (.ref 24)), (@Option.none.{0} @Value), (@Option.some.{0} @Value (.str (.ofString "oddbases.errors") 194)), (@Option.none.{0} @Value), (@Option.some.{0} @Value (.ref 0))])))
noncomputable def My.o63 : ((x0 : @Params) → @Obj) := (fun (x0 : @Params) => (@Obj.mk (.type "code") none (@Data.fields (List.toArray [(.str (.ofString "OddError") 198), (.str (.ofString "OddError") 199), (.str (.ofString "/claim/cut.py") 200), (@Value.int (5 : Int) 0), (@Value.int (0 : Int) 0), (@Value.int (0 : Int) 0), (@Value.int (0 : Int) 0), (@Value.int (0 : Int) 0), (.ref 25), (.bool @Bool.false), (@Value.int (181 : Int) 0), (.ref 26), .none, .none, .none, .none, (@Value.int (201 : Int) 0), (@Value.int (5 : Int) 0), (.str (.ofString "/claim/cut.py") 202)])) (@List.toArray.{0} (@Option.{0} @Value) (@List.nil.{0} (@Option.{0} @Value)))))
noncomputable def My.o62 : ((x0 : @Params) → @Obj) := (fun (x0 : @Params) => (@Obj.mk .none none (@Data.fields #[]) (@List.toArray.{0} (@Option.{0} @Value) (@List.nil.{0} (@Option.{0} @Value)))))
noncomputable def My.o61 : ((x0 : @Params) → @Obj) := (fun (x0 : @Params) => (@Obj.mk (.type "tuple") none (@Data.seq #[] 0) (@List.toArray.{0} (@Option.{0} @Value) (@List.nil.{0} (@Option.{0} @Value)))))
noncomputable def My.o60 : ((x0 : @Params) → @Obj) := (fun (x0 : @Params) => (@Obj.mk (.type "dict") none (@Data.dict (List.toArray [(@DictEntry.mk (@PyData.keyHash x0 (.ofString "__module__")) (.str (.ofString "__module__") 203) (.str (.ofString "oddbases.errors") 194)), (@DictEntry.mk (@PyData.keyHash x0 (.ofString "__qualname__")) (.str (.ofString "__qualname__") 205) (.str (.ofString "OddError") 204)), (@DictEntry.mk (@PyData.keyHash x0 (.ofString "__firstlineno__")) (.str (.ofString "__firstlineno__") 207) (@Value.int (5 : Int) 206)), (@DictEntry.mk (@PyData.keyHash x0 (.ofString "__static_attributes__")) (.str (.ofString "__static_attributes__") 208) (.ref 29))]) 4) (@List.toArray.{0} (@Option.{0} @Value) (@List.nil.{0} (@Option.{0} @Value)))))
noncomputable def My.o59 : ((x0 : @Params) → @Obj) := (fun (x0 : @Params) => (@Obj.mk (.type "builtin_function_or_method") none (@Data.fields (List.toArray [(.builtin "type.__prepare__"), (.type "type")])) (@List.toArray.{0} (@Option.{0} @Value) (@List.nil.{0} (@Option.{0} @Value)))))
noncomputable def My.o58 : ((x0 : @Params) → @Obj) := (fun (x0 : @Params) => (@Obj.mk (.type "tuple") none (@Data.seq (List.toArray [(.type "ValueError")]) 0) (@List.toArray.{0} (@Option.{0} @Value) (@List.nil.{0} (@Option.{0} @Value)))))
noncomputable def My.o57 : ((x0 : @Params) → @Obj) := (fun (x0 : @Params) => (@Obj.mk (.type "function") none (@Data.func (@FuncData.mk (.ofString "_wall") (.ofString "_wall") (L2.defArgs (My.top 0)) (@FuncBody.stmts (L2.defBody (My.top 0))) (L2.defScope (My.top 0)) 3 (@List.nil.{0} (@Prod.{0, 0} @Str @Nat)) .none .none .none (.str (.ofString "__main__") 164) none (.ref 20) .none 0)) (@List.toArray.{0} (@Option.{0} @Value) (@List.nil.{0} (@Option.{0} @Value)))))
noncomputable def My.o56 : ((x0 : @Params) → @Obj) := (fun (x0 : @Params) => (@Obj.mk (.type "code") none (@Data.fields (List.toArray [(.str (.ofString "_wall") 187), (.str (.ofString "_wall") 188), (.str (.ofString "/claim/cut.py") 189), (@Value.int (1 : Int) 0), (@Value.int (1 : Int) 0), (@Value.int (0 : Int) 0), (@Value.int (0 : Int) 0), (@Value.int (3 : Int) 0), (.ref 15), (.bool @Bool.true), (@Value.int (181 : Int) 0), (.ref 16), .none, (.ref 17), (.ref 18), (.ref 19), (@Value.int (191 : Int) 0), (@Value.int (1 : Int) 0), (.str (.ofString "/claim/cut.py") 192)])) (@List.toArray.{0} (@Option.{0} @Value) (@List.nil.{0} (@Option.{0} @Value)))))
noncomputable def My.o55 : ((x0 : @Params) → @Obj) := (fun (x0 : @Params) => (@Obj.mk .none none (@Data.func (@FuncData.mk (.ofString "_wall") (.ofString "_wall") (L2.defArgs (My.top 0)) (@FuncBody.stmts (L2.defBody (My.top 0))) (L2.defScope (My.top 0)) 0 (@List.nil.{0} (@Prod.{0, 0} @Str @Nat)) .none .none .none .none none .none .none 0)) (@List.toArray.{0} (@Option.{0} @Value) (@List.nil.{0} (@Option.{0} @Value)))))
noncomputable def My.o54 : ((x0 : @Params) → @Obj) := (fun (x0 : @Params) => (@Obj.mk (.type "tuple") none (@Data.seq #[] 0) (@List.toArray.{0} (@Option.{0} @Value) (@List.nil.{0} (@Option.{0} @Value)))))
noncomputable def My.o53 : ((x0 : @Params) → @Obj) := (fun (x0 : @Params) => (@Obj.mk (.type "tuple") none (@Data.seq (List.toArray [(.str (.ofString "k") 190)]) 0) (@List.toArray.{0} (@Option.{0} @Value) (@List.nil.{0} (@Option.{0} @Value)))))
noncomputable def My.o52 : ((x0 : @Params) → @Obj) := (fun (x0 : @Params) => (@Obj.mk .none none (@Data.fields #[]) (@List.toArray.{0} (@Option.{0} @Value) (@List.nil.{0} (@Option.{0} @Value)))))
noncomputable def My.o51 : ((x0 : @Params) → @Obj) := (fun (x0 : @Params) => (@Obj.mk (.type "tuple") none (@Data.seq #[] 0) (@List.toArray.{0} (@Option.{0} @Value) (@List.nil.{0} (@Option.{0} @Value)))))
noncomputable def My.o46 : ((x0 : @Params) → @Obj) := (fun (x0 : @Params) => (@Obj.mk (.type "frame") none @Data.plain (@List.toArray.{0} (@Option.{0} @Value) [(@Option.some.{0} @Value (.ref 13)), (@Option.some.{0} @Value (.ref 3)), (@Option.some.{0} @Value (.ref 3)), (@Option.none.{0} @Value), (@Option.some.{0} @Value (.str (.ofString "__main__") 164)), (@Option.none.{0} @Value), (@Option.some.{0} @Value (.ref 0))])))
noncomputable def My.o45 : ((x0 : @Params) → @Obj) := (fun (x0 : @Params) => (@Obj.mk (.type "code") none (@Data.fields (List.toArray [(.str (.ofString "<module>") 182), (.str (.ofString "<module>") 183), (.str (.ofString "/claim/cut.py") 184), (@Value.int (1 : Int) 0), (@Value.int (0 : Int) 0), (@Value.int (0 : Int) 0), (@Value.int (0 : Int) 0), (@Value.int (0 : Int) 0), (.ref 11), (.bool @Bool.false), (@Value.int (181 : Int) 0), (.ref 12), .none, .none, .none, .none, (@Value.int (185 : Int) 0), (@Value.int (1 : Int) 0), (.str (.ofString "/claim/cut.py") 186)])) (@List.toArray.{0} (@Option.{0} @Value) (@List.nil.{0} (@Option.{0} @Value)))))
noncomputable def My.o476 : ((x0 : @Params) → @Obj) := (fun (x0 : @Params) => (@Obj.mk .none none (@Data.fields (List.toArray ((@Value.int (1 : Int) 0) :: (@Value.int (0 : Int) 0) :: (.ref 20) :: (@Value.int (5 : Int) 0) :: (@Value.int (0 : Int) 0) :: (.ref 27) :: (@Value.int (7 : Int) 0) :: (@Value.int (0 : Int) 0) :: (.ref 40) :: (@Value.int (9 : Int) 0) :: (@Value.int (0 : Int) 0) :: (.ref 52) :: (@Value.int (12 : Int) 0) :: (@Value.int (0 : Int) 0) :: (.ref 64) :: (@Value.int (14 : Int) 0) :: (@Value.int (0 : Int) 0) :: (.ref 71) :: (@Value.int (16 : Int) 0) :: (@Value.int (0 : Int) 0) :: (.ref 78) :: (@Value.int (20 : Int) 0) :: (@Value.int (0 : Int) 0) :: (.ref 85) :: (@Value.int (26 : Int) 0) :: (@Value.int (0 : Int) 0) :: (.ref 92) :: (@Value.int (33 : Int) 0) :: (@Value.int (0 : Int) 0) :: (.ref 99) :: (@Value.int (37 : Int) 0) :: (@Value.int (0 : Int) 0) :: (.ref 106) :: (@Value.int (61 : Int) 0) :: (@Value.int (0 : Int) 0) :: (.ref 162) :: (@Value.int (71 : Int) 0) :: (@Value.int (0 : Int) 0) :: (.ref 195) :: (@Value.int (84 : Int) 0) :: (@Value.int (0 : Int) 0) :: (.ref 235) :: (@Value.int (100 : Int) 0) :: (@Value.int (0 : Int) 0) :: (.ref 282) :: (@Value.int (110 : Int) 0) :: (@Value.int (0 : Int) 0) :: (.ref 315) :: (@Value.int (134 : Int) 0) :: (@Value.int (0 : Int) 0) :: (.ref 362) :: (@Value.int (154 : Int) 0) :: (@Value.int (0 : Int) 0) :: (.ref 416) :: (@Value.int (160 : Int) 0) :: (@Value.int (0 : Int) 0) :: (.ref 423) :: (@Value.int (164 : Int) 0) :: (@Value.int (0 : Int) 0) :: (.ref 430) :: (@Value.int (166 : Int) 0) :: (@Value.int (0 : Int) 0) :: (.ref 437) :: (@Value.int (168 : Int) 0) :: (@Value.int (0 : Int) 0) :: (.ref 444) :: (@Value.int (180 : Int) 0) :: (@Value.int (0 : Int) 0) :: (.ref 451) :: (@Value.int (186 : Int) 0) :: (@Value.int (0 : Int) 0) :: (.ref 458) :: (@Value.int (197 : Int) 0) :: (@Value.int (0 : Int) 0) :: (.ref 465) :: (@Value.int (201 : Int) 0) :: (@Value.int (0 : Int) 0) :: (.ref 472) :: (@Value.int (204 : Int) 0) :: (@Value.int (0 : Int) 0) :: (.ref 477) :: []))) (@List.toArray.{0} (@Option.{0} @Value) (@List.nil.{0} (@Option.{0} @Value)))))
noncomputable def My.o43 : ((x0 : @Params) → @Obj) := (fun (x0 : @Params) => (@Obj.mk (.type "tuple") none (@Data.seq #[] 0) (@List.toArray.{0} (@Option.{0} @Value) (@List.nil.{0} (@Option.{0} @Value)))))
noncomputable def My.o475 : ((x0 : @Params) → @Obj) := (fun (x0 : @Params) => (@Obj.mk (.type "dict") none (@Data.dict (List.toArray [(@DictEntry.mk (@PyData.keyHash x0 (.ofString "__name__")) (.str (.ofString "__name__") 165) (.str (.ofString "law_oddbases_k11_worth_summed") 700)), (@DictEntry.mk (@PyData.keyHash x0 (.ofString "__doc__")) (.str (.ofString "__doc__") 166) .none), (@DictEntry.mk (@PyData.keyHash x0 (.ofString "__package__")) (.str (.ofString "__package__") 167) .none), (@DictEntry.mk (@PyData.keyHash x0 (.ofString "__loader__")) (.str (.ofString "__loader__") 168) (.builtin "__main__.__loader__#opaque")), (@DictEntry.mk (@PyData.keyHash x0 (.ofString "__spec__")) (.str (.ofString "__spec__") 169) .none), (@DictEntry.mk (@PyData.keyHash x0 (.ofString "__annotations__")) (.str (.ofString "__annotations__") 170) (.ref 6)), (@DictEntry.mk (@PyData.keyHash x0 (.ofString "__builtins__")) (.str (.ofString "__builtins__") 171) (.ref 4)), (@DictEntry.mk (@PyData.keyHash x0 (.ofString "__file__")) (.str (.ofString "__file__") 173) (.str (.ofString "/claim/cut.py") 172)), (@DictEntry.mk (@PyData.keyHash x0 (.ofString "__cached__")) (.str (.ofString "__cached__") 174) .none), (@DictEntry.mk (@PyData.keyHash x0 (.ofString "_wall")) (.str (.ofString "_wall") 193) (.ref 21)), (@DictEntry.mk (@PyData.keyHash x0 (.ofString "OddError")) (.str (.ofString "OddError") 213) (.ref 31)), (@DictEntry.mk (@PyData.keyHash x0 (.ofString "NoWay")) (.str (.ofString "NoWay") 229) (.ref 44)), (@DictEntry.mk (@PyData.keyHash x0 (.ofString "NoRatio")) (.str (.ofString "NoRatio") 245) (.ref 56)), (@DictEntry.mk (@PyData.keyHash x0 (.ofString "is_whole")) (.str (.ofString "is_whole") 254) (.ref 65)), (@DictEntry.mk (@PyData.keyHash x0 (.ofString "is_pair")) (.str (.ofString "is_pair") 261) (.ref 72)), (@DictEntry.mk (@PyData.keyHash x0 (.ofString "as_pair")) (.str (.ofString "as_pair") 268) (.ref 79)), (@DictEntry.mk (@PyData.keyHash x0 (.ofString "added")) (.str (.ofString "added") 278) (.ref 86)), (@DictEntry.mk (@PyData.keyHash x0 (.ofString "multiplied")) (.str (.ofString "multiplied") 288) (.ref 93)), (@DictEntry.mk (@PyData.keyHash x0 (.ofString "bounded")) (.str (.ofString "bounded") 299) (.ref 100)), (@DictEntry.mk (@PyData.keyHash x0 (.ofString "Way")) (.str (.ofString "Way") 370) (.ref 152)), (@DictEntry.mk (@PyData.keyHash x0 (.ofString "Plain")) (.str (.ofString "Plain") 411) (.ref 187)), (@DictEntry.mk (@PyData.keyHash x0 (.ofString "Below")) (.str (.ofString "Below") 460) (.ref 227)), (@DictEntry.mk (@PyData.keyHash x0 (.ofString "Balanced")) (.str (.ofString "Balanced") 517) (.ref 274)), (@DictEntry.mk (@PyData.keyHash x0 (.ofString "Growing")) (.str (.ofString "Growing") 558) (.ref 307)), (@DictEntry.mk (@PyData.keyHash x0 (.ofString "Falling")) (.str (.ofString "Falling") 621) (.ref 354)), (@DictEntry.mk (@PyData.keyHash x0 (.ofString "Pairs")) (.str (.ofString "Pairs") 686) (.ref 408)), (@DictEntry.mk (@PyData.keyHash x0 (.ofString "worth")) (.str (.ofString "worth") 699) (.ref 417)), (@DictEntry.mk (@PyData.keyHash x0 (.ofString "_law_cell_at")) (.str (.ofString "_law_cell_at") 709) (.ref 424)), (@DictEntry.mk (@PyData.keyHash x0 (.ofString "_law_whole")) (.str (.ofString "_law_whole") 716) (.ref 431)), (@DictEntry.mk (@PyData.keyHash x0 (.ofString "_law_size")) (.str (.ofString "_law_size") 724) (.ref 438)), (@DictEntry.mk (@PyData.keyHash x0 (.ofString "_law_made")) (.str (.ofString "_law_made") 732) (.ref 445)), (@DictEntry.mk (@PyData.keyHash x0 (.ofString "_law_next")) (.str (.ofString "_law_next") 743) (.ref 452)), (@DictEntry.mk (@PyData.keyHash x0 (.ofString "_law_worth")) (.str (.ofString "_law_worth") 756) (.ref 459)), (@DictEntry.mk (@PyData.keyHash x0 (.ofString "_law_is_number")) (.str (.ofString "_law_is_number") 764) (.ref 466)), (@DictEntry.mk (@PyData.keyHash x0 (.ofString "_law_thing")) (.str (.ofString "_law_thing") 772) (.ref 473)), (@DictEntry.mk (@PyData.keyHash x0 (.ofString "law")) (.str (.ofString "law") 778) (.ref 478))]) 36) (@List.toArray.{0} (@Option.{0} @Value) (@List.nil.{0} (@Option.{0} @Value)))))
noncomputable def My.o419 : ((x0 : @Params) → @Obj) := (fun (x0 : @Params) => (@Obj.mk .none none (@Data.fields (List.toArray [(@Value.int (1 : Int) 0), (@Value.int (0 : Int) 0), (.ref 20), (@Value.int (5 : Int) 0), (@Value.int (0 : Int) 0), (.ref 27), (@Value.int (7 : Int) 0), (@Value.int (0 : Int) 0), (.ref 40), (@Value.int (9 : Int) 0), (@Value.int (0 : Int) 0), (.ref 52), (@Value.int (12 : Int) 0), (@Value.int (0 : Int) 0), (.ref 64), (@Value.int (14 : Int) 0), (@Value.int (0 : Int) 0), (.ref 71), (@Value.int (16 : Int) 0), (@Value.int (0 : Int) 0), (.ref 78), (@Value.int (20 : Int) 0), (@Value.int (0 : Int) 0), (.ref 85), (@Value.int (26 : Int) 0), (@Value.int (0 : Int) 0), (.ref 92), (@Value.int (33 : Int) 0), (@Value.int (0 : Int) 0), (.ref 99), (@Value.int (37 : Int) 0), (@Value.int (0 : Int) 0), (.ref 106), (@Value.int (61 : Int) 0), (@Value.int (0 : Int) 0), (.ref 162), (@Value.int (71 : Int) 0), (@Value.int (0 : Int) 0), (.ref 195), (@Value.int (84 : Int) 0), (@Value.int (0 : Int) 0), (.ref 235), (@Value.int (100 : Int) 0), (@Value.int (0 : Int) 0), (.ref 282), (@Value.int (110 : Int) 0), (@Value.int (0 : Int) 0), (.ref 315), (@Value.int (134 : Int) 0), (@Value.int (0 : Int) 0), (.ref 362)])) (@List.toArray.{0} (@Option.{0} @Value) (@List.nil.{0} (@Option.{0} @Value)))))
noncomputable def My.o418 : ((x0 : @Params) → @Obj) := (fun (x0 : @Params) => (@Obj.mk (.type "dict") none (@Data.dict (List.toArray [(@DictEntry.mk (@PyData.keyHash x0 (.ofString "__name__")) (.str (.ofString "__name__") 165) (.str (.ofString "oddbases.ways") 289)), (@DictEntry.mk (@PyData.keyHash x0 (.ofString "__doc__")) (.str (.ofString "__doc__") 166) .none), (@DictEntry.mk (@PyData.keyHash x0 (.ofString "__package__")) (.str (.ofString "__package__") 167) .none), (@DictEntry.mk (@PyData.keyHash x0 (.ofString "__loader__")) (.str (.ofString "__loader__") 168) (.builtin "__main__.__loader__#opaque")), (@DictEntry.mk (@PyData.keyHash x0 (.ofString "__spec__")) (.str (.ofString "__spec__") 169) .none), (@DictEntry.mk (@PyData.keyHash x0 (.ofString "__annotations__")) (.str (.ofString "__annotations__") 170) (.ref 6)), (@DictEntry.mk (@PyData.keyHash x0 (.ofString "__builtins__")) (.str (.ofString "__builtins__") 171) (.ref 4)), (@DictEntry.mk (@PyData.keyHash x0 (.ofString "__file__")) (.str (.ofString "__file__") 173) (.str (.ofString "/claim/cut.py") 172)), (@DictEntry.mk (@PyData.keyHash x0 (.ofString "__cached__")) (.str (.ofString "__cached__") 174) .none), (@DictEntry.mk (@PyData.keyHash x0 (.ofString "_wall")) (.str (.ofString "_wall") 193) (.ref 21)), (@DictEntry.mk (@PyData.keyHash x0 (.ofString "OddError")) (.str (.ofString "OddError") 213) (.ref 31)), (@DictEntry.mk (@PyData.keyHash x0 (.ofString "NoWay")) (.str (.ofString "NoWay") 229) (.ref 44)), (@DictEntry.mk (@PyData.keyHash x0 (.ofString "NoRatio")) (.str (.ofString "NoRatio") 245) (.ref 56)), (@DictEntry.mk (@PyData.keyHash x0 (.ofString "is_whole")) (.str (.ofString "is_whole") 254) (.ref 65)), (@DictEntry.mk (@PyData.keyHash x0 (.ofString "is_pair")) (.str (.ofString "is_pair") 261) (.ref 72)), (@DictEntry.mk (@PyData.keyHash x0 (.ofString "as_pair")) (.str (.ofString "as_pair") 268) (.ref 79)), (@DictEntry.mk (@PyData.keyHash x0 (.ofString "added")) (.str (.ofString "added") 278) (.ref 86)), (@DictEntry.mk (@PyData.keyHash x0 (.ofString "multiplied")) (.str (.ofString "multiplied") 288) (.ref 93)), (@DictEntry.mk (@PyData.keyHash x0 (.ofString "bounded")) (.str (.ofString "bounded") 299) (.ref 100)), (@DictEntry.mk (@PyData.keyHash x0 (.ofString "Way")) (.str (.ofString "Way") 370) (.ref 152)), (@DictEntry.mk (@PyData.keyHash x0 (.ofString "Plain")) (.str (.ofString "Plain") 411) (.ref 187)), (@DictEntry.mk (@PyData.keyHash x0 (.ofString "Below")) (.str (.ofString "Below") 460) (.ref 227)), (@DictEntry.mk (@PyData.keyHash x0 (.ofString "Balanced")) (.str (.ofString "Balanced") 517) (.ref 274)), (@DictEntry.mk (@PyData.keyHash x0 (.ofString "Growing")) (.str (.ofString "Growing") 558) (.ref 307)), (@DictEntry.mk (@PyData.keyHash x0 (.ofString "Falling")) (.str (.ofString "Falling") 621) (.ref 354)), (@DictEntry.mk (@PyData.keyHash x0 (.ofString "Pairs")) (.str (.ofString "Pairs") 686) (.ref 408))]) 26) (@List.toArray.{0} (@Option.{0} @Value) (@List.nil.{0} (@Option.{0} @Value)))))
noncomputable def My.o369 : ((x0 : @Params) → @Obj) := (fun (x0 : @Params) => (@Obj.mk .none none (@Data.fields (List.toArray [(@Value.int (1 : Int) 0), (@Value.int (0 : Int) 0), (.ref 20), (@Value.int (5 : Int) 0), (@Value.int (0 : Int) 0), (.ref 27), (@Value.int (7 : Int) 0), (@Value.int (0 : Int) 0), (.ref 40), (@Value.int (9 : Int) 0), (@Value.int (0 : Int) 0), (.ref 52), (@Value.int (12 : Int) 0), (@Value.int (0 : Int) 0), (.ref 64), (@Value.int (14 : Int) 0), (@Value.int (0 : Int) 0), (.ref 71), (@Value.int (16 : Int) 0), (@Value.int (0 : Int) 0), (.ref 78), (@Value.int (20 : Int) 0), (@Value.int (0 : Int) 0), (.ref 85), (@Value.int (26 : Int) 0), (@Value.int (0 : Int) 0), (.ref 92), (@Value.int (33 : Int) 0), (@Value.int (0 : Int) 0), (.ref 99), (@Value.int (37 : Int) 0), (@Value.int (0 : Int) 0), (.ref 106), (@Value.int (61 : Int) 0), (@Value.int (0 : Int) 0), (.ref 162), (@Value.int (71 : Int) 0), (@Value.int (0 : Int) 0), (.ref 195), (@Value.int (84 : Int) 0), (@Value.int (0 : Int) 0), (.ref 235), (@Value.int (100 : Int) 0), (@Value.int (0 : Int) 0), (.ref 282), (@Value.int (110 : Int) 0), (@Value.int (0 : Int) 0), (.ref 315)])) (@List.toArray.{0} (@Option.{0} @Value) (@List.nil.{0} (@Option.{0} @Value)))))
noncomputable def My.o370 : ((x0 : @Params) → @Obj) := (fun (x0 : @Params) => (@Obj.mk (.type "type") none (@Data.cls (@ClassData.mk (.ofString "Way") [(.type "object")] [(.ref 152), (.type "object")] 151 (.ofString "Way") @Bool.true [] [(.ref 187), (.ref 227), (.ref 274), (.ref 307), (.ref 354)] @Bool.false (@Option.none.{0} @Bool) @Bool.false)) (@List.toArray.{0} (@Option.{0} @Value) [(@Option.none.{0} @Value), (@Option.none.{0} @Value), (@Option.some.{0} @Value (.str (.ofString "Way") 300)), (@Option.some.{0} @Value (.str (.ofString "Way") 308)), (@Option.some.{0} @Value (.builtin "object.__new__")), (@Option.some.{0} @Value (.bool @Bool.true))])))
noncomputable def My.o368 : ((x0 : @Params) → @Obj) := (fun (x0 : @Params) => (@Obj.mk (.type "dict") none (@Data.dict (List.toArray [(@DictEntry.mk (@PyData.keyHash x0 (.ofString "__name__")) (.str (.ofString "__name__") 165) (.str (.ofString "oddbases.ways") 289)), (@DictEntry.mk (@PyData.keyHash x0 (.ofString "__doc__")) (.str (.ofString "__doc__") 166) .none), (@DictEntry.mk (@PyData.keyHash x0 (.ofString "__package__")) (.str (.ofString "__package__") 167) .none), (@DictEntry.mk (@PyData.keyHash x0 (.ofString "__loader__")) (.str (.ofString "__loader__") 168) (.builtin "__main__.__loader__#opaque")), (@DictEntry.mk (@PyData.keyHash x0 (.ofString "__spec__")) (.str (.ofString "__spec__") 169) .none), (@DictEntry.mk (@PyData.keyHash x0 (.ofString "__annotations__")) (.str (.ofString "__annotations__") 170) (.ref 6)), (@DictEntry.mk (@PyData.keyHash x0 (.ofString "__builtins__")) (.str (.ofString "__builtins__") 171) (.ref 4)), (@DictEntry.mk (@PyData.keyHash x0 (.ofString "__file__")) (.str (.ofString "__file__") 173) (.str (.ofString "/claim/cut.py") 172)), (@DictEntry.mk (@PyData.keyHash x0 (.ofString "__cached__")) (.str (.ofString "__cached__") 174) .none), (@DictEntry.mk (@PyData.keyHash x0 (.ofString "_wall")) (.str (.ofString "_wall") 193) (.ref 21)), (@DictEntry.mk (@PyData.keyHash x0 (.ofString "OddError")) (.str (.ofString "OddError") 213) (.ref 31)), (@DictEntry.mk (@PyData.keyHash x0 (.ofString "NoWay")) (.str (.ofString "NoWay") 229) (.ref 44)), (@DictEntry.mk (@PyData.keyHash x0 (.ofString "NoRatio")) (.str (.ofString "NoRatio") 245) (.ref 56)), (@DictEntry.mk (@PyData.keyHash x0 (.ofString "is_whole")) (.str (.ofString "is_whole") 254) (.ref 65)), (@DictEntry.mk (@PyData.keyHash x0 (.ofString "is_pair")) (.str (.ofString "is_pair") 261) (.ref 72)), (@DictEntry.mk (@PyData.keyHash x0 (.ofString "as_pair")) (.str (.ofString "as_pair") 268) (.ref 79)), (@DictEntry.mk (@PyData.keyHash x0 (.ofString "added")) (.str (.ofString "added") 278) (.ref 86)), (@DictEntry.mk (@PyData.keyHash x0 (.ofString "multiplied")) (.str (.ofString "multiplied") 288) (.ref 93)), (@DictEntry.mk (@PyData.keyHash x0 (.ofString "bounded")) (.str (.ofString "bounded") 299) (.ref 100)), (@DictEntry.mk (@PyData.keyHash x0 (.ofString "Way")) (.str (.ofString "Way") 370) (.ref 152)), (@DictEntry.mk (@PyData.keyHash x0 (.ofString "Plain")) (.str (.ofString "Plain") 411) (.ref 187)), (@DictEntry.mk (@PyData.keyHash x0 (.ofString "Below")) (.str (.ofString "Below") 460) (.ref 227)), (@DictEntry.mk (@PyData.keyHash x0 (.ofString "Balanced")) (.str (.ofString "Balanced") 517) (.ref 274)), (@DictEntry.mk (@PyData.keyHash x0 (.ofString "Growing")) (.str (.ofString "Growing") 558) (.ref 307)), (@DictEntry.mk (@PyData.keyHash x0 (.ofString "Falling")) (.str (.ofString "Falling") 621) (.ref 354))]) 25) (@List.toArray.{0} (@Option.{0} @Value) (@List.nil.{0} (@Option.{0} @Value)))))
noncomputable def My.o333 : ((x0 : @Params) → @Obj) := (fun (x0 : @Params) => (@Obj.mk .none none (@Data.fields (List.toArray [(@Value.int (1 : Int) 0), (@Value.int (0 : Int) 0), (.ref 20), (@Value.int (5 : Int) 0), (@Value.int (0 : Int) 0), (.ref 27), (@Value.int (7 : Int) 0), (@Value.int (0 : Int) 0), (.ref 40), (@Value.int (9 : Int) 0), (@Value.int (0 : Int) 0), (.ref 52), (@Value.int (12 : Int) 0), (@Value.int (0 : Int) 0), (.ref 64), (@Value.int (14 : Int) 0), (@Value.int (0 : Int) 0), (.ref 71), (@Value.int (16 : Int) 0), (@Value.int (0 : Int) 0), (.ref 78), (@Value.int (20 : Int) 0), (@Value.int (0 : Int) 0), (.ref 85), (@Value.int (26 : Int) 0), (@Value.int (0 : Int) 0), (.ref 92), (@Value.int (33 : Int) 0), (@Value.int (0 : Int) 0), (.ref 99), (@Value.int (37 : Int) 0), (@Value.int (0 : Int) 0), (.ref 106), (@Value.int (61 : Int) 0), (@Value.int (0 : Int) 0), (.ref 162), (@Value.int (71 : Int) 0), (@Value.int (0 : Int) 0), (.ref 195), (@Value.int (84 : Int) 0), (@Value.int (0 : Int) 0), (.ref 235), (@Value.int (100 : Int) 0), (@Value.int (0 : Int) 0), (.ref 282)])) (@List.toArray.{0} (@Option.{0} @Value) (@List.nil.{0} (@Option.{0} @Value)))))
noncomputable def My.o334 : ((x0 : @Params) → @Obj) := (fun (x0 : @Params) => (@Obj.mk (.type "type") none (@Data.cls (@ClassData.mk (.ofString "Way") [(.type "object")] [(.ref 152), (.type "object")] 151 (.ofString "Way") @Bool.true [] [(.ref 187), (.ref 227), (.ref 274), (.ref 307)] @Bool.false (@Option.none.{0} @Bool) @Bool.false)) (@List.toArray.{0} (@Option.{0} @Value) [(@Option.none.{0} @Value), (@Option.none.{0} @Value), (@Option.some.{0} @Value (.str (.ofString "Way") 300)), (@Option.some.{0} @Value (.str (.ofString "Way") 308)), (@Option.some.{0} @Value (.builtin "object.__new__")), (@Option.some.{0} @Value (.bool @Bool.true))])))
noncomputable def My.o332 : ((x0 : @Params) → @Obj) := (fun (x0 : @Params) => (@Obj.mk (.type "dict") none (@Data.dict (List.toArray [(@DictEntry.mk (@PyData.keyHash x0 (.ofString "__name__")) (.str (.ofString "__name__") 165) (.str (.ofString "oddbases.ways") 289)), (@DictEntry.mk (@PyData.keyHash x0 (.ofString "__doc__")) (.str (.ofString "__doc__") 166) .none), (@DictEntry.mk (@PyData.keyHash x0 (.ofString "__package__")) (.str (.ofString "__package__") 167) .none), (@DictEntry.mk (@PyData.keyHash x0 (.ofString "__loader__")) (.str (.ofString "__loader__") 168) (.builtin "__main__.__loader__#opaque")), (@DictEntry.mk (@PyData.keyHash x0 (.ofString "__spec__")) (.str (.ofString "__spec__") 169) .none), (@DictEntry.mk (@PyData.keyHash x0 (.ofString "__annotations__")) (.str (.ofString "__annotations__") 170) (.ref 6)), (@DictEntry.mk (@PyData.keyHash x0 (.ofString "__builtins__")) (.str (.ofString "__builtins__") 171) (.ref 4)), (@DictEntry.mk (@PyData.keyHash x0 (.ofString "__file__")) (.str (.ofString "__file__") 173) (.str (.ofString "/claim/cut.py") 172)), (@DictEntry.mk (@PyData.keyHash x0 (.ofString "__cached__")) (.str (.ofString "__cached__") 174) .none), (@DictEntry.mk (@PyData.keyHash x0 (.ofString "_wall")) (.str (.ofString "_wall") 193) (.ref 21)), (@DictEntry.mk (@PyData.keyHash x0 (.ofString "OddError")) (.str (.ofString "OddError") 213) (.ref 31)), (@DictEntry.mk (@PyData.keyHash x0 (.ofString "NoWay")) (.str (.ofString "NoWay") 229) (.ref 44)), (@DictEntry.mk (@PyData.keyHash x0 (.ofString "NoRatio")) (.str (.ofString "NoRatio") 245) (.ref 56)), (@DictEntry.mk (@PyData.keyHash x0 (.ofString "is_whole")) (.str (.ofString "is_whole") 254) (.ref 65)), (@DictEntry.mk (@PyData.keyHash x0 (.ofString "is_pair")) (.str (.ofString "is_pair") 261) (.ref 72)), (@DictEntry.mk (@PyData.keyHash x0 (.ofString "as_pair")) (.str (.ofString "as_pair") 268) (.ref 79)), (@DictEntry.mk (@PyData.keyHash x0 (.ofString "added")) (.str (.ofString "added") 278) (.ref 86)), (@DictEntry.mk (@PyData.keyHash x0 (.ofString "multiplied")) (.str (.ofString "multiplied") 288) (.ref 93)), (@DictEntry.mk (@PyData.keyHash x0 (.ofString "bounded")) (.str (.ofString "bounded") 299) (.ref 100)), (@DictEntry.mk (@PyData.keyHash x0 (.ofString "Way")) (.str (.ofString "Way") 370) (.ref 152)), (@DictEntry.mk (@PyData.keyHash x0 (.ofString "Plain")) (.str (.ofString "Plain") 411) (.ref 187)), (@DictEntry.mk (@PyData.keyHash x0 (.ofString "Below")) (.str (.ofString "Below") 460) (.ref 227)), (@DictEntry.mk (@PyData.keyHash x0 (.ofString "Balanced")) (.str (.ofString "Balanced") 517) (.ref 274)), (@DictEntry.mk (@PyData.keyHash x0 (.ofString "Growing")) (.str (.ofString "Growing") 558) (.ref 307))]) 24) (@List.toArray.{0} (@Option.{0} @Value) (@List.nil.{0} (@Option.{0} @Value)))))
noncomputable def My.o283 : ((x0 : @Params) → @Obj) := (fun (x0 : @Params) => (@Obj.mk .none none (@Data.fields (List.toArray [(@Value.int (1 : Int) 0), (@Value.int (0 : Int) 0), (.ref 20), (@Value.int (5 : Int) 0), (@Value.int (0 : Int) 0), (.ref 27), (@Value.int (7 : Int) 0), (@Value.int (0 : Int) 0), (.ref 40), (@Value.int (9 : Int) 0), (@Value.int (0 : Int) 0), (.ref 52), (@Value.int (12 : Int) 0), (@Value.int (0 : Int) 0), (.ref 64), (@Value.int (14 : Int) 0), (@Value.int (0 : Int) 0), (.ref 71), (@Value.int (16 : Int) 0), (@Value.int (0 : Int) 0), (.ref 78), (@Value.int (20 : Int) 0), (@Value.int (0 : Int) 0), (.ref 85), (@Value.int (26 : Int) 0), (@Value.int (0 : Int) 0), (.ref 92), (@Value.int (33 : Int) 0), (@Value.int (0 : Int) 0), (.ref 99), (@Value.int (37 : Int) 0), (@Value.int (0 : Int) 0), (.ref 106), (@Value.int (61 : Int) 0), (@Value.int (0 : Int) 0), (.ref 162), (@Value.int (71 : Int) 0), (@Value.int (0 : Int) 0), (.ref 195), (@Value.int (84 : Int) 0), (@Value.int (0 : Int) 0), (.ref 235)])) (@List.toArray.{0} (@Option.{0} @Value) (@List.nil.{0} (@Option.{0} @Value)))))
noncomputable def My.o284 : ((x0 : @Params) → @Obj) := (fun (x0 : @Params) => (@Obj.mk (.type "type") none (@Data.cls (@ClassData.mk (.ofString "Way") [(.type "object")] [(.ref 152), (.type "object")] 151 (.ofString "Way") @Bool.true [] [(.ref 187), (.ref 227), (.ref 274)] @Bool.false (@Option.none.{0} @Bool) @Bool.false)) (@List.toArray.{0} (@Option.{0} @Value) [(@Option.none.{0} @Value), (@Option.none.{0} @Value), (@Option.some.{0} @Value (.str (.ofString "Way") 300)), (@Option.some.{0} @Value (.str (.ofString "Way") 308)), (@Option.some.{0} @Value (.builtin "object.__new__")), (@Option.some.{0} @Value (.bool @Bool.true))])))
noncomputable def My.o282 : ((x0 : @Params) → @Obj) := (fun (x0 : @Params) => (@Obj.mk (.type "dict") none (@Data.dict (List.toArray [(@DictEntry.mk (@PyData.keyHash x0 (.ofString "__name__")) (.str (.ofString "__name__") 165) (.str (.ofString "oddbases.ways") 289)), (@DictEntry.mk (@PyData.keyHash x0 (.ofString "__doc__")) (.str (.ofString "__doc__") 166) .none), (@DictEntry.mk (@PyData.keyHash x0 (.ofString "__package__")) (.str (.ofString "__package__") 167) .none), (@DictEntry.mk (@PyData.keyHash x0 (.ofString "__loader__")) (.str (.ofString "__loader__") 168) (.builtin "__main__.__loader__#opaque")), (@DictEntry.mk (@PyData.keyHash x0 (.ofString "__spec__")) (.str (.ofString "__spec__") 169) .none), (@DictEntry.mk (@PyData.keyHash x0 (.ofString "__annotations__")) (.str (.ofString "__annotations__") 170) (.ref 6)), (@DictEntry.mk (@PyData.keyHash x0 (.ofString "__builtins__")) (.str (.ofString "__builtins__") 171) (.ref 4)), (@DictEntry.mk (@PyData.keyHash x0 (.ofString "__file__")) (.str (.ofString "__file__") 173) (.str (.ofString "/claim/cut.py") 172)), (@DictEntry.mk (@PyData.keyHash x0 (.ofString "__cached__")) (.str (.ofString "__cached__") 174) .none), (@DictEntry.mk (@PyData.keyHash x0 (.ofString "_wall")) (.str (.ofString "_wall") 193) (.ref 21)), (@DictEntry.mk (@PyData.keyHash x0 (.ofString "OddError")) (.str (.ofString "OddError") 213) (.ref 31)), (@DictEntry.mk (@PyData.keyHash x0 (.ofString "NoWay")) (.str (.ofString "NoWay") 229) (.ref 44)), (@DictEntry.mk (@PyData.keyHash x0 (.ofString "NoRatio")) (.str (.ofString "NoRatio") 245) (.ref 56)), (@DictEntry.mk (@PyData.keyHash x0 (.ofString "is_whole")) (.str (.ofString "is_whole") 254) (.ref 65)), (@DictEntry.mk (@PyData.keyHash x0 (.ofString "is_pair")) (.str (.ofString "is_pair") 261) (.ref 72)), (@DictEntry.mk (@PyData.keyHash x0 (.ofString "as_pair")) (.str (.ofString "as_pair") 268) (.ref 79)), (@DictEntry.mk (@PyData.keyHash x0 (.ofString "added")) (.str (.ofString "added") 278) (.ref 86)), (@DictEntry.mk (@PyData.keyHash x0 (.ofString "multiplied")) (.str (.ofString "multiplied") 288) (.ref 93)), (@DictEntry.mk (@PyData.keyHash x0 (.ofString "bounded")) (.str (.ofString "bounded") 299) (.ref 100)), (@DictEntry.mk (@PyData.keyHash x0 (.ofString "Way")) (.str (.ofString "Way") 370) (.ref 152)), (@DictEntry.mk (@PyData.keyHash x0 (.ofString "Plain")) (.str (.ofString "Plain") 411) (.ref 187)), (@DictEntry.mk (@PyData.keyHash x0 (.ofString "Below")) (.str (.ofString "Below") 460) (.ref 227)), (@DictEntry.mk (@PyData.keyHash x0 (.ofString "Balanced")) (.str (.ofString "Balanced") 517) (.ref 274))]) 23) (@List.toArray.{0} (@Option.{0} @Value) (@List.nil.{0} (@Option.{0} @Value)))))
noncomputable def My.o240 : ((x0 : @Params) → @Obj) := (fun (x0 : @Params) => (@Obj.mk .none none (@Data.fields (List.toArray [(@Value.int (1 : Int) 0), (@Value.int (0 : Int) 0), (.ref 20), (@Value.int (5 : Int) 0), (@Value.int (0 : Int) 0), (.ref 27), (@Value.int (7 : Int) 0), (@Value.int (0 : Int) 0), (.ref 40), (@Value.int (9 : Int) 0), (@Value.int (0 : Int) 0), (.ref 52), (@Value.int (12 : Int) 0), (@Value.int (0 : Int) 0), (.ref 64), (@Value.int (14 : Int) 0), (@Value.int (0 : Int) 0), (.ref 71), (@Value.int (16 : Int) 0), (@Value.int (0 : Int) 0), (.ref 78), (@Value.int (20 : Int) 0), (@Value.int (0 : Int) 0), (.ref 85), (@Value.int (26 : Int) 0), (@Value.int (0 : Int) 0), (.ref 92), (@Value.int (33 : Int) 0), (@Value.int (0 : Int) 0), (.ref 99), (@Value.int (37 : Int) 0), (@Value.int (0 : Int) 0), (.ref 106), (@Value.int (61 : Int) 0), (@Value.int (0 : Int) 0), (.ref 162), (@Value.int (71 : Int) 0), (@Value.int (0 : Int) 0), (.ref 195)])) (@List.toArray.{0} (@Option.{0} @Value) (@List.nil.{0} (@Option.{0} @Value)))))
noncomputable def My.o241 : ((x0 : @Params) → @Obj) := (fun (x0 : @Params) => (@Obj.mk (.type "type") none (@Data.cls (@ClassData.mk (.ofString "Way") [(.type "object")] [(.ref 152), (.type "object")] 151 (.ofString "Way") @Bool.true [] [(.ref 187), (.ref 227)] @Bool.false (@Option.none.{0} @Bool) @Bool.false)) (@List.toArray.{0} (@Option.{0} @Value) [(@Option.none.{0} @Value), (@Option.none.{0} @Value), (@Option.some.{0} @Value (.str (.ofString "Way") 300)), (@Option.some.{0} @Value (.str (.ofString "Way") 308)), (@Option.some.{0} @Value (.builtin "object.__new__")), (@Option.some.{0} @Value (.bool @Bool.true))])))
noncomputable def My.o239 : ((x0 : @Params) → @Obj) := (fun (x0 : @Params) => (@Obj.mk (.type "dict") none (@Data.dict (List.toArray [(@DictEntry.mk (@PyData.keyHash x0 (.ofString "__name__")) (.str (.ofString "__name__") 165) (.str (.ofString "oddbases.ways") 289)), (@DictEntry.mk (@PyData.keyHash x0 (.ofString "__doc__")) (.str (.ofString "__doc__") 166) .none), (@DictEntry.mk (@PyData.keyHash x0 (.ofString "__package__")) (.str (.ofString "__package__") 167) .none), (@DictEntry.mk (@PyData.keyHash x0 (.ofString "__loader__")) (.str (.ofString "__loader__") 168) (.builtin "__main__.__loader__#opaque")), (@DictEntry.mk (@PyData.keyHash x0 (.ofString "__spec__")) (.str (.ofString "__spec__") 169) .none), (@DictEntry.mk (@PyData.keyHash x0 (.ofString "__annotations__")) (.str (.ofString "__annotations__") 170) (.ref 6)), (@DictEntry.mk (@PyData.keyHash x0 (.ofString "__builtins__")) (.str (.ofString "__builtins__") 171) (.ref 4)), (@DictEntry.mk (@PyData.keyHash x0 (.ofString "__file__")) (.str (.ofString "__file__") 173) (.str (.ofString "/claim/cut.py") 172)), (@DictEntry.mk (@PyData.keyHash x0 (.ofString "__cached__")) (.str (.ofString "__cached__") 174) .none), (@DictEntry.mk (@PyData.keyHash x0 (.ofString "_wall")) (.str (.ofString "_wall") 193) (.ref 21)), (@DictEntry.mk (@PyData.keyHash x0 (.ofString "OddError")) (.str (.ofString "OddError") 213) (.ref 31)), (@DictEntry.mk (@PyData.keyHash x0 (.ofString "NoWay")) (.str (.ofString "NoWay") 229) (.ref 44)), (@DictEntry.mk (@PyData.keyHash x0 (.ofString "NoRatio")) (.str (.ofString "NoRatio") 245) (.ref 56)), (@DictEntry.mk (@PyData.keyHash x0 (.ofString "is_whole")) (.str (.ofString "is_whole") 254) (.ref 65)), (@DictEntry.mk (@PyData.keyHash x0 (.ofString "is_pair")) (.str (.ofString "is_pair") 261) (.ref 72)), (@DictEntry.mk (@PyData.keyHash x0 (.ofString "as_pair")) (.str (.ofString "as_pair") 268) (.ref 79)), (@DictEntry.mk (@PyData.keyHash x0 (.ofString "added")) (.str (.ofString "added") 278) (.ref 86)), (@DictEntry.mk (@PyData.keyHash x0 (.ofString "multiplied")) (.str (.ofString "multiplied") 288) (.ref 93)), (@DictEntry.mk (@PyData.keyHash x0 (.ofString "bounded")) (.str (.ofString "bounded") 299) (.ref 100)), (@DictEntry.mk (@PyData.keyHash x0 (.ofString "Way")) (.str (.ofString "Way") 370) (.ref 152)), (@DictEntry.mk (@PyData.keyHash x0 (.ofString "Plain")) (.str (.ofString "Plain") 411) (.ref 187)), (@DictEntry.mk (@PyData.keyHash x0 (.ofString "Below")) (.str (.ofString "Below") 460) (.ref 227))]) 22) (@List.toArray.{0} (@Option.{0} @Value) (@List.nil.{0} (@Option.{0} @Value)))))
noncomputable def My.o204 : ((x0 : @Params) → @Obj) := (fun (x0 : @Params) => (@Obj.mk .none none (@Data.fields (List.toArray [(@Value.int (1 : Int) 0), (@Value.int (0 : Int) 0), (.ref 20), (@Value.int (5 : Int) 0), (@Value.int (0 : Int) 0), (.ref 27), (@Value.int (7 : Int) 0), (@Value.int (0 : Int) 0), (.ref 40), (@Value.int (9 : Int) 0), (@Value.int (0 : Int) 0), (.ref 52), (@Value.int (12 : Int) 0), (@Value.int (0 : Int) 0), (.ref 64), (@Value.int (14 : Int) 0), (@Value.int (0 : Int) 0), (.ref 71), (@Value.int (16 : Int) 0), (@Value.int (0 : Int) 0), (.ref 78), (@Value.int (20 : Int) 0), (@Value.int (0 : Int) 0), (.ref 85), (@Value.int (26 : Int) 0), (@Value.int (0 : Int) 0), (.ref 92), (@Value.int (33 : Int) 0), (@Value.int (0 : Int) 0), (.ref 99), (@Value.int (37 : Int) 0), (@Value.int (0 : Int) 0), (.ref 106), (@Value.int (61 : Int) 0), (@Value.int (0 : Int) 0), (.ref 162)])) (@List.toArray.{0} (@Option.{0} @Value) (@List.nil.{0} (@Option.{0} @Value)))))
noncomputable def My.o205 : ((x0 : @Params) → @Obj) := (fun (x0 : @Params) => (@Obj.mk (.type "type") none (@Data.cls (@ClassData.mk (.ofString "Way") [(.type "object")] [(.ref 152), (.type "object")] 151 (.ofString "Way") @Bool.true [] [(.ref 187)] @Bool.false (@Option.none.{0} @Bool) @Bool.false)) (@List.toArray.{0} (@Option.{0} @Value) [(@Option.none.{0} @Value), (@Option.none.{0} @Value), (@Option.some.{0} @Value (.str (.ofString "Way") 300)), (@Option.some.{0} @Value (.str (.ofString "Way") 308)), (@Option.some.{0} @Value (.builtin "object.__new__")), (@Option.some.{0} @Value (.bool @Bool.true))])))
noncomputable def My.o203 : ((x0 : @Params) → @Obj) := (fun (x0 : @Params) => (@Obj.mk (.type "dict") none (@Data.dict (List.toArray [(@DictEntry.mk (@PyData.keyHash x0 (.ofString "__name__")) (.str (.ofString "__name__") 165) (.str (.ofString "oddbases.ways") 289)), (@DictEntry.mk (@PyData.keyHash x0 (.ofString "__doc__")) (.str (.ofString "__doc__") 166) .none), (@DictEntry.mk (@PyData.keyHash x0 (.ofString "__package__")) (.str (.ofString "__package__") 167) .none), (@DictEntry.mk (@PyData.keyHash x0 (.ofString "__loader__")) (.str (.ofString "__loader__") 168) (.builtin "__main__.__loader__#opaque")), (@DictEntry.mk (@PyData.keyHash x0 (.ofString "__spec__")) (.str (.ofString "__spec__") 169) .none), (@DictEntry.mk (@PyData.keyHash x0 (.ofString "__annotations__")) (.str (.ofString "__annotations__") 170) (.ref 6)), (@DictEntry.mk (@PyData.keyHash x0 (.ofString "__builtins__")) (.str (.ofString "__builtins__") 171) (.ref 4)), (@DictEntry.mk (@PyData.keyHash x0 (.ofString "__file__")) (.str (.ofString "__file__") 173) (.str (.ofString "/claim/cut.py") 172)), (@DictEntry.mk (@PyData.keyHash x0 (.ofString "__cached__")) (.str (.ofString "__cached__") 174) .none), (@DictEntry.mk (@PyData.keyHash x0 (.ofString "_wall")) (.str (.ofString "_wall") 193) (.ref 21)), (@DictEntry.mk (@PyData.keyHash x0 (.ofString "OddError")) (.str (.ofString "OddError") 213) (.ref 31)), (@DictEntry.mk (@PyData.keyHash x0 (.ofString "NoWay")) (.str (.ofString "NoWay") 229) (.ref 44)), (@DictEntry.mk (@PyData.keyHash x0 (.ofString "NoRatio")) (.str (.ofString "NoRatio") 245) (.ref 56)), (@DictEntry.mk (@PyData.keyHash x0 (.ofString "is_whole")) (.str (.ofString "is_whole") 254) (.ref 65)), (@DictEntry.mk (@PyData.keyHash x0 (.ofString "is_pair")) (.str (.ofString "is_pair") 261) (.ref 72)), (@DictEntry.mk (@PyData.keyHash x0 (.ofString "as_pair")) (.str (.ofString "as_pair") 268) (.ref 79)), (@DictEntry.mk (@PyData.keyHash x0 (.ofString "added")) (.str (.ofString "added") 278) (.ref 86)), (@DictEntry.mk (@PyData.keyHash x0 (.ofString "multiplied")) (.str (.ofString "multiplied") 288) (.ref 93)), (@DictEntry.mk (@PyData.keyHash x0 (.ofString "bounded")) (.str (.ofString "bounded") 299) (.ref 100)), (@DictEntry.mk (@PyData.keyHash x0 (.ofString "Way")) (.str (.ofString "Way") 370) (.ref 152)), (@DictEntry.mk (@PyData.keyHash x0 (.ofString "Plain")) (.str (.ofString "Plain") 411) (.ref 187))]) 21) (@List.toArray.{0} (@Option.{0} @Value) (@List.nil.{0} (@Option.{0} @Value)))))
noncomputable def My.o146 : ((x0 : @Params) → @Obj) := (fun (x0 : @Params) => (@Obj.mk .none none (@Data.fields (List.toArray [(@Value.int (1 : Int) 0), (@Value.int (0 : Int) 0), (.ref 20), (@Value.int (5 : Int) 0), (@Value.int (0 : Int) 0), (.ref 27), (@Value.int (7 : Int) 0), (@Value.int (0 : Int) 0), (.ref 40), (@Value.int (9 : Int) 0), (@Value.int (0 : Int) 0), (.ref 52), (@Value.int (12 : Int) 0), (@Value.int (0 : Int) 0), (.ref 64), (@Value.int (14 : Int) 0), (@Value.int (0 : Int) 0), (.ref 71), (@Value.int (16 : Int) 0), (@Value.int (0 : Int) 0), (.ref 78), (@Value.int (20 : Int) 0), (@Value.int (0 : Int) 0), (.ref 85), (@Value.int (26 : Int) 0), (@Value.int (0 : Int) 0), (.ref 92), (@Value.int (33 : Int) 0), (@Value.int (0 : Int) 0), (.ref 99), (@Value.int (37 : Int) 0), (@Value.int (0 : Int) 0), (.ref 106)])) (@List.toArray.{0} (@Option.{0} @Value) (@List.nil.{0} (@Option.{0} @Value)))))
noncomputable def My.o198 : ((x0 : @Params) → @Obj) := (fun (x0 : @Params) => (@Obj.mk (.type "type") none (@Data.cls (@ClassData.mk (.ofString "Way") [(.type "object")] [(.ref 152), (.type "object")] 151 (.ofString "Way") @Bool.true [] [] @Bool.false (@Option.none.{0} @Bool) @Bool.false)) (@List.toArray.{0} (@Option.{0} @Value) [(@Option.none.{0} @Value), (@Option.none.{0} @Value), (@Option.some.{0} @Value (.str (.ofString "Way") 300)), (@Option.some.{0} @Value (.str (.ofString "Way") 308)), (@Option.some.{0} @Value (.builtin "object.__new__")), (@Option.some.{0} @Value (.bool @Bool.true))])))
noncomputable def My.o145 : ((x0 : @Params) → @Obj) := (fun (x0 : @Params) => (@Obj.mk (.type "dict") none (@Data.dict (List.toArray [(@DictEntry.mk (@PyData.keyHash x0 (.ofString "__name__")) (.str (.ofString "__name__") 165) (.str (.ofString "oddbases.ways") 289)), (@DictEntry.mk (@PyData.keyHash x0 (.ofString "__doc__")) (.str (.ofString "__doc__") 166) .none), (@DictEntry.mk (@PyData.keyHash x0 (.ofString "__package__")) (.str (.ofString "__package__") 167) .none), (@DictEntry.mk (@PyData.keyHash x0 (.ofString "__loader__")) (.str (.ofString "__loader__") 168) (.builtin "__main__.__loader__#opaque")), (@DictEntry.mk (@PyData.keyHash x0 (.ofString "__spec__")) (.str (.ofString "__spec__") 169) .none), (@DictEntry.mk (@PyData.keyHash x0 (.ofString "__annotations__")) (.str (.ofString "__annotations__") 170) (.ref 6)), (@DictEntry.mk (@PyData.keyHash x0 (.ofString "__builtins__")) (.str (.ofString "__builtins__") 171) (.ref 4)), (@DictEntry.mk (@PyData.keyHash x0 (.ofString "__file__")) (.str (.ofString "__file__") 173) (.str (.ofString "/claim/cut.py") 172)), (@DictEntry.mk (@PyData.keyHash x0 (.ofString "__cached__")) (.str (.ofString "__cached__") 174) .none), (@DictEntry.mk (@PyData.keyHash x0 (.ofString "_wall")) (.str (.ofString "_wall") 193) (.ref 21)), (@DictEntry.mk (@PyData.keyHash x0 (.ofString "OddError")) (.str (.ofString "OddError") 213) (.ref 31)), (@DictEntry.mk (@PyData.keyHash x0 (.ofString "NoWay")) (.str (.ofString "NoWay") 229) (.ref 44)), (@DictEntry.mk (@PyData.keyHash x0 (.ofString "NoRatio")) (.str (.ofString "NoRatio") 245) (.ref 56)), (@DictEntry.mk (@PyData.keyHash x0 (.ofString "is_whole")) (.str (.ofString "is_whole") 254) (.ref 65)), (@DictEntry.mk (@PyData.keyHash x0 (.ofString "is_pair")) (.str (.ofString "is_pair") 261) (.ref 72)), (@DictEntry.mk (@PyData.keyHash x0 (.ofString "as_pair")) (.str (.ofString "as_pair") 268) (.ref 79)), (@DictEntry.mk (@PyData.keyHash x0 (.ofString "added")) (.str (.ofString "added") 278) (.ref 86)), (@DictEntry.mk (@PyData.keyHash x0 (.ofString "multiplied")) (.str (.ofString "multiplied") 288) (.ref 93)), (@DictEntry.mk (@PyData.keyHash x0 (.ofString "bounded")) (.str (.ofString "bounded") 299) (.ref 100)), (@DictEntry.mk (@PyData.keyHash x0 (.ofString "Way")) (.str (.ofString "Way") 370) (.ref 152))]) 20) (@List.toArray.{0} (@Option.{0} @Value) (@List.nil.{0} (@Option.{0} @Value)))))
noncomputable def My.o137 : ((x0 : @Params) → @Obj) := (fun (x0 : @Params) => (@Obj.mk .none none (@Data.fields (List.toArray [(@Value.int (1 : Int) 0), (@Value.int (0 : Int) 0), (.ref 20), (@Value.int (5 : Int) 0), (@Value.int (0 : Int) 0), (.ref 27), (@Value.int (7 : Int) 0), (@Value.int (0 : Int) 0), (.ref 40), (@Value.int (9 : Int) 0), (@Value.int (0 : Int) 0), (.ref 52), (@Value.int (12 : Int) 0), (@Value.int (0 : Int) 0), (.ref 64), (@Value.int (14 : Int) 0), (@Value.int (0 : Int) 0), (.ref 71), (@Value.int (16 : Int) 0), (@Value.int (0 : Int) 0), (.ref 78), (@Value.int (20 : Int) 0), (@Value.int (0 : Int) 0), (.ref 85), (@Value.int (26 : Int) 0), (@Value.int (0 : Int) 0), (.ref 92), (@Value.int (33 : Int) 0), (@Value.int (0 : Int) 0), (.ref 99)])) (@List.toArray.{0} (@Option.{0} @Value) (@List.nil.{0} (@Option.{0} @Value)))))
noncomputable def My.o136 : ((x0 : @Params) → @Obj) := (fun (x0 : @Params) => (@Obj.mk (.type "dict") none (@Data.dict (List.toArray [(@DictEntry.mk (@PyData.keyHash x0 (.ofString "__name__")) (.str (.ofString "__name__") 165) (.str (.ofString "oddbases.ways") 289)), (@DictEntry.mk (@PyData.keyHash x0 (.ofString "__doc__")) (.str (.ofString "__doc__") 166) .none), (@DictEntry.mk (@PyData.keyHash x0 (.ofString "__package__")) (.str (.ofString "__package__") 167) .none), (@DictEntry.mk (@PyData.keyHash x0 (.ofString "__loader__")) (.str (.ofString "__loader__") 168) (.builtin "__main__.__loader__#opaque")), (@DictEntry.mk (@PyData.keyHash x0 (.ofString "__spec__")) (.str (.ofString "__spec__") 169) .none), (@DictEntry.mk (@PyData.keyHash x0 (.ofString "__annotations__")) (.str (.ofString "__annotations__") 170) (.ref 6)), (@DictEntry.mk (@PyData.keyHash x0 (.ofString "__builtins__")) (.str (.ofString "__builtins__") 171) (.ref 4)), (@DictEntry.mk (@PyData.keyHash x0 (.ofString "__file__")) (.str (.ofString "__file__") 173) (.str (.ofString "/claim/cut.py") 172)), (@DictEntry.mk (@PyData.keyHash x0 (.ofString "__cached__")) (.str (.ofString "__cached__") 174) .none), (@DictEntry.mk (@PyData.keyHash x0 (.ofString "_wall")) (.str (.ofString "_wall") 193) (.ref 21)), (@DictEntry.mk (@PyData.keyHash x0 (.ofString "OddError")) (.str (.ofString "OddError") 213) (.ref 31)), (@DictEntry.mk (@PyData.keyHash x0 (.ofString "NoWay")) (.str (.ofString "NoWay") 229) (.ref 44)), (@DictEntry.mk (@PyData.keyHash x0 (.ofString "NoRatio")) (.str (.ofString "NoRatio") 245) (.ref 56)), (@DictEntry.mk (@PyData.keyHash x0 (.ofString "is_whole")) (.str (.ofString "is_whole") 254) (.ref 65)), (@DictEntry.mk (@PyData.keyHash x0 (.ofString "is_pair")) (.str (.ofString "is_pair") 261) (.ref 72)), (@DictEntry.mk (@PyData.keyHash x0 (.ofString "as_pair")) (.str (.ofString "as_pair") 268) (.ref 79)), (@DictEntry.mk (@PyData.keyHash x0 (.ofString "added")) (.str (.ofString "added") 278) (.ref 86)), (@DictEntry.mk (@PyData.keyHash x0 (.ofString "multiplied")) (.str (.ofString "multiplied") 288) (.ref 93)), (@DictEntry.mk (@PyData.keyHash x0 (.ofString "bounded")) (.str (.ofString "bounded") 299) (.ref 100))]) 19) (@List.toArray.{0} (@Option.{0} @Value) (@List.nil.{0} (@Option.{0} @Value)))))
noncomputable def My.o87 : ((x0 : @Params) → @Obj) := (fun (x0 : @Params) => (@Obj.mk .none none (@Data.fields (List.toArray [(@Value.int (1 : Int) 0), (@Value.int (0 : Int) 0), (.ref 20), (@Value.int (5 : Int) 0), (@Value.int (0 : Int) 0), (.ref 27), (@Value.int (7 : Int) 0), (@Value.int (0 : Int) 0), (.ref 40), (@Value.int (9 : Int) 0), (@Value.int (0 : Int) 0), (.ref 52), (@Value.int (12 : Int) 0), (@Value.int (0 : Int) 0), (.ref 64), (@Value.int (14 : Int) 0), (@Value.int (0 : Int) 0), (.ref 71), (@Value.int (16 : Int) 0), (@Value.int (0 : Int) 0), (.ref 78), (@Value.int (20 : Int) 0), (@Value.int (0 : Int) 0), (.ref 85), (@Value.int (26 : Int) 0), (@Value.int (0 : Int) 0), (.ref 92)])) (@List.toArray.{0} (@Option.{0} @Value) (@List.nil.{0} (@Option.{0} @Value)))))
noncomputable def My.o86 : ((x0 : @Params) → @Obj) := (fun (x0 : @Params) => (@Obj.mk (.type "dict") none (@Data.dict (List.toArray [(@DictEntry.mk (@PyData.keyHash x0 (.ofString "__name__")) (.str (.ofString "__name__") 165) (.str (.ofString "oddbases.ways") 289)), (@DictEntry.mk (@PyData.keyHash x0 (.ofString "__doc__")) (.str (.ofString "__doc__") 166) .none), (@DictEntry.mk (@PyData.keyHash x0 (.ofString "__package__")) (.str (.ofString "__package__") 167) .none), (@DictEntry.mk (@PyData.keyHash x0 (.ofString "__loader__")) (.str (.ofString "__loader__") 168) (.builtin "__main__.__loader__#opaque")), (@DictEntry.mk (@PyData.keyHash x0 (.ofString "__spec__")) (.str (.ofString "__spec__") 169) .none), (@DictEntry.mk (@PyData.keyHash x0 (.ofString "__annotations__")) (.str (.ofString "__annotations__") 170) (.ref 6)), (@DictEntry.mk (@PyData.keyHash x0 (.ofString "__builtins__")) (.str (.ofString "__builtins__") 171) (.ref 4)), (@DictEntry.mk (@PyData.keyHash x0 (.ofString "__file__")) (.str (.ofString "__file__") 173) (.str (.ofString "/claim/cut.py") 172)), (@DictEntry.mk (@PyData.keyHash x0 (.ofString "__cached__")) (.str (.ofString "__cached__") 174) .none), (@DictEntry.mk (@PyData.keyHash x0 (.ofString "_wall")) (.str (.ofString "_wall") 193) (.ref 21)), (@DictEntry.mk (@PyData.keyHash x0 (.ofString "OddError")) (.str (.ofString "OddError") 213) (.ref 31)), (@DictEntry.mk (@PyData.keyHash x0 (.ofString "NoWay")) (.str (.ofString "NoWay") 229) (.ref 44)), (@DictEntry.mk (@PyData.keyHash x0 (.ofString "NoRatio")) (.str (.ofString "NoRatio") 245) (.ref 56)), (@DictEntry.mk (@PyData.keyHash x0 (.ofString "is_whole")) (.str (.ofString "is_whole") 254) (.ref 65)), (@DictEntry.mk (@PyData.keyHash x0 (.ofString "is_pair")) (.str (.ofString "is_pair") 261) (.ref 72)), (@DictEntry.mk (@PyData.keyHash x0 (.ofString "as_pair")) (.str (.ofString "as_pair") 268) (.ref 79)), (@DictEntry.mk (@PyData.keyHash x0 (.ofString "added")) (.str (.ofString "added") 278) (.ref 86)), (@DictEntry.mk (@PyData.keyHash x0 (.ofString "multiplied")) (.str (.ofString "multiplied") 288) (.ref 93))]) 18) (@List.toArray.{0} (@Option.{0} @Value) (@List.nil.{0} (@Option.{0} @Value)))))
noncomputable def My.o72 : ((x0 : @Params) → @Obj) := (fun (x0 : @Params) => (@Obj.mk .none none (@Data.fields (List.toArray [(@Value.int (1 : Int) 0), (@Value.int (0 : Int) 0), (.ref 20), (@Value.int (5 : Int) 0), (@Value.int (0 : Int) 0), (.ref 27), (@Value.int (7 : Int) 0), (@Value.int (0 : Int) 0), (.ref 40)])) (@List.toArray.{0} (@Option.{0} @Value) (@List.nil.{0} (@Option.{0} @Value)))))
noncomputable def My.o73 : ((x0 : @Params) → @Obj) := (fun (x0 : @Params) => (@Obj.mk (.type "type") none (@Data.cls (@ClassData.mk (.ofString "OddError") [(.type "ValueError")] [(.ref 31), (.type "ValueError"), (.type "Exception"), (.type "BaseException"), (.type "object")] 30 (.ofString "OddError") @Bool.true [] [(.ref 44)] @Bool.false (@Option.none.{0} @Bool) @Bool.false)) (@List.toArray.{0} (@Option.{0} @Value) [(@Option.some.{0} @Value (.ref 22)), (@Option.none.{0} @Value), (@Option.some.{0} @Value (.str (.ofString "OddError") 196)), (@Option.some.{0} @Value (.str (.ofString "OddError") 204)), (@Option.some.{0} @Value (.builtin "ValueError.__new__")), (@Option.some.{0} @Value (.bool @Bool.true))])))
noncomputable def My.o71 : ((x0 : @Params) → @Obj) := (fun (x0 : @Params) => (@Obj.mk (.type "dict") none (@Data.dict (List.toArray [(@DictEntry.mk (@PyData.keyHash x0 (.ofString "__name__")) (.str (.ofString "__name__") 165) (.str (.ofString "oddbases.errors") 194)), (@DictEntry.mk (@PyData.keyHash x0 (.ofString "__doc__")) (.str (.ofString "__doc__") 166) .none), (@DictEntry.mk (@PyData.keyHash x0 (.ofString "__package__")) (.str (.ofString "__package__") 167) .none), (@DictEntry.mk (@PyData.keyHash x0 (.ofString "__loader__")) (.str (.ofString "__loader__") 168) (.builtin "__main__.__loader__#opaque")), (@DictEntry.mk (@PyData.keyHash x0 (.ofString "__spec__")) (.str (.ofString "__spec__") 169) .none), (@DictEntry.mk (@PyData.keyHash x0 (.ofString "__annotations__")) (.str (.ofString "__annotations__") 170) (.ref 6)), (@DictEntry.mk (@PyData.keyHash x0 (.ofString "__builtins__")) (.str (.ofString "__builtins__") 171) (.ref 4)), (@DictEntry.mk (@PyData.keyHash x0 (.ofString "__file__")) (.str (.ofString "__file__") 173) (.str (.ofString "/claim/cut.py") 172)), (@DictEntry.mk (@PyData.keyHash x0 (.ofString "__cached__")) (.str (.ofString "__cached__") 174) .none), (@DictEntry.mk (@PyData.keyHash x0 (.ofString "_wall")) (.str (.ofString "_wall") 193) (.ref 21)), (@DictEntry.mk (@PyData.keyHash x0 (.ofString "OddError")) (.str (.ofString "OddError") 213) (.ref 31)), (@DictEntry.mk (@PyData.keyHash x0 (.ofString "NoWay")) (.str (.ofString "NoWay") 229) (.ref 44))]) 12) (@List.toArray.{0} (@Option.{0} @Value) (@List.nil.{0} (@Option.{0} @Value)))))
noncomputable def My.o50 : ((x0 : @Params) → @Obj) := (fun (x0 : @Params) => (@Obj.mk .none none (@Data.fields (List.toArray [(@Value.int (1 : Int) 0), (@Value.int (0 : Int) 0), (.ref 20), (@Value.int (5 : Int) 0), (@Value.int (0 : Int) 0), (.ref 27)])) (@List.toArray.{0} (@Option.{0} @Value) (@List.nil.{0} (@Option.{0} @Value)))))
noncomputable def My.o67 : ((x0 : @Params) → @Obj) := (fun (x0 : @Params) => (@Obj.mk (.type "type") none (@Data.cls (@ClassData.mk (.ofString "OddError") [(.type "ValueError")] [(.ref 31), (.type "ValueError"), (.type "Exception"), (.type "BaseException"), (.type "object")] 30 (.ofString "OddError") @Bool.true [] [] @Bool.false (@Option.none.{0} @Bool) @Bool.false)) (@List.toArray.{0} (@Option.{0} @Value) [(@Option.some.{0} @Value (.ref 22)), (@Option.none.{0} @Value), (@Option.some.{0} @Value (.str (.ofString "OddError") 196)), (@Option.some.{0} @Value (.str (.ofString "OddError") 204)), (@Option.some.{0} @Value (.builtin "ValueError.__new__")), (@Option.some.{0} @Value (.bool @Bool.true))])))
noncomputable def My.o49 : ((x0 : @Params) → @Obj) := (fun (x0 : @Params) => (@Obj.mk (.type "dict") none (@Data.dict (List.toArray [(@DictEntry.mk (@PyData.keyHash x0 (.ofString "__name__")) (.str (.ofString "__name__") 165) (.str (.ofString "oddbases.errors") 194)), (@DictEntry.mk (@PyData.keyHash x0 (.ofString "__doc__")) (.str (.ofString "__doc__") 166) .none), (@DictEntry.mk (@PyData.keyHash x0 (.ofString "__package__")) (.str (.ofString "__package__") 167) .none), (@DictEntry.mk (@PyData.keyHash x0 (.ofString "__loader__")) (.str (.ofString "__loader__") 168) (.builtin "__main__.__loader__#opaque")), (@DictEntry.mk (@PyData.keyHash x0 (.ofString "__spec__")) (.str (.ofString "__spec__") 169) .none), (@DictEntry.mk (@PyData.keyHash x0 (.ofString "__annotations__")) (.str (.ofString "__annotations__") 170) (.ref 6)), (@DictEntry.mk (@PyData.keyHash x0 (.ofString "__builtins__")) (.str (.ofString "__builtins__") 171) (.ref 4)), (@DictEntry.mk (@PyData.keyHash x0 (.ofString "__file__")) (.str (.ofString "__file__") 173) (.str (.ofString "/claim/cut.py") 172)), (@DictEntry.mk (@PyData.keyHash x0 (.ofString "__cached__")) (.str (.ofString "__cached__") 174) .none), (@DictEntry.mk (@PyData.keyHash x0 (.ofString "_wall")) (.str (.ofString "_wall") 193) (.ref 21)), (@DictEntry.mk (@PyData.keyHash x0 (.ofString "OddError")) (.str (.ofString "OddError") 213) (.ref 31))]) 11) (@List.toArray.{0} (@Option.{0} @Value) (@List.nil.{0} (@Option.{0} @Value)))))
noncomputable def My.o44 : ((x0 : @Params) → @Obj) := (fun (x0 : @Params) => (@Obj.mk .none none (@Data.fields #[]) (@List.toArray.{0} (@Option.{0} @Value) (@List.nil.{0} (@Option.{0} @Value)))))
def My.myAs : List Nat := ((nat_lit 2) :: (nat_lit 3) :: (nat_lit 15) :: (nat_lit 17) :: (nat_lit 18) :: (nat_lit 20) :: (nat_lit 21) :: (nat_lit 22) :: (nat_lit 29) :: (nat_lit 30) :: (nat_lit 31) :: (nat_lit 32) :: (nat_lit 35) :: (nat_lit 42) :: (nat_lit 43) :: (nat_lit 44) :: (nat_lit 47) :: (nat_lit 54) :: (nat_lit 55) :: (nat_lit 56) :: (nat_lit 59) :: (nat_lit 61) :: (nat_lit 62) :: (nat_lit 64) :: (nat_lit 65) :: (nat_lit 66) :: (nat_lit 68) :: (nat_lit 69) :: (nat_lit 71) :: (nat_lit 72) :: (nat_lit 73) :: (nat_lit 75) :: (nat_lit 76) :: (nat_lit 78) :: (nat_lit 79) :: (nat_lit 80) :: (nat_lit 82) :: (nat_lit 83) :: (nat_lit 85) :: (nat_lit 86) :: (nat_lit 87) :: (nat_lit 89) :: (nat_lit 90) :: (nat_lit 92) :: (nat_lit 93) :: (nat_lit 94) :: (nat_lit 96) :: (nat_lit 97) :: (nat_lit 99) :: (nat_lit 100) :: (nat_lit 108) :: (nat_lit 110) :: (nat_lit 111) :: (nat_lit 113) :: (nat_lit 114) :: (nat_lit 115) :: (nat_lit 117) :: (nat_lit 118) :: (nat_lit 120) :: (nat_lit 121) :: (nat_lit 122) :: (nat_lit 124) :: (nat_lit 125) :: (nat_lit 127) :: (nat_lit 128) :: (nat_lit 129) :: (nat_lit 131) :: (nat_lit 132) :: (nat_lit 134) :: (nat_lit 135) :: (nat_lit 136) :: (nat_lit 138) :: (nat_lit 139) :: (nat_lit 141) :: (nat_lit 142) :: (nat_lit 143) :: (nat_lit 145) :: (nat_lit 146) :: (nat_lit 148) :: (nat_lit 149) :: (nat_lit 150) :: (nat_lit 151) :: (nat_lit 152) :: (nat_lit 153) :: (nat_lit 154) :: (nat_lit 157) :: (nat_lit 164) :: (nat_lit 166) :: (nat_lit 167) :: (nat_lit 169) :: (nat_lit 170) :: (nat_lit 171) :: (nat_lit 173) :: (nat_lit 174) :: (nat_lit 176) :: (nat_lit 177) :: (nat_lit 178) :: (nat_lit 180) :: (nat_lit 181) :: (nat_lit 183) :: (nat_lit 184) :: (nat_lit 185) :: (nat_lit 186) :: (nat_lit 187) :: (nat_lit 190) :: (nat_lit 197) :: (nat_lit 199) :: (nat_lit 200) :: (nat_lit 202) :: (nat_lit 203) :: (nat_lit 204) :: (nat_lit 206) :: (nat_lit 207) :: (nat_lit 209) :: (nat_lit 210) :: (nat_lit 211) :: (nat_lit 213) :: (nat_lit 214) :: (nat_lit 216) :: (nat_lit 217) :: (nat_lit 218) :: (nat_lit 220) :: (nat_lit 221) :: (nat_lit 223) :: (nat_lit 224) :: (nat_lit 225) :: (nat_lit 226) :: (nat_lit 227) :: (nat_lit 230) :: (nat_lit 237) :: (nat_lit 239) :: (nat_lit 240) :: (nat_lit 242) :: (nat_lit 243) :: (nat_lit 244) :: (nat_lit 246) :: (nat_lit 247) :: (nat_lit 249) :: (nat_lit 250) :: (nat_lit 251) :: (nat_lit 253) :: (nat_lit 254) :: (nat_lit 256) :: (nat_lit 257) :: (nat_lit 258) :: (nat_lit 260) :: (nat_lit 261) :: (nat_lit 263) :: (nat_lit 264) :: (nat_lit 265) :: (nat_lit 267) :: (nat_lit 268) :: (nat_lit 270) :: (nat_lit 271) :: (nat_lit 272) :: (nat_lit 273) :: (nat_lit 274) :: (nat_lit 277) :: (nat_lit 284) :: (nat_lit 286) :: (nat_lit 287) :: (nat_lit 289) :: (nat_lit 290) :: (nat_lit 291) :: (nat_lit 293) :: (nat_lit 294) :: (nat_lit 296) :: (nat_lit 297) :: (nat_lit 298) :: (nat_lit 300) :: (nat_lit 301) :: (nat_lit 303) :: (nat_lit 304) :: (nat_lit 305) :: (nat_lit 306) :: (nat_lit 307) :: (nat_lit 310) :: (nat_lit 317) :: (nat_lit 319) :: (nat_lit 320) :: (nat_lit 322) :: (nat_lit 323) :: (nat_lit 324) :: (nat_lit 326) :: (nat_lit 327) :: (nat_lit 329) :: (nat_lit 330) :: (nat_lit 331) :: (nat_lit 333) :: (nat_lit 334) :: (nat_lit 336) :: (nat_lit 337) :: (nat_lit 338) :: (nat_lit 340) :: (nat_lit 341) :: (nat_lit 343) :: (nat_lit 344) :: (nat_lit 345) :: (nat_lit 347) :: (nat_lit 348) :: (nat_lit 350) :: (nat_lit 351) :: (nat_lit 352) :: (nat_lit 353) :: (nat_lit 354) :: (nat_lit 357) :: (nat_lit 364) :: (nat_lit 366) :: (nat_lit 367) :: (nat_lit 369) :: (nat_lit 370) :: (nat_lit 371) :: (nat_lit 373) :: (nat_lit 374) :: (nat_lit 376) :: (nat_lit 377) :: (nat_lit 378) :: (nat_lit 380) :: (nat_lit 381) :: (nat_lit 383) :: (nat_lit 384) :: (nat_lit 385) :: (nat_lit 387) :: (nat_lit 388) :: (nat_lit 390) :: (nat_lit 391) :: (nat_lit 392) :: (nat_lit 394) :: (nat_lit 395) :: (nat_lit 397) :: (nat_lit 398) :: (nat_lit 399) :: (nat_lit 401) :: (nat_lit 402) :: (nat_lit 404) :: (nat_lit 405) :: (nat_lit 406) :: (nat_lit 407) :: (nat_lit 408) :: (nat_lit 411) :: (nat_lit 413) :: (nat_lit 414) :: (nat_lit 416) :: (nat_lit 417) :: (nat_lit 418) :: (nat_lit 420) :: (nat_lit 421) :: (nat_lit 423) :: (nat_lit 424) :: (nat_lit 425) :: (nat_lit 427) :: (nat_lit 428) :: (nat_lit 430) :: (nat_lit 431) :: (nat_lit 432) :: (nat_lit 434) :: (nat_lit 435) :: (nat_lit 437) :: (nat_lit 438) :: (nat_lit 439) :: (nat_lit 441) :: (nat_lit 442) :: (nat_lit 444) :: (nat_lit 445) :: (nat_lit 446) :: (nat_lit 448) :: (nat_lit 449) :: (nat_lit 451) :: (nat_lit 452) :: (nat_lit 453) :: (nat_lit 455) :: (nat_lit 456) :: (nat_lit 458) :: (nat_lit 459) :: (nat_lit 460) :: (nat_lit 462) :: (nat_lit 463) :: (nat_lit 465) :: (nat_lit 466) :: (nat_lit 467) :: (nat_lit 469) :: (nat_lit 470) :: (nat_lit 472) :: (nat_lit 473) :: (nat_lit 474) :: (nat_lit 477) :: (nat_lit 478) :: [])
noncomputable def My.h_heap_39 : PySem.Params → PySem.W.Frag := fun x0 =>
(nat_lit 2, (@W.boot_o_2 x0)) ::
(nat_lit 3, (o475 x0)) ::
(nat_lit 15, (o51 x0)) ::
(nat_lit 17, (o53 x0)) ::
(nat_lit 18, (o54 x0)) ::
(nat_lit 20, (o56 x0)) ::
(nat_lit 21, (o57 x0)) ::
(nat_lit 22, (o58 x0)) ::
(nat_lit 29, (o65 x0)) ::
(nat_lit 30, (o66 x0)) ::
(nat_lit 31, (o88 x0)) ::
(nat_lit 32, (o68 x0)) ::
(nat_lit 35, (o74 x0)) ::
(nat_lit 42, (o81 x0)) ::
(nat_lit 43, (o82 x0)) ::
(nat_lit 44, (o83 x0)) ::
(nat_lit 47, (o89 x0)) ::
(nat_lit 54, (o96 x0)) ::
(nat_lit 55, (o97 x0)) ::
(nat_lit 56, (o98 x0)) ::
(nat_lit 59, (o101 x0)) ::
(nat_lit 61, (o103 x0)) ::
(nat_lit 62, (o104 x0)) ::
(nat_lit 64, (o106 x0)) ::
(nat_lit 65, (o107 x0)) ::
(nat_lit 66, (o108 x0)) ::
(nat_lit 68, (o110 x0)) ::
(nat_lit 69, (o111 x0)) ::
(nat_lit 71, (o113 x0)) ::
(nat_lit 72, (o114 x0)) ::
(nat_lit 73, (o115 x0)) ::
(nat_lit 75, (o117 x0)) ::
(nat_lit 76, (o118 x0)) ::
(nat_lit 78, (o120 x0)) ::
(nat_lit 79, (o121 x0)) ::
(nat_lit 80, (o122 x0)) ::
(nat_lit 82, (o124 x0)) ::
(nat_lit 83, (o125 x0)) ::
(nat_lit 85, (o127 x0)) ::
(nat_lit 86, (o128 x0)) ::
(nat_lit 87, (o129 x0)) ::
(nat_lit 89, (o131 x0)) ::
(nat_lit 90, (o132 x0)) ::
(nat_lit 92, (o134 x0)) ::
(nat_lit 93, (o135 x0)) ::
(nat_lit 94, (o138 x0)) ::
(nat_lit 96, (o140 x0)) ::
(nat_lit 97, (o141 x0)) ::
(nat_lit 99, (o143 x0)) ::
(nat_lit 100, (o144 x0)) ::
(nat_lit 108, (o154 x0)) ::
(nat_lit 110, (o156 x0)) ::
(nat_lit 111, (o157 x0)) ::
(nat_lit 113, (o159 x0)) ::
(nat_lit 114, (o160 x0)) ::
(nat_lit 115, (o161 x0)) ::
(nat_lit 117, (o163 x0)) ::
(nat_lit 118, (o164 x0)) ::
(nat_lit 120, (o166 x0)) ::
(nat_lit 121, (o167 x0)) ::
(nat_lit 122, (o168 x0)) ::
(nat_lit 124, (o170 x0)) ::
(nat_lit 125, (o171 x0)) ::
(nat_lit 127, (o173 x0)) ::
(nat_lit 128, (o174 x0)) ::
(nat_lit 129, (o175 x0)) ::
(nat_lit 131, (o177 x0)) ::
(nat_lit 132, (o178 x0)) ::
(nat_lit 134, (o180 x0)) ::
(nat_lit 135, (o181 x0)) ::
(nat_lit 136, (o182 x0)) ::
(nat_lit 138, (o184 x0)) ::
(nat_lit 139, (o185 x0)) ::
(nat_lit 141, (o187 x0)) ::
(nat_lit 142, (o188 x0)) ::
(nat_lit 143, (o189 x0)) ::
(nat_lit 145, (o191 x0)) ::
(nat_lit 146, (o192 x0)) ::
(nat_lit 148, (o194 x0)) ::
(nat_lit 149, (o195 x0)) ::
(nat_lit 150, (o196 x0)) ::
(nat_lit 151, (o197 x0)) ::
(nat_lit 152, (o420 x0)) ::
(nat_lit 153, (o199 x0)) ::
(nat_lit 154, (o200 x0)) ::
(nat_lit 157, (o206 x0)) ::
(nat_lit 164, (o213 x0)) ::
(nat_lit 166, (o215 x0)) ::
(nat_lit 167, (o216 x0)) ::
(nat_lit 169, (o218 x0)) ::
(nat_lit 170, (o219 x0)) ::
(nat_lit 171, (o220 x0)) ::
(nat_lit 173, (o222 x0)) ::
(nat_lit 174, (o223 x0)) ::
(nat_lit 176, (o225 x0)) ::
(nat_lit 177, (o226 x0)) ::
(nat_lit 178, (o227 x0)) ::
(nat_lit 180, (o229 x0)) ::
(nat_lit 181, (o230 x0)) ::
(nat_lit 183, (o232 x0)) ::
(nat_lit 184, (o233 x0)) ::
(nat_lit 185, (o234 x0)) ::
(nat_lit 186, (o235 x0)) ::
(nat_lit 187, (o236 x0)) ::
(nat_lit 190, (o242 x0)) ::
(nat_lit 197, (o249 x0)) ::
(nat_lit 199, (o251 x0)) ::
(nat_lit 200, (o252 x0)) ::
(nat_lit 202, (o254 x0)) ::
(nat_lit 203, (o255 x0)) ::
(nat_lit 204, (o256 x0)) ::
(nat_lit 206, (o258 x0)) ::
(nat_lit 207, (o259 x0)) ::
(nat_lit 209, (o261 x0)) ::
(nat_lit 210, (o262 x0)) ::
(nat_lit 211, (o263 x0)) ::
(nat_lit 213, (o265 x0)) ::
(nat_lit 214, (o266 x0)) ::
(nat_lit 216, (o268 x0)) ::
(nat_lit 217, (o269 x0)) ::
(nat_lit 218, (o270 x0)) ::
(nat_lit 220, (o272 x0)) ::
(nat_lit 221, (o273 x0)) ::
(nat_lit 223, (o275 x0)) ::
(nat_lit 224, (o276 x0)) ::
(nat_lit 225, (o277 x0)) ::
(nat_lit 226, (o278 x0)) ::
(nat_lit 227, (o279 x0)) ::
(nat_lit 230, (o285 x0)) ::
(nat_lit 237, (o292 x0)) ::
(nat_lit 239, (o294 x0)) ::
(nat_lit 240, (o295 x0)) ::
(nat_lit 242, (o297 x0)) ::
(nat_lit 243, (o298 x0)) ::
(nat_lit 244, (o299 x0)) ::
(nat_lit 246, (o301 x0)) ::
(nat_lit 247, (o302 x0)) ::
(nat_lit 249, (o304 x0)) ::
(nat_lit 250, (o305 x0)) ::
(nat_lit 251, (o306 x0)) ::
(nat_lit 253, (o308 x0)) ::
(nat_lit 254, (o309 x0)) ::
(nat_lit 256, (o311 x0)) ::
(nat_lit 257, (o312 x0)) ::
(nat_lit 258, (o313 x0)) ::
(nat_lit 260, (o315 x0)) ::
(nat_lit 261, (o316 x0)) ::
(nat_lit 263, (o318 x0)) ::
(nat_lit 264, (o319 x0)) ::
(nat_lit 265, (o320 x0)) ::
(nat_lit 267, (o322 x0)) ::
(nat_lit 268, (o323 x0)) ::
(nat_lit 270, (o325 x0)) ::
(nat_lit 271, (o326 x0)) ::
(nat_lit 272, (o327 x0)) ::
(nat_lit 273, (o328 x0)) ::
(nat_lit 274, (o329 x0)) ::
(nat_lit 277, (o335 x0)) ::
(nat_lit 284, (o342 x0)) ::
(nat_lit 286, (o344 x0)) ::
(nat_lit 287, (o345 x0)) ::
(nat_lit 289, (o347 x0)) ::
(nat_lit 290, (o348 x0)) ::
(nat_lit 291, (o349 x0)) ::
(nat_lit 293, (o351 x0)) ::
(nat_lit 294, (o352 x0)) ::
(nat_lit 296, (o354 x0)) ::
(nat_lit 297, (o355 x0)) ::
(nat_lit 298, (o356 x0)) ::
(nat_lit 300, (o358 x0)) ::
(nat_lit 301, (o359 x0)) ::
(nat_lit 303, (o361 x0)) ::
(nat_lit 304, (o362 x0)) ::
(nat_lit 305, (o363 x0)) ::
(nat_lit 306, (o364 x0)) ::
(nat_lit 307, (o365 x0)) ::
(nat_lit 310, (o371 x0)) ::
(nat_lit 317, (o378 x0)) ::
(nat_lit 319, (o380 x0)) ::
(nat_lit 320, (o381 x0)) ::
(nat_lit 322, (o383 x0)) ::
(nat_lit 323, (o384 x0)) ::
(nat_lit 324, (o385 x0)) ::
(nat_lit 326, (o387 x0)) ::
(nat_lit 327, (o388 x0)) ::
(nat_lit 329, (o390 x0)) ::
(nat_lit 330, (o391 x0)) ::
(nat_lit 331, (o392 x0)) ::
(nat_lit 333, (o394 x0)) ::
(nat_lit 334, (o395 x0)) ::
(nat_lit 336, (o397 x0)) ::
(nat_lit 337, (o398 x0)) ::
(nat_lit 338, (o399 x0)) ::
(nat_lit 340, (o401 x0)) ::
(nat_lit 341, (o402 x0)) ::
(nat_lit 343, (o404 x0)) ::
(nat_lit 344, (o405 x0)) ::
(nat_lit 345, (o406 x0)) ::
(nat_lit 347, (o408 x0)) ::
(nat_lit 348, (o409 x0)) ::
(nat_lit 350, (o411 x0)) ::
(nat_lit 351, (o412 x0)) ::
(nat_lit 352, (o413 x0)) ::
(nat_lit 353, (o414 x0)) ::
(nat_lit 354, (o415 x0)) ::
(nat_lit 357, (o421 x0)) ::
(nat_lit 364, (o428 x0)) ::
(nat_lit 366, (o430 x0)) ::
(nat_lit 367, (o431 x0)) ::
(nat_lit 369, (o433 x0)) ::
(nat_lit 370, (o434 x0)) ::
(nat_lit 371, (o435 x0)) ::
(nat_lit 373, (o437 x0)) ::
(nat_lit 374, (o438 x0)) ::
(nat_lit 376, (o440 x0)) ::
(nat_lit 377, (o441 x0)) ::
(nat_lit 378, (o442 x0)) ::
(nat_lit 380, (o444 x0)) ::
(nat_lit 381, (o445 x0)) ::
(nat_lit 383, (o447 x0)) ::
(nat_lit 384, (o448 x0)) ::
(nat_lit 385, (o449 x0)) ::
(nat_lit 387, (o451 x0)) ::
(nat_lit 388, (o452 x0)) ::
(nat_lit 390, (o454 x0)) ::
(nat_lit 391, (o455 x0)) ::
(nat_lit 392, (o456 x0)) ::
(nat_lit 394, (o458 x0)) ::
(nat_lit 395, (o459 x0)) ::
(nat_lit 397, (o461 x0)) ::
(nat_lit 398, (o462 x0)) ::
(nat_lit 399, (o463 x0)) ::
(nat_lit 401, (o465 x0)) ::
(nat_lit 402, (o466 x0)) ::
(nat_lit 404, (o468 x0)) ::
(nat_lit 405, (o469 x0)) ::
(nat_lit 406, (o470 x0)) ::
(nat_lit 407, (o471 x0)) ::
(nat_lit 408, (o472 x0)) ::
(nat_lit 411, (o477 x0)) ::
(nat_lit 413, (o479 x0)) ::
(nat_lit 414, (o480 x0)) ::
(nat_lit 416, (o482 x0)) ::
(nat_lit 417, (o483 x0)) ::
(nat_lit 418, (o484 x0)) ::
(nat_lit 420, (o486 x0)) ::
(nat_lit 421, (o487 x0)) ::
(nat_lit 423, (o489 x0)) ::
(nat_lit 424, (o490 x0)) ::
(nat_lit 425, (o491 x0)) ::
(nat_lit 427, (o493 x0)) ::
(nat_lit 428, (o494 x0)) ::
(nat_lit 430, (o496 x0)) ::
(nat_lit 431, (o497 x0)) ::
(nat_lit 432, (o498 x0)) ::
(nat_lit 434, (o500 x0)) ::
(nat_lit 435, (o501 x0)) ::
(nat_lit 437, (o503 x0)) ::
(nat_lit 438, (o504 x0)) ::
(nat_lit 439, (o505 x0)) ::
(nat_lit 441, (o507 x0)) ::
(nat_lit 442, (o508 x0)) ::
(nat_lit 444, (o510 x0)) ::
(nat_lit 445, (o511 x0)) ::
(nat_lit 446, (o512 x0)) ::
(nat_lit 448, (o514 x0)) ::
(nat_lit 449, (o515 x0)) ::
(nat_lit 451, (o517 x0)) ::
(nat_lit 452, (o518 x0)) ::
(nat_lit 453, (o519 x0)) ::
(nat_lit 455, (o521 x0)) ::
(nat_lit 456, (o522 x0)) ::
(nat_lit 458, (o524 x0)) ::
(nat_lit 459, (o525 x0)) ::
(nat_lit 460, (o526 x0)) ::
(nat_lit 462, (o528 x0)) ::
(nat_lit 463, (o529 x0)) ::
(nat_lit 465, (o531 x0)) ::
(nat_lit 466, (o532 x0)) ::
(nat_lit 467, (o533 x0)) ::
(nat_lit 469, (o535 x0)) ::
(nat_lit 470, (o536 x0)) ::
(nat_lit 472, (o538 x0)) ::
(nat_lit 473, (o539 x0)) ::
(nat_lit 474, (o540 x0)) ::
(nat_lit 477, (o543 x0)) ::
(nat_lit 478, (o544 x0)) :: []
noncomputable def My.h_view_39 : PySem.Program := { PySem.Challenge.pw_oddbases_k11_worth_summed with main := { PySem.Challenge.pw_oddbases_k11_worth_summed.main with body := [My.top 0, My.top 2, My.top 3, My.top 4, My.top 6, My.top 7, My.top 8, My.top 9, My.top 10, My.top 12, My.top 13, My.top 14, My.top 15, My.top 16, My.top 17, My.top 18, My.top 19, My.top 21, My.top 23, My.top 24, My.top 25, My.top 26, My.top 27, My.top 28, My.top 29, My.top 30, My.top 31] } }
noncomputable def My.h_heap_545 : ((x0 : @Params) → @Heap) := (fun (x0 : @Params) => (@Heap.mk (@Array.mk.{0} @Obj ((@W.boot_o_0 x0) :: (@W.boot_o_1 x0) :: (@W.boot_o_2 x0) :: (o475 x0) :: (@W.boot_o_4 x0) :: (@W.boot_o_5 x0) :: (@W.boot_o_6 x0) :: (@W.boot_o_7 x0) :: (@W.boot_o_8 x0) :: (@W.boot_o_9 x0) :: (@W.boot_o_10 x0) :: (o43 x0) :: (o476 x0) :: (o45 x0) :: (o46 x0) :: (o51 x0) :: (o52 x0) :: (o53 x0) :: (o54 x0) :: (o55 x0) :: (o56 x0) :: (o57 x0) :: (o58 x0) :: (o59 x0) :: (o60 x0) :: (o61 x0) :: (o62 x0) :: (o63 x0) :: (o64 x0) :: (o65 x0) :: (o66 x0) :: (o88 x0) :: (o68 x0) :: (o69 x0) :: (o70 x0) :: (o74 x0) :: (o75 x0) :: (o76 x0) :: (o77 x0) :: (o78 x0) :: (o79 x0) :: (o80 x0) :: (o81 x0) :: (o82 x0) :: (o83 x0) :: (o84 x0) :: (o85 x0) :: (o89 x0) :: (o90 x0) :: (o91 x0) :: (o92 x0) :: (o93 x0) :: (o94 x0) :: (o95 x0) :: (o96 x0) :: (o97 x0) :: (o98 x0) :: (o99 x0) :: (o100 x0) :: (o101 x0) :: (o102 x0) :: (o103 x0) :: (o104 x0) :: (o105 x0) :: (o106 x0) :: (o107 x0) :: (o108 x0) :: (o109 x0) :: (o110 x0) :: (o111 x0) :: (o112 x0) :: (o113 x0) :: (o114 x0) :: (o115 x0) :: (o116 x0) :: (o117 x0) :: (o118 x0) :: (o119 x0) :: (o120 x0) :: (o121 x0) :: (o122 x0) :: (o123 x0) :: (o124 x0) :: (o125 x0) :: (o126 x0) :: (o127 x0) :: (o128 x0) :: (o129 x0) :: (o130 x0) :: (o131 x0) :: (o132 x0) :: (o133 x0) :: (o134 x0) :: (o135 x0) :: (o138 x0) :: (o139 x0) :: (o140 x0) :: (o141 x0) :: (o142 x0) :: (o143 x0) :: (o144 x0) :: (o147 x0) :: (o148 x0) :: (o149 x0) :: (o150 x0) :: (o151 x0) :: (o152 x0) :: (o153 x0) :: (o154 x0) :: (o155 x0) :: (o156 x0) :: (o157 x0) :: (o158 x0) :: (o159 x0) :: (o160 x0) :: (o161 x0) :: (o162 x0) :: (o163 x0) :: (o164 x0) :: (o165 x0) :: (o166 x0) :: (o167 x0) :: (o168 x0) :: (o169 x0) :: (o170 x0) :: (o171 x0) :: (o172 x0) :: (o173 x0) :: (o174 x0) :: (o175 x0) :: (o176 x0) :: (o177 x0) :: (o178 x0) :: (o179 x0) :: (o180 x0) :: (o181 x0) :: (o182 x0) :: (o183 x0) :: (o184 x0) :: (o185 x0) :: (o186 x0) :: (o187 x0) :: (o188 x0) :: (o189 x0) :: (o190 x0) :: (o191 x0) :: (o192 x0) :: (o193 x0) :: (o194 x0) :: (o195 x0) :: (o196 x0) :: (o197 x0) :: (o420 x0) :: (o199 x0) :: (o200 x0) :: (o201 x0) :: (o202 x0) :: (o206 x0) :: (o207 x0) :: (o208 x0) :: (o209 x0) :: (o210 x0) :: (o211 x0) :: (o212 x0) :: (o213 x0) :: (o214 x0) :: (o215 x0) :: (o216 x0) :: (o217 x0) :: (o218 x0) :: (o219 x0) :: (o220 x0) :: (o221 x0) :: (o222 x0) :: (o223 x0) :: (o224 x0) :: (o225 x0) :: (o226 x0) :: (o227 x0) :: (o228 x0) :: (o229 x0) :: (o230 x0) :: (o231 x0) :: (o232 x0) :: (o233 x0) :: (o234 x0) :: (o235 x0) :: (o236 x0) :: (o237 x0) :: (o238 x0) :: (o242 x0) :: (o243 x0) :: (o244 x0) :: (o245 x0) :: (o246 x0) :: (o247 x0) :: (o248 x0) :: (o249 x0) :: (o250 x0) :: (o251 x0) :: (o252 x0) :: (o253 x0) :: (o254 x0) :: (o255 x0) :: (o256 x0) :: (o257 x0) :: (o258 x0) :: (o259 x0) :: (o260 x0) :: (o261 x0) :: (o262 x0) :: (o263 x0) :: (o264 x0) :: (o265 x0) :: (o266 x0) :: (o267 x0) :: (o268 x0) :: (o269 x0) :: (o270 x0) :: (o271 x0) :: (o272 x0) :: (o273 x0) :: (o274 x0) :: (o275 x0) :: (o276 x0) :: (o277 x0) :: (o278 x0) :: (o279 x0) :: (o280 x0) :: (o281 x0) :: (o285 x0) :: (o286 x0) :: (o287 x0) :: (o288 x0) :: (o289 x0) :: (o290 x0) :: (o291 x0) :: (o292 x0) :: (o293 x0) :: (o294 x0) :: (o295 x0) :: (o296 x0) :: (o297 x0) :: (o298 x0) :: (o299 x0) :: (o300 x0) :: (o301 x0) :: (o302 x0) :: (o303 x0) :: (o304 x0) :: (o305 x0) :: (o306 x0) :: (o307 x0) :: (o308 x0) :: (o309 x0) :: (o310 x0) :: (o311 x0) :: (o312 x0) :: (o313 x0) :: (o314 x0) :: (o315 x0) :: (o316 x0) :: (o317 x0) :: (o318 x0) :: (o319 x0) :: (o320 x0) :: (o321 x0) :: (o322 x0) :: (o323 x0) :: (o324 x0) :: (o325 x0) :: (o326 x0) :: (o327 x0) :: (o328 x0) :: (o329 x0) :: (o330 x0) :: (o331 x0) :: (o335 x0) :: (o336 x0) :: (o337 x0) :: (o338 x0) :: (o339 x0) :: (o340 x0) :: (o341 x0) :: (o342 x0) :: (o343 x0) :: (o344 x0) :: (o345 x0) :: (o346 x0) :: (o347 x0) :: (o348 x0) :: (o349 x0) :: (o350 x0) :: (o351 x0) :: (o352 x0) :: (o353 x0) :: (o354 x0) :: (o355 x0) :: (o356 x0) :: (o357 x0) :: (o358 x0) :: (o359 x0) :: (o360 x0) :: (o361 x0) :: (o362 x0) :: (o363 x0) :: (o364 x0) :: (o365 x0) :: (o366 x0) :: (o367 x0) :: (o371 x0) :: (o372 x0) :: (o373 x0) :: (o374 x0) :: (o375 x0) :: (o376 x0) :: (o377 x0) :: (o378 x0) :: (o379 x0) :: (o380 x0) :: (o381 x0) :: (o382 x0) :: (o383 x0) :: (o384 x0) :: (o385 x0) :: (o386 x0) :: (o387 x0) :: (o388 x0) :: (o389 x0) :: (o390 x0) :: (o391 x0) :: (o392 x0) :: (o393 x0) :: (o394 x0) :: (o395 x0) :: (o396 x0) :: (o397 x0) :: (o398 x0) :: (o399 x0) :: (o400 x0) :: (o401 x0) :: (o402 x0) :: (o403 x0) :: (o404 x0) :: (o405 x0) :: (o406 x0) :: (o407 x0) :: (o408 x0) :: (o409 x0) :: (o410 x0) :: (o411 x0) :: (o412 x0) :: (o413 x0) :: (o414 x0) :: (o415 x0) :: (o416 x0) :: (o417 x0) :: (o421 x0) :: (o422 x0) :: (o423 x0) :: (o424 x0) :: (o425 x0) :: (o426 x0) :: (o427 x0) :: (o428 x0) :: (o429 x0) :: (o430 x0) :: (o431 x0) :: (o432 x0) :: (o433 x0) :: (o434 x0) :: (o435 x0) :: (o436 x0) :: (o437 x0) :: (o438 x0) :: (o439 x0) :: (o440 x0) :: (o441 x0) :: (o442 x0) :: (o443 x0) :: (o444 x0) :: (o445 x0) :: (o446 x0) :: (o447 x0) :: (o448 x0) :: (o449 x0) :: (o450 x0) :: (o451 x0) :: (o452 x0) :: (o453 x0) :: (o454 x0) :: (o455 x0) :: (o456 x0) :: (o457 x0) :: (o458 x0) :: (o459 x0) :: (o460 x0) :: (o461 x0) :: (o462 x0) :: (o463 x0) :: (o464 x0) :: (o465 x0) :: (o466 x0) :: (o467 x0) :: (o468 x0) :: (o469 x0) :: (o470 x0) :: (o471 x0) :: (o472 x0) :: (o473 x0) :: (o474 x0) :: (o477 x0) :: (o478 x0) :: (o479 x0) :: (o480 x0) :: (o481 x0) :: (o482 x0) :: (o483 x0) :: (o484 x0) :: (o485 x0) :: (o486 x0) :: (o487 x0) :: (o488 x0) :: (o489 x0) :: (o490 x0) :: (o491 x0) :: (o492 x0) :: (o493 x0) :: (o494 x0) :: (o495 x0) :: (o496 x0) :: (o497 x0) :: (o498 x0) :: (o499 x0) :: (o500 x0) :: (o501 x0) :: (o502 x0) :: (o503 x0) :: (o504 x0) :: (o505 x0) :: (o506 x0) :: (o507 x0) :: (o508 x0) :: (o509 x0) :: (o510 x0) :: (o511 x0) :: (o512 x0) :: (o513 x0) :: (o514 x0) :: (o515 x0) :: (o516 x0) :: (o517 x0) :: (o518 x0) :: (o519 x0) :: (o520 x0) :: (o521 x0) :: (o522 x0) :: (o523 x0) :: (o524 x0) :: (o525 x0) :: (o526 x0) :: (o527 x0) :: (o528 x0) :: (o529 x0) :: (o530 x0) :: (o531 x0) :: (o532 x0) :: (o533 x0) :: (o534 x0) :: (o535 x0) :: (o536 x0) :: (o537 x0) :: (o538 x0) :: (o539 x0) :: (o540 x0) :: (o541 x0) :: (o542 x0) :: (o543 x0) :: (o544 x0) :: [])) (@Life.mk [] [] [] 0 (@List.nil.{0} (@Prod.{0, 0} @Nat @Nat)) [] @Bool.false #[] [] 0 @Bool.false @Bool.false @Bool.false (0 : Int) [(2000 : Int), (10 : Int), (10 : Int)] @Bool.false 0 @Bool.true [] [] 0 @Bool.false)))
noncomputable def My.h_env_41 : @Env := (@Env.mk (@Module.scope (@Program.main ((@W.OpenRow.toRowW (@W.OpenLaw.row @Challenge.rw_oddbases_k11_worth_summed))).1)) @mainNs @mainNs (@List.nil.{0} (@Prod.{0, 0} @Str @Addr)) @Str.empty (@Option.none.{0} @Addr) (.ref 13) (@Option.some.{0} @Addr (@OfNat.ofNat.{0} @Addr 14 (@instOfNatNat 14))) (@OfNat.ofNat.{0} @Addr 0 (@instOfNatNat 0)))
noncomputable def My.h_tree_544 : ((x0 : @Params) → @W.BT) := (fun (x0 : @Params) => (N_ (@W.boot_o_0 x0) (N_ (@W.boot_o_1 x0) (N_ (o475 x0) (N_ (@W.boot_o_7 x0) (N_ (o51 x0) (N_ (o88 x0) (N_ (o105 x0) (N_ (o173 x0) (N_ (o310 x0) @W.BT.nil @W.BT.nil) (N_ (o447 x0) @W.BT.nil @W.BT.nil)) (N_ (o243 x0) (N_ (o380 x0) @W.BT.nil @W.BT.nil) (N_ (o513 x0) @W.BT.nil @W.BT.nil))) (N_ (o139 x0) (N_ (o208 x0) (N_ (o345 x0) @W.BT.nil @W.BT.nil) (N_ (o481 x0) @W.BT.nil @W.BT.nil)) (N_ (o275 x0) (N_ (o412 x0) @W.BT.nil @W.BT.nil) @W.BT.nil))) (N_ (o89 x0) (N_ (o121 x0) (N_ (o189 x0) (N_ (o326 x0) @W.BT.nil @W.BT.nil) (N_ (o463 x0) @W.BT.nil @W.BT.nil)) (N_ (o259 x0) (N_ (o396 x0) @W.BT.nil @W.BT.nil) (N_ (o529 x0) @W.BT.nil @W.BT.nil))) (N_ (o157 x0) (N_ (o224 x0) (N_ (o361 x0) @W.BT.nil @W.BT.nil) (N_ (o497 x0) @W.BT.nil @W.BT.nil)) (N_ (o294 x0) (N_ (o431 x0) @W.BT.nil @W.BT.nil) @W.BT.nil)))) (N_ (o59 x0) (N_ (o78 x0) (N_ (o113 x0) (N_ (o181 x0) (N_ (o318 x0) @W.BT.nil @W.BT.nil) (N_ (o455 x0) @W.BT.nil @W.BT.nil)) (N_ (o251 x0) (N_ (o388 x0) @W.BT.nil @W.BT.nil) (N_ (o521 x0) @W.BT.nil @W.BT.nil))) (N_ (o149 x0) (N_ (o216 x0) (N_ (o353 x0) @W.BT.nil @W.BT.nil) (N_ (o489 x0) @W.BT.nil @W.BT.nil)) (N_ (o286 x0) (N_ (o423 x0) @W.BT.nil @W.BT.nil) @W.BT.nil))) (N_ (o97 x0) (N_ (o129 x0) (N_ (o197 x0) (N_ (o337 x0) @W.BT.nil @W.BT.nil) (N_ (o471 x0) @W.BT.nil @W.BT.nil)) (N_ (o267 x0) (N_ (o404 x0) @W.BT.nil @W.BT.nil) (N_ (o537 x0) @W.BT.nil @W.BT.nil))) (N_ (o165 x0) (N_ (o232 x0) (N_ (o372 x0) @W.BT.nil @W.BT.nil) (N_ (o505 x0) @W.BT.nil @W.BT.nil)) (N_ (o302 x0) (N_ (o439 x0) @W.BT.nil @W.BT.nil) @W.BT.nil))))) (N_ (o43 x0) (N_ (o55 x0) (N_ (o74 x0) (N_ (o109 x0) (N_ (o177 x0) (N_ (o314 x0) @W.BT.nil @W.BT.nil) (N_ (o451 x0) @W.BT.nil @W.BT.nil)) (N_ (o247 x0) (N_ (o384 x0) @W.BT.nil @W.BT.nil) (N_ (o517 x0) @W.BT.nil @W.BT.nil))) (N_ (o143 x0) (N_ (o212 x0) (N_ (o349 x0) @W.BT.nil @W.BT.nil) (N_ (o485 x0) @W.BT.nil @W.BT.nil)) (N_ (o279 x0) (N_ (o416 x0) @W.BT.nil @W.BT.nil) @W.BT.nil))) (N_ (o93 x0) (N_ (o125 x0) (N_ (o193 x0) (N_ (o330 x0) @W.BT.nil @W.BT.nil) (N_ (o467 x0) @W.BT.nil @W.BT.nil)) (N_ (o263 x0) (N_ (o400 x0) @W.BT.nil @W.BT.nil) (N_ (o533 x0) @W.BT.nil @W.BT.nil))) (N_ (o161 x0) (N_ (o228 x0) (N_ (o365 x0) @W.BT.nil @W.BT.nil) (N_ (o501 x0) @W.BT.nil @W.BT.nil)) (N_ (o298 x0) (N_ (o435 x0) @W.BT.nil @W.BT.nil) @W.BT.nil)))) (N_ (o63 x0) (N_ (o82 x0) (N_ (o117 x0) (N_ (o185 x0) (N_ (o322 x0) @W.BT.nil @W.BT.nil) (N_ (o459 x0) @W.BT.nil @W.BT.nil)) (N_ (o255 x0) (N_ (o392 x0) @W.BT.nil @W.BT.nil) (N_ (o525 x0) @W.BT.nil @W.BT.nil))) (N_ (o153 x0) (N_ (o220 x0) (N_ (o357 x0) @W.BT.nil @W.BT.nil) (N_ (o493 x0) @W.BT.nil @W.BT.nil)) (N_ (o290 x0) (N_ (o427 x0) @W.BT.nil @W.BT.nil) @W.BT.nil))) (N_ (o101 x0) (N_ (o133 x0) (N_ (o201 x0) (N_ (o341 x0) @W.BT.nil @W.BT.nil) (N_ (o477 x0) @W.BT.nil @W.BT.nil)) (N_ (o271 x0) (N_ (o408 x0) @W.BT.nil @W.BT.nil) (N_ (o541 x0) @W.BT.nil @W.BT.nil))) (N_ (o169 x0) (N_ (o236 x0) (N_ (o376 x0) @W.BT.nil @W.BT.nil) (N_ (o509 x0) @W.BT.nil @W.BT.nil)) (N_ (o306 x0) (N_ (o443 x0) @W.BT.nil @W.BT.nil) @W.BT.nil)))))) (N_ (@W.boot_o_5 x0) (N_ (@W.boot_o_9 x0) (N_ (o53 x0) (N_ (o69 x0) (N_ (o107 x0) (N_ (o175 x0) (N_ (o312 x0) @W.BT.nil @W.BT.nil) (N_ (o449 x0) @W.BT.nil @W.BT.nil)) (N_ (o245 x0) (N_ (o382 x0) @W.BT.nil @W.BT.nil) (N_ (o515 x0) @W.BT.nil @W.BT.nil))) (N_ (o141 x0) (N_ (o210 x0) (N_ (o347 x0) @W.BT.nil @W.BT.nil) (N_ (o483 x0) @W.BT.nil @W.BT.nil)) (N_ (o277 x0) (N_ (o414 x0) @W.BT.nil @W.BT.nil) @W.BT.nil))) (N_ (o91 x0) (N_ (o123 x0) (N_ (o191 x0) (N_ (o328 x0) @W.BT.nil @W.BT.nil) (N_ (o465 x0) @W.BT.nil @W.BT.nil)) (N_ (o261 x0) (N_ (o398 x0) @W.BT.nil @W.BT.nil) (N_ (o531 x0) @W.BT.nil @W.BT.nil))) (N_ (o159 x0) (N_ (o226 x0) (N_ (o363 x0) @W.BT.nil @W.BT.nil) (N_ (o499 x0) @W.BT.nil @W.BT.nil)) (N_ (o296 x0) (N_ (o433 x0) @W.BT.nil @W.BT.nil) @W.BT.nil)))) (N_ (o61 x0) (N_ (o80 x0) (N_ (o115 x0) (N_ (o183 x0) (N_ (o320 x0) @W.BT.nil @W.BT.nil) (N_ (o457 x0) @W.BT.nil @W.BT.nil)) (N_ (o253 x0) (N_ (o390 x0) @W.BT.nil @W.BT.nil) (N_ (o523 x0) @W.BT.nil @W.BT.nil))) (N_ (o151 x0) (N_ (o218 x0) (N_ (o355 x0) @W.BT.nil @W.BT.nil) (N_ (o491 x0) @W.BT.nil @W.BT.nil)) (N_ (o288 x0) (N_ (o425 x0) @W.BT.nil @W.BT.nil) @W.BT.nil))) (N_ (o99 x0) (N_ (o131 x0) (N_ (o199 x0) (N_ (o339 x0) @W.BT.nil @W.BT.nil) (N_ (o473 x0) @W.BT.nil @W.BT.nil)) (N_ (o269 x0) (N_ (o406 x0) @W.BT.nil @W.BT.nil) (N_ (o539 x0) @W.BT.nil @W.BT.nil))) (N_ (o167 x0) (N_ (o234 x0) (N_ (o374 x0) @W.BT.nil @W.BT.nil) (N_ (o507 x0) @W.BT.nil @W.BT.nil)) (N_ (o304 x0) (N_ (o441 x0) @W.BT.nil @W.BT.nil) @W.BT.nil))))) (N_ (o45 x0) (N_ (o57 x0) (N_ (o76 x0) (N_ (o111 x0) (N_ (o179 x0) (N_ (o316 x0) @W.BT.nil @W.BT.nil) (N_ (o453 x0) @W.BT.nil @W.BT.nil)) (N_ (o249 x0) (N_ (o386 x0) @W.BT.nil @W.BT.nil) (N_ (o519 x0) @W.BT.nil @W.BT.nil))) (N_ (o147 x0) (N_ (o214 x0) (N_ (o351 x0) @W.BT.nil @W.BT.nil) (N_ (o487 x0) @W.BT.nil @W.BT.nil)) (N_ (o281 x0) (N_ (o421 x0) @W.BT.nil @W.BT.nil) @W.BT.nil))) (N_ (o95 x0) (N_ (o127 x0) (N_ (o195 x0) (N_ (o335 x0) @W.BT.nil @W.BT.nil) (N_ (o469 x0) @W.BT.nil @W.BT.nil)) (N_ (o265 x0) (N_ (o402 x0) @W.BT.nil @W.BT.nil) (N_ (o535 x0) @W.BT.nil @W.BT.nil))) (N_ (o163 x0) (N_ (o230 x0) (N_ (o367 x0) @W.BT.nil @W.BT.nil) (N_ (o503 x0) @W.BT.nil @W.BT.nil)) (N_ (o300 x0) (N_ (o437 x0) @W.BT.nil @W.BT.nil) @W.BT.nil)))) (N_ (o65 x0) (N_ (o84 x0) (N_ (o119 x0) (N_ (o187 x0) (N_ (o324 x0) @W.BT.nil @W.BT.nil) (N_ (o461 x0) @W.BT.nil @W.BT.nil)) (N_ (o257 x0) (N_ (o394 x0) @W.BT.nil @W.BT.nil) (N_ (o527 x0) @W.BT.nil @W.BT.nil))) (N_ (o155 x0) (N_ (o222 x0) (N_ (o359 x0) @W.BT.nil @W.BT.nil) (N_ (o495 x0) @W.BT.nil @W.BT.nil)) (N_ (o292 x0) (N_ (o429 x0) @W.BT.nil @W.BT.nil) @W.BT.nil))) (N_ (o103 x0) (N_ (o135 x0) (N_ (o206 x0) (N_ (o343 x0) @W.BT.nil @W.BT.nil) (N_ (o479 x0) @W.BT.nil @W.BT.nil)) (N_ (o273 x0) (N_ (o410 x0) @W.BT.nil @W.BT.nil) (N_ (o543 x0) @W.BT.nil @W.BT.nil))) (N_ (o171 x0) (N_ (o238 x0) (N_ (o378 x0) @W.BT.nil @W.BT.nil) (N_ (o511 x0) @W.BT.nil @W.BT.nil)) (N_ (o308 x0) (N_ (o445 x0) @W.BT.nil @W.BT.nil) @W.BT.nil))))))) (N_ (@W.boot_o_2 x0) (N_ (@W.boot_o_4 x0) (N_ (@W.boot_o_8 x0) (N_ (o52 x0) (N_ (o68 x0) (N_ (o106 x0) (N_ (o174 x0) (N_ (o311 x0) @W.BT.nil @W.BT.nil) (N_ (o448 x0) @W.BT.nil @W.BT.nil)) (N_ (o244 x0) (N_ (o381 x0) @W.BT.nil @W.BT.nil) (N_ (o514 x0) @W.BT.nil @W.BT.nil))) (N_ (o140 x0) (N_ (o209 x0) (N_ (o346 x0) @W.BT.nil @W.BT.nil) (N_ (o482 x0) @W.BT.nil @W.BT.nil)) (N_ (o276 x0) (N_ (o413 x0) @W.BT.nil @W.BT.nil) @W.BT.nil))) (N_ (o90 x0) (N_ (o122 x0) (N_ (o190 x0) (N_ (o327 x0) @W.BT.nil @W.BT.nil) (N_ (o464 x0) @W.BT.nil @W.BT.nil)) (N_ (o260 x0) (N_ (o397 x0) @W.BT.nil @W.BT.nil) (N_ (o530 x0) @W.BT.nil @W.BT.nil))) (N_ (o158 x0) (N_ (o225 x0) (N_ (o362 x0) @W.BT.nil @W.BT.nil) (N_ (o498 x0) @W.BT.nil @W.BT.nil)) (N_ (o295 x0) (N_ (o432 x0) @W.BT.nil @W.BT.nil) @W.BT.nil)))) (N_ (o60 x0) (N_ (o79 x0) (N_ (o114 x0) (N_ (o182 x0) (N_ (o319 x0) @W.BT.nil @W.BT.nil) (N_ (o456 x0) @W.BT.nil @W.BT.nil)) (N_ (o252 x0) (N_ (o389 x0) @W.BT.nil @W.BT.nil) (N_ (o522 x0) @W.BT.nil @W.BT.nil))) (N_ (o150 x0) (N_ (o217 x0) (N_ (o354 x0) @W.BT.nil @W.BT.nil) (N_ (o490 x0) @W.BT.nil @W.BT.nil)) (N_ (o287 x0) (N_ (o424 x0) @W.BT.nil @W.BT.nil) @W.BT.nil))) (N_ (o98 x0) (N_ (o130 x0) (N_ (o420 x0) (N_ (o338 x0) @W.BT.nil @W.BT.nil) (N_ (o472 x0) @W.BT.nil @W.BT.nil)) (N_ (o268 x0) (N_ (o405 x0) @W.BT.nil @W.BT.nil) (N_ (o538 x0) @W.BT.nil @W.BT.nil))) (N_ (o166 x0) (N_ (o233 x0) (N_ (o373 x0) @W.BT.nil @W.BT.nil) (N_ (o506 x0) @W.BT.nil @W.BT.nil)) (N_ (o303 x0) (N_ (o440 x0) @W.BT.nil @W.BT.nil) @W.BT.nil))))) (N_ (o476 x0) (N_ (o56 x0) (N_ (o75 x0) (N_ (o110 x0) (N_ (o178 x0) (N_ (o315 x0) @W.BT.nil @W.BT.nil) (N_ (o452 x0) @W.BT.nil @W.BT.nil)) (N_ (o248 x0) (N_ (o385 x0) @W.BT.nil @W.BT.nil) (N_ (o518 x0) @W.BT.nil @W.BT.nil))) (N_ (o144 x0) (N_ (o213 x0) (N_ (o350 x0) @W.BT.nil @W.BT.nil) (N_ (o486 x0) @W.BT.nil @W.BT.nil)) (N_ (o280 x0) (N_ (o417 x0) @W.BT.nil @W.BT.nil) @W.BT.nil))) (N_ (o94 x0) (N_ (o126 x0) (N_ (o194 x0) (N_ (o331 x0) @W.BT.nil @W.BT.nil) (N_ (o468 x0) @W.BT.nil @W.BT.nil)) (N_ (o264 x0) (N_ (o401 x0) @W.BT.nil @W.BT.nil) (N_ (o534 x0) @W.BT.nil @W.BT.nil))) (N_ (o162 x0) (N_ (o229 x0) (N_ (o366 x0) @W.BT.nil @W.BT.nil) (N_ (o502 x0) @W.BT.nil @W.BT.nil)) (N_ (o299 x0) (N_ (o436 x0) @W.BT.nil @W.BT.nil) @W.BT.nil)))) (N_ (o64 x0) (N_ (o83 x0) (N_ (o118 x0) (N_ (o186 x0) (N_ (o323 x0) @W.BT.nil @W.BT.nil) (N_ (o460 x0) @W.BT.nil @W.BT.nil)) (N_ (o256 x0) (N_ (o393 x0) @W.BT.nil @W.BT.nil) (N_ (o526 x0) @W.BT.nil @W.BT.nil))) (N_ (o154 x0) (N_ (o221 x0) (N_ (o358 x0) @W.BT.nil @W.BT.nil) (N_ (o494 x0) @W.BT.nil @W.BT.nil)) (N_ (o291 x0) (N_ (o428 x0) @W.BT.nil @W.BT.nil) @W.BT.nil))) (N_ (o102 x0) (N_ (o134 x0) (N_ (o202 x0) (N_ (o342 x0) @W.BT.nil @W.BT.nil) (N_ (o478 x0) @W.BT.nil @W.BT.nil)) (N_ (o272 x0) (N_ (o409 x0) @W.BT.nil @W.BT.nil) (N_ (o542 x0) @W.BT.nil @W.BT.nil))) (N_ (o170 x0) (N_ (o237 x0) (N_ (o377 x0) @W.BT.nil @W.BT.nil) (N_ (o510 x0) @W.BT.nil @W.BT.nil)) (N_ (o307 x0) (N_ (o444 x0) @W.BT.nil @W.BT.nil) @W.BT.nil)))))) (N_ (@W.boot_o_6 x0) (N_ (@W.boot_o_10 x0) (N_ (o54 x0) (N_ (o70 x0) (N_ (o108 x0) (N_ (o176 x0) (N_ (o313 x0) @W.BT.nil @W.BT.nil) (N_ (o450 x0) @W.BT.nil @W.BT.nil)) (N_ (o246 x0) (N_ (o383 x0) @W.BT.nil @W.BT.nil) (N_ (o516 x0) @W.BT.nil @W.BT.nil))) (N_ (o142 x0) (N_ (o211 x0) (N_ (o348 x0) @W.BT.nil @W.BT.nil) (N_ (o484 x0) @W.BT.nil @W.BT.nil)) (N_ (o278 x0) (N_ (o415 x0) @W.BT.nil @W.BT.nil) @W.BT.nil))) (N_ (o92 x0) (N_ (o124 x0) (N_ (o192 x0) (N_ (o329 x0) @W.BT.nil @W.BT.nil) (N_ (o466 x0) @W.BT.nil @W.BT.nil)) (N_ (o262 x0) (N_ (o399 x0) @W.BT.nil @W.BT.nil) (N_ (o532 x0) @W.BT.nil @W.BT.nil))) (N_ (o160 x0) (N_ (o227 x0) (N_ (o364 x0) @W.BT.nil @W.BT.nil) (N_ (o500 x0) @W.BT.nil @W.BT.nil)) (N_ (o297 x0) (N_ (o434 x0) @W.BT.nil @W.BT.nil) @W.BT.nil)))) (N_ (o62 x0) (N_ (o81 x0) (N_ (o116 x0) (N_ (o184 x0) (N_ (o321 x0) @W.BT.nil @W.BT.nil) (N_ (o458 x0) @W.BT.nil @W.BT.nil)) (N_ (o254 x0) (N_ (o391 x0) @W.BT.nil @W.BT.nil) (N_ (o524 x0) @W.BT.nil @W.BT.nil))) (N_ (o152 x0) (N_ (o219 x0) (N_ (o356 x0) @W.BT.nil @W.BT.nil) (N_ (o492 x0) @W.BT.nil @W.BT.nil)) (N_ (o289 x0) (N_ (o426 x0) @W.BT.nil @W.BT.nil) @W.BT.nil))) (N_ (o100 x0) (N_ (o132 x0) (N_ (o200 x0) (N_ (o340 x0) @W.BT.nil @W.BT.nil) (N_ (o474 x0) @W.BT.nil @W.BT.nil)) (N_ (o270 x0) (N_ (o407 x0) @W.BT.nil @W.BT.nil) (N_ (o540 x0) @W.BT.nil @W.BT.nil))) (N_ (o168 x0) (N_ (o235 x0) (N_ (o375 x0) @W.BT.nil @W.BT.nil) (N_ (o508 x0) @W.BT.nil @W.BT.nil)) (N_ (o305 x0) (N_ (o442 x0) @W.BT.nil @W.BT.nil) @W.BT.nil))))) (N_ (o46 x0) (N_ (o58 x0) (N_ (o77 x0) (N_ (o112 x0) (N_ (o180 x0) (N_ (o317 x0) @W.BT.nil @W.BT.nil) (N_ (o454 x0) @W.BT.nil @W.BT.nil)) (N_ (o250 x0) (N_ (o387 x0) @W.BT.nil @W.BT.nil) (N_ (o520 x0) @W.BT.nil @W.BT.nil))) (N_ (o148 x0) (N_ (o215 x0) (N_ (o352 x0) @W.BT.nil @W.BT.nil) (N_ (o488 x0) @W.BT.nil @W.BT.nil)) (N_ (o285 x0) (N_ (o422 x0) @W.BT.nil @W.BT.nil) @W.BT.nil))) (N_ (o96 x0) (N_ (o128 x0) (N_ (o196 x0) (N_ (o336 x0) @W.BT.nil @W.BT.nil) (N_ (o470 x0) @W.BT.nil @W.BT.nil)) (N_ (o266 x0) (N_ (o403 x0) @W.BT.nil @W.BT.nil) (N_ (o536 x0) @W.BT.nil @W.BT.nil))) (N_ (o164 x0) (N_ (o231 x0) (N_ (o371 x0) @W.BT.nil @W.BT.nil) (N_ (o504 x0) @W.BT.nil @W.BT.nil)) (N_ (o301 x0) (N_ (o438 x0) @W.BT.nil @W.BT.nil) @W.BT.nil)))) (N_ (o66 x0) (N_ (o85 x0) (N_ (o120 x0) (N_ (o188 x0) (N_ (o325 x0) @W.BT.nil @W.BT.nil) (N_ (o462 x0) @W.BT.nil @W.BT.nil)) (N_ (o258 x0) (N_ (o395 x0) @W.BT.nil @W.BT.nil) (N_ (o528 x0) @W.BT.nil @W.BT.nil))) (N_ (o156 x0) (N_ (o223 x0) (N_ (o360 x0) @W.BT.nil @W.BT.nil) (N_ (o496 x0) @W.BT.nil @W.BT.nil)) (N_ (o293 x0) (N_ (o430 x0) @W.BT.nil @W.BT.nil) @W.BT.nil))) (N_ (o104 x0) (N_ (o138 x0) (N_ (o207 x0) (N_ (o344 x0) @W.BT.nil @W.BT.nil) (N_ (o480 x0) @W.BT.nil @W.BT.nil)) (N_ (o274 x0) (N_ (o411 x0) @W.BT.nil @W.BT.nil) (N_ (o544 x0) @W.BT.nil @W.BT.nil))) (N_ (o172 x0) (N_ (o242 x0) (N_ (o379 x0) @W.BT.nil @W.BT.nil) (N_ (o512 x0) @W.BT.nil @W.BT.nil)) (N_ (o309 x0) (N_ (o446 x0) @W.BT.nil @W.BT.nil) @W.BT.nil)))))))))
noncomputable def My.h_sts_475 : (@List.{0} @Stmt) := [My.top 20, My.top 21, My.top 22, My.top 23, My.top 24, My.top 25, My.top 26, My.top 27, My.top 28, My.top 29, My.top 30, My.top 31]
noncomputable def My.h_tree_474 : ((x0 : @Params) → @W.BT) := (fun (x0 : @Params) => (N_ (@W.boot_o_0 x0) (N_ (@W.boot_o_1 x0) (N_ (o418 x0) (N_ (@W.boot_o_7 x0) (N_ (o51 x0) (N_ (o88 x0) (N_ (o105 x0) (N_ (o173 x0) (N_ (o310 x0) @W.BT.nil @W.BT.nil) (N_ (o447 x0) @W.BT.nil @W.BT.nil)) (N_ (o243 x0) (N_ (o380 x0) @W.BT.nil @W.BT.nil) @W.BT.nil)) (N_ (o139 x0) (N_ (o208 x0) (N_ (o345 x0) @W.BT.nil @W.BT.nil) @W.BT.nil) (N_ (o275 x0) (N_ (o412 x0) @W.BT.nil @W.BT.nil) @W.BT.nil))) (N_ (o89 x0) (N_ (o121 x0) (N_ (o189 x0) (N_ (o326 x0) @W.BT.nil @W.BT.nil) (N_ (o463 x0) @W.BT.nil @W.BT.nil)) (N_ (o259 x0) (N_ (o396 x0) @W.BT.nil @W.BT.nil) @W.BT.nil)) (N_ (o157 x0) (N_ (o224 x0) (N_ (o361 x0) @W.BT.nil @W.BT.nil) @W.BT.nil) (N_ (o294 x0) (N_ (o431 x0) @W.BT.nil @W.BT.nil) @W.BT.nil)))) (N_ (o59 x0) (N_ (o78 x0) (N_ (o113 x0) (N_ (o181 x0) (N_ (o318 x0) @W.BT.nil @W.BT.nil) (N_ (o455 x0) @W.BT.nil @W.BT.nil)) (N_ (o251 x0) (N_ (o388 x0) @W.BT.nil @W.BT.nil) @W.BT.nil)) (N_ (o149 x0) (N_ (o216 x0) (N_ (o353 x0) @W.BT.nil @W.BT.nil) @W.BT.nil) (N_ (o286 x0) (N_ (o423 x0) @W.BT.nil @W.BT.nil) @W.BT.nil))) (N_ (o97 x0) (N_ (o129 x0) (N_ (o197 x0) (N_ (o337 x0) @W.BT.nil @W.BT.nil) (N_ (o471 x0) @W.BT.nil @W.BT.nil)) (N_ (o267 x0) (N_ (o404 x0) @W.BT.nil @W.BT.nil) @W.BT.nil)) (N_ (o165 x0) (N_ (o232 x0) (N_ (o372 x0) @W.BT.nil @W.BT.nil) @W.BT.nil) (N_ (o302 x0) (N_ (o439 x0) @W.BT.nil @W.BT.nil) @W.BT.nil))))) (N_ (o43 x0) (N_ (o55 x0) (N_ (o74 x0) (N_ (o109 x0) (N_ (o177 x0) (N_ (o314 x0) @W.BT.nil @W.BT.nil) (N_ (o451 x0) @W.BT.nil @W.BT.nil)) (N_ (o247 x0) (N_ (o384 x0) @W.BT.nil @W.BT.nil) @W.BT.nil)) (N_ (o143 x0) (N_ (o212 x0) (N_ (o349 x0) @W.BT.nil @W.BT.nil) @W.BT.nil) (N_ (o279 x0) (N_ (o416 x0) @W.BT.nil @W.BT.nil) @W.BT.nil))) (N_ (o93 x0) (N_ (o125 x0) (N_ (o193 x0) (N_ (o330 x0) @W.BT.nil @W.BT.nil) (N_ (o467 x0) @W.BT.nil @W.BT.nil)) (N_ (o263 x0) (N_ (o400 x0) @W.BT.nil @W.BT.nil) @W.BT.nil)) (N_ (o161 x0) (N_ (o228 x0) (N_ (o365 x0) @W.BT.nil @W.BT.nil) @W.BT.nil) (N_ (o298 x0) (N_ (o435 x0) @W.BT.nil @W.BT.nil) @W.BT.nil)))) (N_ (o63 x0) (N_ (o82 x0) (N_ (o117 x0) (N_ (o185 x0) (N_ (o322 x0) @W.BT.nil @W.BT.nil) (N_ (o459 x0) @W.BT.nil @W.BT.nil)) (N_ (o255 x0) (N_ (o392 x0) @W.BT.nil @W.BT.nil) @W.BT.nil)) (N_ (o153 x0) (N_ (o220 x0) (N_ (o357 x0) @W.BT.nil @W.BT.nil) @W.BT.nil) (N_ (o290 x0) (N_ (o427 x0) @W.BT.nil @W.BT.nil) @W.BT.nil))) (N_ (o101 x0) (N_ (o133 x0) (N_ (o201 x0) (N_ (o341 x0) @W.BT.nil @W.BT.nil) @W.BT.nil) (N_ (o271 x0) (N_ (o408 x0) @W.BT.nil @W.BT.nil) @W.BT.nil)) (N_ (o169 x0) (N_ (o236 x0) (N_ (o376 x0) @W.BT.nil @W.BT.nil) @W.BT.nil) (N_ (o306 x0) (N_ (o443 x0) @W.BT.nil @W.BT.nil) @W.BT.nil)))))) (N_ (@W.boot_o_5 x0) (N_ (@W.boot_o_9 x0) (N_ (o53 x0) (N_ (o69 x0) (N_ (o107 x0) (N_ (o175 x0) (N_ (o312 x0) @W.BT.nil @W.BT.nil) (N_ (o449 x0) @W.BT.nil @W.BT.nil)) (N_ (o245 x0) (N_ (o382 x0) @W.BT.nil @W.BT.nil) @W.BT.nil)) (N_ (o141 x0) (N_ (o210 x0) (N_ (o347 x0) @W.BT.nil @W.BT.nil) @W.BT.nil) (N_ (o277 x0) (N_ (o414 x0) @W.BT.nil @W.BT.nil) @W.BT.nil))) (N_ (o91 x0) (N_ (o123 x0) (N_ (o191 x0) (N_ (o328 x0) @W.BT.nil @W.BT.nil) (N_ (o465 x0) @W.BT.nil @W.BT.nil)) (N_ (o261 x0) (N_ (o398 x0) @W.BT.nil @W.BT.nil) @W.BT.nil)) (N_ (o159 x0) (N_ (o226 x0) (N_ (o363 x0) @W.BT.nil @W.BT.nil) @W.BT.nil) (N_ (o296 x0) (N_ (o433 x0) @W.BT.nil @W.BT.nil) @W.BT.nil)))) (N_ (o61 x0) (N_ (o80 x0) (N_ (o115 x0) (N_ (o183 x0) (N_ (o320 x0) @W.BT.nil @W.BT.nil) (N_ (o457 x0) @W.BT.nil @W.BT.nil)) (N_ (o253 x0) (N_ (o390 x0) @W.BT.nil @W.BT.nil) @W.BT.nil)) (N_ (o151 x0) (N_ (o218 x0) (N_ (o355 x0) @W.BT.nil @W.BT.nil) @W.BT.nil) (N_ (o288 x0) (N_ (o425 x0) @W.BT.nil @W.BT.nil) @W.BT.nil))) (N_ (o99 x0) (N_ (o131 x0) (N_ (o199 x0) (N_ (o339 x0) @W.BT.nil @W.BT.nil) (N_ (o473 x0) @W.BT.nil @W.BT.nil)) (N_ (o269 x0) (N_ (o406 x0) @W.BT.nil @W.BT.nil) @W.BT.nil)) (N_ (o167 x0) (N_ (o234 x0) (N_ (o374 x0) @W.BT.nil @W.BT.nil) @W.BT.nil) (N_ (o304 x0) (N_ (o441 x0) @W.BT.nil @W.BT.nil) @W.BT.nil))))) (N_ (o45 x0) (N_ (o57 x0) (N_ (o76 x0) (N_ (o111 x0) (N_ (o179 x0) (N_ (o316 x0) @W.BT.nil @W.BT.nil) (N_ (o453 x0) @W.BT.nil @W.BT.nil)) (N_ (o249 x0) (N_ (o386 x0) @W.BT.nil @W.BT.nil) @W.BT.nil)) (N_ (o147 x0) (N_ (o214 x0) (N_ (o351 x0) @W.BT.nil @W.BT.nil) @W.BT.nil) (N_ (o281 x0) (N_ (o421 x0) @W.BT.nil @W.BT.nil) @W.BT.nil))) (N_ (o95 x0) (N_ (o127 x0) (N_ (o195 x0) (N_ (o335 x0) @W.BT.nil @W.BT.nil) (N_ (o469 x0) @W.BT.nil @W.BT.nil)) (N_ (o265 x0) (N_ (o402 x0) @W.BT.nil @W.BT.nil) @W.BT.nil)) (N_ (o163 x0) (N_ (o230 x0) (N_ (o367 x0) @W.BT.nil @W.BT.nil) @W.BT.nil) (N_ (o300 x0) (N_ (o437 x0) @W.BT.nil @W.BT.nil) @W.BT.nil)))) (N_ (o65 x0) (N_ (o84 x0) (N_ (o119 x0) (N_ (o187 x0) (N_ (o324 x0) @W.BT.nil @W.BT.nil) (N_ (o461 x0) @W.BT.nil @W.BT.nil)) (N_ (o257 x0) (N_ (o394 x0) @W.BT.nil @W.BT.nil) @W.BT.nil)) (N_ (o155 x0) (N_ (o222 x0) (N_ (o359 x0) @W.BT.nil @W.BT.nil) @W.BT.nil) (N_ (o292 x0) (N_ (o429 x0) @W.BT.nil @W.BT.nil) @W.BT.nil))) (N_ (o103 x0) (N_ (o135 x0) (N_ (o206 x0) (N_ (o343 x0) @W.BT.nil @W.BT.nil) @W.BT.nil) (N_ (o273 x0) (N_ (o410 x0) @W.BT.nil @W.BT.nil) @W.BT.nil)) (N_ (o171 x0) (N_ (o238 x0) (N_ (o378 x0) @W.BT.nil @W.BT.nil) @W.BT.nil) (N_ (o308 x0) (N_ (o445 x0) @W.BT.nil @W.BT.nil) @W.BT.nil))))))) (N_ (@W.boot_o_2 x0) (N_ (@W.boot_o_4 x0) (N_ (@W.boot_o_8 x0) (N_ (o52 x0) (N_ (o68 x0) (N_ (o106 x0) (N_ (o174 x0) (N_ (o311 x0) @W.BT.nil @W.BT.nil) (N_ (o448 x0) @W.BT.nil @W.BT.nil)) (N_ (o244 x0) (N_ (o381 x0) @W.BT.nil @W.BT.nil) @W.BT.nil)) (N_ (o140 x0) (N_ (o209 x0) (N_ (o346 x0) @W.BT.nil @W.BT.nil) @W.BT.nil) (N_ (o276 x0) (N_ (o413 x0) @W.BT.nil @W.BT.nil) @W.BT.nil))) (N_ (o90 x0) (N_ (o122 x0) (N_ (o190 x0) (N_ (o327 x0) @W.BT.nil @W.BT.nil) (N_ (o464 x0) @W.BT.nil @W.BT.nil)) (N_ (o260 x0) (N_ (o397 x0) @W.BT.nil @W.BT.nil) @W.BT.nil)) (N_ (o158 x0) (N_ (o225 x0) (N_ (o362 x0) @W.BT.nil @W.BT.nil) @W.BT.nil) (N_ (o295 x0) (N_ (o432 x0) @W.BT.nil @W.BT.nil) @W.BT.nil)))) (N_ (o60 x0) (N_ (o79 x0) (N_ (o114 x0) (N_ (o182 x0) (N_ (o319 x0) @W.BT.nil @W.BT.nil) (N_ (o456 x0) @W.BT.nil @W.BT.nil)) (N_ (o252 x0) (N_ (o389 x0) @W.BT.nil @W.BT.nil) @W.BT.nil)) (N_ (o150 x0) (N_ (o217 x0) (N_ (o354 x0) @W.BT.nil @W.BT.nil) @W.BT.nil) (N_ (o287 x0) (N_ (o424 x0) @W.BT.nil @W.BT.nil) @W.BT.nil))) (N_ (o98 x0) (N_ (o130 x0) (N_ (o420 x0) (N_ (o338 x0) @W.BT.nil @W.BT.nil) (N_ (o472 x0) @W.BT.nil @W.BT.nil)) (N_ (o268 x0) (N_ (o405 x0) @W.BT.nil @W.BT.nil) @W.BT.nil)) (N_ (o166 x0) (N_ (o233 x0) (N_ (o373 x0) @W.BT.nil @W.BT.nil) @W.BT.nil) (N_ (o303 x0) (N_ (o440 x0) @W.BT.nil @W.BT.nil) @W.BT.nil))))) (N_ (o419 x0) (N_ (o56 x0) (N_ (o75 x0) (N_ (o110 x0) (N_ (o178 x0) (N_ (o315 x0) @W.BT.nil @W.BT.nil) (N_ (o452 x0) @W.BT.nil @W.BT.nil)) (N_ (o248 x0) (N_ (o385 x0) @W.BT.nil @W.BT.nil) @W.BT.nil)) (N_ (o144 x0) (N_ (o213 x0) (N_ (o350 x0) @W.BT.nil @W.BT.nil) @W.BT.nil) (N_ (o280 x0) (N_ (o417 x0) @W.BT.nil @W.BT.nil) @W.BT.nil))) (N_ (o94 x0) (N_ (o126 x0) (N_ (o194 x0) (N_ (o331 x0) @W.BT.nil @W.BT.nil) (N_ (o468 x0) @W.BT.nil @W.BT.nil)) (N_ (o264 x0) (N_ (o401 x0) @W.BT.nil @W.BT.nil) @W.BT.nil)) (N_ (o162 x0) (N_ (o229 x0) (N_ (o366 x0) @W.BT.nil @W.BT.nil) @W.BT.nil) (N_ (o299 x0) (N_ (o436 x0) @W.BT.nil @W.BT.nil) @W.BT.nil)))) (N_ (o64 x0) (N_ (o83 x0) (N_ (o118 x0) (N_ (o186 x0) (N_ (o323 x0) @W.BT.nil @W.BT.nil) (N_ (o460 x0) @W.BT.nil @W.BT.nil)) (N_ (o256 x0) (N_ (o393 x0) @W.BT.nil @W.BT.nil) @W.BT.nil)) (N_ (o154 x0) (N_ (o221 x0) (N_ (o358 x0) @W.BT.nil @W.BT.nil) @W.BT.nil) (N_ (o291 x0) (N_ (o428 x0) @W.BT.nil @W.BT.nil) @W.BT.nil))) (N_ (o102 x0) (N_ (o134 x0) (N_ (o202 x0) (N_ (o342 x0) @W.BT.nil @W.BT.nil) @W.BT.nil) (N_ (o272 x0) (N_ (o409 x0) @W.BT.nil @W.BT.nil) @W.BT.nil)) (N_ (o170 x0) (N_ (o237 x0) (N_ (o377 x0) @W.BT.nil @W.BT.nil) @W.BT.nil) (N_ (o307 x0) (N_ (o444 x0) @W.BT.nil @W.BT.nil) @W.BT.nil)))))) (N_ (@W.boot_o_6 x0) (N_ (@W.boot_o_10 x0) (N_ (o54 x0) (N_ (o70 x0) (N_ (o108 x0) (N_ (o176 x0) (N_ (o313 x0) @W.BT.nil @W.BT.nil) (N_ (o450 x0) @W.BT.nil @W.BT.nil)) (N_ (o246 x0) (N_ (o383 x0) @W.BT.nil @W.BT.nil) @W.BT.nil)) (N_ (o142 x0) (N_ (o211 x0) (N_ (o348 x0) @W.BT.nil @W.BT.nil) @W.BT.nil) (N_ (o278 x0) (N_ (o415 x0) @W.BT.nil @W.BT.nil) @W.BT.nil))) (N_ (o92 x0) (N_ (o124 x0) (N_ (o192 x0) (N_ (o329 x0) @W.BT.nil @W.BT.nil) (N_ (o466 x0) @W.BT.nil @W.BT.nil)) (N_ (o262 x0) (N_ (o399 x0) @W.BT.nil @W.BT.nil) @W.BT.nil)) (N_ (o160 x0) (N_ (o227 x0) (N_ (o364 x0) @W.BT.nil @W.BT.nil) @W.BT.nil) (N_ (o297 x0) (N_ (o434 x0) @W.BT.nil @W.BT.nil) @W.BT.nil)))) (N_ (o62 x0) (N_ (o81 x0) (N_ (o116 x0) (N_ (o184 x0) (N_ (o321 x0) @W.BT.nil @W.BT.nil) (N_ (o458 x0) @W.BT.nil @W.BT.nil)) (N_ (o254 x0) (N_ (o391 x0) @W.BT.nil @W.BT.nil) @W.BT.nil)) (N_ (o152 x0) (N_ (o219 x0) (N_ (o356 x0) @W.BT.nil @W.BT.nil) @W.BT.nil) (N_ (o289 x0) (N_ (o426 x0) @W.BT.nil @W.BT.nil) @W.BT.nil))) (N_ (o100 x0) (N_ (o132 x0) (N_ (o200 x0) (N_ (o340 x0) @W.BT.nil @W.BT.nil) (N_ (o474 x0) @W.BT.nil @W.BT.nil)) (N_ (o270 x0) (N_ (o407 x0) @W.BT.nil @W.BT.nil) @W.BT.nil)) (N_ (o168 x0) (N_ (o235 x0) (N_ (o375 x0) @W.BT.nil @W.BT.nil) @W.BT.nil) (N_ (o305 x0) (N_ (o442 x0) @W.BT.nil @W.BT.nil) @W.BT.nil))))) (N_ (o46 x0) (N_ (o58 x0) (N_ (o77 x0) (N_ (o112 x0) (N_ (o180 x0) (N_ (o317 x0) @W.BT.nil @W.BT.nil) (N_ (o454 x0) @W.BT.nil @W.BT.nil)) (N_ (o250 x0) (N_ (o387 x0) @W.BT.nil @W.BT.nil) @W.BT.nil)) (N_ (o148 x0) (N_ (o215 x0) (N_ (o352 x0) @W.BT.nil @W.BT.nil) @W.BT.nil) (N_ (o285 x0) (N_ (o422 x0) @W.BT.nil @W.BT.nil) @W.BT.nil))) (N_ (o96 x0) (N_ (o128 x0) (N_ (o196 x0) (N_ (o336 x0) @W.BT.nil @W.BT.nil) (N_ (o470 x0) @W.BT.nil @W.BT.nil)) (N_ (o266 x0) (N_ (o403 x0) @W.BT.nil @W.BT.nil) @W.BT.nil)) (N_ (o164 x0) (N_ (o231 x0) (N_ (o371 x0) @W.BT.nil @W.BT.nil) @W.BT.nil) (N_ (o301 x0) (N_ (o438 x0) @W.BT.nil @W.BT.nil) @W.BT.nil)))) (N_ (o66 x0) (N_ (o85 x0) (N_ (o120 x0) (N_ (o188 x0) (N_ (o325 x0) @W.BT.nil @W.BT.nil) (N_ (o462 x0) @W.BT.nil @W.BT.nil)) (N_ (o258 x0) (N_ (o395 x0) @W.BT.nil @W.BT.nil) @W.BT.nil)) (N_ (o156 x0) (N_ (o223 x0) (N_ (o360 x0) @W.BT.nil @W.BT.nil) @W.BT.nil) (N_ (o293 x0) (N_ (o430 x0) @W.BT.nil @W.BT.nil) @W.BT.nil))) (N_ (o104 x0) (N_ (o138 x0) (N_ (o207 x0) (N_ (o344 x0) @W.BT.nil @W.BT.nil) @W.BT.nil) (N_ (o274 x0) (N_ (o411 x0) @W.BT.nil @W.BT.nil) @W.BT.nil)) (N_ (o172 x0) (N_ (o242 x0) (N_ (o379 x0) @W.BT.nil @W.BT.nil) @W.BT.nil) (N_ (o309 x0) (N_ (o446 x0) @W.BT.nil @W.BT.nil) @W.BT.nil)))))))))
noncomputable def My.h_sts_418 : (@List.{0} @Stmt) := [My.top 19]
noncomputable def My.h_tree_417 : ((x0 : @Params) → @W.BT) := (fun (x0 : @Params) => (N_ (@W.boot_o_0 x0) (N_ (@W.boot_o_1 x0) (N_ (o368 x0) (N_ (@W.boot_o_7 x0) (N_ (o51 x0) (N_ (o88 x0) (N_ (o105 x0) (N_ (o173 x0) (N_ (o310 x0) @W.BT.nil @W.BT.nil) @W.BT.nil) (N_ (o243 x0) (N_ (o380 x0) @W.BT.nil @W.BT.nil) @W.BT.nil)) (N_ (o139 x0) (N_ (o208 x0) (N_ (o345 x0) @W.BT.nil @W.BT.nil) @W.BT.nil) (N_ (o275 x0) (N_ (o412 x0) @W.BT.nil @W.BT.nil) @W.BT.nil))) (N_ (o89 x0) (N_ (o121 x0) (N_ (o189 x0) (N_ (o326 x0) @W.BT.nil @W.BT.nil) @W.BT.nil) (N_ (o259 x0) (N_ (o396 x0) @W.BT.nil @W.BT.nil) @W.BT.nil)) (N_ (o157 x0) (N_ (o224 x0) (N_ (o361 x0) @W.BT.nil @W.BT.nil) @W.BT.nil) (N_ (o294 x0) @W.BT.nil @W.BT.nil)))) (N_ (o59 x0) (N_ (o78 x0) (N_ (o113 x0) (N_ (o181 x0) (N_ (o318 x0) @W.BT.nil @W.BT.nil) @W.BT.nil) (N_ (o251 x0) (N_ (o388 x0) @W.BT.nil @W.BT.nil) @W.BT.nil)) (N_ (o149 x0) (N_ (o216 x0) (N_ (o353 x0) @W.BT.nil @W.BT.nil) @W.BT.nil) (N_ (o286 x0) @W.BT.nil @W.BT.nil))) (N_ (o97 x0) (N_ (o129 x0) (N_ (o197 x0) (N_ (o337 x0) @W.BT.nil @W.BT.nil) @W.BT.nil) (N_ (o267 x0) (N_ (o404 x0) @W.BT.nil @W.BT.nil) @W.BT.nil)) (N_ (o165 x0) (N_ (o232 x0) (N_ (o372 x0) @W.BT.nil @W.BT.nil) @W.BT.nil) (N_ (o302 x0) @W.BT.nil @W.BT.nil))))) (N_ (o43 x0) (N_ (o55 x0) (N_ (o74 x0) (N_ (o109 x0) (N_ (o177 x0) (N_ (o314 x0) @W.BT.nil @W.BT.nil) @W.BT.nil) (N_ (o247 x0) (N_ (o384 x0) @W.BT.nil @W.BT.nil) @W.BT.nil)) (N_ (o143 x0) (N_ (o212 x0) (N_ (o349 x0) @W.BT.nil @W.BT.nil) @W.BT.nil) (N_ (o279 x0) (N_ (o416 x0) @W.BT.nil @W.BT.nil) @W.BT.nil))) (N_ (o93 x0) (N_ (o125 x0) (N_ (o193 x0) (N_ (o330 x0) @W.BT.nil @W.BT.nil) @W.BT.nil) (N_ (o263 x0) (N_ (o400 x0) @W.BT.nil @W.BT.nil) @W.BT.nil)) (N_ (o161 x0) (N_ (o228 x0) (N_ (o365 x0) @W.BT.nil @W.BT.nil) @W.BT.nil) (N_ (o298 x0) @W.BT.nil @W.BT.nil)))) (N_ (o63 x0) (N_ (o82 x0) (N_ (o117 x0) (N_ (o185 x0) (N_ (o322 x0) @W.BT.nil @W.BT.nil) @W.BT.nil) (N_ (o255 x0) (N_ (o392 x0) @W.BT.nil @W.BT.nil) @W.BT.nil)) (N_ (o153 x0) (N_ (o220 x0) (N_ (o357 x0) @W.BT.nil @W.BT.nil) @W.BT.nil) (N_ (o290 x0) @W.BT.nil @W.BT.nil))) (N_ (o101 x0) (N_ (o133 x0) (N_ (o201 x0) (N_ (o341 x0) @W.BT.nil @W.BT.nil) @W.BT.nil) (N_ (o271 x0) (N_ (o408 x0) @W.BT.nil @W.BT.nil) @W.BT.nil)) (N_ (o169 x0) (N_ (o236 x0) (N_ (o376 x0) @W.BT.nil @W.BT.nil) @W.BT.nil) (N_ (o306 x0) @W.BT.nil @W.BT.nil)))))) (N_ (@W.boot_o_5 x0) (N_ (@W.boot_o_9 x0) (N_ (o53 x0) (N_ (o69 x0) (N_ (o107 x0) (N_ (o175 x0) (N_ (o312 x0) @W.BT.nil @W.BT.nil) @W.BT.nil) (N_ (o245 x0) (N_ (o382 x0) @W.BT.nil @W.BT.nil) @W.BT.nil)) (N_ (o141 x0) (N_ (o210 x0) (N_ (o347 x0) @W.BT.nil @W.BT.nil) @W.BT.nil) (N_ (o277 x0) (N_ (o414 x0) @W.BT.nil @W.BT.nil) @W.BT.nil))) (N_ (o91 x0) (N_ (o123 x0) (N_ (o191 x0) (N_ (o328 x0) @W.BT.nil @W.BT.nil) @W.BT.nil) (N_ (o261 x0) (N_ (o398 x0) @W.BT.nil @W.BT.nil) @W.BT.nil)) (N_ (o159 x0) (N_ (o226 x0) (N_ (o363 x0) @W.BT.nil @W.BT.nil) @W.BT.nil) (N_ (o296 x0) @W.BT.nil @W.BT.nil)))) (N_ (o61 x0) (N_ (o80 x0) (N_ (o115 x0) (N_ (o183 x0) (N_ (o320 x0) @W.BT.nil @W.BT.nil) @W.BT.nil) (N_ (o253 x0) (N_ (o390 x0) @W.BT.nil @W.BT.nil) @W.BT.nil)) (N_ (o151 x0) (N_ (o218 x0) (N_ (o355 x0) @W.BT.nil @W.BT.nil) @W.BT.nil) (N_ (o288 x0) @W.BT.nil @W.BT.nil))) (N_ (o99 x0) (N_ (o131 x0) (N_ (o199 x0) (N_ (o339 x0) @W.BT.nil @W.BT.nil) @W.BT.nil) (N_ (o269 x0) (N_ (o406 x0) @W.BT.nil @W.BT.nil) @W.BT.nil)) (N_ (o167 x0) (N_ (o234 x0) (N_ (o374 x0) @W.BT.nil @W.BT.nil) @W.BT.nil) (N_ (o304 x0) @W.BT.nil @W.BT.nil))))) (N_ (o45 x0) (N_ (o57 x0) (N_ (o76 x0) (N_ (o111 x0) (N_ (o179 x0) (N_ (o316 x0) @W.BT.nil @W.BT.nil) @W.BT.nil) (N_ (o249 x0) (N_ (o386 x0) @W.BT.nil @W.BT.nil) @W.BT.nil)) (N_ (o147 x0) (N_ (o214 x0) (N_ (o351 x0) @W.BT.nil @W.BT.nil) @W.BT.nil) (N_ (o281 x0) @W.BT.nil @W.BT.nil))) (N_ (o95 x0) (N_ (o127 x0) (N_ (o195 x0) (N_ (o335 x0) @W.BT.nil @W.BT.nil) @W.BT.nil) (N_ (o265 x0) (N_ (o402 x0) @W.BT.nil @W.BT.nil) @W.BT.nil)) (N_ (o163 x0) (N_ (o230 x0) (N_ (o367 x0) @W.BT.nil @W.BT.nil) @W.BT.nil) (N_ (o300 x0) @W.BT.nil @W.BT.nil)))) (N_ (o65 x0) (N_ (o84 x0) (N_ (o119 x0) (N_ (o187 x0) (N_ (o324 x0) @W.BT.nil @W.BT.nil) @W.BT.nil) (N_ (o257 x0) (N_ (o394 x0) @W.BT.nil @W.BT.nil) @W.BT.nil)) (N_ (o155 x0) (N_ (o222 x0) (N_ (o359 x0) @W.BT.nil @W.BT.nil) @W.BT.nil) (N_ (o292 x0) @W.BT.nil @W.BT.nil))) (N_ (o103 x0) (N_ (o135 x0) (N_ (o206 x0) (N_ (o343 x0) @W.BT.nil @W.BT.nil) @W.BT.nil) (N_ (o273 x0) (N_ (o410 x0) @W.BT.nil @W.BT.nil) @W.BT.nil)) (N_ (o171 x0) (N_ (o238 x0) (N_ (o378 x0) @W.BT.nil @W.BT.nil) @W.BT.nil) (N_ (o308 x0) @W.BT.nil @W.BT.nil))))))) (N_ (@W.boot_o_2 x0) (N_ (@W.boot_o_4 x0) (N_ (@W.boot_o_8 x0) (N_ (o52 x0) (N_ (o68 x0) (N_ (o106 x0) (N_ (o174 x0) (N_ (o311 x0) @W.BT.nil @W.BT.nil) @W.BT.nil) (N_ (o244 x0) (N_ (o381 x0) @W.BT.nil @W.BT.nil) @W.BT.nil)) (N_ (o140 x0) (N_ (o209 x0) (N_ (o346 x0) @W.BT.nil @W.BT.nil) @W.BT.nil) (N_ (o276 x0) (N_ (o413 x0) @W.BT.nil @W.BT.nil) @W.BT.nil))) (N_ (o90 x0) (N_ (o122 x0) (N_ (o190 x0) (N_ (o327 x0) @W.BT.nil @W.BT.nil) @W.BT.nil) (N_ (o260 x0) (N_ (o397 x0) @W.BT.nil @W.BT.nil) @W.BT.nil)) (N_ (o158 x0) (N_ (o225 x0) (N_ (o362 x0) @W.BT.nil @W.BT.nil) @W.BT.nil) (N_ (o295 x0) @W.BT.nil @W.BT.nil)))) (N_ (o60 x0) (N_ (o79 x0) (N_ (o114 x0) (N_ (o182 x0) (N_ (o319 x0) @W.BT.nil @W.BT.nil) @W.BT.nil) (N_ (o252 x0) (N_ (o389 x0) @W.BT.nil @W.BT.nil) @W.BT.nil)) (N_ (o150 x0) (N_ (o217 x0) (N_ (o354 x0) @W.BT.nil @W.BT.nil) @W.BT.nil) (N_ (o287 x0) @W.BT.nil @W.BT.nil))) (N_ (o98 x0) (N_ (o130 x0) (N_ (o370 x0) (N_ (o338 x0) @W.BT.nil @W.BT.nil) @W.BT.nil) (N_ (o268 x0) (N_ (o405 x0) @W.BT.nil @W.BT.nil) @W.BT.nil)) (N_ (o166 x0) (N_ (o233 x0) (N_ (o373 x0) @W.BT.nil @W.BT.nil) @W.BT.nil) (N_ (o303 x0) @W.BT.nil @W.BT.nil))))) (N_ (o369 x0) (N_ (o56 x0) (N_ (o75 x0) (N_ (o110 x0) (N_ (o178 x0) (N_ (o315 x0) @W.BT.nil @W.BT.nil) @W.BT.nil) (N_ (o248 x0) (N_ (o385 x0) @W.BT.nil @W.BT.nil) @W.BT.nil)) (N_ (o144 x0) (N_ (o213 x0) (N_ (o350 x0) @W.BT.nil @W.BT.nil) @W.BT.nil) (N_ (o280 x0) (N_ (o417 x0) @W.BT.nil @W.BT.nil) @W.BT.nil))) (N_ (o94 x0) (N_ (o126 x0) (N_ (o194 x0) (N_ (o331 x0) @W.BT.nil @W.BT.nil) @W.BT.nil) (N_ (o264 x0) (N_ (o401 x0) @W.BT.nil @W.BT.nil) @W.BT.nil)) (N_ (o162 x0) (N_ (o229 x0) (N_ (o366 x0) @W.BT.nil @W.BT.nil) @W.BT.nil) (N_ (o299 x0) @W.BT.nil @W.BT.nil)))) (N_ (o64 x0) (N_ (o83 x0) (N_ (o118 x0) (N_ (o186 x0) (N_ (o323 x0) @W.BT.nil @W.BT.nil) @W.BT.nil) (N_ (o256 x0) (N_ (o393 x0) @W.BT.nil @W.BT.nil) @W.BT.nil)) (N_ (o154 x0) (N_ (o221 x0) (N_ (o358 x0) @W.BT.nil @W.BT.nil) @W.BT.nil) (N_ (o291 x0) @W.BT.nil @W.BT.nil))) (N_ (o102 x0) (N_ (o134 x0) (N_ (o202 x0) (N_ (o342 x0) @W.BT.nil @W.BT.nil) @W.BT.nil) (N_ (o272 x0) (N_ (o409 x0) @W.BT.nil @W.BT.nil) @W.BT.nil)) (N_ (o170 x0) (N_ (o237 x0) (N_ (o377 x0) @W.BT.nil @W.BT.nil) @W.BT.nil) (N_ (o307 x0) @W.BT.nil @W.BT.nil)))))) (N_ (@W.boot_o_6 x0) (N_ (@W.boot_o_10 x0) (N_ (o54 x0) (N_ (o70 x0) (N_ (o108 x0) (N_ (o176 x0) (N_ (o313 x0) @W.BT.nil @W.BT.nil) @W.BT.nil) (N_ (o246 x0) (N_ (o383 x0) @W.BT.nil @W.BT.nil) @W.BT.nil)) (N_ (o142 x0) (N_ (o211 x0) (N_ (o348 x0) @W.BT.nil @W.BT.nil) @W.BT.nil) (N_ (o278 x0) (N_ (o415 x0) @W.BT.nil @W.BT.nil) @W.BT.nil))) (N_ (o92 x0) (N_ (o124 x0) (N_ (o192 x0) (N_ (o329 x0) @W.BT.nil @W.BT.nil) @W.BT.nil) (N_ (o262 x0) (N_ (o399 x0) @W.BT.nil @W.BT.nil) @W.BT.nil)) (N_ (o160 x0) (N_ (o227 x0) (N_ (o364 x0) @W.BT.nil @W.BT.nil) @W.BT.nil) (N_ (o297 x0) @W.BT.nil @W.BT.nil)))) (N_ (o62 x0) (N_ (o81 x0) (N_ (o116 x0) (N_ (o184 x0) (N_ (o321 x0) @W.BT.nil @W.BT.nil) @W.BT.nil) (N_ (o254 x0) (N_ (o391 x0) @W.BT.nil @W.BT.nil) @W.BT.nil)) (N_ (o152 x0) (N_ (o219 x0) (N_ (o356 x0) @W.BT.nil @W.BT.nil) @W.BT.nil) (N_ (o289 x0) @W.BT.nil @W.BT.nil))) (N_ (o100 x0) (N_ (o132 x0) (N_ (o200 x0) (N_ (o340 x0) @W.BT.nil @W.BT.nil) @W.BT.nil) (N_ (o270 x0) (N_ (o407 x0) @W.BT.nil @W.BT.nil) @W.BT.nil)) (N_ (o168 x0) (N_ (o235 x0) (N_ (o375 x0) @W.BT.nil @W.BT.nil) @W.BT.nil) (N_ (o305 x0) @W.BT.nil @W.BT.nil))))) (N_ (o46 x0) (N_ (o58 x0) (N_ (o77 x0) (N_ (o112 x0) (N_ (o180 x0) (N_ (o317 x0) @W.BT.nil @W.BT.nil) @W.BT.nil) (N_ (o250 x0) (N_ (o387 x0) @W.BT.nil @W.BT.nil) @W.BT.nil)) (N_ (o148 x0) (N_ (o215 x0) (N_ (o352 x0) @W.BT.nil @W.BT.nil) @W.BT.nil) (N_ (o285 x0) @W.BT.nil @W.BT.nil))) (N_ (o96 x0) (N_ (o128 x0) (N_ (o196 x0) (N_ (o336 x0) @W.BT.nil @W.BT.nil) @W.BT.nil) (N_ (o266 x0) (N_ (o403 x0) @W.BT.nil @W.BT.nil) @W.BT.nil)) (N_ (o164 x0) (N_ (o231 x0) (N_ (o371 x0) @W.BT.nil @W.BT.nil) @W.BT.nil) (N_ (o301 x0) @W.BT.nil @W.BT.nil)))) (N_ (o66 x0) (N_ (o85 x0) (N_ (o120 x0) (N_ (o188 x0) (N_ (o325 x0) @W.BT.nil @W.BT.nil) @W.BT.nil) (N_ (o258 x0) (N_ (o395 x0) @W.BT.nil @W.BT.nil) @W.BT.nil)) (N_ (o156 x0) (N_ (o223 x0) (N_ (o360 x0) @W.BT.nil @W.BT.nil) @W.BT.nil) (N_ (o293 x0) @W.BT.nil @W.BT.nil))) (N_ (o104 x0) (N_ (o138 x0) (N_ (o207 x0) (N_ (o344 x0) @W.BT.nil @W.BT.nil) @W.BT.nil) (N_ (o274 x0) (N_ (o411 x0) @W.BT.nil @W.BT.nil) @W.BT.nil)) (N_ (o172 x0) (N_ (o242 x0) (N_ (o379 x0) @W.BT.nil @W.BT.nil) @W.BT.nil) (N_ (o309 x0) @W.BT.nil @W.BT.nil)))))))))
noncomputable def My.h_sts_368 : (@List.{0} @Stmt) := [My.top 18]
noncomputable def My.h_tree_367 : ((x0 : @Params) → @W.BT) := (fun (x0 : @Params) => (N_ (@W.boot_o_0 x0) (N_ (@W.boot_o_1 x0) (N_ (o332 x0) (N_ (@W.boot_o_7 x0) (N_ (o51 x0) (N_ (o88 x0) (N_ (o105 x0) (N_ (o173 x0) (N_ (o310 x0) @W.BT.nil @W.BT.nil) @W.BT.nil) (N_ (o243 x0) @W.BT.nil @W.BT.nil)) (N_ (o139 x0) (N_ (o208 x0) (N_ (o345 x0) @W.BT.nil @W.BT.nil) @W.BT.nil) (N_ (o275 x0) @W.BT.nil @W.BT.nil))) (N_ (o89 x0) (N_ (o121 x0) (N_ (o189 x0) (N_ (o326 x0) @W.BT.nil @W.BT.nil) @W.BT.nil) (N_ (o259 x0) @W.BT.nil @W.BT.nil)) (N_ (o157 x0) (N_ (o224 x0) (N_ (o361 x0) @W.BT.nil @W.BT.nil) @W.BT.nil) (N_ (o294 x0) @W.BT.nil @W.BT.nil)))) (N_ (o59 x0) (N_ (o78 x0) (N_ (o113 x0) (N_ (o181 x0) (N_ (o318 x0) @W.BT.nil @W.BT.nil) @W.BT.nil) (N_ (o251 x0) @W.BT.nil @W.BT.nil)) (N_ (o149 x0) (N_ (o216 x0) (N_ (o353 x0) @W.BT.nil @W.BT.nil) @W.BT.nil) (N_ (o286 x0) @W.BT.nil @W.BT.nil))) (N_ (o97 x0) (N_ (o129 x0) (N_ (o197 x0) (N_ (o337 x0) @W.BT.nil @W.BT.nil) @W.BT.nil) (N_ (o267 x0) @W.BT.nil @W.BT.nil)) (N_ (o165 x0) (N_ (o232 x0) @W.BT.nil @W.BT.nil) (N_ (o302 x0) @W.BT.nil @W.BT.nil))))) (N_ (o43 x0) (N_ (o55 x0) (N_ (o74 x0) (N_ (o109 x0) (N_ (o177 x0) (N_ (o314 x0) @W.BT.nil @W.BT.nil) @W.BT.nil) (N_ (o247 x0) @W.BT.nil @W.BT.nil)) (N_ (o143 x0) (N_ (o212 x0) (N_ (o349 x0) @W.BT.nil @W.BT.nil) @W.BT.nil) (N_ (o279 x0) @W.BT.nil @W.BT.nil))) (N_ (o93 x0) (N_ (o125 x0) (N_ (o193 x0) (N_ (o330 x0) @W.BT.nil @W.BT.nil) @W.BT.nil) (N_ (o263 x0) @W.BT.nil @W.BT.nil)) (N_ (o161 x0) (N_ (o228 x0) (N_ (o365 x0) @W.BT.nil @W.BT.nil) @W.BT.nil) (N_ (o298 x0) @W.BT.nil @W.BT.nil)))) (N_ (o63 x0) (N_ (o82 x0) (N_ (o117 x0) (N_ (o185 x0) (N_ (o322 x0) @W.BT.nil @W.BT.nil) @W.BT.nil) (N_ (o255 x0) @W.BT.nil @W.BT.nil)) (N_ (o153 x0) (N_ (o220 x0) (N_ (o357 x0) @W.BT.nil @W.BT.nil) @W.BT.nil) (N_ (o290 x0) @W.BT.nil @W.BT.nil))) (N_ (o101 x0) (N_ (o133 x0) (N_ (o201 x0) (N_ (o341 x0) @W.BT.nil @W.BT.nil) @W.BT.nil) (N_ (o271 x0) @W.BT.nil @W.BT.nil)) (N_ (o169 x0) (N_ (o236 x0) @W.BT.nil @W.BT.nil) (N_ (o306 x0) @W.BT.nil @W.BT.nil)))))) (N_ (@W.boot_o_5 x0) (N_ (@W.boot_o_9 x0) (N_ (o53 x0) (N_ (o69 x0) (N_ (o107 x0) (N_ (o175 x0) (N_ (o312 x0) @W.BT.nil @W.BT.nil) @W.BT.nil) (N_ (o245 x0) @W.BT.nil @W.BT.nil)) (N_ (o141 x0) (N_ (o210 x0) (N_ (o347 x0) @W.BT.nil @W.BT.nil) @W.BT.nil) (N_ (o277 x0) @W.BT.nil @W.BT.nil))) (N_ (o91 x0) (N_ (o123 x0) (N_ (o191 x0) (N_ (o328 x0) @W.BT.nil @W.BT.nil) @W.BT.nil) (N_ (o261 x0) @W.BT.nil @W.BT.nil)) (N_ (o159 x0) (N_ (o226 x0) (N_ (o363 x0) @W.BT.nil @W.BT.nil) @W.BT.nil) (N_ (o296 x0) @W.BT.nil @W.BT.nil)))) (N_ (o61 x0) (N_ (o80 x0) (N_ (o115 x0) (N_ (o183 x0) (N_ (o320 x0) @W.BT.nil @W.BT.nil) @W.BT.nil) (N_ (o253 x0) @W.BT.nil @W.BT.nil)) (N_ (o151 x0) (N_ (o218 x0) (N_ (o355 x0) @W.BT.nil @W.BT.nil) @W.BT.nil) (N_ (o288 x0) @W.BT.nil @W.BT.nil))) (N_ (o99 x0) (N_ (o131 x0) (N_ (o199 x0) (N_ (o339 x0) @W.BT.nil @W.BT.nil) @W.BT.nil) (N_ (o269 x0) @W.BT.nil @W.BT.nil)) (N_ (o167 x0) (N_ (o234 x0) @W.BT.nil @W.BT.nil) (N_ (o304 x0) @W.BT.nil @W.BT.nil))))) (N_ (o45 x0) (N_ (o57 x0) (N_ (o76 x0) (N_ (o111 x0) (N_ (o179 x0) (N_ (o316 x0) @W.BT.nil @W.BT.nil) @W.BT.nil) (N_ (o249 x0) @W.BT.nil @W.BT.nil)) (N_ (o147 x0) (N_ (o214 x0) (N_ (o351 x0) @W.BT.nil @W.BT.nil) @W.BT.nil) (N_ (o281 x0) @W.BT.nil @W.BT.nil))) (N_ (o95 x0) (N_ (o127 x0) (N_ (o195 x0) (N_ (o335 x0) @W.BT.nil @W.BT.nil) @W.BT.nil) (N_ (o265 x0) @W.BT.nil @W.BT.nil)) (N_ (o163 x0) (N_ (o230 x0) (N_ (o367 x0) @W.BT.nil @W.BT.nil) @W.BT.nil) (N_ (o300 x0) @W.BT.nil @W.BT.nil)))) (N_ (o65 x0) (N_ (o84 x0) (N_ (o119 x0) (N_ (o187 x0) (N_ (o324 x0) @W.BT.nil @W.BT.nil) @W.BT.nil) (N_ (o257 x0) @W.BT.nil @W.BT.nil)) (N_ (o155 x0) (N_ (o222 x0) (N_ (o359 x0) @W.BT.nil @W.BT.nil) @W.BT.nil) (N_ (o292 x0) @W.BT.nil @W.BT.nil))) (N_ (o103 x0) (N_ (o135 x0) (N_ (o206 x0) (N_ (o343 x0) @W.BT.nil @W.BT.nil) @W.BT.nil) (N_ (o273 x0) @W.BT.nil @W.BT.nil)) (N_ (o171 x0) (N_ (o238 x0) @W.BT.nil @W.BT.nil) (N_ (o308 x0) @W.BT.nil @W.BT.nil))))))) (N_ (@W.boot_o_2 x0) (N_ (@W.boot_o_4 x0) (N_ (@W.boot_o_8 x0) (N_ (o52 x0) (N_ (o68 x0) (N_ (o106 x0) (N_ (o174 x0) (N_ (o311 x0) @W.BT.nil @W.BT.nil) @W.BT.nil) (N_ (o244 x0) @W.BT.nil @W.BT.nil)) (N_ (o140 x0) (N_ (o209 x0) (N_ (o346 x0) @W.BT.nil @W.BT.nil) @W.BT.nil) (N_ (o276 x0) @W.BT.nil @W.BT.nil))) (N_ (o90 x0) (N_ (o122 x0) (N_ (o190 x0) (N_ (o327 x0) @W.BT.nil @W.BT.nil) @W.BT.nil) (N_ (o260 x0) @W.BT.nil @W.BT.nil)) (N_ (o158 x0) (N_ (o225 x0) (N_ (o362 x0) @W.BT.nil @W.BT.nil) @W.BT.nil) (N_ (o295 x0) @W.BT.nil @W.BT.nil)))) (N_ (o60 x0) (N_ (o79 x0) (N_ (o114 x0) (N_ (o182 x0) (N_ (o319 x0) @W.BT.nil @W.BT.nil) @W.BT.nil) (N_ (o252 x0) @W.BT.nil @W.BT.nil)) (N_ (o150 x0) (N_ (o217 x0) (N_ (o354 x0) @W.BT.nil @W.BT.nil) @W.BT.nil) (N_ (o287 x0) @W.BT.nil @W.BT.nil))) (N_ (o98 x0) (N_ (o130 x0) (N_ (o334 x0) (N_ (o338 x0) @W.BT.nil @W.BT.nil) @W.BT.nil) (N_ (o268 x0) @W.BT.nil @W.BT.nil)) (N_ (o166 x0) (N_ (o233 x0) @W.BT.nil @W.BT.nil) (N_ (o303 x0) @W.BT.nil @W.BT.nil))))) (N_ (o333 x0) (N_ (o56 x0) (N_ (o75 x0) (N_ (o110 x0) (N_ (o178 x0) (N_ (o315 x0) @W.BT.nil @W.BT.nil) @W.BT.nil) (N_ (o248 x0) @W.BT.nil @W.BT.nil)) (N_ (o144 x0) (N_ (o213 x0) (N_ (o350 x0) @W.BT.nil @W.BT.nil) @W.BT.nil) (N_ (o280 x0) @W.BT.nil @W.BT.nil))) (N_ (o94 x0) (N_ (o126 x0) (N_ (o194 x0) (N_ (o331 x0) @W.BT.nil @W.BT.nil) @W.BT.nil) (N_ (o264 x0) @W.BT.nil @W.BT.nil)) (N_ (o162 x0) (N_ (o229 x0) (N_ (o366 x0) @W.BT.nil @W.BT.nil) @W.BT.nil) (N_ (o299 x0) @W.BT.nil @W.BT.nil)))) (N_ (o64 x0) (N_ (o83 x0) (N_ (o118 x0) (N_ (o186 x0) (N_ (o323 x0) @W.BT.nil @W.BT.nil) @W.BT.nil) (N_ (o256 x0) @W.BT.nil @W.BT.nil)) (N_ (o154 x0) (N_ (o221 x0) (N_ (o358 x0) @W.BT.nil @W.BT.nil) @W.BT.nil) (N_ (o291 x0) @W.BT.nil @W.BT.nil))) (N_ (o102 x0) (N_ (o134 x0) (N_ (o202 x0) (N_ (o342 x0) @W.BT.nil @W.BT.nil) @W.BT.nil) (N_ (o272 x0) @W.BT.nil @W.BT.nil)) (N_ (o170 x0) (N_ (o237 x0) @W.BT.nil @W.BT.nil) (N_ (o307 x0) @W.BT.nil @W.BT.nil)))))) (N_ (@W.boot_o_6 x0) (N_ (@W.boot_o_10 x0) (N_ (o54 x0) (N_ (o70 x0) (N_ (o108 x0) (N_ (o176 x0) (N_ (o313 x0) @W.BT.nil @W.BT.nil) @W.BT.nil) (N_ (o246 x0) @W.BT.nil @W.BT.nil)) (N_ (o142 x0) (N_ (o211 x0) (N_ (o348 x0) @W.BT.nil @W.BT.nil) @W.BT.nil) (N_ (o278 x0) @W.BT.nil @W.BT.nil))) (N_ (o92 x0) (N_ (o124 x0) (N_ (o192 x0) (N_ (o329 x0) @W.BT.nil @W.BT.nil) @W.BT.nil) (N_ (o262 x0) @W.BT.nil @W.BT.nil)) (N_ (o160 x0) (N_ (o227 x0) (N_ (o364 x0) @W.BT.nil @W.BT.nil) @W.BT.nil) (N_ (o297 x0) @W.BT.nil @W.BT.nil)))) (N_ (o62 x0) (N_ (o81 x0) (N_ (o116 x0) (N_ (o184 x0) (N_ (o321 x0) @W.BT.nil @W.BT.nil) @W.BT.nil) (N_ (o254 x0) @W.BT.nil @W.BT.nil)) (N_ (o152 x0) (N_ (o219 x0) (N_ (o356 x0) @W.BT.nil @W.BT.nil) @W.BT.nil) (N_ (o289 x0) @W.BT.nil @W.BT.nil))) (N_ (o100 x0) (N_ (o132 x0) (N_ (o200 x0) (N_ (o340 x0) @W.BT.nil @W.BT.nil) @W.BT.nil) (N_ (o270 x0) @W.BT.nil @W.BT.nil)) (N_ (o168 x0) (N_ (o235 x0) @W.BT.nil @W.BT.nil) (N_ (o305 x0) @W.BT.nil @W.BT.nil))))) (N_ (o46 x0) (N_ (o58 x0) (N_ (o77 x0) (N_ (o112 x0) (N_ (o180 x0) (N_ (o317 x0) @W.BT.nil @W.BT.nil) @W.BT.nil) (N_ (o250 x0) @W.BT.nil @W.BT.nil)) (N_ (o148 x0) (N_ (o215 x0) (N_ (o352 x0) @W.BT.nil @W.BT.nil) @W.BT.nil) (N_ (o285 x0) @W.BT.nil @W.BT.nil))) (N_ (o96 x0) (N_ (o128 x0) (N_ (o196 x0) (N_ (o336 x0) @W.BT.nil @W.BT.nil) @W.BT.nil) (N_ (o266 x0) @W.BT.nil @W.BT.nil)) (N_ (o164 x0) (N_ (o231 x0) @W.BT.nil @W.BT.nil) (N_ (o301 x0) @W.BT.nil @W.BT.nil)))) (N_ (o66 x0) (N_ (o85 x0) (N_ (o120 x0) (N_ (o188 x0) (N_ (o325 x0) @W.BT.nil @W.BT.nil) @W.BT.nil) (N_ (o258 x0) @W.BT.nil @W.BT.nil)) (N_ (o156 x0) (N_ (o223 x0) (N_ (o360 x0) @W.BT.nil @W.BT.nil) @W.BT.nil) (N_ (o293 x0) @W.BT.nil @W.BT.nil))) (N_ (o104 x0) (N_ (o138 x0) (N_ (o207 x0) (N_ (o344 x0) @W.BT.nil @W.BT.nil) @W.BT.nil) (N_ (o274 x0) @W.BT.nil @W.BT.nil)) (N_ (o172 x0) (N_ (o242 x0) @W.BT.nil @W.BT.nil) (N_ (o309 x0) @W.BT.nil @W.BT.nil)))))))))
noncomputable def My.h_sts_332 : (@List.{0} @Stmt) := [My.top 17]
noncomputable def My.h_tree_331 : ((x0 : @Params) → @W.BT) := (fun (x0 : @Params) => (N_ (@W.boot_o_0 x0) (N_ (@W.boot_o_1 x0) (N_ (o282 x0) (N_ (@W.boot_o_7 x0) (N_ (o51 x0) (N_ (o88 x0) (N_ (o105 x0) (N_ (o173 x0) (N_ (o310 x0) @W.BT.nil @W.BT.nil) @W.BT.nil) (N_ (o243 x0) @W.BT.nil @W.BT.nil)) (N_ (o139 x0) (N_ (o208 x0) @W.BT.nil @W.BT.nil) (N_ (o275 x0) @W.BT.nil @W.BT.nil))) (N_ (o89 x0) (N_ (o121 x0) (N_ (o189 x0) (N_ (o326 x0) @W.BT.nil @W.BT.nil) @W.BT.nil) (N_ (o259 x0) @W.BT.nil @W.BT.nil)) (N_ (o157 x0) (N_ (o224 x0) @W.BT.nil @W.BT.nil) (N_ (o294 x0) @W.BT.nil @W.BT.nil)))) (N_ (o59 x0) (N_ (o78 x0) (N_ (o113 x0) (N_ (o181 x0) (N_ (o318 x0) @W.BT.nil @W.BT.nil) @W.BT.nil) (N_ (o251 x0) @W.BT.nil @W.BT.nil)) (N_ (o149 x0) (N_ (o216 x0) @W.BT.nil @W.BT.nil) (N_ (o286 x0) @W.BT.nil @W.BT.nil))) (N_ (o97 x0) (N_ (o129 x0) (N_ (o197 x0) @W.BT.nil @W.BT.nil) (N_ (o267 x0) @W.BT.nil @W.BT.nil)) (N_ (o165 x0) (N_ (o232 x0) @W.BT.nil @W.BT.nil) (N_ (o302 x0) @W.BT.nil @W.BT.nil))))) (N_ (o43 x0) (N_ (o55 x0) (N_ (o74 x0) (N_ (o109 x0) (N_ (o177 x0) (N_ (o314 x0) @W.BT.nil @W.BT.nil) @W.BT.nil) (N_ (o247 x0) @W.BT.nil @W.BT.nil)) (N_ (o143 x0) (N_ (o212 x0) @W.BT.nil @W.BT.nil) (N_ (o279 x0) @W.BT.nil @W.BT.nil))) (N_ (o93 x0) (N_ (o125 x0) (N_ (o193 x0) (N_ (o330 x0) @W.BT.nil @W.BT.nil) @W.BT.nil) (N_ (o263 x0) @W.BT.nil @W.BT.nil)) (N_ (o161 x0) (N_ (o228 x0) @W.BT.nil @W.BT.nil) (N_ (o298 x0) @W.BT.nil @W.BT.nil)))) (N_ (o63 x0) (N_ (o82 x0) (N_ (o117 x0) (N_ (o185 x0) (N_ (o322 x0) @W.BT.nil @W.BT.nil) @W.BT.nil) (N_ (o255 x0) @W.BT.nil @W.BT.nil)) (N_ (o153 x0) (N_ (o220 x0) @W.BT.nil @W.BT.nil) (N_ (o290 x0) @W.BT.nil @W.BT.nil))) (N_ (o101 x0) (N_ (o133 x0) (N_ (o201 x0) @W.BT.nil @W.BT.nil) (N_ (o271 x0) @W.BT.nil @W.BT.nil)) (N_ (o169 x0) (N_ (o236 x0) @W.BT.nil @W.BT.nil) (N_ (o306 x0) @W.BT.nil @W.BT.nil)))))) (N_ (@W.boot_o_5 x0) (N_ (@W.boot_o_9 x0) (N_ (o53 x0) (N_ (o69 x0) (N_ (o107 x0) (N_ (o175 x0) (N_ (o312 x0) @W.BT.nil @W.BT.nil) @W.BT.nil) (N_ (o245 x0) @W.BT.nil @W.BT.nil)) (N_ (o141 x0) (N_ (o210 x0) @W.BT.nil @W.BT.nil) (N_ (o277 x0) @W.BT.nil @W.BT.nil))) (N_ (o91 x0) (N_ (o123 x0) (N_ (o191 x0) (N_ (o328 x0) @W.BT.nil @W.BT.nil) @W.BT.nil) (N_ (o261 x0) @W.BT.nil @W.BT.nil)) (N_ (o159 x0) (N_ (o226 x0) @W.BT.nil @W.BT.nil) (N_ (o296 x0) @W.BT.nil @W.BT.nil)))) (N_ (o61 x0) (N_ (o80 x0) (N_ (o115 x0) (N_ (o183 x0) (N_ (o320 x0) @W.BT.nil @W.BT.nil) @W.BT.nil) (N_ (o253 x0) @W.BT.nil @W.BT.nil)) (N_ (o151 x0) (N_ (o218 x0) @W.BT.nil @W.BT.nil) (N_ (o288 x0) @W.BT.nil @W.BT.nil))) (N_ (o99 x0) (N_ (o131 x0) (N_ (o199 x0) @W.BT.nil @W.BT.nil) (N_ (o269 x0) @W.BT.nil @W.BT.nil)) (N_ (o167 x0) (N_ (o234 x0) @W.BT.nil @W.BT.nil) (N_ (o304 x0) @W.BT.nil @W.BT.nil))))) (N_ (o45 x0) (N_ (o57 x0) (N_ (o76 x0) (N_ (o111 x0) (N_ (o179 x0) (N_ (o316 x0) @W.BT.nil @W.BT.nil) @W.BT.nil) (N_ (o249 x0) @W.BT.nil @W.BT.nil)) (N_ (o147 x0) (N_ (o214 x0) @W.BT.nil @W.BT.nil) (N_ (o281 x0) @W.BT.nil @W.BT.nil))) (N_ (o95 x0) (N_ (o127 x0) (N_ (o195 x0) @W.BT.nil @W.BT.nil) (N_ (o265 x0) @W.BT.nil @W.BT.nil)) (N_ (o163 x0) (N_ (o230 x0) @W.BT.nil @W.BT.nil) (N_ (o300 x0) @W.BT.nil @W.BT.nil)))) (N_ (o65 x0) (N_ (o84 x0) (N_ (o119 x0) (N_ (o187 x0) (N_ (o324 x0) @W.BT.nil @W.BT.nil) @W.BT.nil) (N_ (o257 x0) @W.BT.nil @W.BT.nil)) (N_ (o155 x0) (N_ (o222 x0) @W.BT.nil @W.BT.nil) (N_ (o292 x0) @W.BT.nil @W.BT.nil))) (N_ (o103 x0) (N_ (o135 x0) (N_ (o206 x0) @W.BT.nil @W.BT.nil) (N_ (o273 x0) @W.BT.nil @W.BT.nil)) (N_ (o171 x0) (N_ (o238 x0) @W.BT.nil @W.BT.nil) (N_ (o308 x0) @W.BT.nil @W.BT.nil))))))) (N_ (@W.boot_o_2 x0) (N_ (@W.boot_o_4 x0) (N_ (@W.boot_o_8 x0) (N_ (o52 x0) (N_ (o68 x0) (N_ (o106 x0) (N_ (o174 x0) (N_ (o311 x0) @W.BT.nil @W.BT.nil) @W.BT.nil) (N_ (o244 x0) @W.BT.nil @W.BT.nil)) (N_ (o140 x0) (N_ (o209 x0) @W.BT.nil @W.BT.nil) (N_ (o276 x0) @W.BT.nil @W.BT.nil))) (N_ (o90 x0) (N_ (o122 x0) (N_ (o190 x0) (N_ (o327 x0) @W.BT.nil @W.BT.nil) @W.BT.nil) (N_ (o260 x0) @W.BT.nil @W.BT.nil)) (N_ (o158 x0) (N_ (o225 x0) @W.BT.nil @W.BT.nil) (N_ (o295 x0) @W.BT.nil @W.BT.nil)))) (N_ (o60 x0) (N_ (o79 x0) (N_ (o114 x0) (N_ (o182 x0) (N_ (o319 x0) @W.BT.nil @W.BT.nil) @W.BT.nil) (N_ (o252 x0) @W.BT.nil @W.BT.nil)) (N_ (o150 x0) (N_ (o217 x0) @W.BT.nil @W.BT.nil) (N_ (o287 x0) @W.BT.nil @W.BT.nil))) (N_ (o98 x0) (N_ (o130 x0) (N_ (o284 x0) @W.BT.nil @W.BT.nil) (N_ (o268 x0) @W.BT.nil @W.BT.nil)) (N_ (o166 x0) (N_ (o233 x0) @W.BT.nil @W.BT.nil) (N_ (o303 x0) @W.BT.nil @W.BT.nil))))) (N_ (o283 x0) (N_ (o56 x0) (N_ (o75 x0) (N_ (o110 x0) (N_ (o178 x0) (N_ (o315 x0) @W.BT.nil @W.BT.nil) @W.BT.nil) (N_ (o248 x0) @W.BT.nil @W.BT.nil)) (N_ (o144 x0) (N_ (o213 x0) @W.BT.nil @W.BT.nil) (N_ (o280 x0) @W.BT.nil @W.BT.nil))) (N_ (o94 x0) (N_ (o126 x0) (N_ (o194 x0) (N_ (o331 x0) @W.BT.nil @W.BT.nil) @W.BT.nil) (N_ (o264 x0) @W.BT.nil @W.BT.nil)) (N_ (o162 x0) (N_ (o229 x0) @W.BT.nil @W.BT.nil) (N_ (o299 x0) @W.BT.nil @W.BT.nil)))) (N_ (o64 x0) (N_ (o83 x0) (N_ (o118 x0) (N_ (o186 x0) (N_ (o323 x0) @W.BT.nil @W.BT.nil) @W.BT.nil) (N_ (o256 x0) @W.BT.nil @W.BT.nil)) (N_ (o154 x0) (N_ (o221 x0) @W.BT.nil @W.BT.nil) (N_ (o291 x0) @W.BT.nil @W.BT.nil))) (N_ (o102 x0) (N_ (o134 x0) (N_ (o202 x0) @W.BT.nil @W.BT.nil) (N_ (o272 x0) @W.BT.nil @W.BT.nil)) (N_ (o170 x0) (N_ (o237 x0) @W.BT.nil @W.BT.nil) (N_ (o307 x0) @W.BT.nil @W.BT.nil)))))) (N_ (@W.boot_o_6 x0) (N_ (@W.boot_o_10 x0) (N_ (o54 x0) (N_ (o70 x0) (N_ (o108 x0) (N_ (o176 x0) (N_ (o313 x0) @W.BT.nil @W.BT.nil) @W.BT.nil) (N_ (o246 x0) @W.BT.nil @W.BT.nil)) (N_ (o142 x0) (N_ (o211 x0) @W.BT.nil @W.BT.nil) (N_ (o278 x0) @W.BT.nil @W.BT.nil))) (N_ (o92 x0) (N_ (o124 x0) (N_ (o192 x0) (N_ (o329 x0) @W.BT.nil @W.BT.nil) @W.BT.nil) (N_ (o262 x0) @W.BT.nil @W.BT.nil)) (N_ (o160 x0) (N_ (o227 x0) @W.BT.nil @W.BT.nil) (N_ (o297 x0) @W.BT.nil @W.BT.nil)))) (N_ (o62 x0) (N_ (o81 x0) (N_ (o116 x0) (N_ (o184 x0) (N_ (o321 x0) @W.BT.nil @W.BT.nil) @W.BT.nil) (N_ (o254 x0) @W.BT.nil @W.BT.nil)) (N_ (o152 x0) (N_ (o219 x0) @W.BT.nil @W.BT.nil) (N_ (o289 x0) @W.BT.nil @W.BT.nil))) (N_ (o100 x0) (N_ (o132 x0) (N_ (o200 x0) @W.BT.nil @W.BT.nil) (N_ (o270 x0) @W.BT.nil @W.BT.nil)) (N_ (o168 x0) (N_ (o235 x0) @W.BT.nil @W.BT.nil) (N_ (o305 x0) @W.BT.nil @W.BT.nil))))) (N_ (o46 x0) (N_ (o58 x0) (N_ (o77 x0) (N_ (o112 x0) (N_ (o180 x0) (N_ (o317 x0) @W.BT.nil @W.BT.nil) @W.BT.nil) (N_ (o250 x0) @W.BT.nil @W.BT.nil)) (N_ (o148 x0) (N_ (o215 x0) @W.BT.nil @W.BT.nil) (N_ (o285 x0) @W.BT.nil @W.BT.nil))) (N_ (o96 x0) (N_ (o128 x0) (N_ (o196 x0) @W.BT.nil @W.BT.nil) (N_ (o266 x0) @W.BT.nil @W.BT.nil)) (N_ (o164 x0) (N_ (o231 x0) @W.BT.nil @W.BT.nil) (N_ (o301 x0) @W.BT.nil @W.BT.nil)))) (N_ (o66 x0) (N_ (o85 x0) (N_ (o120 x0) (N_ (o188 x0) (N_ (o325 x0) @W.BT.nil @W.BT.nil) @W.BT.nil) (N_ (o258 x0) @W.BT.nil @W.BT.nil)) (N_ (o156 x0) (N_ (o223 x0) @W.BT.nil @W.BT.nil) (N_ (o293 x0) @W.BT.nil @W.BT.nil))) (N_ (o104 x0) (N_ (o138 x0) (N_ (o207 x0) @W.BT.nil @W.BT.nil) (N_ (o274 x0) @W.BT.nil @W.BT.nil)) (N_ (o172 x0) (N_ (o242 x0) @W.BT.nil @W.BT.nil) (N_ (o309 x0) @W.BT.nil @W.BT.nil)))))))))
noncomputable def My.h_sts_282 : (@List.{0} @Stmt) := [My.top 16]
noncomputable def My.h_tree_281 : ((x0 : @Params) → @W.BT) := (fun (x0 : @Params) => (N_ (@W.boot_o_0 x0) (N_ (@W.boot_o_1 x0) (N_ (o239 x0) (N_ (@W.boot_o_7 x0) (N_ (o51 x0) (N_ (o88 x0) (N_ (o105 x0) (N_ (o173 x0) @W.BT.nil @W.BT.nil) (N_ (o243 x0) @W.BT.nil @W.BT.nil)) (N_ (o139 x0) (N_ (o208 x0) @W.BT.nil @W.BT.nil) (N_ (o275 x0) @W.BT.nil @W.BT.nil))) (N_ (o89 x0) (N_ (o121 x0) (N_ (o189 x0) @W.BT.nil @W.BT.nil) (N_ (o259 x0) @W.BT.nil @W.BT.nil)) (N_ (o157 x0) (N_ (o224 x0) @W.BT.nil @W.BT.nil) @W.BT.nil))) (N_ (o59 x0) (N_ (o78 x0) (N_ (o113 x0) (N_ (o181 x0) @W.BT.nil @W.BT.nil) (N_ (o251 x0) @W.BT.nil @W.BT.nil)) (N_ (o149 x0) (N_ (o216 x0) @W.BT.nil @W.BT.nil) @W.BT.nil)) (N_ (o97 x0) (N_ (o129 x0) (N_ (o197 x0) @W.BT.nil @W.BT.nil) (N_ (o267 x0) @W.BT.nil @W.BT.nil)) (N_ (o165 x0) (N_ (o232 x0) @W.BT.nil @W.BT.nil) @W.BT.nil)))) (N_ (o43 x0) (N_ (o55 x0) (N_ (o74 x0) (N_ (o109 x0) (N_ (o177 x0) @W.BT.nil @W.BT.nil) (N_ (o247 x0) @W.BT.nil @W.BT.nil)) (N_ (o143 x0) (N_ (o212 x0) @W.BT.nil @W.BT.nil) (N_ (o279 x0) @W.BT.nil @W.BT.nil))) (N_ (o93 x0) (N_ (o125 x0) (N_ (o193 x0) @W.BT.nil @W.BT.nil) (N_ (o263 x0) @W.BT.nil @W.BT.nil)) (N_ (o161 x0) (N_ (o228 x0) @W.BT.nil @W.BT.nil) @W.BT.nil))) (N_ (o63 x0) (N_ (o82 x0) (N_ (o117 x0) (N_ (o185 x0) @W.BT.nil @W.BT.nil) (N_ (o255 x0) @W.BT.nil @W.BT.nil)) (N_ (o153 x0) (N_ (o220 x0) @W.BT.nil @W.BT.nil) @W.BT.nil)) (N_ (o101 x0) (N_ (o133 x0) (N_ (o201 x0) @W.BT.nil @W.BT.nil) (N_ (o271 x0) @W.BT.nil @W.BT.nil)) (N_ (o169 x0) (N_ (o236 x0) @W.BT.nil @W.BT.nil) @W.BT.nil))))) (N_ (@W.boot_o_5 x0) (N_ (@W.boot_o_9 x0) (N_ (o53 x0) (N_ (o69 x0) (N_ (o107 x0) (N_ (o175 x0) @W.BT.nil @W.BT.nil) (N_ (o245 x0) @W.BT.nil @W.BT.nil)) (N_ (o141 x0) (N_ (o210 x0) @W.BT.nil @W.BT.nil) (N_ (o277 x0) @W.BT.nil @W.BT.nil))) (N_ (o91 x0) (N_ (o123 x0) (N_ (o191 x0) @W.BT.nil @W.BT.nil) (N_ (o261 x0) @W.BT.nil @W.BT.nil)) (N_ (o159 x0) (N_ (o226 x0) @W.BT.nil @W.BT.nil) @W.BT.nil))) (N_ (o61 x0) (N_ (o80 x0) (N_ (o115 x0) (N_ (o183 x0) @W.BT.nil @W.BT.nil) (N_ (o253 x0) @W.BT.nil @W.BT.nil)) (N_ (o151 x0) (N_ (o218 x0) @W.BT.nil @W.BT.nil) @W.BT.nil)) (N_ (o99 x0) (N_ (o131 x0) (N_ (o199 x0) @W.BT.nil @W.BT.nil) (N_ (o269 x0) @W.BT.nil @W.BT.nil)) (N_ (o167 x0) (N_ (o234 x0) @W.BT.nil @W.BT.nil) @W.BT.nil)))) (N_ (o45 x0) (N_ (o57 x0) (N_ (o76 x0) (N_ (o111 x0) (N_ (o179 x0) @W.BT.nil @W.BT.nil) (N_ (o249 x0) @W.BT.nil @W.BT.nil)) (N_ (o147 x0) (N_ (o214 x0) @W.BT.nil @W.BT.nil) (N_ (o281 x0) @W.BT.nil @W.BT.nil))) (N_ (o95 x0) (N_ (o127 x0) (N_ (o195 x0) @W.BT.nil @W.BT.nil) (N_ (o265 x0) @W.BT.nil @W.BT.nil)) (N_ (o163 x0) (N_ (o230 x0) @W.BT.nil @W.BT.nil) @W.BT.nil))) (N_ (o65 x0) (N_ (o84 x0) (N_ (o119 x0) (N_ (o187 x0) @W.BT.nil @W.BT.nil) (N_ (o257 x0) @W.BT.nil @W.BT.nil)) (N_ (o155 x0) (N_ (o222 x0) @W.BT.nil @W.BT.nil) @W.BT.nil)) (N_ (o103 x0) (N_ (o135 x0) (N_ (o206 x0) @W.BT.nil @W.BT.nil) (N_ (o273 x0) @W.BT.nil @W.BT.nil)) (N_ (o171 x0) (N_ (o238 x0) @W.BT.nil @W.BT.nil) @W.BT.nil)))))) (N_ (@W.boot_o_2 x0) (N_ (@W.boot_o_4 x0) (N_ (@W.boot_o_8 x0) (N_ (o52 x0) (N_ (o68 x0) (N_ (o106 x0) (N_ (o174 x0) @W.BT.nil @W.BT.nil) (N_ (o244 x0) @W.BT.nil @W.BT.nil)) (N_ (o140 x0) (N_ (o209 x0) @W.BT.nil @W.BT.nil) (N_ (o276 x0) @W.BT.nil @W.BT.nil))) (N_ (o90 x0) (N_ (o122 x0) (N_ (o190 x0) @W.BT.nil @W.BT.nil) (N_ (o260 x0) @W.BT.nil @W.BT.nil)) (N_ (o158 x0) (N_ (o225 x0) @W.BT.nil @W.BT.nil) @W.BT.nil))) (N_ (o60 x0) (N_ (o79 x0) (N_ (o114 x0) (N_ (o182 x0) @W.BT.nil @W.BT.nil) (N_ (o252 x0) @W.BT.nil @W.BT.nil)) (N_ (o150 x0) (N_ (o217 x0) @W.BT.nil @W.BT.nil) @W.BT.nil)) (N_ (o98 x0) (N_ (o130 x0) (N_ (o241 x0) @W.BT.nil @W.BT.nil) (N_ (o268 x0) @W.BT.nil @W.BT.nil)) (N_ (o166 x0) (N_ (o233 x0) @W.BT.nil @W.BT.nil) @W.BT.nil)))) (N_ (o240 x0) (N_ (o56 x0) (N_ (o75 x0) (N_ (o110 x0) (N_ (o178 x0) @W.BT.nil @W.BT.nil) (N_ (o248 x0) @W.BT.nil @W.BT.nil)) (N_ (o144 x0) (N_ (o213 x0) @W.BT.nil @W.BT.nil) (N_ (o280 x0) @W.BT.nil @W.BT.nil))) (N_ (o94 x0) (N_ (o126 x0) (N_ (o194 x0) @W.BT.nil @W.BT.nil) (N_ (o264 x0) @W.BT.nil @W.BT.nil)) (N_ (o162 x0) (N_ (o229 x0) @W.BT.nil @W.BT.nil) @W.BT.nil))) (N_ (o64 x0) (N_ (o83 x0) (N_ (o118 x0) (N_ (o186 x0) @W.BT.nil @W.BT.nil) (N_ (o256 x0) @W.BT.nil @W.BT.nil)) (N_ (o154 x0) (N_ (o221 x0) @W.BT.nil @W.BT.nil) @W.BT.nil)) (N_ (o102 x0) (N_ (o134 x0) (N_ (o202 x0) @W.BT.nil @W.BT.nil) (N_ (o272 x0) @W.BT.nil @W.BT.nil)) (N_ (o170 x0) (N_ (o237 x0) @W.BT.nil @W.BT.nil) @W.BT.nil))))) (N_ (@W.boot_o_6 x0) (N_ (@W.boot_o_10 x0) (N_ (o54 x0) (N_ (o70 x0) (N_ (o108 x0) (N_ (o176 x0) @W.BT.nil @W.BT.nil) (N_ (o246 x0) @W.BT.nil @W.BT.nil)) (N_ (o142 x0) (N_ (o211 x0) @W.BT.nil @W.BT.nil) (N_ (o278 x0) @W.BT.nil @W.BT.nil))) (N_ (o92 x0) (N_ (o124 x0) (N_ (o192 x0) @W.BT.nil @W.BT.nil) (N_ (o262 x0) @W.BT.nil @W.BT.nil)) (N_ (o160 x0) (N_ (o227 x0) @W.BT.nil @W.BT.nil) @W.BT.nil))) (N_ (o62 x0) (N_ (o81 x0) (N_ (o116 x0) (N_ (o184 x0) @W.BT.nil @W.BT.nil) (N_ (o254 x0) @W.BT.nil @W.BT.nil)) (N_ (o152 x0) (N_ (o219 x0) @W.BT.nil @W.BT.nil) @W.BT.nil)) (N_ (o100 x0) (N_ (o132 x0) (N_ (o200 x0) @W.BT.nil @W.BT.nil) (N_ (o270 x0) @W.BT.nil @W.BT.nil)) (N_ (o168 x0) (N_ (o235 x0) @W.BT.nil @W.BT.nil) @W.BT.nil)))) (N_ (o46 x0) (N_ (o58 x0) (N_ (o77 x0) (N_ (o112 x0) (N_ (o180 x0) @W.BT.nil @W.BT.nil) (N_ (o250 x0) @W.BT.nil @W.BT.nil)) (N_ (o148 x0) (N_ (o215 x0) @W.BT.nil @W.BT.nil) @W.BT.nil)) (N_ (o96 x0) (N_ (o128 x0) (N_ (o196 x0) @W.BT.nil @W.BT.nil) (N_ (o266 x0) @W.BT.nil @W.BT.nil)) (N_ (o164 x0) (N_ (o231 x0) @W.BT.nil @W.BT.nil) @W.BT.nil))) (N_ (o66 x0) (N_ (o85 x0) (N_ (o120 x0) (N_ (o188 x0) @W.BT.nil @W.BT.nil) (N_ (o258 x0) @W.BT.nil @W.BT.nil)) (N_ (o156 x0) (N_ (o223 x0) @W.BT.nil @W.BT.nil) @W.BT.nil)) (N_ (o104 x0) (N_ (o138 x0) (N_ (o207 x0) @W.BT.nil @W.BT.nil) (N_ (o274 x0) @W.BT.nil @W.BT.nil)) (N_ (o172 x0) (N_ (o242 x0) @W.BT.nil @W.BT.nil) @W.BT.nil))))))))
noncomputable def My.h_sts_239 : (@List.{0} @Stmt) := [My.top 15]
noncomputable def My.h_tree_238 : ((x0 : @Params) → @W.BT) := (fun (x0 : @Params) => (N_ (@W.boot_o_0 x0) (N_ (@W.boot_o_1 x0) (N_ (o203 x0) (N_ (@W.boot_o_7 x0) (N_ (o51 x0) (N_ (o88 x0) (N_ (o105 x0) (N_ (o173 x0) @W.BT.nil @W.BT.nil) @W.BT.nil) (N_ (o139 x0) (N_ (o208 x0) @W.BT.nil @W.BT.nil) @W.BT.nil)) (N_ (o89 x0) (N_ (o121 x0) (N_ (o189 x0) @W.BT.nil @W.BT.nil) @W.BT.nil) (N_ (o157 x0) (N_ (o224 x0) @W.BT.nil @W.BT.nil) @W.BT.nil))) (N_ (o59 x0) (N_ (o78 x0) (N_ (o113 x0) (N_ (o181 x0) @W.BT.nil @W.BT.nil) @W.BT.nil) (N_ (o149 x0) (N_ (o216 x0) @W.BT.nil @W.BT.nil) @W.BT.nil)) (N_ (o97 x0) (N_ (o129 x0) (N_ (o197 x0) @W.BT.nil @W.BT.nil) @W.BT.nil) (N_ (o165 x0) (N_ (o232 x0) @W.BT.nil @W.BT.nil) @W.BT.nil)))) (N_ (o43 x0) (N_ (o55 x0) (N_ (o74 x0) (N_ (o109 x0) (N_ (o177 x0) @W.BT.nil @W.BT.nil) @W.BT.nil) (N_ (o143 x0) (N_ (o212 x0) @W.BT.nil @W.BT.nil) @W.BT.nil)) (N_ (o93 x0) (N_ (o125 x0) (N_ (o193 x0) @W.BT.nil @W.BT.nil) @W.BT.nil) (N_ (o161 x0) (N_ (o228 x0) @W.BT.nil @W.BT.nil) @W.BT.nil))) (N_ (o63 x0) (N_ (o82 x0) (N_ (o117 x0) (N_ (o185 x0) @W.BT.nil @W.BT.nil) @W.BT.nil) (N_ (o153 x0) (N_ (o220 x0) @W.BT.nil @W.BT.nil) @W.BT.nil)) (N_ (o101 x0) (N_ (o133 x0) (N_ (o201 x0) @W.BT.nil @W.BT.nil) @W.BT.nil) (N_ (o169 x0) (N_ (o236 x0) @W.BT.nil @W.BT.nil) @W.BT.nil))))) (N_ (@W.boot_o_5 x0) (N_ (@W.boot_o_9 x0) (N_ (o53 x0) (N_ (o69 x0) (N_ (o107 x0) (N_ (o175 x0) @W.BT.nil @W.BT.nil) @W.BT.nil) (N_ (o141 x0) (N_ (o210 x0) @W.BT.nil @W.BT.nil) @W.BT.nil)) (N_ (o91 x0) (N_ (o123 x0) (N_ (o191 x0) @W.BT.nil @W.BT.nil) @W.BT.nil) (N_ (o159 x0) (N_ (o226 x0) @W.BT.nil @W.BT.nil) @W.BT.nil))) (N_ (o61 x0) (N_ (o80 x0) (N_ (o115 x0) (N_ (o183 x0) @W.BT.nil @W.BT.nil) @W.BT.nil) (N_ (o151 x0) (N_ (o218 x0) @W.BT.nil @W.BT.nil) @W.BT.nil)) (N_ (o99 x0) (N_ (o131 x0) (N_ (o199 x0) @W.BT.nil @W.BT.nil) @W.BT.nil) (N_ (o167 x0) (N_ (o234 x0) @W.BT.nil @W.BT.nil) @W.BT.nil)))) (N_ (o45 x0) (N_ (o57 x0) (N_ (o76 x0) (N_ (o111 x0) (N_ (o179 x0) @W.BT.nil @W.BT.nil) @W.BT.nil) (N_ (o147 x0) (N_ (o214 x0) @W.BT.nil @W.BT.nil) @W.BT.nil)) (N_ (o95 x0) (N_ (o127 x0) (N_ (o195 x0) @W.BT.nil @W.BT.nil) @W.BT.nil) (N_ (o163 x0) (N_ (o230 x0) @W.BT.nil @W.BT.nil) @W.BT.nil))) (N_ (o65 x0) (N_ (o84 x0) (N_ (o119 x0) (N_ (o187 x0) @W.BT.nil @W.BT.nil) @W.BT.nil) (N_ (o155 x0) (N_ (o222 x0) @W.BT.nil @W.BT.nil) @W.BT.nil)) (N_ (o103 x0) (N_ (o135 x0) (N_ (o206 x0) @W.BT.nil @W.BT.nil) @W.BT.nil) (N_ (o171 x0) (N_ (o238 x0) @W.BT.nil @W.BT.nil) @W.BT.nil)))))) (N_ (@W.boot_o_2 x0) (N_ (@W.boot_o_4 x0) (N_ (@W.boot_o_8 x0) (N_ (o52 x0) (N_ (o68 x0) (N_ (o106 x0) (N_ (o174 x0) @W.BT.nil @W.BT.nil) @W.BT.nil) (N_ (o140 x0) (N_ (o209 x0) @W.BT.nil @W.BT.nil) @W.BT.nil)) (N_ (o90 x0) (N_ (o122 x0) (N_ (o190 x0) @W.BT.nil @W.BT.nil) @W.BT.nil) (N_ (o158 x0) (N_ (o225 x0) @W.BT.nil @W.BT.nil) @W.BT.nil))) (N_ (o60 x0) (N_ (o79 x0) (N_ (o114 x0) (N_ (o182 x0) @W.BT.nil @W.BT.nil) @W.BT.nil) (N_ (o150 x0) (N_ (o217 x0) @W.BT.nil @W.BT.nil) @W.BT.nil)) (N_ (o98 x0) (N_ (o130 x0) (N_ (o205 x0) @W.BT.nil @W.BT.nil) @W.BT.nil) (N_ (o166 x0) (N_ (o233 x0) @W.BT.nil @W.BT.nil) @W.BT.nil)))) (N_ (o204 x0) (N_ (o56 x0) (N_ (o75 x0) (N_ (o110 x0) (N_ (o178 x0) @W.BT.nil @W.BT.nil) @W.BT.nil) (N_ (o144 x0) (N_ (o213 x0) @W.BT.nil @W.BT.nil) @W.BT.nil)) (N_ (o94 x0) (N_ (o126 x0) (N_ (o194 x0) @W.BT.nil @W.BT.nil) @W.BT.nil) (N_ (o162 x0) (N_ (o229 x0) @W.BT.nil @W.BT.nil) @W.BT.nil))) (N_ (o64 x0) (N_ (o83 x0) (N_ (o118 x0) (N_ (o186 x0) @W.BT.nil @W.BT.nil) @W.BT.nil) (N_ (o154 x0) (N_ (o221 x0) @W.BT.nil @W.BT.nil) @W.BT.nil)) (N_ (o102 x0) (N_ (o134 x0) (N_ (o202 x0) @W.BT.nil @W.BT.nil) @W.BT.nil) (N_ (o170 x0) (N_ (o237 x0) @W.BT.nil @W.BT.nil) @W.BT.nil))))) (N_ (@W.boot_o_6 x0) (N_ (@W.boot_o_10 x0) (N_ (o54 x0) (N_ (o70 x0) (N_ (o108 x0) (N_ (o176 x0) @W.BT.nil @W.BT.nil) @W.BT.nil) (N_ (o142 x0) (N_ (o211 x0) @W.BT.nil @W.BT.nil) @W.BT.nil)) (N_ (o92 x0) (N_ (o124 x0) (N_ (o192 x0) @W.BT.nil @W.BT.nil) @W.BT.nil) (N_ (o160 x0) (N_ (o227 x0) @W.BT.nil @W.BT.nil) @W.BT.nil))) (N_ (o62 x0) (N_ (o81 x0) (N_ (o116 x0) (N_ (o184 x0) @W.BT.nil @W.BT.nil) @W.BT.nil) (N_ (o152 x0) (N_ (o219 x0) @W.BT.nil @W.BT.nil) @W.BT.nil)) (N_ (o100 x0) (N_ (o132 x0) (N_ (o200 x0) @W.BT.nil @W.BT.nil) @W.BT.nil) (N_ (o168 x0) (N_ (o235 x0) @W.BT.nil @W.BT.nil) @W.BT.nil)))) (N_ (o46 x0) (N_ (o58 x0) (N_ (o77 x0) (N_ (o112 x0) (N_ (o180 x0) @W.BT.nil @W.BT.nil) @W.BT.nil) (N_ (o148 x0) (N_ (o215 x0) @W.BT.nil @W.BT.nil) @W.BT.nil)) (N_ (o96 x0) (N_ (o128 x0) (N_ (o196 x0) @W.BT.nil @W.BT.nil) @W.BT.nil) (N_ (o164 x0) (N_ (o231 x0) @W.BT.nil @W.BT.nil) @W.BT.nil))) (N_ (o66 x0) (N_ (o85 x0) (N_ (o120 x0) (N_ (o188 x0) @W.BT.nil @W.BT.nil) @W.BT.nil) (N_ (o156 x0) (N_ (o223 x0) @W.BT.nil @W.BT.nil) @W.BT.nil)) (N_ (o104 x0) (N_ (o138 x0) (N_ (o207 x0) @W.BT.nil @W.BT.nil) @W.BT.nil) (N_ (o172 x0) @W.BT.nil @W.BT.nil))))))))
noncomputable def My.h_sts_203 : (@List.{0} @Stmt) := [My.top 14]
noncomputable def My.h_tree_202 : ((x0 : @Params) → @W.BT) := (fun (x0 : @Params) => (N_ (@W.boot_o_0 x0) (N_ (@W.boot_o_1 x0) (N_ (o145 x0) (N_ (@W.boot_o_7 x0) (N_ (o51 x0) (N_ (o88 x0) (N_ (o105 x0) (N_ (o173 x0) @W.BT.nil @W.BT.nil) @W.BT.nil) (N_ (o139 x0) @W.BT.nil @W.BT.nil)) (N_ (o89 x0) (N_ (o121 x0) (N_ (o189 x0) @W.BT.nil @W.BT.nil) @W.BT.nil) (N_ (o157 x0) @W.BT.nil @W.BT.nil))) (N_ (o59 x0) (N_ (o78 x0) (N_ (o113 x0) (N_ (o181 x0) @W.BT.nil @W.BT.nil) @W.BT.nil) (N_ (o149 x0) @W.BT.nil @W.BT.nil)) (N_ (o97 x0) (N_ (o129 x0) (N_ (o197 x0) @W.BT.nil @W.BT.nil) @W.BT.nil) (N_ (o165 x0) @W.BT.nil @W.BT.nil)))) (N_ (o43 x0) (N_ (o55 x0) (N_ (o74 x0) (N_ (o109 x0) (N_ (o177 x0) @W.BT.nil @W.BT.nil) @W.BT.nil) (N_ (o143 x0) @W.BT.nil @W.BT.nil)) (N_ (o93 x0) (N_ (o125 x0) (N_ (o193 x0) @W.BT.nil @W.BT.nil) @W.BT.nil) (N_ (o161 x0) @W.BT.nil @W.BT.nil))) (N_ (o63 x0) (N_ (o82 x0) (N_ (o117 x0) (N_ (o185 x0) @W.BT.nil @W.BT.nil) @W.BT.nil) (N_ (o153 x0) @W.BT.nil @W.BT.nil)) (N_ (o101 x0) (N_ (o133 x0) (N_ (o201 x0) @W.BT.nil @W.BT.nil) @W.BT.nil) (N_ (o169 x0) @W.BT.nil @W.BT.nil))))) (N_ (@W.boot_o_5 x0) (N_ (@W.boot_o_9 x0) (N_ (o53 x0) (N_ (o69 x0) (N_ (o107 x0) (N_ (o175 x0) @W.BT.nil @W.BT.nil) @W.BT.nil) (N_ (o141 x0) @W.BT.nil @W.BT.nil)) (N_ (o91 x0) (N_ (o123 x0) (N_ (o191 x0) @W.BT.nil @W.BT.nil) @W.BT.nil) (N_ (o159 x0) @W.BT.nil @W.BT.nil))) (N_ (o61 x0) (N_ (o80 x0) (N_ (o115 x0) (N_ (o183 x0) @W.BT.nil @W.BT.nil) @W.BT.nil) (N_ (o151 x0) @W.BT.nil @W.BT.nil)) (N_ (o99 x0) (N_ (o131 x0) (N_ (o199 x0) @W.BT.nil @W.BT.nil) @W.BT.nil) (N_ (o167 x0) @W.BT.nil @W.BT.nil)))) (N_ (o45 x0) (N_ (o57 x0) (N_ (o76 x0) (N_ (o111 x0) (N_ (o179 x0) @W.BT.nil @W.BT.nil) @W.BT.nil) (N_ (o147 x0) @W.BT.nil @W.BT.nil)) (N_ (o95 x0) (N_ (o127 x0) (N_ (o195 x0) @W.BT.nil @W.BT.nil) @W.BT.nil) (N_ (o163 x0) @W.BT.nil @W.BT.nil))) (N_ (o65 x0) (N_ (o84 x0) (N_ (o119 x0) (N_ (o187 x0) @W.BT.nil @W.BT.nil) @W.BT.nil) (N_ (o155 x0) @W.BT.nil @W.BT.nil)) (N_ (o103 x0) (N_ (o135 x0) @W.BT.nil @W.BT.nil) (N_ (o171 x0) @W.BT.nil @W.BT.nil)))))) (N_ (@W.boot_o_2 x0) (N_ (@W.boot_o_4 x0) (N_ (@W.boot_o_8 x0) (N_ (o52 x0) (N_ (o68 x0) (N_ (o106 x0) (N_ (o174 x0) @W.BT.nil @W.BT.nil) @W.BT.nil) (N_ (o140 x0) @W.BT.nil @W.BT.nil)) (N_ (o90 x0) (N_ (o122 x0) (N_ (o190 x0) @W.BT.nil @W.BT.nil) @W.BT.nil) (N_ (o158 x0) @W.BT.nil @W.BT.nil))) (N_ (o60 x0) (N_ (o79 x0) (N_ (o114 x0) (N_ (o182 x0) @W.BT.nil @W.BT.nil) @W.BT.nil) (N_ (o150 x0) @W.BT.nil @W.BT.nil)) (N_ (o98 x0) (N_ (o130 x0) (N_ (o198 x0) @W.BT.nil @W.BT.nil) @W.BT.nil) (N_ (o166 x0) @W.BT.nil @W.BT.nil)))) (N_ (o146 x0) (N_ (o56 x0) (N_ (o75 x0) (N_ (o110 x0) (N_ (o178 x0) @W.BT.nil @W.BT.nil) @W.BT.nil) (N_ (o144 x0) @W.BT.nil @W.BT.nil)) (N_ (o94 x0) (N_ (o126 x0) (N_ (o194 x0) @W.BT.nil @W.BT.nil) @W.BT.nil) (N_ (o162 x0) @W.BT.nil @W.BT.nil))) (N_ (o64 x0) (N_ (o83 x0) (N_ (o118 x0) (N_ (o186 x0) @W.BT.nil @W.BT.nil) @W.BT.nil) (N_ (o154 x0) @W.BT.nil @W.BT.nil)) (N_ (o102 x0) (N_ (o134 x0) (N_ (o202 x0) @W.BT.nil @W.BT.nil) @W.BT.nil) (N_ (o170 x0) @W.BT.nil @W.BT.nil))))) (N_ (@W.boot_o_6 x0) (N_ (@W.boot_o_10 x0) (N_ (o54 x0) (N_ (o70 x0) (N_ (o108 x0) (N_ (o176 x0) @W.BT.nil @W.BT.nil) @W.BT.nil) (N_ (o142 x0) @W.BT.nil @W.BT.nil)) (N_ (o92 x0) (N_ (o124 x0) (N_ (o192 x0) @W.BT.nil @W.BT.nil) @W.BT.nil) (N_ (o160 x0) @W.BT.nil @W.BT.nil))) (N_ (o62 x0) (N_ (o81 x0) (N_ (o116 x0) (N_ (o184 x0) @W.BT.nil @W.BT.nil) @W.BT.nil) (N_ (o152 x0) @W.BT.nil @W.BT.nil)) (N_ (o100 x0) (N_ (o132 x0) (N_ (o200 x0) @W.BT.nil @W.BT.nil) @W.BT.nil) (N_ (o168 x0) @W.BT.nil @W.BT.nil)))) (N_ (o46 x0) (N_ (o58 x0) (N_ (o77 x0) (N_ (o112 x0) (N_ (o180 x0) @W.BT.nil @W.BT.nil) @W.BT.nil) (N_ (o148 x0) @W.BT.nil @W.BT.nil)) (N_ (o96 x0) (N_ (o128 x0) (N_ (o196 x0) @W.BT.nil @W.BT.nil) @W.BT.nil) (N_ (o164 x0) @W.BT.nil @W.BT.nil))) (N_ (o66 x0) (N_ (o85 x0) (N_ (o120 x0) (N_ (o188 x0) @W.BT.nil @W.BT.nil) @W.BT.nil) (N_ (o156 x0) @W.BT.nil @W.BT.nil)) (N_ (o104 x0) (N_ (o138 x0) @W.BT.nil @W.BT.nil) (N_ (o172 x0) @W.BT.nil @W.BT.nil))))))))
noncomputable def My.h_sts_145 : (@List.{0} @Stmt) := [My.top 13]
noncomputable def My.h_tree_144 : ((x0 : @Params) → @W.BT) := (fun (x0 : @Params) => (N_ (@W.boot_o_0 x0) (N_ (@W.boot_o_1 x0) (N_ (o136 x0) (N_ (@W.boot_o_7 x0) (N_ (o51 x0) (N_ (o88 x0) (N_ (o105 x0) @W.BT.nil @W.BT.nil) (N_ (o139 x0) @W.BT.nil @W.BT.nil)) (N_ (o89 x0) (N_ (o121 x0) @W.BT.nil @W.BT.nil) @W.BT.nil)) (N_ (o59 x0) (N_ (o78 x0) (N_ (o113 x0) @W.BT.nil @W.BT.nil) @W.BT.nil) (N_ (o97 x0) (N_ (o129 x0) @W.BT.nil @W.BT.nil) @W.BT.nil))) (N_ (o43 x0) (N_ (o55 x0) (N_ (o74 x0) (N_ (o109 x0) @W.BT.nil @W.BT.nil) (N_ (o143 x0) @W.BT.nil @W.BT.nil)) (N_ (o93 x0) (N_ (o125 x0) @W.BT.nil @W.BT.nil) @W.BT.nil)) (N_ (o63 x0) (N_ (o82 x0) (N_ (o117 x0) @W.BT.nil @W.BT.nil) @W.BT.nil) (N_ (o101 x0) (N_ (o133 x0) @W.BT.nil @W.BT.nil) @W.BT.nil)))) (N_ (@W.boot_o_5 x0) (N_ (@W.boot_o_9 x0) (N_ (o53 x0) (N_ (o69 x0) (N_ (o107 x0) @W.BT.nil @W.BT.nil) (N_ (o141 x0) @W.BT.nil @W.BT.nil)) (N_ (o91 x0) (N_ (o123 x0) @W.BT.nil @W.BT.nil) @W.BT.nil)) (N_ (o61 x0) (N_ (o80 x0) (N_ (o115 x0) @W.BT.nil @W.BT.nil) @W.BT.nil) (N_ (o99 x0) (N_ (o131 x0) @W.BT.nil @W.BT.nil) @W.BT.nil))) (N_ (o45 x0) (N_ (o57 x0) (N_ (o76 x0) (N_ (o111 x0) @W.BT.nil @W.BT.nil) @W.BT.nil) (N_ (o95 x0) (N_ (o127 x0) @W.BT.nil @W.BT.nil) @W.BT.nil)) (N_ (o65 x0) (N_ (o84 x0) (N_ (o119 x0) @W.BT.nil @W.BT.nil) @W.BT.nil) (N_ (o103 x0) (N_ (o135 x0) @W.BT.nil @W.BT.nil) @W.BT.nil))))) (N_ (@W.boot_o_2 x0) (N_ (@W.boot_o_4 x0) (N_ (@W.boot_o_8 x0) (N_ (o52 x0) (N_ (o68 x0) (N_ (o106 x0) @W.BT.nil @W.BT.nil) (N_ (o140 x0) @W.BT.nil @W.BT.nil)) (N_ (o90 x0) (N_ (o122 x0) @W.BT.nil @W.BT.nil) @W.BT.nil)) (N_ (o60 x0) (N_ (o79 x0) (N_ (o114 x0) @W.BT.nil @W.BT.nil) @W.BT.nil) (N_ (o98 x0) (N_ (o130 x0) @W.BT.nil @W.BT.nil) @W.BT.nil))) (N_ (o137 x0) (N_ (o56 x0) (N_ (o75 x0) (N_ (o110 x0) @W.BT.nil @W.BT.nil) (N_ (o144 x0) @W.BT.nil @W.BT.nil)) (N_ (o94 x0) (N_ (o126 x0) @W.BT.nil @W.BT.nil) @W.BT.nil)) (N_ (o64 x0) (N_ (o83 x0) (N_ (o118 x0) @W.BT.nil @W.BT.nil) @W.BT.nil) (N_ (o102 x0) (N_ (o134 x0) @W.BT.nil @W.BT.nil) @W.BT.nil)))) (N_ (@W.boot_o_6 x0) (N_ (@W.boot_o_10 x0) (N_ (o54 x0) (N_ (o70 x0) (N_ (o108 x0) @W.BT.nil @W.BT.nil) (N_ (o142 x0) @W.BT.nil @W.BT.nil)) (N_ (o92 x0) (N_ (o124 x0) @W.BT.nil @W.BT.nil) @W.BT.nil)) (N_ (o62 x0) (N_ (o81 x0) (N_ (o116 x0) @W.BT.nil @W.BT.nil) @W.BT.nil) (N_ (o100 x0) (N_ (o132 x0) @W.BT.nil @W.BT.nil) @W.BT.nil))) (N_ (o46 x0) (N_ (o58 x0) (N_ (o77 x0) (N_ (o112 x0) @W.BT.nil @W.BT.nil) @W.BT.nil) (N_ (o96 x0) (N_ (o128 x0) @W.BT.nil @W.BT.nil) @W.BT.nil)) (N_ (o66 x0) (N_ (o85 x0) (N_ (o120 x0) @W.BT.nil @W.BT.nil) @W.BT.nil) (N_ (o104 x0) (N_ (o138 x0) @W.BT.nil @W.BT.nil) @W.BT.nil)))))))
noncomputable def My.h_sts_136 : (@List.{0} @Stmt) := [My.top 12]
noncomputable def My.h_tree_135 : ((x0 : @Params) → @W.BT) := (fun (x0 : @Params) => (N_ (@W.boot_o_0 x0) (N_ (@W.boot_o_1 x0) (N_ (o86 x0) (N_ (@W.boot_o_7 x0) (N_ (o51 x0) (N_ (o88 x0) (N_ (o105 x0) @W.BT.nil @W.BT.nil) @W.BT.nil) (N_ (o89 x0) (N_ (o121 x0) @W.BT.nil @W.BT.nil) @W.BT.nil)) (N_ (o59 x0) (N_ (o78 x0) (N_ (o113 x0) @W.BT.nil @W.BT.nil) @W.BT.nil) (N_ (o97 x0) (N_ (o129 x0) @W.BT.nil @W.BT.nil) @W.BT.nil))) (N_ (o43 x0) (N_ (o55 x0) (N_ (o74 x0) (N_ (o109 x0) @W.BT.nil @W.BT.nil) @W.BT.nil) (N_ (o93 x0) (N_ (o125 x0) @W.BT.nil @W.BT.nil) @W.BT.nil)) (N_ (o63 x0) (N_ (o82 x0) (N_ (o117 x0) @W.BT.nil @W.BT.nil) @W.BT.nil) (N_ (o101 x0) (N_ (o133 x0) @W.BT.nil @W.BT.nil) @W.BT.nil)))) (N_ (@W.boot_o_5 x0) (N_ (@W.boot_o_9 x0) (N_ (o53 x0) (N_ (o69 x0) (N_ (o107 x0) @W.BT.nil @W.BT.nil) @W.BT.nil) (N_ (o91 x0) (N_ (o123 x0) @W.BT.nil @W.BT.nil) @W.BT.nil)) (N_ (o61 x0) (N_ (o80 x0) (N_ (o115 x0) @W.BT.nil @W.BT.nil) @W.BT.nil) (N_ (o99 x0) (N_ (o131 x0) @W.BT.nil @W.BT.nil) @W.BT.nil))) (N_ (o45 x0) (N_ (o57 x0) (N_ (o76 x0) (N_ (o111 x0) @W.BT.nil @W.BT.nil) @W.BT.nil) (N_ (o95 x0) (N_ (o127 x0) @W.BT.nil @W.BT.nil) @W.BT.nil)) (N_ (o65 x0) (N_ (o84 x0) (N_ (o119 x0) @W.BT.nil @W.BT.nil) @W.BT.nil) (N_ (o103 x0) (N_ (o135 x0) @W.BT.nil @W.BT.nil) @W.BT.nil))))) (N_ (@W.boot_o_2 x0) (N_ (@W.boot_o_4 x0) (N_ (@W.boot_o_8 x0) (N_ (o52 x0) (N_ (o68 x0) (N_ (o106 x0) @W.BT.nil @W.BT.nil) @W.BT.nil) (N_ (o90 x0) (N_ (o122 x0) @W.BT.nil @W.BT.nil) @W.BT.nil)) (N_ (o60 x0) (N_ (o79 x0) (N_ (o114 x0) @W.BT.nil @W.BT.nil) @W.BT.nil) (N_ (o98 x0) (N_ (o130 x0) @W.BT.nil @W.BT.nil) @W.BT.nil))) (N_ (o87 x0) (N_ (o56 x0) (N_ (o75 x0) (N_ (o110 x0) @W.BT.nil @W.BT.nil) @W.BT.nil) (N_ (o94 x0) (N_ (o126 x0) @W.BT.nil @W.BT.nil) @W.BT.nil)) (N_ (o64 x0) (N_ (o83 x0) (N_ (o118 x0) @W.BT.nil @W.BT.nil) @W.BT.nil) (N_ (o102 x0) (N_ (o134 x0) @W.BT.nil @W.BT.nil) @W.BT.nil)))) (N_ (@W.boot_o_6 x0) (N_ (@W.boot_o_10 x0) (N_ (o54 x0) (N_ (o70 x0) (N_ (o108 x0) @W.BT.nil @W.BT.nil) @W.BT.nil) (N_ (o92 x0) (N_ (o124 x0) @W.BT.nil @W.BT.nil) @W.BT.nil)) (N_ (o62 x0) (N_ (o81 x0) (N_ (o116 x0) @W.BT.nil @W.BT.nil) @W.BT.nil) (N_ (o100 x0) (N_ (o132 x0) @W.BT.nil @W.BT.nil) @W.BT.nil))) (N_ (o46 x0) (N_ (o58 x0) (N_ (o77 x0) (N_ (o112 x0) @W.BT.nil @W.BT.nil) @W.BT.nil) (N_ (o96 x0) (N_ (o128 x0) @W.BT.nil @W.BT.nil) @W.BT.nil)) (N_ (o66 x0) (N_ (o85 x0) (N_ (o120 x0) @W.BT.nil @W.BT.nil) @W.BT.nil) (N_ (o104 x0) @W.BT.nil @W.BT.nil)))))))
noncomputable def My.h_sts_86 : (@List.{0} @Stmt) := [My.top 4, My.top 5, My.top 6, My.top 7, My.top 8, My.top 9, My.top 10, My.top 11]
noncomputable def My.h_tree_85 : ((x0 : @Params) → @W.BT) := (fun (x0 : @Params) => (N_ (@W.boot_o_0 x0) (N_ (@W.boot_o_1 x0) (N_ (o71 x0) (N_ (@W.boot_o_7 x0) (N_ (o51 x0) (N_ (o73 x0) @W.BT.nil @W.BT.nil) @W.BT.nil) (N_ (o59 x0) (N_ (o78 x0) @W.BT.nil @W.BT.nil) @W.BT.nil)) (N_ (o43 x0) (N_ (o55 x0) (N_ (o74 x0) @W.BT.nil @W.BT.nil) @W.BT.nil) (N_ (o63 x0) (N_ (o82 x0) @W.BT.nil @W.BT.nil) @W.BT.nil))) (N_ (@W.boot_o_5 x0) (N_ (@W.boot_o_9 x0) (N_ (o53 x0) (N_ (o69 x0) @W.BT.nil @W.BT.nil) @W.BT.nil) (N_ (o61 x0) (N_ (o80 x0) @W.BT.nil @W.BT.nil) @W.BT.nil)) (N_ (o45 x0) (N_ (o57 x0) (N_ (o76 x0) @W.BT.nil @W.BT.nil) @W.BT.nil) (N_ (o65 x0) (N_ (o84 x0) @W.BT.nil @W.BT.nil) @W.BT.nil)))) (N_ (@W.boot_o_2 x0) (N_ (@W.boot_o_4 x0) (N_ (@W.boot_o_8 x0) (N_ (o52 x0) (N_ (o68 x0) @W.BT.nil @W.BT.nil) @W.BT.nil) (N_ (o60 x0) (N_ (o79 x0) @W.BT.nil @W.BT.nil) @W.BT.nil)) (N_ (o72 x0) (N_ (o56 x0) (N_ (o75 x0) @W.BT.nil @W.BT.nil) @W.BT.nil) (N_ (o64 x0) (N_ (o83 x0) @W.BT.nil @W.BT.nil) @W.BT.nil))) (N_ (@W.boot_o_6 x0) (N_ (@W.boot_o_10 x0) (N_ (o54 x0) (N_ (o70 x0) @W.BT.nil @W.BT.nil) @W.BT.nil) (N_ (o62 x0) (N_ (o81 x0) @W.BT.nil @W.BT.nil) @W.BT.nil)) (N_ (o46 x0) (N_ (o58 x0) (N_ (o77 x0) @W.BT.nil @W.BT.nil) @W.BT.nil) (N_ (o66 x0) (N_ (o85 x0) @W.BT.nil @W.BT.nil) @W.BT.nil))))))
noncomputable def My.h_sts_71 : (@List.{0} @Stmt) := [My.top 3]
noncomputable def My.h_tree_70 : ((x0 : @Params) → @W.BT) := (fun (x0 : @Params) => (N_ (@W.boot_o_0 x0) (N_ (@W.boot_o_1 x0) (N_ (o49 x0) (N_ (@W.boot_o_7 x0) (N_ (o51 x0) (N_ (o67 x0) @W.BT.nil @W.BT.nil) @W.BT.nil) (N_ (o59 x0) @W.BT.nil @W.BT.nil)) (N_ (o43 x0) (N_ (o55 x0) @W.BT.nil @W.BT.nil) (N_ (o63 x0) @W.BT.nil @W.BT.nil))) (N_ (@W.boot_o_5 x0) (N_ (@W.boot_o_9 x0) (N_ (o53 x0) (N_ (o69 x0) @W.BT.nil @W.BT.nil) @W.BT.nil) (N_ (o61 x0) @W.BT.nil @W.BT.nil)) (N_ (o45 x0) (N_ (o57 x0) @W.BT.nil @W.BT.nil) (N_ (o65 x0) @W.BT.nil @W.BT.nil)))) (N_ (@W.boot_o_2 x0) (N_ (@W.boot_o_4 x0) (N_ (@W.boot_o_8 x0) (N_ (o52 x0) (N_ (o68 x0) @W.BT.nil @W.BT.nil) @W.BT.nil) (N_ (o60 x0) @W.BT.nil @W.BT.nil)) (N_ (o50 x0) (N_ (o56 x0) @W.BT.nil @W.BT.nil) (N_ (o64 x0) @W.BT.nil @W.BT.nil))) (N_ (@W.boot_o_6 x0) (N_ (@W.boot_o_10 x0) (N_ (o54 x0) (N_ (o70 x0) @W.BT.nil @W.BT.nil) @W.BT.nil) (N_ (o62 x0) @W.BT.nil @W.BT.nil)) (N_ (o46 x0) (N_ (o58 x0) @W.BT.nil @W.BT.nil) (N_ (o66 x0) @W.BT.nil @W.BT.nil))))))
noncomputable def My.h_sts_49 : (@List.{0} @Stmt) := [My.top 0, My.top 1, My.top 2]
noncomputable def My.h_tree_47 : ((x0 : @Params) → @W.BT) := (fun (x0 : @Params) => (N_ (@W.boot_o_0 x0) (N_ (@W.boot_o_1 x0) (N_ (@W.boot_o_3 x0) (N_ (@W.boot_o_7 x0) @W.BT.nil @W.BT.nil) (N_ (o43 x0) @W.BT.nil @W.BT.nil)) (N_ (@W.boot_o_5 x0) (N_ (@W.boot_o_9 x0) @W.BT.nil @W.BT.nil) (N_ (o45 x0) @W.BT.nil @W.BT.nil))) (N_ (@W.boot_o_2 x0) (N_ (@W.boot_o_4 x0) (N_ (@W.boot_o_8 x0) @W.BT.nil @W.BT.nil) (N_ (o44 x0) @W.BT.nil @W.BT.nil)) (N_ (@W.boot_o_6 x0) (N_ (@W.boot_o_10 x0) @W.BT.nil @W.BT.nil) (N_ (o46 x0) @W.BT.nil @W.BT.nil)))))
noncomputable def My.h_heap_46 : ((x0 : @Params) → @Heap) := (fun (x0 : @Params) => (@Heap.mk (@Array.mk.{0} @Obj [(@W.boot_o_0 x0), (@W.boot_o_1 x0), (@W.boot_o_2 x0), (@W.boot_o_3 x0), (@W.boot_o_4 x0), (@W.boot_o_5 x0), (@W.boot_o_6 x0), (@W.boot_o_7 x0), (@W.boot_o_8 x0), (@W.boot_o_9 x0), (@W.boot_o_10 x0), (o43 x0), (o44 x0), (o45 x0), (o46 x0)]) (@Life.mk [] [] [] 0 (@List.nil.{0} (@Prod.{0, 0} @Nat @Nat)) [] @Bool.false #[] [] 0 @Bool.false @Bool.false @Bool.false (0 : Int) [(2000 : Int), (10 : Int), (10 : Int)] @Bool.false 0 @Bool.true [] [] 0 @Bool.false)))
noncomputable abbrev My.k0 := (@Life.mk [] [] [] 0 (@List.nil.{0} (@Prod.{0, 0} @Nat @Nat)) [] @Bool.false #[] [] 0 @Bool.false @Bool.false @Bool.false (0 : Int) [(2000 : Int), (10 : Int), (10 : Int)] @Bool.false 0 @Bool.true [] [] 0 @Bool.false)
noncomputable abbrev My.k1 := (@W.OpenRow.toRowW (@W.OpenLaw.row @Challenge.rw_oddbases_k11_worth_summed))
noncomputable abbrev My.k2 (x0 : World) (x1 : OsState) := (@Shared.mk (@My.h_heap_545 (@World.params x0)) (@Array.mk.{0} @GenState []) (@Drawn.mk 0 0 0 0) 779 x1)
noncomputable abbrev My.k3 := (@Code.body (@W.behindTheImports (My.k1).1) @My.h_env_41)
noncomputable abbrev My.k4 := (@Prod.{0, 0} (@Prod.{0, 0} (@List.{0} (@Option.{0} @FnShape)) @Bool) (@Prod.{0, 0} (@List.{0} (@Option.{0} @PyProof.Rows.PlainShape)) (@Prod.{0, 0} (@List.{0} (@Option.{0} (@Prod.{0, 0} @PyProof.Rows.PlainShape @Bool))) (@Prod.{0, 0} (@Prod.{0, 0} (@List.{0} (@Option.{0} @FnShape)) @Bool) (@List.{0} (@Prod.{0, 0} (@Option.{0} (@Prod.{0, 0} (@List.{0} (@Option.{0} @FnShape)) @Bool)) (@Option.{0} (@Prod.{0, 0} @PyProof.Rows.PlainShape @Bool))))))))
noncomputable abbrev My.k5 := (@HAppend.hAppend.{0, 0, 0} (@List.{0} @Stmt) (@List.{0} @Stmt) (@List.{0} @Stmt) (@instHAppendOfAppend.{0} (@List.{0} @Stmt) (@List.instAppend.{0} @Stmt)) @My.h_sts_239 (@HAppend.hAppend.{0, 0, 0} (@List.{0} @Stmt) (@List.{0} @Stmt) (@List.{0} @Stmt) (@instHAppendOfAppend.{0} (@List.{0} @Stmt) (@List.instAppend.{0} @Stmt)) @My.h_sts_282 (@HAppend.hAppend.{0, 0, 0} (@List.{0} @Stmt) (@List.{0} @Stmt) (@List.{0} @Stmt) (@instHAppendOfAppend.{0} (@List.{0} @Stmt) (@List.instAppend.{0} @Stmt)) @My.h_sts_332 (@HAppend.hAppend.{0, 0, 0} (@List.{0} @Stmt) (@List.{0} @Stmt) (@List.{0} @Stmt) (@instHAppendOfAppend.{0} (@List.{0} @Stmt) (@List.instAppend.{0} @Stmt)) @My.h_sts_368 (@HAppend.hAppend.{0, 0, 0} (@List.{0} @Stmt) (@List.{0} @Stmt) (@List.{0} @Stmt) (@instHAppendOfAppend.{0} (@List.{0} @Stmt) (@List.instAppend.{0} @Stmt)) @My.h_sts_418 (@HAppend.hAppend.{0, 0, 0} (@List.{0} @Stmt) (@List.{0} @Stmt) (@List.{0} @Stmt) (@instHAppendOfAppend.{0} (@List.{0} @Stmt) (@List.instAppend.{0} @Stmt)) @My.h_sts_475 []))))))
noncomputable abbrev My.k6 := (@Prod.{0, 0} @Flow (@Prod.{0, 0} @Shared (@Prod.{0, 0} @Code @Pos)))
noncomputable abbrev My.k7 := (@Prod.{0, 0} @Flow (@Prod.{0, 0} @W.SharedT (@Prod.{0, 0} @Code @Pos)))
noncomputable abbrev My.k8 := (@instHAppendOfAppend.{0} (@List.{0} @Stmt) (@List.instAppend.{0} @Stmt))
noncomputable abbrev My.k9 (x0 : World) (x1 : OsState) := (@ite.{1} @Bool (@Eq.{1} @Bool @Bool.true @Bool.true) (@instDecidableEqBool @Bool.true @Bool.true) (@BEq.beq.{0} @Nat (@instBEqOfDecidableEq.{0} @Nat @instDecidableEqNat) (@Array.size.{0} @GenState (@Shared.gens (My.k2 x0 x1))) 0) (@Bool.not (@leftWithCleanup (@Shared.gens (My.k2 x0 x1)))))
noncomputable abbrev My.k10 := (@Nat.add 383 (@Nat.add 32 (@Nat.add 385 (@Nat.add 310 (@Nat.add 342 (@Nat.add 374 (@Nat.add 310 (@Nat.add 380 (@Nat.add 406 (@Nat.add 325 2))))))))))
noncomputable abbrev My.k11 := (@Bool.true, ((@pinGoodD (@PyProof.Rows.drecsOf @My.h_view_39)), ((@PyProof.Rows.plainGoodE @My.h_view_39 (@W.looseW @My.h_view_39 [])), ((@PyProof.Rows.plainGoodD @My.h_view_39 []), ((@W.wideGood @My.h_view_39), (@W.clsGoodW @My.h_view_39 []))))))
noncomputable abbrev My.k12 := (@List.{0} (@Prod.{0, 0} (@Option.{0} (@Prod.{0, 0} (@List.{0} (@Option.{0} @FnShape)) @Bool)) (@Option.{0} (@Prod.{0, 0} @PyProof.Rows.PlainShape @Bool))))
noncomputable abbrev My.k13 (x0 : World) (x1 : OsState) := (@Bool.and (@Bool.and (@Bool.and (@W.staticsOk (@importedModules (@Module.body (@Program.main (My.k1).1))) (@W.boot_heap (@World.params x0)) (@My.h_heap_545 (@World.params x0))) (@W.namesBound (My.k1).1 (@My.h_heap_545 (@World.params x0)))) (@W.gensDone (My.k2 x0 x1))) (@W.laidKept (@W.boot_heap (@World.params x0)) (@My.h_heap_545 (@World.params x0))))
noncomputable abbrev My.k14 := (@Prod.{0, 0} (@Prod.{0, 0} (@Option.{0} @Str) (@List.{0} (@Prod.{0, 0} @Str @Value))) (@Prod.{0, 0} @Bool (@Prod.{0, 0} @Bool My.k4)))
noncomputable abbrev My.k15 (x0 : World) (x1 : OsState) := (@PyProof.Rows.plainSeenE @My.h_view_39 (@W.looseW @My.h_view_39 []) (My.k2 x0 x1))
noncomputable abbrev My.k16 := (@HAppend.hAppend.{0, 0, 0} (@List.{0} @Stmt) (@List.{0} @Stmt) (@List.{0} @Stmt) My.k8 @My.h_sts_136 (@HAppend.hAppend.{0, 0, 0} (@List.{0} @Stmt) (@List.{0} @Stmt) (@List.{0} @Stmt) My.k8 @My.h_sts_145 (@HAppend.hAppend.{0, 0, 0} (@List.{0} @Stmt) (@List.{0} @Stmt) (@List.{0} @Stmt) My.k8 @My.h_sts_203 My.k5)))
noncomputable abbrev My.k17 := (@HAppend.hAppend.{0, 0, 0} (@List.{0} @Stmt) (@List.{0} @Stmt) (@List.{0} @Stmt) My.k8 @My.h_sts_368 (@HAppend.hAppend.{0, 0, 0} (@List.{0} @Stmt) (@List.{0} @Stmt) (@List.{0} @Stmt) My.k8 @My.h_sts_418 (@HAppend.hAppend.{0, 0, 0} (@List.{0} @Stmt) (@List.{0} @Stmt) (@List.{0} @Stmt) My.k8 @My.h_sts_475 [])))
noncomputable abbrev My.k18 := (@importedModules (@Module.body (@Program.main (My.k1).1)))
noncomputable abbrev My.k19 (x0 : World) (x1 : OsState) := (@pinSeenD @My.h_view_39 (@PyProof.Rows.drecsOf @My.h_view_39) (My.k2 x0 x1))
noncomputable abbrev My.k20 (x0 : World) (x1 : OsState) := (@PyProof.Rows.plainSeenD @My.h_view_39 [] (My.k2 x0 x1))
noncomputable abbrev My.k21 := (@Prod.{0, 0} (@List.{0} (@Option.{0} @FnShape)) @Bool)
noncomputable abbrev My.k22 := (@W.piecesOf @My.h_sts_475 @My.h_env_41 My.k3 (@Pos.mk 134 0 152 30) [(@W.topFrame (@Pos.mk 0 0 0 0))])
noncomputable abbrev My.k23 := (@W.piecesOf @My.h_sts_418 @My.h_env_41 My.k3 (@Pos.mk 110 0 133 16) [(@W.topFrame (@Pos.mk 0 0 0 0))])
noncomputable abbrev My.k24 := (@W.piecesOf @My.h_sts_368 @My.h_env_41 My.k3 (@Pos.mk 100 0 109 33) [(@W.topFrame (@Pos.mk 0 0 0 0))])
noncomputable abbrev My.k25 := (@W.piecesOf @My.h_sts_332 @My.h_env_41 My.k3 (@Pos.mk 84 0 99 31) [(@W.topFrame (@Pos.mk 0 0 0 0))])
noncomputable abbrev My.k26 := (@W.piecesOf @My.h_sts_282 @My.h_env_41 My.k3 (@Pos.mk 71 0 83 31) [(@W.topFrame (@Pos.mk 0 0 0 0))])
noncomputable abbrev My.k27 := (@W.piecesOf @My.h_sts_239 @My.h_env_41 My.k3 (@Pos.mk 61 0 70 24) [(@W.topFrame (@Pos.mk 0 0 0 0))])
noncomputable abbrev My.k28 := (@W.piecesOf @My.h_sts_203 @My.h_env_41 My.k3 (@Pos.mk 37 0 60 47) [(@W.topFrame (@Pos.mk 0 0 0 0))])
noncomputable abbrev My.k29 := (@W.piecesOf @My.h_sts_145 @My.h_env_41 My.k3 (@Pos.mk 33 0 36 17) [(@W.topFrame (@Pos.mk 0 0 0 0))])
noncomputable abbrev My.k30 := (@W.piecesOf @My.h_sts_136 @My.h_env_41 My.k3 (@Pos.mk 32 0 32 8) [(@W.topFrame (@Pos.mk 0 0 0 0))])
noncomputable abbrev My.k31 := (@List.{0} (@Option.{0} (@Prod.{0, 0} @PyProof.Rows.PlainShape @Bool)))
noncomputable abbrev My.k32 := (@W.piecesOf @My.h_sts_86 @My.h_env_41 My.k3 (@Pos.mk 7 0 8 8) [(@W.topFrame (@Pos.mk 0 0 0 0))])
noncomputable abbrev My.k33 := (@W.piecesOf @My.h_sts_71 @My.h_env_41 My.k3 (@Pos.mk 5 0 6 8) [(@W.topFrame (@Pos.mk 0 0 0 0))])
noncomputable abbrev My.k34 := (@W.piecesOf @My.h_sts_49 @My.h_env_41 My.k3 (@Pos.mk 0 0 0 0) [(@W.topFrame (@Pos.mk 0 0 0 0))])
noncomputable abbrev My.k35 := (@PyProof.Rows.plainGoodE @My.h_view_39 (@W.looseW @My.h_view_39 []))
theorem My.pf_580 : ((x0 : @World) → (@Eq.{1} ((x1 : @OsState) → (@W.Hook.α (@W.kHook @My.h_heap_39 My.myAs (fun (x2 : @Params) => (@id.{0} (@Eq.{1} (@List.{0} @Addr) My.myAs (@List.map.{0, 0} (@Prod.{0, 0} @Addr @Obj) @Addr (fun (x3 : (@Prod.{0, 0} @Addr @Obj)) => (@Prod.fst.{0, 0} @Addr @Obj x3)) (@My.h_heap_39 x2))) (@Eq.refl.{1} (@List.{0} @Addr) My.myAs)))))) (fun (x1 : @OsState) => (@W.Hook.obs (@W.kHook @My.h_heap_39 My.myAs (fun (x2 : @Params) => (@id.{0} (@Eq.{1} (@List.{0} @Addr) My.myAs (@List.map.{0, 0} (@Prod.{0, 0} @Addr @Obj) @Addr (fun (x3 : (@Prod.{0, 0} @Addr @Obj)) => (@Prod.fst.{0, 0} @Addr @Obj x3)) (@My.h_heap_39 x2))) (@Eq.refl.{1} (@List.{0} @Addr) My.myAs)))) (My.k2 x0 x1))) (fun (x1 : @OsState) => (@W.Hook.val (@W.kHook @My.h_heap_39 My.myAs (fun (x2 : @Params) => (@id.{0} (@Eq.{1} (@List.{0} @Addr) My.myAs (@List.map.{0, 0} (@Prod.{0, 0} @Addr @Obj) @Addr (fun (x3 : (@Prod.{0, 0} @Addr @Obj)) => (@Prod.fst.{0, 0} @Addr @Obj x3)) (@My.h_heap_39 x2))) (@Eq.refl.{1} (@List.{0} @Addr) My.myAs)))) x0)))) := by intros; kernel_rfl
theorem My.pf_570 : ((x0 : @World) → (@Eq.{1} ((x1 : @OsState) → My.k12) (fun (x1 : @OsState) => (@W.clsSeenW @My.h_view_39 [] (My.k2 x0 x1))) (fun (x1 : @OsState) => (@W.clsGoodW @My.h_view_39 [])))) := by intros; kernel_rfl
theorem My.pf_568 : ((x0 : @World) → (@Eq.{1} ((x1 : @OsState) → My.k21) (fun (x1 : @OsState) => (@W.wideSeen @My.h_view_39 (My.k2 x0 x1))) (fun (x1 : @OsState) => (@W.wideGood @My.h_view_39)))) := by intros; kernel_rfl
theorem My.pf_571 : ((x0 : @World) → ((x1 : @OsState) → (@Eq.{1} (@Prod.{0, 0} My.k21 My.k12) ((@W.wideSeen @My.h_view_39 (My.k2 x0 x1)), (@W.clsSeenW @My.h_view_39 [] (My.k2 x0 x1))) ((@W.wideGood @My.h_view_39), (@W.clsGoodW @My.h_view_39 []))))) := (fun (x0 : @World) => (fun (x1 : @OsState) => (@W.looks_pair My.k21 My.k12 (@W.wideSeen @My.h_view_39 (My.k2 x0 x1)) (@W.wideGood @My.h_view_39) (@W.clsSeenW @My.h_view_39 [] (My.k2 x0 x1)) (@W.clsGoodW @My.h_view_39 []) ((fun (x2 : @World) => (fun (x3 : @OsState) => (@congrFun.{1, 1} @OsState (fun (x4 : @OsState) => My.k21) (fun (x4 : @OsState) => (@W.wideSeen @My.h_view_39 (@Shared.mk (@My.h_heap_545 (@World.params x2)) (@Array.mk.{0} @GenState []) (@Drawn.mk 0 0 0 0) 779 x4))) (fun (x4 : @OsState) => (@W.wideGood @My.h_view_39)) (@My.pf_568 x2) x3))) x0 x1) ((fun (x2 : @World) => (fun (x3 : @OsState) => (@congrFun.{1, 1} @OsState (fun (x4 : @OsState) => My.k12) (fun (x4 : @OsState) => (@W.clsSeenW @My.h_view_39 [] (@Shared.mk (@My.h_heap_545 (@World.params x2)) (@Array.mk.{0} @GenState []) (@Drawn.mk 0 0 0 0) 779 x4))) (fun (x4 : @OsState) => (@W.clsGoodW @My.h_view_39 [])) (@My.pf_570 x2) x3))) x0 x1))))
theorem My.pf_566 : ((x0 : @World) → (@Eq.{1} ((x1 : @OsState) → My.k31) (fun (x1 : @OsState) => (My.k20 x0 x1)) (fun (x1 : @OsState) => (@PyProof.Rows.plainGoodD @My.h_view_39 [])))) := by intros; kernel_rfl
theorem My.pf_572 : ((x0 : @World) → ((x1 : @OsState) → (@Eq.{1} (@Prod.{0, 0} My.k31 (@Prod.{0, 0} My.k21 My.k12)) ((My.k20 x0 x1), ((@W.wideSeen @My.h_view_39 (My.k2 x0 x1)), (@W.clsSeenW @My.h_view_39 [] (My.k2 x0 x1)))) ((@PyProof.Rows.plainGoodD @My.h_view_39 []), ((@W.wideGood @My.h_view_39), (@W.clsGoodW @My.h_view_39 [])))))) := (fun (x0 : @World) => (fun (x1 : @OsState) => (@W.looks_pair My.k31 (@Prod.{0, 0} My.k21 My.k12) (My.k20 x0 x1) (@PyProof.Rows.plainGoodD @My.h_view_39 []) ((@W.wideSeen @My.h_view_39 (My.k2 x0 x1)), (@W.clsSeenW @My.h_view_39 [] (My.k2 x0 x1))) ((@W.wideGood @My.h_view_39), (@W.clsGoodW @My.h_view_39 [])) ((fun (x2 : @World) => (fun (x3 : @OsState) => (@congrFun.{1, 1} @OsState (fun (x4 : @OsState) => My.k31) (fun (x4 : @OsState) => (@PyProof.Rows.plainSeenD @My.h_view_39 [] (@Shared.mk (@My.h_heap_545 (@World.params x2)) (@Array.mk.{0} @GenState []) (@Drawn.mk 0 0 0 0) 779 x4))) (fun (x4 : @OsState) => (@PyProof.Rows.plainGoodD @My.h_view_39 [])) (@My.pf_566 x2) x3))) x0 x1) (@My.pf_571 x0 x1))))
theorem My.pf_564 : ((x0 : @World) → (@Eq.{1} ((x1 : @OsState) → (@List.{0} (@Option.{0} @PyProof.Rows.PlainShape))) (fun (x1 : @OsState) => (My.k15 x0 x1)) (fun (x1 : @OsState) => My.k35))) := by intros; kernel_rfl
theorem My.pf_573 : ((x0 : @World) → ((x1 : @OsState) → (@Eq.{1} (@Prod.{0, 0} (@List.{0} (@Option.{0} @PyProof.Rows.PlainShape)) (@Prod.{0, 0} My.k31 (@Prod.{0, 0} My.k21 My.k12))) ((My.k15 x0 x1), ((My.k20 x0 x1), ((@W.wideSeen @My.h_view_39 (My.k2 x0 x1)), (@W.clsSeenW @My.h_view_39 [] (My.k2 x0 x1))))) (My.k35, ((@PyProof.Rows.plainGoodD @My.h_view_39 []), ((@W.wideGood @My.h_view_39), (@W.clsGoodW @My.h_view_39 []))))))) := (fun (x0 : @World) => (fun (x1 : @OsState) => (@W.looks_pair (@List.{0} (@Option.{0} @PyProof.Rows.PlainShape)) (@Prod.{0, 0} My.k31 (@Prod.{0, 0} My.k21 My.k12)) (My.k15 x0 x1) My.k35 ((My.k20 x0 x1), ((@W.wideSeen @My.h_view_39 (My.k2 x0 x1)), (@W.clsSeenW @My.h_view_39 [] (My.k2 x0 x1)))) ((@PyProof.Rows.plainGoodD @My.h_view_39 []), ((@W.wideGood @My.h_view_39), (@W.clsGoodW @My.h_view_39 []))) ((fun (x2 : @World) => (fun (x3 : @OsState) => (@congrFun.{1, 1} @OsState (fun (x4 : @OsState) => (@List.{0} (@Option.{0} @PyProof.Rows.PlainShape))) (fun (x4 : @OsState) => (@PyProof.Rows.plainSeenE @My.h_view_39 (@W.looseW @My.h_view_39 []) (@Shared.mk (@My.h_heap_545 (@World.params x2)) (@Array.mk.{0} @GenState []) (@Drawn.mk 0 0 0 0) 779 x4))) (fun (x4 : @OsState) => My.k35) (@My.pf_564 x2) x3))) x0 x1) (@My.pf_572 x0 x1))))
theorem My.pf_562 : ((x0 : @World) → (@Eq.{1} ((x1 : @OsState) → My.k21) (fun (x1 : @OsState) => (My.k19 x0 x1)) (fun (x1 : @OsState) => (@pinGoodD (@PyProof.Rows.drecsOf @My.h_view_39))))) := by intros; kernel_rfl
theorem My.pf_574 : ((x0 : @World) → ((x1 : @OsState) → (@Eq.{1} My.k4 ((My.k19 x0 x1), ((My.k15 x0 x1), ((My.k20 x0 x1), ((@W.wideSeen @My.h_view_39 (My.k2 x0 x1)), (@W.clsSeenW @My.h_view_39 [] (My.k2 x0 x1)))))) ((@pinGoodD (@PyProof.Rows.drecsOf @My.h_view_39)), (My.k35, ((@PyProof.Rows.plainGoodD @My.h_view_39 []), ((@W.wideGood @My.h_view_39), (@W.clsGoodW @My.h_view_39 [])))))))) := (fun (x0 : @World) => (fun (x1 : @OsState) => (@W.looks_pair My.k21 (@Prod.{0, 0} (@List.{0} (@Option.{0} @PyProof.Rows.PlainShape)) (@Prod.{0, 0} My.k31 (@Prod.{0, 0} My.k21 My.k12))) (My.k19 x0 x1) (@pinGoodD (@PyProof.Rows.drecsOf @My.h_view_39)) ((My.k15 x0 x1), ((My.k20 x0 x1), ((@W.wideSeen @My.h_view_39 (My.k2 x0 x1)), (@W.clsSeenW @My.h_view_39 [] (My.k2 x0 x1))))) (My.k35, ((@PyProof.Rows.plainGoodD @My.h_view_39 []), ((@W.wideGood @My.h_view_39), (@W.clsGoodW @My.h_view_39 [])))) ((fun (x2 : @World) => (fun (x3 : @OsState) => (@congrFun.{1, 1} @OsState (fun (x4 : @OsState) => My.k21) (fun (x4 : @OsState) => (@pinSeenD @My.h_view_39 (@PyProof.Rows.drecsOf @My.h_view_39) (@Shared.mk (@My.h_heap_545 (@World.params x2)) (@Array.mk.{0} @GenState []) (@Drawn.mk 0 0 0 0) 779 x4))) (fun (x4 : @OsState) => (@pinGoodD (@PyProof.Rows.drecsOf @My.h_view_39))) (@My.pf_562 x2) x3))) x0 x1) (@My.pf_573 x0 x1))))
theorem My.pf_560 : ((x0 : @World) → (@Eq.{1} ((x1 : @OsState) → @Bool) (fun (x1 : @OsState) => (@PyProof.Rows.tabsOk @My.h_view_39 (My.k2 x0 x1))) (fun (x1 : @OsState) => @Bool.true))) := by intros; kernel_rfl
theorem My.pf_575 : ((x0 : @World) → ((x1 : @OsState) → (@Eq.{1} (@Prod.{0, 0} @Bool My.k4) ((@PyProof.Rows.tabsOk @My.h_view_39 (My.k2 x0 x1)), ((My.k19 x0 x1), ((My.k15 x0 x1), ((My.k20 x0 x1), ((@W.wideSeen @My.h_view_39 (My.k2 x0 x1)), (@W.clsSeenW @My.h_view_39 [] (My.k2 x0 x1))))))) My.k11))) := (fun (x0 : @World) => (fun (x1 : @OsState) => (@W.looks_pair @Bool My.k4 (@PyProof.Rows.tabsOk @My.h_view_39 (My.k2 x0 x1)) @Bool.true ((My.k19 x0 x1), ((My.k15 x0 x1), ((My.k20 x0 x1), ((@W.wideSeen @My.h_view_39 (My.k2 x0 x1)), (@W.clsSeenW @My.h_view_39 [] (My.k2 x0 x1)))))) ((@pinGoodD (@PyProof.Rows.drecsOf @My.h_view_39)), (My.k35, ((@PyProof.Rows.plainGoodD @My.h_view_39 []), ((@W.wideGood @My.h_view_39), (@W.clsGoodW @My.h_view_39 []))))) ((fun (x2 : @World) => (fun (x3 : @OsState) => (@congrFun.{1, 1} @OsState (fun (x4 : @OsState) => @Bool) (fun (x4 : @OsState) => (@PyProof.Rows.tabsOk @My.h_view_39 (@Shared.mk (@My.h_heap_545 (@World.params x2)) (@Array.mk.{0} @GenState []) (@Drawn.mk 0 0 0 0) 779 x4))) (fun (x4 : @OsState) => @Bool.true) (@My.pf_560 x2) x3))) x0 x1) (@My.pf_574 x0 x1))))
theorem My.pf_558 : ((x0 : @World) → (@Eq.{1} ((x1 : @OsState) → @Bool) (fun (x1 : @OsState) => (@Bool.and (@Bool.and (@Bool.and (@Bool.and (@Bool.and (@Bool.and (@Heap.keysOk (@Shared.heap (My.k2 x0 x1)) (@W.looseW @My.h_view_39 []) (@List.map.{0, 0} @DefRec @Str (fun (x2 : @DefRec) => (@DefRec.name x2)) (@PyProof.Rows.recsOf @My.h_view_39)) (@List.map.{0, 0} (@Prod.{0, 0} @Str @PyData) @Str (fun (x2 : (@Prod.{0, 0} @Str @PyData)) => (@Prod.fst.{0, 0} @Str @PyData x2)) (@PyProof.Rows.litsOf @My.h_view_39)) (@List.map.{0, 0} @ClsRec @Str (fun (x2 : @ClsRec) => (@ClsRec.name x2)) (@PyProof.Rows.clssOf @My.h_view_39 (@W.looseW @My.h_view_39 [])))) (@Heap.accountedOkI (@Shared.heap (My.k2 x0 x1)) My.k18)) (@Heap.isNs (@Shared.heap (My.k2 x0 x1)) @mainGlobals)) (@Heap.isNs (@Shared.heap (My.k2 x0 x1)) @builtinsNs)) (@PyProof.Rows.tablesOk @My.h_view_39 (@Shared.heap (My.k2 x0 x1)))) ((fun (x2 : @Shared) => (@Bool.and (@W.xlAt @My.h_view_39 (@List.nil.{0} (@Prod.{0, 0} @Str @W.WData)) x2) (@W.recOk (@W.RowW.records My.k1) x2))) (My.k2 x0 x1))) (My.k9 x0 x1))) (fun (x1 : @OsState) => @Bool.true))) := by intros; kernel_rfl
theorem My.pf_576 : ((x0 : @World) → ((x1 : @OsState) → (@Eq.{1} (@Prod.{0, 0} @Bool (@Prod.{0, 0} @Bool My.k4)) ((@Bool.and (@Bool.and (@Bool.and (@Bool.and (@Bool.and (@Bool.and (@Heap.keysOk (@Shared.heap (My.k2 x0 x1)) (@W.looseW @My.h_view_39 []) (@List.map.{0, 0} @DefRec @Str (fun (x2 : @DefRec) => (@DefRec.name x2)) (@PyProof.Rows.recsOf @My.h_view_39)) (@List.map.{0, 0} (@Prod.{0, 0} @Str @PyData) @Str (fun (x2 : (@Prod.{0, 0} @Str @PyData)) => (@Prod.fst.{0, 0} @Str @PyData x2)) (@PyProof.Rows.litsOf @My.h_view_39)) (@List.map.{0, 0} @ClsRec @Str (fun (x2 : @ClsRec) => (@ClsRec.name x2)) (@PyProof.Rows.clssOf @My.h_view_39 (@W.looseW @My.h_view_39 [])))) (@Heap.accountedOkI (@Shared.heap (My.k2 x0 x1)) My.k18)) (@Heap.isNs (@Shared.heap (My.k2 x0 x1)) @mainGlobals)) (@Heap.isNs (@Shared.heap (My.k2 x0 x1)) @builtinsNs)) (@PyProof.Rows.tablesOk @My.h_view_39 (@Shared.heap (My.k2 x0 x1)))) ((fun (x2 : @Shared) => (@Bool.and (@W.xlAt @My.h_view_39 (@List.nil.{0} (@Prod.{0, 0} @Str @W.WData)) x2) (@W.recOk (@W.RowW.records My.k1) x2))) (My.k2 x0 x1))) (My.k9 x0 x1)), ((@PyProof.Rows.tabsOk @My.h_view_39 (My.k2 x0 x1)), ((My.k19 x0 x1), ((My.k15 x0 x1), ((My.k20 x0 x1), ((@W.wideSeen @My.h_view_39 (My.k2 x0 x1)), (@W.clsSeenW @My.h_view_39 [] (My.k2 x0 x1)))))))) (@Bool.true, My.k11)))) := (fun (x0 : @World) => (fun (x1 : @OsState) => (@W.looks_pair @Bool (@Prod.{0, 0} @Bool My.k4) (@Bool.and (@Bool.and (@Bool.and (@Bool.and (@Bool.and (@Bool.and (@Heap.keysOk (@Shared.heap (My.k2 x0 x1)) (@W.looseW @My.h_view_39 []) (@List.map.{0, 0} @DefRec @Str (fun (x2 : @DefRec) => (@DefRec.name x2)) (@PyProof.Rows.recsOf @My.h_view_39)) (@List.map.{0, 0} (@Prod.{0, 0} @Str @PyData) @Str (fun (x2 : (@Prod.{0, 0} @Str @PyData)) => (@Prod.fst.{0, 0} @Str @PyData x2)) (@PyProof.Rows.litsOf @My.h_view_39)) (@List.map.{0, 0} @ClsRec @Str (fun (x2 : @ClsRec) => (@ClsRec.name x2)) (@PyProof.Rows.clssOf @My.h_view_39 (@W.looseW @My.h_view_39 [])))) (@Heap.accountedOkI (@Shared.heap (My.k2 x0 x1)) My.k18)) (@Heap.isNs (@Shared.heap (My.k2 x0 x1)) @mainGlobals)) (@Heap.isNs (@Shared.heap (My.k2 x0 x1)) @builtinsNs)) (@PyProof.Rows.tablesOk @My.h_view_39 (@Shared.heap (My.k2 x0 x1)))) ((fun (x2 : @Shared) => (@Bool.and (@W.xlAt @My.h_view_39 (@List.nil.{0} (@Prod.{0, 0} @Str @W.WData)) x2) (@W.recOk (@W.RowW.records My.k1) x2))) (My.k2 x0 x1))) (My.k9 x0 x1)) @Bool.true ((@PyProof.Rows.tabsOk @My.h_view_39 (My.k2 x0 x1)), ((My.k19 x0 x1), ((My.k15 x0 x1), ((My.k20 x0 x1), ((@W.wideSeen @My.h_view_39 (My.k2 x0 x1)), (@W.clsSeenW @My.h_view_39 [] (My.k2 x0 x1))))))) My.k11 ((fun (x2 : @World) => (fun (x3 : @OsState) => (@congrFun.{1, 1} @OsState (fun (x4 : @OsState) => @Bool) (fun (x4 : @OsState) => (@Bool.and (@Bool.and (@Bool.and (@Bool.and (@Bool.and (@Bool.and (@Heap.keysOk (@Shared.heap (@Shared.mk (@My.h_heap_545 (@World.params x2)) (@Array.mk.{0} @GenState []) (@Drawn.mk 0 0 0 0) 779 x4)) (@W.looseW @My.h_view_39 []) (@List.map.{0, 0} @DefRec @Str (fun (x5 : @DefRec) => (@DefRec.name x5)) (@PyProof.Rows.recsOf @My.h_view_39)) (@List.map.{0, 0} (@Prod.{0, 0} @Str @PyData) @Str (fun (x5 : (@Prod.{0, 0} @Str @PyData)) => (@Prod.fst.{0, 0} @Str @PyData x5)) (@PyProof.Rows.litsOf @My.h_view_39)) (@List.map.{0, 0} @ClsRec @Str (fun (x5 : @ClsRec) => (@ClsRec.name x5)) (@PyProof.Rows.clssOf @My.h_view_39 (@W.looseW @My.h_view_39 [])))) (@Heap.accountedOkI (@Shared.heap (@Shared.mk (@My.h_heap_545 (@World.params x2)) (@Array.mk.{0} @GenState []) (@Drawn.mk 0 0 0 0) 779 x4)) My.k18)) (@Heap.isNs (@Shared.heap (@Shared.mk (@My.h_heap_545 (@World.params x2)) (@Array.mk.{0} @GenState []) (@Drawn.mk 0 0 0 0) 779 x4)) @mainGlobals)) (@Heap.isNs (@Shared.heap (@Shared.mk (@My.h_heap_545 (@World.params x2)) (@Array.mk.{0} @GenState []) (@Drawn.mk 0 0 0 0) 779 x4)) @builtinsNs)) (@PyProof.Rows.tablesOk @My.h_view_39 (@Shared.heap (@Shared.mk (@My.h_heap_545 (@World.params x2)) (@Array.mk.{0} @GenState []) (@Drawn.mk 0 0 0 0) 779 x4)))) ((fun (x5 : @Shared) => (@Bool.and (@W.xlAt @My.h_view_39 (@List.nil.{0} (@Prod.{0, 0} @Str @W.WData)) x5) (@W.recOk (@W.RowW.records My.k1) x5))) (@Shared.mk (@My.h_heap_545 (@World.params x2)) (@Array.mk.{0} @GenState []) (@Drawn.mk 0 0 0 0) 779 x4))) (@ite.{1} @Bool (@Eq.{1} @Bool @Bool.true @Bool.true) (@instDecidableEqBool @Bool.true @Bool.true) (@BEq.beq.{0} @Nat (@instBEqOfDecidableEq.{0} @Nat @instDecidableEqNat) (@Array.size.{0} @GenState (@Shared.gens (@Shared.mk (@My.h_heap_545 (@World.params x2)) (@Array.mk.{0} @GenState []) (@Drawn.mk 0 0 0 0) 779 x4))) 0) (@Bool.not (@leftWithCleanup (@Shared.gens (@Shared.mk (@My.h_heap_545 (@World.params x2)) (@Array.mk.{0} @GenState []) (@Drawn.mk 0 0 0 0) 779 x4))))))) (fun (x4 : @OsState) => @Bool.true) (@My.pf_558 x2) x3))) x0 x1) (@My.pf_575 x0 x1))))
theorem My.pf_556 : ((x0 : @World) → (@Eq.{1} ((x1 : @OsState) → (@Prod.{0, 0} (@Option.{0} @Str) (@List.{0} (@Prod.{0, 0} @Str @Value)))) (fun (x1 : @OsState) => (@Heap.bltView (@Shared.heap (My.k2 x0 x1)))) (fun (x1 : @OsState) => @bltViewBooted))) := by intros; kernel_rfl
theorem My.pf_577 : ((x0 : @World) → ((x1 : @OsState) → (@Eq.{1} My.k14 ((@Heap.bltView (@Shared.heap (My.k2 x0 x1))), ((@Bool.and (@Bool.and (@Bool.and (@Bool.and (@Bool.and (@Bool.and (@Heap.keysOk (@Shared.heap (My.k2 x0 x1)) (@W.looseW @My.h_view_39 []) (@List.map.{0, 0} @DefRec @Str (fun (x2 : @DefRec) => (@DefRec.name x2)) (@PyProof.Rows.recsOf @My.h_view_39)) (@List.map.{0, 0} (@Prod.{0, 0} @Str @PyData) @Str (fun (x2 : (@Prod.{0, 0} @Str @PyData)) => (@Prod.fst.{0, 0} @Str @PyData x2)) (@PyProof.Rows.litsOf @My.h_view_39)) (@List.map.{0, 0} @ClsRec @Str (fun (x2 : @ClsRec) => (@ClsRec.name x2)) (@PyProof.Rows.clssOf @My.h_view_39 (@W.looseW @My.h_view_39 [])))) (@Heap.accountedOkI (@Shared.heap (My.k2 x0 x1)) My.k18)) (@Heap.isNs (@Shared.heap (My.k2 x0 x1)) @mainGlobals)) (@Heap.isNs (@Shared.heap (My.k2 x0 x1)) @builtinsNs)) (@PyProof.Rows.tablesOk @My.h_view_39 (@Shared.heap (My.k2 x0 x1)))) ((fun (x2 : @Shared) => (@Bool.and (@W.xlAt @My.h_view_39 (@List.nil.{0} (@Prod.{0, 0} @Str @W.WData)) x2) (@W.recOk (@W.RowW.records My.k1) x2))) (My.k2 x0 x1))) (My.k9 x0 x1)), ((@PyProof.Rows.tabsOk @My.h_view_39 (My.k2 x0 x1)), ((My.k19 x0 x1), ((My.k15 x0 x1), ((My.k20 x0 x1), ((@W.wideSeen @My.h_view_39 (My.k2 x0 x1)), (@W.clsSeenW @My.h_view_39 [] (My.k2 x0 x1))))))))) (@bltViewBooted, (@Bool.true, My.k11))))) := (fun (x0 : @World) => (fun (x1 : @OsState) => (@W.looks_pair (@Prod.{0, 0} (@Option.{0} @Str) (@List.{0} (@Prod.{0, 0} @Str @Value))) (@Prod.{0, 0} @Bool (@Prod.{0, 0} @Bool My.k4)) (@Heap.bltView (@Shared.heap (My.k2 x0 x1))) @bltViewBooted ((@Bool.and (@Bool.and (@Bool.and (@Bool.and (@Bool.and (@Bool.and (@Heap.keysOk (@Shared.heap (My.k2 x0 x1)) (@W.looseW @My.h_view_39 []) (@List.map.{0, 0} @DefRec @Str (fun (x2 : @DefRec) => (@DefRec.name x2)) (@PyProof.Rows.recsOf @My.h_view_39)) (@List.map.{0, 0} (@Prod.{0, 0} @Str @PyData) @Str (fun (x2 : (@Prod.{0, 0} @Str @PyData)) => (@Prod.fst.{0, 0} @Str @PyData x2)) (@PyProof.Rows.litsOf @My.h_view_39)) (@List.map.{0, 0} @ClsRec @Str (fun (x2 : @ClsRec) => (@ClsRec.name x2)) (@PyProof.Rows.clssOf @My.h_view_39 (@W.looseW @My.h_view_39 [])))) (@Heap.accountedOkI (@Shared.heap (My.k2 x0 x1)) My.k18)) (@Heap.isNs (@Shared.heap (My.k2 x0 x1)) @mainGlobals)) (@Heap.isNs (@Shared.heap (My.k2 x0 x1)) @builtinsNs)) (@PyProof.Rows.tablesOk @My.h_view_39 (@Shared.heap (My.k2 x0 x1)))) ((fun (x2 : @Shared) => (@Bool.and (@W.xlAt @My.h_view_39 (@List.nil.{0} (@Prod.{0, 0} @Str @W.WData)) x2) (@W.recOk (@W.RowW.records My.k1) x2))) (My.k2 x0 x1))) (My.k9 x0 x1)), ((@PyProof.Rows.tabsOk @My.h_view_39 (My.k2 x0 x1)), ((My.k19 x0 x1), ((My.k15 x0 x1), ((My.k20 x0 x1), ((@W.wideSeen @My.h_view_39 (My.k2 x0 x1)), (@W.clsSeenW @My.h_view_39 [] (My.k2 x0 x1)))))))) (@Bool.true, My.k11) ((fun (x2 : @World) => (fun (x3 : @OsState) => (@congrFun.{1, 1} @OsState (fun (x4 : @OsState) => (@Prod.{0, 0} (@Option.{0} @Str) (@List.{0} (@Prod.{0, 0} @Str @Value)))) (fun (x4 : @OsState) => (@Heap.bltView (@Shared.heap (@Shared.mk (@My.h_heap_545 (@World.params x2)) (@Array.mk.{0} @GenState []) (@Drawn.mk 0 0 0 0) 779 x4)))) (fun (x4 : @OsState) => @bltViewBooted) (@My.pf_556 x2) x3))) x0 x1) (@My.pf_576 x0 x1))))
theorem My.pf_554 : ((x0 : @World) → (@Eq.{1} ((x1 : @OsState) → @PyProof.Rows.Seen) (fun (x1 : @OsState) => (@PyProof.Rows.seen (@List.map.{0, 0} @DefRec @Str (fun (x2 : @DefRec) => (@DefRec.name x2)) (@PyProof.Rows.recsOf @My.h_view_39)) (@PyProof.Rows.ownsOf @My.h_view_39) [] (@Shared.mk (@Shared.heap (My.k2 x0 x1)) #[] (@Shared.drawn (My.k2 x0 x1)) (@Shared.toks (My.k2 x0 x1)) (@Shared.os (My.k2 x0 x1))))) (fun (x1 : @OsState) => (@PyProof.Rows.expectedOf @My.h_view_39)))) := by intros; kernel_rfl
theorem My.pf_578 : ((x0 : @World) → ((x1 : @OsState) → (@Eq.{1} (@Prod.{0, 0} @PyProof.Rows.Seen My.k14) (@W.openSeen @My.h_view_39 [] My.k18 (fun (x2 : @Shared) => (@Bool.and (@W.xlAt @My.h_view_39 (@List.nil.{0} (@Prod.{0, 0} @Str @W.WData)) x2) (@W.recOk (@W.RowW.records My.k1) x2))) @Bool.true (My.k2 x0 x1)) (@W.openGood @My.h_view_39 [])))) := (fun (x0 : @World) => (fun (x1 : @OsState) => (@W.looks_pair @PyProof.Rows.Seen My.k14 (@PyProof.Rows.seen (@List.map.{0, 0} @DefRec @Str (fun (x2 : @DefRec) => (@DefRec.name x2)) (@PyProof.Rows.recsOf @My.h_view_39)) (@PyProof.Rows.ownsOf @My.h_view_39) [] (@Shared.mk (@Shared.heap (My.k2 x0 x1)) #[] (@Shared.drawn (My.k2 x0 x1)) (@Shared.toks (My.k2 x0 x1)) (@Shared.os (My.k2 x0 x1)))) (@PyProof.Rows.expectedOf @My.h_view_39) ((@Heap.bltView (@Shared.heap (My.k2 x0 x1))), ((@Bool.and (@Bool.and (@Bool.and (@Bool.and (@Bool.and (@Bool.and (@Heap.keysOk (@Shared.heap (My.k2 x0 x1)) (@W.looseW @My.h_view_39 []) (@List.map.{0, 0} @DefRec @Str (fun (x2 : @DefRec) => (@DefRec.name x2)) (@PyProof.Rows.recsOf @My.h_view_39)) (@List.map.{0, 0} (@Prod.{0, 0} @Str @PyData) @Str (fun (x2 : (@Prod.{0, 0} @Str @PyData)) => (@Prod.fst.{0, 0} @Str @PyData x2)) (@PyProof.Rows.litsOf @My.h_view_39)) (@List.map.{0, 0} @ClsRec @Str (fun (x2 : @ClsRec) => (@ClsRec.name x2)) (@PyProof.Rows.clssOf @My.h_view_39 (@W.looseW @My.h_view_39 [])))) (@Heap.accountedOkI (@Shared.heap (My.k2 x0 x1)) My.k18)) (@Heap.isNs (@Shared.heap (My.k2 x0 x1)) @mainGlobals)) (@Heap.isNs (@Shared.heap (My.k2 x0 x1)) @builtinsNs)) (@PyProof.Rows.tablesOk @My.h_view_39 (@Shared.heap (My.k2 x0 x1)))) ((fun (x2 : @Shared) => (@Bool.and (@W.xlAt @My.h_view_39 (@List.nil.{0} (@Prod.{0, 0} @Str @W.WData)) x2) (@W.recOk (@W.RowW.records My.k1) x2))) (My.k2 x0 x1))) (My.k9 x0 x1)), ((@PyProof.Rows.tabsOk @My.h_view_39 (My.k2 x0 x1)), ((My.k19 x0 x1), ((My.k15 x0 x1), ((My.k20 x0 x1), ((@W.wideSeen @My.h_view_39 (My.k2 x0 x1)), (@W.clsSeenW @My.h_view_39 [] (My.k2 x0 x1))))))))) (@bltViewBooted, (@Bool.true, My.k11)) ((fun (x2 : @World) => (fun (x3 : @OsState) => (@congrFun.{1, 1} @OsState (fun (x4 : @OsState) => @PyProof.Rows.Seen) (fun (x4 : @OsState) => (@PyProof.Rows.seen (@List.map.{0, 0} @DefRec @Str (fun (x5 : @DefRec) => (@DefRec.name x5)) (@PyProof.Rows.recsOf @My.h_view_39)) (@PyProof.Rows.ownsOf @My.h_view_39) [] (@Shared.mk (@Shared.heap (@Shared.mk (@My.h_heap_545 (@World.params x2)) (@Array.mk.{0} @GenState []) (@Drawn.mk 0 0 0 0) 779 x4)) #[] (@Shared.drawn (@Shared.mk (@My.h_heap_545 (@World.params x2)) (@Array.mk.{0} @GenState []) (@Drawn.mk 0 0 0 0) 779 x4)) (@Shared.toks (@Shared.mk (@My.h_heap_545 (@World.params x2)) (@Array.mk.{0} @GenState []) (@Drawn.mk 0 0 0 0) 779 x4)) (@Shared.os (@Shared.mk (@My.h_heap_545 (@World.params x2)) (@Array.mk.{0} @GenState []) (@Drawn.mk 0 0 0 0) 779 x4))))) (fun (x4 : @OsState) => (@PyProof.Rows.expectedOf @My.h_view_39)) (@My.pf_554 x2) x3))) x0 x1) (@My.pf_577 x0 x1))))
theorem My.pf_581 : ((x0 : @World) → ((x1 : @OsState) → (@Eq.{1} (@Prod.{0, 0} (@Prod.{0, 0} @PyProof.Rows.Seen My.k14) (@W.Hook.α (@W.kHook @My.h_heap_39 My.myAs (fun (x2 : @Params) => (@id.{0} (@Eq.{1} (@List.{0} @Addr) My.myAs (@List.map.{0, 0} (@Prod.{0, 0} @Addr @Obj) @Addr (fun (x3 : (@Prod.{0, 0} @Addr @Obj)) => (@Prod.fst.{0, 0} @Addr @Obj x3)) (@My.h_heap_39 x2))) (@Eq.refl.{1} (@List.{0} @Addr) My.myAs)))))) ((@W.openSeen @My.h_view_39 [] My.k18 (fun (x2 : @Shared) => (@Bool.and (@W.xlAt @My.h_view_39 (@List.nil.{0} (@Prod.{0, 0} @Str @W.WData)) x2) (@W.recOk (@W.RowW.records My.k1) x2))) @Bool.true (My.k2 x0 x1)), (@W.Hook.obs (@W.kHook @My.h_heap_39 My.myAs (fun (x2 : @Params) => (@id.{0} (@Eq.{1} (@List.{0} @Addr) My.myAs (@List.map.{0, 0} (@Prod.{0, 0} @Addr @Obj) @Addr (fun (x3 : (@Prod.{0, 0} @Addr @Obj)) => (@Prod.fst.{0, 0} @Addr @Obj x3)) (@My.h_heap_39 x2))) (@Eq.refl.{1} (@List.{0} @Addr) My.myAs)))) (My.k2 x0 x1))) ((@W.openGood @My.h_view_39 []), (@W.Hook.val (@W.kHook @My.h_heap_39 My.myAs (fun (x2 : @Params) => (@id.{0} (@Eq.{1} (@List.{0} @Addr) My.myAs (@List.map.{0, 0} (@Prod.{0, 0} @Addr @Obj) @Addr (fun (x3 : (@Prod.{0, 0} @Addr @Obj)) => (@Prod.fst.{0, 0} @Addr @Obj x3)) (@My.h_heap_39 x2))) (@Eq.refl.{1} (@List.{0} @Addr) My.myAs)))) x0))))) := (fun (x0 : @World) => (fun (x1 : @OsState) => (@W.looks_pair (@Prod.{0, 0} @PyProof.Rows.Seen My.k14) (@W.Hook.α (@W.kHook @My.h_heap_39 My.myAs (fun (x2 : @Params) => (@id.{0} (@Eq.{1} (@List.{0} @Addr) My.myAs (@List.map.{0, 0} (@Prod.{0, 0} @Addr @Obj) @Addr (fun (x3 : (@Prod.{0, 0} @Addr @Obj)) => (@Prod.fst.{0, 0} @Addr @Obj x3)) (@My.h_heap_39 x2))) (@Eq.refl.{1} (@List.{0} @Addr) My.myAs))))) (@W.openSeen @My.h_view_39 [] My.k18 (fun (x2 : @Shared) => (@Bool.and (@W.xlAt @My.h_view_39 (@List.nil.{0} (@Prod.{0, 0} @Str @W.WData)) x2) (@W.recOk (@W.RowW.records My.k1) x2))) @Bool.true (My.k2 x0 x1)) (@W.openGood @My.h_view_39 []) (@W.Hook.obs (@W.kHook @My.h_heap_39 My.myAs (fun (x2 : @Params) => (@id.{0} (@Eq.{1} (@List.{0} @Addr) My.myAs (@List.map.{0, 0} (@Prod.{0, 0} @Addr @Obj) @Addr (fun (x3 : (@Prod.{0, 0} @Addr @Obj)) => (@Prod.fst.{0, 0} @Addr @Obj x3)) (@My.h_heap_39 x2))) (@Eq.refl.{1} (@List.{0} @Addr) My.myAs)))) (My.k2 x0 x1)) (@W.Hook.val (@W.kHook @My.h_heap_39 My.myAs (fun (x2 : @Params) => (@id.{0} (@Eq.{1} (@List.{0} @Addr) My.myAs (@List.map.{0, 0} (@Prod.{0, 0} @Addr @Obj) @Addr (fun (x3 : (@Prod.{0, 0} @Addr @Obj)) => (@Prod.fst.{0, 0} @Addr @Obj x3)) (@My.h_heap_39 x2))) (@Eq.refl.{1} (@List.{0} @Addr) My.myAs)))) x0) (@My.pf_578 x0 x1) ((fun (x2 : @World) => (fun (x3 : @OsState) => (@congrFun.{1, 1} @OsState (fun (x4 : @OsState) => (@W.Hook.α (@W.kHook @My.h_heap_39 My.myAs (fun (x5 : @Params) => (@id.{0} (@Eq.{1} (@List.{0} @Addr) My.myAs (@List.map.{0, 0} (@Prod.{0, 0} @Addr @Obj) @Addr (fun (x6 : (@Prod.{0, 0} @Addr @Obj)) => (@Prod.fst.{0, 0} @Addr @Obj x6)) (@My.h_heap_39 x5))) (@Eq.refl.{1} (@List.{0} @Addr) My.myAs)))))) (fun (x4 : @OsState) => (@W.Hook.obs (@W.kHook @My.h_heap_39 My.myAs (fun (x5 : @Params) => (@id.{0} (@Eq.{1} (@List.{0} @Addr) My.myAs (@List.map.{0, 0} (@Prod.{0, 0} @Addr @Obj) @Addr (fun (x6 : (@Prod.{0, 0} @Addr @Obj)) => (@Prod.fst.{0, 0} @Addr @Obj x6)) (@My.h_heap_39 x5))) (@Eq.refl.{1} (@List.{0} @Addr) My.myAs)))) (@Shared.mk (@My.h_heap_545 (@World.params x2)) (@Array.mk.{0} @GenState []) (@Drawn.mk 0 0 0 0) 779 x4))) (fun (x4 : @OsState) => (@W.Hook.val (@W.kHook @My.h_heap_39 My.myAs (fun (x5 : @Params) => (@id.{0} (@Eq.{1} (@List.{0} @Addr) My.myAs (@List.map.{0, 0} (@Prod.{0, 0} @Addr @Obj) @Addr (fun (x6 : (@Prod.{0, 0} @Addr @Obj)) => (@Prod.fst.{0, 0} @Addr @Obj x6)) (@My.h_heap_39 x5))) (@Eq.refl.{1} (@List.{0} @Addr) My.myAs)))) x2)) (@My.pf_580 x2) x3))) x0 x1))))
theorem My.pf_552 : ((x0 : @World) → (@Eq.{1} ((x1 : @OsState) → @Bool) (fun (x1 : @OsState) => (My.k13 x0 x1)) (fun (x1 : @OsState) => @Bool.true))) := by intros; kernel_rfl
theorem My.pf_582 : ((x0 : @World) → ((x1 : @OsState) → (@Eq.{1} (@Prod.{0, 0} @Bool (@Prod.{0, 0} (@Prod.{0, 0} @PyProof.Rows.Seen My.k14) (@W.Hook.α (@W.kHook @My.h_heap_39 My.myAs (fun (x2 : @Params) => (@id.{0} (@Eq.{1} (@List.{0} @Addr) My.myAs (@List.map.{0, 0} (@Prod.{0, 0} @Addr @Obj) @Addr (fun (x3 : (@Prod.{0, 0} @Addr @Obj)) => (@Prod.fst.{0, 0} @Addr @Obj x3)) (@My.h_heap_39 x2))) (@Eq.refl.{1} (@List.{0} @Addr) My.myAs))))))) ((My.k13 x0 x1), ((@W.openSeen @My.h_view_39 [] My.k18 (fun (x2 : @Shared) => (@Bool.and (@W.xlAt @My.h_view_39 (@List.nil.{0} (@Prod.{0, 0} @Str @W.WData)) x2) (@W.recOk (@W.RowW.records My.k1) x2))) @Bool.true (My.k2 x0 x1)), (@W.Hook.obs (@W.kHook @My.h_heap_39 My.myAs (fun (x2 : @Params) => (@id.{0} (@Eq.{1} (@List.{0} @Addr) My.myAs (@List.map.{0, 0} (@Prod.{0, 0} @Addr @Obj) @Addr (fun (x3 : (@Prod.{0, 0} @Addr @Obj)) => (@Prod.fst.{0, 0} @Addr @Obj x3)) (@My.h_heap_39 x2))) (@Eq.refl.{1} (@List.{0} @Addr) My.myAs)))) (My.k2 x0 x1)))) (@Bool.true, ((@W.openGood @My.h_view_39 []), (@W.Hook.val (@W.kHook @My.h_heap_39 My.myAs (fun (x2 : @Params) => (@id.{0} (@Eq.{1} (@List.{0} @Addr) My.myAs (@List.map.{0, 0} (@Prod.{0, 0} @Addr @Obj) @Addr (fun (x3 : (@Prod.{0, 0} @Addr @Obj)) => (@Prod.fst.{0, 0} @Addr @Obj x3)) (@My.h_heap_39 x2))) (@Eq.refl.{1} (@List.{0} @Addr) My.myAs)))) x0)))))) := (fun (x0 : @World) => (fun (x1 : @OsState) => (@W.looks_pair @Bool (@Prod.{0, 0} (@Prod.{0, 0} @PyProof.Rows.Seen My.k14) (@W.Hook.α (@W.kHook @My.h_heap_39 My.myAs (fun (x2 : @Params) => (@id.{0} (@Eq.{1} (@List.{0} @Addr) My.myAs (@List.map.{0, 0} (@Prod.{0, 0} @Addr @Obj) @Addr (fun (x3 : (@Prod.{0, 0} @Addr @Obj)) => (@Prod.fst.{0, 0} @Addr @Obj x3)) (@My.h_heap_39 x2))) (@Eq.refl.{1} (@List.{0} @Addr) My.myAs)))))) (My.k13 x0 x1) @Bool.true ((@W.openSeen @My.h_view_39 [] My.k18 (fun (x2 : @Shared) => (@Bool.and (@W.xlAt @My.h_view_39 (@List.nil.{0} (@Prod.{0, 0} @Str @W.WData)) x2) (@W.recOk (@W.RowW.records My.k1) x2))) @Bool.true (My.k2 x0 x1)), (@W.Hook.obs (@W.kHook @My.h_heap_39 My.myAs (fun (x2 : @Params) => (@id.{0} (@Eq.{1} (@List.{0} @Addr) My.myAs (@List.map.{0, 0} (@Prod.{0, 0} @Addr @Obj) @Addr (fun (x3 : (@Prod.{0, 0} @Addr @Obj)) => (@Prod.fst.{0, 0} @Addr @Obj x3)) (@My.h_heap_39 x2))) (@Eq.refl.{1} (@List.{0} @Addr) My.myAs)))) (My.k2 x0 x1))) ((@W.openGood @My.h_view_39 []), (@W.Hook.val (@W.kHook @My.h_heap_39 My.myAs (fun (x2 : @Params) => (@id.{0} (@Eq.{1} (@List.{0} @Addr) My.myAs (@List.map.{0, 0} (@Prod.{0, 0} @Addr @Obj) @Addr (fun (x3 : (@Prod.{0, 0} @Addr @Obj)) => (@Prod.fst.{0, 0} @Addr @Obj x3)) (@My.h_heap_39 x2))) (@Eq.refl.{1} (@List.{0} @Addr) My.myAs)))) x0)) ((fun (x2 : @World) => (fun (x3 : @OsState) => (@congrFun.{1, 1} @OsState (fun (x4 : @OsState) => @Bool) (fun (x4 : @OsState) => (@Bool.and (@Bool.and (@Bool.and (@W.staticsOk My.k18 (@W.boot_heap (@World.params x2)) (@My.h_heap_545 (@World.params x2))) (@W.namesBound (My.k1).1 (@My.h_heap_545 (@World.params x2)))) (@W.gensDone (@Shared.mk (@My.h_heap_545 (@World.params x2)) (@Array.mk.{0} @GenState []) (@Drawn.mk 0 0 0 0) 779 x4))) (@W.laidKept (@W.boot_heap (@World.params x2)) (@My.h_heap_545 (@World.params x2))))) (fun (x4 : @OsState) => @Bool.true) (@My.pf_552 x2) x3))) x0 x1) (@My.pf_581 x0 x1))))
theorem My.pf_547 : ((x0 : @World) → (@Eq.{1} ((x1 : @OsState) → (@Option.{0} @Shared)) (fun (x1 : @OsState) => (@W.topRun @treeTable (My.k1).1 x0 11 (@Option.some.{0} @Value (.ref 6)) 2 (@W.SharedT.abs (@W.SharedT.mk (@My.h_tree_544 (@World.params x0)) 479 My.k0 (@Array.mk.{0} @GenState []) (@Drawn.mk 0 0 0 0) 779 x1)) (@Thread.mk (@W.doneF @Flow.next) My.k3 (@Pos.mk 204 0 215 15) [(@W.topFrame (@Pos.mk 0 0 0 0))]))) (fun (x1 : @OsState) => (@Option.some.{0} @Shared (My.k2 x0 x1))))) := by intros; kernel_rfl
theorem My.pf_545 : ((x0 : @World) → (@Eq.{1} ((x1 : @OsState) → (@Option.{0} My.k7)) (fun (x1 : @OsState) => (@W.segRunT @treeTable (My.k1).1 x0 11 (@Option.some.{0} @Value (.ref 6)) 1 325 (@W.SharedT.mk (@My.h_tree_474 (@World.params x0)) 411 My.k0 (@Array.mk.{0} @GenState []) (@Drawn.mk 0 0 0 0) 687 x1) My.k22)) (fun (x1 : @OsState) => (@Option.some.{0} My.k7 (@Flow.next, ((@W.SharedT.mk (@My.h_tree_544 (@World.params x0)) 479 My.k0 (@Array.mk.{0} @GenState []) (@Drawn.mk 0 0 0 0) 779 x1), (My.k3, (@Pos.mk 204 0 215 15)))))))) := by intros; kernel_rfl
theorem My.pf_475 : ((x0 : @World) → (@Eq.{1} ((x1 : @OsState) → (@Option.{0} My.k7)) (fun (x1 : @OsState) => (@W.segRunT @treeTable (My.k1).1 x0 11 (@Option.some.{0} @Value (.ref 6)) 1 406 (@W.SharedT.mk (@My.h_tree_417 (@World.params x0)) 357 My.k0 (@Array.mk.{0} @GenState []) (@Drawn.mk 0 0 0 0) 622 x1) My.k23)) (fun (x1 : @OsState) => (@Option.some.{0} My.k7 (@Flow.next, ((@W.SharedT.mk (@My.h_tree_474 (@World.params x0)) 411 My.k0 (@Array.mk.{0} @GenState []) (@Drawn.mk 0 0 0 0) 687 x1), (My.k3, (@Pos.mk 134 0 152 30)))))))) := by intros; kernel_rfl
theorem My.pf_418 : ((x0 : @World) → (@Eq.{1} ((x1 : @OsState) → (@Option.{0} My.k7)) (fun (x1 : @OsState) => (@W.segRunT @treeTable (My.k1).1 x0 11 (@Option.some.{0} @Value (.ref 6)) 1 380 (@W.SharedT.mk (@My.h_tree_367 (@World.params x0)) 310 My.k0 (@Array.mk.{0} @GenState []) (@Drawn.mk 0 0 0 0) 559 x1) My.k24)) (fun (x1 : @OsState) => (@Option.some.{0} My.k7 (@Flow.next, ((@W.SharedT.mk (@My.h_tree_417 (@World.params x0)) 357 My.k0 (@Array.mk.{0} @GenState []) (@Drawn.mk 0 0 0 0) 622 x1), (My.k3, (@Pos.mk 110 0 133 16)))))))) := by intros; kernel_rfl
theorem My.pf_368 : ((x0 : @World) → (@Eq.{1} ((x1 : @OsState) → (@Option.{0} My.k7)) (fun (x1 : @OsState) => (@W.segRunT @treeTable (My.k1).1 x0 11 (@Option.some.{0} @Value (.ref 6)) 1 310 (@W.SharedT.mk (@My.h_tree_331 (@World.params x0)) 277 My.k0 (@Array.mk.{0} @GenState []) (@Drawn.mk 0 0 0 0) 518 x1) My.k25)) (fun (x1 : @OsState) => (@Option.some.{0} My.k7 (@Flow.next, ((@W.SharedT.mk (@My.h_tree_367 (@World.params x0)) 310 My.k0 (@Array.mk.{0} @GenState []) (@Drawn.mk 0 0 0 0) 559 x1), (My.k3, (@Pos.mk 100 0 109 33)))))))) := by intros; kernel_rfl
theorem My.pf_332 : ((x0 : @World) → (@Eq.{1} ((x1 : @OsState) → (@Option.{0} My.k7)) (fun (x1 : @OsState) => (@W.segRunT @treeTable (My.k1).1 x0 11 (@Option.some.{0} @Value (.ref 6)) 1 374 (@W.SharedT.mk (@My.h_tree_281 (@World.params x0)) 230 My.k0 (@Array.mk.{0} @GenState []) (@Drawn.mk 0 0 0 0) 461 x1) My.k26)) (fun (x1 : @OsState) => (@Option.some.{0} My.k7 (@Flow.next, ((@W.SharedT.mk (@My.h_tree_331 (@World.params x0)) 277 My.k0 (@Array.mk.{0} @GenState []) (@Drawn.mk 0 0 0 0) 518 x1), (My.k3, (@Pos.mk 84 0 99 31)))))))) := by intros; kernel_rfl
theorem My.pf_282 : ((x0 : @World) → (@Eq.{1} ((x1 : @OsState) → (@Option.{0} My.k7)) (fun (x1 : @OsState) => (@W.segRunT @treeTable (My.k1).1 x0 11 (@Option.some.{0} @Value (.ref 6)) 1 342 (@W.SharedT.mk (@My.h_tree_238 (@World.params x0)) 190 My.k0 (@Array.mk.{0} @GenState []) (@Drawn.mk 0 0 0 0) 412 x1) My.k27)) (fun (x1 : @OsState) => (@Option.some.{0} My.k7 (@Flow.next, ((@W.SharedT.mk (@My.h_tree_281 (@World.params x0)) 230 My.k0 (@Array.mk.{0} @GenState []) (@Drawn.mk 0 0 0 0) 461 x1), (My.k3, (@Pos.mk 71 0 83 31)))))))) := by intros; kernel_rfl
theorem My.pf_239 : ((x0 : @World) → (@Eq.{1} ((x1 : @OsState) → (@Option.{0} My.k7)) (fun (x1 : @OsState) => (@W.segRunT @treeTable (My.k1).1 x0 11 (@Option.some.{0} @Value (.ref 6)) 1 310 (@W.SharedT.mk (@My.h_tree_202 (@World.params x0)) 157 My.k0 (@Array.mk.{0} @GenState []) (@Drawn.mk 0 0 0 0) 371 x1) My.k28)) (fun (x1 : @OsState) => (@Option.some.{0} My.k7 (@Flow.next, ((@W.SharedT.mk (@My.h_tree_238 (@World.params x0)) 190 My.k0 (@Array.mk.{0} @GenState []) (@Drawn.mk 0 0 0 0) 412 x1), (My.k3, (@Pos.mk 61 0 70 24)))))))) := by intros; kernel_rfl
theorem My.pf_203 : ((x0 : @World) → (@Eq.{1} ((x1 : @OsState) → (@Option.{0} My.k7)) (fun (x1 : @OsState) => (@W.segRunT @treeTable (My.k1).1 x0 11 (@Option.some.{0} @Value (.ref 6)) 1 385 (@W.SharedT.mk (@My.h_tree_144 (@World.params x0)) 101 My.k0 (@Array.mk.{0} @GenState []) (@Drawn.mk 0 0 0 0) 300 x1) My.k29)) (fun (x1 : @OsState) => (@Option.some.{0} My.k7 (@Flow.next, ((@W.SharedT.mk (@My.h_tree_202 (@World.params x0)) 157 My.k0 (@Array.mk.{0} @GenState []) (@Drawn.mk 0 0 0 0) 371 x1), (My.k3, (@Pos.mk 37 0 60 47)))))))) := by intros; kernel_rfl
theorem My.pf_145 : ((x0 : @World) → (@Eq.{1} ((x1 : @OsState) → (@Option.{0} My.k7)) (fun (x1 : @OsState) => (@W.segRunT @treeTable (My.k1).1 x0 11 (@Option.some.{0} @Value (.ref 6)) 1 32 (@W.SharedT.mk (@My.h_tree_135 (@World.params x0)) 94 My.k0 (@Array.mk.{0} @GenState []) (@Drawn.mk 0 0 0 0) 291 x1) My.k30)) (fun (x1 : @OsState) => (@Option.some.{0} My.k7 (@Flow.next, ((@W.SharedT.mk (@My.h_tree_144 (@World.params x0)) 101 My.k0 (@Array.mk.{0} @GenState []) (@Drawn.mk 0 0 0 0) 300 x1), (My.k3, (@Pos.mk 33 0 36 17)))))))) := by intros; kernel_rfl
theorem My.pf_136 : ((x0 : @World) → (@Eq.{1} ((x1 : @OsState) → (@Option.{0} My.k7)) (fun (x1 : @OsState) => (@W.segRunT @treeTable (My.k1).1 x0 11 (@Option.some.{0} @Value (.ref 6)) 1 383 (@W.SharedT.mk (@My.h_tree_85 (@World.params x0)) 47 My.k0 (@Array.mk.{0} @GenState []) (@Drawn.mk 0 0 0 0) 230 x1) My.k32)) (fun (x1 : @OsState) => (@Option.some.{0} My.k7 (@Flow.next, ((@W.SharedT.mk (@My.h_tree_135 (@World.params x0)) 94 My.k0 (@Array.mk.{0} @GenState []) (@Drawn.mk 0 0 0 0) 291 x1), (My.k3, (@Pos.mk 32 0 32 8)))))))) := by intros; kernel_rfl
theorem My.pf_86 : ((x0 : @World) → (@Eq.{1} ((x1 : @OsState) → (@Option.{0} My.k7)) (fun (x1 : @OsState) => (@W.segRunT @treeTable (My.k1).1 x0 11 (@Option.some.{0} @Value (.ref 6)) 1 214 (@W.SharedT.mk (@My.h_tree_70 (@World.params x0)) 35 My.k0 (@Array.mk.{0} @GenState []) (@Drawn.mk 0 0 0 0) 214 x1) My.k33)) (fun (x1 : @OsState) => (@Option.some.{0} My.k7 (@Flow.next, ((@W.SharedT.mk (@My.h_tree_85 (@World.params x0)) 47 My.k0 (@Array.mk.{0} @GenState []) (@Drawn.mk 0 0 0 0) 230 x1), (My.k3, (@Pos.mk 7 0 8 8)))))))) := by intros; kernel_rfl
theorem My.pf_71 : ((x0 : @World) → (@Eq.{1} ((x1 : @OsState) → (@Option.{0} My.k7)) (fun (x1 : @OsState) => (@W.segRunT @treeTable (My.k1).1 x0 11 (@Option.some.{0} @Value (.ref 6)) 1 225 (@W.SharedT.mk (@My.h_tree_47 (@World.params x0)) 15 My.k0 (@Array.mk.{0} @GenState []) (@Drawn.mk 0 0 0 0) 187 x1) My.k34)) (fun (x1 : @OsState) => (@Option.some.{0} My.k7 (@Flow.next, ((@W.SharedT.mk (@My.h_tree_70 (@World.params x0)) 35 My.k0 (@Array.mk.{0} @GenState []) (@Drawn.mk 0 0 0 0) 214 x1), (My.k3, (@Pos.mk 5 0 6 8)))))))) := by intros; kernel_rfl
theorem My.pf_49 : ((x0 : @World) → (@Eq.{1} ((x1 : @OsState) → (@Option.{0} My.k6)) (fun (x1 : @OsState) => (@W.segRun @treeTable (My.k1).1 x0 11 (@Option.some.{0} @Value (.ref 6)) 1 1 (@Shared.mk (@My.h_heap_46 (@World.params x0)) (@Array.mk.{0} @GenState []) (@Drawn.mk 0 0 0 0) 187 x1) (@W.blockOf (@W.behindTheImports (My.k1).1) @My.h_env_41 My.k3 (@Pos.mk 0 0 0 0) [(@W.topFrame (@Pos.mk 0 0 0 0))]))) (fun (x1 : @OsState) => (@Option.some.{0} My.k6 (@Flow.next, ((@W.SharedT.abs (@W.SharedT.mk (@My.h_tree_47 (@World.params x0)) 15 My.k0 (@Array.mk.{0} @GenState []) (@Drawn.mk 0 0 0 0) 187 x1)), (My.k3, (@Pos.mk 0 0 0 0)))))))) := by intros; kernel_rfl
theorem My.pf_47 : ((x0 : @World) → (@Eq.{1} ((x1 : @OsState) → (@Option.{0} (@Prod.{0, 0} @Shared @Thread))) (fun (x1 : @OsState) => (@W.topGo @treeTable (My.k1).1 x0 11 (@Option.some.{0} @Value (.ref 6)) 12 (@Shared.mk (@W.boot_heap (@World.params x0)) (@Array.mk.{0} @GenState []) @W.boot_drawn @W.boot_toks x1) (@W.topStub (My.k1).1))) (fun (x1 : @OsState) => (@Option.some.{0} (@Prod.{0, 0} @Shared @Thread) ((@Shared.mk (@My.h_heap_46 (@World.params x0)) (@Array.mk.{0} @GenState []) (@Drawn.mk 0 0 0 0) 187 x1), (@Thread.mk (@denote @treeTable My.k3) My.k3 (@Pos.mk 0 0 0 0) [(@W.topFrame (@Pos.mk 0 0 0 0))])))))) := by intros; kernel_rfl
theorem My.pf_548 : ((x0 : @World) → ((x1 : @OsState) → (@Eq.{1} (@Option.{0} @Shared) (@W.topRun @treeTable (My.k1).1 x0 11 (@Option.some.{0} @Value (.ref 6)) (@Nat.add 12 (@Nat.add 1 (@Nat.add 225 (@Nat.add 214 My.k10)))) (@Shared.mk (@W.boot_heap (@World.params x0)) (@Array.mk.{0} @GenState []) @W.boot_drawn @W.boot_toks x1) (@W.topStub (My.k1).1)) (@Option.some.{0} @Shared (My.k2 x0 x1))))) := (fun (x0 : @World) => (fun (x1 : @OsState) => (@W.go_top @treeTable (My.k1).1 x0 11 (@Option.some.{0} @Value (.ref 6)) 12 (@Nat.add 1 (@Nat.add 225 (@Nat.add 214 My.k10))) (@Shared.mk (@W.boot_heap (@World.params x0)) (@Array.mk.{0} @GenState []) @W.boot_drawn @W.boot_toks x1) (@Shared.mk (@My.h_heap_46 (@World.params x0)) (@Array.mk.{0} @GenState []) (@Drawn.mk 0 0 0 0) 187 x1) (My.k2 x0 x1) (@W.topStub (My.k1).1) (@Thread.mk (@denote @treeTable My.k3) My.k3 (@Pos.mk 0 0 0 0) [(@W.topFrame (@Pos.mk 0 0 0 0))]) (@congrFun.{1, 1} @OsState (fun (x2 : @OsState) => (@Option.{0} (@Prod.{0, 0} @Shared @Thread))) (fun (x2 : @OsState) => (@W.topGo @treeTable (My.k1).1 x0 11 (@Option.some.{0} @Value (.ref 6)) 12 (@Shared.mk (@W.boot_heap (@World.params x0)) (@Array.mk.{0} @GenState []) @W.boot_drawn @W.boot_toks x2) (@W.topStub (My.k1).1))) (fun (x2 : @OsState) => (@Option.some.{0} (@Prod.{0, 0} @Shared @Thread) ((@Shared.mk (@My.h_heap_46 (@World.params x0)) (@Array.mk.{0} @GenState []) (@Drawn.mk 0 0 0 0) 187 x2), (@Thread.mk (@denote @treeTable My.k3) My.k3 (@Pos.mk 0 0 0 0) [(@W.topFrame (@Pos.mk 0 0 0 0))])))) (@My.pf_47 x0) x1) (@W.piece_block @treeTable (My.k1).1 x0 11 (@Option.some.{0} @Value (.ref 6)) @My.h_env_41 (@Pos.mk 0 0 0 0) 1 (@Nat.add 225 (@Nat.add 214 My.k10)) (@Shared.mk (@My.h_heap_46 (@World.params x0)) (@Array.mk.{0} @GenState []) (@Drawn.mk 0 0 0 0) 187 x1) (@W.SharedT.abs (@W.SharedT.mk (@My.h_tree_47 (@World.params x0)) 15 My.k0 (@Array.mk.{0} @GenState []) (@Drawn.mk 0 0 0 0) 187 x1)) (My.k2 x0 x1) (@W.behindTheImports (My.k1).1) My.k3 (@Pos.mk 0 0 0 0) (@Pos.mk 0 0 0 0) (@congrFun.{1, 1} @OsState (fun (x2 : @OsState) => (@Option.{0} My.k6)) (fun (x2 : @OsState) => (@W.segRun @treeTable (My.k1).1 x0 11 (@Option.some.{0} @Value (.ref 6)) 1 1 (@Shared.mk (@My.h_heap_46 (@World.params x0)) (@Array.mk.{0} @GenState []) (@Drawn.mk 0 0 0 0) 187 x2) (@W.blockOf (@W.behindTheImports (My.k1).1) @My.h_env_41 My.k3 (@Pos.mk 0 0 0 0) [(@W.topFrame (@Pos.mk 0 0 0 0))]))) (fun (x2 : @OsState) => (@Option.some.{0} My.k6 (@Flow.next, ((@W.SharedT.abs (@W.SharedT.mk (@My.h_tree_47 (@World.params x0)) 15 My.k0 (@Array.mk.{0} @GenState []) (@Drawn.mk 0 0 0 0) 187 x2)), (My.k3, (@Pos.mk 0 0 0 0)))))) (@My.pf_49 x0) x1) (@W.piece_app @treeTable (My.k1).1 x0 11 (@Option.some.{0} @Value (.ref 6)) @My.h_env_41 (@Pos.mk 0 0 0 0) 225 (@Nat.add 214 My.k10) (@W.SharedT.abs (@W.SharedT.mk (@My.h_tree_47 (@World.params x0)) 15 My.k0 (@Array.mk.{0} @GenState []) (@Drawn.mk 0 0 0 0) 187 x1)) (@W.SharedT.abs (@W.SharedT.mk (@My.h_tree_70 (@World.params x0)) 35 My.k0 (@Array.mk.{0} @GenState []) (@Drawn.mk 0 0 0 0) 214 x1)) (My.k2 x0 x1) @My.h_sts_49 (@HAppend.hAppend.{0, 0, 0} (@List.{0} @Stmt) (@List.{0} @Stmt) (@List.{0} @Stmt) My.k8 @My.h_sts_71 (@HAppend.hAppend.{0, 0, 0} (@List.{0} @Stmt) (@List.{0} @Stmt) (@List.{0} @Stmt) My.k8 @My.h_sts_86 My.k16)) My.k3 (@Pos.mk 0 0 0 0) (@Pos.mk 5 0 6 8) (@congrFun.{1, 1} @OsState (fun (x2 : @OsState) => (@Option.{0} My.k6)) (fun (x2 : @OsState) => (@W.segRun @treeTable (My.k1).1 x0 11 (@Option.some.{0} @Value (.ref 6)) 1 225 (@W.SharedT.abs (@W.SharedT.mk (@My.h_tree_47 (@World.params x0)) 15 My.k0 (@Array.mk.{0} @GenState []) (@Drawn.mk 0 0 0 0) 187 x2)) My.k34)) (fun (x2 : @OsState) => (@Option.some.{0} My.k6 (@Flow.next, ((@W.SharedT.abs (@W.SharedT.mk (@My.h_tree_70 (@World.params x0)) 35 My.k0 (@Array.mk.{0} @GenState []) (@Drawn.mk 0 0 0 0) 214 x2)), (My.k3, (@Pos.mk 5 0 6 8)))))) ((fun (x2 : @World) => (@funext.{1, 1} @OsState (fun (x3 : @OsState) => (@Option.{0} My.k6)) (fun (x3 : @OsState) => (@W.segRun @treeTable (My.k1).1 x2 11 (@Option.some.{0} @Value (.ref 6)) 1 225 (@W.SharedT.abs (@W.SharedT.mk (@My.h_tree_47 (@World.params x2)) 15 My.k0 (@Array.mk.{0} @GenState []) (@Drawn.mk 0 0 0 0) 187 x3)) My.k34)) (fun (x3 : @OsState) => (@Option.some.{0} My.k6 (@Flow.next, ((@W.SharedT.abs (@W.SharedT.mk (@My.h_tree_70 (@World.params x2)) 35 My.k0 (@Array.mk.{0} @GenState []) (@Drawn.mk 0 0 0 0) 214 x3)), (My.k3, (@Pos.mk 5 0 6 8)))))) (fun (x3 : @OsState) => (@W.segRun_of @treeTable (My.k1).1 x2 11 (@Option.some.{0} @Value (.ref 6)) 1 225 (@W.SharedT.mk (@My.h_tree_47 (@World.params x2)) 15 My.k0 (@Array.mk.{0} @GenState []) (@Drawn.mk 0 0 0 0) 187 x3) (@W.SharedT.mk (@My.h_tree_70 (@World.params x2)) 35 My.k0 (@Array.mk.{0} @GenState []) (@Drawn.mk 0 0 0 0) 214 x3) My.k34 @Flow.next My.k3 (@Pos.mk 5 0 6 8) (@congrFun.{1, 1} @OsState (fun (x4 : @OsState) => (@Option.{0} My.k7)) (fun (x4 : @OsState) => (@W.segRunT @treeTable (My.k1).1 x2 11 (@Option.some.{0} @Value (.ref 6)) 1 225 (@W.SharedT.mk (@My.h_tree_47 (@World.params x2)) 15 My.k0 (@Array.mk.{0} @GenState []) (@Drawn.mk 0 0 0 0) 187 x4) My.k34)) (fun (x4 : @OsState) => (@Option.some.{0} My.k7 (@Flow.next, ((@W.SharedT.mk (@My.h_tree_70 (@World.params x2)) 35 My.k0 (@Array.mk.{0} @GenState []) (@Drawn.mk 0 0 0 0) 214 x4), (My.k3, (@Pos.mk 5 0 6 8)))))) (@My.pf_71 x2) x3))))) x0) x1) (@W.piece_app @treeTable (My.k1).1 x0 11 (@Option.some.{0} @Value (.ref 6)) @My.h_env_41 (@Pos.mk 0 0 0 0) 214 My.k10 (@W.SharedT.abs (@W.SharedT.mk (@My.h_tree_70 (@World.params x0)) 35 My.k0 (@Array.mk.{0} @GenState []) (@Drawn.mk 0 0 0 0) 214 x1)) (@W.SharedT.abs (@W.SharedT.mk (@My.h_tree_85 (@World.params x0)) 47 My.k0 (@Array.mk.{0} @GenState []) (@Drawn.mk 0 0 0 0) 230 x1)) (My.k2 x0 x1) @My.h_sts_71 (@HAppend.hAppend.{0, 0, 0} (@List.{0} @Stmt) (@List.{0} @Stmt) (@List.{0} @Stmt) My.k8 @My.h_sts_86 My.k16) My.k3 (@Pos.mk 5 0 6 8) (@Pos.mk 7 0 8 8) (@congrFun.{1, 1} @OsState (fun (x2 : @OsState) => (@Option.{0} My.k6)) (fun (x2 : @OsState) => (@W.segRun @treeTable (My.k1).1 x0 11 (@Option.some.{0} @Value (.ref 6)) 1 214 (@W.SharedT.abs (@W.SharedT.mk (@My.h_tree_70 (@World.params x0)) 35 My.k0 (@Array.mk.{0} @GenState []) (@Drawn.mk 0 0 0 0) 214 x2)) My.k33)) (fun (x2 : @OsState) => (@Option.some.{0} My.k6 (@Flow.next, ((@W.SharedT.abs (@W.SharedT.mk (@My.h_tree_85 (@World.params x0)) 47 My.k0 (@Array.mk.{0} @GenState []) (@Drawn.mk 0 0 0 0) 230 x2)), (My.k3, (@Pos.mk 7 0 8 8)))))) ((fun (x2 : @World) => (@funext.{1, 1} @OsState (fun (x3 : @OsState) => (@Option.{0} My.k6)) (fun (x3 : @OsState) => (@W.segRun @treeTable (My.k1).1 x2 11 (@Option.some.{0} @Value (.ref 6)) 1 214 (@W.SharedT.abs (@W.SharedT.mk (@My.h_tree_70 (@World.params x2)) 35 My.k0 (@Array.mk.{0} @GenState []) (@Drawn.mk 0 0 0 0) 214 x3)) My.k33)) (fun (x3 : @OsState) => (@Option.some.{0} My.k6 (@Flow.next, ((@W.SharedT.abs (@W.SharedT.mk (@My.h_tree_85 (@World.params x2)) 47 My.k0 (@Array.mk.{0} @GenState []) (@Drawn.mk 0 0 0 0) 230 x3)), (My.k3, (@Pos.mk 7 0 8 8)))))) (fun (x3 : @OsState) => (@W.segRun_of @treeTable (My.k1).1 x2 11 (@Option.some.{0} @Value (.ref 6)) 1 214 (@W.SharedT.mk (@My.h_tree_70 (@World.params x2)) 35 My.k0 (@Array.mk.{0} @GenState []) (@Drawn.mk 0 0 0 0) 214 x3) (@W.SharedT.mk (@My.h_tree_85 (@World.params x2)) 47 My.k0 (@Array.mk.{0} @GenState []) (@Drawn.mk 0 0 0 0) 230 x3) My.k33 @Flow.next My.k3 (@Pos.mk 7 0 8 8) (@congrFun.{1, 1} @OsState (fun (x4 : @OsState) => (@Option.{0} My.k7)) (fun (x4 : @OsState) => (@W.segRunT @treeTable (My.k1).1 x2 11 (@Option.some.{0} @Value (.ref 6)) 1 214 (@W.SharedT.mk (@My.h_tree_70 (@World.params x2)) 35 My.k0 (@Array.mk.{0} @GenState []) (@Drawn.mk 0 0 0 0) 214 x4) My.k33)) (fun (x4 : @OsState) => (@Option.some.{0} My.k7 (@Flow.next, ((@W.SharedT.mk (@My.h_tree_85 (@World.params x2)) 47 My.k0 (@Array.mk.{0} @GenState []) (@Drawn.mk 0 0 0 0) 230 x4), (My.k3, (@Pos.mk 7 0 8 8)))))) (@My.pf_86 x2) x3))))) x0) x1) (@W.piece_app @treeTable (My.k1).1 x0 11 (@Option.some.{0} @Value (.ref 6)) @My.h_env_41 (@Pos.mk 0 0 0 0) 383 (@Nat.add 32 (@Nat.add 385 (@Nat.add 310 (@Nat.add 342 (@Nat.add 374 (@Nat.add 310 (@Nat.add 380 (@Nat.add 406 (@Nat.add 325 2))))))))) (@W.SharedT.abs (@W.SharedT.mk (@My.h_tree_85 (@World.params x0)) 47 My.k0 (@Array.mk.{0} @GenState []) (@Drawn.mk 0 0 0 0) 230 x1)) (@W.SharedT.abs (@W.SharedT.mk (@My.h_tree_135 (@World.params x0)) 94 My.k0 (@Array.mk.{0} @GenState []) (@Drawn.mk 0 0 0 0) 291 x1)) (My.k2 x0 x1) @My.h_sts_86 My.k16 My.k3 (@Pos.mk 7 0 8 8) (@Pos.mk 32 0 32 8) (@congrFun.{1, 1} @OsState (fun (x2 : @OsState) => (@Option.{0} My.k6)) (fun (x2 : @OsState) => (@W.segRun @treeTable (My.k1).1 x0 11 (@Option.some.{0} @Value (.ref 6)) 1 383 (@W.SharedT.abs (@W.SharedT.mk (@My.h_tree_85 (@World.params x0)) 47 My.k0 (@Array.mk.{0} @GenState []) (@Drawn.mk 0 0 0 0) 230 x2)) My.k32)) (fun (x2 : @OsState) => (@Option.some.{0} My.k6 (@Flow.next, ((@W.SharedT.abs (@W.SharedT.mk (@My.h_tree_135 (@World.params x0)) 94 My.k0 (@Array.mk.{0} @GenState []) (@Drawn.mk 0 0 0 0) 291 x2)), (My.k3, (@Pos.mk 32 0 32 8)))))) ((fun (x2 : @World) => (@funext.{1, 1} @OsState (fun (x3 : @OsState) => (@Option.{0} My.k6)) (fun (x3 : @OsState) => (@W.segRun @treeTable (My.k1).1 x2 11 (@Option.some.{0} @Value (.ref 6)) 1 383 (@W.SharedT.abs (@W.SharedT.mk (@My.h_tree_85 (@World.params x2)) 47 My.k0 (@Array.mk.{0} @GenState []) (@Drawn.mk 0 0 0 0) 230 x3)) My.k32)) (fun (x3 : @OsState) => (@Option.some.{0} My.k6 (@Flow.next, ((@W.SharedT.abs (@W.SharedT.mk (@My.h_tree_135 (@World.params x2)) 94 My.k0 (@Array.mk.{0} @GenState []) (@Drawn.mk 0 0 0 0) 291 x3)), (My.k3, (@Pos.mk 32 0 32 8)))))) (fun (x3 : @OsState) => (@W.segRun_of @treeTable (My.k1).1 x2 11 (@Option.some.{0} @Value (.ref 6)) 1 383 (@W.SharedT.mk (@My.h_tree_85 (@World.params x2)) 47 My.k0 (@Array.mk.{0} @GenState []) (@Drawn.mk 0 0 0 0) 230 x3) (@W.SharedT.mk (@My.h_tree_135 (@World.params x2)) 94 My.k0 (@Array.mk.{0} @GenState []) (@Drawn.mk 0 0 0 0) 291 x3) My.k32 @Flow.next My.k3 (@Pos.mk 32 0 32 8) (@congrFun.{1, 1} @OsState (fun (x4 : @OsState) => (@Option.{0} My.k7)) (fun (x4 : @OsState) => (@W.segRunT @treeTable (My.k1).1 x2 11 (@Option.some.{0} @Value (.ref 6)) 1 383 (@W.SharedT.mk (@My.h_tree_85 (@World.params x2)) 47 My.k0 (@Array.mk.{0} @GenState []) (@Drawn.mk 0 0 0 0) 230 x4) My.k32)) (fun (x4 : @OsState) => (@Option.some.{0} My.k7 (@Flow.next, ((@W.SharedT.mk (@My.h_tree_135 (@World.params x2)) 94 My.k0 (@Array.mk.{0} @GenState []) (@Drawn.mk 0 0 0 0) 291 x4), (My.k3, (@Pos.mk 32 0 32 8)))))) (@My.pf_136 x2) x3))))) x0) x1) (@W.piece_app @treeTable (My.k1).1 x0 11 (@Option.some.{0} @Value (.ref 6)) @My.h_env_41 (@Pos.mk 0 0 0 0) 32 (@Nat.add 385 (@Nat.add 310 (@Nat.add 342 (@Nat.add 374 (@Nat.add 310 (@Nat.add 380 (@Nat.add 406 (@Nat.add 325 2)))))))) (@W.SharedT.abs (@W.SharedT.mk (@My.h_tree_135 (@World.params x0)) 94 My.k0 (@Array.mk.{0} @GenState []) (@Drawn.mk 0 0 0 0) 291 x1)) (@W.SharedT.abs (@W.SharedT.mk (@My.h_tree_144 (@World.params x0)) 101 My.k0 (@Array.mk.{0} @GenState []) (@Drawn.mk 0 0 0 0) 300 x1)) (My.k2 x0 x1) @My.h_sts_136 (@HAppend.hAppend.{0, 0, 0} (@List.{0} @Stmt) (@List.{0} @Stmt) (@List.{0} @Stmt) My.k8 @My.h_sts_145 (@HAppend.hAppend.{0, 0, 0} (@List.{0} @Stmt) (@List.{0} @Stmt) (@List.{0} @Stmt) My.k8 @My.h_sts_203 My.k5)) My.k3 (@Pos.mk 32 0 32 8) (@Pos.mk 33 0 36 17) (@congrFun.{1, 1} @OsState (fun (x2 : @OsState) => (@Option.{0} My.k6)) (fun (x2 : @OsState) => (@W.segRun @treeTable (My.k1).1 x0 11 (@Option.some.{0} @Value (.ref 6)) 1 32 (@W.SharedT.abs (@W.SharedT.mk (@My.h_tree_135 (@World.params x0)) 94 My.k0 (@Array.mk.{0} @GenState []) (@Drawn.mk 0 0 0 0) 291 x2)) My.k30)) (fun (x2 : @OsState) => (@Option.some.{0} My.k6 (@Flow.next, ((@W.SharedT.abs (@W.SharedT.mk (@My.h_tree_144 (@World.params x0)) 101 My.k0 (@Array.mk.{0} @GenState []) (@Drawn.mk 0 0 0 0) 300 x2)), (My.k3, (@Pos.mk 33 0 36 17)))))) ((fun (x2 : @World) => (@funext.{1, 1} @OsState (fun (x3 : @OsState) => (@Option.{0} My.k6)) (fun (x3 : @OsState) => (@W.segRun @treeTable (My.k1).1 x2 11 (@Option.some.{0} @Value (.ref 6)) 1 32 (@W.SharedT.abs (@W.SharedT.mk (@My.h_tree_135 (@World.params x2)) 94 My.k0 (@Array.mk.{0} @GenState []) (@Drawn.mk 0 0 0 0) 291 x3)) My.k30)) (fun (x3 : @OsState) => (@Option.some.{0} My.k6 (@Flow.next, ((@W.SharedT.abs (@W.SharedT.mk (@My.h_tree_144 (@World.params x2)) 101 My.k0 (@Array.mk.{0} @GenState []) (@Drawn.mk 0 0 0 0) 300 x3)), (My.k3, (@Pos.mk 33 0 36 17)))))) (fun (x3 : @OsState) => (@W.segRun_of @treeTable (My.k1).1 x2 11 (@Option.some.{0} @Value (.ref 6)) 1 32 (@W.SharedT.mk (@My.h_tree_135 (@World.params x2)) 94 My.k0 (@Array.mk.{0} @GenState []) (@Drawn.mk 0 0 0 0) 291 x3) (@W.SharedT.mk (@My.h_tree_144 (@World.params x2)) 101 My.k0 (@Array.mk.{0} @GenState []) (@Drawn.mk 0 0 0 0) 300 x3) My.k30 @Flow.next My.k3 (@Pos.mk 33 0 36 17) (@congrFun.{1, 1} @OsState (fun (x4 : @OsState) => (@Option.{0} My.k7)) (fun (x4 : @OsState) => (@W.segRunT @treeTable (My.k1).1 x2 11 (@Option.some.{0} @Value (.ref 6)) 1 32 (@W.SharedT.mk (@My.h_tree_135 (@World.params x2)) 94 My.k0 (@Array.mk.{0} @GenState []) (@Drawn.mk 0 0 0 0) 291 x4) My.k30)) (fun (x4 : @OsState) => (@Option.some.{0} My.k7 (@Flow.next, ((@W.SharedT.mk (@My.h_tree_144 (@World.params x2)) 101 My.k0 (@Array.mk.{0} @GenState []) (@Drawn.mk 0 0 0 0) 300 x4), (My.k3, (@Pos.mk 33 0 36 17)))))) (@My.pf_145 x2) x3))))) x0) x1) (@W.piece_app @treeTable (My.k1).1 x0 11 (@Option.some.{0} @Value (.ref 6)) @My.h_env_41 (@Pos.mk 0 0 0 0) 385 (@Nat.add 310 (@Nat.add 342 (@Nat.add 374 (@Nat.add 310 (@Nat.add 380 (@Nat.add 406 (@Nat.add 325 2))))))) (@W.SharedT.abs (@W.SharedT.mk (@My.h_tree_144 (@World.params x0)) 101 My.k0 (@Array.mk.{0} @GenState []) (@Drawn.mk 0 0 0 0) 300 x1)) (@W.SharedT.abs (@W.SharedT.mk (@My.h_tree_202 (@World.params x0)) 157 My.k0 (@Array.mk.{0} @GenState []) (@Drawn.mk 0 0 0 0) 371 x1)) (My.k2 x0 x1) @My.h_sts_145 (@HAppend.hAppend.{0, 0, 0} (@List.{0} @Stmt) (@List.{0} @Stmt) (@List.{0} @Stmt) My.k8 @My.h_sts_203 My.k5) My.k3 (@Pos.mk 33 0 36 17) (@Pos.mk 37 0 60 47) (@congrFun.{1, 1} @OsState (fun (x2 : @OsState) => (@Option.{0} My.k6)) (fun (x2 : @OsState) => (@W.segRun @treeTable (My.k1).1 x0 11 (@Option.some.{0} @Value (.ref 6)) 1 385 (@W.SharedT.abs (@W.SharedT.mk (@My.h_tree_144 (@World.params x0)) 101 My.k0 (@Array.mk.{0} @GenState []) (@Drawn.mk 0 0 0 0) 300 x2)) My.k29)) (fun (x2 : @OsState) => (@Option.some.{0} My.k6 (@Flow.next, ((@W.SharedT.abs (@W.SharedT.mk (@My.h_tree_202 (@World.params x0)) 157 My.k0 (@Array.mk.{0} @GenState []) (@Drawn.mk 0 0 0 0) 371 x2)), (My.k3, (@Pos.mk 37 0 60 47)))))) ((fun (x2 : @World) => (@funext.{1, 1} @OsState (fun (x3 : @OsState) => (@Option.{0} My.k6)) (fun (x3 : @OsState) => (@W.segRun @treeTable (My.k1).1 x2 11 (@Option.some.{0} @Value (.ref 6)) 1 385 (@W.SharedT.abs (@W.SharedT.mk (@My.h_tree_144 (@World.params x2)) 101 My.k0 (@Array.mk.{0} @GenState []) (@Drawn.mk 0 0 0 0) 300 x3)) My.k29)) (fun (x3 : @OsState) => (@Option.some.{0} My.k6 (@Flow.next, ((@W.SharedT.abs (@W.SharedT.mk (@My.h_tree_202 (@World.params x2)) 157 My.k0 (@Array.mk.{0} @GenState []) (@Drawn.mk 0 0 0 0) 371 x3)), (My.k3, (@Pos.mk 37 0 60 47)))))) (fun (x3 : @OsState) => (@W.segRun_of @treeTable (My.k1).1 x2 11 (@Option.some.{0} @Value (.ref 6)) 1 385 (@W.SharedT.mk (@My.h_tree_144 (@World.params x2)) 101 My.k0 (@Array.mk.{0} @GenState []) (@Drawn.mk 0 0 0 0) 300 x3) (@W.SharedT.mk (@My.h_tree_202 (@World.params x2)) 157 My.k0 (@Array.mk.{0} @GenState []) (@Drawn.mk 0 0 0 0) 371 x3) My.k29 @Flow.next My.k3 (@Pos.mk 37 0 60 47) (@congrFun.{1, 1} @OsState (fun (x4 : @OsState) => (@Option.{0} My.k7)) (fun (x4 : @OsState) => (@W.segRunT @treeTable (My.k1).1 x2 11 (@Option.some.{0} @Value (.ref 6)) 1 385 (@W.SharedT.mk (@My.h_tree_144 (@World.params x2)) 101 My.k0 (@Array.mk.{0} @GenState []) (@Drawn.mk 0 0 0 0) 300 x4) My.k29)) (fun (x4 : @OsState) => (@Option.some.{0} My.k7 (@Flow.next, ((@W.SharedT.mk (@My.h_tree_202 (@World.params x2)) 157 My.k0 (@Array.mk.{0} @GenState []) (@Drawn.mk 0 0 0 0) 371 x4), (My.k3, (@Pos.mk 37 0 60 47)))))) (@My.pf_203 x2) x3))))) x0) x1) (@W.piece_app @treeTable (My.k1).1 x0 11 (@Option.some.{0} @Value (.ref 6)) @My.h_env_41 (@Pos.mk 0 0 0 0) 310 (@Nat.add 342 (@Nat.add 374 (@Nat.add 310 (@Nat.add 380 (@Nat.add 406 (@Nat.add 325 2)))))) (@W.SharedT.abs (@W.SharedT.mk (@My.h_tree_202 (@World.params x0)) 157 My.k0 (@Array.mk.{0} @GenState []) (@Drawn.mk 0 0 0 0) 371 x1)) (@W.SharedT.abs (@W.SharedT.mk (@My.h_tree_238 (@World.params x0)) 190 My.k0 (@Array.mk.{0} @GenState []) (@Drawn.mk 0 0 0 0) 412 x1)) (My.k2 x0 x1) @My.h_sts_203 My.k5 My.k3 (@Pos.mk 37 0 60 47) (@Pos.mk 61 0 70 24) (@congrFun.{1, 1} @OsState (fun (x2 : @OsState) => (@Option.{0} My.k6)) (fun (x2 : @OsState) => (@W.segRun @treeTable (My.k1).1 x0 11 (@Option.some.{0} @Value (.ref 6)) 1 310 (@W.SharedT.abs (@W.SharedT.mk (@My.h_tree_202 (@World.params x0)) 157 My.k0 (@Array.mk.{0} @GenState []) (@Drawn.mk 0 0 0 0) 371 x2)) My.k28)) (fun (x2 : @OsState) => (@Option.some.{0} My.k6 (@Flow.next, ((@W.SharedT.abs (@W.SharedT.mk (@My.h_tree_238 (@World.params x0)) 190 My.k0 (@Array.mk.{0} @GenState []) (@Drawn.mk 0 0 0 0) 412 x2)), (My.k3, (@Pos.mk 61 0 70 24)))))) ((fun (x2 : @World) => (@funext.{1, 1} @OsState (fun (x3 : @OsState) => (@Option.{0} My.k6)) (fun (x3 : @OsState) => (@W.segRun @treeTable (My.k1).1 x2 11 (@Option.some.{0} @Value (.ref 6)) 1 310 (@W.SharedT.abs (@W.SharedT.mk (@My.h_tree_202 (@World.params x2)) 157 My.k0 (@Array.mk.{0} @GenState []) (@Drawn.mk 0 0 0 0) 371 x3)) My.k28)) (fun (x3 : @OsState) => (@Option.some.{0} My.k6 (@Flow.next, ((@W.SharedT.abs (@W.SharedT.mk (@My.h_tree_238 (@World.params x2)) 190 My.k0 (@Array.mk.{0} @GenState []) (@Drawn.mk 0 0 0 0) 412 x3)), (My.k3, (@Pos.mk 61 0 70 24)))))) (fun (x3 : @OsState) => (@W.segRun_of @treeTable (My.k1).1 x2 11 (@Option.some.{0} @Value (.ref 6)) 1 310 (@W.SharedT.mk (@My.h_tree_202 (@World.params x2)) 157 My.k0 (@Array.mk.{0} @GenState []) (@Drawn.mk 0 0 0 0) 371 x3) (@W.SharedT.mk (@My.h_tree_238 (@World.params x2)) 190 My.k0 (@Array.mk.{0} @GenState []) (@Drawn.mk 0 0 0 0) 412 x3) My.k28 @Flow.next My.k3 (@Pos.mk 61 0 70 24) (@congrFun.{1, 1} @OsState (fun (x4 : @OsState) => (@Option.{0} My.k7)) (fun (x4 : @OsState) => (@W.segRunT @treeTable (My.k1).1 x2 11 (@Option.some.{0} @Value (.ref 6)) 1 310 (@W.SharedT.mk (@My.h_tree_202 (@World.params x2)) 157 My.k0 (@Array.mk.{0} @GenState []) (@Drawn.mk 0 0 0 0) 371 x4) My.k28)) (fun (x4 : @OsState) => (@Option.some.{0} My.k7 (@Flow.next, ((@W.SharedT.mk (@My.h_tree_238 (@World.params x2)) 190 My.k0 (@Array.mk.{0} @GenState []) (@Drawn.mk 0 0 0 0) 412 x4), (My.k3, (@Pos.mk 61 0 70 24)))))) (@My.pf_239 x2) x3))))) x0) x1) (@W.piece_app @treeTable (My.k1).1 x0 11 (@Option.some.{0} @Value (.ref 6)) @My.h_env_41 (@Pos.mk 0 0 0 0) 342 (@Nat.add 374 (@Nat.add 310 (@Nat.add 380 (@Nat.add 406 (@Nat.add 325 2))))) (@W.SharedT.abs (@W.SharedT.mk (@My.h_tree_238 (@World.params x0)) 190 My.k0 (@Array.mk.{0} @GenState []) (@Drawn.mk 0 0 0 0) 412 x1)) (@W.SharedT.abs (@W.SharedT.mk (@My.h_tree_281 (@World.params x0)) 230 My.k0 (@Array.mk.{0} @GenState []) (@Drawn.mk 0 0 0 0) 461 x1)) (My.k2 x0 x1) @My.h_sts_239 (@HAppend.hAppend.{0, 0, 0} (@List.{0} @Stmt) (@List.{0} @Stmt) (@List.{0} @Stmt) My.k8 @My.h_sts_282 (@HAppend.hAppend.{0, 0, 0} (@List.{0} @Stmt) (@List.{0} @Stmt) (@List.{0} @Stmt) My.k8 @My.h_sts_332 My.k17)) My.k3 (@Pos.mk 61 0 70 24) (@Pos.mk 71 0 83 31) (@congrFun.{1, 1} @OsState (fun (x2 : @OsState) => (@Option.{0} My.k6)) (fun (x2 : @OsState) => (@W.segRun @treeTable (My.k1).1 x0 11 (@Option.some.{0} @Value (.ref 6)) 1 342 (@W.SharedT.abs (@W.SharedT.mk (@My.h_tree_238 (@World.params x0)) 190 My.k0 (@Array.mk.{0} @GenState []) (@Drawn.mk 0 0 0 0) 412 x2)) My.k27)) (fun (x2 : @OsState) => (@Option.some.{0} My.k6 (@Flow.next, ((@W.SharedT.abs (@W.SharedT.mk (@My.h_tree_281 (@World.params x0)) 230 My.k0 (@Array.mk.{0} @GenState []) (@Drawn.mk 0 0 0 0) 461 x2)), (My.k3, (@Pos.mk 71 0 83 31)))))) ((fun (x2 : @World) => (@funext.{1, 1} @OsState (fun (x3 : @OsState) => (@Option.{0} My.k6)) (fun (x3 : @OsState) => (@W.segRun @treeTable (My.k1).1 x2 11 (@Option.some.{0} @Value (.ref 6)) 1 342 (@W.SharedT.abs (@W.SharedT.mk (@My.h_tree_238 (@World.params x2)) 190 My.k0 (@Array.mk.{0} @GenState []) (@Drawn.mk 0 0 0 0) 412 x3)) My.k27)) (fun (x3 : @OsState) => (@Option.some.{0} My.k6 (@Flow.next, ((@W.SharedT.abs (@W.SharedT.mk (@My.h_tree_281 (@World.params x2)) 230 My.k0 (@Array.mk.{0} @GenState []) (@Drawn.mk 0 0 0 0) 461 x3)), (My.k3, (@Pos.mk 71 0 83 31)))))) (fun (x3 : @OsState) => (@W.segRun_of @treeTable (My.k1).1 x2 11 (@Option.some.{0} @Value (.ref 6)) 1 342 (@W.SharedT.mk (@My.h_tree_238 (@World.params x2)) 190 My.k0 (@Array.mk.{0} @GenState []) (@Drawn.mk 0 0 0 0) 412 x3) (@W.SharedT.mk (@My.h_tree_281 (@World.params x2)) 230 My.k0 (@Array.mk.{0} @GenState []) (@Drawn.mk 0 0 0 0) 461 x3) My.k27 @Flow.next My.k3 (@Pos.mk 71 0 83 31) (@congrFun.{1, 1} @OsState (fun (x4 : @OsState) => (@Option.{0} My.k7)) (fun (x4 : @OsState) => (@W.segRunT @treeTable (My.k1).1 x2 11 (@Option.some.{0} @Value (.ref 6)) 1 342 (@W.SharedT.mk (@My.h_tree_238 (@World.params x2)) 190 My.k0 (@Array.mk.{0} @GenState []) (@Drawn.mk 0 0 0 0) 412 x4) My.k27)) (fun (x4 : @OsState) => (@Option.some.{0} My.k7 (@Flow.next, ((@W.SharedT.mk (@My.h_tree_281 (@World.params x2)) 230 My.k0 (@Array.mk.{0} @GenState []) (@Drawn.mk 0 0 0 0) 461 x4), (My.k3, (@Pos.mk 71 0 83 31)))))) (@My.pf_282 x2) x3))))) x0) x1) (@W.piece_app @treeTable (My.k1).1 x0 11 (@Option.some.{0} @Value (.ref 6)) @My.h_env_41 (@Pos.mk 0 0 0 0) 374 (@Nat.add 310 (@Nat.add 380 (@Nat.add 406 (@Nat.add 325 2)))) (@W.SharedT.abs (@W.SharedT.mk (@My.h_tree_281 (@World.params x0)) 230 My.k0 (@Array.mk.{0} @GenState []) (@Drawn.mk 0 0 0 0) 461 x1)) (@W.SharedT.abs (@W.SharedT.mk (@My.h_tree_331 (@World.params x0)) 277 My.k0 (@Array.mk.{0} @GenState []) (@Drawn.mk 0 0 0 0) 518 x1)) (My.k2 x0 x1) @My.h_sts_282 (@HAppend.hAppend.{0, 0, 0} (@List.{0} @Stmt) (@List.{0} @Stmt) (@List.{0} @Stmt) My.k8 @My.h_sts_332 My.k17) My.k3 (@Pos.mk 71 0 83 31) (@Pos.mk 84 0 99 31) (@congrFun.{1, 1} @OsState (fun (x2 : @OsState) => (@Option.{0} My.k6)) (fun (x2 : @OsState) => (@W.segRun @treeTable (My.k1).1 x0 11 (@Option.some.{0} @Value (.ref 6)) 1 374 (@W.SharedT.abs (@W.SharedT.mk (@My.h_tree_281 (@World.params x0)) 230 My.k0 (@Array.mk.{0} @GenState []) (@Drawn.mk 0 0 0 0) 461 x2)) My.k26)) (fun (x2 : @OsState) => (@Option.some.{0} My.k6 (@Flow.next, ((@W.SharedT.abs (@W.SharedT.mk (@My.h_tree_331 (@World.params x0)) 277 My.k0 (@Array.mk.{0} @GenState []) (@Drawn.mk 0 0 0 0) 518 x2)), (My.k3, (@Pos.mk 84 0 99 31)))))) ((fun (x2 : @World) => (@funext.{1, 1} @OsState (fun (x3 : @OsState) => (@Option.{0} My.k6)) (fun (x3 : @OsState) => (@W.segRun @treeTable (My.k1).1 x2 11 (@Option.some.{0} @Value (.ref 6)) 1 374 (@W.SharedT.abs (@W.SharedT.mk (@My.h_tree_281 (@World.params x2)) 230 My.k0 (@Array.mk.{0} @GenState []) (@Drawn.mk 0 0 0 0) 461 x3)) My.k26)) (fun (x3 : @OsState) => (@Option.some.{0} My.k6 (@Flow.next, ((@W.SharedT.abs (@W.SharedT.mk (@My.h_tree_331 (@World.params x2)) 277 My.k0 (@Array.mk.{0} @GenState []) (@Drawn.mk 0 0 0 0) 518 x3)), (My.k3, (@Pos.mk 84 0 99 31)))))) (fun (x3 : @OsState) => (@W.segRun_of @treeTable (My.k1).1 x2 11 (@Option.some.{0} @Value (.ref 6)) 1 374 (@W.SharedT.mk (@My.h_tree_281 (@World.params x2)) 230 My.k0 (@Array.mk.{0} @GenState []) (@Drawn.mk 0 0 0 0) 461 x3) (@W.SharedT.mk (@My.h_tree_331 (@World.params x2)) 277 My.k0 (@Array.mk.{0} @GenState []) (@Drawn.mk 0 0 0 0) 518 x3) My.k26 @Flow.next My.k3 (@Pos.mk 84 0 99 31) (@congrFun.{1, 1} @OsState (fun (x4 : @OsState) => (@Option.{0} My.k7)) (fun (x4 : @OsState) => (@W.segRunT @treeTable (My.k1).1 x2 11 (@Option.some.{0} @Value (.ref 6)) 1 374 (@W.SharedT.mk (@My.h_tree_281 (@World.params x2)) 230 My.k0 (@Array.mk.{0} @GenState []) (@Drawn.mk 0 0 0 0) 461 x4) My.k26)) (fun (x4 : @OsState) => (@Option.some.{0} My.k7 (@Flow.next, ((@W.SharedT.mk (@My.h_tree_331 (@World.params x2)) 277 My.k0 (@Array.mk.{0} @GenState []) (@Drawn.mk 0 0 0 0) 518 x4), (My.k3, (@Pos.mk 84 0 99 31)))))) (@My.pf_332 x2) x3))))) x0) x1) (@W.piece_app @treeTable (My.k1).1 x0 11 (@Option.some.{0} @Value (.ref 6)) @My.h_env_41 (@Pos.mk 0 0 0 0) 310 (@Nat.add 380 (@Nat.add 406 (@Nat.add 325 2))) (@W.SharedT.abs (@W.SharedT.mk (@My.h_tree_331 (@World.params x0)) 277 My.k0 (@Array.mk.{0} @GenState []) (@Drawn.mk 0 0 0 0) 518 x1)) (@W.SharedT.abs (@W.SharedT.mk (@My.h_tree_367 (@World.params x0)) 310 My.k0 (@Array.mk.{0} @GenState []) (@Drawn.mk 0 0 0 0) 559 x1)) (My.k2 x0 x1) @My.h_sts_332 My.k17 My.k3 (@Pos.mk 84 0 99 31) (@Pos.mk 100 0 109 33) (@congrFun.{1, 1} @OsState (fun (x2 : @OsState) => (@Option.{0} My.k6)) (fun (x2 : @OsState) => (@W.segRun @treeTable (My.k1).1 x0 11 (@Option.some.{0} @Value (.ref 6)) 1 310 (@W.SharedT.abs (@W.SharedT.mk (@My.h_tree_331 (@World.params x0)) 277 My.k0 (@Array.mk.{0} @GenState []) (@Drawn.mk 0 0 0 0) 518 x2)) My.k25)) (fun (x2 : @OsState) => (@Option.some.{0} My.k6 (@Flow.next, ((@W.SharedT.abs (@W.SharedT.mk (@My.h_tree_367 (@World.params x0)) 310 My.k0 (@Array.mk.{0} @GenState []) (@Drawn.mk 0 0 0 0) 559 x2)), (My.k3, (@Pos.mk 100 0 109 33)))))) ((fun (x2 : @World) => (@funext.{1, 1} @OsState (fun (x3 : @OsState) => (@Option.{0} My.k6)) (fun (x3 : @OsState) => (@W.segRun @treeTable (My.k1).1 x2 11 (@Option.some.{0} @Value (.ref 6)) 1 310 (@W.SharedT.abs (@W.SharedT.mk (@My.h_tree_331 (@World.params x2)) 277 My.k0 (@Array.mk.{0} @GenState []) (@Drawn.mk 0 0 0 0) 518 x3)) My.k25)) (fun (x3 : @OsState) => (@Option.some.{0} My.k6 (@Flow.next, ((@W.SharedT.abs (@W.SharedT.mk (@My.h_tree_367 (@World.params x2)) 310 My.k0 (@Array.mk.{0} @GenState []) (@Drawn.mk 0 0 0 0) 559 x3)), (My.k3, (@Pos.mk 100 0 109 33)))))) (fun (x3 : @OsState) => (@W.segRun_of @treeTable (My.k1).1 x2 11 (@Option.some.{0} @Value (.ref 6)) 1 310 (@W.SharedT.mk (@My.h_tree_331 (@World.params x2)) 277 My.k0 (@Array.mk.{0} @GenState []) (@Drawn.mk 0 0 0 0) 518 x3) (@W.SharedT.mk (@My.h_tree_367 (@World.params x2)) 310 My.k0 (@Array.mk.{0} @GenState []) (@Drawn.mk 0 0 0 0) 559 x3) My.k25 @Flow.next My.k3 (@Pos.mk 100 0 109 33) (@congrFun.{1, 1} @OsState (fun (x4 : @OsState) => (@Option.{0} My.k7)) (fun (x4 : @OsState) => (@W.segRunT @treeTable (My.k1).1 x2 11 (@Option.some.{0} @Value (.ref 6)) 1 310 (@W.SharedT.mk (@My.h_tree_331 (@World.params x2)) 277 My.k0 (@Array.mk.{0} @GenState []) (@Drawn.mk 0 0 0 0) 518 x4) My.k25)) (fun (x4 : @OsState) => (@Option.some.{0} My.k7 (@Flow.next, ((@W.SharedT.mk (@My.h_tree_367 (@World.params x2)) 310 My.k0 (@Array.mk.{0} @GenState []) (@Drawn.mk 0 0 0 0) 559 x4), (My.k3, (@Pos.mk 100 0 109 33)))))) (@My.pf_368 x2) x3))))) x0) x1) (@W.piece_app @treeTable (My.k1).1 x0 11 (@Option.some.{0} @Value (.ref 6)) @My.h_env_41 (@Pos.mk 0 0 0 0) 380 (@Nat.add 406 (@Nat.add 325 2)) (@W.SharedT.abs (@W.SharedT.mk (@My.h_tree_367 (@World.params x0)) 310 My.k0 (@Array.mk.{0} @GenState []) (@Drawn.mk 0 0 0 0) 559 x1)) (@W.SharedT.abs (@W.SharedT.mk (@My.h_tree_417 (@World.params x0)) 357 My.k0 (@Array.mk.{0} @GenState []) (@Drawn.mk 0 0 0 0) 622 x1)) (My.k2 x0 x1) @My.h_sts_368 (@HAppend.hAppend.{0, 0, 0} (@List.{0} @Stmt) (@List.{0} @Stmt) (@List.{0} @Stmt) My.k8 @My.h_sts_418 (@HAppend.hAppend.{0, 0, 0} (@List.{0} @Stmt) (@List.{0} @Stmt) (@List.{0} @Stmt) My.k8 @My.h_sts_475 [])) My.k3 (@Pos.mk 100 0 109 33) (@Pos.mk 110 0 133 16) (@congrFun.{1, 1} @OsState (fun (x2 : @OsState) => (@Option.{0} My.k6)) (fun (x2 : @OsState) => (@W.segRun @treeTable (My.k1).1 x0 11 (@Option.some.{0} @Value (.ref 6)) 1 380 (@W.SharedT.abs (@W.SharedT.mk (@My.h_tree_367 (@World.params x0)) 310 My.k0 (@Array.mk.{0} @GenState []) (@Drawn.mk 0 0 0 0) 559 x2)) My.k24)) (fun (x2 : @OsState) => (@Option.some.{0} My.k6 (@Flow.next, ((@W.SharedT.abs (@W.SharedT.mk (@My.h_tree_417 (@World.params x0)) 357 My.k0 (@Array.mk.{0} @GenState []) (@Drawn.mk 0 0 0 0) 622 x2)), (My.k3, (@Pos.mk 110 0 133 16)))))) ((fun (x2 : @World) => (@funext.{1, 1} @OsState (fun (x3 : @OsState) => (@Option.{0} My.k6)) (fun (x3 : @OsState) => (@W.segRun @treeTable (My.k1).1 x2 11 (@Option.some.{0} @Value (.ref 6)) 1 380 (@W.SharedT.abs (@W.SharedT.mk (@My.h_tree_367 (@World.params x2)) 310 My.k0 (@Array.mk.{0} @GenState []) (@Drawn.mk 0 0 0 0) 559 x3)) My.k24)) (fun (x3 : @OsState) => (@Option.some.{0} My.k6 (@Flow.next, ((@W.SharedT.abs (@W.SharedT.mk (@My.h_tree_417 (@World.params x2)) 357 My.k0 (@Array.mk.{0} @GenState []) (@Drawn.mk 0 0 0 0) 622 x3)), (My.k3, (@Pos.mk 110 0 133 16)))))) (fun (x3 : @OsState) => (@W.segRun_of @treeTable (My.k1).1 x2 11 (@Option.some.{0} @Value (.ref 6)) 1 380 (@W.SharedT.mk (@My.h_tree_367 (@World.params x2)) 310 My.k0 (@Array.mk.{0} @GenState []) (@Drawn.mk 0 0 0 0) 559 x3) (@W.SharedT.mk (@My.h_tree_417 (@World.params x2)) 357 My.k0 (@Array.mk.{0} @GenState []) (@Drawn.mk 0 0 0 0) 622 x3) My.k24 @Flow.next My.k3 (@Pos.mk 110 0 133 16) (@congrFun.{1, 1} @OsState (fun (x4 : @OsState) => (@Option.{0} My.k7)) (fun (x4 : @OsState) => (@W.segRunT @treeTable (My.k1).1 x2 11 (@Option.some.{0} @Value (.ref 6)) 1 380 (@W.SharedT.mk (@My.h_tree_367 (@World.params x2)) 310 My.k0 (@Array.mk.{0} @GenState []) (@Drawn.mk 0 0 0 0) 559 x4) My.k24)) (fun (x4 : @OsState) => (@Option.some.{0} My.k7 (@Flow.next, ((@W.SharedT.mk (@My.h_tree_417 (@World.params x2)) 357 My.k0 (@Array.mk.{0} @GenState []) (@Drawn.mk 0 0 0 0) 622 x4), (My.k3, (@Pos.mk 110 0 133 16)))))) (@My.pf_418 x2) x3))))) x0) x1) (@W.piece_app @treeTable (My.k1).1 x0 11 (@Option.some.{0} @Value (.ref 6)) @My.h_env_41 (@Pos.mk 0 0 0 0) 406 (@Nat.add 325 2) (@W.SharedT.abs (@W.SharedT.mk (@My.h_tree_417 (@World.params x0)) 357 My.k0 (@Array.mk.{0} @GenState []) (@Drawn.mk 0 0 0 0) 622 x1)) (@W.SharedT.abs (@W.SharedT.mk (@My.h_tree_474 (@World.params x0)) 411 My.k0 (@Array.mk.{0} @GenState []) (@Drawn.mk 0 0 0 0) 687 x1)) (My.k2 x0 x1) @My.h_sts_418 (@HAppend.hAppend.{0, 0, 0} (@List.{0} @Stmt) (@List.{0} @Stmt) (@List.{0} @Stmt) My.k8 @My.h_sts_475 []) My.k3 (@Pos.mk 110 0 133 16) (@Pos.mk 134 0 152 30) (@congrFun.{1, 1} @OsState (fun (x2 : @OsState) => (@Option.{0} My.k6)) (fun (x2 : @OsState) => (@W.segRun @treeTable (My.k1).1 x0 11 (@Option.some.{0} @Value (.ref 6)) 1 406 (@W.SharedT.abs (@W.SharedT.mk (@My.h_tree_417 (@World.params x0)) 357 My.k0 (@Array.mk.{0} @GenState []) (@Drawn.mk 0 0 0 0) 622 x2)) My.k23)) (fun (x2 : @OsState) => (@Option.some.{0} My.k6 (@Flow.next, ((@W.SharedT.abs (@W.SharedT.mk (@My.h_tree_474 (@World.params x0)) 411 My.k0 (@Array.mk.{0} @GenState []) (@Drawn.mk 0 0 0 0) 687 x2)), (My.k3, (@Pos.mk 134 0 152 30)))))) ((fun (x2 : @World) => (@funext.{1, 1} @OsState (fun (x3 : @OsState) => (@Option.{0} My.k6)) (fun (x3 : @OsState) => (@W.segRun @treeTable (My.k1).1 x2 11 (@Option.some.{0} @Value (.ref 6)) 1 406 (@W.SharedT.abs (@W.SharedT.mk (@My.h_tree_417 (@World.params x2)) 357 My.k0 (@Array.mk.{0} @GenState []) (@Drawn.mk 0 0 0 0) 622 x3)) My.k23)) (fun (x3 : @OsState) => (@Option.some.{0} My.k6 (@Flow.next, ((@W.SharedT.abs (@W.SharedT.mk (@My.h_tree_474 (@World.params x2)) 411 My.k0 (@Array.mk.{0} @GenState []) (@Drawn.mk 0 0 0 0) 687 x3)), (My.k3, (@Pos.mk 134 0 152 30)))))) (fun (x3 : @OsState) => (@W.segRun_of @treeTable (My.k1).1 x2 11 (@Option.some.{0} @Value (.ref 6)) 1 406 (@W.SharedT.mk (@My.h_tree_417 (@World.params x2)) 357 My.k0 (@Array.mk.{0} @GenState []) (@Drawn.mk 0 0 0 0) 622 x3) (@W.SharedT.mk (@My.h_tree_474 (@World.params x2)) 411 My.k0 (@Array.mk.{0} @GenState []) (@Drawn.mk 0 0 0 0) 687 x3) My.k23 @Flow.next My.k3 (@Pos.mk 134 0 152 30) (@congrFun.{1, 1} @OsState (fun (x4 : @OsState) => (@Option.{0} My.k7)) (fun (x4 : @OsState) => (@W.segRunT @treeTable (My.k1).1 x2 11 (@Option.some.{0} @Value (.ref 6)) 1 406 (@W.SharedT.mk (@My.h_tree_417 (@World.params x2)) 357 My.k0 (@Array.mk.{0} @GenState []) (@Drawn.mk 0 0 0 0) 622 x4) My.k23)) (fun (x4 : @OsState) => (@Option.some.{0} My.k7 (@Flow.next, ((@W.SharedT.mk (@My.h_tree_474 (@World.params x2)) 411 My.k0 (@Array.mk.{0} @GenState []) (@Drawn.mk 0 0 0 0) 687 x4), (My.k3, (@Pos.mk 134 0 152 30)))))) (@My.pf_475 x2) x3))))) x0) x1) (@W.piece_app @treeTable (My.k1).1 x0 11 (@Option.some.{0} @Value (.ref 6)) @My.h_env_41 (@Pos.mk 0 0 0 0) 325 2 (@W.SharedT.abs (@W.SharedT.mk (@My.h_tree_474 (@World.params x0)) 411 My.k0 (@Array.mk.{0} @GenState []) (@Drawn.mk 0 0 0 0) 687 x1)) (@W.SharedT.abs (@W.SharedT.mk (@My.h_tree_544 (@World.params x0)) 479 My.k0 (@Array.mk.{0} @GenState []) (@Drawn.mk 0 0 0 0) 779 x1)) (My.k2 x0 x1) @My.h_sts_475 [] My.k3 (@Pos.mk 134 0 152 30) (@Pos.mk 204 0 215 15) (@congrFun.{1, 1} @OsState (fun (x2 : @OsState) => (@Option.{0} My.k6)) (fun (x2 : @OsState) => (@W.segRun @treeTable (My.k1).1 x0 11 (@Option.some.{0} @Value (.ref 6)) 1 325 (@W.SharedT.abs (@W.SharedT.mk (@My.h_tree_474 (@World.params x0)) 411 My.k0 (@Array.mk.{0} @GenState []) (@Drawn.mk 0 0 0 0) 687 x2)) My.k22)) (fun (x2 : @OsState) => (@Option.some.{0} My.k6 (@Flow.next, ((@W.SharedT.abs (@W.SharedT.mk (@My.h_tree_544 (@World.params x0)) 479 My.k0 (@Array.mk.{0} @GenState []) (@Drawn.mk 0 0 0 0) 779 x2)), (My.k3, (@Pos.mk 204 0 215 15)))))) ((fun (x2 : @World) => (@funext.{1, 1} @OsState (fun (x3 : @OsState) => (@Option.{0} My.k6)) (fun (x3 : @OsState) => (@W.segRun @treeTable (My.k1).1 x2 11 (@Option.some.{0} @Value (.ref 6)) 1 325 (@W.SharedT.abs (@W.SharedT.mk (@My.h_tree_474 (@World.params x2)) 411 My.k0 (@Array.mk.{0} @GenState []) (@Drawn.mk 0 0 0 0) 687 x3)) My.k22)) (fun (x3 : @OsState) => (@Option.some.{0} My.k6 (@Flow.next, ((@W.SharedT.abs (@W.SharedT.mk (@My.h_tree_544 (@World.params x2)) 479 My.k0 (@Array.mk.{0} @GenState []) (@Drawn.mk 0 0 0 0) 779 x3)), (My.k3, (@Pos.mk 204 0 215 15)))))) (fun (x3 : @OsState) => (@W.segRun_of @treeTable (My.k1).1 x2 11 (@Option.some.{0} @Value (.ref 6)) 1 325 (@W.SharedT.mk (@My.h_tree_474 (@World.params x2)) 411 My.k0 (@Array.mk.{0} @GenState []) (@Drawn.mk 0 0 0 0) 687 x3) (@W.SharedT.mk (@My.h_tree_544 (@World.params x2)) 479 My.k0 (@Array.mk.{0} @GenState []) (@Drawn.mk 0 0 0 0) 779 x3) My.k22 @Flow.next My.k3 (@Pos.mk 204 0 215 15) (@congrFun.{1, 1} @OsState (fun (x4 : @OsState) => (@Option.{0} My.k7)) (fun (x4 : @OsState) => (@W.segRunT @treeTable (My.k1).1 x2 11 (@Option.some.{0} @Value (.ref 6)) 1 325 (@W.SharedT.mk (@My.h_tree_474 (@World.params x2)) 411 My.k0 (@Array.mk.{0} @GenState []) (@Drawn.mk 0 0 0 0) 687 x4) My.k22)) (fun (x4 : @OsState) => (@Option.some.{0} My.k7 (@Flow.next, ((@W.SharedT.mk (@My.h_tree_544 (@World.params x2)) 479 My.k0 (@Array.mk.{0} @GenState []) (@Drawn.mk 0 0 0 0) 779 x4), (My.k3, (@Pos.mk 204 0 215 15)))))) (@My.pf_545 x2) x3))))) x0) x1) (@congrFun.{1, 1} @OsState (fun (x2 : @OsState) => (@Option.{0} @Shared)) (fun (x2 : @OsState) => (@W.topRun @treeTable (My.k1).1 x0 11 (@Option.some.{0} @Value (.ref 6)) 2 (@W.SharedT.abs (@W.SharedT.mk (@My.h_tree_544 (@World.params x0)) 479 My.k0 (@Array.mk.{0} @GenState []) (@Drawn.mk 0 0 0 0) 779 x2)) (@Thread.mk (@W.doneF @Flow.next) My.k3 (@Pos.mk 204 0 215 15) [(@W.topFrame (@Pos.mk 0 0 0 0))]))) (fun (x2 : @OsState) => (@Option.some.{0} @Shared (@Shared.mk (@My.h_heap_545 (@World.params x0)) (@Array.mk.{0} @GenState []) (@Drawn.mk 0 0 0 0) 779 x2))) (@My.pf_547 x0) x1)))))))))))))))))
theorem My.pf_550 : ((x0 : @World) → (@Eq.{1} (@Prod.{0, 0} @Bool (@Prod.{0, 0} @Nat (@Option.{0} @Value))) ((@Bool.and (@Heap.isNs (@W.boot_heap (@World.params x0)) @mainGlobals) (@BEq.beq.{0} @Nat (@instBEqOfDecidableEq.{0} @Nat @instDecidableEqNat) (@Array.size.{0} @GenState (@Array.mk.{0} @GenState [])) 0)), ((@Array.size.{0} @Obj (@Heap.objs (@W.boot_heap (@World.params x0)))), (@Heap.nsMap (@W.boot_heap (@World.params x0)) @mainGlobals (.ofString "__annotations__")))) (@Bool.true, (11, (@Option.some.{0} @Value (.ref 6)))))) := by intros; kernel_rfl
theorem My.pf_43 : ((x0 : @Shared) → (@Eq.{1} (@Option.{0} @Shared) (@fenceModules? (My.k1).1 x0) (@Option.some.{0} @Shared x0))) := by intros; kernel_rfl
theorem My.pf_42 : (@Eq.{1} @Program (@W.opening (My.k1).1) (@W.plainProg (@Scope.names (@Module.scope (@Program.main (My.k1).1))))) := by intros; kernel_rfl
theorem My.left : (@W.LeftO (My.k1).1 @My.h_view_39 [] (fun (x0 : @Shared) => (@Bool.and (@W.xlAt @My.h_view_39 (@List.nil.{0} (@Prod.{0, 0} @Str @W.WData)) x0) (@W.recOk (@W.RowW.records My.k1) x0))) (@W.Hook.α (@W.kHook @My.h_heap_39 My.myAs (fun (x0 : @Params) => (@id.{0} (@Eq.{1} (@List.{0} @Addr) My.myAs (@List.map.{0, 0} (@Prod.{0, 0} @Addr @Obj) @Addr (fun (x1 : (@Prod.{0, 0} @Addr @Obj)) => (@Prod.fst.{0, 0} @Addr @Obj x1)) (@My.h_heap_39 x0))) (@Eq.refl.{1} (@List.{0} @Addr) My.myAs))))) (@W.Hook.obs (@W.kHook @My.h_heap_39 My.myAs (fun (x0 : @Params) => (@id.{0} (@Eq.{1} (@List.{0} @Addr) My.myAs (@List.map.{0, 0} (@Prod.{0, 0} @Addr @Obj) @Addr (fun (x1 : (@Prod.{0, 0} @Addr @Obj)) => (@Prod.fst.{0, 0} @Addr @Obj x1)) (@My.h_heap_39 x0))) (@Eq.refl.{1} (@List.{0} @Addr) My.myAs))))) (@W.Hook.val (@W.kHook @My.h_heap_39 My.myAs (fun (x0 : @Params) => (@id.{0} (@Eq.{1} (@List.{0} @Addr) My.myAs (@List.map.{0, 0} (@Prod.{0, 0} @Addr @Obj) @Addr (fun (x1 : (@Prod.{0, 0} @Addr @Obj)) => (@Prod.fst.{0, 0} @Addr @Obj x1)) (@My.h_heap_39 x0))) (@Eq.refl.{1} (@List.{0} @Addr) My.myAs))))) 7474 @Bool.true) := (@W.LeftO.of_pieces (My.k1).1 @My.h_view_39 [] (fun (x0 : @Shared) => (@Bool.and (@W.xlAt @My.h_view_39 (@List.nil.{0} (@Prod.{0, 0} @Str @W.WData)) x0) (@W.recOk (@W.RowW.records My.k1) x0))) (@W.Hook.α (@W.kHook @My.h_heap_39 My.myAs (fun (x0 : @Params) => (@id.{0} (@Eq.{1} (@List.{0} @Addr) My.myAs (@List.map.{0, 0} (@Prod.{0, 0} @Addr @Obj) @Addr (fun (x1 : (@Prod.{0, 0} @Addr @Obj)) => (@Prod.fst.{0, 0} @Addr @Obj x1)) (@My.h_heap_39 x0))) (@Eq.refl.{1} (@List.{0} @Addr) My.myAs))))) (@W.Hook.obs (@W.kHook @My.h_heap_39 My.myAs (fun (x0 : @Params) => (@id.{0} (@Eq.{1} (@List.{0} @Addr) My.myAs (@List.map.{0, 0} (@Prod.{0, 0} @Addr @Obj) @Addr (fun (x1 : (@Prod.{0, 0} @Addr @Obj)) => (@Prod.fst.{0, 0} @Addr @Obj x1)) (@My.h_heap_39 x0))) (@Eq.refl.{1} (@List.{0} @Addr) My.myAs))))) (@W.Hook.val (@W.kHook @My.h_heap_39 My.myAs (fun (x0 : @Params) => (@id.{0} (@Eq.{1} (@List.{0} @Addr) My.myAs (@List.map.{0, 0} (@Prod.{0, 0} @Addr @Obj) @Addr (fun (x1 : (@Prod.{0, 0} @Addr @Obj)) => (@Prod.fst.{0, 0} @Addr @Obj x1)) (@My.h_heap_39 x0))) (@Eq.refl.{1} (@List.{0} @Addr) My.myAs))))) 7474 @Bool.true @W.boot_heap @My.h_heap_545 (@Array.mk.{0} @GenState []) (@Array.mk.{0} @GenState []) @W.boot_drawn (@Drawn.mk 0 0 0 0) @W.boot_toks 779 11 (@Option.some.{0} @Value (.ref 6)) (@Nat.add 12 (@Nat.add 1 (@Nat.add 225 (@Nat.add 214 My.k10)))) (@W.boot_open (My.k1).1 7474 @My.pf_42 (@of_decide_eq_true (@Eq.{1} @Bool (@Nat.ble 600 7474) @Bool.true) (@instDecidableEqBool (@Nat.ble 600 7474) @Bool.true) (@id.{0} (@Eq.{1} @Bool (@Decidable.decide (@Eq.{1} @Bool (@Nat.ble 600 7474) @Bool.true) (@instDecidableEqBool (@Nat.ble 600 7474) @Bool.true)) @Bool.true) (@Eq.refl.{1} @Bool @Bool.true))) @My.pf_43) @My.pf_550 @My.pf_548 (@of_decide_eq_true (@Eq.{1} @Bool (@Nat.ble (@Nat.add 12 (@Nat.add 1 (@Nat.add 225 (@Nat.add 214 My.k10)))) 7474) @Bool.true) (@instDecidableEqBool (@Nat.ble (@Nat.add 12 (@Nat.add 1 (@Nat.add 225 (@Nat.add 214 My.k10)))) 7474) @Bool.true) (@id.{0} (@Eq.{1} @Bool (@Decidable.decide (@Eq.{1} @Bool (@Nat.ble (@Nat.add 12 (@Nat.add 1 (@Nat.add 225 (@Nat.add 214 My.k10)))) 7474) @Bool.true) (@instDecidableEqBool (@Nat.ble (@Nat.add 12 (@Nat.add 1 (@Nat.add 225 (@Nat.add 214 My.k10)))) 7474) @Bool.true)) @Bool.true) (@Eq.refl.{1} @Bool @Bool.true))) (fun (x0 : @World) => (@funext.{1, 1} @OsState (fun (x1 : @OsState) => (@Prod.{0, 0} @Bool (@Prod.{0, 0} (@Prod.{0, 0} @PyProof.Rows.Seen My.k14) (@W.Hook.α (@W.kHook @My.h_heap_39 My.myAs (fun (x2 : @Params) => (@id.{0} (@Eq.{1} (@List.{0} @Addr) My.myAs (@List.map.{0, 0} (@Prod.{0, 0} @Addr @Obj) @Addr (fun (x3 : (@Prod.{0, 0} @Addr @Obj)) => (@Prod.fst.{0, 0} @Addr @Obj x3)) (@My.h_heap_39 x2))) (@Eq.refl.{1} (@List.{0} @Addr) My.myAs)))))))) (fun (x1 : @OsState) => ((My.k13 x0 x1), ((@W.openSeen @My.h_view_39 [] My.k18 (fun (x2 : @Shared) => (@Bool.and (@W.xlAt @My.h_view_39 (@List.nil.{0} (@Prod.{0, 0} @Str @W.WData)) x2) (@W.recOk (@W.RowW.records My.k1) x2))) @Bool.true (My.k2 x0 x1)), (@W.Hook.obs (@W.kHook @My.h_heap_39 My.myAs (fun (x2 : @Params) => (@id.{0} (@Eq.{1} (@List.{0} @Addr) My.myAs (@List.map.{0, 0} (@Prod.{0, 0} @Addr @Obj) @Addr (fun (x3 : (@Prod.{0, 0} @Addr @Obj)) => (@Prod.fst.{0, 0} @Addr @Obj x3)) (@My.h_heap_39 x2))) (@Eq.refl.{1} (@List.{0} @Addr) My.myAs)))) (My.k2 x0 x1))))) (fun (x1 : @OsState) => (@Bool.true, ((@W.openGood @My.h_view_39 []), (@W.Hook.val (@W.kHook @My.h_heap_39 My.myAs (fun (x2 : @Params) => (@id.{0} (@Eq.{1} (@List.{0} @Addr) My.myAs (@List.map.{0, 0} (@Prod.{0, 0} @Addr @Obj) @Addr (fun (x3 : (@Prod.{0, 0} @Addr @Obj)) => (@Prod.fst.{0, 0} @Addr @Obj x3)) (@My.h_heap_39 x2))) (@Eq.refl.{1} (@List.{0} @Addr) My.myAs)))) x0)))) (fun (x1 : @OsState) => (@My.pf_582 x0 x1)))))
end
theorem My.myE : ∀ P, My.myAs = (My.h_heap_39 P).map (·.1) := fun _ => by kernel_rfl
set_option maxRecDepth 100000

set_option maxHeartbeats 4000000
/-! THE DATA LAYER WITH VIEWS: values read as data, lists of one's own changed in place; over the hand layer (L2). -/
namespace OD
open PySem PySem.Spec PyProof.Rows L2
abbrev St := L2.St

/-! ### data -/
inductive Dt where
  | non | bl (b : Bool) | int (i : Int) | str (x : Str) | tup (ds : List Dt) | lst (ds : List Dt) | scr (ns : List Int) | way (C : Addr) (f : Str) (n : Int)

mutual
/-- the value v stands for the data in the heap H -/
def Is (K : PySem.W.Frag) (H : Hp) : Dt → V → Prop
  | .non, v => v = .non
  | .bl b, v => v = .bl b
  | .int i, v => v = .int i
  | .str x, v => v = .str x
  | .tup ds, v => ∃ a xs, v = .ref a ∧ H a = some (.tup xs) ∧ AllIs K H ds xs
  | .lst ds, v => ∃ a xs, v = .ref a ∧ H a = some (.lst xs) ∧ AllIs K H ds xs
  | .scr ns, v => ∃ a, v = .ref a ∧ SqL K H a (ns.map V.int)
  | .way C f n, v => ∃ a dx, v = .ref a ∧ H a = some (.ins C dx [(f, .int n)])
def AllIs (K : PySem.W.Frag) (H : Hp) : List Dt → List V → Prop
  | [], xs => xs = []
  | d :: ds, xs => ∃ x r, xs = x :: r ∧ Is K H d x ∧ AllIs K H ds r
end
variable {K : PySem.W.Frag} {H H' H1 H2 : Hp}
theorem is_non {v : V} : Is K H .non v ↔ v = .non := by unfold Is; exact Iff.rfl
theorem is_bl {b : Bool} {v : V} : Is K H (.bl b) v ↔ v = .bl b := by unfold Is; exact Iff.rfl
theorem is_int {i : Int} {v : V} : Is K H (.int i) v ↔ v = .int i := by unfold Is; exact Iff.rfl
theorem is_str {x : Str} {v : V} : Is K H (.str x) v ↔ v = .str x := by unfold Is; exact Iff.rfl
theorem is_tup {ds : List Dt} {v : V} : Is K H (.tup ds) v ↔ ∃ a xs, v = .ref a ∧ H a = some (.tup xs) ∧ AllIs K H ds xs := by
  constructor
  · intro h; unfold Is at h; exact h
  · intro h; unfold Is; exact h
theorem is_lst {ds : List Dt} {v : V} : Is K H (.lst ds) v ↔ ∃ a xs, v = .ref a ∧ H a = some (.lst xs) ∧ AllIs K H ds xs := by
  constructor
  · intro h; unfold Is at h; exact h
  · intro h; unfold Is; exact h
theorem is_scr {ns : List Int} {v : V} : Is K H (.scr ns) v ↔ ∃ a, v = .ref a ∧ SqL K H a (ns.map V.int) := by
  constructor
  · intro h; unfold Is at h; exact h
  · intro h; unfold Is; exact h
theorem is_way {C : Addr} {f : Str} {n : Int} {v : V} : Is K H (.way C f n) v ↔ ∃ a dx, v = .ref a ∧ H a = some (.ins C dx [(f, .int n)]) := by
  constructor
  · intro h; unfold Is at h; exact h
  · intro h; unfold Is; exact h
theorem allIs_nil {xs : List V} : AllIs K H [] xs ↔ xs = [] := by unfold AllIs; exact Iff.rfl
theorem allIs_cons {d : Dt} {ds : List Dt} {xs : List V} : AllIs K H (d :: ds) xs ↔ ∃ x r, xs = x :: r ∧ Is K H d x ∧ AllIs K H ds r := by
  constructor
  · intro h; unfold AllIs at h; exact h
  · intro h; unfold AllIs; exact h
mutual
theorem Is.mono0 (s : Same H H') : ∀ {d : Dt} {v : V}, Is K H d v → Is K H' d v
  | .non, _, h => is_non.mpr (is_non.mp h)
  | .bl _, _, h => is_bl.mpr (is_bl.mp h)
  | .int _, _, h => is_int.mpr (is_int.mp h)
  | .str _, _, h => is_str.mpr (is_str.mp h)
  | .tup ds, _, h => by
    obtain ⟨a, xs, e, h1, h2⟩ := is_tup.mp h
    exact is_tup.mpr ⟨a, xs, e, s _ _ h1, AllIs.mono0 s h2⟩
  | .lst ds, _, h => by
    obtain ⟨a, xs, e, h1, h2⟩ := is_lst.mp h
    exact is_lst.mpr ⟨a, xs, e, s _ _ h1, AllIs.mono0 s h2⟩
  | .scr ns, _, h => by
    obtain ⟨a, e, h1⟩ := is_scr.mp h
    exact is_scr.mpr ⟨a, e, s.seq h1⟩
  | .way C f n, _, h => by
    obtain ⟨a, dx, e, h1⟩ := is_way.mp h
    exact is_way.mpr ⟨a, dx, e, s _ _ h1⟩
theorem AllIs.mono0 (s : Same H H') : ∀ {ds : List Dt} {xs : List V}, AllIs K H ds xs → AllIs K H' ds xs
  | [], _, h => allIs_nil.mpr (allIs_nil.mp h)
  | d :: ds, _, h => by
    obtain ⟨x, r, e, h1, h2⟩ := allIs_cons.mp h
    exact allIs_cons.mpr ⟨x, r, e, Is.mono0 s h1, AllIs.mono0 s h2⟩
end
theorem AllIs.length : ∀ {ds : List Dt} {xs : List V}, AllIs K H ds xs → ds.length = xs.length
  | [], _, h => by rw [allIs_nil.mp h]; rfl
  | d :: ds, _, h => by
    obtain ⟨x, r, rfl, _, h2⟩ := allIs_cons.mp h
    rw [List.length_cons, List.length_cons, AllIs.length h2]
theorem AllIs.get : ∀ {ds : List Dt} {xs : List V} {i : Nat} {d : Dt}, AllIs K H ds xs → ds[i]? = some d → ∃ v, xs[i]? = some v ∧ Is K H d v
  | [], _, _, _, _, e => by simp at e
  | d :: ds, _, 0, d', h, e => by
    obtain ⟨x, r, rfl, h1, h2⟩ := allIs_cons.mp h
    simp at e; subst e
    exact ⟨x, rfl, h1⟩
  | d :: ds, _, i + 1, d', h, e => by
    obtain ⟨x, r, rfl, h1, h2⟩ := allIs_cons.mp h
    obtain ⟨v, e1, e2⟩ := AllIs.get (i := i) h2 (by simpa using e)
    exact ⟨v, by simpa using e1, e2⟩
theorem AllIs.get' : ∀ {ds : List Dt} {xs : List V} {i : Nat} {v : V}, AllIs K H ds xs → xs[i]? = some v → ∃ d, ds[i]? = some d ∧ Is K H d v
  | [], _, _, _, h, e => by rw [allIs_nil.mp h] at e; simp at e
  | d :: ds, _, 0, v, h, e => by
    obtain ⟨x, r, rfl, h1, h2⟩ := allIs_cons.mp h
    simp at e; subst e
    exact ⟨d, rfl, h1⟩
  | d :: ds, _, i + 1, v, h, e => by
    obtain ⟨x, r, rfl, h1, h2⟩ := allIs_cons.mp h
    obtain ⟨v, e1, e2⟩ := AllIs.get' (i := i) h2 (by simpa using e)
    exact ⟨v, by simpa using e1, e2⟩
theorem AllIs.append : ∀ {ds es : List Dt} {xs ys : List V}, AllIs K H ds xs → AllIs K H es ys → AllIs K H (ds ++ es) (xs ++ ys)
  | [], _, _, _, h, h' => by rw [allIs_nil.mp h]; exact h'
  | d :: ds, _, _, _, h, h' => by
    obtain ⟨x, r, rfl, h1, h2⟩ := allIs_cons.mp h
    exact allIs_cons.mpr ⟨x, _, rfl, h1, AllIs.append h2 h'⟩
theorem AllIs.drop : ∀ {ds : List Dt} {xs : List V} (n : Nat), AllIs K H ds xs → AllIs K H (ds.drop n) (xs.drop n)
  | _, _, 0, h => h
  | [], _, n + 1, h => by rw [allIs_nil.mp h]; exact allIs_nil.mpr rfl
  | d :: ds, _, n + 1, h => by
    obtain ⟨x, r, rfl, h1, h2⟩ := allIs_cons.mp h
    exact AllIs.drop n h2
theorem AllIs.take : ∀ {ds : List Dt} {xs : List V} (n : Nat), AllIs K H ds xs → AllIs K H (ds.take n) (xs.take n)
  | _, _, 0, _ => allIs_nil.mpr rfl
  | [], _, n + 1, h => by rw [allIs_nil.mp h]; exact allIs_nil.mpr rfl
  | d :: ds, _, n + 1, h => by
    obtain ⟨x, r, rfl, h1, h2⟩ := allIs_cons.mp h
    exact allIs_cons.mpr ⟨x, _, rfl, h1, AllIs.take n h2⟩
theorem AllIs.ints : ∀ {ns : List Int}, AllIs K H (ns.map Dt.int) (ns.map V.int)
  | [] => allIs_nil.mpr rfl
  | n :: ns => allIs_cons.mpr ⟨.int n, _, rfl, is_int.mpr rfl, AllIs.ints⟩
theorem AllIs.atI {ds : List Dt} {xs : List V} {i : Int} {d : Dt} (h : AllIs K H ds xs) (e : L2.atI ds i = some d) : ∃ v, L2.atI xs i = some v ∧ Is K H d v := by
  unfold L2.atI at e ⊢
  rw [← h.length]
  cases q : ixN ds.length i with
  | none => rw [q] at e; cases e
  | some j =>
    rw [q] at e
    exact h.get e
theorem AllIs.one {d : Dt} {xs : List V} (h : AllIs K H [d] xs) : ∃ v, xs = [v] ∧ Is K H d v := by
  obtain ⟨x, r, rfl, h1, h2⟩ := allIs_cons.mp h
  rw [allIs_nil.mp h2]
  exact ⟨x, rfl, h1⟩
theorem AllIs.two {d e : Dt} {xs : List V} (h : AllIs K H [d, e] xs) : ∃ v u, xs = [v, u] ∧ Is K H d v ∧ Is K H e u := by
  obtain ⟨x, r, rfl, h1, h2⟩ := allIs_cons.mp h
  obtain ⟨u, rfl, h3⟩ := h2.one
  exact ⟨x, u, rfl, h1, h3⟩

theorem same_new {p : Addr} (h : H p = none) (o : HO) : Same H (upd H p o) := fun b u q => by rw [upd_ne (ne_of_none q h)]; exact q

/-! ### views: of the heap h, the part g that nobody changes any more; what is in h alone is somebody's own -/
structure Vw where
  g : Hp
  h : Hp
  sub : Same g h
structure Le (W W' : Vw) : Prop where
  g : Same W.g W'.g
  h : Same W.h W'.h
  n : ∀ a, W.h a ≠ none → W.g a = none → W'.g a = none
theorem Le.refl (W : Vw) : Le W W := ⟨Same.refl _, Same.refl _, fun _ _ h => h⟩
theorem Le.trans {W W1 W2 : Vw} (a : Le W W1) (b : Le W1 W2) : Le W W2 :=
  ⟨a.g.trans b.g, a.h.trans b.h, fun c h1 h2 => b.n c (fun z => h1 (a.h.free z)) (a.n c h1 h2)⟩
theorem Is.mono {W W' : Vw} {d : Dt} {v : V} (h : Is K W.g d v) (s : Le W W') : Is K W'.g d v := Is.mono0 s.g h
theorem AllIs.mono {W W' : Vw} {d : List Dt} {v : List V} (h : AllIs K W.g d v) (s : Le W W') : AllIs K W'.g d v := AllIs.mono0 s.g h
/-- a new thing that nobody will change -/
def Vw.new (W : Vw) (p : Addr) (o : HO) : Vw := ⟨upd W.g p o, upd W.h p o, fun b u q => by
  by_cases e : b = p
  · subst e; rw [upd_same] at q ⊢; exact q
  · rw [upd_ne e] at q ⊢; exact W.sub _ _ q⟩
theorem le_new {W : Vw} {p : Addr} (hp : W.h p = none) (o : HO) : Le W (W.new p o) :=
  ⟨same_new (W.sub.free hp) o, same_new hp o, fun a h1 h2 => by
    have : a ≠ p := fun e => h1 (e ▸ hp)
    show upd W.g p o a = none
    rw [upd_ne this]; exact h2⟩
/-- a new thing of one's own -/
def Vw.mine (W : Vw) (p : Addr) (o : HO) (hp : W.g p = none) : Vw := ⟨W.g, upd W.h p o, fun b u q => by
  have : b ≠ p := fun e => by rw [e, hp] at q; cases q
  rw [upd_ne this]; exact W.sub _ _ q⟩
theorem le_mine {W : Vw} {p : Addr} (hp : W.h p = none) (o : HO) : Le W (W.mine p o (W.sub.free hp)) :=
  ⟨Same.refl _, same_new hp o, fun _ _ h => h⟩
/-- one's own is no one's own any more -/
def Vw.frz (W : Vw) (p : Addr) (o : HO) (hp : W.h p = some o) : Vw := ⟨upd W.g p o, W.h, fun b u q => by
  by_cases e : b = p
  · subst e; rw [upd_same] at q; rw [hp]; exact q
  · rw [upd_ne e] at q; exact W.sub _ _ q⟩

/-! ### the names' data -/
inductive Sl where | none | some (d : Dt) | own (ds : List Dt)
abbrev DS := List Sl
structure Rl (K : PySem.W.Frag) (F : Addr → Prop) (W : Vw) (ρ : DS) (σ : St) : Prop where
  len : ρ.length = σ.length
  at_ : ∀ (i : Nat) (d : Dt), ρ[i]? = some (.some d) → ∃ v, σ[i]? = some (some v) ∧ Is K W.g d v
  ow : ∀ (i : Nat) (ds : List Dt), ρ[i]? = some (.own ds) → ∃ a xs, σ[i]? = some (some (.ref a)) ∧ W.h a = some (.lst xs) ∧ W.g a = none ∧ F a ∧ AllIs K W.g ds xs
  ne : ∀ (i j : Nat) (ds es : List Dt), i ≠ j → ρ[i]? = some (.own ds) → ρ[j]? = some (.own es) → σ[i]? ≠ σ[j]?
  fr : ∀ p, W.h p = none → F p
variable {F : Addr → Prop} {W W' : Vw}
theorem Rl.mono {ρ : DS} {σ : St} (r : Rl K F W ρ σ) (s : Le W W') : Rl K F W' ρ σ :=
  ⟨r.len, fun i d e => let ⟨v, h1, h2⟩ := r.at_ i d e; ⟨v, h1, h2.mono s⟩,
   fun i ds e => let ⟨a, xs, h1, h2, h3, h4, h5⟩ := r.ow i ds e; ⟨a, xs, h1, s.h _ _ h2, s.n a (by rw [h2]; intro z; cases z) h3, h4, h5.mono s⟩, r.ne, fun p hp => r.fr p (s.h.free hp)⟩
theorem set_get {α : Type} {l : List α} {i j : Nat} {x y : α} (q : (l.set i x)[j]? = some y) : (i = j ∧ i < l.length ∧ x = y) ∨ (i ≠ j ∧ l[j]? = some y) := by
  by_cases hij : i = j
  · subst hij
    by_cases hl : i < l.length
    · rw [List.getElem?_set_self hl] at q
      exact .inl ⟨rfl, hl, Option.some.inj q⟩
    · rw [List.getElem?_eq_none (by rw [List.length_set]; omega)] at q
      cases q
  · rw [List.getElem?_set_ne hij] at q
    exact .inr ⟨hij, q⟩
theorem Rl.set {ρ : DS} {σ : St} (r : Rl K F W ρ σ) {d : Dt} {v : V} (i : Nat) (h : Is K W.g d v) : Rl K F W (ρ.set i (.some d)) (σ.set i (some v)) := by
  refine ⟨by rw [List.length_set, List.length_set]; exact r.len, fun j e q => ?_, fun j ds q => ?_, fun j k ds es hjk q1 q2 => ?_, r.fr⟩
  · rcases set_get q with ⟨rfl, hl, e1⟩ | ⟨hij, q⟩
    · cases e1
      exact ⟨v, by rw [List.getElem?_set_self (by rw [← r.len]; exact hl)], h⟩
    · rw [List.getElem?_set_ne hij]
      exact r.at_ j e q
  · rcases set_get q with ⟨_, _, e1⟩ | ⟨hij, q⟩
    · cases e1
    · rw [List.getElem?_set_ne hij]
      exact r.ow j ds q
  · rcases set_get q1 with ⟨_, _, e1⟩ | ⟨hij, q1⟩
    · cases e1
    rcases set_get q2 with ⟨_, _, e1⟩ | ⟨hik, q2⟩
    · cases e1
    rw [List.getElem?_set_ne hij, List.getElem?_set_ne hik]
    exact r.ne j k ds es hjk q1 q2
/-- a name gets a new list of one's own -/
theorem Rl.own {ρ : DS} {σ : St} (r : Rl K F W ρ σ) (s : Le W W') {p : Addr} {xs : List V} {ds : List Dt} (i : Nat) (h0 : W.h p = none) (h1 : W'.h p = some (.lst xs)) (h2 : W'.g p = none) (h3 : AllIs K W'.g ds xs) :
    Rl K F W' (ρ.set i (.own ds)) (σ.set i (some (.ref p))) := by
  have r' := r.mono s
  have nep : ∀ (j : Nat) (es : List Dt), ρ[j]? = some (Sl.own es) → σ[j]? ≠ some (some (V.ref p)) := fun j es q z => by
    obtain ⟨a, ys, e1, e2, _⟩ := r.ow j es q
    rw [z] at e1
    cases e1
    rw [h0] at e2
    cases e2
  refine ⟨by rw [List.length_set, List.length_set]; exact r.len, fun j e q => ?_, fun j es q => ?_, fun j k es es' hjk q1 q2 => ?_, r'.fr⟩
  · rcases set_get q with ⟨_, _, e1⟩ | ⟨hij, q⟩
    · cases e1
    · rw [List.getElem?_set_ne hij]
      exact r'.at_ j e q
  · rcases set_get q with ⟨rfl, hl, e1⟩ | ⟨hij, q⟩
    · cases e1
      exact ⟨p, xs, by rw [List.getElem?_set_self (by rw [← r.len]; exact hl)], h1, h2, r.fr p h0, h3⟩
    · rw [List.getElem?_set_ne hij]
      exact r'.ow j es q
  · rcases set_get q1 with ⟨rfl, hl, e1⟩ | ⟨hij, q1⟩
    · rcases set_get q2 with ⟨rfl, _, _⟩ | ⟨hik, q2⟩
      · exact absurd rfl hjk
      · rw [List.getElem?_set_self (by rw [← r.len]; exact hl), List.getElem?_set_ne hik]
        exact fun z => nep k es' q2 z.symm
    · rcases set_get q2 with ⟨rfl, hl, _⟩ | ⟨hik, q2⟩
      · rw [List.getElem?_set_self (by rw [← r.len]; exact hl), List.getElem?_set_ne hij]
        exact nep j es q1
      · rw [List.getElem?_set_ne hij, List.getElem?_set_ne hik]
        exact r.ne j k es es' hjk q1 q2
/-- one's own list is changed -/
theorem Rl.put {ρ : DS} {σ : St} (r : Rl K F W ρ σ) {i : Nat} {ds es : List Dt} {a : Addr} {ys : List V} (hi : ρ[i]? = some (.own ds)) (ha : σ[i]? = some (some (.ref a))) (hg : W.g a = none) (hF : F a) (h3 : AllIs K W.g es ys) :
    Rl K F (W.mine a (.lst ys) hg) (ρ.set i (.own es)) σ := by
  have hl : i < ρ.length := by
    rcases Nat.lt_or_ge i ρ.length with h | h
    · exact h
    · rw [List.getElem?_eq_none h] at hi; cases hi
  have other : ∀ j fs, j ≠ i → ρ[j]? = some (.own fs) → σ[j]? ≠ some (some (.ref a)) := fun j fs hj q z => r.ne j i fs ds hj q hi (z.trans ha.symm)
  refine ⟨by rw [List.length_set]; exact r.len, fun j e q => ?_, fun j fs q => ?_, fun j k fs fs' hjk q1 q2 => ?_, fun p hp => ?_⟩
  · rcases set_get q with ⟨_, _, e1⟩ | ⟨hij, q⟩
    · cases e1
    · exact r.at_ j e q
  · rcases set_get q with ⟨rfl, _, e1⟩ | ⟨hij, q⟩
    · cases e1
      exact ⟨a, ys, ha, upd_same, hg, hF, h3⟩
    · obtain ⟨b, xs, e1, e2, e3, e4, e5⟩ := r.ow j fs q
      have hb : b ≠ a := fun z => other j fs (fun z => hij z.symm) q (z ▸ e1)
      exact ⟨b, xs, e1, (upd_ne hb).trans e2, e3, e4, e5⟩
  · have k1 : ∃ gs, ρ[j]? = some (.own gs) := by
      rcases set_get q1 with ⟨rfl, _, _⟩ | ⟨_, q⟩
      · exact ⟨_, hi⟩
      · exact ⟨_, q⟩
    have k2 : ∃ gs, ρ[k]? = some (.own gs) := by
      rcases set_get q2 with ⟨rfl, _, _⟩ | ⟨_, q⟩
      · exact ⟨_, hi⟩
      · exact ⟨_, q⟩
    obtain ⟨_, k1⟩ := k1
    obtain ⟨_, k2⟩ := k2
    exact r.ne j k _ _ hjk k1 k2
  · by_cases e : p = a
    · exact e ▸ hF
    · exact r.fr p ((upd_ne (H := W.h) (o := .lst ys) e).symm.trans hp)
/-- one's own list is kept for good -/
theorem Rl.frz {ρ : DS} {σ : St} (r : Rl K F W ρ σ) {i : Nat} {ds : List Dt} {a : Addr} {xs : List V} (hi : ρ[i]? = some (.own ds)) (ha : σ[i]? = some (some (.ref a))) (hh : W.h a = some (.lst xs)) (hg : W.g a = none) (h3 : AllIs K W.g ds xs) :
    Rl K F (W.frz a _ hh) (ρ.set i (.some (.lst ds))) σ := by
  have sg : Same W.g (upd W.g a (.lst xs)) := same_new hg _
  have other : ∀ j fs, j ≠ i → ρ[j]? = some (.own fs) → σ[j]? ≠ some (some (.ref a)) := fun j fs hj q z => r.ne j i fs ds hj q hi (z.trans ha.symm)
  refine ⟨by rw [List.length_set]; exact r.len, fun j e q => ?_, fun j fs q => ?_, fun j k fs fs' hjk q1 q2 => ?_, r.fr⟩
  · rcases set_get q with ⟨rfl, _, e1⟩ | ⟨hij, q⟩
    · cases e1
      exact ⟨_, ha, is_lst.mpr ⟨a, xs, rfl, upd_same, AllIs.mono0 sg h3⟩⟩
    · obtain ⟨v, e1, e2⟩ := r.at_ j e q
      exact ⟨v, e1, Is.mono0 sg e2⟩
  · rcases set_get q with ⟨_, _, e1⟩ | ⟨hij, q⟩
    · cases e1
    · obtain ⟨b, ys, e1, e2, e3, e4, e5⟩ := r.ow j fs q
      have hb : b ≠ a := fun z => other j fs (fun z => hij z.symm) q (z ▸ e1)
      exact ⟨b, ys, e1, e2, (upd_ne hb).trans e3, e4, AllIs.mono0 sg e5⟩
  · rcases set_get q1 with ⟨_, _, e1⟩ | ⟨_, q1⟩
    · cases e1
    rcases set_get q2 with ⟨_, _, e1⟩ | ⟨_, q2⟩
    · cases e1
    exact r.ne j k _ _ hjk q1 q2
def dstart (n : Nat) (ds : List Dt) : DS := ds.map Sl.some ++ List.replicate (n - ds.length) Sl.none
theorem Rl.start {N : List Str} {ds : List Dt} {vs : List V} (h : AllIs K W.g ds vs) : Rl K (fun a => W.h a = none) W (dstart N.length ds) (L2.start N vs) := by
  have hl := h.length
  have cls : ∀ (i : Nat) (y : Sl), (dstart N.length ds)[i]? = some y → (∃ d, ds[i]? = some d ∧ y = .some d) ∨ y = .none := fun i y e => by
    unfold dstart at e
    by_cases hi : i < ds.length
    · rw [List.getElem?_append_left (by rw [List.length_map]; exact hi), List.getElem?_map] at e
      cases q : ds[i]? with
      | none => rw [q] at e; cases e
      | some d' =>
        rw [q] at e
        exact .inl ⟨d', rfl, (Option.some.inj e).symm⟩
    · rw [List.getElem?_append_right (by rw [List.length_map]; omega), List.getElem?_replicate] at e
      split at e
      · exact .inr (Option.some.inj e).symm
      · cases e
  refine ⟨by unfold L2.start dstart; rw [List.length_append, List.length_append, List.length_map, List.length_map, List.length_replicate, List.length_replicate, hl], fun i d e => ?_, fun i es e => ?_, fun i j es fs _ e _ => ?_, fun p hp => hp⟩
  · rcases cls i _ e with ⟨d', q, e1⟩ | e1
    · cases e1
      obtain ⟨v, h1, h2⟩ := h.get q
      refine ⟨v, ?_, h2⟩
      have hi : i < ds.length := by
        rcases Nat.lt_or_ge i ds.length with h | h
        · exact h
        · rw [List.getElem?_eq_none h] at q; cases q
      unfold L2.start
      rw [List.getElem?_append_left (by rw [List.length_map, ← hl]; exact hi), List.getElem?_map, h1]
      rfl
    · cases e1
  · rcases cls i _ e with ⟨d', q, e1⟩ | e1
    · cases e1
    · cases e1
  · rcases cls i _ e with ⟨d', q, e1⟩ | e1
    · cases e1
    · cases e1

/-! ### what is read off an expression: data in, data out -/
abbrev DTE := DS → (Dt → Prop) → Prop
abbrev DTT := DS → (Bool → Prop) → Prop
abbrev DTA := DS → (List Dt → Prop) → Prop
def LiE (K : PySem.W.Frag) (te : TE) (t : DTE) : Prop :=
  ∀ {F : Addr → Prop} (ρ : DS) (σ : St) (H : Vw) (Q : Dt → Prop), Rl K F H ρ σ → t ρ Q → ∀ R : VK, (∀ d v H', Le H H' → Is K H'.g d v → Q d → R v H'.h) → te σ H.h R
def LiT (K : PySem.W.Frag) (te : TT) (t : DTT) : Prop :=
  ∀ {F : Addr → Prop} (ρ : DS) (σ : St) (H : Vw) (Q : Bool → Prop), Rl K F H ρ σ → t ρ Q → ∀ R : Bool → Hp → Prop, (∀ d H', Le H H' → Q d → R d H'.h) → te σ H.h R
def LiA (K : PySem.W.Frag) (te : TA) (t : DTA) : Prop :=
  ∀ {F : Addr → Prop} (ρ : DS) (σ : St) (H : Vw) (Q : List Dt → Prop), Rl K F H ρ σ → t ρ Q → ∀ R : List V → Hp → Prop, (∀ d v H', Le H H' → AllIs K H'.g d v → Q d → R v H'.h) → te σ H.h R
def DE (X : Cx) (e : Expr) (t : DTE) : Prop := ∃ te, PE X e te ∧ LiE X.K te t
def DT (X : Cx) (e : Expr) (t : DTT) : Prop := ∃ te, PT X e te ∧ LiT X.K te t
def DW (X : Cx) (e : Expr) (t : DTT) : Prop := ∃ te, PW X e te ∧ LiT X.K te t
def DA (X : Cx) (es : List Expr) (t : DTA) : Prop := ∃ te, PA X es te ∧ LiA X.K te t
theorem DW.dt {X : Cx} {e : Expr} {t : DTT} (h : DW X e t) : DT X e t := let ⟨te, h1, h2⟩ := h; ⟨te, h1.pt, h2⟩

def dVar (i : Nat) : DTE := fun ρ Q => ∃ d, ρ[i]? = some (.some d) ∧ Q d
def dC (d : Dt) : DTE := fun _ Q => Q d
section
variable {X : Cx} {a b c : Expr} {ta tb tc : DTE} {pos : Pos}
theorem dv (i : Nat) {x : Str} {pos : Pos} (hN : X.N[i]? = some x := by rfl) (hv : Vis X.env.scope x := by first | exact Or.inl rfl | exact Or.inr (Or.inl rfl) | exact Or.inr (Or.inr rfl)) (hd : (x == ("__debug__" : Str)) = false := by decide)
    (hcd : (x == ("__classdict__" : Str)) = false := by decide) : DE X (.Name x pos) (dVar i) :=
  ⟨tVar i, pe_var hN hv hd hcd, fun ρ σ H Q r h R k => by
    obtain ⟨d, e, q⟩ := h
    obtain ⟨v, h1, h2⟩ := r.at_ i d e
    exact ⟨v, h1, k d v H (Le.refl H) h2 q⟩⟩
theorem lic {v : V} {d : Dt} (h : ∀ H : Vw, Is K H.g d v) : LiE K (tC v) (dC d) := fun ρ σ H Q r q R k => k d v H (Le.refl H) (h H) q
theorem de_int {i j pos} : DE X (.Constant (.int i) j pos) (dC (.int i)) := ⟨_, pe_int, lic fun _ => is_int.mpr rfl⟩
theorem de_bl {b j pos} : DE X (.Constant (.bool b) j pos) (dC (.bl b)) := ⟨_, pe_bl, lic fun _ => is_bl.mpr rfl⟩
/-! ### operations -/
def DOp (X : Cx) (f : Value → Value → Sem Value) (g : Dt → Dt → (Dt → Prop) → Prop) : Prop :=
  ∃ r, OpR X f r ∧ ∀ (H : Vw) (x y : V) (d e : Dt) (Q : Dt → Prop), Is X.K H.g d x → Is X.K H.g e y → g d e Q → ∀ R : VK, (∀ d v H', Le H H' → Is X.K H'.g d v → Q d → R v H'.h) → r x y H.h R
def dOp (g : Dt → Dt → (Dt → Prop) → Prop) (ta tb : DTE) : DTE := fun ρ Q => ta ρ fun d => tb ρ fun e => g d e Q
theorem liOp {te tf : TE} {r : R2} {g : Dt → Dt → (Dt → Prop) → Prop} (ha : LiE K te ta) (hb : LiE K tf tb)
    (hg : ∀ (H : Vw) (x y : V) (d e : Dt) (Q : Dt → Prop), Is K H.g d x → Is K H.g e y → g d e Q → ∀ R : VK, (∀ d v H', Le H H' → Is K H'.g d v → Q d → R v H'.h) → r x y H.h R) : LiE K (tOp r te tf) (dOp g ta tb) :=
  fun ρ σ H Q rl h R k => ha ρ σ H _ rl h _ fun d v H1 s1 i1 q1 => hb ρ σ H1 _ (rl.mono s1) q1 _ fun e u H2 s2 i2 q2 =>
    hg H2 v u d e Q (i1.mono s2) i2 q2 R fun d' v' H3 s3 i3 q3 => k d' v' H3 ((s1.trans s2).trans s3) i3 q3
theorem de_op {op : Operator} {g : Dt → Dt → (Dt → Prop) → Prop} (ho : DOp X (binaryOp op) g) (ha : DE X a ta) (hb : DE X b tb) : DE X (.BinOp a op b pos) (dOp g ta tb) := by
  obtain ⟨r, h1, h2⟩ := ho
  obtain ⟨te, p1, l1⟩ := ha
  obtain ⟨tf, p2, l2⟩ := hb
  exact ⟨_, pe_op h1 p1 p2, liOp l1 l2 h2⟩
theorem de_cmp {op : CmpOp} {g : Dt → Dt → (Dt → Prop) → Prop} (ho : DOp X (compareOp op) g) (ha : DE X a ta) (hb : DE X b tb) (hm : behindInMarks op b = false) : DE X (.Compare a [op] [b] pos) (dOp g ta tb) := by
  obtain ⟨r, h1, h2⟩ := ho
  obtain ⟨te, p1, l1⟩ := ha
  obtain ⟨tf, p2, l2⟩ := hb
  exact ⟨_, pe_cmpR h1 p1 p2 hm, liOp l1 l2 h2⟩
def dTest (t : DTE) : DTT := fun ρ Q => t ρ fun d => ∃ k, d = .bl k ∧ Q k
theorem liTest {te : TE} {t : DTE} (h : LiE K te t) : LiT K (tTest te) (dTest t) := fun ρ σ H Q r q R k =>
  h ρ σ H _ r q _ fun d v H1 s1 i1 ⟨b, e, qb⟩ => by
    subst e
    exact ⟨b, is_bl.mp i1, k b H1 s1 qb⟩
theorem dt_cmp {op : CmpOp} {g : Dt → Dt → (Dt → Prop) → Prop} (ho : DOp X (compareOp op) g) (ha : DE X a ta) (hb : DE X b tb) (hm : behindInMarks op b = false) : DT X (.Compare a [op] [b] pos) (dTest (dOp g ta tb)) := by
  obtain ⟨r, h1, h2⟩ := ho
  obtain ⟨te, p1, l1⟩ := ha
  obtain ⟨tf, p2, l2⟩ := hb
  exact ⟨_, pt_cmpR h1 p1 p2 hm, liTest (liOp l1 l2 h2)⟩
theorem dt_val {e : Expr} {t : DTE} (h : DE X e t) (he : ∀ whole, isTrue e X.env whole = (do let v ← whole; standAt e.pos; holding [v] (truthy v)) := by intro _; rfl) : DT X e (dTest t) := by
  obtain ⟨te, p, l⟩ := h
  exact ⟨_, pt_val p he, liTest l⟩
/-- a op b op' c -/
def dChain (g g' : Dt → Dt → (Dt → Prop) → Prop) (ta tb tc : DTE) : DTE := fun ρ Q => ta ρ fun d => tb ρ fun e => g d e fun z => ∃ k, z = .bl k ∧ (if k = true then tc ρ fun w => g' e w Q else Q (.bl false))
theorem liChain {te tf tg : TE} {r r' : R2} {g g' : Dt → Dt → (Dt → Prop) → Prop} (ha : LiE K te ta) (hb : LiE K tf tb) (hc : LiE K tg tc)
    (hg : ∀ (H : Vw) (x y : V) (d e : Dt) (Q : Dt → Prop), Is K H.g d x → Is K H.g e y → g d e Q → ∀ R : VK, (∀ d v H', Le H H' → Is K H'.g d v → Q d → R v H'.h) → r x y H.h R)
    (hg' : ∀ (H : Vw) (x y : V) (d e : Dt) (Q : Dt → Prop), Is K H.g d x → Is K H.g e y → g' d e Q → ∀ R : VK, (∀ d v H', Le H H' → Is K H'.g d v → Q d → R v H'.h) → r' x y H.h R) : LiE K (tChain r r' te tf tg) (dChain g g' ta tb tc) :=
  fun ρ σ H Q rl h R k => ha ρ σ H _ rl h _ fun d v H1 s1 i1 q1 => hb ρ σ H1 _ (rl.mono s1) q1 _ fun e u H2 s2 i2 q2 =>
    hg H2 v u d e _ (i1.mono s2) i2 q2 _ fun d' v' H3 s3 i3 ⟨z, ez, q3⟩ => by
      subst ez
      refine ⟨z, is_bl.mp i3, ?_⟩
      cases z with
      | false => exact k _ _ H3 ((s1.trans s2).trans s3) (is_bl.mpr rfl) q3
      | true => exact hc ρ σ H3 _ (rl.mono ((s1.trans s2).trans s3)) q3 _ fun w x H4 s4 i4 q4 => hg' H4 u x e w Q (i2.mono (s3.trans s4)) i4 q4 R fun d5 v5 H5 s5 i5 q5 => k d5 v5 H5 (((s1.trans s2).trans (s3.trans s4)).trans s5) i5 q5
theorem dt_chain {op op' : CmpOp} {g g' : Dt → Dt → (Dt → Prop) → Prop} (ho : DOp X (compareOp op) g) (ho' : DOp X (compareOp op') g') (ha : DE X a ta) (hb : DE X b tb) (hc : DE X c tc)
    (hm : lastMarks [op, op'] [b, c] = false := by with_unfolding_all rfl) : DT X (.Compare a [op, op'] [b, c] pos) (dTest (dChain g g' ta tb tc)) := by
  obtain ⟨r, h1, h2⟩ := ho
  obtain ⟨r', h3, h4⟩ := ho'
  obtain ⟨te, p1, l1⟩ := ha
  obtain ⟨tf, p2, l2⟩ := hb
  obtain ⟨tg, p3, l3⟩ := hc
  exact ⟨_, pt_chain h1 h3 p1 p2 p3 hm, liTest (liChain l1 l2 l3 h2 h4)⟩

/-! ### and, or, not -/
variable {tA tB : DTT} {rest : List Expr}
def dAnd (t u : DTT) : DTT := fun ρ Q => t ρ fun c => if c = true then u ρ Q else Q false
def dOr (t u : DTT) : DTT := fun ρ Q => t ρ fun c => if c = true then Q true else u ρ Q
def dNot (t : DTT) : DTT := fun ρ Q => t ρ fun c => Q (!c)
theorem dw_and1 (ha : DT X a tA) : DW X (.BoolOp .And [a] pos) tA := let ⟨_, p, l⟩ := ha; ⟨_, pw_and1 p, l⟩
theorem dw_or1 (ha : DT X a tA) : DW X (.BoolOp .Or [a] pos) tA := let ⟨_, p, l⟩ := ha; ⟨_, pw_or1 p, l⟩
theorem dw_and (ha : DT X a tA) (hb : DW X (.BoolOp .And (b :: rest) pos) tB) : DW X (.BoolOp .And (a :: b :: rest) pos) (dAnd tA tB) := by
  obtain ⟨te, p1, l1⟩ := ha
  obtain ⟨tf, p2, l2⟩ := hb
  refine ⟨_, pw_and p1 p2, fun ρ σ H Q r h R k => l1 ρ σ H _ r h _ fun c H1 s1 q1 => ?_⟩
  cases c with
  | true => exact l2 ρ σ H1 Q (r.mono s1) q1 R fun d H2 s2 q2 => k d H2 (s1.trans s2) q2
  | false => exact k _ H1 s1 q1
theorem dw_or (ha : DT X a tA) (hb : DW X (.BoolOp .Or (b :: rest) pos) tB) : DW X (.BoolOp .Or (a :: b :: rest) pos) (dOr tA tB) := by
  obtain ⟨te, p1, l1⟩ := ha
  obtain ⟨tf, p2, l2⟩ := hb
  refine ⟨_, pw_or p1 p2, fun ρ σ H Q r h R k => l1 ρ σ H _ r h _ fun c H1 s1 q1 => ?_⟩
  cases c with
  | false => exact l2 ρ σ H1 Q (r.mono s1) q1 R fun d H2 s2 q2 => k d H2 (s1.trans s2) q2
  | true => exact k _ H1 s1 q1
theorem dt_not (ha : DT X a tA) : DT X (.UnaryOp .Not a pos) (dNot tA) := by
  obtain ⟨te, p1, l1⟩ := ha
  exact ⟨_, pt_not p1, fun ρ σ H Q r h R k => l1 ρ σ H _ r h _ fun c H1 s1 q1 => k _ H1 s1 q1⟩
def dAndV (ta tb : DTE) : DTE := fun ρ Q => ta ρ fun d => ∃ c, d = .bl c ∧ if c = true then tb ρ Q else Q (.bl false)
def dOrV (ta tb : DTE) : DTE := fun ρ Q => ta ρ fun d => ∃ c, d = .bl c ∧ if c = true then Q (.bl true) else tb ρ Q
def dNotV (ta : DTE) : DTE := fun ρ Q => ta ρ fun d => ∃ c, d = .bl c ∧ Q (.bl (!c))
theorem de_one {op} {t : DTE} (h : DE X a t) : DE X (.BoolOp op [a] pos) t := let ⟨_, p, l⟩ := h; ⟨_, pe_one p, l⟩
theorem de_and (ha : DE X a ta) (hb : DE X (.BoolOp .And (b :: rest) pos) tb) : DE X (.BoolOp .And (a :: b :: rest) pos) (dAndV ta tb) := by
  obtain ⟨te, p1, l1⟩ := ha
  obtain ⟨tf, p2, l2⟩ := hb
  refine ⟨_, pe_and p1 p2, fun ρ σ H Q r h R k => l1 ρ σ H _ r h _ fun d v H1 s1 i1 ⟨c, e, q1⟩ => ?_⟩
  subst e
  refine ⟨c, is_bl.mp i1, ?_⟩
  cases c with
  | true => exact l2 ρ σ H1 Q (r.mono s1) q1 R fun d v H2 s2 i2 q2 => k d v H2 (s1.trans s2) i2 q2
  | false => exact k _ _ H1 s1 (is_bl.mpr rfl) q1
theorem de_or (ha : DE X a ta) (hb : DE X (.BoolOp .Or (b :: rest) pos) tb) : DE X (.BoolOp .Or (a :: b :: rest) pos) (dOrV ta tb) := by
  obtain ⟨te, p1, l1⟩ := ha
  obtain ⟨tf, p2, l2⟩ := hb
  refine ⟨_, pe_or p1 p2, fun ρ σ H Q r h R k => l1 ρ σ H _ r h _ fun d v H1 s1 i1 ⟨c, e, q1⟩ => ?_⟩
  subst e
  refine ⟨c, is_bl.mp i1, ?_⟩
  cases c with
  | false => exact l2 ρ σ H1 Q (r.mono s1) q1 R fun d v H2 s2 i2 q2 => k d v H2 (s1.trans s2) i2 q2
  | true => exact k _ _ H1 s1 (is_bl.mpr rfl) q1
theorem de_not (ha : DE X a ta) : DE X (.UnaryOp .Not a pos) (dNotV ta) := by
  obtain ⟨te, p1, l1⟩ := ha
  refine ⟨_, pe_not p1, fun ρ σ H Q r h R k => l1 ρ σ H _ r h _ fun d v H1 s1 i1 ⟨c, e, q1⟩ => ?_⟩
  subst e
  exact ⟨c, is_bl.mp i1, k _ _ H1 s1 (is_bl.mpr rfl) q1⟩
end

/-! ### ints -/
section
variable {X : Cx} {a b c : Expr} {ta tb tc : DTE} {pos : Pos}
def gI (g : Int → Int → Dt) : Dt → Dt → (Dt → Prop) → Prop := fun d e Q => ∃ i j, d = .int i ∧ e = .int j ∧ Q (g i j)
def gIC (C : Int → Int → Prop) (g : Int → Int → Dt) : Dt → Dt → (Dt → Prop) → Prop := fun d e Q => ∃ i j, d = .int i ∧ e = .int j ∧ C i j ∧ Q (g i j)
theorem dop_I0 {f : Value → Value → Sem Value} {g : Int → Int → Int} (h : OpR X f (rI0 fun i j => .int (g i j))) : DOp X f (gI fun i j => .int (g i j)) := by
  refine ⟨_, h, fun H x y d e Q i1 i2 q R k => ?_⟩
  obtain ⟨i, j, rfl, rfl, q⟩ := q
  exact ⟨i, j, is_int.mp i1, is_int.mp i2, k _ _ H (Le.refl H) (is_int.mpr rfl) q⟩
theorem dop_B0 {f : Value → Value → Sem Value} {g : Int → Int → Bool} (h : OpR X f (rI0 fun i j => .bl (g i j))) : DOp X f (gI fun i j => .bl (g i j)) := by
  refine ⟨_, h, fun H x y d e Q i1 i2 q R k => ?_⟩
  obtain ⟨i, j, rfl, rfl, q⟩ := q
  exact ⟨i, j, is_int.mp i1, is_int.mp i2, k _ _ H (Le.refl H) (is_bl.mpr rfl) q⟩
theorem dop_IC {f : Value → Value → Sem Value} {C : Int → Int → Prop} {g : Int → Int → Int} (h : OpR X f (rI C fun i j => .int (g i j))) : DOp X f (gIC C fun i j => .int (g i j)) := by
  refine ⟨_, h, fun H x y d e Q i1 i2 q R k => ?_⟩
  obtain ⟨i, j, rfl, rfl, hc, q⟩ := q
  exact ⟨i, j, is_int.mp i1, is_int.mp i2, hc, k _ _ H (Le.refl H) (is_int.mpr rfl) q⟩
theorem op_mulB : OpR X (binaryOp .Mult) (rI IntMulOk fun i j => .int (i * j)) := opI fun _ _ _ _ _ _ _ hc q => mul_int q hc
theorem o_add : DOp X (binaryOp .Add) (gI fun i j => .int (i + j)) := dop_I0 op_add
theorem o_sub : DOp X (binaryOp .Sub) (gI fun i j => .int (i - j)) := dop_I0 op_sub
theorem o_mul : DOp X (binaryOp .Mult) (gIC IntMulOk fun i j => .int (i * j)) := dop_IC op_mulB
theorem o_fdiv : DOp X (binaryOp .FloorDiv) (gIC CDivN fun i j => .int (i.fdiv j)) := dop_IC op_fdivN
def CModN (_ j : Int) : Prop := j ≠ 0
theorem o_mod : DOp X (binaryOp .Mod) (gIC CModN fun i j => .int (i.fmod j)) := dop_IC (C := CModN) op_modN
theorem cdivN {c n : Int} (h : (n != 0 && decide (n.natAbs < 1073741824)) = true) : CDivN c n := by
  rw [Bool.and_eq_true, bne_iff_ne, decide_eq_true_iff] at h
  exact h
theorem cmodN {c n : Int} (h : (n != 0) = true) : CModN c n := bne_iff_ne.mp h
theorem cpowN {c n : Int} (h : (decide (0 ≤ n) && (decide (n ≤ 1000000) && decide (c.natAbs < 18446744073709551616))) = true) : CPow c n := by
  rw [Bool.and_eq_true, Bool.and_eq_true, decide_eq_true_iff, decide_eq_true_iff, decide_eq_true_iff] at h
  exact h
theorem mulR {c n : Int} (h : decide (n.natAbs < 9223372036854775808) = true) : IntMulOk c n := by
  rw [decide_eq_true_iff] at h
  exact .of_right (intBits_le_64 (by omega) (by omega))
theorem mulL {c n : Int} (h : decide (n.natAbs < 9223372036854775808) = true) : IntMulOk n c := by
  rw [decide_eq_true_iff] at h
  exact .of_left (intBits_le_64 (by omega) (by omega))
theorem o_pow : DOp X (binaryOp .Pow) (gIC CPow fun i j => .int (i ^ j.toNat)) := dop_IC op_pow
theorem o_lt : DOp X (compareOp .Lt) (gI fun i j => .bl (decide (i < j))) := dop_B0 op_lt
theorem o_le : DOp X (compareOp .LtE) (gI fun i j => .bl (decide (i ≤ j))) := dop_B0 op_le
theorem o_gt : DOp X (compareOp .Gt) (gI fun i j => .bl (decide (j < i))) := dop_B0 op_gt
theorem o_ge : DOp X (compareOp .GtE) (gI fun i j => .bl (decide (j ≤ i))) := dop_B0 op_ge
def dNeg (ta : DTE) : DTE := fun ρ Q => ta ρ fun d => ∃ i, d = .int i ∧ Q (.int (-i))
theorem de_neg (ha : DE X a ta) : DE X (.UnaryOp .USub a pos) (dNeg ta) := by
  obtain ⟨te, p1, l1⟩ := ha
  refine ⟨_, pe_un un_neg p1, fun ρ σ H Q r h R k => l1 ρ σ H _ r h _ fun d v H1 s1 i1 ⟨i, e, q1⟩ => ?_⟩
  subst e
  exact ⟨i, is_int.mp i1, k _ _ H1 s1 (is_int.mpr rfl) q1⟩
/-- lists put together -/
theorem o_cat : DOp X (binaryOp .Add) (fun d e Q => ∃ ds es, d = .lst ds ∧ e = .lst es ∧ ds.length + es.length ≤ 100000 ∧ Q (.lst (ds ++ es))) := by
  refine ⟨_, op_cat, fun H x y d e Q i1 i2 q R k => ?_⟩
  obtain ⟨ds, es, rfl, rfl, hl, q⟩ := q
  obtain ⟨l, xs, rfl, h1, a1⟩ := is_lst.mp i1
  obtain ⟨m, ys, rfl, h2, a2⟩ := is_lst.mp i2
  refine ⟨l, m, xs, ys, rfl, rfl, H.sub _ _ h1, H.sub _ _ h2, by rw [← a1.length, ← a2.length]; exact Nat.le_trans hl (by decide), fun p hp => ?_⟩
  have s := le_new hp (.lst (xs ++ ys))
  exact k _ _ _ s (is_lst.mpr ⟨p, _, rfl, upd_same, (a1.mono s).append (a2.mono s)⟩) q

/-! ### argument lists, displays -/
def dNil : DTA := fun _ Q => Q []
def dCons (te : DTE) (t : DTA) : DTA := fun ρ Q => te ρ fun d => t ρ fun ds => Q (d :: ds)
variable {es : List Expr} {t : DTA}
theorem da_nil : DA X [] dNil := ⟨_, pa_nil, fun ρ σ H Q r h R k => k [] [] H (Le.refl H) (allIs_nil.mpr rfl) h⟩
theorem da_cons (ha : DE X a ta) (hr : DA X es t) (hs : starEach (a :: es) X.env = (false, eval a X.env) :: starEach es X.env := by rfl) : DA X (a :: es) (dCons ta t) := by
  obtain ⟨te, p1, l1⟩ := ha
  obtain ⟨tf, p2, l2⟩ := hr
  exact ⟨_, pa_cons p1 p2 hs, fun ρ σ H Q r h R k => l1 ρ σ H _ r h _ fun d v H1 s1 i1 q1 => l2 ρ σ H1 _ (r.mono s1) q1 _ fun ds vs H2 s2 i2 q2 =>
    k (d :: ds) (v :: vs) H2 (s1.trans s2) (allIs_cons.mpr ⟨v, vs, rfl, i1.mono s2, i2⟩) q2⟩
def dTup (t : DTA) : DTE := fun ρ Q => t ρ fun ds => Nat.ble ds.length 1000 = true ∧ Q (.tup ds)
def dLst (t : DTA) : DTE := fun ρ Q => t ρ fun ds => Nat.ble ds.length 1000 = true ∧ Q (.lst ds)
theorem de_tup {x1} (h : DA X es t) : DE X (.Tuple es x1 pos) (dTup t) := by
  obtain ⟨te, p1, l1⟩ := h
  refine ⟨_, pe_tup p1, fun ρ σ H Q r h R k => l1 ρ σ H _ r h _ fun ds vs H1 s1 i1 ⟨hl, q1⟩ => ⟨?_, fun p hp => ?_⟩⟩
  · rw [← i1.length]; exact Nat.le_trans (Nat.le_of_ble_eq_true hl) (by decide)
  · have s := le_new hp (.tup vs)
    exact k _ _ _ (s1.trans s) (is_tup.mpr ⟨p, vs, rfl, upd_same, i1.mono s⟩) q1
theorem de_lst (h : DA X es t) : DE X (.List es pos) (dLst t) := by
  obtain ⟨te, p1, l1⟩ := h
  refine ⟨_, pe_lst p1, fun ρ σ H Q r h R k => l1 ρ σ H _ r h _ fun ds vs H1 s1 i1 ⟨hl, q1⟩ => ⟨?_, fun p hp => ?_⟩⟩
  · rw [← i1.length]; exact Nat.le_trans (Nat.le_of_ble_eq_true hl) (by decide)
  · have s := le_new hp (.lst vs)
    exact k _ _ _ (s1.trans s) (is_lst.mpr ⟨p, vs, rfl, upd_same, i1.mono s⟩) q1

/-! ### sequences -/
def seqOf : Dt → Option (List Dt)
  | .tup ds => some ds
  | .lst ds => some ds
  | .scr ns => some (ns.map .int)
  | _ => none
theorem seq_is {H : Vw} {d : Dt} {v : V} {ds : List Dt} (h : Is K H.g d v) (e : seqOf d = some ds) : ∃ a xs, v = .ref a ∧ (SqL K H.h a xs ∨ SqT K H.h a xs) ∧ AllIs K H.g ds xs := by
  cases d with
  | tup es =>
    obtain rfl : es = ds := Option.some.inj e
    obtain ⟨a, xs, rfl, h1, h2⟩ := is_tup.mp h
    exact ⟨a, xs, rfl, .inr (.of (H.sub _ _ h1)), h2⟩
  | lst es =>
    obtain rfl : es = ds := Option.some.inj e
    obtain ⟨a, xs, rfl, h1, h2⟩ := is_lst.mp h
    exact ⟨a, xs, rfl, .inl (.of (H.sub _ _ h1)), h2⟩
  | scr ns =>
    obtain rfl : ns.map Dt.int = ds := Option.some.inj e
    obtain ⟨a, rfl, h1⟩ := is_scr.mp h
    exact ⟨a, _, rfl, .inl (H.sub.seq h1), AllIs.ints⟩
  | _ => cases e
def dIx (ta tb : DTE) : DTE := fun ρ Q => ta ρ fun d => tb ρ fun e => ∃ ds i d', seqOf d = some ds ∧ e = .int i ∧ atI ds i = some d' ∧ Q d'
theorem de_ix (ha : DE X a ta) (hb : DE X b tb) (hs : PlainIx b) : DE X (.Subscript a b pos) (dIx ta tb) := by
  obtain ⟨te, p1, l1⟩ := ha
  obtain ⟨tf, p2, l2⟩ := hb
  refine ⟨_, pe_ix ix_seq p1 p2 hs, fun ρ σ H Q r h R k => l1 ρ σ H _ r h _ fun d v H1 s1 i1 q1 => l2 ρ σ H1 _ (r.mono s1) q1 _ fun e u H2 s2 i2 q2 => ?_⟩
  obtain ⟨ds, i, d', e1, e2, e3, q⟩ := q2
  subst e2
  obtain ⟨p, xs, e4, h1, h2⟩ := seq_is (i1.mono s2) e1
  obtain ⟨w, e5, h3⟩ := h2.atI e3
  rcases h1 with h1 | h1
  · exact .inl ⟨p, xs, i, w, e4, is_int.mp i2, h1, e5, k d' w H2 (s1.trans s2) h3 q⟩
  · exact .inr (.inl ⟨p, xs, i, w, e4, is_int.mp i2, h1, e5, k d' w H2 (s1.trans s2) h3 q⟩)
def dLen (t : DTE) : DTE := fun ρ Q => t ρ fun d => ∃ ds, seqOf d = some ds ∧ Q (.int ds.length)
theorem de_len {p : Pos} (hg : Gl X "len") (hm : X.mg "len" = none) (ha : DE X a ta) (hs : starEach [a] X.env = (false, eval a X.env) :: starEach [] X.env := by rfl) (hpl : (backTo pos (starEach [] X.env)).any (·.1) = false := by rfl) :
    DE X (.Call (.Name "len" p) [a] [] pos) (dLen ta) := by
  obtain ⟨te, p1, l1⟩ := ha
  refine ⟨_, pe_callB call_len_seq hg hm PySem.boot_len (pa_cons p1 pa_nil hs) (by decide) (by decide) hs hpl, fun ρ σ H Q r h R k => l1 ρ σ H _ r h _ fun d v H1 s1 i1 ⟨ds, e, q⟩ => ?_⟩
  obtain ⟨a, xs, rfl, h1, h2⟩ := seq_is i1 e
  exact ⟨a, xs, rfl, h1, by rw [← h2.length]; exact k _ _ H1 s1 (is_int.mpr rfl) q⟩
/-- the items of xs[lo:hi] -/
def cutD (xs : List Dt) (lo hi : Option Int) : List Dt := (xs.drop (HT.sIx xs.length 0 lo)).take (HT.sIx xs.length xs.length hi - HT.sIx xs.length 0 lo)
theorem AllIs.cut {G : Hp} {ds : List Dt} {xs : List V} (h : AllIs K G ds xs) (lo hi : Option Int) : AllIs K G (cutD ds lo hi) (cutV xs lo hi) := by
  unfold cutD cutV
  rw [← h.length]
  exact (h.drop _).take _
abbrev DTO := DS → (Option Int → Prop) → Prop
def DO (X : Cx) (e : Option Expr) (t : DTO) : Prop := ∃ te, PO X e te ∧ ∀ {F : Addr → Prop} (ρ : DS) (σ : St) (H : Vw) (Q : Option Int → Prop), Rl X.K F H ρ σ → t ρ Q → ∀ R : Option Int → Hp → Prop, (∀ o H', Le H H' → Q o → R o H'.h) → te σ H.h R
def dNoPart : DTO := fun _ Q => Q none
def dPart (t : DTE) : DTO := fun ρ Q => t ρ fun d => ∃ i, d = .int i ∧ Q (some i)
theorem do_none : DO X none dNoPart := ⟨_, po_none, fun ρ σ H Q r h R k => k none H (Le.refl H) h⟩
theorem do_some (ha : DE X a ta) : DO X (some a) (dPart ta) := by
  obtain ⟨te, p1, l1⟩ := ha
  refine ⟨_, po_some p1, fun ρ σ H Q r h R k => l1 ρ σ H _ r h _ fun d v H1 s1 i1 ⟨i, e, q⟩ => ?_⟩
  subst e
  exact ⟨i, is_int.mp i1, k _ H1 s1 q⟩
def listOf : Dt → Option (List Dt)
  | .lst ds => some ds
  | .scr ns => some (ns.map .int)
  | _ => none
theorem list_is {H : Vw} {d : Dt} {v : V} {ds : List Dt} (h : Is K H.g d v) (e : listOf d = some ds) : ∃ a xs, v = .ref a ∧ SqL K H.h a xs ∧ AllIs K H.g ds xs := by
  cases d with
  | lst es =>
    obtain rfl : es = ds := Option.some.inj e
    obtain ⟨a, xs, rfl, h1, h2⟩ := is_lst.mp h
    exact ⟨a, xs, rfl, .of (H.sub _ _ h1), h2⟩
  | scr ns =>
    obtain rfl : ns.map Dt.int = ds := Option.some.inj e
    obtain ⟨a, rfl, h1⟩ := is_scr.mp h
    exact ⟨a, _, rfl, H.sub.seq h1, AllIs.ints⟩
  | _ => cases e
def dSl (te : DTE) (tl th : DTO) : DTE := fun ρ Q => te ρ fun d => tl ρ fun l => th ρ fun u => ∃ ds, listOf d = some ds ∧ Q (.lst (cutD ds l u))
theorem de_slice {lo hi : Option Expr} {tl th : DTO} {p2 : Pos} (ha : DE X a ta) (hl : DO X lo tl) (hu : DO X hi th) : DE X (.Subscript a (.Slice lo hi none p2) pos) (dSl ta tl th) := by
  obtain ⟨te, p1, l1⟩ := ha
  obtain ⟨tf, p2, l2⟩ := hl
  obtain ⟨tg, p3, l3⟩ := hu
  refine ⟨_, pe_slice sl_list p1 p2 p3, fun ρ σ H Q r h R k => l1 ρ σ H _ r h _ fun d v H1 s1 i1 q1 => l2 ρ σ H1 _ (r.mono s1) q1 _ fun l H2 s2 q2 => l3 ρ σ H2 _ (r.mono (s1.trans s2)) q2 _ fun u H3 s3 ⟨ds, e, q⟩ => ?_⟩
  obtain ⟨a, xs, rfl, h1, h2⟩ := list_is (i1.mono (s2.trans s3)) e
  refine ⟨a, xs, rfl, h1, fun p hp => ?_⟩
  have s := le_new hp (.lst (cutV xs l u))
  exact k _ _ _ (((s1.trans s2).trans s3).trans s) (is_lst.mpr ⟨p, _, rfl, upd_same, (h2.cut l u).mono s⟩) q
end

/-! ### new lists, of one's own -/
def LiF (K : PySem.W.Frag) (te : TE) (t : DTE) : Prop :=
  ∀ {F : Addr → Prop} (ρ : DS) (σ : St) (H : Vw) (Q : Dt → Prop), Rl K F H ρ σ → t ρ Q → ∀ R : VK,
    (∀ es p xs H', Le H H' → H.h p = none → H'.h p = some (.lst xs) → H'.g p = none → AllIs K H'.g es xs → Q (.lst es) → R (.ref p) H'.h) → te σ H.h R
def DF (X : Cx) (e : Expr) (t : DTE) : Prop := ∃ te, PE X e te ∧ LiF X.K te t
theorem le_frz {H H' : Vw} {p : Addr} {o : HO} (s : Le H H') (h0 : H.h p = none) (h1 : H'.h p = some o) (h2 : H'.g p = none) : Le H (H'.frz p o h1) :=
  ⟨s.g.trans (same_new h2 o), s.h, fun a z1 z2 => by
    have : a ≠ p := fun e => z1 (e ▸ h0)
    show upd H'.g p o a = none
    rw [upd_ne this]; exact s.n a z1 z2⟩
section
variable {X : Cx} {a b c e : Expr} {ta tb tc : DTE} {t : DTA} {pos p0 p1 p2 : Pos} {es : List Expr}
theorem DF.de {t : DTE} (h : DF X e t) : DE X e t := by
  obtain ⟨te, p, l⟩ := h
  exact ⟨te, p, fun ρ σ H Q r h R k => l ρ σ H Q r h R fun es q xs H' s h0 h1 h2 i z => k (.lst es) (.ref q) (H'.frz q _ h1) (le_frz s h0 h1 h2) (is_lst.mpr ⟨q, xs, rfl, upd_same, AllIs.mono0 (same_new h2 _) i⟩) z⟩
theorem df_lst (h : DA X es t) : DF X (.List es pos) (dLst t) := by
  obtain ⟨te, p1, l1⟩ := h
  refine ⟨_, pe_lst p1, fun ρ σ H Q r h R k => l1 ρ σ H _ r h _ fun ds vs H1 s1 i1 ⟨hl, q1⟩ => ⟨?_, fun p hp => ?_⟩⟩
  · rw [← i1.length]; exact Nat.le_trans (Nat.le_of_ble_eq_true hl) (by decide)
  · exact k ds p vs (H1.mine p (.lst vs) (H1.sub.free hp)) (s1.trans (le_mine hp _)) (s1.h.free hp) upd_same (H1.sub.free hp) i1 q1
def gCat : Dt → Dt → (Dt → Prop) → Prop := fun d e Q => ∃ ds es, d = .lst ds ∧ e = .lst es ∧ ds.length + es.length ≤ 100000 ∧ Q (.lst (ds ++ es))
theorem df_cat (ha : DE X a ta) (hb : DE X b tb) : DF X (.BinOp a .Add b pos) (dOp gCat ta tb) := by
  obtain ⟨te, p1, l1⟩ := ha
  obtain ⟨tf, p2, l2⟩ := hb
  refine ⟨_, pe_op op_cat p1 p2, fun ρ σ H Q r h R k => l1 ρ σ H _ r h _ fun d v H1 s1 i1 q1 => l2 ρ σ H1 _ (r.mono s1) q1 _ fun e u H2 s2 i2 q2 => ?_⟩
  obtain ⟨ds, es, rfl, rfl, hl, q⟩ := q2
  obtain ⟨l, xs, rfl, h1, a1⟩ := is_lst.mp (i1.mono s2)
  obtain ⟨m, ys, rfl, h2, a2⟩ := is_lst.mp i2
  refine ⟨l, m, xs, ys, rfl, rfl, H2.sub _ _ h1, H2.sub _ _ h2, by rw [← a1.length, ← a2.length]; exact Nat.le_trans hl (by decide), fun p hp => ?_⟩
  exact k (ds ++ es) p (xs ++ ys) (H2.mine p _ (H2.sub.free hp)) ((s1.trans s2).trans (le_mine hp _)) ((s1.trans s2).h.free hp) upd_same (H2.sub.free hp) (a1.append a2) q
def dList (ta : DTE) : DTE := fun ρ Q => ta ρ fun d => ∃ ds, seqOf d = some ds ∧ Q (.lst ds)
theorem df_list (hg : Gl X "list") (hm : X.mg "list" = none) (ha : DE X a ta) (hs : starEach [a] X.env = (false, eval a X.env) :: starEach [] X.env := by rfl) (hpl : (backTo pos (starEach [] X.env)).any (·.1) = false := by rfl) :
    DF X (.Call (.Name "list" p0) [a] [] pos) (dList ta) := by
  obtain ⟨te, p1, l1⟩ := ha
  refine ⟨_, pe_callTy call_list_of hg hm PyProof.Rows.boot_list (pa_cons p1 pa_nil hs) (by decide) (by decide) hs hpl, fun ρ σ H Q r h R k => l1 ρ σ H _ r h _ fun d v H1 s1 i1 ⟨ds, e, q⟩ => ?_⟩
  obtain ⟨a, xs, rfl, h1, h2⟩ := seq_is i1 e
  exact ⟨a, xs, rfl, h1, fun p hp => k _ p _ (H1.mine p _ (H1.sub.free hp)) (s1.trans (le_mine hp _)) (s1.h.free hp) upd_same (H1.sub.free hp) h2 q⟩

/-! ### one's own list, read -/
variable {i : Nat} {x : Str}
def dLenO (i : Nat) : DTE := fun ρ Q => ∃ ds, ρ[i]? = some (.own ds) ∧ Q (.int ds.length)
theorem de_lenO (i : Nat) (hg : Gl X "len") (hm : X.mg "len" = none) (hN : X.N[i]? = some x := by rfl) (hv : Vis X.env.scope x := by first | exact Or.inl rfl | exact Or.inr (Or.inl rfl) | exact Or.inr (Or.inr rfl)) (hd : (x == ("__debug__" : Str)) = false := by decide)
    (hcd : (x == ("__classdict__" : Str)) = false := by decide) (hs : starEach [.Name x p1] X.env = (false, eval (.Name x p1) X.env) :: starEach [] X.env := by rfl) (hpl : (backTo pos (starEach [] X.env)).any (·.1) = false := by rfl) :
    DE X (.Call (.Name "len" p0) [.Name x p1] [] pos) (dLenO i) := by
  refine ⟨_, pe_callB call_len_seq hg hm PySem.boot_len (pa_cons (pe_var hN hv hd hcd) pa_nil hs) (by decide) (by decide) hs hpl, fun ρ σ H Q r h R k => ?_⟩
  obtain ⟨ds, e, q⟩ := h
  obtain ⟨a, xs, e1, e2, e3, e4, e5⟩ := r.ow i ds e
  exact ⟨.ref a, e1, a, xs, rfl, .inl (.of e2), by rw [← e5.length]; exact k _ _ H (Le.refl H) (is_int.mpr rfl) q⟩
def dSlO (i : Nat) (tl th : DTO) : DTE := fun ρ Q => ∃ ds, ρ[i]? = some (.own ds) ∧ tl ρ fun l => th ρ fun u => Q (.lst (cutD ds l u))
theorem df_sliceO (i : Nat) {lo hi : Option Expr} {tl th : DTO} (hl : DO X lo tl) (hu : DO X hi th) (hN : X.N[i]? = some x := by rfl) (hv : Vis X.env.scope x := by first | exact Or.inl rfl | exact Or.inr (Or.inl rfl) | exact Or.inr (Or.inr rfl)) (hd : (x == ("__debug__" : Str)) = false := by decide)
    (hcd : (x == ("__classdict__" : Str)) = false := by decide) : DF X (.Subscript (.Name x p1) (.Slice lo hi none p2) pos) (dSlO i tl th) := by
  obtain ⟨tf, p2, l2⟩ := hl
  obtain ⟨tg, p3, l3⟩ := hu
  refine ⟨_, pe_slice sl_list (pe_var hN hv hd hcd) p2 p3, fun ρ σ H Q r h R k => ?_⟩
  obtain ⟨ds, e, h⟩ := h
  obtain ⟨a, xs, e1, e2, e3, e4, e5⟩ := r.ow i ds e
  refine ⟨.ref a, e1, l2 ρ σ H _ r h _ fun l H2 s2 q2 => l3 ρ σ H2 _ (r.mono s2) q2 _ fun u H3 s3 q => ?_⟩
  have s := s2.trans s3
  refine ⟨a, xs, rfl, .of (s.h _ _ e2), fun p hp => ?_⟩
  exact k _ p _ (H3.mine p _ (H3.sub.free hp)) (s.trans (le_mine hp _)) (s.h.free hp) upd_same (H3.sub.free hp) ((e5.mono s).cut l u) q
/-! ### one's own lists lent out for a test, or for what has no parts -/
open Classical in
end

/-! ### what a def promises, by data -/
abbrev DSp := List Dt → (Dt → Prop) → Prop
def PureSp (K : PySem.W.Frag) (S : DSp) : Sp := fun vs H Q _ => ∃ (W : Vw) (ds : List Dt) (Qd : Dt → Prop), W.h = H ∧ AllIs K W.g ds vs ∧ S ds Qd ∧ ∀ d v W', Le W W' → Is K W'.g d v → Qd d → Q v W'.h
/-- it tells a new list, the asker's own -/
def FreshSp (K : PySem.W.Frag) (S : DSp) : Sp := fun vs H Q _ => ∃ (W : Vw) (ds : List Dt) (Qd : Dt → Prop), W.h = H ∧ AllIs K W.g ds vs ∧ S ds Qd ∧
  ∀ es p xs W', Le W W' → W.h p = none → W'.h p = some (.lst xs) → W'.g p = none → AllIs K W'.g es xs → Qd (.lst es) → Q (.ref p) W'.h
/-- the def of the name x keeps S -/
structure DOk (P : Program) (w : World) (K : PySem.W.Frag) (mg : Str → Option Value) (base : Heap) (n : Nat) (x : Str) (S : DSp) : Prop where
  ex : ∃ f fd ps, mg x = some (.ref f) ∧ PySem.W.keepIn K (.ref f) = true ∧ Binds K fd ps [] ∧ FnOk P w K mg base CX0 n f fd ps (PureSp K S)
structure FOk (P : Program) (w : World) (K : PySem.W.Frag) (mg : Str → Option Value) (base : Heap) (n : Nat) (x : Str) (S : DSp) : Prop where
  ex : ∃ f fd ps, mg x = some (.ref f) ∧ PySem.W.keepIn K (.ref f) = true ∧ Binds K fd ps [] ∧ FnOk P w K mg base CX0 n f fd ps (FreshSp K S)
/-- the method m of the class at C keeps S (S takes the object, too) -/
structure MOk (P : Program) (w : World) (K : PySem.W.Frag) (mg : Str → Option Value) (base : Heap) (n : Nat) (C : Addr) (m : Str) (S : DSp) : Prop where
  cl : Cls K C
  ex : ∃ f fd ps, Meth K C m f ∧ Binds K fd ps [] ∧ FnOk P w K mg base CX0 n f fd ps (PureSp K S)
structure FMOk (P : Program) (w : World) (K : PySem.W.Frag) (mg : Str → Option Value) (base : Heap) (n : Nat) (C : Addr) (m : Str) (S : DSp) : Prop where
  cl : Cls K C
  ex : ∃ f fd ps, Meth K C m f ∧ Binds K fd ps [] ∧ FnOk P w K mg base CX0 n f fd ps (FreshSp K S)
section
variable {X : Cx} {a b c e o : Expr} {ta tb tc : DTE} {pos p apos : Pos} {es : List Expr} {t : DTA} {n : Nat} {x m : Str} {S : DSp}
def dCall (S : DSp) (t : DTA) : DTE := fun ρ Q => t ρ fun ds => S ds Q
theorem de_call (G : DOk X.prog X.w X.K X.mg X.base n x S) (hr : Room n X.A) (hg : Gl X x) (ha : DA X (e :: es) t) (hdb : (x == ("__debug__" : Str)) = false := by decide)
    (he : starEach (e :: es) X.env = (false, eval e X.env) :: starEach es X.env := by rfl) (hpl : (backTo pos (starEach es X.env)).any (·.1) = false := by rfl) : DE X (.Call (.Name x p) (e :: es) [] pos) (dCall S t) := by
  obtain ⟨f, fd, ps, hm, hk, hb, F⟩ := G.ex
  obtain ⟨te, p1, l1⟩ := ha
  refine ⟨_, pe_call F hr hg hm hk hb .nil pass0 p1 hdb he hpl, fun ρ σ H Q r h R k => l1 ρ σ H _ r h _ fun ds vs H1 s1 i1 q1 => ?_⟩
  rw [List.append_nil]
  exact ⟨H1, ds, Q, rfl, i1, q1, fun d v H2 s2 i2 q2 => k d v H2 (s1.trans s2) i2 q2⟩
/-- o.m(e, ..): the class is read off the heap -/
def tMethD (X : Cx) (n : Nat) (m : Str) (ta : TE) (t : TA) : TE := fun σ H Q => ta σ H fun x H1 => ∃ a dx fs C f fd ps sp, x = .ref a ∧ H1 a = some (.ins C dx fs) ∧ fs.lookup m = none ∧ Cls X.K C ∧ Meth X.K C m f ∧ Binds X.K fd ps [] ∧
  FnOk X.prog X.w X.K X.mg X.base CX0 n f fd ps sp ∧ t σ H1 fun vs H2 => sp (x :: vs) H2 Q E0
theorem pe_methD {pl : Sem Bool} {te : TE} {tt : TA} (he : PE X o te) (hr : Room n X.A) (ha : PA X (e :: es) tt)
    (hst : starEach (e :: es) X.env = (false, eval e X.env) :: starEach es X.env := by rfl) (hpl : (backTo pos (starEach es X.env)).any (·.1) = false := by rfl)
    (ht : eval (.Call (.Attribute o m apos) (e :: es) [] pos) X.env = (do
      let ov ← eval o X.env
      standAt apos.atName
      let (f, first) ← holding [ov] (getMethod ov m pl)
      callWith pos f first (backTo pos (starEach (e :: es) X.env)) (backToKw pos (keywordEach [] X.env))) := by rfl) :
    PE X (.Call (.Attribute o m apos) (e :: es) [] pos) (tMethD X n m te tt) := by
  intro pins s σ H Q I h
  refine PySem.W.methodCall_KW (pl := pl) (thn (he pins s σ H _ I h) fun u s1 ⟨x, H1, I1, rx, a, dx, fs, C, f, fd, ps, sp, ex, ea, l, c, hm, hb, F, q⟩ => ?_) ht
  subst ex
  obtain rfl : u = Value.ref a := rx
  refine getmeth_ok I1 ea c hm l ?_
  refine PySem.W.callWith_K (first := [.ref a]) (h₀ := X.base) I.ok.mod.kin hm.kp (thn (ha pos pins s1 σ H1 _ I1 q) fun us s2 ⟨vs, H2, I2, r, q2⟩ => ⟨I2.kIn, ?_⟩) hst hpl
  exact run_fn (us := .ref a :: us) (vs := .ref a :: vs) (dvs := []) (E := E0) F hr hb .nil pass0 I2 (.cons rfl r) (by rw [List.append_nil]; exact q2)
theorem pe_methD0 {pl : Sem Bool} {te : TE} (he : PE X o te) (hr : Room n X.A)
    (ht : eval (.Call (.Attribute o m apos) [] [] pos) X.env = (do
      let ov ← eval o X.env
      standAt apos.atName
      let (f, first) ← holding [ov] (getMethod ov m pl)
      callWith pos f first (backTo pos (starEach [] X.env)) (backToKw pos (keywordEach [] X.env))) := by rfl) :
    PE X (.Call (.Attribute o m apos) [] [] pos) (tMethD X n m te tNil) := by
  intro pins s σ H Q I h
  refine PySem.W.methodCall_KW (pl := pl) (thn (he pins s σ H _ I h) fun u s1 ⟨x, H1, I1, rx, a, dx, fs, C, f, fd, ps, sp, ex, ea, l, c, hm, hb, F, q⟩ => ?_) ht
  subst ex
  obtain rfl : u = Value.ref a := rx
  refine getmeth_ok I1 ea c hm l ?_
  exact PySem.W.callWith_K0 (first := [.ref a]) I1.kIn hm.kp (run_fn (us := [.ref a]) (vs := [.ref a]) (dvs := []) (E := E0) F hr hb .nil pass0 I1 (.cons rfl .nil) q)
def dMeth (X : Cx) (n : Nat) (m : Str) (ta : DTE) (t : DTA) : DTE := fun ρ Q => ta ρ fun d => ∃ C f k S, d = .way C f k ∧ (m == f) = false ∧ MOk X.prog X.w X.K X.mg X.base n C m S ∧ t ρ fun ds => S (d :: ds) Q
theorem de_meth {pl : Sem Bool} (hr : Room n X.A) (he : DE X o ta) (ha : DA X (e :: es) t)
    (hst : starEach (e :: es) X.env = (false, eval e X.env) :: starEach es X.env := by rfl) (hpl : (backTo pos (starEach es X.env)).any (·.1) = false := by rfl)
    (ht : eval (.Call (.Attribute o m apos) (e :: es) [] pos) X.env = (do
      let ov ← eval o X.env
      standAt apos.atName
      let (f, first) ← holding [ov] (getMethod ov m pl)
      callWith pos f first (backTo pos (starEach (e :: es) X.env)) (backToKw pos (keywordEach [] X.env))) := by rfl) :
    DE X (.Call (.Attribute o m apos) (e :: es) [] pos) (dMeth X n m ta t) := by
  obtain ⟨te, p0, l0⟩ := he
  obtain ⟨tt, p1, l1⟩ := ha
  refine ⟨_, pe_methD (pl := pl) p0 hr p1 hst hpl ht, fun ρ σ H Q r h R k => l0 ρ σ H _ r h _ fun d v H1 s1 i1 ⟨C, f, z, S, ed, hne, M, q1⟩ => ?_⟩
  subst ed
  obtain ⟨a, dx, rfl, ha⟩ := is_way.mp i1
  obtain ⟨g, fd, ps, hm, hb, F⟩ := M.ex
  refine ⟨a, dx, _, C, g, fd, ps, _, rfl, H1.sub _ _ ha, by simp [List.lookup, hne], M.cl, hm, hb, F, l1 ρ σ H1 _ (r.mono s1) q1 _ fun ds vs H2 s2 i2 q2 => ?_⟩
  exact ⟨H2, _, Q, rfl, allIs_cons.mpr ⟨_, _, rfl, i1.mono s2, i2⟩, q2, fun d v H3 s3 i3 q3 => k d v H3 ((s1.trans s2).trans s3) i3 q3⟩
def dMeth0 (X : Cx) (n : Nat) (m : Str) (ta : DTE) : DTE := fun ρ Q => ta ρ fun d => ∃ C f k S, d = .way C f k ∧ (m == f) = false ∧ MOk X.prog X.w X.K X.mg X.base n C m S ∧ S [d] Q
theorem de_meth0 {pl : Sem Bool} (hr : Room n X.A) (he : DE X o ta)
    (ht : eval (.Call (.Attribute o m apos) [] [] pos) X.env = (do
      let ov ← eval o X.env
      standAt apos.atName
      let (f, first) ← holding [ov] (getMethod ov m pl)
      callWith pos f first (backTo pos (starEach [] X.env)) (backToKw pos (keywordEach [] X.env))) := by rfl) :
    DE X (.Call (.Attribute o m apos) [] [] pos) (dMeth0 X n m ta) := by
  obtain ⟨te, p0, l0⟩ := he
  refine ⟨_, pe_methD0 (pl := pl) p0 hr ht, fun ρ σ H Q r h R k => l0 ρ σ H _ r h _ fun d v H1 s1 i1 ⟨C, f, z, S, ed, hne, M, q1⟩ => ?_⟩
  subst ed
  obtain ⟨a, dx, rfl, ha⟩ := is_way.mp i1
  obtain ⟨g, fd, ps, hm, hb, F⟩ := M.ex
  refine ⟨a, dx, _, C, g, fd, ps, _, rfl, H1.sub _ _ ha, by simp [List.lookup, hne], M.cl, hm, hb, F, ?_⟩
  exact ⟨H1, _, Q, rfl, allIs_cons.mpr ⟨_, _, rfl, i1, allIs_nil.mpr rfl⟩, q1, fun d v H3 s3 i3 q3 => k d v H3 (s1.trans s3) i3 q3⟩
/-- a method that tells a new list -/
def dMethF (X : Cx) (n : Nat) (m : Str) (ta : DTE) (t : DTA) : DTE := fun ρ Q => ta ρ fun d => ∃ C f k S, d = .way C f k ∧ (m == f) = false ∧ FMOk X.prog X.w X.K X.mg X.base n C m S ∧ t ρ fun ds => S (d :: ds) Q
theorem df_meth {pl : Sem Bool} (hr : Room n X.A) (he : DE X o ta) (ha : DA X (e :: es) t)
    (hst : starEach (e :: es) X.env = (false, eval e X.env) :: starEach es X.env := by rfl) (hpl : (backTo pos (starEach es X.env)).any (·.1) = false := by rfl)
    (ht : eval (.Call (.Attribute o m apos) (e :: es) [] pos) X.env = (do
      let ov ← eval o X.env
      standAt apos.atName
      let (f, first) ← holding [ov] (getMethod ov m pl)
      callWith pos f first (backTo pos (starEach (e :: es) X.env)) (backToKw pos (keywordEach [] X.env))) := by rfl) :
    DF X (.Call (.Attribute o m apos) (e :: es) [] pos) (dMethF X n m ta t) := by
  obtain ⟨te, p0, l0⟩ := he
  obtain ⟨tt, p1, l1⟩ := ha
  refine ⟨_, pe_methD (pl := pl) p0 hr p1 hst hpl ht, fun ρ σ H Q r h R k => l0 ρ σ H _ r h _ fun d v H1 s1 i1 ⟨C, f, z, S, ed, hne, M, q1⟩ => ?_⟩
  subst ed
  obtain ⟨a, dx, rfl, ha⟩ := is_way.mp i1
  obtain ⟨g, fd, ps, hm, hb, F⟩ := M.ex
  refine ⟨a, dx, _, C, g, fd, ps, _, rfl, H1.sub _ _ ha, by simp [List.lookup, hne], M.cl, hm, hb, F, l1 ρ σ H1 _ (r.mono s1) q1 _ fun ds vs H2 s2 i2 q2 => ?_⟩
  have s := s1.trans s2
  exact ⟨H2, _, Q, rfl, allIs_cons.mpr ⟨_, _, rfl, i1.mono s2, i2⟩, q2, fun es p xs H3 s3 h0 h1 h2 i3 q3 => k es p xs H3 (s.trans s3) (s.h.free h0) h1 h2 i3 q3⟩
/-- a way's own value -/
def dFld (K : PySem.W.Frag) (f : Str) (ta : DTE) : DTE := fun ρ Q => ta ρ fun d => ∃ C g k, d = .way C g k ∧ (f == g) = true ∧ Cls K C ∧ NoAttr K C f ∧ Q (.int k)
theorem de_fld {f : Str} (ha : DE X a ta) (hb : attributeBase a f X.env (eval a X.env) = eval a X.env := by rfl) : DE X (.Attribute a f pos) (dFld X.K f ta) := by
  obtain ⟨te, p1, l1⟩ := ha
  refine ⟨_, pe_fld p1 hb, fun ρ σ H Q r h R k => l1 ρ σ H _ r h _ fun d v H1 s1 i1 ⟨C, g, z, ed, hfg, hc, hn, q1⟩ => ?_⟩
  subst ed
  obtain ⟨p, dx, rfl, hp⟩ := is_way.mp i1
  exact ⟨p, C, dx, _, .int z, rfl, H1.sub _ _ hp, hc, hn, by simp [List.lookup, hfg], k _ _ H1 s1 (is_int.mpr rfl) q1⟩
/-- a way is made -/
def spInitW (C : Addr) (f : Str) (ok : Int → Prop) : Sp := fun vs H Q _ => ∃ p dx i, vs = [.ref p, .int i] ∧ H p = some (.ins C dx []) ∧ ok i ∧ ∀ H' : Hp, H' p = some (.ins C dx [(f, .int i)]) → (∀ b o, H b = some o → b ≠ p → H' b = some o) → Q .non H'
structure KOk (P : Program) (w : World) (K : PySem.W.Frag) (mg : Str → Option Value) (base : Heap) (n : Nat) (x : Str) (C : Addr) (f : Str) (ok : Int → Prop) : Prop where
  ex : ∃ g fd ps, mg x = some (.ref C) ∧ Mk K C g ∧ Binds K fd ps [] ∧ FnOk P w K mg base CX0 n g fd ps (spInitW C f ok)
def dMake (C : Addr) (f : Str) (ok : Int → Prop) (t : DTA) : DTE := fun ρ Q => t ρ fun ds => ∃ i, ds = [.int i] ∧ ok i ∧ Q (.way C f i)
theorem de_make {C : Addr} {f : Str} {ok : Int → Prop} (G : KOk X.prog X.w X.K X.mg X.base n x C f ok) (hr : Room (n + 1) X.A) (hg : Gl X x) (ha : DA X (e :: es) t) (hdb : (x == ("__debug__" : Str)) = false := by decide)
    (he : starEach (e :: es) X.env = (false, eval e X.env) :: starEach es X.env := by rfl) (hpl : (backTo pos (starEach es X.env)).any (·.1) = false := by rfl) : DE X (.Call (.Name x p) (e :: es) [] pos) (dMake C f ok t) := by
  obtain ⟨g, fd, ps, hm, M, hb, F⟩ := G.ex
  obtain ⟨te, p1, l1⟩ := ha
  refine ⟨_, pe_make M F hr hg hm hb .nil pass0 p1 hdb he hpl, fun ρ σ H Q r h R k => l1 ρ σ H _ r h _ fun ds vs H1 s1 i1 ⟨i, ed, hok, q1⟩ y dy ny ndy ne => ?_⟩
  subst ed
  obtain ⟨v, rfl, hv⟩ := i1.one
  obtain rfl := is_int.mp hv
  refine ⟨y, dy, i, rfl, upd_same, hok, fun H' e1 e2 => ⟨rfl, ?_⟩⟩
  have keep : Same H1.h H' := fun b o hb => e2 b o (by rw [upd_ne (ne_of_none hb ny), upd_ne (ne_of_none hb ndy)]; exact hb) (ne_of_none hb ny)
  have gy : H1.g y = none := H1.sub.free ny
  exact k _ _ ⟨upd H1.g y (.ins C dy [(f, .int i)]), H', fun b u q => by
      by_cases e : b = y
      · subst e; rw [upd_same] at q; rw [e1]; exact q
      · rw [upd_ne e] at q; exact keep _ _ (H1.sub _ _ q)⟩
    (s1.trans ⟨same_new gy _, keep, fun a z1 z2 => by
      have : a ≠ y := fun e => z1 (e ▸ ny)
      show upd H1.g y _ a = none
      rw [upd_ne this]; exact z2⟩) (is_way.mpr ⟨y, dy, rfl, upd_same⟩) q1

/-! ### isinstance by a built-in class -/
structure KitT (K : PySem.W.Frag) : Prop where
  ib : PySem.W.kitOne K (.type "int") (.type "bool") = some false
  it : PySem.W.kitOne K (.type "int") (.type "tuple") = some false
  il : PySem.W.kitOne K (.type "int") (.type "list") = some false
  bi : PySem.W.kitOne K (.type "bool") (.type "int") = some true
  bt : PySem.W.kitOne K (.type "bool") (.type "tuple") = some false
  bl : PySem.W.kitOne K (.type "bool") (.type "list") = some false
  ti : PySem.W.kitOne K (.type "tuple") (.type "int") = some false
  tb : PySem.W.kitOne K (.type "tuple") (.type "bool") = some false
  tl : PySem.W.kitOne K (.type "tuple") (.type "list") = some false
  li : PySem.W.kitOne K (.type "list") (.type "int") = some false
  lb : PySem.W.kitOne K (.type "list") (.type "bool") = some false
  lt : PySem.W.kitOne K (.type "list") (.type "tuple") = some false
theorem kit_same {K : PySem.W.Frag} {t : Value} : PySem.W.kitOne K t t = some true := by
  unfold PySem.W.kitOne
  rw [if_pos (beq_self_eq_true t)]
theorem kit_bb {K : PySem.W.Frag} {t c : String} {b : Bool} (h1 : (Value.type t == Value.type c) = false) (h2 : PySem.W.kitMeta c = true) (h3 : (fastBuiltinMro t).map (·.contains (Value.type c)) = some b) : PySem.W.kitOne K (.type t) (.type c) = some b := by
  unfold PySem.W.kitOne PySem.W.kitCls
  rw [if_neg (by rw [h1]; decide)]
  show (if PySem.W.kitMeta c = true then PySem.W.subIn K (.type t) (.type c) else none) = some b
  rw [if_pos h2]
  exact h3
theorem kitT (K : PySem.W.Frag) : KitT K := by
  constructor <;> exact kit_bb (by decide +kernel) (by decide +kernel) (by decide +kernel)
inductive TyN where | int | bool | tuple | list
def TyN.str : TyN → String
  | .int => "int" | .bool => "bool" | .tuple => "tuple" | .list => "list"
def isiD : Dt → TyN → Option Bool
  | .int _, .int => some true | .int _, .bool => some false | .int _, .tuple => some false | .int _, .list => some false
  | .bl _, .int => some true | .bl _, .bool => some true | .bl _, .tuple => some false | .bl _, .list => some false
  | .tup _, .int => some false | .tup _, .bool => some false | .tup _, .tuple => some true | .tup _, .list => some false
  | .lst _, .int => some false | .lst _, .bool => some false | .lst _, .tuple => some false | .lst _, .list => some true
  | _, _ => none
theorem isi_ty {H : Vw} {d : Dt} {v : V} {T : TyN} {b : Bool} (kt : KitT K) (h : Is K H.g d v) (e : isiD d T = some b) : ∃ tv, TyOf K H.h v tv ∧ PySem.W.kitOne K tv (.type T.str) = some b := by
  cases d with
  | int i =>
    obtain rfl := is_int.mp h
    refine ⟨_, .int i, ?_⟩
    cases T <;> (obtain rfl := Option.some.inj e; first | exact kit_same | exact kt.ib | exact kt.it | exact kt.il)
  | bl i =>
    obtain rfl := is_bl.mp h
    refine ⟨_, .bl i, ?_⟩
    cases T <;> (obtain rfl := Option.some.inj e; first | exact kit_same | exact kt.bi | exact kt.bt | exact kt.bl)
  | tup ds =>
    obtain ⟨a, xs, rfl, h1, _⟩ := is_tup.mp h
    refine ⟨_, .tup (H.sub _ _ h1), ?_⟩
    cases T <;> (obtain rfl := Option.some.inj e; first | exact kit_same | exact kt.ti | exact kt.tb | exact kt.tl)
  | lst ds =>
    obtain ⟨a, xs, rfl, h1, _⟩ := is_lst.mp h
    refine ⟨_, .lst (H.sub _ _ h1), ?_⟩
    cases T <;> (obtain rfl := Option.some.inj e; first | exact kit_same | exact kt.li | exact kt.lb | exact kt.lt)
  | _ => cases T <;> cases e
theorem call_isi : CallR X (.builtin "isinstance") (fun xs H Q => ∃ v T tv b, xs = [v, .ty T] ∧ TyOf X.K H v tv ∧ PySem.W.kitOne X.K tv (.type T) = some b ∧ Q (.bl b) H) := by
  intro pins s σ H xs us Q I r h
  obtain ⟨v, T, tv, b, rfl, hty, hk, q⟩ := h
  cases r with
  | cons r1 r2 =>
    cases r2 with
    | cons r3 r4 =>
      cases r4
      cases r3
      exact isinst_ok I r1 hty hk fun tk => ⟨.bl b, H, I.tok _, rfl, q⟩
def dIsi (T : TyN) (ta : DTE) : DTE := fun ρ Q => ta ρ fun d => ∃ b, isiD d T = some b ∧ Q (.bl b)
theorem de_isi {T : TyN} {y : Str} {p' : Pos} (kt : KitT X.K) (hm : X.mg "isinstance" = none) (hmc : X.mg y = none) (hv : bootBuiltins y = some (.type T.str)) (ha : DE X a ta)
    (hg : Gl X "isinstance" := by rfl) (hgc : Gl X y := by rfl) (hny : y ≠ "__name__" := by decide) (hdy : (y == ("__debug__" : Str)) = false := by decide)
    (hs : starEach [a, .Name y p'] X.env = (false, eval a X.env) :: starEach [.Name y p'] X.env := by rfl) (hs2 : starEach [.Name y p'] X.env = (false, eval (.Name y p') X.env) :: starEach [] X.env := by rfl)
    (hpl : (backTo pos (starEach [.Name y p'] X.env)).any (·.1) = false := by rfl) :
    DE X (.Call (.Name "isinstance" p) [a, .Name y p'] [] pos) (dIsi T ta) := by
  obtain ⟨te, p1, l1⟩ := ha
  have pc : PE X (.Name y p') (tC (.ty T.str)) := pe_bltn hgc hmc hv rfl hny hdy
  refine ⟨_, pe_callB call_isi hg hm boot_isinstance (pa_cons p1 (pa_cons pc pa_nil hs2) hs) (by decide) (by decide) hs hpl, fun ρ σ H Q r h R k => l1 ρ σ H _ r h _ fun d v H1 s1 i1 ⟨b, e, q⟩ => ?_⟩
  obtain ⟨tv, h1, h2⟩ := isi_ty kt i1 e
  exact ⟨v, T.str, tv, b, rfl, h1, h2, k _ _ H1 s1 (is_bl.mpr rfl) q⟩
end

/-! ### statements -/
structure DEnds where
  nx : DS → Prop
  rt : Dt → Prop
  bk : DS → Prop := fun _ => False
  ct : DS → Prop := fun _ => False
abbrev DTS := DEnds → DS → Prop
/-- a state of a def's run: W0 at its entry, G what nobody changes any more -/
structure At (K : PySem.W.Frag) (W0 : Vw) (G : Hp) (W : Vw) (ρ : DS) (σ : St) : Prop where
  le : Le W0 W
  gs : Same G W.g
  rl : Rl K (fun a => W0.h a = none) W ρ σ
structure Sim (K : PySem.W.Frag) (fr : Bool) (W0 : Vw) (G : Hp) (D : DEnds) (D' : Ends) : Prop where
  nx : ∀ ρ σ W', At K W0 G W' ρ σ → D.nx ρ → D'.nx σ W'.h
  rt : fr = false → ∀ d v W', Le W0 W' → Is K W'.g d v → D.rt d → D'.rt v W'.h
  rf : ∀ es p xs W', Le W0 W' → W0.h p = none → W'.h p = some (.lst xs) → W'.g p = none → AllIs K W'.g es xs → D.rt (.lst es) → D'.rt (.ref p) W'.h
  bk : ∀ ρ σ W', At K W0 G W' ρ σ → D.bk ρ → D'.bk σ W'.h
  ct : ∀ ρ σ W', At K W0 G W' ρ σ → D.ct ρ → D'.ct σ W'.h
section
variable {W0 : Vw} {G G' : Hp} {ρ : DS} {σ : St} {fr : Bool}
theorem At.step (a : At K W0 G W ρ σ) (s : Le W W') : At K W0 G W' ρ σ := ⟨a.le.trans s, a.gs.trans s.g, a.rl.mono s⟩
theorem At.set (a : At K W0 G W ρ σ) {d : Dt} {v : V} (i : Nat) (h : Is K W.g d v) : At K W0 G W (ρ.set i (.some d)) (σ.set i (some v)) := ⟨a.le, a.gs, a.rl.set i h⟩
theorem At.weak (a : At K W0 G W ρ σ) (s : Same G' G) : At K W0 G' W ρ σ := ⟨a.le, s.trans a.gs, a.rl⟩
theorem At.own (a : At K W0 G W ρ σ) (s : Le W W') {p : Addr} {xs : List V} {ds : List Dt} (i : Nat) (h0 : W.h p = none) (h1 : W'.h p = some (.lst xs)) (h2 : W'.g p = none) (h3 : AllIs K W'.g ds xs) :
    At K W0 G W' (ρ.set i (.own ds)) (σ.set i (some (.ref p))) := ⟨a.le.trans s, a.gs.trans s.g, a.rl.own s i h0 h1 h2 h3⟩
theorem At.put (at_ : At K W0 G W ρ σ) {i : Nat} {ds es : List Dt} {a : Addr} {ys : List V} (hi : ρ[i]? = some (.own ds)) (ha : σ[i]? = some (some (.ref a))) (hg : W.g a = none) (hF : W0.h a = none) (h3 : AllIs K W.g es ys) :
    At K W0 G (W.mine a (.lst ys) hg) (ρ.set i (.own es)) σ :=
  ⟨⟨at_.le.g, fun b o q => by
      have : b ≠ a := fun e => by rw [e, hF] at q; cases q
      show upd W.h a _ b = some o
      rw [upd_ne this]; exact at_.le.h _ _ q, at_.le.n⟩, at_.gs, at_.rl.put hi ha hg hF h3⟩
theorem At.frz (at_ : At K W0 G W ρ σ) {i : Nat} {ds : List Dt} {a : Addr} {xs : List V} (hi : ρ[i]? = some (.own ds)) (ha : σ[i]? = some (some (.ref a))) (hh : W.h a = some (.lst xs)) (hg : W.g a = none) (hF : W0.h a = none) (h3 : AllIs K W.g ds xs) :
    At K W0 G (W.frz a _ hh) (ρ.set i (.some (.lst ds))) σ :=
  ⟨le_frz at_.le hF hh hg, at_.gs.trans (same_new hg _), at_.rl.frz hi ha hh hg h3⟩
theorem Sim.weak {D : DEnds} {D' : Ends} (h : Sim K fr W0 G' D D') (s : Same G' G) : Sim K fr W0 G D D' :=
  ⟨fun ρ σ W' a => h.nx ρ σ W' (a.weak s), h.rt, h.rf, fun ρ σ W' a => h.bk ρ σ W' (a.weak s), fun ρ σ W' a => h.ct ρ σ W' (a.weak s)⟩
end
def LiS (K : PySem.W.Frag) (fr : Bool) (ts : TS) (t : DTS) : Prop := ∀ (W0 : Vw) (G : Hp) (ρ : DS) (σ : St) (W : Vw) (D : DEnds) (D' : Ends), At K W0 G W ρ σ → Sim K fr W0 G D D' → t D ρ → ts D' σ W.h
def DSt (X : Cx) (fr : Bool) (st : Stmt) (t : DTS) : Prop := ∃ ts, PS X st ts ∧ LiS X.K fr ts t
def DSs (X : Cx) (fr : Bool) (sts : List Stmt) (t : DTS) : Prop := ∃ ts, PSs X sts ts ∧ LiS X.K fr ts t
def dNext : DTS := fun D ρ => D.nx ρ
def dSeq (t u : DTS) : DTS := fun D ρ => t { D with nx := u D } ρ
def dRet (te : DTE) : DTS := fun D ρ => te ρ D.rt
def dRetO (i : Nat) : DTS := fun D ρ => ∃ ds, ρ[i]? = some (.own ds) ∧ D.rt (.lst ds)
def dSet (i : Nat) (te : DTE) : DTS := fun D ρ => te ρ fun d => D.nx (ρ.set i (.some d))
def dSetO (i : Nat) (te : DTE) : DTS := fun D ρ => te ρ fun d => ∃ ds, d = .lst ds ∧ D.nx (ρ.set i (.own ds))
def dIfS (c : DTT) (t u : DTS) : DTS := fun D ρ => c ρ fun b => if b = true then t D ρ else u D ρ
def dNever : DTS := fun _ _ => False
def dUnp (i j : Nat) (te : DTE) : DTS := fun D ρ => te ρ fun d => ∃ a b, d = .tup [a, b] ∧ D.nx ((ρ.set i (.some a)).set j (.some b))
def dPar (i j : Nat) (ta : DTA) : DTS := fun D ρ => ta ρ fun ds => ∃ a b, ds = [a, b] ∧ D.nx ((ρ.set i (.some a)).set j (.some b))
def dForL (j : Nat) (te : DTE) (tb : DTS) : DTS := fun D ρ => te ρ fun d => ∃ (ds : List Dt) (Pv : Nat → DS → Prop), listOf d = some ds ∧ Pv 0 ρ ∧
  (∀ i e ρ', ds[i]? = some e → Pv i ρ' → tb { D with nx := Pv (i + 1), ct := Pv (i + 1), bk := D.nx } (ρ'.set j (.some e))) ∧ ∀ ρ', Pv ds.length ρ' → D.nx ρ'
def dForR (j : Nat) (te : DTE) (tb : DTS) : DTS := fun D ρ => te ρ fun d => ∃ (n : Int) (Pv : Nat → DS → Prop), d = .int n ∧ -(2 ^ 62) ≤ n ∧ n < 2 ^ 62 ∧ Pv 0 ρ ∧
  (∀ (i : Nat) ρ', i < n.toNat → Pv i ρ' → tb { D with nx := Pv (i + 1), ct := Pv (i + 1), bk := D.nx } (ρ'.set j (.some (.int i)))) ∧ ∀ ρ', Pv n.toNat ρ' → D.nx ρ'
section
variable {X : Cx} {fr : Bool} {st : Stmt} {rest : List Stmt} {t u : DTS} {e : Expr} {te : DTE} {pos p0 p1 p2 : Pos}
theorem dss_nil : DSs X fr [] dNext := ⟨_, pss_nil, fun W0 G ρ σ W D D' a s h => s.nx ρ σ W a h⟩
theorem dss_cons (h1 : DSt X fr st t) (h2 : DSs X fr rest u) : DSs X fr (st :: rest) (dSeq t u) := by
  obtain ⟨ts, p1, l1⟩ := h1
  obtain ⟨us, p2, l2⟩ := h2
  exact ⟨_, pss_cons p1 p2, fun W0 G ρ σ W D D' a s h => l1 W0 G ρ σ W { D with nx := u D } { D' with nx := us D' } a ⟨fun ρ' σ' W' a' q => l2 W0 G ρ' σ' W' D D' a' s q, s.rt, s.rf, s.bk, s.ct⟩ h⟩
theorem dss_one (h : DSt X fr st t) : DSs X fr [st] t := let ⟨_, p, l⟩ := h; ⟨_, pss_one p, l⟩
theorem ds_ret (h : DE X e te) : DSt X false (.Return (some e) pos) (dRet te) := by
  obtain ⟨tt, p, l⟩ := h
  exact ⟨_, ps_ret p, fun W0 G ρ σ W D D' a s h => l ρ σ W _ a.rl h _ fun d v W1 s1 i1 q1 => s.rt rfl d v W1 (a.le.trans s1) i1 q1⟩
theorem ds_retO (i : Nat) {x : Str} (hN : X.N[i]? = some x := by rfl) (hv : Vis X.env.scope x := by first | exact Or.inl rfl | exact Or.inr (Or.inl rfl) | exact Or.inr (Or.inr rfl)) (hd : (x == ("__debug__" : Str)) = false := by decide)
    (hcd : (x == ("__classdict__" : Str)) = false := by decide) : DSt X fr (.Return (some (.Name x p0)) pos) (dRetO i) := by
  refine ⟨_, ps_ret (pe_var hN hv hd hcd), fun W0 G ρ σ W D D' a s h => ?_⟩
  obtain ⟨ds, e, q⟩ := h
  obtain ⟨b, xs, e1, e2, e3, e4, e5⟩ := a.rl.ow i ds e
  exact ⟨.ref b, e1, s.rf ds b xs W a.le e4 e2 e3 e5 q⟩
theorem ds_set {i : Nat} {x : Str} {pos' : Pos} (hN : X.N.Nodup) (hi : X.N[i]? = some x) (hx : Loc X.env.scope x) (h : DE X e te) (hs : swapsWith e (some (.Name x pos')) pos.line X.env = pure false := by rfl) (hf : X.fn x = true ∨ X.env.scope.names.lookup x = some .local := by first | exact .inl rfl | exact .inr rfl | assumption) :
    DSt X fr (.Assign [.Name x pos'] e pos) (dSet i te) := by
  obtain ⟨tt, p, l⟩ := h
  exact ⟨_, ps_set hN hi hx p hs hf, fun W0 G ρ σ W D D' a s h => l ρ σ W _ a.rl h _ fun d v W1 s1 i1 q1 => s.nx _ _ W1 ((a.step s1).set i i1) q1⟩
theorem ds_setO {i : Nat} {x : Str} {pos' : Pos} (hN : X.N.Nodup) (hi : X.N[i]? = some x) (hx : Loc X.env.scope x) (h : DF X e te) (hs : swapsWith e (some (.Name x pos')) pos.line X.env = pure false := by rfl) (hf : X.fn x = true ∨ X.env.scope.names.lookup x = some .local := by first | exact .inl rfl | exact .inr rfl | assumption) :
    DSt X fr (.Assign [.Name x pos'] e pos) (dSetO i te) := by
  obtain ⟨tt, p, l⟩ := h
  refine ⟨_, ps_set hN hi hx p hs hf, fun W0 G ρ σ W D D' a s h => l ρ σ W _ a.rl h _ fun es q xs W1 s1 h0 h1 h2 i1 ⟨ds, ed, q1⟩ => ?_⟩
  cases ed
  exact s.nx _ _ W1 (a.own s1 i h0 h1 h2 i1) q1
theorem ds_if {c : Expr} {a b : List Stmt} {tc : DTT} (hc : DT X c tc) (ha : DSs X fr a t) (hb : DSs X fr b u) : DSt X fr (.If c a b pos) (dIfS tc t u) := by
  obtain ⟨t0, p0, l0⟩ := hc
  obtain ⟨t1, p1, l1⟩ := ha
  obtain ⟨t2, p2, l2⟩ := hb
  refine ⟨_, ps_if p0 p1 p2, fun W0 G ρ σ W D D' a s h => l0 ρ σ W _ a.rl h _ fun k W1 s1 q1 => ?_⟩
  cases k with
  | true => exact l1 W0 G ρ σ W1 D D' (a.step s1) s q1
  | false => exact l2 W0 G ρ σ W1 D D' (a.step s1) s q1
theorem ds_never : DSt X fr st dNever := ⟨_, ps_never, fun _ _ _ _ _ _ _ _ _ h => h.elim⟩
theorem ds_unp {i j : Nat} {x y : Str} {px py pt : Pos} {kt : Nat} (hc : X.calm = true) (hN : X.N.Nodup) (hi : X.N[i]? = some x) (hj : X.N[j]? = some y) (hx : Loc X.env.scope x) (hy : Loc X.env.scope y) (h : DE X e te)
    (hf : X.fn x = true ∨ X.env.scope.names.lookup x = some .local := by first | exact .inl rfl | exact .inr rfl | assumption) (hf2 : X.fn y = true ∨ X.env.scope.names.lookup y = some .local := by first | exact .inl rfl | exact .inr rfl | assumption)
    (hs : swapsWithSole [.Tuple [.Name x px, .Name y py] kt pt] e pos.line X.env = pure false := by rfl) (hw : swappedStores [.Tuple [.Name x px, .Name y py] kt pt] e X.env = pure none := by rfl) :
    DSt X fr (.Assign [.Tuple [.Name x px, .Name y py] kt pt] e pos) (dUnp i j te) := by
  obtain ⟨tt, p, l⟩ := h
  refine ⟨_, ps_asg p (pg_tup hc (pgs_cons (pg_name hN hi hx hf) (pgs_cons (pg_name hN hj hy hf2) pgs_nil))) hs hw, fun W0 G ρ σ W D D' at_ s h => l ρ σ W _ at_.rl h _ fun d v W1 s1 i1 ⟨a, b, ed, q1⟩ => ?_⟩
  subst ed
  obtain ⟨q, xs, rfl, hq, ha⟩ := is_tup.mp i1
  obtain ⟨v1, v2, rfl, h1, h2⟩ := ha.two
  refine ⟨q, _, rfl, .of (W1.sub _ _ hq), rfl, v1, [v2], rfl, v2, [], rfl, rfl, ?_⟩
  exact s.nx _ _ W1 (((at_.step s1).set i h1).set j h2) q1
theorem ds_par {i j : Nat} {x y : Str} {a b : Expr} {ta : DTA} {px py pt : Pos} {kt k2 pt2} (hc : X.calm = true) (hN : X.N.Nodup) (hi : X.N[i]? = some x) (hj : X.N[j]? = some y) (hij : i ≠ j)
    (hx : X.env.scope.names.lookup x = some .local) (hy : X.env.scope.names.lookup y = some .local) (ha : DA X [a, b] ta)
    (hw : swappedStores [.Tuple [.Name x px, .Name y py] kt pt] (.Tuple [a, b] k2 pt2) X.env = pure (some [x, y]))
    (hs : swapsWithSole [.Tuple [.Name x px, .Name y py] kt pt] (.Tuple [a, b] k2 pt2) pos.line X.env = pure false := by rfl) :
    DSt X fr (.Assign [.Tuple [.Name x px, .Name y py] kt pt] (.Tuple [a, b] k2 pt2) pos) (dPar i j ta) := by
  obtain ⟨tt, p, l⟩ := ha
  refine ⟨_, ps_par hc hN hi hj hij hx hy p hw hs, fun W0 G ρ σ W D D' at_ s h => l ρ σ W _ at_.rl h _ fun ds vs W1 s1 i1 ⟨d1, d2, ed, q1⟩ => ?_⟩
  subst ed
  obtain ⟨v1, v2, rfl, h1, h2⟩ := i1.two
  exact ⟨v1, v2, rfl, s.nx _ _ W1 (((at_.step s1).set i h1).set j h2) q1⟩
/-- the state within a loop -/
def InL (K : PySem.W.Frag) (W0 W1 : Vw) (Pv : DS → Prop) (σ : St) (H : Hp) : Prop := ∃ (ρ : DS) (W : Vw), W.h = H ∧ At K W0 W1.g W ρ σ ∧ Pv ρ
theorem sim_loop {K : PySem.W.Frag} {W0 W1 : Vw} {G : Hp} {D : DEnds} {D' : Ends} {Pv : DS → Prop} (s : Sim K fr W0 G D D') (hg : Same G W1.g) :
    Sim K fr W0 W1.g { D with nx := Pv, ct := Pv, bk := D.nx } { D' with nx := InL K W0 W1 Pv, ct := InL K W0 W1 Pv, bk := D'.nx } :=
  ⟨fun ρ3 σ3 W3 a3 q3 => ⟨ρ3, W3, rfl, a3, q3⟩, s.rt, s.rf, fun ρ3 σ3 W3 a3 q3 => s.nx ρ3 σ3 W3 (a3.weak hg) q3, fun ρ3 σ3 W3 a3 q3 => ⟨ρ3, W3, rfl, a3, q3⟩⟩
theorem At.now {K : PySem.W.Frag} {W0 : Vw} {G : Hp} {W : Vw} {ρ : DS} {σ : St} (a : At K W0 G W ρ σ) : At K W0 W.g W ρ σ := ⟨a.le, Same.refl _, a.rl⟩
theorem ds_for {j : Nat} {x : Str} {iter : Expr} {body : List Stmt} {tb : DTS} {px : Pos} (hc : X.calm = true) (hN : X.N.Nodup) (hi : X.N[j]? = some x) (hx : Loc X.env.scope x) (hp : PassesOwn (model X.prog X.w) X.A X.env X.xe)
    (h : DE X iter te) (hb : DSs X fr body tb) (hs : ∀ x, foldedSetIterable iter X.env x = pure x := by intro _; rfl)
    (hf : X.fn x = true ∨ X.env.scope.names.lookup x = some .local := by first | exact .inl rfl | exact .inr rfl | assumption) : DSt X fr (.For (.Name x px) iter body [] pos) (dForL j te tb) := by
  obtain ⟨tt, p, l⟩ := h
  obtain ⟨tbs, p2, l2⟩ := hb
  refine ⟨_, ps_for hp hc (pi_list p) (pg_name hN hi hx hf) p2 hs, fun W0 G ρ σ W D D' at_ s h => l ρ σ W _ at_.rl h _ fun d v W1 s1 i1 ⟨ds, Pv, el, h0, ht, hd⟩ => ?_⟩
  have hg : Same G W1.g := at_.gs.trans s1.g
  have hq : ∃ a xs, v = .ref a ∧ (∀ W2 : Vw, Same W1.g W2.g → SqL X.K W2.h a xs) ∧ AllIs X.K W1.g ds xs := by
    cases d with
    | lst es =>
      obtain rfl : es = ds := Option.some.inj el
      obtain ⟨a, xs, rfl, h1, h2⟩ := is_lst.mp i1
      exact ⟨a, xs, rfl, fun W2 s2 => .of (W2.sub _ _ (s2 _ _ h1)), h2⟩
    | scr ns =>
      obtain rfl : ns.map Dt.int = ds := Option.some.inj el
      obtain ⟨a, rfl, h1⟩ := is_scr.mp i1
      exact ⟨a, _, rfl, fun W2 s2 => W2.sub.seq (s2.seq h1), AllIs.ints⟩
    | _ => cases el
  obtain ⟨a, xs, rfl, hq, ha⟩ := hq
  refine ⟨a, rfl, ⟨xs, hq W1 (Same.refl _)⟩, for_list (K := X.K) (a := a) (xs := xs) (fun i => InL X.K W0 W1 (Pv i)) ⟨ρ, W1, rfl, (at_.step s1).now, h0⟩ (fun i σ' H' _ ⟨_, W2, e2, a2, _⟩ => e2 ▸ hq W2 a2.gs) ?_ ?_⟩
  · rintro i x σ' _ hi ⟨ρ', W2, rfl, a2, hp2⟩
    obtain ⟨e, he, ie⟩ := ha.get' hi
    exact l2 W0 W1.g _ _ W2 { D with nx := Pv (i + 1), ct := Pv (i + 1), bk := D.nx } _ (a2.set j (Is.mono0 a2.gs ie)) (sim_loop s hg) (ht i e ρ' he hp2)
  · rintro σ' _ ⟨ρ', W2, rfl, a2, hp2⟩
    exact s.nx ρ' σ' W2 (a2.weak hg) (hd ρ' (by rw [ha.length]; exact hp2))
theorem ds_forR {j : Nat} {x : Str} {a : Expr} {body : List Stmt} {tb : DTS} {px p0 pos1 : Pos} (hc : X.calm = true) (hN : X.N.Nodup) (hi : X.N[j]? = some x) (hx : Loc X.env.scope x) (hp : PassesOwn (model X.prog X.w) X.A X.env X.xe)
    (hg : Gl X "range") (hm : X.mg "range" = none) (h : DE X a te) (hb : DSs X fr body tb) (hs : ∀ x, foldedSetIterable (.Call (.Name "range" p0) [a] [] pos1) X.env x = pure x := by intro _; rfl)
    (hst : starEach [a] X.env = [(false, eval a X.env)] := by rfl) (hst2 : starEach [a] X.env = (false, eval a X.env) :: starEach [] X.env := by rfl)
    (hf : X.fn x = true ∨ X.env.scope.names.lookup x = some .local := by first | exact .inl rfl | exact .inr rfl | assumption) : DSt X fr (.For (.Name x px) (.Call (.Name "range" p0) [a] [] pos1) body [] pos) (dForR j te tb) := by
  obtain ⟨tt, p, l⟩ := h
  obtain ⟨tbs, p2, l2⟩ := hb
  refine ⟨_, ps_for hp hc (pi_range1 hg hm (pa_cons p pa_nil hst2) hst) (pg_name hN hi hx hf) p2 hs, fun W0 G ρ σ W D D' at_ s h => l ρ σ W _ at_.rl h _ fun d v W1 s1 i1 ⟨n, Pv, ed, n1, n2, h0, ht, hd⟩ => ?_⟩
  subst ed
  have hg : Same G W1.g := at_.gs.trans s1.g
  refine ⟨n, by rw [is_int.mp i1], n1, n2, for_range (lo := 0) (n := n.toNat) (fun i => InL X.K W0 W1 (Pv i)) ⟨ρ, W1, rfl, (at_.step s1).now, h0⟩ ?_ ?_⟩
  · rintro i σ' _ hi ⟨ρ', W2, rfl, a2, hp2⟩
    have ez : (0 : Int) + (i : Int) = (i : Int) := Int.zero_add _
    rw [ez]
    exact l2 W0 W1.g _ _ W2 { D with nx := Pv (i + 1), ct := Pv (i + 1), bk := D.nx } _ (a2.set j (is_int.mpr rfl)) (sim_loop s hg) (ht i ρ' hi hp2)
  · rintro σ' _ ⟨ρ', W2, rfl, a2, hp2⟩
    exact s.nx ρ' σ' W2 (a2.weak hg) (hd ρ' hp2)
/-! ### one's own list is changed -/
variable {i : Nat} {x : Str}
def dApp (i : Nat) (te : DTE) : DTS := fun D ρ => ∃ ds, ρ[i]? = some (.own ds) ∧ te ρ fun d => ds.length ≤ 100000 ∧ D.nx (ρ.set i (.own (ds ++ [d])))
theorem ds_app (i : Nat) (h : DE X e te) (hN : X.N[i]? = some x := by rfl) (hv : Vis X.env.scope x := by first | exact Or.inl rfl | exact Or.inr (Or.inl rfl) | exact Or.inr (Or.inr rfl)) (hd : (x == ("__debug__" : Str)) = false := by decide)
    (hcd : (x == ("__classdict__" : Str)) = false := by decide) (hst : starEach [e] X.env = (false, eval e X.env) :: starEach [] X.env := by rfl) (hpl : (backTo p2 (starEach [] X.env)).any (·.1) = false := by rfl)
    (hfew : ((backTo p2 (starEach [e] X.env)).all (fun x => !x.1) && (backToKw p2 (keywordEach [] X.env)).all (fun x => x.1.isSome)
      && decide ([e].length + ([] : List Keyword).length + (if ([] : List Keyword).isEmpty then 0 else 1) < 30)) = true := by rfl)
    (hbase : attributeBase (.Name x p0) "append" X.env (eval (.Name x p0) X.env) = eval (.Name x p0) X.env := by rfl) (hline : (p1.endLine == p2.line) = true := by rfl)
    (hs : swapsWith (.Call (.Attribute (.Name x p0) "append" p1) [e] [] p2) none pos.line X.env = pure false := by rfl) :
    DSt X fr (.Expr (.Call (.Attribute (.Name x p0) "append" p1) [e] [] p2) pos) (dApp i te) := by
  obtain ⟨tt, p, l⟩ := h
  refine ⟨_, ps_expr (pe_bm PySem.F.plainAttrs_list PySem.F.slot_list_append PySem.F.type_list_append mt_append (pe_var hN hv hd hcd) (pa_cons p pa_nil hst) hbase hfew hline hst hpl) hs, fun W0 G ρ σ W D D' at_ s h => ?_⟩
  obtain ⟨ds, ei, h⟩ := h
  obtain ⟨b, xs, e1, e2, e3, e4, e5⟩ := at_.rl.ow i ds ei
  refine ⟨.ref b, e1, .inl ⟨rfl, xs, .of e2⟩, l ρ σ W _ at_.rl h _ fun d v W1 s1 i1 ⟨hl, q1⟩ => ?_⟩
  have a1 := at_.step s1
  have hg1 : W1.g b = none := s1.n b (by rw [e2]; intro z; cases z) e3
  refine ⟨b, xs, v, rfl, rfl, s1.h _ _ e2, by rw [← e5.length]; exact Nat.lt_of_le_of_lt hl (by decide), ?_⟩
  exact s.nx _ _ _ (a1.put ei e1 hg1 e4 ((e5.mono s1).append (allIs_cons.mpr ⟨v, [], rfl, i1, allIs_nil.mpr rfl⟩))) q1
theorem AllIs.reverse {G : Hp} : ∀ {ds : List Dt} {xs : List V}, AllIs K G ds xs → AllIs K G ds.reverse xs.reverse
  | [], _, h => by rw [allIs_nil.mp h]; exact allIs_nil.mpr rfl
  | d :: ds, _, h => by
    obtain ⟨x, r, rfl, h1, h2⟩ := allIs_cons.mp h
    rw [List.reverse_cons, List.reverse_cons]
    exact (AllIs.reverse h2).append (allIs_cons.mpr ⟨x, [], rfl, h1, allIs_nil.mpr rfl⟩)
theorem AllIs.set {G : Hp} : ∀ {ds : List Dt} {xs : List V} {d : Dt} {v : V} (j : Nat), AllIs K G ds xs → Is K G d v → AllIs K G (ds.set j d) (xs.set j v)
  | [], _, _, _, _, h, _ => by rw [allIs_nil.mp h]; exact allIs_nil.mpr rfl
  | d :: ds, _, _, _, 0, h, i => by
    obtain ⟨x, r, rfl, h1, h2⟩ := allIs_cons.mp h
    exact allIs_cons.mpr ⟨_, _, rfl, i, h2⟩
  | d :: ds, _, _, _, j + 1, h, i => by
    obtain ⟨x, r, rfl, h1, h2⟩ := allIs_cons.mp h
    exact allIs_cons.mpr ⟨_, _, rfl, h1, AllIs.set j h2 i⟩
def dRev (i : Nat) : DTS := fun D ρ => ∃ ds, ρ[i]? = some (.own ds) ∧ D.nx (ρ.set i (.own ds.reverse))
theorem ds_rev (i : Nat) (hN : X.N[i]? = some x := by rfl) (hv : Vis X.env.scope x := by first | exact Or.inl rfl | exact Or.inr (Or.inl rfl) | exact Or.inr (Or.inr rfl)) (hd : (x == ("__debug__" : Str)) = false := by decide)
    (hcd : (x == ("__classdict__" : Str)) = false := by decide)
    (hbase : attributeBase (.Name x p0) "reverse" X.env (eval (.Name x p0) X.env) = eval (.Name x p0) X.env := by rfl) (hline : (p1.endLine == p2.line) = true := by rfl)
    (hs : swapsWith (.Call (.Attribute (.Name x p0) "reverse" p1) [] [] p2) none pos.line X.env = pure false := by rfl) :
    DSt X fr (.Expr (.Call (.Attribute (.Name x p0) "reverse" p1) [] [] p2) pos) (dRev i) := by
  refine ⟨_, ps_expr (pe_bm0 PySem.F.plainAttrs_list PySem.F.slot_list_reverse PySem.F.type_list_reverse mt_reverse (pe_var hN hv hd hcd) hbase hline) hs, fun W0 G ρ σ W D D' at_ s h => ?_⟩
  obtain ⟨ds, ei, q1⟩ := h
  obtain ⟨b, xs, e1, e2, e3, e4, e5⟩ := at_.rl.ow i ds ei
  exact ⟨.ref b, e1, .inl ⟨rfl, xs, .of e2⟩, b, xs, rfl, rfl, e2, s.nx _ _ _ (at_.put ei e1 e3 e4 e5.reverse) q1⟩
end

/-! ### a def keeps its promise -/
section
variable {P : Program} {w : World} {K : PySem.W.Frag} {mg : Str → Option Value} {base : Heap}
theorem at_start {W : Vw} {N : List Str} {ds : List Dt} {vs : List V} (ia : AllIs K W.g ds vs) : At K W W.g W (dstart N.length ds) (start N vs) := ⟨Le.refl W, Same.refl _, Rl.start ia⟩
theorem okD {x qual : Str} {st : Stmt} {f : Addr} {fd : FuncData} {N ps : List Str} {k : Nat} {S : DSp} (F : Fun K x qual st f fd) (sc : FnScope N ps (defScope st)) (len : ∀ ds Q, S ds Q → ds.length = ps.length)
    (hbody : ∀ (cdv : Value) (A : Around) (outer : List Env) (s : Shared) (H : Hp) (E : XK), Room k (A.deeper (envOfC qual (defScope st) s.heap.objs.size f cdv)) → ∀ (ds : List Dt) (Q : Dt → Prop), S ds Q →
      ∃ t, DSs (cxOf CX0 P w K mg base N qual (defScope st) f cdv A outer s H E).nox false (defBody st) t ∧ t { nx := fun _ => Q .non, rt := Q } (dstart N.length ds)) : FnOk P w K mg base CX0 (k + 1) f fd ps (PureSp K S) := by
  refine F.ok sc (fun vs H Q E h => ?_) (fun cdv A outer s H vs Q E hr h => ?_)
  · obtain ⟨W, ds, Qd, _, ia, hS, _⟩ := h
    rw [← ia.length]
    exact len ds Qd hS
  obtain ⟨W, ds, Qd, rfl, ia, hS, kk⟩ := h
  obtain ⟨t, ⟨ts, p, l⟩, ht⟩ := hbody cdv A outer s W.h E hr ds Qd hS
  refine ⟨ts, p, l W W.g (dstart N.length ds) (start N vs) W { nx := fun _ => Qd .non, rt := Qd } _ (at_start ia) ⟨fun ρ σ W' a q => kk .non .non W' a.le (is_non.mpr rfl) q, fun _ d v W' s' i' q => kk d v W' s' i' q, fun es q xs W' s' h0 h1 h2 i' z => ?_, fun _ _ _ _ q => q.elim, fun _ _ _ _ q => q.elim⟩ ht⟩
  exact kk (.lst es) (.ref q) (W'.frz q _ h1) (le_frz s' h0 h1 h2) (is_lst.mpr ⟨q, xs, rfl, upd_same, AllIs.mono0 (same_new h2 _) i'⟩) z
/-- a def that tells a new list -/
theorem okF {x qual : Str} {st : Stmt} {f : Addr} {fd : FuncData} {N ps : List Str} {k : Nat} {S : DSp} (F : Fun K x qual st f fd) (sc : FnScope N ps (defScope st)) (len : ∀ ds Q, S ds Q → ds.length = ps.length)
    (hbody : ∀ (cdv : Value) (A : Around) (outer : List Env) (s : Shared) (H : Hp) (E : XK), Room k (A.deeper (envOfC qual (defScope st) s.heap.objs.size f cdv)) → ∀ (ds : List Dt) (Q : Dt → Prop), S ds Q →
      ∃ t, DSs (cxOf CX0 P w K mg base N qual (defScope st) f cdv A outer s H E).nox true (defBody st) t ∧ t { nx := fun _ => False, rt := Q } (dstart N.length ds)) : FnOk P w K mg base CX0 (k + 1) f fd ps (FreshSp K S) := by
  refine F.ok sc (fun vs H Q E h => ?_) (fun cdv A outer s H vs Q E hr h => ?_)
  · obtain ⟨W, ds, Qd, _, ia, hS, _⟩ := h
    rw [← ia.length]
    exact len ds Qd hS
  obtain ⟨W, ds, Qd, rfl, ia, hS, kk⟩ := h
  obtain ⟨t, ⟨ts, p, l⟩, ht⟩ := hbody cdv A outer s W.h E hr ds Qd hS
  exact ⟨ts, p, l W W.g (dstart N.length ds) (start N vs) W { nx := fun _ => False, rt := Qd } _ (at_start ia) ⟨fun ρ σ W' a q => q.elim, fun z => (by cases z), kk, fun _ _ _ _ q => q.elim, fun _ _ _ _ q => q.elim⟩ ht⟩
theorem DOk.mk' {x qual : Str} {st : Stmt} {f : Addr} {fd : FuncData} {ps : List Str} {n : Nat} {S : DSp} (F : Fun K x qual st f fd) (hm : mg x = some (.ref f)) (hb : Binds K fd ps []) (h : FnOk P w K mg base CX0 n f fd ps (PureSp K S)) : DOk P w K mg base n x S :=
  ⟨f, fd, ps, hm, F.kp, hb, h⟩
theorem FOk.mk' {x qual : Str} {st : Stmt} {f : Addr} {fd : FuncData} {ps : List Str} {n : Nat} {S : DSp} (F : Fun K x qual st f fd) (hm : mg x = some (.ref f)) (hb : Binds K fd ps []) (h : FnOk P w K mg base CX0 n f fd ps (FreshSp K S)) : FOk P w K mg base n x S :=
  ⟨f, fd, ps, hm, F.kp, hb, h⟩
theorem DOk.mono {x : Str} {m n : Nat} {S : DSp} (h : DOk P w K mg base m x S) (hl : m ≤ n) : DOk P w K mg base n x S :=
  let ⟨f, fd, ps, h1, h2, h3, h4⟩ := h.ex; ⟨f, fd, ps, h1, h2, h3, h4.mono hl⟩
theorem FOk.mono {x : Str} {m n : Nat} {S : DSp} (h : FOk P w K mg base m x S) (hl : m ≤ n) : FOk P w K mg base n x S :=
  let ⟨f, fd, ps, h1, h2, h3, h4⟩ := h.ex; ⟨f, fd, ps, h1, h2, h3, h4.mono hl⟩
theorem MOk.mono {C : Addr} {x : Str} {m n : Nat} {S : DSp} (h : MOk P w K mg base m C x S) (hl : m ≤ n) : MOk P w K mg base n C x S :=
  ⟨h.cl, let ⟨f, fd, ps, h1, h3, h4⟩ := h.ex; ⟨f, fd, ps, h1, h3, h4.mono hl⟩⟩
theorem FMOk.mono {C : Addr} {x : Str} {m n : Nat} {S : DSp} (h : FMOk P w K mg base m C x S) (hl : m ≤ n) : FMOk P w K mg base n C x S :=
  ⟨h.cl, let ⟨f, fd, ps, h1, h3, h4⟩ := h.ex; ⟨f, fd, ps, h1, h3, h4.mono hl⟩⟩
theorem MOk.imp {C : Addr} {x : Str} {n : Nat} {S S' : DSp} (h : MOk P w K mg base n C x S) (hi : ∀ ds Q, S' ds Q → S ds Q) : MOk P w K mg base n C x S' :=
  ⟨h.cl, let ⟨f, fd, ps, h1, h3, h4⟩ := h.ex; ⟨f, fd, ps, h1, h3, h4.imp fun vs H Q E ⟨W, ds, Qd, a, b, c, d⟩ => ⟨W, ds, Qd, a, b, hi _ _ c, d⟩⟩⟩
theorem FMOk.imp {C : Addr} {x : Str} {n : Nat} {S S' : DSp} (h : FMOk P w K mg base n C x S) (hi : ∀ ds Q, S' ds Q → S ds Q) : FMOk P w K mg base n C x S' :=
  ⟨h.cl, let ⟨f, fd, ps, h1, h3, h4⟩ := h.ex; ⟨f, fd, ps, h1, h3, h4.imp fun vs H Q E ⟨W, ds, Qd, a, b, c, d⟩ => ⟨W, ds, Qd, a, b, hi _ _ c, d⟩⟩⟩
theorem DOk.imp {x : Str} {n : Nat} {S S' : DSp} (h : DOk P w K mg base n x S) (hi : ∀ ds Q, S' ds Q → S ds Q) : DOk P w K mg base n x S' :=
  let ⟨f, fd, ps, h1, h2, h3, h4⟩ := h.ex; ⟨f, fd, ps, h1, h2, h3, h4.imp fun vs H Q E ⟨W, ds, Qd, a, b, c, d⟩ => ⟨W, ds, Qd, a, b, hi _ _ c, d⟩⟩
/-- __init__ of a way: self.f = value -/
theorem init_ok {qual : Str} {st : Stmt} {g C : Addr} {fd : FuncData} {y f : Str} {k : Nat} {ok : Int → Prop} (F : Fun K "__init__" qual st g fd) (sc : FnScope ["self", y] ["self", y] (defScope st)) (cl : Cls K C) (na : NoAttr K C f)
    (hbody : ∀ (cdv : Value) (A : Around) (outer : List Env) (s : Shared) (H : Hp) (E : XK), Room k (A.deeper (envOfC qual (defScope st) s.heap.objs.size g cdv)) →
      ∃ te t, PSs (cxOf CX0 P w K mg base ["self", y] qual (defScope st) g cdv A outer s H E).nox (defBody st) (sFld K (tVar 0) te f) ∧ LiE K te t ∧ ∀ i, ok i → t [.none, .some (.int i)] fun d => d = .int i) :
    FnOk P w K mg base CX0 (k + 1) g fd ["self", y] (spInitW C f ok) := by
  refine F.ok sc (fun vs H Q E h => ?_) (fun cdv A outer s H vs Q E hr h => ?_)
  · obtain ⟨p, dx, i, rfl, _⟩ := h
    rfl
  obtain ⟨p, dx, i, rfl, hp, hok, q⟩ := h
  obtain ⟨te, t, ps, l, ht⟩ := hbody cdv A outer s H E hr
  refine ⟨_, ps, l (F := fun _ => True) [.none, .some (.int i)] _ ⟨H, H, Same.refl H⟩ _ ⟨rfl, fun j d e => ?_, fun j ds e => ?_, fun j j' ds es _ e _ => ?_, fun _ _ => trivial⟩ (ht i hok) _ fun d v W1 s1 i1 ed => ?_⟩
  · match j, e with
    | 0, e => cases e
    | 1, e =>
      have e' : Dt.int i = d := by cases e; rfl
      subst e'
      exact ⟨.int i, rfl, is_int.mpr rfl⟩
    | j + 2, e => cases e
  · match j, e with
    | 0, e => cases e
    | 1, e => cases e
    | j + 2, e => cases e
  · match j, e with
    | 0, e => cases e
    | 1, e => cases e
    | j + 2, e => cases e
  · subst ed
    obtain rfl := is_int.mp i1
    refine ⟨.ref p, rfl, p, C, dx, [], rfl, s1.h _ _ hp, cl, na, (by show 0 < 1000; decide), ?_⟩
    refine q _ upd_same fun b o hb hbp => ?_
    rw [upd_ne hbp]
    exact s1.h _ _ hb
end
end OD

/-! DATA LAYER, part 2: == and != of data of any depth -/
namespace OD
open PySem PySem.Spec PyProof.Rows L2
theorem iteNE {c : Bool} {A B : Prop} (h : c = true) (hb : B) : if (!c) = true then A else B := by
  subst h
  exact iteF hb
theorem iteNQ {c : Bool} {A B : Prop} (h : c = false) (hb : B) : if c = true then A else B := by
  subst h
  exact iteF hb
mutual
/-- Python's == of data -/
def eqD : Dt → Dt → Bool
  | .non, .non => true
  | .bl a, .bl b => a == b
  | .bl a, .int b => (if a then (1 : Int) else 0) == b
  | .int a, .bl b => a == (if b then (1 : Int) else 0)
  | .int a, .int b => a == b
  | .tup ds, .tup es => eqDs ds es
  | .lst ds, .lst es => eqDs ds es
  | _, _ => false
def eqDs : List Dt → List Dt → Bool
  | [], [] => true
  | d :: ds, e :: es => eqD d e && eqDs ds es
  | _, _ => false
end
/-- at most n deep, of none, bools, ints, tuples, lists -/
def okE : Nat → Dt → Bool
  | _, .non => true
  | _, .bl _ => true
  | _, .int _ => true
  | n + 1, .tup ds => ds.all (okE n)
  | n + 1, .lst ds => ds.all (okE n)
  | _, _ => false
theorem eqD_int (a b : Int) : eqD (.int a) (.int b) = (a == b) := by unfold eqD; rfl
theorem eqD_bl (a b : Bool) : eqD (.bl a) (.bl b) = (a == b) := by unfold eqD; rfl
theorem eqD_tup (ds es : List Dt) : eqD (.tup ds) (.tup es) = eqDs ds es := by rw [eqD]
theorem eqD_lst (ds es : List Dt) : eqD (.lst ds) (.lst es) = eqDs ds es := by rw [eqD]
theorem eqDs_nil : eqDs [] [] = true := by unfold eqDs; rfl
theorem eqDs_cons (d e : Dt) (ds es : List Dt) : eqDs (d :: ds) (e :: es) = (eqD d e && eqDs ds es) := by rw [eqDs]
theorem eqDs_nil_cons (e : Dt) (es : List Dt) : eqDs [] (e :: es) = false := by unfold eqDs; rfl
theorem eqDs_cons_nil (e : Dt) (es : List Dt) : eqDs (e :: es) [] = false := by unfold eqDs; rfl
theorem eqDs_range : ∀ ds es : List Dt, (((List.range (min ds.length es.length)).all fun j => eqD (ds.getD j .non) (es.getD j .non)) && (ds.length == es.length)) = eqDs ds es
  | [], [] => by rw [eqDs_nil]; rfl
  | [], e :: es => by
    rw [eqDs_nil_cons]
    have h : ((([] : List Dt).length == (e :: es).length)) = false := by simp
    rw [h, Bool.and_false]
  | d :: ds, [] => by
    rw [eqDs_cons_nil]
    have h : (((d :: ds).length == ([] : List Dt).length)) = false := by simp
    rw [h, Bool.and_false]
  | d :: ds, e :: es => by
    have ih := eqDs_range ds es
    rw [eqDs_cons, ← ih]
    have hm : min (d :: ds).length (e :: es).length = min ds.length es.length + 1 := by
      rw [List.length_cons, List.length_cons]; omega
    rw [hm, List.range_succ_eq_map, List.all_cons, List.all_map, Bool.and_assoc]
    have hl : ((d :: ds).length == (e :: es).length) = (ds.length == es.length) := by
      rw [List.length_cons, List.length_cons]
      rw [Bool.eq_iff_iff, beq_iff_eq, beq_iff_eq]
      omega
    rw [hl]
    rfl
theorem eqDs_lens {ds es : List Dt} (h : ds.length ≠ es.length) : eqDs ds es = false := by
  rw [← eqDs_range ds es]
  have h : (ds.length == es.length) = false := beq_eq_false_iff_ne.mpr h
  rw [h, Bool.and_false]
theorem eqDs_all {ds es : List Dt} (h : ds.length = es.length) : ((List.range ds.length).all fun j => eqD (ds.getD j .non) (es.getD j .non)) = eqDs ds es := by
  rw [← eqDs_range ds es]
  have h' : (ds.length == es.length) = true := beq_iff_eq.mpr h
  rw [h', Bool.and_true, ← h, Nat.min_self]
theorem eqDs_self : ∀ {ds : List Dt}, (∀ d ∈ ds, eqD d d = true) → eqDs ds ds = true
  | [], _ => eqDs_nil
  | d :: ds, h => by
    rw [eqDs_cons, h d List.mem_cons_self, eqDs_self fun e he => h e (List.mem_cons_of_mem _ he)]
    rfl
theorem eqD_self : ∀ (n : Nat) {d : Dt}, okE n d = true → eqD d d = true := by
  intro n
  induction n with
  | zero =>
    intro d h
    cases d with
    | non => unfold eqD; rfl
    | bl b => rw [eqD_bl]; exact beq_self_eq_true _
    | int b => rw [eqD_int]; exact beq_self_eq_true _
    | _ => simp [okE] at h
  | succ n ih =>
    intro d h
    cases d with
    | non => unfold eqD; rfl
    | bl b => rw [eqD_bl]; exact beq_self_eq_true _
    | int b => rw [eqD_int]; exact beq_self_eq_true _
    | tup ds =>
      rw [eqD_tup]
      have h' : ∀ d ∈ ds, okE n d = true := by simpa [okE] using h
      exact eqDs_self fun d hd => ih (h' d hd)
    | lst ds =>
      rw [eqD_lst]
      have h' : ∀ d ∈ ds, okE n d = true := by simpa [okE] using h
      exact eqDs_self fun d hd => ih (h' d hd)
    | _ => simp [okE] at h
example : eqD (.int ((2 : Nat) : Int)) (.int 2) = true := by rfl
section
variable {X : Cx} {pins : List (Addr × Obj)} {σ : St} {K : PySem.W.Frag} {H : Hp} {s : Shared}
theorem eqs_of : ∀ {ds es : List Dt} {xs : List V}, (∀ d e v, d ∈ ds → e ∈ es → Is K H d v → Is K H e v → eqD d e = true) → AllIs K H ds xs → AllIs K H es xs → eqDs ds es = true
  | [], es, xs, ih, i1, i2 => by
    obtain rfl := allIs_nil.mp i1
    cases es with
    | nil => exact eqDs_nil
    | cons e es => obtain ⟨_, _, z, _⟩ := allIs_cons.mp i2; cases z
  | d :: ds, es, xs, ih, i1, i2 => by
    obtain ⟨x, r, rfl, j1, j2⟩ := allIs_cons.mp i1
    cases es with
    | nil => cases allIs_nil.mp i2
    | cons e es =>
      obtain ⟨y, r', z, k1, k2⟩ := allIs_cons.mp i2
      cases z
      rw [eqDs_cons, ih d e x List.mem_cons_self List.mem_cons_self j1 k1, eqs_of (fun d' e' v' hd he => ih d' e' v' (List.mem_cons_of_mem _ hd) (List.mem_cons_of_mem _ he)) j2 k2]
      rfl
theorem okE_tup {n : Nat} {ds : List Dt} (h : okE n (.tup ds) = true) : ∃ m, n = m + 1 ∧ ∀ d ∈ ds, okE m d = true := by
  cases n with
  | zero => simp [okE] at h
  | succ m => exact ⟨m, rfl, by simpa [okE] using h⟩
theorem okE_lst {n : Nat} {ds : List Dt} (h : okE n (.lst ds) = true) : ∃ m, n = m + 1 ∧ ∀ d ∈ ds, okE m d = true := by
  cases n with
  | zero => simp [okE] at h
  | succ m => exact ⟨m, rfl, by simpa [okE] using h⟩
theorem okE_str {n : Nat} {x : Str} (h : okE n (.str x) = true) : False := by cases n <;> simp [okE] at h
theorem okE_scr {n : Nat} {x : List Int} (h : okE n (.scr x) = true) : False := by cases n <;> simp [okE] at h
theorem okE_way {n : Nat} {C : Addr} {f : Str} {k : Int} (h : okE n (.way C f k) = true) : False := by cases n <;> simp [okE] at h
theorem eq_same : ∀ (n : Nat) {d e : Dt} {v : V}, okE n d = true → okE n e = true → Is K H d v → Is K H e v → eqD d e = true := by
  intro n
  induction n with
  | zero =>
    intro d e v h1 h2 i1 i2
    cases d with
    | tup ds => obtain ⟨_, z, _⟩ := okE_tup h1; cases z
    | lst ds => obtain ⟨_, z, _⟩ := okE_lst h1; cases z
    | str x => exact (okE_str h1).elim
    | scr x => exact (okE_scr h1).elim
    | way C f k => exact (okE_way h1).elim
    | non =>
      obtain rfl := is_non.mp i1
      cases e with
      | non => unfold eqD; rfl
      | bl b => cases is_bl.mp i2
      | int b => cases is_int.mp i2
      | tup es => obtain ⟨_, _, e, _⟩ := is_tup.mp i2; cases e
      | lst es => obtain ⟨_, _, e, _⟩ := is_lst.mp i2; cases e
      | str x => exact (okE_str h2).elim
      | scr x => exact (okE_scr h2).elim
      | way C f k => exact (okE_way h2).elim
    | bl a =>
      obtain rfl := is_bl.mp i1
      cases e with
      | non => cases is_non.mp i2
      | bl b => cases is_bl.mp i2; rw [eqD_bl]; exact beq_self_eq_true _
      | int b => cases is_int.mp i2
      | tup es => obtain ⟨_, _, e, _⟩ := is_tup.mp i2; cases e
      | lst es => obtain ⟨_, _, e, _⟩ := is_lst.mp i2; cases e
      | str x => exact (okE_str h2).elim
      | scr x => exact (okE_scr h2).elim
      | way C f k => exact (okE_way h2).elim
    | int a =>
      obtain rfl := is_int.mp i1
      cases e with
      | non => cases is_non.mp i2
      | bl b => cases is_bl.mp i2
      | int b => cases is_int.mp i2; rw [eqD_int]; exact beq_self_eq_true _
      | tup es => obtain ⟨_, _, e, _⟩ := is_tup.mp i2; cases e
      | lst es => obtain ⟨_, _, e, _⟩ := is_lst.mp i2; cases e
      | str x => exact (okE_str h2).elim
      | scr x => exact (okE_scr h2).elim
      | way C f k => exact (okE_way h2).elim
  | succ n ih =>
    intro d e v h1 h2 i1 i2
    cases d with
    | str x => exact (okE_str h1).elim
    | scr x => exact (okE_scr h1).elim
    | way C f k => exact (okE_way h1).elim
    | non =>
      obtain rfl := is_non.mp i1
      cases e with
      | non => unfold eqD; rfl
      | bl b => cases is_bl.mp i2
      | int b => cases is_int.mp i2
      | tup es => obtain ⟨_, _, e, _⟩ := is_tup.mp i2; cases e
      | lst es => obtain ⟨_, _, e, _⟩ := is_lst.mp i2; cases e
      | str x => exact (okE_str h2).elim
      | scr x => exact (okE_scr h2).elim
      | way C f k => exact (okE_way h2).elim
    | bl a =>
      obtain rfl := is_bl.mp i1
      cases e with
      | non => cases is_non.mp i2
      | bl b => cases is_bl.mp i2; rw [eqD_bl]; exact beq_self_eq_true _
      | int b => cases is_int.mp i2
      | tup es => obtain ⟨_, _, e, _⟩ := is_tup.mp i2; cases e
      | lst es => obtain ⟨_, _, e, _⟩ := is_lst.mp i2; cases e
      | str x => exact (okE_str h2).elim
      | scr x => exact (okE_scr h2).elim
      | way C f k => exact (okE_way h2).elim
    | int a =>
      obtain rfl := is_int.mp i1
      cases e with
      | non => cases is_non.mp i2
      | bl b => cases is_bl.mp i2
      | int b => cases is_int.mp i2; rw [eqD_int]; exact beq_self_eq_true _
      | tup es => obtain ⟨_, _, e, _⟩ := is_tup.mp i2; cases e
      | lst es => obtain ⟨_, _, e, _⟩ := is_lst.mp i2; cases e
      | str x => exact (okE_str h2).elim
      | scr x => exact (okE_scr h2).elim
      | way C f k => exact (okE_way h2).elim
    | tup ds =>
      obtain ⟨a, xs, rfl, hx, ha⟩ := is_tup.mp i1
      obtain ⟨m, em, hd⟩ := okE_tup h1
      cases em
      cases e with
      | non => cases is_non.mp i2
      | bl b => cases is_bl.mp i2
      | int b => cases is_int.mp i2
      | tup es =>
        obtain ⟨b, ys, eb, hy, hb⟩ := is_tup.mp i2
        cases eb
        rw [hx] at hy
        cases hy
        obtain ⟨m, em, he⟩ := okE_tup h2
        cases em
        rw [eqD_tup]
        exact eqs_of (fun d e v q1 q2 => ih (hd d q1) (he e q2)) ha hb
      | lst es =>
        obtain ⟨b, ys, eb, hy, hb⟩ := is_lst.mp i2
        cases eb
        rw [hx] at hy
        cases hy
      | str x => exact (okE_str h2).elim
      | scr x => exact (okE_scr h2).elim
      | way C f k => exact (okE_way h2).elim
    | lst ds =>
      obtain ⟨a, xs, rfl, hx, ha⟩ := is_lst.mp i1
      obtain ⟨m, em, hd⟩ := okE_lst h1
      cases em
      cases e with
      | non => cases is_non.mp i2
      | bl b => cases is_bl.mp i2
      | int b => cases is_int.mp i2
      | lst es =>
        obtain ⟨b, ys, eb, hy, hb⟩ := is_lst.mp i2
        cases eb
        rw [hx] at hy
        cases hy
        obtain ⟨m, em, he⟩ := okE_lst h2
        cases em
        rw [eqD_lst]
        exact eqs_of (fun d e v q1 q2 => ih (hd d q1) (he e q2)) ha hb
      | tup es =>
        obtain ⟨b, ys, eb, hy, hb⟩ := is_tup.mp i2
        cases eb
        rw [hx] at hy
        cases hy
      | str x => exact (okE_str h2).elim
      | scr x => exact (okE_scr h2).elim
      | way C f k => exact (okE_way h2).elim
/-- the items of two sequences, place by place -/
theorem items_eq {n : Nat} {A : Around} {ds es : List Dt} {xs ys : List V} {its its2 : List Value}
    (ih : ∀ {d e : Dt} {x y : V} {v u : Value}, okE n d = true → okE n e = true → Is K H d x → Is K H e y → RelV x v → RelV y u → SeqAt.EqAt A s v u (eqD d e))
    (hd : ∀ d ∈ ds, okE n d = true) (he : ∀ d ∈ es, okE n d = true) (a1 : AllIs K H ds xs) (a2 : AllIs K H es ys) (r1 : Vals xs its) (r2 : Vals ys its2) :
    ∀ j (h1 : j < its.toArray.size) (h2 : j < its2.toArray.size), SeqAt.EqAt A s its.toArray[j] its2.toArray[j] (eqD (ds.getD j .non) (es.getD j .non)) := by
  intro j h1 h2
  have l1 := a1.length.trans r1.length
  have l2 := a2.length.trans r2.length
  rw [List.size_toArray] at h1 h2
  have g1 : ds[j]? = some ds[j] := List.getElem?_eq_getElem (by omega)
  have g2 : es[j]? = some es[j] := List.getElem?_eq_getElem (by omega)
  obtain ⟨x, e1, i1⟩ := a1.get g1
  obtain ⟨y, e2, i2⟩ := a2.get g2
  obtain ⟨v, e3, q1⟩ := r1.get e1
  obtain ⟨u, e4, q2⟩ := r2.get e2
  have f1 : ds.getD j .non = ds[j] := by rw [List.getD_eq_getElem?_getD, g1]; rfl
  have f2 : es.getD j .non = es[j] := by rw [List.getD_eq_getElem?_getD, g2]; rfl
  have f3 : its.toArray[j] = v := by
    have z : its[j]? = some its[j] := List.getElem?_eq_getElem h1
    rw [z] at e3
    simpa using Option.some.inj e3
  have f4 : its2.toArray[j] = u := by
    have z : its2[j]? = some its2[j] := List.getElem?_eq_getElem h2
    rw [z] at e4
    simpa using Option.some.inj e4
  rw [f1, f2, f3, f4]
  exact ih (hd _ (List.mem_of_getElem? g1)) (he _ (List.mem_of_getElem? g2)) i1 i2 q1 q2
theorem eq_at (I : Inv X pins σ H s) : ∀ (n : Nat) {A : Around} {d e : Dt} {x y : V} {v u : Value}, A.units + n < cLine → okE n d = true → okE n e = true → Is X.K H d x → Is X.K H e y → RelV x v → RelV y u → SeqAt.EqAt A s v u (eqD d e) := by
  intro n
  induction n with
  | zero =>
    intro A d e x y v u hu h1 h2 i1 i2 q1 q2
    cases d with
    | tup ds => obtain ⟨_, z, _⟩ := okE_tup h1; cases z
    | lst ds => obtain ⟨_, z, _⟩ := okE_lst h1; cases z
    | str x => exact (okE_str h1).elim
    | scr x => exact (okE_scr h1).elim
    | way C f k => exact (okE_way h1).elim
    | non =>
      obtain rfl := is_non.mp i1
      cases e with
      | non => obtain rfl := is_non.mp i2; exact eqAt_V q1 q2 rfl rfl
      | bl b => obtain rfl := is_bl.mp i2; exact eqAt_V q1 q2 rfl rfl
      | int b => obtain rfl := is_int.mp i2; exact eqAt_V q1 q2 rfl rfl
      | tup es => obtain ⟨_, z, _⟩ := okE_tup h2; cases z
      | lst es => obtain ⟨_, z, _⟩ := okE_lst h2; cases z
      | str x => exact (okE_str h2).elim
      | scr x => exact (okE_scr h2).elim
      | way C f k => exact (okE_way h2).elim
    | bl a =>
      obtain rfl := is_bl.mp i1
      cases e with
      | non => obtain rfl := is_non.mp i2; exact eqAt_V q1 q2 rfl rfl
      | bl b => obtain rfl := is_bl.mp i2; exact eqAt_V q1 q2 rfl rfl
      | int b => obtain rfl := is_int.mp i2; exact eqAt_V q1 q2 rfl rfl
      | tup es => obtain ⟨_, z, _⟩ := okE_tup h2; cases z
      | lst es => obtain ⟨_, z, _⟩ := okE_lst h2; cases z
      | str x => exact (okE_str h2).elim
      | scr x => exact (okE_scr h2).elim
      | way C f k => exact (okE_way h2).elim
    | int a =>
      obtain rfl := is_int.mp i1
      cases e with
      | non => obtain rfl := is_non.mp i2; exact eqAt_V q1 q2 rfl rfl
      | bl b => obtain rfl := is_bl.mp i2; exact eqAt_V q1 q2 rfl rfl
      | int b => obtain rfl := is_int.mp i2; exact eqAt_V q1 q2 rfl rfl
      | tup es => obtain ⟨_, z, _⟩ := okE_tup h2; cases z
      | lst es => obtain ⟨_, z, _⟩ := okE_lst h2; cases z
      | str x => exact (okE_str h2).elim
      | scr x => exact (okE_scr h2).elim
      | way C f k => exact (okE_way h2).elim
  | succ n ih =>
    intro A d e x y v u hu h1 h2 i1 i2 q1 q2
    have hA : A.units < cLine := by omega
    have hu' : A.in1.units + n < cLine := by show A.units + 1 + n < cLine; omega
    cases d with
    | str x => exact (okE_str h1).elim
    | scr x => exact (okE_scr h1).elim
    | way C f k => exact (okE_way h1).elim
    | non =>
      obtain rfl := is_non.mp i1
      cases e with
      | non => obtain rfl := is_non.mp i2; exact eqAt_V q1 q2 rfl rfl
      | bl b => obtain rfl := is_bl.mp i2; exact eqAt_V q1 q2 rfl rfl
      | int b => obtain rfl := is_int.mp i2; exact eqAt_V q1 q2 rfl rfl
      | tup es =>
        obtain ⟨b, ys, rfl, hy, hb⟩ := is_tup.mp i2
        obtain ⟨its2, r2, t2, _⟩ := I.tuple (.of hy)
        cases q1; cases q2
        exact SeqAt.EqAt.none_tuple t2 hA
      | lst es =>
        obtain ⟨b, ys, rfl, hy, hb⟩ := is_lst.mp i2
        obtain ⟨its2, r2, t2, _⟩ := I.list (.of hy)
        cases q1; cases q2
        exact SeqAt.EqAt.none_list t2.isList hA
      | str x => exact (okE_str h2).elim
      | scr x => exact (okE_scr h2).elim
      | way C f k => exact (okE_way h2).elim
    | bl a =>
      obtain rfl := is_bl.mp i1
      cases e with
      | non => obtain rfl := is_non.mp i2; exact eqAt_V q1 q2 rfl rfl
      | bl b => obtain rfl := is_bl.mp i2; exact eqAt_V q1 q2 rfl rfl
      | int b => obtain rfl := is_int.mp i2; exact eqAt_V q1 q2 rfl rfl
      | tup es =>
        obtain ⟨b, ys, rfl, hy, hb⟩ := is_tup.mp i2
        obtain ⟨its2, r2, t2, _⟩ := I.tuple (.of hy)
        cases q1; cases q2
        exact SeqAt.EqAt.bool_tuple a t2 hA
      | lst es =>
        obtain ⟨b, ys, rfl, hy, hb⟩ := is_lst.mp i2
        obtain ⟨its2, r2, t2, _⟩ := I.list (.of hy)
        cases q1; cases q2
        exact SeqAt.EqAt.bool_list a t2.isList hA
      | str x => exact (okE_str h2).elim
      | scr x => exact (okE_scr h2).elim
      | way C f k => exact (okE_way h2).elim
    | int a =>
      obtain rfl := is_int.mp i1
      cases e with
      | non => obtain rfl := is_non.mp i2; exact eqAt_V q1 q2 rfl rfl
      | bl b => obtain rfl := is_bl.mp i2; exact eqAt_V q1 q2 rfl rfl
      | int b => obtain rfl := is_int.mp i2; exact eqAt_V q1 q2 rfl rfl
      | tup es =>
        obtain ⟨b, ys, rfl, hy, hb⟩ := is_tup.mp i2
        obtain ⟨its2, r2, t2, _⟩ := I.tuple (.of hy)
        obtain ⟨t, rfl⟩ := q1; cases q2
        exact SeqAt.EqAt.int_tuple a t t2 hA
      | lst es =>
        obtain ⟨b, ys, rfl, hy, hb⟩ := is_lst.mp i2
        obtain ⟨its2, r2, t2, _⟩ := I.list (.of hy)
        obtain ⟨t, rfl⟩ := q1; cases q2
        exact SeqAt.EqAt.int_list a t t2.isList hA
      | str x => exact (okE_str h2).elim
      | scr x => exact (okE_scr h2).elim
      | way C f k => exact (okE_way h2).elim
    | tup ds =>
      obtain ⟨a, xs, rfl, hx, ha⟩ := is_tup.mp i1
      obtain ⟨m, em, hd⟩ := okE_tup h1
      cases em
      obtain ⟨its, r1, t1, _⟩ := I.tuple (.of hx)
      cases q1
      cases e with
      | non => obtain rfl := is_non.mp i2; cases q2; exact SeqAt.EqAt.tuple_none t1 hA
      | bl b => obtain rfl := is_bl.mp i2; cases q2; exact SeqAt.EqAt.tuple_bool b t1 hA
      | int b => obtain rfl := is_int.mp i2; obtain ⟨t, rfl⟩ := q2; exact SeqAt.EqAt.tuple_int b t t1 hA
      | tup es =>
        have i2' := i2
        obtain ⟨b, ys, rfl, hy, hb⟩ := is_tup.mp i2
        obtain ⟨its2, r2, t2, _⟩ := I.tuple (.of hy)
        cases q2
        by_cases hab : a = b
        · subst hab
          rw [eq_same _ h1 h2 i1 i2']
          exact SeqAt.EqAt.same _
        · obtain ⟨m', em, he⟩ := okE_tup h2
          cases em
          have q := SeqAt.RcAt.tuples t1 t2 hA (items_eq (fun {d e x y v u} => ih (A := A.in1) hu') hd he ha hb r1 r2)
          rw [List.size_toArray, List.size_toArray, ← r1.length, ← r2.length, ← ha.length, ← hb.length, eqDs_range] at q
          rw [eqD_tup]
          exact .of_refs hab q
      | lst es =>
        obtain ⟨b, ys, rfl, hy, hb⟩ := is_lst.mp i2
        obtain ⟨its2, r2, t2, _⟩ := I.list (.of hy)
        cases q2
        exact SeqAt.EqAt.tuple_list t1 t2.isList hA
      | str x => exact (okE_str h2).elim
      | scr x => exact (okE_scr h2).elim
      | way C f k => exact (okE_way h2).elim
    | lst ds =>
      obtain ⟨a, xs, rfl, hx, ha⟩ := is_lst.mp i1
      obtain ⟨m, em, hd⟩ := okE_lst h1
      cases em
      obtain ⟨its, r1, t1, _⟩ := I.list (.of hx)
      cases q1
      cases e with
      | non => obtain rfl := is_non.mp i2; cases q2; exact SeqAt.EqAt.list_none t1.isList hA
      | bl b => obtain rfl := is_bl.mp i2; cases q2; exact SeqAt.EqAt.list_bool b t1.isList hA
      | int b => obtain rfl := is_int.mp i2; obtain ⟨t, rfl⟩ := q2; exact SeqAt.EqAt.list_int b t t1.isList hA
      | lst es =>
        have i2' := i2
        obtain ⟨b, ys, rfl, hy, hb⟩ := is_lst.mp i2
        obtain ⟨its2, r2, t2, _⟩ := I.list (.of hy)
        cases q2
        by_cases hab : a = b
        · subst hab
          rw [eq_same _ h1 h2 i1 i2']
          exact SeqAt.EqAt.same _
        · obtain ⟨m', em, he⟩ := okE_lst h2
          cases em
          rw [eqD_lst]
          have l1 := ha.length.trans r1.length
          have l2 := hb.length.trans r2.length
          by_cases hl : ds.length = es.length
          · have q := SeqAt.RcAt.lists t1.isList t2.isList (by rw [List.size_toArray, List.size_toArray]; omega) hA (items_eq (fun {d e x y v u} => ih (A := A.in1) hu') hd he ha hb r1 r2)
            rw [List.size_toArray, ← l1, eqDs_all hl] at q
            exact .of_refs hab q
          · have q := SeqAt.RcAt.lists_lengths t1.isList t2.isList (by rw [List.size_toArray, List.size_toArray, bne_iff_ne]; omega) hA
            rw [eqDs_lens hl]
            exact .of_refs hab q
      | tup es =>
        obtain ⟨b, ys, rfl, hy, hb⟩ := is_tup.mp i2
        obtain ⟨its2, r2, t2, _⟩ := I.tuple (.of hy)
        cases q2
        exact SeqAt.EqAt.list_tuple t1.isList t2 hA
      | str x => exact (okE_str h2).elim
      | scr x => exact (okE_scr h2).elim
      | way C f k => exact (okE_way h2).elim
/-- == and != themselves -/
theorem rc_at (I : Inv X pins σ H s) {n : Nat} {A : Around} {d e : Dt} {x y : V} {v u : Value} (hu : A.units + (n + 1) < cLine) (h1 : okE (n + 1) d = true) (h2 : okE (n + 1) e = true) (i1 : Is X.K H d x) (i2 : Is X.K H e y) (q1 : RelV x v) (q2 : RelV y u) :
    SeqAt.RcAt A s v u (eqD d e) ∧ SeqAt.RcNeAt A s v u (!eqD d e) := by
  have hA : A.units < cLine := by omega
  have hu' : A.in1.units + n < cLine := by show A.units + 1 + n < cLine; omega
  have ih := fun {d e : Dt} {x y : V} {v u : Value} => eq_at I n (A := A.in1) (d := d) (e := e) (x := x) (y := y) (v := v) (u := u) hu'
  cases d with
  | str x => exact (okE_str h1).elim
  | scr x => exact (okE_scr h1).elim
  | way C f k => exact (okE_way h1).elim
  | non =>
    obtain rfl := is_non.mp i1
    cases q1
    cases e with
    | non => obtain rfl := is_non.mp i2; cases q2; exact ⟨SeqAt.RcAt.none_none, SeqAt.RcNeAt.none_none⟩
    | bl b => obtain rfl := is_bl.mp i2; cases q2; exact ⟨SeqAt.RcAt.none_bool b, SeqAt.RcNeAt.none_bool b⟩
    | int b => obtain rfl := is_int.mp i2; obtain ⟨t, rfl⟩ := q2; exact ⟨SeqAt.RcAt.none_int b t, SeqAt.RcNeAt.none_int b t⟩
    | tup es =>
      obtain ⟨b, ys, rfl, hy, hb⟩ := is_tup.mp i2
      obtain ⟨its2, r2, t2, _⟩ := I.tuple (.of hy)
      cases q2
      exact ⟨SeqAt.RcAt.none_tuple t2 hA, SeqAt.RcNeAt.none_tuple t2 hA⟩
    | lst es =>
      obtain ⟨b, ys, rfl, hy, hb⟩ := is_lst.mp i2
      obtain ⟨its2, r2, t2, _⟩ := I.list (.of hy)
      cases q2
      exact ⟨SeqAt.RcAt.none_list t2.isList hA, SeqAt.RcNeAt.none_list t2.isList hA⟩
    | str x => exact (okE_str h2).elim
    | scr x => exact (okE_scr h2).elim
    | way C f k => exact (okE_way h2).elim
  | bl a =>
    obtain rfl := is_bl.mp i1
    cases q1
    cases e with
    | non => obtain rfl := is_non.mp i2; cases q2; exact ⟨SeqAt.RcAt.bool_none a, SeqAt.RcNeAt.bool_none a⟩
    | bl b => obtain rfl := is_bl.mp i2; cases q2; exact ⟨SeqAt.RcAt.bool_bool a b, SeqAt.RcNeAt.bool_bool a b⟩
    | int b => obtain rfl := is_int.mp i2; obtain ⟨t, rfl⟩ := q2; exact ⟨SeqAt.RcAt.bool_int a b t, SeqAt.RcNeAt.bool_int a b t⟩
    | tup es =>
      obtain ⟨b, ys, rfl, hy, hb⟩ := is_tup.mp i2
      obtain ⟨its2, r2, t2, _⟩ := I.tuple (.of hy)
      cases q2
      exact ⟨SeqAt.RcAt.bool_tuple a t2 hA, SeqAt.RcNeAt.bool_tuple a t2 hA⟩
    | lst es =>
      obtain ⟨b, ys, rfl, hy, hb⟩ := is_lst.mp i2
      obtain ⟨its2, r2, t2, _⟩ := I.list (.of hy)
      cases q2
      exact ⟨SeqAt.RcAt.bool_list a t2.isList hA, SeqAt.RcNeAt.bool_list a t2.isList hA⟩
    | str x => exact (okE_str h2).elim
    | scr x => exact (okE_scr h2).elim
    | way C f k => exact (okE_way h2).elim
  | int a =>
    obtain rfl := is_int.mp i1
    obtain ⟨ta, rfl⟩ := q1
    cases e with
    | non => obtain rfl := is_non.mp i2; cases q2; exact ⟨SeqAt.RcAt.int_none a ta, SeqAt.RcNeAt.int_none a ta⟩
    | bl b => obtain rfl := is_bl.mp i2; cases q2; exact ⟨SeqAt.RcAt.int_bool a ta b, SeqAt.RcNeAt.int_bool a ta b⟩
    | int b => obtain rfl := is_int.mp i2; obtain ⟨t, rfl⟩ := q2; exact ⟨SeqAt.RcAt.int_int a ta b t, SeqAt.RcNeAt.int_int a ta b t⟩
    | tup es =>
      obtain ⟨b, ys, rfl, hy, hb⟩ := is_tup.mp i2
      obtain ⟨its2, r2, t2, _⟩ := I.tuple (.of hy)
      cases q2
      exact ⟨SeqAt.RcAt.int_tuple a ta t2 hA, SeqAt.RcNeAt.int_tuple a ta t2 hA⟩
    | lst es =>
      obtain ⟨b, ys, rfl, hy, hb⟩ := is_lst.mp i2
      obtain ⟨its2, r2, t2, _⟩ := I.list (.of hy)
      cases q2
      exact ⟨SeqAt.RcAt.int_list a ta t2.isList hA, SeqAt.RcNeAt.int_list a ta t2.isList hA⟩
    | str x => exact (okE_str h2).elim
    | scr x => exact (okE_scr h2).elim
    | way C f k => exact (okE_way h2).elim
  | tup ds =>
    obtain ⟨a, xs, rfl, hx, ha⟩ := is_tup.mp i1
    obtain ⟨m, em, hd⟩ := okE_tup h1
    cases em
    obtain ⟨its, r1, t1, _⟩ := I.tuple (.of hx)
    cases q1
    cases e with
    | non => obtain rfl := is_non.mp i2; cases q2; exact ⟨SeqAt.RcAt.tuple_none t1 hA, SeqAt.RcNeAt.tuple_none t1 hA⟩
    | bl b => obtain rfl := is_bl.mp i2; cases q2; exact ⟨SeqAt.RcAt.tuple_bool b t1 hA, SeqAt.RcNeAt.tuple_bool b t1 hA⟩
    | int b => obtain rfl := is_int.mp i2; obtain ⟨t, rfl⟩ := q2; exact ⟨SeqAt.RcAt.tuple_int b t t1 hA, SeqAt.RcNeAt.tuple_int b t t1 hA⟩
    | tup es =>
      obtain ⟨b, ys, rfl, hy, hb⟩ := is_tup.mp i2
      obtain ⟨its2, r2, t2, _⟩ := I.tuple (.of hy)
      cases q2
      obtain ⟨m', em, he⟩ := okE_tup h2
      cases em
      have it := items_eq (A := A.in1) ih hd he ha hb r1 r2
      have q := SeqAt.RcAt.tuples t1 t2 hA it
      have q' := SeqAt.RcNeAt.tuples t1 t2 hA it
      rw [List.size_toArray, List.size_toArray, ← r1.length, ← r2.length, ← ha.length, ← hb.length, eqDs_range] at q q'
      rw [eqD_tup]
      exact ⟨q, q'⟩
    | lst es =>
      obtain ⟨b, ys, rfl, hy, hb⟩ := is_lst.mp i2
      obtain ⟨its2, r2, t2, _⟩ := I.list (.of hy)
      cases q2
      exact ⟨SeqAt.RcAt.tuple_list t1 t2.isList hA, SeqAt.RcNeAt.tuple_list t1 t2.isList hA⟩
    | str x => exact (okE_str h2).elim
    | scr x => exact (okE_scr h2).elim
    | way C f k => exact (okE_way h2).elim
  | lst ds =>
    obtain ⟨a, xs, rfl, hx, ha⟩ := is_lst.mp i1
    obtain ⟨m, em, hd⟩ := okE_lst h1
    cases em
    obtain ⟨its, r1, t1, _⟩ := I.list (.of hx)
    cases q1
    cases e with
    | non => obtain rfl := is_non.mp i2; cases q2; exact ⟨SeqAt.RcAt.list_none t1.isList hA, SeqAt.RcNeAt.list_none t1.isList hA⟩
    | bl b => obtain rfl := is_bl.mp i2; cases q2; exact ⟨SeqAt.RcAt.list_bool b t1.isList hA, SeqAt.RcNeAt.list_bool b t1.isList hA⟩
    | int b => obtain rfl := is_int.mp i2; obtain ⟨t, rfl⟩ := q2; exact ⟨SeqAt.RcAt.list_int b t t1.isList hA, SeqAt.RcNeAt.list_int b t t1.isList hA⟩
    | lst es =>
      obtain ⟨b, ys, rfl, hy, hb⟩ := is_lst.mp i2
      obtain ⟨its2, r2, t2, _⟩ := I.list (.of hy)
      cases q2
      obtain ⟨m', em, he⟩ := okE_lst h2
      cases em
      rw [eqD_lst]
      have l1 := ha.length.trans r1.length
      have l2 := hb.length.trans r2.length
      by_cases hl : ds.length = es.length
      · have it := items_eq (A := A.in1) ih hd he ha hb r1 r2
        have q := SeqAt.RcAt.lists t1.isList t2.isList (by rw [List.size_toArray, List.size_toArray]; omega) hA it
        have q' := SeqAt.RcNeAt.lists t1.isList t2.isList (by rw [List.size_toArray, List.size_toArray]; omega) hA it
        rw [List.size_toArray, ← l1, eqDs_all hl] at q q'
        exact ⟨q, q'⟩
      · have q := SeqAt.RcAt.lists_lengths t1.isList t2.isList (by rw [List.size_toArray, List.size_toArray, bne_iff_ne]; omega) hA
        have q' := SeqAt.RcNeAt.lists_lengths t1.isList t2.isList (by rw [List.size_toArray, List.size_toArray, bne_iff_ne]; omega) hA
        rw [eqDs_lens hl]
        exact ⟨q, q'⟩
    | tup es =>
      obtain ⟨b, ys, rfl, hy, hb⟩ := is_tup.mp i2
      obtain ⟨its2, r2, t2, _⟩ := I.tuple (.of hy)
      cases q2
      exact ⟨SeqAt.RcAt.list_tuple t1.isList t2 hA, SeqAt.RcNeAt.list_tuple t1.isList t2 hA⟩
    | str x => exact (okE_str h2).elim
    | scr x => exact (okE_scr h2).elim
    | way C f k => exact (okE_way h2).elim
def gEq : Dt → Dt → (Dt → Prop) → Prop := fun d e Q => okE 40 d = true ∧ okE 40 e = true ∧ Q (.bl (eqD d e))
def gNe : Dt → Dt → (Dt → Prop) → Prop := fun d e Q => okE 40 d = true ∧ okE 40 e = true ∧ Q (.bl (!eqD d e))
theorem o_eq {k : Nat} (hr : Room k X.A) : DOp X (compareOp .Eq) gEq := by
  refine ⟨fun x y H Q => ∃ d e, Is X.K H d x ∧ Is X.K H e y ∧ okE 40 d = true ∧ okE 40 e = true ∧ Q (.bl (eqD d e)) H, fun pins s σ H x y v u Q I rx ry h => ?_, fun H x y d e Q i1 i2 q R k => ⟨d, e, Is.mono0 H.sub i1, Is.mono0 H.sub i2, q.1, q.2.1, k _ _ H (Le.refl H) (is_bl.mpr rfl) q.2.2⟩⟩
  obtain ⟨d, e, i1, i2, h1, h2, q⟩ := h
  have hu := hr.units
  exact (rc_at (n := 39) I (A := X.A) (by omega) h1 h2 i1 i2 rx ry).1 _ _ _ _ ⟨.bl _, H, I, rfl, q⟩
theorem o_ne {k : Nat} (hr : Room k X.A) : DOp X (compareOp .NotEq) gNe := by
  refine ⟨fun x y H Q => ∃ d e, Is X.K H d x ∧ Is X.K H e y ∧ okE 40 d = true ∧ okE 40 e = true ∧ Q (.bl (!eqD d e)) H, fun pins s σ H x y v u Q I rx ry h => ?_, fun H x y d e Q i1 i2 q R k => ⟨d, e, Is.mono0 H.sub i1, Is.mono0 H.sub i2, q.1, q.2.1, k _ _ H (Le.refl H) (is_bl.mpr rfl) q.2.2⟩⟩
  obtain ⟨d, e, i1, i2, h1, h2, q⟩ := h
  have hu := hr.units
  exact (rc_at (n := 39) I (A := X.A) (by omega) h1 h2 i1 i2 rx ry).2 _ _ _ _ ⟨.bl _, H, I, rfl, q⟩
/-- in a tuple of ints -/
def allInts : List Dt → Option (List Int)
  | [] => some []
  | .int i :: r => (allInts r).map (i :: ·)
  | _ => none
theorem allInts_is : ∀ {ds : List Dt} {ns : List Int} {xs : List V}, allInts ds = some ns → AllIs K H ds xs → xs = ns.map V.int
  | [], ns, xs, e, h => by
    cases e
    exact allIs_nil.mp h
  | d :: ds, ns, xs, e, h => by
    cases d with
    | int i =>
      obtain ⟨ms, e1, e2⟩ := Option.map_eq_some_iff.mp (show (allInts ds).map (i :: ·) = some ns from e)
      obtain ⟨x, r, rfl, h1, h2⟩ := allIs_cons.mp h
      rw [allInts_is e1 h2, is_int.mp h1, ← e2]
      rfl
    | _ => cases e
theorem inV_ints (i : Int) : ∀ ns : List Int, inV (.int i) (ns.map V.int) = ns.any fun a => a == i
  | [] => rfl
  | n :: ns => by
    have ih := inV_ints i ns
    unfold inV at ih ⊢
    rw [List.map_cons, List.any_cons, List.any_cons, ih]
    rfl
theorem flat_ints : ∀ ns : List Int, (ns.map V.int).all flatV = true
  | [] => rfl
  | n :: ns => by rw [List.map_cons, List.all_cons, flat_ints ns]; rfl
theorem o_in : DOp X (compareOp .In) (fun d e Q => ∃ i ds ns, d = .int i ∧ seqOf e = some ds ∧ allInts ds = some ns ∧ Q (.bl (ns.any fun a => a == i))) := by
  refine ⟨_, op_in_seq, fun H x y d e Q i1 i2 q R k => ?_⟩
  obtain ⟨i, ds, ns, rfl, e1, e2, q⟩ := q
  obtain ⟨p, xs, rfl, h1, h2⟩ := seq_is i2 e1
  obtain rfl := allInts_is e2 h2
  obtain rfl := is_int.mp i1
  refine ⟨p, _, rfl, h1, rfl, flat_ints ns, ?_⟩
  show R (.bl (inV (.int i) (ns.map V.int))) H.h
  rw [inV_ints]
  exact k _ _ H (Le.refl H) (is_bl.mpr rfl) q
end
end OD

/-! DATA LAYER, part 3: comprehensions «[elt for x in list]» without a test, whose element names x, globals and nothing else -/
namespace OD
open PySem PySem.Spec PyProof.Rows L2
/-- the context of a comprehension's block -/
def cxComp (X : Cx) (scope : Scope) (x : Str) (C : Addr) (s : Shared) (H : Hp) (fp : List Addr) (pins : List (Addr × Obj)) : Cx where
  prog := X.prog
  w := X.w
  K := X.K
  mg := X.mg
  base := X.base
  A := X.A
  N := [x]
  s₀ := s
  H₀ := H
  env := compEnv scope C X.env
  outer := X.stack
  stack := X.stack
  ex := fp
  fn := fun _ => true
  calm := X.calm
  pn := X.pn ++ pins
  xe := fun _ _ => False
structure CompSc (scope : Scope) (x : Str) : Prop where
  free : ∀ y ∈ scope.names, y.2 ≠ .free
  cell : ∀ y ∈ scope.names, y.2 ≠ .cell
  kind : scope.kind = .function
  names : ∀ y ∈ scope.names, y.2 = .local → scope.names.lookup y.1 = some .local
  loc : scope.names.lookup x = some .local
section
variable {X : Cx} {pins : List (Addr × Obj)} {σ : St} {H : Hp} {s : Shared} {scope : Scope} {x : Str} {fp : List Addr}
theorem inv_comp {h₁ : Heap} {t : Nat} {m : Str → Option Value} (I : Inv X pins σ H s) (S : CompSc scope x) (hfp : ∀ b ∈ fp, FpOk X pins H b) (hob : ∀ b ∈ fp, ∃ o, s.heap.get? b = some o)
    (hn : h₁.Ns s.heap.objs.size m) (hk : ∀ b o, s.heap.get? b = some o → h₁.get? b = some o) : Inv (cxComp X scope x s.heap.objs.size s H fp pins) [] [none] H { s with heap := h₁, toks := t } := by
  refine ⟨⟨I.ok.mod, S.kind, I.ok.glob, I.ok.blt, Nat.le_refl _, fun y z c h1 _ => ?_, fun y hy => ?_, fun y c _ h => ?_, I.ok.hd, I.ok.frames, .inl rfl, fun b hb => ⟨?_, fun y c h => ?_⟩, I.bs, Nat.le_trans I.ok.bsz I.sz, fun b o e hb => ?_, fun b hb z => ?_, I.stack, I.stkFree⟩,
    rfl, I.bare, Un.kept hk, ⟨_, hn, fun i y v _ h2 _ => ?_⟩, fun y c h => ?_, I.hok.fresh (Nat.le_refl _), fun y c h => ?_, fun p hp => ?_, I.hok.kept hk, rfl⟩
  · cases h1
  · have hy : scope.names.lookup y = some .cell ∨ scope.names.lookup y = some .free := hy
    rcases hy with hy | hy
    · exact absurd rfl (S.cell _ (PySem.mem_of_lookup hy))
    · exact absurd rfl (S.free _ (PySem.mem_of_lookup hy))
  · cases h
  · obtain ⟨o, e⟩ := hob b hb
    exact Nat.ne_of_lt (Heap.lt_size e)
  · cases h
  · obtain ⟨_, _, _, h4, _⟩ := hfp b hb
    rcases h4 with h4 | h4
    · exact I.ok.noex b o e h4
    · exact absurd (Nat.lt_of_lt_of_le (Heap.lt_size e) (Nat.le_trans I.ok.bsz h4)) (Nat.lt_irrefl _)
  · obtain ⟨_, h2, h3, _⟩ := hfp b hb
    rcases List.mem_cons.mp (I.stkSub b z) with q | q
    · exact h2 q
    · exact h3 q
  · match i, h2 with
    | 0, h2 => cases h2
    | i + 1, h2 => cases h2
  · cases h
  · cases h
  · have hp : p ∈ X.pn ++ pins := by
      rcases List.mem_append.mp hp with q | q
      · exact q
      · cases q
    obtain ⟨h1, h2, h3, h4, h5⟩ := I.pin p hp
    refine ⟨hk _ _ h1, h2, Nat.ne_of_lt (Heap.lt_size h1), fun z => ?_, h5⟩
    rcases List.mem_cons.mp (I.stkSub _ z) with q | q
    · exact h3 q
    · exact h4 q
/-- back from the block -/
theorem inv_back {C : Addr} {σ' : St} {H' : Hp} {s' : Shared} (I : Inv X pins σ H s) (hfp : ∀ b ∈ fp, FpOk X pins H b) (I' : Inv (cxComp X scope x C s H fp pins) [] σ' H' s') : Inv X pins σ H' s' :=
  I.call' (ch := fp) I'.os I'.base I'.hok I'.bare fun b hb => by
    obtain ⟨_, h2, _, h4, h5, h6⟩ := hfp b hb
    exact ⟨h4, h2, h5, h6⟩
/-- the element's reading, turn by turn; D: the list that is made -/
def rComp (K : PySem.W.Frag) (te : TE) (Q : V → Hp → Prop) : It → Hp → Prop := fun J H1 => ∃ a xs, J = Itl K a ∧ SqL K H1 a xs ∧ xs.length < sizeLine ∧ ∀ D, H1 D = none → ∃ Pv : Nat → List V → Hp → Prop,
  Pv 0 [] (upd H1 D (.lst [])) ∧ (∀ i ys H2, i ≤ xs.length → Pv i ys H2 → SqL K H2 a xs ∧ H2 D = some (.lst ys) ∧ ys.length = i) ∧
  (∀ i v ys H2, xs[i]? = some v → Pv i ys H2 → te [some v] H2 fun y H3 => H3 D = some (.lst ys) ∧ Pv (i + 1) (ys ++ [y]) (upd H3 D (.lst (ys ++ [y])))) ∧ ∀ ys H2, Pv xs.length ys H2 → Q (.ref D) H2
def tCompL (K : PySem.W.Frag) (tl te : TE) : TE := fun σ H Q => tl σ H fun v H1 => ∃ a, v = .ref a ∧ (∃ xs, SqL K H1 a xs) ∧ rComp K te Q (Itl K a) H1
theorem comp_block {elt iter : Expr} {px pos : Pos} {a it D : Addr} {xs : List V} {tn : Nat → Heap → Prop} {te : TE} {R : Result → Shared → Prop} {s₄ : Shared} {Pv : Nat → List V → Hp → Prop} {C : Addr} (hc : X.calm = true) (S : CompSc scope x)
    (he : PE (cxComp X scope x C s H fp pins) elt te) (I : Inv (cxComp X scope x C s H fp pins) [] [none] H s₄) (T : Turn X.prog X.w X.K (.Name x px) (Itl X.K a) fp it tn) (t0 : tn 0 s₄.heap)
    (hfp : ∀ b ∈ fp, FpOk (cxComp X scope x C s H fp pins) [] H b) (hx : xs.length < sizeLine)
    (h0 : Pv 0 [] H) (hl : ∀ i ys H2, i ≤ xs.length → Pv i ys H2 → SqL X.K H2 a xs ∧ H2 D = some (.lst ys) ∧ ys.length = i)
    (ht : ∀ i v ys H2, xs[i]? = some v → Pv i ys H2 → te [some v] H2 fun y H3 => H3 D = some (.lst ys) ∧ Pv (i + 1) (ys ++ [y]) (upd H3 D (.lst (ys ++ [y]))))
    (hR : ∀ σ' H' ys s', Inv (cxComp X scope x C s H fp pins) [] σ' H' s' → Pv xs.length ys H' → R (.ok .next) s') :
    codeAny (model X.prog X.w) X.A (.compStart (.ListComp elt [⟨.Name x px, iter, [], 0⟩] scope pos) 0 (.ref it) (.ref D) (compEnv scope C X.env)) R s₄ := by
  have loop : codeAny (model X.prog X.w) X.A (.compLoop (.ListComp elt [⟨.Name x px, iter, [], 0⟩] scope pos) 0 (.ref it) (.ref D) (compEnv scope C X.env)) R s₄ := by
    refine codeAny_compLoop_list (fun n s' => ∃ i ys σ' H', n = xs.length + 1 - i ∧ i ≤ xs.length ∧ Inv (cxComp X scope x C s H fp pins) [] σ' H' s' ∧ tn i s'.heap ∧ (∀ b ∈ fp, FpOk (cxComp X scope x C s H fp pins) [] H' b) ∧ Pv i ys H' ∧ σ'.length = 1) ?_ (xs.length + 1) ⟨0, [], [none], H, rfl, Nat.zero_le _, I, t0, hfp, h0, rfl⟩
    rintro n s' ⟨i, ys, σ', H', rfl, hi, I', tn', hfp', hp, hσ⟩
    obtain ⟨q1, q2, q3⟩ := hl i ys H' hi hp
    by_cases hlt : i < xs.length
    · have g : xs[i]? = some xs[i] := List.getElem?_eq_getElem hlt
      refine wpAny_mono (T.item (cxComp X scope x C s H fp pins) rfl rfl rfl hc i [] s' σ' H' (fun _ _ => False) I' hfp' tn' ⟨xs, xs[i], q1, g⟩) (fun r s1 ⟨u, er, hq⟩ => ?_) fun _ _ z => z.elim
      subst er
      show wpAny (model X.prog X.w) X.A (assign (.Name x px) (compEnv scope C X.env) u) _ _ s1
      intro Γ p hΓ
      have hq' : ∃ v H1, Inv (cxComp X scope x C s H fp pins) [] σ' H1 s1 ∧ RelV v u ∧ (Itl X.K a).yld i H' v H1 ∧ tn (i + 1) s1.heap ∧ ∀ b ∈ fp, H1 b = none := hq Γ p hΓ
      obtain ⟨v, H1, I1, rv, ⟨eH, yv⟩, tn1, fn1⟩ := hq'
      subst eH
      refine (?_ : wpAny (model X.prog X.w) X.A (assign (.Name x px) (compEnv scope C X.env) u) _ _ s1) Γ p hΓ
      have hv : xs[i]? = some v := yv xs q1
      obtain ⟨v0, eσ⟩ : ∃ v0, σ' = [v0] := by
        match σ', hσ with
        | [v0], _ => exact ⟨v0, rfl⟩
      subst eσ
      have hpin : ∀ b ∈ fp, ∃ o, s1.heap.get? b = some o ∧ ∀ v, o.data ≠ .cell v := T.obj (i + 1) s1.heap tn1
      -- the iterator's records are pinned while the turn runs
      have IP : Inv (cxComp X scope x C s H fp pins) (pinsAt fp s1.heap) [v0] H1 s1 := by
        have := I1.pinned hfp' hpin
        rw [List.nil_append] at this
        exact this
      refine wpAny_mono (pg_name (X := cxComp X scope x C s H fp pins) (i := 0) (x := x) (pos := px) (by simp [cxComp]) rfl (.inl S.loc) (.inl rfl) (pinsAt fp s1.heap) s1 [v0] H1 v u (fun σ2 H2 => σ2 = [some v] ∧ H2 = H1) IP rv ⟨rfl, rfl⟩) (fun _ s2 h2 => ?_) fun _ _ z => z.elim
      obtain ⟨σ2, H2, I2, e1, e2⟩ := h2
      subst e1
      subst e2
      refine wpAny_mono (he (pinsAt fp s1.heap) s2 [some v] H2 _ I2 (ht i v ys H2 hv hp)) (fun y s3 h3 => ?_) fun _ _ z => z.elim
      obtain ⟨y', H3, I3, ry, hD, hp3⟩ := h3
      refine wpAny_mono (mt_append (X := cxComp X scope x C s H fp pins) (pinsAt fp s1.heap) s3 [some v] H3 (.ref D) [y'] (.ref D) [y] (fun _ H4 => H4 = upd H3 D (.lst (ys ++ [y']))) I3 rfl (.cons ry .nil) ⟨D, ys, y', rfl, rfl, hD, by omega, rfl⟩) (fun _ s4 h4 => ?_) fun _ _ z => z.elim
      obtain ⟨_, H4, I4, _, e4⟩ := h4
      subst e4
      have pinned : ∀ b ∈ fp, ∀ o, s1.heap.get? b = some o → s4.heap.get? b = some o ∧ (upd H3 D (.lst (ys ++ [y']))) b = none := fun b hb o e =>
        have z := I4.pin (b, o) (List.mem_append_right _ (mem_pinsAt hb e))
        ⟨z.1, z.2.1⟩
      refine ⟨xs.length + 1 - (i + 1), by omega, i + 1, ys ++ [y'], [some v], _, rfl, hlt, I4.pins_of (fun p z => nomatch z), T.keep _ _ _ tn1 fun b hb o e => (pinned b hb o e).1, fun b hb => ⟨?_, (hfp' b hb).2⟩, hp3, rfl⟩
      obtain ⟨o, e, _⟩ := hpin b hb
      exact (pinned b hb o e).2
    · have e : i = xs.length := by omega
      subst e
      refine wpAny_mono (T.done (cxComp X scope x C s H fp pins) rfl rfl rfl hc xs.length [] s' σ' H' (fun _ _ => False) I' hfp' tn' ⟨xs, q1, Nat.le_refl _⟩) (fun r s1 ⟨er, I1⟩ => ?_) fun _ _ z => z.elim
      subst er
      exact hR σ' H' ys s1 I1 hp
  exact codeAny_compStart_list loop (T.self X.A 0 s₄ _ _ t0 loop)
/-- the block, from the iterator on -/
theorem comp_from {elt iter : Expr} {px pos : Pos} {te : TE} {Q : V → Hp → Prop} {s2 : Shared} {it : Addr} {tn : Nat → Heap → Prop} {J : It} {H' : Hp} {RR : Value → Env → Result → Shared → Prop} {E : Value → Shared → Prop} (hc : X.calm = true) (S : CompSc scope x)
    (he : ∀ C s H fp pins, PE (cxComp X scope x C s H fp pins) elt te) (I2 : Inv X pins σ H' s2) (T : Turn X.prog X.w X.K (.Name x px) J fp it tn) (t0 : tn 0 s2.heap) (hfp : ∀ b ∈ fp, FpOk X pins H' b) (hr : rComp X.K te Q J H')
    (hRR : ∀ D C H3 s', Inv X pins σ H3 s' → (∃ m, s'.heap.Ns C m) → H3 C = none → C ≠ X.env.locals → X.s₀.heap.objs.size ≤ C → (∀ y c, X.env.cells.lookup y = some c → c ≠ C) → (∀ p ∈ X.pn ++ pins, p.1 ≠ C) → Q (.ref D) H3 →
      RR (.ref D) (compEnv scope C X.env) (.ok .next) s') :
    wpAny (model X.prog X.w) X.A (newList []) (fun acc s₃ => wpAny (model X.prog X.w) X.A (newFunctionEnv scope X.env.globals [] [] X.env.qual none .none (some X.env)) (fun cenv s₄ =>
      codeAny (model X.prog X.w) X.A (.compStart (.ListComp elt [⟨.Name x px, iter, [], 0⟩] scope pos) 0 (.ref it) acc { cenv with scope := scope }) (RR acc { cenv with scope := scope }) s₄) E s₃) E s2 := by
  obtain ⟨a, xs, rfl, hq, hx, hD⟩ := hr
  obtain ⟨Pv, h0, hl, ht, hd⟩ := hD s2.heap.objs.size I2.fresh
  refine wpAny_newObj_type (wpAny_newFunctionEnv S.cell (by intro y hy; simp at hy) (fun h₁ hns₁ hsb₁ => ?_) S.kind)
  dsimp only at hns₁ hsb₁ ⊢
  have I3 : Inv X pins σ (upd H' s2.heap.objs.size (.lst [])) { s2 with heap := s2.heap.push { cls := .type "list", data := .seq ([] : List Value).toArray } } := I2.lnew (its := []) (t' := s2.toks) .nil (by show 0 ≤ sizeLine; omega)
  have hob := T.obj 0 s2.heap t0
  have keep : ∀ b o, (s2.heap.push { cls := .type "list", data := .seq ([] : List Value).toArray }).get? b = some o → h₁.get? b = some o := fun b o e =>
    hsb₁.extBut b o (Nat.ne_of_lt (Heap.lt_size e)) (Heap.get?_push_of_some _ e)
  have fp3 : ∀ b ∈ fp, FpOk X pins (upd H' s2.heap.objs.size (.lst [])) b := fun b hb => by
    obtain ⟨o, e, _⟩ := hob b hb
    exact ⟨(upd_ne (Nat.ne_of_lt (Heap.lt_size e))).trans (hfp b hb).1, (hfp b hb).2⟩
  have IY := inv_comp (x := x) (t := s2.toks + ([] : List (Str × Value)).length) I3 S fp3 (fun b hb => by
    obtain ⟨o, e, _⟩ := hob b hb
    exact ⟨o, Heap.get?_push_of_some _ e⟩) hns₁ keep
  refine comp_block (a := a) (D := s2.heap.objs.size) (xs := xs) (Pv := Pv) hc S (he _ _ _ _ _) IY T (T.keep _ _ _ t0 fun b hb o e => keep b o (Heap.get?_push_of_some _ e)) (fun b hb => ?_) hx h0 hl ht (fun σ' H3 ys s' I' hp => ?_)
  · obtain ⟨f1, f2, f3, f4, f5, f6⟩ := fp3 b hb
    obtain ⟨o, e, _⟩ := hob b hb
    refine ⟨f1, Nat.ne_of_lt (Heap.lt_size (Heap.get?_push_of_some _ e)), fun z => ?_, .inl hb, fun y c h => (by cases h), fun p hp => ?_⟩
    · rcases List.mem_cons.mp (I3.stkSub b z) with q | q
      · exact f2 q
      · exact f3 q
    · rcases List.mem_append.mp hp with q | q
      · exact f6 p q
      · cases q
  · obtain ⟨m, hn, _⟩ := I'.loc
    refine hRR _ _ H3 s' (inv_back I3 fp3 I') ⟨m, hn⟩ I'.free (Nat.ne_of_gt I3.lt) I3.sz (fun y c h z => ?_) (fun p hp z => ?_) (hd ys H3 hp)
    · obtain ⟨v, q⟩ := I3.cell y c h
      exact absurd q.lt (by rw [z]; exact Nat.lt_irrefl _)
    · exact absurd (Heap.lt_size (I3.pin p hp).1) (by rw [z]; exact Nat.lt_irrefl _)
/-- y = [elt for x in list] -/
theorem ps_setComp {elt iter : Expr} {y : Str} {i : Nat} {px py pos spos : Pos} {tl te : TE} (hc : X.calm = true) (S : CompSc scope x) (hN : X.N.Nodup) (hi : X.N[i]? = some y) (hy : Loc X.env.scope y) (hl : PE X iter tl) (he : ∀ C s H fp pins, PE (cxComp X scope x C s H fp pins) elt te)
    (hsw : swapsWith (.ListComp elt [⟨.Name x px, iter, [], 0⟩] scope pos) (some (.Name y py)) spos.line X.env = pure true) (hs : ∀ y, foldedSetIterable iter X.env y = pure y := by intro _; rfl)
    (hf : X.fn y = true ∨ X.env.scope.names.lookup y = some .local := by first | exact .inl rfl | exact .inr rfl | assumption) :
    PS X (.Assign [.Name y py] (.ListComp elt [⟨.Name x px, iter, [], 0⟩] scope pos) spos) (tAsg (tCompL X.K tl te) (gName i)) := by
  intro pins s σ H D I h
  rw [exec_Assign_Name_used _ _ _ _ hsw]
  refine wpAny_bind (wpAny_standAt (wpAny_bind ?_))
  show wpAny _ X.A (do let _ ← comprehension (.ListComp elt [⟨.Name x px, iter, [], 0⟩] scope pos) scope X.env _ (newList []) false (eval iter X.env) (some (assign (.Name y py) X.env))) _ _ s
  refine wpAny_bind (wpAny_mono (wpAny_comprehension_use (Q := fun _ s' => SP X pins D .next s') rfl hs S.free S.kind S.names (thn (pi_list (tg := .Name x px) hl pins s σ H (rComp X.K te fun v H1 => gName i v σ H1 D.nx) I h) fun v s1 h1 => thn h1 fun itv s2 h2 => ?_))
    (fun _ s' hq => wpAny_pure (wpAny_pure hq)) fun _ _ e => e)
  obtain ⟨it, fp, tn, J, H', rfl, I2, T, t0, hfp, hr⟩ := h2
  refine comp_from (RR := fun acc cenv r s' => match r with
      | .ok _ => wpAny (model X.prog X.w) X.A (assign (.Name y py) X.env acc) (fun _ s'' => ∃ m, s''.heap.Ns cenv.locals m ∧ ∀ h', Heap.SameBut cenv.locals s''.heap h' → SP X pins D .next { s'' with heap := h' }) X.xe s'
      | .error x => ∃ m, s'.heap.Ns cenv.locals m ∧ ∀ h', Heap.SameBut cenv.locals s'.heap h' → wpAny (model X.prog X.w) X.A (passOn "comprehension.variables-let-go" x cenv) (fun _ s' => SP X pins D .next s') X.xe { s' with heap := h' }) hc S he I2 T t0 hfp hr ?_
  intro A C H3 s' I' ⟨m, hn⟩ hC h1 h2 h3 h4 q
  refine wpAny_assign_Name (store_ok2 I' hN hi hy (v := .ref A) rfl (fun s3 I3 ⟨b, hb, hbb⟩ => ?_) hf)
  have hCb : C ≠ b := by
    rcases hbb with e | e
    · rw [e]; exact h1
    · exact fun z => h3 y b e z.symm
  exact ⟨m, hn.sameBut hb hCb, fun h' hs' => ⟨_, H3, I3.turned (it := C) (fun b o hb e => hs'.extBut b o hb e) hC h1 (.inr h2) h3 h4, q⟩⟩
end
end OD

/-! DATA LAYER, part 4: loops over zip(list, list), comprehensions and loops by data -/
namespace OD
open PySem PySem.Spec PyProof.Rows L2
section
variable {X : Cx} {pins : List (Addr × Obj)} {σ : St} {H : Hp} {s : Shared} {h' : Heap}
theorem fp_ch {ch : List Addr} (hn : ∀ b ∈ ch, FpOk X pins H b) : ∀ b ∈ ch, (b ∈ X.ex ∨ X.s₀.heap.objs.size ≤ b) ∧ b ≠ X.env.locals ∧ (∀ x c, X.env.cells.lookup x = some c → c ≠ b) ∧ ∀ p ∈ X.pn ++ pins, p.1 ≠ b := fun b hb => by
  obtain ⟨_, h2, _, h4, h5, h6⟩ := hn b hb
  exact ⟨h4, h2, h5, h6⟩
/-- records of an iterator have turned -/
theorem inv_turned {ch : List Addr} {t' : Nat} (I : Inv X pins σ H s) (hn : ∀ b ∈ ch, FpOk X pins H b) (k : ∀ b o, b ∉ ch → s.heap.get? b = some o → h'.get? b = some o) : Inv X pins σ H { s with heap := h', toks := t' } := by
  have nit : ∀ b u, H b = some u → b ∉ ch := fun b u e z => by rw [(hn b z).1] at e; cases e
  refine I.step (g' := s.gens) (d' := s.drawn) (ch := ch) (fp_ch hn) (fun b o _ _ hc e _ => k b o hc e) (fun b o _ _ hc e _ => ⟨o.slots, k b o hc e⟩) (fun _ _ _ _ n => n)
    (fun b o hc e => ⟨o, k b o hc e⟩) (fun _ _ e => e) (fun _ _ _ e => e) (fun b ps e => ⟨#[], by rw [e]; simp⟩) (fun m hm => ?_) (fun b u e => ?_) I.bare
  · obtain ⟨o, es, ep, ho, r⟩ := hm
    exact ⟨o, es, ep, k _ o (fun z => (hn _ z).2.1 rfl) ho, r⟩
  · refine (I.hok b u e).stay (fun c v hc q => k c v ?_ q) (fun _ q => q) fun _ _ q => q
    rcases hc with z | z
    · rw [z]; exact nit b u e
    · exact nit c _ z
/-- .. and a new tuple is laid -/
theorem inv_turnedT {ch : List Addr} {t' : Nat} {T : Addr} {xs : List V} (I : Inv X pins σ H s) (hn : ∀ b ∈ ch, FpOk X pins H b) (k : ∀ b o, b ∉ ch → s.heap.get? b = some o → h'.get? b = some o) (hT : s.heap.objs.size ≤ T)
    (new : ObjOk X.prog X.w (upd H T (.tup xs)) h' T (.tup xs)) : Inv X pins σ (upd H T (.tup xs)) { s with heap := h', toks := t' } := by
  have nit : ∀ b u, H b = some u → b ∉ ch := fun b u e z => by rw [(hn b z).1] at e; cases e
  have fT : H T = none := I.hok.fresh hT
  have old : ∀ b o, s.heap.get? b = some o → b ≠ T := fun b o e => Nat.ne_of_lt (Nat.lt_of_lt_of_le (Heap.lt_size e) hT)
  have up : ∀ b u, H b = some u → upd H T (.tup xs) b = some u := fun b u e => (upd_ne (ne_of_none e fT)).trans e
  refine I.step (g' := s.gens) (d' := s.drawn) (ch := ch) (fp_ch hn) (fun b o _ _ hc e _ => k b o hc e) (fun b o _ _ hc e _ => ⟨o.slots, k b o hc e⟩) (fun b o _ e n => (upd_ne (old b o e)).trans n)
    (fun b o hc e => ⟨o, k b o hc e⟩) (fun b xs e => up b _ e) (fun b o u e => up b _ e) (fun b ps e => ⟨#[], by rw [up b _ e]; simp⟩) (fun m hm => ?_) (fun b u e => ?_) I.bare
  · obtain ⟨o, es, ep, ho, r⟩ := hm
    exact ⟨o, es, ep, k _ o (fun z => (hn _ z).2.1 rfl) ho, r⟩
  · by_cases hb : b = T
    · subst hb
      rw [upd_same] at e
      cases e
      exact new
    · rw [upd_ne hb] at e
      refine (I.hok b u e).stay (fun c v hc q => k c v ?_ q) (fun c q => up c _ q) fun c ys q => up c _ q
      rcases hc with z | z
      · rw [z]; exact nit b u e
      · exact nit c _ z
end
/-! ### zip of two lists -/
def Itz (K : PySem.W.Frag) (l1 l2 : Addr) : It :=
  ⟨fun i H => ∃ xs ys x y, SqL K H l1 xs ∧ SqL K H l2 ys ∧ xs[i]? = some x ∧ ys[i]? = some y,
   fun i H v H' => ∃ T x y, v = .ref T ∧ H T = none ∧ H' = upd H T (.tup [x, y]) ∧ (∀ xs, SqL K H l1 xs → xs[i]? = some x) ∧ ∀ ys, SqL K H l2 ys → ys[i]? = some y,
   fun i H => ∃ xs ys, SqL K H l1 xs ∧ SqL K H l2 ys ∧ (xs.length ≤ i ∨ ys.length ≤ i)⟩
def tnZip (l1 l2 z TI TO i1 i2 : Addr) (i : Nat) (h : Heap) : Prop := IsZip h z TI TO .none ∧ IsPair h TI (.ref i1) (.ref i2) ∧ (∃ a b, IsPair h TO a b) ∧ h.IsListIter i1 l1 i ∧ h.IsListIter i2 l2 i
theorem turn_zip {P : Program} {w : World} {K : PySem.W.Frag} {elts : List Expr} {x1} {tpos : Pos} (l1 l2 z TI TO i1 i2 : Addr) (D : ZipApart z TI TO i1 i2 l1 l2) :
    Turn P w K (.Tuple elts x1 tpos) (Itz K l1 l2) [z, TI, TO, i1, i2] z (tnZip l1 l2 z TI TO i1 i2) where
  mem := by simp
  obj := fun i h ⟨h1, h2, ⟨a, b, h3⟩, ⟨o4, e4, c4, d4⟩, ⟨o5, e5, c5, d5⟩⟩ b hb => by
    simp only [List.mem_cons, List.not_mem_nil, or_false] at hb
    rcases hb with rfl | rfl | rfl | rfl | rfl
    · exact ⟨_, h1, fun v z => by cases z⟩
    · exact ⟨_, h2, fun v z => by cases z⟩
    · exact ⟨_, h3, fun v z => by cases z⟩
    · exact ⟨_, e4, fun v z => by rw [d4] at z; cases z⟩
    · exact ⟨_, e5, fun v z => by rw [d5] at z; cases z⟩
  keep := fun i h h' ⟨h1, h2, ⟨a, b, h3⟩, ⟨o4, e4, c4⟩, ⟨o5, e5, c5⟩⟩ k =>
    ⟨k z (by simp) _ h1, k TI (by simp) _ h2, ⟨a, b, k TO (by simp) _ h3⟩, ⟨o4, k i1 (by simp) _ e4, c4⟩, ⟨o5, k i2 (by simp) _ e5, c5⟩⟩
  item := fun X hP hw hK hc i pins s σ H E I hfp ⟨h1, h2, ⟨a, b, h3⟩, h4, h5⟩ ⟨xs, ys, x, y, q1, q2, e1, e2⟩ => by
    subst hP hw hK
    obtain ⟨its1, r1, p1, z1⟩ := I.list q1
    obtain ⟨its2, r2, p2, z2⟩ := I.list q2
    obtain ⟨u, eu, ru⟩ := r1.get e1
    obtain ⟨v, ev, rv⟩ := r2.get e2
    refine wpAny_pyNext_zip_item D h1 h2 h3 h4 h5 p1.isList p2.isList (x := u) (y := v) (by simpa using eu) (by simpa using ev) fun h' a1 a2 a3 a4 a5 a6 a7 => ?_
    refine ⟨_, rfl, wpAny_letOwnedTupleGo_zip a1 fun h'' b1 b2 => ?_⟩
    have ne : ∀ b ∈ [z, TI, TO, i1, i2], b ≠ s.heap.objs.size := fun b hb => by
      simp only [List.mem_cons, List.not_mem_nil, or_false] at hb
      obtain ⟨o4, e4, _⟩ := id h4
      obtain ⟨o5, e5, _⟩ := id h5
      rcases hb with rfl | rfl | rfl | rfl | rfl
      · exact Nat.ne_of_lt (Heap.lt_size h1)
      · exact Nat.ne_of_lt (Heap.lt_size h2)
      · exact Nat.ne_of_lt (Heap.lt_size h3)
      · exact Nat.ne_of_lt (Heap.lt_size e4)
      · exact Nat.ne_of_lt (Heap.lt_size e5)
    have zn : z ≠ s.heap.objs.size := ne z (by simp)
    have aT : IsPair h'' s.heap.objs.size u v := b2.extBut _ _ (Ne.symm zn) a5
    have I' : Inv X pins σ (upd H s.heap.objs.size (.tup [x, y])) { s with heap := h'' } := inv_turnedT (ch := [z, TI, TO, i1, i2]) (t' := s.toks) I hfp (fun b o hb e => by
        simp only [List.mem_cons, List.not_mem_nil, or_false, not_or] at hb
        exact b2.extBut b o hb.1 (a7 b o hb.1 hb.2.2.1 hb.2.2.2.1 hb.2.2.2.2 e)) (Nat.le_refl _) ⟨by show 2 ≤ sizeLine; rw [sizeLine_eq]; decide, [u, v], .cons ru (.cons rv .nil), _, aT, rfl, _, rfl⟩
    refine ⟨.ref s.heap.objs.size, _, I', rfl, ⟨_, x, y, rfl, I.fresh, rfl, fun xs' q => ?_, fun ys' q => ?_⟩, ⟨b1, b2.extBut _ _ D.TIz (a7 TI _ D.TIz D.TITO D.TIi1 D.TIi2 h2), ⟨u, v, b2.extBut _ _ D.TOz a2⟩, a3.extBut b2.extBut D.i1z, a4.extBut b2.extBut D.i2z⟩, fun b hb => ?_⟩
    · rw [I.list_inj q q1]; exact e1
    · rw [I.list_inj q q2]; exact e2
    · exact (upd_ne (ne b hb)).trans (hfp b hb).1
  done := fun X hP hw hK hc i pins s σ H E I hfp ⟨h1, h2, ⟨a, b, h3⟩, h4, h5⟩ ⟨xs, ys, q1, q2, e⟩ => by
    subst hP hw hK
    obtain ⟨its1, r1, p1, z1⟩ := I.list q1
    obtain ⟨its2, r2, p2, z2⟩ := I.list q2
    refine wpAny_pyNext_zip_end (I.ok.hd hc) D h1 h2 h3 h4 h5 p1.isList p2.isList (e.imp (fun e => ?_) fun e => ?_) fun h' hk => ⟨rfl, ?_⟩
    · have := r1.length
      simp; omega
    · have := r2.length
      simp; omega
    · exact inv_turned (ch := [z, TI, TO, i1, i2]) (t' := s.toks) I hfp fun b o hb e => by
        simp only [List.mem_cons, List.not_mem_nil, or_false, not_or] at hb
        exact hk b o hb.1 hb.2.2.1 hb.2.2.2.1 hb.2.2.2.2 e
  self := fun A i s Q E ⟨h1, _⟩ q => wpAny_pyIter_zip h1 q
def iZip (K : PySem.W.Frag) (ta : TA) : TI := fun σ H R => ta σ H fun vs H1 => ∃ l1 l2 xs ys, vs = [.ref l1, .ref l2] ∧ SqL K H1 l1 xs ∧ SqL K H1 l2 ys ∧ R (Itz K l1 l2) H1
theorem zip_apart {n l1 l2 : Nat} (h1 : l1 < n) (h2 : l2 < n) : ZipApart (n + 4) (n + 2) (n + 3) n (n + 1) l1 l2 := by
  constructor <;> (show (_ : Nat) ≠ _; omega)
theorem boot_zip : bootBuiltins "zip" = some (.type "zip") := by decide +kernel
section
variable {X : Cx}
theorem pi_zip {a b : Expr} {ta : TA} {p pos : Pos} {elts : List Expr} {x1} {tpos : Pos} (hg : Gl X "zip") (hm : X.mg "zip" = none) (ha : PA X [a, b] ta) (hs : starEach [a, b] X.env = (false, eval a X.env) :: starEach [b] X.env := by rfl)
    (hpl : (backTo pos (starEach [b] X.env)).any (·.1) = false := by rfl) : PI X (.Tuple elts x1 tpos) (.Call (.Name "zip" p) [a, b] [] pos) (iZip X.K ta) := by
  intro pins s σ H R I h
  refine Call_ (ld_blt I hg hm boot_zip (PyProof.Rows.callWith_type1 (thn (ha pos pins s σ H _ I h) fun us s1 ⟨vs, H1, I1, r1, q1⟩ => ?_) hs hpl))
  obtain ⟨l1, l2, xs, ys, e, q1, q2, q⟩ := q1
  subst e
  obtain ⟨u, v, rfl, ru, rv⟩ := r1.two
  cases ru
  cases rv
  obtain ⟨its1, r1, p1, z1⟩ := I1.list q1
  obtain ⟨its2, r2, p2, z2⟩ := I1.list q2
  have lt1 : l1 < s1.heap.objs.size := by obtain ⟨o, e, _⟩ := id p1.isList; exact Heap.lt_size e
  have lt2 : l2 < s1.heap.objs.size := by obtain ⟨o, e, _⟩ := id p2.isList; exact Heap.lt_size e
  refine call_zip_2 p1.isList p2.isList fun h' b1 b2 b3 b4 b5 b6 b7 => ?_
  have I2 : Inv X pins σ H1 { s1 with heap := h' } := I1.kept (t' := s1.toks) b7
  refine wpAny_pyIter_zip b1 ⟨s1.heap.objs.size + 4, [s1.heap.objs.size + 4, s1.heap.objs.size + 2, s1.heap.objs.size + 3, s1.heap.objs.size, s1.heap.objs.size + 1], _, _, H1, rfl, I2,
    turn_zip l1 l2 (s1.heap.objs.size + 4) (s1.heap.objs.size + 2) (s1.heap.objs.size + 3) s1.heap.objs.size (s1.heap.objs.size + 1) (zip_apart lt1 lt2),
    ⟨b1, b2, ⟨_, _, b3⟩, b4, b5⟩, fun b hb => ?_, q⟩
  have hb' : s1.heap.objs.size ≤ b := by
    simp only [List.mem_cons, List.not_mem_nil, or_false] at hb
    rcases hb with rfl | rfl | rfl | rfl | rfl
    · exact Nat.le_add_right _ _
    · exact Nat.le_add_right _ _
    · exact Nat.le_add_right _ _
    · exact Nat.le_refl _
    · exact Nat.le_add_right _ _
  have f := I1.fpOk hb' (I1.hok.fresh hb')
  exact f
/-- the loop over zip, lists that the body leaves as they are -/
theorem for_zip {K : PySem.W.Frag} {l1 l2 : Addr} {xs ys : List V} {g : TG} {tb : TS} {D : Ends} {σ : St} {H : Hp} (Pv : Nat → St → Hp → Prop) (h0 : Pv 0 σ H) (hl : ∀ i σ H, Pv i σ H → SqL K H l1 xs ∧ SqL K H l2 ys)
    (hs : ∀ i x y T σ H, xs[i]? = some x → ys[i]? = some y → H T = none → Pv i σ H → g (.ref T) σ (upd H T (.tup [x, y])) fun σ2 H2 => tb { D with nx := Pv (i + 1), ct := Pv (i + 1), bk := D.nx } σ2 H2) (hd : ∀ σ H, Pv (min xs.length ys.length) σ H → D.nx σ H) :
    ∃ W : Nat → Nat → St → Hp → Prop, (∃ m, W 0 m σ H) ∧ ∀ i m σ H, W i m σ H →
      ((Itz K l1 l2).stop i H ∧ D.nx σ H) ∨ ((Itz K l1 l2).go i H ∧ ∃ N : St → Hp → Prop, (∀ σ' H', N σ' H' → ∃ m', m' < m ∧ W (i + 1) m' σ' H') ∧ ∀ x H', (Itz K l1 l2).yld i H x H' → g x σ H' fun σ2 H2 => tb { D with nx := N, ct := N, bk := D.nx } σ2 H2) := by
  refine ⟨fun i m σ H => m = min xs.length ys.length - i ∧ i ≤ min xs.length ys.length ∧ Pv i σ H, ⟨_, rfl, Nat.zero_le _, h0⟩, ?_⟩
  rintro i m σ H ⟨rfl, hi, p⟩
  obtain ⟨q1, q2⟩ := hl i σ H p
  by_cases hlt : i < min xs.length ys.length
  · have g1 : xs[i]? = some xs[i] := List.getElem?_eq_getElem (by omega)
    have g2 : ys[i]? = some ys[i] := List.getElem?_eq_getElem (by omega)
    refine .inr ⟨⟨xs, ys, xs[i], ys[i], q1, q2, g1, g2⟩, Pv (i + 1), fun σ' H' p' => ⟨min xs.length ys.length - (i + 1), by omega, rfl, hlt, p'⟩, fun v H' y => ?_⟩
    obtain ⟨T, x, y, rfl, hT, rfl, e1, e2⟩ := y
    exact hs i x y T σ H (e1 xs q1) (e2 ys q2) hT p
  · have e : i = min xs.length ys.length := by omega
    subst e
    exact .inl ⟨⟨xs, ys, q1, q2, by omega⟩, hd σ H p⟩
end

/-! ### by data -/
section
variable {X : Cx} {fr : Bool} {ta : DTA} {tb : DTS} {pos : Pos}
theorem list_g {K : PySem.W.Frag} {W1 : Vw} {d : Dt} {v : V} {ds : List Dt} (i1 : Is K W1.g d v) (el : listOf d = some ds) : ∃ a xs, v = .ref a ∧ (∀ W2 : Vw, Same W1.g W2.g → SqL K W2.h a xs) ∧ AllIs K W1.g ds xs := by
  cases d with
  | lst es =>
    obtain rfl : es = ds := Option.some.inj el
    obtain ⟨a, xs, rfl, h1, h2⟩ := is_lst.mp i1
    exact ⟨a, xs, rfl, fun W2 s2 => .of (W2.sub _ _ (s2 _ _ h1)), h2⟩
  | scr ns =>
    obtain rfl : ns.map Dt.int = ds := Option.some.inj el
    obtain ⟨a, rfl, h1⟩ := is_scr.mp i1
    exact ⟨a, _, rfl, fun W2 s2 => W2.sub.seq (s2.seq h1), AllIs.ints⟩
  | _ => cases el
def dForZ (i j : Nat) (ta : DTA) (tb : DTS) : DTS := fun D ρ => ta ρ fun ds => ∃ (d e : Dt) (xs ys : List Dt) (Pv : Nat → DS → Prop), ds = [d, e] ∧ listOf d = some xs ∧ listOf e = some ys ∧ Pv 0 ρ ∧
  (∀ n x y ρ', xs[n]? = some x → ys[n]? = some y → Pv n ρ' → tb { D with nx := Pv (n + 1), ct := Pv (n + 1), bk := D.nx } ((ρ'.set i (.some x)).set j (.some y))) ∧ ∀ ρ', Pv (min xs.length ys.length) ρ' → D.nx ρ'
theorem ds_for_zip {i j : Nat} {x y : Str} {a b : Expr} {body : List Stmt} {px py pt p0 pos1 : Pos} {kt : Nat} (hc : X.calm = true) (hN : X.N.Nodup) (hi : X.N[i]? = some x) (hj : X.N[j]? = some y) (hx : Loc X.env.scope x) (hy : Loc X.env.scope y) (hp : PassesOwn (model X.prog X.w) X.A X.env X.xe)
    (hg : Gl X "zip") (hm : X.mg "zip" = none) (ha : DA X [a, b] ta) (hb : DSs X fr body tb) (hs : ∀ z, foldedSetIterable (.Call (.Name "zip" p0) [a, b] [] pos1) X.env z = pure z := by intro _; rfl)
    (hst : starEach [a, b] X.env = (false, eval a X.env) :: starEach [b] X.env := by rfl) (hpl : (backTo pos1 (starEach [b] X.env)).any (·.1) = false := by rfl)
    (hf : X.fn x = true ∨ X.env.scope.names.lookup x = some .local := by first | exact .inl rfl | exact .inr rfl | assumption) (hf2 : X.fn y = true ∨ X.env.scope.names.lookup y = some .local := by first | exact .inl rfl | exact .inr rfl | assumption) :
    DSt X fr (.For (.Tuple [.Name x px, .Name y py] kt pt) (.Call (.Name "zip" p0) [a, b] [] pos1) body [] pos) (dForZ i j ta tb) := by
  obtain ⟨tt, p, l⟩ := ha
  obtain ⟨tbs, p2, l2⟩ := hb
  refine ⟨_, ps_for hp hc (pi_zip hg hm p hst hpl) (pg_tup hc (pgs_cons (pg_name hN hi hx hf) (pgs_cons (pg_name hN hj hy hf2) pgs_nil))) p2 hs, fun W0 G ρ σ W D D' at_ s h => l ρ σ W _ at_.rl h _ fun ds vs W1 s1 i1 ⟨d, e, xs, ys, Pv, ed, el1, el2, h0, ht, hd⟩ => ?_⟩
  subst ed
  obtain ⟨v1, v2, rfl, j1, j2⟩ := i1.two
  have hg1 : Same G W1.g := at_.gs.trans s1.g
  obtain ⟨l1, us, rfl, hq1, ha1⟩ := list_g j1 el1
  obtain ⟨l2', ws, rfl, hq2, ha2⟩ := list_g j2 el2
  refine ⟨l1, l2', us, ws, rfl, hq1 W1 (Same.refl _), hq2 W1 (Same.refl _), for_zip (K := X.K) (xs := us) (ys := ws) (fun n => InL X.K W0 W1 (Pv n)) ⟨ρ, W1, rfl, (at_.step s1).now, h0⟩ (fun n σ' H' ⟨_, W2, e2, a2, _⟩ => e2 ▸ ⟨hq1 W2 a2.gs, hq2 W2 a2.gs⟩) ?_ ?_⟩
  · rintro n u w T σ' _ hu hw hT ⟨ρ', W2, rfl, a2, hp2⟩
    obtain ⟨x', ex, ix⟩ := ha1.get' hu
    obtain ⟨y', ey, iy⟩ := ha2.get' hw
    have s3 := le_new hT (.tup [u, w])
    have a3 := a2.step s3
    refine ⟨T, _, rfl, .of upd_same, rfl, u, [w], rfl, w, [], rfl, rfl, ?_⟩
    exact l2 W0 W1.g _ _ (W2.new T (.tup [u, w])) { D with nx := Pv (n + 1), ct := Pv (n + 1), bk := D.nx } _ ((a3.set i (Is.mono0 a3.gs ix)).set j (Is.mono0 a3.gs iy)) (sim_loop s hg1) (ht n x' y' ρ' ex ey hp2)
  · rintro σ' _ ⟨ρ', W2, rfl, a2, hp2⟩
    exact s.nx ρ' σ' W2 (a2.weak hg1) (hd ρ' (by rw [ha1.length, ha2.length]; exact hp2))
/-- a comprehension over a list -/
def dComp (tl te : DTE) : DTE := fun ρ Q => tl ρ fun d => ∃ (ds : List Dt) (Pv : Nat → List Dt → Prop), listOf d = some ds ∧ ds.length ≤ 100000 ∧ Pv 0 [] ∧
  (∀ i e es, ds[i]? = some e → Pv i es → te [.some e] fun y => Pv (i + 1) (es ++ [y])) ∧ ∀ es, Pv ds.length es → Q (.lst es)
theorem li_comp {K : PySem.W.Frag} {tl te : TE} {t u : DTE} (h1 : LiE K tl t) (h2 : LiE K te u) : LiF K (tCompL K tl te) (dComp t u) := by
  intro F ρ σ H Q r h R k
  refine h1 ρ σ H _ r h _ fun d v W1 s1 i1 ⟨ds, Pv, el, hlen, h0, ht, hd⟩ => ?_
  obtain ⟨a, xs, rfl, hq, ha⟩ := list_g i1 el
  refine ⟨a, rfl, ⟨xs, hq W1 (Same.refl _)⟩, a, xs, rfl, hq W1 (Same.refl _), by rw [← ha.length]; exact Nat.lt_of_le_of_lt hlen (by decide), fun D hD => ?_⟩
  have gD : W1.g D = none := W1.sub.free hD
  refine ⟨fun i ys H2 => ∃ (W2 : Vw) (es : List Dt), W2.h = H2 ∧ Same W1.g W2.g ∧ Same W1.h (fun b => if b = D then none else W2.h b) ∧ (∀ b, W1.h b ≠ none → W1.g b = none → W2.g b = none) ∧ W2.h D = some (.lst ys) ∧ W2.g D = none ∧ AllIs K W2.g es ys ∧ ys.length = i ∧ Pv i es, ?_, ?_, ?_, ?_⟩
  · refine ⟨W1.mine D (.lst []) gD, [], rfl, Same.refl _, fun b o q => ?_, fun b _ q => q, upd_same, gD, allIs_nil.mpr rfl, rfl, h0⟩
    have hb : b ≠ D := fun e => by rw [e, hD] at q; cases q
    show (if b = D then none else upd W1.h D (.lst []) b) = some o
    rw [if_neg hb, upd_ne hb]
    exact q
  · rintro i ys _ _ ⟨W2, es, rfl, s2, _, _, q1, q2, _, q4, _⟩
    exact ⟨hq W2 s2, q1, q4⟩
  · rintro i v ys _ hv ⟨W2, es, rfl, s2, sh, sn, q1, q2, q3, q4, q5⟩
    obtain ⟨e, he, ie⟩ := ha.get' hv
    refine h2 (F := fun _ => True) [.some e] [some v] W2 _ ⟨rfl, fun j d q => ?_, fun j ds q => ?_, fun j j' ds ds' _ q _ => ?_, fun _ _ => trivial⟩ (ht i e es he q5) _ fun y w W3 s3 i3 q6 => ?_
    · match j, q with
      | 0, q => cases q; exact ⟨v, rfl, Is.mono0 s2 ie⟩
      | j + 1, q => cases q
    · match j, q with
      | 0, q => cases q
      | j + 1, q => cases q
    · match j, q with
      | 0, q => cases q
      | j + 1, q => cases q
    · have g3 : W3.g D = none := s3.n D (by rw [q1]; intro z; cases z) q2
      refine ⟨s3.h _ _ q1, W3.mine D (.lst (ys ++ [w])) g3, es ++ [y], rfl, s2.trans s3.g, fun b o q => ?_, fun b z1 z2 => ?_, upd_same, g3, (q3.mono s3).append (allIs_cons.mpr ⟨w, [], rfl, i3, allIs_nil.mpr rfl⟩), by rw [List.length_append, q4]; rfl, q6⟩
      · have q' : (if b = D then none else W2.h b) = some o := sh b o q
        have hb : b ≠ D := fun e => by rw [e, hD] at q; cases q
        rw [if_neg hb] at q'
        show (if b = D then none else upd W3.h D (.lst (ys ++ [w])) b) = some o
        rw [if_neg hb, upd_ne hb]
        exact s3.h _ _ q'
      · have hb : b ≠ D := fun e => z1 (e ▸ hD)
        have z3 := sn b z1 z2
        refine s3.n b ?_ z3
        cases q : W1.h b with
        | none => exact absurd q z1
        | some o =>
          have q' : (if b = D then none else W2.h b) = some o := sh b o q
          rw [if_neg hb] at q'
          rw [q']
          intro z; cases z
  · rintro ys _ ⟨W2, es, rfl, s2, sh, sn, q1, q2, q3, _, q5⟩
    refine k es D ys W2 (s1.trans ⟨s2, fun b o q => ?_, sn⟩) (s1.h.free hD) q1 q2 q3 (hd es (by rw [ha.length]; exact q5))
    have q' : (if b = D then none else W2.h b) = some o := sh b o q
    have hb : b ≠ D := fun e => by rw [e, hD] at q; cases q
    rwa [if_neg hb] at q'
/-- the weakest reading that data give -/
def liftE (K : PySem.W.Frag) (t : DTE) : TE := fun σ H R => ∃ (F : Addr → Prop) (ρ : DS) (W : Vw) (Q : Dt → Prop), W.h = H ∧ Rl K F W ρ σ ∧ t ρ Q ∧ ∀ d v W', Le W W' → Is K W'.g d v → Q d → R v W'.h
theorem DE.up {e : Expr} {t : DTE} (h : DE X e t) : PE X e (liftE X.K t) := by
  obtain ⟨te, p, l⟩ := h
  intro pins s σ H R I q
  obtain ⟨F, ρ, W, Q, rfl, r, h, k⟩ := q
  exact p pins s σ W.h R I (l ρ σ W Q r h R k)
theorem li_lift {K : PySem.W.Frag} {t : DTE} : LiE K (liftE K t) t := fun ρ σ H Q r h R k => ⟨_, ρ, H, Q, rfl, r, h, k⟩
theorem LiF.le {K : PySem.W.Frag} {te : TE} {t : DTE} (l : LiF K te t) : LiE K te t := fun ρ σ H Q r h R k => l ρ σ H Q r h R fun es q xs H' s h0 h1 h2 i z => k (.lst es) (.ref q) (H'.frz q _ h1) (le_frz s h0 h1 h2) (is_lst.mpr ⟨q, xs, rfl, upd_same, AllIs.mono0 (same_new h2 _) i⟩) z
def compOk (scope : Scope) (x : Str) : Bool := scope.names.all (fun y => y.2 != .free && y.2 != .cell && (y.2 != .local || scope.names.lookup y.1 == some .local)) && (scope.kind == .function) && (scope.names.lookup x == some .local)
theorem compSc {scope : Scope} {x : Str} (h : compOk scope x = true) : CompSc scope x := by
  unfold compOk at h
  rw [Bool.and_eq_true, Bool.and_eq_true, List.all_eq_true] at h
  obtain ⟨⟨h1, h2⟩, h3⟩ := h
  refine ⟨fun y hy e => ?_, fun y hy e => ?_, eq_of_beq h2, fun y hy e => ?_, eq_of_beq h3⟩
  · have := h1 y hy
    rw [e] at this
    have : (false && _) = true := this
    rw [Bool.false_and] at this
    cases this
  · have := h1 y hy
    rw [e] at this
    have : (true && false && _) = true := this
    rw [Bool.and_false, Bool.false_and] at this
    cases this
  · have := h1 y hy
    rw [e, Bool.and_eq_true] at this
    exact eq_of_beq this.2
variable {scope : Scope} {x : Str} {elt iter : Expr} {px : Pos} {tl te : DTE}
theorem ds_setCompP {y : Str} {i : Nat} {py spos : Pos} (hc : X.calm = true) (S : compOk scope x = true) (hN : X.N.Nodup) (hi : X.N[i]? = some y) (hy : Loc X.env.scope y) (hl : DE X iter tl) (he : ∀ C s H fp pins, DE (cxComp X scope x C s H fp pins) elt te)
    (hsw : swapsWith (.ListComp elt [⟨.Name x px, iter, [], 0⟩] scope pos) (some (.Name y py)) spos.line X.env = pure true := by rfl) (hs : ∀ y, foldedSetIterable iter X.env y = pure y := by intro _; rfl)
    (hf : X.fn y = true ∨ X.env.scope.names.lookup y = some .local := by first | exact .inl rfl | exact .inr rfl | assumption) :
    DSt X fr (.Assign [.Name y py] (.ListComp elt [⟨.Name x px, iter, [], 0⟩] scope pos) spos) (dSet i (dComp tl te)) := by
  obtain ⟨tt, p, l⟩ := hl
  exact ⟨_, ps_setComp (te := liftE X.K te) hc (compSc S) hN hi hy p (fun C s H fp pins => (he C s H fp pins).up) hsw hs hf, fun W0 G ρ σ W D D' a s h => LiF.le (li_comp l (li_lift (t := te))) ρ σ W _ a.rl h _ fun d v W1 s1 i1 q1 => s.nx _ _ W1 ((a.step s1).set i i1) q1⟩
end
end OD

namespace My
open PySem L2 OD

/-! ### the kinds of ways -/
inductive Kd where | plain | below | balanced | growing | falling | pairs
def Kd.num : Kd → Int
  | .plain => 0 | .below => 1 | .balanced => 2 | .growing => 3 | .falling => 4 | .pairs => 5
def Kd.fld : Kd → Str
  | .plain => "base" | .below => "base" | .balanced => "half" | .growing => "first" | .falling => "most" | .pairs => "most"
def Kd.lo : Kd → Int
  | .plain => 2 | .below => 2 | .balanced => 1 | .growing => 2 | .falling => 1 | .pairs => 1
def Kd.hi : Kd → Int
  | .plain => 60 | .below => 60 | .balanced => 30 | .growing => 60 | .falling => 9 | .pairs => 9
def Kd.ok (k : Kd) (n : Int) : Prop := k.lo ≤ n ∧ n ≤ k.hi
def whole : Dt → Option Bool
  | .int _ => some true
  | .bl _ => some false
  | .tup _ => some false
  | .lst _ => some false
  | _ => none
def S_whole : DSp := fun ds Q => ∃ d b, ds = [d] ∧ whole d = some b ∧ Q (.bl b)
def S_bounded : DSp := fun ds Q => ∃ n lo hi, ds = [.int n, .int lo, .int hi] ∧ lo ≤ n ∧ n ≤ hi ∧ Q (.int n)
local macro_rules | `(tactic| walk_at "rd1") => `(tactic| first | refine ⟨_, rfl, ?_⟩ | refine ⟨_, _, rfl, rfl, ?_⟩ | refine ⟨_, _, _, _, rfl, rfl, rfl, ?_⟩ | refine ⟨_, _, _, rfl, rfl, rfl, ?_⟩ | refine iteT ?_ | refine iteF ?_ | refine ⟨rfl, ?_⟩ | refine ⟨cdivN (by decide), ?_⟩ | refine ⟨cmodN (by decide), ?_⟩ | refine ⟨cpowN (by decide), ?_⟩ | refine ⟨mulR (by decide), ?_⟩ | refine ⟨mulL (by decide), ?_⟩ | refine ⟨_, _, rfl, ?_⟩)
local macro_rules | `(tactic| walk_at "rd") => `(tactic| repeat (walk_at "rd1"))
/-! ### numbers: ints and pairs of them -/
inductive Nm where | i (n : Int) | p (a b : Int)
def Nm.dt : Nm → Dt
  | .i n => .int n
  | .p a b => .tup [.int a, .int b]
def Nm.re : Nm → Int
  | .i n => n
  | .p a _ => a
def Nm.im : Nm → Int
  | .i _ => 0
  | .p _ b => b
def Nm.mul : Nm → Nm → Nm
  | .i a, .i b => .i (a * b)
  | m, n => .p (m.re * n.re - m.im * n.im) (m.re * n.im + m.im * n.re)
def Nm.mulOk (m n : Nm) : Prop := IntMulOk m.re n.re ∧ IntMulOk m.im n.im ∧ IntMulOk m.re n.im ∧ IntMulOk m.im n.re
def numD : Dt → Option Nm
  | .int a => some (.i a)
  | .tup [.int a, .int b] => some (.p a b)
  | _ => none
def S_as_pair : DSp := fun ds Q => ∃ d m, ds = [d] ∧ numD d = some m ∧ Q (.tup [.int m.re, .int m.im])
def S_mult : DSp := fun ds Q => ∃ d e m n, ds = [d, e] ∧ numD d = some m ∧ numD e = some n ∧ m.mulOk n ∧ Q (m.mul n).dt
def Kd.four : Kd → Bool
  | .plain => true | .below => true | .balanced => true | .growing => true | _ => false
def Kd.five : Kd → Bool
  | .falling => false | _ => true
def Kd.low : Kd → Int → Int → Int
  | .balanced, n, _ => -n
  | _, _, _ => 0
def Kd.high : Kd → Int → Int → Int
  | .plain, n, _ => n - 1
  | .below, n, _ => n - 1
  | .balanced, n, _ => n
  | .growing, n, p => n + p - 1
  | .falling, n, _ => n
  | .pairs, n, _ => n * n
def Kd.rat : Kd → Int → Int → Int
  | .plain, n, _ => n
  | .below, n, _ => -n
  | .balanced, n, _ => 2 * n + 1
  | .growing, n, p => n + p
  | _, _, _ => 0
def Kd.ratN : Kd → Int → Int → Nm
  | .pairs, n, _ => .p (-n) 1
  | k, n, p => .i (k.rat n p)
def Nm.add : Nm → Nm → Nm
  | .i a, .i b => .i (a + b)
  | m, n => .p (m.re + n.re) (m.im + n.im)
def S_added : DSp := fun ds Q => ∃ d e m n, ds = [d, e] ∧ numD d = some m ∧ numD e = some n ∧ Q (m.add n).dt
def Kd.zero : Kd → Nm
  | .pairs => .p 0 0
  | _ => .i 0
/-- the weights -/
def wtF (n : Int) : Nat → Int × Int
  | 0 => (1, 1)
  | j + 1 => ((wtF n j).2, n * (wtF n j).2 + (wtF n j).1)
def wtR (k : Kd) (n : Int) : Nat → Nm
  | 0 => k.zero.add (.i 1)
  | j + 1 => (k.ratN n j).mul (wtR k n j)
def wt : Kd → Int → Nat → Nm
  | .falling, n, j => .i (wtF n j).2
  | k, n, j => wtR k n j
def wts (k : Kd) (n : Int) (m : Nat) : List Dt := (List.range m).map fun j => (wt k n j).dt
/-! ### bounds -/
theorem ibits {a : Int} {k : Nat} (h : a.natAbs < 2 ^ k) : Builtin.Int.intBits a ≤ k := by
  rw [intBits_le_iff]
  exact h
def bdN (m : Nm) (k : Nat) : Prop := m.re.natAbs < 2 ^ k ∧ m.im.natAbs < 2 ^ k
theorem mulBig {a b : Int} {i j : Nat} (h : a.natAbs < 2 ^ i) (h' : b.natAbs < 2 ^ j) (hij : i + j ≤ 134217728) : IntMulOk a b := IntMulOk.of_le (ibits h) (ibits h') hij
theorem mulOk_of {m n : Nm} {i j : Nat} (h : bdN m i) (h' : bdN n j) (hij : i + j ≤ 134217728) : m.mulOk n := ⟨mulBig h.1 h'.1 hij, mulBig h.2 h'.2 hij, mulBig h.1 h'.2 hij, mulBig h.2 h'.1 hij⟩
/-- the worth -/
def wsum (k : Kd) (n : Int) (ns : List Int) : Nat → Nm
  | 0 => k.zero
  | j + 1 => (wsum k n ns j).add ((Nm.i (ns.getD j 0)).mul (wt k n j))
def rowD (ns : List Int) : Dt := .lst (ns.map Dt.int)
def bdR (ns : List Int) : Prop := ∀ t ∈ ns, t.natAbs < 2 ^ 5000
def S_cell : DSp := fun ds Q => ∃ ns k, ds = [.scr ns, .int k] ∧ 0 ≤ k ∧ ∀ z : Int, Q (.int z)
def S_size : DSp := fun ds Q => ∃ k z, ds = [.int (Kd.num k), .int z] ∧ ∀ n, k.ok n → Q (.int n)
def S_next : DSp := fun ds Q => ∃ k n p lo m, ds = [.int (Kd.num k), .int n, .int p, lo, m] ∧ k.ok n ∧ 0 ≤ p ∧ p ≤ 1000 ∧
  ((k = .falling ∧ ∃ a w, lo = .int a ∧ m = .int w ∧ Q (.int (n * w + a))) ∨ (k.five = true ∧ ∃ j : Nat, m = (wtR k n j).dt ∧ p = j ∧ Q (wtR k n (j + 1)).dt))
def S_lworth : DSp := fun ds Q => ∃ k n ns, ds = [.int (Kd.num k), .int n, rowD ns] ∧ k.ok n ∧ ns.length ≤ 300 ∧ bdR ns ∧ Q (wsum k n ns ns.length).dt
def S_law : DSp := fun ds Q => ∃ ns : List Int, ds = [.scr ns] ∧ ns.length ≤ 63 ∧ Q (.bl true)
structure Adr where
  Plain : Addr
  Below : Addr
  Balanced : Addr
  Growing : Addr
  Falling : Addr
  Pairs : Addr
structure Txt (K : PySem.W.Frag) (mg : Str → Option Value) (A : Adr) : Prop where
  kt : KitT K
  isinstance : mg "isinstance" = none
  n_int : mg "int" = none
  n_bool : mg "bool" = none
  n_tuple : mg "tuple" = none
  n_list : mg "list" = none
  len : mg "len" = none
  range : mg "range" = none
  n_zip : mg "zip" = none
  cl_Plain : Cls K A.Plain
  na_Plain : NoAttr K A.Plain "base"
  cl_Below : Cls K A.Below
  na_Below : NoAttr K A.Below "base"
  cl_Balanced : Cls K A.Balanced
  na_Balanced : NoAttr K A.Balanced "half"
  cl_Growing : Cls K A.Growing
  na_Growing : NoAttr K A.Growing "first"
  cl_Falling : Cls K A.Falling
  na_Falling : NoAttr K A.Falling "most"
  cl_Pairs : Cls K A.Pairs
  na_Pairs : NoAttr K A.Pairs "most"
def Adr.at (A : Adr) : Kd → Addr
  | .plain => A.Plain | .below => A.Below | .balanced => A.Balanced | .growing => A.Growing | .falling => A.Falling | .pairs => A.Pairs
def wayD (A : Adr) (k : Kd) (n : Int) : Dt := .way (A.at k) k.fld n
theorem numD_dt {d : Dt} {m : Nm} (h : numD d = some m) : d = m.dt := by
  unfold numD at h
  split at h
  · cases h; rfl
  · cases h; rfl
  · cases h
theorem numD_of (m : Nm) : numD m.dt = some m := by cases m <;> rfl
theorem okE_dt (m : Nm) : okE 40 m.dt = true := by cases m <;> rfl
theorem cutD_length (xs : List Dt) (lo hi : Option Int) : (cutD xs lo hi).length ≤ xs.length := by
  unfold cutD
  rw [List.length_take, List.length_drop]
  omega
theorem ints_of {ns ms : List Int} {lo hi : Option Int} {e : Dt} (h : e ∈ ms.map Dt.int ++ cutD (ns.map Dt.int) lo hi) : ∃ z, e = .int z := by
  rcases List.mem_append.mp h with h | h
  · obtain ⟨z, _, e⟩ := List.mem_map.mp h
    exact ⟨z, e.symm⟩
  · obtain ⟨z, _, e⟩ := List.mem_map.mp (List.mem_of_mem_drop (List.mem_of_mem_take h))
    exact ⟨z, e.symm⟩
theorem int_at {ns ms : List Int} {lo hi : Option Int} {i : Nat} (h : i < (ms.map Dt.int ++ cutD (ns.map Dt.int) lo hi).length) : ∃ z, atI (ms.map Dt.int ++ cutD (ns.map Dt.int) lo hi) (i : Int) = some (.int z) := by
  have e := List.getElem?_eq_getElem h
  obtain ⟨z, hz⟩ := ints_of (List.mem_of_getElem? e)
  rw [hz] at e
  exact ⟨z, atI_nat e⟩
theorem small {n : Int} (h0 : -1000000 ≤ n) (h1 : n ≤ 1000000) (c : Int) : IntMulOk c n := mulR (by rw [decide_eq_true_iff]; omega)
theorem small' {n : Int} (h0 : -1000000 ≤ n) (h1 : n ≤ 1000000) (c : Int) : IntMulOk n c := mulL (by rw [decide_eq_true_iff]; omega)
def S_get (A : Adr) (k : Kd) (g : Int → Int → Int) : DSp := fun ds Q => ∃ n p, ds = [wayD A k n, .int p] ∧ k.ok n ∧ Q (.int (g n p))
def S_getN (A : Adr) (k : Kd) (g : Int → Int → Nm) : DSp := fun ds Q => ∃ n p, ds = [wayD A k n, .int p] ∧ k.ok n ∧ Q (g n p).dt
def S_zero : DSp := fun ds Q => ∃ o p, ds = [o, p] ∧ Q (.int 0)
def S_no0 : DSp := fun ds Q => ∃ o, ds = [o] ∧ Q (.int 0)
def S_no2 : DSp := fun ds Q => ∃ o, ds = [o] ∧ Q (.tup [.int 0, .int 0])
def S_no (k : Kd) : DSp := fun ds Q => ∃ o, ds = [o] ∧ Q k.zero.dt
def S_ws (A : Adr) : DSp := fun ds Q => ∃ k n m, ds = [wayD A k n, .int m] ∧ k.five = true ∧ k.ok n ∧ 0 ≤ m ∧ m ≤ 1000 ∧ Q (.lst (wts k n m.toNat))
def S_wsF (A : Adr) : DSp := fun ds Q => ∃ n m, ds = [wayD A .falling n, .int m] ∧ Kd.falling.ok n ∧ 0 ≤ m ∧ m ≤ 1000 ∧ Q (.lst (wts .falling n m.toNat))
def S_wsA (A : Adr) (k : Kd) : DSp := fun ds Q => ∃ n m, ds = [wayD A k n, .int m] ∧ k.ok n ∧ 0 ≤ m ∧ m ≤ 1000 ∧ Q (.lst (wts k n m.toNat))
def S_wt (A : Adr) : DSp := fun ds Q => ∃ k n p, ds = [wayD A k n, .int p] ∧ k.ok n ∧ 0 ≤ p ∧ p < 1000 ∧ Q (wt k n p.toNat).dt
theorem wts_succ (k : Kd) (n : Int) (m : Nat) : wts k n (m + 1) = wts k n m ++ [(wt k n m).dt] := by
  unfold wts
  rw [List.range_succ, List.map_append]
  rfl
theorem wts_length (k : Kd) (n : Int) (m : Nat) : (wts k n m).length = m := by
  unfold wts
  rw [List.length_map, List.length_range]
theorem wts_at {k : Kd} {n : Int} {m j : Nat} (h : j < m) : (wts k n m)[j]? = some (wt k n j).dt := by
  unfold wts
  rw [List.getElem?_map, List.getElem?_range h]
  rfl
theorem wts_atI {k : Kd} {n p : Int} (h : 0 ≤ p) : atI (wts k n (p + 1).toNat) p = some (wt k n p.toNat).dt := by
  have e : (p.toNat : Int) = p := Int.toNat_of_nonneg h
  have := atI_nat (wts_at (k := k) (n := n) (m := (p + 1).toNat) (j := p.toNat) (by omega))
  rwa [e] at this
theorem ok_bd {k : Kd} {n : Int} (h : k.ok n) : 1 ≤ n ∧ n ≤ 60 := by
  obtain ⟨h1, h2⟩ := h
  cases k <;> simp only [Kd.lo, Kd.hi] at * <;> omega
theorem rat_bd {k : Kd} {n p : Int} (h : k.ok n) (p0 : 0 ≤ p) (p1 : p ≤ 1000) : -1000000 ≤ (k.ratN n p).re ∧ (k.ratN n p).re ≤ 1000000 ∧ -1000000 ≤ (k.ratN n p).im ∧ (k.ratN n p).im ≤ 1000000 := by
  obtain ⟨h1, h2⟩ := ok_bd h
  cases k <;> simp only [Kd.ratN, Kd.rat, Nm.re, Nm.im] <;> omega
theorem rat_mul {k : Kd} {n p : Int} (h : k.ok n) (p0 : 0 ≤ p) (p1 : p ≤ 1000) (m : Nm) : (k.ratN n p).mulOk m := by
  obtain ⟨a, b, c, d⟩ := rat_bd h p0 p1
  exact ⟨small' a b _, small' c d _, small' a b _, small' c d _⟩
theorem wt_five {k : Kd} {n : Int} {j : Nat} (h : k.five = true) : wt k n j = wtR k n j := by cases k <;> first | rfl | cases h
def S_made (A : Adr) : DSp := fun ds Q => ∃ k n, ds = [.int (Kd.num k), .int n] ∧ k.ok n ∧ Q (wayD A k n)
theorem row_at {ns : List Int} {i : Nat} (h : i < ns.length) : atI (ns.map Dt.int) (i : Int) = some (.int (ns.getD i 0)) := by
  refine atI_nat ?_
  rw [List.getElem?_map, List.getElem?_eq_getElem h, List.getD_eq_getElem?_getD, List.getElem?_eq_getElem h]
  rfl
theorem row_get {ns : List Int} {i : Nat} {x : Dt} (h : (ns.map Dt.int)[i]? = some x) : x = .int (ns.getD i 0) ∧ i < ns.length := by
  rw [List.getElem?_map] at h
  cases q : ns[i]? with
  | none => rw [q] at h; cases h
  | some z =>
    rw [q] at h
    have hl : i < ns.length := by
      rcases Nat.lt_or_ge i ns.length with h | h
      · exact h
      · rw [List.getElem?_eq_none h] at q; cases q
    rw [List.getD_eq_getElem?_getD, q]
    exact ⟨(Option.some.inj h).symm, hl⟩
theorem bdR_get {ns : List Int} (h : bdR ns) (i : Nat) : (ns.getD i 0).natAbs < 2 ^ 5000 := by
  rw [List.getD_eq_getElem?_getD]
  cases q : ns[i]? with
  | none => exact Nat.two_pow_pos 5000
  | some z => exact h z (List.mem_of_getElem? q)
theorem wts_get {k : Kd} {n : Int} {m i : Nat} {y : Dt} (h : (wts k n m)[i]? = some y) : y = (wt k n i).dt := by
  have hl : i < m := by
    rcases Nat.lt_or_ge i m with q | q
    · exact q
    · rw [List.getElem?_eq_none (by rw [wts_length]; exact q)] at h; cases h
  rw [wts_at hl] at h
  exact (Option.some.inj h).symm
theorem okE_row (ns : List Int) : okE 40 (rowD ns) = true := by
  show (ns.map Dt.int).all (okE 39) = true
  rw [List.all_eq_true]
  intro x hx
  obtain ⟨z, _, e⟩ := List.mem_map.mp hx
  subst e
  rfl
theorem eq_row (ns : List Int) : eqD (rowD ns) (rowD ns) = true := eqD_self 40 (okE_row ns)
theorem wtF_bd {n : Int} (h1 : 1 ≤ n) (h2 : n ≤ 60) : ∀ j : Nat, (wtF n j).1.natAbs < 2 ^ (12 * j + 1) ∧ (wtF n j).2.natAbs < 2 ^ (12 * j + 1)
  | 0 => ⟨(by decide : (1 : Int).natAbs < 2 ^ 1), (by decide : (1 : Int).natAbs < 2 ^ 1)⟩
  | j + 1 => by
    obtain ⟨a, b⟩ := wtF_bd h1 h2 j
    have pw : 2 ^ (12 * (j + 1) + 1) = 2 ^ (12 * j + 1) * 4096 := by rw [show 12 * (j + 1) + 1 = (12 * j + 1) + 12 by omega, Nat.pow_add]
    rw [pw]
    unfold wtF
    dsimp only
    generalize 2 ^ (12 * j + 1) = B at *
    have hm : (n * (wtF n j).2).natAbs ≤ 60 * (wtF n j).2.natAbs := by
      rw [Int.natAbs_mul]
      exact Nat.mul_le_mul_right _ (by omega)
    have hs := Int.natAbs_add_le (n * (wtF n j).2) (wtF n j).1
    exact ⟨by omega, by omega⟩
theorem mul_re (r w : Nm) : (r.mul w).re = r.re * w.re - r.im * w.im := by cases r <;> cases w <;> simp [Nm.mul, Nm.re, Nm.im]
theorem mul_im (r w : Nm) : (r.mul w).im = r.re * w.im + r.im * w.re := by cases r <;> cases w <;> simp [Nm.mul, Nm.re, Nm.im]
theorem wtR_bd {k : Kd} {n : Int} (h : k.ok n) : ∀ j : Nat, j ≤ 1000 → bdN (wtR k n j) (12 * j + 1)
  | 0, _ => by cases k <;> exact ⟨(by decide : (1 : Int).natAbs < 2 ^ 1), (by decide : (0 : Int).natAbs < 2 ^ 1)⟩
  | j + 1, hj => by
    obtain ⟨a, b⟩ := wtR_bd h j (by omega)
    have pw : 2 ^ (12 * (j + 1) + 1) = 2 ^ (12 * j + 1) * 4096 := by rw [show 12 * (j + 1) + 1 = (12 * j + 1) + 12 by omega, Nat.pow_add]
    obtain ⟨r1, r2, r3, r4⟩ := rat_bd (p := (j : Int)) h (by omega) (by omega)
    have hr : (k.ratN n j).re.natAbs ≤ 2000 ∧ (k.ratN n j).im.natAbs ≤ 1 := by
      obtain ⟨h1, h2⟩ := ok_bd h
      cases k <;> simp only [Kd.ratN, Kd.rat, Nm.re, Nm.im] <;> constructor <;> omega
    unfold bdN
    rw [pw]
    unfold wtR
    generalize 2 ^ (12 * j + 1) = B at *
    generalize k.ratN n j = r at *
    generalize wtR k n j = w at *
    obtain ⟨c, d⟩ := hr
    have m1 : (r.re * w.re).natAbs ≤ 2000 * w.re.natAbs := by rw [Int.natAbs_mul]; exact Nat.mul_le_mul_right _ c
    have m2 : (r.im * w.im).natAbs ≤ 1 * w.im.natAbs := by rw [Int.natAbs_mul]; exact Nat.mul_le_mul_right _ d
    have m3 : (r.re * w.im).natAbs ≤ 2000 * w.im.natAbs := by rw [Int.natAbs_mul]; exact Nat.mul_le_mul_right _ c
    have m4 : (r.im * w.re).natAbs ≤ 1 * w.re.natAbs := by rw [Int.natAbs_mul]; exact Nat.mul_le_mul_right _ d
    have s1 : (r.re * w.re - r.im * w.im).natAbs ≤ (r.re * w.re).natAbs + (r.im * w.im).natAbs := by omega
    have s2 := Int.natAbs_add_le (r.re * w.im) (r.im * w.re)
    rw [mul_re, mul_im]
    exact ⟨by omega, by omega⟩
theorem wt_bd {k : Kd} {n : Int} (h : k.ok n) {j : Nat} (hj : j ≤ 1000) : bdN (wt k n j) (12 * j + 1) := by
  by_cases h5 : k.five = true
  · rw [wt_five h5]; exact wtR_bd h j hj
  · cases k with
    | falling =>
      obtain ⟨h1, h2⟩ := ok_bd h
      exact ⟨(wtF_bd h1 h2 j).2, show (0 : Int).natAbs < _ from Nat.two_pow_pos _⟩
    | _ => exact absurd rfl h5
theorem bd_i {a : Int} {i : Nat} (h : a.natAbs < 2 ^ i) : bdN (.i a) i := ⟨h, Nat.two_pow_pos _⟩
theorem wt4 {k : Kd} {n : Int} (h : k.four = true) : ∀ j, ∃ w, wtR k n j = .i w
  | 0 => by cases k <;> cases h <;> exact ⟨_, rfl⟩
  | j + 1 => by
    obtain ⟨w, e⟩ := wt4 (n := n) h j
    unfold wtR
    rw [e]
    cases k <;> cases h <;> exact ⟨_, rfl⟩
theorem wt2 {n : Int} : ∀ j, ∃ x y, wtR .pairs n j = .p x y
  | 0 => ⟨_, _, rfl⟩
  | j + 1 => by
    obtain ⟨x, y, e⟩ := wt2 (n := n) j
    unfold wtR
    rw [e]
    exact ⟨_, _, rfl⟩
theorem wtI {k : Kd} {n : Int} (h : k ≠ .pairs) (j : Nat) : ∃ w, wt k n j = .i w := by
  cases k with
  | pairs => exact absurd rfl h
  | falling => exact ⟨_, rfl⟩
  | _ => exact wt4 rfl _
theorem wsI {k : Kd} {n : Int} {ns : List Int} (h : k ≠ .pairs) : ∀ j, ∃ w, wsum k n ns j = .i w
  | 0 => by cases k <;> first | exact ⟨_, rfl⟩ | exact absurd rfl h
  | j + 1 => by
    obtain ⟨a, ea⟩ := wsI (n := n) (ns := ns) h j
    obtain ⟨w, ew⟩ := wtI (n := n) h j
    unfold wsum
    rw [ea, ew]
    exact ⟨_, rfl⟩
theorem wsP {n : Int} {ns : List Int} : ∀ j, ∃ x y, wsum .pairs n ns j = .p x y
  | 0 => ⟨_, _, rfl⟩
  | j + 1 => by
    obtain ⟨x, y, e⟩ := wsP (n := n) (ns := ns) j
    obtain ⟨u, v, ew⟩ := wt2 (n := n) j
    unfold wsum
    rw [e]
    show ∃ _ _, (Nm.p x y).add ((Nm.i _).mul (wtR .pairs n j)) = _
    rw [ew]
    exact ⟨_, _, rfl⟩
theorem kind6 (i : Int) : ∃ k : Kd, k.num = i.fmod 6 := by
  have a0 := Int.fmod_nonneg_of_pos i (show (0 : Int) < 6 by decide)
  have a1 := Int.fmod_lt_of_pos i (show (0 : Int) < 6 by decide)
  rcases (by omega : i.fmod 6 = 0 ∨ i.fmod 6 = 1 ∨ i.fmod 6 = 2 ∨ i.fmod 6 = 3 ∨ i.fmod 6 = 4 ∨ i.fmod 6 = 5) with e | e | e | e | e | e <;> rw [e]
  · exact ⟨.plain, rfl⟩
  · exact ⟨.below, rfl⟩
  · exact ⟨.balanced, rfl⟩
  · exact ⟨.growing, rfl⟩
  · exact ⟨.falling, rfl⟩
  · exact ⟨.pairs, rfl⟩
theorem kindN {i : Nat} (h : i < 6) : ∃ k : Kd, k.num = i := by
  rcases (by omega : i = 0 ∨ i = 1 ∨ i = 2 ∨ i = 3 ∨ i = 4 ∨ i = 5) with e | e | e | e | e | e <;> subst e
  · exact ⟨.plain, rfl⟩
  · exact ⟨.below, rfl⟩
  · exact ⟨.balanced, rfl⟩
  · exact ⟨.growing, rfl⟩
  · exact ⟨.falling, rfl⟩
  · exact ⟨.pairs, rfl⟩
def S_worth (A : Adr) : DSp := fun ds Q => ∃ k n ns, ds = [wayD A k n, rowD ns] ∧ k.ok n ∧ ns.length ≤ 300 ∧ bdR ns ∧ Q (wsum k n ns ns.length).dt
def S_isnum : DSp := fun ds Q => ∃ k n ns j, ds = [(wsum k n ns j).dt, .int (Kd.num k)] ∧ Q (.bl true)
def S_thing : DSp := fun ds Q => ∃ z : Int, ds = [.int z] ∧ ∀ r : Int, r.natAbs < 2 ^ 5000 → Q (.int r)
theorem cut_mem {ds : List Dt} {lo hi : Option Int} {e : Dt} (h : e ∈ cutD ds lo hi) : e ∈ ds := List.mem_of_mem_drop (List.mem_of_mem_take h)
theorem cut_row {ms : List Int} (lo hi : Option Int) (h : ms.length ≤ 300) (hb : bdR ms) : ∃ ms' : List Int, cutD (ms.map Dt.int) lo hi = ms'.map Dt.int ∧ ms'.length ≤ 300 ∧ bdR ms' := by
  unfold cutD
  rw [← List.map_drop, ← List.map_take]
  refine ⟨_, rfl, ?_, fun t ht => hb t (List.mem_of_mem_drop (List.mem_of_mem_take ht))⟩
  rw [List.length_take, List.length_drop]
  omega
section
variable {P : Program} {w : World} {K : PySem.W.Frag} {mg : Str → Option Value} {base : Heap} {f : Addr} {fd : FuncData} {A : Adr}
abbrev s_law_cell_at : Stmt := top 23
theorem sc_law_cell_at : FnScope ["_law_script", "_law_k"] ["_law_script", "_law_k"] (defScope s_law_cell_at) := ⟨rfl, rfl, rfl, by decide +kernel, rfl, by decide +kernel, by decide +kernel⟩
theorem ok_law_cell_at (T : Txt K mg A) (F : Fun K "_law_cell_at" "_law_cell_at" s_law_cell_at f fd) : FnOk P w K mg base CX0 1 f fd ["_law_script", "_law_k"] (PureSp K (S_cell)) := by
  refine okD F sc_law_cell_at (fun ds Q h => ?_) (fun cdv A' outer s H E hr ds Q h => ?_)
  · obtain ⟨ns, k, rfl, hk, q⟩ := h
    rfl
  obtain ⟨ns, k, rfl, hk, q⟩ := h
  refine ⟨_, (dss_cons (ds_if (dt_cmp (o_lt) (dv 1) (de_len rfl T.len (dv 0)) (nomark _)) (dss_one (ds_ret (de_ix (dv 0) (dv 1) (fun _ _ => rfl)))) dss_nil)
  (dss_one (ds_ret de_int))), ?_⟩
  walk_at "rd"
  refine ite2 (fun hlt => ?_) (fun _ => q 0)
  have hlt : k < (ns.map Dt.int).length := of_decide_eq_true hlt
  rw [List.length_map] at hlt
  have e : ((k.toNat : Nat) : Int) = k := Int.toNat_of_nonneg hk
  have := row_at (ns := ns) (i := k.toNat) (by omega)
  rw [e] at this
  exact ⟨_, rfl, _, rfl, _, _, _, rfl, rfl, this, q _⟩
abbrev s_law_thing : Stmt := top 30
theorem sc_law_thing : FnScope ["_law_cell", "_law_far"] ["_law_cell"] (defScope s_law_thing) := ⟨rfl, rfl, rfl, by decide +kernel, rfl, by decide +kernel, by decide +kernel⟩
theorem ok_law_thing (T : Txt K mg A) (F : Fun K "_law_thing" "_law_thing" s_law_thing f fd) : FnOk P w K mg base CX0 1 f fd ["_law_cell"] (PureSp K (S_thing)) := by
  refine okD F sc_law_thing (fun ds Q h => ?_) (fun cdv A' outer s H E hr ds Q h => ?_)
  · obtain ⟨z, rfl, q⟩ := h
    rfl
  obtain ⟨z, rfl, q⟩ := h
  refine ⟨_, (dss_cons (ds_set (i := 1) sc_law_thing.nd rfl (Or.inl rfl) (de_op o_mod (de_op o_fdiv (dv 0) de_int) (de_op o_pow de_int de_int)))
  (dss_one (ds_ret (de_ix (de_lst (da_cons de_int (da_cons (de_op o_sub (de_op o_mod (dv 1) de_int) de_int) (da_cons (dv 1) (da_cons (de_op o_sub de_int (dv 1)) da_nil))))) (de_op o_mod (dv 0) de_int) (fun _ _ => rfl))))), ?_⟩
  walk_at "rd"
  dsimp only
  have f0 := Int.fmod_nonneg_of_pos (z.fdiv 4) (show (0 : Int) < 10 ^ (40 : Int).toNat by decide)
  have f1 := Int.fmod_lt_of_pos (z.fdiv 4) (show (0 : Int) < 10 ^ (40 : Int).toNat by decide)
  have hB : (10 : Nat) ^ 40 < 2 ^ 200 := by decide
  have hC : (2 : Nat) ^ 200 ≤ 2 ^ 5000 := Nat.pow_le_pow_right (by decide) (by decide)
  have f1' : (z.fdiv 4).fmod (10 ^ (40 : Int).toNat) < ((10 ^ 40 : Nat) : Int) := f1
  generalize (z.fdiv 4).fmod (10 ^ (40 : Int).toNat) = far at f0 f1' ⊢
  have a0 := Int.fmod_nonneg_of_pos z (show (0 : Int) < 4 by decide)
  have a1 := Int.fmod_lt_of_pos z (show (0 : Int) < 4 by decide)
  have g0 := Int.fmod_nonneg_of_pos far (show (0 : Int) < 20 by decide)
  have g1 := Int.fmod_lt_of_pos far (show (0 : Int) < 20 by decide)
  generalize hB' : (10 : Nat) ^ 40 = B at hB f1'
  have h2 : 400 < B := by rw [← hB']; decide
  generalize (2 : Nat) ^ 200 = C at hB hC
  have key : ∃ r, atI [Dt.int 0, .int (far.fmod 20 - 10), .int far, .int (0 - far)] (z.fmod 4) = some (.int r) ∧ r.natAbs < 2 ^ 5000 := by
    generalize (2 : Nat) ^ 5000 = E at hC ⊢
    rcases (by omega : z.fmod 4 = 0 ∨ z.fmod 4 = 1 ∨ z.fmod 4 = 2 ∨ z.fmod 4 = 3) with e | e | e | e <;> rw [e]
    · exact ⟨_, rfl, by omega⟩
    · exact ⟨_, rfl, by omega⟩
    · exact ⟨_, rfl, by omega⟩
    · exact ⟨_, rfl, by omega⟩
  obtain ⟨r, e, hr⟩ := key
  exact ⟨_, _, _, rfl, rfl, e, q r hr⟩
abbrev s_law_size : Stmt := top 25
theorem sc_law_size : FnScope ["_law_kind", "_law_number"] ["_law_kind", "_law_number"] (defScope s_law_size) := ⟨rfl, rfl, rfl, by decide +kernel, rfl, by decide +kernel, by decide +kernel⟩
theorem ok_law_size (T : Txt K mg A) (F : Fun K "_law_size" "_law_size" s_law_size f fd) : FnOk P w K mg base CX0 1 f fd ["_law_kind", "_law_number"] (PureSp K (S_size)) := by
  refine okD F sc_law_size (fun ds Q h => ?_) (fun cdv A' outer s H E hr ds Q h => ?_)
  · obtain ⟨k, z, rfl, q⟩ := h
    rfl
  obtain ⟨k, z, rfl, q⟩ := h
  refine ⟨_, (dss_one (ds_ret (de_ix (de_lst (da_cons (de_op o_add de_int (de_op o_mod (dv 1) de_int)) (da_cons (de_op o_add de_int (de_op o_mod (dv 1) de_int)) (da_cons (de_op o_add de_int (de_op o_mod (dv 1) de_int)) (da_cons (de_op o_add de_int (de_op o_mod (dv 1) de_int)) (da_cons (de_op o_add de_int (de_op o_mod (dv 1) de_int)) (da_cons (de_op o_add de_int (de_op o_mod (dv 1) de_int)) da_nil))))))) (dv 0) (fun _ _ => rfl)))), ?_⟩
  have b0 := Int.fmod_nonneg_of_pos z (show (0 : Int) < 59 by decide)
  have b1 := Int.fmod_lt_of_pos z (show (0 : Int) < 59 by decide)
  have c0 := Int.fmod_nonneg_of_pos z (show (0 : Int) < 30 by decide)
  have c1 := Int.fmod_lt_of_pos z (show (0 : Int) < 30 by decide)
  have d0 := Int.fmod_nonneg_of_pos z (show (0 : Int) < 9 by decide)
  have d1 := Int.fmod_lt_of_pos z (show (0 : Int) < 9 by decide)
  walk_at "rd"
  cases k
  · exact ⟨_, _, _, rfl, rfl, rfl, q _ ⟨by show (2 : Int) ≤ _; omega, by show _ ≤ (60 : Int); omega⟩⟩
  · exact ⟨_, _, _, rfl, rfl, rfl, q _ ⟨by show (2 : Int) ≤ _; omega, by show _ ≤ (60 : Int); omega⟩⟩
  · exact ⟨_, _, _, rfl, rfl, rfl, q _ ⟨by show (1 : Int) ≤ _; omega, by show _ ≤ (30 : Int); omega⟩⟩
  · exact ⟨_, _, _, rfl, rfl, rfl, q _ ⟨by show (2 : Int) ≤ _; omega, by show _ ≤ (60 : Int); omega⟩⟩
  · exact ⟨_, _, _, rfl, rfl, rfl, q _ ⟨by show (1 : Int) ≤ _; omega, by show _ ≤ (9 : Int); omega⟩⟩
  · exact ⟨_, _, _, rfl, rfl, rfl, q _ ⟨by show (1 : Int) ≤ _; omega, by show _ ≤ (9 : Int); omega⟩⟩
abbrev s_is_whole : Stmt := top 6
theorem sc_is_whole : FnScope ["value"] ["value"] (defScope s_is_whole) := ⟨rfl, rfl, rfl, by decide +kernel, rfl, by decide +kernel, by decide +kernel⟩
theorem ok_is_whole (T : Txt K mg A) (F : Fun K "is_whole" "is_whole" s_is_whole f fd) : FnOk P w K mg base CX0 1 f fd ["value"] (PureSp K (S_whole)) := by
  refine okD F sc_is_whole (fun ds Q h => ?_) (fun cdv A' outer s H E hr ds Q h => ?_)
  · obtain ⟨d, b, rfl, hw, q⟩ := h
    rfl
  obtain ⟨d, b, rfl, hw, q⟩ := h
  refine ⟨_, (dss_one (ds_ret (de_and (de_isi (T := .int) T.kt T.isinstance T.n_int PyProof.Rows.boot_int (dv 0)) (de_one (de_not (de_isi (T := .bool) T.kt T.isinstance T.n_bool PyProof.Rows.boot_bool (dv 0))))))), ?_⟩
  cases d <;> cases hw
  all_goals
    walk_at "rd"
    exact q
abbrev s_bounded : Stmt := top 12
theorem sc_bounded : FnScope ["number", "least", "most"] ["number", "least", "most"] (defScope s_bounded) := ⟨rfl, rfl, rfl, by decide +kernel, rfl, by decide +kernel, by decide +kernel⟩
theorem ok_bounded (T : Txt K mg A) (G_is_whole : DOk P w K mg base 1 "is_whole" (S_whole)) (F : Fun K "bounded" "bounded" s_bounded f fd) : FnOk P w K mg base CX0 2 f fd ["number", "least", "most"] (PureSp K (S_bounded)) := by
  refine okD F sc_bounded (fun ds Q h => ?_) (fun cdv A' outer s H E hr ds Q h => ?_)
  · obtain ⟨n, lo, hi, rfl, h1, h2, q⟩ := h
    rfl
  obtain ⟨n, lo, hi, rfl, h1, h2, q⟩ := h
  refine ⟨_, (dss_cons (ds_if (DW.dt (dw_or (dt_not (dt_val (de_call G_is_whole (hr.mono (by decide)) rfl (da_cons (dv 0) da_nil)))) (dw_or (dt_cmp (o_lt) (dv 0) (dv 1) (nomark _)) (dw_or1 (dt_cmp (o_gt) (dv 0) (dv 2) (nomark _)))))) (dss_one ds_never) dss_nil)
  (dss_one (ds_ret (dv 0)))), ?_⟩
  walk_at "rd"
  rw [decide_eq_false (by omega : ¬ n < lo)]
  walk_at "rd"
  rw [decide_eq_false (by omega : ¬ hi < n)]
  walk_at "rd"
  exact q
abbrev s_Plain_init : Stmt := inClass (top 14) 0
theorem sc_Plain_init : FnScope ["self", "base"] ["self", "base"] (defScope s_Plain_init) := ⟨rfl, rfl, rfl, by decide +kernel, rfl, by decide +kernel, by decide +kernel⟩
theorem ok_Plain_init (T : Txt K mg A) (G_bounded : DOk P w K mg base 2 "bounded" (S_bounded)) (F : Fun K "__init__" "Plain.__init__" s_Plain_init f fd) : FnOk P w K mg base CX0 3 f fd ["self", "base"] (spInitW A.Plain "base" (Kd.ok .plain)) := by
  refine init_ok F sc_Plain_init T.cl_Plain T.na_Plain (fun cdv A outer s H E hr => ?_)
  obtain ⟨te, p, l⟩ := ((de_call G_bounded (hr.mono (by decide)) rfl (da_cons (dv 1) (da_cons de_int (da_cons de_int da_nil)))) : DE (cxOf CX0 P w K mg base ["self", "base"] "Plain.__init__" (defScope s_Plain_init) f cdv A outer s H E).nox _ _)
  refine ⟨te, _, pss_one (ps_fld (pv 0) p rfl), l, fun i hi => ?_⟩
  exact ⟨_, rfl, _, _, _, rfl, hi.1, hi.2, rfl⟩
abbrev s_Below_init : Stmt := inClass (top 15) 0
theorem sc_Below_init : FnScope ["self", "base"] ["self", "base"] (defScope s_Below_init) := ⟨rfl, rfl, rfl, by decide +kernel, rfl, by decide +kernel, by decide +kernel⟩
theorem ok_Below_init (T : Txt K mg A) (G_bounded : DOk P w K mg base 2 "bounded" (S_bounded)) (F : Fun K "__init__" "Below.__init__" s_Below_init f fd) : FnOk P w K mg base CX0 3 f fd ["self", "base"] (spInitW A.Below "base" (Kd.ok .below)) := by
  refine init_ok F sc_Below_init T.cl_Below T.na_Below (fun cdv A outer s H E hr => ?_)
  obtain ⟨te, p, l⟩ := ((de_call G_bounded (hr.mono (by decide)) rfl (da_cons (dv 1) (da_cons de_int (da_cons de_int da_nil)))) : DE (cxOf CX0 P w K mg base ["self", "base"] "Below.__init__" (defScope s_Below_init) f cdv A outer s H E).nox _ _)
  refine ⟨te, _, pss_one (ps_fld (pv 0) p rfl), l, fun i hi => ?_⟩
  exact ⟨_, rfl, _, _, _, rfl, hi.1, hi.2, rfl⟩
abbrev s_Balanced_init : Stmt := inClass (top 16) 0
theorem sc_Balanced_init : FnScope ["self", "half"] ["self", "half"] (defScope s_Balanced_init) := ⟨rfl, rfl, rfl, by decide +kernel, rfl, by decide +kernel, by decide +kernel⟩
theorem ok_Balanced_init (T : Txt K mg A) (G_bounded : DOk P w K mg base 2 "bounded" (S_bounded)) (F : Fun K "__init__" "Balanced.__init__" s_Balanced_init f fd) : FnOk P w K mg base CX0 3 f fd ["self", "half"] (spInitW A.Balanced "half" (Kd.ok .balanced)) := by
  refine init_ok F sc_Balanced_init T.cl_Balanced T.na_Balanced (fun cdv A outer s H E hr => ?_)
  obtain ⟨te, p, l⟩ := ((de_call G_bounded (hr.mono (by decide)) rfl (da_cons (dv 1) (da_cons de_int (da_cons de_int da_nil)))) : DE (cxOf CX0 P w K mg base ["self", "half"] "Balanced.__init__" (defScope s_Balanced_init) f cdv A outer s H E).nox _ _)
  refine ⟨te, _, pss_one (ps_fld (pv 0) p rfl), l, fun i hi => ?_⟩
  exact ⟨_, rfl, _, _, _, rfl, hi.1, hi.2, rfl⟩
abbrev s_Growing_init : Stmt := inClass (top 17) 0
theorem sc_Growing_init : FnScope ["self", "first"] ["self", "first"] (defScope s_Growing_init) := ⟨rfl, rfl, rfl, by decide +kernel, rfl, by decide +kernel, by decide +kernel⟩
theorem ok_Growing_init (T : Txt K mg A) (G_bounded : DOk P w K mg base 2 "bounded" (S_bounded)) (F : Fun K "__init__" "Growing.__init__" s_Growing_init f fd) : FnOk P w K mg base CX0 3 f fd ["self", "first"] (spInitW A.Growing "first" (Kd.ok .growing)) := by
  refine init_ok F sc_Growing_init T.cl_Growing T.na_Growing (fun cdv A outer s H E hr => ?_)
  obtain ⟨te, p, l⟩ := ((de_call G_bounded (hr.mono (by decide)) rfl (da_cons (dv 1) (da_cons de_int (da_cons de_int da_nil)))) : DE (cxOf CX0 P w K mg base ["self", "first"] "Growing.__init__" (defScope s_Growing_init) f cdv A outer s H E).nox _ _)
  refine ⟨te, _, pss_one (ps_fld (pv 0) p rfl), l, fun i hi => ?_⟩
  exact ⟨_, rfl, _, _, _, rfl, hi.1, hi.2, rfl⟩
abbrev s_Falling_init : Stmt := inClass (top 18) 0
theorem sc_Falling_init : FnScope ["self", "most"] ["self", "most"] (defScope s_Falling_init) := ⟨rfl, rfl, rfl, by decide +kernel, rfl, by decide +kernel, by decide +kernel⟩
theorem ok_Falling_init (T : Txt K mg A) (G_bounded : DOk P w K mg base 2 "bounded" (S_bounded)) (F : Fun K "__init__" "Falling.__init__" s_Falling_init f fd) : FnOk P w K mg base CX0 3 f fd ["self", "most"] (spInitW A.Falling "most" (Kd.ok .falling)) := by
  refine init_ok F sc_Falling_init T.cl_Falling T.na_Falling (fun cdv A outer s H E hr => ?_)
  obtain ⟨te, p, l⟩ := ((de_call G_bounded (hr.mono (by decide)) rfl (da_cons (dv 1) (da_cons de_int (da_cons de_int da_nil)))) : DE (cxOf CX0 P w K mg base ["self", "most"] "Falling.__init__" (defScope s_Falling_init) f cdv A outer s H E).nox _ _)
  refine ⟨te, _, pss_one (ps_fld (pv 0) p rfl), l, fun i hi => ?_⟩
  exact ⟨_, rfl, _, _, _, rfl, hi.1, hi.2, rfl⟩
abbrev s_Pairs_init : Stmt := inClass (top 19) 0
theorem sc_Pairs_init : FnScope ["self", "most"] ["self", "most"] (defScope s_Pairs_init) := ⟨rfl, rfl, rfl, by decide +kernel, rfl, by decide +kernel, by decide +kernel⟩
theorem ok_Pairs_init (T : Txt K mg A) (G_bounded : DOk P w K mg base 2 "bounded" (S_bounded)) (F : Fun K "__init__" "Pairs.__init__" s_Pairs_init f fd) : FnOk P w K mg base CX0 3 f fd ["self", "most"] (spInitW A.Pairs "most" (Kd.ok .pairs)) := by
  refine init_ok F sc_Pairs_init T.cl_Pairs T.na_Pairs (fun cdv A outer s H E hr => ?_)
  obtain ⟨te, p, l⟩ := ((de_call G_bounded (hr.mono (by decide)) rfl (da_cons (dv 1) (da_cons de_int (da_cons de_int da_nil)))) : DE (cxOf CX0 P w K mg base ["self", "most"] "Pairs.__init__" (defScope s_Pairs_init) f cdv A outer s H E).nox _ _)
  refine ⟨te, _, pss_one (ps_fld (pv 0) p rfl), l, fun i hi => ?_⟩
  exact ⟨_, rfl, _, _, _, rfl, hi.1, hi.2, rfl⟩
abbrev s_law_made : Stmt := top 26
theorem sc_law_made : FnScope ["_law_kind", "_law_size_here"] ["_law_kind", "_law_size_here"] (defScope s_law_made) := ⟨rfl, rfl, rfl, by decide +kernel, rfl, by decide +kernel, by decide +kernel⟩
theorem ok_law_made (T : Txt K mg A) (M_Plain : KOk P w K mg base 3 "Plain" A.Plain "base" (Kd.ok .plain)) (M_Below : KOk P w K mg base 3 "Below" A.Below "base" (Kd.ok .below)) (M_Balanced : KOk P w K mg base 3 "Balanced" A.Balanced "half" (Kd.ok .balanced)) (M_Growing : KOk P w K mg base 3 "Growing" A.Growing "first" (Kd.ok .growing)) (M_Falling : KOk P w K mg base 3 "Falling" A.Falling "most" (Kd.ok .falling)) (M_Pairs : KOk P w K mg base 3 "Pairs" A.Pairs "most" (Kd.ok .pairs)) (F : Fun K "_law_made" "_law_made" s_law_made f fd) : FnOk P w K mg base CX0 5 f fd ["_law_kind", "_law_size_here"] (PureSp K (S_made A)) := by
  refine okD F sc_law_made (fun ds Q h => ?_) (fun cdv A' outer s H E hr ds Q h => ?_)
  · obtain ⟨k, n, rfl, hn, q⟩ := h
    rfl
  obtain ⟨k, n, rfl, hn, q⟩ := h
  refine ⟨_, (dss_cons (ds_if (dt_cmp (o_eq hr) (dv 0) de_int (nomark _)) (dss_one (ds_ret (de_make M_Plain (hr.mono (by decide)) rfl (da_cons (dv 1) da_nil)))) dss_nil)
  (dss_cons (ds_if (dt_cmp (o_eq hr) (dv 0) de_int (nomark _)) (dss_one (ds_ret (de_make M_Below (hr.mono (by decide)) rfl (da_cons (dv 1) da_nil)))) dss_nil)
  (dss_cons (ds_if (dt_cmp (o_eq hr) (dv 0) de_int (nomark _)) (dss_one (ds_ret (de_make M_Balanced (hr.mono (by decide)) rfl (da_cons (dv 1) da_nil)))) dss_nil)
  (dss_cons (ds_if (dt_cmp (o_eq hr) (dv 0) de_int (nomark _)) (dss_one (ds_ret (de_make M_Growing (hr.mono (by decide)) rfl (da_cons (dv 1) da_nil)))) dss_nil)
  (dss_cons (ds_if (dt_cmp (o_eq hr) (dv 0) de_int (nomark _)) (dss_one (ds_ret (de_make M_Falling (hr.mono (by decide)) rfl (da_cons (dv 1) da_nil)))) dss_nil)
  (dss_one (ds_ret (de_make M_Pairs (hr.mono (by decide)) rfl (da_cons (dv 1) da_nil))))))))), ?_⟩
  cases k
  all_goals
    walk_at "rd"
    exact ⟨hn, q⟩
abbrev s_as_pair : Stmt := top 8
theorem sc_as_pair : FnScope ["number"] ["number"] (defScope s_as_pair) := ⟨rfl, rfl, rfl, by decide +kernel, rfl, by decide +kernel, by decide +kernel⟩
theorem ok_as_pair (T : Txt K mg A) (G_is_whole : DOk P w K mg base 1 "is_whole" (S_whole)) (F : Fun K "as_pair" "as_pair" s_as_pair f fd) : FnOk P w K mg base CX0 2 f fd ["number"] (PureSp K (S_as_pair)) := by
  refine okD F sc_as_pair (fun ds Q h => ?_) (fun cdv A' outer s H E hr ds Q h => ?_)
  · obtain ⟨d, m, rfl, hm, q⟩ := h
    rfl
  obtain ⟨d, m, rfl, hm, q⟩ := h
  refine ⟨_, (dss_cons (ds_if (dt_val (de_call G_is_whole (hr.mono (by decide)) rfl (da_cons (dv 0) da_nil))) (dss_one (ds_ret (de_tup (da_cons (dv 0) (da_cons de_int da_nil))))) dss_nil)
  (dss_one (ds_ret (dv 0)))), ?_⟩
  obtain rfl := numD_dt hm
  cases m with
  | i n =>
    walk_at "rd"
    exact q
  | p a b =>
    walk_at "rd"
    exact q
abbrev s_added : Stmt := top 9
theorem sc_added : FnScope ["one", "other", "left", "right"] ["one", "other"] (defScope s_added) := ⟨rfl, rfl, rfl, by decide +kernel, rfl, by decide +kernel, by decide +kernel⟩
theorem ok_added (T : Txt K mg A) (G_is_whole : DOk P w K mg base 1 "is_whole" (S_whole)) (G_as_pair : DOk P w K mg base 2 "as_pair" (S_as_pair)) (F : Fun K "added" "added" s_added f fd) : FnOk P w K mg base CX0 3 f fd ["one", "other"] (PureSp K (S_added)) := by
  refine okD F sc_added (fun ds Q h => ?_) (fun cdv A' outer s H E hr ds Q h => ?_)
  · obtain ⟨d, e, m, n, rfl, hm, hn, q⟩ := h
    rfl
  obtain ⟨d, e, m, n, rfl, hm, hn, q⟩ := h
  refine ⟨_, (dss_cons (ds_if (DW.dt (dw_and (dt_val (de_call G_is_whole (hr.mono (by decide)) rfl (da_cons (dv 0) da_nil))) (dw_and1 (dt_val (de_call G_is_whole (hr.mono (by decide)) rfl (da_cons (dv 1) da_nil)))))) (dss_one (ds_ret (de_op o_add (dv 0) (dv 1)))) dss_nil)
  (dss_cons (ds_set (i := 2) sc_added.nd rfl (Or.inl rfl) (de_call G_as_pair (hr.mono (by decide)) rfl (da_cons (dv 0) da_nil)))
  (dss_cons (ds_set (i := 3) sc_added.nd rfl (Or.inl rfl) (de_call G_as_pair (hr.mono (by decide)) rfl (da_cons (dv 1) da_nil)))
  (dss_one (ds_ret (de_tup (da_cons (de_op o_add (de_ix (dv 2) de_int (fun _ _ => rfl)) (de_ix (dv 3) de_int (fun _ _ => rfl))) (da_cons (de_op o_add (de_ix (dv 2) de_int (fun _ _ => rfl)) (de_ix (dv 3) de_int (fun _ _ => rfl))) da_nil)))))))), ?_⟩
  obtain rfl := numD_dt hm
  obtain rfl := numD_dt hn
  cases m <;> cases n
  all_goals
    walk_at "rd"
    exact q
abbrev s_multiplied : Stmt := top 10
theorem sc_multiplied : FnScope ["one", "other", "left", "right"] ["one", "other"] (defScope s_multiplied) := ⟨rfl, rfl, rfl, by decide +kernel, rfl, by decide +kernel, by decide +kernel⟩
theorem ok_multiplied (T : Txt K mg A) (G_is_whole : DOk P w K mg base 1 "is_whole" (S_whole)) (G_as_pair : DOk P w K mg base 2 "as_pair" (S_as_pair)) (F : Fun K "multiplied" "multiplied" s_multiplied f fd) : FnOk P w K mg base CX0 3 f fd ["one", "other"] (PureSp K (S_mult)) := by
  refine okD F sc_multiplied (fun ds Q h => ?_) (fun cdv A' outer s H E hr ds Q h => ?_)
  · obtain ⟨d, e, m, n, rfl, hm, hn, k1, q⟩ := h
    rfl
  obtain ⟨d, e, m, n, rfl, hm, hn, k1, q⟩ := h
  refine ⟨_, (dss_cons (ds_if (DW.dt (dw_and (dt_val (de_call G_is_whole (hr.mono (by decide)) rfl (da_cons (dv 0) da_nil))) (dw_and1 (dt_val (de_call G_is_whole (hr.mono (by decide)) rfl (da_cons (dv 1) da_nil)))))) (dss_one (ds_ret (de_op o_mul (dv 0) (dv 1)))) dss_nil)
  (dss_cons (ds_set (i := 2) sc_multiplied.nd rfl (Or.inl rfl) (de_call G_as_pair (hr.mono (by decide)) rfl (da_cons (dv 0) da_nil)))
  (dss_cons (ds_set (i := 3) sc_multiplied.nd rfl (Or.inl rfl) (de_call G_as_pair (hr.mono (by decide)) rfl (da_cons (dv 1) da_nil)))
  (dss_one (ds_ret (de_tup (da_cons (de_op o_sub (de_op o_mul (de_ix (dv 2) de_int (fun _ _ => rfl)) (de_ix (dv 3) de_int (fun _ _ => rfl))) (de_op o_mul (de_ix (dv 2) de_int (fun _ _ => rfl)) (de_ix (dv 3) de_int (fun _ _ => rfl)))) (da_cons (de_op o_add (de_op o_mul (de_ix (dv 2) de_int (fun _ _ => rfl)) (de_ix (dv 3) de_int (fun _ _ => rfl))) (de_op o_mul (de_ix (dv 2) de_int (fun _ _ => rfl)) (de_ix (dv 3) de_int (fun _ _ => rfl)))) da_nil)))))))), ?_⟩
  obtain rfl := numD_dt hm
  obtain rfl := numD_dt hn
  obtain ⟨h1, h2, h3, h4⟩ := k1
  cases m <;> cases n
  all_goals
    walk_at "rd"
    first | refine ⟨h1, ?_⟩ | skip
    walk_at "rd"
    first | exact q | skip
    try refine ⟨h2, ?_⟩
    walk_at "rd"
    try refine ⟨h3, ?_⟩
    walk_at "rd"
    try refine ⟨h4, ?_⟩
    walk_at "rd"
    try exact q
abbrev s_Way_nought : Stmt := inClass (top 13) 0
theorem sc_Way_nought : FnScope ["self"] ["self"] (defScope s_Way_nought) := ⟨rfl, rfl, rfl, by decide +kernel, rfl, by decide +kernel, by decide +kernel⟩
theorem ok_Way_nought (T : Txt K mg A) (F : Fun K "nought" "Way.nought" s_Way_nought f fd) : FnOk P w K mg base CX0 1 f fd ["self"] (PureSp K (S_no0)) := by
  refine okD F sc_Way_nought (fun ds Q h => ?_) (fun cdv A' outer s H E hr ds Q h => ?_)
  · obtain ⟨o, rfl, q⟩ := h
    rfl
  obtain ⟨o, rfl, q⟩ := h
  refine ⟨_, (dss_one (ds_ret de_int)), ?_⟩
  exact q
abbrev s_Pairs_nought : Stmt := inClass (top 19) 1
theorem sc_Pairs_nought : FnScope ["self"] ["self"] (defScope s_Pairs_nought) := ⟨rfl, rfl, rfl, by decide +kernel, rfl, by decide +kernel, by decide +kernel⟩
theorem ok_Pairs_nought (T : Txt K mg A) (F : Fun K "nought" "Pairs.nought" s_Pairs_nought f fd) : FnOk P w K mg base CX0 1 f fd ["self"] (PureSp K (S_no2)) := by
  refine okD F sc_Pairs_nought (fun ds Q h => ?_) (fun cdv A' outer s H E hr ds Q h => ?_)
  · obtain ⟨o, rfl, q⟩ := h
    rfl
  obtain ⟨o, rfl, q⟩ := h
  refine ⟨_, (dss_one (ds_ret (de_tup (da_cons de_int (da_cons de_int da_nil))))), ?_⟩
  exact ⟨rfl, q⟩
abbrev s_Plain_ratio : Stmt := inClass (top 14) 2
theorem sc_Plain_ratio : FnScope ["self", "place"] ["self", "place"] (defScope s_Plain_ratio) := ⟨rfl, rfl, rfl, by decide +kernel, rfl, by decide +kernel, by decide +kernel⟩
theorem ok_Plain_ratio (T : Txt K mg A) (F : Fun K "ratio" "Plain.ratio" s_Plain_ratio f fd) : FnOk P w K mg base CX0 1 f fd ["self", "place"] (PureSp K (S_getN A .plain (Kd.ratN .plain))) := by
  refine okD F sc_Plain_ratio (fun ds Q h => ?_) (fun cdv A' outer s H E hr ds Q h => ?_)
  · obtain ⟨n, p, rfl, hn, q⟩ := h
    rfl
  obtain ⟨n, p, rfl, hn, q⟩ := h
  refine ⟨_, (dss_one (ds_ret (de_fld (dv 0)))), ?_⟩
  exact ⟨_, rfl, _, _, _, rfl, rfl, T.cl_Plain, T.na_Plain, q⟩
abbrev s_Below_ratio : Stmt := inClass (top 15) 2
theorem sc_Below_ratio : FnScope ["self", "place"] ["self", "place"] (defScope s_Below_ratio) := ⟨rfl, rfl, rfl, by decide +kernel, rfl, by decide +kernel, by decide +kernel⟩
theorem ok_Below_ratio (T : Txt K mg A) (F : Fun K "ratio" "Below.ratio" s_Below_ratio f fd) : FnOk P w K mg base CX0 1 f fd ["self", "place"] (PureSp K (S_getN A .below (Kd.ratN .below))) := by
  refine okD F sc_Below_ratio (fun ds Q h => ?_) (fun cdv A' outer s H E hr ds Q h => ?_)
  · obtain ⟨n, p, rfl, hn, q⟩ := h
    rfl
  obtain ⟨n, p, rfl, hn, q⟩ := h
  refine ⟨_, (dss_one (ds_ret (de_neg (de_fld (dv 0))))), ?_⟩
  exact ⟨_, rfl, _, _, _, rfl, rfl, T.cl_Below, T.na_Below, _, rfl, q⟩
abbrev s_Balanced_ratio : Stmt := inClass (top 16) 3
theorem sc_Balanced_ratio : FnScope ["self", "place"] ["self", "place"] (defScope s_Balanced_ratio) := ⟨rfl, rfl, rfl, by decide +kernel, rfl, by decide +kernel, by decide +kernel⟩
theorem ok_Balanced_ratio (T : Txt K mg A) (F : Fun K "ratio" "Balanced.ratio" s_Balanced_ratio f fd) : FnOk P w K mg base CX0 1 f fd ["self", "place"] (PureSp K (S_getN A .balanced (Kd.ratN .balanced))) := by
  refine okD F sc_Balanced_ratio (fun ds Q h => ?_) (fun cdv A' outer s H E hr ds Q h => ?_)
  · obtain ⟨n, p, rfl, hn, q⟩ := h
    rfl
  obtain ⟨n, p, rfl, hn, q⟩ := h
  refine ⟨_, (dss_one (ds_ret (de_op o_add (de_op o_mul de_int (de_fld (dv 0))) de_int))), ?_⟩
  exact ⟨_, rfl, _, _, _, rfl, rfl, T.cl_Balanced, T.na_Balanced, _, _, rfl, rfl, mulL (by decide), _, _, rfl, rfl, q⟩
abbrev s_Growing_ratio : Stmt := inClass (top 17) 2
theorem sc_Growing_ratio : FnScope ["self", "place"] ["self", "place"] (defScope s_Growing_ratio) := ⟨rfl, rfl, rfl, by decide +kernel, rfl, by decide +kernel, by decide +kernel⟩
theorem ok_Growing_ratio (T : Txt K mg A) (F : Fun K "ratio" "Growing.ratio" s_Growing_ratio f fd) : FnOk P w K mg base CX0 1 f fd ["self", "place"] (PureSp K (S_getN A .growing (Kd.ratN .growing))) := by
  refine okD F sc_Growing_ratio (fun ds Q h => ?_) (fun cdv A' outer s H E hr ds Q h => ?_)
  · obtain ⟨n, p, rfl, hn, q⟩ := h
    rfl
  obtain ⟨n, p, rfl, hn, q⟩ := h
  refine ⟨_, (dss_one (ds_ret (de_op o_add (de_fld (dv 0)) (dv 1)))), ?_⟩
  exact ⟨_, rfl, _, _, _, rfl, rfl, T.cl_Growing, T.na_Growing, _, rfl, _, _, rfl, rfl, q⟩
abbrev s_Pairs_ratio : Stmt := inClass (top 19) 3
theorem sc_Pairs_ratio : FnScope ["self", "place"] ["self", "place"] (defScope s_Pairs_ratio) := ⟨rfl, rfl, rfl, by decide +kernel, rfl, by decide +kernel, by decide +kernel⟩
theorem ok_Pairs_ratio (T : Txt K mg A) (F : Fun K "ratio" "Pairs.ratio" s_Pairs_ratio f fd) : FnOk P w K mg base CX0 1 f fd ["self", "place"] (PureSp K (S_getN A .pairs (Kd.ratN .pairs))) := by
  refine okD F sc_Pairs_ratio (fun ds Q h => ?_) (fun cdv A' outer s H E hr ds Q h => ?_)
  · obtain ⟨n, p, rfl, hn, q⟩ := h
    rfl
  obtain ⟨n, p, rfl, hn, q⟩ := h
  refine ⟨_, (dss_one (ds_ret (de_tup (da_cons (de_neg (de_fld (dv 0))) (da_cons de_int da_nil))))), ?_⟩
  exact ⟨_, rfl, _, _, _, rfl, rfl, T.cl_Pairs, T.na_Pairs, _, rfl, rfl, q⟩
abbrev s_Way_weights : Stmt := inClass (top 13) 2
theorem sc_Way_weights : FnScope ["self", "many", "weights", "weight", "place"] ["self", "many"] (defScope s_Way_weights) := ⟨rfl, rfl, rfl, by decide +kernel, rfl, by decide +kernel, by decide +kernel⟩
theorem ok_Way_weights (T : Txt K mg A) (G_added : DOk P w K mg base 3 "added" (S_added)) (G_multiplied : DOk P w K mg base 3 "multiplied" (S_mult)) (HNo : ∀ k : Kd, MOk P w K mg base 1 (A.at k) "nought" (S_no k)) (HR : ∀ k : Kd, k.five = true → MOk P w K mg base 1 (A.at k) "ratio" (S_getN A k (k.ratN))) (F : Fun K "weights" "Way.weights" s_Way_weights f fd) : FnOk P w K mg base CX0 4 f fd ["self", "many"] (FreshSp K (S_ws A)) := by
  refine okF F sc_Way_weights (fun ds Q h => ?_) (fun cdv A' outer s H E hr ds Q h => ?_)
  · obtain ⟨k, n, m, rfl, hk, hn, hm0, hm1, q⟩ := h
    rfl
  obtain ⟨k, n, m, rfl, hk, hn, hm0, hm1, q⟩ := h
  refine ⟨_, (dss_cons (ds_setO (i := 2) sc_Way_weights.nd rfl (Or.inl rfl) (df_lst da_nil))
  (dss_cons (ds_set (i := 3) sc_Way_weights.nd rfl (Or.inl rfl) (de_call G_added (hr.mono (by decide)) rfl (da_cons (de_meth0 hr (dv 0)) (da_cons de_int da_nil))))
  (dss_cons (ds_forR (j := 4) rfl sc_Way_weights.nd rfl (Or.inl rfl) PassesOwn.never rfl T.range (dv 1) (dss_cons (ds_app 2 (dv 3))
  (dss_one (ds_set (i := 3) sc_Way_weights.nd rfl (Or.inl rfl) (de_call G_multiplied (hr.mono (by decide)) rfl (da_cons (de_meth hr (dv 0) (da_cons (dv 4) da_nil)) (da_cons (dv 3) da_nil)))))))
  (dss_one (ds_retO 2))))), ?_⟩
  have e1 : (("nought" : Str) == k.fld) = false := by cases k <;> decide +kernel
  have e2 : (("ratio" : Str) == k.fld) = false := by cases k <;> decide +kernel
  have ew : ∀ j, wt k n j = wtR k n j := fun j => wt_five hk
  refine ⟨rfl, _, rfl, _, rfl, _, _, _, _, rfl, e1, (HNo k).mono (by decide), ⟨_, rfl, _, _, k.zero, .i 1, rfl, numD_of _, rfl, ?_⟩⟩
  refine ⟨_, rfl, _, fun i ρ => ∃ v, ρ = [.some (wayD A k n), .some (.int m), .own (wts k n i), .some (wtR k n i).dt, v], rfl, by omega, by omega, ⟨_, rfl⟩, ?_, ?_⟩
  · rintro i ρ' hi ⟨v, rfl⟩
    have hi1 : i < 1000 := by omega
    refine ⟨_, rfl, _, rfl, by rw [wts_length]; omega, ?_⟩
    refine ⟨_, rfl, _, _, _, _, rfl, e2, (HR k hk).mono (by decide), _, rfl, n, i, rfl, hn, _, rfl, _, _, k.ratN n i, wtR k n i, rfl, numD_of _, numD_of _, rat_mul hn (by omega) (by omega) _, ?_⟩
    exact ⟨.some (.int i), by rw [wts_succ, ew]; rfl⟩
  · rintro ρ' ⟨v, rfl⟩
    exact ⟨_, rfl, q⟩
abbrev s_Falling_weights : Stmt := inClass (top 18) 2
theorem sc_Falling_weights : FnScope ["self", "many", "weights", "ahead", "weight", "place", "following"] ["self", "many"] (defScope s_Falling_weights) := ⟨rfl, rfl, rfl, by decide +kernel, rfl, by decide +kernel, by decide +kernel⟩
theorem ok_Falling_weights (T : Txt K mg A) (F : Fun K "weights" "Falling.weights" s_Falling_weights f fd) : FnOk P w K mg base CX0 1 f fd ["self", "many"] (FreshSp K (S_wsF A)) := by
  refine okF F sc_Falling_weights (fun ds Q h => ?_) (fun cdv A' outer s H E hr ds Q h => ?_)
  · obtain ⟨n, m, rfl, hn, hm0, hm1, q⟩ := h
    rfl
  obtain ⟨n, m, rfl, hn, hm0, hm1, q⟩ := h
  refine ⟨_, (dss_cons (ds_setO (i := 2) sc_Falling_weights.nd rfl (Or.inl rfl) (df_lst da_nil))
  (dss_cons (ds_set (i := 3) sc_Falling_weights.nd rfl (Or.inl rfl) de_int)
  (dss_cons (ds_set (i := 4) sc_Falling_weights.nd rfl (Or.inl rfl) de_int)
  (dss_cons (ds_forR (j := 5) rfl sc_Falling_weights.nd rfl (Or.inl rfl) PassesOwn.never rfl T.range (dv 1) (dss_cons (ds_app 2 (dv 4))
  (dss_cons (ds_set (i := 6) sc_Falling_weights.nd rfl (Or.inl rfl) (de_op o_add (de_op o_mul (de_fld (dv 0)) (dv 4)) (dv 3)))
  (dss_cons (ds_set (i := 3) sc_Falling_weights.nd rfl (Or.inl rfl) (dv 4))
  (dss_one (ds_set (i := 4) sc_Falling_weights.nd rfl (Or.inl rfl) (dv 6)))))))
  (dss_one (ds_retO 2)))))), ?_⟩
  obtain ⟨b1, b2⟩ := ok_bd hn
  refine ⟨rfl, _, rfl, ?_⟩
  refine ⟨_, rfl, _, fun i ρ => ∃ v u, ρ = [.some (wayD A .falling n), .some (.int m), .own (wts .falling n i), .some (.int (wtF n i).1), .some (.int (wtF n i).2), v, u], rfl, by omega, by omega, ⟨_, _, rfl⟩, ?_, ?_⟩
  · rintro i ρ' hi ⟨v, u, rfl⟩
    refine ⟨_, rfl, _, rfl, by rw [wts_length]; omega, ?_⟩
    refine ⟨_, rfl, _, _, _, rfl, rfl, T.cl_Falling, T.na_Falling, _, rfl, _, _, rfl, rfl, small' (by omega) (by omega) _, _, rfl, _, _, rfl, rfl, ?_⟩
    refine ⟨_, rfl, _, rfl, ?_⟩
    exact ⟨.some (.int i), .some (.int (n * (wtF n i).2 + (wtF n i).1)), by rw [wts_succ]; rfl⟩
  · rintro ρ' ⟨v, u, rfl⟩
    exact ⟨_, rfl, q⟩
abbrev s_worth : Stmt := top 21
theorem sc_worth : FnScope ["way", "row", "number", "thing", "weight"] ["way", "row"] (defScope s_worth) := ⟨rfl, rfl, rfl, by decide +kernel, rfl, by decide +kernel, by decide +kernel⟩
theorem ok_worth (T : Txt K mg A) (G_added : DOk P w K mg base 3 "added" (S_added)) (G_multiplied : DOk P w K mg base 3 "multiplied" (S_mult)) (HNo : ∀ k : Kd, MOk P w K mg base 1 (A.at k) "nought" (S_no k)) (HW : ∀ k : Kd, FMOk P w K mg base 4 (A.at k) "weights" (S_wsA A k)) (F : Fun K "worth" "worth" s_worth f fd) : FnOk P w K mg base CX0 5 f fd ["way", "row"] (PureSp K (S_worth A)) := by
  refine okD F sc_worth (fun ds Q h => ?_) (fun cdv A' outer s H E hr ds Q h => ?_)
  · obtain ⟨k, n, ns, rfl, hn, hl, hb, q⟩ := h
    rfl
  obtain ⟨k, n, ns, rfl, hn, hl, hb, q⟩ := h
  refine ⟨_, (dss_cons (ds_set (i := 2) sc_worth.nd rfl (Or.inl rfl) (de_meth0 hr (dv 0)))
  (dss_cons (ds_for_zip (i := 3) (j := 4) rfl sc_worth.nd rfl rfl (Or.inl rfl) (Or.inl rfl) PassesOwn.never rfl T.n_zip (da_cons (dv 1) (da_cons (DF.de (df_meth hr (dv 0) (da_cons (de_len rfl T.len (dv 1)) da_nil))) da_nil)) (dss_one (ds_set (i := 2) sc_worth.nd rfl (Or.inl rfl) (de_call G_added (hr.mono (by decide)) rfl (da_cons (dv 2) (da_cons (de_call G_multiplied (hr.mono (by decide)) rfl (da_cons (dv 3) (da_cons (dv 4) da_nil))) da_nil))))))
  (dss_one (ds_ret (dv 2))))), ?_⟩
  have e1 : (("nought" : Str) == k.fld) = false := by cases k <;> decide +kernel
  have e2 : (("weights" : Str) == k.fld) = false := by cases k <;> decide +kernel
  have hlen : (ns.map Dt.int).length = ns.length := List.length_map _
  refine ⟨_, rfl, _, _, _, _, rfl, e1, (HNo k).mono (by decide), ⟨_, rfl, ?_⟩⟩
  refine ⟨_, rfl, _, rfl, _, _, _, _, rfl, e2, (HW k).mono (by decide), _, rfl, _, rfl, n, _, rfl, hn, by omega, by rw [hlen]; omega, ?_⟩
  refine ⟨_, _, _, _, fun i ρ => ∃ v u, ρ = [.some (wayD A k n), .some (rowD ns), .some (wsum k n ns i).dt, v, u], rfl, rfl, rfl, ⟨_, _, rfl⟩, ?_, ?_⟩
  · rintro i x y ρ' hx hy ⟨v, u, rfl⟩
    obtain ⟨rfl, hi⟩ := row_get hx
    obtain rfl := wts_get hy
    refine ⟨_, rfl, _, rfl, _, rfl, _, _, .i (ns.getD i 0), wt k n i, rfl, rfl, numD_of _, mulOk_of (bd_i (bdR_get hb i)) (wt_bd hn (by omega)) (by omega), ?_⟩
    refine ⟨_, _, wsum k n ns i, (Nm.i (ns.getD i 0)).mul (wt k n i), rfl, numD_of _, numD_of _, ?_⟩
    exact ⟨_, _, rfl⟩
  · rintro ρ' ⟨v, u, rfl⟩
    have e : min (ns.map Dt.int).length (wts k n (((ns.map Dt.int).length : Nat) : Int).toNat).length = ns.length := by rw [wts_length, hlen]; omega
    rw [e]
    exact ⟨_, rfl, q⟩
abbrev s_law_whole : Stmt := top 24
theorem sc_law_whole : FnScope ["_law_found"] ["_law_found"] (defScope s_law_whole) := ⟨rfl, rfl, rfl, by decide +kernel, rfl, by decide +kernel, by decide +kernel⟩
theorem ok_law_whole (T : Txt K mg A) (F : Fun K "_law_whole" "_law_whole" s_law_whole f fd) : FnOk P w K mg base CX0 1 f fd ["_law_found"] (PureSp K (S_whole)) := by
  refine okD F sc_law_whole (fun ds Q h => ?_) (fun cdv A' outer s H E hr ds Q h => ?_)
  · obtain ⟨d, b, rfl, hw, q⟩ := h
    rfl
  obtain ⟨d, b, rfl, hw, q⟩ := h
  refine ⟨_, (dss_one (ds_ret (de_and (de_isi (T := .int) T.kt T.isinstance T.n_int PyProof.Rows.boot_int (dv 0)) (de_one (de_not (de_isi (T := .bool) T.kt T.isinstance T.n_bool PyProof.Rows.boot_bool (dv 0))))))), ?_⟩
  cases d <;> cases hw
  all_goals
    walk_at "rd"
    exact q
abbrev s_law_is_number : Stmt := top 29
theorem sc_law_is_number : FnScope ["_law_found", "_law_kind"] ["_law_found", "_law_kind"] (defScope s_law_is_number) := ⟨rfl, rfl, rfl, by decide +kernel, rfl, by decide +kernel, by decide +kernel⟩
theorem ok_law_is_number (T : Txt K mg A) (G__law_whole : DOk P w K mg base 1 "_law_whole" (S_whole)) (F : Fun K "_law_is_number" "_law_is_number" s_law_is_number f fd) : FnOk P w K mg base CX0 2 f fd ["_law_found", "_law_kind"] (PureSp K (S_isnum)) := by
  refine okD F sc_law_is_number (fun ds Q h => ?_) (fun cdv A' outer s H E hr ds Q h => ?_)
  · obtain ⟨k, n, ns, j, rfl, q⟩ := h
    rfl
  obtain ⟨k, n, ns, j, rfl, q⟩ := h
  refine ⟨_, (dss_cons (ds_if (dt_cmp (o_eq hr) (dv 1) de_int (nomark _)) (dss_one (ds_ret (de_and (de_isi (T := .tuple) T.kt T.isinstance T.n_tuple PyProof.Rows.boot_tuple (dv 0)) (de_and (de_cmp (o_eq hr) (de_len rfl T.len (dv 0)) de_int (nomark _)) (de_and (de_call G__law_whole (hr.mono (by decide)) rfl (da_cons (de_ix (dv 0) de_int (fun _ _ => rfl)) da_nil)) (de_one (de_call G__law_whole (hr.mono (by decide)) rfl (da_cons (de_ix (dv 0) de_int (fun _ _ => rfl)) da_nil)))))))) dss_nil)
  (dss_one (ds_ret (de_call G__law_whole (hr.mono (by decide)) rfl (da_cons (dv 0) da_nil))))), ?_⟩
  by_cases hp : k = .pairs
  · subst hp
    obtain ⟨a, b, es⟩ := wsP (n := n) (ns := ns) j
    rw [es]
    walk_at "rd"
    exact q
  · obtain ⟨a, es⟩ := wsI (n := n) (ns := ns) hp j
    rw [es]
    have hne : eqD (.int (Kd.num k)) (.int 5) = false := by cases k <;> first | rfl | exact absurd rfl hp
    refine ⟨_, rfl, rfl, rfl, _, rfl, iteNQ hne ?_⟩
    walk_at "rd"
    exact q
abbrev s_law_next : Stmt := top 27
theorem sc_law_next : FnScope ["_law_kind", "_law_size_here", "_law_place", "_law_lower", "_law_here"] ["_law_kind", "_law_size_here", "_law_place", "_law_lower", "_law_here"] (defScope s_law_next) := ⟨rfl, rfl, rfl, by decide +kernel, rfl, by decide +kernel, by decide +kernel⟩
theorem ok_law_next (T : Txt K mg A) (F : Fun K "_law_next" "_law_next" s_law_next f fd) : FnOk P w K mg base CX0 1 f fd ["_law_kind", "_law_size_here", "_law_place", "_law_lower", "_law_here"] (PureSp K (S_next)) := by
  refine okD F sc_law_next (fun ds Q h => ?_) (fun cdv A' outer s H E hr ds Q h => ?_)
  · obtain ⟨k, n, p, lo, m, rfl, hn, hp0, hp1, q⟩ := h
    rfl
  obtain ⟨k, n, p, lo, m, rfl, hn, hp0, hp1, q⟩ := h
  refine ⟨_, (dss_cons (ds_if (dt_cmp (o_eq hr) (dv 0) de_int (nomark _)) (dss_one (ds_ret (de_op o_add (de_op o_mul (dv 1) (dv 4)) (dv 3)))) dss_nil)
  (dss_cons (ds_if (dt_cmp (o_eq hr) (dv 0) de_int (nomark _)) (dss_one (ds_ret (de_tup (da_cons (de_op o_sub (de_op o_sub de_int (de_op o_mul (dv 1) (de_ix (dv 4) de_int (fun _ _ => rfl)))) (de_ix (dv 4) de_int (fun _ _ => rfl))) (da_cons (de_op o_sub (de_ix (dv 4) de_int (fun _ _ => rfl)) (de_op o_mul (dv 1) (de_ix (dv 4) de_int (fun _ _ => rfl)))) da_nil))))) dss_nil)
  (dss_one (ds_ret (de_op o_mul (dv 4) (de_ix (de_lst (da_cons (dv 1) (da_cons (de_op o_sub de_int (dv 1)) (da_cons (de_op o_add (de_op o_mul de_int (dv 1)) de_int) (da_cons (de_op o_add (dv 1) (dv 2)) da_nil))))) (dv 0) (fun _ _ => rfl))))))), ?_⟩
  obtain ⟨b1, b2⟩ := ok_bd hn
  rcases q with ⟨rfl, a, w, rfl, rfl, q⟩ | ⟨h5, j, rfl, rfl, q⟩
  · walk_at "rd"
    refine ⟨small' (by omega) (by omega) _, ?_⟩
    walk_at "rd"
    exact q
  · by_cases h4 : k.four = true
    · obtain ⟨w, ew⟩ := wt4 (n := n) h4 j
      have eq_ : wtR k n (j + 1) = .i (w * k.rat n j) := by
        unfold wtR
        rw [ew, Int.mul_comm]
        cases k <;> cases h4 <;> rfl
      rw [eq_] at q
      rw [ew]
      have e0 : (0 : Int) - n = -n := by omega
      obtain ⟨r1, r2, _, _⟩ := rat_bd (p := (j : Int)) hn hp0 hp1
      cases k <;> cases h4
      all_goals
        repeat (first | (walk_at "rd1") | refine ⟨small (by omega) (by omega) _, ?_⟩)
        first
        | exact q
        | (dsimp only; rw [e0]; exact q)
    · cases k with
      | plain => exact absurd rfl h4
      | below => exact absurd rfl h4
      | balanced => exact absurd rfl h4
      | growing => exact absurd rfl h4
      | falling => cases h5
      | pairs =>
        obtain ⟨x, y, e⟩ := wt2 (n := n) j
        have eq_ : wtR .pairs n (j + 1) = .p (0 - n * x - y) (x - n * y) := by
          unfold wtR
          rw [e]
          show Nm.p (-n * x - 1 * y) (-n * y + 1 * x) = _
          congr 1 <;> grind
        rw [eq_] at q
        rw [e]
        repeat (first | (walk_at "rd1") | refine ⟨small' (by omega) (by omega) _, ?_⟩)
        exact q
abbrev s_law_worth : Stmt := top 28
theorem sc_law_worth : FnScope ["_law_kind", "_law_size_here", "_law_row", "_law_lower", "_law_here", "_law_found", "_law_place"] ["_law_kind", "_law_size_here", "_law_row"] (defScope s_law_worth) := ⟨rfl, rfl, rfl, by decide +kernel, rfl, by decide +kernel, by decide +kernel⟩
theorem ok_law_worth (T : Txt K mg A) (G__law_next : DOk P w K mg base 1 "_law_next" (S_next)) (F : Fun K "_law_worth" "_law_worth" s_law_worth f fd) : FnOk P w K mg base CX0 2 f fd ["_law_kind", "_law_size_here", "_law_row"] (PureSp K (S_lworth)) := by
  refine okD F sc_law_worth (fun ds Q h => ?_) (fun cdv A' outer s H E hr ds Q h => ?_)
  · obtain ⟨k, n, ns, rfl, hn, hl, hb, q⟩ := h
    rfl
  obtain ⟨k, n, ns, rfl, hn, hl, hb, q⟩ := h
  refine ⟨_, (dss_cons (ds_set (i := 3) sc_law_worth.nd rfl (Or.inl rfl) de_int)
  (dss_cons (ds_set (i := 4) sc_law_worth.nd rfl (Or.inl rfl) (de_ix (de_lst (da_cons de_int (da_cons de_int (da_cons de_int (da_cons de_int (da_cons de_int (da_cons (de_tup (da_cons de_int (da_cons de_int da_nil))) da_nil))))))) (dv 0) (fun _ _ => rfl)))
  (dss_cons (ds_set (i := 5) sc_law_worth.nd rfl (Or.inl rfl) (de_ix (de_lst (da_cons de_int (da_cons de_int (da_cons de_int (da_cons de_int (da_cons de_int (da_cons (de_tup (da_cons de_int (da_cons de_int da_nil))) da_nil))))))) (dv 0) (fun _ _ => rfl)))
  (dss_cons (ds_forR (j := 6) rfl sc_law_worth.nd rfl (Or.inl rfl) PassesOwn.never rfl T.range (de_len rfl T.len (dv 2)) (dss_cons (ds_if (dt_cmp (o_eq hr) (dv 0) de_int (nomark _)) (dss_one (ds_set (i := 5) sc_law_worth.nd rfl (Or.inl rfl) (de_tup (da_cons (de_op o_add (de_ix (dv 5) de_int (fun _ _ => rfl)) (de_op o_mul (de_ix (dv 4) de_int (fun _ _ => rfl)) (de_ix (dv 2) (dv 6) (fun _ _ => rfl)))) (da_cons (de_op o_add (de_ix (dv 5) de_int (fun _ _ => rfl)) (de_op o_mul (de_ix (dv 4) de_int (fun _ _ => rfl)) (de_ix (dv 2) (dv 6) (fun _ _ => rfl)))) da_nil))))) (dss_one (ds_set (i := 5) sc_law_worth.nd rfl (Or.inl rfl) (de_op o_add (dv 5) (de_op o_mul (dv 4) (de_ix (dv 2) (dv 6) (fun _ _ => rfl)))))))
  (dss_one (ds_par (i := 3) (j := 4) rfl sc_law_worth.nd rfl rfl (by decide) rfl rfl (da_cons (dv 4) (da_cons (de_call G__law_next (hr.mono (by decide)) rfl (da_cons (dv 0) (da_cons (dv 1) (da_cons (dv 6) (da_cons (dv 3) (da_cons (dv 4) da_nil)))))) da_nil)) rfl))))
  (dss_one (ds_ret (dv 5))))))), ?_⟩
  obtain ⟨b1, b2⟩ := ok_bd hn
  have h0 : atI [Dt.int 1, .int 1, .int 1, .int 1, .int 1, .tup [.int 1, .int 0]] (Kd.num k) = some (wt k n 0).dt := by cases k <;> rfl
  have h1 : atI [Dt.int 0, .int 0, .int 0, .int 0, .int 0, .tup [.int 0, .int 0]] (Kd.num k) = some (wsum k n ns 0).dt := by cases k <;> rfl
  refine ⟨rfl, rfl, _, rfl, _, _, _, rfl, rfl, h0, ?_⟩
  refine ⟨rfl, rfl, _, rfl, _, _, _, rfl, rfl, h1, ?_⟩
  have hlen : (ns.map Dt.int).length = ns.length := List.length_map _
  refine ⟨_, rfl, _, rfl, _, fun i ρ => ∃ lo v, ρ = [.some (.int (Kd.num k)), .some (.int n), .some (rowD ns), .some lo, .some (wt k n i).dt, .some (wsum k n ns i).dt, v] ∧ (k = .falling → lo = .int (wtF n i).1), rfl, by rw [hlen]; omega, by rw [hlen]; omega, ⟨_, _, rfl, fun _ => rfl⟩, ?_, ?_⟩
  · rintro i ρ' hi ⟨lo, v, rfl, hlo⟩
    rw [hlen] at hi
    have hi' : i < ns.length := by omega
    have hat := row_at hi'
    have mw : ∀ w : Int, w.natAbs < 2 ^ (12 * i + 1) → IntMulOk w (ns.getD i 0) := fun w h => mulBig h (bdR_get hb i) (by omega)
    have wb := wt_bd hn (j := i) (by omega)
    have hnext : ∀ lo' : Dt, (k = .falling → lo' = .int (wtF n i).1) → ∀ Q' : Dt → Prop, Q' (wt k n (i + 1)).dt → S_next [.int (Kd.num k), .int n, .int i, lo', (wt k n i).dt] Q' := fun lo' h Q' q' => by
      refine ⟨k, n, i, lo', _, rfl, hn, by omega, by omega, ?_⟩
      cases k with
      | falling => exact .inl ⟨rfl, _, _, h rfl, rfl, q'⟩
      | _ => exact .inr ⟨rfl, i, rfl, rfl, q'⟩
    by_cases hp : k = .pairs
    · subst hp
      obtain ⟨x, y, ew⟩ := wt2 (n := n) i
      obtain ⟨a, b, es⟩ := wsP (n := n) (ns := ns) i
      have ew' : wt .pairs n i = .p x y := ew
      have est : wsum .pairs n ns (i + 1) = .p (a + x * ns.getD i 0) (b + y * ns.getD i 0) := by
        unfold wsum
        rw [es, ew']
        show Nm.p (a + (ns.getD i 0 * x - 0 * y)) (b + (ns.getD i 0 * y + 0 * x)) = _
        congr 1 <;> grind
      rw [ew'] at wb hnext ⊢
      rw [es]
      walk_at "rd"
      refine ⟨_, _, _, rfl, rfl, hat, _, _, rfl, rfl, mw x wb.1, ?_⟩
      walk_at "rd"
      refine ⟨_, _, _, rfl, rfl, hat, _, _, rfl, rfl, mw y wb.2, ?_⟩
      walk_at "rd"
      simp only [dNil]
      refine hnext _ hlo _ ?_
      exact ⟨_, _, rfl, (Nm.p x y).dt, .some (.int i), by rw [est]; rfl, fun h => nomatch h⟩
    · obtain ⟨w, ew⟩ := wtI (n := n) hp i
      obtain ⟨a, es⟩ := wsI (n := n) (ns := ns) hp i
      have est : wsum k n ns (i + 1) = .i (a + w * ns.getD i 0) := by
        unfold wsum
        rw [es, ew]
        show Nm.i (a + ns.getD i 0 * w) = _
        rw [Int.mul_comm]
      rw [ew] at wb hnext ⊢
      rw [es]
      have hne : eqD (.int (Kd.num k)) (.int 5) = false := by cases k <;> first | rfl | exact absurd rfl hp
      refine ⟨_, rfl, rfl, rfl, _, rfl, iteNQ hne ?_⟩
      refine ⟨_, rfl, _, rfl, _, rfl, _, rfl, _, _, _, rfl, rfl, hat, _, _, rfl, rfl, mw w wb.1, _, _, rfl, rfl, ?_⟩
      refine ⟨_, rfl, _, rfl, _, rfl, _, rfl, _, rfl, _, rfl, ?_⟩
      simp only [dNil]
      refine hnext _ hlo _ ?_
      refine ⟨_, _, rfl, (Nm.i w).dt, .some (.int i), by rw [est]; rfl, fun h => ?_⟩
      subst h
      cases ew
      rfl
  · rintro ρ' ⟨lo, v, rfl, _⟩
    rw [hlen]
    exact ⟨_, rfl, q⟩
abbrev s_law : Stmt := top 31
theorem sc_law : FnScope ["_law_script", "_law_number", "_law_row", "_law_kind", "_law_size_here", "_law_way", "_law_some", "_law_handed", "_law_found"] ["_law_script"] (defScope s_law) := ⟨rfl, rfl, rfl, by decide +kernel, rfl, by decide +kernel, by decide +kernel⟩
theorem ok_law (T : Txt K mg A) (G__law_cell_at : DOk P w K mg base 1 "_law_cell_at" (S_cell)) (G__law_thing : DOk P w K mg base 1 "_law_thing" (S_thing)) (G__law_size : DOk P w K mg base 1 "_law_size" (S_size)) (G__law_made : DOk P w K mg base 5 "_law_made" (S_made A)) (G_worth : DOk P w K mg base 5 "worth" (S_worth A)) (G__law_is_number : DOk P w K mg base 2 "_law_is_number" (S_isnum)) (G__law_worth : DOk P w K mg base 2 "_law_worth" (S_lworth)) (F : Fun K "law" "law" s_law f fd) : FnOk P w K mg base CX0 6 f fd ["_law_script"] (PureSp K (S_law)) := by
  refine okD F sc_law (fun ds Q h => ?_) (fun cdv A' outer s H E hr ds Q h => ?_)
  · obtain ⟨ns, rfl, hns, q⟩ := h
    rfl
  obtain ⟨ns, rfl, hns, q⟩ := h
  refine ⟨_, (dss_cons (ds_set (i := 1) sc_law.nd rfl (Or.inl rfl) (de_op o_mod (de_call G__law_cell_at (hr.mono (by decide)) rfl (da_cons (dv 0) (da_cons de_int da_nil))) (de_op o_pow de_int de_int)))
  (dss_cons (ds_setCompP (i := 2) rfl (by decide +kernel) sc_law.nd rfl (Or.inl rfl) (de_slice (dv 0) (do_some de_int) (do_some de_int)) (fun _ _ _ _ _ => (de_call G__law_thing (hr.mono (by decide)) rfl (da_cons (dv 0) da_nil))))
  (dss_cons (ds_forR (j := 3) rfl sc_law.nd rfl (Or.inl rfl) PassesOwn.never rfl T.range de_int (dss_cons (ds_set (i := 4) sc_law.nd rfl (Or.inl rfl) (de_call G__law_size (hr.mono (by decide)) rfl (da_cons (dv 3) (da_cons (de_op o_fdiv (dv 1) (de_op o_add (dv 3) de_int)) da_nil))))
  (dss_cons (ds_set (i := 5) sc_law.nd rfl (Or.inl rfl) (de_call G__law_made (hr.mono (by decide)) rfl (da_cons (dv 3) (da_cons (dv 4) da_nil))))
  (dss_one (ds_for (j := 6) rfl sc_law.nd rfl (Or.inl rfl) PassesOwn.never (de_lst (da_cons (dv 2) (da_cons (de_lst da_nil) (da_cons (de_slice (dv 2) do_none (do_some de_int)) da_nil)))) (dss_cons (ds_set (i := 7) sc_law.nd rfl (Or.inl rfl) (DF.de (df_list rfl T.n_list (dv 6))))
  (dss_cons (ds_set (i := 8) sc_law.nd rfl (Or.inl rfl) (de_call G_worth (hr.mono (by decide)) rfl (da_cons (dv 5) (da_cons (dv 7) da_nil))))
  (dss_one (ds_if (DW.dt (dw_or (dt_not (dt_val (de_call G__law_is_number (hr.mono (by decide)) rfl (da_cons (dv 8) (da_cons (dv 3) da_nil))))) (dw_or (dt_cmp (o_ne hr) (dv 8) (de_call G__law_worth (hr.mono (by decide)) rfl (da_cons (dv 3) (da_cons (dv 4) (da_cons (dv 6) da_nil)))) (nomark _)) (dw_or1 (dt_cmp (o_ne hr) (dv 7) (dv 6) (nomark _)))))) (dss_one (ds_ret de_bl)) dss_nil)))))))))
  (dss_one (ds_ret de_bl))))), ?_⟩
  have hlen := cutD_length (ns.map Dt.int) (some 1) (some 41)
  rw [List.length_map] at hlen
  refine ⟨_, rfl, ns, 0, rfl, Int.le_refl _, fun z => ?_⟩
  refine ⟨_, _, rfl, rfl, cpowN (by decide), _, _, rfl, rfl, cmodN (by decide), ?_⟩
  dsimp only
  generalize z.fmod (10 ^ (20 : Int).toNat) = u
  refine ⟨_, rfl, _, rfl, _, rfl, _, rfl, _, fun i es => ∃ ms : List Int, es = ms.map Dt.int ∧ ms.length = i ∧ bdR ms, rfl, by omega, ⟨[], rfl, rfl, fun t h => nomatch h⟩, ?_, ?_⟩
  · rintro i e es he ⟨ms, rfl, hl, hb⟩
    obtain ⟨y, _, rfl⟩ := List.mem_map.mp (cut_mem (List.mem_of_getElem? he))
    refine ⟨_, rfl, y, rfl, fun r hr => ⟨ms ++ [r], by rw [List.map_append]; rfl, by rw [List.length_append, hl]; rfl, fun t ht => ?_⟩⟩
    rcases List.mem_append.mp ht with h | h
    · exact hb t h
    · rw [List.mem_singleton.mp h]; exact hr
  rintro es ⟨ms, rfl, hml, hmb⟩
  have hml' : ms.length ≤ 300 := by omega
  obtain ⟨ms1, e1, l1, b1⟩ := cut_row none (some 1) hml' hmb
  refine ⟨6, fun i ρ => ∃ v3 v4 v5 v6 v7 v8, ρ = [.some (.scr ns), .some (.int u), .some (rowD ms), v3, v4, v5, v6, v7, v8], rfl, by decide, by decide, ⟨_, _, _, _, _, _, rfl⟩, ?_, ?_⟩
  · rintro i ρ' hi ⟨v3, v4, v5, v6, v7, v8, rfl⟩
    obtain ⟨k, hk⟩ := kindN (i := i) hi
    have hcd : CDivN u (k.num + 1) := by cases k <;> exact ⟨by decide, by decide⟩
    rw [← hk]
    refine ⟨_, rfl, _, rfl, _, rfl, _, _, rfl, rfl, _, _, rfl, rfl, hcd, k, _, rfl, fun n hn => ?_⟩
    refine ⟨_, rfl, _, rfl, k, n, rfl, hn, ?_⟩
    refine ⟨_, rfl, rfl, _, rfl, _, rfl, _, rfl, rfl, _, fun j ρ => ∃ w6 w7 w8, ρ = [.some (.scr ns), .some (.int u), .some (rowD ms), .some (.int k.num), .some (.int n), .some (wayD A k n), w6, w7, w8], rfl, ⟨_, _, _, rfl⟩, ?_, ?_⟩
    · rintro j e ρ2 hj ⟨w6, w7, w8, rfl⟩
      have hin : ∃ ms' : List Int, e = rowD ms' ∧ ms'.length ≤ 300 ∧ bdR ms' := by
        have := List.mem_of_getElem? hj
        simp only [List.mem_cons, List.not_mem_nil, or_false] at this
        rcases this with rfl | rfl | rfl
        · exact ⟨ms, rfl, hml', hmb⟩
        · exact ⟨[], rfl, by decide, fun t h => nomatch h⟩
        · exact ⟨ms1, by rw [e1]; rfl, l1, b1⟩
      obtain ⟨ms', rfl, hl', hb'⟩ := hin
      refine ⟨_, rfl, _, rfl, ?_⟩
      refine ⟨_, rfl, _, rfl, k, n, ms', rfl, hn, hl', hb', ?_⟩
      refine ⟨_, rfl, _, rfl, k, n, ms', _, rfl, _, rfl, iteF ?_⟩
      refine ⟨_, rfl, _, rfl, _, rfl, _, rfl, k, n, ms', rfl, hn, hl', hb', okE_dt _, okE_dt _, _, rfl, iteNE (eqD_self 40 (okE_dt _)) ?_⟩
      refine ⟨_, rfl, _, rfl, okE_row _, okE_row _, _, rfl, iteNE (eq_row _) ?_⟩
      exact ⟨_, _, _, rfl⟩
    · rintro ρ2 ⟨w6, w7, w8, rfl⟩
      exact ⟨_, _, _, _, _, _, rfl⟩
  · rintro ρ' ⟨v3, v4, v5, v6, v7, v8, rfl⟩
    exact q
end
theorem all_mk {l : PySem.W.OpenLaw} {w : World} {K : PySem.W.Frag} {h : Heap} {mg : Str → Option Value} {fa : Addr} (X : K.In h) (G : h.Ns mainGlobals mg) (hfa : mg "law" = some (.ref fa))
    {C_Plain : Addr} {C_Below : Addr} {C_Balanced : Addr} {C_Growing : Addr} {C_Falling : Addr} {C_Pairs : Addr} {f1 : Addr} {od1 an1 : Option Addr} {sl1 : Array (Option Value)} {oc1 kV1 dc1 pm1 cd1 ct1 : Value} {f2 : Addr} {od2 an2 : Option Addr} {sl2 : Array (Option Value)} {oc2 kV2 dc2 pm2 cd2 ct2 : Value} {f3 : Addr} {od3 an3 : Option Addr} {sl3 : Array (Option Value)} {oc3 kV3 dc3 pm3 cd3 ct3 : Value} {f4 : Addr} {od4 an4 : Option Addr} {sl4 : Array (Option Value)} {oc4 kV4 dc4 pm4 cd4 ct4 : Value} {f5 : Addr} {od5 an5 : Option Addr} {sl5 : Array (Option Value)} {oc5 kV5 dc5 pm5 cd5 ct5 : Value} {f6 : Addr} {od6 an6 : Option Addr} {sl6 : Array (Option Value)} {oc6 kV6 dc6 pm6 cd6 ct6 : Value} {f7 : Addr} {od7 an7 : Option Addr} {sl7 : Array (Option Value)} {oc7 kV7 dc7 pm7 cd7 ct7 : Value} {f8 : Addr} {od8 an8 : Option Addr} {sl8 : Array (Option Value)} {oc8 kV8 dc8 pm8 cd8 ct8 : Value} {f9 : Addr} {od9 an9 : Option Addr} {sl9 : Array (Option Value)} {oc9 kV9 dc9 pm9 cd9 ct9 : Value} {f10 : Addr} {od10 an10 : Option Addr} {sl10 : Array (Option Value)} {oc10 kV10 dc10 pm10 cd10 ct10 : Value} {f11 : Addr} {od11 an11 : Option Addr} {sl11 : Array (Option Value)} {oc11 kV11 dc11 pm11 cd11 ct11 : Value} {f12 : Addr} {od12 an12 : Option Addr} {sl12 : Array (Option Value)} {oc12 kV12 dc12 pm12 cd12 ct12 : Value} {f13 : Addr} {od13 an13 : Option Addr} {sl13 : Array (Option Value)} {oc13 kV13 dc13 pm13 cd13 ct13 : Value} {f14 : Addr} {od14 an14 : Option Addr} {sl14 : Array (Option Value)} {oc14 kV14 dc14 pm14 cd14 ct14 : Value} {f15 : Addr} {od15 an15 : Option Addr} {sl15 : Array (Option Value)} {oc15 kV15 dc15 pm15 cd15 ct15 : Value} {f16 : Addr} {od16 an16 : Option Addr} {sl16 : Array (Option Value)} {oc16 kV16 dc16 pm16 cd16 ct16 : Value} {f17 : Addr} {od17 an17 : Option Addr} {sl17 : Array (Option Value)} {oc17 kV17 dc17 pm17 cd17 ct17 : Value} {f18 : Addr} {od18 an18 : Option Addr} {sl18 : Array (Option Value)} {oc18 kV18 dc18 pm18 cd18 ct18 : Value} {f19 : Addr} {od19 an19 : Option Addr} {sl19 : Array (Option Value)} {oc19 kV19 dc19 pm19 cd19 ct19 : Value} {f20 : Addr} {od20 an20 : Option Addr} {sl20 : Array (Option Value)} {oc20 kV20 dc20 pm20 cd20 ct20 : Value} {f21 : Addr} {od21 an21 : Option Addr} {sl21 : Array (Option Value)} {oc21 kV21 dc21 pm21 cd21 ct21 : Value} {f22 : Addr} {od22 an22 : Option Addr} {sl22 : Array (Option Value)} {oc22 kV22 dc22 pm22 cd22 ct22 : Value} {f23 : Addr} {od23 an23 : Option Addr} {sl23 : Array (Option Value)} {oc23 kV23 dc23 pm23 cd23 ct23 : Value} {f24 : Addr} {od24 an24 : Option Addr} {sl24 : Array (Option Value)} {oc24 kV24 dc24 pm24 cd24 ct24 : Value} {f25 : Addr} {od25 an25 : Option Addr} {sl25 : Array (Option Value)} {oc25 kV25 dc25 pm25 cd25 ct25 : Value} {f26 : Addr} {od26 an26 : Option Addr} {sl26 : Array (Option Value)} {oc26 kV26 dc26 pm26 cd26 ct26 : Value} {f27 : Addr} {od27 an27 : Option Addr} {sl27 : Array (Option Value)} {oc27 kV27 dc27 pm27 cd27 ct27 : Value} {f28 : Addr} {od28 an28 : Option Addr} {sl28 : Array (Option Value)} {oc28 kV28 dc28 pm28 cd28 ct28 : Value} {f29 : Addr} {od29 an29 : Option Addr} {sl29 : Array (Option Value)} {oc29 kV29 dc29 pm29 cd29 ct29 : Value} {f30 : Addr} {od30 an30 : Option Addr} {sl30 : Array (Option Value)} {oc30 kV30 dc30 pm30 cd30 ct30 : Value}
    (aC_Plain : PySem.W.nsIn K mainGlobals "Plain" = some (some (.ref C_Plain)))
    (aC_Below : PySem.W.nsIn K mainGlobals "Below" = some (some (.ref C_Below)))
    (aC_Balanced : PySem.W.nsIn K mainGlobals "Balanced" = some (some (.ref C_Balanced)))
    (aC_Growing : PySem.W.nsIn K mainGlobals "Growing" = some (some (.ref C_Growing)))
    (aC_Falling : PySem.W.nsIn K mainGlobals "Falling" = some (some (.ref C_Falling)))
    (aC_Pairs : PySem.W.nsIn K mainGlobals "Pairs" = some (some (.ref C_Pairs)))
    (a1 : PySem.W.nsIn K mainGlobals "_law_cell_at" = some (some (.ref f1)))
    (l1 : K.lookup f1 = some ⟨oc1, od1, .func (PySem.W.fnOf "_law_cell_at" "_law_cell_at" (defArgs s_law_cell_at) (defBody s_law_cell_at) (defScope s_law_cell_at) .none kV1 dc1 pm1 an1 cd1 ct1), sl1⟩)
    (c1 : PySem.W.codeIn K cd1 "_law_cell_at" = true)
    (k1 : PySem.W.keepIn K (.ref f1) = true)
    (a2 : PySem.W.nsIn K mainGlobals "_law_thing" = some (some (.ref f2)))
    (l2 : K.lookup f2 = some ⟨oc2, od2, .func (PySem.W.fnOf "_law_thing" "_law_thing" (defArgs s_law_thing) (defBody s_law_thing) (defScope s_law_thing) .none kV2 dc2 pm2 an2 cd2 ct2), sl2⟩)
    (c2 : PySem.W.codeIn K cd2 "_law_thing" = true)
    (k2 : PySem.W.keepIn K (.ref f2) = true)
    (a3 : PySem.W.nsIn K mainGlobals "_law_size" = some (some (.ref f3)))
    (l3 : K.lookup f3 = some ⟨oc3, od3, .func (PySem.W.fnOf "_law_size" "_law_size" (defArgs s_law_size) (defBody s_law_size) (defScope s_law_size) .none kV3 dc3 pm3 an3 cd3 ct3), sl3⟩)
    (c3 : PySem.W.codeIn K cd3 "_law_size" = true)
    (k3 : PySem.W.keepIn K (.ref f3) = true)
    (a4 : PySem.W.nsIn K mainGlobals "is_whole" = some (some (.ref f4)))
    (l4 : K.lookup f4 = some ⟨oc4, od4, .func (PySem.W.fnOf "is_whole" "is_whole" (defArgs s_is_whole) (defBody s_is_whole) (defScope s_is_whole) .none kV4 dc4 pm4 an4 cd4 ct4), sl4⟩)
    (c4 : PySem.W.codeIn K cd4 "is_whole" = true)
    (k4 : PySem.W.keepIn K (.ref f4) = true)
    (a5 : PySem.W.nsIn K mainGlobals "bounded" = some (some (.ref f5)))
    (l5 : K.lookup f5 = some ⟨oc5, od5, .func (PySem.W.fnOf "bounded" "bounded" (defArgs s_bounded) (defBody s_bounded) (defScope s_bounded) .none kV5 dc5 pm5 an5 cd5 ct5), sl5⟩)
    (c5 : PySem.W.codeIn K cd5 "bounded" = true)
    (k5 : PySem.W.keepIn K (.ref f5) = true)
    (a6 : PySem.W.findIn K (.ref C_Plain) "__init__" = some (some (.ref f6)))
    (i6 : PySem.W.isFn K (.ref f6) = true)
    (l6 : K.lookup f6 = some ⟨oc6, od6, .func (PySem.W.fnOf "__init__" "Plain.__init__" (defArgs s_Plain_init) (defBody s_Plain_init) (defScope s_Plain_init) .none kV6 dc6 pm6 an6 cd6 ct6), sl6⟩)
    (c6 : PySem.W.codeIn K cd6 "Plain.__init__" = true)
    (k6 : PySem.W.keepIn K (.ref f6) = true)
    (a7 : PySem.W.findIn K (.ref C_Below) "__init__" = some (some (.ref f7)))
    (i7 : PySem.W.isFn K (.ref f7) = true)
    (l7 : K.lookup f7 = some ⟨oc7, od7, .func (PySem.W.fnOf "__init__" "Below.__init__" (defArgs s_Below_init) (defBody s_Below_init) (defScope s_Below_init) .none kV7 dc7 pm7 an7 cd7 ct7), sl7⟩)
    (c7 : PySem.W.codeIn K cd7 "Below.__init__" = true)
    (k7 : PySem.W.keepIn K (.ref f7) = true)
    (a8 : PySem.W.findIn K (.ref C_Balanced) "__init__" = some (some (.ref f8)))
    (i8 : PySem.W.isFn K (.ref f8) = true)
    (l8 : K.lookup f8 = some ⟨oc8, od8, .func (PySem.W.fnOf "__init__" "Balanced.__init__" (defArgs s_Balanced_init) (defBody s_Balanced_init) (defScope s_Balanced_init) .none kV8 dc8 pm8 an8 cd8 ct8), sl8⟩)
    (c8 : PySem.W.codeIn K cd8 "Balanced.__init__" = true)
    (k8 : PySem.W.keepIn K (.ref f8) = true)
    (a9 : PySem.W.findIn K (.ref C_Growing) "__init__" = some (some (.ref f9)))
    (i9 : PySem.W.isFn K (.ref f9) = true)
    (l9 : K.lookup f9 = some ⟨oc9, od9, .func (PySem.W.fnOf "__init__" "Growing.__init__" (defArgs s_Growing_init) (defBody s_Growing_init) (defScope s_Growing_init) .none kV9 dc9 pm9 an9 cd9 ct9), sl9⟩)
    (c9 : PySem.W.codeIn K cd9 "Growing.__init__" = true)
    (k9 : PySem.W.keepIn K (.ref f9) = true)
    (a10 : PySem.W.findIn K (.ref C_Falling) "__init__" = some (some (.ref f10)))
    (i10 : PySem.W.isFn K (.ref f10) = true)
    (l10 : K.lookup f10 = some ⟨oc10, od10, .func (PySem.W.fnOf "__init__" "Falling.__init__" (defArgs s_Falling_init) (defBody s_Falling_init) (defScope s_Falling_init) .none kV10 dc10 pm10 an10 cd10 ct10), sl10⟩)
    (c10 : PySem.W.codeIn K cd10 "Falling.__init__" = true)
    (k10 : PySem.W.keepIn K (.ref f10) = true)
    (a11 : PySem.W.findIn K (.ref C_Pairs) "__init__" = some (some (.ref f11)))
    (i11 : PySem.W.isFn K (.ref f11) = true)
    (l11 : K.lookup f11 = some ⟨oc11, od11, .func (PySem.W.fnOf "__init__" "Pairs.__init__" (defArgs s_Pairs_init) (defBody s_Pairs_init) (defScope s_Pairs_init) .none kV11 dc11 pm11 an11 cd11 ct11), sl11⟩)
    (c11 : PySem.W.codeIn K cd11 "Pairs.__init__" = true)
    (k11 : PySem.W.keepIn K (.ref f11) = true)
    (a12 : PySem.W.nsIn K mainGlobals "_law_made" = some (some (.ref f12)))
    (l12 : K.lookup f12 = some ⟨oc12, od12, .func (PySem.W.fnOf "_law_made" "_law_made" (defArgs s_law_made) (defBody s_law_made) (defScope s_law_made) .none kV12 dc12 pm12 an12 cd12 ct12), sl12⟩)
    (c12 : PySem.W.codeIn K cd12 "_law_made" = true)
    (k12 : PySem.W.keepIn K (.ref f12) = true)
    (a13 : PySem.W.nsIn K mainGlobals "as_pair" = some (some (.ref f13)))
    (l13 : K.lookup f13 = some ⟨oc13, od13, .func (PySem.W.fnOf "as_pair" "as_pair" (defArgs s_as_pair) (defBody s_as_pair) (defScope s_as_pair) .none kV13 dc13 pm13 an13 cd13 ct13), sl13⟩)
    (c13 : PySem.W.codeIn K cd13 "as_pair" = true)
    (k13 : PySem.W.keepIn K (.ref f13) = true)
    (a14 : PySem.W.nsIn K mainGlobals "added" = some (some (.ref f14)))
    (l14 : K.lookup f14 = some ⟨oc14, od14, .func (PySem.W.fnOf "added" "added" (defArgs s_added) (defBody s_added) (defScope s_added) .none kV14 dc14 pm14 an14 cd14 ct14), sl14⟩)
    (c14 : PySem.W.codeIn K cd14 "added" = true)
    (k14 : PySem.W.keepIn K (.ref f14) = true)
    (a15 : PySem.W.nsIn K mainGlobals "multiplied" = some (some (.ref f15)))
    (l15 : K.lookup f15 = some ⟨oc15, od15, .func (PySem.W.fnOf "multiplied" "multiplied" (defArgs s_multiplied) (defBody s_multiplied) (defScope s_multiplied) .none kV15 dc15 pm15 an15 cd15 ct15), sl15⟩)
    (c15 : PySem.W.codeIn K cd15 "multiplied" = true)
    (k15 : PySem.W.keepIn K (.ref f15) = true)
    (a16_Plain : PySem.W.findIn K (.ref C_Plain) "nought" = some (some (.ref f16)))
    (a16_Below : PySem.W.findIn K (.ref C_Below) "nought" = some (some (.ref f16)))
    (a16_Balanced : PySem.W.findIn K (.ref C_Balanced) "nought" = some (some (.ref f16)))
    (a16_Growing : PySem.W.findIn K (.ref C_Growing) "nought" = some (some (.ref f16)))
    (a16_Falling : PySem.W.findIn K (.ref C_Falling) "nought" = some (some (.ref f16)))
    (i16 : PySem.W.isFn K (.ref f16) = true)
    (l16 : K.lookup f16 = some ⟨oc16, od16, .func (PySem.W.fnOf "nought" "Way.nought" (defArgs s_Way_nought) (defBody s_Way_nought) (defScope s_Way_nought) .none kV16 dc16 pm16 an16 cd16 ct16), sl16⟩)
    (c16 : PySem.W.codeIn K cd16 "Way.nought" = true)
    (k16 : PySem.W.keepIn K (.ref f16) = true)
    (a17_Pairs : PySem.W.findIn K (.ref C_Pairs) "nought" = some (some (.ref f17)))
    (i17 : PySem.W.isFn K (.ref f17) = true)
    (l17 : K.lookup f17 = some ⟨oc17, od17, .func (PySem.W.fnOf "nought" "Pairs.nought" (defArgs s_Pairs_nought) (defBody s_Pairs_nought) (defScope s_Pairs_nought) .none kV17 dc17 pm17 an17 cd17 ct17), sl17⟩)
    (c17 : PySem.W.codeIn K cd17 "Pairs.nought" = true)
    (k17 : PySem.W.keepIn K (.ref f17) = true)
    (a18_Plain : PySem.W.findIn K (.ref C_Plain) "ratio" = some (some (.ref f18)))
    (i18 : PySem.W.isFn K (.ref f18) = true)
    (l18 : K.lookup f18 = some ⟨oc18, od18, .func (PySem.W.fnOf "ratio" "Plain.ratio" (defArgs s_Plain_ratio) (defBody s_Plain_ratio) (defScope s_Plain_ratio) .none kV18 dc18 pm18 an18 cd18 ct18), sl18⟩)
    (c18 : PySem.W.codeIn K cd18 "Plain.ratio" = true)
    (k18 : PySem.W.keepIn K (.ref f18) = true)
    (a19_Below : PySem.W.findIn K (.ref C_Below) "ratio" = some (some (.ref f19)))
    (i19 : PySem.W.isFn K (.ref f19) = true)
    (l19 : K.lookup f19 = some ⟨oc19, od19, .func (PySem.W.fnOf "ratio" "Below.ratio" (defArgs s_Below_ratio) (defBody s_Below_ratio) (defScope s_Below_ratio) .none kV19 dc19 pm19 an19 cd19 ct19), sl19⟩)
    (c19 : PySem.W.codeIn K cd19 "Below.ratio" = true)
    (k19 : PySem.W.keepIn K (.ref f19) = true)
    (a20_Balanced : PySem.W.findIn K (.ref C_Balanced) "ratio" = some (some (.ref f20)))
    (i20 : PySem.W.isFn K (.ref f20) = true)
    (l20 : K.lookup f20 = some ⟨oc20, od20, .func (PySem.W.fnOf "ratio" "Balanced.ratio" (defArgs s_Balanced_ratio) (defBody s_Balanced_ratio) (defScope s_Balanced_ratio) .none kV20 dc20 pm20 an20 cd20 ct20), sl20⟩)
    (c20 : PySem.W.codeIn K cd20 "Balanced.ratio" = true)
    (k20 : PySem.W.keepIn K (.ref f20) = true)
    (a21_Growing : PySem.W.findIn K (.ref C_Growing) "ratio" = some (some (.ref f21)))
    (i21 : PySem.W.isFn K (.ref f21) = true)
    (l21 : K.lookup f21 = some ⟨oc21, od21, .func (PySem.W.fnOf "ratio" "Growing.ratio" (defArgs s_Growing_ratio) (defBody s_Growing_ratio) (defScope s_Growing_ratio) .none kV21 dc21 pm21 an21 cd21 ct21), sl21⟩)
    (c21 : PySem.W.codeIn K cd21 "Growing.ratio" = true)
    (k21 : PySem.W.keepIn K (.ref f21) = true)
    (a22_Pairs : PySem.W.findIn K (.ref C_Pairs) "ratio" = some (some (.ref f22)))
    (i22 : PySem.W.isFn K (.ref f22) = true)
    (l22 : K.lookup f22 = some ⟨oc22, od22, .func (PySem.W.fnOf "ratio" "Pairs.ratio" (defArgs s_Pairs_ratio) (defBody s_Pairs_ratio) (defScope s_Pairs_ratio) .none kV22 dc22 pm22 an22 cd22 ct22), sl22⟩)
    (c22 : PySem.W.codeIn K cd22 "Pairs.ratio" = true)
    (k22 : PySem.W.keepIn K (.ref f22) = true)
    (a23_Plain : PySem.W.findIn K (.ref C_Plain) "weights" = some (some (.ref f23)))
    (a23_Below : PySem.W.findIn K (.ref C_Below) "weights" = some (some (.ref f23)))
    (a23_Balanced : PySem.W.findIn K (.ref C_Balanced) "weights" = some (some (.ref f23)))
    (a23_Growing : PySem.W.findIn K (.ref C_Growing) "weights" = some (some (.ref f23)))
    (a23_Pairs : PySem.W.findIn K (.ref C_Pairs) "weights" = some (some (.ref f23)))
    (i23 : PySem.W.isFn K (.ref f23) = true)
    (l23 : K.lookup f23 = some ⟨oc23, od23, .func (PySem.W.fnOf "weights" "Way.weights" (defArgs s_Way_weights) (defBody s_Way_weights) (defScope s_Way_weights) .none kV23 dc23 pm23 an23 cd23 ct23), sl23⟩)
    (c23 : PySem.W.codeIn K cd23 "Way.weights" = true)
    (k23 : PySem.W.keepIn K (.ref f23) = true)
    (a24_Falling : PySem.W.findIn K (.ref C_Falling) "weights" = some (some (.ref f24)))
    (i24 : PySem.W.isFn K (.ref f24) = true)
    (l24 : K.lookup f24 = some ⟨oc24, od24, .func (PySem.W.fnOf "weights" "Falling.weights" (defArgs s_Falling_weights) (defBody s_Falling_weights) (defScope s_Falling_weights) .none kV24 dc24 pm24 an24 cd24 ct24), sl24⟩)
    (c24 : PySem.W.codeIn K cd24 "Falling.weights" = true)
    (k24 : PySem.W.keepIn K (.ref f24) = true)
    (a25 : PySem.W.nsIn K mainGlobals "worth" = some (some (.ref f25)))
    (l25 : K.lookup f25 = some ⟨oc25, od25, .func (PySem.W.fnOf "worth" "worth" (defArgs s_worth) (defBody s_worth) (defScope s_worth) .none kV25 dc25 pm25 an25 cd25 ct25), sl25⟩)
    (c25 : PySem.W.codeIn K cd25 "worth" = true)
    (k25 : PySem.W.keepIn K (.ref f25) = true)
    (a26 : PySem.W.nsIn K mainGlobals "_law_whole" = some (some (.ref f26)))
    (l26 : K.lookup f26 = some ⟨oc26, od26, .func (PySem.W.fnOf "_law_whole" "_law_whole" (defArgs s_law_whole) (defBody s_law_whole) (defScope s_law_whole) .none kV26 dc26 pm26 an26 cd26 ct26), sl26⟩)
    (c26 : PySem.W.codeIn K cd26 "_law_whole" = true)
    (k26 : PySem.W.keepIn K (.ref f26) = true)
    (a27 : PySem.W.nsIn K mainGlobals "_law_is_number" = some (some (.ref f27)))
    (l27 : K.lookup f27 = some ⟨oc27, od27, .func (PySem.W.fnOf "_law_is_number" "_law_is_number" (defArgs s_law_is_number) (defBody s_law_is_number) (defScope s_law_is_number) .none kV27 dc27 pm27 an27 cd27 ct27), sl27⟩)
    (c27 : PySem.W.codeIn K cd27 "_law_is_number" = true)
    (k27 : PySem.W.keepIn K (.ref f27) = true)
    (a28 : PySem.W.nsIn K mainGlobals "_law_next" = some (some (.ref f28)))
    (l28 : K.lookup f28 = some ⟨oc28, od28, .func (PySem.W.fnOf "_law_next" "_law_next" (defArgs s_law_next) (defBody s_law_next) (defScope s_law_next) .none kV28 dc28 pm28 an28 cd28 ct28), sl28⟩)
    (c28 : PySem.W.codeIn K cd28 "_law_next" = true)
    (k28 : PySem.W.keepIn K (.ref f28) = true)
    (a29 : PySem.W.nsIn K mainGlobals "_law_worth" = some (some (.ref f29)))
    (l29 : K.lookup f29 = some ⟨oc29, od29, .func (PySem.W.fnOf "_law_worth" "_law_worth" (defArgs s_law_worth) (defBody s_law_worth) (defScope s_law_worth) .none kV29 dc29 pm29 an29 cd29 ct29), sl29⟩)
    (c29 : PySem.W.codeIn K cd29 "_law_worth" = true)
    (k29 : PySem.W.keepIn K (.ref f29) = true)
    (a30 : PySem.W.nsIn K mainGlobals "law" = some (some (.ref f30)))
    (l30 : K.lookup f30 = some ⟨oc30, od30, .func (PySem.W.fnOf "law" "law" (defArgs s_law) (defBody s_law) (defScope s_law) .none kV30 dc30 pm30 an30 cd30 ct30), sl30⟩)
    (c30 : PySem.W.codeIn K cd30 "law" = true)
    (k30 : PySem.W.keepIn K (.ref f30) = true)
    (pg_Plain : PySem.W.plainGet K C_Plain Str.empty = true)
    (hd_Plain : PySem.W.hasDictIn K C_Plain = true)
    (po_Plain : PySem.W.plainOver K C_Plain = true)
    (sa_Plain : PySem.W.findIn K (.ref C_Plain) "__setattr__" = some (some (.builtin "object.__setattr__")))
    (mk_Plain : PySem.W.makesIn K C_Plain = true)
    (kc_Plain : PySem.W.keepIn K (.ref C_Plain) = true)
    (na_Plain : PySem.W.findIn K (.ref C_Plain) "base" = some none)
    (pg_Below : PySem.W.plainGet K C_Below Str.empty = true)
    (hd_Below : PySem.W.hasDictIn K C_Below = true)
    (po_Below : PySem.W.plainOver K C_Below = true)
    (sa_Below : PySem.W.findIn K (.ref C_Below) "__setattr__" = some (some (.builtin "object.__setattr__")))
    (mk_Below : PySem.W.makesIn K C_Below = true)
    (kc_Below : PySem.W.keepIn K (.ref C_Below) = true)
    (na_Below : PySem.W.findIn K (.ref C_Below) "base" = some none)
    (pg_Balanced : PySem.W.plainGet K C_Balanced Str.empty = true)
    (hd_Balanced : PySem.W.hasDictIn K C_Balanced = true)
    (po_Balanced : PySem.W.plainOver K C_Balanced = true)
    (sa_Balanced : PySem.W.findIn K (.ref C_Balanced) "__setattr__" = some (some (.builtin "object.__setattr__")))
    (mk_Balanced : PySem.W.makesIn K C_Balanced = true)
    (kc_Balanced : PySem.W.keepIn K (.ref C_Balanced) = true)
    (na_Balanced : PySem.W.findIn K (.ref C_Balanced) "half" = some none)
    (pg_Growing : PySem.W.plainGet K C_Growing Str.empty = true)
    (hd_Growing : PySem.W.hasDictIn K C_Growing = true)
    (po_Growing : PySem.W.plainOver K C_Growing = true)
    (sa_Growing : PySem.W.findIn K (.ref C_Growing) "__setattr__" = some (some (.builtin "object.__setattr__")))
    (mk_Growing : PySem.W.makesIn K C_Growing = true)
    (kc_Growing : PySem.W.keepIn K (.ref C_Growing) = true)
    (na_Growing : PySem.W.findIn K (.ref C_Growing) "first" = some none)
    (pg_Falling : PySem.W.plainGet K C_Falling Str.empty = true)
    (hd_Falling : PySem.W.hasDictIn K C_Falling = true)
    (po_Falling : PySem.W.plainOver K C_Falling = true)
    (sa_Falling : PySem.W.findIn K (.ref C_Falling) "__setattr__" = some (some (.builtin "object.__setattr__")))
    (mk_Falling : PySem.W.makesIn K C_Falling = true)
    (kc_Falling : PySem.W.keepIn K (.ref C_Falling) = true)
    (na_Falling : PySem.W.findIn K (.ref C_Falling) "most" = some none)
    (pg_Pairs : PySem.W.plainGet K C_Pairs Str.empty = true)
    (hd_Pairs : PySem.W.hasDictIn K C_Pairs = true)
    (po_Pairs : PySem.W.plainOver K C_Pairs = true)
    (sa_Pairs : PySem.W.findIn K (.ref C_Pairs) "__setattr__" = some (some (.builtin "object.__setattr__")))
    (mk_Pairs : PySem.W.makesIn K C_Pairs = true)
    (kc_Pairs : PySem.W.keepIn K (.ref C_Pairs) = true)
    (na_Pairs : PySem.W.findIn K (.ref C_Pairs) "most" = some none)
    (z_isinstance : PySem.W.nsIn K mainGlobals "isinstance" = some none)
    (z_int : PySem.W.nsIn K mainGlobals "int" = some none)
    (z_bool : PySem.W.nsIn K mainGlobals "bool" = some none)
    (z_tuple : PySem.W.nsIn K mainGlobals "tuple" = some none)
    (z_list : PySem.W.nsIn K mainGlobals "list" = some none)
    (z_len : PySem.W.nsIn K mainGlobals "len" = some none)
    (z_range : PySem.W.nsIn K mainGlobals "range" = some none)
    (z_zip : PySem.W.nsIn K mainGlobals "zip" = some none) :
    ∃ fd : FuncData, (∀ (s : Shared) (v : Value), BindsTo s fd ⟨[v], []⟩ [("_law_script", v)]) ∧ ∀ base : Heap, K.In base → base.Ns mainGlobals mg → FnOk l.prog w K mg base CX0 6 fa fd ["_law_script"] (PureSp K (S_law)) := by
  have e := hfa.symm.trans (PySem.W.mg_of X G a30)
  cases e
  let A : Adr := ⟨C_Plain, C_Below, C_Balanced, C_Growing, C_Falling, C_Pairs⟩
  have T : Txt K mg A := ⟨kitT K, PySem.W.mg_none_of X G z_isinstance, PySem.W.mg_none_of X G z_int, PySem.W.mg_none_of X G z_bool, PySem.W.mg_none_of X G z_tuple, PySem.W.mg_none_of X G z_list, PySem.W.mg_none_of X G z_len, PySem.W.mg_none_of X G z_range, PySem.W.mg_none_of X G z_zip, ⟨pg_Plain, hd_Plain, po_Plain, sa_Plain⟩, na_Plain, ⟨pg_Below, hd_Below, po_Below, sa_Below⟩, na_Below, ⟨pg_Balanced, hd_Balanced, po_Balanced, sa_Balanced⟩, na_Balanced, ⟨pg_Growing, hd_Growing, po_Growing, sa_Growing⟩, na_Growing, ⟨pg_Falling, hd_Falling, po_Falling, sa_Falling⟩, na_Falling, ⟨pg_Pairs, hd_Pairs, po_Pairs, sa_Pairs⟩, na_Pairs⟩
  have F1 := fun_mk (st := s_law_cell_at) l1 c1 k1
  have b1 := F1.binds (ps := ["_law_script", "_law_k"]) fun _ _ _ _ _ _ us hl => match us, hl with | [_, _], _ => rfl
  have F2 := fun_mk (st := s_law_thing) l2 c2 k2
  have b2 := F2.binds (ps := ["_law_cell"]) fun _ _ _ _ _ _ us hl => match us, hl with | [_], _ => rfl
  have F3 := fun_mk (st := s_law_size) l3 c3 k3
  have b3 := F3.binds (ps := ["_law_kind", "_law_number"]) fun _ _ _ _ _ _ us hl => match us, hl with | [_, _], _ => rfl
  have F4 := fun_mk (st := s_is_whole) l4 c4 k4
  have b4 := F4.binds (ps := ["value"]) fun _ _ _ _ _ _ us hl => match us, hl with | [_], _ => rfl
  have F5 := fun_mk (st := s_bounded) l5 c5 k5
  have b5 := F5.binds (ps := ["number", "least", "most"]) fun _ _ _ _ _ _ us hl => match us, hl with | [_, _, _], _ => rfl
  have F6 := fun_mk (st := s_Plain_init) l6 c6 k6
  have b6 := F6.binds (ps := ["self", "base"]) fun _ _ _ _ _ _ us hl => match us, hl with | [_, _], _ => rfl
  have F7 := fun_mk (st := s_Below_init) l7 c7 k7
  have b7 := F7.binds (ps := ["self", "base"]) fun _ _ _ _ _ _ us hl => match us, hl with | [_, _], _ => rfl
  have F8 := fun_mk (st := s_Balanced_init) l8 c8 k8
  have b8 := F8.binds (ps := ["self", "half"]) fun _ _ _ _ _ _ us hl => match us, hl with | [_, _], _ => rfl
  have F9 := fun_mk (st := s_Growing_init) l9 c9 k9
  have b9 := F9.binds (ps := ["self", "first"]) fun _ _ _ _ _ _ us hl => match us, hl with | [_, _], _ => rfl
  have F10 := fun_mk (st := s_Falling_init) l10 c10 k10
  have b10 := F10.binds (ps := ["self", "most"]) fun _ _ _ _ _ _ us hl => match us, hl with | [_, _], _ => rfl
  have F11 := fun_mk (st := s_Pairs_init) l11 c11 k11
  have b11 := F11.binds (ps := ["self", "most"]) fun _ _ _ _ _ _ us hl => match us, hl with | [_, _], _ => rfl
  have F12 := fun_mk (st := s_law_made) l12 c12 k12
  have b12 := F12.binds (ps := ["_law_kind", "_law_size_here"]) fun _ _ _ _ _ _ us hl => match us, hl with | [_, _], _ => rfl
  have F13 := fun_mk (st := s_as_pair) l13 c13 k13
  have b13 := F13.binds (ps := ["number"]) fun _ _ _ _ _ _ us hl => match us, hl with | [_], _ => rfl
  have F14 := fun_mk (st := s_added) l14 c14 k14
  have b14 := F14.binds (ps := ["one", "other"]) fun _ _ _ _ _ _ us hl => match us, hl with | [_, _], _ => rfl
  have F15 := fun_mk (st := s_multiplied) l15 c15 k15
  have b15 := F15.binds (ps := ["one", "other"]) fun _ _ _ _ _ _ us hl => match us, hl with | [_, _], _ => rfl
  have F16 := fun_mk (st := s_Way_nought) l16 c16 k16
  have b16 := F16.binds (ps := ["self"]) fun _ _ _ _ _ _ us hl => match us, hl with | [_], _ => rfl
  have F17 := fun_mk (st := s_Pairs_nought) l17 c17 k17
  have b17 := F17.binds (ps := ["self"]) fun _ _ _ _ _ _ us hl => match us, hl with | [_], _ => rfl
  have F18 := fun_mk (st := s_Plain_ratio) l18 c18 k18
  have b18 := F18.binds (ps := ["self", "place"]) fun _ _ _ _ _ _ us hl => match us, hl with | [_, _], _ => rfl
  have F19 := fun_mk (st := s_Below_ratio) l19 c19 k19
  have b19 := F19.binds (ps := ["self", "place"]) fun _ _ _ _ _ _ us hl => match us, hl with | [_, _], _ => rfl
  have F20 := fun_mk (st := s_Balanced_ratio) l20 c20 k20
  have b20 := F20.binds (ps := ["self", "place"]) fun _ _ _ _ _ _ us hl => match us, hl with | [_, _], _ => rfl
  have F21 := fun_mk (st := s_Growing_ratio) l21 c21 k21
  have b21 := F21.binds (ps := ["self", "place"]) fun _ _ _ _ _ _ us hl => match us, hl with | [_, _], _ => rfl
  have F22 := fun_mk (st := s_Pairs_ratio) l22 c22 k22
  have b22 := F22.binds (ps := ["self", "place"]) fun _ _ _ _ _ _ us hl => match us, hl with | [_, _], _ => rfl
  have F23 := fun_mk (st := s_Way_weights) l23 c23 k23
  have b23 := F23.binds (ps := ["self", "many"]) fun _ _ _ _ _ _ us hl => match us, hl with | [_, _], _ => rfl
  have F24 := fun_mk (st := s_Falling_weights) l24 c24 k24
  have b24 := F24.binds (ps := ["self", "many"]) fun _ _ _ _ _ _ us hl => match us, hl with | [_, _], _ => rfl
  have F25 := fun_mk (st := s_worth) l25 c25 k25
  have b25 := F25.binds (ps := ["way", "row"]) fun _ _ _ _ _ _ us hl => match us, hl with | [_, _], _ => rfl
  have F26 := fun_mk (st := s_law_whole) l26 c26 k26
  have b26 := F26.binds (ps := ["_law_found"]) fun _ _ _ _ _ _ us hl => match us, hl with | [_], _ => rfl
  have F27 := fun_mk (st := s_law_is_number) l27 c27 k27
  have b27 := F27.binds (ps := ["_law_found", "_law_kind"]) fun _ _ _ _ _ _ us hl => match us, hl with | [_, _], _ => rfl
  have F28 := fun_mk (st := s_law_next) l28 c28 k28
  have b28 := F28.binds (ps := ["_law_kind", "_law_size_here", "_law_place", "_law_lower", "_law_here"]) fun _ _ _ _ _ _ us hl => match us, hl with | [_, _, _, _, _], _ => rfl
  have F29 := fun_mk (st := s_law_worth) l29 c29 k29
  have b29 := F29.binds (ps := ["_law_kind", "_law_size_here", "_law_row"]) fun _ _ _ _ _ _ us hl => match us, hl with | [_, _, _], _ => rfl
  have F30 := fun_mk (st := s_law) l30 c30 k30
  have b30 := F30.binds (ps := ["_law_script"]) fun _ _ _ _ _ _ us hl => match us, hl with | [_], _ => rfl
  refine ⟨PySem.W.fnOf "law" "law" (defArgs s_law) (defBody s_law) (defScope s_law) .none kV30 dc30 pm30 an30 cd30 ct30, fun s v => .of_eq rfl, fun base _ _ => ?_⟩
  have G__law_cell_at := DOk.mk' F1 (PySem.W.mg_of X G a1) b1 (ok_law_cell_at (P := l.prog) (w := w) (base := base) T F1)
  have G__law_thing := DOk.mk' F2 (PySem.W.mg_of X G a2) b2 (ok_law_thing (P := l.prog) (w := w) (base := base) T F2)
  have G__law_size := DOk.mk' F3 (PySem.W.mg_of X G a3) b3 (ok_law_size (P := l.prog) (w := w) (base := base) T F3)
  have G_is_whole := DOk.mk' F4 (PySem.W.mg_of X G a4) b4 (ok_is_whole (P := l.prog) (w := w) (base := base) T F4)
  have G_bounded := DOk.mk' F5 (PySem.W.mg_of X G a5) b5 (ok_bounded (P := l.prog) (w := w) (base := base) T G_is_whole F5)
  have M_Plain : KOk l.prog w K mg base 3 "Plain" A.Plain "base" (Kd.ok .plain) := ⟨f6, _, _, PySem.W.mg_of X G aC_Plain, ⟨mk_Plain, a6, i6, kc_Plain⟩, b6, ok_Plain_init (P := l.prog) (w := w) (base := base) T G_bounded F6⟩
  have M_Below : KOk l.prog w K mg base 3 "Below" A.Below "base" (Kd.ok .below) := ⟨f7, _, _, PySem.W.mg_of X G aC_Below, ⟨mk_Below, a7, i7, kc_Below⟩, b7, ok_Below_init (P := l.prog) (w := w) (base := base) T G_bounded F7⟩
  have M_Balanced : KOk l.prog w K mg base 3 "Balanced" A.Balanced "half" (Kd.ok .balanced) := ⟨f8, _, _, PySem.W.mg_of X G aC_Balanced, ⟨mk_Balanced, a8, i8, kc_Balanced⟩, b8, ok_Balanced_init (P := l.prog) (w := w) (base := base) T G_bounded F8⟩
  have M_Growing : KOk l.prog w K mg base 3 "Growing" A.Growing "first" (Kd.ok .growing) := ⟨f9, _, _, PySem.W.mg_of X G aC_Growing, ⟨mk_Growing, a9, i9, kc_Growing⟩, b9, ok_Growing_init (P := l.prog) (w := w) (base := base) T G_bounded F9⟩
  have M_Falling : KOk l.prog w K mg base 3 "Falling" A.Falling "most" (Kd.ok .falling) := ⟨f10, _, _, PySem.W.mg_of X G aC_Falling, ⟨mk_Falling, a10, i10, kc_Falling⟩, b10, ok_Falling_init (P := l.prog) (w := w) (base := base) T G_bounded F10⟩
  have M_Pairs : KOk l.prog w K mg base 3 "Pairs" A.Pairs "most" (Kd.ok .pairs) := ⟨f11, _, _, PySem.W.mg_of X G aC_Pairs, ⟨mk_Pairs, a11, i11, kc_Pairs⟩, b11, ok_Pairs_init (P := l.prog) (w := w) (base := base) T G_bounded F11⟩
  have G__law_made := DOk.mk' F12 (PySem.W.mg_of X G a12) b12 (ok_law_made (P := l.prog) (w := w) (base := base) T M_Plain M_Below M_Balanced M_Growing M_Falling M_Pairs F12)
  have G_as_pair := DOk.mk' F13 (PySem.W.mg_of X G a13) b13 (ok_as_pair (P := l.prog) (w := w) (base := base) T G_is_whole F13)
  have G_added := DOk.mk' F14 (PySem.W.mg_of X G a14) b14 (ok_added (P := l.prog) (w := w) (base := base) T G_is_whole G_as_pair F14)
  have G_multiplied := DOk.mk' F15 (PySem.W.mg_of X G a15) b15 (ok_multiplied (P := l.prog) (w := w) (base := base) T G_is_whole G_as_pair F15)
  have N_Plain_nought := MOk.mk (C := A.Plain) T.cl_Plain ⟨f16, _, _, ⟨a16_Plain, i16, k16⟩, b16, ok_Way_nought (P := l.prog) (w := w) (base := base) T F16⟩
  have N_Below_nought := MOk.mk (C := A.Below) T.cl_Below ⟨f16, _, _, ⟨a16_Below, i16, k16⟩, b16, ok_Way_nought (P := l.prog) (w := w) (base := base) T F16⟩
  have N_Balanced_nought := MOk.mk (C := A.Balanced) T.cl_Balanced ⟨f16, _, _, ⟨a16_Balanced, i16, k16⟩, b16, ok_Way_nought (P := l.prog) (w := w) (base := base) T F16⟩
  have N_Growing_nought := MOk.mk (C := A.Growing) T.cl_Growing ⟨f16, _, _, ⟨a16_Growing, i16, k16⟩, b16, ok_Way_nought (P := l.prog) (w := w) (base := base) T F16⟩
  have N_Falling_nought := MOk.mk (C := A.Falling) T.cl_Falling ⟨f16, _, _, ⟨a16_Falling, i16, k16⟩, b16, ok_Way_nought (P := l.prog) (w := w) (base := base) T F16⟩
  have N_Pairs_nought := MOk.mk (C := A.Pairs) T.cl_Pairs ⟨f17, _, _, ⟨a17_Pairs, i17, k17⟩, b17, ok_Pairs_nought (P := l.prog) (w := w) (base := base) T F17⟩
  have HNo : ∀ k : Kd, MOk l.prog w K mg base 1 (A.at k) "nought" (S_no k) := fun k => match k with
    | .plain => N_Plain_nought | .below => N_Below_nought | .balanced => N_Balanced_nought | .growing => N_Growing_nought | .falling => N_Falling_nought | .pairs => N_Pairs_nought
  have N_Plain_ratio := MOk.mk (C := A.Plain) T.cl_Plain ⟨f18, _, _, ⟨a18_Plain, i18, k18⟩, b18, ok_Plain_ratio (P := l.prog) (w := w) (base := base) T F18⟩
  have N_Below_ratio := MOk.mk (C := A.Below) T.cl_Below ⟨f19, _, _, ⟨a19_Below, i19, k19⟩, b19, ok_Below_ratio (P := l.prog) (w := w) (base := base) T F19⟩
  have N_Balanced_ratio := MOk.mk (C := A.Balanced) T.cl_Balanced ⟨f20, _, _, ⟨a20_Balanced, i20, k20⟩, b20, ok_Balanced_ratio (P := l.prog) (w := w) (base := base) T F20⟩
  have N_Growing_ratio := MOk.mk (C := A.Growing) T.cl_Growing ⟨f21, _, _, ⟨a21_Growing, i21, k21⟩, b21, ok_Growing_ratio (P := l.prog) (w := w) (base := base) T F21⟩
  have N_Pairs_ratio := MOk.mk (C := A.Pairs) T.cl_Pairs ⟨f22, _, _, ⟨a22_Pairs, i22, k22⟩, b22, ok_Pairs_ratio (P := l.prog) (w := w) (base := base) T F22⟩
  have HR : ∀ k : Kd, k.five = true → MOk l.prog w K mg base 1 (A.at k) "ratio" (S_getN A k (k.ratN)) := fun k hk => match k, hk with
    | .plain, _ => N_Plain_ratio
    | .below, _ => N_Below_ratio
    | .balanced, _ => N_Balanced_ratio
    | .growing, _ => N_Growing_ratio
    | .pairs, _ => N_Pairs_ratio
  have N_Plain_weights := FMOk.mk (C := A.Plain) T.cl_Plain ⟨f23, _, _, ⟨a23_Plain, i23, k23⟩, b23, ok_Way_weights (P := l.prog) (w := w) (base := base) T G_added G_multiplied HNo HR F23⟩
  have N_Below_weights := FMOk.mk (C := A.Below) T.cl_Below ⟨f23, _, _, ⟨a23_Below, i23, k23⟩, b23, ok_Way_weights (P := l.prog) (w := w) (base := base) T G_added G_multiplied HNo HR F23⟩
  have N_Balanced_weights := FMOk.mk (C := A.Balanced) T.cl_Balanced ⟨f23, _, _, ⟨a23_Balanced, i23, k23⟩, b23, ok_Way_weights (P := l.prog) (w := w) (base := base) T G_added G_multiplied HNo HR F23⟩
  have N_Growing_weights := FMOk.mk (C := A.Growing) T.cl_Growing ⟨f23, _, _, ⟨a23_Growing, i23, k23⟩, b23, ok_Way_weights (P := l.prog) (w := w) (base := base) T G_added G_multiplied HNo HR F23⟩
  have N_Pairs_weights := FMOk.mk (C := A.Pairs) T.cl_Pairs ⟨f23, _, _, ⟨a23_Pairs, i23, k23⟩, b23, ok_Way_weights (P := l.prog) (w := w) (base := base) T G_added G_multiplied HNo HR F23⟩
  have N_Falling_weights := FMOk.mk (C := A.Falling) T.cl_Falling ⟨f24, _, _, ⟨a24_Falling, i24, k24⟩, b24, ok_Falling_weights (P := l.prog) (w := w) (base := base) T F24⟩
  have HW : ∀ k : Kd, FMOk l.prog w K mg base 4 (A.at k) "weights" (S_wsA A k) := fun k => match k with
    | .plain => (N_Plain_weights.imp fun ds Q ⟨n, m, e, a, b, c, q⟩ => ⟨.plain, n, m, e, rfl, a, b, c, q⟩).mono (by decide)
    | .below => (N_Below_weights.imp fun ds Q ⟨n, m, e, a, b, c, q⟩ => ⟨.below, n, m, e, rfl, a, b, c, q⟩).mono (by decide)
    | .balanced => (N_Balanced_weights.imp fun ds Q ⟨n, m, e, a, b, c, q⟩ => ⟨.balanced, n, m, e, rfl, a, b, c, q⟩).mono (by decide)
    | .growing => (N_Growing_weights.imp fun ds Q ⟨n, m, e, a, b, c, q⟩ => ⟨.growing, n, m, e, rfl, a, b, c, q⟩).mono (by decide)
    | .falling => N_Falling_weights.mono (by decide)
    | .pairs => (N_Pairs_weights.imp fun ds Q ⟨n, m, e, a, b, c, q⟩ => ⟨.pairs, n, m, e, rfl, a, b, c, q⟩).mono (by decide)
  have G_worth := DOk.mk' F25 (PySem.W.mg_of X G a25) b25 (ok_worth (P := l.prog) (w := w) (base := base) T G_added G_multiplied HNo HW F25)
  have G__law_whole := DOk.mk' F26 (PySem.W.mg_of X G a26) b26 (ok_law_whole (P := l.prog) (w := w) (base := base) T F26)
  have G__law_is_number := DOk.mk' F27 (PySem.W.mg_of X G a27) b27 (ok_law_is_number (P := l.prog) (w := w) (base := base) T G__law_whole F27)
  have G__law_next := DOk.mk' F28 (PySem.W.mg_of X G a28) b28 (ok_law_next (P := l.prog) (w := w) (base := base) T F28)
  have G__law_worth := DOk.mk' F29 (PySem.W.mg_of X G a29) b29 (ok_law_worth (P := l.prog) (w := w) (base := base) T G__law_next F29)
  exact ok_law (P := l.prog) (w := w) (base := base) T G__law_cell_at G__law_thing G__law_size G__law_made G_worth G__law_is_number G__law_worth F30
theorem walk {l : PySem.W.OpenLaw} {q : Program} {loose : List Str} {XP : (Str → Option Value) → Heap → Prop} {YP : World → Heap → Prop} {d : DefRec} {K : Params → PySem.W.Frag} (hn : l.most = some 63) (hdf : d.params.defaults = [])
    (hY : ∀ (w : World) (h : Heap), YP w h → (K w.params).In h)
    (F : ∀ (w : World) (mg : Str → Option Value) (fa : Addr) (h : Heap), (K w.params).In h → h.Ns mainGlobals mg → mg d.name = some (.ref fa) →
      ∃ fd : FuncData, (∀ (s : Shared) (u : Value), BindsTo s fd ⟨[u], []⟩ [("_law_script", u)]) ∧ ∀ base : Heap, (K w.params).In base → base.Ns mainGlobals mg → FnOk l.prog w (K w.params) mg base CX0 6 fa fd ["_law_script"] (PureSp (K w.params) (S_law))) :
    PySem.W.WalkO q loose XP YP l.row.toRowW d [] (fun f vs => PySem.call f vs) :=
  L2.walk_of (n := 63) (k := 6) (x := "_law_script") (CX := fun _ => CX0) (sp := fun w => PureSp (K w.params) (S_law)) hn (by decide) hdf ⟨rfl, by decide, by decide⟩ hY F (fun w H a ns hl _ hS => ⟨⟨H, H, Same.refl H⟩, [.scr ns], fun d => d = .bl true, rfl, allIs_cons.mpr ⟨_, _, rfl, is_scr.mpr ⟨a, rfl, hS⟩, allIs_nil.mpr rfl⟩, ⟨ns, rfl, hl, rfl⟩, fun d v W' _ i e => by subst e; exact is_bl.mp i⟩) fun _ _ _ _ _ z => z
end My
open PySem PySem.W PyProof.Rows
set_option maxRecDepth 100000 in
set_option maxHeartbeats 0 in
theorem PySem.Challenge.cw_oddbases_k11_worth_summed_holds : PySem.Challenge.rw_oddbases_k11_worth_summed.Holds := by
  w_on; o_law
  refine holds_open (q := My.h_view_39) (loose := []) (Xt := (fun s => xlAt My.h_view_39 [] s && recOk (RowW.records (OpenRow.toRowW PySem.Challenge.rw_oddbases_k11_worth_summed.row)) s)) (XP := XL My.h_view_39 []) (Yf := Hook.obs (kHook My.h_heap_39 My.myAs My.myE)) (Ya := Hook.val (kHook My.h_heap_39 My.myAs My.myE)) (YP := Hook.says (kHook My.h_heap_39 My.myAs My.myE)) (N := 7474) My.left (Hook.of _) (Hook.keeps _) (fun s e => xl_of s (Bool.and_eq_true_iff.mp e).1) XL.keeps (by rfl) (by rfl) (by rfl) (fun s e => recFacts_of (Bool.and_eq_true_iff.mp e).2) (by rfl) (by first | assumption | decide +kernel) (by decide +kernel) ⟨rfl, rfl, rfl, rfl, rfl, by decide +kernel⟩ ?hw ?hc
  case hw => w_witness2
  k_fill
  refine My.walk (l := PySem.Challenge.rw_oddbases_k11_worth_summed) rfl rfl (fun w h Y => PySem.W.kIn_of Y) ?F
  case F =>
    intro w mg fa h KX G hmg
    refine' My.all_mk KX G hmg ?aC_Plain ?aC_Below ?aC_Balanced ?aC_Growing ?aC_Falling ?aC_Pairs ?a1 ?l1 ?c1 ?k1 ?a2 ?l2 ?c2 ?k2 ?a3 ?l3 ?c3 ?k3 ?a4 ?l4 ?c4 ?k4 ?a5 ?l5 ?c5 ?k5 ?a6 ?i6 ?l6 ?c6 ?k6 ?a7 ?i7 ?l7 ?c7 ?k7 ?a8 ?i8 ?l8 ?c8 ?k8 ?a9 ?i9 ?l9 ?c9 ?k9 ?a10 ?i10 ?l10 ?c10 ?k10 ?a11 ?i11 ?l11 ?c11 ?k11 ?a12 ?l12 ?c12 ?k12 ?a13 ?l13 ?c13 ?k13 ?a14 ?l14 ?c14 ?k14 ?a15 ?l15 ?c15 ?k15 ?a16_Plain ?a16_Below ?a16_Balanced ?a16_Growing ?a16_Falling ?i16 ?l16 ?c16 ?k16 ?a17_Pairs ?i17 ?l17 ?c17 ?k17 ?a18_Plain ?i18 ?l18 ?c18 ?k18 ?a19_Below ?i19 ?l19 ?c19 ?k19 ?a20_Balanced ?i20 ?l20 ?c20 ?k20 ?a21_Growing ?i21 ?l21 ?c21 ?k21 ?a22_Pairs ?i22 ?l22 ?c22 ?k22 ?a23_Plain ?a23_Below ?a23_Balanced ?a23_Growing ?a23_Pairs ?i23 ?l23 ?c23 ?k23 ?a24_Falling ?i24 ?l24 ?c24 ?k24 ?a25 ?l25 ?c25 ?k25 ?a26 ?l26 ?c26 ?k26 ?a27 ?l27 ?c27 ?k27 ?a28 ?l28 ?c28 ?k28 ?a29 ?l29 ?c29 ?k29 ?a30 ?l30 ?c30 ?k30 ?pg_Plain ?hd_Plain ?po_Plain ?sa_Plain ?mk_Plain ?kc_Plain ?na_Plain ?pg_Below ?hd_Below ?po_Below ?sa_Below ?mk_Below ?kc_Below ?na_Below ?pg_Balanced ?hd_Balanced ?po_Balanced ?sa_Balanced ?mk_Balanced ?kc_Balanced ?na_Balanced ?pg_Growing ?hd_Growing ?po_Growing ?sa_Growing ?mk_Growing ?kc_Growing ?na_Growing ?pg_Falling ?hd_Falling ?po_Falling ?sa_Falling ?mk_Falling ?kc_Falling ?na_Falling ?pg_Pairs ?hd_Pairs ?po_Pairs ?sa_Pairs ?mk_Pairs ?kc_Pairs ?na_Pairs ?z_isinstance ?z_int ?z_bool ?z_tuple ?z_list ?z_len ?z_range ?z_zip
    (case aC_Plain => k_is)
    (case aC_Below => k_is)
    (case aC_Balanced => k_is)
    (case aC_Growing => k_is)
    (case aC_Falling => k_is)
    (case aC_Pairs => k_is)
    (case a1 => k_is)
    (case l1 => k_is)
    (case c1 => k_is)
    (case k1 => k_is)
    (case a2 => k_is)
    (case l2 => k_is)
    (case c2 => k_is)
    (case k2 => k_is)
    (case a3 => k_is)
    (case l3 => k_is)
    (case c3 => k_is)
    (case k3 => k_is)
    (case a4 => k_is)
    (case l4 => k_is)
    (case c4 => k_is)
    (case k4 => k_is)
    (case a5 => k_is)
    (case l5 => k_is)
    (case c5 => k_is)
    (case k5 => k_is)
    (case a6 => k_is)
    (case i6 => k_is)
    (case l6 => k_is)
    (case c6 => k_is)
    (case k6 => k_is)
    (case a7 => k_is)
    (case i7 => k_is)
    (case l7 => k_is)
    (case c7 => k_is)
    (case k7 => k_is)
    (case a8 => k_is)
    (case i8 => k_is)
    (case l8 => k_is)
    (case c8 => k_is)
    (case k8 => k_is)
    (case a9 => k_is)
    (case i9 => k_is)
    (case l9 => k_is)
    (case c9 => k_is)
    (case k9 => k_is)
    (case a10 => k_is)
    (case i10 => k_is)
    (case l10 => k_is)
    (case c10 => k_is)
    (case k10 => k_is)
    (case a11 => k_is)
    (case i11 => k_is)
    (case l11 => k_is)
    (case c11 => k_is)
    (case k11 => k_is)
    (case a12 => k_is)
    (case l12 => k_is)
    (case c12 => k_is)
    (case k12 => k_is)
    (case a13 => k_is)
    (case l13 => k_is)
    (case c13 => k_is)
    (case k13 => k_is)
    (case a14 => k_is)
    (case l14 => k_is)
    (case c14 => k_is)
    (case k14 => k_is)
    (case a15 => k_is)
    (case l15 => k_is)
    (case c15 => k_is)
    (case k15 => k_is)
    (case a16_Plain => k_is)
    (case a16_Below => k_is)
    (case a16_Balanced => k_is)
    (case a16_Growing => k_is)
    (case a16_Falling => k_is)
    (case i16 => k_is)
    (case l16 => k_is)
    (case c16 => k_is)
    (case k16 => k_is)
    (case a17_Pairs => k_is)
    (case i17 => k_is)
    (case l17 => k_is)
    (case c17 => k_is)
    (case k17 => k_is)
    (case a18_Plain => k_is)
    (case i18 => k_is)
    (case l18 => k_is)
    (case c18 => k_is)
    (case k18 => k_is)
    (case a19_Below => k_is)
    (case i19 => k_is)
    (case l19 => k_is)
    (case c19 => k_is)
    (case k19 => k_is)
    (case a20_Balanced => k_is)
    (case i20 => k_is)
    (case l20 => k_is)
    (case c20 => k_is)
    (case k20 => k_is)
    (case a21_Growing => k_is)
    (case i21 => k_is)
    (case l21 => k_is)
    (case c21 => k_is)
    (case k21 => k_is)
    (case a22_Pairs => k_is)
    (case i22 => k_is)
    (case l22 => k_is)
    (case c22 => k_is)
    (case k22 => k_is)
    (case a23_Plain => k_is)
    (case a23_Below => k_is)
    (case a23_Balanced => k_is)
    (case a23_Growing => k_is)
    (case a23_Pairs => k_is)
    (case i23 => k_is)
    (case l23 => k_is)
    (case c23 => k_is)
    (case k23 => k_is)
    (case a24_Falling => k_is)
    (case i24 => k_is)
    (case l24 => k_is)
    (case c24 => k_is)
    (case k24 => k_is)
    (case a25 => k_is)
    (case l25 => k_is)
    (case c25 => k_is)
    (case k25 => k_is)
    (case a26 => k_is)
    (case l26 => k_is)
    (case c26 => k_is)
    (case k26 => k_is)
    (case a27 => k_is)
    (case l27 => k_is)
    (case c27 => k_is)
    (case k27 => k_is)
    (case a28 => k_is)
    (case l28 => k_is)
    (case c28 => k_is)
    (case k28 => k_is)
    (case a29 => k_is)
    (case l29 => k_is)
    (case c29 => k_is)
    (case k29 => k_is)
    (case a30 => k_is)
    (case l30 => k_is)
    (case c30 => k_is)
    (case k30 => k_is)
    (case pg_Plain => k_is)
    (case hd_Plain => k_is)
    (case po_Plain => k_is)
    (case sa_Plain => k_is)
    (case mk_Plain => k_is)
    (case kc_Plain => k_is)
    (case na_Plain => k_is)
    (case pg_Below => k_is)
    (case hd_Below => k_is)
    (case po_Below => k_is)
    (case sa_Below => k_is)
    (case mk_Below => k_is)
    (case kc_Below => k_is)
    (case na_Below => k_is)
    (case pg_Balanced => k_is)
    (case hd_Balanced => k_is)
    (case po_Balanced => k_is)
    (case sa_Balanced => k_is)
    (case mk_Balanced => k_is)
    (case kc_Balanced => k_is)
    (case na_Balanced => k_is)
    (case pg_Growing => k_is)
    (case hd_Growing => k_is)
    (case po_Growing => k_is)
    (case sa_Growing => k_is)
    (case mk_Growing => k_is)
    (case kc_Growing => k_is)
    (case na_Growing => k_is)
    (case pg_Falling => k_is)
    (case hd_Falling => k_is)
    (case po_Falling => k_is)
    (case sa_Falling => k_is)
    (case mk_Falling => k_is)
    (case kc_Falling => k_is)
    (case na_Falling => k_is)
    (case pg_Pairs => k_is)
    (case hd_Pairs => k_is)
    (case po_Pairs => k_is)
    (case sa_Pairs => k_is)
    (case mk_Pairs => k_is)
    (case kc_Pairs => k_is)
    (case na_Pairs => k_is)
    (case z_isinstance => k_is)
    (case z_int => k_is)
    (case z_bool => k_is)
    (case z_tuple => k_is)
    (case z_list => k_is)
    (case z_len => k_is)
    (case z_range => k_is)
    (case z_zip => k_is)
