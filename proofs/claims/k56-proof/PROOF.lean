import PyProof.Rows.All
import Wide.All
import OpenK.AllK
import Wide.FinOn
import Lean
import PyProof.EqAt
import PyProof.EqKinds
import PyProof.TupleCall
import PyProof.NeKinds
import PySem.Challenge.RW_oddbases_k56_ways_as_texts
set_option Elab.async false
set_option linter.all false
set_option maxRecDepth 100000
namespace L2
open PySem PySem.Spec PyProof.Rows

abbrev Key := Sum Int Str
def keyIs : Key → Value → Bool
  | .inl k, v => Value.isInt k v
  | .inr x, v => Value.isStrOf x v
def keyH (w : World) : Key → Int
  | .inl k => hashInt k
  | .inr x => hashStr w x
theorem keyIs_shape : ∀ {k : Key} {v : Value}, keyIs k v = true → (∃ i t, k = Sum.inl i ∧ v = Value.int i t) ∨ (∃ x t, k = Sum.inr x ∧ v = Value.str x t)
  | .inl i, v, h => by
    obtain ⟨t, e⟩ := Value.isInt_shape (k := i) (v := v) h
    exact .inl ⟨i, t, rfl, e⟩
  | .inr x, v, h => by
    obtain ⟨t, e⟩ := Value.isStrOf_shape (x := x) (v := v) h
    exact .inr ⟨x, t, rfl, e⟩
theorem key_ll (a b : Int) : decide ((Sum.inl a : Key) = Sum.inl b) = (a == b) := by
  by_cases e : a = b
  · subst e; simp
  · have h : ¬ (Sum.inl a : Key) = Sum.inl b := fun q => e (Sum.inl.inj q)
    rw [decide_eq_false h]
    exact (beq_eq_false_iff_ne.mpr e).symm
theorem key_rr (a b : Str) : decide ((Sum.inr a : Key) = Sum.inr b) = decide (a = b) := by
  by_cases e : a = b
  · subst e; simp
  · have h : ¬ (Sum.inr a : Key) = Sum.inr b := fun q => e (Sum.inr.inj q)
    rw [decide_eq_false h, decide_eq_false e]
theorem key_lr (a : Int) (b : Str) : decide ((Sum.inl a : Key) = Sum.inr b) = false := decide_eq_false (fun q => nomatch q)
theorem key_rl (a : Str) (b : Int) : decide ((Sum.inr a : Key) = Sum.inl b) = false := decide_eq_false (fun q => nomatch q)

def mixKind (prog : Program) (w : World) : PySem.KeyKind prog w Key where
  is := keyIs
  hash := keyH w
  inj := fun v a b ha hb => by
    rcases keyIs_shape ha with ⟨i, t, rfl, rfl⟩ | ⟨x, t, rfl, rfl⟩
    · rcases keyIs_shape hb with ⟨j, u, rfl, e⟩ | ⟨y, u, rfl, e⟩
      · injection e with e1 _; rw [e1]
      · exact nomatch e
    · rcases keyIs_shape hb with ⟨j, u, rfl, e⟩ | ⟨y, u, rfl, e⟩
      · exact nomatch e
      · injection e with e1 _; rw [e1]
  byValue := fun k v h => by
    rcases keyIs_shape h with ⟨i, t, rfl, rfl⟩ | ⟨x, t, rfl, rfl⟩ <;> rfl
  pyHash := fun hv h => by
    rcases keyIs_shape hv with ⟨i, t, rfl, rfl⟩ | ⟨x, t, rfl, rfl⟩
    · exact wpAny_pyHash_int h
    · exact wpAny_pyHash_str h
  eqBool := fun hu hv h => by
    rcases keyIs_shape hu with ⟨i, t, rfl, rfl⟩ | ⟨x, t, rfl, rfl⟩
    · rcases keyIs_shape hv with ⟨j, u, rfl, rfl⟩ | ⟨y, u, rfl, rfl⟩
      · rw [key_ll] at h; exact wpAny_eqBool_int h
      · rw [key_lr] at h; exact SeqAt.EqAt.int_str i t y u _ _ _ _ h
    · rcases keyIs_shape hv with ⟨j, u, rfl, rfl⟩ | ⟨y, u, rfl, rfl⟩
      · rw [key_rl] at h; exact SeqAt.EqAt.str_int x t j u _ _ _ _ h
      · rw [key_rr] at h; exact wpAny_eqBool_str h
  «strs» := fun k x t v h => by
    rcases keyIs_shape h with ⟨i, u, rfl, e⟩ | ⟨y, u, rfl, e⟩
    · exact nomatch e
    · injection e with e1 _
      subst e1
      cases v <;> rfl

end L2

namespace L2
open PySem PySem.Spec PyProof.Rows

inductive V where
  | non | bl (b : Bool) | int (i : Int) | str (x : Str) | byt (b : Array UInt8) | flt (b : UInt64) | ref (a : Addr) | ty (n : String)
  deriving DecidableEq

def RelV : V → Value → Prop
  | .non, u => u = Value.none
  | .bl b, u => u = Value.bool b
  | .int i, u => ∃ t, u = Value.int i t
  | .str x, u => ∃ t, u = Value.str x t
  | .byt b, u => ∃ t, u = Value.bytes b t
  | .flt b, u => ∃ t, u = Value.float b t
  | .ref a, u => u = Value.ref a
  | .ty n, u => u = Value.type n

abbrev Vals : List V → List Value → Prop := Paired RelV
theorem Vals.length {xs : List V} {us : List Value} (r : Vals xs us) : xs.length = us.length := Paired.length r
theorem Vals.get : ∀ {xs : List V} {us : List Value} {i : Nat} {x : V}, Vals xs us → xs[i]? = some x → ∃ u, us[i]? = some u ∧ RelV x u
  | _, _, _, _, .nil, e => by simp at e
  | _, _, 0, _, .cons r _, e => by simp at e; subst e; exact ⟨_, rfl, r⟩
  | _, _, i + 1, x, .cons _ t, e => by
    obtain ⟨u, h1, h2⟩ := Vals.get (i := i) (x := x) t (by simpa using e)
    exact ⟨u, by simpa using h1, h2⟩
theorem Vals.set {x : V} {u : Value} (r : RelV x u) : ∀ {xs : List V} {us : List Value} (i : Nat), Vals xs us → Vals (xs.set i x) (us.set i u)
  | _, _, _, .nil => .nil
  | _, _, 0, .cons _ t => .cons r t
  | _, _, i + 1, .cons q t => .cons q (Vals.set r i t)
theorem Vals.append : ∀ {xs ys : List V} {us ws : List Value}, Vals xs us → Vals ys ws → Vals (xs ++ ys) (us ++ ws)
  | _, _, _, _, .nil, s => s
  | _, _, _, _, .cons r t, s => .cons r (Vals.append t s)
theorem Vals.take : ∀ {xs : List V} {us : List Value} (n : Nat), Vals xs us → Vals (xs.take n) (us.take n)
  | _, _, 0, _ => .nil
  | _, _, _ + 1, .nil => .nil
  | _, _, n + 1, .cons r t => .cons r (Vals.take n t)
theorem Vals.drop : ∀ {xs : List V} {us : List Value} (n : Nat), Vals xs us → Vals (xs.drop n) (us.drop n)
  | _, _, 0, r => r
  | _, _, _ + 1, .nil => .nil
  | _, _, n + 1, .cons _ t => Vals.drop n t
def RelO : Option V → Option Value → Prop
  | some v, some u => RelV v u
  | none, none => True
  | _, _ => False
def KV {κ : Type} : List (κ × V) → List (κ × Value) → Prop := Paired fun (p : κ × V) (q : κ × Value) => p.1 = q.1 ∧ RelV p.2 q.2

def kV : Key → V
  | .inl i => .int i
  | .inr x => .str x

inductive HO where
  /-- a list -/
  | lst (xs : List V)
  /-- a tuple (never changes) -/
  | tup (xs : List V)
  /-- a dict whose keys are ints and texts; one whose keys are tuples of ints and texts (the empty one is both) -/
  | dK (kvs : List (Key × V)) | dT (kvs : List (List Key × V))
  /-- a set of ints: its members, its size -/
  | set (S : Int → Bool) (n : Nat)
  /-- an instance of the class at C, its dict at dx, its attributes -/
  | ins (C dx : Addr) (fs : List (Str × V))
  /-- the dict of the instance at x -/
  | own (x : Addr)
  /-- the dict of an exception -/
  | xd (fs : List (Str × V))
  /-- a bound method, f of x -/
  | met (f x : Addr)
  /-- a range object lo, lo + 1, .. below hi -/
  | rng (lo hi : Int)
  /-- a thing that is known to the object (the script; a dict while a loop walks it): read, never written while it is so -/
  | frz (o : Obj) (u : HO)
  /-- a code object's table -/
  | tbl (ps : Array Value)
  /-- any other thing, by what is true of its one object (a def of one's own: SetO a S n := HO.ext fun h => ..) -/
  | ext (φ : Heap → Prop)

abbrev Hp := Addr → Option HO
def upd (H : Hp) (a : Addr) (o : HO) : Hp := fun b => if b = a then some o else H b
theorem upd_same {H : Hp} {a : Addr} {o : HO} : upd H a o a = some o := by unfold upd; rw [if_pos rfl]
theorem upd_ne {H : Hp} {a b : Addr} {o : HO} (h : b ≠ a) : upd H a o b = H b := by unfold upd; rw [if_neg h]
theorem ne_of_none {H : Hp} {a b : Addr} {o : HO} (h : H a = some o) (h' : H b = none) : a ≠ b := by
  intro e; subst e; rw [h] at h'; cases h'

section
variable (P : Program) (w : World)
def ObjOk (H : Hp) (h : Heap) (a : Addr) : HO → Prop
  | .lst xs => xs.length ≤ sizeLine ∧ ∃ (its : List Value) (n : Nat), Vals xs its ∧ h.get? a = some { cls := .type "list", data := .seq its.toArray n }
  | .tup xs => xs.length ≤ sizeLine ∧ ∃ its : List Value, Vals xs its ∧ IsTup h a its.toArray
  | .dK kvs => kvs.length ≤ sizeLine ∧ (a == sysModules) = false ∧ ∃ vs, KV kvs vs ∧ h.DictOf (mixKind P w) a vs
  | .dT kvs => kvs.length ≤ sizeLine ∧ (a == sysModules) = false ∧ ∃ xs : List (List Key × Addr × Value),
      Paired (fun (p : List Key × V) (q : List Key × Addr × Value) => p.1 = q.1 ∧ H q.2.1 = some (.tup (p.1.map kV)) ∧ RelV p.2 q.2.2) kvs xs ∧
      ∃ o es ep, h.get? a = some o ∧ o.ExactDict ∧ o.data = .dict es ep ∧ es.toList = xs.map (entryOfKey (tupleKind (mixKind P w))) ∧ (xs.map (·.1)).Nodup
  | .set S n => h.SetOf (intKind P w) a S n
  | .ins C dx fs => H dx = some (.own a) ∧ fs.length ≤ 1000 ∧ dx ≠ a ∧ h.get? a = some (PySem.W.instObj C dx) ∧
      ∃ mA, h.Ns1 dx mA ∧ (∀ f, RelO (fs.lookup f) (mA f)) ∧ PySem.Within mA (fs.map (·.1))
  | .own _ => ∃ o, h.get? a = some o
  | .xd fs => ∃ mA, h.Ns1 a mA ∧ ∀ f, RelO (fs.lookup f) (mA f)
  | .rng lo hi => ∃ t u v, h.get? a = some { cls := .type "range", data := .fields #[.int lo t, .int hi u, .int 1 v] }
  | .frz o u => h.get? a = some o ∧ ObjOk H h a u
  | .tbl ps => h.get? a = some { cls := .none, data := .fields ps }
  | .met f x => h.get? a = some (PySem.W.methodObj (.ref f) (.ref x))
  | .ext φ => φ h ∧ (∃ o, h.get? a = some o) ∧ ∀ h1 h2 : Heap, φ h1 → (∀ o, h1.get? a = some o → h2.get? a = some o) → φ h2
def HOk (H : Hp) (h : Heap) : Prop := ∀ a o, H a = some o → ObjOk P w H h a o
end

section
variable {P : Program} {w : World} {H H' : Hp} {h h' : Heap} {a : Addr} {o : HO}
theorem ObjOk.lt (x : ObjOk P w H h a o) : a < h.objs.size := by
  cases o with
  | lst xs => obtain ⟨_, _, _, _, e⟩ := x; exact Heap.lt_size e
  | tup xs => obtain ⟨_, _, _, p⟩ := x; exact p.lt
  | dK kvs => obtain ⟨_, _, _, _, o, _, _, e, _⟩ := x; exact Heap.lt_size e
  | dT kvs => obtain ⟨_, _, _, _, o, _, _, e, _⟩ := x; exact Heap.lt_size e
  | set S n => obtain ⟨o, _, _, _, e, _⟩ := x; exact Heap.lt_size e
  | ins C dx fs => obtain ⟨_, _, _, e, _⟩ := x; exact Heap.lt_size e
  | own y => obtain ⟨_, e⟩ := x; exact Heap.lt_size e
  | xd fs => obtain ⟨_, ⟨_, _, _, e, _⟩, _⟩ := x; exact Heap.lt_size e
  | rng lo hi => obtain ⟨_, _, _, e⟩ := x; exact Heap.lt_size e
  | frz ob u => obtain ⟨e, _⟩ := x; exact Heap.lt_size e
  | tbl ps => exact Heap.lt_size (show h.get? a = some _ from x)
  | met f y => exact Heap.lt_size (show h.get? a = some _ from x)
  | ext φ => obtain ⟨_, ⟨_, e⟩, _⟩ := x; exact Heap.lt_size e
theorem Paired.mapP {α β : Type} {F G : α → β → Prop} : ∀ {l₁ : List α} {l₂ : List β}, Paired F l₁ l₂ → (∀ a b, F a b → G a b) → Paired G l₁ l₂
  | _, _, .nil, _ => .nil
  | _, _, .cons r t, f => .cons (f _ _ r) (Paired.mapP t f)
theorem ObjOk.stay (x : ObjOk P w H h a o) (k : ∀ b u, (b = a ∨ H b = some (.own a)) → h.get? b = some u → h'.get? b = some u)
    (ho : ∀ b, H b = some (.own a) → H' b = some (.own a)) (ht : ∀ b xs, H b = some (.tup xs) → H' b = some (.tup xs)) : ObjOk P w H' h' a o := by
  induction o with
  | lst xs => obtain ⟨z, its, n, r, e⟩ := x; exact ⟨z, its, n, r, k _ _ (.inl rfl) e⟩
  | tup xs => obtain ⟨z, its, r, ob, e, c⟩ := x; exact ⟨z, its, r, ob, k _ _ (.inl rfl) e, c⟩
  | dK kvs => obtain ⟨z, y, vs, r, ob, es, ep, e, c⟩ := x; exact ⟨z, y, vs, r, ob, es, ep, k _ _ (.inl rfl) e, c⟩
  | dT kvs =>
    obtain ⟨z, y, xs, r, ob, es, ep, e, c⟩ := x
    exact ⟨z, y, xs, Paired.mapP r fun p q z => ⟨z.1, ht _ _ z.2.1, z.2.2⟩, ob, es, ep, k _ _ (.inl rfl) e, c⟩
  | set S n => obtain ⟨ob, es, ep, t, e, c⟩ := x; exact ⟨ob, es, ep, t, k _ _ (.inl rfl) e, c⟩
  | ins C dx fs =>
    obtain ⟨d, z, ne, e, mA, ⟨od, es, ep, e2, c⟩, r⟩ := x
    exact ⟨ho _ d, z, ne, k _ _ (.inl rfl) e, mA, ⟨od, es, ep, k _ _ (.inr d) e2, c⟩, r⟩
  | own y => obtain ⟨ob, e⟩ := x; exact ⟨ob, k _ _ (.inl rfl) e⟩
  | xd fs => obtain ⟨mA, ⟨od, es, ep, e, c⟩, r⟩ := x; exact ⟨mA, ⟨od, es, ep, k _ _ (.inl rfl) e, c⟩, r⟩
  | rng lo hi => obtain ⟨t, u, v, e⟩ := x; exact ⟨t, u, v, k _ _ (.inl rfl) e⟩
  | frz ob u ih => obtain ⟨e, q⟩ := x; exact ⟨k _ _ (.inl rfl) e, ih q⟩
  | tbl ps =>
    have e : h.get? a = some { cls := .none, data := .fields ps } := x
    show h'.get? a = some { cls := .none, data := .fields ps }
    exact k a _ (.inl rfl) e
  | met f y =>
    have e : h.get? a = some (PySem.W.methodObj (.ref f) (.ref y)) := x
    show h'.get? a = some (PySem.W.methodObj (.ref f) (.ref y))
    exact k a _ (.inl rfl) e
  | ext φ => obtain ⟨p, ⟨o, e⟩, st⟩ := x; exact ⟨st _ _ p fun o q => k _ _ (.inl rfl) q, ⟨o, k _ _ (.inl rfl) e⟩, st⟩
theorem HOk.lt (x : HOk P w H h) (e : H a = some o) : a < h.objs.size := (x a o e).lt
theorem HOk.fresh (x : HOk P w H h) (e : h.objs.size ≤ a) : H a = none := by
  cases q : H a with
  | none => rfl
  | some u => exact absurd (Nat.lt_of_lt_of_le (x.lt q) e) (Nat.lt_irrefl _)
theorem HOk.kept (x : HOk P w H h) (k : ∀ b u, h.get? b = some u → h'.get? b = some u) : HOk P w H h' := fun a o e =>
  (x a o e).stay (fun b u _ q => k b u q) (fun _ q => q) fun _ _ q => q
theorem HOk.laid (x : HOk P w H h) (k : ∀ b u, h.get? b = some u → h'.get? b = some u) (hp : h.objs.size ≤ a) (new : ObjOk P w (upd H a o) h' a o) : HOk P w (upd H a o) h' := fun b u e => by
  have hn := x.fresh hp
  by_cases hb : b = a
  · subst hb; rw [upd_same] at e; cases e; exact new
  · rw [upd_ne hb] at e
    exact (x b u e).stay (fun c v _ q => k c v q) (fun c q => by rw [upd_ne (ne_of_none q hn)]; exact q) fun c xs q => by rw [upd_ne (ne_of_none q hn)]; exact q
end

def Rd (H : Hp) (a : Addr) (u : HO) : Prop := H a = some u ∨ ∃ o, H a = some (.frz o u)
theorem Rd.of {H : Hp} {a : Addr} {u : HO} (h : H a = some u) : Rd H a u := .inl h
theorem Rd.ok {P : Program} {w : World} {H : Hp} {h : Heap} {a : Addr} {u : HO} (r : Rd H a u) (x : HOk P w H h) : ObjOk P w H h a u := by
  rcases r with r | ⟨o, r⟩
  · exact x a u r
  · obtain ⟨_, q⟩ := x a _ r
    exact q
def Mut : Option HO → Prop
  | some (.lst _) => True
  | some (.dK _) => True
  | some (.dT _) => True
  | some (.set _ _) => True
  | some (.ins _ _ _) => True
  | some (.ext _) => True
  | _ => False
section
variable {P : Program} {w : World} {H : Hp} {h h' : Heap} {x e : Addr} {o' : HO}
theorem HOk.write (ok : HOk P w H h) (mu : Mut (H x)) (he : e = x ∨ H e = some (.own x)) (k : ∀ b u, b ≠ e → h.get? b = some u → h'.get? b = some u) (heo : ∃ u, h'.get? e = some u)
    (new : ObjOk P w (upd H x o') h' x o') : HOk P w (upd H x o') h' := fun b u q => by
  have nown : ∀ c y, H c = some (.own y) → c ≠ x := fun c y r z => by subst z; rw [r] at mu; exact mu
  have ntup : ∀ c xs, H c = some (.tup xs) → c ≠ x := fun c xs r z => by subst z; rw [r] at mu; exact mu
  by_cases hb : b = x
  · subst hb; rw [upd_same] at q; cases q; exact new
  · rw [upd_ne hb] at q
    by_cases hbe : b = e
    · have q' : H b = some (.own x) := by
        rcases he with z | z
        · exact absurd (hbe.trans z) hb
        · rw [hbe]; exact z
      rw [q] at q'; cases q'
      obtain ⟨v, hv⟩ := heo
      exact ⟨v, by rw [hbe]; exact hv⟩
    · refine (ok b u q).stay (fun c v hc r => k c v ?_ r) (fun c r => by rw [upd_ne (nown c b r)]; exact r) fun c xs r => by rw [upd_ne (ntup c xs r)]; exact r
      rcases hc with rfl | hc
      · exact hbe
      · rintro rfl
        rcases he with z | z
        · exact nown c b hc z
        · rw [hc] at z; cases z; exact hb rfl
end

structure Un (fs ex : List Addr) (H H' : Hp) (h h' : Heap) : Prop where
  keep : ∀ b o, h.get? b = some o → H b = none → b ∉ fs → b ∉ ex → h'.get? b = some o
  slot : ∀ b o, h.get? b = some o → H b = none → b ∈ fs → b ∉ ex → ∃ sl, h'.get? b = some { o with slots := sl }
  free : ∀ b o, h.get? b = some o → H b = none → b ∉ ex → H' b = none
  there : ∀ b o, h.get? b = some o → b ∉ ex → ∃ o', h'.get? b = some o'
  tups : ∀ b xs, H b = some (.tup xs) → H' b = some (.tup xs)
  frzs : ∀ b o u, H b = some (.frz o u) → H' b = some (.frz o u)
  tbls : ∀ b ps, H b = some (.tbl ps) → ∃ more, H' b = some (.tbl (ps ++ more))
section
variable {fs fs' ex ex' : List Addr} {H H1 H2 : Hp} {h h1 h2 h' : Heap} {a x e : Addr} {o : HO}
theorem Un.any (u : Un fs ex H H1 h h1) {b : Addr} {ob : Obj} (q : h.get? b = some ob) (n : H b = none) (hx : b ∉ ex) : ∃ sl, h1.get? b = some { ob with slots := sl } := by
  by_cases hb : b ∈ fs
  · exact u.slot b ob q n hb hx
  · exact ⟨ob.slots, u.keep b ob q n hb hx⟩
theorem Un.trans (a : Un fs ex H H1 h h1) (b : Un fs ex H1 H2 h1 h2) : Un fs ex H H2 h h2 where
  keep := fun c ob q n hc hx => b.keep c ob (a.keep c ob q n hc hx) (a.free c ob q n hx) hc hx
  slot := fun c ob q n hc hx => by
    obtain ⟨sl, e1⟩ := a.slot c ob q n hc hx
    obtain ⟨sl', e2⟩ := b.slot c _ e1 (a.free c ob q n hx) hc hx
    exact ⟨sl', e2⟩
  free := fun c ob q n hx => by
    obtain ⟨o', e1⟩ := a.there c ob q hx
    exact b.free c o' e1 (a.free c ob q n hx) hx
  there := fun c ob q hx => by
    obtain ⟨o', e1⟩ := a.there c ob q hx
    exact b.there c o' e1 hx
  tups := fun c xs q => b.tups c xs (a.tups c xs q)
  frzs := fun c ob xs q => b.frzs c ob xs (a.frzs c ob xs q)
  tbls := fun c ps q => by
    obtain ⟨m1, e1⟩ := a.tbls c ps q
    obtain ⟨m2, e2⟩ := b.tbls c _ e1
    exact ⟨m1 ++ m2, by rw [e2, Array.append_assoc]⟩
theorem Un.kept (k : ∀ b u, h.get? b = some u → h'.get? b = some u) : Un fs ex H H h h' :=
  ⟨fun b ob q _ _ _ => k b ob q, fun b ob q _ _ _ => ⟨ob.slots, k b ob q⟩, fun _ _ _ n _ => n, fun b ob q _ => ⟨ob, k b ob q⟩, fun _ _ q => q, fun _ _ _ q => q, fun _ ps q => ⟨#[], by rw [q]; simp⟩⟩
theorem Un.refl : Un fs ex H H h h := Un.kept fun _ _ q => q
theorem Un.laid (k : ∀ b u, h.get? b = some u → h'.get? b = some u) (hp : h.objs.size ≤ a) (hn : H a = none) : Un fs ex H (upd H a o) h h' where
  keep := fun b u q _ _ _ => k b u q
  slot := fun b u q _ _ _ => ⟨u.slots, k b u q⟩
  free := fun b u q n _ => by rw [upd_ne (Nat.ne_of_lt (Nat.lt_of_lt_of_le (Heap.lt_size q) hp))]; exact n
  there := fun b u q _ => ⟨u, k b u q⟩
  tups := fun b xs q => by rw [upd_ne (ne_of_none q hn)]; exact q
  frzs := fun b u xs q => by rw [upd_ne (ne_of_none q hn)]; exact q
  tbls := fun b ps q => ⟨#[], by rw [upd_ne (ne_of_none q hn), q]; simp⟩
theorem Un.write (mu : Mut (H x)) (he : e = x ∨ H e = some (.own x)) (k : ∀ b u, b ≠ e → h.get? b = some u → h'.get? b = some u) (heo : ∃ u, h'.get? e = some u) : Un fs ex H (upd H x o) h h' := by
  have hx : ∀ b, H b = none → b ≠ x := fun b n z => by subst z; rw [n] at mu; exact mu
  have hb : ∀ b, H b = none → b ≠ e := fun b n z => by
    subst z
    rcases he with r | r
    · exact hx b n r
    · rw [n] at r; cases r
  have hm : ∀ b u, H b = some u → ¬ Mut (some u) → b ≠ x := fun b u q nm z => by subst z; rw [q] at mu; exact nm mu
  refine ⟨fun b u q n _ _ => k b u (hb b n) q, fun b u q n _ _ => ⟨u.slots, k b u (hb b n) q⟩, fun b u q n _ => by rw [upd_ne (hx b n)]; exact n, fun b u q _ => ?_,
    fun b xs q => by rw [upd_ne (hm b _ q fun z => z)]; exact q, fun b u xs q => by rw [upd_ne (hm b _ q fun z => z)]; exact q, fun b ps q => ⟨#[], by rw [upd_ne (hm b _ q fun z => z), q]; simp⟩⟩
  by_cases hbe : b = e
  · subst hbe; exact heo
  · exact ⟨u, k b u hbe q⟩
theorem Un.mono (u : Un fs ex H H1 h h1) (hs : ∀ b ∈ fs, b ∈ fs') (hx : ∀ b ∈ ex, b ∈ ex') : Un fs' ex' H H1 h h1 :=
  ⟨fun b ob q n hb he => u.keep b ob q n (fun z => hb (hs b z)) fun z => he (hx b z), fun _ _ q n _ he => u.any q n fun z => he (hx _ z), fun b ob q n he => u.free b ob q n fun z => he (hx b z), fun b ob q he => u.there b ob q fun z => he (hx b z), u.tups, u.frzs, u.tbls⟩
end

def trk (h : Heap) (H : Hp) : List Addr := (List.range h.objs.size).filter fun a => (H a).isSome
def hidT (h : Heap) (H : Hp) : Heap := PySem.W.hideAll h (trk h H)
theorem hidT_size (h : Heap) (H : Hp) : (hidT h H).objs.size = h.objs.size := PySem.W.hideAll_size _ _
theorem hidT_get {h : Heap} {H : Hp} {b : Addr} {o : Obj} (e : h.get? b = some o) (n : H b = none) : (hidT h H).get? b = some o :=
  PySem.W.hideAll_get _ e fun hm => by
    have q : (H b).isSome = true := (List.mem_filter.mp hm).2
    rw [n] at q; simp at q
theorem of_hidT {h : Heap} {H : Hp} {b : Addr} {o : Obj} (e : (hidT h H).get? b = some o) : h.get? b = some o ∧ H b = none := by
  have e' : h.get? b = some o := PySem.W.of_hideAll (trk h H) e
  refine ⟨e', ?_⟩
  cases q : H b with
  | none => rfl
  | some x =>
    have hm : b ∈ trk h H := List.mem_filter.mpr ⟨List.mem_range.mpr (Heap.lt_size e'), by simp [q]⟩
    have z : (hidT h H).get? b = none := PySem.W.hideAll_none (trk h H) hm
    rw [z] at e; cases e

def allNews (g h : Heap) (L : Addr) : List (Addr × Obj) := (List.range h.objs.size).filterMap fun a => if a = L ∨ (g.get? a).isSome = true then none else (h.get? a).map fun o => (a, o)
def rest (g h : Heap) (L d : Addr) : List (Addr × Obj) := (allNews g h L).filter fun p => decide (p.1 ≠ d)
end L2

namespace L2
open PySem PySem.Spec PyProof.Rows

structure Mod (K : PySem.W.Frag) (mg : Str → Option Value) (base : Heap) : Prop where
  kin : K.In base
  glob : base.Ns mainGlobals mg
  blt : ∃ mb, base.Ns builtinsNs mb ∧ ∀ x : Str, x ≠ "__name__" → mb x = bootBuiltins x
  nolimit : base.NoLimit

structure Cx where
  prog : Program
  w : World
  K : PySem.W.Frag
  mg : Str → Option Value
  base : Heap
  A : Around
  N : List Str
  s₀ : Shared
  H₀ : Hp
  env : Env
  outer : List Env
  stack : List Env
  ex : List Addr
  fn : Str → Bool
  calm : Bool
  pn : List (Addr × Obj)
  xe : Value → Shared → Prop
def frs (l : List Env) : List Addr := l.filterMap (·.frame)
abbrev Cx.fs (X : Cx) : List Addr := frs X.outer

def Vis (sc : Scope) (x : Str) : Prop := sc.names.lookup x = some .local ∨ sc.names.lookup x = some .cell ∨ sc.names.lookup x = some .free
def Loc (sc : Scope) (x : Str) : Prop := sc.names.lookup x = some .local ∨ sc.names.lookup x = some .cell
def Look (env : Env) (h : Heap) (m : Str → Option Value) (x : Str) (u : Value) : Prop :=
  (env.kindOf x = some .local ∧ m x = some u) ∨ ((env.kindOf x = some .cell ∨ env.kindOf x = some .free) ∧ ∃ c, env.cells.lookup x = some c ∧ h.IsCell c (some u))

structure Cx.Ok (X : Cx) : Prop where
  mod : Mod X.K X.mg X.base
  kind : X.env.scope.kind = .function
  glob : X.env.globals = mainGlobals
  blt : X.env.builtins = builtinsNs
  above : X.s₀.heap.objs.size ≤ X.env.locals
  inj : ∀ x y c, X.env.cells.lookup x = some c → X.env.cells.lookup y = some c → x = y
  has : ∀ x, (X.env.kindOf x = some .cell ∨ X.env.kindOf x = some .free) → ∃ c, X.env.cells.lookup x = some c
  cab : ∀ x c, X.fn x = true → X.env.cells.lookup x = some c → X.s₀.heap.objs.size ≤ c
  hd : X.calm = true → X.A.handled = none
  frames : X.A.frames = some X.stack
  stk : X.stack = X.outer ∨ (X.stack = X.env :: X.outer ∧ X.env.frame = some X.env.locals)
  exf : ∀ b ∈ X.ex, b ≠ X.env.locals ∧ ∀ x c, X.env.cells.lookup x = some c → c ≠ b
  bs : ∀ b o, X.base.get? b = some o → X.s₀.heap.get? b = some o ∧ X.H₀ b = none
  bsz : X.base.objs.size ≤ X.s₀.heap.objs.size
  noex : ∀ b o, X.base.get? b = some o → b ∉ X.ex
  exfs : ∀ b ∈ X.ex, b ∉ X.fs
  funs : X.s₀.heap.FunFrames X.base X.outer
  frf : ∀ b ∈ X.fs, X.H₀ b = none

structure Inv (X : Cx) (pins : List (Addr × Obj)) (σ : List (Option V)) (H : Hp) (s : Shared) : Prop where
  ok : X.Ok
  os : s.os = X.s₀.os
  bare : AllBare s.gens
  base : Un X.fs X.ex X.H₀ H X.s₀.heap s.heap
  loc : ∃ m, s.heap.Ns X.env.locals m ∧ ∀ (i : Nat) (x : Str) (v : V), X.N[i]? = some x → σ[i]? = some (some v) → Vis X.env.scope x → ∃ u, RelV v u ∧ Look X.env s.heap m x u
  cell : ∀ x c, X.env.cells.lookup x = some c → ∃ v, s.heap.IsCell c v
  free : H X.env.locals = none
  freeC : ∀ x c, X.env.cells.lookup x = some c → H c = none
  pin : ∀ p ∈ X.pn ++ pins, s.heap.get? p.1 = some p.2 ∧ H p.1 = none ∧ p.1 ≠ X.env.locals ∧ p.1 ∉ X.fs ∧ ∀ v, p.2.data ≠ .cell v
  hok : HOk X.prog X.w H s.heap
  len : σ.length = X.N.length

section
variable {X : Cx} {pins : List (Addr × Obj)} {σ : List (Option V)} {H H' : Hp} {s : Shared} {h' : Heap}

theorem Cx.Ok.nofr (ok : X.Ok) {b : Addr} {o : Obj} (e : X.base.get? b = some o) : b ∉ X.fs := fun hb => by
  have := (ok.funs.mem hb).1
  rw [e] at this; cases this
theorem Inv.bs (I : Inv X pins σ H s) : ∀ b o, X.base.get? b = some o → s.heap.get? b = some o ∧ H b = none := fun b o e =>
  ⟨I.base.keep b o (I.ok.bs b o e).1 (I.ok.bs b o e).2 (I.ok.nofr e) (I.ok.noex b o e), I.base.free b o (I.ok.bs b o e).1 (I.ok.bs b o e).2 (I.ok.noex b o e)⟩
theorem Inv.bk (I : Inv X pins σ H s) : ∀ b o, X.base.get? b = some o → s.heap.get? b = some o := fun b o e => (I.bs b o e).1
theorem Inv.mod (I : Inv X pins σ H s) : Mod X.K X.mg X.base := I.ok.mod
theorem Inv.kIn (I : Inv X pins σ H s) : X.K.In s.heap := I.ok.mod.kin.keeps I.bk
theorem Inv.nolimit (I : Inv X pins σ H s) : s.heap.NoLimit := I.ok.mod.nolimit.keeps I.bk
theorem Inv.fr (I : Inv X pins σ H s) : ∃ m, Fr X.base X.env.locals s.heap m :=
  let ⟨m, hn, _⟩ := I.loc
  ⟨m, hn, I.bk, Nat.le_trans I.ok.bsz I.ok.above⟩
theorem Inv.lt (I : Inv X pins σ H s) : X.env.locals < s.heap.objs.size := let ⟨_, hn, _⟩ := I.loc; hn.lt
theorem Inv.sz (I : Inv X pins σ H s) : X.s₀.heap.objs.size ≤ s.heap.objs.size := Nat.le_trans I.ok.above (Nat.le_of_lt I.lt)
theorem Inv.nofs (I : Inv X pins σ H s) {a : Addr} (h : s.heap.objs.size ≤ a) : a ∉ X.fs := fun hb => by
  obtain ⟨_, o, ho, _⟩ := I.ok.funs.mem hb
  exact absurd (Nat.lt_of_lt_of_le (Heap.lt_size ho) (Nat.le_trans I.sz h)) (Nat.lt_irrefl _)
theorem Inv.cne (I : Inv X pins σ H s) : ∀ x c, X.env.cells.lookup x = some c → c ≠ X.env.locals := fun x c e z => by
  obtain ⟨v, o, ho, hd⟩ := I.cell x c e
  obtain ⟨m, ⟨o', es, ep, ho', hd', _⟩, _⟩ := I.loc
  rw [z, ho'] at ho; cases ho; rw [hd'] at hd; cases hd
theorem Inv.funs (I : Inv X pins σ H s) : s.heap.FunFrames X.base X.outer := by
  have all : ∀ (l : List Env), (∀ b ∈ frs l, b ∈ X.fs) → X.s₀.heap.FunFrames X.base l → s.heap.FunFrames X.base l := by
    intro l
    induction l with
    | nil => intro _ _; trivial
    | cons env r ih =>
      intro hs hl
      obtain ⟨hk, ⟨L, o, hf, hn, ho, hd⟩, hr⟩ := hl
      have hL : L ∈ X.fs := hs L (by unfold frs; rw [List.filterMap_cons, hf]; exact List.mem_cons_self)
      obtain ⟨sl, e⟩ := I.base.slot L o ho (I.ok.frf L hL) hL fun z => I.ok.exfs L z hL
      exact ⟨hk, ⟨L, _, hf, hn, e, hd⟩, ih (fun b hb => hs b (by unfold frs; rw [List.filterMap_cons, hf]; exact List.mem_cons_of_mem _ hb)) hr⟩
  exact all X.outer (fun _ hb => hb) I.ok.funs

theorem Inv.stack (I : Inv X pins σ H s) : s.heap.FunFrames X.base X.stack := by
  rcases I.ok.stk with e | ⟨e, hf⟩
  · rw [e]; exact I.funs
  · rw [e]
    obtain ⟨m, hn, _⟩ := I.loc
    refine .cons (by rw [I.ok.kind]; decide) hf hn ?_ I.funs
    exact Heap.get?_none_of_le (Nat.le_trans I.ok.bsz I.ok.above)
theorem Inv.stkSub (I : Inv X pins σ H s) : ∀ b ∈ frs X.stack, b ∈ X.env.locals :: X.fs := fun b hb => by
  rcases I.ok.stk with e | ⟨e, hf⟩
  · rw [e] at hb; exact List.mem_cons_of_mem _ hb
  · rw [e] at hb
    unfold frs at hb
    rw [List.filterMap_cons, hf] at hb
    exact hb
theorem Inv.stkFree (I : Inv X pins σ H s) : ∀ b ∈ frs X.stack, H b = none := fun b hb => by
  rcases List.mem_cons.mp (I.stkSub b hb) with e | hb
  · rw [e]; exact I.free
  · obtain ⟨_, o, ho, _⟩ := I.ok.funs.mem hb
    exact I.base.free b o ho (I.ok.frf b hb) fun z => I.ok.exfs b z hb

theorem Inv.step {g' : Array GenState} {t' : Nat} {d' : Drawn} {ch : List Addr} (I : Inv X pins σ H s)
    (hch : ∀ b ∈ ch, (b ∈ X.ex ∨ X.s₀.heap.objs.size ≤ b) ∧ b ≠ X.env.locals ∧ (∀ x c, X.env.cells.lookup x = some c → c ≠ b) ∧ ∀ p ∈ X.pn ++ pins, p.1 ≠ b)
    (keep : ∀ b o, b ≠ X.env.locals → b ∉ X.fs → b ∉ ch → s.heap.get? b = some o → H b = none → h'.get? b = some o)
    (slot : ∀ b o, b ≠ X.env.locals → b ∈ X.fs → b ∉ ch → s.heap.get? b = some o → H b = none → ∃ sl, h'.get? b = some { o with slots := sl }) (free : ∀ b o, b ∉ ch → s.heap.get? b = some o → H b = none → H' b = none)
    (there : ∀ b o, b ∉ ch → s.heap.get? b = some o → ∃ o', h'.get? b = some o')
    (tups : ∀ b xs, H b = some (.tup xs) → H' b = some (.tup xs)) (frzs : ∀ b o u, H b = some (.frz o u) → H' b = some (.frz o u)) (tbls : ∀ b ps, H b = some (.tbl ps) → ∃ more, H' b = some (.tbl (ps ++ more)))
    (ns : ∀ m, s.heap.Ns X.env.locals m → h'.Ns X.env.locals m) (hok : HOk X.prog X.w H' h') (hg : AllBare g') :
    Inv X pins σ H' { s with heap := h', gens := g', drawn := d', toks := t' } := by
  have neL : ∀ b o, X.s₀.heap.get? b = some o → b ≠ X.env.locals := fun b o e => Nat.ne_of_lt (Nat.lt_of_lt_of_le (Heap.lt_size e) I.ok.above)
  have neC : ∀ b o, X.s₀.heap.get? b = some o → b ∉ X.ex → b ∉ ch := fun b o e hx hb => by
    rcases (hch b hb).1 with z | z
    · exact hx z
    · exact absurd (Nat.lt_of_lt_of_le (Heap.lt_size e) z) (Nat.lt_irrefl _)
  have cellK : ∀ x c, X.env.cells.lookup x = some c → ∀ v, s.heap.IsCell c v → h'.IsCell c v := fun x c e v ⟨o, ho, hd⟩ => by
    have nch : c ∉ ch := fun z => (hch c z).2.2.1 x c e rfl
    by_cases hc : c ∈ X.fs
    · obtain ⟨sl, q⟩ := slot c o (I.cne x c e) hc nch ho (I.freeC x c e)
      exact ⟨_, q, hd⟩
    · exact ⟨o, keep c o (I.cne x c e) hc nch ho (I.freeC x c e), hd⟩
  refine ⟨I.ok, I.os, hg, ⟨fun b o e n hb hx => ?_, fun b o e n hb hx => ?_, fun b o e n hx => ?_, fun b o e hx => ?_, fun b xs e => tups b xs (I.base.tups b xs e), fun b o xs e => frzs b o xs (I.base.frzs b o xs e), fun b ps e => ?_⟩, ?_, fun x c e => ?_, ?_, fun x c e => ?_, fun p hp => ?_, hok, I.len⟩
  · exact keep b o (neL b o e) hb (neC b o e hx) (I.base.keep b o e n hb hx) (I.base.free b o e n hx)
  · obtain ⟨sl, e1⟩ := I.base.slot b o e n hb hx
    obtain ⟨sl', e2⟩ := slot b _ (neL b o e) hb (neC b o e hx) e1 (I.base.free b o e n hx)
    exact ⟨sl', e2⟩
  · obtain ⟨o', e1⟩ := I.base.there b o e hx
    exact free b o' (neC b o e hx) e1 (I.base.free b o e n hx)
  · obtain ⟨o', e1⟩ := I.base.there b o e hx
    exact there b o' (neC b o e hx) e1
  · obtain ⟨m1, e1⟩ := I.base.tbls b ps e
    obtain ⟨m2, e2⟩ := tbls b _ e1
    exact ⟨m1 ++ m2, by rw [e2, Array.append_assoc]⟩
  · obtain ⟨m, hn, hl⟩ := I.loc
    refine ⟨m, ns m hn, fun i x v e1 e2 e3 => ?_⟩
    obtain ⟨u, r, l⟩ := hl i x v e1 e2 e3
    refine ⟨u, r, ?_⟩
    rcases l with l | ⟨k, c, e, z⟩
    · exact .inl l
    · exact .inr ⟨k, c, e, cellK x c e _ z⟩
  · obtain ⟨v, z⟩ := I.cell x c e
    exact ⟨v, cellK x c e v z⟩
  · obtain ⟨m, ⟨o, _, _, ho, _⟩, _⟩ := I.loc
    exact free _ o (fun z => (hch _ z).2.1 rfl) ho I.free
  · obtain ⟨v, o, ho, hd⟩ := I.cell x c e
    exact free c o (fun z => (hch c z).2.2.1 x c e rfl) ho (I.freeC x c e)
  · obtain ⟨e, n, ne, nf, d⟩ := I.pin p hp
    have nch : p.1 ∉ ch := fun z => (hch p.1 z).2.2.2 p hp rfl
    exact ⟨keep p.1 p.2 ne nf nch e n, free p.1 p.2 nch e n, ne, nf, d⟩
theorem Inv.un {t' : Nat} (I : Inv X pins σ H s) (u : Un X.fs [] H H' s.heap h') (hok : HOk X.prog X.w H' h') : Inv X pins σ H' { s with heap := h', toks := t' } := by
  obtain ⟨m, ⟨o, es, ep, ho, r⟩, _⟩ := id I.loc
  obtain ⟨sl, hL⟩ := u.any ho I.free (by simp)
  exact I.step (g' := s.gens) (d' := s.drawn) (ch := []) (fun _ z => nomatch z) (fun b o _ hb _ e n => u.keep b o e n hb (by simp)) (fun b o _ hb _ e n => u.slot b o e n hb (by simp)) (fun b o _ e n => u.free b o e n (by simp)) (fun b o _ e => u.there b o e (by simp)) u.tups u.frzs u.tbls (fun m' hm => by
    obtain ⟨o', es', ep', ho', r'⟩ := hm
    rw [ho] at ho'; cases ho'
    exact ⟨_, es', ep', hL, r'⟩) hok I.bare
theorem Inv.call {g' : Array GenState} {t' : Nat} {d' : Drawn} {ch : List Addr} (I : Inv X pins σ H s) (u : Un (frs X.stack) ch H H' s.heap h') (hok : HOk X.prog X.w H' h') (hg : AllBare g')
    (hch : ∀ b ∈ ch, (b ∈ X.ex ∨ X.s₀.heap.objs.size ≤ b) ∧ b ≠ X.env.locals ∧ (∀ x c, X.env.cells.lookup x = some c → c ≠ b) ∧ ∀ p ∈ X.pn ++ pins, p.1 ≠ b) :
    Inv X pins σ H' { s with heap := h', gens := g', drawn := d', toks := t' } := by
  obtain ⟨m, ⟨o, es, ep, ho, r⟩, _⟩ := id I.loc
  obtain ⟨sl, hL⟩ := u.any ho I.free fun z => (hch _ z).2.1 rfl
  exact I.step (ch := ch) hch (fun b o hL hb hc e n => u.keep b o e n (fun z => (List.mem_cons.mp (I.stkSub b z)).elim hL hb) hc) (fun b o _ _ hc e n => u.any e n hc) (fun b o hc e n => u.free b o e n hc) (fun b o hc e => u.there b o e hc) u.tups u.frzs u.tbls (fun m' hm => by
    obtain ⟨o', es', ep', ho', r'⟩ := hm
    rw [ho] at ho'; cases ho'
    exact ⟨_, es', ep', hL, r'⟩) hok hg
theorem Inv.turned {t' : Nat} {it : Addr} (I : Inv X pins σ H s) (k : ∀ b o, b ≠ it → s.heap.get? b = some o → h'.get? b = some o) (hn : H it = none) (hL : it ≠ X.env.locals)
    (h1 : it ∈ X.ex ∨ X.s₀.heap.objs.size ≤ it) (h2 : ∀ x c, X.env.cells.lookup x = some c → c ≠ it) (h3 : ∀ p ∈ X.pn ++ pins, p.1 ≠ it) : Inv X pins σ H { s with heap := h', toks := t' } := by
  have nit : ∀ b u, H b = some u → b ≠ it := fun b u e z => by rw [z, hn] at e; cases e
  refine I.step (g' := s.gens) (d' := s.drawn) (ch := [it]) (fun b hb => ?_) (fun b o _ _ hc e _ => k b o (fun z => hc (by simp [z])) e) (fun b o _ _ hc e _ => ⟨o.slots, k b o (fun z => hc (by simp [z])) e⟩) (fun _ _ _ _ n => n)
    (fun b o hc e => ⟨o, k b o (fun z => hc (by simp [z])) e⟩) (fun _ _ e => e) (fun _ _ _ e => e) (fun b ps e => ⟨#[], by rw [e]; simp⟩) (fun m hm => ?_) (fun b u e => ?_) I.bare
  · have e : b = it := by simpa using hb
    subst e
    exact ⟨h1, hL, h2, h3⟩
  · obtain ⟨o, es, ep, ho, r⟩ := hm
    exact ⟨o, es, ep, k _ o (Ne.symm hL) ho, r⟩
  · refine (I.hok b u e).stay (fun c v hc q => k c v ?_ q) (fun _ q => q) fun _ _ q => q
    rcases hc with z | z
    · rw [z]; exact nit b u e
    · exact nit c _ z
theorem Inv.tok (I : Inv X pins σ H s) (t : Nat) : Inv X pins σ H { s with toks := t } := I.un (h' := s.heap) (t' := t) Un.refl I.hok
theorem Inv.kept {t' : Nat} (I : Inv X pins σ H s) (k : ∀ b u, s.heap.get? b = some u → h'.get? b = some u) : Inv X pins σ H { s with heap := h', toks := t' } := I.un (Un.kept k) (I.hok.kept k)
theorem Inv.laid {a : Addr} {o : HO} {t' : Nat} (I : Inv X pins σ H s) (k : ∀ b u, s.heap.get? b = some u → h'.get? b = some u) (hp : s.heap.objs.size ≤ a) (new : ObjOk X.prog X.w (upd H a o) h' a o) :
    Inv X pins σ (upd H a o) { s with heap := h', toks := t' } := I.un (Un.laid k hp (I.hok.fresh hp)) (I.hok.laid k hp new)
theorem Inv.write {x e : Addr} {o : HO} {t' : Nat} (I : Inv X pins σ H s) (mu : Mut (H x)) (he : e = x ∨ H e = some (.own x)) (k : ∀ b u, b ≠ e → s.heap.get? b = some u → h'.get? b = some u) (heo : ∃ u, h'.get? e = some u)
    (new : ObjOk X.prog X.w (upd H x o) h' x o) : Inv X pins σ (upd H x o) { s with heap := h', toks := t' } := I.un (Un.write mu he k heo) (I.hok.write mu he k heo new)
theorem Inv.weak {σ' : List (Option V)} (I : Inv X pins σ H s) (hl : σ'.length = σ.length) (w : ∀ (i : Nat) v, σ'[i]? = some (some v) → σ[i]? = some (some v)) : Inv X pins σ' H s :=
  ⟨I.ok, I.os, I.bare, I.base, let ⟨m, hn, hl'⟩ := I.loc; ⟨m, hn, fun i x v e1 e2 e3 => hl' i x v e1 (w i v e2) e3⟩, I.cell, I.free, I.freeC, I.pin, I.hok, hl.trans I.len⟩
theorem Inv.pins_of {pins' : List (Addr × Obj)} (I : Inv X pins σ H s) (h : ∀ p ∈ pins', s.heap.get? p.1 = some p.2 ∧ H p.1 = none ∧ p.1 ≠ X.env.locals ∧ p.1 ∉ X.fs ∧ ∀ v, p.2.data ≠ .cell v) : Inv X pins' σ H s :=
  ⟨I.ok, I.os, I.bare, I.base, I.loc, I.cell, I.free, I.freeC, fun p hp => (List.mem_append.mp hp).elim (fun z => I.pin p (List.mem_append_left _ z)) (h p), I.hok, I.len⟩

theorem nodup_ix {N : List Str} (hN : N.Nodup) {i j : Nat} {x : Str} (a : N[i]? = some x) (b : N[j]? = some x) : i = j := by
  obtain ⟨h1, e1⟩ := List.getElem?_eq_some_iff.mp a
  obtain ⟨h2, e2⟩ := List.getElem?_eq_some_iff.mp b
  exact (List.getElem_inj hN).mp (e1.trans e2.symm)

theorem store_ok2 {M : Model} {A : Around} {E : Value → Shared → Prop} {i : Nat} {x : Str} {v : V} {u : Value} {Q : Unit → Shared → Prop} (I : Inv X pins σ H s) (hN : X.N.Nodup) (hi : X.N[i]? = some x) (hx : Loc X.env.scope x) (r : RelV v u)
    (h : ∀ s', Inv X pins (σ.set i (some v)) H s' → (∃ a, Heap.SameBut a s.heap s'.heap ∧ (a = X.env.locals ∨ X.env.cells.lookup x = some a)) → Q () s') (hf : X.fn x = true ∨ X.env.scope.names.lookup x = some .local := by first | exact .inl rfl | exact .inr rfl | assumption) : wpAny M A (storeName X.env x u) Q E s := by
  obtain ⟨m, hn, hl⟩ := id I.loc
  have hcls : (X.env.scope.kind == .class || (X.env.scope.kind == .module && X.env.locals != X.env.globals)) = false := by rw [I.ok.kind]; rfl
  have hiσ : i < σ.length := by rw [I.len]; exact (List.getElem?_eq_some_iff.mp hi).1
  have cne := I.cne
  have tracked : ∀ {a : Addr} {h' : Heap}, (∃ o, s.heap.get? a = some o ∧ H a = none) → Heap.SameBut a s.heap h' → HOk X.prog X.w H h' := fun {a h'} ha hs b ob e => by
    obtain ⟨_, _, hfree⟩ := ha
    refine (I.hok b ob e).stay (fun c w' hc q => (hs.2 c ?_).trans q) (fun _ q => q) fun _ _ q => q
    rintro rfl
    rcases hc with rfl | hc
    · rw [hfree] at e; cases e
    · rw [hfree] at hc; cases hc
  rcases hx with hk | hk
  · refine wpAny_storeName_local hk hn (fun h' hn' hs => ?_) hcls
    obtain ⟨oL, _, _, hoL, _⟩ := id hn
    refine h _ ⟨I.ok, I.os, I.bare, ⟨fun b o e n hb hx => ?_, fun b o e n hb hx => ?_, I.base.free, fun b o e hx => ?_, I.base.tups, I.base.frzs, I.base.tbls⟩, ⟨_, hn', fun j y v' e1 e2 e3 => ?_⟩, fun y c e => ?_, I.free, I.freeC, fun p hp => ?_, tracked ⟨oL, hoL, I.free⟩ hs, by simpa using I.len⟩ ⟨_, hs, .inl rfl⟩
    · exact (hs.2 b (Nat.ne_of_lt (Nat.lt_of_lt_of_le (Heap.lt_size e) I.ok.above))).trans (I.base.keep b o e n hb hx)
    · obtain ⟨sl, e1⟩ := I.base.slot b o e n hb hx
      exact ⟨sl, (hs.2 b (Nat.ne_of_lt (Nat.lt_of_lt_of_le (Heap.lt_size e) I.ok.above))).trans e1⟩
    · obtain ⟨o', e1⟩ := I.base.there b o e hx
      exact ⟨o', (hs.2 b (Nat.ne_of_lt (Nat.lt_of_lt_of_le (Heap.lt_size e) I.ok.above))).trans e1⟩
    · by_cases hj : j = i
      · subst hj
        rw [hi] at e1; cases e1
        rw [List.getElem?_set_self hiσ] at e2
        cases e2
        exact ⟨u, r, .inl ⟨hk, by simp⟩⟩
      · rw [List.getElem?_set_ne (Ne.symm hj)] at e2
        obtain ⟨u', r', q⟩ := hl j y v' e1 e2 e3
        refine ⟨u', r', ?_⟩
        rcases q with ⟨k, e⟩ | ⟨k, c, e, z⟩
        · refine .inl ⟨k, ?_⟩
          have : y ≠ x := fun e => hj (nodup_ix hN e1 (e ▸ hi))
          simp [this, e]
        · exact .inr ⟨k, c, e, z.sameBut hs (cne y c e)⟩
    · obtain ⟨w', z⟩ := I.cell y c e
      exact ⟨w', z.sameBut hs (cne y c e)⟩
    · obtain ⟨e, n, ne, nf, d⟩ := I.pin p hp
      exact ⟨(hs.2 p.1 ne).trans e, n, ne, nf, d⟩
  · have hfn : X.fn x = true := by
      rcases hf with z | z
      · exact z
      · rw [z] at hk; cases hk
    obtain ⟨c, hc⟩ := I.ok.has x (.inl hk)
    obtain ⟨w', z⟩ := I.cell x c hc
    refine wpAny_storeName_cell I.ok.kind hk hc z (fun h' hc' hs => ?_)
    obtain ⟨oc, hoc, hocd⟩ := id z
    refine h { s with heap := h' } ⟨I.ok, I.os, I.bare, ⟨fun b o e n hb hx => ?_, fun b o e n hb hx => ?_, I.base.free, fun b o e hx => ?_, I.base.tups, I.base.frzs, I.base.tbls⟩, ⟨m, hn.sameBut hs (Ne.symm (cne x c hc)), fun j y v' e1 e2 e3 => ?_⟩, fun y c' e => ?_, I.free, I.freeC, fun p hp => ?_, tracked ⟨oc, hoc, I.freeC x c hc⟩ hs, by simpa using I.len⟩ ⟨c, hs, .inr hc⟩
    · exact (hs.2 b (Nat.ne_of_lt (Nat.lt_of_lt_of_le (Heap.lt_size e) (I.ok.cab x c hfn hc)))).trans (I.base.keep b o e n hb hx)
    · obtain ⟨sl, e1⟩ := I.base.slot b o e n hb hx
      exact ⟨sl, (hs.2 b (Nat.ne_of_lt (Nat.lt_of_lt_of_le (Heap.lt_size e) (I.ok.cab x c hfn hc)))).trans e1⟩
    · obtain ⟨o', e1⟩ := I.base.there b o e hx
      exact ⟨o', (hs.2 b (Nat.ne_of_lt (Nat.lt_of_lt_of_le (Heap.lt_size e) (I.ok.cab x c hfn hc)))).trans e1⟩
    · by_cases hj : j = i
      · subst hj
        rw [hi] at e1; cases e1
        rw [List.getElem?_set_self hiσ] at e2
        cases e2
        exact ⟨u, r, .inr ⟨.inl hk, c, hc, hc'⟩⟩
      · rw [List.getElem?_set_ne (Ne.symm hj)] at e2
        obtain ⟨u', r', q⟩ := hl j y v' e1 e2 e3
        refine ⟨u', r', ?_⟩
        rcases q with q | ⟨k, c', e, z'⟩
        · exact .inl q
        · refine .inr ⟨k, c', e, z'.sameBut hs ?_⟩
          rintro rfl
          exact hj (nodup_ix hN e1 (I.ok.inj _ _ _ e hc ▸ hi))
    · by_cases hcc : c' = c
      · subst hcc; exact ⟨_, hc'⟩
      · obtain ⟨w2, z2⟩ := I.cell y c' e
        exact ⟨w2, z2.sameBut hs hcc⟩
    · obtain ⟨e, n, ne, nf, d⟩ := I.pin p hp
      refine ⟨(hs.2 p.1 ?_).trans e, n, ne, nf, d⟩
      intro q
      rw [q, hoc] at e
      have q' : oc = p.2 := Option.some.inj e
      exact d w' (by rw [← q']; exact hocd)
theorem store_ok {M : Model} {A : Around} {E : Value → Shared → Prop} {i : Nat} {x : Str} {v : V} {u : Value} {Q : Unit → Shared → Prop} (I : Inv X pins σ H s) (hN : X.N.Nodup) (hi : X.N[i]? = some x) (hx : Loc X.env.scope x) (r : RelV v u)
    (h : ∀ s', Inv X pins (σ.set i (some v)) H s' → Q () s') (hf : X.fn x = true ∨ X.env.scope.names.lookup x = some .local := by first | exact .inl rfl | exact .inr rfl | assumption) : wpAny M A (storeName X.env x u) Q E s :=
  store_ok2 I hN hi hx r (fun s' I' _ => h s' I') hf
theorem Inv.call' {s' : Shared} {ch : List Addr} (I : Inv X pins σ H s) (ho : s'.os = s.os) (u : Un (frs X.stack) ch H H' s.heap s'.heap) (hok : HOk X.prog X.w H' s'.heap) (hg : AllBare s'.gens)
    (hch : ∀ b ∈ ch, (b ∈ X.ex ∨ X.s₀.heap.objs.size ≤ b) ∧ b ≠ X.env.locals ∧ (∀ x c, X.env.cells.lookup x = some c → c ≠ b) ∧ ∀ p ∈ X.pn ++ pins, p.1 ≠ b) : Inv X pins σ H' s' := by
  obtain ⟨h', g', d', t', o'⟩ := s'
  have e : o' = s.os := ho
  subst e
  exact I.call (g' := g') (t' := t') (d' := d') u hok hg hch
end

abbrev XK := Value → Option Addr → Hp → Prop
abbrev St := List (Option V)
abbrev VK := V → Hp → Prop
abbrev TE := St → Hp → VK → Prop
abbrev TT := St → Hp → (Bool → Hp → Prop) → Prop
abbrev TA := St → Hp → (List V → Hp → Prop) → Prop
structure Ends where
  nx : St → Hp → Prop
  rt : VK
  bk : St → Hp → Prop := fun _ _ => False
  ct : St → Hp → Prop := fun _ _ => False
abbrev TS := Ends → St → Hp → Prop

def EP (X : Cx) (pins : List (Addr × Obj)) (σ : St) (Q : VK) (u : Value) (s' : Shared) : Prop := ∃ v H', Inv X pins σ H' s' ∧ RelV v u ∧ Q v H'
def TP (X : Cx) (pins : List (Addr × Obj)) (σ : St) (Q : Bool → Hp → Prop) (b : Bool) (s' : Shared) : Prop := ∃ H', Inv X pins σ H' s' ∧ Q b H'
def AP (X : Cx) (pins : List (Addr × Obj)) (σ : St) (Q : List V → Hp → Prop) (us : List Value) (s' : Shared) : Prop := ∃ vs H', Inv X pins σ H' s' ∧ Vals vs us ∧ Q vs H'
def SP (X : Cx) (pins : List (Addr × Obj)) (D : Ends) (f : Flow) (s' : Shared) : Prop :=
  match f with
  | .next => ∃ σ' H', Inv X pins σ' H' s' ∧ D.nx σ' H'
  | .brk => ∃ σ' H', Inv X pins σ' H' s' ∧ D.bk σ' H'
  | .cont => ∃ σ' H', Inv X pins σ' H' s' ∧ D.ct σ' H'
  | .ret u => ∃ v σ' H', Inv X pins σ' H' s' ∧ RelV v u ∧ D.rt v H'

def PE (X : Cx) (e : Expr) (t : TE) : Prop :=
  ∀ (pins : List (Addr × Obj)) (s : Shared) (σ : St) (H : Hp) (Q : VK), Inv X pins σ H s → t σ H Q → wpAny (model X.prog X.w) X.A (eval e X.env) (EP X pins σ Q) X.xe s
def PT (X : Cx) (e : Expr) (t : TT) : Prop :=
  ∀ (pins : List (Addr × Obj)) (s : Shared) (σ : St) (H : Hp) (Q : Bool → Hp → Prop), Inv X pins σ H s → t σ H Q → wpAny (model X.prog X.w) X.A (isTrue e X.env (eval e X.env)) (TP X pins σ Q) X.xe s
def PW (X : Cx) (e : Expr) (t : TT) : Prop :=
  ∀ (whole : Sem Value) (pins : List (Addr × Obj)) (s : Shared) (σ : St) (H : Hp) (Q : Bool → Hp → Prop), Inv X pins σ H s → t σ H Q → wpAny (model X.prog X.w) X.A (isTrue e X.env whole) (TP X pins σ Q) X.xe s
theorem PW.pt {X : Cx} {e : Expr} {t : TT} (h : PW X e t) : PT X e t := h _
def PA (X : Cx) (es : List Expr) (t : TA) : Prop :=
  ∀ (pos : Pos) (pins : List (Addr × Obj)) (s : Shared) (σ : St) (H : Hp) (Q : List V → Hp → Prop), Inv X pins σ H s → t σ H Q → wpAny (model X.prog X.w) X.A (spliced (backTo pos (starEach es X.env))) (AP X pins σ Q) X.xe s
def PS (X : Cx) (st : Stmt) (t : TS) : Prop :=
  ∀ (pins : List (Addr × Obj)) (s : Shared) (σ : St) (H : Hp) (D : Ends), Inv X pins σ H s → t D σ H → wpAny (model X.prog X.w) X.A (exec st X.env) (SP X pins D) X.xe s
def PSs (X : Cx) (st : List Stmt) (t : TS) : Prop :=
  ∀ (pins : List (Addr × Obj)) (s : Shared) (σ : St) (H : Hp) (D : Ends), Inv X pins σ H s → t D σ H → wpAny (model X.prog X.w) X.A (execs st X.env) (SP X pins D) X.xe s
theorem thn {α : Type} {t : Sem α} {Q Q' : α → Shared → Prop} {M : Model} {A : Around} {E : Value → Shared → Prop} {s : Shared} (h : wpAny M A t Q E s) (hQ : ∀ a s, Q a s → Q' a s) : wpAny M A t Q' E s := wpAny_mono h hQ fun _ _ x => x
end L2

namespace L2
open PySem PySem.Spec PyProof.Rows
section
variable {X : Cx}

theorem bin {a b : Expr} {ta tb : TE} (ha : PE X a ta) (hb : PE X b tb) {pins : List (Addr × Obj)} {s : Shared} {σ : St} {H : Hp} {R : V → V → Hp → Prop} (I : Inv X pins σ H s) (h : ta σ H fun x H1 => tb σ H1 fun y H2 => R x y H2)
    {α : Type} {Q : α → Shared → Prop} {f : Value → Value → Sem α}
    (hf : ∀ v u s2 x y H2, Inv X pins σ H2 s2 → RelV x v → RelV y u → R x y H2 → wpAny (model X.prog X.w) X.A (f v u) Q X.xe s2) :
    wpAny (model X.prog X.w) X.A (eval a X.env) (fun v s₁ => wpAny (model X.prog X.w) X.A (eval b X.env) (fun u s₂ => wpAny (model X.prog X.w) X.A (f v u) Q X.xe s₂) X.xe s₁) X.xe s := by
  refine thn (ha pins s σ H _ I h) fun v s1 ⟨x, H1, I1, r1, q1⟩ => ?_
  refine thn (hb pins s1 σ H1 _ I1 q1) fun u s2 ⟨y, H2, I2, r2, q2⟩ => ?_
  exact hf v u s2 x y H2 I2 r1 r2 q2

def tVar (i : Nat) : TE := fun σ H Q => ∃ v, σ[i]? = some (some v) ∧ Q v H
def tC (v : V) : TE := fun _ H Q => Q v H
theorem pe_var {i : Nat} {x : Str} {pos : Pos} (hN : X.N[i]? = some x) (hv : Vis X.env.scope x) (hd : (x == ("__debug__" : Str)) = false := by decide) (hcd : (x == ("__classdict__" : Str)) = false := by decide) : PE X (.Name x pos) (tVar i) := by
  intro pins s σ H Q I h
  obtain ⟨v, e, h⟩ := h
  obtain ⟨m, hn, hl⟩ := I.loc
  obtain ⟨u, r, l⟩ := hl i x v hN e hv
  have fin : EP X pins σ Q u s := ⟨v, H, I, r, h⟩
  rcases l with ⟨hk, hm⟩ | ⟨hk, c, hc, hcell⟩
  · exact wpAny_Name (wpAny_loadName_local I.ok.kind hk hn hm fin) hd
  · rcases hk with hk | hk
    · exact wpAny_Name (wpAny_loadName_cell I.ok.kind hk hc hcell fin) hd
    · exact wpAny_Name (wpAny_loadName_free I.ok.kind hk hc hcell fin hcd) hd
theorem pe_int {i j pos} : PE X (.Constant (.int i) j pos) (tC (.int i)) := fun _ _ _ H _ I h => wpAny_Constant_int ⟨.int i, H, I.tok _, ⟨_, rfl⟩, h⟩
theorem pe_bl {b j pos} : PE X (.Constant (.bool b) j pos) (tC (.bl b)) := fun _ _ _ H _ I h => Constant_bool ⟨.bl b, H, I, rfl, h⟩
theorem pe_str {x j pos} : PE X (.Constant (.str x) j pos) (tC (.str x)) := fun _ _ _ H _ I h => Calls.Constant_str ⟨.str x, H, I.tok _, ⟨_, rfl⟩, h⟩

def Gl (X : Cx) (x : Str) : Prop := X.env.kindOf x = some .globalImplicit
theorem ld_glob {E : Value → Shared → Prop} {pins : List (Addr × Obj)} {s : Shared} {σ : St} {H : Hp} {x : Str} {u : Value} {pos : Pos} {Q : Value → Shared → Prop} (I : Inv X pins σ H s) (hg : Gl X x) (hm : X.mg x = some u) (h : Q u s)
    (hd : (x == ("__debug__" : Str)) = false := by decide) : wpAny (model X.prog X.w) X.A (eval (.Name x pos) X.env) Q E s :=
  Calls.Name_function_global I.ok.kind hg (Calls.loadGlobal_global (by rw [I.ok.glob]; exact I.mod.glob.keeps I.bk) hm h) hd
theorem ld_blt {E : Value → Shared → Prop} {pins : List (Addr × Obj)} {s : Shared} {σ : St} {H : Hp} {x : Str} {u : Value} {pos : Pos} {Q : Value → Shared → Prop} (I : Inv X pins σ H s) (hg : Gl X x) (hm : X.mg x = none) (hv : bootBuiltins x = some u) (h : Q u s)
    (hn : x ≠ "__name__" := by decide) (hd : (x == ("__debug__" : Str)) = false := by decide) : wpAny (model X.prog X.w) X.A (eval (.Name x pos) X.env) Q E s := by
  obtain ⟨mb, h1, h2⟩ := I.mod.blt
  exact Calls.Name_function_global I.ok.kind hg (Calls.loadGlobal_builtin (by rw [I.ok.glob]; exact I.mod.glob.keeps I.bk) hm (by rw [I.ok.blt]; exact h1.keeps I.bk) ((h2 x hn).trans hv) h) hd
theorem pe_glob {x : Str} {v : V} {u : Value} {pos : Pos} (hg : Gl X x) (hm : X.mg x = some u) (r : RelV v u) (hd : (x == ("__debug__" : Str)) = false := by decide) : PE X (.Name x pos) (tC v) :=
  fun _ _ _ H _ I h => ld_glob I hg hm ⟨v, H, I, r, h⟩ hd
theorem pe_bltn {x : Str} {v : V} {u : Value} {pos : Pos} (hg : Gl X x) (hm : X.mg x = none) (hv : bootBuiltins x = some u) (r : RelV v u) (hn : x ≠ "__name__" := by decide) (hd : (x == ("__debug__" : Str)) = false := by decide) : PE X (.Name x pos) (tC v) :=
  fun _ _ _ H _ I h => ld_blt I hg hm hv ⟨v, H, I, r, h⟩ hn hd

variable {a b : Expr} {ta tb : TE} {pos : Pos}
def PC (X : Cx) (op : CmpOp) (a b : Expr) (t : TE) : Prop :=
  ∀ (pins : List (Addr × Obj)) (s : Shared) (σ : St) (H : Hp) (Q : VK), Inv X pins σ H s → t σ H Q →
    wpAny (model X.prog X.w) X.A (eval a X.env) (fun v s₁ => wpAny (model X.prog X.w) X.A (eval b X.env) (fun u s₂ => wpAny (model X.prog X.w) X.A (compareOp op v u) (EP X pins σ Q) X.xe s₂) X.xe s₁) X.xe s
theorem nobehind (b : Expr) {op : CmpOp} (h : op ≠ .In) (h2 : op ≠ .NotIn) : behindInMarks op b = false := by
  have e1 : (op == CmpOp.In) = false := by cases op <;> first | rfl | exact absurd rfl h
  have e2 : (op == CmpOp.NotIn) = false := by cases op <;> first | rfl | exact absurd rfl h2
  cases b <;> simp [behindInMarks, e1, e2]
def tB (t : TE) : TT := fun σ H Q => t σ H fun x H1 => ∃ c, x = .bl c ∧ Q c H1
theorem pt_cmp {op : CmpOp} {t : TE} (h : PC X op a b t) (h1 : behindInMarks op b = false := by first | exact nobehind _ (by decide) (by decide) | rfl) : PT X (.Compare a [op] [b] pos) (tB t) := by
  intro pins s σ H Q I hw
  refine wpAny_isTrue_Compare1 (thn (h pins s σ H _ I hw) fun v s1 h1 => thn h1 fun u s2 h2 => thn h2 fun c s3 ⟨x, H1, I1, r1, q1⟩ => ?_) h1
  obtain ⟨d, rfl, q⟩ := q1
  cases r1
  exact wpAny_truthy_bool ⟨H1, I1, q⟩
theorem pt_val {e : Expr} {t : TE} (h : PE X e t) (he : ∀ whole, isTrue e X.env whole = (do let v ← whole; standAt e.pos; holding [v] (truthy v)) := by intro _; rfl) : PT X e (tB t) := by
  intro pins s σ H Q I hw
  refine isTrue_plain (thn (h pins s σ H _ I hw) fun v s1 ⟨x, H1, I1, r1, q1⟩ => ?_) (he _)
  obtain ⟨d, rfl, q⟩ := q1
  cases r1
  exact wpAny_truthy_bool ⟨H1, I1, q⟩

variable {tA tB' : TT} {rest : List Expr}
def tAnd (t u : TT) : TT := fun σ H Q => t σ H fun c H1 => if c = true then u σ H1 Q else Q false H1
def tOr (t u : TT) : TT := fun σ H Q => t σ H fun c H1 => if c = true then Q true H1 else u σ H1 Q
def tNot (t : TT) : TT := fun σ H Q => t σ H fun c H1 => Q (!c) H1
theorem pw_and1 (ha : PT X a tA) : PW X (.BoolOp .And [a] pos) tA := by
  intro wh pins s σ H Q I h
  refine isTrue_and (thn (ha pins s σ H Q I h) fun c s1 e => ?_)
  cases c with
  | true => exact isTrue_and_nil e
  | false => exact e
theorem pw_or1 (ha : PT X a tA) : PW X (.BoolOp .Or [a] pos) tA := by
  intro wh pins s σ H Q I h
  refine isTrue_or (thn (ha pins s σ H Q I h) fun c s1 e => ?_)
  cases c with
  | false => exact isTrue_or_nil e
  | true => exact e
theorem pw_and (ha : PT X a tA) (hb : PW X (.BoolOp .And (b :: rest) pos) tB') : PW X (.BoolOp .And (a :: b :: rest) pos) (tAnd tA tB') := by
  intro wh pins s σ H Q I h
  refine isTrue_and (thn (ha pins s σ H _ I h) fun c s1 ⟨H1, I1, q1⟩ => ?_)
  cases c with
  | true => exact hb wh pins s1 σ H1 Q I1 q1
  | false => exact ⟨H1, I1, q1⟩
theorem pw_or (ha : PT X a tA) (hb : PW X (.BoolOp .Or (b :: rest) pos) tB') : PW X (.BoolOp .Or (a :: b :: rest) pos) (tOr tA tB') := by
  intro wh pins s σ H Q I h
  refine isTrue_or (thn (ha pins s σ H _ I h) fun c s1 ⟨H1, I1, q1⟩ => ?_)
  cases c with
  | true => exact ⟨H1, I1, q1⟩
  | false => exact hb wh pins s1 σ H1 Q I1 q1
theorem pt_not (ha : PT X a tA) : PT X (.UnaryOp .Not a pos) (tNot tA) := by
  intro pins s σ H Q I h
  exact isTrue_not (ha pins s σ H (fun c H1 => Q (!c) H1) I h)
def tAndV (ta tb : TE) : TE := fun σ H Q => ta σ H fun x H1 => ∃ c, x = .bl c ∧ if c = true then tb σ H1 Q else Q (.bl false) H1
def tNotV (ta : TE) : TE := fun σ H Q => ta σ H fun x H1 => ∃ c, x = .bl c ∧ Q (.bl (!c)) H1
theorem pe_one {op} {t : TE} (h : PE X a t) : PE X (.BoolOp op [a] pos) t := fun pins s σ H Q I hw => BoolOp_one (h pins s σ H Q I hw)
theorem pe_and (ha : PE X a ta) (hb : PE X (.BoolOp .And (b :: rest) pos) tb) : PE X (.BoolOp .And (a :: b :: rest) pos) (tAndV ta tb) := by
  intro pins s σ H Q I h
  refine BoolOp_and (thn (ha pins s σ H _ I h) fun v s1 ⟨x, H1, I1, r1, q1⟩ => ?_)
  obtain ⟨c, rfl, q1⟩ := q1
  cases r1
  refine wpAny_truthy_bool ?_
  cases c with
  | true => exact hb pins s1 σ H1 Q I1 q1
  | false => exact ⟨.bl false, H1, I1, rfl, q1⟩
theorem pe_not (ha : PE X a ta) : PE X (.UnaryOp .Not a pos) (tNotV ta) := by
  intro pins s σ H Q I h
  refine UnaryOp_ (thn (ha pins s σ H _ I h) fun v s1 ⟨x, H1, I1, r1, q1⟩ => ?_)
  obtain ⟨c, rfl, q1⟩ := q1
  cases r1
  exact not_of (wpAny_truthy_bool ⟨.bl (!c), H1, I1, rfl, q1⟩)
def tIf (t : TT) (ta tb : TE) : TE := fun σ H Q => t σ H fun c H1 => if c = true then ta σ H1 Q else tb σ H1 Q
theorem pe_ifExp {c : Expr} (hc : PT X c tA) (ha : PE X a ta) (hb : PE X b tb) : PE X (.IfExp c a b pos) (tIf tA ta tb) := by
  intro pins s σ H Q I h
  refine wpAny_IfExp (thn (hc pins s σ H _ I h) fun d s1 ⟨H1, I1, q1⟩ => ?_)
  cases d with
  | true => exact ha pins s1 σ H1 Q I1 q1
  | false => exact hb pins s1 σ H1 Q I1 q1
end
end L2

namespace L2
open PySem PySem.Spec PyProof.Rows

def SqL (K : PySem.W.Frag) (H : Hp) (a : Addr) (xs : List V) : Prop :=
  Rd H a (.lst xs) ∨
    ∃ (o : Obj) (its : Array Value) (n : Nat), K.lookup a = some o ∧ o.cls = .type "list" ∧ o.dict = none ∧ o.data = .seq its n ∧ its.size ≤ sizeLine ∧ Vals xs its.toList
def SqT (K : PySem.W.Frag) (H : Hp) (a : Addr) (xs : List V) : Prop :=
  Rd H a (.tup xs) ∨
    ∃ (o : Obj) (its : Array Value) (n : Nat), K.lookup a = some o ∧ o.cls = .type "tuple" ∧ o.data = .seq its n ∧ its.size ≤ sizeLine ∧ Vals xs its.toList
def absV : Value → Option V
  | .none => some .non
  | .bool b => some (.bl b)
  | .int i _ => some (.int i)
  | .str x _ => some (.str x)
  | .bytes b _ => some (.byt b)
  | .float b _ => some (.flt b)
  | .ref a => some (.ref a)
  | .type n => some (.ty n)
  | _ => none
theorem RelV.abs {x : V} {u : Value} (r : RelV x u) : absV u = some x := by
  cases x with
  | non => cases r; rfl
  | bl _ => cases r; rfl
  | int _ => obtain ⟨t, rfl⟩ := r; rfl
  | str _ => obtain ⟨t, rfl⟩ := r; rfl
  | byt _ => obtain ⟨t, rfl⟩ := r; rfl
  | flt _ => obtain ⟨t, rfl⟩ := r; rfl
  | ref _ => cases r; rfl
  | ty _ => cases r; rfl
theorem RelV.inj {x y : V} {u : Value} (r : RelV x u) (q : RelV y u) : x = y := Option.some.inj (r.abs.symm.trans q.abs)
theorem Vals.inj : ∀ {xs ys : List V} {us : List Value}, Vals xs us → Vals ys us → xs = ys
  | _, _, _, .nil, .nil => rfl
  | _, _, _, .cons r t, .cons r' t' => by rw [r.inj r', Vals.inj t t']
section
variable {X : Cx} {pins : List (Addr × Obj)} {σ : St} {H : Hp} {s : Shared} {a : Addr} {xs ys : List V}
theorem SqL.of {K : PySem.W.Frag} (h : H a = some (.lst xs)) : SqL K H a xs := .inl (.inl h)
theorem SqT.of {K : PySem.W.Frag} (h : H a = some (.tup xs)) : SqT K H a xs := .inl (.inl h)
theorem Inv.list (I : Inv X pins σ H s) (h : SqL X.K H a xs) : ∃ its : List Value, Vals xs its ∧ PlainL s.heap a its.toArray ∧ xs.length ≤ sizeLine := by
  rcases h with h | ⟨o, its, n, hk, hc, hd, hs, hz, r⟩
  · obtain ⟨z, its, n, r, e⟩ := h.ok I.hok
    exact ⟨its, r, ⟨_, n, e, rfl, rfl, rfl⟩, z⟩
  · refine ⟨its.toList, r, ⟨o, n, I.kIn a o hk, hc, hd, by simpa using hs⟩, ?_⟩
    have e := r.length
    simp only [Array.length_toList] at e
    omega
theorem Inv.tuple (I : Inv X pins σ H s) (h : SqT X.K H a xs) : ∃ its : List Value, Vals xs its ∧ IsTup s.heap a its.toArray ∧ xs.length ≤ sizeLine := by
  rcases h with h | ⟨o, its, n, hk, hc, hs, hz, r⟩
  · obtain ⟨z, its, r, p⟩ := h.ok I.hok
    exact ⟨its, r, p, z⟩
  · refine ⟨its.toList, r, ⟨o, I.kIn a o hk, hc, n, by simpa using hs⟩, ?_⟩
    have e := r.length
    simp only [Array.length_toList] at e
    omega
theorem Inv.list_inj (I : Inv X pins σ H s) (h : SqL X.K H a xs) (h' : SqL X.K H a ys) : xs = ys := by
  obtain ⟨its, r, ⟨o, n, e, _, _, d⟩, _⟩ := I.list h
  obtain ⟨its', r', ⟨o', n', e', _, _, d'⟩, _⟩ := I.list h'
  rw [e] at e'; cases e'
  rw [d] at d'
  injection d' with d1 _
  have : its = its' := by simpa using congrArg Array.toList d1
  subst this
  exact r.inj r'
end

abbrev Cx.wish (X : Cx) (E : Value → Shared → Prop) : Cx := { X with xe := E }
abbrev Cx.nox (X : Cx) : Cx := X.wish fun _ _ => False
theorem Cx.Ok.wish {X : Cx} (ok : X.Ok) (E : Value → Shared → Prop) : (X.wish E).Ok :=
  ⟨ok.mod, ok.kind, ok.glob, ok.blt, ok.above, ok.inj, ok.has, ok.cab, ok.hd, ok.frames, ok.stk, ok.exf, ok.bs, ok.bsz, ok.noex, ok.exfs, ok.funs, ok.frf⟩
theorem Cx.Ok.unwish {X : Cx} {E : Value → Shared → Prop} (ok : (X.wish E).Ok) : X.Ok :=
  ⟨ok.mod, ok.kind, ok.glob, ok.blt, ok.above, ok.inj, ok.has, ok.cab, ok.hd, ok.frames, ok.stk, ok.exf, ok.bs, ok.bsz, ok.noex, ok.exfs, ok.funs, ok.frf⟩
section
variable {X : Cx} {pins : List (Addr × Obj)} {σ : St} {H : Hp} {s : Shared} {E : Value → Shared → Prop}
theorem Inv.wish (I : Inv X pins σ H s) (E : Value → Shared → Prop) : Inv (X.wish E) pins σ H s := ⟨I.ok.wish E, I.os, I.bare, I.base, I.loc, I.cell, I.free, I.freeC, I.pin, I.hok, I.len⟩
theorem Inv.unwish (I : Inv (X.wish E) pins σ H s) : Inv X pins σ H s := ⟨I.ok.unwish, I.os, I.bare, I.base, I.loc, I.cell, I.free, I.freeC, I.pin, I.hok, I.len⟩
theorem SP.unwish {D : Ends} {f : Flow} {s' : Shared} (h : SP (X.wish E) pins D f s') : SP X pins D f s' := by
  cases f with
  | next => obtain ⟨σ', H', I, q⟩ := h; exact ⟨σ', H', I.unwish, q⟩
  | brk => obtain ⟨σ', H', I, q⟩ := h; exact ⟨σ', H', I.unwish, q⟩
  | cont => obtain ⟨σ', H', I, q⟩ := h; exact ⟨σ', H', I.unwish, q⟩
  | ret u => obtain ⟨v, σ', H', I, r, q⟩ := h; exact ⟨v, σ', H', I.unwish, r, q⟩
theorem PE.nox {e : Expr} {t : TE} (h : PE X.nox e t) : PE X e t := fun pins s σ H Q I hw =>
  wpAny_mono (h pins s σ H Q (I.wish _) hw) (fun _ _ ⟨v, H', I', r, q⟩ => ⟨v, H', I'.unwish, r, q⟩) fun _ _ z => False.elim z
theorem PT.nox {e : Expr} {t : TT} (h : PT X.nox e t) : PT X e t := fun pins s σ H Q I hw =>
  wpAny_mono (h pins s σ H Q (I.wish _) hw) (fun _ _ ⟨H', I', q⟩ => ⟨H', I'.unwish, q⟩) fun _ _ z => False.elim z
theorem PSs.nox {st : List Stmt} {t : TS} (h : PSs X.nox st t) : PSs X st t := fun pins s σ H D I hw =>
  wpAny_mono (h pins s σ H D (I.wish _) hw) (fun _ _ q => q.unwish) fun _ _ z => False.elim z
end

section
variable {X : Cx} {st : Stmt} {rest : List Stmt} {t u : TS} {e : Expr} {te : TE} {pos : Pos}
def tNext : TS := fun D σ H => D.nx σ H
def tSeq (t u : TS) : TS := fun D σ H => t { D with nx := u D } σ H
theorem pss_nil : PSs X [] tNext := fun _ _ σ H _ I h => wpAny_execs_nil ⟨σ, H, I, h⟩
theorem pss_cons (h1 : PS X st t) (h2 : PSs X rest u) : PSs X (st :: rest) (tSeq t u) := by
  intro pins s σ H D I h
  refine wpAny_execs_cons (thn (h1 pins s σ H { D with nx := u D } I h) fun f s1 q => ?_)
  cases f with
  | next =>
    obtain ⟨σ', H', I', q⟩ := q
    exact h2 pins s1 σ' H' D I' q
  | ret v => exact q
  | brk => exact q
  | cont => exact q
theorem pss_one (h1 : PS X st t) : PSs X [st] t := by
  intro pins s σ H D I h
  refine wpAny_execs_cons (thn (h1 pins s σ H D I h) fun f s1 q => ?_)
  cases f with
  | next => exact wpAny_execs_nil q
  | ret v => exact q
  | brk => exact q
  | cont => exact q
theorem Inv.quiet {pins : List (Addr × Obj)} {σ : St} {H : Hp} {s : Shared} (I : Inv X pins σ H s) : interactive X.env = false := by simp [interactive, I.ok.kind]
def tDrop (te : TE) : TS := fun D σ H => te σ H fun _ H1 => D.nx σ H1
theorem ps_expr (he : PE X e te) (hs : swapsWith e none pos.line X.env = pure false := by rfl) : PS X (.Expr e pos) (tDrop te) := by
  intro pins s σ H D I h
  exact wpAny_Expr_any (thn (he pins s σ H _ I h) fun v s1 ⟨x, H1, I1, r1, q1⟩ => ⟨σ, H1, I1, q1⟩) I.quiet hs
def tRet (te : TE) : TS := fun D σ H => te σ H D.rt
theorem ps_ret (he : PE X e te) : PS X (.Return (some e) pos) (tRet te) := by
  intro pins s σ H D I h
  exact wpAny_Return_some (thn (he pins s σ H _ I h) fun v s1 ⟨x, H1, I1, r1, q1⟩ => ⟨x, σ, H1, I1, r1, q1⟩)
def tIfS (c : TT) (t u : TS) : TS := fun D σ H => c σ H fun b H1 => if b = true then t D σ H1 else u D σ H1
theorem ps_if {c : Expr} {a b : List Stmt} {tc : TT} (hc : PT X c tc) (ha : PSs X a t) (hb : PSs X b u) : PS X (.If c a b pos) (tIfS tc t u) := by
  intro pins s σ H D I h
  refine wpAny_If (thn (hc pins s σ H _ I h) fun d s1 ⟨H1, I1, q1⟩ => ?_)
  cases d with
  | true => exact ha pins s1 σ H1 D I1 q1
  | false => exact hb pins s1 σ H1 D I1 q1
def tNever : TS := fun _ _ _ => False
theorem ps_never : PS X st tNever := fun _ _ _ _ _ _ h => h.elim
end

abbrev TG := V → St → Hp → (St → Hp → Prop) → Prop
abbrev TGs := List V → St → Hp → (St → Hp → Prop) → Prop
def PG (X : Cx) (target : Expr) (t : TG) : Prop :=
  ∀ (pins : List (Addr × Obj)) (s : Shared) (σ : St) (H : Hp) (v : V) (u : Value) (Q : St → Hp → Prop), Inv X pins σ H s → RelV v u → t v σ H Q →
    wpAny (model X.prog X.w) X.A (assign target X.env u) (fun _ s' => ∃ σ' H', Inv X pins σ' H' s' ∧ Q σ' H') X.xe s
def PGs (X : Cx) (ts : List Expr) (t : TGs) : Prop :=
  ∀ (pins : List (Addr × Obj)) (s : Shared) (σ : St) (H : Hp) (vs : List V) (us : List Value) (Q : St → Hp → Prop), Inv X pins σ H s → Vals vs us → t vs σ H Q →
    wpAny (model X.prog X.w) X.A (assignInOrder ((assignEach ts X.env).map (·.2)) us) (fun _ s' => ∃ σ' H', Inv X pins σ' H' s' ∧ Q σ' H') X.xe s
section
variable {X : Cx} {pos : Pos}
def gName (i : Nat) : TG := fun v σ H Q => Q (σ.set i (some v)) H
theorem pg_name {i : Nat} {x : Str} (hN : X.N.Nodup) (hi : X.N[i]? = some x) (hx : Loc X.env.scope x) (hf : X.fn x = true ∨ X.env.scope.names.lookup x = some .local := by first | exact .inl rfl | exact .inr rfl | assumption) : PG X (.Name x pos) (gName i) := by
  intro pins s σ H v u Q I r h
  exact wpAny_assign_Name (store_ok I hN hi hx r (fun s' I' => ⟨_, H, I', h⟩) hf)
def gNil : TGs := fun vs σ H Q => vs = [] ∧ Q σ H
def gCons (t : TG) (u : TGs) : TGs := fun vs σ H Q => ∃ v r, vs = v :: r ∧ t v σ H fun σ' H' => u r σ' H' Q
theorem pgs_nil : PGs X [] gNil := by
  intro pins s σ H vs us Q I r h
  obtain ⟨e, h⟩ := h
  subst e
  cases r
  exact assignInOrder_nil ⟨σ, H, I, h⟩
theorem pgs_cons {e : Expr} {es : List Expr} {t : TG} {u : TGs} (h1 : PG X e t) (h2 : PGs X es u)
    (hs : (assignEach (e :: es) X.env).map (·.2) = assign e X.env :: (assignEach es X.env).map (·.2) := by rfl) : PGs X (e :: es) (gCons t u) := by
  intro pins s σ H vs us Q I r h
  obtain ⟨v, vr, e1, h⟩ := h
  subst e1
  cases r with
  | cons r rr =>
    rw [hs]
    refine assignInOrder_cons (thn (h1 pins s σ H _ _ _ I r h) fun _ s1 ⟨σ1, H1, I1, q1⟩ => ?_)
    exact h2 pins s1 σ1 H1 _ _ Q I1 rr q1
def gTup (K : PySem.W.Frag) (n : Nat) (t : TGs) : TG := fun v σ H Q => ∃ a xs, v = .ref a ∧ SqT K H a xs ∧ xs.length = n ∧ t xs σ H Q
theorem pg_tup {es : List Expr} {k : Nat} {t : TGs} {n : Nat} (hc : X.calm = true) (h : PGs X es t)
    (hn : (assignEach es X.env).length = n := by rfl) (hst : (assignEach es X.env).findIdx? (·.1) = none := by rfl) : PG X (.Tuple es k pos) (gTup X.K n t) := by
  intro pins s σ H v u Q I r hw
  obtain ⟨a, xs, e1, hq, hl, hw⟩ := hw
  subst e1
  cases r
  obtain ⟨its, rv, ht, hz⟩ := I.tuple hq
  refine assign_Tuple_tuple (I.ok.hd hc) ht (by simp [hn, ← hl, rv.length]) hst fun h' hx => ?_
  have I1 : Inv X pins σ H { s with heap := h' } := I.kept (t' := s.toks) fun b o e => hx b o (Nat.ne_of_lt (Heap.lt_size e)) e
  exact h pins _ σ H xs _ Q I1 (by simpa using rv) hw
def tAsg (te : TE) (g : TG) : TS := fun D σ H => te σ H fun x H1 => g x σ H1 D.nx
theorem ps_asg {tg e : Expr} {te : TE} {g : TG} (he : PE X e te) (hg : PG X tg g) (hs : swapsWithSole [tg] e pos.line X.env = pure false := by rfl) (hw : swappedStores [tg] e X.env = pure none := by rfl)
    (h1 : (assignEach [tg] X.env).map (·.2) = [assign tg X.env] := by rfl) : PS X (.Assign [tg] e pos) (tAsg te g) := by
  intro pins s σ H D I h
  refine wpAny_Assign_stores (thn (he pins s σ H _ I h) fun v s1 ⟨x, H1, I1, r1, q1⟩ => ?_) hs hw
  rw [h1]
  exact thn (hg pins s1 σ H1 x v _ I1 r1 q1) fun _ s2 q => q
theorem ps_set {i : Nat} {x : Str} {e : Expr} {te : TE} {pos' : Pos} (hN : X.N.Nodup) (hi : X.N[i]? = some x) (hx : Loc X.env.scope x) (he : PE X e te) (hs : swapsWith e (some (.Name x pos')) pos.line X.env = pure false := by rfl) (hf : X.fn x = true ∨ X.env.scope.names.lookup x = some .local := by first | exact .inl rfl | exact .inr rfl | assumption) :
    PS X (.Assign [.Name x pos'] e pos) (tAsg te (gName i)) := by
  intro pins s σ H D I h
  refine wpAny_Assign_Name (thn (he pins s σ H _ I h) fun v s1 ⟨y, H1, I1, r1, q1⟩ => ?_) hs
  exact store_ok I1 hN hi hx r1 (fun s2 I2 => ⟨_, H1, I2, q1⟩) hf
end

section
variable {X : Cx} {pos : Pos}
def tWhile (c : TT) (tb : TS) : TS := fun D σ H => ∃ W : Nat → St → Hp → Prop, (∃ m, W m σ H) ∧ ∀ m σ H, W m σ H →
  c σ H fun b H1 => if b = true then ∃ N : St → Hp → Prop, (∀ σ' H', N σ' H' → ∃ m', m' < m ∧ W m' σ' H') ∧ tb { D with nx := N, ct := N, bk := D.nx } σ H1 else D.nx σ H1
theorem ps_while {c : Expr} {body : List Stmt} {tc : TT} {tb : TS} (hp : PassesOwn (model X.prog X.w) X.A X.env X.xe) (hc : PT X c tc) (hb : PSs X body tb) : PS X (.While c body [] pos) (tWhile tc tb) := by
  intro pins s σ H D I h
  obtain ⟨W, ⟨m0, w0⟩, turn⟩ := h
  refine wpAny_While (codeAny_whileLoop (fun n s' => ∃ σ' H', Inv X pins σ' H' s' ∧ W n σ' H') ?_ m0 ⟨σ, H, I, w0⟩)
  rintro n s1 ⟨σ1, H1, I1, w1⟩
  refine wpAny_passesOwn hp (thn (hc pins s1 σ1 H1 _ I1 (turn n σ1 H1 w1)) fun b s2 ⟨H2, I2, q2⟩ => ?_)
  cases b with
  | true =>
    obtain ⟨N, hN, q2⟩ := q2
    rw [if_pos rfl]
    refine wpAny_passesOwn hp (thn (hb pins s2 σ1 H2 _ I2 q2) fun f s3 q3 => ?_)
    cases f with
    | next =>
      obtain ⟨σ3, H3, I3, n3⟩ := q3
      obtain ⟨m', hm, w3⟩ := hN σ3 H3 n3
      exact ⟨m', hm, σ3, H3, I3, w3⟩
    | cont =>
      obtain ⟨σ3, H3, I3, n3⟩ := q3
      obtain ⟨m', hm, w3⟩ := hN σ3 H3 n3
      exact ⟨m', hm, σ3, H3, I3, w3⟩
    | brk => exact q3
    | ret v => exact q3
  | false =>
    rw [if_neg Bool.false_ne_true]
    exact wpAny_execs_nil ⟨σ1, H2, I2, q2⟩
end

structure It where
  go : Nat → Hp → Prop
  yld : Nat → Hp → V → Hp → Prop
  stop : Nat → Hp → Prop
def FpOk (X : Cx) (pins : List (Addr × Obj)) (H : Hp) (b : Addr) : Prop :=
  H b = none ∧ b ≠ X.env.locals ∧ b ∉ X.fs ∧ (b ∈ X.ex ∨ X.s₀.heap.objs.size ≤ b) ∧ (∀ x c, X.env.cells.lookup x = some c → c ≠ b) ∧ ∀ p ∈ X.pn ++ pins, p.1 ≠ b
theorem Inv.fpOk {X : Cx} {pins : List (Addr × Obj)} {σ : St} {H H' : Hp} {s : Shared} {b : Addr} (I : Inv X pins σ H s) (hb : s.heap.objs.size ≤ b) (hn : H' b = none) : FpOk X pins H' b := by
  refine ⟨hn, Nat.ne_of_gt (Nat.lt_of_lt_of_le I.lt hb), I.nofs hb, .inr (Nat.le_trans I.sz hb), fun x c e z => ?_, fun p hp z => ?_⟩
  · obtain ⟨v, q⟩ := I.cell x c e
    exact absurd (Nat.lt_of_lt_of_le q.lt (by rw [z]; exact hb)) (Nat.lt_irrefl _)
  · exact absurd (Nat.lt_of_lt_of_le (Heap.lt_size (I.pin p hp).1) (by rw [z]; exact hb)) (Nat.lt_irrefl _)
structure Turn (P : Program) (w : World) (K : PySem.W.Frag) (tg : Expr) (J : It) (fp : List Addr) (it : Addr) (tn : Nat → Heap → Prop) : Prop where
  mem : it ∈ fp
  obj : ∀ i h, tn i h → ∀ b ∈ fp, ∃ o, h.get? b = some o ∧ ∀ v, o.data ≠ .cell v
  keep : ∀ i h h', tn i h → (∀ b ∈ fp, ∀ o, h.get? b = some o → h'.get? b = some o) → tn i h'
  item : ∀ (X : Cx), X.prog = P → X.w = w → X.K = K → X.calm = true → ∀ (i : Nat) (pins : List (Addr × Obj)) (s : Shared) (σ : St) (H : Hp) (E : Value → Shared → Prop), Inv X pins σ H s → (∀ b ∈ fp, FpOk X pins H b) → tn i s.heap → J.go i H →
    wpAny (model P w) X.A (pyNext (.ref it)) (fun r s1 => ∃ u, r = some u ∧
      wpAny (model P w) X.A (letOwnedTupleGo tg (.ref it) u) (fun _ s2 => ∃ x H', Inv X pins σ H' s2 ∧ RelV x u ∧ J.yld i H x H' ∧ tn (i + 1) s2.heap ∧ ∀ b ∈ fp, H' b = none) E s1) E s
  done : ∀ (X : Cx), X.prog = P → X.w = w → X.K = K → X.calm = true → ∀ (i : Nat) (pins : List (Addr × Obj)) (s : Shared) (σ : St) (H : Hp) (E : Value → Shared → Prop), Inv X pins σ H s → (∀ b ∈ fp, FpOk X pins H b) → tn i s.heap → J.stop i H →
    wpAny (model P w) X.A (pyNext (.ref it)) (fun r s1 => r = none ∧ Inv X pins σ H s1) E s
  self : ∀ (A : Around) (i : Nat) (s : Shared) (Q : Value → Shared → Prop) (E : Value → Shared → Prop), tn i s.heap → Q (.ref it) s → wpAny (model P w) A (pyIter (.ref it)) Q E s
abbrev TI := St → Hp → (It → Hp → Prop) → Prop
def PIE (X : Cx) (pins : List (Addr × Obj)) (σ : St) (tg : Expr) (R : It → Hp → Prop) (itv : Value) (s2 : Shared) : Prop :=
  ∃ (it : Addr) (fp : List Addr) (tn : Nat → Heap → Prop) (J : It) (H' : Hp), itv = .ref it ∧ Inv X pins σ H' s2 ∧ Turn X.prog X.w X.K tg J fp it tn ∧ tn 0 s2.heap ∧ (∀ b ∈ fp, FpOk X pins H' b) ∧ R J H'
def PI (X : Cx) (tg iter : Expr) (wi : TI) : Prop :=
  ∀ (pins : List (Addr × Obj)) (s : Shared) (σ : St) (H : Hp) (R : It → Hp → Prop), Inv X pins σ H s → wi σ H R →
    wpAny (model X.prog X.w) X.A (eval iter X.env) (fun v s1 => wpAny (model X.prog X.w) X.A (pyIter v) (PIE X pins σ tg R) X.xe s1) X.xe s

theorem go_of {M : Model} {A : Around} {E : Value → Shared → Prop} {s : Shared} {tg : Expr} {it : Addr} {u : Value} {o : Obj} {n : String} {vs : Array Value} {Q : Unit → Shared → Prop} (ho : s.heap.get? it = some o) (hc : o.cls = .type n) (hd : o.data = .fields vs)
    (hn : ["enumerate", "zip", "dict_itemiterator", "dict_reverseitemiterator", "odict_iterator", "itertools.zip_longest", "itertools.pairwise"].contains n = false) (hQ : Q () s) : wpAny M A (letOwnedTupleGo tg (.ref it) u) Q E s := by
  unfold letOwnedTupleGo
  cases tg <;> first
    | exact wpAny_pure hQ
    | (cases u <;> first
        | exact wpAny_pure hQ
        | (refine wpAny_bind (wpAny_load ho ?_)
           rw [hc, hd]
           show wpAny M A (if (["enumerate", "zip", "dict_itemiterator", "dict_reverseitemiterator", "odict_iterator", "itertools.zip_longest", "itertools.pairwise"].contains n && vs[0]? == some (rawInt _)) = true then _ else _) Q E s
           rw [if_neg (by intro h; rw [hn, Bool.false_and] at h; cases h)]
           exact wpAny_pure hQ))

def Itl (K : PySem.W.Frag) (a : Addr) : It :=
  ⟨fun i H => ∃ xs x, SqL K H a xs ∧ xs[i]? = some x, fun i H x H' => H' = H ∧ ∀ xs, SqL K H a xs → xs[i]? = some x, fun i H => ∃ xs, SqL K H a xs ∧ xs.length ≤ i⟩
def Itr (lo : Int) (n : Nat) : It := ⟨fun i _ => i < n, fun i H x H' => H' = H ∧ x = .int (lo + i), fun i _ => n ≤ i⟩
theorem turn_list {P : Program} {w : World} {K : PySem.W.Frag} {tg : Expr} (a it : Addr) : Turn P w K tg (Itl K a) [it] it (fun i h => h.IsListIter it a i) where
  mem := by simp
  obj := fun i h st b hb => by
    have e : b = it := by simpa using hb
    subst e
    obtain ⟨o, e, c, d⟩ := st
    exact ⟨o, e, fun v z => by rw [d] at z; cases z⟩
  keep := fun i h h' st k => st.at fun o e => k it (by simp) o e
  item := by
    intro X hP hw hK hc i pins s σ H E I hf st hg
    subst hP hw hK
    obtain ⟨xs, x, hq, hx⟩ := hg
    obtain ⟨its, rv, p, hz⟩ := I.list hq
    obtain ⟨u, hu, ru⟩ := rv.get hx
    obtain ⟨f0, f1, f2, f3, f4, f5⟩ := hf it (by simp)
    refine wpAny_pyNext_list_item st p.isList (x := u) (by simpa using hu) fun h' st' sb => ?_
    have I1 : Inv X pins σ H { s with heap := h' } := I.turned (t' := s.toks) (fun b o hb e => (sb.2 b hb).trans e) f0 f1 f3 f4 f5
    obtain ⟨o, e, c, d⟩ := id st'
    exact ⟨u, rfl, go_of (s := { s with heap := h' }) e c d (by decide) ⟨x, H, I1, ru, ⟨rfl, fun ys hy => by rw [I.list_inj hy hq]; exact hx⟩, st', fun b hb => (hf b hb).1⟩⟩
  done := by
    intro X hP hw hK hc i pins s σ H E I hf st hg
    subst hP hw hK
    obtain ⟨xs, hq, hx⟩ := hg
    obtain ⟨its, rv, p, hz⟩ := I.list hq
    obtain ⟨f0, f1, f2, f3, f4, f5⟩ := hf it (by simp)
    have hl := rv.length
    exact wpAny_pyNext_list_end (I.ok.hd hc) st p.isList (by simp; omega) fun h' eb => ⟨rfl, I.turned (t' := s.toks) (fun b o hb e => eb b o hb e) f0 f1 f3 f4 f5⟩
  self := fun _ _ _ _ _ st h => wpAny_pyIter_listiter st h
theorem turn_range {P : Program} {w : World} {K : PySem.W.Frag} {tg : Expr} (it : Addr) (lo : Int) (n : Nat) : Turn P w K tg (Itr lo n) [it] it (fun i h => IsRangeIter h it (lo + (i : Nat) * 1) ((n : Int) - (i : Nat)) 1) where
  mem := by simp
  obj := fun i h st b hb => by
    have e : b = it := by simpa using hb
    subst e
    exact ⟨_, st, fun v z => by
      have z' : Data.fields _ = Data.cell v := z
      cases z'⟩
  keep := fun i h h' st k => k it (by simp) _ st
  item := by
    intro X hP hw hK hc i pins s σ H E I hf st hg
    subst hP hw hK
    obtain ⟨f0, f1, f2, f3, f4, f5⟩ := hf it (by simp)
    have W := Walks.range (prog := X.prog) (w := X.w) (I.ok.hd hc) it lo 1 n
    refine W.item i s _ _ hg st fun v h' tk hv st' kk => ?_
    obtain ⟨t, rfl⟩ := hv
    have I1 : Inv X pins σ H { s with heap := h', toks := tk } := I.turned (fun b o hb e => kk b o (by simpa using hb) e) f0 f1 f3 f4 f5
    refine ⟨_, rfl, go_of (s := { s with heap := h', toks := tk }) (n := "range_iterator") st' rfl rfl (by decide) ⟨.int (lo + i), H, I1, ⟨t, ?_⟩, ⟨rfl, rfl⟩, st', fun b hb => (hf b hb).1⟩⟩
    rw [Int.mul_one]
  done := by
    intro X hP hw hK hc i pins s σ H E I hf st hg
    subst hP hw hK
    obtain ⟨f0, f1, f2, f3, f4, f5⟩ := hf it (by simp)
    exact wpAny_pyNext_range_end (I.ok.hd hc) st (by have : n ≤ i := hg; omega) fun h' eb => ⟨rfl, I.turned (t' := s.toks) (fun b o hb e => eb b o hb e) f0 f1 f3 f4 f5⟩
  self := fun _ _ _ _ _ st h => wpAny_pyIter_rangeiter st h
end L2

namespace L2
open PySem PySem.Spec PyProof.Rows
section
variable {X : Cx} {tg : Expr}
def iList (K : PySem.W.Frag) (tl : TE) : TI := fun σ H R => tl σ H fun x H1 => ∃ a, x = .ref a ∧ (∃ xs, SqL K H1 a xs) ∧ R (Itl K a) H1
theorem pi_list {l : Expr} {tl : TE} (hl : PE X l tl) : PI X tg l (iList X.K tl) := by
  intro pins s σ H R I h
  refine thn (hl pins s σ H _ I h) fun v s1 ⟨x, H1, I1, r1, q1⟩ => ?_
  obtain ⟨a, e, ⟨xs, hq⟩, q⟩ := q1
  subst e
  cases r1
  obtain ⟨its, rv, p, hz⟩ := I1.list hq
  refine wpAny_pyIter_list p.isList ?_
  refine ⟨s1.heap.objs.size, [s1.heap.objs.size], _, _, H1, rfl, I1.kept (t' := s1.toks) fun b o e => Heap.get?_push_of_some _ e, turn_list a _, ⟨_, Heap.get?_push_size _ rfl, rfl, rfl⟩, fun b hb => ?_, q⟩
  have e : b = s1.heap.objs.size := by simpa using hb
  subst e
  exact I1.fpOk (Nat.le_refl _) (I1.hok.fresh (Nat.le_refl _))
theorem range_it {pins : List (Addr × Obj)} {σ : St} {H : Hp} {s : Shared} {R : It → Hp → Prop} {E : Value → Shared → Prop} {lo hi : Int} {t u v : Tok} {tk : Nat} (I : Inv X pins σ H s) (h1 : -(2 ^ 62) ≤ lo) (h2 : lo < 2 ^ 62) (h3 : -(2 ^ 62) ≤ hi) (h4 : hi < 2 ^ 62)
    (q : R (Itr lo (hi - lo).toNat) H) : wpAny (model X.prog X.w) X.A (pyIter (.ref s.heap.objs.size)) (PIE X pins σ tg R) E { s with heap := s.heap.push { cls := .type "range", data := .fields #[.int lo t, .int hi u, .int 1 v] }, toks := tk } := by
  refine wpAny_pyIter_range (IsRange.new ..) (small_one h1 h2 h3 h4) ?_
  have I1 : Inv X pins σ H { s with heap := s.heap.push { cls := .type "range", data := .fields #[.int lo t, .int hi u, .int 1 v] }, toks := tk } := I.kept fun b o e => Heap.get?_push_of_some _ e
  refine ⟨(s.heap.push { cls := .type "range", data := .fields #[.int lo t, .int hi u, .int 1 v] }).objs.size, [(s.heap.push { cls := .type "range", data := .fields #[.int lo t, .int hi u, .int 1 v] }).objs.size], _, _, H, rfl,
    I1.kept (t' := tk) fun b o e => Heap.get?_push_of_some _ e, turn_range _ lo (hi - lo).toNat, ?_, fun b hb => ?_, q⟩
  · have e1 : lo + ((0 : Nat) : Int) * 1 = lo := by simp
    have e2 : (((hi - lo).toNat : Nat) : Int) - ((0 : Nat) : Int) = Builtin.Range.rangeSize lo hi 1 := by rw [rangeSize_one]; split <;> omega
    show IsRangeIter _ _ (lo + ((0 : Nat) : Int) * 1) ((((hi - lo).toNat : Nat) : Int) - ((0 : Nat) : Int)) 1
    rw [e1, e2]
    exact Heap.get?_push_size _ rfl
  · have e : b = (s.heap.push { cls := .type "range", data := .fields #[.int lo t, .int hi u, .int 1 v] }).objs.size := by simpa using hb
    subst e
    exact I1.fpOk (Nat.le_refl _) (I1.hok.fresh (Nat.le_refl _))
def iRng2 (ta : TA) : TI := fun σ H R => ta σ H fun vs H1 => ∃ i j : Int, vs = [.int i, .int j] ∧ (-(2 ^ 62) ≤ i ∧ i < 2 ^ 62 ∧ -(2 ^ 62) ≤ j ∧ j < 2 ^ 62) ∧ R (Itr i (j - i).toNat) H1
theorem pi_range2 {a b : Expr} {ta : TA} {p pos : Pos} (hg : Gl X "range") (hm : X.mg "range" = none) (ha : PA X [a, b] ta) (hs : starEach [a, b] X.env = [(false, eval a X.env), (false, eval b X.env)] := by rfl) (hs2 : starEach [b] X.env = [(false, eval b X.env)] := by rfl) :
    PI X tg (.Call (.Name "range" p) [a, b] [] pos) (iRng2 ta) := by
  intro pins s σ H R I h
  refine Call_ (ld_blt I hg hm boot_range (PyProof.Rows.callWith_type1 (thn (ha pos pins s σ H _ I h) fun us s1 ⟨vs, H1, I1, r1, q1⟩ => ?_) (by rw [hs, hs2]) (by rw [hs2]; rfl)))
  obtain ⟨i, j, e, ⟨q1, q2, q3, q4⟩, q⟩ := q1
  subst e
  cases r1 with
  | cons r rr =>
    cases rr with
    | cons r' rr =>
      cases rr
      obtain ⟨t, rfl⟩ := r
      obtain ⟨t', rfl⟩ := r'
      exact call_range_2 (range_it I1 q1 q2 q3 q4 q)

def tFor (wi : TI) (g : TG) (tb : TS) : TS := fun D σ H => wi σ H fun J H1 => ∃ W : Nat → Nat → St → Hp → Prop, (∃ m, W 0 m σ H1) ∧ ∀ i m σ H, W i m σ H →
  (J.stop i H ∧ D.nx σ H) ∨ (J.go i H ∧ ∃ N : St → Hp → Prop, (∀ σ' H', N σ' H' → ∃ m', m' < m ∧ W (i + 1) m' σ' H') ∧ ∀ x H', J.yld i H x H' → g x σ H' fun σ2 H2 => tb { D with nx := N, ct := N, bk := D.nx } σ2 H2)
def pinsAt (fp : List Addr) (h : Heap) : List (Addr × Obj) := fp.filterMap fun b => (h.get? b).map fun o => (b, o)
theorem mem_pinsAt {fp : List Addr} {h : Heap} {b : Addr} {o : Obj} (hb : b ∈ fp) (e : h.get? b = some o) : (b, o) ∈ pinsAt fp h := List.mem_filterMap.mpr ⟨b, hb, by rw [e]; rfl⟩
theorem of_pinsAt {fp : List Addr} {h : Heap} {p : Addr × Obj} (hp : p ∈ pinsAt fp h) : p.1 ∈ fp ∧ h.get? p.1 = some p.2 := by
  obtain ⟨b, hb, e⟩ := List.mem_filterMap.mp hp
  cases q : h.get? b with
  | none => rw [q] at e; cases e
  | some o =>
    rw [q] at e
    have e' : (b, o) = p := Option.some.inj e
    subst e'
    exact ⟨hb, q⟩
theorem Inv.pinned {pins : List (Addr × Obj)} {σ : St} {H : Hp} {s : Shared} {fp : List Addr} (I : Inv X pins σ H s) (hf : ∀ b ∈ fp, FpOk X pins H b) (ho : ∀ b ∈ fp, ∃ o, s.heap.get? b = some o ∧ ∀ v, o.data ≠ .cell v) : Inv X (pins ++ pinsAt fp s.heap) σ H s :=
  I.pins_of fun p hp => (List.mem_append.mp hp).elim (fun z => I.pin p (List.mem_append_right _ z)) fun z => by
    obtain ⟨hb, e⟩ := of_pinsAt z
    obtain ⟨f0, f1, f2, _⟩ := hf p.1 hb
    obtain ⟨o, e', d⟩ := ho p.1 hb
    rw [e] at e'; cases e'
    exact ⟨e, f0, f1, f2, d⟩
theorem Inv.unpinned {pins pl : List (Addr × Obj)} {σ : St} {H : Hp} {s : Shared} (I : Inv X (pins ++ pl) σ H s) : Inv X pins σ H s := I.pins_of fun p hp => I.pin p (List.mem_append_right _ (List.mem_append_left _ hp))
theorem ps_for {iter : Expr} {body : List Stmt} {wi : TI} {g : TG} {tb : TS} {pos : Pos} (hp : PassesOwn (model X.prog X.w) X.A X.env X.xe) (hc : X.calm = true) (hi : PI X tg iter wi) (hg : PG X tg g) (hb : PSs X body tb)
    (hs : ∀ x, foldedSetIterable iter X.env x = pure x := by intro _; rfl) : PS X (.For tg iter body [] pos) (tFor wi g tb) := by
  intro pins s σ H D I h
  refine wpAny_For (thn (hi pins s σ H _ I h) fun v s1 h1 => thn h1 fun itv s2 h2 => ?_) hs
  obtain ⟨it, fp, tn, J, H2, e, I2, T, st2, f2, W, ⟨m0, w0⟩, turn⟩ := h2
  subst e
  -- what stays true of the iterator's objects through the loop
  have stat : ∀ {H' : Hp}, (∀ b ∈ fp, H' b = none) → ∀ b ∈ fp, FpOk X pins H' b := fun hn b hb => ⟨hn b hb, (f2 b hb).2⟩
  refine codeAny_forLoop_any (fun n s' => ∃ i σ' H', Inv X pins σ' H' s' ∧ tn i s'.heap ∧ (∀ b ∈ fp, H' b = none) ∧ W i n σ' H') ?_ m0 ⟨0, σ, H2, I2, st2, fun b hb => (f2 b hb).1, w0⟩
  rintro n s3 ⟨i, σ3, H3, I3, st3, fr3, w3⟩
  rcases turn i n σ3 H3 w3 with ⟨stop, qn⟩ | ⟨go, N, hN, step⟩
  · refine wpAny_passesOwn hp (thn (T.done X rfl rfl rfl hc i pins s3 σ3 H3 X.xe I3 (stat fr3) st3 stop) fun r s4 ⟨hr, I4⟩ => ?_)
    subst hr
    exact wpAny_execs_nil ⟨σ3, H3, I4, qn⟩
  · refine wpAny_passesOwn hp (thn (T.item X rfl rfl rfl hc i pins s3 σ3 H3 X.xe I3 (stat fr3) st3 go) fun r s4 ⟨u, hr, h4⟩ => ?_)
    subst hr
    refine wpAny_passesOwn hp (thn h4 fun _ s5 ⟨x, H5, I5, r5, y5, st5, fr5⟩ => ?_)
    have I5' := I5.pinned (stat fr5) (T.obj _ _ st5)
    refine wpAny_passesOwn hp (thn (hg _ s5 σ3 H5 x u _ I5' r5 (step x H5 y5)) fun _ s6 ⟨σ6, H6, I6, q6⟩ => ?_)
    refine wpAny_passesOwn hp (thn (hb _ s6 σ6 H6 _ I6 q6) fun f s7 q7 => ?_)
    have again : ∀ {σ7 : St} {H7 : Hp}, Inv X (pins ++ pinsAt fp s5.heap) σ7 H7 s7 → N σ7 H7 → ∃ m, m < n ∧ ∃ i σ' H', Inv X pins σ' H' s7 ∧ tn i s7.heap ∧ (∀ b ∈ fp, H' b = none) ∧ W i m σ' H' := fun {σ7 H7} I7 n7 => by
      obtain ⟨m', hm, w7⟩ := hN σ7 H7 n7
      refine ⟨m', hm, i + 1, σ7, H7, I7.unpinned, T.keep _ _ _ st5 fun b hb o e => (I7.pin (b, o) (List.mem_append_right _ (List.mem_append_right _ (mem_pinsAt hb e)))).1, fun b hb => ?_, w7⟩
      obtain ⟨o, e, d⟩ := T.obj _ _ st5 b hb
      exact (I7.pin (b, o) (List.mem_append_right _ (List.mem_append_right _ (mem_pinsAt hb e)))).2.1
    cases f with
    | next => obtain ⟨σ7, H7, I7, n7⟩ := q7; exact again I7 n7
    | cont => obtain ⟨σ7, H7, I7, n7⟩ := q7; exact again I7 n7
    | brk => obtain ⟨σ7, H7, I7, q7⟩ := q7; exact ⟨σ7, H7, I7.unpinned, q7⟩
    | ret v => obtain ⟨x7, σ7, H7, I7, r7, q7⟩ := q7; exact ⟨x7, σ7, H7, I7.unpinned, r7, q7⟩
end

theorem for_range {lo : Int} {n : Nat} {g : TG} {tb : TS} {D : Ends} {σ : St} {H : Hp} (Pv : Nat → St → Hp → Prop) (h0 : Pv 0 σ H)
    (hs : ∀ i σ H, i < n → Pv i σ H → g (.int (lo + i)) σ H fun σ2 H2 => tb { D with nx := Pv (i + 1), ct := Pv (i + 1), bk := D.nx } σ2 H2) (hd : ∀ σ H, Pv n σ H → D.nx σ H) :
    ∃ W : Nat → Nat → St → Hp → Prop, (∃ m, W 0 m σ H) ∧ ∀ i m σ H, W i m σ H →
      ((Itr lo n).stop i H ∧ D.nx σ H) ∨ ((Itr lo n).go i H ∧ ∃ N : St → Hp → Prop, (∀ σ' H', N σ' H' → ∃ m', m' < m ∧ W (i + 1) m' σ' H') ∧ ∀ x H', (Itr lo n).yld i H x H' → g x σ H' fun σ2 H2 => tb { D with nx := N, ct := N, bk := D.nx } σ2 H2) := by
  refine ⟨fun i m σ H => m = n - i ∧ i ≤ n ∧ Pv i σ H, ⟨n, by simp, Nat.zero_le _, h0⟩, ?_⟩
  rintro i m σ H ⟨rfl, hi, p⟩
  by_cases hlt : i < n
  · refine .inr ⟨hlt, Pv (i + 1), fun σ' H' p' => ⟨n - (i + 1), by omega, rfl, hlt, p'⟩, fun x H' y => ?_⟩
    obtain ⟨e, y⟩ := y
    subst e y
    exact hs i σ _ hlt p
  · have e : i = n := by omega
    subst e
    exact .inl ⟨Nat.le_refl _, hd σ H p⟩
end L2

namespace L2
open PySem PySem.Spec PyProof.Rows

abbrev R2 := V → V → Hp → VK → Prop
def OpR (X : Cx) (f : Value → Value → Sem Value) (r : R2) : Prop :=
  ∀ (pins : List (Addr × Obj)) (s : Shared) (σ : St) (H : Hp) (x y : V) (v u : Value) (Q : VK), Inv X pins σ H s → RelV x v → RelV y u → r x y H Q →
    wpAny (model X.prog X.w) X.A (f v u) (EP X pins σ Q) X.xe s
def UnR (X : Cx) (f : Value → Sem Value) (r : V → Hp → VK → Prop) : Prop :=
  ∀ (pins : List (Addr × Obj)) (s : Shared) (σ : St) (H : Hp) (x : V) (v : Value) (Q : VK), Inv X pins σ H s → RelV x v → r x H Q →
    wpAny (model X.prog X.w) X.A (f v) (EP X pins σ Q) X.xe s
def CallR (X : Cx) (f : Value) (r : List V → Hp → VK → Prop) : Prop :=
  ∀ (pins : List (Addr × Obj)) (s : Shared) (σ : St) (H : Hp) (xs : List V) (us : List Value) (Q : VK), Inv X pins σ H s → Vals xs us → r xs H Q →
    wpAny (model X.prog X.w) X.A (call f us) (EP X pins σ Q) X.xe s
def tOp (r : R2) (ta tb : TE) : TE := fun σ H Q => ta σ H fun x H1 => tb σ H1 fun y H2 => r x y H2 Q
def tUn (r : V → Hp → VK → Prop) (ta : TE) : TE := fun σ H Q => ta σ H fun x H1 => r x H1 Q
def rI (C : Int → Int → Prop) (g : Int → Int → V) : R2 := fun x y H Q => ∃ i j, x = .int i ∧ y = .int j ∧ C i j ∧ Q (g i j) H
def rI0 (g : Int → Int → V) : R2 := fun x y H Q => ∃ i j, x = .int i ∧ y = .int j ∧ Q (g i j) H
def rU (g : Int → V) : V → Hp → VK → Prop := fun x H Q => ∃ i, x = .int i ∧ Q (g i) H

section
variable {X : Cx} {a b c : Expr} {ta tb tc : TE} {pos : Pos}

theorem binT (ha : PE X a ta) (hb : PE X b tb) {pins : List (Addr × Obj)} {s : Shared} {σ : St} {H : Hp} {R : V → V → Hp → Prop} (I : Inv X pins σ H s)
    (h : ta σ H fun x H1 => tb σ H1 fun y H2 => R x y H2) {Q : Value → Shared → Prop} {f : Value → Value → Sem Value}
    (hf : ∀ v u s2 x y H2, Inv X pins σ H2 s2 → RelV x v → RelV y u → R x y H2 → wpAny (model X.prog X.w) X.A (f v u) Q X.xe s2) :
    wpAny (model X.prog X.w) X.A (eval a X.env) (fun v s₁ => wpAny (model X.prog X.w) X.A (eval b X.env) (fun u s₂ => wpAny (model X.prog X.w) X.A (f v u) Q X.xe s₂) X.xe s₁) X.xe s := by
  refine thn (ha pins s σ H _ I h) fun v s1 ⟨x, H1, I1, r1, q1⟩ => ?_
  refine thn (hb pins s1 σ H1 _ I1 q1) fun u s2 ⟨y, H2, I2, r2, q2⟩ => ?_
  exact hf v u s2 x y H2 I2 r1 r2 q2

theorem pe_op {op : Operator} {r : R2} (ho : OpR X (binaryOp op) r) (ha : PE X a ta) (hb : PE X b tb) : PE X (.BinOp a op b pos) (tOp r ta tb) := by
  intro pins s σ H Q I h
  exact wpAny_BinOp (binT ha hb I h fun v u s2 x y H2 I2 rx ry q => ho pins s2 σ H2 x y v u Q I2 rx ry q)
theorem pe_un {op : UnaryOp} {r : V → Hp → VK → Prop} (ho : UnR X (unaryOp op) r) (ha : PE X a ta) : PE X (.UnaryOp op a pos) (tUn r ta) := by
  intro pins s σ H Q I h
  exact UnaryOp_ (thn (ha pins s σ H _ I h) fun v s1 ⟨x, H1, I1, r1, q1⟩ => ho pins s1 σ H1 x v Q I1 r1 q1)
theorem opI {f : Value → Value → Sem Value} {C : Int → Int → Prop} {g : Int → Int → Int}
    (rule : ∀ (i j : Int) (t u : Tok) (s : Shared) (Q : Value → Shared → Prop) (E : Value → Shared → Prop), C i j → Q (.int (g i j) s.toks) { s with toks := s.toks + 1 } → wpAny (model X.prog X.w) X.A (f (.int i t) (.int j u)) Q E s) :
    OpR X f (rI C fun i j => .int (g i j)) := by
  intro pins s σ H x y v u Q I rx ry h
  obtain ⟨i, j, rfl, rfl, hc, q⟩ := h
  obtain ⟨t, rfl⟩ := rx
  obtain ⟨t', rfl⟩ := ry
  exact rule i j t t' s _ _ hc ⟨.int (g i j), H, I.tok _, ⟨_, rfl⟩, q⟩
theorem opI0 {f : Value → Value → Sem Value} {g : Int → Int → Int}
    (rule : ∀ (i j : Int) (t u : Tok) (s : Shared) (Q : Value → Shared → Prop) (E : Value → Shared → Prop), Q (.int (g i j) s.toks) { s with toks := s.toks + 1 } → wpAny (model X.prog X.w) X.A (f (.int i t) (.int j u)) Q E s) :
    OpR X f (rI0 fun i j => .int (g i j)) := by
  intro pins s σ H x y v u Q I rx ry h
  obtain ⟨i, j, rfl, rfl, q⟩ := h
  obtain ⟨t, rfl⟩ := rx
  obtain ⟨t', rfl⟩ := ry
  exact rule i j t t' s _ _ ⟨.int (g i j), H, I.tok _, ⟨_, rfl⟩, q⟩
theorem opB0 {f : Value → Value → Sem Value} {g : Int → Int → Bool}
    (rule : ∀ (i j : Int) (t u : Tok) (s : Shared) (Q : Value → Shared → Prop) (E : Value → Shared → Prop), Q (.bool (g i j)) s → wpAny (model X.prog X.w) X.A (f (.int i t) (.int j u)) Q E s) :
    OpR X f (rI0 fun i j => .bl (g i j)) := by
  intro pins s σ H x y v u Q I rx ry h
  obtain ⟨i, j, rfl, rfl, q⟩ := h
  obtain ⟨t, rfl⟩ := rx
  obtain ⟨t', rfl⟩ := ry
  exact rule i j t t' s _ _ ⟨.bl (g i j), H, I, rfl, q⟩

def CDivN (i j : Int) : Prop := j ≠ 0 ∧ j.natAbs < 1073741824
def CPow (i j : Int) : Prop := 0 ≤ j ∧ j ≤ 1000000 ∧ i.natAbs < 2 ^ 64
def CMul (i j : Int) : Prop := (-(2 ^ 64) < i ∧ i < 2 ^ 64) ∨ (-(2 ^ 64) < j ∧ j < 2 ^ 64)
theorem CMul.ok {i j : Int} (h : CMul i j) : IntMulOk i j := by
  rcases h with ⟨h1, h2⟩ | ⟨h1, h2⟩
  · exact .of_left (intBits_le_64 h1 h2)
  · exact .of_right (intBits_le_64 h1 h2)
theorem op_add : OpR X (binaryOp .Add) (rI0 fun i j => .int (i + j)) := opI0 fun _ _ _ _ _ _ _ q => add_int q
theorem op_sub : OpR X (binaryOp .Sub) (rI0 fun i j => .int (i - j)) := opI0 fun _ _ _ _ _ _ _ q => sub_int q
theorem op_fdivN : OpR X (binaryOp .FloorDiv) (rI CDivN fun i j => .int (i.fdiv j)) := opI fun _ _ _ _ _ _ _ hc q => floordiv_int hc.1 q (.inl (PyProof.noPylong_small hc.2))
theorem op_modN : OpR X (binaryOp .Mod) (rI (fun _ j => j ≠ 0) fun i j => .int (i.fmod j)) := opI fun _ _ _ _ _ _ _ hc q => mod_int' hc q
theorem op_pow : OpR X (binaryOp .Pow) (rI CPow fun i j => .int (i ^ j.toNat)) := opI fun _ _ _ _ _ _ _ hc q => pow_int_small hc.1 hc.2.1 hc.2.2 q
theorem unI {f : Value → Sem Value} {g : Int → Int}
    (rule : ∀ (i : Int) (t : Tok) (s : Shared) (Q : Value → Shared → Prop) (E : Value → Shared → Prop), Q (.int (g i) s.toks) { s with toks := s.toks + 1 } → wpAny (model X.prog X.w) X.A (f (.int i t)) Q E s) :
    UnR X f (rU fun i => .int (g i)) := by
  intro pins s σ H x v Q I rx h
  obtain ⟨i, rfl, q⟩ := h
  obtain ⟨t, rfl⟩ := rx
  exact rule i t s _ _ ⟨.int (g i), H, I.tok _, ⟨_, rfl⟩, q⟩
theorem un_neg : UnR X (unaryOp .USub) (rU fun i => .int (-i)) := unI fun _ _ _ _ _ q => neg_int q
end

def scal : V → V → Bool
  | .non, .non => true | .non, .int _ => true | .int _, .non => true | .non, .bl _ => true | .bl _, .non => true | .non, .str _ => true | .str _, .non => true
  | .int _, .int _ => true | .bl _, .bl _ => true | .str _, .str _ => true | .byt _, .byt _ => true
  | .int _, .str _ => true | .str _, .int _ => true | .bl _, .str _ => true | .str _, .bl _ => true
  | _, _ => false
def rEq : R2 := fun x y H Q => scal x y = true ∧ Q (.bl (decide (x = y))) H
def rNe : R2 := fun x y H Q => scal x y = true ∧ Q (.bl (!decide (x = y))) H

theorem dec_int {i j : Int} : decide (V.int i = V.int j) = (i == j) := by
  rw [Bool.eq_iff_iff]
  simp
theorem dec_bl {i j : Bool} : decide (V.bl i = V.bl j) = (i == j) := by
  rw [Bool.eq_iff_iff]
  simp
theorem dec_str {i j : Str} : decide (V.str i = V.str j) = (i == j) := by
  rw [Bool.eq_iff_iff]
  simp
theorem dec_byt {i j : Array UInt8} : decide (V.byt i = V.byt j) = (i.toList == j.toList) := by
  rw [Bool.eq_iff_iff]
  cases i
  cases j
  simp

section
variable {X : Cx} {a b c : Expr} {ta tb tc : TE} {pos : Pos}
theorem fin_bl {pins : List (Addr × Obj)} {σ : St} {H : Hp} {s : Shared} {Q : VK} {k k' : Bool} (I : Inv X pins σ H s) (q : Q (.bl k) H) (e : k = k') : EP X pins σ Q (.bool k') s := by
  subst e
  exact ⟨.bl k, H, I, rfl, q⟩
theorem op_eq : OpR X (compareOp .Eq) rEq := by
  intro pins s σ H x y v u Q I rx ry h
  obtain ⟨hs, q⟩ := h
  cases x with
  | non =>
    cases rx
    cases y with
    | non => cases ry; exact PySem.EqNone.eq_none_none (fin_bl I q (by simp))
    | bl j => cases ry; exact PySem.EqNone.eq_none_bool (fin_bl I q (by simp))
    | int j => obtain ⟨t', rfl⟩ := ry; exact PySem.EqNone.eq_none_int (fin_bl I q (by simp))
    | str j => obtain ⟨t', rfl⟩ := ry; exact PySem.EqNone.eq_none_str (fin_bl I q (by simp))
    | _ => exact absurd (show false = true from hs) Bool.false_ne_true
  | bl i =>
    cases rx
    cases y with
    | non => cases ry; exact PySem.EqNone.eq_bool_none (fin_bl I q (by simp))
    | bl j => cases ry; exact eq_bool (fin_bl I q dec_bl)
    | str j => obtain ⟨t', rfl⟩ := ry; exact PySem.EqMixed.eq_bool_str (fin_bl I q (by simp))
    | _ => exact absurd (show false = true from hs) Bool.false_ne_true
  | int i =>
    obtain ⟨t, rfl⟩ := rx
    cases y with
    | non => cases ry; exact PySem.EqNone.eq_int_none (fin_bl I q (by simp))
    | int j => obtain ⟨t', rfl⟩ := ry; exact eq_int (fin_bl I q dec_int)
    | str j => obtain ⟨t', rfl⟩ := ry; exact PySem.EqMixed.eq_int_str (fin_bl I q (by simp))
    | _ => exact absurd (show false = true from hs) Bool.false_ne_true
  | str i =>
    obtain ⟨t, rfl⟩ := rx
    cases y with
    | non => cases ry; exact PySem.EqNone.eq_str_none (fin_bl I q (by simp))
    | bl j => cases ry; exact PySem.EqMixed.eq_str_bool (fin_bl I q (by simp))
    | int j => obtain ⟨t', rfl⟩ := ry; exact PySem.EqMixed.eq_str_int (fin_bl I q (by simp))
    | str j => obtain ⟨t', rfl⟩ := ry; exact eq_str (fin_bl I q dec_str)
    | _ => exact absurd (show false = true from hs) Bool.false_ne_true
  | byt i =>
    obtain ⟨t, rfl⟩ := rx
    cases y with
    | byt j => obtain ⟨t', rfl⟩ := ry; exact PySem.W.eq_bytes (fin_bl I q dec_byt)
    | _ => exact absurd (show false = true from hs) Bool.false_ne_true
  | _ => cases y <;> exact absurd (show false = true from hs) Bool.false_ne_true
theorem op_ne : OpR X (compareOp .NotEq) rNe := by
  intro pins s σ H x y v u Q I rx ry h
  obtain ⟨hs, q⟩ := h
  cases x with
  | non =>
    cases rx
    cases y with
    | non => cases ry; exact PySem.EqNone.ne_none_none (fin_bl I q (by simp))
    | bl j => cases ry; exact PySem.EqNone.ne_none_bool (fin_bl I q (by simp))
    | int j => obtain ⟨t', rfl⟩ := ry; exact PySem.EqNone.ne_none_int (fin_bl I q (by simp))
    | str j => obtain ⟨t', rfl⟩ := ry; exact PySem.EqNone.ne_none_str (fin_bl I q (by simp))
    | _ => exact absurd (show false = true from hs) Bool.false_ne_true
  | bl i =>
    cases rx
    cases y with
    | non => cases ry; exact PySem.EqNone.ne_bool_none (fin_bl I q (by simp))
    | bl j => cases ry; exact ne_bool (fin_bl I q (congrArg not dec_bl))
    | str j => obtain ⟨t', rfl⟩ := ry; exact PySem.EqMixed.ne_bool_str (fin_bl I q (by simp))
    | _ => exact absurd (show false = true from hs) Bool.false_ne_true
  | int i =>
    obtain ⟨t, rfl⟩ := rx
    cases y with
    | non => cases ry; exact PySem.EqNone.ne_int_none (fin_bl I q (by simp))
    | int j => obtain ⟨t', rfl⟩ := ry; exact ne_int (fin_bl I q (congrArg not dec_int))
    | str j => obtain ⟨t', rfl⟩ := ry; exact PySem.EqMixed.ne_int_str (fin_bl I q (by simp))
    | _ => exact absurd (show false = true from hs) Bool.false_ne_true
  | str i =>
    obtain ⟨t, rfl⟩ := rx
    cases y with
    | non => cases ry; exact PySem.EqNone.ne_str_none (fin_bl I q (by simp))
    | bl j => cases ry; exact PySem.EqMixed.ne_str_bool (fin_bl I q (by simp))
    | int j => obtain ⟨t', rfl⟩ := ry; exact PySem.EqMixed.ne_str_int (fin_bl I q (by simp))
    | str j => obtain ⟨t', rfl⟩ := ry; exact ne_str (fin_bl I q (congrArg not dec_str))
    | _ => exact absurd (show false = true from hs) Bool.false_ne_true
  | byt i =>
    obtain ⟨t, rfl⟩ := rx
    cases y with
    | byt j => obtain ⟨t', rfl⟩ := ry; exact PySem.W.ne_bytes (fin_bl I q (congrArg not dec_byt))
    | _ => exact absurd (show false = true from hs) Bool.false_ne_true
  | _ => cases y <;> exact absurd (show false = true from hs) Bool.false_ne_true

theorem op_lt : OpR X (compareOp .Lt) (rI0 fun i j => .bl (decide (i < j))) := opB0 fun _ _ _ _ _ _ _ q => lt_int q
theorem op_gt : OpR X (compareOp .Gt) (rI0 fun i j => .bl (decide (j < i))) := opB0 fun _ _ _ _ _ _ _ q => gt_int q
theorem op_ge : OpR X (compareOp .GtE) (rI0 fun i j => .bl (decide (j ≤ i))) := opB0 fun _ _ _ _ _ _ _ q => ge_int q
theorem op_notin_str : OpR X (compareOp .NotIn) (fun x y H Q => ∃ i j, x = .str i ∧ y = .str j ∧ Q (.bl (!(!(Builtin.Str.occurrences j i 0 j.length 1).isEmpty))) H) := by
  intro pins s σ H x y v u Q I rx ry h
  obtain ⟨i, j, rfl, rfl, q⟩ := h
  obtain ⟨t, rfl⟩ := rx
  obtain ⟨t', rfl⟩ := ry
  exact notIn_str (fin_bl I q rfl)
theorem OpR.or {f : Value → Value → Sem Value} {r r' : R2} (h : OpR X f r) (h' : OpR X f r') : OpR X f (fun x y H Q => r x y H Q ∨ r' x y H Q) := by
  intro pins s σ H x y v u Q I rx ry q
  rcases q with q | q
  · exact h pins s σ H x y v u Q I rx ry q
  · exact h' pins s σ H x y v u Q I rx ry q

theorem nomark (b : Expr) {op : CmpOp} (h : op ≠ .In := by decide) (h2 : op ≠ .NotIn := by decide) : behindInMarks op b = false := by
  have e1 : (op == CmpOp.In) = false := by cases op <;> first | rfl | exact absurd rfl h
  have e2 : (op == CmpOp.NotIn) = false := by cases op <;> first | rfl | exact absurd rfl h2
  cases b <;> simp [behindInMarks, e1, e2]
theorem pe_cmpR {op : CmpOp} {r : R2} (ho : OpR X (compareOp op) r) (ha : PE X a ta) (hb : PE X b tb) (hm : behindInMarks op b = false) : PE X (.Compare a [op] [b] pos) (tOp r ta tb) := by
  intro pins s σ H Q I h
  exact wpAny_Compare1 (binT ha hb I h fun v u s2 x y H2 I2 rx ry q => ho pins s2 σ H2 x y v u Q I2 rx ry q) hm
def tTest (t : TE) : TT := fun σ H Q => t σ H fun x H' => ∃ k, x = .bl k ∧ Q k H'
theorem pt_cmpR {op : CmpOp} {r : R2} (ho : OpR X (compareOp op) r) (ha : PE X a ta) (hb : PE X b tb) (hm : behindInMarks op b = false) : PT X (.Compare a [op] [b] pos) (tTest (tOp r ta tb)) := by
  intro pins s σ H Q I h
  refine wpAny_isTrue_Compare1 (thn (ha pins s σ H _ I h) fun v s1 ⟨x, H1, I1, r1, q1⟩ => thn (hb pins s1 σ H1 _ I1 q1) fun u s2 ⟨y, H2, I2, r2, q2⟩ =>
    thn (ho pins s2 σ H2 x y v u _ I2 r1 r2 q2) fun c s3 ⟨z, H3, I3, r3, k, e, q3⟩ => ?_) hm
  subst e
  cases r3
  exact wpAny_truthy_bool ⟨H3, I3, q3⟩
theorem line63 : (sizeLine : Nat) < 2 ^ 63 := by rw [sizeLine_eq]; decide
theorem op_add_str : OpR X (binaryOp .Add) (fun x y H Q => ∃ i j, x = .str i ∧ y = .str j ∧ i.length + j.length ≤ sizeLine ∧ Q (.str (i ++ j)) H) := by
  intro pins s σ H x y v u Q I rx ry h
  obtain ⟨i, j, rfl, rfl, hz, q⟩ := h
  obtain ⟨t, rfl⟩ := rx
  obtain ⟨t', rfl⟩ := ry
  exact add_str (fun t' tk => ⟨.str (i ++ j), H, I.tok _, ⟨_, rfl⟩, q⟩) hz
def PlainIxT (b : Expr) : Prop := ∀ o i, subscripted b false o i = operate [o, i] (getItem o i)
theorem pe_item_str (ha : PE X a ta) (hb : PE X b tb) (hs : PlainIxT b) :
    PE X (.Subscript a b pos) (tOp (fun x y H Q => ∃ z i c, x = .str z ∧ y = .int i ∧ 0 ≤ i ∧ i < 2 ^ 63 ∧ i < z.length ∧ z.cps[i.toNat]? = some c ∧ Q (.str ⟨#[c]⟩) H) ta tb) := by
  intro pins s σ H Q I h
  refine Subscript_ (binT ha hb I h fun v u s2 x y H2 I2 rx ry q => ?_)
  obtain ⟨z, i, c, rfl, rfl, h0, h63, h1, hc, q⟩ := q
  obtain ⟨t, rfl⟩ := rx
  obtain ⟨t', rfl⟩ := ry
  have e : seqIndex? i z.length = some i.toNat := PySem.StrLaws.seqIndex_nonneg h0 h1
  exact tail_any (typeIs_str s2 z t) slot_str_getitem.lookup (getItem_str (c := c) (by
    have e1 : decide (i < -(2 ^ 63 : Int)) = false := decide_eq_false (by omega)
    have e2 : decide (i ≥ 2 ^ 63) = false := decide_eq_false (by omega)
    rw [e1, e2] <;> rfl) (by rw [e]; exact hc) ⟨.str ⟨#[c]⟩, H2, I2.tok _, ⟨_, rfl⟩, q⟩) (hs _ _)
theorem vals1 {x : V} {us : List Value} (r : Vals [x] us) : ∃ u, us = [u] ∧ RelV x u := by
  cases r with
  | cons r1 r2 => cases r2; exact ⟨_, rfl, r1⟩
theorem call_str_int : CallR X (.type "str") (fun xs H Q => ∃ i, xs = [.int i] ∧ i.natAbs.log2 < 1920 ∧ Q (.str (toString i)) H) := by
  intro pins s σ H xs us Q I r h
  obtain ⟨i, rfl, hz, q⟩ := h
  obtain ⟨u, rfl, t, rfl⟩ := vals1 r
  exact PySem.P.str_of_int hz ⟨.str _, H, I.tok _, ⟨_, rfl⟩, q⟩
end
end L2

namespace L2
open PySem PySem.Spec PyProof.Rows

structure ObjM (h : Heap) (x dx C : Addr) (mA : Str → Option Value) : Prop where
  obj : h.get? x = some (PySem.W.instObj C dx)
  ns : h.Ns1 dx mA
  ne : dx ≠ x

theorem lookIn_ns {h : Heap} {dx : Addr} {mA : Str → Option Value} (n : h.Ns1 dx mA) : ∃ od, h.get? dx = some od ∧ ∀ name, PySem.W.lookIn name od = some (mA name) := by
  obtain ⟨o, es, ep, ho, hd, hk, _, hm⟩ := n
  refine ⟨o, ho, fun name => ?_⟩
  have e := hm name
  unfold nsFind findBy at e
  rw [← Array.find?_toList] at e
  unfold PySem.W.lookIn
  rw [hd]
  dsimp only
  split
  · rename_i y q
    rw [q] at e
    exact congrArg some e
  · rename_i q
    rw [q] at e
    have a : es.toList.any (·.refKey) = false := by
      rw [List.any_eq_false]
      intro y hy
      obtain ⟨z, t, hkey⟩ := hk y (Array.mem_toList_iff.mp hy)
      simp [DictEntry.refKey, hkey]
    have a' : ¬ es.toList.any (·.refKey) = true := by rw [a]; exact Bool.false_ne_true
    rw [if_neg a']
    exact congrArg some e

theorem ObjM.look {h : Heap} {x dx C : Addr} {mA : Str → Option Value} (I : ObjM h x dx C mA) : ∃ od, PySem.W.InstAt h x (PySem.W.instObj C dx) C (some od) ∧ ∀ name, PySem.W.lookIn name od = some (mA name) :=
  let ⟨od, ho, hl⟩ := lookIn_ns I.ns
  ⟨od, ⟨I.obj, rfl, rfl, ho⟩, hl⟩

section
variable {prog : Program} {w : World} {A : Around} {E : Value → Shared → Prop} {s : Shared} {K : PySem.W.Frag} {x dx C f : Addr} {mA : Str → Option Value} {name : Str} {v : Value}

theorem get_map {expr : Bool} {Q : Value → Shared → Prop} (X : K.In s.heap) (I : ObjM s.heap x dx C mA) (hg : PySem.W.plainGet K C name = true) (hh : PySem.W.hasDictIn K C = true)
    (ha : PySem.W.findIn K (.ref C) name = some none) (hv : mA name = some v) (hv' : PySem.W.handedIn v = true) (h : Q v { s with toks := s.toks + 1 }) :
    wpAny (model prog w) A (getAttr (.ref x) name expr) Q E s := by
  obtain ⟨od, J, hl⟩ := I.look
  exact PySem.W.get_value X J (PySem.W.plainGet_of hg).1 (PySem.W.findObj_own hh ha rfl (by rw [hl, hv])) hv' h

theorem set_map {ns : List Str} {Q : Unit → Shared → Prop} (X : K.In s.heap) (I : ObjM s.heap x dx C mA)
    (hs : PySem.W.findIn K (.ref C) "__setattr__" = some (some (.builtin "object.__setattr__"))) (hp : PySem.W.plainOver K C = true) (ht : PySem.W.takerIn K C name = some none) (hh : PySem.W.hasDictIn K C = true)
    (hw : PySem.Within mA ns) (hsz : ns.length ≤ sizeLine)
    (h : ∀ h', ObjM h' x dx C (fun y => if y = name then some v else mA y) → Heap.SameBut dx s.heap h' → Q () { s with heap := h', toks := s.toks + 2 }) :
    wpAny (model prog w) A (setAttr (.ref x) name v) Q E s := by
  obtain ⟨od, J, hl⟩ := I.look
  refine PySem.W.set_plain X J hs (PySem.W.osa_open (s := { s with toks := s.toks + 1 }) (r := none) X J hp ht fun b => ?_)
  obtain ⟨cd, hc, hd'⟩ := PySem.W.any_some hh
  have hx : s.heap.get? x = some ⟨.ref C, some dx, .plain, #[]⟩ := I.obj
  refine wpAny_bind (wpAny_pure (wpAny_bind (wpAny_bind (wpAny_loadPart hx (wpAny_bind (PySem.W.Looks.here (s := { s with toks := s.toks + 1 }) (PySem.W.looks_clsIn X hc) ?_))))))
  rw [hd']
  refine wpAny_pure (a := some dx) (wpAny_bind (wpAny_pure (wpAny_bind ?_)))
  refine wpAny_nsSet1 (s := { s with toks := s.toks + 1 }) I.ns fun h' hn2 hs2 => ?_
  obtain ⟨oD, esD, epD, hoD, hdD, hcD⟩ := hn2.count (PySem.Within.cons name v hw)
  refine wpAny_bind (wpAny_lookBehind hoD (by rw [hdD]; exact pastItsLine_dict (Nat.le_trans hcD (by rw [List.length_cons]; omega))) ?_)
  exact wpAny_pure (h _ ⟨(hs2.2 _ (Ne.symm I.ne)).trans I.obj, hn2, I.ne⟩ hs2)

theorem make_map {R : Result → Shared → Prop} {vs : List Value} {kw : List (Str × Value)} (X : K.In s.heap) (hm : PySem.W.makesIn K C = true)
    (hi : PySem.W.findIn K (.ref C) "__init__" = some (some (.ref f))) (hf : PySem.W.typeIn K (.ref f) = some (.type "function"))
    (h : codeAny (model prog w) (A.under (.builtin "type.__call__" ⟨.ref C :: vs, kw⟩)) (.call (.ref f) ⟨.ref (s.heap.objs.size + 1) :: vs, kw⟩) (PySem.W.InitBack (s.heap.objs.size + 1) R)
      { s with heap := (s.heap.push PySem.W.emptyDict).push (PySem.W.instObj C s.heap.objs.size) }) :
    codeAny (model prog w) A (.call (.ref C) ⟨vs, kw⟩) R s := by
  obtain ⟨hh, g, d, t, os⟩ := s
  exact PySem.W.make_core (PySem.W.makes_of X hm) (PySem.W.looks_findIn X hi) (fun self => PySem.W.bind_fn X self hf) (.inl rfl) h
end

def putF (f : Str) (v : V) : List (Str × V) → List (Str × V)
  | [] => [(f, v)]
  | (g, x) :: r => if g = f then (g, v) :: r else (g, x) :: putF f v r
theorem lookup_putF (f g : Str) (v : V) : ∀ fs : List (Str × V), (putF f v fs).lookup g = if g = f then some v else fs.lookup g
  | [] => by
    show List.lookup g [(f, v)] = _
    by_cases h : g = f
    · have hb : (g == f) = true := beq_iff_eq.mpr h
      simp only [List.lookup, hb, if_pos h]
    · have hb : (g == f) = false := beq_eq_false_iff_ne.mpr h
      simp only [List.lookup, hb, if_neg h]
  | (k, x) :: r => by
    have ih := lookup_putF f g v r
    rw [show putF f v ((k, x) :: r) = (if k = f then (k, v) :: r else (k, x) :: putF f v r) from rfl]
    by_cases hk : k = f
    · rw [if_pos hk]
      by_cases h : g = k
      · have hb : (g == k) = true := beq_iff_eq.mpr h
        simp only [List.lookup, hb, if_pos (h.trans hk)]
      · have hb : (g == k) = false := beq_eq_false_iff_ne.mpr h
        simp only [List.lookup, hb, if_neg (fun e : g = f => h (e.trans hk.symm))]
    · rw [if_neg hk]
      by_cases h : g = k
      · have hb : (g == k) = true := beq_iff_eq.mpr h
        simp only [List.lookup, hb, if_neg (fun e : g = f => hk (h.symm.trans e))]
      · have hb : (g == k) = false := beq_eq_false_iff_ne.mpr h
        simp only [List.lookup, hb]
        exact ih
theorem keys_putF (f : Str) (v : V) : ∀ fs : List (Str × V), f ∈ (putF f v fs).map (·.1) ∧ ∀ g, g ∈ fs.map (·.1) → g ∈ (putF f v fs).map (·.1)
  | [] => ⟨by simp [putF], fun g h => by simp at h⟩
  | (k, x) :: r => by
    obtain ⟨i1, i2⟩ := keys_putF f v r
    rw [show putF f v ((k, x) :: r) = (if k = f then (k, v) :: r else (k, x) :: putF f v r) from rfl]
    by_cases hk : k = f
    · rw [if_pos hk]
      subst hk
      exact ⟨by simp, fun g h => by simpa using h⟩
    · rw [if_neg hk]
      refine ⟨?_, fun g h => ?_⟩
      · rw [List.map_cons]
        exact List.mem_cons_of_mem _ i1
      · rw [List.map_cons] at h ⊢
        rcases List.mem_cons.mp h with e | e
        · exact List.mem_cons.mpr (.inl e)
        · exact List.mem_cons_of_mem _ (i2 g e)
theorem length_putF (f : Str) (v : V) : ∀ fs : List (Str × V), (putF f v fs).length ≤ fs.length + 1
  | [] => by simp [putF]
  | (k, x) :: r => by
    have ih := length_putF f v r
    rw [show putF f v ((k, x) :: r) = (if k = f then (k, v) :: r else (k, x) :: putF f v r) from rfl]
    by_cases hk : k = f
    · rw [if_pos hk, List.length_cons, List.length_cons]; omega
    · rw [if_neg hk, List.length_cons, List.length_cons]; omega

theorem RelO.some_of {v : V} {o : Option Value} (r : RelO (some v) o) : ∃ u, o = some u ∧ RelV v u := by
  cases o with
  | none => exact (show False from r).elim
  | some u => exact ⟨u, rfl, r⟩
theorem handed_of {v : V} {u : Value} (r : RelV v u) : PySem.W.handedIn u = true := by
  cases v with
  | non => cases (show u = Value.none from r); rfl
  | bl b => cases (show u = Value.bool b from r); rfl
  | int i => obtain ⟨t, e⟩ := (show ∃ t, u = Value.int i t from r); cases e; rfl
  | str x => obtain ⟨t, e⟩ := (show ∃ t, u = Value.str x t from r); cases e; rfl
  | byt b => obtain ⟨t, e⟩ := (show ∃ t, u = Value.bytes b t from r); cases e; rfl
  | flt b => obtain ⟨t, e⟩ := (show ∃ t, u = Value.float b t from r); cases e; rfl
  | ref a => cases (show u = Value.ref a from r); rfl
  | ty n => cases (show u = Value.type n from r); rfl

section
variable {P : Program} {w : World} {H H' : Hp} {h h' : Heap} {a C dx : Addr} {fs fs' : List (Str × V)}
theorem ins_get (hok : HOk P w H h) (e : H a = some (.ins C dx fs)) : ∃ mA, ObjM h a dx C mA ∧ (∀ f, RelO (fs.lookup f) (mA f)) ∧ PySem.Within mA (fs.map (·.1)) ∧ fs.length ≤ 1000 ∧ H dx = some (.own a) := by
  obtain ⟨d, z, ne, ob, mA, n, r, q⟩ := (show ObjOk P w H h a (.ins C dx fs) from hok a _ e)
  exact ⟨mA, ⟨ob, n, ne⟩, r, q, z, d⟩
end

structure Cls (K : PySem.W.Frag) (C : Addr) : Prop where
  pg : PySem.W.plainGet K C Str.empty = true
  hd : PySem.W.hasDictIn K C = true
  po : PySem.W.plainOver K C = true
  sa : PySem.W.findIn K (.ref C) "__setattr__" = some (some (.builtin "object.__setattr__"))
theorem Cls.get {K : PySem.W.Frag} {C : Addr} (c : Cls K C) (f : Str) : PySem.W.plainGet K C f = true := c.pg
def NoAttr (K : PySem.W.Frag) (C : Addr) (f : Str) : Prop := PySem.W.findIn K (.ref C) f = some none
theorem NoAttr.taker {K : PySem.W.Frag} {C : Addr} {f : Str} (n : NoAttr K C f) : PySem.W.takerIn K C f = some none := by
  unfold PySem.W.takerIn
  rw [show PySem.W.findIn K (.ref C) f = some none from n]
  rfl
structure Meth (K : PySem.W.Frag) (C : Addr) (m : Str) (f : Addr) : Prop where
  at_ : PySem.W.findIn K (.ref C) m = some (some (.ref f))
  fn : PySem.W.isFn K (.ref f) = true
  kp : PySem.W.keepIn K (.ref f) = true

section
variable {X : Cx} {pins : List (Addr × Obj)} {σ : St} {H : Hp} {s : Shared} {a C dx : Addr} {fs : List (Str × V)} {f : Str} {v : V} {A : Around} {E : Value → Shared → Prop}

theorem getattr_ok {b : Bool} {Q : Value → Shared → Prop} (I : Inv X pins σ H s) (e : H a = some (.ins C dx fs)) (c : Cls X.K C) (n : NoAttr X.K C f) (l : fs.lookup f = some v)
    (h : ∀ u s', Inv X pins σ H s' → RelV v u → Q u s') : wpAny (model X.prog X.w) A (getAttr (.ref a) f b) Q E s := by
  obtain ⟨mA, O, r, _, _, _⟩ := ins_get I.hok e
  obtain ⟨u, hu, ru⟩ := RelO.some_of (v := v) (o := mA f) (by rw [← l]; exact r f)
  exact get_map I.kIn O (c.get f) c.hd n hu (handed_of ru) (h u _ (I.tok _) ru)

theorem setattr_ok {y : V} {u : Value} {Q : Unit → Shared → Prop} (I : Inv X pins σ H s) (e : H a = some (.ins C dx fs)) (c : Cls X.K C) (n : NoAttr X.K C f) (hl : fs.length < 1000) (ry : RelV y u)
    (h : ∀ s', Inv X pins σ (upd H a (.ins C dx (putF f y fs))) s' → Q () s') : wpAny (model X.prog X.w) A (setAttr (.ref a) f u) Q E s := by
  obtain ⟨mA, O, r, wi, _, ho⟩ := ins_get I.hok e
  have hz : (fs.map (·.1)).length ≤ sizeLine := by rw [List.length_map, sizeLine_eq]; omega
  refine set_map I.kIn O c.sa c.po n.taker c.hd wi hz fun h' O' sb => h _ ?_
  have hd : ∃ o, h'.get? dx = some o := let ⟨o, _, _, e', _⟩ := O'.ns; ⟨o, e'⟩
  refine I.write (x := a) (e := dx) (by rw [e]; exact True.intro) (.inr ho) (fun b q hb z => (sb.2 b hb).trans z) hd ?_
  refine ⟨by rw [upd_ne O.ne]; exact ho, ?_, O.ne, O'.obj, _, O'.ns, fun g => ?_, fun g hg => ?_⟩
  · have := length_putF f y fs; omega
  · show RelO ((putF f y fs).lookup g) (if g = f then some u else mA g)
    rw [lookup_putF]
    by_cases q : g = f
    · rw [if_pos q, if_pos q]; exact ry
    · rw [if_neg q, if_neg q]; exact r g
  · by_cases q : g = f
    · rw [q]; exact (keys_putF f y fs).1
    · refine (keys_putF f y fs).2 g (wi g fun z => hg ?_)
      show (if g = f then some u else mA g) = none
      rw [if_neg q]; exact z

theorem Inv.made (I : Inv X pins σ H s) : Inv X pins σ (upd (upd H s.heap.objs.size (.own (s.heap.objs.size + 1))) (s.heap.objs.size + 1) (.ins C s.heap.objs.size []))
    { s with heap := (s.heap.push PySem.W.emptyDict).push (PySem.W.instObj C s.heap.objs.size) } := by
  have e1 : (s.heap.push PySem.W.emptyDict).get? s.heap.objs.size = some PySem.W.emptyDict := Heap.get?_push_size s.heap rfl
  have e2 : ((s.heap.push PySem.W.emptyDict).push (PySem.W.instObj C s.heap.objs.size)).get? (s.heap.objs.size + 1) = some (PySem.W.instObj C s.heap.objs.size) := by
    have := Heap.get?_push_size (s.heap.push PySem.W.emptyDict) (o := PySem.W.instObj C s.heap.objs.size) rfl
    rwa [Heap.size_push] at this
  have e3 : (s.heap.push PySem.W.emptyDict).Ns s.heap.objs.size (fun _ => none) := ⟨PySem.W.emptyDict, #[], _, e1, rfl, (fun e he => absurd he (by simp)), fun _ => rfl⟩
  have I1 := I.laid (a := s.heap.objs.size) (o := .own (s.heap.objs.size + 1)) (h' := s.heap.push PySem.W.emptyDict) (t' := s.toks) (fun b u q => Heap.get?_push_of_some _ q) (Nat.le_refl _) ⟨_, e1⟩
  refine I1.laid (a := s.heap.objs.size + 1) (o := .ins C s.heap.objs.size []) (t' := s.toks) (fun b u q => Heap.get?_push_of_some _ q) (Nat.le_of_eq (Heap.size_push _ _)) ?_
  have ne : s.heap.objs.size ≠ s.heap.objs.size + 1 := Nat.ne_of_lt (Nat.lt_succ_self _)
  refine ⟨by rw [upd_ne ne, upd_same], Nat.zero_le _, ne, e2, fun _ => none, (Heap.Ns1.of_empty e3).at fun o q => Heap.get?_push_of_some _ q, fun _ => True.intro, fun y hy => absurd rfl hy⟩

theorem attr_of {prog : Program} {w : World} {env : Env} {e : Expr} {f : Str} {pos : Pos} {s : Shared} {Q : Value → Shared → Prop} (hb : attributeBase e f env (eval e env) = eval e env)
    (h : wpAny (model prog w) A (eval e env) (fun o s₁ => wpAny (model prog w) A (getAttr o f true) Q E s₁) E s) : wpAny (model prog w) A (eval (.Attribute e f pos) env) Q E s :=
  Attribute_any_ h (by rw [arm_eval_Attribute, hb])
end

def tFld (K : PySem.W.Frag) (ta : TE) (f : Str) : TE := fun σ H Q => ta σ H fun x H1 => ∃ a C dx fs v, x = .ref a ∧ H1 a = some (.ins C dx fs) ∧ Cls K C ∧ NoAttr K C f ∧ fs.lookup f = some v ∧ Q v H1
def sFld (K : PySem.W.Frag) (ta tv : TE) (f : Str) : TS := fun D σ H => tv σ H fun y H1 => ta σ H1 fun x H2 => ∃ a C dx fs, x = .ref a ∧ H2 a = some (.ins C dx fs) ∧ Cls K C ∧ NoAttr K C f ∧ fs.length < 1000 ∧
  D.nx σ (upd H2 a (.ins C dx (putF f y fs)))
section
variable {X : Cx} {o e value : Expr} {f : Str} {pos pos' tpos : Pos} {ta tv : TE}
theorem pe_fld (he : PE X e ta) (hb : attributeBase e f X.env (eval e X.env) = eval e X.env) : PE X (.Attribute e f pos) (tFld X.K ta f) := by
  intro pins s σ H Q I h
  refine attr_of hb (thn (he pins s σ H _ I h) fun u s1 ⟨x, H1, I1, rx, a, C, dx, fs, v, ex, ea, c, n, l, q⟩ => ?_)
  subst ex
  obtain rfl : u = Value.ref a := rx
  exact getattr_ok I1 ea c n l fun u' s2 I2 ru => ⟨v, H1, I2, ru, q⟩
theorem ps_fld (ha : PE X o ta) (hv : PE X value tv) (hs : swapsWith value (some (.Attribute o f pos')) pos.line X.env = pure false) : PS X (.Assign [.Attribute o f pos'] value pos) (sFld X.K ta tv f) := by
  intro pins s σ H D I h
  refine plainObj_wpAny_Assign_Attribute (thn (hv pins s σ H _ I h) fun u s1 ⟨y, H1, I1, ry, q⟩ => thn (ha pins s1 σ H1 _ I1 q) fun ov s2 ⟨x, H2, I2, rx, a, C, dx, fs, ex, ea, c, n, l, q2⟩ => ?_) hs
  subst ex
  obtain rfl : ov = Value.ref a := rx
  exact setattr_ok I2 ea c n l ry fun s3 I3 => ⟨σ, _, I3, q2⟩
end

section
variable {X : Cx} {pins : List (Addr × Obj)} {σ : St} {H : Hp} {s : Shared} {A : Around} {E : Value → Shared → Prop} {Q : Value → Shared → Prop} {c : Value} {b : Bool}
inductive TyOf (K : PySem.W.Frag) (H : Hp) : V → Value → Prop where
  | non : TyOf K H .non (.type "NoneType")
  | bl (x : Bool) : TyOf K H (.bl x) (.type "bool")
  | int (i : Int) : TyOf K H (.int i) (.type "int")
  | str (x : Str) : TyOf K H (.str x) (.type "str")
  | flt (x : UInt64) : TyOf K H (.flt x) (.type "float")
  | lst {a : Addr} {xs : List V} (e : H a = some (.lst xs)) : TyOf K H (.ref a) (.type "list")
  | frz {a : Addr} {o : Obj} {xs : List V} (e : H a = some (.frz o (.lst xs))) : TyOf K H (.ref a) (.type "list")
  | tup {a : Addr} {xs : List V} (e : H a = some (.tup xs)) : TyOf K H (.ref a) (.type "tuple")
  | dK {a : Addr} {kvs : List (Key × V)} (e : H a = some (.dK kvs)) : TyOf K H (.ref a) (.type "dict")
  | dT {a : Addr} {kvs : List (List Key × V)} (e : H a = some (.dT kvs)) : TyOf K H (.ref a) (.type "dict")
  | ins {a C dx : Addr} {fs : List (Str × V)} (e : H a = some (.ins C dx fs)) (cl : Cls K C) (ha : PySem.W.findIn K (.ref C) "__class__" = some (some (.builtin "object.__class__")))
      (hn : PySem.W.specialIn K (.builtin "object.__class__") "__get__" = some (some (.builtin "getset_descriptor.__get__"))) (htk : PySem.W.takesIn K (.builtin "object.__class__") = some true)
      (hm : PySem.W.mroIn K C (.type "object") = some true) : TyOf K H (.ref a) (.ref C)
theorem isinst_ok {x : V} {u t : Value} (I : Inv X pins σ H s) (rx : RelV x u) (ty : TyOf X.K H x t) (e : PySem.W.kitOne X.K t c = some b) (h : ∀ tk, Q (.bool b) { s with toks := tk }) :
    wpAny (model X.prog X.w) A (call (.builtin "isinstance") [u, c]) Q E s := by
  cases ty with
  | non => cases (show u = Value.none from rx); exact PySem.W.kia_one PySem.W.kitx_none I.kIn True.intro e (fun z => nomatch z) h
  | bl y => cases (show u = Value.bool y from rx); exact PySem.W.kia_one PySem.W.kitx_bool I.kIn True.intro e (fun z => nomatch z) h
  | int i => obtain ⟨t, q⟩ := (show ∃ t, u = Value.int i t from rx); cases q; exact PySem.W.kia_one PySem.W.kitx_int I.kIn True.intro e (fun z => nomatch z) h
  | str y => obtain ⟨t, q⟩ := (show ∃ t, u = Value.str y t from rx); cases q; exact PySem.W.kia_one PySem.W.kitx_str I.kIn True.intro e (fun z => nomatch z) h
  | flt y => obtain ⟨t, q⟩ := (show ∃ t, u = Value.float y t from rx); cases q; exact PySem.W.kia_one PySem.W.kitx_float I.kIn True.intro e (fun z => nomatch z) h
  | @lst a xs ea =>
    cases (show u = Value.ref a from rx)
    obtain ⟨_, _, n, _, h1⟩ := (show ObjOk X.prog X.w H s.heap a (.lst xs) from I.hok a _ ea)
    exact PySem.W.kia_one PySem.W.kitx_list I.kIn ⟨_, h1, rfl⟩ e (fun z => nomatch z) h
  | @frz a ob xs ea =>
    cases (show u = Value.ref a from rx)
    obtain ⟨_, _, _, n, _, h1⟩ := (show ObjOk X.prog X.w H s.heap a (.frz ob (.lst xs)) from I.hok a _ ea)
    exact PySem.W.kia_one PySem.W.kitx_list I.kIn ⟨_, h1, rfl⟩ e (fun z => nomatch z) h
  | @tup a xs ea =>
    cases (show u = Value.ref a from rx)
    obtain ⟨_, _, _, p⟩ := (show ObjOk X.prog X.w H s.heap a (.tup xs) from I.hok a _ ea)
    obtain ⟨o, h1, h2, _⟩ := p
    exact PySem.W.kia_one PySem.W.kitx_tuple I.kIn ⟨o, h1, h2⟩ e (fun z => nomatch z) h
  | @dK a kvs ea =>
    cases (show u = Value.ref a from rx)
    obtain ⟨_, _, vs, _, p⟩ := (show ObjOk X.prog X.w H s.heap a (.dK kvs) from I.hok a _ ea)
    obtain ⟨o, es, ep, h1, h2, _⟩ := p
    exact PySem.W.kia_one PySem.W.kitx_dict I.kIn ⟨o, h1, h2.1⟩ e (fun z => nomatch z) h
  | @dT a kvs ea =>
    cases (show u = Value.ref a from rx)
    obtain ⟨_, _, xs, _, o, es, ep, h1, h2, _⟩ := (show ObjOk X.prog X.w H s.heap a (.dT kvs) from I.hok a _ ea)
    exact PySem.W.kia_one PySem.W.kitx_dict I.kIn ⟨o, h1, h2.1⟩ e (fun z => nomatch z) h
  | @ins a C dx fs ea cl ha hn htk hm =>
    cases (show u = Value.ref a from rx)
    obtain ⟨mA, O, _⟩ := ins_get I.hok ea
    obtain ⟨od, J, _⟩ := O.look
    exact PySem.W.kia_one (PySem.W.kitx_own (cl.get _) cl.hd ha hn htk hm) I.kIn J e (fun z => nomatch z) h
end
end L2

namespace L2
open PySem PySem.Spec PyProof.Rows

structure Room (k : Nat) (A : Around) : Prop where
  hd : A.handled = none
  dp : A.depth + 3 * k + 5 < recursionLimit
  un : A.units + 16 * k + 200 < cLine
theorem Room.mono {j k : Nat} {A : Around} (r : Room k A) (h : j ≤ k) : Room j A := ⟨r.hd, by have := r.dp; omega, by have := r.un; omega⟩
theorem Room.deeper {k : Nat} {A : Around} (r : Room (k + 1) A) (env : Env) : Room k (A.deeper env) :=
  ⟨r.hd, by have := r.dp; show A.depth + 1 + 3 * k + 5 < _; omega, by have := r.un; show A.units + 3 + 16 * k + 200 < _; omega⟩
theorem Room.in1 {k : Nat} {A : Around} (r : Room (k + 1) A) : Room k A.in1 :=
  ⟨r.hd, by have := r.dp; show A.depth + 3 * k + 5 < _; omega, by have := r.un; show A.units + 1 + 16 * k + 200 < _; omega⟩
theorem make_depth {A : Around} {C : Addr} {us : List Value} {kw : List (Str × Value)} : (A.under (.builtin "type.__call__" ⟨.ref C :: us, kw⟩)).depth = A.depth + 1 := by
  first | rfl | simp [Around.under, Code.weight, Code.isCreation, Code.isGuard, Code.isCaller, Code.frames, Code.isFrame, guardIds]
theorem make_units {A : Around} {C : Addr} {us : List Value} {kw : List (Str × Value)} : (A.under (.builtin "type.__call__" ⟨.ref C :: us, kw⟩)).units = A.units + 1 := by
  first | rfl | simp [Around.under, Code.cUnits, Code.frames, Code.isFrame]
theorem Room.make {k : Nat} {A : Around} (r : Room (k + 1) A) (C : Addr) (us : List Value) (kw : List (Str × Value)) : Room k (A.under (.builtin "type.__call__" ⟨.ref C :: us, kw⟩)) :=
  ⟨r.hd, by have := r.dp; rw [make_depth]; omega, by have := r.un; rw [make_units]; omega⟩
theorem Room.depth {k : Nat} {A : Around} (r : Room k A) : A.depth < recursionLimit := by have := r.dp; omega
theorem Room.units {k : Nat} {A : Around} (r : Room k A) : A.units + 64 < cLine := by have := r.un; omega
def tNil : TA := fun _ H Q => Q [] H
def tCons (ta : TE) (tr : TA) : TA := fun σ H Q => ta σ H fun x H1 => tr σ H1 fun xs H2 => Q (x :: xs) H2
section
variable {X : Cx} {e : Expr} {es : List Expr} {te : TE} {t : TA} {pos : Pos}
theorem pa_nil : PA X [] tNil := fun _ _ _ _ H Q I h => Calls.spliced_nil ⟨[], H, I, .nil, h⟩
theorem pa_cons (ha : PE X e te) (hr : PA X es t) (hs : starEach (e :: es) X.env = (false, eval e X.env) :: starEach es X.env := by rfl) : PA X (e :: es) (tCons te t) := by
  intro pos pins s σ H Q I h
  rw [hs]
  show wpAny _ _ (spliced ((false, eval e X.env) :: backTo pos (starEach es X.env))) _ _ s
  refine Calls.spliced_cons (thn (ha pins s σ H _ I h) fun u s1 ⟨x, H1, I1, r1, q1⟩ => ?_)
  exact thn (hr pos pins s1 σ H1 _ I1 q1) fun us s2 ⟨xs, H2, I2, r2, q2⟩ => ⟨x :: xs, H2, I2, .cons r1 r2, q2⟩

def tTup (t : TA) : TE := fun σ H Q => t σ H fun xs H1 => xs.length ≤ sizeLine ∧ ∀ p, H1 p = none → Q (.ref p) (upd H1 p (.tup xs))
def tLst (t : TA) : TE := fun σ H Q => t σ H fun xs H1 => xs.length ≤ sizeLine ∧ ∀ p, H1 p = none → Q (.ref p) (upd H1 p (.lst xs))
theorem pe_tup {x1} (h : PA X es t) : PE X (.Tuple es x1 pos) (tTup t) := by
  intro pins s σ H Q I hq
  refine wpAny_Tuple_spliced (thn (h pos pins s σ H _ I hq) fun us s1 ⟨xs, H1, I1, r, z, q⟩ => ⟨by rw [← r.length]; exact z, ?_⟩)
  have hf : H1 s1.heap.objs.size = none := I1.hok.fresh (Nat.le_refl _)
  refine ⟨.ref s1.heap.objs.size, upd H1 s1.heap.objs.size (.tup xs), I1.laid (t' := s1.toks) (fun b u e => Heap.get?_push_of_some _ e) (Nat.le_refl _) ?_, rfl, q _ hf⟩
  exact ⟨z, us, r, ⟨_, Heap.get?_push_size _ rfl, rfl, _, rfl⟩⟩
theorem pe_lst (h : PA X es t) : PE X (.List es pos) (tLst t) := by
  intro pins s σ H Q I hq
  refine wpAny_List_spliced (thn (h pos pins s σ H _ I hq) fun us s1 ⟨xs, H1, I1, r, z, q⟩ => ⟨by rw [← r.length]; exact z, ?_⟩)
  have hf : H1 s1.heap.objs.size = none := I1.hok.fresh (Nat.le_refl _)
  refine ⟨.ref s1.heap.objs.size, upd H1 s1.heap.objs.size (.lst xs), I1.laid (t' := s1.toks) (fun b u e => Heap.get?_push_of_some _ e) (Nat.le_refl _) ?_, rfl, q _ hf⟩
  exact ⟨z, us, 0, r, Heap.get?_push_size _ rfl⟩
end

abbrev Sp := List V → Hp → VK → XK → Prop
abbrev CXT := List Env → Hp → Shared → XK → Value → Shared → Prop

structure Env0 (P : Program) (w : World) (K : PySem.W.Frag) (mg : Str → Option Value) (base : Heap) (A : Around) (outer : List Env) (s : Shared) (H : Hp) : Prop where
  frames : A.frames = some outer
  mod : Mod K mg base
  bs : ∀ b o, base.get? b = some o → s.heap.get? b = some o ∧ H b = none
  bsz : base.objs.size ≤ s.heap.objs.size
  funs : s.heap.FunFrames base outer
  frf : ∀ b ∈ frs outer, H b = none
  hok : HOk P w H s.heap
  bare : AllBare s.gens
def CE (outer : List Env) (P : Program) (w : World) (H : Hp) (s : Shared) (Q : VK) (u : Value) (s' : Shared) : Prop :=
  ∃ v H', s'.os = s.os ∧ AllBare s'.gens ∧ Un (frs outer) [] H H' s.heap s'.heap ∧ HOk P w H' s'.heap ∧ RelV v u ∧ Q v H'
def CR (CX : CXT) (outer : List Env) (P : Program) (w : World) (H : Hp) (s : Shared) (Q : VK) (E : XK) (r : Result) (s' : Shared) : Prop :=
  match r with
  | .ok (.ret u) => CE outer P w H s Q u s'
  | .ok _ => False
  | .error e => CX outer H s E e s'
structure FnOk (P : Program) (w : World) (K : PySem.W.Frag) (mg : Str → Option Value) (base : Heap) (CX : CXT) (k : Nat) (f : Addr) (fd : FuncData) (ps : List Str) (sp : Sp) : Prop where
  len : ∀ vs H Q E, sp vs H Q E → vs.length = ps.length
  run : ∀ (A : Around) (outer : List Env) (s : Shared) (H : Hp) (args : Args) (us : List Value) (vs : List V) (Q : VK) (E : XK), Room k A → Env0 P w K mg base A outer s H → BindsTo s fd args (ps.zip us) → Vals vs us → sp vs H Q E →
    codeAny (model P w) A (.call (.ref f) args) (CR CX outer P w H s Q E) s
theorem FnOk.mono {P : Program} {w : World} {K : PySem.W.Frag} {mg : Str → Option Value} {base : Heap} {CX : CXT} {j k : Nat} {f : Addr} {fd : FuncData} {ps : List Str} {sp : Sp} (F : FnOk P w K mg base CX j f fd ps sp) (h : j ≤ k) :
    FnOk P w K mg base CX k f fd ps sp := ⟨F.len, fun A outer s H args us vs Q E hr => F.run A outer s H args us vs Q E (hr.mono h)⟩
theorem Env0.make {P : Program} {w : World} {K : PySem.W.Frag} {mg : Str → Option Value} {base : Heap} {A : Around} {outer : List Env} {s : Shared} {H : Hp} (e : Env0 P w K mg base A outer s H) (C : Addr) (us : List Value) (kw : List (Str × Value)) :
    Env0 P w K mg base (A.under (.builtin "type.__call__" ⟨.ref C :: us, kw⟩)) outer s H := ⟨by first | exact e.frames | (simpa [Around.under, Code.envs, Code.isFrame, pushEnvs] using e.frames), e.mod, e.bs, e.bsz, e.funs, e.frf, e.hok, e.bare⟩
theorem Env0.in1 {P : Program} {w : World} {K : PySem.W.Frag} {mg : Str → Option Value} {base : Heap} {A : Around} {outer : List Env} {s : Shared} {H : Hp} (e : Env0 P w K mg base A outer s H) :
    Env0 P w K mg base A.in1 outer s H := ⟨e.frames, e.mod, e.bs, e.bsz, e.funs, e.frf, e.hok, e.bare⟩

section
variable {X : Cx} {pins : List (Addr × Obj)} {σ : St} {H : Hp} {s s' : Shared}
theorem Inv.env0 (I : Inv X pins σ H s) : Env0 X.prog X.w X.K X.mg X.base X.A X.stack s H :=
  ⟨I.ok.frames, I.ok.mod, I.bs, Nat.le_trans I.ok.bsz I.sz, I.stack, I.stkFree, I.hok, I.bare⟩
theorem Inv.after {Q : VK} {u : Value} (I : Inv X pins σ H s) (h : CE X.stack X.prog X.w H s Q u s') : EP X pins σ Q u s' := by
  obtain ⟨v, H', os, bare, un, hok, r, q⟩ := h
  obtain ⟨hh, g, d, t, os'⟩ := s'
  obtain rfl : os' = s.os := os
  exact ⟨v, H', I.call (h' := hh) (g' := g) (d' := d) (t' := t) (ch := []) un hok bare (fun b z => absurd z (by simp)), r, q⟩
end

def tCall (sp : Sp) (dvs : List V) (E : XK) (t : TA) : TE := fun σ H Q => t σ H fun vs H1 => sp (vs ++ dvs) H1 Q E
def tMake (C : Addr) (sp : Sp) (dvs : List V) (E : XK) (t : TA) : TE := fun σ H Q => t σ H fun vs H1 => ∀ x dx, H1 x = none → H1 dx = none → dx ≠ x →
  sp (.ref x :: (vs ++ dvs)) (upd (upd H1 dx (.own x)) x (.ins C dx [])) (fun v H2 => v = .non ∧ Q (.ref x) H2) E

def Binds (K : PySem.W.Frag) (fd : FuncData) (ps : List Str) (ds : List Value) : Prop :=
  ∀ (s : Shared) (us : List Value), K.In s.heap → (us ++ ds).length = ps.length → BindsTo s fd ⟨us, []⟩ (ps.zip (us ++ ds))
theorem Binds.all {K : PySem.W.Frag} {fd : FuncData} {ps : List Str} (h : ∀ us : List Value, us.length = ps.length → bindArgs fd ⟨us, []⟩ = pure (ps.zip us)) : Binds K fd ps [] := fun s us _ hl => by
  rw [List.append_nil] at hl ⊢
  exact .of_eq (h us hl)

def Passes (CX : CXT) (X : Cx) (E : XK) : Prop := ∀ (pins : List (Addr × Obj)) (σ : St) (H : Hp) (s : Shared) (e : Value) (s' : Shared), Inv X pins σ H s → CX X.stack H s E e s' → X.xe e s'

section
variable {X : Cx} {CX : CXT} {k : Nat} {f C : Addr} {fd : FuncData} {ps : List Str} {sp : Sp} {dvs : List V} {ds : List Value} {E : XK} {x m : Str} {p pos apos : Pos} {e o : Expr} {es : List Expr} {ta : TE} {t : TA}

theorem run_fn {pins : List (Addr × Obj)} {σ : St} {H : Hp} {s : Shared} {Q : VK} {us : List Value} {vs : List V} (F : FnOk X.prog X.w X.K X.mg X.base CX k f fd ps sp) (hr : Room k X.A) (hb : Binds X.K fd ps ds) (hd : Vals dvs ds) (hx : Passes CX X E)
    (I : Inv X pins σ H s) (r : Vals vs us) (h : sp (vs ++ dvs) H Q E) : wpAny (model X.prog X.w) X.A (call (.ref f) us) (EP X pins σ Q) X.xe s := by
  have r2 : Vals (vs ++ dvs) (us ++ ds) := r.append hd
  have hl : (us ++ ds).length = ps.length := by rw [← r2.length]; exact F.len _ _ _ _ h
  refine wpAny_call (codeAny_mono (F.run X.A X.stack s H ⟨us, []⟩ (us ++ ds) (vs ++ dvs) Q E hr I.env0 (hb s us I.kIn hl) r2 h) fun r s' hq => ?_)
  cases r with
  | error e => exact hx pins σ H s e s' I hq
  | ok fl =>
    cases fl with
    | ret u => exact I.after hq
    | next => exact False.elim hq
    | brk => exact False.elim hq
    | cont => exact False.elim hq

theorem pe_call (F : FnOk X.prog X.w X.K X.mg X.base CX k f fd ps sp) (hr : Room k X.A) (hg : Gl X x) (hm : X.mg x = some (.ref f)) (hk : PySem.W.keepIn X.K (.ref f) = true) (hb : Binds X.K fd ps ds) (hd : Vals dvs ds) (hx : Passes CX X E)
    (ha : PA X (e :: es) t) (hdb : (x == ("__debug__" : Str)) = false := by decide) (he : starEach (e :: es) X.env = (false, eval e X.env) :: starEach es X.env := by rfl) (hpl : (backTo pos (starEach es X.env)).any (·.1) = false := by rfl) :
    PE X (.Call (.Name x p) (e :: es) [] pos) (tCall sp dvs E t) := by
  intro pins s σ H Q I h
  refine wpAny_Call_Name_kw (ld_glob I hg hm ?_ hdb)
  refine PySem.W.callWith_K (h₀ := X.base) I.ok.mod.kin hk (thn (ha pos pins s σ H _ I h) fun us s1 ⟨vs, H1, I1, r, q⟩ => ⟨I1.kIn, ?_⟩) he hpl
  exact run_fn F hr hb hd hx I1 r q
theorem pe_call0 (F : FnOk X.prog X.w X.K X.mg X.base CX k f fd ps sp) (hr : Room k X.A) (hg : Gl X x) (hm : X.mg x = some (.ref f)) (hk : PySem.W.keepIn X.K (.ref f) = true) (hb : Binds X.K fd ps ds) (hd : Vals dvs ds) (hx : Passes CX X E)
    (hdb : (x == ("__debug__" : Str)) = false := by decide) : PE X (.Call (.Name x p) [] [] pos) (tCall sp dvs E tNil) := by
  intro pins s σ H Q I h
  refine wpAny_Call_Name_kw (ld_glob I hg hm ?_ hdb)
  exact PySem.W.callWith_K0 I.kIn hk (run_fn (us := []) F hr hb hd hx I .nil h)

structure Mk (K : PySem.W.Frag) (C f : Addr) : Prop where
  makes : PySem.W.makesIn K C = true
  init : PySem.W.findIn K (.ref C) "__init__" = some (some (.ref f))
  fn : PySem.W.isFn K (.ref f) = true
  kp : PySem.W.keepIn K (.ref C) = true

theorem run_make {pins : List (Addr × Obj)} {σ : St} {H : Hp} {s : Shared} {Q : VK} {us : List Value} {vs : List V} (M : Mk X.K C f) (F : FnOk X.prog X.w X.K X.mg X.base CX k f fd ps sp) (hr : Room (k + 1) X.A) (hb : Binds X.K fd ps ds) (hd : Vals dvs ds)
    (hx : Passes CX X E) (I : Inv X pins σ H s) (r : Vals vs us)
    (h : ∀ x dx, H x = none → H dx = none → dx ≠ x → sp (.ref x :: (vs ++ dvs)) (upd (upd H dx (.own x)) x (.ins C dx [])) (fun v H2 => v = .non ∧ Q (.ref x) H2) E) :
    wpAny (model X.prog X.w) X.A (call (.ref C) us) (EP X pins σ Q) X.xe s := by
  have hq := h (s.heap.objs.size + 1) s.heap.objs.size (I.hok.fresh (Nat.le_succ _)) (I.hok.fresh (Nat.le_refl _)) (Nat.ne_of_lt (Nat.lt_succ_self _))
  have I2 := Inv.made (C := C) I
  have r2 : Vals (V.ref (s.heap.objs.size + 1) :: (vs ++ dvs)) (Value.ref (s.heap.objs.size + 1) :: (us ++ ds)) := .cons rfl (r.append hd)
  have hl : (Value.ref (s.heap.objs.size + 1) :: us ++ ds).length = ps.length := by
    have e := r2.length
    rw [F.len _ _ _ _ hq] at e
    exact e.symm
  refine wpAny_call (make_map (f := f) I.kIn M.makes M.init (beq_iff_eq.mp M.fn) (codeAny_mono (F.run _ X.stack _ _ ⟨Value.ref (s.heap.objs.size + 1) :: us, []⟩ (Value.ref (s.heap.objs.size + 1) :: (us ++ ds)) _ _ E (hr.make C us [])
    (I2.env0.make C us []) (hb _ (Value.ref (s.heap.objs.size + 1) :: us) I2.kIn hl) r2 hq) fun r s' hq' => ?_))
  cases r with
  | error e => exact hx pins σ _ _ e s' I2 hq'
  | ok fl =>
    cases fl with
    | ret u =>
      obtain ⟨v, H', I3, rv, ev, q3⟩ := I2.after hq'
      subst ev
      exact ⟨rv, ⟨V.ref (s.heap.objs.size + 1), H', I3, rfl, q3⟩⟩
    | next => exact False.elim hq'
    | brk => exact False.elim hq'
    | cont => exact False.elim hq'
theorem pe_make (M : Mk X.K C f) (F : FnOk X.prog X.w X.K X.mg X.base CX k f fd ps sp) (hr : Room (k + 1) X.A) (hg : Gl X x) (hm : X.mg x = some (.ref C)) (hb : Binds X.K fd ps ds) (hd : Vals dvs ds) (hx : Passes CX X E)
    (ha : PA X (e :: es) t) (hdb : (x == ("__debug__" : Str)) = false := by decide) (he : starEach (e :: es) X.env = (false, eval e X.env) :: starEach es X.env := by rfl) (hpl : (backTo pos (starEach es X.env)).any (·.1) = false := by rfl) :
    PE X (.Call (.Name x p) (e :: es) [] pos) (tMake C sp dvs E t) := by
  intro pins s σ H Q I h
  refine wpAny_Call_Name_kw (ld_glob I hg hm ?_ hdb)
  refine PySem.W.callWith_K (h₀ := X.base) I.ok.mod.kin M.kp (thn (ha pos pins s σ H _ I h) fun us s1 ⟨vs, H1, I1, r, q⟩ => ⟨I1.kIn, ?_⟩) he hpl
  exact run_make M F hr hb hd hx I1 r q
end

section
variable {X : Cx} {CX : CXT} {k : Nat} {f C : Addr} {fd : FuncData} {ps ks : List Str} {sp : Sp} {E : XK} {x m : Str} {p pos apos kpos : Pos} {e o : Expr} {es : List Expr} {kws : List Keyword} {te ta : TE} {t tk : TA} {nm : Option Str}
variable {g : List Value → List Value → List Value} {gV : List V → List V → List V}
end

structure FnScope (N P : List Str) (sc : Scope) : Prop where
  kind : sc.kind = .function
  co : sc.isCoroutine = false
  gen : sc.isGenerator = false
  nd : N.Nodup
  pre : N.take P.length = P
  par : ∀ x ∈ P, sc.names.lookup x = some .local ∨ sc.names.lookup x = some .cell
  nofree : ∀ y ∈ sc.names, y.2 ≠ .free

theorem bindL_out {kindOf : Str → Option NameKind} {x : Str} : ∀ {binds : List (Str × Value)} {m : Str → Option Value}, (∀ v, (x, v) ∉ binds) → bindL kindOf binds m x = m x
  | [], _, _ => rfl
  | (n, v) :: r, m, h => by
    unfold bindL
    rw [bindL_out fun w hw => h w (List.mem_cons_of_mem _ hw)]
    split
    · have : x ≠ n := by rintro rfl; exact h v List.mem_cons_self
      simp [this]
    · rfl
theorem bindC_out {kindOf : Str → Option NameKind} {x : Str} : ∀ {binds : List (Str × Value)} {m : Str → Option Value}, (∀ v, (x, v) ∉ binds) → bindC kindOf binds m x = m x
  | [], _, _ => rfl
  | (n, v) :: r, m, h => by
    unfold bindC
    rw [bindC_out fun w hw => h w (List.mem_cons_of_mem _ hw)]
    split
    · rfl
    · have : x ≠ n := by rintro rfl; exact h v List.mem_cons_self
      simp [this]
theorem bindL_get {kindOf : Str → Option NameKind} {x : Str} {v : Value} : ∀ {P : List Str} {vs : List Value} {i : Nat} {m : Str → Option Value}, P.Nodup → P[i]? = some x → vs[i]? = some v → kindOf x = some .local →
    bindL kindOf (P.zip vs) m x = some v
  | [], _, _, _, _, h, _, _ => by simp at h
  | _ :: _, [], _, _, _, _, h, _ => by simp at h
  | p :: P, w :: vs, 0, m, nd, h1, h2, hk => by
    simp at h1 h2; subst h1; subst h2
    show bindL kindOf ((p, w) :: P.zip vs) m p = _
    unfold bindL
    rw [bindL_out fun v hv => (List.nodup_cons.mp nd).1 (List.of_mem_zip hv).1, if_pos hk]
    simp
  | p :: P, w :: vs, i + 1, m, nd, h1, h2, hk => by
    show bindL kindOf ((p, w) :: P.zip vs) m x = _
    unfold bindL
    exact bindL_get (i := i) (List.nodup_cons.mp nd).2 (by simpa using h1) (by simpa using h2) hk
theorem bindC_get {kindOf : Str → Option NameKind} {x : Str} {v : Value} : ∀ {P : List Str} {vs : List Value} {i : Nat} {m : Str → Option Value}, P.Nodup → P[i]? = some x → vs[i]? = some v → kindOf x ≠ some .local →
    bindC kindOf (P.zip vs) m x = some v
  | [], _, _, _, _, h, _, _ => by simp at h
  | _ :: _, [], _, _, _, _, h, _ => by simp at h
  | p :: P, w :: vs, 0, m, nd, h1, h2, hk => by
    simp at h1 h2; subst h1; subst h2
    show bindC kindOf ((p, w) :: P.zip vs) m p = _
    unfold bindC
    rw [bindC_out fun v hv => (List.nodup_cons.mp nd).1 (List.of_mem_zip hv).1, if_neg hk]
    simp
  | p :: P, w :: vs, i + 1, m, nd, h1, h2, hk => by
    show bindC kindOf ((p, w) :: P.zip vs) m x = _
    unfold bindC
    exact bindC_get (i := i) (List.nodup_cons.mp nd).2 (by simpa using h1) (by simpa using h2) hk

def start (N : List Str) (vs : List V) : St := vs.map some ++ List.replicate (N.length - vs.length) none

def cxOf (CX : CXT) (P : Program) (w : World) (K : PySem.W.Frag) (mg : Str → Option Value) (base : Heap) (N : List Str) (qual : Str) (scope : Scope) (f : Addr) (cd : Value) (A : Around) (outer : List Env) (s : Shared) (H : Hp) (E : XK) : Cx where
  prog := P
  w := w
  K := K
  mg := mg
  base := base
  A := A.deeper (envOfC qual scope s.heap.objs.size f cd)
  N := N
  s₀ := s
  H₀ := H
  env := envOfC qual scope s.heap.objs.size f cd
  outer := outer
  stack := envOfC qual scope s.heap.objs.size f cd :: outer
  ex := []
  calm := true
  fn := fun _ => true
  pn := []
  xe := fun e s' => wpAny (model P w) (A.deeper (envOfC qual scope s.heap.objs.size f cd)) (leaving (envOfC qual scope s.heap.objs.size f cd) e) (fun _ s'' => CX outer H s E e s'') (fun e' s'' => CX outer H s E e' s'') s'

theorem cell_has {sc : Scope} {n : Nat} {x : Str} (h : sc.names.lookup x = some .cell) : ∃ c, (cellsFrom n sc.names []).lookup x = some c := by
  have q := PySem.W.cellsFrom_some sc.names n [] (.inl h)
  exact Option.isSome_iff_exists.mp q

theorem inv_start {CX : CXT} {P : Program} {w : World} {K : PySem.W.Frag} {mg : Str → Option Value} {base : Heap} {N ps : List Str} {qual : Str} {scope : Scope} {f : Addr} {cd : Value} {A : Around} {outer : List Env} {s s1 : Shared} {H : Hp} {E : XK} {us : List Value} {vs : List V}
    (S : FnScope N ps scope) (hd : A.handled = none) (e0 : Env0 P w K mg base A outer s H) (hl : vs.length = ps.length) (r : Vals vs us)
    (x : InCallC s s.heap.objs.size (bindL (envOfC qual scope s.heap.objs.size f cd).kindOf (ps.zip us) fun _ => none) (cellsFrom (s.heap.objs.size + 1) scope.names []) (bindC (envOfC qual scope s.heap.objs.size f cd).kindOf (ps.zip us) fun _ => none) s1) :
    Inv (cxOf CX P w K mg base N qual scope f cd A outer s H E) [] (start N vs) H s1 := by
  have hpl : ps.length ≤ N.length := by have := congrArg List.length S.pre; rw [List.length_take] at this; omega
  obtain ⟨h1, tk, rfl, hk⟩ := x.done
  have noA : ∀ b : Addr, b ∉ (cxOf CX P w K mg base N qual scope f cd A outer s H E).ex := fun b z => absurd (show b ∈ ([] : List Addr) from z) (by simp)
  refine ⟨⟨e0.mod, S.kind, rfl, rfl, Nat.le_refl _, fun y z c h1 h2 => ?_, fun y hy => ?_, fun y c _ h => ?_, fun _ => hd, Around.frames_deeper e0.frames, .inr ⟨rfl, rfl⟩, fun b z => absurd z (noA b), e0.bs, e0.bsz, fun b _ _ => noA b, fun b z => absurd z (noA b), e0.funs, e0.frf⟩,
    rfl, e0.bare, Un.kept hk, ⟨_, x.toInCall.ns, fun i y v h1 h2 h3 => ?_⟩, fun y c h => ⟨_, x.cell y c h⟩, e0.hok.fresh (Nat.le_refl _), fun y c h => ?_, fun p hp => absurd (show p ∈ ([] : List (Addr × Obj)) from hp) (by simp), e0.hok.kept hk, ?_⟩
  · exact name_of_addr x.apart (PySem.mem_of_lookup h1) (PySem.mem_of_lookup h2)
  · have hy : scope.names.lookup y = some .cell ∨ scope.names.lookup y = some .free := hy
    rcases hy with hy | hy
    · exact cell_has hy
    · exact absurd rfl (S.nofree _ (PySem.mem_of_lookup hy))
  · exact Nat.le_of_lt (x.above y c (PySem.mem_of_lookup h))
  · have hi : i < vs.length := by
      unfold start at h2
      by_cases hi : i < vs.length
      · exact hi
      · rw [List.getElem?_append_right (by simpa using hi)] at h2
        rw [List.getElem?_replicate] at h2
        split at h2 <;> cases h2
    have ha : vs[i]? = some v := by
      unfold start at h2
      rw [List.getElem?_append_left (by simpa using hi), List.getElem?_map] at h2
      cases e : vs[i]? with
      | none => rw [e] at h2; cases h2
      | some a => rw [e] at h2; cases h2; rfl
    obtain ⟨u, hu, rv⟩ := r.get ha
    have hp : ps[i]? = some y := by
      rw [← S.pre, List.getElem?_take_of_lt (by omega)]; exact h1
    have ndP : ps.Nodup := by rw [← S.pre]; exact S.nd.sublist (List.take_sublist _ _)
    refine ⟨u, rv, ?_⟩
    rcases S.par y (List.mem_of_getElem? hp) with k | k
    · exact .inl ⟨k, bindL_get ndP hp hu k⟩
    · obtain ⟨c, e⟩ := cell_has (n := s.heap.objs.size + 1) k
      refine .inr ⟨.inl k, c, e, ?_⟩
      have q := x.cell y c e
      rw [bindC_get ndP hp hu (by show scope.names.lookup y ≠ _; rw [k]; decide)] at q
      exact q
  · exact e0.hok.fresh (Nat.le_of_lt (x.above y c (PySem.mem_of_lookup h)))
  · unfold start
    show _ = N.length
    rw [List.length_append, List.length_map, List.length_replicate]
    omega

theorem fn_of {CX : CXT} {P : Program} {w : World} {K : PySem.W.Frag} {mg : Str → Option Value} {base : Heap} {k : Nat} {f : Addr} {name qual : Str} {params : Arguments} {body : List Stmt} {scope : Scope} {dV kV doc pm cdv ct oc : Value} {an od : Option Addr}
    {osl : Array (Option Value)} {N ps : List Str} {sp : Sp} (lk : K.lookup f = some ⟨oc, od, .func (PySem.W.fnOf name qual params body scope dV kV doc pm an cdv ct), osl⟩) (hcd : PySem.W.codeIn K cdv qual = true) (S : FnScope N ps scope)
    (len : ∀ vs H Q E, sp vs H Q E → vs.length = ps.length)
    (hbody : ∀ (A : Around) (outer : List Env) (s : Shared) (H : Hp) (vs : List V) (Q : VK) (E : XK), Room k (A.deeper (envOfC qual scope s.heap.objs.size f cdv)) → sp vs H Q E →
      ∃ t, PSs (cxOf CX P w K mg base N qual scope f cdv A outer s H E) body t ∧ t { nx := fun _ H' => Q .non H', rt := Q } (start N vs) H) :
    FnOk P w K mg base CX (k + 1) f (PySem.W.fnOf name qual params body scope dV kV doc pm an cdv ct) ps sp := by
  refine ⟨len, fun A outer s H args us vs Q E hr e0 hb r hsp => ?_⟩
  have hl := len _ _ _ _ hsp
  have KX : K.In s.heap := e0.mod.kin.keeps fun b o e => (e0.bs b o e).1
  have lim : s.heap.NoLimit := e0.mod.nolimit.keeps fun b o e => (e0.bs b o e).1
  have hkind : ∀ y ∈ ps.zip us, scope.names.lookup y.1 = some .local ∨ (scope.names.lookup y.1 = some .cell ∧ ((cellsFrom (s.heap.objs.size + 1) scope.names []).lookup y.1).isSome = true) := fun ⟨n, v⟩ hy => by
    rcases S.par n (List.of_mem_zip hy).1 with q | q
    · exact .inl q
    · exact .inr ⟨q, PySem.W.cellsFrom_some _ _ _ (.inl q)⟩
  refine codeAny_call_function hr.depth (KX _ _ lk) rfl S.co S.gen rfl (PySem.W.codeRec_of KX hcd) (hb _ _ _ _ ?_)
  refine wpAny_newFunctionEnv_cells S.kind hkind fun env he s1 x => ?_
  subst he
  refine ⟨lim.keeps x.toInCall.keep, codeAny_func ?_⟩
  obtain ⟨t, ht, hq⟩ := hbody A outer s H vs Q E (hr.deeper _) hsp
  have I : Inv (cxOf CX P w K mg base N qual scope f cdv A outer s H E) [] (start N vs) H s1 := inv_start S hr.hd e0 hl r x
  refine wpAny_mono (ht [] s1 (start N vs) H _ I hq) (fun fl s' hs => ?_) fun e s' hs => hs
  have fin : ∀ {σ' : St} {H' : Hp} {v : V} {u : Value}, Inv (cxOf CX P w K mg base N qual scope f cdv A outer s H E) [] σ' H' s' → RelV v u → Q v H' → CE outer P w H s Q u s' :=
    fun {σ' H' v u} J rv q => ⟨v, H', J.os, J.bare, J.base, J.hok, rv, q⟩
  cases fl with
  | ret u =>
    obtain ⟨v, σ', H', J, rv, q⟩ := hs
    exact fin J rv q
  | next =>
    obtain ⟨σ', H', J, q⟩ := hs
    exact fin (v := V.non) (u := Value.none) J rfl q
  | brk =>
    obtain ⟨_, _, _, q⟩ := hs
    exact False.elim q
  | cont =>
    obtain ⟨_, _, _, q⟩ := hs
    exact False.elim q
end L2

namespace L2
open PySem PySem.Spec PyProof.Rows
section
variable {X : Cx} {x : Str} {p pos : Pos} {e : Expr} {es : List Expr} {t : TA} {id T : String} {r : List V → Hp → VK → Prop}

def tCB (r : List V → Hp → VK → Prop) (t : TA) : TE := fun σ H Q => t σ H fun vs H1 => r vs H1 Q
theorem pe_callB (hc : CallR X (.builtin id) r) (hg : Gl X x) (hm : X.mg x = none) (hv : bootBuiltins x = some (.builtin id)) (ha : PA X (e :: es) t) (hn : x ≠ "__name__" := by decide) (hdb : (x == ("__debug__" : Str)) = false := by decide)
    (he : starEach (e :: es) X.env = (false, eval e X.env) :: starEach es X.env := by rfl) (hpl : (backTo pos (starEach es X.env)).any (·.1) = false := by rfl) : PE X (.Call (.Name x p) (e :: es) [] pos) (tCB r t) := by
  intro pins s σ H Q I h
  refine wpAny_Call_Name_kw (ld_blt I hg hm hv ?_ hn hdb)
  exact PyProof.Rows.callWith_builtin1 (thn (ha pos pins s σ H _ I h) fun us s1 ⟨vs, H1, I1, r1, q1⟩ => hc pins s1 σ H1 vs us Q I1 r1 q1) he hpl
theorem pe_callTy (hc : CallR X (.type T) r) (hg : Gl X x) (hm : X.mg x = none) (hv : bootBuiltins x = some (.type T)) (ha : PA X (e :: es) t) (hn : x ≠ "__name__" := by decide) (hdb : (x == ("__debug__" : Str)) = false := by decide)
    (he : starEach (e :: es) X.env = (false, eval e X.env) :: starEach es X.env := by rfl) (hpl : (backTo pos (starEach es X.env)).any (·.1) = false := by rfl) : PE X (.Call (.Name x p) (e :: es) [] pos) (tCB r t) := by
  intro pins s σ H Q I h
  refine wpAny_Call_Name_kw (ld_blt I hg hm hv ?_ hn hdb)
  exact PyProof.Rows.callWith_type1 (thn (ha pos pins s σ H _ I h) fun us s1 ⟨vs, H1, I1, r1, q1⟩ => hc pins s1 σ H1 vs us Q I1 r1 q1) he hpl
end
end L2

namespace HT
open PySem PyProof.Rows

section
open PySem.SeqAt
open PySem.AutoSeq1 (wpAny_loadPart')
open PySem.MeetsSeq PySem.MeetsSeq2 PySem.MeetsSeq3

end

section
variable {prog : Program} {w : World} {A : Around} {E : Value → Shared → Prop} {s : Shared}

def sIx (n d : Nat) : Option Int → Nat
  | none => d
  | some v => if v < 0 then (v + (n : Int)).toNat else min v.toNat n
theorem sIx_nat (n d k : Nat) : sIx n d (some (k : Int)) = min k n := by
  show (if (k : Int) < 0 then ((k : Int) + (n : Int)).toNat else min (k : Int).toNat n) = min k n
  rw [if_neg (by omega), Int.toNat_natCast]
end
end HT

namespace L2
open PySem PySem.Spec PyProof.Rows

abbrev TO := St → Hp → (Option Int → Hp → Prop) → Prop
def PO (X : Cx) (e : Option Expr) (t : TO) : Prop :=
  ∀ (pins : List (Addr × Obj)) (s : Shared) (σ : St) (H : Hp) (Q : Option Int → Hp → Prop), Inv X pins σ H s → t σ H Q →
    wpAny (model X.prog X.w) X.A (evalPart e X.env) (fun u s' => ∃ o H', Inv X pins σ H' s' ∧ IsPart u o ∧ Q o H') X.xe s
def tNoPart : TO := fun _ H Q => Q none H
def tPart (t : TE) : TO := fun σ H Q => t σ H fun x H1 => ∃ i, x = .int i ∧ Q (some i) H1

section
variable {X : Cx} {e : Expr} {te : TE} {lo hi : Option Expr} {tl th : TO} {pos p2 : Pos}

theorem po_none : PO X none tNoPart := by
  intro pins s σ H Q I h
  rw [evalPart_none]
  exact wpAny_pure ⟨none, H, I, .none, h⟩
theorem po_some (h : PE X e te) : PO X (some e) (tPart te) := by
  intro pins s σ H Q I hw
  rw [evalPart_some]
  refine thn (h pins s σ H _ I hw) fun u s1 ⟨x, H1, I1, r1, q1⟩ => ?_
  obtain ⟨i, rfl, q⟩ := q1
  obtain ⟨t, rfl⟩ := r1
  exact ⟨some i, H1, I1, .int i t, q⟩

def SlR (X : Cx) (r : V → Option Int → Option Int → Hp → VK → Prop) : Prop :=
  ∀ (pins : List (Addr × Obj)) (s : Shared) (σ : St) (H : Hp) (x : V) (v vl vu : Value) (lo hi : Option Int) (sl : Addr) (Q : VK), Inv X pins σ H s → RelV x v → s.heap.IsSliceOf sl vl vu .none → IsPart vl lo → IsPart vu hi → r x lo hi H Q →
    ∃ T id, typeLookup (.type T) "__getitem__" = pure (some (.builtin id)) ∧ s.TypeIs v T ∧ wpAny (model X.prog X.w) X.A (getItem v (.ref sl)) (EP X pins σ Q) X.xe s
theorem SlR.or {r r' : V → Option Int → Option Int → Hp → VK → Prop} (h : SlR X r) (h' : SlR X r') : SlR X (fun x lo hi H Q => r x lo hi H Q ∨ r' x lo hi H Q) := by
  intro pins s σ H x v vl vu lo hi sl Q I rx hs pl pu q
  rcases q with q | q
  · exact h pins s σ H x v vl vu lo hi sl Q I rx hs pl pu q
  · exact h' pins s σ H x v vl vu lo hi sl Q I rx hs pl pu q
def tSl (r : V → Option Int → Option Int → Hp → VK → Prop) (te : TE) (tl th : TO) : TE := fun σ H Q => te σ H fun x H1 => tl σ H1 fun l H2 => th σ H2 fun u H3 => r x l u H3 Q
theorem pe_slice {r : V → Option Int → Option Int → Hp → VK → Prop} (hr : SlR X r) (he : PE X e te) (hl : PO X lo tl) (hu : PO X hi th) : PE X (.Subscript e (.Slice lo hi none p2) pos) (tSl r te tl th) := by
  intro pins s σ H Q I h
  refine Subscript_ (thn (he pins s σ H _ I h) fun v s1 ⟨x, H1, I1, r1, q1⟩ => ?_)
  refine wpAny_Slice (thn (hl pins s1 σ H1 _ I1 q1) fun vl s2 ⟨l, H2, I2, pl, q2⟩ => thn (hu pins s2 σ H2 _ I2 q2) fun vu s3 ⟨u, H3, I3, pu, q3⟩ => ?_)
  rw [evalPart_none]
  refine wpAny_pure ?_
  have I4 : Inv X pins σ H3 { s3 with heap := s3.heap.push { cls := .type "slice", data := .fields #[vl, vu, .none] } } := I3.kept (t' := s3.toks) fun b ob q => Heap.get?_push_of_some _ q
  obtain ⟨T, id, hT, ht, hg⟩ := hr pins { s3 with heap := s3.heap.push { cls := .type "slice", data := .fields #[vl, vu, .none] } } σ H3 x v vl vu l u s3.heap.objs.size Q I4 r1 (Heap.IsSliceOf.new ..) pl pu q3
  show wpAny (model X.prog X.w) X.A (subscriptTail e (.Slice lo hi none p2) v (.ref s3.heap.objs.size)) (EP X pins σ Q) X.xe { s3 with heap := s3.heap.push { cls := .type "slice", data := .fields #[vl, vu, .none] } }
  exact tail_any (ops := [.ref s3.heap.objs.size, v]) ht hT hg (by with_unfolding_all rfl)

def cutV (xs : List V) (lo hi : Option Int) : List V := (xs.drop (HT.sIx xs.length 0 lo)).take (HT.sIx xs.length xs.length hi - HT.sIx xs.length 0 lo)
theorem cutV_length (xs : List V) (lo hi : Option Int) : (cutV xs lo hi).length ≤ xs.length := by
  unfold cutV
  rw [List.length_take, List.length_drop]
  omega
end
end L2

namespace L2
open PySem PySem.Spec PyProof.Rows

def ixN (n : Nat) (i : Int) : Option Nat := if 0 ≤ i then (if i < n then some i.toNat else none) else if -(n : Int) ≤ i then some (i + n).toNat else none
def atI {α : Type} (xs : List α) (i : Int) : Option α := (ixN xs.length i).bind fun j => xs[j]?
theorem ixN_seq {n : Nat} {i : Int} {j : Nat} (h : ixN n i = some j) : seqIndex? i n = some j ∧ j < n ∧ -(n : Int) ≤ i ∧ i < n := by
  unfold ixN at h
  by_cases h0 : 0 ≤ i
  · rw [if_pos h0] at h
    by_cases h1 : i < n
    · rw [if_pos h1] at h
      have e : i.toNat = j := Option.some.inj h
      exact ⟨by rw [seqIndex_of h0 h1, e], by omega, by omega, h1⟩
    · rw [if_neg h1] at h; cases h
  · rw [if_neg h0] at h
    by_cases h1 : -(n : Int) ≤ i
    · rw [if_pos h1] at h
      have e : (i + n).toNat = j := Option.some.inj h
      exact ⟨by rw [seqIndex_neg (by omega) h1, e], by omega, h1, by omega⟩
    · rw [if_neg h1] at h; cases h
theorem atI_get {α : Type} {xs : List α} {i : Int} {v : α} (h : atI xs i = some v) : ∃ j, seqIndex? i xs.length = some j ∧ xs[j]? = some v ∧ j < xs.length ∧ -(xs.length : Int) ≤ i ∧ i < xs.length := by
  unfold atI at h
  cases e : ixN xs.length i with
  | none => rw [e] at h; cases h
  | some j =>
    rw [e] at h
    obtain ⟨h1, h2, h3, h4⟩ := ixN_seq e
    exact ⟨j, h1, h, h2, h3, h4⟩
theorem atI_nat {α : Type} {xs : List α} {j : Nat} {v : α} (h : xs[j]? = some v) : atI xs (j : Int) = some v := by
  have hj : j < xs.length := (List.getElem?_eq_some_iff.mp h).1
  have e : ixN xs.length (j : Int) = some j := by
    unfold ixN
    rw [if_pos (by omega), if_pos (by omega)]; simp
  unfold atI; rw [e]; exact h
def PlainIx (b : Expr) : Prop := ∀ o i, subscripted b false o i = operate [o, i] (getItem o i)
def IxR (X : Cx) (r : R2) : Prop :=
  ∀ (value slice : Expr) (pins : List (Addr × Obj)) (s : Shared) (σ : St) (H : Hp) (x y : V) (v u : Value) (Q : VK), Inv X pins σ H s → RelV x v → RelV y u → r x y H Q →
    subscripted slice false v u = operate [v, u] (getItem v u) → wpAny (model X.prog X.w) X.A (subscriptTail value slice v u) (EP X pins σ Q) X.xe s
def MtR (X : Cx) (id : String) (r : V → List V → Hp → VK → Prop) : Prop :=
  ∀ (pins : List (Addr × Obj)) (s : Shared) (σ : St) (H : Hp) (x : V) (xs : List V) (v : Value) (us : List Value) (Q : VK), Inv X pins σ H s → RelV x v → Vals xs us → r x xs H Q →
    wpAny (model X.prog X.w) X.A (call (.builtin id) (v :: us)) (EP X pins σ Q) X.xe s
section
variable {X : Cx} {a b : Expr} {ta tb : TE} {pos : Pos}
theorem IxR.or {r r' : R2} (h : IxR X r) (h' : IxR X r') : IxR X (fun x y H Q => r x y H Q ∨ r' x y H Q) := by
  intro value slice pins s σ H x y v u Q I rx ry q hs
  rcases q with q | q
  · exact h value slice pins s σ H x y v u Q I rx ry q hs
  · exact h' value slice pins s σ H x y v u Q I rx ry q hs
theorem MtR.or {id : String} {r r' : V → List V → Hp → VK → Prop} (h : MtR X id r) (h' : MtR X id r') : MtR X id (fun x xs H Q => r x xs H Q ∨ r' x xs H Q) := by
  intro pins s σ H x xs v us Q I rx rs q
  rcases q with q | q
  · exact h pins s σ H x xs v us Q I rx rs q
  · exact h' pins s σ H x xs v us Q I rx rs q
theorem pe_ix {r : R2} (hr : IxR X r) (ha : PE X a ta) (hb : PE X b tb) (hs : PlainIx b) : PE X (.Subscript a b pos) (tOp r ta tb) := by
  intro pins s σ H Q I h
  exact Subscript_ (binT ha hb I h fun v u s2 x y H2 I2 rx ry q => hr a b pins s2 σ H2 x y v u Q I2 rx ry q (hs _ _))

def rIxL (K : PySem.W.Frag) : R2 := fun x y H Q => ∃ p xs i v, x = .ref p ∧ y = .int i ∧ SqL K H p xs ∧ atI xs i = some v ∧ Q v H
def rIxT (K : PySem.W.Frag) : R2 := fun x y H Q => ∃ p xs i v, x = .ref p ∧ y = .int i ∧ SqT K H p xs ∧ atI xs i = some v ∧ Q v H
def rIxS : R2 := fun x y H Q => ∃ z i c, x = .str z ∧ y = .int i ∧ z.length ≤ sizeLine ∧ atI z.cps.toList i = some c ∧ Q (.str ⟨#[c]⟩) H
theorem ix_list : IxR X (rIxL X.K) := by
  intro value slice pins s σ H x y v u Q I rx ry h hs
  obtain ⟨p, xs, i, z, rfl, rfl, hq, he, q⟩ := h
  cases rx
  obtain ⟨t, rfl⟩ := ry
  obtain ⟨its, r, pl, hz⟩ := I.list hq
  obtain ⟨j, h1, h2, h3, h4, h5⟩ := atI_get he
  obtain ⟨w, ew, rw'⟩ := r.get h2
  have hl := r.length
  have hn := line63
  have fin : EP X pins σ Q w s := ⟨z, H, I, rw', q⟩
  by_cases h0 : 0 ≤ i
  · have hj : i.toNat = j := by
      rw [seqIndex_of h0 h5] at h1
      exact Option.some.inj h1
    exact item_listR pl.isList h0 (by omega) (by rw [hj]; simpa using ew) fin hs
  · have hj : (i + (its.toArray.size : Int)).toNat = j := by
      rw [seqIndex_neg (by omega) h4] at h1
      rw [List.size_toArray, ← hl]
      exact Option.some.inj h1
    exact subscriptTail_builtinR (x := w) pl.isList.typeIs slot_list_getitem.lookup
      (wpAny_getItem_list_neg (Q := fun r s' => r = w ∧ EP X pins σ Q r s') pl.isList (by omega) (by rw [List.size_toArray] <;> omega) (by omega) (by rw [hj]; simpa using ew) ⟨rfl, fin⟩) hs
theorem ix_tup : IxR X (rIxT X.K) := by
  intro value slice pins s σ H x y v u Q I rx ry h hs
  obtain ⟨p, xs, i, z, rfl, rfl, hq, he, q⟩ := h
  cases rx
  obtain ⟨t, rfl⟩ := ry
  obtain ⟨its, r, pl, hz⟩ := I.tuple hq
  obtain ⟨j, h1, h2, h3, h4, h5⟩ := atI_get he
  obtain ⟨w, ew, rw'⟩ := r.get h2
  have hl := r.length
  have hn := line63
  have fin : EP X pins σ Q w s := ⟨z, H, I, rw', q⟩
  exact subscriptTail_builtinR (x := w) pl.typeIs slot_tuple_getitem.lookup
    (getItem_tuple (j := j) (Q := fun r s' => r = w ∧ EP X pins σ Q r s') pl (by omega) (by omega) (by rw [List.size_toArray, ← hl]; exact h1) (by simpa using ew) ⟨rfl, fin⟩) hs
theorem ix_str : IxR X rIxS := by
  intro value slice pins s σ H x y v u Q I rx ry h hs
  obtain ⟨z, i, c, rfl, rfl, hz, he, q⟩ := h
  obtain ⟨t, rfl⟩ := rx
  obtain ⟨t', rfl⟩ := ry
  obtain ⟨j, h1, h2, h3, h4, h5⟩ := atI_get he
  have hl : z.cps.toList.length = z.length := by simp [Str.length]
  rw [hl] at h1 h4 h5
  have hn := line63
  exact tail_any (typeIs_str s z t) slot_str_getitem.lookup (getItem_str (c := c) (by
    have e1 : decide (i < -(2 ^ 63 : Int)) = false := decide_eq_false (by omega)
    have e2 : decide (i ≥ 2 ^ 63) = false := decide_eq_false (by omega)
    rw [e1, e2, Bool.or_false]) (by rw [h1]; simpa using h2) ⟨.str ⟨#[c]⟩, H, I.tok _, ⟨_, rfl⟩, q⟩) hs
def rIx (K : PySem.W.Frag) : R2 := fun x y H Q => rIxL K x y H Q ∨ rIxT K x y H Q ∨ rIxS x y H Q
theorem ix_seq : IxR X (rIx X.K) := ix_list.or (ix_tup.or ix_str)

theorem Inv.lst {pins : List (Addr × Obj)} {σ : St} {H : Hp} {s : Shared} {p : Addr} {xs : List V} (I : Inv X pins σ H s) (h : H p = some (.lst xs)) :
    ∃ (its : List Value) (n : Nat), Vals xs its ∧ s.heap.get? p = some { cls := .type "list", data := .seq its.toArray n } ∧ xs.length ≤ sizeLine := by
  obtain ⟨z, its, n, r, e⟩ := I.hok p _ h
  exact ⟨its, n, r, e, z⟩
theorem slice_bounds (lo hi : Option Int) (n : Nat) : (sliceBounds lo hi none n).1 = ((HT.sIx n 0 lo : Nat) : Int) ∧ (sliceBounds lo hi none n).2.1 = ((HT.sIx n n hi : Nat) : Int) ∧ (sliceBounds lo hi none n).2.2 = 1 := by
  refine ⟨?_, ?_, rfl⟩
  · cases lo with
    | none => simp [sliceBounds, HT.sIx]
    | some i =>
      simp only [sliceBounds, HT.sIx, Option.getD_none, show (1 : Int) > 0 by decide, if_true]
      by_cases h : i < 0
      · simp only [h, if_true] <;> omega
      · simp only [h, if_false] <;> omega
  · cases hi with
    | none => simp [sliceBounds, HT.sIx]
    | some i =>
      simp only [sliceBounds, HT.sIx, Option.getD_none, show (1 : Int) > 0 by decide, if_true]
      by_cases h : i < 0
      · simp only [h, if_true] <;> omega
      · simp only [h, if_false] <;> omega
theorem slicePick_cut (its : List Value) (lo hi : Option Int) : slicePick its.toArray lo hi none = ((its.drop (HT.sIx its.length 0 lo)).take (HT.sIx its.length its.length hi - HT.sIx its.length 0 lo)).toArray := by
  obtain ⟨h1, h2, h3⟩ := slice_bounds lo hi its.toArray.size
  unfold slicePick
  rw [h1, h2, h3]
  simp only [sliceRange_one, pick_run, List.size_toArray] <;> rfl
def rSlL (K : PySem.W.Frag) : V → Option Int → Option Int → Hp → VK → Prop := fun x lo hi H Q => ∃ a xs, x = .ref a ∧ SqL K H a xs ∧ ∀ p, H p = none → Q (.ref p) (upd H p (.lst (cutV xs lo hi)))
theorem sl_list : SlR X (rSlL X.K) := by
  intro pins s σ H x v vl vu lo hi sl Q I rx hs pl pu h
  obtain ⟨a, xs, rfl, hx, q⟩ := h
  cases rx
  obtain ⟨its, r, ht, hz⟩ := I.list hx
  have hlen := r.length
  refine ⟨"list", _, slot_list_getitem.lookup, ht.isList.typeIs, ?_⟩
  refine wpAny_getItem_list_slice ht.isList hs pl pu .none (by simp) ?_ (by rw [List.size_toArray] <;> omega)
  rw [slicePick_cut, ← hlen]
  refine ⟨.ref s.heap.objs.size, _, I.laid (t' := s.toks) (o := .lst (cutV xs lo hi)) (fun b ob q => Heap.get?_push_of_some _ q) (Nat.le_refl _) ?_, rfl, q _ (I.hok.fresh (Nat.le_refl _))⟩
  exact ⟨Nat.le_trans (cutV_length xs lo hi) hz, _, 0, (r.drop (HT.sIx xs.length 0 lo)).take (HT.sIx xs.length xs.length hi - HT.sIx xs.length 0 lo), Heap.get?_push_size _ rfl⟩

def flatV : V → Bool
  | .non => true
  | .bl _ => true
  | .int _ => true
  | .str _ => true
  | _ => false
def eqV : V → V → Bool
  | .non, .non => true
  | .bl a, .bl b => a == b
  | .bl a, .int b => (if a then 1 else 0) == b
  | .int a, .bl b => a == (if b then 1 else 0)
  | .int a, .int b => a == b
  | .str a, .str b => a == b
  | _, _ => false
theorem eqAt_V {A : Around} {s : Shared} {y x : V} {u v : Value} (ry : RelV y u) (rx : RelV x v) (fy : flatV y = true) (fx : flatV x = true) : SeqAt.EqAt A s u v (eqV y x) := by
  cases y with
  | non =>
    cases ry
    cases x with
    | non => cases rx; exact SeqAt.EqAt.same _
    | bl b => cases rx; exact SeqAt.EqAt.none_bool b
    | int b => obtain ⟨t, rfl⟩ := rx; exact SeqAt.EqAt.none_int b t
    | str b => obtain ⟨t, rfl⟩ := rx; exact SeqAt.EqAt.none_str b t
    | _ => exact absurd (show false = true from fx) Bool.false_ne_true
  | bl a =>
    cases ry
    cases x with
    | non => cases rx; exact SeqAt.EqAt.bool_none a
    | bl b => cases rx; exact SeqAt.EqAt.bool_bool a b
    | int b => obtain ⟨t, rfl⟩ := rx; exact SeqAt.EqAt.bool_int a b t
    | str b => obtain ⟨t, rfl⟩ := rx; exact SeqAt.EqAt.bool_str a b t
    | _ => exact absurd (show false = true from fx) Bool.false_ne_true
  | int a =>
    obtain ⟨t', rfl⟩ := ry
    cases x with
    | non => cases rx; exact SeqAt.EqAt.int_none a t'
    | bl b => cases rx; exact SeqAt.EqAt.int_bool a t' b
    | int b => obtain ⟨t, rfl⟩ := rx; exact SeqAt.EqAt.int_int a t' b t
    | str b => obtain ⟨t, rfl⟩ := rx; exact SeqAt.EqAt.int_str a t' b t
    | _ => exact absurd (show false = true from fx) Bool.false_ne_true
  | str a =>
    obtain ⟨t', rfl⟩ := ry
    cases x with
    | non => cases rx; exact SeqAt.EqAt.str_none a t'
    | bl b => cases rx; exact SeqAt.EqAt.str_bool a t' b
    | int b => obtain ⟨t, rfl⟩ := rx; exact SeqAt.EqAt.str_int a t' b t
    | str b => obtain ⟨t, rfl⟩ := rx; exact SeqAt.EqAt.str_str a t' b t
    | _ => exact absurd (show false = true from fx) Bool.false_ne_true
  | _ => exact absurd (show false = true from fy) Bool.false_ne_true
def eqU (x : V) (u : Value) : Bool := match u with
  | .none => eqV .non x
  | .bool b => eqV (.bl b) x
  | .int i _ => eqV (.int i) x
  | .str z _ => eqV (.str z) x
  | _ => false
theorem eqU_of {x y : V} {u : Value} (r : RelV y u) (f : flatV y = true) : eqU x u = eqV y x := by
  cases y with
  | non => cases r; rfl
  | bl b => cases r; rfl
  | int i => obtain ⟨t, rfl⟩ := r; rfl
  | str z => obtain ⟨t, rfl⟩ := r; rfl
  | _ => exact absurd (show false = true from f) Bool.false_ne_true
theorem any_eqU {x : V} : ∀ {xs : List V} {us : List Value}, Vals xs us → xs.all flatV = true → us.any (eqU x) = xs.any fun y => eqV y x
  | _, _, .nil, _ => rfl
  | y :: xs, u :: us, .cons r t, f => by
    rw [List.all_cons, Bool.and_eq_true] at f
    rw [List.any_cons, List.any_cons, eqU_of r f.1, any_eqU t f.2]
theorem mem_eqAt {A : Around} {s : Shared} {x : V} {v : Value} (rx : RelV x v) (fx : flatV x = true) : ∀ {xs : List V} {us : List Value}, Vals xs us → xs.all flatV = true → ∀ u ∈ us, SeqAt.EqAt A s u v (eqU x u)
  | _, _, .nil, _ => fun u hu => by cases hu
  | y :: xs, u :: us, .cons r t, f => fun u' hu => by
    rw [List.all_cons, Bool.and_eq_true] at f
    rcases List.mem_cons.mp hu with rfl | hu
    · rw [eqU_of r f.1]; exact eqAt_V r rx f.1 fx
    · exact mem_eqAt rx fx t f.2 u' hu
def inV (x : V) (xs : List V) : Bool := xs.any fun y => eqV y x
def rIn (K : PySem.W.Frag) (neg : Bool) : R2 := fun x y H Q => ∃ p xs, y = .ref p ∧ (SqL K H p xs ∨ SqT K H p xs) ∧ flatV x = true ∧ xs.all flatV = true ∧ Q (.bl (if neg then !inV x xs else inV x xs)) H
theorem op_in_seq : OpR X (compareOp .In) (rIn X.K false) := by
  intro pins s σ H x y v u Q I rx ry h
  obtain ⟨p, xs, rfl, hq, fx, fs, q⟩ := h
  cases ry
  rcases hq with hq | hq
  · obtain ⟨its, r, pl, hz⟩ := I.list hq
    refine SeqAt.in_listAt (eqU x) pl.isList (fun w hw => mem_eqAt rx fx r fs w (by simpa using hw)) ⟨.bl _, H, I, rfl, ?_⟩
    rw [show its.toArray.any (eqU x) = its.any (eqU x) by simp, any_eqU r fs]
    exact q
  · obtain ⟨its, r, pl, hz⟩ := I.tuple hq
    refine SeqAt.in_tupleAt (eqU x) pl (fun w hw => mem_eqAt rx fx r fs w (by simpa using hw)) ⟨.bl _, H, I, rfl, ?_⟩
    rw [show its.toArray.any (eqU x) = its.any (eqU x) by simp, any_eqU r fs]
    exact q
theorem call_len_seq : CallR X (.builtin "len") (fun xs H Q => ∃ p ys, xs = [.ref p] ∧ (SqL X.K H p ys ∨ SqT X.K H p ys) ∧ Q (.int ys.length) H) := by
  intro pins s σ H xs us Q I r h
  obtain ⟨p, ys, rfl, hq, q⟩ := h
  obtain ⟨u, rfl, rx⟩ := vals1 r
  cases rx
  have hn := line63
  rcases hq with hq | hq
  · obtain ⟨its, r', pl, hz⟩ := I.list hq
    have hlen := r'.length
    exact Calls.call_len_list pl.isList (by simp only [List.size_toArray] <;> omega) ⟨.int ys.length, H, I.tok _, ⟨s.toks + 1, by rw [List.size_toArray, hlen]⟩, q⟩
  · obtain ⟨its, r', pl, hz⟩ := I.tuple hq
    have hlen := r'.length
    exact len_tuple pl (by simp only [List.size_toArray] <;> omega) ⟨.int ys.length, H, I.tok _, ⟨s.toks + 1, by rw [List.size_toArray, hlen]⟩, q⟩
theorem call_len_str : CallR X (.builtin "len") (fun xs H Q => ∃ z, xs = [.str z] ∧ z.length ≤ sizeLine ∧ Q (.int z.length) H) := by
  intro pins s σ H xs us Q I r h
  obtain ⟨z, rfl, hz, q⟩ := h
  obtain ⟨u, rfl, t, rfl⟩ := vals1 r
  have hn := line63
  exact len_str (by omega) ⟨.int z.length, H, I.tok _, ⟨_, rfl⟩, q⟩
theorem CallR.or {f : Value} {r r' : List V → Hp → VK → Prop} (h : CallR X f r) (h' : CallR X f r') : CallR X f (fun xs H Q => r xs H Q ∨ r' xs H Q) := by
  intro pins s σ H xs us Q I rs q
  rcases q with q | q
  · exact h pins s σ H xs us Q I rs q
  · exact h' pins s σ H xs us Q I rs q
def tyV (K : PySem.W.Frag) (T : String) (x : V) (H : Hp) : Prop := match x with
  | .str _ => T = "str"
  | .int _ => T = "int"
  | .ref p => (T = "list" ∧ ∃ xs, SqL K H p xs) ∨ (T = "tuple" ∧ ∃ o, K.lookup p = some o ∧ o.cls = .type "tuple" ∧ o.dict = none) ∨
      (T = "dict" ∧ ((∃ kvs, H p = some (.dK kvs)) ∨ ∃ kvs, H p = some (.dT kvs))) ∨ (T = "set" ∧ ∃ S n, H p = some (.set S n))
  | _ => False
theorem tyV_is {pins : List (Addr × Obj)} {σ : St} {H : Hp} {s : Shared} {T : String} {x : V} {v : Value} (I : Inv X pins σ H s) (r : RelV x v) (ty : tyV X.K T x H) :
    s.TypeIs v T ∧ ∀ a, v = .ref a → ∃ ob, s.heap.get? a = some ob ∧ ob.dict = none := by
  cases x with
  | str z =>
    obtain ⟨t, rfl⟩ := r
    cases (show T = "str" from ty)
    exact ⟨typeIs_str s z t, fun _ e => nomatch e⟩
  | int i =>
    obtain ⟨t, rfl⟩ := r
    cases (show T = "int" from ty)
    exact ⟨typeIs_int s i t, fun _ e => nomatch e⟩
  | ref p =>
    cases r
    rcases ty with ⟨rfl, xs, hq⟩ | ⟨rfl, o, hk, hc, hd⟩ | ⟨rfl, hk⟩ | ⟨rfl, S, n, hk⟩
    · obtain ⟨its, _, pl, _⟩ := I.list hq
      refine ⟨pl.isList.typeIs, fun a e => ?_⟩
      cases e
      obtain ⟨o, n, e, c, hd, _⟩ := pl
      exact ⟨o, e, hd⟩
    · refine ⟨⟨o, I.kIn p o hk, hc⟩, fun a e => ?_⟩
      cases e
      exact ⟨o, I.kIn _ o hk, hd⟩
    · have z : ∃ o, s.heap.get? p = some o ∧ o.ExactDict := by
        rcases hk with ⟨kvs, hk⟩ | ⟨kvs, hk⟩
        · obtain ⟨_, _, _, _, o, _, _, e, ex, _⟩ := I.hok p _ hk
          exact ⟨o, e, ex⟩
        · obtain ⟨_, _, _, _, o, _, _, e, ex, _⟩ := I.hok p _ hk
          exact ⟨o, e, ex⟩
      obtain ⟨o, e, ex⟩ := z
      refine ⟨⟨o, e, ex.1⟩, fun a e2 => ?_⟩
      cases e2
      exact ⟨o, e, ex.2.1⟩
    · obtain ⟨o, _, _, _, e, ex, _⟩ := I.hok p _ hk
      refine ⟨⟨o, e, ex.1⟩, fun a e2 => ?_⟩
      cases e2
      exact ⟨o, e, ex.2.1⟩
  | _ => exact False.elim ty
def tBM0 (K : PySem.W.Frag) (T : String) (r : V → List V → Hp → VK → Prop) (to : TE) : TE := fun σ H Q => to σ H fun x H1 => tyV K T x H1 ∧ r x [] H1 Q
def tBM (K : PySem.W.Frag) (T : String) (r : V → List V → Hp → VK → Prop) (to : TE) (t : TA) : TE := fun σ H Q => to σ H fun x H1 => tyV K T x H1 ∧ t σ H1 fun xs H2 => r x xs H2 Q
variable {o e : Expr} {es : List Expr} {to : TE} {t : TA} {name : Str} {apos cpos : Pos} {T id : String} {r : V → List V → Hp → VK → Prop}
theorem pe_bm0 (pa : PlainAttrs T) (slot : Slot T name id) (hty : typeOf (.builtin id) = pure (.type "method_descriptor")) (hm : MtR X id r) (ho : PE X o to)
    (hbase : attributeBase o name X.env (eval o X.env) = eval o X.env := by rfl) (hline : (apos.endLine == cpos.line) = true := by rfl) : PE X (.Call (.Attribute o name apos) [] [] cpos) (tBM0 X.K T r to) := by
  intro pins s σ H Q I h
  refine wpAny_Call_method0_late hbase hline (thn (ho pins s σ H _ I h) fun v s1 ⟨x, H1, I1, r1, ty, q1⟩ => ?_)
  obtain ⟨h1, h2⟩ := tyV_is I1 r1 ty
  exact ⟨T, id, pa, slot, hty, h1, h2, Calls.callWith_builtin rfl (PySem.evalArgs_none (hm pins s1 σ H1 x [] v [] Q I1 r1 .nil q1))⟩
theorem pe_bm (pa : PlainAttrs T) (slot : Slot T name id) (hty : typeOf (.builtin id) = pure (.type "method_descriptor")) (hm : MtR X id r) (ho : PE X o to) (ha : PA X (e :: es) t)
    (hbase : attributeBase o name X.env (eval o X.env) = eval o X.env := by rfl)
    (hfew : ((backTo cpos (starEach (e :: es) X.env)).all (fun x => !x.1) && (backToKw cpos (keywordEach [] X.env)).all (fun x => x.1.isSome)
      && decide ((e :: es).length + ([] : List Keyword).length + (if ([] : List Keyword).isEmpty then 0 else 1) < 30)) = true := by rfl)
    (hline : (apos.endLine == cpos.line) = true := by rfl) (hs : starEach (e :: es) X.env = (false, eval e X.env) :: starEach es X.env := by rfl) (hplain : (backTo cpos (starEach es X.env)).any (·.1) = false := by rfl) :
    PE X (.Call (.Attribute o name apos) (e :: es) [] cpos) (tBM X.K T r to t) := by
  intro pins s σ H Q I h
  refine wpAny_Call_method_late hbase hfew hline rfl (thn (ho pins s σ H _ I h) fun v s1 ⟨x, H1, I1, r1, ty, q1⟩ => ?_)
  obtain ⟨h1, h2⟩ := tyV_is I1 r1 ty
  refine ⟨T, id, pa, slot, hty, h1, h2, ?_⟩
  have hA := ha cpos pins s1 σ H1 _ I1 q1
  rw [hs] at hA ⊢
  refine Calls.callWith_builtin (by show (false || (backTo cpos (starEach es X.env)).any (·.1)) = false; rw [hplain] <;> rfl) (Calls.evalArgs_plain ?_)
  exact thn hA fun us s2 ⟨vs, H2, I2, r2, q2⟩ => hm pins s2 σ H2 x vs v us Q I2 r1 r2 q2
/- xs.append(e), list.index on a module's tuple .. are MtR facts of 06m -/
end
end L2

namespace L2
open PySem PySem.Spec PyProof.Rows

def MtM (X : Cx) (id : String) (r : V → List V → Hp → VK → Prop) : Prop :=
  ∀ (pins : List (Addr × Obj)) (s : Shared) (σ : St) (H : Hp) (x : V) (xs : List V) (v : Value) (us : List Value) (Q : VK), Inv X pins σ H s → RelV x v → Vals xs us → r x xs H Q →
    wpAny (model X.prog X.w) X.A (call (.builtin id) (v :: us)) (EP X pins σ Q) X.xe s

theorem Vals.one : ∀ {x : V} {us : List Value}, Vals [x] us → ∃ u, us = [u] ∧ RelV x u
  | _, _, .cons r .nil => ⟨_, rfl, r⟩
theorem Vals.two : ∀ {x y : V} {us : List Value}, Vals [x, y] us → ∃ u v, us = [u, v] ∧ RelV x u ∧ RelV y v
  | _, _, _, .cons r (.cons q .nil) => ⟨_, _, rfl, r, q⟩
theorem Vals.zero : ∀ {us : List Value}, Vals [] us → us = []
  | _, .nil => rfl
theorem Vals.dropLast {xs : List V} {us : List Value} (h : Vals xs us) : Vals xs.dropLast us.dropLast := by
  induction h with
  | nil => exact .nil
  | cons r t ih =>
    cases t with
    | nil => exact .nil
    | cons q t' => exact .cons r ih
theorem Vals.eraseIdx : ∀ {xs : List V} {us : List Value} (i : Nat), Vals xs us → Vals (xs.eraseIdx i) (us.eraseIdx i)
  | _, _, _, .nil => .nil
  | _, _, 0, .cons _ t => t
  | _, _, i + 1, .cons r t => .cons r (Vals.eraseIdx i t)
theorem Vals.reverse {xs : List V} {us : List Value} (h : Vals xs us) : Vals xs.reverse us.reverse := by
  induction h with
  | nil => exact .nil
  | cons r t ih => rw [List.reverse_cons, List.reverse_cons]; exact Vals.append ih (.cons r .nil)
theorem Vals.rep {xs : List V} {us : List Value} (h : Vals xs us) : ∀ k : Nat, Vals (List.replicate k xs).flatten (List.replicate k us).flatten
  | 0 => .nil
  | k + 1 => by
    rw [List.replicate_succ, List.replicate_succ, List.flatten_cons, List.flatten_cons]
    exact Vals.append h (Vals.rep h k)
theorem erase_last {α : Type} (l : List α) : l.eraseIdx (l.length - 1) = l.dropLast := by
  induction l with
  | nil => rfl
  | cons a r ih =>
    cases r with
    | nil => rfl
    | cons b r =>
      have e : (a :: b :: r).length - 1 = ((b :: r).length - 1) + 1 := by
        have h1 : (a :: b :: r).length = r.length + 2 := rfl
        have h2 : (b :: r).length = r.length + 1 := rfl
        omega
      rw [e, List.eraseIdx_cons_succ, ih]
      all_goals rfl
theorem foldl_rep (its : List Value) : ∀ (k : Nat) (acc : List Value),
    List.foldl (fun x1 x2 => x1 ++ x2) acc.toArray (List.replicate k its.toArray) = (acc ++ (List.replicate k its).flatten).toArray
  | 0, acc => by simp
  | k + 1, acc => by
    have e : acc.toArray ++ its.toArray = (acc ++ its).toArray := by simp
    have e2 : (acc ++ its) ++ (List.replicate k its).flatten = acc ++ (List.replicate (k + 1) its).flatten := by
      rw [List.replicate_succ, List.flatten_cons, List.append_assoc]
    rw [← e2, ← foldl_rep its k (acc ++ its), ← e, List.replicate_succ, List.foldl_cons]

section
variable {X : Cx} {pins : List (Addr × Obj)} {σ : St} {H : Hp} {s : Shared} {l b : Addr} {xs ys zs : List V}

theorem Inv.lset {its its' : List Value} {n : Nat} {f : Array Value → Array Value} {t' : Nat} (I : Inv X pins σ H s) (hH : H l = some (.lst xs))
    (e : s.heap.get? l = some { cls := .type "list", data := .seq its.toArray n }) (hf : f its.toArray = its'.toArray) (hv : Vals ys its') (hz : ys.length ≤ sizeLine) :
    Inv X pins σ (upd H l (.lst ys)) { s with heap := s.heap.update l (Obj.mapSeq f), toks := t' } := by
  have q := PySem.IsL.update e f
  rw [hf] at q
  refine I.write (x := l) (e := l) (by rw [hH]; exact trivial) (.inl rfl) (fun b' u hb hu => (Heap.get?_update_other s.heap (Obj.mapSeq f) (Ne.symm hb)).trans hu) ⟨_, q⟩ ?_
  exact ⟨hz, its', _, hv, q⟩
theorem Inv.lnew {its : List Value} {t' : Nat} (I : Inv X pins σ H s) (hv : Vals ys its) (hz : ys.length ≤ sizeLine) :
    Inv X pins σ (upd H s.heap.objs.size (.lst ys)) { s with heap := s.heap.push { cls := .type "list", data := .seq its.toArray }, toks := t' } :=
  I.laid (fun _ _ q => Heap.get?_push_of_some _ q) (Nat.le_refl _) ⟨hz, its, 0, hv, Heap.get?_push_size _ rfl⟩
theorem Inv.fresh (I : Inv X pins σ H s) : H s.heap.objs.size = none := I.hok.fresh (Nat.le_refl _)
theorem Inv.lstM (I : Inv X pins σ H s) (hH : H l = some (.lst xs)) : xs.length ≤ sizeLine ∧ ∃ (its : List Value) (n : Nat), Vals xs its ∧ xs.length = its.length ∧ s.heap.get? l = some { cls := .type "list", data := .seq its.toArray n } := by
  obtain ⟨z, its, n, r, e⟩ := I.hok l _ hH
  exact ⟨z, its, n, r, r.length, e⟩

theorem notLongL {n : Nat} (h : n ≤ sizeLine) : Builtin.List.listTooLong n = false := by
  unfold Builtin.List.listTooLong
  exact decide_eq_false (by omega)
end

section
variable {X : Cx}

def rAppend : V → List V → Hp → VK → Prop := fun x vs H Q => ∃ l xs y, x = .ref l ∧ vs = [y] ∧ H l = some (.lst xs) ∧ xs.length < sizeLine ∧ Q .non (upd H l (.lst (xs ++ [y])))
theorem mt_append : MtM X "list.append" rAppend := by
  intro pins s σ H x vs v us Q I rx rv h
  obtain ⟨l, xs, y, rfl, rfl, hH, hz, q⟩ := h
  cases rx
  obtain ⟨u, rfl, ru⟩ := rv.one
  obtain ⟨z, its, n, r, hl, e⟩ := I.lstM hH
  refine call_meets F.slot_list_append ⟨_, e, rfl⟩ F.entry_list_append (F.args_list_append_2 _ _) (PySem.list_append l its.toArray n u (by rw [List.size_toArray]; omega)) ⟨e, ?_⟩
  refine ⟨.non, _, I.lset (its' := its ++ [u]) hH e (by simp) (r.append (.cons ru .nil)) ?_, rfl, q⟩
  rw [List.length_append, List.length_singleton]
  omega

def rExtend : V → List V → Hp → VK → Prop := fun x vs H Q => ∃ l b xs zs, x = .ref l ∧ vs = [.ref b] ∧ H l = some (.lst xs) ∧ H b = some (.lst zs) ∧ xs.length + zs.length ≤ sizeLine ∧ Q .non (upd H l (.lst (xs ++ zs)))
theorem mt_extend : MtM X "list.extend" rExtend := by
  intro pins s σ H x vs v us Q I rx rv h
  obtain ⟨l, b, xs, zs, rfl, rfl, hH, hB, hz, q⟩ := h
  cases rx
  obtain ⟨u, rfl, ru⟩ := rv.one
  cases ru
  obtain ⟨z, its, n, r, hl, e⟩ := I.lstM hH
  obtain ⟨z2, its2, n2, r2, hl2, e2⟩ := I.lstM hB
  have hsz : its.toArray.size + its2.toArray.size ≤ sizeLine := by rw [List.size_toArray, List.size_toArray]; omega
  have hlong : ¬ (!its.toArray.isEmpty && Builtin.List.listTooLong (its.toArray.size + its2.toArray.size)) = true := by
    rw [notLongL hsz, Bool.and_false]
    exact Bool.false_ne_true
  refine call_meets F.slot_list_extend ⟨_, e, rfl⟩ F.entry_list_extend (F.args_list_extend_2 _ _)
    (AutoSeq1.list_extend_list_list_0 l its.toArray n b its2.toArray n2 hlong (by rw [List.size_toArray]; omega) (by omega)) ⟨e, e2, ?_⟩
  refine ⟨.non, _, I.lset (its' := its ++ its2) hH e (by simp) (r.append r2) ?_, rfl, q⟩
  rw [List.length_append]
  omega

def rPop : V → List V → Hp → VK → Prop := fun x vs H Q => ∃ l xs y, x = .ref l ∧ vs = [] ∧ H l = some (.lst xs) ∧ xs[xs.length - 1]? = some y ∧ Q y (upd H l (.lst xs.dropLast))
theorem mt_pop : MtM X "list.pop" rPop := by
  intro pins s σ H x vs v us Q I rx rv h
  obtain ⟨l, xs, y, rfl, rfl, hH, hy, q⟩ := h
  cases rx
  have hus := rv.zero
  subst hus
  obtain ⟨z, its, n, r, hl, e⟩ := I.lstM hH
  obtain ⟨u, hu, ru⟩ := r.get hy
  have hy' : its.toArray[its.toArray.size - 1]? = some u := by
    show its.toArray[its.length - 1]? = some u
    rw [← Array.getElem?_toList, ← hl]
    exact hu
  refine call_meets F.slot_list_pop ⟨_, e, rfl⟩ F.entry_list_pop (F.args_list_pop_1 _) (MeetsSeq.list_pop_last l its.toArray n u hy' (by rw [List.size_toArray]; omega)) ⟨e, ?_⟩
  refine ⟨y, _, I.lset (its' := its.dropLast) hH e ?_ r.dropLast ?_, ru, q⟩
  · show its.toArray.eraseIdxIfInBounds (its.toArray.size - 1) = its.dropLast.toArray
    rw [List.size_toArray, List.eraseIdxIfInBounds_toArray, erase_last]
  · rw [List.length_dropLast]
    omega

def rReverse : V → List V → Hp → VK → Prop := fun x vs H Q => ∃ l xs, x = .ref l ∧ vs = [] ∧ H l = some (.lst xs) ∧ Q .non (upd H l (.lst xs.reverse))
theorem mt_reverse : MtM X "list.reverse" rReverse := by
  intro pins s σ H x vs v us Q I rx rv h
  obtain ⟨l, xs, rfl, rfl, hH, q⟩ := h
  cases rx
  have hus := rv.zero
  subst hus
  obtain ⟨z, its, n, r, hl, e⟩ := I.lstM hH
  refine call_meets F.slot_list_reverse ⟨_, e, rfl⟩ F.entry_list_reverse (F.args_list_reverse_1 _) (AutoSeq1.list_reverse_list_0 l its.toArray n (by rw [List.size_toArray]; omega)) ⟨e, ?_⟩
  refine ⟨.non, _, I.lset (its' := its.reverse) hH e (by simp) r.reverse ?_, rfl, q⟩
  rw [List.length_reverse]
  omega

def rCat : R2 := fun x y H Q => ∃ l b xs zs, x = .ref l ∧ y = .ref b ∧ H l = some (.lst xs) ∧ H b = some (.lst zs) ∧ xs.length + zs.length ≤ sizeLine ∧ ∀ p, H p = none → Q (.ref p) (upd H p (.lst (xs ++ zs)))
theorem op_cat : OpR X (binaryOp .Add) rCat := by
  intro pins s σ H x y v u Q I rx ry h
  obtain ⟨l, b, xs, zs, rfl, rfl, hH, hB, hz, q⟩ := h
  cases rx
  cases ry
  obtain ⟨z, its, n, r, hl, e⟩ := I.lstM hH
  obtain ⟨z2, its2, n2, r2, hl2, e2⟩ := I.lstM hB
  refine PySem.P.add_list e e2 ?_ (by rw [List.size_toArray, List.size_toArray]; omega)
  have ea : its.toArray ++ its2.toArray = (its ++ its2).toArray := by simp
  rw [ea]
  exact ⟨.ref _, _, I.lnew (t' := s.toks) (r.append r2) (by rw [List.length_append]; omega), rfl, q _ I.fresh⟩
def rRep : R2 := fun x y H Q => ∃ l k xs, x = .ref l ∧ y = .int k ∧ H l = some (.lst xs) ∧ -(2 ^ 63) ≤ k ∧ k < 2 ^ 63 ∧ xs.length * k.toNat ≤ sizeLine ∧
  ∀ p, H p = none → Q (.ref p) (upd H p (.lst (List.replicate k.toNat xs).flatten))
theorem len_rep {α : Type} (xs : List α) (k : Nat) : (List.replicate k xs).flatten.length = k * xs.length := by
  induction k with
  | zero => simp
  | succ k ih => rw [List.replicate_succ, List.flatten_cons, List.length_append, ih, Nat.succ_mul, Nat.add_comm]
theorem op_rep : OpR X (binaryOp .Mult) rRep := by
  intro pins s σ H x y v u Q I rx ry h
  obtain ⟨l, k, xs, rfl, rfl, hH, h1, h2, hz, q⟩ := h
  cases rx
  obtain ⟨t, rfl⟩ := ry
  obtain ⟨z, its, n, r, hl, e⟩ := I.lstM hH
  have hlen : its.toArray.size * k.toNat ≤ sizeLine := by rw [List.size_toArray, ← hl]; exact hz
  have hcap : ¬ its.toArray.size * k.toNat > (2 ^ 63 - 1) / 8 := by
    have : (sizeLine : Nat) ≤ (2 ^ 63 - 1) / 8 := by decide
    omega
  have hfit : ¬ (!Builtin.List.listFitsIndex k) = true := by
    rw [fitsIndex_both h1 h2]
    exact Bool.false_ne_true
  have hlong : ¬ Builtin.List.listTooLong (its.toArray.size * k.toNat) = true := by
    rw [notLongL hlen]
    exact Bool.false_ne_true
  have hnew : List.foldl (fun x1 x2 => x1 ++ x2) #[] (List.replicate (if its.toArray.isEmpty = true then 0 else k.toNat) its.toArray) = (List.replicate k.toNat its).flatten.toArray := by
    have f0 : ∀ m : Nat, List.foldl (fun x1 x2 => x1 ++ x2) #[] (List.replicate m its.toArray) = (List.replicate m its).flatten.toArray := fun m => by
      have := foldl_rep its m []
      rw [List.nil_append] at this
      exact this
    rw [f0]
    cases its with
    | nil => simp
    | cons a r' => rw [if_neg (by simp)]
  refine wpAny_binaryOp_repeat_ref (T := "list") (U := "int") (by decide) ⟨_, e, rfl⟩ (fun s' => typeIs_int s' k t) noFill_list_mul F.fills_int_mul F.slot_int_rmul repeat_list F.slot_int_index.lookup
    (call_meets F.slot_int_rmul (typeIs_int s k t) F.entry_int_rmul (F.args_int_rmul_2 _ _) (int___rmul___int_list k t l its.toArray n)
      ⟨e, rfl, ⟨_, e, rfl⟩, call_meets F.slot_list_mul ⟨_, e, rfl⟩ F.entry_list_mul (F.args_list_mul_2 _ _) (AutoListH.list___mul___list_int_3 l its.toArray n k t hfit hcap hlong) ⟨e, ?_⟩⟩)
  rw [hnew]
  exact ⟨.ref _, _, I.lnew (t' := s.toks) (r.rep k.toNat) (by rw [len_rep, Nat.mul_comm]; exact hz), rfl, q _ I.fresh⟩

end

section
variable {prog : Program} {w : World} {A : Around} {E : Value → Shared → Prop} {s : Shared}
set_option maxRecDepth 100000 in
end

section
variable {X : Cx}
end
end L2

namespace Att
open PySem PySem.W PySem.Calls PyProof.Rows

theorem ints_of_wellAll {P : Params} {h : Heap} : ∀ (ns : List Int) (vs : List Value), WellAll P h vs (ns.map WData.int) → IntsAre vs ns := by
  intro ns
  induction ns with
  | nil =>
    intro vs w
    rw [List.map_nil] at w
    cases w
    exact .nil
  | cons n ns ih =>
    intro vs w
    rw [List.map_cons] at w
    cases w with
    | cons a b =>
      cases a
      exact .cons _ _ (ih _ b)

theorem script_of {l : OpenLaw} {n : Nat} (hn : l.most = some n) {P : Params} {h : Heap} {args : List WData} {vals : List Value}
    (hpre : l.row.toRowW.claim.pre args = true) (hwl : WellAll P h vals args) :
    ∃ a vs ns, vals = [Value.ref a] ∧ args = [WData.list (ns.map WData.int)] ∧ h.get? a = some { cls := .type "list", data := .seq vs.toArray } ∧ IntsAre vs ns ∧ ns.length ≤ n := by
  have hsh : WShape.hasAll [] args [.list .int] = true := (pre_splitW hpre).1
  have hc : l.pre.holds [] { args := args } = true := (pre_splitW hpre).2
  obtain ⟨d, r, rfl, h1, h2⟩ := hasAllW_cons hsh
  obtain rfl := hasAllW_nil h2
  obtain ⟨xs, rfl, h3⟩ := hasW_list h1
  obtain ⟨ns, rfl⟩ := items_int h3
  have hlen : ns.length ≤ n := by
    unfold OpenLaw.pre at hc
    have h4 : (WTm.not (.lt (.lit (.int (n : Int))) (.len (.arg 0)))).holds [] { args := [.list (ns.map .int)] } = true := by
      have h4 := (holds_andW hc).1
      rw [hn] at h4
      exact h4
    have h5 := condW_of h4 (w_not (w_lt w_lit (w_len_list (w_arg rfl))))
    rw [List.length_map] at h5
    refine Nat.le_of_not_lt fun q => ?_
    have q' : (n : Int) < ((ns.length : Nat) : Int) := by omega
    first
      | (rw [decide_eq_true q'] at h5; exact absurd h5 (by decide))
      | (simp at h5; omega)
  cases hwl with
  | cons w1 w2 =>
    cases w2
    cases w1 with
    | list ho hall => exact ⟨_, _, ns, rfl, rfl, ho, ints_of_wellAll ns _ hall, hlen⟩

theorem post_true (l : OpenLaw) (args : List WData) : l.row.toRowW.claim.post args (.bool true) args = true :=
  postW_of (r := l.row.toRowW) (X := (true == true))
    (show WShape.has [] (.bool true) .bool = true by first | rfl | decide | simp [WShape.has, WShape.arms, WShape.armsAll])
    (show (WTm.eq .res (.lit (.bool true))).value [] { args := args, res := some (.bool true), after := args } = some (.bool (true == true)) from w_eq_bool (w_res rfl) w_lit) rfl

theorem attach_call {l : OpenLaw} {n : Nat} {q : Program} {loose : List Str} {XP : (Str → Option Value) → Heap → Prop} {YP : World → Heap → Prop} {d : DefRec}
    (hn : l.most = some n) (hdf : d.params.defaults = [])
    (call : ∀ (w : World) (s₀ s₁ : Shared) (mg mb : Str → Option Value) (fa : Addr) (o : Obj) (pm cd doc : Value) (a : Addr) (vs : List Value) (ns : List Int),
      Ground q loose [] XP w s₀ mg mb s₁.heap → YP w s₁.heap →
      s₁.heap.get? fa = some o → o.data = .func (docDef d.name d.params d.body d.scope pm cd doc) → s₁.heap.CodeRec cd d.name → mg d.name = some (.ref fa) →
      s₁.heap.get? a = some { cls := .type "list", data := .seq vs.toArray } → IntsAre vs ns → ns.length ≤ n → s₁.gens = #[] →
      codeAny (model l.prog w) callerA (.call (.ref fa) ⟨[.ref a], []⟩) (fun r s' => r = .ok (.ret (.bool true)) ∧ OldK s₁.heap s'.heap ∧ s'.os = s₁.os ∧ AllBare s'.gens) s₁) :
    WalkO q loose XP YP l.row.toRowW d [] (fun f vs => PySem.call f vs) := by
  intro w s₀ s₁ mg mb G Y fa o pm cd doc dV kV ho hd hcd hD hmg hg args vals as hpre hlay hrd hwl hlo
  obtain rfl : dV = .none := Dflts.none hD hdf
  obtain rfl : kV = .none := Dflts.noKw hD
  obtain ⟨a, vs, ns, rfl, rfl, hobj, hints, hlen⟩ := script_of hn hpre hwl
  refine enter_call (codeAny_mono (call w s₀ s₁ mg mb fa o pm cd doc a vs ns G Y ho (fd_plain hd) hcd hmg hobj hints hlen hg) fun r s' hq => ?_)
  obtain ⟨rfl, h2, h3, h4⟩ := hq
  exact ⟨.inl ⟨.bool true, .bool true, [], rfl, fun _ => rfl, .bool true, post_true l _, fun _ => ⟨List.Pairwise.nil, fun _ hm => (nomatch hm)⟩⟩, h2, h3, h4⟩

section
variable {prog : Program} {w : World} {A : Around} {E : Value → Shared → Prop} {s : Shared} {K : Frag}

def ledger (h : Heap) (L d : Addr) : List (Addr × Obj) := (List.range h.objs.size).filterMap fun a => if a = L ∨ a = d then none else (h.get? a).map fun o => (a, o)
end
end Att

namespace L2
open PySem PySem.Spec PyProof.Rows

theorem vals_ints : ∀ {vs : List Value} {ns : List Int}, IntsAre vs ns → Vals (ns.map V.int) vs
  | _, _, .nil => .nil
  | _, _, .cons n t h => .cons ⟨t, rfl⟩ (vals_ints h)

def Only (H : Hp) : Prop := ∀ b, H b = none ∨ ∃ o xs, H b = some (.frz o (.lst xs))

theorem law_call {P : Program} {w : World} {K : PySem.W.Frag} {mg mb : Str → Option Value} {CX : CXT} {k : Nat} {fa a : Addr} {fd : FuncData} {x : Str} {sp : Sp} {s₁ : Shared} {vs : List Value} {ns : List Int}
    (KX : K.In s₁.heap) (hns : s₁.heap.Ns mainGlobals mg) (hb : s₁.heap.Ns builtinsNs mb) (hbb : ∀ x : Str, x ≠ "__name__" → mb x = bootBuiltins x) (hlim : s₁.heap.NoLimit) (hg : s₁.gens = #[])
    (ha : s₁.heap.get? a = some { cls := .type "list", data := .seq vs.toArray }) (hi : IntsAre vs ns) (hl : ns.length ≤ sizeLine) (hr : Room k callerA)
    (F : ∀ base : Heap, K.In base → base.Ns mainGlobals mg → FnOk P w K mg base CX k fa fd [x] sp) (hbind : ∀ (s : Shared) (u : Value), BindsTo s fd ⟨[u], []⟩ [(x, u)])
    (hsp : ∀ H : Hp, Only H → SqL K H a (ns.map V.int) → sp [.ref a] H (fun v _ => v = .bl true) fun _ _ _ => False)
    (hCX : ∀ H e s', CX [] H s₁ (fun _ _ _ => False) e s' → False) :
    codeAny (model P w) callerA (.call (.ref fa) ⟨[.ref a], []⟩) (fun r s' => r = .ok (.ret (.bool true)) ∧ OldK s₁.heap s'.heap ∧ s'.os = s₁.os ∧ AllBare s'.gens) s₁ := by
  have rv := vals_ints hi
  have lenV := hi.length
  -- from an abstract heap in which nothing but the script may be tracked
  have core : ∀ H : Hp, Only H → SqL K H a (ns.map V.int) → HOk P w H s₁.heap → (∀ b, H b ≠ none → b = a) → (H a ≠ none → K.lookup a = none) →
      codeAny (model P w) callerA (.call (.ref fa) ⟨[.ref a], []⟩) (fun r s' => r = .ok (.ret (.bool true)) ∧ OldK s₁.heap s'.heap ∧ s'.os = s₁.os ∧ AllBare s'.gens) s₁ := by
    intro H hO hS hok hA hK
    have base_of : ∀ {b : Addr} {o : Obj}, s₁.heap.get? b = some o → H b = none → (hidT s₁.heap H).get? b = some o := fun e n => hidT_get e n
    have noA : ∀ {b : Addr} {o : Obj} {es : Array DictEntry} {ep : Nat}, s₁.heap.get? b = some o → o.data = .dict es ep → H b = none := fun {b o es ep} e d => by
      cases q : H b with
      | none => rfl
      | some u =>
        have e' : b = a := hA b (by rw [q]; simp)
        subst e'
        rw [ha] at e; cases e
        have d' : Data.seq vs.toArray _ = Data.dict es ep := d
        cases d'
    have nsK : ∀ {b : Addr} {m : Str → Option Value}, s₁.heap.Ns b m → (hidT s₁.heap H).Ns b m := fun {b m} ⟨o, es, ep, e, d, r⟩ => ⟨o, es, ep, base_of e (noA e d), d, r⟩
    have hKb : K.In (hidT s₁.heap H) := fun b o e => base_of (KX b o e) (by
      cases q : H b with
      | none => rfl
      | some u =>
        have e' : b = a := hA b (by rw [q]; simp)
        subst e'
        rw [hK (by rw [q]; simp)] at e; cases e)
    have hM : Mod K mg (hidT s₁.heap H) := ⟨hKb, nsK hns, ⟨mb, nsK hb, hbb⟩, let ⟨mc, h1, h2⟩ := hlim; ⟨mc, nsK h1, h2⟩⟩
    have e0 : Env0 P w K mg (hidT s₁.heap H) callerA [] s₁ H := ⟨rfl, hM, fun b o e => of_hidT e, Nat.le_of_eq (hidT_size _ _), trivial, fun b hb => absurd (show b ∈ ([] : List Addr) from hb) (by simp), hok, .of_eq hg⟩
    refine codeAny_mono ((F _ hKb (nsK hns)).run callerA [] s₁ H ⟨[.ref a], []⟩ [.ref a] [.ref a] _ _ hr e0 (hbind s₁ (.ref a)) (.cons rfl .nil) (hsp H hO hS)) fun r s' h => ?_
    cases r with
    | error e => exact (hCX H e s' h).elim
    | ok fl =>
      cases fl with
      | next => exact False.elim h
      | brk => exact False.elim h
      | cont => exact False.elim h
      | ret u =>
        obtain ⟨v, H', os, bare, un, hok', r', q⟩ := h
        have q' : v = .bl true := q
        subst q'
        obtain rfl : u = Value.bool true := r'
        refine ⟨rfl, OldK.of_keep fun b o e => ?_, os, bare⟩
        cases q : H b with
        | none => exact un.keep b o e q (by intro z; exact absurd (show b ∈ ([] : List Addr) from z) (by simp)) (by simp)
        | some u =>
          rcases hO b with z | ⟨ob, xs, z⟩
          · rw [q] at z; cases z
          · have z2 := un.frzs b ob _ z
            obtain ⟨e1, _⟩ := hok b _ z
            obtain ⟨e2, _⟩ := hok' b _ z2
            rw [e] at e1; cases e1
            exact e2
  cases hk : K.lookup a with
  | some o =>
    -- the script is one of the module's own objects
    have e := KX a o hk
    rw [ha] at e
    cases e
    refine core (fun _ => none) (fun _ => .inl rfl) (.inr ⟨_, vs.toArray, _, hk, rfl, rfl, rfl, by rw [List.size_toArray, lenV]; exact hl, by simpa using rv⟩) (fun b u z => by have z' : (none : Option HO) = some u := z; cases z') (fun b z => absurd rfl z) fun z => absurd rfl z
  | none =>
    refine core (fun b => if b = a then some (.frz { cls := .type "list", data := .seq vs.toArray } (.lst (ns.map V.int))) else none) (fun b => ?_) (.inl (.inr ⟨{ cls := .type "list", data := .seq vs.toArray }, if_pos rfl⟩)) (fun b u z => ?_) (fun b z => ?_) fun _ => hk
    · by_cases hb : b = a
      · exact .inr ⟨_, _, if_pos hb⟩
      · exact .inl (if_neg hb)
    · by_cases hb : b = a
      · have z' := (if_pos hb).symm.trans z
        cases z'
        subst hb
        exact ⟨ha, by rw [List.length_map]; exact hl, vs, _, rv, ha⟩
      · have z' := (if_neg hb).symm.trans z
        cases z'
    · by_cases hb : b = a
      · exact hb
      · exact absurd (if_neg hb) z
end L2

namespace L2
open PySem PySem.Spec PyProof.Rows

abbrev KOf {K : PySem.W.Frag} {h : Heap} (_ : K.In h) : PySem.W.Frag := K

theorem walk_of {l : PySem.W.OpenLaw} {n k : Nat} {q : Program} {loose : List Str} {XP : (Str → Option Value) → Heap → Prop} {YP : World → Heap → Prop} {d : DefRec} {K : Params → PySem.W.Frag} {CX : World → CXT} {sp : World → Sp} {x : Str}
    (hn : l.most = some n) (hn2 : n ≤ sizeLine) (hdf : d.params.defaults = []) (hr : Room k callerA)
    (hY : ∀ (w : World) (h : Heap), YP w h → (K w.params).In h)
    (F : ∀ (w : World) (mg : Str → Option Value) (fa : Addr) (h : Heap), (K w.params).In h → h.Ns mainGlobals mg → mg d.name = some (.ref fa) →
      ∃ fd : FuncData, (∀ (s : Shared) (u : Value), BindsTo s fd ⟨[u], []⟩ [(x, u)]) ∧
        ∀ base : Heap, (K w.params).In base → base.Ns mainGlobals mg → FnOk l.prog w (K w.params) mg base (CX w) k fa fd [x] (sp w))
    (hsp : ∀ (w : World) (H : Hp) (a : Addr) (ns : List Int), ns.length ≤ n → Only H → SqL (K w.params) H a (ns.map V.int) → sp w [.ref a] H (fun v _ => v = .bl true) fun _ _ _ => False)
    (hCX : ∀ (w : World) (H : Hp) (s : Shared) (e : Value) (s' : Shared), CX w [] H s (fun _ _ _ => False) e s' → False) :
    PySem.W.WalkO q loose XP YP l.row.toRowW d [] (fun f vs => PySem.call f vs) := by
  refine Att.attach_call hn hdf fun w s₀ s₁ mg mb fa o pm cd doc a vs ns G Y ho hd hcd hmg hobj hints hlen hg => ?_
  have KX := hY w _ Y
  obtain ⟨fd, hb, hF⟩ := F w mg fa _ KX G.T.g hmg
  exact law_call KX G.T.g G.T.b G.T.builtins G.T.nolimit hg hobj hints (Nat.le_trans hlen hn2) hr hF hb (fun H hO hS => hsp w H a ns hlen hO hS) fun H e s' => hCX w H s₁ e s'
end L2


namespace L2
open PySem PySem.Spec PyProof.Rows

def inClass (s : Stmt) (j : Nat) : Stmt := match s with
  | .ClassDef _ _ _ body _ _ _ _ _ _ _ => body.getD j (.Pass ⟨0, 0, 0, 0⟩)
  | _ => .Pass ⟨0, 0, 0, 0⟩
def defArgs (s : Stmt) : Arguments := match s with
  | .FunctionDef _ a _ _ _ _ _ _ _ _ => a
  | _ => { posonlyargs := [], args := [], vararg := none, kwonlyargs := [], kw_defaults := [], kwarg := none, defaults := [] }
def defBody (s : Stmt) : List Stmt := match s with
  | .FunctionDef _ _ b _ _ _ _ _ _ _ => b
  | _ => []
def defScope (s : Stmt) : Scope := match s with
  | .FunctionDef _ _ _ _ _ _ sc _ _ _ => sc
  | _ => { kind := .function, names := [], isGenerator := false, isCoroutine := false }

abbrev CX0 : CXT := fun _ _ _ _ _ _ => False
abbrev E0 : XK := fun _ _ _ => False
theorem pass0 {X : Cx} : Passes CX0 X E0 := fun _ _ _ _ _ _ _ h => h.elim

structure Fun (K : PySem.W.Frag) (x qual : Str) (st : Stmt) (f : Addr) (fd : FuncData) : Prop where
  ex : ∃ (oc : Value) (od : Option Addr) (kV doc pm : Value) (an : Option Addr) (cdv ct : Value) (osl : Array (Option Value)),
    fd = PySem.W.fnOf x qual (defArgs st) (defBody st) (defScope st) .none kV doc pm an cdv ct ∧ K.lookup f = some ⟨oc, od, .func fd, osl⟩ ∧ PySem.W.codeIn K cdv qual = true
  kp : PySem.W.keepIn K (.ref f) = true
section
variable {P : Program} {w : World} {K : PySem.W.Frag} {mg : Str → Option Value} {base : Heap}
theorem Fun.ok {x qual : Str} {st : Stmt} {f : Addr} {fd : FuncData} {N ps : List Str} {k : Nat} {sp : Sp} (F : Fun K x qual st f fd) (S : FnScope N ps (defScope st)) (len : ∀ vs H Q E, sp vs H Q E → vs.length = ps.length)
    (hbody : ∀ (cdv : Value) (A : Around) (outer : List Env) (s : Shared) (H : Hp) (vs : List V) (Q : VK) (E : XK), Room k (A.deeper (envOfC qual (defScope st) s.heap.objs.size f cdv)) → sp vs H Q E →
      ∃ t, PSs (cxOf CX0 P w K mg base N qual (defScope st) f cdv A outer s H E).nox (defBody st) t ∧ t { nx := fun _ H' => Q .non H', rt := Q } (start N vs) H) : FnOk P w K mg base CX0 (k + 1) f fd ps sp := by
  obtain ⟨oc, od, kV, doc, pm, an, cdv, ct, osl, rfl, lk, hcd⟩ := F.ex
  refine fn_of lk hcd S len fun A outer s H vs Q E hr hsp => ?_
  obtain ⟨t, h, q⟩ := hbody cdv A outer s H vs Q E hr hsp
  exact ⟨t, h.nox, q⟩
theorem Fun.binds {x qual : Str} {st : Stmt} {f : Addr} {fd : FuncData} {ps : List Str} (F : Fun K x qual st f fd)
    (h : ∀ (kV doc pm : Value) (an : Option Addr) (cdv ct : Value) (us : List Value), us.length = ps.length → bindArgs (PySem.W.fnOf x qual (defArgs st) (defBody st) (defScope st) .none kV doc pm an cdv ct) ⟨us, []⟩ = pure (ps.zip us)) : Binds K fd ps [] := by
  obtain ⟨oc, od, kV, doc, pm, an, cdv, ct, osl, rfl, lk, hcd⟩ := F.ex
  exact .all (h kV doc pm an cdv ct)
theorem fun_mk {x qual : Str} {st : Stmt} {f : Addr} {oc : Value} {od an : Option Addr} {osl : Array (Option Value)} {kV doc pm cdv ct : Value} (l : K.lookup f = some ⟨oc, od, .func (PySem.W.fnOf x qual (defArgs st) (defBody st) (defScope st) .none kV doc pm an cdv ct), osl⟩)
    (c : PySem.W.codeIn K cdv qual = true) (k : PySem.W.keepIn K (.ref f) = true) : Fun K x qual st f (PySem.W.fnOf x qual (defArgs st) (defBody st) (defScope st) .none kV doc pm an cdv ct) := ⟨⟨oc, od, kV, doc, pm, an, cdv, ct, osl, rfl, l, c⟩, k⟩
end
section
variable {X : Cx}
theorem pv (i : Nat) {x : Str} {pos : Pos} (hN : X.N[i]? = some x := by rfl) (hv : Vis X.env.scope x := by first | exact Or.inl rfl | exact Or.inr (Or.inl rfl) | exact Or.inr (Or.inr rfl)) (hd : (x == ("__debug__" : Str)) = false := by decide)
    (hcd : (x == ("__classdict__" : Str)) = false := by decide) : PE X (.Name x pos) (tVar i) := pe_var hN hv hd hcd
end

theorem iteF {A B : Prop} (h : B) : if false = true then A else B := by
  rw [if_neg Bool.false_ne_true]
  exact h
theorem iteT {A B : Prop} (h : A) : if true = true then A else B := by
  rw [if_pos rfl]
  exact h
theorem ite2 {c A B : Prop} [Decidable c] (h1 : c → A) (h2 : ¬ c → B) : if c then A else B := by
  by_cases h : c
  · rw [if_pos h]
    exact h1 h
  · rw [if_neg h]
    exact h2 h
def Same (H H' : Hp) : Prop := ∀ b o, H b = some o → H' b = some o
theorem Same.refl (H : Hp) : Same H H := fun _ _ h => h
theorem Same.trans {H H1 H2 : Hp} (a : Same H H1) (b : Same H1 H2) : Same H H2 := fun c o h => b c o (a c o h)
theorem Same.free {H H' : Hp} (e : Same H H') {l : Addr} (h : H' l = Option.none) : H l = Option.none := by
  cases q : H l with
  | none => rfl
  | some o =>
    rw [e l o q] at h
    cases h
theorem Same.seq {K : PySem.W.Frag} {H H' : Hp} {a : Addr} {xs : List V} (e : Same H H') (h : SqL K H a xs) : SqL K H' a xs := by
  rcases h with (h | ⟨o, h⟩) | h
  · exact .inl (.inl (e _ _ h))
  · exact .inl (.inr ⟨o, e _ _ h⟩)
  · exact .inr h

end L2

set_option maxRecDepth 1000000
set_option maxHeartbeats 0
open PySem in
def My.top (i : Nat) : Stmt := PySem.Challenge.pw_oddbases_k56_ways_as_texts.main.body.getD i (.Pass ⟨0, 0, 0, 0⟩)
noncomputable section
open PySem My
namespace My
abbrev v_ : Option Value := some (.ref 6)
abbrev g_ : Array GenState := ⟨[]⟩
abbrev d_ := @Drawn.mk 0 0 0 0
abbrev P_ := @Pos.mk
abbrev N_ (o : Params → Obj) (a b : Params → W.BT) (x : Params) : W.BT := .node (o x) (a x) (b x)
abbrev Z_ (_ : Params) : W.BT := .nil
abbrev L_ (o : Params → Obj) := N_ o Z_ Z_
theorem sg_ {tb p w n₀ ann b} {n : Nat} {s s' : W.SharedT} {t : Thread} {f : Flow} {c : Code} {q : Pos} (h : W.segRunT tb p w n₀ ann b n s t = some (f, s', c, q)) : W.segRun tb p w n₀ ann b n s.abs t = some (f, s'.abs, c, q) := W.segRun_of h
abbrev p_ (a : String) (b : Nat) : Value := .str (.ofString a) b
abbrev j_ (a : Int) (b : Nat) : Value := .int a b
abbrev r_ (a : Nat) : Value := .ref a
abbrev e_ (x : Params) (a : String) (b : Nat) (v : Value) : DictEntry := ⟨PyData.keyHash x (.ofString a), .str (.ofString a) b, v⟩
abbrev t0 (a1 : String) (a3 : Nat) (a7 : String) (a8 a9 : Nat) (x : Params) : Obj := (@Obj.mk (.type "function") none (@Data.func (@FuncData.mk (.ofString a1) (.ofString a1) (L2.defArgs (My.top a3)) (@FuncBody.stmts (L2.defBody (My.top a3))) (L2.defScope (My.top a3)) 3 (@List.nil (@Prod @Str @Nat)) .none .none .none (p_ a7 a8) none (r_ a9) .none 0)) #[])
abbrev t1 (a0 : String) (a2 : Nat) (x : Params) : Obj := (@Obj.mk .none none (@Data.func (@FuncData.mk (.ofString a0) (.ofString a0) (L2.defArgs (My.top a2)) (@FuncBody.stmts (L2.defBody (My.top a2))) (L2.defScope (My.top a2)) 0 (@List.nil (@Prod @Str @Nat)) .none .none .none .none none .none .none 0)) #[])
abbrev t2 (x : Params) : Obj := (@Obj.mk .none none (@Data.fields #[]) #[])
abbrev t3 (x : Params) : Obj := (@Obj.mk (.type "tuple") none (@Data.seq #[] 0) #[])
abbrev t4 (a1 : String) (a2 : Nat) (a3 : String) (a4 a6 : Nat) (a7 a9 : Int) (a17 a20 a21 a22 a23 : Nat) (a24 : Int) (a29 : Nat) (x : Params) : Obj := (@Obj.mk (.type "code") none (@Data.fields (List.toArray [(p_ a1 a2), (p_ a3 a4), (p_ "/claim/cut.py" a6), (j_ a7 0), (j_ a9 0), (j_ 0 0), (j_ 0 0), (j_ 3 0), (r_ a17), (.bool @Bool.true), (j_ 181 0), (r_ a20), .none, (r_ a21), (r_ a22), (r_ a23), (j_ a24 0), (j_ a7 0), (p_ "/claim/cut.py" a29)])) #[])
abbrev t5 (a1 : String) (a2 : Nat) (a3 : String) (a4 : Nat) (a5 : String) (a6 : Nat) (x : Params) : Obj := (@Obj.mk (.type "tuple") none (@Data.seq (List.toArray [(p_ a1 a2), (p_ a3 a4), (p_ a5 a6)]) 0) #[])
abbrev t6 (a1 : String) (a2 : Nat) (a3 : String) (a4 : Nat) (x : Params) : Obj := (@Obj.mk (.type "tuple") none (@Data.seq (List.toArray [(p_ a1 a2), (p_ a3 a4)]) 0) #[])
abbrev t7 (a1 : String) (a2 : Nat) (x : Params) : Obj := (@Obj.mk (.type "tuple") none (@Data.seq (List.toArray [(p_ a1 a2)]) 0) #[])
abbrev t8 (a2 : Nat) (x : Params) : Obj := (@Obj.mk (.type "builtin_function_or_method") none (@Data.fields (List.toArray [(.builtin "object.__init_subclass__"), (r_ a2)])) #[])
abbrev t9 (a1 : Nat) (x : Params) : Obj := (@Obj.mk (.type "super") none (@Data.fields (List.toArray [(r_ a1), (r_ a1), (r_ a1)])) #[])
abbrev t10 (a1 : String) (a3 a6 a8 a10 a12 : Nat) (x : Params) : Obj := (@Obj.mk (.type "type") none (@Data.cls (@ClassData.mk (.ofString a1) [(r_ 251)] [(r_ a3), (r_ 251), (.type "object")] a6 (.ofString a1) @Bool.true [] [] @Bool.false (@Option.none @Bool) @Bool.false)) (@List.toArray (@Option @Value) [(some (r_ a8)), none, (some (p_ a1 a10)), (some (p_ a1 a12)), (some (.builtin "object.__new__")), (some (.bool @Bool.true))]))
abbrev t11 (a1 a2 : String) (a3 a4 a12 : Nat) (x : Params) : Obj := (@Obj.mk (.type "function") none (@Data.func (@FuncData.mk (.ofString a1) (.ofString a2) (L2.defArgs (L2.inClass (My.top a3) a4)) (@FuncBody.stmts (L2.defBody (L2.inClass (My.top a3) a4))) (L2.defScope (L2.inClass (My.top a3) a4)) 3 (@List.nil (@Prod @Str @Nat)) .none .none .none (p_ "oddbases.ways" 422) none (r_ a12) .none 0)) #[])
abbrev t12 (a0 a1 : String) (a2 a3 : Nat) (x : Params) : Obj := (@Obj.mk .none none (@Data.func (@FuncData.mk (.ofString a0) (.ofString a1) (L2.defArgs (L2.inClass (My.top a2) a3)) (@FuncBody.stmts (L2.defBody (L2.inClass (My.top a2) a3))) (L2.defScope (L2.inClass (My.top a2) a3)) 0 (@List.nil (@Prod @Str @Nat)) .none .none .none .none none .none .none 0)) #[])
abbrev t13 (a1 a3 : Nat) (a4 : String) (a5 : Nat) (x : Params) : Obj := (@Obj.mk (.type "frame") none @Data.plain (@List.toArray (@Option @Value) [(some (r_ a1)), (some (r_ 3)), (some (r_ a3)), none, (some (p_ a4 a5)), none, (some (r_ 0))]))
abbrev t14 (a1 : String) (a2 a4 a6 : Nat) (a7 : Int) (a17 a20 : Nat) (a21 : Int) (a26 : Nat) (x : Params) : Obj := (@Obj.mk (.type "code") none (@Data.fields (List.toArray [(p_ a1 a2), (p_ a1 a4), (p_ "/claim/cut.py" a6), (j_ a7 0), (j_ 0 0), (j_ 0 0), (j_ 0 0), (j_ 0 0), (r_ a17), (.bool @Bool.false), (j_ 181 0), (r_ a20), .none, .none, .none, .none, (j_ a21 0), (j_ a7 0), (p_ "/claim/cut.py" a26)])) #[])
abbrev t15 (a0 : Int) (a4 : Nat) (a5 : Int) (a9 : Nat) (a10 : Int) (a14 : Nat) (a15 : Int) (a19 : Nat) (a20 : Int) (a24 : Nat) (a25 : Int) (a29 : Nat) (x : Params) : Obj := (@Obj.mk .none none (@Data.fields (List.toArray [(j_ a0 0), (j_ 4 0), (r_ a4), (j_ a5 0), (j_ 4 0), (r_ a9), (j_ a10 0), (j_ 4 0), (r_ a14), (j_ a15 0), (j_ 4 0), (r_ a19), (j_ a20 0), (j_ 4 0), (r_ a24), (j_ a25 0), (j_ 4 0), (r_ a29)])) #[])
abbrev t16 (a3 a8 : Nat) (a9 : String) (a10 a13 : Nat) (a14 : Int) (a15 : Nat) (a16 : String) (a18 a19 : Nat) (a20 : String) (a22 a23 : Nat) (a24 : String) (a26 a27 : Nat) (a28 : String) (a30 a31 a34 a35 a38 a39 a42 a43 : Nat) (x : Params) : Obj := (@Obj.mk (.type "dict") none (@Data.dict (List.toArray [(e_ x "__module__" a3 (p_ "oddbases.ways" 422)), (e_ x "__qualname__" a8 (p_ a9 a10)), (e_ x "__firstlineno__" a13 (j_ a14 a15)), (e_ x a16 a18 (r_ a19)), (e_ x a20 a22 (r_ a23)), (e_ x a24 a26 (r_ a27)), (e_ x a28 a30 (r_ a31)), (e_ x "split" a34 (r_ a35)), (e_ x "has" a38 (r_ a39)), (e_ x "__static_attributes__" a42 (r_ a43))]) 10) #[])
abbrev t17 (x : Params) : Obj := (@Obj.mk (.type "builtin_function_or_method") none (@Data.fields (List.toArray [(.builtin "type.__prepare__"), (.type "type")])) #[])
abbrev t18 (a1 : Nat) (x : Params) : Obj := (@Obj.mk (.type "tuple") none (@Data.seq (List.toArray [(r_ a1)]) 0) #[])
abbrev t19 (a3 a8 : Nat) (a9 : Int) (a10 a13 a14 : Nat) (a15 : String) (a17 a18 : Nat) (a19 : String) (a21 a22 a25 a26 : Nat) (a27 : String) (a29 a30 a33 a34 a37 : Nat) (x : Params) : Obj := (@Obj.mk (.type "dict") none (@Data.dict (List.toArray [(e_ x "__module__" a3 (p_ "oddbases.ways" 422)), (e_ x "__firstlineno__" a8 (j_ a9 a10)), (e_ x "__init__" a13 (r_ a14)), (e_ x a15 a17 (r_ a18)), (e_ x a19 a21 (r_ a22)), (e_ x "ratio" a25 (r_ a26)), (e_ x a27 a29 (r_ a30)), (e_ x "__static_attributes__" a33 (r_ a34)), (e_ x "__doc__" a37 .none)]) 2) #[])
abbrev t20 (a0 : Int) (a4 : Nat) (a5 : Int) (a9 : Nat) (a10 : Int) (a14 : Nat) (a15 : Int) (a19 : Nat) (a20 : Int) (a24 : Nat) (x : Params) : Obj := (@Obj.mk .none none (@Data.fields (List.toArray [(j_ a0 0), (j_ 4 0), (r_ a4), (j_ a5 0), (j_ 4 0), (r_ a9), (j_ a10 0), (j_ 4 0), (r_ a14), (j_ a15 0), (j_ 4 0), (r_ a19), (j_ a20 0), (j_ 4 0), (r_ a24)])) #[])
abbrev t21 (a3 a8 : Nat) (a9 : String) (a10 a13 : Nat) (a14 : Int) (a15 a18 a19 : Nat) (a20 : String) (a22 a23 : Nat) (a24 : String) (a26 a27 a30 a31 : Nat) (a32 : String) (a34 a35 a38 a39 : Nat) (x : Params) : Obj := (@Obj.mk (.type "dict") none (@Data.dict (List.toArray [(e_ x "__module__" a3 (p_ "oddbases.ways" 422)), (e_ x "__qualname__" a8 (p_ a9 a10)), (e_ x "__firstlineno__" a13 (j_ a14 a15)), (e_ x "__init__" a18 (r_ a19)), (e_ x a20 a22 (r_ a23)), (e_ x a24 a26 (r_ a27)), (e_ x "ratio" a30 (r_ a31)), (e_ x a32 a34 (r_ a35)), (e_ x "__static_attributes__" a38 (r_ a39))]) 9) #[])
abbrev t22 (a3 a8 : Nat) (a9 : Int) (a10 a13 a14 a17 a18 a21 a22 a25 a26 a29 : Nat) (x : Params) : Obj := (@Obj.mk (.type "dict") none (@Data.dict (List.toArray [(e_ x "__module__" a3 (p_ "oddbases.ways" 422)), (e_ x "__firstlineno__" a8 (j_ a9 a10)), (e_ x "__init__" a13 (r_ a14)), (e_ x "high" a17 (r_ a18)), (e_ x "ratio" a21 (r_ a22)), (e_ x "__static_attributes__" a25 (r_ a26)), (e_ x "__doc__" a29 .none)]) 2) #[])
abbrev t23 (a0 : Int) (a4 : Nat) (a5 : Int) (a9 : Nat) (a10 : Int) (a14 : Nat) (x : Params) : Obj := (@Obj.mk .none none (@Data.fields (List.toArray [(j_ a0 0), (j_ 4 0), (r_ a4), (j_ a5 0), (j_ 4 0), (r_ a9), (j_ a10 0), (j_ 4 0), (r_ a14)])) #[])
abbrev t24 (a3 a8 : Nat) (a9 : String) (a10 a13 : Nat) (a14 : Int) (a15 a18 a19 a22 a23 a26 a27 a30 a31 : Nat) (x : Params) : Obj := (@Obj.mk (.type "dict") none (@Data.dict (List.toArray [(e_ x "__module__" a3 (p_ "oddbases.ways" 422)), (e_ x "__qualname__" a8 (p_ a9 a10)), (e_ x "__firstlineno__" a13 (j_ a14 a15)), (e_ x "__init__" a18 (r_ a19)), (e_ x "high" a22 (r_ a23)), (e_ x "ratio" a26 (r_ a27)), (e_ x "__static_attributes__" a30 (r_ a31))]) 7) #[])
abbrev t25 (a2 a3 : Nat) (x : Params) : Obj := (@Obj.mk (.type "getset_descriptor") none (@Data.fields (List.toArray [(p_ "__weakref__" a2), (r_ a3), (.builtin "ExceptionGroup.__weakref__"), .none])) #[])
abbrev t26 (a1 : String) (a3 a9 a11 a13 a15 : Nat) (x : Params) : Obj := (@Obj.mk (.type "type") none (@Data.cls (@ClassData.mk (.ofString a1) [(r_ 31)] [(r_ a3), (r_ 31), (.type "ValueError"), (.type "Exception"), (.type "BaseException"), (.type "object")] a9 (.ofString a1) @Bool.true [] [] @Bool.false (@Option.none @Bool) @Bool.false)) (@List.toArray (@Option @Value) [(some (r_ a11)), none, (some (p_ a1 a13)), (some (p_ a1 a15)), (some (.builtin "ValueError.__new__")), (some (.bool @Bool.true))]))
abbrev t27 (a3 a8 : Nat) (a9 : Int) (a10 a13 a14 a17 : Nat) (x : Params) : Obj := (@Obj.mk (.type "dict") none (@Data.dict (List.toArray [(e_ x "__module__" a3 (p_ "oddbases.errors" 194)), (e_ x "__firstlineno__" a8 (j_ a9 a10)), (e_ x "__static_attributes__" a13 (r_ a14)), (e_ x "__doc__" a17 .none)]) 2) #[])
abbrev t28 (a3 a8 : Nat) (a9 : String) (a10 a13 : Nat) (a14 : Int) (a15 a18 a19 : Nat) (x : Params) : Obj := (@Obj.mk (.type "dict") none (@Data.dict (List.toArray [(e_ x "__module__" a3 (p_ "oddbases.errors" 194)), (e_ x "__qualname__" a8 (p_ a9 a10)), (e_ x "__firstlineno__" a13 (j_ a14 a15)), (e_ x "__static_attributes__" a18 (r_ a19))]) 4) #[])
abbrev U2 (x : Params) : DictEntry := (e_ x "__annotations__" 170 (r_ 6))
abbrev U1 (x : Params) : DictEntry := (e_ x "__file__" 173 (p_ "/claim/cut.py" 172))
abbrev U0 (x : Params) : DictEntry := (e_ x "__loader__" 168 (.builtin "__main__.__loader__#opaque"))
def o701 := t0 "law" 43 "law_oddbases_k56_ways_as_texts" 866 604
def o700 (x : Params) : Obj := (@Obj.mk (.type "code") none (@Data.fields (List.toArray [(p_ "law" 930), (p_ "law" 931), (p_ "/claim/cut.py" 932), (j_ 260 0), (j_ 1 0), (j_ 0 0), (j_ 0 0), (j_ 3 0), (r_ 601), (.bool @Bool.true), (j_ 181 0), (r_ 602), .none, .none, .none, (r_ 603), (j_ 933 0), (j_ 260 0), (p_ "/claim/cut.py" 934)])) #[])
def o699 := t1 "law" 43
def o698 := t2
def o697 := t3
def o696 := t0 "_law_bad" 42 "law_oddbases_k56_ways_as_texts" 866 599
def o695 := t4 "_law_bad" 916 "_law_bad" 917 918 244 5 594 595 596 597 598 927 928
def o694 := t1 "_law_bad" 42
def o692 (x : Params) : Obj := (@Obj.mk (.type "tuple") none (@Data.seq (List.toArray [(p_ "_law_name" 919), (p_ "_law_least" 920), (p_ "_law_greatest" 921), (p_ "_law_number" 922), (p_ "_law_cell" 923), (p_ "_law_way" 924), (p_ "_law_text" 925), (p_ "_law_at" 926)]) 0) #[])
def o687 := t0 "_law_refusal" 41 "law_oddbases_k56_ways_as_texts" 866 592
def o686 := t4 "_law_refusal" 907 "_law_refusal" 908 909 234 1 587 588 589 590 591 913 914
def o685 := t1 "_law_refusal" 41
def o683 := t5 "_law_text" 910 "_law_kinds_here" 911 "e" 912
def o680 := t0 "_law_value" 40 "law_oddbases_k56_ways_as_texts" 866 585
def o679 := t4 "_law_value" 899 "_law_value" 900 901 226 2 580 581 582 583 584 904 905
def o678 := t1 "_law_value" 40
def o676 := t6 "_law_way" 902 "_law_name" 903
def o673 := t0 "_law_kinds" 39 "law_oddbases_k56_ways_as_texts" 866 578
def o672 := t4 "_law_kinds" 891 "_law_kinds" 892 893 223 1 573 574 575 576 577 896 897
def o671 := t1 "_law_kinds" 39
def o669 := t6 "_law_way" 894 "_law_kinds_here" 895
def o666 := t0 "_law_made" 38 "law_oddbases_k56_ways_as_texts" 866 571
def o665 := t4 "_law_made" 883 "_law_made" 884 885 211 2 566 567 568 569 570 888 889
def o664 := t1 "_law_made" 38
def o662 := t6 "_law_name" 886 "_law_number" 887
def o659 := t0 "_law_bounds" 37 "law_oddbases_k56_ways_as_texts" 866 564
def o658 := t4 "_law_bounds" 876 "_law_bounds" 877 878 208 0 559 560 561 562 563 880 881
def o657 := t1 "_law_bounds" 37
def o655 := t7 "_law_some" 879
def o652 := t0 "_law_cell_at" 36 "law_oddbases_k56_ways_as_texts" 866 557
def o651 := t4 "_law_cell_at" 868 "_law_cell_at" 869 870 204 2 552 553 554 555 556 873 874
def o650 := t1 "_law_cell_at" 36
def o648 := t6 "_law_script" 871 "_law_k" 872
def o645 := t0 "way_read" 34 "oddbases.texts" 812 550
def o644 := t4 "way_read" 857 "way_read" 858 859 196 1 545 546 547 548 549 863 864
def o643 := t1 "way_read" 34
def o641 := t5 "text" 860 "name" 861 "number" 862
def o638 := t0 "way_made" 33 "oddbases.texts" 812 543
def o637 := t4 "way_made" 849 "way_made" 850 851 182 2 538 539 540 541 542 854 855
def o636 := t1 "way_made" 33
def o634 := t6 "name" 852 "number" 853
def o631 := t0 "whole_read" 32 "oddbases.texts" 812 536
def o630 := t4 "whole_read" 841 "whole_read" 842 843 175 1 531 532 533 534 535 846 847
def o629 := t1 "whole_read" 32
def o627 := t6 "text" 844 "figures" 845
def o624 := t0 "has_figures_alone" 31 "oddbases.texts" 812 529
def o623 := t4 "has_figures_alone" 833 "has_figures_alone" 834 835 170 1 524 525 526 527 528 838 839
def o622 := t1 "has_figures_alone" 31
def o620 := t6 "text" 836 "sign" 837
def o617 := t0 "way_shown" 30 "oddbases.texts" 812 522
def o616 := t4 "way_shown" 826 "way_shown" 827 828 158 1 517 518 519 520 521 830 831
def o615 := t1 "way_shown" 30
def o613 := t7 "way" 829
def o610 := t0 "whole_shown" 29 "oddbases.texts" 812 515
def o609 := t4 "whole_shown" 816 "whole_shown" 817 818 146 1 510 511 512 513 514 823 824
def o608 := t1 "whole_shown" 29
def o606 (x : Params) : Obj := (@Obj.mk (.type "tuple") none (@Data.seq (List.toArray [(p_ "number" 819), (p_ "limit" 820), (p_ "parts" 821), (p_ "rest" 822)]) 0) #[])
def o601 := t8 507
def o600 := t9 507
def o599 := t10 "Pairs" 507 506 456 747 755
def o598 (x : Params) : Obj := (@Obj.mk (.type "dict") none (@Data.dict (List.toArray [(e_ x "__module__" 754 (p_ "oddbases.ways" 422)), (e_ x "__firstlineno__" 758 (j_ 125 757)), (e_ x "__init__" 766 (r_ 469)), (e_ x "nought" 773 (r_ 476)), (e_ x "high" 781 (r_ 483)), (e_ x "ratio" 789 (r_ 490)), (e_ x "split" 798 (r_ 497)), (e_ x "has" 806 (r_ 504)), (e_ x "__static_attributes__" 808 (r_ 505)), (e_ x "__doc__" 809 .none)]) 2) #[])
def o597 := t7 "most" 807
def o596 := t11 "has" "Pairs.has" 26 5 503
def o595 := t4 "has" 799 "Pairs.has" 800 801 142 2 498 499 500 501 502 804 805
def o594 := t12 "has" "Pairs.has" 26 5
def o592 := t6 "self" 802 "number" 803
def o589 := t11 "split" "Pairs.split" 26 4 496
def o588 := t4 "split" 790 "Pairs.split" 791 792 139 3 491 492 493 494 495 796 797
def o587 := t12 "split" "Pairs.split" 26 4
def o585 := t5 "self" 793 "total" 794 "place" 795
def o582 := t11 "ratio" "Pairs.ratio" 26 3 489
def o581 := t4 "ratio" 782 "Pairs.ratio" 783 784 136 2 484 485 486 487 488 787 788
def o580 := t12 "ratio" "Pairs.ratio" 26 3
def o578 := t6 "self" 785 "place" 786
def o575 := t11 "high" "Pairs.high" 26 2 482
def o574 := t4 "high" 774 "Pairs.high" 775 776 133 2 477 478 479 480 481 779 780
def o573 := t12 "high" "Pairs.high" 26 2
def o571 := t6 "self" 777 "place" 778
def o568 := t11 "nought" "Pairs.nought" 26 1 475
def o567 := t4 "nought" 767 "Pairs.nought" 768 769 130 1 470 471 472 473 474 771 772
def o566 := t12 "nought" "Pairs.nought" 26 1
def o564 := t7 "self" 770
def o561 := t11 "__init__" "Pairs.__init__" 26 0 468
def o560 := t4 "__init__" 759 "Pairs.__init__" 760 761 127 2 463 464 465 466 467 764 765
def o559 := t12 "__init__" "Pairs.__init__" 26 0
def o557 := t6 "self" 762 "most" 763
def o554 := t13 461 458 "oddbases.ways" 422
def o553 := t14 "Pairs" 749 750 751 125 459 460 752 753
def o552 := t15 127 468 130 475 133 482 136 489 139 496 142 503
def o550 := t16 754 756 "Pairs" 755 758 125 757 "__init__" 766 469 "nought" 773 476 "high" 781 483 "ratio" 789 490 798 497 806 504 808 505
def o549 := t17
def o548 := t18 251
def o544 := t8 453
def o543 := t9 453
def o542 := t10 "Falling" 453 452 409 689 697
def o541 := t19 696 700 109 699 708 422 "high" 716 429 "weights" 724 436 732 443 "split" 741 450 743 451 744
def o540 := t7 "most" 742
def o539 := t11 "split" "Falling.split" 25 4 449
def o538 := t4 "split" 733 "Falling.split" 734 735 123 3 444 445 446 447 448 739 740
def o537 := t12 "split" "Falling.split" 25 4
def o535 := t5 "self" 736 "total" 737 "place" 738
def o532 := t11 "ratio" "Falling.ratio" 25 3 442
def o531 := t4 "ratio" 725 "Falling.ratio" 726 727 120 2 437 438 439 440 441 730 731
def o530 := t12 "ratio" "Falling.ratio" 25 3
def o528 := t6 "self" 728 "place" 729
def o525 := t11 "weights" "Falling.weights" 25 2 435
def o524 := t4 "weights" 717 "Falling.weights" 718 719 117 2 430 431 432 433 434 722 723
def o523 := t12 "weights" "Falling.weights" 25 2
def o521 := t6 "self" 720 "many" 721
def o518 := t11 "high" "Falling.high" 25 1 428
def o517 := t4 "high" 709 "Falling.high" 710 711 114 2 423 424 425 426 427 714 715
def o516 := t12 "high" "Falling.high" 25 1
def o514 := t6 "self" 712 "place" 713
def o511 := t11 "__init__" "Falling.__init__" 25 0 421
def o510 := t4 "__init__" 701 "Falling.__init__" 702 703 111 2 416 417 418 419 420 706 707
def o509 := t12 "__init__" "Falling.__init__" 25 0
def o507 := t6 "self" 704 "most" 705
def o504 := t13 414 411 "oddbases.ways" 422
def o503 := t14 "Falling" 691 692 693 109 412 413 694 695
def o502 := t20 111 421 114 428 117 435 120 442 123 449
def o500 := t21 696 698 "Falling" 697 700 109 699 708 422 "high" 716 429 "weights" 724 436 732 443 "split" 741 450 743 451
def o494 := t8 406
def o493 := t9 406
def o492 := t10 "Growing" 406 405 376 648 656
def o491 := t22 655 659 99 658 667 389 675 396 683 403 685 404 686
def o490 := t7 "first" 684
def o489 := t11 "ratio" "Growing.ratio" 24 2 402
def o488 := t4 "ratio" 676 "Growing.ratio" 677 678 107 2 397 398 399 400 401 681 682
def o487 := t12 "ratio" "Growing.ratio" 24 2
def o485 := t6 "self" 679 "place" 680
def o482 := t11 "high" "Growing.high" 24 1 395
def o481 := t4 "high" 668 "Growing.high" 669 670 104 2 390 391 392 393 394 673 674
def o480 := t12 "high" "Growing.high" 24 1
def o478 := t6 "self" 671 "place" 672
def o475 := t11 "__init__" "Growing.__init__" 24 0 388
def o474 := t4 "__init__" 660 "Growing.__init__" 661 662 101 2 383 384 385 386 387 665 666
def o473 := t12 "__init__" "Growing.__init__" 24 0
def o471 := t6 "self" 663 "first" 664
def o468 := t13 381 378 "oddbases.ways" 422
def o467 := t14 "Growing" 650 651 652 99 379 380 653 654
def o466 := t23 101 388 104 395 107 402
def o464 := t24 655 657 "Growing" 656 659 99 658 667 389 675 396 683 403 685 404
def o458 := t8 373
def o457 := t9 373
def o456 := t10 "Balanced" 373 372 329 591 599
def o455 := t19 598 602 83 601 610 342 "low" 618 349 "high" 626 356 634 363 "has" 642 370 644 371 645
def o454 := t7 "half" 643
def o453 := t11 "has" "Balanced.has" 23 4 369
def o452 := t4 "has" 635 "Balanced.has" 636 637 97 2 364 365 366 367 368 640 641
def o451 := t12 "has" "Balanced.has" 23 4
def o449 := t6 "self" 638 "number" 639
def o446 := t11 "ratio" "Balanced.ratio" 23 3 362
def o445 := t4 "ratio" 627 "Balanced.ratio" 628 629 94 2 357 358 359 360 361 632 633
def o444 := t12 "ratio" "Balanced.ratio" 23 3
def o442 := t6 "self" 630 "place" 631
def o439 := t11 "high" "Balanced.high" 23 2 355
def o438 := t4 "high" 619 "Balanced.high" 620 621 91 2 350 351 352 353 354 624 625
def o437 := t12 "high" "Balanced.high" 23 2
def o435 := t6 "self" 622 "place" 623
def o432 := t11 "low" "Balanced.low" 23 1 348
def o431 := t4 "low" 611 "Balanced.low" 612 613 88 2 343 344 345 346 347 616 617
def o430 := t12 "low" "Balanced.low" 23 1
def o428 := t6 "self" 614 "place" 615
def o425 := t11 "__init__" "Balanced.__init__" 23 0 341
def o424 := t4 "__init__" 603 "Balanced.__init__" 604 605 85 2 336 337 338 339 340 608 609
def o423 := t12 "__init__" "Balanced.__init__" 23 0
def o421 := t6 "self" 606 "half" 607
def o418 := t13 334 331 "oddbases.ways" 422
def o417 := t14 "Balanced" 593 594 595 83 332 333 596 597
def o416 := t20 85 341 88 348 91 355 94 362 97 369
def o414 := t21 598 600 "Balanced" 599 602 83 601 610 342 "low" 618 349 "high" 626 356 634 363 "has" 642 370 644 371
def o408 := t8 326
def o407 := t9 326
def o406 := t10 "Below" 326 325 289 542 550
def o405 (x : Params) : Obj := (@Obj.mk (.type "dict") none (@Data.dict (List.toArray [(e_ x "__module__" 549 (p_ "oddbases.ways" 422)), (e_ x "__firstlineno__" 553 (j_ 70 552)), (e_ x "__init__" 561 (r_ 302)), (e_ x "high" 569 (r_ 309)), (e_ x "ratio" 577 (r_ 316)), (e_ x "has" 585 (r_ 323)), (e_ x "__static_attributes__" 587 (r_ 324)), (e_ x "__doc__" 588 .none)]) 2) #[])
def o404 := t7 "base" 586
def o403 := t11 "has" "Below.has" 22 3 322
def o402 := t4 "has" 578 "Below.has" 579 580 81 2 317 318 319 320 321 583 584
def o401 := t12 "has" "Below.has" 22 3
def o399 := t6 "self" 581 "number" 582
def o396 := t11 "ratio" "Below.ratio" 22 2 315
def o395 := t4 "ratio" 570 "Below.ratio" 571 572 78 2 310 311 312 313 314 575 576
def o394 := t12 "ratio" "Below.ratio" 22 2
def o392 := t6 "self" 573 "place" 574
def o389 := t11 "high" "Below.high" 22 1 308
def o388 := t4 "high" 562 "Below.high" 563 564 75 2 303 304 305 306 307 567 568
def o387 := t12 "high" "Below.high" 22 1
def o385 := t6 "self" 565 "place" 566
def o382 := t11 "__init__" "Below.__init__" 22 0 301
def o381 := t4 "__init__" 554 "Below.__init__" 555 556 72 2 296 297 298 299 300 559 560
def o380 := t12 "__init__" "Below.__init__" 22 0
def o378 := t6 "self" 557 "base" 558
def o375 := t13 294 291 "oddbases.ways" 422
def o374 := t14 "Below" 544 545 546 70 292 293 547 548
def o373 (x : Params) : Obj := (@Obj.mk .none none (@Data.fields (List.toArray [(j_ 72 0), (j_ 4 0), (r_ 301), (j_ 75 0), (j_ 4 0), (r_ 308), (j_ 78 0), (j_ 4 0), (r_ 315), (j_ 81 0), (j_ 4 0), (r_ 322)])) #[])
def o371 (x : Params) : Obj := (@Obj.mk (.type "dict") none (@Data.dict (List.toArray [(e_ x "__module__" 549 (p_ "oddbases.ways" 422)), (e_ x "__qualname__" 551 (p_ "Below" 550)), (e_ x "__firstlineno__" 553 (j_ 70 552)), (e_ x "__init__" 561 (r_ 302)), (e_ x "high" 569 (r_ 309)), (e_ x "ratio" 577 (r_ 316)), (e_ x "has" 585 (r_ 323)), (e_ x "__static_attributes__" 587 (r_ 324))]) 8) #[])
def o365 := t8 286
def o364 := t9 286
def o363 := t10 "Plain" 286 285 256 501 509
def o362 := t22 508 512 60 511 520 269 528 276 536 283 538 284 539
def o361 := t7 "base" 537
def o360 := t11 "ratio" "Plain.ratio" 21 2 282
def o359 := t4 "ratio" 529 "Plain.ratio" 530 531 68 2 277 278 279 280 281 534 535
def o358 := t12 "ratio" "Plain.ratio" 21 2
def o356 := t6 "self" 532 "place" 533
def o353 := t11 "high" "Plain.high" 21 1 275
def o352 := t4 "high" 521 "Plain.high" 522 523 65 2 270 271 272 273 274 526 527
def o351 := t12 "high" "Plain.high" 21 1
def o349 := t6 "self" 524 "place" 525
def o346 := t11 "__init__" "Plain.__init__" 21 0 268
def o345 := t4 "__init__" 513 "Plain.__init__" 514 515 62 2 263 264 265 266 267 518 519
def o344 := t12 "__init__" "Plain.__init__" 21 0
def o342 := t6 "self" 516 "base" 517
def o339 := t13 261 258 "oddbases.ways" 422
def o338 := t14 "Plain" 503 504 505 60 259 260 506 507
def o337 := t23 62 268 65 275 68 282
def o335 := t24 508 510 "Plain" 509 512 60 511 520 269 528 276 536 283 538 284
def o329 := t8 251
def o328 := t9 251
def o327 := t25 496 251
def o326 (x : Params) : Obj := (@Obj.mk (.type "getset_descriptor") none (@Data.fields (List.toArray [(p_ "__dict__" 494), (r_ 251), (.builtin "function.__dict__"), (.builtin "function.__dict__#set")])) #[])
def o547 (x : Params) : Obj := (@Obj.mk (.type "type") none (@Data.cls (@ClassData.mk (.ofString "Way") [(.type "object")] [(r_ 251), (.type "object")] 250 (.ofString "Way") @Bool.true [] [(r_ 286), (r_ 326), (r_ 373), (r_ 406), (r_ 453), (r_ 507)] @Bool.false (@Option.none @Bool) @Bool.false)) (@List.toArray (@Option @Value) [none, none, (some (p_ "Way" 433)), (some (p_ "Way" 441)), (some (.builtin "object.__new__")), (some (.bool @Bool.true))]))
def o324 (x : Params) : Obj := (@Obj.mk (.type "dict") none (@Data.dict (List.toArray [(e_ x "__module__" 440 (p_ "oddbases.ways" 422)), (e_ x "__firstlineno__" 444 (j_ 41 443)), (e_ x "nought" 451 (r_ 213)), (e_ x "low" 459 (r_ 220)), (e_ x "weights" 467 (r_ 227)), (e_ x "weight" 475 (r_ 234)), (e_ x "split" 484 (r_ 241)), (e_ x "has" 492 (r_ 248)), (e_ x "__static_attributes__" 493 (r_ 249)), (e_ x "__dict__" 495 (r_ 252)), (e_ x "__weakref__" 497 (r_ 253)), (e_ x "__doc__" 498 .none)]) 4) #[])
def o322 := t11 "has" "Way.has" 20 5 247
def o321 := t4 "has" 485 "Way.has" 486 487 58 2 242 243 244 245 246 490 491
def o320 := t12 "has" "Way.has" 20 5
def o318 := t6 "self" 488 "number" 489
def o315 := t11 "split" "Way.split" 20 4 240
def o314 := t4 "split" 476 "Way.split" 477 478 55 3 235 236 237 238 239 482 483
def o313 := t12 "split" "Way.split" 20 4
def o311 := t5 "self" 479 "total" 480 "place" 481
def o308 := t11 "weight" "Way.weight" 20 3 233
def o307 := t4 "weight" 468 "Way.weight" 469 470 52 2 228 229 230 231 232 473 474
def o306 := t12 "weight" "Way.weight" 20 3
def o304 := t6 "self" 471 "place" 472
def o301 := t11 "weights" "Way.weights" 20 2 226
def o300 := t4 "weights" 460 "Way.weights" 461 462 49 2 221 222 223 224 225 465 466
def o299 := t12 "weights" "Way.weights" 20 2
def o297 := t6 "self" 463 "many" 464
def o294 := t11 "low" "Way.low" 20 1 219
def o293 := t4 "low" 452 "Way.low" 453 454 46 2 214 215 216 217 218 457 458
def o292 := t12 "low" "Way.low" 20 1
def o290 := t6 "self" 455 "place" 456
def o287 := t11 "nought" "Way.nought" 20 0 212
def o286 := t4 "nought" 445 "Way.nought" 446 447 43 1 207 208 209 210 211 449 450
def o285 := t12 "nought" "Way.nought" 20 0
def o283 := t7 "self" 448
def o280 := t13 205 202 "oddbases.ways" 422
def o279 := t14 "Way" 435 436 437 41 203 204 438 439
def o278 := t15 43 212 46 219 49 226 52 233 55 240 58 247
def o276 := t16 440 442 "Way" 441 444 41 443 "nought" 451 213 "low" 459 220 "weights" 467 227 "weight" 475 234 484 241 492 248 493 249
def o271 := t0 "bounded" 19 "oddbases.ways" 422 198
def o270 := t4 "bounded" 424 "bounded" 425 426 37 3 193 194 195 196 197 430 431
def o269 := t1 "bounded" 19
def o267 := t5 "number" 427 "least" 428 "most" 429
def o264 := t0 "is_pair" 17 "oddbases.pairs" 406 191
def o263 := t4 "is_pair" 415 "is_pair" 416 417 34 1 186 187 188 189 190 419 420
def o262 := t1 "is_pair" 17
def o260 := t7 "value" 418
def o257 := t0 "is_whole" 16 "oddbases.pairs" 406 184
def o256 := t4 "is_whole" 408 "is_whole" 409 410 32 1 179 180 181 182 183 412 413
def o255 := t1 "is_whole" 16
def o253 := t7 "value" 411
def o250 := t8 176
def o249 := t9 176
def o248 := t26 "NoRow" 176 175 167 390 398
def o247 := t27 397 401 29 400 402 174 403
def o245 := t13 172 169 "oddbases.errors" 194
def o244 := t14 "NoRow" 392 393 394 29 170 171 395 396
def o241 := t28 397 399 "NoRow" 398 401 29 400 402 174
def o239 := t18 31
def o235 := t8 164
def o234 := t9 164
def o233 := t26 "NoText" 164 163 155 374 382
def o232 := t27 381 385 27 384 386 162 387
def o230 := t13 160 157 "oddbases.errors" 194
def o229 := t14 "NoText" 376 377 378 27 158 159 379 380
def o226 := t28 381 383 "NoText" 382 385 27 384 386 162
def o220 := t8 152
def o219 := t9 152
def o218 := t26 "NoTotal" 152 151 143 358 366
def o217 := t27 365 369 25 368 370 150 371
def o215 := t13 148 145 "oddbases.errors" 194
def o214 := t14 "NoTotal" 360 361 362 25 146 147 363 364
def o211 := t28 365 367 "NoTotal" 366 369 25 368 370 150
def o205 := t8 140
def o204 := t9 140
def o203 := t26 "NoSpan" 140 139 131 342 350
def o202 := t27 349 353 23 352 354 138 355
def o200 := t13 136 133 "oddbases.errors" 194
def o199 := t14 "NoSpan" 344 345 346 23 134 135 347 348
def o196 := t28 349 351 "NoSpan" 350 353 23 352 354 138
def o190 := t8 128
def o189 := t9 128
def o188 := t26 "Nought" 128 127 119 326 334
def o187 := t27 333 337 21 336 338 126 339
def o185 := t13 124 121 "oddbases.errors" 194
def o184 := t14 "Nought" 328 329 330 21 122 123 331 332
def o181 := t28 333 335 "Nought" 334 337 21 336 338 126
def o175 := t8 116
def o174 := t9 116
def o173 := t26 "NoPairs" 116 115 107 310 318
def o172 := t27 317 321 19 320 322 114 323
def o170 := t13 112 109 "oddbases.errors" 194
def o169 := t14 "NoPairs" 312 313 314 19 110 111 315 316
def o166 := t28 317 319 "NoPairs" 318 321 19 320 322 114
def o160 := t8 104
def o159 := t9 104
def o158 := t26 "NoFalling" 104 103 95 294 302
def o157 := t27 301 305 17 304 306 102 307
def o155 := t13 100 97 "oddbases.errors" 194
def o154 := t14 "NoFalling" 296 297 298 17 98 99 299 300
def o151 := t28 301 303 "NoFalling" 302 305 17 304 306 102
def o145 := t8 92
def o144 := t9 92
def o143 := t26 "NoRatio" 92 91 83 278 286
def o142 := t27 285 289 15 288 290 90 291
def o140 := t13 88 85 "oddbases.errors" 194
def o139 := t14 "NoRatio" 280 281 282 15 86 87 283 284
def o136 := t28 285 287 "NoRatio" 286 289 15 288 290 90
def o130 := t8 80
def o129 := t9 80
def o128 := t26 "TooLess" 80 79 71 262 270
def o127 := t27 269 273 13 272 274 78 275
def o125 := t13 76 73 "oddbases.errors" 194
def o124 := t14 "TooLess" 264 265 266 13 74 75 267 268
def o121 := t28 269 271 "TooLess" 270 273 13 272 274 78
def o115 := t8 68
def o114 := t9 68
def o113 := t26 "NoWriting" 68 67 59 246 254
def o112 := t27 253 257 11 256 258 66 259
def o110 := t13 64 61 "oddbases.errors" 194
def o109 := t14 "NoWriting" 248 249 250 11 62 63 251 252
def o106 := t28 253 255 "NoWriting" 254 257 11 256 258 66
def o100 := t8 56
def o99 := t9 56
def o98 := t26 "NoNumber" 56 55 47 230 238
def o97 := t27 237 241 9 240 242 54 243
def o95 := t13 52 49 "oddbases.errors" 194
def o94 := t14 "NoNumber" 232 233 234 9 50 51 235 236
def o91 := t28 237 239 "NoNumber" 238 241 9 240 242 54
def o85 := t8 44
def o84 := t9 44
def o83 := t26 "NoWay" 44 43 35 214 222
def o82 := t27 221 225 7 224 226 42 227
def o80 := t13 40 37 "oddbases.errors" 194
def o79 := t14 "NoWay" 216 217 218 7 38 39 219 220
def o76 := t28 221 223 "NoWay" 222 225 7 224 226 42
def o70 := t8 31
def o69 := t9 31
def o68 := t25 209 31
def o238 (x : Params) : Obj := (@Obj.mk (.type "type") none (@Data.cls (@ClassData.mk (.ofString "OddError") [(.type "ValueError")] [(r_ 31), (.type "ValueError"), (.type "Exception"), (.type "BaseException"), (.type "object")] 30 (.ofString "OddError") @Bool.true [] [(r_ 44), (r_ 56), (r_ 68), (r_ 80), (r_ 92), (r_ 104), (r_ 116), (r_ 128), (r_ 140), (r_ 152), (r_ 164), (r_ 176)] @Bool.false (@Option.none @Bool) @Bool.false)) (@List.toArray (@Option @Value) [(some (r_ 22)), none, (some (p_ "OddError" 196)), (some (p_ "OddError" 204)), (some (.builtin "ValueError.__new__")), (some (.bool @Bool.true))]))
def o66 (x : Params) : Obj := (@Obj.mk (.type "dict") none (@Data.dict (List.toArray [(e_ x "__module__" 203 (p_ "oddbases.errors" 194)), (e_ x "__firstlineno__" 207 (j_ 5 206)), (e_ x "__static_attributes__" 208 (r_ 29)), (e_ x "__weakref__" 210 (r_ 32)), (e_ x "__doc__" 211 .none)]) 3) #[])
def o64 := t13 27 24 "oddbases.errors" 194
def o63 := t14 "OddError" 198 199 200 5 25 26 201 202
def o60 := t28 203 205 "OddError" 204 207 5 206 208 29
def o58 (x : Params) : Obj := (@Obj.mk (.type "tuple") none (@Data.seq (List.toArray [(.type "ValueError")]) 0) #[])
def o57 := t0 "_wall" 0 "__main__" 164 20
def o56 := t4 "_wall" 187 "_wall" 188 189 1 1 15 16 17 18 19 191 192
def o55 := t1 "_wall" 0
def o53 := t7 "k" 190
def o46 := t13 13 3 "__main__" 164
def o45 := t14 "<module>" 182 183 184 1 11 12 185 186
def o689 (x : Params) : Obj := (@Obj.mk .none none (@Data.fields (List.toArray ((j_ 1 0) :: (j_ 0 0) :: (r_ 20) :: (j_ 5 0) :: (j_ 0 0) :: (r_ 27) :: (j_ 7 0) :: (j_ 0 0) :: (r_ 40) :: (j_ 9 0) :: (j_ 0 0) :: (r_ 52) :: (j_ 11 0) :: (j_ 0 0) :: (r_ 64) :: (j_ 13 0) :: (j_ 0 0) :: (r_ 76) :: (j_ 15 0) :: (j_ 0 0) :: (r_ 88) :: (j_ 17 0) :: (j_ 0 0) :: (r_ 100) :: (j_ 19 0) :: (j_ 0 0) :: (r_ 112) :: (j_ 21 0) :: (j_ 0 0) :: (r_ 124) :: (j_ 23 0) :: (j_ 0 0) :: (r_ 136) :: (j_ 25 0) :: (j_ 0 0) :: (r_ 148) :: (j_ 27 0) :: (j_ 0 0) :: (r_ 160) :: (j_ 29 0) :: (j_ 0 0) :: (r_ 172) :: (j_ 32 0) :: (j_ 0 0) :: (r_ 184) :: (j_ 34 0) :: (j_ 0 0) :: (r_ 191) :: (j_ 37 0) :: (j_ 0 0) :: (r_ 198) :: (j_ 41 0) :: (j_ 0 0) :: (r_ 205) :: (j_ 60 0) :: (j_ 0 0) :: (r_ 261) :: (j_ 70 0) :: (j_ 0 0) :: (r_ 294) :: (j_ 83 0) :: (j_ 0 0) :: (r_ 334) :: (j_ 99 0) :: (j_ 0 0) :: (r_ 381) :: (j_ 109 0) :: (j_ 0 0) :: (r_ 414) :: (j_ 125 0) :: (j_ 0 0) :: (r_ 461) :: (j_ 146 0) :: (j_ 0 0) :: (r_ 515) :: (j_ 158 0) :: (j_ 0 0) :: (r_ 522) :: (j_ 170 0) :: (j_ 0 0) :: (r_ 529) :: (j_ 175 0) :: (j_ 0 0) :: (r_ 536) :: (j_ 182 0) :: (j_ 0 0) :: (r_ 543) :: (j_ 196 0) :: (j_ 0 0) :: (r_ 550) :: (j_ 204 0) :: (j_ 0 0) :: (r_ 557) :: (j_ 208 0) :: (j_ 0 0) :: (r_ 564) :: (j_ 211 0) :: (j_ 0 0) :: (r_ 571) :: (j_ 223 0) :: (j_ 0 0) :: (r_ 578) :: (j_ 226 0) :: (j_ 0 0) :: (r_ 585) :: (j_ 234 0) :: (j_ 0 0) :: (r_ 592) :: (j_ 244 0) :: (j_ 0 0) :: (r_ 599) :: (j_ 260 0) :: (j_ 0 0) :: (r_ 604) :: []))) #[])
def o688 (x : Params) : Obj := (@Obj.mk (.type "dict") none (@Data.dict (List.toArray [(e_ x "__name__" 165 (p_ "law_oddbases_k56_ways_as_texts" 866)), (e_ x "__doc__" 166 .none), (e_ x "__package__" 167 .none), (U0 x), (e_ x "__spec__" 169 .none), (U2 x), (e_ x "__builtins__" 171 (r_ 4)), (U1 x), (e_ x "__cached__" 174 .none), (e_ x "_wall" 193 (r_ 21)), (e_ x "OddError" 213 (r_ 31)), (e_ x "NoWay" 229 (r_ 44)), (e_ x "NoNumber" 245 (r_ 56)), (e_ x "NoWriting" 261 (r_ 68)), (e_ x "TooLess" 277 (r_ 80)), (e_ x "NoRatio" 293 (r_ 92)), (e_ x "NoFalling" 309 (r_ 104)), (e_ x "NoPairs" 325 (r_ 116)), (e_ x "Nought" 341 (r_ 128)), (e_ x "NoSpan" 357 (r_ 140)), (e_ x "NoTotal" 373 (r_ 152)), (e_ x "NoText" 389 (r_ 164)), (e_ x "NoRow" 405 (r_ 176)), (e_ x "is_whole" 414 (r_ 185)), (e_ x "is_pair" 421 (r_ 192)), (e_ x "bounded" 432 (r_ 199)), (e_ x "Way" 500 (r_ 251)), (e_ x "Plain" 541 (r_ 286)), (e_ x "Below" 590 (r_ 326)), (e_ x "Balanced" 647 (r_ 373)), (e_ x "Growing" 688 (r_ 406)), (e_ x "Falling" 746 (r_ 453)), (e_ x "Pairs" 811 (r_ 507)), (e_ x "FIGURES" 815 (p_ "0123456789" 814)), (e_ x "whole_shown" 825 (r_ 516)), (e_ x "way_shown" 832 (r_ 523)), (e_ x "has_figures_alone" 840 (r_ 530)), (e_ x "whole_read" 848 (r_ 537)), (e_ x "way_made" 856 (r_ 544)), (e_ x "way_read" 865 (r_ 551)), (e_ x "_law_cell_at" 875 (r_ 558)), (e_ x "_law_bounds" 882 (r_ 565)), (e_ x "_law_made" 890 (r_ 572)), (e_ x "_law_kinds" 898 (r_ 579)), (e_ x "_law_value" 906 (r_ 586)), (e_ x "_law_refusal" 915 (r_ 593)), (e_ x "_law_bad" 929 (r_ 600)), (e_ x "law" 935 (r_ 605))]) 48) #[])
def o367 (x : Params) : Obj := (@Obj.mk .none none (@Data.fields (List.toArray [(j_ 1 0), (j_ 0 0), (r_ 20), (j_ 5 0), (j_ 0 0), (r_ 27), (j_ 7 0), (j_ 0 0), (r_ 40), (j_ 9 0), (j_ 0 0), (r_ 52), (j_ 11 0), (j_ 0 0), (r_ 64), (j_ 13 0), (j_ 0 0), (r_ 76), (j_ 15 0), (j_ 0 0), (r_ 88), (j_ 17 0), (j_ 0 0), (r_ 100), (j_ 19 0), (j_ 0 0), (r_ 112), (j_ 21 0), (j_ 0 0), (r_ 124), (j_ 23 0), (j_ 0 0), (r_ 136), (j_ 25 0), (j_ 0 0), (r_ 148), (j_ 27 0), (j_ 0 0), (r_ 160), (j_ 29 0), (j_ 0 0), (r_ 172), (j_ 32 0), (j_ 0 0), (r_ 184), (j_ 34 0), (j_ 0 0), (r_ 191), (j_ 37 0), (j_ 0 0), (r_ 198), (j_ 41 0), (j_ 0 0), (r_ 205), (j_ 60 0), (j_ 0 0), (r_ 261), (j_ 70 0), (j_ 0 0), (r_ 294)])) #[])
def o368 (x : Params) : Obj := (@Obj.mk (.type "type") none (@Data.cls (@ClassData.mk (.ofString "Way") [(.type "object")] [(r_ 251), (.type "object")] 250 (.ofString "Way") @Bool.true [] [(r_ 286), (r_ 326)] @Bool.false (@Option.none @Bool) @Bool.false)) (@List.toArray (@Option @Value) [none, none, (some (p_ "Way" 433)), (some (p_ "Way" 441)), (some (.builtin "object.__new__")), (some (.bool @Bool.true))]))
def o366 (x : Params) : Obj := (@Obj.mk (.type "dict") none (@Data.dict (List.toArray [(e_ x "__name__" 165 (p_ "oddbases.ways" 422)), (e_ x "__doc__" 166 .none), (e_ x "__package__" 167 .none), (U0 x), (e_ x "__spec__" 169 .none), (U2 x), (e_ x "__builtins__" 171 (r_ 4)), (U1 x), (e_ x "__cached__" 174 .none), (e_ x "_wall" 193 (r_ 21)), (e_ x "OddError" 213 (r_ 31)), (e_ x "NoWay" 229 (r_ 44)), (e_ x "NoNumber" 245 (r_ 56)), (e_ x "NoWriting" 261 (r_ 68)), (e_ x "TooLess" 277 (r_ 80)), (e_ x "NoRatio" 293 (r_ 92)), (e_ x "NoFalling" 309 (r_ 104)), (e_ x "NoPairs" 325 (r_ 116)), (e_ x "Nought" 341 (r_ 128)), (e_ x "NoSpan" 357 (r_ 140)), (e_ x "NoTotal" 373 (r_ 152)), (e_ x "NoText" 389 (r_ 164)), (e_ x "NoRow" 405 (r_ 176)), (e_ x "is_whole" 414 (r_ 185)), (e_ x "is_pair" 421 (r_ 192)), (e_ x "bounded" 432 (r_ 199)), (e_ x "Way" 500 (r_ 251)), (e_ x "Plain" 541 (r_ 286)), (e_ x "Below" 590 (r_ 326))]) 29) #[])
def o177 (x : Params) : Obj := (@Obj.mk .none none (@Data.fields (List.toArray [(j_ 1 0), (j_ 0 0), (r_ 20), (j_ 5 0), (j_ 0 0), (r_ 27), (j_ 7 0), (j_ 0 0), (r_ 40), (j_ 9 0), (j_ 0 0), (r_ 52), (j_ 11 0), (j_ 0 0), (r_ 64), (j_ 13 0), (j_ 0 0), (r_ 76), (j_ 15 0), (j_ 0 0), (r_ 88), (j_ 17 0), (j_ 0 0), (r_ 100), (j_ 19 0), (j_ 0 0), (r_ 112), (j_ 21 0), (j_ 0 0), (r_ 124)])) #[])
def o178 (x : Params) : Obj := (@Obj.mk (.type "type") none (@Data.cls (@ClassData.mk (.ofString "OddError") [(.type "ValueError")] [(r_ 31), (.type "ValueError"), (.type "Exception"), (.type "BaseException"), (.type "object")] 30 (.ofString "OddError") @Bool.true [] [(r_ 44), (r_ 56), (r_ 68), (r_ 80), (r_ 92), (r_ 104), (r_ 116), (r_ 128)] @Bool.false (@Option.none @Bool) @Bool.false)) (@List.toArray (@Option @Value) [(some (r_ 22)), none, (some (p_ "OddError" 196)), (some (p_ "OddError" 204)), (some (.builtin "ValueError.__new__")), (some (.bool @Bool.true))]))
def o176 (x : Params) : Obj := (@Obj.mk (.type "dict") none (@Data.dict (List.toArray [(e_ x "__name__" 165 (p_ "oddbases.errors" 194)), (e_ x "__doc__" 166 .none), (e_ x "__package__" 167 .none), (U0 x), (e_ x "__spec__" 169 .none), (U2 x), (e_ x "__builtins__" 171 (r_ 4)), (U1 x), (e_ x "__cached__" 174 .none), (e_ x "_wall" 193 (r_ 21)), (e_ x "OddError" 213 (r_ 31)), (e_ x "NoWay" 229 (r_ 44)), (e_ x "NoNumber" 245 (r_ 56)), (e_ x "NoWriting" 261 (r_ 68)), (e_ x "TooLess" 277 (r_ 80)), (e_ x "NoRatio" 293 (r_ 92)), (e_ x "NoFalling" 309 (r_ 104)), (e_ x "NoPairs" 325 (r_ 116)), (e_ x "Nought" 341 (r_ 128))]) 19) #[])
abbrev Y5 := N_ o697 (L_ o698) Z_
abbrev Y4 := N_ o698 (L_ o698) Z_
abbrev Y3 := N_ o697 (L_ o697) Z_
abbrev Y2 := N_ o698 (L_ o697) Z_
abbrev Y1 := N_ o698 (L_ o697) (L_ o698)
abbrev Y0 := N_ o697 Y3 (L_ o698)
def myAs : List Nat := ((nat_lit 2) :: (nat_lit 3) :: (nat_lit 15) :: (nat_lit 17) :: (nat_lit 18) :: (nat_lit 20) :: (nat_lit 21) :: (nat_lit 22) :: (nat_lit 29) :: (nat_lit 30) :: (nat_lit 31) :: (nat_lit 32) :: (nat_lit 35) :: (nat_lit 42) :: (nat_lit 43) :: (nat_lit 44) :: (nat_lit 47) :: (nat_lit 54) :: (nat_lit 55) :: (nat_lit 56) :: (nat_lit 59) :: (nat_lit 66) :: (nat_lit 67) :: (nat_lit 68) :: (nat_lit 71) :: (nat_lit 78) :: (nat_lit 79) :: (nat_lit 80) :: (nat_lit 83) :: (nat_lit 90) :: (nat_lit 91) :: (nat_lit 92) :: (nat_lit 95) :: (nat_lit 102) :: (nat_lit 103) :: (nat_lit 104) :: (nat_lit 107) :: (nat_lit 114) :: (nat_lit 115) :: (nat_lit 116) :: (nat_lit 119) :: (nat_lit 126) :: (nat_lit 127) :: (nat_lit 128) :: (nat_lit 131) :: (nat_lit 138) :: (nat_lit 139) :: (nat_lit 140) :: (nat_lit 143) :: (nat_lit 150) :: (nat_lit 151) :: (nat_lit 152) :: (nat_lit 155) :: (nat_lit 162) :: (nat_lit 163) :: (nat_lit 164) :: (nat_lit 167) :: (nat_lit 174) :: (nat_lit 175) :: (nat_lit 176) :: (nat_lit 179) :: (nat_lit 181) :: (nat_lit 182) :: (nat_lit 184) :: (nat_lit 185) :: (nat_lit 186) :: (nat_lit 188) :: (nat_lit 189) :: (nat_lit 191) :: (nat_lit 192) :: (nat_lit 193) :: (nat_lit 195) :: (nat_lit 196) :: (nat_lit 198) :: (nat_lit 199) :: (nat_lit 207) :: (nat_lit 209) :: (nat_lit 210) :: (nat_lit 212) :: (nat_lit 213) :: (nat_lit 214) :: (nat_lit 216) :: (nat_lit 217) :: (nat_lit 219) :: (nat_lit 220) :: (nat_lit 221) :: (nat_lit 223) :: (nat_lit 224) :: (nat_lit 226) :: (nat_lit 227) :: (nat_lit 228) :: (nat_lit 230) :: (nat_lit 231) :: (nat_lit 233) :: (nat_lit 234) :: (nat_lit 235) :: (nat_lit 237) :: (nat_lit 238) :: (nat_lit 240) :: (nat_lit 241) :: (nat_lit 242) :: (nat_lit 244) :: (nat_lit 245) :: (nat_lit 247) :: (nat_lit 248) :: (nat_lit 249) :: (nat_lit 250) :: (nat_lit 251) :: (nat_lit 252) :: (nat_lit 253) :: (nat_lit 256) :: (nat_lit 263) :: (nat_lit 265) :: (nat_lit 266) :: (nat_lit 268) :: (nat_lit 269) :: (nat_lit 270) :: (nat_lit 272) :: (nat_lit 273) :: (nat_lit 275) :: (nat_lit 276) :: (nat_lit 277) :: (nat_lit 279) :: (nat_lit 280) :: (nat_lit 282) :: (nat_lit 283) :: (nat_lit 284) :: (nat_lit 285) :: (nat_lit 286) :: (nat_lit 289) :: (nat_lit 296) :: (nat_lit 298) :: (nat_lit 299) :: (nat_lit 301) :: (nat_lit 302) :: (nat_lit 303) :: (nat_lit 305) :: (nat_lit 306) :: (nat_lit 308) :: (nat_lit 309) :: (nat_lit 310) :: (nat_lit 312) :: (nat_lit 313) :: (nat_lit 315) :: (nat_lit 316) :: (nat_lit 317) :: (nat_lit 319) :: (nat_lit 320) :: (nat_lit 322) :: (nat_lit 323) :: (nat_lit 324) :: (nat_lit 325) :: (nat_lit 326) :: (nat_lit 329) :: (nat_lit 336) :: (nat_lit 338) :: (nat_lit 339) :: (nat_lit 341) :: (nat_lit 342) :: (nat_lit 343) :: (nat_lit 345) :: (nat_lit 346) :: (nat_lit 348) :: (nat_lit 349) :: (nat_lit 350) :: (nat_lit 352) :: (nat_lit 353) :: (nat_lit 355) :: (nat_lit 356) :: (nat_lit 357) :: (nat_lit 359) :: (nat_lit 360) :: (nat_lit 362) :: (nat_lit 363) :: (nat_lit 364) :: (nat_lit 366) :: (nat_lit 367) :: (nat_lit 369) :: (nat_lit 370) :: (nat_lit 371) :: (nat_lit 372) :: (nat_lit 373) :: (nat_lit 376) :: (nat_lit 383) :: (nat_lit 385) :: (nat_lit 386) :: (nat_lit 388) :: (nat_lit 389) :: (nat_lit 390) :: (nat_lit 392) :: (nat_lit 393) :: (nat_lit 395) :: (nat_lit 396) :: (nat_lit 397) :: (nat_lit 399) :: (nat_lit 400) :: (nat_lit 402) :: (nat_lit 403) :: (nat_lit 404) :: (nat_lit 405) :: (nat_lit 406) :: (nat_lit 409) :: (nat_lit 416) :: (nat_lit 418) :: (nat_lit 419) :: (nat_lit 421) :: (nat_lit 422) :: (nat_lit 423) :: (nat_lit 425) :: (nat_lit 426) :: (nat_lit 428) :: (nat_lit 429) :: (nat_lit 430) :: (nat_lit 432) :: (nat_lit 433) :: (nat_lit 435) :: (nat_lit 436) :: (nat_lit 437) :: (nat_lit 439) :: (nat_lit 440) :: (nat_lit 442) :: (nat_lit 443) :: (nat_lit 444) :: (nat_lit 446) :: (nat_lit 447) :: (nat_lit 449) :: (nat_lit 450) :: (nat_lit 451) :: (nat_lit 452) :: (nat_lit 453) :: (nat_lit 456) :: (nat_lit 463) :: (nat_lit 465) :: (nat_lit 466) :: (nat_lit 468) :: (nat_lit 469) :: (nat_lit 470) :: (nat_lit 472) :: (nat_lit 473) :: (nat_lit 475) :: (nat_lit 476) :: (nat_lit 477) :: (nat_lit 479) :: (nat_lit 480) :: (nat_lit 482) :: (nat_lit 483) :: (nat_lit 484) :: (nat_lit 486) :: (nat_lit 487) :: (nat_lit 489) :: (nat_lit 490) :: (nat_lit 491) :: (nat_lit 493) :: (nat_lit 494) :: (nat_lit 496) :: (nat_lit 497) :: (nat_lit 498) :: (nat_lit 500) :: (nat_lit 501) :: (nat_lit 503) :: (nat_lit 504) :: (nat_lit 505) :: (nat_lit 506) :: (nat_lit 507) :: (nat_lit 510) :: (nat_lit 512) :: (nat_lit 513) :: (nat_lit 515) :: (nat_lit 516) :: (nat_lit 517) :: (nat_lit 519) :: (nat_lit 520) :: (nat_lit 522) :: (nat_lit 523) :: (nat_lit 524) :: (nat_lit 526) :: (nat_lit 527) :: (nat_lit 529) :: (nat_lit 530) :: (nat_lit 531) :: (nat_lit 533) :: (nat_lit 534) :: (nat_lit 536) :: (nat_lit 537) :: (nat_lit 538) :: (nat_lit 540) :: (nat_lit 541) :: (nat_lit 543) :: (nat_lit 544) :: (nat_lit 545) :: (nat_lit 547) :: (nat_lit 548) :: (nat_lit 550) :: (nat_lit 551) :: (nat_lit 552) :: (nat_lit 554) :: (nat_lit 555) :: (nat_lit 557) :: (nat_lit 558) :: (nat_lit 559) :: (nat_lit 561) :: (nat_lit 562) :: (nat_lit 564) :: (nat_lit 565) :: (nat_lit 566) :: (nat_lit 568) :: (nat_lit 569) :: (nat_lit 571) :: (nat_lit 572) :: (nat_lit 573) :: (nat_lit 575) :: (nat_lit 576) :: (nat_lit 578) :: (nat_lit 579) :: (nat_lit 580) :: (nat_lit 582) :: (nat_lit 583) :: (nat_lit 585) :: (nat_lit 586) :: (nat_lit 587) :: (nat_lit 589) :: (nat_lit 590) :: (nat_lit 592) :: (nat_lit 593) :: (nat_lit 594) :: (nat_lit 596) :: (nat_lit 597) :: (nat_lit 599) :: (nat_lit 600) :: (nat_lit 601) :: (nat_lit 604) :: (nat_lit 605) :: [])
def h_heap_39 : PySem.Params → PySem.W.Frag := fun x =>
(nat_lit 2, (@W.boot_o_2 x)) ::
(nat_lit 3, (o688 x)) ::
(nat_lit 15, (o697 x)) ::
(nat_lit 17, (o53 x)) ::
(nat_lit 18, (o697 x)) ::
(nat_lit 20, (o56 x)) ::
(nat_lit 21, (o57 x)) ::
(nat_lit 22, (o58 x)) ::
(nat_lit 29, (o697 x)) ::
(nat_lit 30, (o66 x)) ::
(nat_lit 31, (o238 x)) ::
(nat_lit 32, (o68 x)) ::
(nat_lit 35, (o239 x)) ::
(nat_lit 42, (o697 x)) ::
(nat_lit 43, (o82 x)) ::
(nat_lit 44, (o83 x)) ::
(nat_lit 47, (o239 x)) ::
(nat_lit 54, (o697 x)) ::
(nat_lit 55, (o97 x)) ::
(nat_lit 56, (o98 x)) ::
(nat_lit 59, (o239 x)) ::
(nat_lit 66, (o697 x)) ::
(nat_lit 67, (o112 x)) ::
(nat_lit 68, (o113 x)) ::
(nat_lit 71, (o239 x)) ::
(nat_lit 78, (o697 x)) ::
(nat_lit 79, (o127 x)) ::
(nat_lit 80, (o128 x)) ::
(nat_lit 83, (o239 x)) ::
(nat_lit 90, (o697 x)) ::
(nat_lit 91, (o142 x)) ::
(nat_lit 92, (o143 x)) ::
(nat_lit 95, (o239 x)) ::
(nat_lit 102, (o697 x)) ::
(nat_lit 103, (o157 x)) ::
(nat_lit 104, (o158 x)) ::
(nat_lit 107, (o239 x)) ::
(nat_lit 114, (o697 x)) ::
(nat_lit 115, (o172 x)) ::
(nat_lit 116, (o173 x)) ::
(nat_lit 119, (o239 x)) ::
(nat_lit 126, (o697 x)) ::
(nat_lit 127, (o187 x)) ::
(nat_lit 128, (o188 x)) ::
(nat_lit 131, (o239 x)) ::
(nat_lit 138, (o697 x)) ::
(nat_lit 139, (o202 x)) ::
(nat_lit 140, (o203 x)) ::
(nat_lit 143, (o239 x)) ::
(nat_lit 150, (o697 x)) ::
(nat_lit 151, (o217 x)) ::
(nat_lit 152, (o218 x)) ::
(nat_lit 155, (o239 x)) ::
(nat_lit 162, (o697 x)) ::
(nat_lit 163, (o232 x)) ::
(nat_lit 164, (o233 x)) ::
(nat_lit 167, (o239 x)) ::
(nat_lit 174, (o697 x)) ::
(nat_lit 175, (o247 x)) ::
(nat_lit 176, (o248 x)) ::
(nat_lit 179, (o697 x)) ::
(nat_lit 181, (o253 x)) ::
(nat_lit 182, (o697 x)) ::
(nat_lit 184, (o256 x)) ::
(nat_lit 185, (o257 x)) ::
(nat_lit 186, (o697 x)) ::
(nat_lit 188, (o260 x)) ::
(nat_lit 189, (o697 x)) ::
(nat_lit 191, (o263 x)) ::
(nat_lit 192, (o264 x)) ::
(nat_lit 193, (o697 x)) ::
(nat_lit 195, (o267 x)) ::
(nat_lit 196, (o697 x)) ::
(nat_lit 198, (o270 x)) ::
(nat_lit 199, (o271 x)) ::
(nat_lit 207, (o697 x)) ::
(nat_lit 209, (o283 x)) ::
(nat_lit 210, (o697 x)) ::
(nat_lit 212, (o286 x)) ::
(nat_lit 213, (o287 x)) ::
(nat_lit 214, (o697 x)) ::
(nat_lit 216, (o290 x)) ::
(nat_lit 217, (o697 x)) ::
(nat_lit 219, (o293 x)) ::
(nat_lit 220, (o294 x)) ::
(nat_lit 221, (o697 x)) ::
(nat_lit 223, (o297 x)) ::
(nat_lit 224, (o697 x)) ::
(nat_lit 226, (o300 x)) ::
(nat_lit 227, (o301 x)) ::
(nat_lit 228, (o697 x)) ::
(nat_lit 230, (o304 x)) ::
(nat_lit 231, (o697 x)) ::
(nat_lit 233, (o307 x)) ::
(nat_lit 234, (o308 x)) ::
(nat_lit 235, (o697 x)) ::
(nat_lit 237, (o311 x)) ::
(nat_lit 238, (o697 x)) ::
(nat_lit 240, (o314 x)) ::
(nat_lit 241, (o315 x)) ::
(nat_lit 242, (o697 x)) ::
(nat_lit 244, (o318 x)) ::
(nat_lit 245, (o697 x)) ::
(nat_lit 247, (o321 x)) ::
(nat_lit 248, (o322 x)) ::
(nat_lit 249, (o697 x)) ::
(nat_lit 250, (o324 x)) ::
(nat_lit 251, (o547 x)) ::
(nat_lit 252, (o326 x)) ::
(nat_lit 253, (o327 x)) ::
(nat_lit 256, (o548 x)) ::
(nat_lit 263, (o697 x)) ::
(nat_lit 265, (o342 x)) ::
(nat_lit 266, (o697 x)) ::
(nat_lit 268, (o345 x)) ::
(nat_lit 269, (o346 x)) ::
(nat_lit 270, (o697 x)) ::
(nat_lit 272, (o349 x)) ::
(nat_lit 273, (o697 x)) ::
(nat_lit 275, (o352 x)) ::
(nat_lit 276, (o353 x)) ::
(nat_lit 277, (o697 x)) ::
(nat_lit 279, (o356 x)) ::
(nat_lit 280, (o697 x)) ::
(nat_lit 282, (o359 x)) ::
(nat_lit 283, (o360 x)) ::
(nat_lit 284, (o361 x)) ::
(nat_lit 285, (o362 x)) ::
(nat_lit 286, (o363 x)) ::
(nat_lit 289, (o548 x)) ::
(nat_lit 296, (o697 x)) ::
(nat_lit 298, (o378 x)) ::
(nat_lit 299, (o697 x)) ::
(nat_lit 301, (o381 x)) ::
(nat_lit 302, (o382 x)) ::
(nat_lit 303, (o697 x)) ::
(nat_lit 305, (o385 x)) ::
(nat_lit 306, (o697 x)) ::
(nat_lit 308, (o388 x)) ::
(nat_lit 309, (o389 x)) ::
(nat_lit 310, (o697 x)) ::
(nat_lit 312, (o392 x)) ::
(nat_lit 313, (o697 x)) ::
(nat_lit 315, (o395 x)) ::
(nat_lit 316, (o396 x)) ::
(nat_lit 317, (o697 x)) ::
(nat_lit 319, (o399 x)) ::
(nat_lit 320, (o697 x)) ::
(nat_lit 322, (o402 x)) ::
(nat_lit 323, (o403 x)) ::
(nat_lit 324, (o404 x)) ::
(nat_lit 325, (o405 x)) ::
(nat_lit 326, (o406 x)) ::
(nat_lit 329, (o548 x)) ::
(nat_lit 336, (o697 x)) ::
(nat_lit 338, (o421 x)) ::
(nat_lit 339, (o697 x)) ::
(nat_lit 341, (o424 x)) ::
(nat_lit 342, (o425 x)) ::
(nat_lit 343, (o697 x)) ::
(nat_lit 345, (o428 x)) ::
(nat_lit 346, (o697 x)) ::
(nat_lit 348, (o431 x)) ::
(nat_lit 349, (o432 x)) ::
(nat_lit 350, (o697 x)) ::
(nat_lit 352, (o435 x)) ::
(nat_lit 353, (o697 x)) ::
(nat_lit 355, (o438 x)) ::
(nat_lit 356, (o439 x)) ::
(nat_lit 357, (o697 x)) ::
(nat_lit 359, (o442 x)) ::
(nat_lit 360, (o697 x)) ::
(nat_lit 362, (o445 x)) ::
(nat_lit 363, (o446 x)) ::
(nat_lit 364, (o697 x)) ::
(nat_lit 366, (o449 x)) ::
(nat_lit 367, (o697 x)) ::
(nat_lit 369, (o452 x)) ::
(nat_lit 370, (o453 x)) ::
(nat_lit 371, (o454 x)) ::
(nat_lit 372, (o455 x)) ::
(nat_lit 373, (o456 x)) ::
(nat_lit 376, (o548 x)) ::
(nat_lit 383, (o697 x)) ::
(nat_lit 385, (o471 x)) ::
(nat_lit 386, (o697 x)) ::
(nat_lit 388, (o474 x)) ::
(nat_lit 389, (o475 x)) ::
(nat_lit 390, (o697 x)) ::
(nat_lit 392, (o478 x)) ::
(nat_lit 393, (o697 x)) ::
(nat_lit 395, (o481 x)) ::
(nat_lit 396, (o482 x)) ::
(nat_lit 397, (o697 x)) ::
(nat_lit 399, (o485 x)) ::
(nat_lit 400, (o697 x)) ::
(nat_lit 402, (o488 x)) ::
(nat_lit 403, (o489 x)) ::
(nat_lit 404, (o490 x)) ::
(nat_lit 405, (o491 x)) ::
(nat_lit 406, (o492 x)) ::
(nat_lit 409, (o548 x)) ::
(nat_lit 416, (o697 x)) ::
(nat_lit 418, (o507 x)) ::
(nat_lit 419, (o697 x)) ::
(nat_lit 421, (o510 x)) ::
(nat_lit 422, (o511 x)) ::
(nat_lit 423, (o697 x)) ::
(nat_lit 425, (o514 x)) ::
(nat_lit 426, (o697 x)) ::
(nat_lit 428, (o517 x)) ::
(nat_lit 429, (o518 x)) ::
(nat_lit 430, (o697 x)) ::
(nat_lit 432, (o521 x)) ::
(nat_lit 433, (o697 x)) ::
(nat_lit 435, (o524 x)) ::
(nat_lit 436, (o525 x)) ::
(nat_lit 437, (o697 x)) ::
(nat_lit 439, (o528 x)) ::
(nat_lit 440, (o697 x)) ::
(nat_lit 442, (o531 x)) ::
(nat_lit 443, (o532 x)) ::
(nat_lit 444, (o697 x)) ::
(nat_lit 446, (o535 x)) ::
(nat_lit 447, (o697 x)) ::
(nat_lit 449, (o538 x)) ::
(nat_lit 450, (o539 x)) ::
(nat_lit 451, (o540 x)) ::
(nat_lit 452, (o541 x)) ::
(nat_lit 453, (o542 x)) ::
(nat_lit 456, (o548 x)) ::
(nat_lit 463, (o697 x)) ::
(nat_lit 465, (o557 x)) ::
(nat_lit 466, (o697 x)) ::
(nat_lit 468, (o560 x)) ::
(nat_lit 469, (o561 x)) ::
(nat_lit 470, (o697 x)) ::
(nat_lit 472, (o564 x)) ::
(nat_lit 473, (o697 x)) ::
(nat_lit 475, (o567 x)) ::
(nat_lit 476, (o568 x)) ::
(nat_lit 477, (o697 x)) ::
(nat_lit 479, (o571 x)) ::
(nat_lit 480, (o697 x)) ::
(nat_lit 482, (o574 x)) ::
(nat_lit 483, (o575 x)) ::
(nat_lit 484, (o697 x)) ::
(nat_lit 486, (o578 x)) ::
(nat_lit 487, (o697 x)) ::
(nat_lit 489, (o581 x)) ::
(nat_lit 490, (o582 x)) ::
(nat_lit 491, (o697 x)) ::
(nat_lit 493, (o585 x)) ::
(nat_lit 494, (o697 x)) ::
(nat_lit 496, (o588 x)) ::
(nat_lit 497, (o589 x)) ::
(nat_lit 498, (o697 x)) ::
(nat_lit 500, (o592 x)) ::
(nat_lit 501, (o697 x)) ::
(nat_lit 503, (o595 x)) ::
(nat_lit 504, (o596 x)) ::
(nat_lit 505, (o597 x)) ::
(nat_lit 506, (o598 x)) ::
(nat_lit 507, (o599 x)) ::
(nat_lit 510, (o697 x)) ::
(nat_lit 512, (o606 x)) ::
(nat_lit 513, (o697 x)) ::
(nat_lit 515, (o609 x)) ::
(nat_lit 516, (o610 x)) ::
(nat_lit 517, (o697 x)) ::
(nat_lit 519, (o613 x)) ::
(nat_lit 520, (o697 x)) ::
(nat_lit 522, (o616 x)) ::
(nat_lit 523, (o617 x)) ::
(nat_lit 524, (o697 x)) ::
(nat_lit 526, (o620 x)) ::
(nat_lit 527, (o697 x)) ::
(nat_lit 529, (o623 x)) ::
(nat_lit 530, (o624 x)) ::
(nat_lit 531, (o697 x)) ::
(nat_lit 533, (o627 x)) ::
(nat_lit 534, (o697 x)) ::
(nat_lit 536, (o630 x)) ::
(nat_lit 537, (o631 x)) ::
(nat_lit 538, (o697 x)) ::
(nat_lit 540, (o634 x)) ::
(nat_lit 541, (o697 x)) ::
(nat_lit 543, (o637 x)) ::
(nat_lit 544, (o638 x)) ::
(nat_lit 545, (o697 x)) ::
(nat_lit 547, (o641 x)) ::
(nat_lit 548, (o697 x)) ::
(nat_lit 550, (o644 x)) ::
(nat_lit 551, (o645 x)) ::
(nat_lit 552, (o697 x)) ::
(nat_lit 554, (o648 x)) ::
(nat_lit 555, (o697 x)) ::
(nat_lit 557, (o651 x)) ::
(nat_lit 558, (o652 x)) ::
(nat_lit 559, (o697 x)) ::
(nat_lit 561, (o655 x)) ::
(nat_lit 562, (o697 x)) ::
(nat_lit 564, (o658 x)) ::
(nat_lit 565, (o659 x)) ::
(nat_lit 566, (o697 x)) ::
(nat_lit 568, (o662 x)) ::
(nat_lit 569, (o697 x)) ::
(nat_lit 571, (o665 x)) ::
(nat_lit 572, (o666 x)) ::
(nat_lit 573, (o697 x)) ::
(nat_lit 575, (o669 x)) ::
(nat_lit 576, (o697 x)) ::
(nat_lit 578, (o672 x)) ::
(nat_lit 579, (o673 x)) ::
(nat_lit 580, (o697 x)) ::
(nat_lit 582, (o676 x)) ::
(nat_lit 583, (o697 x)) ::
(nat_lit 585, (o679 x)) ::
(nat_lit 586, (o680 x)) ::
(nat_lit 587, (o697 x)) ::
(nat_lit 589, (o683 x)) ::
(nat_lit 590, (o697 x)) ::
(nat_lit 592, (o686 x)) ::
(nat_lit 593, (o687 x)) ::
(nat_lit 594, (o697 x)) ::
(nat_lit 596, (o692 x)) ::
(nat_lit 597, (o697 x)) ::
(nat_lit 599, (o695 x)) ::
(nat_lit 600, (o696 x)) ::
(nat_lit 601, (o697 x)) ::
(nat_lit 604, (o700 x)) ::
(nat_lit 605, (o701 x)) :: []
def h_view_39 : PySem.Program := { PySem.Challenge.pw_oddbases_k56_ways_as_texts with main := { PySem.Challenge.pw_oddbases_k56_ways_as_texts.main with body := [My.top 0, My.top 2, My.top 3, My.top 4, My.top 5, My.top 6, My.top 7, My.top 8, My.top 9, My.top 10, My.top 11, My.top 12, My.top 13, My.top 14, My.top 16, My.top 17, My.top 19, My.top 20, My.top 21, My.top 22, My.top 23, My.top 24, My.top 25, My.top 26, My.top 28, My.top 29, My.top 30, My.top 31, My.top 32, My.top 33, My.top 34, My.top 36, My.top 37, My.top 38, My.top 39, My.top 40, My.top 41, My.top 42, My.top 43] } }
def h_heap_702 : ((x : @Params) → @Heap) := (fun x => (@Heap.mk (@Array.mk @Obj ((@W.boot_o_0 x) :: (@W.boot_o_1 x) :: (@W.boot_o_2 x) :: (o688 x) :: (@W.boot_o_4 x) :: (@W.boot_o_5 x) :: (@W.boot_o_6 x) :: (@W.boot_o_7 x) :: (@W.boot_o_8 x) :: (@W.boot_o_9 x) :: (@W.boot_o_10 x) :: (o697 x) :: (o689 x) :: (o45 x) :: (o46 x) :: (o697 x) :: (o698 x) :: (o53 x) :: (o697 x) :: (o55 x) :: (o56 x) :: (o57 x) :: (o58 x) :: (o549 x) :: (o60 x) :: (o697 x) :: (o698 x) :: (o63 x) :: (o64 x) :: (o697 x) :: (o66 x) :: (o238 x) :: (o68 x) :: (o69 x) :: (o70 x) :: (o239 x) :: (o549 x) :: (o76 x) :: (o697 x) :: (o698 x) :: (o79 x) :: (o80 x) :: (o697 x) :: (o82 x) :: (o83 x) :: (o84 x) :: (o85 x) :: (o239 x) :: (o549 x) :: (o91 x) :: (o697 x) :: (o698 x) :: (o94 x) :: (o95 x) :: (o697 x) :: (o97 x) :: (o98 x) :: (o99 x) :: (o100 x) :: (o239 x) :: (o549 x) :: (o106 x) :: (o697 x) :: (o698 x) :: (o109 x) :: (o110 x) :: (o697 x) :: (o112 x) :: (o113 x) :: (o114 x) :: (o115 x) :: (o239 x) :: (o549 x) :: (o121 x) :: (o697 x) :: (o698 x) :: (o124 x) :: (o125 x) :: (o697 x) :: (o127 x) :: (o128 x) :: (o129 x) :: (o130 x) :: (o239 x) :: (o549 x) :: (o136 x) :: (o697 x) :: (o698 x) :: (o139 x) :: (o140 x) :: (o697 x) :: (o142 x) :: (o143 x) :: (o144 x) :: (o145 x) :: (o239 x) :: (o549 x) :: (o151 x) :: (o697 x) :: (o698 x) :: (o154 x) :: (o155 x) :: (o697 x) :: (o157 x) :: (o158 x) :: (o159 x) :: (o160 x) :: (o239 x) :: (o549 x) :: (o166 x) :: (o697 x) :: (o698 x) :: (o169 x) :: (o170 x) :: (o697 x) :: (o172 x) :: (o173 x) :: (o174 x) :: (o175 x) :: (o239 x) :: (o549 x) :: (o181 x) :: (o697 x) :: (o698 x) :: (o184 x) :: (o185 x) :: (o697 x) :: (o187 x) :: (o188 x) :: (o189 x) :: (o190 x) :: (o239 x) :: (o549 x) :: (o196 x) :: (o697 x) :: (o698 x) :: (o199 x) :: (o200 x) :: (o697 x) :: (o202 x) :: (o203 x) :: (o204 x) :: (o205 x) :: (o239 x) :: (o549 x) :: (o211 x) :: (o697 x) :: (o698 x) :: (o214 x) :: (o215 x) :: (o697 x) :: (o217 x) :: (o218 x) :: (o219 x) :: (o220 x) :: (o239 x) :: (o549 x) :: (o226 x) :: (o697 x) :: (o698 x) :: (o229 x) :: (o230 x) :: (o697 x) :: (o232 x) :: (o233 x) :: (o234 x) :: (o235 x) :: (o239 x) :: (o549 x) :: (o241 x) :: (o697 x) :: (o698 x) :: (o244 x) :: (o245 x) :: (o697 x) :: (o247 x) :: (o248 x) :: (o249 x) :: (o250 x) :: (o697 x) :: (o698 x) :: (o253 x) :: (o697 x) :: (o255 x) :: (o256 x) :: (o257 x) :: (o697 x) :: (o698 x) :: (o260 x) :: (o697 x) :: (o262 x) :: (o263 x) :: (o264 x) :: (o697 x) :: (o698 x) :: (o267 x) :: (o697 x) :: (o269 x) :: (o270 x) :: (o271 x) :: (o697 x) :: (o549 x) :: (o276 x) :: (o697 x) :: (o278 x) :: (o279 x) :: (o280 x) :: (o697 x) :: (o698 x) :: (o283 x) :: (o697 x) :: (o285 x) :: (o286 x) :: (o287 x) :: (o697 x) :: (o698 x) :: (o290 x) :: (o697 x) :: (o292 x) :: (o293 x) :: (o294 x) :: (o697 x) :: (o698 x) :: (o297 x) :: (o697 x) :: (o299 x) :: (o300 x) :: (o301 x) :: (o697 x) :: (o698 x) :: (o304 x) :: (o697 x) :: (o306 x) :: (o307 x) :: (o308 x) :: (o697 x) :: (o698 x) :: (o311 x) :: (o697 x) :: (o313 x) :: (o314 x) :: (o315 x) :: (o697 x) :: (o698 x) :: (o318 x) :: (o697 x) :: (o320 x) :: (o321 x) :: (o322 x) :: (o697 x) :: (o324 x) :: (o547 x) :: (o326 x) :: (o327 x) :: (o328 x) :: (o329 x) :: (o548 x) :: (o549 x) :: (o335 x) :: (o697 x) :: (o337 x) :: (o338 x) :: (o339 x) :: (o697 x) :: (o698 x) :: (o342 x) :: (o697 x) :: (o344 x) :: (o345 x) :: (o346 x) :: (o697 x) :: (o698 x) :: (o349 x) :: (o697 x) :: (o351 x) :: (o352 x) :: (o353 x) :: (o697 x) :: (o698 x) :: (o356 x) :: (o697 x) :: (o358 x) :: (o359 x) :: (o360 x) :: (o361 x) :: (o362 x) :: (o363 x) :: (o364 x) :: (o365 x) :: (o548 x) :: (o549 x) :: (o371 x) :: (o697 x) :: (o373 x) :: (o374 x) :: (o375 x) :: (o697 x) :: (o698 x) :: (o378 x) :: (o697 x) :: (o380 x) :: (o381 x) :: (o382 x) :: (o697 x) :: (o698 x) :: (o385 x) :: (o697 x) :: (o387 x) :: (o388 x) :: (o389 x) :: (o697 x) :: (o698 x) :: (o392 x) :: (o697 x) :: (o394 x) :: (o395 x) :: (o396 x) :: (o697 x) :: (o698 x) :: (o399 x) :: (o697 x) :: (o401 x) :: (o402 x) :: (o403 x) :: (o404 x) :: (o405 x) :: (o406 x) :: (o407 x) :: (o408 x) :: (o548 x) :: (o549 x) :: (o414 x) :: (o697 x) :: (o416 x) :: (o417 x) :: (o418 x) :: (o697 x) :: (o698 x) :: (o421 x) :: (o697 x) :: (o423 x) :: (o424 x) :: (o425 x) :: (o697 x) :: (o698 x) :: (o428 x) :: (o697 x) :: (o430 x) :: (o431 x) :: (o432 x) :: (o697 x) :: (o698 x) :: (o435 x) :: (o697 x) :: (o437 x) :: (o438 x) :: (o439 x) :: (o697 x) :: (o698 x) :: (o442 x) :: (o697 x) :: (o444 x) :: (o445 x) :: (o446 x) :: (o697 x) :: (o698 x) :: (o449 x) :: (o697 x) :: (o451 x) :: (o452 x) :: (o453 x) :: (o454 x) :: (o455 x) :: (o456 x) :: (o457 x) :: (o458 x) :: (o548 x) :: (o549 x) :: (o464 x) :: (o697 x) :: (o466 x) :: (o467 x) :: (o468 x) :: (o697 x) :: (o698 x) :: (o471 x) :: (o697 x) :: (o473 x) :: (o474 x) :: (o475 x) :: (o697 x) :: (o698 x) :: (o478 x) :: (o697 x) :: (o480 x) :: (o481 x) :: (o482 x) :: (o697 x) :: (o698 x) :: (o485 x) :: (o697 x) :: (o487 x) :: (o488 x) :: (o489 x) :: (o490 x) :: (o491 x) :: (o492 x) :: (o493 x) :: (o494 x) :: (o548 x) :: (o549 x) :: (o500 x) :: (o697 x) :: (o502 x) :: (o503 x) :: (o504 x) :: (o697 x) :: (o698 x) :: (o507 x) :: (o697 x) :: (o509 x) :: (o510 x) :: (o511 x) :: (o697 x) :: (o698 x) :: (o514 x) :: (o697 x) :: (o516 x) :: (o517 x) :: (o518 x) :: (o697 x) :: (o698 x) :: (o521 x) :: (o697 x) :: (o523 x) :: (o524 x) :: (o525 x) :: (o697 x) :: (o698 x) :: (o528 x) :: (o697 x) :: (o530 x) :: (o531 x) :: (o532 x) :: (o697 x) :: (o698 x) :: (o535 x) :: (o697 x) :: (o537 x) :: (o538 x) :: (o539 x) :: (o540 x) :: (o541 x) :: (o542 x) :: (o543 x) :: (o544 x) :: (o548 x) :: (o549 x) :: (o550 x) :: (o697 x) :: (o552 x) :: (o553 x) :: (o554 x) :: (o697 x) :: (o698 x) :: (o557 x) :: (o697 x) :: (o559 x) :: (o560 x) :: (o561 x) :: (o697 x) :: (o698 x) :: (o564 x) :: (o697 x) :: (o566 x) :: (o567 x) :: (o568 x) :: (o697 x) :: (o698 x) :: (o571 x) :: (o697 x) :: (o573 x) :: (o574 x) :: (o575 x) :: (o697 x) :: (o698 x) :: (o578 x) :: (o697 x) :: (o580 x) :: (o581 x) :: (o582 x) :: (o697 x) :: (o698 x) :: (o585 x) :: (o697 x) :: (o587 x) :: (o588 x) :: (o589 x) :: (o697 x) :: (o698 x) :: (o592 x) :: (o697 x) :: (o594 x) :: (o595 x) :: (o596 x) :: (o597 x) :: (o598 x) :: (o599 x) :: (o600 x) :: (o601 x) :: (o697 x) :: (o698 x) :: (o606 x) :: (o697 x) :: (o608 x) :: (o609 x) :: (o610 x) :: (o697 x) :: (o698 x) :: (o613 x) :: (o697 x) :: (o615 x) :: (o616 x) :: (o617 x) :: (o697 x) :: (o698 x) :: (o620 x) :: (o697 x) :: (o622 x) :: (o623 x) :: (o624 x) :: (o697 x) :: (o698 x) :: (o627 x) :: (o697 x) :: (o629 x) :: (o630 x) :: (o631 x) :: (o697 x) :: (o698 x) :: (o634 x) :: (o697 x) :: (o636 x) :: (o637 x) :: (o638 x) :: (o697 x) :: (o698 x) :: (o641 x) :: (o697 x) :: (o643 x) :: (o644 x) :: (o645 x) :: (o697 x) :: (o698 x) :: (o648 x) :: (o697 x) :: (o650 x) :: (o651 x) :: (o652 x) :: (o697 x) :: (o698 x) :: (o655 x) :: (o697 x) :: (o657 x) :: (o658 x) :: (o659 x) :: (o697 x) :: (o698 x) :: (o662 x) :: (o697 x) :: (o664 x) :: (o665 x) :: (o666 x) :: (o697 x) :: (o698 x) :: (o669 x) :: (o697 x) :: (o671 x) :: (o672 x) :: (o673 x) :: (o697 x) :: (o698 x) :: (o676 x) :: (o697 x) :: (o678 x) :: (o679 x) :: (o680 x) :: (o697 x) :: (o698 x) :: (o683 x) :: (o697 x) :: (o685 x) :: (o686 x) :: (o687 x) :: (o697 x) :: (o698 x) :: (o692 x) :: (o697 x) :: (o694 x) :: (o695 x) :: (o696 x) :: (o697 x) :: (o698 x) :: (o699 x) :: (o700 x) :: (o701 x) :: [])) (@Life.mk [] [] [] 0 (@List.nil (@Prod @Nat @Nat)) [] @Bool.false #[] [] 0 @Bool.false @Bool.false @Bool.false (0 : Int) [(2000 : Int), (10 : Int), (10 : Int)] @Bool.false 0 @Bool.true [] [] 0 @Bool.false)))
def h_env_41 : @Env := (@Env.mk (@Module.scope (@Program.main ((@W.OpenRow.toRowW (@W.OpenLaw.row @Challenge.rw_oddbases_k56_ways_as_texts))).1)) @mainNs @mainNs (@List.nil (@Prod @Str @Addr)) @Str.empty (@Option.none @Addr) (r_ 13) (@some @Addr (@OfNat.ofNat @Addr 14 (@instOfNatNat 14))) (@OfNat.ofNat @Addr 0 (@instOfNatNat 0)))
def h_tree_701 := N_ W.boot_o_0 (N_ W.boot_o_1 (N_ o688 (N_ W.boot_o_7 (N_ o697 (N_ o238 (N_ o698 (N_ o187 (N_ o329 (L_ o698) Z_) (L_ o697)) (N_ o263 (N_ o399 (L_ o669) Z_) (L_ o697))) (N_ o239 (N_ o698 (N_ o364 (L_ o637) Z_) (L_ o504)) (N_ o297 (L_ o698) (L_ o571)))) (N_ o239 (N_ o127 (N_ o239 Y2 (L_ o485)) (N_ o697 (N_ o418 (L_ o685) Z_) (L_ o697))) (N_ o698 (N_ o247 Y3 (L_ o698)) (N_ o313 (L_ o697) (L_ o587))))) (N_ o549 (N_ o698 (N_ o239 (N_ o698 (N_ o697 (L_ o613) Z_) (L_ o698)) (N_ o271 (N_ o407 (L_ o697) Z_) (L_ o544))) (N_ o157 (N_ o239 (N_ o375 (L_ o645) Z_) (L_ o697)) (N_ o697 (L_ o442) (L_ o697)))) (N_ o97 (N_ o698 (N_ o217 (N_ o356 (L_ o629) Z_) (L_ o493)) (N_ o698 (N_ o697 (L_ o695) Z_) (L_ o698))) (N_ o239 (N_ o255 Y4 (L_ o528)) (N_ o321 (L_ o458) (L_ o595)))))) (N_ o697 (N_ o55 (N_ o239 (N_ o112 (N_ o239 (N_ o697 (L_ o609) Z_) (L_ o473)) (N_ o267 (N_ o403 (L_ o673) Z_) (L_ o540))) (N_ o698 (N_ o232 (N_ o371 (L_ o641) Z_) (L_ o697)) (N_ o301 (L_ o438) (L_ o575)))) (N_ o698 (N_ o239 (N_ o698 (N_ o352 (L_ o697) Z_) (L_ o489)) (N_ o285 Y5 (L_ o559))) (N_ o172 (N_ o697 (N_ o387 (L_ o657) Z_) (L_ o524)) (N_ o698 (L_ o454) (L_ o698))))) (N_ o63 (N_ o82 (N_ o698 (N_ o202 (N_ o344 (L_ o617) Z_) (L_ o481)) (N_ o697 (N_ o414 (L_ o697) Z_) (L_ o697))) (N_ o239 (N_ o698 Y3 (L_ o516)) (N_ o697 (L_ o446) (L_ o697)))) (N_ o239 (N_ o142 (N_ o239 (N_ o360 (L_ o698) Z_) (L_ o500)) (N_ o293 (N_ o430 (L_ o699) Z_) (L_ o567))) (N_ o698 (N_ o698 (N_ o395 (L_ o665) Z_) (L_ o532)) (N_ o547 (L_ o697) (L_ o599))))))) (N_ W.boot_o_5 (N_ W.boot_o_9 (N_ o53 (N_ o69 (N_ o110 (N_ o189 (N_ o549 (L_ o697) Z_) (L_ o471)) (N_ o697 (N_ o401 (L_ o671) Z_) (L_ o538))) (N_ o151 (N_ o230 (N_ o548 (L_ o697) Z_) (L_ o698)) (N_ o299 (L_ o697) (L_ o573)))) (N_ o91 (N_ o129 (N_ o211 (N_ o697 (L_ o623) Z_) (L_ o487)) (N_ o283 (N_ o698 (L_ o687) Z_) (L_ o557))) (N_ o170 (N_ o249 (N_ o385 (L_ o655) Z_) (L_ o697)) (N_ o315 (L_ o452) (L_ o589))))) (N_ o697 (N_ o80 (N_ o121 (N_ o200 (N_ o342 (L_ o615) Z_) (L_ o697)) (N_ o549 (N_ o548 (L_ o679) Z_) (L_ o549))) (N_ o159 (N_ o241 Y4 (L_ o514)) (N_ o307 (L_ o444) (L_ o581)))) (N_ o99 (N_ o140 (N_ o219 (N_ o358 (L_ o631) Z_) (L_ o548)) (N_ o697 (N_ o428 (L_ o697) Z_) (L_ o697))) (N_ o181 (N_ o257 Y3 (L_ o530)) (N_ o697 (L_ o549) (L_ o597)))))) (N_ o45 (N_ o57 (N_ o76 (N_ o114 (N_ o196 (N_ o338 (L_ o697) Z_) (L_ o475)) (N_ o269 (N_ o405 (L_ o698) Z_) (L_ o542))) (N_ o155 (N_ o234 (N_ o373 (L_ o643) Z_) (L_ o510)) Y1)) (N_ o95 (N_ o136 (N_ o215 (N_ o697 (L_ o627) Z_) (L_ o491)) (N_ o287 (N_ o424 (L_ o697) Z_) (L_ o561))) (N_ o174 (N_ o253 (N_ o389 (L_ o659) Z_) (L_ o697)) (N_ o697 (L_ o456) (L_ o697))))) (N_ o697 (N_ o84 (N_ o125 (N_ o204 (N_ o346 (L_ o698) Z_) (L_ o697)) (N_ o279 (N_ o416 (L_ o683) Z_) (L_ o553))) (N_ o166 (N_ o245 (N_ o381 (L_ o651) Z_) (L_ o518)) (N_ o311 (L_ o698) (L_ o585)))) (N_ o106 (N_ o144 (N_ o226 (N_ o362 (L_ o697) Z_) (L_ o502)) (N_ o697 (N_ o432 (L_ o701) Z_) (L_ o697))) (N_ o185 Y0 (N_ o327 (L_ o467) (L_ o601)))))))) (N_ W.boot_o_2 (N_ W.boot_o_4 (N_ W.boot_o_8 (N_ o698 (N_ o68 (N_ o109 (N_ o188 (N_ o548 (L_ o606) Z_) (L_ o698)) (N_ o264 Y3 (L_ o537))) (N_ o549 (N_ o229 (N_ o365 (L_ o638) Z_) (L_ o697)) (N_ o697 (L_ o435) (L_ o697)))) (N_ o549 (N_ o128 (N_ o549 (N_ o349 (L_ o622) Z_) (L_ o697)) (N_ o698 (N_ o697 (L_ o686) Z_) (L_ o698))) (N_ o169 (N_ o248 Y4 (L_ o521)) (N_ o314 (L_ o451) (L_ o588))))) (N_ o60 (N_ o79 (N_ o549 (N_ o199 Y2 (L_ o478)) (N_ o697 (N_ o408 (L_ o678) Z_) (L_ o548))) (N_ o158 (N_ o549 Y3 (L_ o698)) (N_ o306 (L_ o697) (L_ o580)))) (N_ o98 (N_ o139 (N_ o218 (N_ o697 (L_ o630) Z_) (L_ o494)) (N_ o290 (N_ o698 (L_ o696) Z_) (L_ o564))) (N_ o549 (N_ o256 (N_ o392 (L_ o662) Z_) (L_ o697)) (N_ o322 (L_ o548) (L_ o596)))))) (N_ o689 (N_ o56 (N_ o549 (N_ o113 (N_ o549 (N_ o337 (L_ o610) Z_) (L_ o474)) (N_ o697 (N_ o404 (L_ o697) Z_) (L_ o541))) (N_ o154 (N_ o233 Y3 (L_ o509)) (N_ o697 (L_ o439) (L_ o697)))) (N_ o94 (N_ o549 (N_ o214 (N_ o353 (L_ o698) Z_) (L_ o490)) (N_ o286 (N_ o423 (L_ o692) Z_) (L_ o560))) (N_ o173 (N_ o698 (N_ o388 (L_ o658) Z_) (L_ o525)) (N_ o318 (L_ o455) (L_ o592))))) (N_ o64 (N_ o83 (N_ o124 (N_ o203 (N_ o345 (L_ o697) Z_) (L_ o482)) (N_ o278 Y5 (L_ o552))) (N_ o549 (N_ o244 (N_ o380 (L_ o650) Z_) (L_ o517)) Y1)) (N_ o549 (N_ o143 (N_ o549 (N_ o361 (L_ o634) Z_) (L_ o697)) (N_ o294 (N_ o431 (L_ o700) Z_) (L_ o568))) (N_ o184 (N_ o260 (N_ o396 (L_ o666) Z_) (L_ o697)) (N_ o326 (L_ o466) (L_ o600))))))) (N_ W.boot_o_6 (N_ W.boot_o_10 (N_ o697 (N_ o70 (N_ o697 (N_ o190 (N_ o335 (L_ o608) Z_) (L_ o697)) (N_ o698 (N_ o402 (L_ o672) Z_) (L_ o539))) (N_ o697 (N_ o697 (N_ o549 (L_ o698) Z_) (L_ o507)) (N_ o300 (L_ o437) (L_ o574)))) (N_ o697 (N_ o130 (N_ o697 (N_ o351 (L_ o624) Z_) (L_ o488)) (N_ o697 (N_ o421 (L_ o697) Z_) (L_ o697))) (N_ o697 (N_ o250 Y3 (L_ o523)) (N_ o697 (L_ o453) (L_ o697))))) (N_ o698 (N_ o697 (N_ o697 (N_ o697 (N_ o697 (L_ o616) Z_) (L_ o480)) (N_ o276 (N_ o549 (L_ o680) Z_) (L_ o550))) (N_ o160 (N_ o697 (N_ o378 (L_ o648) Z_) (L_ o697)) (N_ o308 (L_ o445) (L_ o582)))) (N_ o100 (N_ o697 (N_ o220 (N_ o359 (L_ o697) Z_) (L_ o549)) (N_ o292 Y5 (L_ o566))) (N_ o697 (N_ o697 (N_ o394 (L_ o664) Z_) (L_ o531)) (N_ o324 (L_ o464) (L_ o598)))))) (N_ o46 (N_ o58 (N_ o697 (N_ o115 (N_ o697 (N_ o339 (L_ o698) Z_) (L_ o697)) (N_ o270 (N_ o406 (L_ o676) Z_) (L_ o543))) (N_ o697 (N_ o235 (N_ o374 (L_ o644) Z_) (L_ o511)) (N_ o304 (L_ o698) (L_ o578)))) (N_ o697 (N_ o697 (N_ o697 Y2 (L_ o492)) (N_ o697 (N_ o425 (L_ o694) Z_) (L_ o697))) (N_ o175 Y0 (N_ o320 (L_ o457) (L_ o594))))) (N_ o66 (N_ o85 (N_ o697 (N_ o205 (N_ o697 (L_ o620) Z_) (L_ o698)) (N_ o280 (N_ o417 (L_ o697) Z_) (L_ o554))) (N_ o697 (N_ o697 (N_ o382 (L_ o652) Z_) (L_ o697)) (N_ o697 (L_ o449) (L_ o697)))) (N_ o697 (N_ o145 (N_ o697 (N_ o363 (L_ o636) Z_) (L_ o503)) Y1) (N_ o697 (N_ o262 Y4 (L_ o535)) (N_ o328 (L_ o468) (L_ o697))))))))
def h_sts_409 : (@List @Stmt) := [My.top 23, My.top 24, My.top 25, My.top 26, My.top 27, My.top 28, My.top 29, My.top 30, My.top 31, My.top 32, My.top 33, My.top 34, My.top 35, My.top 36, My.top 37, My.top 38, My.top 39, My.top 40, My.top 41, My.top 42, My.top 43]
def h_tree_408 := N_ W.boot_o_0 (N_ W.boot_o_1 (N_ o366 (N_ W.boot_o_7 (N_ o697 (N_ o238 (N_ o698 (N_ o187 (L_ o329) Z_) (N_ o263 (L_ o399) Z_)) (N_ o239 (N_ o698 (L_ o364) Z_) (L_ o297))) (N_ o239 (N_ o127 (N_ o239 (L_ o698) Z_) (L_ o697)) (N_ o698 (N_ o247 (L_ o697) Z_) (L_ o313)))) (N_ o549 (N_ o698 (N_ o239 Y2 (N_ o271 (L_ o407) Z_)) (N_ o157 (N_ o239 (L_ o375) Z_) (L_ o697))) (N_ o97 (N_ o698 (N_ o217 (L_ o356) Z_) (L_ o698)) (N_ o239 (N_ o255 (L_ o698) Z_) (L_ o321))))) (N_ o697 (N_ o55 (N_ o239 (N_ o112 (N_ o239 (L_ o697) Z_) (N_ o267 (L_ o403) Z_)) (N_ o698 (N_ o232 (L_ o371) Z_) (L_ o301))) (N_ o698 (N_ o239 (N_ o698 (L_ o352) Z_) (L_ o285)) (N_ o172 (N_ o697 (L_ o387) Z_) (L_ o698)))) (N_ o63 (N_ o82 (N_ o698 (N_ o202 (L_ o344) Z_) (L_ o697)) (N_ o239 Y2 (L_ o697))) (N_ o239 (N_ o142 (N_ o239 (L_ o360) Z_) (L_ o293)) (N_ o698 (N_ o698 (L_ o395) Z_) (L_ o368)))))) (N_ W.boot_o_5 (N_ W.boot_o_9 (N_ o53 (N_ o69 (N_ o110 (N_ o189 (L_ o549) Z_) (N_ o697 (L_ o401) Z_)) (N_ o151 (N_ o230 (L_ o548) Z_) (L_ o299))) (N_ o91 (N_ o129 (N_ o211 (L_ o697) Z_) (L_ o283)) (N_ o170 (N_ o249 (L_ o385) Z_) (L_ o315)))) (N_ o697 (N_ o80 (N_ o121 (N_ o200 (L_ o342) Z_) (L_ o549)) (N_ o159 (N_ o241 (L_ o698) Z_) (L_ o307))) (N_ o99 (N_ o140 (N_ o219 (L_ o358) Z_) (L_ o697)) (N_ o181 (N_ o257 (L_ o697) Z_) (L_ o697))))) (N_ o45 (N_ o57 (N_ o76 (N_ o114 (N_ o196 (L_ o338) Z_) (N_ o269 (L_ o405) Z_)) (N_ o155 (N_ o234 (L_ o373) Z_) (L_ o698))) (N_ o95 (N_ o136 (N_ o215 (L_ o697) Z_) (L_ o287)) (N_ o174 (N_ o253 (L_ o389) Z_) (L_ o697)))) (N_ o697 (N_ o84 (N_ o125 (N_ o204 (L_ o346) Z_) (L_ o279)) (N_ o166 (N_ o245 (L_ o381) Z_) (L_ o311))) (N_ o106 (N_ o144 (N_ o226 (L_ o362) Z_) (L_ o697)) (N_ o185 Y3 (L_ o327))))))) (N_ W.boot_o_2 (N_ W.boot_o_4 (N_ W.boot_o_8 (N_ o698 (N_ o68 (N_ o109 (N_ o188 (L_ o548) Z_) (N_ o264 (L_ o697) Z_)) (N_ o549 (N_ o229 (L_ o365) Z_) (L_ o697))) (N_ o549 (N_ o128 (N_ o549 (L_ o349) Z_) (L_ o698)) (N_ o169 (N_ o248 (L_ o698) Z_) (L_ o314)))) (N_ o60 (N_ o79 (N_ o549 (N_ o199 (L_ o698) Z_) (N_ o697 (L_ o408) Z_)) (N_ o158 (N_ o549 (L_ o697) Z_) (L_ o306))) (N_ o98 (N_ o139 (N_ o218 (L_ o697) Z_) (L_ o290)) (N_ o549 (N_ o256 (L_ o392) Z_) (L_ o322))))) (N_ o367 (N_ o56 (N_ o549 (N_ o113 (N_ o549 (L_ o337) Z_) (N_ o697 (L_ o404) Z_)) (N_ o154 (N_ o233 (L_ o697) Z_) (L_ o697))) (N_ o94 (N_ o549 (N_ o214 (L_ o353) Z_) (L_ o286)) (N_ o173 (N_ o698 (L_ o388) Z_) (L_ o318)))) (N_ o64 (N_ o83 (N_ o124 (N_ o203 (L_ o345) Z_) (L_ o278)) (N_ o549 (N_ o244 (L_ o380) Z_) (L_ o698))) (N_ o549 (N_ o143 (N_ o549 (L_ o361) Z_) (L_ o294)) (N_ o184 (N_ o260 (L_ o396) Z_) (L_ o326)))))) (N_ W.boot_o_6 (N_ W.boot_o_10 (N_ o697 (N_ o70 (N_ o697 (N_ o190 (L_ o335) Z_) (N_ o698 (L_ o402) Z_)) (N_ o697 (N_ o697 (L_ o549) Z_) (L_ o300))) (N_ o697 (N_ o130 (N_ o697 (L_ o351) Z_) (L_ o697)) (N_ o697 (N_ o250 (L_ o697) Z_) (L_ o697)))) (N_ o698 (N_ o697 (N_ o697 Y3 (L_ o276)) (N_ o160 (N_ o697 (L_ o378) Z_) (L_ o308))) (N_ o100 (N_ o697 (N_ o220 (L_ o359) Z_) (L_ o292)) (N_ o697 (N_ o697 (L_ o394) Z_) (L_ o324))))) (N_ o46 (N_ o58 (N_ o697 (N_ o115 (N_ o697 (L_ o339) Z_) (N_ o270 (L_ o406) Z_)) (N_ o697 (N_ o235 (L_ o374) Z_) (L_ o304))) (N_ o697 (N_ o697 Y5 (L_ o697)) (N_ o175 Y3 (L_ o320)))) (N_ o66 (N_ o85 (N_ o697 (N_ o205 (L_ o697) Z_) (L_ o280)) (N_ o697 (N_ o697 (L_ o382) Z_) (L_ o697))) (N_ o697 (N_ o145 (N_ o697 (L_ o363) Z_) (L_ o698)) (N_ o697 (N_ o262 (L_ o698) Z_) (L_ o328)))))))
def h_sts_191 : (@List @Stmt) := [My.top 11, My.top 12, My.top 13, My.top 14, My.top 15, My.top 16, My.top 17, My.top 18, My.top 19, My.top 20, My.top 21, My.top 22]
def h_tree_190 := N_ W.boot_o_0 (N_ W.boot_o_1 (N_ o176 (N_ W.boot_o_7 (N_ o697 (N_ o178 (N_ o698 (L_ o187) Z_) (L_ o239)) (N_ o239 (L_ o127) (L_ o698))) (N_ o549 (N_ o698 (L_ o239) (L_ o157)) (N_ o97 (L_ o698) (L_ o239)))) (N_ o697 (N_ o55 (N_ o239 (L_ o112) (L_ o698)) (N_ o698 (L_ o239) (L_ o172))) (N_ o63 (N_ o82 (L_ o698) (L_ o239)) (N_ o239 (L_ o142) (L_ o698))))) (N_ W.boot_o_5 (N_ W.boot_o_9 (N_ o53 (N_ o69 (N_ o110 (L_ o189) Z_) (L_ o151)) (N_ o91 (L_ o129) (L_ o170))) (N_ o697 (N_ o80 (L_ o121) (L_ o159)) (N_ o99 (L_ o140) (L_ o181)))) (N_ o45 (N_ o57 (N_ o76 (L_ o114) (L_ o155)) (N_ o95 (L_ o136) (L_ o174))) (N_ o697 (N_ o84 (L_ o125) (L_ o166)) (N_ o106 (L_ o144) (L_ o185)))))) (N_ W.boot_o_2 (N_ W.boot_o_4 (N_ W.boot_o_8 (N_ o698 (N_ o68 (N_ o109 (L_ o188) Z_) (L_ o549)) (N_ o549 (L_ o128) (L_ o169))) (N_ o60 (N_ o79 (L_ o549) (L_ o158)) (N_ o98 (L_ o139) (L_ o549)))) (N_ o177 (N_ o56 (N_ o549 (L_ o113) (L_ o154)) (N_ o94 (L_ o549) (L_ o173))) (N_ o64 (N_ o83 (L_ o124) (L_ o549)) (N_ o549 (L_ o143) (L_ o184))))) (N_ W.boot_o_6 (N_ W.boot_o_10 (N_ o697 (N_ o70 (N_ o697 (L_ o190) Z_) (L_ o697)) (N_ o697 (L_ o130) (L_ o697))) (N_ o698 (N_ o697 (L_ o697) (L_ o160)) (N_ o100 (L_ o697) (L_ o697)))) (N_ o46 (N_ o58 (N_ o697 (L_ o115) (L_ o697)) (N_ o697 (L_ o697) (L_ o175))) (N_ o66 (N_ o85 (L_ o697) (L_ o697)) (N_ o697 (L_ o145) (L_ o697))))))
def h_sts_49 : (@List @Stmt) := [My.top 0, My.top 1, My.top 2, My.top 3, My.top 4, My.top 5, My.top 6, My.top 7, My.top 8, My.top 9, My.top 10]
def h_tree_47 := N_ W.boot_o_0 (N_ W.boot_o_1 (N_ W.boot_o_3 (L_ W.boot_o_7) (L_ o697)) (N_ W.boot_o_5 (L_ W.boot_o_9) (L_ o45))) (N_ W.boot_o_2 (N_ W.boot_o_4 (L_ W.boot_o_8) (L_ o698)) (N_ W.boot_o_6 (L_ W.boot_o_10) (L_ o46)))
def h_heap_46 : ((x : @Params) → @Heap) := (fun x => (@Heap.mk (@Array.mk @Obj [(@W.boot_o_0 x), (@W.boot_o_1 x), (@W.boot_o_2 x), (@W.boot_o_3 x), (@W.boot_o_4 x), (@W.boot_o_5 x), (@W.boot_o_6 x), (@W.boot_o_7 x), (@W.boot_o_8 x), (@W.boot_o_9 x), (@W.boot_o_10 x), (o697 x), (o698 x), (o45 x), (o46 x)]) (@Life.mk [] [] [] 0 (@List.nil (@Prod @Nat @Nat)) [] @Bool.false #[] [] 0 @Bool.false @Bool.false @Bool.false (0 : Int) [(2000 : Int), (10 : Int), (10 : Int)] @Bool.false 0 @Bool.true [] [] 0 @Bool.false)))
abbrev k3 := (@Life.mk [] [] [] 0 (@List.nil (@Prod @Nat @Nat)) [] @Bool.false #[] [] 0 @Bool.false @Bool.false @Bool.false (0 : Int) [(2000 : Int), (10 : Int), (10 : Int)] @Bool.false 0 @Bool.true [] [] 0 @Bool.false)
abbrev S_ (t : Params → W.BT) (n k : Nat) (w : World) (o : OsState) : W.SharedT := W.SharedT.mk (t w.params) n k3 g_ d_ k o
abbrev k0 (x0 : World) (x1 : OsState) := (@Shared.mk (@h_heap_702 x0.params) g_ d_ 936 x1)
abbrev k1 := (@Prod (@Prod (@List (@Option @FnShape)) @Bool) (@Prod (@List (@Option @PyProof.Rows.PlainShape)) (@Prod (@List (@Option (@Prod @PyProof.Rows.PlainShape @Bool))) (@Prod (@Prod (@List (@Option @FnShape)) @Bool) (@List (@Prod (@Option (@Prod (@List (@Option @FnShape)) @Bool)) (@Option (@Prod @PyProof.Rows.PlainShape @Bool))))))))
abbrev k2 := (@W.OpenRow.toRowW (@W.OpenLaw.row @Challenge.rw_oddbases_k56_ways_as_texts))
abbrev k4 (x0 : World) (x1 : OsState) := (@ite @Bool (@Eq @Bool @Bool.true @Bool.true) (@instDecidableEqBool @Bool.true @Bool.true) (@BEq.beq @Nat (@instBEqOfDecidableEq @Nat @instDecidableEqNat) (@Array.size @GenState (@Shared.gens (k0 x0 x1))) 0) (@Bool.not (@leftWithCleanup (@Shared.gens (k0 x0 x1)))))
abbrev k5 := (@Bool.true, ((@pinGoodD (@PyProof.Rows.drecsOf @h_view_39)), ((@PyProof.Rows.plainGoodE @h_view_39 (@W.looseW @h_view_39 [])), ((@PyProof.Rows.plainGoodD @h_view_39 []), ((@W.wideGood @h_view_39), (@W.clsGoodW @h_view_39 []))))))
abbrev k6 := (@List (@Prod (@Option (@Prod (@List (@Option @FnShape)) @Bool)) (@Option (@Prod @PyProof.Rows.PlainShape @Bool))))
abbrev k7 (x0 : World) (x1 : OsState) := (@Bool.and (@Bool.and (@Bool.and (@W.staticsOk (@importedModules (@Module.body (@Program.main (k2).1))) (@W.boot_heap x0.params) (@h_heap_702 x0.params)) (@W.namesBound (k2).1 (@h_heap_702 x0.params))) (@W.gensDone (k0 x0 x1))) (@W.laidKept (@W.boot_heap x0.params) (@h_heap_702 x0.params)))
abbrev k8 := (@Code.body (@W.behindTheImports (k2).1) @h_env_41)
abbrev k9 := (@Prod (@Prod (@Option @Str) (@List (@Prod @Str @Value))) (@Prod @Bool (@Prod @Bool k1)))
abbrev k10 (x0 : World) (x1 : OsState) := (@PyProof.Rows.plainSeenE @h_view_39 (@W.looseW @h_view_39 []) (k0 x0 x1))
abbrev k11 := (@Eq.refl (@List @Addr) My.myAs)
abbrev k12 := (@importedModules (@Module.body (@Program.main (k2).1)))
abbrev k13 (x0 : World) (x1 : OsState) := (@pinSeenD @h_view_39 (@PyProof.Rows.drecsOf @h_view_39) (k0 x0 x1))
abbrev k14 (x0 : World) (x1 : OsState) := (@PyProof.Rows.plainSeenD @h_view_39 [] (k0 x0 x1))
abbrev k15 := (@Prod (@List (@Option @FnShape)) @Bool)
abbrev k16 (x0 : World) (x1 : OsState) := (@W.clsSeenW @h_view_39 [] (k0 x0 x1))
abbrev k17 := (@List.nil (@Prod @Str @W.WData))
abbrev k18 (x0 : World) (x1 : OsState) := (@W.wideSeen @h_view_39 (k0 x0 x1))
abbrev k19 := (@List (@Option (@Prod @PyProof.Rows.PlainShape @Bool)))
abbrev k20 := (@PyProof.Rows.plainGoodE @h_view_39 (@W.looseW @h_view_39 []))
abbrev k21 := (@Nat.add 12 (@Nat.add 1 (@Nat.add 1937 (@Nat.add 1997 (@Nat.add 1918 2)))))
abbrev k22 (x0 : World) (x1 : OsState) := (S_ h_tree_190 131 342 x0 x1)
abbrev k23 (x0 : World) (x1 : OsState) := (S_ h_tree_408 329 591 x0 x1)
abbrev k24 := (@PyProof.Rows.clssOf @h_view_39 (@W.looseW @h_view_39 []))
abbrev k25 (x0 : World) (x1 : OsState) := (S_ h_tree_47 15 187 x0 x1)
abbrev k26 := (@Prod @Flow (@Prod @W.SharedT (@Prod @Code @Pos)))
abbrev k27 (x0 : World) (x1 : OsState) := (@Shared.mk (@h_heap_46 x0.params) g_ d_ 187 x1)
abbrev k28 (x0 : World) (x1 : OsState) := (@PyProof.Rows.tablesOk @h_view_39 (@Shared.heap (k0 x0 x1)))
abbrev k29 (x0 : World) (x1 : OsState) := (@PyProof.Rows.tabsOk @h_view_39 (k0 x0 x1))
abbrev k30 := (@PyProof.Rows.plainGoodD @h_view_39 [])
abbrev k31 (x0 : World) (x1 : OsState) := (@Heap.accountedOkI (@Shared.heap (k0 x0 x1)) k12)
abbrev k32 (x0 : World) (x1 : OsState) := (S_ h_tree_701 606 936 x0 x1)
abbrev k33 (x0 : World) (x1 : OsState) := (@Heap.isNs (@Shared.heap (k0 x0 x1)) @mainGlobals)
abbrev k34 (x0 : World) (x1 : OsState) := (@Heap.isNs (@Shared.heap (k0 x0 x1)) @builtinsNs)
abbrev k35 (x0 : World) (x1 : OsState) := (@Shared.mk (@W.boot_heap x0.params) g_ @W.boot_drawn @W.boot_toks x1)
abbrev k36 := (@Thread.mk (@denote @treeTable k8) k8 (P_ 0 0 0 0) [(@W.topFrame (P_ 0 0 0 0))])
abbrev k37 := (@Prod @Flow (@Prod @Shared (@Prod @Code @Pos)))
abbrev kh0 := (@W.kHook @h_heap_39 My.myAs (fun x0 => (@id (@Eq (@List @Addr) My.myAs (@List.map (@Prod @Addr @Obj) @Addr (fun (x1 : (@Prod @Addr @Obj)) => (@Prod.fst @Addr @Obj x1)) (@h_heap_39 x0))) k11)))
theorem pf_737 : ((x0 : World) → (@Eq ((x1 : OsState) → (@W.Hook.α kh0)) (fun x1 => (@W.Hook.obs kh0 (k0 x0 x1))) (fun x1 => (@W.Hook.val kh0 x0)))) := by intros; kernel_rfl
theorem pf_727 : ((x0 : World) → (@Eq ((x1 : OsState) → k6) (fun x1 => (k16 x0 x1)) (fun x1 => (@W.clsGoodW @h_view_39 [])))) := by intros; kernel_rfl
theorem pf_725 : ((x0 : World) → (@Eq ((x1 : OsState) → k15) (fun x1 => (k18 x0 x1)) (fun x1 => (@W.wideGood @h_view_39)))) := by intros; kernel_rfl
theorem pf_728 : ((x0 : World) → ((x1 : OsState) → (@Eq (@Prod k15 k6) ((k18 x0 x1), (k16 x0 x1)) ((@W.wideGood @h_view_39), (@W.clsGoodW @h_view_39 []))))) := (fun x0 => (fun x1 => (@W.looks_pair k15 k6 (k18 x0 x1) (@W.wideGood @h_view_39) (k16 x0 x1) (@W.clsGoodW @h_view_39 []) ((fun x2 => (fun x3 => (congrFun (My.pf_725 x2) x3))) x0 x1) ((fun x2 => (fun x3 => (congrFun (My.pf_727 x2) x3))) x0 x1))))
theorem pf_723 : ((x0 : World) → (@Eq ((x1 : OsState) → k19) (fun x1 => (k14 x0 x1)) (fun x1 => k30))) := by intros; kernel_rfl
theorem pf_729 : ((x0 : World) → ((x1 : OsState) → (@Eq (@Prod k19 (@Prod k15 k6)) ((k14 x0 x1), ((k18 x0 x1), (k16 x0 x1))) (k30, ((@W.wideGood @h_view_39), (@W.clsGoodW @h_view_39 [])))))) := (fun x0 => (fun x1 => (@W.looks_pair k19 (@Prod k15 k6) (k14 x0 x1) k30 ((k18 x0 x1), (k16 x0 x1)) ((@W.wideGood @h_view_39), (@W.clsGoodW @h_view_39 [])) ((fun x2 => (fun x3 => (congrFun (My.pf_723 x2) x3))) x0 x1) (@My.pf_728 x0 x1))))
theorem pf_721 : ((x0 : World) → (@Eq ((x1 : OsState) → (@List (@Option @PyProof.Rows.PlainShape))) (fun x1 => (k10 x0 x1)) (fun x1 => k20))) := by intros; kernel_rfl
theorem pf_730 : ((x0 : World) → ((x1 : OsState) → (@Eq (@Prod (@List (@Option @PyProof.Rows.PlainShape)) (@Prod k19 (@Prod k15 k6))) ((k10 x0 x1), ((k14 x0 x1), ((k18 x0 x1), (k16 x0 x1)))) (k20, (k30, ((@W.wideGood @h_view_39), (@W.clsGoodW @h_view_39 []))))))) := (fun x0 => (fun x1 => (@W.looks_pair (@List (@Option @PyProof.Rows.PlainShape)) (@Prod k19 (@Prod k15 k6)) (k10 x0 x1) k20 ((k14 x0 x1), ((k18 x0 x1), (k16 x0 x1))) (k30, ((@W.wideGood @h_view_39), (@W.clsGoodW @h_view_39 []))) ((fun x2 => (fun x3 => (congrFun (My.pf_721 x2) x3))) x0 x1) (@My.pf_729 x0 x1))))
theorem pf_719 : ((x0 : World) → (@Eq ((x1 : OsState) → k15) (fun x1 => (k13 x0 x1)) (fun x1 => (@pinGoodD (@PyProof.Rows.drecsOf @h_view_39))))) := by intros; kernel_rfl
theorem pf_731 : ((x0 : World) → ((x1 : OsState) → (@Eq k1 ((k13 x0 x1), ((k10 x0 x1), ((k14 x0 x1), ((k18 x0 x1), (k16 x0 x1))))) ((@pinGoodD (@PyProof.Rows.drecsOf @h_view_39)), (k20, (k30, ((@W.wideGood @h_view_39), (@W.clsGoodW @h_view_39 [])))))))) := (fun x0 => (fun x1 => (@W.looks_pair k15 (@Prod (@List (@Option @PyProof.Rows.PlainShape)) (@Prod k19 (@Prod k15 k6))) (k13 x0 x1) (@pinGoodD (@PyProof.Rows.drecsOf @h_view_39)) ((k10 x0 x1), ((k14 x0 x1), ((k18 x0 x1), (k16 x0 x1)))) (k20, (k30, ((@W.wideGood @h_view_39), (@W.clsGoodW @h_view_39 [])))) ((fun x2 => (fun x3 => (congrFun (My.pf_719 x2) x3))) x0 x1) (@My.pf_730 x0 x1))))
theorem pf_717 : ((x0 : World) → (@Eq ((x1 : OsState) → @Bool) (fun x1 => (k29 x0 x1)) (fun x1 => @Bool.true))) := by intros; kernel_rfl
theorem pf_732 : ((x0 : World) → ((x1 : OsState) → (@Eq (@Prod @Bool k1) ((k29 x0 x1), ((k13 x0 x1), ((k10 x0 x1), ((k14 x0 x1), ((k18 x0 x1), (k16 x0 x1)))))) k5))) := (fun x0 => (fun x1 => (@W.looks_pair @Bool k1 (k29 x0 x1) @Bool.true ((k13 x0 x1), ((k10 x0 x1), ((k14 x0 x1), ((k18 x0 x1), (k16 x0 x1))))) ((@pinGoodD (@PyProof.Rows.drecsOf @h_view_39)), (k20, (k30, ((@W.wideGood @h_view_39), (@W.clsGoodW @h_view_39 []))))) ((fun x2 => (fun x3 => (congrFun (My.pf_717 x2) x3))) x0 x1) (@My.pf_731 x0 x1))))
theorem pf_715 : ((x0 : World) → (@Eq ((x1 : OsState) → @Bool) (fun x1 => (@Bool.and (@Bool.and (@Bool.and (@Bool.and (@Bool.and (@Bool.and (@Heap.keysOk (@Shared.heap (k0 x0 x1)) (@W.looseW @h_view_39 []) (@List.map @DefRec @Str (fun (x2 : @DefRec) => (@DefRec.name x2)) (@PyProof.Rows.recsOf @h_view_39)) (@List.map (@Prod @Str @PyData) @Str (fun (x2 : (@Prod @Str @PyData)) => (@Prod.fst @Str @PyData x2)) (@PyProof.Rows.litsOf @h_view_39)) (@List.map @ClsRec @Str (fun (x2 : @ClsRec) => (@ClsRec.name x2)) k24)) (k31 x0 x1)) (k33 x0 x1)) (k34 x0 x1)) (k28 x0 x1)) ((fun (x2 : @Shared) => (@Bool.and (@W.xlAt @h_view_39 k17 x2) (@W.recOk (@W.RowW.records k2) x2))) (k0 x0 x1))) (k4 x0 x1))) (fun x1 => @Bool.true))) := by intros; kernel_rfl
theorem pf_733 : ((x0 : World) → ((x1 : OsState) → (@Eq (@Prod @Bool (@Prod @Bool k1)) ((@Bool.and (@Bool.and (@Bool.and (@Bool.and (@Bool.and (@Bool.and (@Heap.keysOk (@Shared.heap (k0 x0 x1)) (@W.looseW @h_view_39 []) (@List.map @DefRec @Str (fun (x2 : @DefRec) => (@DefRec.name x2)) (@PyProof.Rows.recsOf @h_view_39)) (@List.map (@Prod @Str @PyData) @Str (fun (x2 : (@Prod @Str @PyData)) => (@Prod.fst @Str @PyData x2)) (@PyProof.Rows.litsOf @h_view_39)) (@List.map @ClsRec @Str (fun (x2 : @ClsRec) => (@ClsRec.name x2)) k24)) (k31 x0 x1)) (k33 x0 x1)) (k34 x0 x1)) (k28 x0 x1)) ((fun (x2 : @Shared) => (@Bool.and (@W.xlAt @h_view_39 k17 x2) (@W.recOk (@W.RowW.records k2) x2))) (k0 x0 x1))) (k4 x0 x1)), ((k29 x0 x1), ((k13 x0 x1), ((k10 x0 x1), ((k14 x0 x1), ((k18 x0 x1), (k16 x0 x1))))))) (@Bool.true, k5)))) := (fun x0 => (fun x1 => (@W.looks_pair @Bool (@Prod @Bool k1) (@Bool.and (@Bool.and (@Bool.and (@Bool.and (@Bool.and (@Bool.and (@Heap.keysOk (@Shared.heap (k0 x0 x1)) (@W.looseW @h_view_39 []) (@List.map @DefRec @Str (fun (x2 : @DefRec) => (@DefRec.name x2)) (@PyProof.Rows.recsOf @h_view_39)) (@List.map (@Prod @Str @PyData) @Str (fun (x2 : (@Prod @Str @PyData)) => (@Prod.fst @Str @PyData x2)) (@PyProof.Rows.litsOf @h_view_39)) (@List.map @ClsRec @Str (fun (x2 : @ClsRec) => (@ClsRec.name x2)) k24)) (k31 x0 x1)) (k33 x0 x1)) (k34 x0 x1)) (k28 x0 x1)) ((fun (x2 : @Shared) => (@Bool.and (@W.xlAt @h_view_39 k17 x2) (@W.recOk (@W.RowW.records k2) x2))) (k0 x0 x1))) (k4 x0 x1)) @Bool.true ((k29 x0 x1), ((k13 x0 x1), ((k10 x0 x1), ((k14 x0 x1), ((k18 x0 x1), (k16 x0 x1)))))) k5 ((fun x2 => (fun x3 => (congrFun (My.pf_715 x2) x3))) x0 x1) (@My.pf_732 x0 x1))))
theorem pf_713 : ((x0 : World) → (@Eq ((x1 : OsState) → (@Prod (@Option @Str) (@List (@Prod @Str @Value)))) (fun x1 => (@Heap.bltView (@Shared.heap (k0 x0 x1)))) (fun x1 => @bltViewBooted))) := by intros; kernel_rfl
theorem pf_734 : ((x0 : World) → ((x1 : OsState) → (@Eq k9 ((@Heap.bltView (@Shared.heap (k0 x0 x1))), ((@Bool.and (@Bool.and (@Bool.and (@Bool.and (@Bool.and (@Bool.and (@Heap.keysOk (@Shared.heap (k0 x0 x1)) (@W.looseW @h_view_39 []) (@List.map @DefRec @Str (fun (x2 : @DefRec) => (@DefRec.name x2)) (@PyProof.Rows.recsOf @h_view_39)) (@List.map (@Prod @Str @PyData) @Str (fun (x2 : (@Prod @Str @PyData)) => (@Prod.fst @Str @PyData x2)) (@PyProof.Rows.litsOf @h_view_39)) (@List.map @ClsRec @Str (fun (x2 : @ClsRec) => (@ClsRec.name x2)) k24)) (k31 x0 x1)) (k33 x0 x1)) (k34 x0 x1)) (k28 x0 x1)) ((fun (x2 : @Shared) => (@Bool.and (@W.xlAt @h_view_39 k17 x2) (@W.recOk (@W.RowW.records k2) x2))) (k0 x0 x1))) (k4 x0 x1)), ((k29 x0 x1), ((k13 x0 x1), ((k10 x0 x1), ((k14 x0 x1), ((k18 x0 x1), (k16 x0 x1)))))))) (@bltViewBooted, (@Bool.true, k5))))) := (fun x0 => (fun x1 => (@W.looks_pair (@Prod (@Option @Str) (@List (@Prod @Str @Value))) (@Prod @Bool (@Prod @Bool k1)) (@Heap.bltView (@Shared.heap (k0 x0 x1))) @bltViewBooted ((@Bool.and (@Bool.and (@Bool.and (@Bool.and (@Bool.and (@Bool.and (@Heap.keysOk (@Shared.heap (k0 x0 x1)) (@W.looseW @h_view_39 []) (@List.map @DefRec @Str (fun (x2 : @DefRec) => (@DefRec.name x2)) (@PyProof.Rows.recsOf @h_view_39)) (@List.map (@Prod @Str @PyData) @Str (fun (x2 : (@Prod @Str @PyData)) => (@Prod.fst @Str @PyData x2)) (@PyProof.Rows.litsOf @h_view_39)) (@List.map @ClsRec @Str (fun (x2 : @ClsRec) => (@ClsRec.name x2)) k24)) (k31 x0 x1)) (k33 x0 x1)) (k34 x0 x1)) (k28 x0 x1)) ((fun (x2 : @Shared) => (@Bool.and (@W.xlAt @h_view_39 k17 x2) (@W.recOk (@W.RowW.records k2) x2))) (k0 x0 x1))) (k4 x0 x1)), ((k29 x0 x1), ((k13 x0 x1), ((k10 x0 x1), ((k14 x0 x1), ((k18 x0 x1), (k16 x0 x1))))))) (@Bool.true, k5) ((fun x2 => (fun x3 => (congrFun (My.pf_713 x2) x3))) x0 x1) (@My.pf_733 x0 x1))))
theorem pf_711 : ((x0 : World) → (@Eq ((x1 : OsState) → @PyProof.Rows.Seen) (fun x1 => (@PyProof.Rows.seen (@List.map @DefRec @Str (fun (x2 : @DefRec) => (@DefRec.name x2)) (@PyProof.Rows.recsOf @h_view_39)) (@PyProof.Rows.ownsOf @h_view_39) [] (@Shared.mk (@Shared.heap (k0 x0 x1)) #[] (@Shared.drawn (k0 x0 x1)) (@Shared.toks (k0 x0 x1)) (@Shared.os (k0 x0 x1))))) (fun x1 => (@PyProof.Rows.expectedOf @h_view_39)))) := by intros; kernel_rfl
theorem pf_735 : ((x0 : World) → ((x1 : OsState) → (@Eq (@Prod @PyProof.Rows.Seen k9) (@W.openSeen @h_view_39 [] k12 (fun (x2 : @Shared) => (@Bool.and (@W.xlAt @h_view_39 k17 x2) (@W.recOk (@W.RowW.records k2) x2))) @Bool.true (k0 x0 x1)) (@W.openGood @h_view_39 [])))) := (fun x0 => (fun x1 => (@W.looks_pair @PyProof.Rows.Seen k9 (@PyProof.Rows.seen (@List.map @DefRec @Str (fun (x2 : @DefRec) => (@DefRec.name x2)) (@PyProof.Rows.recsOf @h_view_39)) (@PyProof.Rows.ownsOf @h_view_39) [] (@Shared.mk (@Shared.heap (k0 x0 x1)) #[] (@Shared.drawn (k0 x0 x1)) (@Shared.toks (k0 x0 x1)) (@Shared.os (k0 x0 x1)))) (@PyProof.Rows.expectedOf @h_view_39) ((@Heap.bltView (@Shared.heap (k0 x0 x1))), ((@Bool.and (@Bool.and (@Bool.and (@Bool.and (@Bool.and (@Bool.and (@Heap.keysOk (@Shared.heap (k0 x0 x1)) (@W.looseW @h_view_39 []) (@List.map @DefRec @Str (fun (x2 : @DefRec) => (@DefRec.name x2)) (@PyProof.Rows.recsOf @h_view_39)) (@List.map (@Prod @Str @PyData) @Str (fun (x2 : (@Prod @Str @PyData)) => (@Prod.fst @Str @PyData x2)) (@PyProof.Rows.litsOf @h_view_39)) (@List.map @ClsRec @Str (fun (x2 : @ClsRec) => (@ClsRec.name x2)) k24)) (k31 x0 x1)) (k33 x0 x1)) (k34 x0 x1)) (k28 x0 x1)) ((fun (x2 : @Shared) => (@Bool.and (@W.xlAt @h_view_39 k17 x2) (@W.recOk (@W.RowW.records k2) x2))) (k0 x0 x1))) (k4 x0 x1)), ((k29 x0 x1), ((k13 x0 x1), ((k10 x0 x1), ((k14 x0 x1), ((k18 x0 x1), (k16 x0 x1)))))))) (@bltViewBooted, (@Bool.true, k5)) ((fun x2 => (fun x3 => (congrFun (My.pf_711 x2) x3))) x0 x1) (@My.pf_734 x0 x1))))
theorem pf_738 : ((x0 : World) → ((x1 : OsState) → (@Eq (@Prod (@Prod @PyProof.Rows.Seen k9) (@W.Hook.α kh0)) ((@W.openSeen @h_view_39 [] k12 (fun (x2 : @Shared) => (@Bool.and (@W.xlAt @h_view_39 k17 x2) (@W.recOk (@W.RowW.records k2) x2))) @Bool.true (k0 x0 x1)), (@W.Hook.obs kh0 (k0 x0 x1))) ((@W.openGood @h_view_39 []), (@W.Hook.val kh0 x0))))) := (fun x0 => (fun x1 => (@W.looks_pair (@Prod @PyProof.Rows.Seen k9) (@W.Hook.α kh0) (@W.openSeen @h_view_39 [] k12 (fun (x2 : @Shared) => (@Bool.and (@W.xlAt @h_view_39 k17 x2) (@W.recOk (@W.RowW.records k2) x2))) @Bool.true (k0 x0 x1)) (@W.openGood @h_view_39 []) (@W.Hook.obs kh0 (k0 x0 x1)) (@W.Hook.val kh0 x0) (@My.pf_735 x0 x1) ((fun x2 => (fun x3 => (congrFun (My.pf_737 x2) x3))) x0 x1))))
theorem pf_709 : ((x0 : World) → (@Eq ((x1 : OsState) → @Bool) (fun x1 => (k7 x0 x1)) (fun x1 => @Bool.true))) := by intros; kernel_rfl
theorem pf_739 : ((x0 : World) → ((x1 : OsState) → (@Eq (@Prod @Bool (@Prod (@Prod @PyProof.Rows.Seen k9) (@W.Hook.α kh0))) ((k7 x0 x1), ((@W.openSeen @h_view_39 [] k12 (fun (x2 : @Shared) => (@Bool.and (@W.xlAt @h_view_39 k17 x2) (@W.recOk (@W.RowW.records k2) x2))) @Bool.true (k0 x0 x1)), (@W.Hook.obs kh0 (k0 x0 x1)))) (@Bool.true, ((@W.openGood @h_view_39 []), (@W.Hook.val kh0 x0)))))) := (fun x0 => (fun x1 => (@W.looks_pair @Bool (@Prod (@Prod @PyProof.Rows.Seen k9) (@W.Hook.α kh0)) (k7 x0 x1) @Bool.true ((@W.openSeen @h_view_39 [] k12 (fun (x2 : @Shared) => (@Bool.and (@W.xlAt @h_view_39 k17 x2) (@W.recOk (@W.RowW.records k2) x2))) @Bool.true (k0 x0 x1)), (@W.Hook.obs kh0 (k0 x0 x1))) ((@W.openGood @h_view_39 []), (@W.Hook.val kh0 x0)) ((fun x2 => (fun x3 => (congrFun (My.pf_709 x2) x3))) x0 x1) (@My.pf_738 x0 x1))))
theorem pf_704 : ((x0 : World) → (@Eq ((x1 : OsState) → (@Option @Shared)) (fun x1 => (@W.topRun @treeTable (k2).1 x0 11 v_ 2 (@W.SharedT.abs (k32 x0 x1)) (@Thread.mk (@W.doneF @Flow.next) k8 (P_ 260 0 276 15) [(@W.topFrame (P_ 0 0 0 0))]))) (fun x1 => (@some @Shared (k0 x0 x1))))) := by intros; kernel_rfl
theorem pf_49 : ((x0 : World) → (@Eq ((x1 : OsState) → (@Option k37)) (fun x1 => (@W.segRun @treeTable (k2).1 x0 11 v_ 1 1 (k27 x0 x1) (@W.blockOf (@W.behindTheImports (k2).1) @h_env_41 k8 (P_ 0 0 0 0) [(@W.topFrame (P_ 0 0 0 0))]))) (fun x1 => (@some k37 (@Flow.next, ((@W.SharedT.abs (k25 x0 x1)), (k8, (P_ 0 0 0 0)))))))) := by intros; kernel_rfl
theorem pf_47 : ((x0 : World) → (@Eq ((x1 : OsState) → (@Option (@Prod @Shared @Thread))) (fun x1 => (@W.topGo @treeTable (k2).1 x0 11 v_ 12 (k35 x0 x1) (@W.topStub (k2).1))) (fun x1 => (@some (@Prod @Shared @Thread) ((k27 x0 x1), k36))))) := by intros; kernel_rfl
theorem pf_191 : ((x0 : World) → (@Eq ((x1 : OsState) → (@Option k26)) (fun x1 => (@W.segRunT @treeTable (k2).1 x0 11 v_ 1 1937 (k25 x0 x1) (@W.piecesOf @h_sts_49 @h_env_41 k8 (P_ 0 0 0 0) [(@W.topFrame (P_ 0 0 0 0))]))) (fun x1 => (@some k26 (@Flow.next, ((k22 x0 x1), (k8, (P_ 21 0 22 8)))))))) := by intros; kernel_rfl
theorem pf_409 : ((x0 : World) → (@Eq ((x1 : OsState) → (@Option k26)) (fun x1 => (@W.segRunT @treeTable (k2).1 x0 11 v_ 1 1997 (k22 x0 x1) (@W.piecesOf @h_sts_191 @h_env_41 k8 (P_ 21 0 22 8) [(@W.topFrame (P_ 0 0 0 0))]))) (fun x1 => (@some k26 (@Flow.next, ((k23 x0 x1), (k8, (P_ 70 0 82 31)))))))) := by intros; kernel_rfl
theorem pf_702 : ((x0 : World) → (@Eq ((x1 : OsState) → (@Option k26)) (fun x1 => (@W.segRunT @treeTable (k2).1 x0 11 v_ 1 1918 (k23 x0 x1) (@W.piecesOf @h_sts_409 @h_env_41 k8 (P_ 70 0 82 31) [(@W.topFrame (P_ 0 0 0 0))]))) (fun x1 => (@some k26 (@Flow.next, ((k32 x0 x1), (k8, (P_ 260 0 276 15)))))))) := by intros; kernel_rfl
theorem pf_705 : ((x0 : World) → ((x1 : OsState) → (@Eq (@Option @Shared) (@W.topRun @treeTable (k2).1 x0 11 v_ k21 (k35 x0 x1) (@W.topStub (k2).1)) (@some @Shared (k0 x0 x1))))) := (fun x0 => (fun x1 => (@W.go_top @treeTable (k2).1 x0 11 v_ 12 (@Nat.add 1 (@Nat.add 1937 (@Nat.add 1997 (@Nat.add 1918 2)))) (k35 x0 x1) (k27 x0 x1) (k0 x0 x1) (@W.topStub (k2).1) k36 (congrFun (My.pf_47 x0) x1) (@W.piece_block @treeTable (k2).1 x0 11 v_ @h_env_41 (P_ 0 0 0 0) 1 (@Nat.add 1937 (@Nat.add 1997 (@Nat.add 1918 2))) (k27 x0 x1) (@W.SharedT.abs (k25 x0 x1)) (k0 x0 x1) (@W.behindTheImports (k2).1) k8 (P_ 0 0 0 0) (P_ 0 0 0 0) (congrFun (My.pf_49 x0) x1) (@W.piece_app @treeTable (k2).1 x0 11 v_ @h_env_41 (P_ 0 0 0 0) 1937 (@Nat.add 1997 (@Nat.add 1918 2)) (@W.SharedT.abs (k25 x0 x1)) (@W.SharedT.abs (k22 x0 x1)) (k0 x0 x1) @h_sts_49 (@HAppend.hAppend (@List @Stmt) (@List @Stmt) (@List @Stmt) (@instHAppendOfAppend (@List @Stmt) (@List.instAppend @Stmt)) @h_sts_191 (@HAppend.hAppend (@List @Stmt) (@List @Stmt) (@List @Stmt) (@instHAppendOfAppend (@List @Stmt) (@List.instAppend @Stmt)) @h_sts_409 [])) k8 (P_ 0 0 0 0) (P_ 21 0 22 8) (My.sg_ (congrFun (My.pf_191 x0) x1)) (@W.piece_app @treeTable (k2).1 x0 11 v_ @h_env_41 (P_ 0 0 0 0) 1997 (@Nat.add 1918 2) (@W.SharedT.abs (k22 x0 x1)) (@W.SharedT.abs (k23 x0 x1)) (k0 x0 x1) @h_sts_191 (@HAppend.hAppend (@List @Stmt) (@List @Stmt) (@List @Stmt) (@instHAppendOfAppend (@List @Stmt) (@List.instAppend @Stmt)) @h_sts_409 []) k8 (P_ 21 0 22 8) (P_ 70 0 82 31) (My.sg_ (congrFun (My.pf_409 x0) x1)) (@W.piece_app @treeTable (k2).1 x0 11 v_ @h_env_41 (P_ 0 0 0 0) 1918 2 (@W.SharedT.abs (k23 x0 x1)) (@W.SharedT.abs (k32 x0 x1)) (k0 x0 x1) @h_sts_409 [] k8 (P_ 70 0 82 31) (P_ 260 0 276 15) (My.sg_ (congrFun (My.pf_702 x0) x1)) (congrFun (My.pf_704 x0) x1))))))))
theorem pf_707 : ((x0 : World) → (@Eq (@Prod @Bool (@Prod @Nat (@Option @Value))) ((@Bool.and (@Heap.isNs (@W.boot_heap x0.params) @mainGlobals) (@BEq.beq @Nat (@instBEqOfDecidableEq @Nat @instDecidableEqNat) (@Array.size @GenState g_) 0)), ((@Array.size @Obj (@Heap.objs (@W.boot_heap x0.params))), (@Heap.nsMap (@W.boot_heap x0.params) @mainGlobals (.ofString "__annotations__")))) (@Bool.true, (11, v_)))) := by intros; kernel_rfl
theorem pf_43 : ((x0 : @Shared) → (@Eq (@Option @Shared) (@fenceModules? (k2).1 x0) (@some @Shared x0))) := by intros; kernel_rfl
theorem pf_42 : (@Eq @Program (@W.opening (k2).1) (@W.plainProg (@Scope.names (@Module.scope (@Program.main (k2).1))))) := by intros; kernel_rfl
theorem left : (@W.LeftO (k2).1 @h_view_39 [] (fun (x0 : @Shared) => (@Bool.and (@W.xlAt @h_view_39 k17 x0) (@W.recOk (@W.RowW.records k2) x0))) (@W.Hook.α kh0) (@W.Hook.obs kh0) (@W.Hook.val kh0) 11786 @Bool.true) := (@W.LeftO.of_pieces (k2).1 @h_view_39 [] (fun (x0 : @Shared) => (@Bool.and (@W.xlAt @h_view_39 k17 x0) (@W.recOk (@W.RowW.records k2) x0))) (@W.Hook.α kh0) (@W.Hook.obs kh0) (@W.Hook.val kh0) 11786 @Bool.true @W.boot_heap @h_heap_702 g_ g_ @W.boot_drawn d_ @W.boot_toks 936 11 v_ k21 (@W.boot_open (k2).1 11786 @My.pf_42 (@of_decide_eq_true (@Eq @Bool (@Nat.ble 600 11786) @Bool.true) (@instDecidableEqBool (@Nat.ble 600 11786) @Bool.true) (@id (@Eq @Bool (@Decidable.decide (@Eq @Bool (@Nat.ble 600 11786) @Bool.true) (@instDecidableEqBool (@Nat.ble 600 11786) @Bool.true)) @Bool.true) (@Eq.refl @Bool @Bool.true))) @My.pf_43) @My.pf_707 @My.pf_705 (@of_decide_eq_true (@Eq @Bool (@Nat.ble k21 11786) @Bool.true) (@instDecidableEqBool (@Nat.ble k21 11786) @Bool.true) (@id (@Eq @Bool (@Decidable.decide (@Eq @Bool (@Nat.ble k21 11786) @Bool.true) (@instDecidableEqBool (@Nat.ble k21 11786) @Bool.true)) @Bool.true) (@Eq.refl @Bool @Bool.true))) (fun x0 => (@funext @OsState (fun x1 => (@Prod @Bool (@Prod (@Prod @PyProof.Rows.Seen k9) (@W.Hook.α kh0)))) (fun x1 => ((k7 x0 x1), ((@W.openSeen @h_view_39 [] k12 (fun (x2 : @Shared) => (@Bool.and (@W.xlAt @h_view_39 k17 x2) (@W.recOk (@W.RowW.records k2) x2))) @Bool.true (k0 x0 x1)), (@W.Hook.obs kh0 (k0 x0 x1))))) (fun x1 => (@Bool.true, ((@W.openGood @h_view_39 []), (@W.Hook.val kh0 x0)))) (fun x1 => (@My.pf_739 x0 x1)))))
end My
end
theorem My.myE : ∀ P, My.myAs = (My.h_heap_39 P).map (·.1) := fun _ => by kernel_rfl
set_option maxRecDepth 100000

set_option maxHeartbeats 4000000
namespace OD
open PySem PySem.Spec PyProof.Rows L2
abbrev St := L2.St
noncomputable def Zx (X : Cx) : Hp := if X.stack.length = X.outer.length ∨ X.fn "" = false then (fun _ => none) else X.H₀
theorem zx_def {CX : CXT} {P : Program} {w : World} {K : PySem.W.Frag} {mg : Str → Option Value} {base : Heap} {N : List Str} {qual : Str} {scope : Scope} {f : Addr} {cd : Value} {A : Around} {outer : List Env} {s : Shared} {H : Hp} {E : XK} : Zx (cxOf CX P w K mg base N qual scope f cd A outer s H E) = H := if_neg (fun z => z.elim (Nat.succ_ne_self _) (fun z => Bool.noConfusion z))
theorem zx_stk {X : Cx} (h : X.stack.length ≠ X.outer.length) (hf : X.fn "" = true := by rfl) : Zx X = X.H₀ := if_neg (fun z => z.elim h (fun z => by rw [hf] at z; cases z))
variable {Z : Hp}

inductive Dt where
  | non | bl (b : Bool) | int (i : Int) | str (x : Str) | tup (ds : List Dt) | lst (ds : List Dt) | scr (ns : List Int) | way (C : Addr) (f : Str) (n : Int) | exc (C : Addr)
def excAt (a C : Addr) : Heap → Prop := fun h => ∃ o, h.get? a = some o ∧ o.cls = .ref C

mutual
/-- the value v stands for the data in the heap H -/
def Is (K : PySem.W.Frag) (H : Hp) : Dt → V → Prop
  | .non, v => v = .non
  | .bl b, v => v = .bl b
  | .int i, v => v = .int i
  | .str x, v => v = .str x
  | .tup ds, v => ∃ a xs, v = .ref a ∧ H a = some (.tup xs) ∧ AllIs K H ds xs
  | .lst ds, v => ∃ a xs, v = .ref a ∧ H a = some (.lst xs) ∧ AllIs K H ds xs
  | .scr ns, v => ∃ a, v = .ref a ∧ SqL K H a (ns.map V.int)
  | .way C f n, v => ∃ a dx, v = .ref a ∧ H a = some (.ins C dx [(f, .int n)])
  | .exc C, v => ∃ a, v = .ref a ∧ H a = some (.ext (excAt a C))
def AllIs (K : PySem.W.Frag) (H : Hp) : List Dt → List V → Prop
  | [], xs => xs = []
  | d :: ds, xs => ∃ x r, xs = x :: r ∧ Is K H d x ∧ AllIs K H ds r
end
variable {K : PySem.W.Frag} {H H' H1 H2 : Hp}
theorem is_non {v : V} : Is K H .non v ↔ v = .non := by unfold Is; exact Iff.rfl
theorem is_bl {b : Bool} {v : V} : Is K H (.bl b) v ↔ v = .bl b := by unfold Is; exact Iff.rfl
theorem is_int {i : Int} {v : V} : Is K H (.int i) v ↔ v = .int i := by unfold Is; exact Iff.rfl
theorem is_str {x : Str} {v : V} : Is K H (.str x) v ↔ v = .str x := by unfold Is; exact Iff.rfl
theorem is_tup {ds : List Dt} {v : V} : Is K H (.tup ds) v ↔ ∃ a xs, v = .ref a ∧ H a = some (.tup xs) ∧ AllIs K H ds xs := by
  constructor
  · intro h; unfold Is at h; exact h
  · intro h; unfold Is; exact h
theorem is_lst {ds : List Dt} {v : V} : Is K H (.lst ds) v ↔ ∃ a xs, v = .ref a ∧ H a = some (.lst xs) ∧ AllIs K H ds xs := by
  constructor
  · intro h; unfold Is at h; exact h
  · intro h; unfold Is; exact h
theorem is_scr {ns : List Int} {v : V} : Is K H (.scr ns) v ↔ ∃ a, v = .ref a ∧ SqL K H a (ns.map V.int) := by
  constructor
  · intro h; unfold Is at h; exact h
  · intro h; unfold Is; exact h
theorem is_way {C : Addr} {f : Str} {n : Int} {v : V} : Is K H (.way C f n) v ↔ ∃ a dx, v = .ref a ∧ H a = some (.ins C dx [(f, .int n)]) := by
  constructor
  · intro h; unfold Is at h; exact h
  · intro h; unfold Is; exact h
theorem is_exc {C : Addr} {v : V} : Is K H (.exc C) v ↔ ∃ a, v = .ref a ∧ H a = some (.ext (excAt a C)) := by
  constructor
  · intro h; unfold Is at h; exact h
  · intro h; unfold Is; exact h
theorem allIs_nil {xs : List V} : AllIs K H [] xs ↔ xs = [] := by unfold AllIs; exact Iff.rfl
theorem allIs_cons {d : Dt} {ds : List Dt} {xs : List V} : AllIs K H (d :: ds) xs ↔ ∃ x r, xs = x :: r ∧ Is K H d x ∧ AllIs K H ds r := by
  constructor
  · intro h; unfold AllIs at h; exact h
  · intro h; unfold AllIs; exact h
mutual
theorem Is.mono0 (s : Same H H') : ∀ {d : Dt} {v : V}, Is K H d v → Is K H' d v
  | .non, _, h => is_non.mpr (is_non.mp h)
  | .bl _, _, h => is_bl.mpr (is_bl.mp h)
  | .int _, _, h => is_int.mpr (is_int.mp h)
  | .str _, _, h => is_str.mpr (is_str.mp h)
  | .tup ds, _, h => by
    obtain ⟨a, xs, e, h1, h2⟩ := is_tup.mp h
    exact is_tup.mpr ⟨a, xs, e, s _ _ h1, AllIs.mono0 s h2⟩
  | .lst ds, _, h => by
    obtain ⟨a, xs, e, h1, h2⟩ := is_lst.mp h
    exact is_lst.mpr ⟨a, xs, e, s _ _ h1, AllIs.mono0 s h2⟩
  | .scr ns, _, h => by
    obtain ⟨a, e, h1⟩ := is_scr.mp h
    exact is_scr.mpr ⟨a, e, s.seq h1⟩
  | .way C f n, _, h => by
    obtain ⟨a, dx, e, h1⟩ := is_way.mp h
    exact is_way.mpr ⟨a, dx, e, s _ _ h1⟩
  | .exc C, _, h => by
    obtain ⟨a, e, h1⟩ := is_exc.mp h
    exact is_exc.mpr ⟨a, e, s _ _ h1⟩
theorem AllIs.mono0 (s : Same H H') : ∀ {ds : List Dt} {xs : List V}, AllIs K H ds xs → AllIs K H' ds xs
  | [], _, h => allIs_nil.mpr (allIs_nil.mp h)
  | d :: ds, _, h => by
    obtain ⟨x, r, e, h1, h2⟩ := allIs_cons.mp h
    exact allIs_cons.mpr ⟨x, r, e, Is.mono0 s h1, AllIs.mono0 s h2⟩
end
theorem AllIs.length : ∀ {ds : List Dt} {xs : List V}, AllIs K H ds xs → ds.length = xs.length
  | [], _, h => by rw [allIs_nil.mp h]; rfl
  | d :: ds, _, h => by
    obtain ⟨x, r, rfl, _, h2⟩ := allIs_cons.mp h
    rw [List.length_cons, List.length_cons, AllIs.length h2]
theorem AllIs.get : ∀ {ds : List Dt} {xs : List V} {i : Nat} {d : Dt}, AllIs K H ds xs → ds[i]? = some d → ∃ v, xs[i]? = some v ∧ Is K H d v
  | [], _, _, _, _, e => by simp at e
  | d :: ds, _, 0, d', h, e => by
    obtain ⟨x, r, rfl, h1, h2⟩ := allIs_cons.mp h
    simp at e; subst e
    exact ⟨x, rfl, h1⟩
  | d :: ds, _, i + 1, d', h, e => by
    obtain ⟨x, r, rfl, h1, h2⟩ := allIs_cons.mp h
    obtain ⟨v, e1, e2⟩ := AllIs.get (i := i) h2 (by simpa using e)
    exact ⟨v, by simpa using e1, e2⟩
theorem AllIs.get' : ∀ {ds : List Dt} {xs : List V} {i : Nat} {v : V}, AllIs K H ds xs → xs[i]? = some v → ∃ d, ds[i]? = some d ∧ Is K H d v
  | [], _, _, _, h, e => by rw [allIs_nil.mp h] at e; simp at e
  | d :: ds, _, 0, v, h, e => by
    obtain ⟨x, r, rfl, h1, h2⟩ := allIs_cons.mp h
    simp at e; subst e
    exact ⟨d, rfl, h1⟩
  | d :: ds, _, i + 1, v, h, e => by
    obtain ⟨x, r, rfl, h1, h2⟩ := allIs_cons.mp h
    obtain ⟨v, e1, e2⟩ := AllIs.get' (i := i) h2 (by simpa using e)
    exact ⟨v, by simpa using e1, e2⟩
theorem AllIs.append : ∀ {ds es : List Dt} {xs ys : List V}, AllIs K H ds xs → AllIs K H es ys → AllIs K H (ds ++ es) (xs ++ ys)
  | [], _, _, _, h, h' => by rw [allIs_nil.mp h]; exact h'
  | d :: ds, _, _, _, h, h' => by
    obtain ⟨x, r, rfl, h1, h2⟩ := allIs_cons.mp h
    exact allIs_cons.mpr ⟨x, _, rfl, h1, AllIs.append h2 h'⟩
theorem AllIs.drop : ∀ {ds : List Dt} {xs : List V} (n : Nat), AllIs K H ds xs → AllIs K H (ds.drop n) (xs.drop n)
  | _, _, 0, h => h
  | [], _, n + 1, h => by rw [allIs_nil.mp h]; exact allIs_nil.mpr rfl
  | d :: ds, _, n + 1, h => by
    obtain ⟨x, r, rfl, h1, h2⟩ := allIs_cons.mp h
    exact AllIs.drop n h2
theorem AllIs.take : ∀ {ds : List Dt} {xs : List V} (n : Nat), AllIs K H ds xs → AllIs K H (ds.take n) (xs.take n)
  | _, _, 0, _ => allIs_nil.mpr rfl
  | [], _, n + 1, h => by rw [allIs_nil.mp h]; exact allIs_nil.mpr rfl
  | d :: ds, _, n + 1, h => by
    obtain ⟨x, r, rfl, h1, h2⟩ := allIs_cons.mp h
    exact allIs_cons.mpr ⟨x, _, rfl, h1, AllIs.take n h2⟩
theorem AllIs.ints : ∀ {ns : List Int}, AllIs K H (ns.map Dt.int) (ns.map V.int)
  | [] => allIs_nil.mpr rfl
  | n :: ns => allIs_cons.mpr ⟨.int n, _, rfl, is_int.mpr rfl, AllIs.ints⟩
theorem AllIs.atI {ds : List Dt} {xs : List V} {i : Int} {d : Dt} (h : AllIs K H ds xs) (e : L2.atI ds i = some d) : ∃ v, L2.atI xs i = some v ∧ Is K H d v := by
  unfold L2.atI at e ⊢
  rw [← h.length]
  cases q : ixN ds.length i with
  | none => rw [q] at e; cases e
  | some j =>
    rw [q] at e
    exact h.get e
theorem AllIs.one {d : Dt} {xs : List V} (h : AllIs K H [d] xs) : ∃ v, xs = [v] ∧ Is K H d v := by
  obtain ⟨x, r, rfl, h1, h2⟩ := allIs_cons.mp h
  rw [allIs_nil.mp h2]
  exact ⟨x, rfl, h1⟩
theorem AllIs.two {d e : Dt} {xs : List V} (h : AllIs K H [d, e] xs) : ∃ v u, xs = [v, u] ∧ Is K H d v ∧ Is K H e u := by
  obtain ⟨x, r, rfl, h1, h2⟩ := allIs_cons.mp h
  obtain ⟨u, rfl, h3⟩ := h2.one
  exact ⟨x, u, rfl, h1, h3⟩

theorem same_new {p : Addr} (h : H p = none) (o : HO) : Same H (upd H p o) := fun b u q => by rw [upd_ne (ne_of_none q h)]; exact q

structure Vw where
  g : Hp
  h : Hp
  sub : Same g h
structure Le (W W' : Vw) : Prop where
  g : Same W.g W'.g
  h : Same W.h W'.h
  n : ∀ a, W.h a ≠ none → W.g a = none → W'.g a = none
theorem Le.refl (W : Vw) : Le W W := ⟨Same.refl _, Same.refl _, fun _ _ h => h⟩
theorem Le.trans {W W1 W2 : Vw} (a : Le W W1) (b : Le W1 W2) : Le W W2 :=
  ⟨a.g.trans b.g, a.h.trans b.h, fun c h1 h2 => b.n c (fun z => h1 (a.h.free z)) (a.n c h1 h2)⟩
theorem Is.mono {W W' : Vw} {d : Dt} {v : V} (h : Is K W.g d v) (s : Le W W') : Is K W'.g d v := Is.mono0 s.g h
theorem AllIs.mono {W W' : Vw} {d : List Dt} {v : List V} (h : AllIs K W.g d v) (s : Le W W') : AllIs K W'.g d v := AllIs.mono0 s.g h
def Vw.new (W : Vw) (p : Addr) (o : HO) : Vw := ⟨upd W.g p o, upd W.h p o, fun b u q => by
  by_cases e : b = p
  · subst e; rw [upd_same] at q ⊢; exact q
  · rw [upd_ne e] at q ⊢; exact W.sub _ _ q⟩
theorem le_new {W : Vw} {p : Addr} (hp : W.h p = none) (o : HO) : Le W (W.new p o) :=
  ⟨same_new (W.sub.free hp) o, same_new hp o, fun a h1 h2 => by
    have : a ≠ p := fun e => h1 (e ▸ hp)
    show upd W.g p o a = none
    rw [upd_ne this]; exact h2⟩
def Vw.mine (W : Vw) (p : Addr) (o : HO) (hp : W.g p = none) : Vw := ⟨W.g, upd W.h p o, fun b u q => by
  have : b ≠ p := fun e => by rw [e, hp] at q; cases q
  rw [upd_ne this]; exact W.sub _ _ q⟩
theorem le_mine {W : Vw} {p : Addr} (hp : W.h p = none) (o : HO) : Le W (W.mine p o (W.sub.free hp)) :=
  ⟨Same.refl _, same_new hp o, fun _ _ h => h⟩
def Vw.frz (W : Vw) (p : Addr) (o : HO) (hp : W.h p = some o) : Vw := ⟨upd W.g p o, W.h, fun b u q => by
  by_cases e : b = p
  · subst e; rw [upd_same] at q; rw [hp]; exact q
  · rw [upd_ne e] at q; exact W.sub _ _ q⟩

inductive Sl where | none | some (d : Dt) | own (ds : List Dt) | arg (a : Addr) (ds : List Dt)
abbrev DS := List Sl
structure Rl (K : PySem.W.Frag) (Z F : Hp) (W : Vw) (ρ : DS) (σ : St) : Prop where
  len : ρ.length = σ.length
  at_ : ∀ (i : Nat) (d : Dt), ρ[i]? = some (.some d) → ∃ v, σ[i]? = some (some v) ∧ Is K W.g d v
  ow : ∀ (i : Nat) (ds : List Dt), ρ[i]? = some (.own ds) → ∃ a xs, σ[i]? = some (some (.ref a)) ∧ W.h a = some (.lst xs) ∧ W.g a = none ∧ F a = none ∧ AllIs K W.g ds xs
  ne : ∀ (i j : Nat) (ds es : List Dt), i ≠ j → ρ[i]? = some (.own ds) → ρ[j]? = some (.own es) → σ[i]? ≠ σ[j]?
  fr : Same F W.h
  z : Same Z F
  ar : ∀ (i : Nat) (a : Addr) (ds : List Dt), ρ[i]? = some (.arg a ds) → (∃ xs, σ[i]? = some (some (.ref a)) ∧ W.h a = some (.lst xs) ∧ W.g a = none ∧ F a = none ∧ AllIs K W.g ds xs) ∧ (∀ (j : Nat) (es : List Dt), ρ[j]? = some (.own es) → σ[j]? ≠ some (some (.ref a))) ∧ ∀ (j : Nat) (b : Addr) (es : List Dt), ρ[j]? = some (.arg b es) → j = i
variable {F : Hp} {W W' : Vw}
theorem Rl.mono {ρ : DS} {σ : St} (r : Rl K Z F W ρ σ) (s : Le W W') : Rl K Z F W' ρ σ :=
  ⟨r.len, fun i d e => let ⟨v, h1, h2⟩ := r.at_ i d e; ⟨v, h1, h2.mono s⟩,
   fun i ds e => let ⟨a, xs, h1, h2, h3, h4, h5⟩ := r.ow i ds e; ⟨a, xs, h1, s.h _ _ h2, s.n a (by rw [h2]; intro z; cases z) h3, h4, h5.mono s⟩, r.ne, r.fr.trans s.h, r.z,
   fun i a ds e => let ⟨⟨xs, h1, h2, h3, h4, h5⟩, k1, k2⟩ := r.ar i a ds e; ⟨⟨xs, h1, s.h _ _ h2, s.n a (by rw [h2]; intro z; cases z) h3, h4, h5.mono s⟩, k1, k2⟩⟩
theorem set_get {α : Type} {l : List α} {i j : Nat} {x y : α} (q : (l.set i x)[j]? = some y) : (i = j ∧ i < l.length ∧ x = y) ∨ (i ≠ j ∧ l[j]? = some y) := by
  by_cases hij : i = j
  · subst hij
    by_cases hl : i < l.length
    · rw [List.getElem?_set_self hl] at q
      exact .inl ⟨rfl, hl, Option.some.inj q⟩
    · rw [List.getElem?_eq_none (by rw [List.length_set]; omega)] at q
      cases q
  · rw [List.getElem?_set_ne hij] at q
    exact .inr ⟨hij, q⟩
theorem Rl.set {ρ : DS} {σ : St} (r : Rl K Z F W ρ σ) {d : Dt} {v : V} (i : Nat) (h : Is K W.g d v) : Rl K Z F W (ρ.set i (.some d)) (σ.set i (some v)) := by
  refine ⟨by rw [List.length_set, List.length_set]; exact r.len, fun j e q => ?_, fun j ds q => ?_, fun j k ds es hjk q1 q2 => ?_, r.fr, r.z, fun j a ds q => ?_⟩
  · rcases set_get q with ⟨rfl, hl, e1⟩ | ⟨hij, q⟩
    · cases e1
      exact ⟨v, by rw [List.getElem?_set_self (by rw [← r.len]; exact hl)], h⟩
    · rw [List.getElem?_set_ne hij]
      exact r.at_ j e q
  · rcases set_get q with ⟨_, _, e1⟩ | ⟨hij, q⟩
    · cases e1
    · rw [List.getElem?_set_ne hij]
      exact r.ow j ds q
  · rcases set_get q1 with ⟨_, _, e1⟩ | ⟨hij, q1⟩
    · cases e1
    rcases set_get q2 with ⟨_, _, e1⟩ | ⟨hik, q2⟩
    · cases e1
    rw [List.getElem?_set_ne hij, List.getElem?_set_ne hik]
    exact r.ne j k ds es hjk q1 q2
  · rcases set_get q with ⟨_, _, e1⟩ | ⟨hij, q⟩
    · cases e1
    obtain ⟨⟨xs, h1, h2⟩, k1, k2⟩ := r.ar j a ds q
    refine ⟨⟨xs, by rw [List.getElem?_set_ne hij]; exact h1, h2⟩, fun k es q' => ?_, fun k c es q' => ?_⟩
    · rcases set_get q' with ⟨_, _, e1⟩ | ⟨hik, q'⟩
      · cases e1
      rw [List.getElem?_set_ne hik]
      exact k1 k es q'
    · rcases set_get q' with ⟨_, _, e1⟩ | ⟨hik, q'⟩
      · cases e1
      exact k2 k c es q'
theorem Rl.own {ρ : DS} {σ : St} (r : Rl K Z F W ρ σ) (s : Le W W') {p : Addr} {xs : List V} {ds : List Dt} (i : Nat) (h0 : W.h p = none) (h1 : W'.h p = some (.lst xs)) (h2 : W'.g p = none) (h3 : AllIs K W'.g ds xs) :
    Rl K Z F W' (ρ.set i (.own ds)) (σ.set i (some (.ref p))) := by
  have r' := r.mono s
  have nep : ∀ (j : Nat) (es : List Dt), ρ[j]? = some (Sl.own es) → σ[j]? ≠ some (some (V.ref p)) := fun j es q z => by
    obtain ⟨a, ys, e1, e2, _⟩ := r.ow j es q
    rw [z] at e1
    cases e1
    rw [h0] at e2
    cases e2
  refine ⟨by rw [List.length_set, List.length_set]; exact r.len, fun j e q => ?_, fun j es q => ?_, fun j k es es' hjk q1 q2 => ?_, r'.fr, r.z, fun j a fs q => ?_⟩
  · rcases set_get q with ⟨_, _, e1⟩ | ⟨hij, q⟩
    · cases e1
    · rw [List.getElem?_set_ne hij]
      exact r'.at_ j e q
  · rcases set_get q with ⟨rfl, hl, e1⟩ | ⟨hij, q⟩
    · cases e1
      exact ⟨p, xs, by rw [List.getElem?_set_self (by rw [← r.len]; exact hl)], h1, h2, r.fr.free h0, h3⟩
    · rw [List.getElem?_set_ne hij]
      exact r'.ow j es q
  · rcases set_get q1 with ⟨rfl, hl, e1⟩ | ⟨hij, q1⟩
    · rcases set_get q2 with ⟨rfl, _, _⟩ | ⟨hik, q2⟩
      · exact absurd rfl hjk
      · rw [List.getElem?_set_self (by rw [← r.len]; exact hl), List.getElem?_set_ne hik]
        exact fun z => nep k es' q2 z.symm
    · rcases set_get q2 with ⟨rfl, hl, _⟩ | ⟨hik, q2⟩
      · rw [List.getElem?_set_self (by rw [← r.len]; exact hl), List.getElem?_set_ne hij]
        exact nep j es q1
      · rw [List.getElem?_set_ne hij, List.getElem?_set_ne hik]
        exact r.ne j k es es' hjk q1 q2
  · rcases set_get q with ⟨_, _, e1⟩ | ⟨hij, q⟩
    · cases e1
    obtain ⟨⟨ys, g1, g2⟩, k1, k2⟩ := r'.ar j a fs q
    obtain ⟨⟨_, _, g3, _⟩, _, _⟩ := r.ar j a fs q
    refine ⟨⟨ys, by rw [List.getElem?_set_ne hij]; exact g1, g2⟩, fun k es q' => ?_, fun k c es q' => ?_⟩
    · rcases set_get q' with ⟨rfl, hl, e1⟩ | ⟨hik, q'⟩
      · rw [List.getElem?_set_self (by rw [← r.len]; exact hl)]
        intro z
        cases z
        rw [h0] at g3
        cases g3
      · rw [List.getElem?_set_ne hik]
        exact k1 k es q'
    · rcases set_get q' with ⟨_, _, e1⟩ | ⟨hik, q'⟩
      · cases e1
      exact k2 k c es q'
theorem Rl.put {ρ : DS} {σ : St} (r : Rl K Z F W ρ σ) {i : Nat} {ds es : List Dt} {a : Addr} {ys : List V} (hi : ρ[i]? = some (.own ds)) (ha : σ[i]? = some (some (.ref a))) (hg : W.g a = none) (hF : F a = none) (h3 : AllIs K W.g es ys) :
    Rl K Z F (W.mine a (.lst ys) hg) (ρ.set i (.own es)) σ := by
  have hl : i < ρ.length := by
    rcases Nat.lt_or_ge i ρ.length with h | h
    · exact h
    · rw [List.getElem?_eq_none h] at hi; cases hi
  have other : ∀ j fs, j ≠ i → ρ[j]? = some (.own fs) → σ[j]? ≠ some (some (.ref a)) := fun j fs hj q z => r.ne j i fs ds hj q hi (z.trans ha.symm)
  refine ⟨by rw [List.length_set]; exact r.len, fun j e q => ?_, fun j fs q => ?_, fun j k fs fs' hjk q1 q2 => ?_, fun p o q => ?_, r.z, fun j c fs q => ?_⟩
  · rcases set_get q with ⟨_, _, e1⟩ | ⟨hij, q⟩
    · cases e1
    · exact r.at_ j e q
  · rcases set_get q with ⟨rfl, _, e1⟩ | ⟨hij, q⟩
    · cases e1
      exact ⟨a, ys, ha, upd_same, hg, hF, h3⟩
    · obtain ⟨b, xs, e1, e2, e3, e4, e5⟩ := r.ow j fs q
      have hb : b ≠ a := fun z => other j fs (fun z => hij z.symm) q (z ▸ e1)
      exact ⟨b, xs, e1, (upd_ne hb).trans e2, e3, e4, e5⟩
  · have k1 : ∃ gs, ρ[j]? = some (.own gs) := by
      rcases set_get q1 with ⟨rfl, _, _⟩ | ⟨_, q⟩
      · exact ⟨_, hi⟩
      · exact ⟨_, q⟩
    have k2 : ∃ gs, ρ[k]? = some (.own gs) := by
      rcases set_get q2 with ⟨rfl, _, _⟩ | ⟨_, q⟩
      · exact ⟨_, hi⟩
      · exact ⟨_, q⟩
    obtain ⟨_, k1⟩ := k1
    obtain ⟨_, k2⟩ := k2
    exact r.ne j k _ _ hjk k1 k2
  · have e : p ≠ a := fun e => by rw [e, hF] at q; cases q
    exact (upd_ne (H := W.h) (o := .lst ys) e).trans (r.fr p o q)
  · rcases set_get q with ⟨_, _, e1⟩ | ⟨hij, q⟩
    · cases e1
    obtain ⟨⟨ys', g1, g2, g3, g4, g5⟩, k1, k2⟩ := r.ar j c fs q
    have hc : c ≠ a := fun z => k1 i ds hi (by rw [z]; exact ha)
    refine ⟨⟨ys', g1, (upd_ne hc).trans g2, g3, g4, g5⟩, fun k es' q' => ?_, fun k c' es' q' => ?_⟩
    · rcases set_get q' with ⟨rfl, _, _⟩ | ⟨_, q'⟩
      · exact k1 i ds hi
      · exact k1 k es' q'
    · rcases set_get q' with ⟨_, _, e1⟩ | ⟨hik, q'⟩
      · cases e1
      exact k2 k c' es' q'
theorem Rl.frz {ρ : DS} {σ : St} (r : Rl K Z F W ρ σ) {i : Nat} {ds : List Dt} {a : Addr} {xs : List V} (hi : ρ[i]? = some (.own ds)) (ha : σ[i]? = some (some (.ref a))) (hh : W.h a = some (.lst xs)) (hg : W.g a = none) (h3 : AllIs K W.g ds xs) :
    Rl K Z F (W.frz a _ hh) (ρ.set i (.some (.lst ds))) σ := by
  have sg : Same W.g (upd W.g a (.lst xs)) := same_new hg _
  have other : ∀ j fs, j ≠ i → ρ[j]? = some (.own fs) → σ[j]? ≠ some (some (.ref a)) := fun j fs hj q z => r.ne j i fs ds hj q hi (z.trans ha.symm)
  refine ⟨by rw [List.length_set]; exact r.len, fun j e q => ?_, fun j fs q => ?_, fun j k fs fs' hjk q1 q2 => ?_, r.fr, r.z, fun j c fs q => ?_⟩
  · rcases set_get q with ⟨rfl, _, e1⟩ | ⟨hij, q⟩
    · cases e1
      exact ⟨_, ha, is_lst.mpr ⟨a, xs, rfl, upd_same, AllIs.mono0 sg h3⟩⟩
    · obtain ⟨v, e1, e2⟩ := r.at_ j e q
      exact ⟨v, e1, Is.mono0 sg e2⟩
  · rcases set_get q with ⟨_, _, e1⟩ | ⟨hij, q⟩
    · cases e1
    · obtain ⟨b, ys, e1, e2, e3, e4, e5⟩ := r.ow j fs q
      have hb : b ≠ a := fun z => other j fs (fun z => hij z.symm) q (z ▸ e1)
      exact ⟨b, ys, e1, e2, (upd_ne hb).trans e3, e4, AllIs.mono0 sg e5⟩
  · rcases set_get q1 with ⟨_, _, e1⟩ | ⟨_, q1⟩
    · cases e1
    rcases set_get q2 with ⟨_, _, e1⟩ | ⟨_, q2⟩
    · cases e1
    exact r.ne j k _ _ hjk q1 q2
  · rcases set_get q with ⟨_, _, e1⟩ | ⟨hij, q⟩
    · cases e1
    obtain ⟨⟨ys', g1, g2, g3, g4, g5⟩, k1, k2⟩ := r.ar j c fs q
    have hc : c ≠ a := fun z => k1 i ds hi (by rw [z]; exact ha)
    refine ⟨⟨ys', g1, g2, (upd_ne hc).trans g3, g4, AllIs.mono0 sg g5⟩, fun k es' q' => ?_, fun k c' es' q' => ?_⟩
    · rcases set_get q' with ⟨_, _, e1⟩ | ⟨_, q'⟩
      · cases e1
      · exact k1 k es' q'
    · rcases set_get q' with ⟨_, _, e1⟩ | ⟨hik, q'⟩
      · cases e1
      exact k2 k c' es' q'
def dstart (n : Nat) (ds : List Dt) : DS := ds.map Sl.some ++ List.replicate (n - ds.length) Sl.none
theorem Rl.start {N : List Str} {ds : List Dt} {vs : List V} (h : AllIs K W.g ds vs) (hz : Same Z W.h) : Rl K Z W.h W (dstart N.length ds) (L2.start N vs) := by
  have hl := h.length
  have cls : ∀ (i : Nat) (y : Sl), (dstart N.length ds)[i]? = some y → (∃ d, ds[i]? = some d ∧ y = .some d) ∨ y = .none := fun i y e => by
    unfold dstart at e
    by_cases hi : i < ds.length
    · rw [List.getElem?_append_left (by rw [List.length_map]; exact hi), List.getElem?_map] at e
      cases q : ds[i]? with
      | none => rw [q] at e; cases e
      | some d' =>
        rw [q] at e
        exact .inl ⟨d', rfl, (Option.some.inj e).symm⟩
    · rw [List.getElem?_append_right (by rw [List.length_map]; omega), List.getElem?_replicate] at e
      split at e
      · exact .inr (Option.some.inj e).symm
      · cases e
  refine ⟨by unfold L2.start dstart; rw [List.length_append, List.length_append, List.length_map, List.length_map, List.length_replicate, List.length_replicate, hl], fun i d e => ?_, fun i es e => ?_, fun i j es fs _ e _ => ?_, Same.refl _, hz, fun i a es e => ?_⟩
  · rcases cls i _ e with ⟨d', q, e1⟩ | e1
    · cases e1
      obtain ⟨v, h1, h2⟩ := h.get q
      refine ⟨v, ?_, h2⟩
      have hi : i < ds.length := by
        rcases Nat.lt_or_ge i ds.length with h | h
        · exact h
        · rw [List.getElem?_eq_none h] at q; cases q
      unfold L2.start
      rw [List.getElem?_append_left (by rw [List.length_map, ← hl]; exact hi), List.getElem?_map, h1]
      rfl
    · cases e1
  · rcases cls i _ e with ⟨d', q, e1⟩ | e1
    · cases e1
    · cases e1
  · rcases cls i _ e with ⟨d', q, e1⟩ | e1
    · cases e1
    · cases e1
  · rcases cls i _ e with ⟨d', q, e1⟩ | e1
    · cases e1
    · cases e1

abbrev DTE := DS → (Dt → Prop) → Prop
abbrev DTT := DS → (Bool → Prop) → Prop
abbrev DTA := DS → (List Dt → Prop) → Prop
def LiE (K : PySem.W.Frag) (Z : Hp) (te : TE) (t : DTE) : Prop :=
  ∀ {F : Hp} (ρ : DS) (σ : St) (H : Vw) (Q : Dt → Prop), Rl K Z F H ρ σ → t ρ Q → ∀ R : VK, (∀ d v H', Le H H' → Is K H'.g d v → Q d → R v H'.h) → te σ H.h R
def LiT (K : PySem.W.Frag) (Z : Hp) (te : TT) (t : DTT) : Prop :=
  ∀ {F : Hp} (ρ : DS) (σ : St) (H : Vw) (Q : Bool → Prop), Rl K Z F H ρ σ → t ρ Q → ∀ R : Bool → Hp → Prop, (∀ d H', Le H H' → Q d → R d H'.h) → te σ H.h R
def LiA (K : PySem.W.Frag) (Z : Hp) (te : TA) (t : DTA) : Prop :=
  ∀ {F : Hp} (ρ : DS) (σ : St) (H : Vw) (Q : List Dt → Prop), Rl K Z F H ρ σ → t ρ Q → ∀ R : List V → Hp → Prop, (∀ d v H', Le H H' → AllIs K H'.g d v → Q d → R v H'.h) → te σ H.h R
def DE (X : Cx) (e : Expr) (t : DTE) : Prop := ∃ te, PE X e te ∧ LiE X.K (Zx X) te t
def DT (X : Cx) (e : Expr) (t : DTT) : Prop := ∃ te, PT X e te ∧ LiT X.K (Zx X) te t
def DW (X : Cx) (e : Expr) (t : DTT) : Prop := ∃ te, PW X e te ∧ LiT X.K (Zx X) te t
def DA (X : Cx) (es : List Expr) (t : DTA) : Prop := ∃ te, PA X es te ∧ LiA X.K (Zx X) te t
theorem DW.dt {X : Cx} {e : Expr} {t : DTT} (h : DW X e t) : DT X e t := let ⟨te, h1, h2⟩ := h; ⟨te, h1.pt, h2⟩

def dVar (i : Nat) : DTE := fun ρ Q => ∃ d, ρ[i]? = some (.some d) ∧ Q d
def dC (d : Dt) : DTE := fun _ Q => Q d
section
variable {X : Cx} {a b c : Expr} {ta tb tc : DTE} {pos : Pos}
theorem dv (i : Nat) {x : Str} {pos : Pos} (hN : X.N[i]? = some x := by rfl) (hv : Vis X.env.scope x := by first | exact Or.inl rfl | exact Or.inr (Or.inl rfl) | exact Or.inr (Or.inr rfl)) (hd : (x == ("__debug__" : Str)) = false := by decide)
    (hcd : (x == ("__classdict__" : Str)) = false := by decide) : DE X (.Name x pos) (dVar i) :=
  ⟨tVar i, pe_var hN hv hd hcd, fun ρ σ H Q r h R k => by
    obtain ⟨d, e, q⟩ := h
    obtain ⟨v, h1, h2⟩ := r.at_ i d e
    exact ⟨v, h1, k d v H (Le.refl H) h2 q⟩⟩
theorem lic {v : V} {d : Dt} (h : ∀ H : Vw, Is K H.g d v) : LiE K Z (tC v) (dC d) := fun ρ σ H Q r q R k => k d v H (Le.refl H) (h H) q
theorem de_int {i j pos} : DE X (.Constant (.int i) j pos) (dC (.int i)) := ⟨_, pe_int, lic fun _ => is_int.mpr rfl⟩
theorem de_bl {b j pos} : DE X (.Constant (.bool b) j pos) (dC (.bl b)) := ⟨_, pe_bl, lic fun _ => is_bl.mpr rfl⟩
theorem de_str {x j pos} : DE X (.Constant (.str x) j pos) (dC (.str x)) := ⟨_, pe_str, lic fun _ => is_str.mpr rfl⟩

def DOp (X : Cx) (f : Value → Value → Sem Value) (g : Dt → Dt → (Dt → Prop) → Prop) : Prop :=
  ∃ r, OpR X f r ∧ ∀ (H : Vw) (x y : V) (d e : Dt) (Q : Dt → Prop), Is X.K H.g d x → Is X.K H.g e y → g d e Q → ∀ R : VK, (∀ d v H', Le H H' → Is X.K H'.g d v → Q d → R v H'.h) → r x y H.h R
def dOp (g : Dt → Dt → (Dt → Prop) → Prop) (ta tb : DTE) : DTE := fun ρ Q => ta ρ fun d => tb ρ fun e => g d e Q
theorem liOp {te tf : TE} {r : R2} {g : Dt → Dt → (Dt → Prop) → Prop} (ha : LiE K Z te ta) (hb : LiE K Z tf tb)
    (hg : ∀ (H : Vw) (x y : V) (d e : Dt) (Q : Dt → Prop), Is K H.g d x → Is K H.g e y → g d e Q → ∀ R : VK, (∀ d v H', Le H H' → Is K H'.g d v → Q d → R v H'.h) → r x y H.h R) : LiE K Z (tOp r te tf) (dOp g ta tb) :=
  fun ρ σ H Q rl h R k => ha ρ σ H _ rl h _ fun d v H1 s1 i1 q1 => hb ρ σ H1 _ (rl.mono s1) q1 _ fun e u H2 s2 i2 q2 =>
    hg H2 v u d e Q (i1.mono s2) i2 q2 R fun d' v' H3 s3 i3 q3 => k d' v' H3 ((s1.trans s2).trans s3) i3 q3
theorem de_op {op : Operator} {g : Dt → Dt → (Dt → Prop) → Prop} (ho : DOp X (binaryOp op) g) (ha : DE X a ta) (hb : DE X b tb) : DE X (.BinOp a op b pos) (dOp g ta tb) := by
  obtain ⟨r, h1, h2⟩ := ho
  obtain ⟨te, p1, l1⟩ := ha
  obtain ⟨tf, p2, l2⟩ := hb
  exact ⟨_, pe_op h1 p1 p2, liOp l1 l2 h2⟩
theorem de_cmp {op : CmpOp} {g : Dt → Dt → (Dt → Prop) → Prop} (ho : DOp X (compareOp op) g) (ha : DE X a ta) (hb : DE X b tb) (hm : behindInMarks op b = false) : DE X (.Compare a [op] [b] pos) (dOp g ta tb) := by
  obtain ⟨r, h1, h2⟩ := ho
  obtain ⟨te, p1, l1⟩ := ha
  obtain ⟨tf, p2, l2⟩ := hb
  exact ⟨_, pe_cmpR h1 p1 p2 hm, liOp l1 l2 h2⟩
def dTest (t : DTE) : DTT := fun ρ Q => t ρ fun d => ∃ k, d = .bl k ∧ Q k
theorem liTest {te : TE} {t : DTE} (h : LiE K Z te t) : LiT K Z (tTest te) (dTest t) := fun ρ σ H Q r q R k =>
  h ρ σ H _ r q _ fun d v H1 s1 i1 ⟨b, e, qb⟩ => by
    subst e
    exact ⟨b, is_bl.mp i1, k b H1 s1 qb⟩
theorem dt_cmp {op : CmpOp} {g : Dt → Dt → (Dt → Prop) → Prop} (ho : DOp X (compareOp op) g) (ha : DE X a ta) (hb : DE X b tb) (hm : behindInMarks op b = false) : DT X (.Compare a [op] [b] pos) (dTest (dOp g ta tb)) := by
  obtain ⟨r, h1, h2⟩ := ho
  obtain ⟨te, p1, l1⟩ := ha
  obtain ⟨tf, p2, l2⟩ := hb
  exact ⟨_, pt_cmpR h1 p1 p2 hm, liTest (liOp l1 l2 h2)⟩
theorem dt_val {e : Expr} {t : DTE} (h : DE X e t) (he : ∀ whole, isTrue e X.env whole = (do let v ← whole; standAt e.pos; holding [v] (truthy v)) := by intro _; rfl) : DT X e (dTest t) := by
  obtain ⟨te, p, l⟩ := h
  exact ⟨_, pt_val p he, liTest l⟩
variable {tA tB : DTT} {rest : List Expr}
def dAnd (t u : DTT) : DTT := fun ρ Q => t ρ fun c => if c = true then u ρ Q else Q false
def dOr (t u : DTT) : DTT := fun ρ Q => t ρ fun c => if c = true then Q true else u ρ Q
def dNot (t : DTT) : DTT := fun ρ Q => t ρ fun c => Q (!c)
theorem dw_and1 (ha : DT X a tA) : DW X (.BoolOp .And [a] pos) tA := let ⟨_, p, l⟩ := ha; ⟨_, pw_and1 p, l⟩
theorem dw_or1 (ha : DT X a tA) : DW X (.BoolOp .Or [a] pos) tA := let ⟨_, p, l⟩ := ha; ⟨_, pw_or1 p, l⟩
theorem dw_and (ha : DT X a tA) (hb : DW X (.BoolOp .And (b :: rest) pos) tB) : DW X (.BoolOp .And (a :: b :: rest) pos) (dAnd tA tB) := by
  obtain ⟨te, p1, l1⟩ := ha
  obtain ⟨tf, p2, l2⟩ := hb
  refine ⟨_, pw_and p1 p2, fun ρ σ H Q r h R k => l1 ρ σ H _ r h _ fun c H1 s1 q1 => ?_⟩
  cases c with
  | true => exact l2 ρ σ H1 Q (r.mono s1) q1 R fun d H2 s2 q2 => k d H2 (s1.trans s2) q2
  | false => exact k _ H1 s1 q1
theorem dw_or (ha : DT X a tA) (hb : DW X (.BoolOp .Or (b :: rest) pos) tB) : DW X (.BoolOp .Or (a :: b :: rest) pos) (dOr tA tB) := by
  obtain ⟨te, p1, l1⟩ := ha
  obtain ⟨tf, p2, l2⟩ := hb
  refine ⟨_, pw_or p1 p2, fun ρ σ H Q r h R k => l1 ρ σ H _ r h _ fun c H1 s1 q1 => ?_⟩
  cases c with
  | false => exact l2 ρ σ H1 Q (r.mono s1) q1 R fun d H2 s2 q2 => k d H2 (s1.trans s2) q2
  | true => exact k _ H1 s1 q1
theorem dt_not (ha : DT X a tA) : DT X (.UnaryOp .Not a pos) (dNot tA) := by
  obtain ⟨te, p1, l1⟩ := ha
  exact ⟨_, pt_not p1, fun ρ σ H Q r h R k => l1 ρ σ H _ r h _ fun c H1 s1 q1 => k _ H1 s1 q1⟩
def dAndV (ta tb : DTE) : DTE := fun ρ Q => ta ρ fun d => ∃ c, d = .bl c ∧ if c = true then tb ρ Q else Q (.bl false)
def dNotV (ta : DTE) : DTE := fun ρ Q => ta ρ fun d => ∃ c, d = .bl c ∧ Q (.bl (!c))
theorem de_one {op} {t : DTE} (h : DE X a t) : DE X (.BoolOp op [a] pos) t := let ⟨_, p, l⟩ := h; ⟨_, pe_one p, l⟩
theorem de_and (ha : DE X a ta) (hb : DE X (.BoolOp .And (b :: rest) pos) tb) : DE X (.BoolOp .And (a :: b :: rest) pos) (dAndV ta tb) := by
  obtain ⟨te, p1, l1⟩ := ha
  obtain ⟨tf, p2, l2⟩ := hb
  refine ⟨_, pe_and p1 p2, fun ρ σ H Q r h R k => l1 ρ σ H _ r h _ fun d v H1 s1 i1 ⟨c, e, q1⟩ => ?_⟩
  subst e
  refine ⟨c, is_bl.mp i1, ?_⟩
  cases c with
  | true => exact l2 ρ σ H1 Q (r.mono s1) q1 R fun d v H2 s2 i2 q2 => k d v H2 (s1.trans s2) i2 q2
  | false => exact k _ _ H1 s1 (is_bl.mpr rfl) q1
theorem de_not (ha : DE X a ta) : DE X (.UnaryOp .Not a pos) (dNotV ta) := by
  obtain ⟨te, p1, l1⟩ := ha
  refine ⟨_, pe_not p1, fun ρ σ H Q r h R k => l1 ρ σ H _ r h _ fun d v H1 s1 i1 ⟨c, e, q1⟩ => ?_⟩
  subst e
  exact ⟨c, is_bl.mp i1, k _ _ H1 s1 (is_bl.mpr rfl) q1⟩
def dIf (t : DTT) (ta tb : DTE) : DTE := fun ρ Q => t ρ fun c => if c = true then ta ρ Q else tb ρ Q
theorem de_ifExp {c : Expr} (hc : DT X c tA) (ha : DE X a ta) (hb : DE X b tb) : DE X (.IfExp c a b pos) (dIf tA ta tb) := by
  obtain ⟨tt, p0, l0⟩ := hc
  obtain ⟨te, p1, l1⟩ := ha
  obtain ⟨tf, p2, l2⟩ := hb
  refine ⟨_, pe_ifExp p0 p1 p2, fun ρ σ H Q r h R k => l0 ρ σ H _ r h _ fun c H1 s1 q1 => ?_⟩
  cases c with
  | true => exact l1 ρ σ H1 Q (r.mono s1) q1 R fun d v H2 s2 i2 q2 => k d v H2 (s1.trans s2) i2 q2
  | false => exact l2 ρ σ H1 Q (r.mono s1) q1 R fun d v H2 s2 i2 q2 => k d v H2 (s1.trans s2) i2 q2
end

section
variable {X : Cx} {a b c : Expr} {ta tb tc : DTE} {pos : Pos}
def gI (g : Int → Int → Dt) : Dt → Dt → (Dt → Prop) → Prop := fun d e Q => ∃ i j, d = .int i ∧ e = .int j ∧ Q (g i j)
def gIC (C : Int → Int → Prop) (g : Int → Int → Dt) : Dt → Dt → (Dt → Prop) → Prop := fun d e Q => ∃ i j, d = .int i ∧ e = .int j ∧ C i j ∧ Q (g i j)
theorem dop_I0 {f : Value → Value → Sem Value} {g : Int → Int → Int} (h : OpR X f (rI0 fun i j => .int (g i j))) : DOp X f (gI fun i j => .int (g i j)) := by
  refine ⟨_, h, fun H x y d e Q i1 i2 q R k => ?_⟩
  obtain ⟨i, j, rfl, rfl, q⟩ := q
  exact ⟨i, j, is_int.mp i1, is_int.mp i2, k _ _ H (Le.refl H) (is_int.mpr rfl) q⟩
theorem dop_B0 {f : Value → Value → Sem Value} {g : Int → Int → Bool} (h : OpR X f (rI0 fun i j => .bl (g i j))) : DOp X f (gI fun i j => .bl (g i j)) := by
  refine ⟨_, h, fun H x y d e Q i1 i2 q R k => ?_⟩
  obtain ⟨i, j, rfl, rfl, q⟩ := q
  exact ⟨i, j, is_int.mp i1, is_int.mp i2, k _ _ H (Le.refl H) (is_bl.mpr rfl) q⟩
theorem dop_IC {f : Value → Value → Sem Value} {C : Int → Int → Prop} {g : Int → Int → Int} (h : OpR X f (rI C fun i j => .int (g i j))) : DOp X f (gIC C fun i j => .int (g i j)) := by
  refine ⟨_, h, fun H x y d e Q i1 i2 q R k => ?_⟩
  obtain ⟨i, j, rfl, rfl, hc, q⟩ := q
  exact ⟨i, j, is_int.mp i1, is_int.mp i2, hc, k _ _ H (Le.refl H) (is_int.mpr rfl) q⟩
theorem o_add : DOp X (binaryOp .Add) (gI fun i j => .int (i + j)) := dop_I0 op_add
theorem o_sub : DOp X (binaryOp .Sub) (gI fun i j => .int (i - j)) := dop_I0 op_sub
theorem o_fdiv : DOp X (binaryOp .FloorDiv) (gIC CDivN fun i j => .int (i.fdiv j)) := dop_IC op_fdivN
def CModN (_ j : Int) : Prop := j ≠ 0
theorem o_mod : DOp X (binaryOp .Mod) (gIC CModN fun i j => .int (i.fmod j)) := dop_IC (C := CModN) op_modN
theorem cdivN {c n : Int} (h : (n != 0 && decide (n.natAbs < 1073741824)) = true) : CDivN c n := by
  rw [Bool.and_eq_true, bne_iff_ne, decide_eq_true_iff] at h
  exact h
theorem cmodN {c n : Int} (h : (n != 0) = true) : CModN c n := bne_iff_ne.mp h
theorem cpowN {c n : Int} (h : (decide (0 ≤ n) && (decide (n ≤ 1000000) && decide (c.natAbs < 18446744073709551616))) = true) : CPow c n := by
  rw [Bool.and_eq_true, Bool.and_eq_true, decide_eq_true_iff, decide_eq_true_iff, decide_eq_true_iff] at h
  exact h
theorem mulR {c n : Int} (h : decide (n.natAbs < 9223372036854775808) = true) : IntMulOk c n := by
  rw [decide_eq_true_iff] at h
  exact .of_right (intBits_le_64 (by omega) (by omega))
theorem mulL {c n : Int} (h : decide (n.natAbs < 9223372036854775808) = true) : IntMulOk n c := by
  rw [decide_eq_true_iff] at h
  exact .of_left (intBits_le_64 (by omega) (by omega))
theorem o_pow : DOp X (binaryOp .Pow) (gIC CPow fun i j => .int (i ^ j.toNat)) := dop_IC op_pow
theorem o_lt : DOp X (compareOp .Lt) (gI fun i j => .bl (decide (i < j))) := dop_B0 op_lt
theorem o_gt : DOp X (compareOp .Gt) (gI fun i j => .bl (decide (j < i))) := dop_B0 op_gt
theorem o_ge : DOp X (compareOp .GtE) (gI fun i j => .bl (decide (j ≤ i))) := dop_B0 op_ge
def dNeg (ta : DTE) : DTE := fun ρ Q => ta ρ fun d => ∃ i, d = .int i ∧ Q (.int (-i))
theorem de_neg (ha : DE X a ta) : DE X (.UnaryOp .USub a pos) (dNeg ta) := by
  obtain ⟨te, p1, l1⟩ := ha
  refine ⟨_, pe_un un_neg p1, fun ρ σ H Q r h R k => l1 ρ σ H _ r h _ fun d v H1 s1 i1 ⟨i, e, q1⟩ => ?_⟩
  subst e
  exact ⟨i, is_int.mp i1, k _ _ H1 s1 (is_int.mpr rfl) q1⟩
theorem o_cat : DOp X (binaryOp .Add) (fun d e Q => ∃ ds es, d = .lst ds ∧ e = .lst es ∧ ds.length + es.length ≤ 100000 ∧ Q (.lst (ds ++ es))) := by
  refine ⟨_, op_cat, fun H x y d e Q i1 i2 q R k => ?_⟩
  obtain ⟨ds, es, rfl, rfl, hl, q⟩ := q
  obtain ⟨l, xs, rfl, h1, a1⟩ := is_lst.mp i1
  obtain ⟨m, ys, rfl, h2, a2⟩ := is_lst.mp i2
  refine ⟨l, m, xs, ys, rfl, rfl, H.sub _ _ h1, H.sub _ _ h2, by rw [← a1.length, ← a2.length]; exact Nat.le_trans hl (by decide), fun p hp => ?_⟩
  have s := le_new hp (.lst (xs ++ ys))
  exact k _ _ _ s (is_lst.mpr ⟨p, _, rfl, upd_same, (a1.mono s).append (a2.mono s)⟩) q

def dNil : DTA := fun _ Q => Q []
def dCons (te : DTE) (t : DTA) : DTA := fun ρ Q => te ρ fun d => t ρ fun ds => Q (d :: ds)
variable {es : List Expr} {t : DTA}
theorem da_nil : DA X [] dNil := ⟨_, pa_nil, fun ρ σ H Q r h R k => k [] [] H (Le.refl H) (allIs_nil.mpr rfl) h⟩
theorem da_cons (ha : DE X a ta) (hr : DA X es t) (hs : starEach (a :: es) X.env = (false, eval a X.env) :: starEach es X.env := by rfl) : DA X (a :: es) (dCons ta t) := by
  obtain ⟨te, p1, l1⟩ := ha
  obtain ⟨tf, p2, l2⟩ := hr
  exact ⟨_, pa_cons p1 p2 hs, fun ρ σ H Q r h R k => l1 ρ σ H _ r h _ fun d v H1 s1 i1 q1 => l2 ρ σ H1 _ (r.mono s1) q1 _ fun ds vs H2 s2 i2 q2 =>
    k (d :: ds) (v :: vs) H2 (s1.trans s2) (allIs_cons.mpr ⟨v, vs, rfl, i1.mono s2, i2⟩) q2⟩
def dTup (t : DTA) : DTE := fun ρ Q => t ρ fun ds => Nat.ble ds.length 1000 = true ∧ Q (.tup ds)
def dLst (t : DTA) : DTE := fun ρ Q => t ρ fun ds => Nat.ble ds.length 1000 = true ∧ Q (.lst ds)
theorem de_tup {x1} (h : DA X es t) : DE X (.Tuple es x1 pos) (dTup t) := by
  obtain ⟨te, p1, l1⟩ := h
  refine ⟨_, pe_tup p1, fun ρ σ H Q r h R k => l1 ρ σ H _ r h _ fun ds vs H1 s1 i1 ⟨hl, q1⟩ => ⟨?_, fun p hp => ?_⟩⟩
  · rw [← i1.length]; exact Nat.le_trans (Nat.le_of_ble_eq_true hl) (by decide)
  · have s := le_new hp (.tup vs)
    exact k _ _ _ (s1.trans s) (is_tup.mpr ⟨p, vs, rfl, upd_same, i1.mono s⟩) q1
theorem de_lst (h : DA X es t) : DE X (.List es pos) (dLst t) := by
  obtain ⟨te, p1, l1⟩ := h
  refine ⟨_, pe_lst p1, fun ρ σ H Q r h R k => l1 ρ σ H _ r h _ fun ds vs H1 s1 i1 ⟨hl, q1⟩ => ⟨?_, fun p hp => ?_⟩⟩
  · rw [← i1.length]; exact Nat.le_trans (Nat.le_of_ble_eq_true hl) (by decide)
  · have s := le_new hp (.lst vs)
    exact k _ _ _ (s1.trans s) (is_lst.mpr ⟨p, vs, rfl, upd_same, i1.mono s⟩) q1

def seqOf : Dt → Option (List Dt)
  | .tup ds => some ds
  | .lst ds => some ds
  | .scr ns => some (ns.map .int)
  | _ => none
theorem seq_is {H : Vw} {d : Dt} {v : V} {ds : List Dt} (h : Is K H.g d v) (e : seqOf d = some ds) : ∃ a xs, v = .ref a ∧ (SqL K H.h a xs ∨ SqT K H.h a xs) ∧ AllIs K H.g ds xs := by
  cases d with
  | tup es =>
    obtain rfl : es = ds := Option.some.inj e
    obtain ⟨a, xs, rfl, h1, h2⟩ := is_tup.mp h
    exact ⟨a, xs, rfl, .inr (.of (H.sub _ _ h1)), h2⟩
  | lst es =>
    obtain rfl : es = ds := Option.some.inj e
    obtain ⟨a, xs, rfl, h1, h2⟩ := is_lst.mp h
    exact ⟨a, xs, rfl, .inl (.of (H.sub _ _ h1)), h2⟩
  | scr ns =>
    obtain rfl : ns.map Dt.int = ds := Option.some.inj e
    obtain ⟨a, rfl, h1⟩ := is_scr.mp h
    exact ⟨a, _, rfl, .inl (H.sub.seq h1), AllIs.ints⟩
  | _ => cases e
def dIx (ta tb : DTE) : DTE := fun ρ Q => ta ρ fun d => tb ρ fun e => ∃ ds i d', seqOf d = some ds ∧ e = .int i ∧ atI ds i = some d' ∧ Q d'
theorem de_ix (ha : DE X a ta) (hb : DE X b tb) (hs : PlainIx b) : DE X (.Subscript a b pos) (dIx ta tb) := by
  obtain ⟨te, p1, l1⟩ := ha
  obtain ⟨tf, p2, l2⟩ := hb
  refine ⟨_, pe_ix ix_seq p1 p2 hs, fun ρ σ H Q r h R k => l1 ρ σ H _ r h _ fun d v H1 s1 i1 q1 => l2 ρ σ H1 _ (r.mono s1) q1 _ fun e u H2 s2 i2 q2 => ?_⟩
  obtain ⟨ds, i, d', e1, e2, e3, q⟩ := q2
  subst e2
  obtain ⟨p, xs, e4, h1, h2⟩ := seq_is (i1.mono s2) e1
  obtain ⟨w, e5, h3⟩ := h2.atI e3
  rcases h1 with h1 | h1
  · exact .inl ⟨p, xs, i, w, e4, is_int.mp i2, h1, e5, k d' w H2 (s1.trans s2) h3 q⟩
  · exact .inr (.inl ⟨p, xs, i, w, e4, is_int.mp i2, h1, e5, k d' w H2 (s1.trans s2) h3 q⟩)
def dLen (t : DTE) : DTE := fun ρ Q => t ρ fun d => ∃ ds, seqOf d = some ds ∧ Q (.int ds.length)
theorem de_len {p : Pos} (hg : Gl X "len") (hm : X.mg "len" = none) (ha : DE X a ta) (hs : starEach [a] X.env = (false, eval a X.env) :: starEach [] X.env := by rfl) (hpl : (backTo pos (starEach [] X.env)).any (·.1) = false := by rfl) :
    DE X (.Call (.Name "len" p) [a] [] pos) (dLen ta) := by
  obtain ⟨te, p1, l1⟩ := ha
  refine ⟨_, pe_callB call_len_seq hg hm PySem.boot_len (pa_cons p1 pa_nil hs) (by decide) (by decide) hs hpl, fun ρ σ H Q r h R k => l1 ρ σ H _ r h _ fun d v H1 s1 i1 ⟨ds, e, q⟩ => ?_⟩
  obtain ⟨a, xs, rfl, h1, h2⟩ := seq_is i1 e
  exact ⟨a, xs, rfl, h1, by rw [← h2.length]; exact k _ _ H1 s1 (is_int.mpr rfl) q⟩
def cutD (xs : List Dt) (lo hi : Option Int) : List Dt := (xs.drop (HT.sIx xs.length 0 lo)).take (HT.sIx xs.length xs.length hi - HT.sIx xs.length 0 lo)
theorem AllIs.cut {G : Hp} {ds : List Dt} {xs : List V} (h : AllIs K G ds xs) (lo hi : Option Int) : AllIs K G (cutD ds lo hi) (cutV xs lo hi) := by
  unfold cutD cutV
  rw [← h.length]
  exact (h.drop _).take _
abbrev DTO := DS → (Option Int → Prop) → Prop
def DO (X : Cx) (e : Option Expr) (t : DTO) : Prop := ∃ te, PO X e te ∧ ∀ {F : Hp} (ρ : DS) (σ : St) (H : Vw) (Q : Option Int → Prop), Rl X.K (Zx X) F H ρ σ → t ρ Q → ∀ R : Option Int → Hp → Prop, (∀ o H', Le H H' → Q o → R o H'.h) → te σ H.h R
def dNoPart : DTO := fun _ Q => Q none
def dPart (t : DTE) : DTO := fun ρ Q => t ρ fun d => ∃ i, d = .int i ∧ Q (some i)
theorem do_none : DO X none dNoPart := ⟨_, po_none, fun ρ σ H Q r h R k => k none H (Le.refl H) h⟩
theorem do_some (ha : DE X a ta) : DO X (some a) (dPart ta) := by
  obtain ⟨te, p1, l1⟩ := ha
  refine ⟨_, po_some p1, fun ρ σ H Q r h R k => l1 ρ σ H _ r h _ fun d v H1 s1 i1 ⟨i, e, q⟩ => ?_⟩
  subst e
  exact ⟨i, is_int.mp i1, k _ H1 s1 q⟩
def listOf : Dt → Option (List Dt)
  | .lst ds => some ds
  | .scr ns => some (ns.map .int)
  | _ => none
theorem list_is {H : Vw} {d : Dt} {v : V} {ds : List Dt} (h : Is K H.g d v) (e : listOf d = some ds) : ∃ a xs, v = .ref a ∧ SqL K H.h a xs ∧ AllIs K H.g ds xs := by
  cases d with
  | lst es =>
    obtain rfl : es = ds := Option.some.inj e
    obtain ⟨a, xs, rfl, h1, h2⟩ := is_lst.mp h
    exact ⟨a, xs, rfl, .of (H.sub _ _ h1), h2⟩
  | scr ns =>
    obtain rfl : ns.map Dt.int = ds := Option.some.inj e
    obtain ⟨a, rfl, h1⟩ := is_scr.mp h
    exact ⟨a, _, rfl, H.sub.seq h1, AllIs.ints⟩
  | _ => cases e
def dSl (te : DTE) (tl th : DTO) : DTE := fun ρ Q => te ρ fun d => tl ρ fun l => th ρ fun u => ∃ ds, listOf d = some ds ∧ Q (.lst (cutD ds l u))
theorem de_slice {lo hi : Option Expr} {tl th : DTO} {p2 : Pos} (ha : DE X a ta) (hl : DO X lo tl) (hu : DO X hi th) : DE X (.Subscript a (.Slice lo hi none p2) pos) (dSl ta tl th) := by
  obtain ⟨te, p1, l1⟩ := ha
  obtain ⟨tf, p2, l2⟩ := hl
  obtain ⟨tg, p3, l3⟩ := hu
  refine ⟨_, pe_slice sl_list p1 p2 p3, fun ρ σ H Q r h R k => l1 ρ σ H _ r h _ fun d v H1 s1 i1 q1 => l2 ρ σ H1 _ (r.mono s1) q1 _ fun l H2 s2 q2 => l3 ρ σ H2 _ (r.mono (s1.trans s2)) q2 _ fun u H3 s3 ⟨ds, e, q⟩ => ?_⟩
  obtain ⟨a, xs, rfl, h1, h2⟩ := list_is (i1.mono (s2.trans s3)) e
  refine ⟨a, xs, rfl, h1, fun p hp => ?_⟩
  have s := le_new hp (.lst (cutV xs l u))
  exact k _ _ _ (((s1.trans s2).trans s3).trans s) (is_lst.mpr ⟨p, _, rfl, upd_same, (h2.cut l u).mono s⟩) q
end

def LiF (K : PySem.W.Frag) (Z : Hp) (te : TE) (t : DTE) : Prop :=
  ∀ {F : Hp} (ρ : DS) (σ : St) (H : Vw) (Q : Dt → Prop), Rl K Z F H ρ σ → t ρ Q → ∀ R : VK,
    (∀ es p xs H', Le H H' → H.h p = none → H'.h p = some (.lst xs) → H'.g p = none → AllIs K H'.g es xs → Q (.lst es) → R (.ref p) H'.h) → te σ H.h R
def DF (X : Cx) (e : Expr) (t : DTE) : Prop := ∃ te, PE X e te ∧ LiF X.K (Zx X) te t
theorem le_frz {H H' : Vw} {p : Addr} {o : HO} (s : Le H H') (h0 : H.h p = none) (h1 : H'.h p = some o) (h2 : H'.g p = none) : Le H (H'.frz p o h1) :=
  ⟨s.g.trans (same_new h2 o), s.h, fun a z1 z2 => by
    have : a ≠ p := fun e => z1 (e ▸ h0)
    show upd H'.g p o a = none
    rw [upd_ne this]; exact s.n a z1 z2⟩
section
variable {X : Cx} {a b c e : Expr} {ta tb tc : DTE} {t : DTA} {pos p0 p1 p2 : Pos} {es : List Expr}
theorem DF.de {t : DTE} (h : DF X e t) : DE X e t := by
  obtain ⟨te, p, l⟩ := h
  exact ⟨te, p, fun ρ σ H Q r h R k => l ρ σ H Q r h R fun es q xs H' s h0 h1 h2 i z => k (.lst es) (.ref q) (H'.frz q _ h1) (le_frz s h0 h1 h2) (is_lst.mpr ⟨q, xs, rfl, upd_same, AllIs.mono0 (same_new h2 _) i⟩) z⟩
theorem df_lst (h : DA X es t) : DF X (.List es pos) (dLst t) := by
  obtain ⟨te, p1, l1⟩ := h
  refine ⟨_, pe_lst p1, fun ρ σ H Q r h R k => l1 ρ σ H _ r h _ fun ds vs H1 s1 i1 ⟨hl, q1⟩ => ⟨?_, fun p hp => ?_⟩⟩
  · rw [← i1.length]; exact Nat.le_trans (Nat.le_of_ble_eq_true hl) (by decide)
  · exact k ds p vs (H1.mine p (.lst vs) (H1.sub.free hp)) (s1.trans (le_mine hp _)) (s1.h.free hp) upd_same (H1.sub.free hp) i1 q1
theorem AllIs.rep {G : Hp} {ds : List Dt} {xs : List V} (h : AllIs K G ds xs) : ∀ k : Nat, AllIs K G (List.replicate k ds).flatten (List.replicate k xs).flatten
  | 0 => allIs_nil.mpr rfl
  | k + 1 => by
    rw [List.replicate_succ, List.replicate_succ, List.flatten_cons, List.flatten_cons]
    exact h.append (h.rep k)
def gRep : Dt → Dt → (Dt → Prop) → Prop := fun d e Q => ∃ ds k, d = .lst ds ∧ e = .int k ∧ -16000000 ≤ k ∧ k ≤ 16000000 ∧ ds.length * k.toNat ≤ 16000000 ∧ Q (.lst (List.replicate k.toNat ds).flatten)
theorem df_rep (ha : DE X a ta) (hb : DE X b tb) : DF X (.BinOp a .Mult b pos) (dOp gRep ta tb) := by
  obtain ⟨te, p1, l1⟩ := ha
  obtain ⟨tf, p2, l2⟩ := hb
  refine ⟨_, pe_op op_rep p1 p2, fun ρ σ H Q r h R k => l1 ρ σ H _ r h _ fun d v H1 s1 i1 q1 => l2 ρ σ H1 _ (r.mono s1) q1 _ fun e u H2 s2 i2 q2 => ?_⟩
  obtain ⟨ds, n, rfl, rfl, hn1, hn2, hl, q⟩ := q2
  obtain ⟨l, xs, rfl, h1, a1⟩ := is_lst.mp (i1.mono s2)
  refine ⟨l, n, xs, rfl, is_int.mp i2, H2.sub _ _ h1, by omega, by omega, by rw [← a1.length]; exact Nat.le_trans hl (by decide), fun p hp => ?_⟩
  exact k _ p _ (H2.mine p _ (H2.sub.free hp)) ((s1.trans s2).trans (le_mine hp _)) ((s1.trans s2).h.free hp) upd_same (H2.sub.free hp) (a1.rep _) q
variable {i : Nat} {x : Str}
open Classical in
def scalD : Dt → Bool
  | .non => true | .bl _ => true | .int _ => true | .str _ => true | _ => false
end

abbrev DSp := List Dt → (Dt → Prop) → Prop
def PureSp (K : PySem.W.Frag) (S : DSp) : Sp := fun vs H Q _ => ∃ (W : Vw) (ds : List Dt) (Qd : Dt → Prop), W.h = H ∧ AllIs K W.g ds vs ∧ S ds Qd ∧ ∀ d v W', Le W W' → Is K W'.g d v → Qd d → Q v W'.h
def FreshSp (K : PySem.W.Frag) (S : DSp) : Sp := fun vs H Q _ => ∃ (W : Vw) (ds : List Dt) (Qd : Dt → Prop), W.h = H ∧ AllIs K W.g ds vs ∧ S ds Qd ∧
  ∀ es p xs W', Le W W' → W.h p = none → W'.h p = some (.lst xs) → W'.g p = none → AllIs K W'.g es xs → Qd (.lst es) → Q (.ref p) W'.h
structure DOk (P : Program) (w : World) (K : PySem.W.Frag) (mg : Str → Option Value) (base : Heap) (n : Nat) (x : Str) (S : DSp) : Prop where
  ex : ∃ f fd ps, mg x = some (.ref f) ∧ PySem.W.keepIn K (.ref f) = true ∧ Binds K fd ps [] ∧ FnOk P w K mg base CX0 n f fd ps (PureSp K S)
structure FOk (P : Program) (w : World) (K : PySem.W.Frag) (mg : Str → Option Value) (base : Heap) (n : Nat) (x : Str) (S : DSp) : Prop where
  ex : ∃ f fd ps, mg x = some (.ref f) ∧ PySem.W.keepIn K (.ref f) = true ∧ Binds K fd ps [] ∧ FnOk P w K mg base CX0 n f fd ps (FreshSp K S)
structure MOk (P : Program) (w : World) (K : PySem.W.Frag) (mg : Str → Option Value) (base : Heap) (n : Nat) (C : Addr) (m : Str) (S : DSp) : Prop where
  cl : Cls K C
  ex : ∃ f fd ps, Meth K C m f ∧ Binds K fd ps [] ∧ FnOk P w K mg base CX0 n f fd ps (PureSp K S)
structure FMOk (P : Program) (w : World) (K : PySem.W.Frag) (mg : Str → Option Value) (base : Heap) (n : Nat) (C : Addr) (m : Str) (S : DSp) : Prop where
  cl : Cls K C
  ex : ∃ f fd ps, Meth K C m f ∧ Binds K fd ps [] ∧ FnOk P w K mg base CX0 n f fd ps (FreshSp K S)
section
variable {X : Cx} {a b c e o : Expr} {ta tb tc : DTE} {pos p apos : Pos} {es : List Expr} {t : DTA} {n : Nat} {x m : Str} {S : DSp}
def dCall (S : DSp) (t : DTA) : DTE := fun ρ Q => t ρ fun ds => S ds Q
theorem de_call (G : DOk X.prog X.w X.K X.mg X.base n x S) (hr : Room n X.A) (hg : Gl X x) (ha : DA X (e :: es) t) (hdb : (x == ("__debug__" : Str)) = false := by decide)
    (he : starEach (e :: es) X.env = (false, eval e X.env) :: starEach es X.env := by rfl) (hpl : (backTo pos (starEach es X.env)).any (·.1) = false := by rfl) : DE X (.Call (.Name x p) (e :: es) [] pos) (dCall S t) := by
  obtain ⟨f, fd, ps, hm, hk, hb, F⟩ := G.ex
  obtain ⟨te, p1, l1⟩ := ha
  refine ⟨_, pe_call F hr hg hm hk hb .nil pass0 p1 hdb he hpl, fun ρ σ H Q r h R k => l1 ρ σ H _ r h _ fun ds vs H1 s1 i1 q1 => ?_⟩
  rw [List.append_nil]
  exact ⟨H1, ds, Q, rfl, i1, q1, fun d v H2 s2 i2 q2 => k d v H2 (s1.trans s2) i2 q2⟩
def dFld (K : PySem.W.Frag) (f : Str) (ta : DTE) : DTE := fun ρ Q => ta ρ fun d => ∃ C g k, d = .way C g k ∧ (f == g) = true ∧ Cls K C ∧ NoAttr K C f ∧ Q (.int k)
theorem de_fld {f : Str} (ha : DE X a ta) (hb : attributeBase a f X.env (eval a X.env) = eval a X.env := by rfl) : DE X (.Attribute a f pos) (dFld X.K f ta) := by
  obtain ⟨te, p1, l1⟩ := ha
  refine ⟨_, pe_fld p1 hb, fun ρ σ H Q r h R k => l1 ρ σ H _ r h _ fun d v H1 s1 i1 ⟨C, g, z, ed, hfg, hc, hn, q1⟩ => ?_⟩
  subst ed
  obtain ⟨p, dx, rfl, hp⟩ := is_way.mp i1
  exact ⟨p, C, dx, _, .int z, rfl, H1.sub _ _ hp, hc, hn, by simp [List.lookup, hfg], k _ _ H1 s1 (is_int.mpr rfl) q1⟩
structure KitT (K : PySem.W.Frag) : Prop where
  ib : PySem.W.kitOne K (.type "int") (.type "bool") = some false
  it : PySem.W.kitOne K (.type "int") (.type "tuple") = some false
  il : PySem.W.kitOne K (.type "int") (.type "list") = some false
  bi : PySem.W.kitOne K (.type "bool") (.type "int") = some true
  bt : PySem.W.kitOne K (.type "bool") (.type "tuple") = some false
  bl : PySem.W.kitOne K (.type "bool") (.type "list") = some false
  ti : PySem.W.kitOne K (.type "tuple") (.type "int") = some false
  tb : PySem.W.kitOne K (.type "tuple") (.type "bool") = some false
  tl : PySem.W.kitOne K (.type "tuple") (.type "list") = some false
  li : PySem.W.kitOne K (.type "list") (.type "int") = some false
  lb : PySem.W.kitOne K (.type "list") (.type "bool") = some false
  lt : PySem.W.kitOne K (.type "list") (.type "tuple") = some false
theorem kit_same {K : PySem.W.Frag} {t : Value} : PySem.W.kitOne K t t = some true := by
  unfold PySem.W.kitOne
  rw [if_pos (beq_self_eq_true t)]
theorem kit_bb {K : PySem.W.Frag} {t c : String} {b : Bool} (h1 : (Value.type t == Value.type c) = false) (h2 : PySem.W.kitMeta c = true) (h3 : (fastBuiltinMro t).map (·.contains (Value.type c)) = some b) : PySem.W.kitOne K (.type t) (.type c) = some b := by
  unfold PySem.W.kitOne PySem.W.kitCls
  rw [if_neg (by rw [h1]; decide)]
  show (if PySem.W.kitMeta c = true then PySem.W.subIn K (.type t) (.type c) else none) = some b
  rw [if_pos h2]
  exact h3
theorem kitT (K : PySem.W.Frag) : KitT K := by
  constructor <;> exact kit_bb (by decide +kernel) (by decide +kernel) (by decide +kernel)
inductive TyN where | int | bool | tuple | list
def TyN.str : TyN → String
  | .int => "int" | .bool => "bool" | .tuple => "tuple" | .list => "list"
def isiD : Dt → TyN → Option Bool
  | .int _, .int => some true | .int _, .bool => some false | .int _, .tuple => some false | .int _, .list => some false
  | .bl _, .int => some true | .bl _, .bool => some true | .bl _, .tuple => some false | .bl _, .list => some false
  | .tup _, .int => some false | .tup _, .bool => some false | .tup _, .tuple => some true | .tup _, .list => some false
  | .lst _, .int => some false | .lst _, .bool => some false | .lst _, .tuple => some false | .lst _, .list => some true
  | _, _ => none
theorem isi_ty {H : Vw} {d : Dt} {v : V} {T : TyN} {b : Bool} (kt : KitT K) (h : Is K H.g d v) (e : isiD d T = some b) : ∃ tv, TyOf K H.h v tv ∧ PySem.W.kitOne K tv (.type T.str) = some b := by
  cases d with
  | int i =>
    obtain rfl := is_int.mp h
    refine ⟨_, .int i, ?_⟩
    cases T <;> (obtain rfl := Option.some.inj e; first | exact kit_same | exact kt.ib | exact kt.it | exact kt.il)
  | bl i =>
    obtain rfl := is_bl.mp h
    refine ⟨_, .bl i, ?_⟩
    cases T <;> (obtain rfl := Option.some.inj e; first | exact kit_same | exact kt.bi | exact kt.bt | exact kt.bl)
  | tup ds =>
    obtain ⟨a, xs, rfl, h1, _⟩ := is_tup.mp h
    refine ⟨_, .tup (H.sub _ _ h1), ?_⟩
    cases T <;> (obtain rfl := Option.some.inj e; first | exact kit_same | exact kt.ti | exact kt.tb | exact kt.tl)
  | lst ds =>
    obtain ⟨a, xs, rfl, h1, _⟩ := is_lst.mp h
    refine ⟨_, .lst (H.sub _ _ h1), ?_⟩
    cases T <;> (obtain rfl := Option.some.inj e; first | exact kit_same | exact kt.li | exact kt.lb | exact kt.lt)
  | _ => cases T <;> cases e
theorem call_isi : CallR X (.builtin "isinstance") (fun xs H Q => ∃ v T tv b, xs = [v, .ty T] ∧ TyOf X.K H v tv ∧ PySem.W.kitOne X.K tv (.type T) = some b ∧ Q (.bl b) H) := by
  intro pins s σ H xs us Q I r h
  obtain ⟨v, T, tv, b, rfl, hty, hk, q⟩ := h
  cases r with
  | cons r1 r2 =>
    cases r2 with
    | cons r3 r4 =>
      cases r4
      cases r3
      exact isinst_ok I r1 hty hk fun tk => ⟨.bl b, H, I.tok _, rfl, q⟩
def dIsi (T : TyN) (ta : DTE) : DTE := fun ρ Q => ta ρ fun d => ∃ b, isiD d T = some b ∧ Q (.bl b)
theorem de_isi {T : TyN} {y : Str} {p' : Pos} (kt : KitT X.K) (hm : X.mg "isinstance" = none) (hmc : X.mg y = none) (hv : bootBuiltins y = some (.type T.str)) (ha : DE X a ta)
    (hg : Gl X "isinstance" := by rfl) (hgc : Gl X y := by rfl) (hny : y ≠ "__name__" := by decide) (hdy : (y == ("__debug__" : Str)) = false := by decide)
    (hs : starEach [a, .Name y p'] X.env = (false, eval a X.env) :: starEach [.Name y p'] X.env := by rfl) (hs2 : starEach [.Name y p'] X.env = (false, eval (.Name y p') X.env) :: starEach [] X.env := by rfl)
    (hpl : (backTo pos (starEach [.Name y p'] X.env)).any (·.1) = false := by rfl) :
    DE X (.Call (.Name "isinstance" p) [a, .Name y p'] [] pos) (dIsi T ta) := by
  obtain ⟨te, p1, l1⟩ := ha
  have pc : PE X (.Name y p') (tC (.ty T.str)) := pe_bltn hgc hmc hv rfl hny hdy
  refine ⟨_, pe_callB call_isi hg hm boot_isinstance (pa_cons p1 (pa_cons pc pa_nil hs2) hs) (by decide) (by decide) hs hpl, fun ρ σ H Q r h R k => l1 ρ σ H _ r h _ fun d v H1 s1 i1 ⟨b, e, q⟩ => ?_⟩
  obtain ⟨tv, h1, h2⟩ := isi_ty kt i1 e
  exact ⟨v, T.str, tv, b, rfl, h1, h2, k _ _ H1 s1 (is_bl.mpr rfl) q⟩
end

structure DEnds where
  nx : DS → Prop
  rt : Dt → Prop
  bk : DS → Prop := fun _ => False
  ct : DS → Prop := fun _ => False
abbrev DTS := DEnds → DS → Prop
structure At (K : PySem.W.Frag) (Z : Hp) (W0 : Vw) (G : Hp) (W : Vw) (ρ : DS) (σ : St) : Prop where
  le : Le W0 W
  gs : Same G W.g
  rl : Rl K Z W0.h W ρ σ
inductive Fr where | d | l | t (a b : Bool)
def NewL (K : PySem.W.Frag) (F : Hp) (W : Vw) (d : Dt) (v : V) : Prop := ∃ es p xs, d = .lst es ∧ v = .ref p ∧ F p = none ∧ W.h p = some (.lst xs) ∧ W.g p = none ∧ AllIs K W.g es xs
def Prt (K : PySem.W.Frag) (F : Hp) (W : Vw) (b : Bool) (d : Dt) (v : V) : Prop := match b with
  | false => Is K W.g d v
  | true => NewL K F W d v ∨ scalD d = true ∧ Is K W.g d v
def Tld (K : PySem.W.Frag) (F : Hp) (W : Vw) : Fr → Dt → V → Prop
  | .d, d, v => Is K W.g d v
  | .l, d, v => NewL K F W d v
  | .t a b, d, v => ∃ d1 d2 q u1 u2, d = .tup [d1, d2] ∧ v = .ref q ∧ W.g q = some (.tup [u1, u2]) ∧ Prt K F W a d1 u1 ∧ Prt K F W b d2 u2 ∧ (∀ es fs, a = true → b = true → d1 = .lst es → d2 = .lst fs → u1 ≠ u2)
structure Sim (K : PySem.W.Frag) (Z : Hp) (fr : Fr) (W0 : Vw) (G : Hp) (D : DEnds) (D' : Ends) : Prop where
  nx : ∀ ρ σ W', At K Z W0 G W' ρ σ → D.nx ρ → D'.nx σ W'.h
  tl : ∀ d v W', Le W0 W' → Tld K W0.h W' fr d v → D.rt d → D'.rt v W'.h
  bk : ∀ ρ σ W', At K Z W0 G W' ρ σ → D.bk ρ → D'.bk σ W'.h
  ct : ∀ ρ σ W', At K Z W0 G W' ρ σ → D.ct ρ → D'.ct σ W'.h
theorem NewL.le {F G : Hp} {W : Vw} {d : Dt} {v : V} (h : NewL K F W d v) (z : ∀ p, F p = none → G p = none) : NewL K G W d v :=
  let ⟨es, p, xs, h1, h2, h3, h4⟩ := h; ⟨es, p, xs, h1, h2, z p h3, h4⟩
section
variable {W0 : Vw} {G G' : Hp} {ρ : DS} {σ : St} {fr : Fr}
theorem At.step (a : At K Z W0 G W ρ σ) (s : Le W W') : At K Z W0 G W' ρ σ := ⟨a.le.trans s, a.gs.trans s.g, a.rl.mono s⟩
theorem At.set (a : At K Z W0 G W ρ σ) {d : Dt} {v : V} (i : Nat) (h : Is K W.g d v) : At K Z W0 G W (ρ.set i (.some d)) (σ.set i (some v)) := ⟨a.le, a.gs, a.rl.set i h⟩
theorem At.weak (a : At K Z W0 G W ρ σ) (s : Same G' G) : At K Z W0 G' W ρ σ := ⟨a.le, s.trans a.gs, a.rl⟩
theorem At.own (a : At K Z W0 G W ρ σ) (s : Le W W') {p : Addr} {xs : List V} {ds : List Dt} (i : Nat) (h0 : W.h p = none) (h1 : W'.h p = some (.lst xs)) (h2 : W'.g p = none) (h3 : AllIs K W'.g ds xs) :
    At K Z W0 G W' (ρ.set i (.own ds)) (σ.set i (some (.ref p))) := ⟨a.le.trans s, a.gs.trans s.g, a.rl.own s i h0 h1 h2 h3⟩
theorem At.put (at_ : At K Z W0 G W ρ σ) {i : Nat} {ds es : List Dt} {a : Addr} {ys : List V} (hi : ρ[i]? = some (.own ds)) (ha : σ[i]? = some (some (.ref a))) (hg : W.g a = none) (hF : W0.h a = none) (h3 : AllIs K W.g es ys) :
    At K Z W0 G (W.mine a (.lst ys) hg) (ρ.set i (.own es)) σ :=
  ⟨⟨at_.le.g, fun b o q => by
      have : b ≠ a := fun e => by rw [e, hF] at q; cases q
      show upd W.h a _ b = some o
      rw [upd_ne this]; exact at_.le.h _ _ q, at_.le.n⟩, at_.gs, at_.rl.put hi ha hg hF h3⟩
theorem At.frz (at_ : At K Z W0 G W ρ σ) {i : Nat} {ds : List Dt} {a : Addr} {xs : List V} (hi : ρ[i]? = some (.own ds)) (ha : σ[i]? = some (some (.ref a))) (hh : W.h a = some (.lst xs)) (hg : W.g a = none) (hF : W0.h a = none) (h3 : AllIs K W.g ds xs) :
    At K Z W0 G (W.frz a _ hh) (ρ.set i (.some (.lst ds))) σ :=
  ⟨le_frz at_.le hF hh hg, at_.gs.trans (same_new hg _), at_.rl.frz hi ha hh hg h3⟩
theorem Sim.weak {D : DEnds} {D' : Ends} (h : Sim K Z fr W0 G' D D') (s : Same G' G) : Sim K Z fr W0 G D D' :=
  ⟨fun ρ σ W' a => h.nx ρ σ W' (a.weak s), h.tl, fun ρ σ W' a => h.bk ρ σ W' (a.weak s), fun ρ σ W' a => h.ct ρ σ W' (a.weak s)⟩
end
def LiS (K : PySem.W.Frag) (Z : Hp) (fr : Fr) (ts : TS) (t : DTS) : Prop := ∀ (W0 : Vw) (G : Hp) (ρ : DS) (σ : St) (W : Vw) (D : DEnds) (D' : Ends), At K Z W0 G W ρ σ → Sim K Z fr W0 G D D' → t D ρ → ts D' σ W.h
def DSt (X : Cx) (fr : Fr) (st : Stmt) (t : DTS) : Prop := ∃ ts, PS X st ts ∧ LiS X.K (Zx X) fr ts t
def DSs (X : Cx) (fr : Fr) (sts : List Stmt) (t : DTS) : Prop := ∃ ts, PSs X sts ts ∧ LiS X.K (Zx X) fr ts t
def dNext : DTS := fun D ρ => D.nx ρ
def dSeq (t u : DTS) : DTS := fun D ρ => t { D with nx := u D } ρ
def dRet (te : DTE) : DTS := fun D ρ => te ρ D.rt
def dSet (i : Nat) (te : DTE) : DTS := fun D ρ => te ρ fun d => D.nx (ρ.set i (.some d))
def dSetO (i : Nat) (te : DTE) : DTS := fun D ρ => te ρ fun d => ∃ ds, d = .lst ds ∧ D.nx (ρ.set i (.own ds))
def dIfS (c : DTT) (t u : DTS) : DTS := fun D ρ => c ρ fun b => if b = true then t D ρ else u D ρ
def dNever : DTS := fun _ _ => False
def dForR2 (j : Nat) (ta : DTA) (tb : DTS) : DTS := fun D ρ => ta ρ fun ds => ∃ (m n : Int) (Pv : Nat → DS → Prop), ds = [.int m, .int n] ∧ -(2 ^ 62) ≤ m ∧ m < 2 ^ 62 ∧ -(2 ^ 62) ≤ n ∧ n < 2 ^ 62 ∧ Pv 0 ρ ∧
  (∀ (i : Nat) ρ', i < (n - m).toNat → Pv i ρ' → tb { D with nx := Pv (i + 1), ct := Pv (i + 1), bk := D.nx } (ρ'.set j (.some (.int (m + i))))) ∧ ∀ ρ', Pv (n - m).toNat ρ' → D.nx ρ'
def dWhile (c : DTT) (tb : DTS) : DTS := fun D ρ => ∃ Pv : Nat → DS → Prop, (∃ m, Pv m ρ) ∧ ∀ m ρ', Pv m ρ' →
  c ρ' fun b => if b = true then tb { D with nx := fun ρ2 => ∃ m', m' < m ∧ Pv m' ρ2, ct := fun ρ2 => ∃ m', m' < m ∧ Pv m' ρ2, bk := D.nx } ρ' else D.nx ρ'
section
variable {X : Cx} {fr : Fr} {st : Stmt} {rest : List Stmt} {t u : DTS} {e : Expr} {te : DTE} {pos p0 p1 p2 : Pos}
theorem dss_nil : DSs X fr [] dNext := ⟨_, pss_nil, fun W0 G ρ σ W D D' a s h => s.nx ρ σ W a h⟩
theorem dss_cons (h1 : DSt X fr st t) (h2 : DSs X fr rest u) : DSs X fr (st :: rest) (dSeq t u) := by
  obtain ⟨ts, p1, l1⟩ := h1
  obtain ⟨us, p2, l2⟩ := h2
  exact ⟨_, pss_cons p1 p2, fun W0 G ρ σ W D D' a s h => l1 W0 G ρ σ W { D with nx := u D } { D' with nx := us D' } a ⟨fun ρ' σ' W' a' q => l2 W0 G ρ' σ' W' D D' a' s q, s.tl, s.bk, s.ct⟩ h⟩
theorem dss_one (h : DSt X fr st t) : DSs X fr [st] t := let ⟨_, p, l⟩ := h; ⟨_, pss_one p, l⟩
def dFrz (i : Nat) (t : DTS) : DTS := fun D ρ => ∃ ds, ρ[i]? = some (.own ds) ∧ t D (ρ.set i (.some (.lst ds)))
theorem dss_frz (i : Nat) (h : DSs X fr rest t) : DSs X fr rest (dFrz i t) := by
  obtain ⟨ts, p, l⟩ := h
  refine ⟨ts, p, fun W0 G ρ σ W D D' a s h => ?_⟩
  obtain ⟨ds, e, q⟩ := h
  obtain ⟨b, xs, e1, e2, e3, e4, e5⟩ := a.rl.ow i ds e
  exact l W0 G _ σ (W.frz b _ e2) D D' (a.frz e e1 e2 e3 e4 e5) s q
theorem ds_ret (h : DE X e te) : DSt X .d (.Return (some e) pos) (dRet te) := by
  obtain ⟨tt, p, l⟩ := h
  exact ⟨_, ps_ret p, fun W0 G ρ σ W D D' a s h => l ρ σ W _ a.rl h _ fun d v W1 s1 i1 q1 => s.tl d v W1 (a.le.trans s1) i1 q1⟩
theorem ds_set {i : Nat} {x : Str} {pos' : Pos} (hN : X.N.Nodup) (hi : X.N[i]? = some x) (hx : Loc X.env.scope x) (h : DE X e te) (hs : swapsWith e (some (.Name x pos')) pos.line X.env = pure false := by rfl) (hf : X.fn x = true ∨ X.env.scope.names.lookup x = some .local := by first | exact .inl rfl | exact .inr rfl | assumption) :
    DSt X fr (.Assign [.Name x pos'] e pos) (dSet i te) := by
  obtain ⟨tt, p, l⟩ := h
  exact ⟨_, ps_set hN hi hx p hs hf, fun W0 G ρ σ W D D' a s h => l ρ σ W _ a.rl h _ fun d v W1 s1 i1 q1 => s.nx _ _ W1 ((a.step s1).set i i1) q1⟩
theorem ds_setO {i : Nat} {x : Str} {pos' : Pos} (hN : X.N.Nodup) (hi : X.N[i]? = some x) (hx : Loc X.env.scope x) (h : DF X e te) (hs : swapsWith e (some (.Name x pos')) pos.line X.env = pure false := by rfl) (hf : X.fn x = true ∨ X.env.scope.names.lookup x = some .local := by first | exact .inl rfl | exact .inr rfl | assumption) :
    DSt X fr (.Assign [.Name x pos'] e pos) (dSetO i te) := by
  obtain ⟨tt, p, l⟩ := h
  refine ⟨_, ps_set hN hi hx p hs hf, fun W0 G ρ σ W D D' a s h => l ρ σ W _ a.rl h _ fun es q xs W1 s1 h0 h1 h2 i1 ⟨ds, ed, q1⟩ => ?_⟩
  cases ed
  exact s.nx _ _ W1 (a.own s1 i h0 h1 h2 i1) q1
theorem ds_if {c : Expr} {a b : List Stmt} {tc : DTT} (hc : DT X c tc) (ha : DSs X fr a t) (hb : DSs X fr b u) : DSt X fr (.If c a b pos) (dIfS tc t u) := by
  obtain ⟨t0, p0, l0⟩ := hc
  obtain ⟨t1, p1, l1⟩ := ha
  obtain ⟨t2, p2, l2⟩ := hb
  refine ⟨_, ps_if p0 p1 p2, fun W0 G ρ σ W D D' a s h => l0 ρ σ W _ a.rl h _ fun k W1 s1 q1 => ?_⟩
  cases k with
  | true => exact l1 W0 G ρ σ W1 D D' (a.step s1) s q1
  | false => exact l2 W0 G ρ σ W1 D D' (a.step s1) s q1
theorem ds_never : DSt X fr st dNever := ⟨_, ps_never, fun _ _ _ _ _ _ _ _ _ h => h.elim⟩
def InL (K : PySem.W.Frag) (Z : Hp) (W0 W1 : Vw) (Pv : DS → Prop) (σ : St) (H : Hp) : Prop := ∃ (ρ : DS) (W : Vw), W.h = H ∧ At K Z W0 W1.g W ρ σ ∧ Pv ρ
theorem sim_loop {K : PySem.W.Frag} {W0 W1 : Vw} {G : Hp} {D : DEnds} {D' : Ends} {Pv : DS → Prop} (s : Sim K Z fr W0 G D D') (hg : Same G W1.g) :
    Sim K Z fr W0 W1.g { D with nx := Pv, ct := Pv, bk := D.nx } { D' with nx := InL K Z W0 W1 Pv, ct := InL K Z W0 W1 Pv, bk := D'.nx } :=
  ⟨fun ρ3 σ3 W3 a3 q3 => ⟨ρ3, W3, rfl, a3, q3⟩, s.tl, fun ρ3 σ3 W3 a3 q3 => s.nx ρ3 σ3 W3 (a3.weak hg) q3, fun ρ3 σ3 W3 a3 q3 => ⟨ρ3, W3, rfl, a3, q3⟩⟩
theorem At.now {K : PySem.W.Frag} {W0 : Vw} {G : Hp} {W : Vw} {ρ : DS} {σ : St} (a : At K Z W0 G W ρ σ) : At K Z W0 W.g W ρ σ := ⟨a.le, Same.refl _, a.rl⟩
theorem ds_while {c : Expr} {body : List Stmt} {tc : DTT} {tb : DTS} (hp : PassesOwn (model X.prog X.w) X.A X.env X.xe) (hc : DT X c tc) (hb : DSs X fr body tb) : DSt X fr (.While c body [] pos) (dWhile tc tb) := by
  obtain ⟨t0, p0, l0⟩ := hc
  obtain ⟨tbs, p2, l2⟩ := hb
  refine ⟨_, ps_while hp p0 p2, fun W0 G ρ σ W D D' at_ s h => ?_⟩
  obtain ⟨Pv, ⟨m0, h0⟩, ht⟩ := h
  refine ⟨fun m => InL X.K (Zx X) W0 W (Pv m), ⟨m0, ρ, W, rfl, at_.now, h0⟩, ?_⟩
  rintro m σ' _ ⟨ρ', W2, rfl, a2, hp2⟩
  refine l0 ρ' σ' W2 _ a2.rl (ht m ρ' hp2) _ fun b W3 s3 q3 => ?_
  have a3 := a2.step s3
  cases b with
  | true =>
    refine ⟨InL X.K (Zx X) W0 W (fun ρ2 => ∃ m', m' < m ∧ Pv m' ρ2), fun σ4 H4 ⟨ρ4, W4, e4, a4, m', hm, p4⟩ => ⟨m', hm, ρ4, W4, e4, a4, p4⟩, ?_⟩
    exact l2 W0 W.g _ _ W3 { D with nx := fun ρ2 => ∃ m', m' < m ∧ Pv m' ρ2, ct := fun ρ2 => ∃ m', m' < m ∧ Pv m' ρ2, bk := D.nx } _ a3 (sim_loop s at_.gs) q3
  | false => exact s.nx ρ' σ' W3 (a3.weak at_.gs) q3

variable {i : Nat} {x : Str}
def dApp (i : Nat) (te : DTE) : DTS := fun D ρ => ∃ ds, ρ[i]? = some (.own ds) ∧ te ρ fun d => ds.length ≤ 100000 ∧ D.nx (ρ.set i (.own (ds ++ [d])))
theorem ds_app (i : Nat) (h : DE X e te) (hN : X.N[i]? = some x := by rfl) (hv : Vis X.env.scope x := by first | exact Or.inl rfl | exact Or.inr (Or.inl rfl) | exact Or.inr (Or.inr rfl)) (hd : (x == ("__debug__" : Str)) = false := by decide)
    (hcd : (x == ("__classdict__" : Str)) = false := by decide) (hst : starEach [e] X.env = (false, eval e X.env) :: starEach [] X.env := by rfl) (hpl : (backTo p2 (starEach [] X.env)).any (·.1) = false := by rfl)
    (hfew : ((backTo p2 (starEach [e] X.env)).all (fun x => !x.1) && (backToKw p2 (keywordEach [] X.env)).all (fun x => x.1.isSome)
      && decide ([e].length + ([] : List Keyword).length + (if ([] : List Keyword).isEmpty then 0 else 1) < 30)) = true := by rfl)
    (hbase : attributeBase (.Name x p0) "append" X.env (eval (.Name x p0) X.env) = eval (.Name x p0) X.env := by rfl) (hline : (p1.endLine == p2.line) = true := by rfl)
    (hs : swapsWith (.Call (.Attribute (.Name x p0) "append" p1) [e] [] p2) none pos.line X.env = pure false := by rfl) :
    DSt X fr (.Expr (.Call (.Attribute (.Name x p0) "append" p1) [e] [] p2) pos) (dApp i te) := by
  obtain ⟨tt, p, l⟩ := h
  refine ⟨_, ps_expr (pe_bm PySem.F.plainAttrs_list PySem.F.slot_list_append PySem.F.type_list_append mt_append (pe_var hN hv hd hcd) (pa_cons p pa_nil hst) hbase hfew hline hst hpl) hs, fun W0 G ρ σ W D D' at_ s h => ?_⟩
  obtain ⟨ds, ei, h⟩ := h
  obtain ⟨b, xs, e1, e2, e3, e4, e5⟩ := at_.rl.ow i ds ei
  refine ⟨.ref b, e1, .inl ⟨rfl, xs, .of e2⟩, l ρ σ W _ at_.rl h _ fun d v W1 s1 i1 ⟨hl, q1⟩ => ?_⟩
  have a1 := at_.step s1
  have hg1 : W1.g b = none := s1.n b (by rw [e2]; intro z; cases z) e3
  refine ⟨b, xs, v, rfl, rfl, s1.h _ _ e2, by rw [← e5.length]; exact Nat.lt_of_le_of_lt hl (by decide), ?_⟩
  exact s.nx _ _ _ (a1.put ei e1 hg1 e4 ((e5.mono s1).append (allIs_cons.mpr ⟨v, [], rfl, i1, allIs_nil.mpr rfl⟩))) q1
theorem AllIs.dropLast {G : Hp} {ds : List Dt} {xs : List V} (h : AllIs K G ds xs) : AllIs K G ds.dropLast xs.dropLast := by
  rw [List.dropLast_eq_take, List.dropLast_eq_take, h.length]
  exact h.take _
theorem AllIs.reverse {G : Hp} : ∀ {ds : List Dt} {xs : List V}, AllIs K G ds xs → AllIs K G ds.reverse xs.reverse
  | [], _, h => by rw [allIs_nil.mp h]; exact allIs_nil.mpr rfl
  | d :: ds, _, h => by
    obtain ⟨x, r, rfl, h1, h2⟩ := allIs_cons.mp h
    rw [List.reverse_cons, List.reverse_cons]
    exact (AllIs.reverse h2).append (allIs_cons.mpr ⟨x, [], rfl, h1, allIs_nil.mpr rfl⟩)
theorem AllIs.set {G : Hp} : ∀ {ds : List Dt} {xs : List V} {d : Dt} {v : V} (j : Nat), AllIs K G ds xs → Is K G d v → AllIs K G (ds.set j d) (xs.set j v)
  | [], _, _, _, _, h, _ => by rw [allIs_nil.mp h]; exact allIs_nil.mpr rfl
  | d :: ds, _, _, _, 0, h, i => by
    obtain ⟨x, r, rfl, h1, h2⟩ := allIs_cons.mp h
    exact allIs_cons.mpr ⟨_, _, rfl, i, h2⟩
  | d :: ds, _, _, _, j + 1, h, i => by
    obtain ⟨x, r, rfl, h1, h2⟩ := allIs_cons.mp h
    exact allIs_cons.mpr ⟨_, _, rfl, h1, AllIs.set j h2 i⟩
def dRev (i : Nat) : DTS := fun D ρ => ∃ ds, ρ[i]? = some (.own ds) ∧ D.nx (ρ.set i (.own ds.reverse))
theorem ds_rev (i : Nat) (hN : X.N[i]? = some x := by rfl) (hv : Vis X.env.scope x := by first | exact Or.inl rfl | exact Or.inr (Or.inl rfl) | exact Or.inr (Or.inr rfl)) (hd : (x == ("__debug__" : Str)) = false := by decide)
    (hcd : (x == ("__classdict__" : Str)) = false := by decide)
    (hbase : attributeBase (.Name x p0) "reverse" X.env (eval (.Name x p0) X.env) = eval (.Name x p0) X.env := by rfl) (hline : (p1.endLine == p2.line) = true := by rfl)
    (hs : swapsWith (.Call (.Attribute (.Name x p0) "reverse" p1) [] [] p2) none pos.line X.env = pure false := by rfl) :
    DSt X fr (.Expr (.Call (.Attribute (.Name x p0) "reverse" p1) [] [] p2) pos) (dRev i) := by
  refine ⟨_, ps_expr (pe_bm0 PySem.F.plainAttrs_list PySem.F.slot_list_reverse PySem.F.type_list_reverse mt_reverse (pe_var hN hv hd hcd) hbase hline) hs, fun W0 G ρ σ W D D' at_ s h => ?_⟩
  obtain ⟨ds, ei, q1⟩ := h
  obtain ⟨b, xs, e1, e2, e3, e4, e5⟩ := at_.rl.ow i ds ei
  exact ⟨.ref b, e1, .inl ⟨rfl, xs, .of e2⟩, b, xs, rfl, rfl, e2, s.nx _ _ _ (at_.put ei e1 e3 e4 e5.reverse) q1⟩
end

section
variable {P : Program} {w : World} {K : PySem.W.Frag} {mg : Str → Option Value} {base : Heap}
theorem at_start {W : Vw} {N : List Str} {ds : List Dt} {vs : List V} (ia : AllIs K W.g ds vs) (hz : Z = W.h) : At K Z W W.g W (dstart N.length ds) (start N vs) := ⟨Le.refl W, Same.refl _, Rl.start ia (hz ▸ Same.refl _)⟩
theorem okD {x qual : Str} {st : Stmt} {f : Addr} {fd : FuncData} {N ps : List Str} {k : Nat} {S : DSp} (F : Fun K x qual st f fd) (sc : FnScope N ps (defScope st)) (len : ∀ ds Q, S ds Q → ds.length = ps.length)
    (hbody : ∀ (cdv : Value) (A : Around) (outer : List Env) (s : Shared) (H : Hp) (E : XK), Room k (A.deeper (envOfC qual (defScope st) s.heap.objs.size f cdv)) → ∀ (ds : List Dt) (Q : Dt → Prop), S ds Q →
      ∃ t, DSs (cxOf CX0 P w K mg base N qual (defScope st) f cdv A outer s H E).nox .d (defBody st) t ∧ t { nx := fun _ => Q .non, rt := Q } (dstart N.length ds)) : FnOk P w K mg base CX0 (k + 1) f fd ps (PureSp K S) := by
  refine F.ok sc (fun vs H Q E h => ?_) (fun cdv A outer s H vs Q E hr h => ?_)
  · obtain ⟨W, ds, Qd, _, ia, hS, _⟩ := h
    rw [← ia.length]
    exact len ds Qd hS
  obtain ⟨W, ds, Qd, rfl, ia, hS, kk⟩ := h
  obtain ⟨t, ⟨ts, p, l⟩, ht⟩ := hbody cdv A outer s W.h E hr ds Qd hS
  refine ⟨ts, p, l W W.g (dstart N.length ds) (start N vs) W { nx := fun _ => Qd .non, rt := Qd } _ (at_start ia (zx_stk (Nat.succ_ne_self _))) ⟨fun ρ σ W' a q => kk .non .non W' a.le (is_non.mpr rfl) q, fun d v W' s' i' q => kk d v W' s' i' q, fun _ _ _ _ q => q.elim, fun _ _ _ _ q => q.elim⟩ ht⟩
theorem DOk.mk' {x qual : Str} {st : Stmt} {f : Addr} {fd : FuncData} {ps : List Str} {n : Nat} {S : DSp} (F : Fun K x qual st f fd) (hm : mg x = some (.ref f)) (hb : Binds K fd ps []) (h : FnOk P w K mg base CX0 n f fd ps (PureSp K S)) : DOk P w K mg base n x S :=
  ⟨f, fd, ps, hm, F.kp, hb, h⟩
theorem FOk.mk' {x qual : Str} {st : Stmt} {f : Addr} {fd : FuncData} {ps : List Str} {n : Nat} {S : DSp} (F : Fun K x qual st f fd) (hm : mg x = some (.ref f)) (hb : Binds K fd ps []) (h : FnOk P w K mg base CX0 n f fd ps (FreshSp K S)) : FOk P w K mg base n x S :=
  ⟨f, fd, ps, hm, F.kp, hb, h⟩
theorem DOk.mono {x : Str} {m n : Nat} {S : DSp} (h : DOk P w K mg base m x S) (hl : m ≤ n) : DOk P w K mg base n x S :=
  let ⟨f, fd, ps, h1, h2, h3, h4⟩ := h.ex; ⟨f, fd, ps, h1, h2, h3, h4.mono hl⟩
theorem FOk.mono {x : Str} {m n : Nat} {S : DSp} (h : FOk P w K mg base m x S) (hl : m ≤ n) : FOk P w K mg base n x S :=
  let ⟨f, fd, ps, h1, h2, h3, h4⟩ := h.ex; ⟨f, fd, ps, h1, h2, h3, h4.mono hl⟩
theorem MOk.mono {C : Addr} {x : Str} {m n : Nat} {S : DSp} (h : MOk P w K mg base m C x S) (hl : m ≤ n) : MOk P w K mg base n C x S :=
  ⟨h.cl, let ⟨f, fd, ps, h1, h3, h4⟩ := h.ex; ⟨f, fd, ps, h1, h3, h4.mono hl⟩⟩
theorem FMOk.mono {C : Addr} {x : Str} {m n : Nat} {S : DSp} (h : FMOk P w K mg base m C x S) (hl : m ≤ n) : FMOk P w K mg base n C x S :=
  ⟨h.cl, let ⟨f, fd, ps, h1, h3, h4⟩ := h.ex; ⟨f, fd, ps, h1, h3, h4.mono hl⟩⟩
end
end OD

namespace OD
open PySem PySem.Spec PyProof.Rows L2
mutual
/-- Python's == of data -/
def eqD : Dt → Dt → Bool
  | .non, .non => true
  | .bl a, .bl b => a == b
  | .bl a, .int b => (if a then (1 : Int) else 0) == b
  | .int a, .bl b => a == (if b then (1 : Int) else 0)
  | .int a, .int b => a == b
  | .str a, .str b => a == b
  | .tup ds, .tup es => eqDs ds es
  | .lst ds, .lst es => eqDs ds es
  | _, _ => false
def eqDs : List Dt → List Dt → Bool
  | [], [] => true
  | d :: ds, e :: es => eqD d e && eqDs ds es
  | _, _ => false
end
def okE : Nat → Dt → Bool
  | _, .non => true
  | _, .bl _ => true
  | _, .int _ => true
  | _, .str _ => true
  | n + 1, .tup ds => ds.all (okE n)
  | n + 1, .lst ds => ds.all (okE n)
  | _, _ => false
theorem eqD_int (a b : Int) : eqD (.int a) (.int b) = (a == b) := by unfold eqD; rfl
theorem eqD_bl (a b : Bool) : eqD (.bl a) (.bl b) = (a == b) := by unfold eqD; rfl
theorem eqD_str (a b : Str) : eqD (.str a) (.str b) = (a == b) := by unfold eqD; rfl
theorem eqD_tup (ds es : List Dt) : eqD (.tup ds) (.tup es) = eqDs ds es := by rw [eqD]
theorem eqD_lst (ds es : List Dt) : eqD (.lst ds) (.lst es) = eqDs ds es := by rw [eqD]
theorem eqDs_nil : eqDs [] [] = true := by unfold eqDs; rfl
theorem eqDs_cons (d e : Dt) (ds es : List Dt) : eqDs (d :: ds) (e :: es) = (eqD d e && eqDs ds es) := by rw [eqDs]
theorem eqDs_nil_cons (e : Dt) (es : List Dt) : eqDs [] (e :: es) = false := by unfold eqDs; rfl
theorem eqDs_cons_nil (e : Dt) (es : List Dt) : eqDs (e :: es) [] = false := by unfold eqDs; rfl
theorem eqDs_range : ∀ ds es : List Dt, (((List.range (min ds.length es.length)).all fun j => eqD (ds.getD j .non) (es.getD j .non)) && (ds.length == es.length)) = eqDs ds es
  | [], [] => by rw [eqDs_nil]; rfl
  | [], e :: es => by
    rw [eqDs_nil_cons]
    have h : ((([] : List Dt).length == (e :: es).length)) = false := by simp
    rw [h, Bool.and_false]
  | d :: ds, [] => by
    rw [eqDs_cons_nil]
    have h : (((d :: ds).length == ([] : List Dt).length)) = false := by simp
    rw [h, Bool.and_false]
  | d :: ds, e :: es => by
    have ih := eqDs_range ds es
    rw [eqDs_cons, ← ih]
    have hm : min (d :: ds).length (e :: es).length = min ds.length es.length + 1 := by
      rw [List.length_cons, List.length_cons]; omega
    rw [hm, List.range_succ_eq_map, List.all_cons, List.all_map, Bool.and_assoc]
    have hl : ((d :: ds).length == (e :: es).length) = (ds.length == es.length) := by
      rw [List.length_cons, List.length_cons]
      rw [Bool.eq_iff_iff, beq_iff_eq, beq_iff_eq]
      omega
    rw [hl]
    rfl
theorem eqDs_lens {ds es : List Dt} (h : ds.length ≠ es.length) : eqDs ds es = false := by
  rw [← eqDs_range ds es]
  have h : (ds.length == es.length) = false := beq_eq_false_iff_ne.mpr h
  rw [h, Bool.and_false]
theorem eqDs_all {ds es : List Dt} (h : ds.length = es.length) : ((List.range ds.length).all fun j => eqD (ds.getD j .non) (es.getD j .non)) = eqDs ds es := by
  rw [← eqDs_range ds es]
  have h' : (ds.length == es.length) = true := beq_iff_eq.mpr h
  rw [h', Bool.and_true, ← h, Nat.min_self]
theorem eqDs_self : ∀ {ds : List Dt}, (∀ d ∈ ds, eqD d d = true) → eqDs ds ds = true
  | [], _ => eqDs_nil
  | d :: ds, h => by
    rw [eqDs_cons, h d List.mem_cons_self, eqDs_self fun e he => h e (List.mem_cons_of_mem _ he)]
    rfl
theorem eqD_self : ∀ (n : Nat) {d : Dt}, okE n d = true → eqD d d = true := by
  intro n
  induction n with
  | zero =>
    intro d h
    cases d with
    | non => unfold eqD; rfl
    | bl b => rw [eqD_bl]; exact beq_self_eq_true _
    | int b => rw [eqD_int]; exact beq_self_eq_true _
    | str b => rw [eqD_str]; exact beq_self_eq_true _
    | _ => simp [okE] at h
  | succ n ih =>
    intro d h
    cases d with
    | non => unfold eqD; rfl
    | bl b => rw [eqD_bl]; exact beq_self_eq_true _
    | int b => rw [eqD_int]; exact beq_self_eq_true _
    | str b => rw [eqD_str]; exact beq_self_eq_true _
    | tup ds =>
      rw [eqD_tup]
      have h' : ∀ d ∈ ds, okE n d = true := by simpa [okE] using h
      exact eqDs_self fun d hd => ih (h' d hd)
    | lst ds =>
      rw [eqD_lst]
      have h' : ∀ d ∈ ds, okE n d = true := by simpa [okE] using h
      exact eqDs_self fun d hd => ih (h' d hd)
    | _ => simp [okE] at h
example : eqD (.int ((2 : Nat) : Int)) (.int 2) = true := by rfl
section
variable {X : Cx} {pins : List (Addr × Obj)} {σ : St} {K : PySem.W.Frag} {H : Hp} {s : Shared}
theorem eqs_of : ∀ {ds es : List Dt} {xs : List V}, (∀ d e v, d ∈ ds → e ∈ es → Is K H d v → Is K H e v → eqD d e = true) → AllIs K H ds xs → AllIs K H es xs → eqDs ds es = true
  | [], es, xs, ih, i1, i2 => by
    obtain rfl := allIs_nil.mp i1
    cases es with
    | nil => exact eqDs_nil
    | cons e es => obtain ⟨_, _, z, _⟩ := allIs_cons.mp i2; cases z
  | d :: ds, es, xs, ih, i1, i2 => by
    obtain ⟨x, r, rfl, j1, j2⟩ := allIs_cons.mp i1
    cases es with
    | nil => cases allIs_nil.mp i2
    | cons e es =>
      obtain ⟨y, r', z, k1, k2⟩ := allIs_cons.mp i2
      cases z
      rw [eqDs_cons, ih d e x List.mem_cons_self List.mem_cons_self j1 k1, eqs_of (fun d' e' v' hd he => ih d' e' v' (List.mem_cons_of_mem _ hd) (List.mem_cons_of_mem _ he)) j2 k2]
      rfl
def flatD : Dt → Bool
  | .non => true
  | .bl _ => true
  | .int _ => true
  | .str _ => true
  | _ => false
def vD : Dt → V
  | .bl b => .bl b
  | .int i => .int i
  | .str x => .str x
  | _ => .non
theorem is_flat {d : Dt} {v : V} (h : flatD d = true) (i : Is K H d v) : v = vD d := by
  cases d <;> first | exact is_non.mp i | exact is_bl.mp i | exact is_int.mp i | exact is_str.mp i | cases h
theorem flat_V {d : Dt} (h : flatD d = true) : flatV (vD d) = true := by cases d <;> first | rfl | cases h
theorem flat_ref {d : Dt} {a : Addr} (h : flatD d = true) (e : vD d = .ref a) : False := by cases d <;> first | cases e | cases h
theorem eqV_self {v : V} (h : flatV v = true) : eqV v v = true := by cases v <;> first | rfl | exact beq_self_eq_true _ | cases h
theorem eqD_flat {d e : Dt} (h1 : flatD d = true) (h2 : flatD e = true) : eqD d e = eqV (vD d) (vD e) := by cases d <;> first | exact absurd h1 Bool.false_ne_true | (cases e <;> first | exact absurd h2 Bool.false_ne_true | rfl)
theorem eqD_ft {d : Dt} {es : List Dt} (h : flatD d = true) : eqD d (.tup es) = false ∧ eqD (.tup es) d = false ∧ eqD d (.lst es) = false ∧ eqD (.lst es) d = false := by
  cases d <;> first | exact ⟨rfl, rfl, rfl, rfl⟩ | cases h
theorem shape {n : Nat} {d : Dt} (h : okE n d = true) : flatD d = true ∨ ∃ m ds, n = m + 1 ∧ (d = .tup ds ∨ d = .lst ds) ∧ ∀ d ∈ ds, okE m d = true := by
  cases d with
  | non => exact .inl rfl
  | bl b => exact .inl rfl
  | int b => exact .inl rfl
  | str b => exact .inl rfl
  | tup ds =>
    cases n with
    | zero => simp [okE] at h
    | succ m => exact .inr ⟨m, ds, rfl, .inl rfl, by simpa [okE] using h⟩
  | lst ds =>
    cases n with
    | zero => simp [okE] at h
    | succ m => exact .inr ⟨m, ds, rfl, .inr rfl, by simpa [okE] using h⟩
  | _ => cases n <;> simp [okE] at h
theorem eq_same : ∀ (n : Nat) {d e : Dt} {v : V}, okE n d = true → okE n e = true → Is K H d v → Is K H e v → eqD d e = true := by
  intro n
  induction n with
  | zero =>
    intro d e v h1 h2 i1 i2
    rcases shape h1 with f1 | ⟨m, ds, z, _⟩
    · rcases shape h2 with f2 | ⟨m, ds, z, _⟩
      · rw [eqD_flat f1 f2, ← is_flat f1 i1, ← is_flat f2 i2]
        exact eqV_self (by rw [is_flat f1 i1]; exact flat_V f1)
      · cases z
    · cases z
  | succ n ih =>
    intro d e v h1 h2 i1 i2
    rcases shape h1 with f1 | ⟨m, ds, z, hk, hd⟩
    · rcases shape h2 with f2 | ⟨m, es, z, hk, he⟩
      · rw [eqD_flat f1 f2, ← is_flat f1 i1, ← is_flat f2 i2]
        exact eqV_self (by rw [is_flat f1 i1]; exact flat_V f1)
      · obtain rfl := is_flat f1 i1
        rcases hk with rfl | rfl
        · obtain ⟨_, _, e, _⟩ := is_tup.mp i2; exact (flat_ref f1 e).elim
        · obtain ⟨_, _, e, _⟩ := is_lst.mp i2; exact (flat_ref f1 e).elim
    · cases z
      rcases shape h2 with f2 | ⟨m, es, z, hk2, he⟩
      · obtain rfl := is_flat f2 i2
        rcases hk with rfl | rfl
        · obtain ⟨_, _, e, _⟩ := is_tup.mp i1; exact (flat_ref f2 e).elim
        · obtain ⟨_, _, e, _⟩ := is_lst.mp i1; exact (flat_ref f2 e).elim
      · cases z
        rcases hk with rfl | rfl
        · obtain ⟨a, xs, rfl, hx, ha⟩ := is_tup.mp i1
          rcases hk2 with rfl | rfl
          · obtain ⟨b, ys, eb, hy, hb⟩ := is_tup.mp i2
            cases eb
            rw [hx] at hy
            cases hy
            rw [eqD_tup]
            exact eqs_of (fun d e v q1 q2 => ih (hd d q1) (he e q2)) ha hb
          · obtain ⟨b, ys, eb, hy, hb⟩ := is_lst.mp i2
            cases eb
            rw [hx] at hy
            cases hy
        · obtain ⟨a, xs, rfl, hx, ha⟩ := is_lst.mp i1
          rcases hk2 with rfl | rfl
          · obtain ⟨b, ys, eb, hy, hb⟩ := is_tup.mp i2
            cases eb
            rw [hx] at hy
            cases hy
          · obtain ⟨b, ys, eb, hy, hb⟩ := is_lst.mp i2
            cases eb
            rw [hx] at hy
            cases hy
            rw [eqD_lst]
            exact eqs_of (fun d e v q1 q2 => ih (hd d q1) (he e q2)) ha hb
section
variable {A : Around}
open SeqAt
theorem flat_tupE {d : Dt} {v : Value} {b : Addr} {its : Array Value} (f : flatD d = true) (q : RelV (vD d) v) (t : s.heap.IsTuple b its) (hA : A.units < cLine) :
    (EqAt A s v (.ref b) false ∧ EqAt A s (.ref b) v false) ∧ (RcAt A s v (.ref b) false ∧ RcNeAt A s v (.ref b) true) ∧ RcAt A s (.ref b) v false ∧ RcNeAt A s (.ref b) v true := by
  cases d with
  | non => cases q; exact ⟨⟨.none_tuple t hA, .tuple_none t hA⟩, ⟨.none_tuple t hA, .none_tuple t hA⟩, .tuple_none t hA, .tuple_none t hA⟩
  | bl a => cases q; exact ⟨⟨.bool_tuple a t hA, .tuple_bool a t hA⟩, ⟨.bool_tuple a t hA, .bool_tuple a t hA⟩, .tuple_bool a t hA, .tuple_bool a t hA⟩
  | int a => obtain ⟨u, rfl⟩ := q; exact ⟨⟨.int_tuple a u t hA, .tuple_int a u t hA⟩, ⟨.int_tuple a u t hA, .int_tuple a u t hA⟩, .tuple_int a u t hA, .tuple_int a u t hA⟩
  | str a => obtain ⟨u, rfl⟩ := q; exact ⟨⟨.str_tuple a u t hA, .tuple_str a u t hA⟩, ⟨.str_tuple a u t hA, .str_tuple a u t hA⟩, .tuple_str a u t hA, .tuple_str a u t hA⟩
  | _ => cases f
theorem flat_lstE {d : Dt} {v : Value} {b : Addr} {its : Array Value} (f : flatD d = true) (q : RelV (vD d) v) (t : s.heap.IsList b its) (hA : A.units < cLine) :
    (EqAt A s v (.ref b) false ∧ EqAt A s (.ref b) v false) ∧ (RcAt A s v (.ref b) false ∧ RcNeAt A s v (.ref b) true) ∧ RcAt A s (.ref b) v false ∧ RcNeAt A s (.ref b) v true := by
  cases d with
  | non => cases q; exact ⟨⟨.none_list t hA, .list_none t hA⟩, ⟨.none_list t hA, .none_list t hA⟩, .list_none t hA, .list_none t hA⟩
  | bl a => cases q; exact ⟨⟨.bool_list a t hA, .list_bool a t hA⟩, ⟨.bool_list a t hA, .bool_list a t hA⟩, .list_bool a t hA, .list_bool a t hA⟩
  | int a => obtain ⟨u, rfl⟩ := q; exact ⟨⟨.int_list a u t hA, .list_int a u t hA⟩, ⟨.int_list a u t hA, .int_list a u t hA⟩, .list_int a u t hA, .list_int a u t hA⟩
  | str a => obtain ⟨u, rfl⟩ := q; exact ⟨⟨.str_list a u t hA, .list_str a u t hA⟩, ⟨.str_list a u t hA, .str_list a u t hA⟩, .list_str a u t hA, .list_str a u t hA⟩
  | _ => cases f
theorem flat_rc {d e : Dt} {v u : Value} (f1 : flatD d = true) (f2 : flatD e = true) (q1 : RelV (vD d) v) (q2 : RelV (vD e) u) : RcAt A s v u (eqD d e) ∧ RcNeAt A s v u (!eqD d e) := by
  cases d with
  | non =>
    cases q1
    cases e with
    | non => cases q2; exact ⟨.none_none, .none_none⟩
    | bl b => cases q2; exact ⟨.none_bool b, .none_bool b⟩
    | int b => obtain ⟨t, rfl⟩ := q2; exact ⟨.none_int b t, .none_int b t⟩
    | str b => obtain ⟨t, rfl⟩ := q2; exact ⟨.none_str b t, .none_str b t⟩
    | _ => cases f2
  | bl a =>
    cases q1
    cases e with
    | non => cases q2; exact ⟨.bool_none a, .bool_none a⟩
    | bl b => cases q2; exact ⟨.bool_bool a b, .bool_bool a b⟩
    | int b => obtain ⟨t, rfl⟩ := q2; exact ⟨.bool_int a b t, .bool_int a b t⟩
    | str b => obtain ⟨t, rfl⟩ := q2; exact ⟨.bool_str a b t, .bool_str a b t⟩
    | _ => cases f2
  | int a =>
    obtain ⟨ta, rfl⟩ := q1
    cases e with
    | non => cases q2; exact ⟨.int_none a ta, .int_none a ta⟩
    | bl b => cases q2; exact ⟨.int_bool a ta b, .int_bool a ta b⟩
    | int b => obtain ⟨t, rfl⟩ := q2; exact ⟨.int_int a ta b t, .int_int a ta b t⟩
    | str b => obtain ⟨t, rfl⟩ := q2; exact ⟨.int_str a ta b t, .int_str a ta b t⟩
    | _ => cases f2
  | str a =>
    obtain ⟨ta, rfl⟩ := q1
    cases e with
    | non => cases q2; exact ⟨.str_none a ta, .str_none a ta⟩
    | bl b => cases q2; exact ⟨.str_bool a ta b, .str_bool a ta b⟩
    | int b => obtain ⟨t, rfl⟩ := q2; exact ⟨.str_int a ta b t, .str_int a ta b t⟩
    | str b => obtain ⟨t, rfl⟩ := q2; exact ⟨.str_str a ta b t, .str_str a ta b t⟩
    | _ => cases f2
  | _ => cases f1
end
theorem items_eq {n : Nat} {A : Around} {ds es : List Dt} {xs ys : List V} {its its2 : List Value}
    (ih : ∀ {d e : Dt} {x y : V} {v u : Value}, okE n d = true → okE n e = true → Is K H d x → Is K H e y → RelV x v → RelV y u → SeqAt.EqAt A s v u (eqD d e))
    (hd : ∀ d ∈ ds, okE n d = true) (he : ∀ d ∈ es, okE n d = true) (a1 : AllIs K H ds xs) (a2 : AllIs K H es ys) (r1 : Vals xs its) (r2 : Vals ys its2) :
    ∀ j (h1 : j < its.toArray.size) (h2 : j < its2.toArray.size), SeqAt.EqAt A s its.toArray[j] its2.toArray[j] (eqD (ds.getD j .non) (es.getD j .non)) := by
  intro j h1 h2
  have l1 := a1.length.trans r1.length
  have l2 := a2.length.trans r2.length
  rw [List.size_toArray] at h1 h2
  have g1 : ds[j]? = some ds[j] := List.getElem?_eq_getElem (by omega)
  have g2 : es[j]? = some es[j] := List.getElem?_eq_getElem (by omega)
  obtain ⟨x, e1, i1⟩ := a1.get g1
  obtain ⟨y, e2, i2⟩ := a2.get g2
  obtain ⟨v, e3, q1⟩ := r1.get e1
  obtain ⟨u, e4, q2⟩ := r2.get e2
  have f1 : ds.getD j .non = ds[j] := by rw [List.getD_eq_getElem?_getD, g1]; rfl
  have f2 : es.getD j .non = es[j] := by rw [List.getD_eq_getElem?_getD, g2]; rfl
  have f3 : its.toArray[j] = v := by
    have z : its[j]? = some its[j] := List.getElem?_eq_getElem h1
    rw [z] at e3
    simpa using Option.some.inj e3
  have f4 : its2.toArray[j] = u := by
    have z : its2[j]? = some its2[j] := List.getElem?_eq_getElem h2
    rw [z] at e4
    simpa using Option.some.inj e4
  rw [f1, f2, f3, f4]
  exact ih (hd _ (List.mem_of_getElem? g1)) (he _ (List.mem_of_getElem? g2)) i1 i2 q1 q2
theorem eq_at (I : Inv X pins σ H s) : ∀ (n : Nat) {A : Around} {d e : Dt} {x y : V} {v u : Value}, A.units + n < cLine → okE n d = true → okE n e = true → Is X.K H d x → Is X.K H e y → RelV x v → RelV y u → SeqAt.EqAt A s v u (eqD d e) := by
  intro n
  induction n with
  | zero =>
    intro A d e x y v u hu h1 h2 i1 i2 q1 q2
    rcases shape h1 with f1 | ⟨m, ds, z, _⟩
    · rcases shape h2 with f2 | ⟨m, ds, z, _⟩
      · rw [eqD_flat f1 f2]
        rw [is_flat f1 i1] at q1
        rw [is_flat f2 i2] at q2
        exact eqAt_V q1 q2 (flat_V f1) (flat_V f2)
      · cases z
    · cases z
  | succ n ih =>
    intro A d e x y v u hu h1 h2 i1 i2 q1 q2
    have hA : A.units < cLine := by omega
    have hu' : A.in1.units + n < cLine := by show A.units + 1 + n < cLine; omega
    rcases shape h1 with f1 | ⟨m, ds, z, hk, hd⟩
    · rw [is_flat f1 i1] at q1
      rcases shape h2 with f2 | ⟨m, es, z, rfl | rfl, he⟩
      · rw [eqD_flat f1 f2]
        rw [is_flat f2 i2] at q2
        exact eqAt_V q1 q2 (flat_V f1) (flat_V f2)
      · obtain ⟨b, ys, rfl, hy, hb⟩ := is_tup.mp i2
        obtain ⟨its2, r2, t2, _⟩ := I.tuple (.of hy)
        cases q2
        rw [(eqD_ft f1).1]
        exact (flat_tupE f1 q1 t2 hA).1.1
      · obtain ⟨b, ys, rfl, hy, hb⟩ := is_lst.mp i2
        obtain ⟨its2, r2, t2, _⟩ := I.list (.of hy)
        cases q2
        rw [(eqD_ft f1).2.2.1]
        exact (flat_lstE f1 q1 t2.isList hA).1.1
    · cases z
      rcases hk with rfl | rfl
      · obtain ⟨a, xs, rfl, hx, ha⟩ := is_tup.mp i1
        obtain ⟨its, r1, t1, _⟩ := I.tuple (.of hx)
        cases q1
        rcases shape h2 with f2 | ⟨m, es, z, rfl | rfl, he⟩
        · rw [is_flat f2 i2] at q2
          rw [(eqD_ft f2).2.1]
          exact (flat_tupE f2 q2 t1 hA).1.2
        · cases z
          have i2' := i2
          obtain ⟨b, ys, rfl, hy, hb⟩ := is_tup.mp i2
          obtain ⟨its2, r2, t2, _⟩ := I.tuple (.of hy)
          cases q2
          by_cases hab : a = b
          · subst hab
            rw [eq_same _ h1 h2 i1 i2']
            exact SeqAt.EqAt.same _
          · have q := SeqAt.RcAt.tuples t1 t2 hA (items_eq (fun {d e x y v u} => ih (A := A.in1) hu') hd he ha hb r1 r2)
            rw [List.size_toArray, List.size_toArray, ← r1.length, ← r2.length, ← ha.length, ← hb.length, eqDs_range] at q
            rw [eqD_tup]
            exact .of_refs hab q
        · obtain ⟨b, ys, rfl, hy, hb⟩ := is_lst.mp i2
          obtain ⟨its2, r2, t2, _⟩ := I.list (.of hy)
          cases q2
          exact SeqAt.EqAt.tuple_list t1 t2.isList hA
      · obtain ⟨a, xs, rfl, hx, ha⟩ := is_lst.mp i1
        obtain ⟨its, r1, t1, _⟩ := I.list (.of hx)
        cases q1
        rcases shape h2 with f2 | ⟨m, es, z, rfl | rfl, he⟩
        · rw [is_flat f2 i2] at q2
          rw [(eqD_ft f2).2.2.2]
          exact (flat_lstE f2 q2 t1.isList hA).1.2
        · obtain ⟨b, ys, rfl, hy, hb⟩ := is_tup.mp i2
          obtain ⟨its2, r2, t2, _⟩ := I.tuple (.of hy)
          cases q2
          exact SeqAt.EqAt.list_tuple t1.isList t2 hA
        · cases z
          have i2' := i2
          obtain ⟨b, ys, rfl, hy, hb⟩ := is_lst.mp i2
          obtain ⟨its2, r2, t2, _⟩ := I.list (.of hy)
          cases q2
          by_cases hab : a = b
          · subst hab
            rw [eq_same _ h1 h2 i1 i2']
            exact SeqAt.EqAt.same _
          · rw [eqD_lst]
            have l1 := ha.length.trans r1.length
            have l2 := hb.length.trans r2.length
            by_cases hl : ds.length = es.length
            · have q := SeqAt.RcAt.lists t1.isList t2.isList (by rw [List.size_toArray, List.size_toArray]; omega) hA (items_eq (fun {d e x y v u} => ih (A := A.in1) hu') hd he ha hb r1 r2)
              rw [List.size_toArray, ← l1, eqDs_all hl] at q
              exact .of_refs hab q
            · have q := SeqAt.RcAt.lists_lengths t1.isList t2.isList (by rw [List.size_toArray, List.size_toArray, bne_iff_ne]; omega) hA
              rw [eqDs_lens hl]
              exact .of_refs hab q
theorem rc_at (I : Inv X pins σ H s) {n : Nat} {A : Around} {d e : Dt} {x y : V} {v u : Value} (hu : A.units + (n + 1) < cLine) (h1 : okE (n + 1) d = true) (h2 : okE (n + 1) e = true) (i1 : Is X.K H d x) (i2 : Is X.K H e y) (q1 : RelV x v) (q2 : RelV y u) :
    SeqAt.RcAt A s v u (eqD d e) ∧ SeqAt.RcNeAt A s v u (!eqD d e) := by
  have hA : A.units < cLine := by omega
  have hu' : A.in1.units + n < cLine := by show A.units + 1 + n < cLine; omega
  have ih := fun {d e : Dt} {x y : V} {v u : Value} => eq_at I n (A := A.in1) (d := d) (e := e) (x := x) (y := y) (v := v) (u := u) hu'
  rcases shape h1 with f1 | ⟨m, ds, z, hk, hd⟩
  · rw [is_flat f1 i1] at q1
    rcases shape h2 with f2 | ⟨m, es, z, rfl | rfl, he⟩
    · rw [is_flat f2 i2] at q2
      exact flat_rc f1 f2 q1 q2
    · obtain ⟨b, ys, rfl, hy, hb⟩ := is_tup.mp i2
      obtain ⟨its2, r2, t2, _⟩ := I.tuple (.of hy)
      cases q2
      rw [(eqD_ft f1).1]
      exact (flat_tupE f1 q1 t2 hA).2.1
    · obtain ⟨b, ys, rfl, hy, hb⟩ := is_lst.mp i2
      obtain ⟨its2, r2, t2, _⟩ := I.list (.of hy)
      cases q2
      rw [(eqD_ft f1).2.2.1]
      exact (flat_lstE f1 q1 t2.isList hA).2.1
  · cases z
    rcases hk with rfl | rfl
    · obtain ⟨a, xs, rfl, hx, ha⟩ := is_tup.mp i1
      obtain ⟨its, r1, t1, _⟩ := I.tuple (.of hx)
      cases q1
      rcases shape h2 with f2 | ⟨m, es, z, rfl | rfl, he⟩
      · rw [is_flat f2 i2] at q2
        rw [(eqD_ft f2).2.1]
        exact (flat_tupE f2 q2 t1 hA).2.2
      · cases z
        obtain ⟨b, ys, rfl, hy, hb⟩ := is_tup.mp i2
        obtain ⟨its2, r2, t2, _⟩ := I.tuple (.of hy)
        cases q2
        have it := items_eq (A := A.in1) ih hd he ha hb r1 r2
        have q := SeqAt.RcAt.tuples t1 t2 hA it
        have q' := SeqAt.RcNeAt.tuples t1 t2 hA it
        rw [List.size_toArray, List.size_toArray, ← r1.length, ← r2.length, ← ha.length, ← hb.length, eqDs_range] at q q'
        rw [eqD_tup]
        exact ⟨q, q'⟩
      · obtain ⟨b, ys, rfl, hy, hb⟩ := is_lst.mp i2
        obtain ⟨its2, r2, t2, _⟩ := I.list (.of hy)
        cases q2
        exact ⟨SeqAt.RcAt.tuple_list t1 t2.isList hA, SeqAt.RcNeAt.tuple_list t1 t2.isList hA⟩
    · obtain ⟨a, xs, rfl, hx, ha⟩ := is_lst.mp i1
      obtain ⟨its, r1, t1, _⟩ := I.list (.of hx)
      cases q1
      rcases shape h2 with f2 | ⟨m, es, z, rfl | rfl, he⟩
      · rw [is_flat f2 i2] at q2
        rw [(eqD_ft f2).2.2.2]
        exact (flat_lstE f2 q2 t1.isList hA).2.2
      · obtain ⟨b, ys, rfl, hy, hb⟩ := is_tup.mp i2
        obtain ⟨its2, r2, t2, _⟩ := I.tuple (.of hy)
        cases q2
        exact ⟨SeqAt.RcAt.list_tuple t1.isList t2 hA, SeqAt.RcNeAt.list_tuple t1.isList t2 hA⟩
      · cases z
        obtain ⟨b, ys, rfl, hy, hb⟩ := is_lst.mp i2
        obtain ⟨its2, r2, t2, _⟩ := I.list (.of hy)
        cases q2
        rw [eqD_lst]
        have l1 := ha.length.trans r1.length
        have l2 := hb.length.trans r2.length
        by_cases hl : ds.length = es.length
        · have it := items_eq (A := A.in1) ih hd he ha hb r1 r2
          have q := SeqAt.RcAt.lists t1.isList t2.isList (by rw [List.size_toArray, List.size_toArray]; omega) hA it
          have q' := SeqAt.RcNeAt.lists t1.isList t2.isList (by rw [List.size_toArray, List.size_toArray]; omega) hA it
          rw [List.size_toArray, ← l1, eqDs_all hl] at q q'
          exact ⟨q, q'⟩
        · have q := SeqAt.RcAt.lists_lengths t1.isList t2.isList (by rw [List.size_toArray, List.size_toArray, bne_iff_ne]; omega) hA
          have q' := SeqAt.RcNeAt.lists_lengths t1.isList t2.isList (by rw [List.size_toArray, List.size_toArray, bne_iff_ne]; omega) hA
          rw [eqDs_lens hl]
          exact ⟨q, q'⟩
def gEq : Dt → Dt → (Dt → Prop) → Prop := fun d e Q => okE 40 d = true ∧ okE 40 e = true ∧ Q (.bl (eqD d e))
def gNe : Dt → Dt → (Dt → Prop) → Prop := fun d e Q => okE 40 d = true ∧ okE 40 e = true ∧ Q (.bl (!eqD d e))
theorem o_eq {k : Nat} (hr : Room k X.A) : DOp X (compareOp .Eq) gEq := by
  refine ⟨fun x y H Q => ∃ d e, Is X.K H d x ∧ Is X.K H e y ∧ okE 40 d = true ∧ okE 40 e = true ∧ Q (.bl (eqD d e)) H, fun pins s σ H x y v u Q I rx ry h => ?_, fun H x y d e Q i1 i2 q R k => ⟨d, e, Is.mono0 H.sub i1, Is.mono0 H.sub i2, q.1, q.2.1, k _ _ H (Le.refl H) (is_bl.mpr rfl) q.2.2⟩⟩
  obtain ⟨d, e, i1, i2, h1, h2, q⟩ := h
  have hu := hr.units
  exact (rc_at (n := 39) I (A := X.A) (by omega) h1 h2 i1 i2 rx ry).1 _ _ _ _ ⟨.bl _, H, I, rfl, q⟩
theorem o_ne {k : Nat} (hr : Room k X.A) : DOp X (compareOp .NotEq) gNe := by
  refine ⟨fun x y H Q => ∃ d e, Is X.K H d x ∧ Is X.K H e y ∧ okE 40 d = true ∧ okE 40 e = true ∧ Q (.bl (!eqD d e)) H, fun pins s σ H x y v u Q I rx ry h => ?_, fun H x y d e Q i1 i2 q R k => ⟨d, e, Is.mono0 H.sub i1, Is.mono0 H.sub i2, q.1, q.2.1, k _ _ H (Le.refl H) (is_bl.mpr rfl) q.2.2⟩⟩
  obtain ⟨d, e, i1, i2, h1, h2, q⟩ := h
  have hu := hr.units
  exact (rc_at (n := 39) I (A := X.A) (by omega) h1 h2 i1 i2 rx ry).2 _ _ _ _ ⟨.bl _, H, I, rfl, q⟩
end
end OD

namespace OD
open PySem PySem.Spec PyProof.Rows L2
section
variable {X : Cx} {pins : List (Addr × Obj)} {σ : St} {H : Hp} {s : Shared} {scope : Scope} {x : Str} {fp : List Addr}
end
end OD

namespace OD
variable {Z : Hp}
open PySem PySem.Spec PyProof.Rows L2
section
variable {X : Cx} {pins : List (Addr × Obj)} {σ : St} {H : Hp} {s : Shared} {h' : Heap}
end
section
variable {X : Cx}
end

section
variable {X : Cx} {fr : Fr} {ta : DTA} {tb : DTS} {pos : Pos}
theorem list_g {K : PySem.W.Frag} {W1 : Vw} {d : Dt} {v : V} {ds : List Dt} (i1 : Is K W1.g d v) (el : listOf d = some ds) : ∃ a xs, v = .ref a ∧ (∀ W2 : Vw, Same W1.g W2.g → SqL K W2.h a xs) ∧ AllIs K W1.g ds xs := by
  cases d with
  | lst es =>
    obtain rfl : es = ds := Option.some.inj el
    obtain ⟨a, xs, rfl, h1, h2⟩ := is_lst.mp i1
    exact ⟨a, xs, rfl, fun W2 s2 => .of (W2.sub _ _ (s2 _ _ h1)), h2⟩
  | scr ns =>
    obtain rfl : ns.map Dt.int = ds := Option.some.inj el
    obtain ⟨a, rfl, h1⟩ := is_scr.mp i1
    exact ⟨a, _, rfl, fun W2 s2 => W2.sub.seq (s2.seq h1), AllIs.ints⟩
  | _ => cases el
def liftE (K : PySem.W.Frag) (t : DTE) : TE := fun σ H R => ∃ (F : Hp) (ρ : DS) (W : Vw) (Q : Dt → Prop), W.h = H ∧ Rl K (fun _ => none) F W ρ σ ∧ t ρ Q ∧ ∀ d v W', Le W W' → Is K W'.g d v → Q d → R v W'.h
theorem DE.up {e : Expr} {t : DTE} (h : DE X e t) (hz : X.stack.length = X.outer.length := by rfl) : PE X e (liftE X.K t) := by
  obtain ⟨te, p, l⟩ := h
  intro pins s σ H R I q
  obtain ⟨F, ρ, W, Q, rfl, r, h, k⟩ := q
  have r' : Rl X.K (Zx X) F W ρ σ := by unfold Zx; rw [if_pos (Or.inl hz)]; exact r
  exact p pins s σ W.h R I (l ρ σ W Q r' h R k)
theorem li_lift {K : PySem.W.Frag} {t : DTE} : LiE K (fun _ => none) (liftE K t) t := fun ρ σ H Q r h R k => ⟨_, ρ, H, Q, rfl, r, h, k⟩
theorem LiF.le {K : PySem.W.Frag} {te : TE} {t : DTE} (l : LiF K Z te t) : LiE K Z te t := fun ρ σ H Q r h R k => l ρ σ H Q r h R fun es q xs H' s h0 h1 h2 i z => k (.lst es) (.ref q) (H'.frz q _ h1) (le_frz s h0 h1 h2) (is_lst.mpr ⟨q, xs, rfl, upd_same, AllIs.mono0 (same_new h2 _) i⟩) z
variable {scope : Scope} {x : Str} {elt iter : Expr} {px : Pos} {tl te : DTE}
end
end OD

namespace OD
variable {Z : Hp}
open PySem PySem.Spec PyProof.Rows L2
section
variable {X : Cx}
end
section
variable {X : Cx} {fr : Fr} {ta : DTA} {tb : DTS} {pos p0 p1 p2 : Pos}
theorem ds_forR2 {j : Nat} {x : Str} {a b : Expr} {body : List Stmt} {px p0 pos1 : Pos} (hc : X.calm = true) (hN : X.N.Nodup) (hi : X.N[j]? = some x) (hx : Loc X.env.scope x) (hp : PassesOwn (model X.prog X.w) X.A X.env X.xe)
    (hg : Gl X "range") (hm : X.mg "range" = none) (h : DA X [a, b] ta) (hb : DSs X fr body tb) (hs : ∀ x, foldedSetIterable (.Call (.Name "range" p0) [a, b] [] pos1) X.env x = pure x := by intro _; rfl)
    (hst : starEach [a, b] X.env = [(false, eval a X.env), (false, eval b X.env)] := by rfl) (hst2 : starEach [b] X.env = [(false, eval b X.env)] := by rfl)
    (hf : X.fn x = true ∨ X.env.scope.names.lookup x = some .local := by first | exact .inl rfl | exact .inr rfl | assumption) : DSt X fr (.For (.Name x px) (.Call (.Name "range" p0) [a, b] [] pos1) body [] pos) (dForR2 j ta tb) := by
  obtain ⟨tt, p, l⟩ := h
  obtain ⟨tbs, p2, l2⟩ := hb
  refine ⟨_, ps_for hp hc (pi_range2 hg hm p hst hst2) (pg_name hN hi hx hf) p2 hs, fun W0 G ρ σ W D D' at_ s h => l ρ σ W _ at_.rl h _ fun ds vs W1 s1 i1 ⟨m, n, Pv, ed, m1, m2, n1, n2, h0, ht, hd⟩ => ?_⟩
  subst ed
  obtain ⟨v1, v2, rfl, j1, j2⟩ := i1.two
  have hg1 : Same G W1.g := at_.gs.trans s1.g
  refine ⟨m, n, by rw [is_int.mp j1, is_int.mp j2], ⟨m1, m2, n1, n2⟩, for_range (lo := m) (n := (n - m).toNat) (fun i => InL X.K (Zx X) W0 W1 (Pv i)) ⟨ρ, W1, rfl, (at_.step s1).now, h0⟩ ?_ ?_⟩
  · rintro i σ' _ hi ⟨ρ', W2, rfl, a2, hp2⟩
    exact l2 W0 W1.g _ _ W2 { D with nx := Pv (i + 1), ct := Pv (i + 1), bk := D.nx } _ (a2.set j (is_int.mpr rfl)) (sim_loop s hg1) (ht i ρ' hi hp2)
  · rintro σ' _ ⟨ρ', W2, rfl, a2, hp2⟩
    exact s.nx ρ' σ' W2 (a2.weak hg1) (hd ρ' hp2)
structure IsiOk (K : PySem.W.Frag) (C : Addr) : Prop where
  cl : Cls K C
  ha : PySem.W.findIn K (.ref C) "__class__" = some (some (.builtin "object.__class__"))
  hn : PySem.W.specialIn K (.builtin "object.__class__") "__get__" = some (some (.builtin "getset_descriptor.__get__"))
  htk : PySem.W.takesIn K (.builtin "object.__class__") = some true
  hm : PySem.W.mroIn K C (.type "object") = some true
theorem call_isiO : CallR X (.builtin "isinstance") (fun xs H Q => ∃ v D tv b, xs = [v, .ref D] ∧ TyOf X.K H v tv ∧ PySem.W.kitOne X.K tv (.ref D) = some b ∧ Q (.bl b) H) := by
  intro pins s σ H xs us Q I r h
  obtain ⟨v, D, tv, b, rfl, hty, hk, q⟩ := h
  cases r with
  | cons r1 r2 =>
    cases r2 with
    | cons r3 r4 =>
      cases r4
      cases r3
      exact isinst_ok I r1 hty hk fun tk => ⟨.bl b, H, I.tok _, rfl, q⟩
def dIsiO (K : PySem.W.Frag) (D : Addr) (ta : DTE) : DTE := fun ρ Q => ta ρ fun d => ∃ C f n b, d = .way C f n ∧ IsiOk K C ∧ PySem.W.kitOne K (.ref C) (.ref D) = some b ∧ Q (.bl b)
theorem de_isiO {a : Expr} {t : DTE} {y : Str} {p' : Pos} {D : Addr} (hm : X.mg "isinstance" = none) (hmc : X.mg y = some (.ref D)) (ha : DE X a t)
    (hg : Gl X "isinstance" := by rfl) (hgc : Gl X y := by rfl) (hdy : (y == ("__debug__" : Str)) = false := by decide)
    (hs : starEach [a, .Name y p'] X.env = (false, eval a X.env) :: starEach [.Name y p'] X.env := by rfl) (hs2 : starEach [.Name y p'] X.env = (false, eval (.Name y p') X.env) :: starEach [] X.env := by rfl)
    (hpl : (backTo pos (starEach [.Name y p'] X.env)).any (·.1) = false := by rfl) :
    DE X (.Call (.Name "isinstance" p0) [a, .Name y p'] [] pos) (dIsiO X.K D t) := by
  obtain ⟨te, p1, l1⟩ := ha
  have pc : PE X (.Name y p') (tC (.ref D)) := pe_glob hgc hmc rfl hdy
  refine ⟨_, pe_callB call_isiO hg hm boot_isinstance (pa_cons p1 (pa_cons pc pa_nil hs2) hs) (by decide) (by decide) hs hpl, fun ρ σ H Q r h R k => l1 ρ σ H _ r h _ fun d v H1 s1 i1 ⟨C, f, n, b, ed, ok, e, q⟩ => ?_⟩
  subst ed
  obtain ⟨p, dx, rfl, hp⟩ := is_way.mp i1
  exact ⟨_, D, _, b, rfl, .ins (H1.sub _ _ hp) ok.cl ok.ha ok.hn ok.htk ok.hm, e, k _ _ H1 s1 (is_bl.mpr rfl) q⟩
end
end OD

namespace OD
variable {Z : Hp}
open PySem PySem.Spec PyProof.Rows L2
section
variable {X : Cx} {tg : Expr}
variable {fr : Fr} {ta : DTA} {tb : DTS} {te : DTE} {pos p0 p1 p2 : Pos}
theorem AllIs.three {K : PySem.W.Frag} {H : Hp} {d e f : Dt} {xs : List V} (h : AllIs K H [d, e, f] xs) : ∃ v u w, xs = [v, u, w] ∧ Is K H d v ∧ Is K H e u ∧ Is K H f w := by
  obtain ⟨x, r, rfl, h1, h2⟩ := allIs_cons.mp h
  obtain ⟨u, w, rfl, h3, h4⟩ := h2.two
  exact ⟨x, u, w, rfl, h1, h3, h4⟩
end
end OD

namespace OD
variable {Z : Hp}
open PySem PySem.Spec PyProof.Rows L2
section
variable {X : Cx} {a : Expr} {te : TE} {tl th ts : TO} {lo hi : Option Expr} {st : Expr} {pos p2 : Pos} {ta : DTE} {dl dh dt : DTO}
variable {fr : Fr} {tA : DTA} {tb : DTS} {p0 p1 : Pos}
def CDivG (i j : Int) : Prop := j ≠ 0 ∧ Builtin.divisionGoesByPylong i j = false
theorem o_fdivG : DOp X (binaryOp .FloorDiv) (gIC CDivG fun i j => .int (i.fdiv j)) := dop_IC (C := CDivG) (opI fun _ _ _ _ _ _ _ hc q => floordiv_int hc.1 q (.inl hc.2))
theorem cdivG {c n : Int} (h0 : n ≠ 0) (h : n.natAbs < 2 ^ 9000) : CDivG c n := ⟨h0, PyProof.noPylong_of_log2 ((Nat.log2_lt (by omega)).mpr h)⟩
def dSeqJ (t u : DTS) : DTS := fun D ρ => ∃ P : DS → Prop, t { D with nx := P } ρ ∧ ∀ ρ', P ρ' → u D ρ'
theorem dss_join {sst : Stmt} {rest : List Stmt} {t u : DTS} (h1 : DSt X fr sst t) (h2 : DSs X fr rest u) : DSs X fr (sst :: rest) (dSeqJ t u) := by
  obtain ⟨ts, p1, l1⟩ := h1
  obtain ⟨us, p2, l2⟩ := h2
  refine ⟨_, pss_cons p1 p2, fun W0 G ρ σ W D D' a s h => ?_⟩
  obtain ⟨P, h, k⟩ := h
  exact l1 W0 G ρ σ W { D with nx := P } { D' with nx := us D' } a ⟨fun ρ' σ' W' a' q => l2 W0 G ρ' σ' W' D D' a' s (k ρ' q), s.tl, s.bk, s.ct⟩ h
end
end OD

namespace OD
open PySem PySem.Spec PyProof.Rows L2
section
variable {X : Cx} {ta : DTE} {pos p0 : Pos}
end
end OD

namespace OD
variable {Z : Hp}
open PySem PySem.Spec PyProof.Rows L2
section
variable {X : Cx} {K : PySem.W.Frag} {H : Hp}
def gS (f : Str → Str → Dt) : Dt → Dt → (Dt → Prop) → Prop := fun d e Q => ∃ x y, d = .str x ∧ e = .str y ∧ Q (f x y)
theorem dec_strV {x y : Str} : decide (V.str x = V.str y) = (x == y) := by
  rw [Bool.eq_iff_iff]
  simp
theorem o_eqS : DOp X (compareOp .Eq) (gS fun x y => .bl (x == y)) := by
  refine ⟨_, op_eq, fun H x y d e Q i1 i2 ⟨a, b, ed, ee, q⟩ R k => ?_⟩
  subst ed
  subst ee
  obtain rfl := is_str.mp i1
  obtain rfl := is_str.mp i2
  refine ⟨rfl, ?_⟩
  rw [dec_strV]
  exact k _ _ H (Le.refl H) (is_bl.mpr rfl) q
theorem o_neS : DOp X (compareOp .NotEq) (gS fun x y => .bl (!(x == y))) := by
  refine ⟨_, op_ne, fun H x y d e Q i1 i2 ⟨a, b, ed, ee, q⟩ R k => ?_⟩
  subst ed
  subst ee
  obtain rfl := is_str.mp i1
  obtain rfl := is_str.mp i2
  refine ⟨rfl, ?_⟩
  rw [dec_strV]
  exact k _ _ H (Le.refl H) (is_bl.mpr rfl) q
def allStrs : List Dt → Option (List Str)
  | [] => some []
  | .str i :: r => (allStrs r).map (i :: ·)
  | _ => none
theorem allStrs_is : ∀ {ds : List Dt} {ns : List Str} {xs : List V}, allStrs ds = some ns → AllIs K H ds xs → xs = ns.map V.str
  | [], ns, xs, e, h => by
    cases e
    exact allIs_nil.mp h
  | d :: ds, ns, xs, e, h => by
    cases d with
    | str i =>
      obtain ⟨ms, e1, e2⟩ := Option.map_eq_some_iff.mp (show (allStrs ds).map (i :: ·) = some ns from e)
      obtain ⟨x, r, rfl, h1, h2⟩ := allIs_cons.mp h
      rw [allStrs_is e1 h2, is_str.mp h1, ← e2]
      rfl
    | _ => cases e
theorem inV_strs (i : Str) : ∀ ns : List Str, inV (.str i) (ns.map V.str) = ns.any fun a => a == i
  | [] => rfl
  | n :: ns => by
    have ih := inV_strs i ns
    unfold inV at ih ⊢
    rw [List.map_cons, List.any_cons, List.any_cons, ih]
    rfl
theorem flat_strs : ∀ ns : List Str, (ns.map V.str).all flatV = true
  | [] => rfl
  | n :: ns => by rw [List.map_cons, List.all_cons, flat_strs ns]; rfl
theorem o_inS : DOp X (compareOp .In) (fun d e Q => ∃ i ds ns, d = .str i ∧ seqOf e = some ds ∧ allStrs ds = some ns ∧ Q (.bl (ns.any fun a => a == i))) := by
  refine ⟨_, op_in_seq, fun H x y d e Q i1 i2 q R k => ?_⟩
  obtain ⟨i, ds, ns, rfl, e1, e2, q⟩ := q
  obtain ⟨p, xs, rfl, h1, h2⟩ := seq_is i2 e1
  obtain rfl := allStrs_is e2 h2
  obtain rfl := is_str.mp i1
  refine ⟨p, _, rfl, h1, rfl, flat_strs ns, ?_⟩
  show R (.bl (inV (.str i) (ns.map V.str))) H.h
  rw [inV_strs]
  exact k _ _ H (Le.refl H) (is_bl.mpr rfl) q
end
section
variable {X : Cx} {fr : Fr} {te : DTE} {tb : DTS} {pos p0 p1 p2 : Pos}
end
end OD

namespace OD
variable {Z : Hp}
open PySem PySem.Spec PyProof.Rows L2
def capV (σ : St) (js : List Nat) : St := js.map fun j => (σ[j]?).getD none
section
variable {X : Cx} {pins : List (Addr × Obj)} {σ : St} {H : Hp} {s : Shared} {scope : Scope} {cl : List (Str × Addr)} {x : Str} {caps : List Str} {js : List Nat} {fp : List Addr}
end
def clOf (cells : List (Str × Addr)) (names : List (Str × NameKind)) : List (Str × Addr) := (names.filterMap fun y => if y.2 == .free then (cells.lookup y.1).map (y.1, ·) else none).reverse
theorem mem_lookup {α : Type} {y : Str} {c : α} : ∀ {l : List (Str × α)}, (y, c) ∈ l → ∃ c', l.lookup y = some c'
  | [], h => nomatch h
  | (z, d) :: r, h => by
    rw [List.lookup_cons]
    cases q : y == z with
    | true => exact ⟨d, rfl⟩
    | false =>
      rcases List.mem_cons.mp h with e | e
      · cases e
        rw [beq_self_eq_true] at q
        cases q
      · exact mem_lookup e
theorem mem_clOf {cells : List (Str × Addr)} {names : List (Str × NameKind)} {y : Str} {c : Addr} : (y, c) ∈ clOf cells names ↔ (y, NameKind.free) ∈ names ∧ cells.lookup y = some c := by
  unfold clOf
  rw [List.mem_reverse, List.mem_filterMap]
  constructor
  · rintro ⟨⟨z, k⟩, hz, e⟩
    split at e
    · rename_i hk
      obtain rfl := eq_of_beq hk
      obtain ⟨d, hd, e⟩ := Option.map_eq_some_iff.mp e
      cases e
      exact ⟨hz, hd⟩
    · cases e
  · rintro ⟨h1, h2⟩
    exact ⟨(y, .free), h1, by show Option.map _ (List.lookup y cells) = _; rw [h2]; rfl⟩
theorem clos_of {scope : Scope} {env : Env} (h : ∀ y, (y, NameKind.free) ∈ scope.names → ∃ c, env.cells.lookup y = some c) : closureFor scope env = pure (clOf env.cells scope.names) := by
  have key : ∀ (names : List (Str × NameKind)) (acc : List (Str × Addr)), (∀ y, (y, NameKind.free) ∈ names → ∃ c, env.cells.lookup y = some c) →
      (forIn names acc fun x r => (if x.2 == NameKind.free then do let c ← cellOf env x.1; pure (ForInStep.yield ((x.1, c) :: r)) else pure (ForInStep.yield r) : Sem (ForInStep (List (Str × Addr))))) = (pure (clOf env.cells names ++ acc) : Sem (List (Str × Addr))) := by
    intro names
    induction names with
    | nil => intro acc _; rfl
    | cons a r ih =>
      intro acc ha
      obtain ⟨n, k⟩ := a
      rw [List.forIn_cons]
      cases hk : k == NameKind.free with
      | true =>
        obtain rfl := eq_of_beq hk
        obtain ⟨c, hc⟩ := ha n List.mem_cons_self
        have e1 : cellOf env n = pure c := by unfold cellOf; rw [hc]
        have e2 : clOf env.cells ((n, NameKind.free) :: r) = clOf env.cells r ++ [(n, c)] := by
          unfold clOf
          rw [List.filterMap_cons_some (b := (n, c)) (by show Option.map _ (List.lookup n env.cells) = _; rw [hc]; rfl), List.reverse_cons]
        show (do let c ← cellOf env n; pure (ForInStep.yield ((n, c) :: acc)) : Sem _) >>= _ = _
        rw [e1, pure_bind, pure_bind, e2, List.append_assoc]
        exact ih ((n, c) :: acc) fun y hy => ha y (List.mem_cons_of_mem _ hy)
      | false =>
        have e2 : clOf env.cells ((n, k) :: r) = clOf env.cells r := by
          unfold clOf
          rw [List.filterMap_cons_none (by show (if (k == NameKind.free) = true then _ else none) = none; rw [hk]; rfl)]
        show (pure (ForInStep.yield acc) : Sem _) >>= _ = _
        rw [pure_bind, e2]
        exact ih acc fun y hy => ha y (List.mem_cons_of_mem _ hy)
  have := key scope.names [] h
  rw [List.append_nil] at this
  unfold closureFor
  rw [← this]
  exact (bind_pure _).trans rfl
theorem lookup_relabel_free {env : Env} (hk : env.scope.kind = .function) : ∀ {names : List (Str × NameKind)} {x : Str}, names.lookup x = some .free → env.scope.names.lookup x = some .cell →
    (names.map fun (n, k) => if (k == NameKind.free && env.scope.kind == .function && env.kindOf n == some .cell) then (n, NameKind.cell) else (n, k)).lookup x = some .cell
  | [], _, h, _ => by simp at h
  | (n, k) :: r, x, h, he => by
    have ih := @lookup_relabel_free env hk r x
    show List.lookup x ((if (k == NameKind.free && env.scope.kind == .function && env.kindOf n == some .cell) = true then (n, NameKind.cell) else (n, k)) :: _) = _
    cases hx : x == n with
    | true =>
      obtain rfl := eq_of_beq hx
      simp only [List.lookup_cons, hx] at h
      cases h
      have e : env.kindOf x = some .cell := he
      rw [hk, e]
      simp [List.lookup_cons]
    | false =>
      simp only [List.lookup_cons, hx] at h
      by_cases hc : (k == NameKind.free && env.scope.kind == .function && env.kindOf n == some .cell) = true
      · rw [if_pos hc]; simp only [List.lookup_cons, hx]; exact ih h he
      · rw [if_neg hc]; simp only [List.lookup_cons, hx]; exact ih h he
def capS (ρ : DS) (js : List Nat) : DS := js.map fun j => match (ρ[j]? : Option Sl) with
  | Option.some (Sl.some d) => Sl.some d
  | _ => Sl.none
section
variable {X : Cx} {fr : Fr} {osc scope : Scope} {x : Str} {caps : List Str} {js : List Nat} {N0 : List Str} {L : Addr} {a elt : Expr} {ta te : DTE} {px p0 pos pos1 : Pos}
end
section
variable {X : Cx} {a : Expr} {p0 pos : Pos}
theorem boot_intT : bootBuiltins "int" = some (.type "int") := by decide +kernel
end
end OD

namespace OD
variable {Z : Hp}
open PySem PySem.Spec PyProof.Rows L2
def dCompLC (js : List Nat) (ta te : DTE) : DTE := fun ρ Q => ta ρ fun d => ∃ (ds : List Dt) (Pv : Nat → List Dt → Prop), listOf d = some ds ∧ ds.length ≤ 100000 ∧ Pv 0 [] ∧
  (∀ (i : Nat) e es, ds[i]? = some e → Pv i es → te (.some e :: capS ρ js) fun y => Pv (i + 1) (es ++ [y])) ∧ ∀ es, Pv ds.length es → Q (.lst es)
section
variable {X : Cx} {fr : Fr} {osc scope : Scope} {x : Str} {caps : List Str} {js : List Nat} {N0 : List Str} {L : Addr} {iter elt : Expr} {ta te : DTE} {px pos : Pos}
end
end OD

namespace L2
open PySem PySem.Spec PyProof.Rows
def K2 (h h' : Heap) : Prop := ∀ a o vs, h.get? a = some o → o.data = .fields vs → ∃ o' vs', h'.get? a = some o' ∧ o'.data = .fields vs' ∧ vs'[2]? = vs[2]?
theorem K2.refl (h : Heap) : K2 h h := fun _ o vs x y => ⟨o, vs, x, y, rfl⟩
theorem K2.trans {h1 h2 h3 : Heap} (x : K2 h1 h2) (y : K2 h2 h3) : K2 h1 h3 := fun a o vs p q =>
  let ⟨o', vs', p', q', r'⟩ := x a o vs p q
  let ⟨o2, vs2, p2, q2, r2⟩ := y a o' vs' p' q'
  ⟨o2, vs2, p2, q2, r2.trans r'⟩
theorem K2.keeps {h h' : Heap} (k : ∀ b o, h.get? b = some o → h'.get? b = some o) : K2 h h' := fun a o vs p q => ⟨o, vs, k a o p, q, rfl⟩
theorem K2.update {h : Heap} {a : Addr} {o : Obj} {f : Obj → Obj} (ho : h.get? a = some o) (hf : ∀ vs, o.data = .fields vs → ∃ vs', (f o).data = .fields vs' ∧ vs'[2]? = vs[2]?) : K2 h (h.update a f) := fun b o' vs p q => by
  by_cases e : a = b
  · subst e
    rw [ho] at p
    cases p
    obtain ⟨vs', z1, z2⟩ := hf vs q
    exact ⟨_, vs', Heap.get?_update_self f ho (Obj.isFreed_of_fields z1), z1, z2⟩
  · exact ⟨o', vs, (Heap.get?_update_other _ _ e).trans p, q, rfl⟩
def Kp2 {α : Type} (t : Sem α) : Prop := ∀ (M : Model) (Γ : PySem.Ctx) (Q : α → Pos → Shared → Prop) (E : Value → Pos → Shared → Prop) (p : Pos) (s : Shared), Sem.wp M Γ t Q E p s →
  Sem.wp M Γ t (fun a p' s' => Q a p' s' ∧ K2 s.heap s'.heap) (fun e p' s' => E e p' s' ∧ K2 s.heap s'.heap) p s
theorem kp_pure {α : Type} (a : α) : Kp2 (pure a : Sem α) := fun _ _ _ _ _ s h => ⟨h, K2.refl _⟩
theorem kp_throw {α : Type} (e : Value) : Kp2 (throw e : Sem α) := fun _ _ _ _ _ s h => ⟨h, K2.refl _⟩
theorem kp_uns {α : Type} (z : String) : Kp2 (unsupported z : Sem α) := fun _ _ _ _ _ s h => False.elim h
theorem kp_bind {α β : Type} {m : Sem α} {f : α → Sem β} (hm : Kp2 m) (hf : ∀ a, Kp2 (f a)) : Kp2 (m >>= f) := fun M Γ Q E p s h => by
  rw [Sem.wp_bind'] at h ⊢
  exact Sem.wp_mono M Γ m (fun a p' s' ⟨x, y⟩ => Sem.wp_mono M Γ (f a) (fun _ _ _ ⟨u, v⟩ => ⟨u, y.trans v⟩) (fun _ _ _ ⟨u, v⟩ => ⟨u, y.trans v⟩) p' s' (hf a M Γ Q E p' s' x)) (fun _ _ _ x => x) p s (hm M Γ _ _ p s h)
theorem kp_ite {α : Type} {c : Prop} [Decidable c] {a b : Sem α} (ha : Kp2 a) (hb : Kp2 b) : Kp2 (if c then a else b) := by split; exact ha; exact hb
theorem kp_load (a : Addr) : Kp2 (load a) := fun M Γ Q E p s ⟨o, x, y⟩ => ⟨o, x, y, K2.refl _⟩
theorem kp_stack : Kp2 PySem.stack := fun M Γ Q E p s h => ⟨h, K2.refl _⟩
theorem kp_alloc (o : Obj) : Kp2 (alloc o) := fun M Γ Q E p s h => ⟨h, K2.keeps fun _ _ => Heap.get?_push_of_some _⟩
theorem kp_update {a : Addr} {f : Obj → Obj} (hf : ∀ o vs, o.data = .fields vs → ∃ vs', (f o).data = .fields vs' ∧ vs'[2]? = vs[2]?) : Kp2 (update a f) := fun M Γ Q E p s ⟨x, y⟩ => by
  obtain ⟨o, ho⟩ := Option.isSome_iff_exists.mp x
  exact ⟨x, y, K2.update ho (hf o)⟩
theorem kp_fieldsOf (v : Value) : Kp2 (fieldsOf v) := by
  unfold fieldsOf
  split
  · refine kp_bind (kp_load _) fun o => ?_
    split
    · exact kp_pure _
    · exact kp_uns _
  · exact kp_uns _
theorem kp_field (v : Value) (i : Nat) : Kp2 (field v i) := by
  unfold field
  refine kp_bind (kp_fieldsOf v) fun vs => ?_
  split
  · exact kp_pure _
  · exact kp_uns _
theorem kp_setField (v : Value) (i : Nat) (x : Value) (hi : i ≠ 2) : Kp2 (setField v i x) := by
  unfold setField
  split
  · unfold updateField
    refine kp_bind (kp_load _) fun o => ?_
    split
    · refine kp_ite (kp_update fun o vs hd => ⟨_, Obj.data_mapFields hd _, Array.getElem?_setIfInBounds_ne hi⟩) (kp_uns _)
    · exact kp_uns _
  · exact kp_uns _
theorem kp_setFlight (e : Value) (f : Option Addr) : Kp2 (setFlight e f) := by
  unfold setFlight
  refine kp_bind (kp_field _ _) fun tb => kp_ite (kp_setField _ _ _ (by decide)) (kp_pure _)
theorem kp_behind (env : Env) (outer : List Env) : Kp2 (behindIsImport env outer) := by
  unfold behindIsImport
  refine kp_ite (kp_pure _) (kp_ite (kp_pure _) (kp_bind (kp_field _ _) fun _ => kp_pure _))
theorem kp_back (env : Env) (b : Bool) (l : List Env) : Kp2 (keptBack env b l) := by
  unfold keptBack
  split
  · refine kp_ite (kp_pure _) ?_
    unfold underTheClaimsCaller
    exact kp_bind (kp_bind kp_stack fun _ => kp_pure _) fun _ => kp_pure _
  · exact kp_pure _
theorem kp_ready : ∀ l : List Env, Kp2 (readyFrames l)
  | [] => kp_pure _
  | env :: outer => by
    unfold readyFrames
    split
    · refine kp_bind (kp_load _) fun o => kp_ite (kp_pure _) ?_
      refine kp_bind (kp_behind _ _) fun _ => kp_bind (kp_back _ _ _) fun _ => kp_bind (kp_update fun o vs hd => ⟨vs, hd, rfl⟩) fun _ => kp_ready outer
    · exact kp_uns _
theorem kp_frameOf (env : Env) : Kp2 (PySem.frameOf env) := by
  unfold PySem.frameOf
  refine kp_bind (by unfold frameEnvs; exact kp_bind kp_stack fun _ => kp_pure _) fun l => kp_bind ?_ fun r => ?_
  · unfold frameObject
    split
    · exact kp_pure _
    · exact kp_bind (kp_ready _) fun _ => kp_pure _
  · split
    · exact kp_pure _
    · exact kp_uns _
theorem kp_place (f : Addr) (b : Bool) : Kp2 (entryPlaceOf f b) := by
  unfold entryPlaceOf
  refine kp_bind kp_stack fun _ => ?_
  split
  · exact kp_pure _
  · exact kp_pure _
theorem kp_newEntry (a b c d e : Value) (l : List Value) : Kp2 (EntryCells.newEntry a b c d e l) := by
  unfold EntryCells.newEntry newFields newObj newObjAsIs
  have z : ∀ d : Data, Kp2 (do let a ← alloc { cls := .type "traceback", data := d }; pure (Value.ref a) : Sem Value) := fun d => kp_bind (kp_alloc _) fun _ => kp_pure _
  generalize ([a, b, c, d, e] ++ (if l.isEmpty then List.replicate 6 Value.none else l)) = q
  simp only []
  exact kp_ite (kp_bind (kp_uns _) fun _ => z _) (z _)
theorem kp_note (e : Value) (env : Env) : Kp2 (noteFrame e env) := by
  unfold noteFrame
  split
  · refine kp_bind (kp_field _ _) fun hd => ?_
    have z : ∀ f, Kp2 (do setField e 1 (← EntryCells.newEntry hd (← PySem.frameOf env) .none (rawInt f) .none (← entryPlaceOf f (hd != .none)))) := fun f => kp_bind (kp_frameOf _) fun _ => kp_bind (kp_place _ _) fun _ => kp_bind (kp_newEntry _ _ _ _ _ _) fun _ => kp_setField _ _ _ (by decide)
    refine kp_ite ?_ (z _)
    exact kp_bind (kp_field _ _) fun _ => kp_ite (kp_pure _) (kp_bind (kp_setField _ _ _ (by decide)) fun _ => z _)
  · exact kp_uns _
theorem kp_leaving (env : Env) (e : Value) : Kp2 (leaving env e) := kp_bind (kp_note _ _) fun _ => kp_setFlight _ _
theorem with2 {α : Type} {M : Model} {A : Around} {t : Sem α} {Q : α → Shared → Prop} {E : Value → Shared → Prop} {s : Shared} (k : Kp2 t) (h : wpAny M A t (fun a s' => K2 s.heap s'.heap → Q a s') (fun e s' => K2 s.heap s'.heap → E e s') s) : wpAny M A t Q E s := fun Γ p hΓ =>
  Sem.wp_mono M Γ t (fun _ _ _ ⟨x, y⟩ => x y) (fun _ _ _ ⟨x, y⟩ => x y) p s (k M Γ _ _ p s (h Γ p hΓ))
def Chn (h : Heap) : Nat → Value → Prop
  | 0, v => v = .none
  | n + 1, v => ∃ a o vs x, v = .ref a ∧ h.get? a = some o ∧ o.data = .fields vs ∧ vs[2]? = some x ∧ Chn h n x
theorem Chn.k2 {h h' : Heap} (k : K2 h h') : ∀ {n : Nat} {v : Value}, Chn h n v → Chn h' n v
  | 0, _, e => e
  | _ + 1, _, ⟨a, o, vs, x, e, ho, hd, hx, c⟩ =>
    let ⟨o', vs', ho', hd', hx'⟩ := k a o vs ho hd
    ⟨a, o', vs', x, e, ho', hd', hx'.trans hx, Chn.k2 k c⟩
end L2

namespace L2
open PySem PySem.Spec PyProof.Rows
section
variable {P : Program} {w : World} {H H' : Hp} {h B : Heap}
theorem HOk.part (x : HOk P w H h) (k : ∀ b u, H b ≠ none → h.get? b = some u → B.get? b = some u) : HOk P w H B := fun a o e =>
  (x a o e).stay (fun b u hb q => k b u (fun z => by rcases hb with rfl | y; (rw [e] at z; cases z); (rw [y] at z; cases z)) q) (fun _ q => q) fun _ _ q => q
theorem ObjOk.there {a : Addr} {o : HO} (x : ObjOk P w H h a o) : ∃ u, h.get? a = some u := by
  cases o with
  | lst xs => obtain ⟨_, _, _, _, e⟩ := x; exact ⟨_, e⟩
  | tup xs => obtain ⟨_, _, _, o, e, _⟩ := x; exact ⟨_, e⟩
  | dK kvs => obtain ⟨_, _, _, _, o, _, _, e, _⟩ := x; exact ⟨_, e⟩
  | dT kvs => obtain ⟨_, _, _, _, o, _, _, e, _⟩ := x; exact ⟨_, e⟩
  | set S n => obtain ⟨o, _, _, _, e, _⟩ := x; exact ⟨_, e⟩
  | ins C dx fs => obtain ⟨_, _, _, e, _⟩ := x; exact ⟨_, e⟩
  | own y => exact x
  | xd fs => obtain ⟨_, ⟨_, _, _, e, _⟩, _⟩ := x; exact ⟨_, e⟩
  | rng lo hi => obtain ⟨_, _, _, e⟩ := x; exact ⟨_, e⟩
  | frz ob u => obtain ⟨e, _⟩ := x; exact ⟨_, e⟩
  | tbl ps => exact ⟨_, (show h.get? a = some _ from x)⟩
  | met f y => exact ⟨_, (show h.get? a = some _ from x)⟩
  | ext φ => obtain ⟨_, e, _⟩ := x; exact e
end
structure FliesB (P : Program) (w : World) (stack : List Env) (H : Hp) (h0 : Heap) (H' : Hp) (e : Addr) (cls : Value) (h : Heap) : Prop where
  ex : ∃ B a0, Heap.FlyingW B stack e cls a0 h ∧ (∀ b o, h0.get? b = some o → H b = none → b ∉ frs stack → B.get? b = some o) ∧ (∀ b o, h0.get? b = some o → b ∉ frs stack → ∃ o', B.get? b = some o') ∧ HOk P w H' B
  slot : ∀ b o, h0.get? b = some o → b ∈ frs stack → ∃ sl, h.get? b = some { o with slots := sl }
  free : ∀ b o, h0.get? b = some o → H b = none → H' b = none
  tups : ∀ b xs, H b = some (.tup xs) → H' b = some (.tup xs)
  frzs : ∀ b o u, H b = some (.frz o u) → H' b = some (.frz o u)
  tbls : ∀ b ps, H b = some (.tbl ps) → ∃ more, H' b = some (.tbl (ps ++ more))
  new : h0.get? e = none
section
variable {P : Program} {w : World} {stack : List Env} {H H' : Hp} {h0 h : Heap} {e : Addr} {cls : Value}
theorem FliesB.un (f : FliesB P w stack H h0 H' e cls h) : Un (frs stack) [] H H' h0 h := by
  obtain ⟨B, a0, ⟨st, _, _, _⟩, k1, k2, _⟩ := f.ex
  refine ⟨fun b o q n hb _ => st b o (k1 b o q n hb), fun b o q _ hb _ => f.slot b o q hb, fun b o q n _ => f.free b o q n, fun b o q _ => ?_, f.tups, f.frzs, f.tbls⟩
  by_cases hb : b ∈ frs stack
  · obtain ⟨sl, z⟩ := f.slot b o q hb
    exact ⟨_, z⟩
  · obtain ⟨o', z⟩ := k2 b o q hb
    exact ⟨o', st b o' z⟩
theorem FliesB.hok (f : FliesB P w stack H h0 H' e cls h) : HOk P w H' h := by
  obtain ⟨B, a0, ⟨st, _, _, _⟩, _, _, k3⟩ := f.ex
  exact k3.kept st
theorem FliesB.out (f : FliesB P w stack H h0 H' e cls h) : H' e = none := by
  obtain ⟨B, a0, ⟨st, n, _, _⟩, _, _, k3⟩ := f.ex
  cases q : H' e with
  | none => rfl
  | some o =>
    obtain ⟨u, z⟩ := (k3 e o q).there
    rw [n] at z; cases z
theorem FliesB.go (f : FliesB P w stack H h0 H' e cls h) : ∃ B a0, Heap.FlyingW B stack e cls a0 h ∧ ∀ h', Heap.FlyingW B stack e cls a0 h' → h.UpToSlots h' → FliesB P w stack H h0 H' e cls h' := by
  obtain ⟨B, a0, fl, k1, k2, k3⟩ := f.ex
  refine ⟨B, a0, fl, fun h' fl' up => ⟨⟨B, a0, fl', k1, k2, k3⟩, fun b o q hb => ?_, f.free, f.tups, f.frzs, f.tbls, f.new⟩⟩
  obtain ⟨sl, z⟩ := f.slot b o q hb
  obtain ⟨_, ob, ho, hd⟩ := fl.2.2.1.mem hb
  rw [z] at ho
  cases ho
  obtain ⟨sl', z'⟩ := up b _ z hd
  exact ⟨sl', z'⟩
end
structure Flies (P : Program) (w : World) (stack : List Env) (H : Hp) (h0 : Heap) (H' : Hp) (e : Addr) (cls : Value) (h : Heap) : Prop extends FliesB P w stack H h0 H' e cls h where
  chn : ∃ n, Chn h n (.ref e)
section
variable {X : Cx} {pins : List (Addr × Obj)} {σ : St} {H H' : Hp} {s s' : Shared} {M : Model} {E : Value → Shared → Prop} {e : Addr} {cls : Value}
theorem Inv.neL (I : Inv X pins σ H s) {b : Addr} {o : Obj} (q : X.s₀.heap.get? b = some o) : b ≠ X.env.locals := Nat.ne_of_lt (Nat.lt_of_lt_of_le (Heap.lt_size q) I.ok.above)
theorem fly_made {vs : List Value} {h1 : Heap} {Q : Unit → Shared → Prop} (I : Inv X pins σ H s) (hstk : X.stack = X.env :: X.outer) (hf : X.env.frame = some X.env.locals) (hex : X.ex = []) (hx : Heap.MadeExcOf s.heap h1 e cls vs)
    (hQ : ∀ h', Flies X.prog X.w X.outer X.H₀ X.s₀.heap H e cls h' → Q () { s with heap := h' }) : wpAny M X.A (leaving X.env (.ref e)) Q E { s with heap := h1 } := by
  have hfr : X.A.frames = some (X.env :: X.outer) := by rw [← hstk]; exact I.ok.frames
  have hfs : frs X.stack = X.env.locals :: frs X.outer := by rw [hstk]; unfold frs; rw [List.filterMap_cons, hf]
  have hl : s.heap.FunFrames (PySem.W.hideAll s.heap (frs X.stack)) (X.env :: X.outer) := by
    have z := I.stack
    rw [hstk] at z
    refine PySem.W.funFrames_hide z fun env he a ha => ?_
    rw [hstk]
    exact List.mem_filterMap.mpr ⟨env, he, ha⟩
  have nx : ∀ b, b ∉ X.ex := fun b z => by rw [hex] at z; cases z
  have nst : ∀ b o, X.s₀.heap.get? b = some o → b ∉ frs X.outer → b ∉ frs X.stack := fun b o q nb z => by
    rw [hfs] at z
    rcases List.mem_cons.mp z with z | z
    · exact I.neL q z
    · exact nb z
  have c1 : Chn h1 1 (.ref e) := by
    obtain ⟨t, he, _⟩ := hx.there
    exact ⟨e, _, _, .none, rfl, he, rfl, rfl, rfl⟩
  refine with2 (kp_leaving _ _) ?_
  refine PySem.wpAny_leaves_madeW (s := { s with heap := h1 }) (h := s.heap) (base := PySem.W.hideAll s.heap (frs X.stack)) hfr hf (fun b o q => PySem.W.of_hideAll _ q) hl hx fun h' t x1 x2 x3 x4 k2 => hQ h' ⟨⟨⟨_, _, x1, fun b o q n nb => ?_, fun b o q nb => ?_, ?_⟩, fun b o q hb => ?_, fun b o q n => I.base.free b o q n (nx b), I.base.tups, I.base.frzs, I.base.tbls, ?_⟩, 1, c1.k2 k2⟩
  · exact PySem.W.hideAll_get _ (I.base.keep b o q n nb (nx b)) (nst b o q nb)
  · obtain ⟨o', z⟩ := I.base.there b o q (nx b)
    exact ⟨o', PySem.W.hideAll_get _ z (nst b o q nb)⟩
  · exact I.hok.part fun b u hb q => PySem.W.hideAll_get _ q fun z => hb (I.stkFree b z)
  · obtain ⟨sl, z⟩ := I.base.slot b o q (I.ok.frf b hb) hb (nx b)
    obtain ⟨_, ob, ho, hd⟩ := I.funs.mem hb
    rw [z] at ho
    cases ho
    obtain ⟨sl', z'⟩ := x4 b _ (hx.keeps b _ z) hd
    exact ⟨sl', z'⟩
  · cases q : X.s₀.heap.get? e with
    | none => rfl
    | some o =>
      obtain ⟨o', z⟩ := I.base.there e o q (nx e)
      rw [hx.new] at z; cases z
theorem fly_on {Q : Unit → Shared → Prop} (I : Inv X pins σ H s) (hstk : X.stack = X.env :: X.outer) (hf : X.env.frame = some X.env.locals) (hex : X.ex = []) (f : Flies X.prog X.w X.stack H s.heap H' e cls s'.heap)
    (hQ : ∀ h', Flies X.prog X.w X.outer X.H₀ X.s₀.heap H' e cls h' → Q () { s' with heap := h' }) : wpAny M X.A (leaving X.env (.ref e)) Q E s' := by
  have hfr : X.A.frames = some (X.env :: X.outer) := by rw [← hstk]; exact I.ok.frames
  have hfs : frs X.stack = X.env.locals :: frs X.outer := by rw [hstk]; unfold frs; rw [List.filterMap_cons, hf]
  have nx : ∀ b, b ∉ X.ex := fun b z => by rw [hex] at z; cases z
  have nst : ∀ b o, X.s₀.heap.get? b = some o → b ∉ frs X.outer → b ∉ frs X.stack := fun b o q nb z => by
    rw [hfs] at z
    rcases List.mem_cons.mp z with z | z
    · exact I.neL q z
    · exact nb z
  obtain ⟨B, a0, fl, k1, k2, k3⟩ := f.ex
  have fl' := fl
  rw [hstk] at fl'
  obtain ⟨cn, ch⟩ := f.chn
  refine with2 (kp_leaving _ _) ?_
  refine PySem.wpAny_leaves_onW hfr hf fl' fun h' x1 x2 k2' => hQ h' ⟨⟨⟨B, a0, x1, fun b o q n nb => ?_, fun b o q nb => ?_, k3⟩, fun b o q hb => ?_, fun b o q n => ?_, fun b xs q => f.tups b xs (I.base.tups b xs q), fun b o u q => f.frzs b o u (I.base.frzs b o u q), fun b ps q => ?_, ?_⟩, cn, ch.k2 k2'⟩
  · exact k1 b o (I.base.keep b o q n nb (nx b)) (I.base.free b o q n (nx b)) (nst b o q nb)
  · obtain ⟨o', z⟩ := I.base.there b o q (nx b)
    exact k2 b o' z (nst b o q nb)
  · obtain ⟨sl, z⟩ := I.base.slot b o q (I.ok.frf b hb) hb (nx b)
    have hb' : b ∈ frs X.stack := by rw [hfs]; exact List.mem_cons_of_mem _ hb
    obtain ⟨sl', z'⟩ := f.slot b _ z hb'
    obtain ⟨_, ob, ho, hd⟩ := fl.2.2.1.mem hb'
    rw [z'] at ho
    cases ho
    obtain ⟨sl2, z2⟩ := x2 b _ z' hd
    exact ⟨sl2, z2⟩
  · obtain ⟨o', z⟩ := I.base.there b o q (nx b)
    exact f.free b o' z (I.base.free b o q n (nx b))
  · obtain ⟨m1, e1⟩ := I.base.tbls b ps q
    obtain ⟨m2, e2⟩ := f.tbls b _ e1
    exact ⟨m1 ++ m2, by rw [e2, Array.append_assoc]⟩
  · cases q : X.s₀.heap.get? e with
    | none => rfl
    | some o =>
      obtain ⟨o', z⟩ := I.base.there e o q (nx e)
      rw [f.new] at z; cases z
end
def ExcK (K : PySem.W.Frag) (C : Addr) : Prop := PySem.W.excIn K C [.type "ValueError", .type "Exception", .type "BaseException", .type "object"] "ValueError.__new__" = true
theorem exc_obj {K : PySem.W.Frag} {h : Heap} {C : Addr} (X : K.In h) (q : ExcK K C) : ∃ bm N nm qn bs hdct sn sub ab col dd k0 k1 k2 k3 k5 mN, h.get? C = some (excClassObj nm qn C N bs bm hdct sn sub ab col dd k0 k1 k2 k3 k5 "ValueError.__new__") ∧ h.Ns N mN ∧ mN "__init__" = none ∧ OwnTail h [.type "ValueError", .type "Exception", .type "BaseException", .type "object"] bm := by
  unfold ExcK PySem.W.excIn at q
  split at q
  · rename_i d1 cl s1 look
    split at q
    · rename_i C1 tl w0 w1 w2 w3 nid w5 em es
      simp only [Bool.and_eq_true, Bool.not_eq_true', beq_iff_eq] at q
      obtain ⟨⟨⟨⟨⟨rfl, rfl⟩, q1⟩, q2⟩, q3⟩, q4⟩ := q
      obtain ⟨a1, a2, a3, a4, a5, a6, a7, a8, a9, b1, b2⟩ := cl
      dsimp only at em q1 q3 q4
      subst em q1
      obtain rfl : s1 = #[w0, w1, w2, w3, some (.builtin "ValueError.__new__"), w5] := by
        obtain ⟨l⟩ := s1
        simp only at es; rw [es]
      exact ⟨tl, a4, a1, a5, a2, a6, a7, a8, a9, b1, d1, w0, w1, w2, w3, w5, _, X _ _ look, .of_isNs (PySem.W.isNs_of_in X q3), PySem.W.nsMap_none_of_in X q3 q4, PySem.W.tail_of_in X q2⟩
    · cases q
  · cases q
def XOk (X : Cx) (C : Addr) (H : Hp) : Prop := ∀ (pins : List (Addr × Obj)) (σ : St) (s : Shared) (h1 : Heap) (e : Addr) (vs : List Value), Inv X pins σ H s → Heap.MadeExcOf s.heap h1 e (.ref C) vs → X.xe (.ref e) { s with heap := h1 }
def sRaise (X : Cx) (C : Addr) (te : TE) : TS := fun _ σ H => te σ H fun _ H1 => XOk X C H1
theorem ps_raise {X : Cx} {C : Addr} {x : Str} {a : Expr} {te : TE} {np cpos pos : Pos} (hc : X.calm = true) (hg : Gl X x) (hm : X.mg x = some (.ref C)) (hC : ExcK X.K C) (ha : PE X a te)
    (hdb : (x == ("__debug__" : Str)) = false := by decide) (he : starEach [a] X.env = (false, eval a X.env) :: starEach [] X.env := by rfl) : PS X (.Raise (some (.Call (.Name x np) [a] [] cpos)) none pos) (sRaise X C te) := by
  intro pins s σ H D I h
  obtain ⟨bm, N, nm, qn, bs, hdct, sn, sub, ab, col, dd, k0, k1, k2, k3, k5, mN, hO, hN, hni, T⟩ := exc_obj I.ok.mod.kin hC
  refine PySem.wpAny_Raise_call_subU (C := C) (nm := nm) (q := qn) (N := N) (bs := bs) (bm := bm) (hdct := hdct) (sn := sn) (sub := sub) (ab := ab) (col := col) (dd := dd) (k0 := k0) (k1 := k1) (k2 := k2) (k3 := k3) (k5 := k5)
    PySem.F.excBase_ValueError (by decide) PySem.F.excBase_ValueError (mN := mN) (T.hasType PySem.F.excBase_ValueError.hasBase) (I.ok.hd hc) (by rw [he]; rfl) hni (ld_glob I hg hm ⟨rfl, ?_⟩ hdb)
  have z := pa_cons ha pa_nil he cpos pins s σ H (fun us H1 => us.length = 1 ∧ XOk X C H1) I (show te σ H (fun x H1 => [x].length = 1 ∧ XOk X C H1) from by
    have h : te σ H (fun _ H1 => XOk X C H1) := h
    simpa using h)
  rw [he] at z ⊢
  refine Calls.evalArgs_plain (thn z fun vs s1 ⟨us, H1, I1, r, hl, q⟩ => ⟨rfl, ?_, I1.bk _ _ hO, hN.keeps I1.bk, T.keeps I1.bk, fun h' e hx => q pins σ s1 h' e vs I1 hx⟩)
  show vs.length ≤ _
  rw [← r.length, hl]
  decide
def CX1 (P : Program) (w : World) : CXT := fun outer H s E e s' => ∃ a C H', e = .ref a ∧ s'.os = s.os ∧ AllBare s'.gens ∧ Flies P w outer H s.heap H' a (.ref C) s'.heap ∧ E (.ref C) none H'
section
variable {P : Program} {w : World} {K : PySem.W.Frag} {mg : Str → Option Value} {base : Heap} {N : List Str} {qual : Str} {scope : Scope} {f C : Addr} {cd : Value} {A : Around} {outer : List Env} {s : Shared} {H H1 : Hp} {E : XK}
theorem xok_of (h : E (.ref C) none H1) : XOk (cxOf (CX1 P w) P w K mg base N qual scope f cd A outer s H E) C H1 := fun pins σ s' h1 e vs I hx =>
  fly_made (X := cxOf (CX1 P w) P w K mg base N qual scope f cd A outer s H E) I rfl rfl rfl hx fun h' fl => ⟨e, C, H1, rfl, I.os, I.bare, fl, h⟩
end
section
variable {X : Cx} {CX : CXT} {k : Nat} {f C : Addr} {fd : FuncData} {ps : List Str} {sp : Sp} {dvs : List V} {ds : List Value} {x y : Str} {p pos : Pos} {e : Expr} {es : List Expr} {t : TA}
def XPx (X : Cx) (pins : List (Addr × Obj)) (σ : St) (E : XK) (e : Value) (s' : Shared) : Prop := ∃ a C H' H1 s1, e = .ref a ∧ Inv X pins σ H1 s1 ∧ s'.os = s1.os ∧ AllBare s'.gens ∧ Flies X.prog X.w X.stack H1 s1.heap H' a (.ref C) s'.heap ∧ E (.ref C) none H'
theorem call_x (F : FnOk X.prog X.w X.K X.mg X.base (CX1 X.prog X.w) k f fd ps sp) (hr : Room k X.A) (hg : Gl X x) (hm : X.mg x = some (.ref f)) (hk : PySem.W.keepIn X.K (.ref f) = true) (hb : Binds X.K fd ps [])
    (ha : PA X.nox (e :: es) t) {pins : List (Addr × Obj)} {s : Shared} {σ : St} {H : Hp} {Q : VK} {E : XK} (I : Inv X pins σ H s) (h : t σ H fun vs H1 => sp vs H1 Q E)
    (hdb : (x == ("__debug__" : Str)) = false := by decide) (he : starEach (e :: es) X.env = (false, eval e X.env) :: starEach es X.env := by rfl) (hpl : (backTo pos (starEach es X.env)).any (·.1) = false := by rfl) :
    wpAny (model X.prog X.w) X.A (eval (.Call (.Name x p) (e :: es) [] pos) X.env) (EP X pins σ Q) (XPx X pins σ E) s := by
  refine wpAny_Call_Name_kw (ld_glob I hg hm ?_ hdb)
  refine PySem.W.callWith_K (h₀ := X.base) I.ok.mod.kin hk (wpAny_mono (ha pos pins s σ H _ (I.wish _) h) (fun us s1 ⟨vs, H1, I1, r, q⟩ => ⟨I1.unwish.kIn, ?_⟩) fun _ _ z => z.elim) he hpl
  have I1 := I1.unwish
  have hl : us.length = ps.length := by rw [← r.length]; exact F.len _ _ _ _ q
  refine wpAny_call (codeAny_mono (F.run X.A X.stack s1 H1 ⟨us, []⟩ us vs Q E hr I1.env0 ?_ r q) fun rr s' hq => ?_)
  · have z := hb s1 us I1.kIn (by rw [List.append_nil]; exact hl)
    rw [List.append_nil] at z
    exact z
  cases rr with
  | error e =>
    obtain ⟨a, C, H', ee, os, bare, fl, z⟩ := hq
    exact ⟨a, C, H', H1, s1, ee, I1, os, bare, fl, z⟩
  | ok fl =>
    cases fl with
    | ret u => exact I1.after hq
    | next => exact False.elim hq
    | brk => exact False.elim hq
    | cont => exact False.elim hq
end
abbrev TB := (St → Hp → Prop) → XK → St → Hp → Prop
def PB (X : Cx) (body : List Stmt) (t : TB) : Prop := ∀ (pins : List (Addr × Obj)) (s : Shared) (σ : St) (H : Hp) (nx : St → Hp → Prop) (E : XK), Inv X pins σ H s → t nx E σ H →
  wpAny (model X.prog X.w) X.A (execs body X.env) (fun f s' => f = .next ∧ ∃ σ' H', Inv X pins σ' H' s' ∧ nx σ' H') (XPx X pins σ E) s
def Cx.inH (X : Cx) (a : Addr) : Cx := { X with A := X.A.mark (some (.ref a)), calm := false, xe := fun _ _ => False }
section
variable {X : Cx} {pins : List (Addr × Obj)} {σ : St} {H : Hp} {s : Shared} {a : Addr}
theorem Inv.inH (I : Inv X pins σ H s) (a : Addr) : Inv (X.inH a) pins σ H s :=
  ⟨⟨I.ok.mod, I.ok.kind, I.ok.glob, I.ok.blt, I.ok.above, I.ok.inj, I.ok.has, I.ok.cab, fun z => Bool.noConfusion z, I.ok.frames, I.ok.stk, I.ok.exf, I.ok.bs, I.ok.bsz, I.ok.noex, I.ok.exfs, I.ok.funs, I.ok.frf⟩, I.os, I.bare, I.base, I.loc, I.cell, I.free, I.freeC, I.pin, I.hok, I.len⟩
theorem Inv.outH (ok : X.Ok) (I : Inv (X.inH a) pins σ H s) : Inv X pins σ H s := ⟨ok, I.os, I.bare, I.base, I.loc, I.cell, I.free, I.freeC, I.pin, I.hok, I.len⟩
theorem SP.outH {D : Ends} {f : Flow} {s' : Shared} (ok : X.Ok) (h : SP (X.inH a) pins D f s') : SP X pins D f s' := by
  cases f with
  | next => obtain ⟨σ', H', I, q⟩ := h; exact ⟨σ', H', I.outH ok, q⟩
  | brk => obtain ⟨σ', H', I, q⟩ := h; exact ⟨σ', H', I.outH ok, q⟩
  | cont => obtain ⟨σ', H', I, q⟩ := h; exact ⟨σ', H', I.outH ok, q⟩
  | ret u => obtain ⟨v, σ', H', I, r, q⟩ := h; exact ⟨v, σ', H', I.outH ok, r, q⟩
end
section
variable {X : Cx} {t : TB} {th : TS} {y : Str} {c : Value} {py hpos pos : Pos} {body : List Stmt} {b₀ : Stmt} {suite : List Stmt}
def sTry (K : PySem.W.Frag) (c : Value) (t : TB) (th : TS) : TS := fun D σ H => t D.nx (fun cls _ H' => PySem.W.exmOne K cls c = some true ∧ th D σ H') σ H
theorem ps_try (hstk : X.stack = X.env :: X.outer) (hf : X.env.frame = some X.env.locals) (hb : PB X body t) (hh : ∀ a, PSs (X.inH a) (b₀ :: suite) th) (hg : Gl X y) (hm : X.mg y = some c) (hd : (y == ("__debug__" : Str)) = false := by decide) :
    PS X (.Try body [.ExceptHandler (some (.Name y py)) none (b₀ :: suite) hpos] [] [] pos) (sTry X.K c t th) := by
  intro pins s σ H D I h
  have hfr : X.A.frames = some (X.env :: X.outer) := by rw [← hstk]; exact I.ok.frames
  refine wpAny_Try_except (wpAny_mono (hb pins s σ H _ _ I h) (fun f s1 ⟨ef, σ', H', I', q⟩ => ?_) fun e s1 hx => ?_)
  · subst ef
    exact wpAny_execs_nil ⟨σ', H', I', q⟩
  · obtain ⟨a, C, H', H1, s2, rfl, I1, os, bare, fl, hex, hth⟩ := hx
    obtain ⟨B, a0, fl0, go⟩ := fl.go
    have inv : ∀ h', Heap.FlyingW B X.stack a (.ref C) a0 h' → s1.heap.UpToSlots h' → Inv X pins σ H' { s1 with heap := h' } := fun h' x1 x2 =>
      have f' := go h' x1 x2
      I1.call' (s' := { s1 with heap := h' }) os f'.un f'.hok bare (fun _ z => nomatch z)
    rw [hstk] at fl0
    refine wpAny_looks_onW hfr hf fl0 fun h4 held4 up4 => ?_
    refine wpAny_landsW held4 fun h5 fl5 up5 => ?_
    have I5 := inv h5 (by rw [hstk]; exact fl5) (up4.trans up5)
    obtain ⟨ob, hob, hoc⟩ := fl5.there
    have ty : PySem.W.Looks (model X.prog X.w) h5 (typeOf (.ref a)) (.ref C) := by rw [← hoc]; exact (PySem.W.Looks.ld hob).andThen .now
    refine wpAny_handleBy_cons (codeAny_handlers_test (ld_glob (X := X.inH a) (I5.inH a) hg hm ((PySem.W.exm_one I5.kIn ty hex).here ?_) hd)) (by intro q; cases q)
    refine codeAny_handlers_suite ?_
    refine lands_againW fl5 fun h6 fl6 up6 => ?_
    have I6 := inv h6 (by rw [hstk]; exact fl6) ((up4.trans up5).trans up6)
    exact wpAny_mono (hh a pins _ σ H' D (I6.inH a) hth) (fun f s3 q => SP.outH I.ok q) fun _ _ z => z.elim
end
section
variable {X : Cx} {pins : List (Addr × Obj)} {σ : St} {H : Hp} {s : Shared}
theorem unbind_ok {M : Model} {A : Around} {E : Value → Shared → Prop} {i : Nat} {x : Str} {pos : Pos} {Q : Unit → Shared → Prop} (I : Inv X pins σ H s) (hN : X.N.Nodup) (hi : X.N[i]? = some x) (hx : X.env.scope.names.lookup x = some .local)
    (h : ∀ s', Inv X pins (σ.set i none) H s' → Q () s') : wpAny M A (do bindName X.env x .none; unbindBehindTheSuite X.env x pos) Q E s := by
  have hcls : (X.env.scope.kind == .class || (X.env.scope.kind == .module && X.env.locals != X.env.globals)) = false := by rw [I.ok.kind]; rfl
  have hiσ : i < σ.length := by rw [I.len]; exact (List.getElem?_eq_some_iff.mp hi).1
  refine wpAny_bind (wpAny_bindName (store_ok I hN hi (.inl hx) (v := V.non) (u := Value.none) rfl (fun s1 I1 => ?_) (.inr hx)))
  obtain ⟨m, hn, hl⟩ := id I1.loc
  have hv : ∃ v, m x = some v := by
    obtain ⟨u, _, q⟩ := hl i x V.non hi (List.getElem?_set_self hiσ) (.inl hx)
    rcases q with ⟨_, z⟩ | ⟨k, _⟩
    · exact ⟨u, z⟩
    · have k : X.env.scope.names.lookup x = some .cell ∨ X.env.scope.names.lookup x = some .free := k
      rw [hx] at k
      rcases k with k | k <;> cases k
  obtain ⟨v, hv⟩ := hv
  unfold unbindBehindTheSuite
  refine wpAny_onRaise (wpAny_unbindName_local hx hn hv hcls fun h' u hn' hs => h _ ?_)
  obtain ⟨oL, _, _, hoL, _⟩ := id hn
  have cne := I1.cne
  refine ⟨I1.ok, I1.os, I1.bare, ⟨fun b o e n hb hx => ?_, fun b o e n hb hx => ?_, I1.base.free, fun b o e hx => ?_, I1.base.tups, I1.base.frzs, I1.base.tbls⟩, ⟨_, hn', fun j y v' e1 e2 e3 => ?_⟩, fun y c e => ?_, I1.free, I1.freeC, fun p hp => ?_, fun b ob e => ?_, by rw [List.length_set]; exact I.len⟩
  · exact (hs.2 b (Nat.ne_of_lt (Nat.lt_of_lt_of_le (Heap.lt_size e) I1.ok.above))).trans (I1.base.keep b o e n hb hx)
  · obtain ⟨sl, e1⟩ := I1.base.slot b o e n hb hx
    exact ⟨sl, (hs.2 b (Nat.ne_of_lt (Nat.lt_of_lt_of_le (Heap.lt_size e) I1.ok.above))).trans e1⟩
  · obtain ⟨o', e1⟩ := I1.base.there b o e hx
    exact ⟨o', (hs.2 b (Nat.ne_of_lt (Nat.lt_of_lt_of_le (Heap.lt_size e) I1.ok.above))).trans e1⟩
  · by_cases hj : j = i
    · subst hj
      rw [List.getElem?_set_self hiσ] at e2
      cases e2
    · rw [List.getElem?_set_ne (Ne.symm hj)] at e2
      obtain ⟨u', r', q⟩ := hl j y v' e1 (by rw [List.getElem?_set_ne (Ne.symm hj)]; exact e2) e3
      refine ⟨u', r', ?_⟩
      rcases q with ⟨k, e⟩ | ⟨k, c, e, z⟩
      · refine .inl ⟨k, ?_⟩
        have : y ≠ x := fun e => hj (nodup_ix hN e1 (e ▸ hi))
        simp [this, e]
      · exact .inr ⟨k, c, e, z.sameBut hs (cne y c e)⟩
  · obtain ⟨w', z⟩ := I1.cell y c e
    exact ⟨w', z.sameBut hs (cne y c e)⟩
  · obtain ⟨e, n, ne, nf, d⟩ := I1.pin p hp
    exact ⟨(hs.2 p.1 ne).trans e, n, ne, nf, d⟩
  · refine (I1.hok b ob e).stay (fun c w' hc q => (hs.2 c ?_).trans q) (fun _ q => q) fun _ _ q => q
    rintro rfl
    have fr := I1.free
    rcases hc with rfl | hc
    · rw [fr] at e; cases e
    · rw [fr] at hc; cases hc
theorem FliesB.track {P : Program} {w : World} {stack : List Env} {H' : Hp} {h0 h : Heap} {e C : Addr} (f : FliesB P w stack H h0 H' e (.ref C) h) : Un (frs stack) [] H (upd H' e (.ext (OD.excAt e C))) h0 h ∧ HOk P w (upd H' e (.ext (OD.excAt e C))) h := by
  have u := f.un
  have out := f.out
  obtain ⟨B, a0, fl, _⟩ := f.ex
  obtain ⟨ob, hob, hoc⟩ := fl.there
  have ne0 : ∀ b o, h0.get? b = some o → b ≠ e := fun b o q z => by rw [z, f.new] at q; cases q
  have ne1 : ∀ b o, H' b = some o → b ≠ e := fun b o q z => by rw [z, out] at q; cases q
  refine ⟨⟨u.keep, u.slot, fun b o q n hx => by rw [upd_ne (ne0 b o q)]; exact u.free b o q n hx, u.there, fun b xs q => by rw [upd_ne (ne1 b _ (u.tups b xs q))]; exact u.tups b xs q, fun b o v q => by rw [upd_ne (ne1 b _ (u.frzs b o v q))]; exact u.frzs b o v q, fun b ps q => ?_⟩, fun b o q => ?_⟩
  · obtain ⟨m, z⟩ := u.tbls b ps q
    exact ⟨m, by rw [upd_ne (ne1 b _ z)]; exact z⟩
  · by_cases hb : b = e
    · subst hb
      rw [upd_same] at q
      cases q
      exact ⟨⟨ob, hob, hoc⟩, ⟨ob, hob⟩, fun h1 h2 ⟨o, ho, hc⟩ k => ⟨o, k o ho, hc⟩⟩
    · rw [upd_ne hb] at q
      exact (f.hok b o q).stay (fun _ _ _ z => z) (fun c z => by rw [upd_ne (ne1 c _ z)]; exact z) fun c xs z => by rw [upd_ne (ne1 c _ z)]; exact z
end
section
variable {X : Cx} {t : TB} {th : TS} {y n : Str} {j : Nat} {c : Value} {py hpos pos : Pos} {body : List Stmt} {b₀ : Stmt} {suite : List Stmt}
def Ends.off (D : Ends) (j : Nat) : Ends := ⟨fun σ H => D.nx (σ.set j none) H, D.rt, fun σ H => D.bk (σ.set j none) H, fun σ H => D.ct (σ.set j none) H⟩
def sTryAs (K : PySem.W.Frag) (c : Value) (j : Nat) (t : TB) (th : TS) : TS := fun D σ H => t D.nx (fun cls _ H' => PySem.W.exmOne K cls c = some true ∧ ∀ a C, cls = .ref C → H' a = none → th (D.off j) (σ.set j (some (.ref a))) (upd H' a (.ext (OD.excAt a C)))) σ H
theorem ps_tryAs (hstk : X.stack = X.env :: X.outer) (hf : X.env.frame = some X.env.locals) (hN : X.N.Nodup) (hj : X.N[j]? = some n) (hn : X.env.scope.names.lookup n = some .local) (hb : PB X body t) (hh : ∀ a, PSs (X.inH a) (b₀ :: suite) th) (hg : Gl X y) (hm : X.mg y = some c)
    (hd : (y == ("__debug__" : Str)) = false := by decide) : PS X (.Try body [.ExceptHandler (some (.Name y py)) (some n) (b₀ :: suite) hpos] [] [] pos) (sTryAs X.K c j t th) := by
  intro pins s σ H D I h
  have hfr : X.A.frames = some (X.env :: X.outer) := by rw [← hstk]; exact I.ok.frames
  refine wpAny_Try_except (wpAny_mono (hb pins s σ H _ _ I h) (fun f s1 ⟨ef, σ', H', I', q⟩ => ?_) fun e s1 hx => ?_)
  · subst ef
    exact wpAny_execs_nil ⟨σ', H', I', q⟩
  · obtain ⟨a, C, H', H1, s2, rfl, I1, os, bare, fl, hex, hth⟩ := hx
    obtain ⟨B, a0, fl0, go⟩ := fl.go
    have inv : ∀ h', Heap.FlyingW B X.stack a (.ref C) a0 h' → s1.heap.UpToSlots h' → Inv X pins σ H' { s1 with heap := h' } := fun h' x1 x2 =>
      have f' := go h' x1 x2
      I1.call' (s' := { s1 with heap := h' }) os f'.un f'.hok bare (fun _ z => nomatch z)
    rw [hstk] at fl0
    refine wpAny_looks_onW hfr hf fl0 fun h4 held4 up4 => ?_
    refine wpAny_landsW held4 fun h5 fl5 up5 => ?_
    have I5 := inv h5 (by rw [hstk]; exact fl5) (up4.trans up5)
    obtain ⟨ob, hob, hoc⟩ := fl5.there
    have ty : PySem.W.Looks (model X.prog X.w) h5 (typeOf (.ref a)) (.ref C) := by rw [← hoc]; exact (PySem.W.Looks.ld hob).andThen .now
    refine wpAny_handleBy_cons (codeAny_handlers_test (ld_glob (X := X.inH a) (I5.inH a) hg hm ((PySem.W.exm_one I5.kIn ty hex).here ?_) hd)) (by intro q; cases q)
    refine codeAny_handlers_suite_as ?_
    refine lands_againW fl5 fun h6 fl6 up6 => ?_
    have f6 := go h6 (by rw [hstk]; exact fl6) ((up4.trans up5).trans up6)
    have I6 : Inv X pins σ (upd H' a (.ext (OD.excAt a C))) { s1 with heap := h6 } := I1.call' (s' := { s1 with heap := h6 }) os f6.track.1 f6.track.2 bare (fun _ z => nomatch z)
    refine store_ok (X := X.inH a) (v := V.ref a) (I6.inH a) hN hj (.inl hn) rfl (fun s7 I7 => ?_) (.inr hn)
    refine wpAny_mono (hh a pins s7 _ _ (D.off j) I7 (hth a C rfl f6.out)) (fun f s3 q => ?_) fun _ _ z => z.elim
    have q := SP.outH I.ok q
    cases f with
    | next => obtain ⟨σ', H', I', q⟩ := q; exact unbind_ok I' hN hj hn fun s' I'' => ⟨_, H', I'', q⟩
    | brk => obtain ⟨σ', H', I', q⟩ := q; exact unbind_ok I' hN hj hn fun s' I'' => ⟨_, H', I'', q⟩
    | cont => obtain ⟨σ', H', I', q⟩ := q; exact unbind_ok I' hN hj hn fun s' I'' => ⟨_, H', I'', q⟩
    | ret u => obtain ⟨v, σ', H', I', r, q⟩ := q; exact unbind_ok I' hN hj hn fun s' I'' => ⟨v, _, H', I'', r, q⟩
end
end L2
namespace L2
open PySem PySem.Spec PyProof.Rows PySem.W PySem.Builtin PySem.Builtin.ObjectAttr PySem.Builtin.Getset_descriptor
structure IsxOk (K : PySem.W.Frag) (C : Addr) : Prop where
  ga : PySem.W.findIn K (.ref C) "__getattribute__" = some (some (.builtin "BaseException.__getattribute__"))
  gn : PySem.W.findIn K (.ref C) "__getattr__" = some none
  ha : PySem.W.findIn K (.ref C) "__class__" = some (some (.builtin "object.__class__"))
  hn : PySem.W.specialIn K (.builtin "object.__class__") "__get__" = some (some (.builtin "getset_descriptor.__get__"))
  htk : PySem.W.takesIn K (.builtin "object.__class__") = some true
  hm : PySem.W.mroIn K C (.type "object") = some true
  hb : PySem.W.mroIn K C (.type "BaseException") = some true
section
variable {prog : Program} {w : World} {A : Around} {E : Value → Shared → Prop} {s : Shared} {K : PySem.W.Frag} {a C : Addr} {oa : Obj}
theorem exc_get {R : Result → Shared → Prop} {tp : Value} (X : K.In s.heap) (e1 : s.heap.get? a = some oa) (e2 : oa.cls = .ref C) (hm : mroIn K C (.type "object") = some true) (h : R (.ok (.ret (.ref C))) s) :
    codeAny (model prog w) A (.call (.builtin "getset_descriptor.__get__") ⟨[.builtin "object.__class__", .ref a, tp], []⟩) R s := by
  obtain ⟨h0, gs, dn, tn, oo⟩ := s
  have e1 : h0.get? a = some oa := e1
  have Lt : Looks (model prog w) h0 (typeOf (.ref a)) (.ref C) := e2 ▸ (Looks.ld e1).andThen .now
  have Lm := looks_mroIn (M := model prog w) X hm
  refine codeAny_call_builtin KF.slot_gs.plain KF.entry_gs (KF.slot_gs.check (model prog w) _ _ _ _ _ _ _ KF.type_class (KF.args_gs _ _ _) ?_)
  unfold Builtin.«getset_descriptor.__get__» descrGet; rw [dga_obj]
  refine wpAny_bind (wpAny_pure ?_); unfold descrGetter descrCheckInstance descrNameAndClass isInstance
  simp only [KF.owner_class]
  repeat lk
  refine ⟨Code.quiet_builtin _ (by decide +kernel), codeAny_builtin KF.entry_class (by
    unfold Builtin.«object.__class__» shownTypeOf
    repeat lk
    exact h)⟩
theorem exc_class {Q : Option Value → Shared → Prop} (O : IsxOk K C) (X : K.In s.heap) (e1 : s.heap.get? a = some oa) (e2 : oa.cls = .ref C)
    (h : Q (some (.ref C)) { s with toks := s.toks + 1 }) : wpAny (model prog w) A (getAttr? (.ref a) "__class__") Q E s := by
  obtain ⟨h0, gs, dn, tn, oo⟩ := s
  have Lt : Looks (model prog w) h0 (typeOf (.ref a)) (.ref C) := e2 ▸ (Looks.ld e1).andThen .now
  have La := looks_findIn (M := model prog w) X O.ga
  have Ln := looks_findIn (M := model prog w) X O.gn
  have Lf : Looks (model prog w) h0 (Builtin.ObjectAttr.find (.ref a) (.ref C) "__class__") (.bind (.builtin "getset_descriptor.__get__") (.builtin "object.__class__")) :=
    (looks_findIn X O.ha).andThen ((looks_specialIn X O.hn).andThen ((show Looks _ h0 (Builtin.ObjectAttr.dataDescriptor? (some (.builtin "object.__class__")) (some (.builtin "getset_descriptor.__get__"))) (some (.builtin "getset_descriptor.__get__", .builtin "object.__class__")) from (looks_takesIn X O.htk).andThen .now).andThen (Looks.tag .now)))
  unfold getAttr? getAttrBy? getAttrBy
  refine wpAny_bind (wpAny_mkText (wpAny_bind (wpAny_attempt (wpAny_holding (wpAny_bind (Lt.at (wpAny_bind (La.at ?_))))))))
  show wpAny _ _ (getAttrByItsOwn _ _ _ _ _ _) _ _ _
  unfold getAttrByItsOwn hookBefore
  refine wpAny_bind (show wpAny _ _ (typeLookup _ _) _ _ _ from Ln.at (wpAny_bind (wpAny_attempt (wpAny_holding (show wpAny _ _ (boundAndCalled _ _ _) _ _ _ from ?_)))))
  unfold boundAndCalled
  refine wpAny_bind (wpAny_of_eq (PySem.F.attrBase_ValueError.ga.bind (.ref a)) ?_)
  have Lb := looks_mroIn (M := model prog w) X O.hb
  refine wpAny_call (codeAny_call_builtin PySem.F.attrBase_ValueError.ga.plain PySem.F.entry_bexc_ga ?_)
  have hk1 : builtinKind "BaseException.__getattribute__" = some .slot := by decide +kernel
  have hk2 : splitId "BaseException.__getattribute__" = some ("BaseException", "__getattribute__") := by decide +kernel
  have hk3 := PySem.F.args_bexc_ga (.ref a) (.str "__class__" tn)
  simp only [checkBuiltinCall, hk1, hk2]
  unfold isInstance
  refine wpAny_bind (wpAny_bind (Lt.at (Lb.at ?_)))
  have hid : ∃ z, z = oa ∧ h0.get? a = some z := ⟨oa, rfl, e1⟩
  clear e1
  repeat (any_goals (first | assumption | wp_step))
  obtain ⟨z, rfl, e1⟩ := hid
  refine wpAny_loadPart_at e1 ?_
  refine wpAny_pure ?_
  rw [e2]
  refine wpAny_bind (Lf.at ?_)
  show wpAny _ _ (holding [Value.builtin "object.__class__"] (call (Value.builtin "getset_descriptor.__get__") [Value.builtin "object.__class__", Value.ref a, Value.ref C]) >>= ret) _ _ _
  exact wpAny_bind (wpAny_holding (wpAny_call (exc_get (s := ⟨h0, gs, dn, tn + 1, oo⟩) X e1 e2 O.hm (wpAny_pure (handed_on rfl (wpAny_pure h))))))
end
theorem cls_there {K : PySem.W.Frag} {C : Addr} {b : Value} {r : Bool} (e : mroIn K C b = some r) : ∃ c d cd sl, K.lookup C = some ⟨c, d, .cls cd, sl⟩ := by
  unfold mroIn clsIn at e
  revert e
  cases q : K.lookup C with
  | none => intro e; simp at e
  | some o =>
    obtain ⟨c, d, dt, sl⟩ := o
    cases dt <;> intro e <;> first | exact ⟨_, _, _, _, rfl⟩ | simp at e
theorem kitx_exc {K : PySem.W.Frag} {a C : Addr} (O : IsxOk K C) : KitX K (.ref a) (.ref C) (OD.excAt a C) where
  ty := fun _ _ _ ⟨_, e1, e2⟩ => e2 ▸ (Looks.ld e1).andThen .now
  it := fun _ _ X _ => by
    obtain ⟨c, d, cd, sl, hl⟩ := cls_there O.hm
    intro A1 Q1 E1 s1 k1 q1
    unfold isType loadHead
    exact wpAny_bind (wpAny_loadPart (k1 _ _ (X _ _ hl)) (wpAny_pure q1))
  ne := fun h tp dd its n sl X htp => by
    obtain ⟨c, d, cd, sl1, hl⟩ := cls_there O.hm
    refine Bool.eq_false_iff.mpr fun q => ?_
    have e : C = tp := Value.ref.inj (eq_of_beq q)
    rw [e] at hl
    have z := (X _ _ hl).symm.trans htp; cases z
  ca := fun X ⟨_, e1, e2⟩ k => exc_class O X e1 e2 k
end L2
namespace OD
open PySem PySem.Spec PyProof.Rows L2
variable {Z : Hp}
def XOn (X : Cx) (C : Addr) (H' : Hp) : Prop := ∀ (pins : List (Addr × Obj)) (σ : L2.St) (H : Hp) (s : Shared) (a : Addr) (s' : Shared), Inv X pins σ H s → s'.os = s.os → AllBare s'.gens → Flies X.prog X.w X.stack H s.heap H' a (.ref C) s'.heap → X.xe (.ref a) s'
def Ecan (X : Cx) : XK := fun cls _ H' => ∃ C, cls = .ref C ∧ XOn X C H'
theorem pass_can {X : Cx} : Passes (CX1 X.prog X.w) X (Ecan X) := fun pins σ H s e s' I ⟨a, C, H', ee, os, bare, fl, C', ec, h⟩ => by
  cases ec
  subst ee
  exact h pins σ H s a s' I os bare fl
def Rz (X : Cx) (C : Addr) : Prop := ∀ H', Same (Zx X) H' → XOk X C H' ∧ XOn X C H'
section
variable {P : Program} {w : World} {K : PySem.W.Frag} {mg : Str → Option Value} {base : Heap} {N : List Str} {qual : Str} {scope : Scope} {f C : Addr} {cd : Value} {A : Around} {outer : List Env} {s : Shared} {H H1 : Hp} {E : XK}
theorem rz_of (h : ∀ H', Same H H' → E (.ref C) none H') : Rz (cxOf (CX1 P w) P w K mg base N qual scope f cd A outer s H E) C := fun H' z => by
  rw [zx_def] at z
  refine ⟨xok_of (h H' z), fun pins σ H2 s2 a s' I os bare fl => ?_⟩
  exact fly_on (X := cxOf (CX1 P w) P w K mg base N qual scope f cd A outer s H E) I rfl rfl rfl fl fun h' fl' => ⟨a, C, H', rfl, os.trans I.os, bare, fl', h H' z⟩
end
abbrev DSpX := List Dt → (Dt → Prop) → (Addr → Prop) → Prop
def PureSpX (K : PySem.W.Frag) (S : DSpX) : Sp := fun vs H Q E => ∃ (W : Vw) (ds : List Dt) (Qd : Dt → Prop) (Ed : Addr → Prop), W.h = H ∧ AllIs K W.g ds vs ∧ S ds Qd Ed ∧ (∀ d v W', Le W W' → Is K W'.g d v → Qd d → Q v W'.h) ∧ ∀ C H', Same W.h H' → Ed C → E (.ref C) none H'
def FreshSpX (K : PySem.W.Frag) (S : DSpX) : Sp := fun vs H Q E => ∃ (W : Vw) (ds : List Dt) (Qd : Dt → Prop) (Ed : Addr → Prop), W.h = H ∧ AllIs K W.g ds vs ∧ S ds Qd Ed ∧
  (∀ es p xs W', Le W W' → W.h p = none → W'.h p = some (.lst xs) → W'.g p = none → AllIs K W'.g es xs → Qd (.lst es) → Q (.ref p) W'.h) ∧ ∀ C H', Same W.h H' → Ed C → E (.ref C) none H'
structure DOkX (P : Program) (w : World) (K : PySem.W.Frag) (mg : Str → Option Value) (base : Heap) (n : Nat) (x : Str) (S : DSpX) : Prop where
  ex : ∃ f fd ps, mg x = some (.ref f) ∧ PySem.W.keepIn K (.ref f) = true ∧ Binds K fd ps [] ∧ FnOk P w K mg base (CX1 P w) n f fd ps (PureSpX K S)
structure FOkX (P : Program) (w : World) (K : PySem.W.Frag) (mg : Str → Option Value) (base : Heap) (n : Nat) (x : Str) (S : DSpX) : Prop where
  ex : ∃ f fd ps, mg x = some (.ref f) ∧ PySem.W.keepIn K (.ref f) = true ∧ Binds K fd ps [] ∧ FnOk P w K mg base (CX1 P w) n f fd ps (FreshSpX K S)
section
variable {P : Program} {w : World} {K : PySem.W.Frag} {mg : Str → Option Value} {base : Heap}
theorem Fun.okX {CX : CXT} {x qual : Str} {st : Stmt} {f : Addr} {fd : FuncData} {N ps : List Str} {k : Nat} {sp : Sp} (F : Fun K x qual st f fd) (S : FnScope N ps (defScope st)) (len : ∀ vs H Q E, sp vs H Q E → vs.length = ps.length)
    (hbody : ∀ (cdv : Value) (A : Around) (outer : List Env) (s : Shared) (H : Hp) (vs : List V) (Q : VK) (E : XK), Room k (A.deeper (envOfC qual (defScope st) s.heap.objs.size f cdv)) → sp vs H Q E →
      ∃ t, PSs (cxOf CX P w K mg base N qual (defScope st) f cdv A outer s H E) (defBody st) t ∧ t { nx := fun _ H' => Q .non H', rt := Q } (start N vs) H) : FnOk P w K mg base CX (k + 1) f fd ps sp := by
  obtain ⟨oc, od, kV, doc, pm, an, cdv, ct, osl, rfl, lk, hcd⟩ := F.ex
  exact fn_of lk hcd S len fun A outer s H vs Q E hr h => hbody cdv A outer s H vs Q E hr h
theorem okDX {x qual : Str} {st : Stmt} {f : Addr} {fd : FuncData} {N ps : List Str} {k : Nat} {S : DSpX} (F : Fun K x qual st f fd) (sc : FnScope N ps (defScope st)) (len : ∀ ds Q R, S ds Q R → ds.length = ps.length)
    (hbody : ∀ (cdv : Value) (A : Around) (outer : List Env) (s : Shared) (H : Hp) (E : XK), Room k (A.deeper (envOfC qual (defScope st) s.heap.objs.size f cdv)) → ∀ (ds : List Dt) (Q : Dt → Prop) (R : Addr → Prop), S ds Q R →
      (∀ C, R C → Rz (cxOf (CX1 P w) P w K mg base N qual (defScope st) f cdv A outer s H E) C) →
      ∃ t, DSs (cxOf (CX1 P w) P w K mg base N qual (defScope st) f cdv A outer s H E) .d (defBody st) t ∧ t { nx := fun _ => Q .non, rt := Q } (dstart N.length ds)) : FnOk P w K mg base (CX1 P w) (k + 1) f fd ps (PureSpX K S) := by
  refine Fun.okX F sc (fun vs H Q E h => ?_) (fun cdv A outer s H vs Q E hr h => ?_)
  · obtain ⟨W, ds, Qd, Ed, _, ia, hS, _⟩ := h
    rw [← ia.length]
    exact len ds Qd Ed hS
  obtain ⟨W, ds, Qd, Ed, rfl, ia, hS, kk, ke⟩ := h
  obtain ⟨t, ⟨ts, p, l⟩, ht⟩ := hbody cdv A outer s W.h E hr ds Qd Ed hS fun C hC => rz_of fun H' z => ke C H' z hC
  refine ⟨ts, p, l W W.g (dstart N.length ds) (start N vs) W { nx := fun _ => Qd .non, rt := Qd } _ (at_start ia (zx_stk (Nat.succ_ne_self _))) ⟨fun ρ σ W' a q => kk .non .non W' a.le (is_non.mpr rfl) q, fun d v W' s' i' q => kk d v W' s' i' q, fun _ _ _ _ q => q.elim, fun _ _ _ _ q => q.elim⟩ ht⟩
theorem DOkX.mk' {x qual : Str} {st : Stmt} {f : Addr} {fd : FuncData} {ps : List Str} {n : Nat} {S : DSpX} (F : Fun K x qual st f fd) (hm : mg x = some (.ref f)) (hb : Binds K fd ps []) (h : FnOk P w K mg base (CX1 P w) n f fd ps (PureSpX K S)) : DOkX P w K mg base n x S :=
  ⟨f, fd, ps, hm, F.kp, hb, h⟩
theorem FOkX.mk' {x qual : Str} {st : Stmt} {f : Addr} {fd : FuncData} {ps : List Str} {n : Nat} {S : DSpX} (F : Fun K x qual st f fd) (hm : mg x = some (.ref f)) (hb : Binds K fd ps []) (h : FnOk P w K mg base (CX1 P w) n f fd ps (FreshSpX K S)) : FOkX P w K mg base n x S :=
  ⟨f, fd, ps, hm, F.kp, hb, h⟩
theorem DOkX.mono {x : Str} {m n : Nat} {S : DSpX} (h : DOkX P w K mg base m x S) (hl : m ≤ n) : DOkX P w K mg base n x S :=
  let ⟨f, fd, ps, h1, h2, h3, h4⟩ := h.ex; ⟨f, fd, ps, h1, h2, h3, h4.mono hl⟩
theorem FOkX.mono {x : Str} {m n : Nat} {S : DSpX} (h : FOkX P w K mg base m x S) (hl : m ≤ n) : FOkX P w K mg base n x S :=
  let ⟨f, fd, ps, h1, h2, h3, h4⟩ := h.ex; ⟨f, fd, ps, h1, h2, h3, h4.mono hl⟩
end
section
variable {X : Cx} {e a : Expr} {es : List Expr} {t : DTA} {ta : DTE} {n : Nat} {x y : Str} {S : DSpX} {p pos np cpos : Pos} {fr : Fr} {C : Addr}
theorem rl_zx {F : Hp} {W : Vw} {ρ : DS} {σ : L2.St} {K : PySem.W.Frag} (r : Rl K Z F W ρ σ) : Same Z W.h := r.z.trans r.fr
def dCallX (X : Cx) (S : DSpX) (t : DTA) : DTE := fun ρ Q => t ρ fun ds => S ds Q (Rz X)
theorem de_callX (G : DOkX X.prog X.w X.K X.mg X.base n x S) (hr : Room n X.A) (hg : Gl X x) (ha : DA X (e :: es) t) (hdb : (x == ("__debug__" : Str)) = false := by decide)
    (he : starEach (e :: es) X.env = (false, eval e X.env) :: starEach es X.env := by rfl) (hpl : (backTo pos (starEach es X.env)).any (·.1) = false := by rfl) : DE X (.Call (.Name x p) (e :: es) [] pos) (dCallX X S t) := by
  obtain ⟨f, fd, ps, hm, hk, hb, F⟩ := G.ex
  obtain ⟨te, p1, l1⟩ := ha
  refine ⟨_, pe_call F hr hg hm hk hb .nil pass_can p1 hdb he hpl, fun ρ σ H Q r h R k => l1 ρ σ H _ r h _ fun ds vs H1 s1 i1 q1 => ?_⟩
  rw [List.append_nil]
  exact ⟨H1, ds, Q, Rz X, rfl, i1, q1, fun d v H2 s2 i2 q2 => k d v H2 (s1.trans s2) i2 q2, fun C H' s' hC => ⟨C, rfl, (hC H' (((rl_zx r).trans s1.h).trans s')).2⟩⟩
def dRaise (X : Cx) (C : Addr) (ta : DTE) : DTS := fun _ ρ => ta ρ fun _ => Rz X C
theorem ds_raise (hc : X.calm = true) (hg : Gl X x) (hm : X.mg x = some (.ref C)) (hC : ExcK X.K C) (ha : DE X a ta) (hdb : (x == ("__debug__" : Str)) = false := by decide)
    (he : starEach [a] X.env = (false, eval a X.env) :: starEach [] X.env := by rfl) : DSt X fr (.Raise (some (.Call (.Name x np) [a] [] cpos)) none pos) (dRaise X C ta) := by
  obtain ⟨te, p1, l1⟩ := ha
  exact ⟨_, ps_raise hc hg hm hC p1 hdb he, fun W0 G ρ σ W D D' at_ s h => l1 ρ σ W _ at_.rl h _ fun d v W1 s1 i1 q1 => (q1 W1.h ((rl_zx at_.rl).trans s1.h)).1⟩
def liftS (K : PySem.W.Frag) (Z : Hp) (fr : Fr) (t : DTS) : TS := fun D' σ H => ∃ (W0 : Vw) (G : Hp) (ρ : DS) (W : Vw) (D : DEnds), W.h = H ∧ At K Z W0 G W ρ σ ∧ Sim K Z fr W0 G D D' ∧ t D ρ
theorem DSs.up {sts : List Stmt} {t : DTS} (h : DSs X fr sts t) : PSs X sts (liftS X.K (Zx X) fr t) := by
  obtain ⟨ts, p, l⟩ := h
  intro pins s σ H D' I q
  obtain ⟨W0, G, ρ, W, D, rfl, a, sm, ht⟩ := q
  exact p pins s σ W.h D' I (l W0 G ρ σ W D D' a sm ht)
def Vw.at (W : Vw) (H' : Hp) (s : Same W.h H') : Vw := ⟨W.g, H', W.sub.trans s⟩
theorem le_at {W : Vw} {H' : Hp} (s : Same W.h H') : Le W (W.at H' s) := ⟨Same.refl _, s, fun _ _ h => h⟩
variable {b₀ : Stmt} {suite : List Stmt} {th : DTS} {c : Value} {py hpos epos tpos : Pos}
theorem pb_expr {f : Addr} {fd : FuncData} {ps : List Str} {sp : Sp} {te : TA} (F : FnOk X.prog X.w X.K X.mg X.base (CX1 X.prog X.w) n f fd ps sp) (hr : Room n X.A) (hg : Gl X x) (hm : X.mg x = some (.ref f)) (hk : PySem.W.keepIn X.K (.ref f) = true) (hb : Binds X.K fd ps []) (ha : PA X.nox (e :: es) te)
    (hs : swapsWith (.Call (.Name x p) (e :: es) [] pos) none epos.line X.env = pure false := by rfl) (hdb : (x == ("__debug__" : Str)) = false := by decide)
    (he : starEach (e :: es) X.env = (false, eval e X.env) :: starEach es X.env := by rfl) (hpl : (backTo pos (starEach es X.env)).any (·.1) = false := by rfl) :
    PB X [.Expr (.Call (.Name x p) (e :: es) [] pos) epos] (fun nx E σ H => te σ H fun vs H1 => sp vs H1 (fun _ H2 => nx σ H2) E) := by
  intro pins s σ H nx E I h
  refine wpAny_execs_cons (wpAny_Expr_any (thn (call_x F hr hg hm hk hb ha I h hdb he hpl) fun v s1 ⟨x, H1, I1, r1, q1⟩ => ?_) I.quiet hs)
  exact wpAny_execs_nil ⟨rfl, σ, H1, I1, q1⟩
end
theorem Rl.unset {K : PySem.W.Frag} {F : Hp} {W : Vw} {ρ : DS} {σ : L2.St} (r : Rl K Z F W ρ σ) (j : Nat) : Rl K Z F W (ρ.set j .none) (σ.set j none) := by
  refine ⟨by rw [List.length_set, List.length_set]; exact r.len, fun i d q => ?_, fun i ds q => ?_, fun i k ds es hik q1 q2 => ?_, r.fr, r.z, fun i c ds q => ?_⟩
  · rcases set_get q with ⟨_, _, e1⟩ | ⟨hij, q⟩
    · cases e1
    · rw [List.getElem?_set_ne hij]; exact r.at_ i d q
  · rcases set_get q with ⟨_, _, e1⟩ | ⟨hij, q⟩
    · cases e1
    · rw [List.getElem?_set_ne hij]; exact r.ow i ds q
  · rcases set_get q1 with ⟨_, _, e1⟩ | ⟨h1, q1⟩
    · cases e1
    rcases set_get q2 with ⟨_, _, e1⟩ | ⟨h2, q2⟩
    · cases e1
    rw [List.getElem?_set_ne h1, List.getElem?_set_ne h2]; exact r.ne i k ds es hik q1 q2
  · rcases set_get q with ⟨_, _, e1⟩ | ⟨hij, q⟩
    · cases e1
    obtain ⟨⟨ys', g1, g2⟩, k1, k2⟩ := r.ar i c ds q
    refine ⟨⟨ys', by rw [List.getElem?_set_ne hij]; exact g1, g2⟩, fun k es' q' => ?_, fun k c' es' q' => ?_⟩
    · rcases set_get q' with ⟨_, _, e1⟩ | ⟨hik, q'⟩
      · cases e1
      · rw [List.getElem?_set_ne hik]; exact k1 k es' q'
    · rcases set_get q' with ⟨_, _, e1⟩ | ⟨hik, q'⟩
      · cases e1
      exact k2 k c' es' q'
theorem At.unset {K : PySem.W.Frag} {W0 W : Vw} {G : Hp} {ρ : DS} {σ : L2.St} (a : At K Z W0 G W ρ σ) (j : Nat) : At K Z W0 G W (ρ.set j .none) (σ.set j none) := ⟨a.le, a.gs, a.rl.unset j⟩
abbrev DEnds.off (D : DEnds) (j : Nat) : DEnds := ⟨fun ρ => D.nx (ρ.set j .none), D.rt, fun ρ => D.bk (ρ.set j .none), fun ρ => D.ct (ρ.set j .none)⟩
theorem Sim.off {K : PySem.W.Frag} {fr : Fr} {W0 : Vw} {G : Hp} {D : DEnds} {D' : Ends} (s : Sim K Z fr W0 G D D') (j : Nat) : Sim K Z fr W0 G (D.off j) (D'.off j) :=
  ⟨fun ρ σ W' a q => s.nx _ _ W' (a.unset j) q, s.tl, fun ρ σ W' a q => s.bk _ _ W' (a.unset j) q, fun ρ σ W' a q => s.ct _ _ W' (a.unset j) q⟩
section
variable {X : Cx} {e : Expr} {es : List Expr} {t : DTA} {n : Nat} {x y m : Str} {i j : Nat} {S : DSpX} {p pos py hpos epos tpos : Pos} {fr : Fr} {b₀ : Stmt} {suite : List Stmt} {th : DTS} {c : Value}
def dTryAs (K : PySem.W.Frag) (c : Value) (j : Nat) (S : DSpX) (t : DTA) (th : DTS) : DTS := fun D ρ => t ρ fun ds => S ds (fun _ => D.nx ρ) fun C => PySem.W.exmOne K (.ref C) c = some true ∧ th (D.off j) (ρ.set j (.some (.exc C)))
theorem at_exc {K : PySem.W.Frag} {W0 W1 : Vw} {G H' : Hp} {ρ : DS} {σ : L2.St} {C a : Addr} (at_ : At K Z W0 G W1 ρ σ) (s' : Same W1.h H') (hn : H' a = none) (j : Nat) :
    At K Z W0 G ((W1.at H' s').new a (.ext (excAt a C))) (ρ.set j (.some (.exc C))) (σ.set j (some (.ref a))) :=
  ((at_.step (le_at s')).step (le_new (W := W1.at H' s') hn _)).set j (is_exc.mpr ⟨a, rfl, upd_same⟩)
theorem ds_tryAs (hstk : X.stack = X.env :: X.outer) (hf : X.env.frame = some X.env.locals) (hN : X.N.Nodup) (hj : X.N[j]? = some m) (hmj : X.env.scope.names.lookup m = some .local) (G : DOkX X.prog X.w X.K X.mg X.base n x S) (hr : Room n X.A) (hg : Gl X x) (ha : DA X.nox (e :: es) t) (hh : ∀ a, DSs (X.inH a) fr (b₀ :: suite) th) (hgy : Gl X y) (hmy : X.mg y = some c)
    (hs : swapsWith (.Call (.Name x p) (e :: es) [] pos) none epos.line X.env = pure false := by rfl) (hdb : (x == ("__debug__" : Str)) = false := by decide) (hdy : (y == ("__debug__" : Str)) = false := by decide)
    (he : starEach (e :: es) X.env = (false, eval e X.env) :: starEach es X.env := by rfl) (hpl : (backTo pos (starEach es X.env)).any (·.1) = false := by rfl) :
    DSt X fr (.Try [.Expr (.Call (.Name x p) (e :: es) [] pos) epos] [.ExceptHandler (some (.Name y py)) (some m) (b₀ :: suite) hpos] [] [] tpos) (dTryAs X.K c j S t th) := by
  obtain ⟨f, fd, ps, hm, hk, hb, F⟩ := G.ex
  obtain ⟨te, p1, l1⟩ := ha
  refine ⟨_, ps_tryAs (th := liftS X.K (Zx X) fr th) hstk hf hN hj hmj (pb_expr F hr hg hm hk hb p1 hs hdb he hpl) (fun a => (hh a).up) hgy hmy hdy, fun W0 G ρ σ W D D' at_ s h => ?_⟩
  refine l1 ρ σ W _ at_.rl h _ fun ds vs W1 s1 i1 q1 => ⟨W1, ds, _, _, rfl, i1, q1, fun d v W2 s2 i2 q2 => s.nx ρ σ W2 ((at_.step s1).step s2) q2, fun C H' s' ⟨e1, e2⟩ => ⟨e1, fun a C' ec hn => ?_⟩⟩
  cases ec
  exact ⟨W0, G, _, _, _, rfl, at_exc (at_.step s1) s' hn j, s.off j, e2⟩
theorem call_isiX : CallR X (.builtin "isinstance") (fun xs H Q => ∃ a C vc c b, xs = [.ref a, vc] ∧ (∀ u, RelV vc u → u = c) ∧ H a = some (.ext (excAt a C)) ∧ IsxOk X.K C ∧ PySem.W.kitOne X.K (.ref C) c = some b ∧ Q (.bl b) H) := by
  intro pins s σ H xs us Q I r h
  obtain ⟨a, C, vc, c, b, rfl, hvc, ha, O, hk, q⟩ := h
  cases r with
  | cons r1 r2 =>
    cases r2 with
    | cons r3 r4 =>
      cases r4
      cases r1
      cases hvc _ r3
      exact PySem.W.kia_one (kitx_exc O) I.kIn (I.hok a _ ha).1 hk (fun z => nomatch z) fun tk => ⟨.bl b, H, I.tok _, rfl, q⟩
def dIsiX (K : PySem.W.Frag) (c : Value) (ta : DTE) : DTE := fun ρ Q => ta ρ fun d => ∃ C b, d = .exc C ∧ IsxOk K C ∧ PySem.W.kitOne K (.ref C) c = some b ∧ Q (.bl b)
theorem de_isiX {a : Expr} {ta : DTE} {p0 p' : Pos} {D : Addr} (hm : X.mg "isinstance" = none) (hmc : X.mg y = some (.ref D)) (ha : DE X a ta)
    (hg : Gl X "isinstance" := by rfl) (hgc : Gl X y := by rfl) (hdy : (y == ("__debug__" : Str)) = false := by decide)
    (hs : starEach [a, .Name y p'] X.env = (false, eval a X.env) :: starEach [.Name y p'] X.env := by rfl) (hs2 : starEach [.Name y p'] X.env = (false, eval (.Name y p') X.env) :: starEach [] X.env := by rfl)
    (hpl : (backTo pos (starEach [.Name y p'] X.env)).any (·.1) = false := by rfl) :
    DE X (.Call (.Name "isinstance" p0) [a, .Name y p'] [] pos) (dIsiX X.K (.ref D) ta) := by
  obtain ⟨te, p1, l1⟩ := ha
  have pc : PE X (.Name y p') (tC (.ref D)) := pe_glob hgc hmc rfl hdy
  refine ⟨_, pe_callB call_isiX hg hm boot_isinstance (pa_cons p1 (pa_cons pc pa_nil hs2) hs) (by decide) (by decide) hs hpl, fun ρ σ H Q r h R k => l1 ρ σ H _ r h _ fun d v H1 s1 i1 ⟨C, b, ed, ok, e, q⟩ => ?_⟩
  subst ed
  obtain ⟨z, rfl, hz⟩ := is_exc.mp i1
  exact ⟨z, C, _, _, b, rfl, fun u hu => hu, H1.sub _ _ hz, ok, e, k _ _ H1 s1 (is_bl.mpr rfl) q⟩
theorem de_isiXB {a : Expr} {ta : DTE} {p0 p' : Pos} (hm : X.mg "isinstance" = none) (hmc : X.mg "ValueError" = none) (ha : DE X a ta)
    (hg : Gl X "isinstance" := by rfl) (hgc : Gl X "ValueError" := by rfl)
    (hs : starEach [a, .Name "ValueError" p'] X.env = (false, eval a X.env) :: starEach [.Name "ValueError" p'] X.env := by rfl) (hs2 : starEach [.Name "ValueError" p'] X.env = (false, eval (.Name "ValueError" p') X.env) :: starEach [] X.env := by rfl)
    (hpl : (backTo pos (starEach [.Name "ValueError" p'] X.env)).any (·.1) = false := by rfl) :
    DE X (.Call (.Name "isinstance" p0) [a, .Name "ValueError" p'] [] pos) (dIsiX X.K (.type "ValueError") ta) := by
  obtain ⟨te, p1, l1⟩ := ha
  have pc : PE X (.Name "ValueError" p') (tC (.ty "ValueError")) := fun pins s σ H Q I h => ld_blt I hgc hmc (by decide +kernel) ⟨.ty "ValueError", H, I, rfl, h⟩
  refine ⟨_, pe_callB call_isiX hg hm boot_isinstance (pa_cons p1 (pa_cons pc pa_nil hs2) hs) (by decide) (by decide) hs hpl, fun ρ σ H Q r h R k => l1 ρ σ H _ r h _ fun d v H1 s1 i1 ⟨C, b, ed, ok, e, q⟩ => ?_⟩
  subst ed
  obtain ⟨z, rfl, hz⟩ := is_exc.mp i1
  exact ⟨z, C, _, _, b, rfl, fun u hu => hu, H1.sub _ _ hz, ok, e, k _ _ H1 s1 (is_bl.mpr rfl) q⟩
end
end OD

namespace OD
variable {Z : Hp}
open PySem PySem.Spec PyProof.Rows L2
def cxCompG (X : Cx) (scope : Scope) (cl : List (Str × Addr)) (bs caps : List Str) (C : Addr) (s : Shared) (H : Hp) (fp : List Addr) (pins : List (Addr × Obj)) : Cx where
  prog := X.prog
  w := X.w
  K := X.K
  mg := X.mg
  base := X.base
  A := X.A
  N := bs ++ caps
  s₀ := s
  H₀ := H
  env := compEnvC scope cl C X.env
  outer := X.stack
  stack := X.stack
  ex := fp
  fn := fun y => bs.contains y
  calm := X.calm
  pn := X.pn ++ pins
  xe := fun _ _ => False
structure CompScG (X : Cx) (scope : Scope) (cl : List (Str × Addr)) (bs caps : List Str) (js : List Nat) : Prop where
  clos : closureFor scope X.env = pure cl
  sub : ∀ y c, cl.lookup y = some c → X.env.cells.lookup y = some c
  has : ∀ y, ((relabel scope X.env).names.lookup y = some .cell ∨ (relabel scope X.env).names.lookup y = some .free) → ∃ c, cl.lookup y = some c
  nox : ∀ x ∈ bs, cl.lookup x = none
  cell : ∀ y ∈ scope.names, y.2 ≠ .cell
  kind : scope.kind = .function
  names : ∀ y ∈ scope.names, y.2 = .local → scope.names.lookup y.1 = some .local
  loc : ∀ x ∈ bs, scope.names.lookup x = some .local
  nd : (bs ++ caps).Nodup
  len : js.length = caps.length
  at_ : ∀ (k : Nat) y, caps[k]? = some y → ∃ j, js[k]? = some j ∧ X.N[j]? = some y
  cap : ∀ y ∈ caps, (relabel scope X.env).names.lookup y = some .cell ∧ X.env.scope.names.lookup y = some .cell
theorem codeAny_compLoop_any {prog : Program} {w : World} {A : Around} {s : Shared} {elt target iter : Expr} {ifs : List Expr} {scope : Scope} {pos : Pos} {it acc : Value} {env : Env} {R : Result → Shared → Prop} (I : Nat → Shared → Prop)
    (turn : ∀ n s, I n s → wpAny (model prog w) A (pyNext it) (fun r s₁ => match r with
      | none => R (.ok .next) s₁
      | some v => wpAny (model prog w) A (letOwnedTupleGo target it v) (fun _ s₁' => wpAny (model prog w) A (assign target env v) (fun _ s₂ =>
          wpAny (model prog w) A (forIn ifs true fun c r => if r = true then do let ok ← isTrue c env (eval c env); pure (ForInStep.yield ok) else pure (ForInStep.yield r)) (fun ok s₃ =>
            if ok = true then wpAny (model prog w) A (eval elt env) (fun x s₄ =>
              wpAny (model prog w) A (call (.builtin "list.append") [acc, x]) (fun _ s₅ => ∃ m, m < n ∧ I m s₅) (notedBy (model prog w) A env fun e s' => R (.error e) s') s₄) (notedBy (model prog w) A env fun e s' => R (.error e) s') s₃
            else ∃ m, m < n ∧ I m s₃) (notedBy (model prog w) A env fun e s' => R (.error e) s') s₂)
          (notedBy (model prog w) A env fun e s' => R (.error e) s') s₁') (notedBy (model prog w) A env fun e s' => R (.error e) s') s₁) (notedBy (model prog w) A env fun e s' => R (.error e) s') s)
    (n : Nat) (h : I n s) : codeAny (model prog w) A (.compLoop (.ListComp elt [⟨target, iter, ifs, 0⟩] scope pos) 0 it acc env) R s := by
  refine codeAny_loop rfl I (fun n s hI => ?_) n h
  show wpAny _ A ((compTurn (.ListComp elt [⟨target, iter, ifs, 0⟩] scope pos) 0 it acc env).onRaise (fun x => do noteFrame x env; theTreesLotGoes x)) _ _ s
  refine wpAny_noted ?_
  rw [compTurn_list]
  refine wpAny_bind (wpAny_standAt (wpAny_bind (wpAny_mono (turn n s hI) (fun r s₁ h₁ => ?_) fun _ _ h' => h')))
  cases r with
  | none => exact wpAny_pure h₁
  | some v =>
    refine wpAny_bind (wpAny_mono h₁ (fun _ s₁' h₁' => ?_) fun _ _ h' => h')
    refine wpAny_bind (wpAny_mono h₁' (fun _ s₂ h₂ => wpAny_bind (wpAny_mono h₂ (fun ok s₃ h₃ => ?_) fun _ _ h' => h')) fun _ _ h' => h')
    cases ok with
    | false => exact wpAny_pure ⟨rfl, h₃⟩
    | true =>
      exact wpAny_bind (wpAny_bind (wpAny_mono h₃ (fun x s₄ h₄ => wpAny_bind (wpAny_mono h₄ (fun _ s₅ h₅ => wpAny_pure (wpAny_pure ⟨rfl, h₅⟩)) fun _ _ h' => h')) fun _ _ h' => h'))
def PC (X : Cx) (ifs : List Expr) (t : TT) : Prop :=
  ∀ (pins : List (Addr × Obj)) (s : Shared) (σ : St) (H : Hp) (Q : Bool → Hp → Prop) (E : Value → Shared → Prop), (∀ v s, X.xe v s → E v s) → Inv X pins σ H s → t σ H Q →
    wpAny (model X.prog X.w) X.A (forIn ifs true fun c r => if r = true then do let ok ← isTrue c X.env (eval c X.env); pure (ForInStep.yield ok) else pure (ForInStep.yield r)) (TP X pins σ Q) E s
theorem pc_nil {X : Cx} : PC X [] (fun _ H Q => Q true H) := fun _ _ _ H _ _ _ I h => wpAny_tests_nil ⟨H, I, h⟩
section
variable {X : Cx} {pins : List (Addr × Obj)} {σ : St} {H : Hp} {s : Shared} {scope : Scope} {cl : List (Str × Addr)} {bs caps : List Str} {js : List Nat} {fp : List Addr}
theorem inv_compG {h₁ : Heap} {t : Nat} {m : Str → Option Value} (I : Inv X pins σ H s) (S : CompScG X scope cl bs caps js) (hfp : ∀ b ∈ fp, FpOk X pins H b) (hob : ∀ b ∈ fp, ∃ o, s.heap.get? b = some o)
    (hn : h₁.Ns s.heap.objs.size m) (hk : ∀ b o, s.heap.get? b = some o → h₁.get? b = some o) : Inv (cxCompG X scope cl bs caps s.heap.objs.size s H fp pins) [] (bs.map (fun _ => none) ++ capV σ js) H { s with heap := h₁, toks := t } := by
  refine ⟨⟨I.ok.mod, S.kind, I.ok.glob, I.ok.blt, Nat.le_refl _, fun y z c h1 h2 => ?_, fun y hy => ?_, fun y c hf h => ?_, I.ok.hd, I.ok.frames, .inl rfl, fun b hb => ⟨?_, fun y c h => ?_⟩, I.bs, Nat.le_trans I.ok.bsz I.sz, fun b o e hb => ?_, fun b hb z => ?_, I.stack, I.stkFree⟩,
    rfl, I.bare, Un.kept hk, ⟨_, hn, fun i y v h1 h2 h3 => ?_⟩, fun y c h => ?_, I.hok.fresh (Nat.le_refl _), fun y c h => ?_, fun p hp => ?_, I.hok.kept hk, ?_⟩
  · exact I.ok.inj y z c (S.sub y c h1) (S.sub z c h2)
  · exact S.has y hy
  · have hf : y ∈ bs := List.contains_iff_mem.mp hf
    have h : cl.lookup y = some c := h
    rw [S.nox y hf] at h
    cases h
  · obtain ⟨o, e⟩ := hob b hb
    exact Nat.ne_of_lt (Heap.lt_size e)
  · exact (hfp b hb).2.2.2.2.1 y c (S.sub y c h)
  · obtain ⟨_, _, _, h4, _⟩ := hfp b hb
    rcases h4 with h4 | h4
    · exact I.ok.noex b o e h4
    · exact absurd (Nat.lt_of_lt_of_le (Heap.lt_size e) (Nat.le_trans I.ok.bsz h4)) (Nat.lt_irrefl _)
  · obtain ⟨_, h2, h3, _⟩ := hfp b hb
    rcases List.mem_cons.mp (I.stkSub b z) with q | q
    · exact h2 q
    · exact h3 q
  · by_cases hi : i < bs.length
    · rw [List.getElem?_append_left (by rw [List.length_map]; exact hi), List.getElem?_map] at h2
      obtain ⟨_, _, e⟩ := Option.map_eq_some_iff.mp h2
      cases e
    · have hi : bs.length ≤ i := Nat.le_of_not_lt hi
      have h1 : (bs ++ caps)[i]? = some y := h1
      rw [List.getElem?_append_right hi] at h1
      rw [List.getElem?_append_right (by rw [List.length_map]; exact hi), List.length_map] at h2
      obtain ⟨j, hj, hN⟩ := S.at_ _ y h1
      have hv : σ[j]? = some (some v) := by
        unfold capV at h2
        rw [List.getElem?_map, hj] at h2
        have h2 : (σ[j]?).getD none = some v := Option.some.inj h2
        cases q : σ[j]? with
        | none => rw [q] at h2; cases h2
        | some w => rw [q] at h2; exact congrArg some h2
      obtain ⟨c1, c2⟩ := S.cap y (List.mem_of_getElem? h1)
      obtain ⟨m0, _, hl⟩ := I.loc
      obtain ⟨u, ru, lk⟩ := hl j y v hN hv (.inr (.inl c2))
      refine ⟨u, ru, .inr ⟨.inl c1, ?_⟩⟩
      obtain ⟨c, hc⟩ := S.has y (.inl c1)
      rcases lk with ⟨lk, _⟩ | ⟨_, c', hc', hcell⟩
      · have lk : X.env.scope.names.lookup y = some .local := lk
        rw [c2] at lk
        cases lk
      · have e := S.sub y c hc
        rw [hc'] at e
        cases e
        obtain ⟨o, ho, hd⟩ := hcell
        exact ⟨_, hc, o, hk _ _ ho, hd⟩
  · obtain ⟨v, o, ho, hd⟩ := I.cell y c (S.sub y c h)
    exact ⟨v, o, hk _ _ ho, hd⟩
  · exact I.freeC y c (S.sub y c h)
  · have hp : p ∈ X.pn ++ pins := by
      rcases List.mem_append.mp hp with q | q
      · exact q
      · cases q
    obtain ⟨h1, h2, h3, h4, h5⟩ := I.pin p hp
    refine ⟨hk _ _ h1, h2, Nat.ne_of_lt (Heap.lt_size h1), fun z => ?_, h5⟩
    rcases List.mem_cons.mp (I.stkSub _ z) with q | q
    · exact h3 q
    · exact h4 q
  · show (bs.map (fun _ => none) ++ capV σ js).length = (bs ++ caps).length
    unfold capV
    rw [List.length_append, List.length_append, List.length_map, List.length_map, S.len]
theorem inv_backG {C : Addr} {σ' : St} {H' : Hp} {s' : Shared} (I : Inv X pins σ H s) (hfp : ∀ b ∈ fp, FpOk X pins H b) (I' : Inv (cxCompG X scope cl bs caps C s H fp pins) [] σ' H' s') : Inv X pins σ H' s' :=
  I.call' (ch := fp) I'.os I'.base I'.hok I'.bare fun b hb => by
    obtain ⟨_, h2, _, h4, h5, h6⟩ := hfp b hb
    exact ⟨h4, h2, h5, h6⟩
def rCompG (gt : TG) (tt : TT) (te : TE) (k : Nat) (τ : St) (Q : V → Hp → Prop) : It → Hp → Prop := fun J H1 => ∃ n : Nat, n < sizeLine ∧ ∀ D, H1 D = none → ∃ (Pv : Nat → List V → Hp → Prop) (Nx : Nat → V → List V → Hp → Prop),
  Pv 0 [] (upd H1 D (.lst [])) ∧ (∀ i ys H2, i ≤ n → Pv i ys H2 → H2 D = some (.lst ys) ∧ ys.length ≤ i) ∧
  (∀ i ys H2, i < n → Pv i ys H2 → J.go i H2 ∧ ∀ v H3, J.yld i H2 v H3 → Nx i v ys H3) ∧ (∀ ys H2, Pv n ys H2 → J.stop n H2) ∧
  (∀ i v ys H2 (σ0 : St), i < n → Nx i v ys H2 → σ0.length = k → gt v (σ0 ++ τ) H2 fun σ1 H3 => (∃ σ2 : St, σ1 = σ2 ++ τ ∧ σ2.length = k) ∧ tt σ1 H3 fun b H4 =>
    if b = true then te σ1 H4 fun y H5 => H5 D = some (.lst ys) ∧ Pv (i + 1) (ys ++ [y]) (upd H5 D (.lst (ys ++ [y]))) else Pv (i + 1) ys H4) ∧ ∀ ys H2, Pv n ys H2 → Q (.ref D) H2
def tCompG (wi : TI) (gt : TG) (tt : TT) (te : TE) (k : Nat) (js : List Nat) : TE := fun σ H Q => wi σ H (rCompG gt tt te k (capV σ js) Q)
theorem comp_blockG {elt tg iter : Expr} {ifs : List Expr} {pos : Pos} {it D : Addr} {n : Nat} {J : It} {Nx : Nat → V → List V → Hp → Prop} {τ : St} {tn : Nat → Heap → Prop} {gt : TG} {tt : TT} {te : TE} {R : Result → Shared → Prop} {s₄ : Shared} {Pv : Nat → List V → Hp → Prop} {C : Addr} (hc : X.calm = true)
    (hg : PG (cxCompG X scope cl bs caps C s H fp pins) tg gt) (ht' : PC (cxCompG X scope cl bs caps C s H fp pins) ifs tt)
    (he : PE (cxCompG X scope cl bs caps C s H fp pins) elt te) {σ0 : St} (hσ0 : σ0.length = bs.length) (I : Inv (cxCompG X scope cl bs caps C s H fp pins) [] (σ0 ++ τ) H s₄) (T : Turn X.prog X.w X.K tg J fp it tn) (t0 : tn 0 s₄.heap)
    (hfp : ∀ b ∈ fp, FpOk (cxCompG X scope cl bs caps C s H fp pins) [] H b) (hn : n < sizeLine)
    (h0 : Pv 0 [] H) (hl : ∀ i ys H2, i ≤ n → Pv i ys H2 → H2 D = some (.lst ys) ∧ ys.length ≤ i)
    (hgo : ∀ i ys H2, i < n → Pv i ys H2 → J.go i H2 ∧ ∀ v H3, J.yld i H2 v H3 → Nx i v ys H3) (hst : ∀ ys H2, Pv n ys H2 → J.stop n H2)
    (ht : ∀ i v ys H2 (σ0 : St), i < n → Nx i v ys H2 → σ0.length = bs.length → gt v (σ0 ++ τ) H2 fun σ1 H3 => (∃ σ2 : St, σ1 = σ2 ++ τ ∧ σ2.length = bs.length) ∧ tt σ1 H3 fun b H4 =>
      if b = true then te σ1 H4 fun y H5 => H5 D = some (.lst ys) ∧ Pv (i + 1) (ys ++ [y]) (upd H5 D (.lst (ys ++ [y]))) else Pv (i + 1) ys H4)
    (hR : ∀ σ' H' ys s', Inv (cxCompG X scope cl bs caps C s H fp pins) [] σ' H' s' → Pv n ys H' → R (.ok .next) s') :
    codeAny (model X.prog X.w) X.A (.compStart (.ListComp elt [⟨tg, iter, ifs, 0⟩] scope pos) 0 (.ref it) (.ref D) (compEnvC scope cl C X.env)) R s₄ := by
  have loop : codeAny (model X.prog X.w) X.A (.compLoop (.ListComp elt [⟨tg, iter, ifs, 0⟩] scope pos) 0 (.ref it) (.ref D) (compEnvC scope cl C X.env)) R s₄ := by
    refine codeAny_compLoop_any (fun k s' => ∃ i ys, ∃ σ1 : St, ∃ H', k = n + 1 - i ∧ i ≤ n ∧ σ1.length = bs.length ∧ Inv (cxCompG X scope cl bs caps C s H fp pins) [] (σ1 ++ τ) H' s' ∧ tn i s'.heap ∧ (∀ b ∈ fp, FpOk (cxCompG X scope cl bs caps C s H fp pins) [] H' b) ∧ Pv i ys H') ?_ (n + 1) ⟨0, [], σ0, H, rfl, Nat.zero_le _, hσ0, I, t0, hfp, h0⟩
    rintro k s' ⟨i, ys, σ1, H', rfl, hi, hσ1, I', tn', hfp', hp⟩
    obtain ⟨q2, q3⟩ := hl i ys H' hi hp
    by_cases hlt : i < n
    · obtain ⟨g, gy⟩ := hgo i ys H' hlt hp
      refine wpAny_mono (T.item (cxCompG X scope cl bs caps C s H fp pins) rfl rfl rfl hc i [] s' (σ1 ++ τ) H' (notedBy (model X.prog X.w) X.A (compEnvC scope cl C X.env) fun e s' => R (.error e) s') I' hfp' tn' g) (fun r s1 ⟨u, er, hq⟩ => ?_) fun _ _ z => z
      subst er
      refine wpAny_mono hq (fun _ s1' hq' => ?_) fun _ _ z => z
      obtain ⟨v, H1, I1, rv, yv, tn1, fn1⟩ := hq'
      have hv := gy v H1 yv
      have hfp1 : ∀ b ∈ fp, FpOk (cxCompG X scope cl bs caps C s H fp pins) [] H1 b := fun b hb => ⟨fn1 b hb, (hfp' b hb).2⟩
      have hpin : ∀ b ∈ fp, ∃ o, s1'.heap.get? b = some o ∧ ∀ v, o.data ≠ .cell v := T.obj (i + 1) s1'.heap tn1
      have IP : Inv (cxCompG X scope cl bs caps C s H fp pins) (pinsAt fp s1'.heap) (σ1 ++ τ) H1 s1' := by
        have := I1.pinned hfp1 hpin
        rw [List.nil_append] at this
        exact this
      refine wpAny_mono (hg (pinsAt fp s1'.heap) s1' (σ1 ++ τ) H1 v u _ IP rv (ht i v ys H1 σ1 hlt hv hσ1)) (fun _ s2 h2 => ?_) fun _ _ z => z.elim
      obtain ⟨σ2', H2, I2, ⟨σ2, e2, l2⟩, w2⟩ := h2
      subst e2
      refine wpAny_mono (ht' (pinsAt fp s1'.heap) s2 (σ2 ++ τ) H2 _ (fun _ _ => False) (fun _ _ z => z) I2 w2) (fun b s3 h3 => ?_) fun _ _ z => z.elim
      obtain ⟨H3, I3, w3⟩ := h3
      have pinned : ∀ {s4 : Shared} {H4 : Hp} {σ4 : St}, Inv (cxCompG X scope cl bs caps C s H fp pins) (pinsAt fp s1'.heap) σ4 H4 s4 → ∀ b ∈ fp, ∀ o, s1'.heap.get? b = some o → s4.heap.get? b = some o ∧ H4 b = none := fun I4 b hb o e =>
        have z := I4.pin (b, o) (List.mem_append_right _ (mem_pinsAt hb e))
        ⟨z.1, z.2.1⟩
      cases b with
      | false =>
        have w3 : Pv (i + 1) ys H3 := w3
        show ∃ m, m < n + 1 - i ∧ _
        refine ⟨n + 1 - (i + 1), by omega, i + 1, ys, σ2, H3, rfl, hlt, l2, I3.pins_of (fun p z => nomatch z), T.keep _ _ _ tn1 fun b hb o e => (pinned I3 b hb o e).1, fun b hb => ⟨?_, (hfp' b hb).2⟩, w3⟩
        obtain ⟨o, e, _⟩ := hpin b hb
        exact (pinned I3 b hb o e).2
      | true =>
        show wpAny _ _ _ _ _ _
        refine wpAny_mono (he (pinsAt fp s1'.heap) s3 (σ2 ++ τ) H3 _ I3 w3) (fun y s4 h4 => ?_) fun _ _ z => z.elim
        obtain ⟨y', H4, I4, ry, hD, hp4⟩ := h4
        refine wpAny_mono (mt_append (X := cxCompG X scope cl bs caps C s H fp pins) (pinsAt fp s1'.heap) s4 (σ2 ++ τ) H4 (.ref D) [y'] (.ref D) [y] (fun _ H5 => H5 = upd H4 D (.lst (ys ++ [y']))) I4 rfl (.cons ry .nil) ⟨D, ys, y', rfl, rfl, hD, by omega, rfl⟩) (fun _ s5 h5 => ?_) fun _ _ z => z.elim
        obtain ⟨_, H5, I5, _, e5⟩ := h5
        subst e5
        refine ⟨n + 1 - (i + 1), by omega, i + 1, ys ++ [y'], σ2, _, rfl, hlt, l2, I5.pins_of (fun p z => nomatch z), T.keep _ _ _ tn1 fun b hb o e => (pinned I5 b hb o e).1, fun b hb => ⟨?_, (hfp' b hb).2⟩, hp4⟩
        obtain ⟨o, e, _⟩ := hpin b hb
        exact (pinned I5 b hb o e).2
    · have e : i = n := by omega
      subst e
      refine wpAny_mono (T.done (cxCompG X scope cl bs caps C s H fp pins) rfl rfl rfl hc i [] s' (σ1 ++ τ) H' (fun _ _ => False) I' hfp' tn' (hst ys H' hp)) (fun r s1 ⟨er, I1⟩ => ?_) fun _ _ z => z.elim
      subst er
      exact hR _ H' ys s1 I1 hp
  exact codeAny_compStart_list loop (T.self X.A 0 s₄ _ _ t0 loop)
theorem comp_fromG {elt tg iter : Expr} {ifs : List Expr} {pos : Pos} {gt : TG} {tt : TT} {te : TE} {Q : V → Hp → Prop} {s2 : Shared} {it : Addr} {tn : Nat → Heap → Prop} {J : It} {H' : Hp} {RR : Value → Addr → Result → Shared → Prop} {E : Value → Shared → Prop} (hc : X.calm = true) (S : CompScG X scope cl bs caps js)
    (hg : ∀ C s H fp pins, PG (cxCompG X scope cl bs caps C s H fp pins) tg gt) (ht' : ∀ C s H fp pins, PC (cxCompG X scope cl bs caps C s H fp pins) ifs tt)
    (he : ∀ C s H fp pins, PE (cxCompG X scope cl bs caps C s H fp pins) elt te) (I2 : Inv X pins σ H' s2) (T : Turn X.prog X.w X.K tg J fp it tn) (t0 : tn 0 s2.heap) (hfp : ∀ b ∈ fp, FpOk X pins H' b) (hr : rCompG gt tt te bs.length (capV σ js) Q J H')
    (hRR : ∀ D C H3 s', Inv X pins σ H3 s' → (∃ m, s'.heap.Ns C m) → H3 C = none → C ≠ X.env.locals → X.s₀.heap.objs.size ≤ C → (∀ y c, X.env.cells.lookup y = some c → c ≠ C) → (∀ p ∈ X.pn ++ pins, p.1 ≠ C) → Q (.ref D) H3 →
      RR (.ref D) C (.ok .next) s') :
    wpAny (model X.prog X.w) X.A (newList []) (fun acc s₃ => wpAny (model X.prog X.w) X.A (newFunctionEnv scope X.env.globals cl [] X.env.qual none .none (some X.env)) (fun cenv s₄ =>
      codeAny (model X.prog X.w) X.A (.compStart (.ListComp elt [⟨tg, iter, ifs, 0⟩] scope pos) 0 (.ref it) acc { cenv with scope := relabel scope X.env }) (RR acc cenv.locals) s₄) E s₃) E s2 := by
  obtain ⟨n, hn, hD⟩ := hr
  obtain ⟨Pv, Nx, h0, hl, hgo, hst, ht, hd⟩ := hD s2.heap.objs.size I2.fresh
  refine wpAny_newObj_type (wpAny_newFunctionEnv S.cell (by intro y hy; simp at hy) (fun h₁ hns₁ hsb₁ => ?_) S.kind)
  dsimp only at hns₁ hsb₁ ⊢
  have I3 : Inv X pins σ (upd H' s2.heap.objs.size (.lst [])) { s2 with heap := s2.heap.push { cls := .type "list", data := .seq ([] : List Value).toArray } } := I2.lnew (its := []) (t' := s2.toks) .nil (by show 0 ≤ sizeLine; omega)
  have hob := T.obj 0 s2.heap t0
  have keep : ∀ b o, (s2.heap.push { cls := .type "list", data := .seq ([] : List Value).toArray }).get? b = some o → h₁.get? b = some o := fun b o e =>
    hsb₁.extBut b o (Nat.ne_of_lt (Heap.lt_size e)) (Heap.get?_push_of_some _ e)
  have fp3 : ∀ b ∈ fp, FpOk X pins (upd H' s2.heap.objs.size (.lst [])) b := fun b hb => by
    obtain ⟨o, e, _⟩ := hob b hb
    exact ⟨(upd_ne (Nat.ne_of_lt (Heap.lt_size e))).trans (hfp b hb).1, (hfp b hb).2⟩
  have IY := inv_compG (t := s2.toks + ([] : List (Str × Value)).length) I3 S fp3 (fun b hb => by
    obtain ⟨o, e, _⟩ := hob b hb
    exact ⟨o, Heap.get?_push_of_some _ e⟩) hns₁ keep
  refine comp_blockG (D := s2.heap.objs.size) (n := n) (Nx := Nx) (Pv := Pv) hc (hg _ _ _ _ _) (ht' _ _ _ _ _) (he _ _ _ _ _) (List.length_map _) IY T (T.keep _ _ _ t0 fun b hb o e => keep b o (Heap.get?_push_of_some _ e)) (fun b hb => ?_) hn h0 hl hgo hst ht (fun σ' H3 ys s' I' hp => ?_)
  · obtain ⟨f1, f2, f3, f4, f5, f6⟩ := fp3 b hb
    obtain ⟨o, e, _⟩ := hob b hb
    refine ⟨f1, Nat.ne_of_lt (Heap.lt_size (Heap.get?_push_of_some _ e)), fun z => ?_, .inl hb, fun y c h => f5 y c (S.sub y c h), fun p hp => ?_⟩
    · rcases List.mem_cons.mp (I3.stkSub b z) with q | q
      · exact f2 q
      · exact f3 q
    · rcases List.mem_append.mp hp with q | q
      · exact f6 p q
      · cases q
  · obtain ⟨m, hn, _⟩ := I'.loc
    refine hRR _ _ H3 s' (inv_backG I3 fp3 I') ⟨m, hn⟩ I'.free (Nat.ne_of_gt I3.lt) I3.sz (fun y c h z => ?_) (fun p hp z => ?_) (hd ys H3 hp)
    · obtain ⟨v, q⟩ := I3.cell y c h
      exact absurd q.lt (by rw [z]; exact Nat.lt_irrefl _)
    · exact absurd (Heap.lt_size (I3.pin p hp).1) (by rw [z]; exact Nat.lt_irrefl _)
theorem pe_compG {elt tg iter : Expr} {ifs : List Expr} {pos : Pos} {wi : TI} {gt : TG} {tt : TT} {te : TE} (hc : X.calm = true) (S : CompScG X scope cl bs caps js) (hl : PI X tg iter wi) (hg : ∀ C s H fp pins, PG (cxCompG X scope cl bs caps C s H fp pins) tg gt)
    (ht' : ∀ C s H fp pins, PC (cxCompG X scope cl bs caps C s H fp pins) ifs tt) (he : ∀ C s H fp pins, PE (cxCompG X scope cl bs caps C s H fp pins) elt te)
    (hs : ∀ y, foldedSetIterable iter X.env y = pure y := by intro _; rfl) : PE X (.ListComp elt [⟨tg, iter, ifs, 0⟩] scope pos) (tCompG wi gt tt te bs.length js) := by
  intro pins s σ H Q I h
  rw [eval_ListComp]
  refine wpAny_comprehension_free (use := none) rfl hs S.clos S.kind S.names (thn (hl pins s σ H (rCompG gt tt te bs.length (capV σ js) Q) I h) fun v s1 h1 => thn h1 fun itv s2 h2 => ?_)
  obtain ⟨it, fp, tn, J, H', rfl, I2, T, t0, hfp, hr⟩ := h2
  refine comp_fromG (RR := fun acc C => compPost (model X.prog X.w) X.A X.xe none (EP X pins σ Q) acc C) hc S hg ht' he I2 T t0 hfp hr ?_
  intro D C H3 s' I' ⟨m, hn⟩ hC h1 h2 h3 h4 q
  exact ⟨m, hn, fun h' hs' => ⟨.ref D, H3, I'.turned (it := C) (fun b o hb e => hs'.extBut b o hb e) hC h1 (.inr h2) h3 h4, rfl, q⟩⟩
end
end OD
namespace OD
variable {Z : Hp}
open PySem PySem.Spec PyProof.Rows L2
def compOkG (osc scope : Scope) (bs caps : List Str) (js : List Nat) (N : List Str) : Bool :=
  scope.names.all (fun y => y.2 != .cell && (y.2 != .local || scope.names.lookup y.1 == some .local) && (y.2 != .free || (osc.names.lookup y.1 == some .cell && !bs.contains y.1))) && (scope.kind == .function) && (osc.kind == .function) && bs.all (fun x => scope.names.lookup x == some .local) &&
  decide (bs ++ caps).Nodup && (js.map (fun j => N[j]?) == caps.map some) && caps.all (fun y => scope.names.lookup y == some .free && osc.names.lookup y == some .cell)
theorem compScG {X : Cx} {osc scope : Scope} {bs : List Str} {caps : List Str} {js : List Nat} {L : Addr} (h : compOkG osc scope bs caps js X.N = true) (he : X.env.scope = osc) (hc : X.env.cells = cellsFrom (L + 1) osc.names []) : CompScG X scope (clOf X.env.cells scope.names) bs caps js := by
  unfold compOkG at h
  simp only [Bool.and_eq_true] at h
  obtain ⟨⟨⟨⟨⟨⟨h1, h2⟩, h3⟩, h4⟩, h5⟩, h6⟩, h7⟩ := h
  rw [List.all_eq_true] at h1 h4 h7
  have hfree : ∀ y, (y, NameKind.free) ∈ scope.names → osc.names.lookup y = some .cell ∧ bs.contains y = false := fun y hy => by
    have q := h1 _ hy
    rw [Bool.and_eq_true, Bool.and_eq_true] at q
    have q : (osc.names.lookup y == some .cell && !bs.contains y) = true := q.2
    rw [Bool.and_eq_true] at q
    exact ⟨eq_of_beq q.1, by cases z : bs.contains y with | false => rfl | true => rw [z] at q; cases q.2⟩
  have hcell : ∀ y, osc.names.lookup y = some .cell → ∃ c, X.env.cells.lookup y = some c := fun y hy => by rw [hc]; exact cell_has hy
  have hfc : ∀ y, (y, NameKind.free) ∈ scope.names → ∃ c, X.env.cells.lookup y = some c := fun y hy => hcell y (hfree y hy).1
  have hk : X.env.scope.kind = .function := by rw [he]; exact eq_of_beq h3
  have hj : js.map (fun j => X.N[j]?) = caps.map some := eq_of_beq h6
  refine ⟨clos_of hfc, fun y c q => (mem_clOf.mp (PySem.mem_of_lookup q)).2, fun y q => ?_, fun x hx => ?_, fun y hy e => ?_, eq_of_beq h2, fun y hy e => ?_, fun x hx => eq_of_beq (h4 x hx), of_decide_eq_true h5, ?_, fun k y q => ?_, fun y hy => ?_⟩
  · have : (y, NameKind.free) ∈ scope.names := by
      have mem : ∃ k, (y, k) ∈ (relabel scope X.env).names ∧ (k = .cell ∨ k = .free) := by
        rcases q with q | q
        · exact ⟨_, PySem.mem_of_lookup q, .inl rfl⟩
        · exact ⟨_, PySem.mem_of_lookup q, .inr rfl⟩
      obtain ⟨k, hm, hk'⟩ := mem
      obtain ⟨⟨n, k0⟩, hn, e⟩ := List.mem_map.mp hm
      have ncell : k0 ≠ .cell := fun z => by
        have q := h1 _ hn
        rw [Bool.and_eq_true, Bool.and_eq_true] at q
        exact absurd z (bne_iff_ne.mp q.1.1)
      dsimp only at e
      split at e
      · rename_i hz
        rw [Bool.and_eq_true, Bool.and_eq_true] at hz
        obtain rfl := eq_of_beq hz.1.1
        cases e
        exact hn
      · cases e
        rcases hk' with z | z
        · exact absurd z ncell
        · rw [z] at hn; exact hn
    obtain ⟨c, hc'⟩ := hfc y this
    exact mem_lookup (mem_clOf.mpr ⟨this, hc'⟩)
  · cases q : (clOf X.env.cells scope.names).lookup x with
    | none => rfl
    | some c =>
      have z := (hfree x (mem_clOf.mp (PySem.mem_of_lookup q)).1).2
      rw [List.contains_iff_mem.mpr hx] at z
      cases z
  · have q := h1 y hy
    rw [Bool.and_eq_true, Bool.and_eq_true] at q
    exact absurd e (bne_iff_ne.mp q.1.1)
  · have q := h1 y hy
    rw [Bool.and_eq_true, Bool.and_eq_true, e] at q
    exact eq_of_beq (show (scope.names.lookup y.1 == some .local) = true from q.1.2)
  · have := congrArg List.length hj
    rwa [List.length_map, List.length_map] at this
  · have e : (js.map fun j => X.N[j]?)[k]? = (caps.map some)[k]? := by rw [hj]
    rw [List.getElem?_map, List.getElem?_map, q] at e
    obtain ⟨j, hj1, hj2⟩ := Option.map_eq_some_iff.mp e
    exact ⟨j, hj1, hj2⟩
  · have q := h7 y hy
    rw [Bool.and_eq_true] at q
    have q2 : X.env.scope.names.lookup y = some .cell := by rw [he]; exact eq_of_beq q.2
    exact ⟨lookup_relabel_free hk (eq_of_beq q.1) q2, q2⟩
theorem rl_caps {K : PySem.W.Frag} {F : Hp} {W W2 : Vw} {ρ : DS} {σ : St} {js : List Nat} {ds : List Dt} {vs : List V} (r : Rl K Z F W ρ σ) (s2 : Same W.g W2.g) (i : AllIs K W2.g ds vs) : Rl K (fun _ => none) W2.h W2 (ds.map Sl.some ++ capS ρ js) (vs.map some ++ capV σ js) := by
  have no : ∀ (j : Nat) (es : List Dt), (ds.map Sl.some ++ capS ρ js)[j]? = some (.own es) → False := fun j es q => by
    have q := List.mem_of_getElem? q
    rcases List.mem_append.mp q with q | q
    · obtain ⟨_, _, e⟩ := List.mem_map.mp q
      cases e
    · unfold capS at q
      obtain ⟨j, _, e⟩ := List.mem_map.mp q
      split at e <;> cases e
  have noA : ∀ (j : Nat) (a : Addr) (es : List Dt), (ds.map Sl.some ++ capS ρ js)[j]? = some (.arg a es) → False := fun j a es q => by
    have q := List.mem_of_getElem? q
    rcases List.mem_append.mp q with q | q
    · obtain ⟨_, _, e⟩ := List.mem_map.mp q
      cases e
    · unfold capS at q
      obtain ⟨j, _, e⟩ := List.mem_map.mp q
      split at e <;> cases e
  refine ⟨by unfold capS capV; rw [List.length_append, List.length_append, List.length_map, List.length_map, List.length_map, List.length_map, i.length], fun j e q => ?_, fun j ds q => (no j ds q).elim, fun j j' ds ds' _ q _ => (no j ds q).elim, Same.refl _, (fun _ _ q => nomatch q), fun j a ds q => (noA j a ds q).elim⟩
  by_cases hj : j < ds.length
  · rw [List.getElem?_append_left (by rw [List.length_map]; exact hj), List.getElem?_map] at q
    obtain ⟨d, hd, e1⟩ := Option.map_eq_some_iff.mp q
    cases e1
    obtain ⟨v, hv, iv⟩ := i.get hd
    exact ⟨v, by rw [List.getElem?_append_left (by rw [List.length_map, ← i.length]; exact hj), List.getElem?_map, hv]; rfl, iv⟩
  · have hj : ds.length ≤ j := Nat.le_of_not_lt hj
    rw [List.getElem?_append_right (by rw [List.length_map]; exact hj), List.length_map] at q
    rw [List.getElem?_append_right (by rw [List.length_map, ← i.length]; exact hj), List.length_map, ← i.length]
    unfold capS at q
    rw [List.getElem?_map] at q
    obtain ⟨k, hk, e2⟩ := Option.map_eq_some_iff.mp q
    split at e2
    · rename_i d' hd
      cases e2
      obtain ⟨u, hu, iu⟩ := r.at_ k e hd
      refine ⟨u, ?_, Is.mono0 s2 iu⟩
      unfold capV
      rw [List.getElem?_map, hk]
      show some ((σ[k]?).getD none) = _
      rw [hu]
      rfl
    · cases e2
abbrev DTI := DS → (Nat → (Nat → Dt → Prop) → Prop) → Prop
def LiI (K : PySem.W.Frag) (Z : Hp) (wi : TI) (di : DTI) : Prop := ∀ {F : Hp} (ρ : DS) (σ : St) (W : Vw) (Q : Nat → (Nat → Dt → Prop) → Prop), Rl K Z F W ρ σ → di ρ Q → ∀ R : It → Hp → Prop,
  (∀ (J : It) (n : Nat) (vals : Nat → Dt → Prop) (W1 : Vw), Le W W1 → n ≤ 100000 → (∀ W2 : Vw, Same W1.g W2.g → (∀ i, i < n → J.go i W2.h ∧ ∀ v H3, J.yld i W2.h v H3 → ∃ W3 : Vw, Le W2 W3 ∧ W3.h = H3 ∧ ∃ e, vals i e ∧ Is K W3.g e v) ∧ J.stop n W2.h) → Q n vals → R J W1.h) → wi σ W.h R
def DI (X : Cx) (tg iter : Expr) (di : DTI) : Prop := ∃ wi, PI X tg iter wi ∧ LiI X.K (Zx X) wi di
def LiG (K : PySem.W.Frag) (k : Nat) (gt : TG) (dg : Dt → List Dt → Prop) : Prop := ∀ (e : Dt) (v : V) (σ0 τ : St) (W : Vw) (as : List Dt), σ0.length = k → Is K W.g e v → dg e as → ∀ Q : St → Hp → Prop,
  (∀ vs, AllIs K W.g as vs → vs.length = k → Q (vs.map some ++ τ) W.h) → gt v (σ0 ++ τ) W.h Q
def dOne : Dt → List Dt → Prop := fun e as => as = [e]
theorem lig_one {K : PySem.W.Frag} : LiG K 1 (gName 0) dOne := by
  rintro e v σ0 τ W as hl i rfl Q q
  match σ0, hl with
  | [a], _ => exact q [v] (allIs_cons.mpr ⟨v, [], rfl, i, allIs_nil.mpr rfl⟩) rfl
def DC (X : Cx) (ifs : List Expr) (t : DTT) : Prop := ∃ tt, PC X ifs tt ∧ LiT X.K (Zx X) tt t
def dEach : DTT := fun _ Q => Q true
theorem dc_nil {X : Cx} : DC X [] dEach := ⟨_, pc_nil, fun _ _ W _ _ h _ k => k true W (Le.refl W) h⟩
def liftT (K : PySem.W.Frag) (t : DTT) : TT := fun σ H R => ∃ (F : Hp) (ρ : DS) (W : Vw) (Q : Bool → Prop), W.h = H ∧ Rl K (fun _ => none) F W ρ σ ∧ t ρ Q ∧ ∀ d W', Le W W' → Q d → R d W'.h
theorem DC.up {X : Cx} {ifs : List Expr} {t : DTT} (h : DC X ifs t) (hz : X.stack.length = X.outer.length := by rfl) : PC X ifs (liftT X.K t) := by
  obtain ⟨te, p, l⟩ := h
  intro pins s σ H R E hE I q
  obtain ⟨F, ρ, W, Q, rfl, r, h, k⟩ := q
  have r' : Rl X.K (Zx X) F W ρ σ := by unfold Zx; rw [if_pos (Or.inl hz)]; exact r
  exact p pins s σ W.h R E hE I (l ρ σ W Q r' h R k)
theorem li_liftT {K : PySem.W.Frag} {t : DTT} : LiT K (fun _ => none) (liftT K t) t := fun ρ σ H Q r h R k => ⟨_, ρ, H, Q, rfl, r, h, k⟩
def dCompG (js : List Nat) (di : DTI) (dg : Dt → List Dt → Prop) (tt : DTT) (te : DTE) : DTE := fun ρ Q => di ρ fun n vals => ∃ Pv : Nat → List Dt → Prop, Pv 0 [] ∧
  (∀ (i : Nat) e es, i < n → vals i e → Pv i es → ∃ as, dg e as ∧ tt (as.map Sl.some ++ capS ρ js) fun b => if b = true then te (as.map Sl.some ++ capS ρ js) fun y => Pv (i + 1) (es ++ [y]) else Pv (i + 1) es) ∧ ∀ es, Pv n es → Q (.lst es)
theorem li_compG {K : PySem.W.Frag} {wi : TI} {gt : TG} {tt : TT} {te : TE} {di : DTI} {dg : Dt → List Dt → Prop} {dt : DTT} {u : DTE} {k : Nat} {js : List Nat} (h1 : LiI K Z wi di) (hg : LiG K k gt dg) (ht' : LiT K (fun _ => none) tt dt) (h2 : LiE K (fun _ => none) te u) : LiF K Z (tCompG wi gt tt te k js) (dCompG js di dg dt u) := by
  intro F ρ σ H Q r h R kk
  refine h1 ρ σ H _ r h _ fun J n vals W1 s1 hn hJ ⟨Pv, h0, ht, hd⟩ => ?_
  have r1 := r.mono s1
  refine ⟨n, Nat.lt_of_le_of_lt hn (by decide), fun D hD => ?_⟩
  have gD : W1.g D = none := W1.sub.free hD
  have stp : ∀ {W2 W3 : Vw} {ys : List V} {es : List Dt}, Same W1.g W2.g ∧ Same W1.h (fun b => if b = D then none else W2.h b) ∧ (∀ b, W1.h b ≠ none → W1.g b = none → W2.g b = none) ∧ W2.h D = some (.lst ys) ∧ W2.g D = none ∧ AllIs K W2.g es ys → Le W2 W3 →
      Same W1.g W3.g ∧ Same W1.h (fun b => if b = D then none else W3.h b) ∧ (∀ b, W1.h b ≠ none → W1.g b = none → W3.g b = none) ∧ W3.h D = some (.lst ys) ∧ W3.g D = none ∧ AllIs K W3.g es ys := by
    rintro W2 W3 ys es ⟨s2, sh, sn, q1, q2, q3⟩ s3
    refine ⟨s2.trans s3.g, fun b o q => ?_, fun b z1 z2 => ?_, s3.h _ _ q1, s3.n D (by rw [q1]; intro z; cases z) q2, q3.mono s3⟩
    · have q' : (if b = D then none else W2.h b) = some o := sh b o q
      have hb : b ≠ D := fun e => by rw [e, hD] at q; cases q
      rw [if_neg hb] at q'
      show (if b = D then none else W3.h b) = some o
      rw [if_neg hb]
      exact s3.h _ _ q'
    · have hb : b ≠ D := fun e => z1 (e ▸ hD)
      have z3 := sn b z1 z2
      refine s3.n b ?_ z3
      cases q : W1.h b with
      | none => exact absurd q z1
      | some o =>
        have q' : (if b = D then none else W2.h b) = some o := sh b o q
        rw [if_neg hb] at q'
        rw [q']
        intro z; cases z
  refine ⟨fun i ys H2 => ∃ (W2 : Vw) (es : List Dt), W2.h = H2 ∧ (Same W1.g W2.g ∧ Same W1.h (fun b => if b = D then none else W2.h b) ∧ (∀ b, W1.h b ≠ none → W1.g b = none → W2.g b = none) ∧ W2.h D = some (.lst ys) ∧ W2.g D = none ∧ AllIs K W2.g es ys) ∧ ys.length ≤ i ∧ Pv i es, fun i v ys H2 => ∃ (W2 : Vw) (es : List Dt) (e : Dt), W2.h = H2 ∧ (Same W1.g W2.g ∧ Same W1.h (fun b => if b = D then none else W2.h b) ∧ (∀ b, W1.h b ≠ none → W1.g b = none → W2.g b = none) ∧ W2.h D = some (.lst ys) ∧ W2.g D = none ∧ AllIs K W2.g es ys) ∧ ys.length ≤ i ∧ Pv i es ∧ vals i e ∧ Is K W2.g e v, ?_, ?_, ?_, ?_, ?_, ?_⟩
  · refine ⟨W1.mine D (.lst []) gD, [], rfl, ⟨Same.refl _, fun b o q => ?_, fun b _ q => q, upd_same, gD, allIs_nil.mpr rfl⟩, Nat.le_refl _, h0⟩
    have hb : b ≠ D := fun e => by rw [e, hD] at q; cases q
    show (if b = D then none else upd W1.h D (.lst []) b) = some o
    rw [if_neg hb, upd_ne hb]
    exact q
  · rintro i ys _ _ ⟨W2, es, rfl, ⟨s2, _, _, q1, q2, _⟩, q4, _⟩
    exact ⟨q1, q4⟩
  · rintro i ys _ hi ⟨W2, es, rfl, hW2, q4, q5⟩
    obtain ⟨g1, g2⟩ := (hJ W2 hW2.1).1 i hi
    refine ⟨g1, fun v H3 y => ?_⟩
    obtain ⟨W3, s3, e3, e, he, ie⟩ := g2 v H3 y
    exact ⟨W3, es, e, e3, stp hW2 s3, q4, q5, he, ie⟩
  · rintro ys _ ⟨W2, es, rfl, ⟨s2, _⟩, _⟩
    exact (hJ W2 s2).2
  · rintro i v ys _ σ0 hi ⟨W2, es, e, rfl, hW2, q4, q5, he, ie⟩ hσ0
    obtain ⟨as, da, w⟩ := ht i e es hi he q5
    refine hg e v σ0 _ W2 as hσ0 ie da _ fun vs ivs lvs => ⟨⟨vs.map some, rfl, by rw [List.length_map]; exact lvs⟩, ?_⟩
    refine ht' (F := W2.h) (as.map Sl.some ++ capS ρ js) (vs.map some ++ capV σ js) W2 _ (rl_caps r1 hW2.1 ivs) w _ fun b W3 s3 w3 => ?_
    have hW3 := stp hW2 s3
    cases b with
    | false => exact ⟨W3, es, rfl, hW3, Nat.le_succ_of_le q4, w3⟩
    | true =>
      show te _ _ _
      refine h2 (F := W3.h) (as.map Sl.some ++ capS ρ js) (vs.map some ++ capV σ js) W3 _ (rl_caps r1 hW3.1 (ivs.mono s3)) w3 _ fun y w W4 s4 i4 q6 => ?_
      obtain ⟨a1, a2, a3, a4, a5, a6⟩ := stp hW3 s4
      refine ⟨a4, W4.mine D (.lst (ys ++ [w])) a5, es ++ [y], rfl, ⟨a1, fun b o q => ?_, a3, upd_same, a5, a6.append (allIs_cons.mpr ⟨w, [], rfl, i4, allIs_nil.mpr rfl⟩)⟩, by rw [List.length_append]; exact Nat.succ_le_succ q4, q6⟩
      have q' : (if b = D then none else W4.h b) = some o := a2 b o q
      have hb : b ≠ D := fun e => by rw [e, hD] at q; cases q
      rw [if_neg hb] at q'
      show (if b = D then none else upd W4.h D (.lst (ys ++ [w])) b) = some o
      rw [if_neg hb, upd_ne hb]
      exact q'
  · rintro ys _ ⟨W2, es, rfl, ⟨s2, sh, sn, q1, q2, q3⟩, _, q5⟩
    refine kk es D ys W2 (s1.trans ⟨s2, fun b o q => ?_, sn⟩) (s1.h.free hD) q1 q2 q3 (hd es q5)
    have q' : (if b = D then none else W2.h b) = some o := sh b o q
    have hb : b ≠ D := fun e => by rw [e, hD] at q; cases q
    rwa [if_neg hb] at q'
def dOver (ta : DTE) : DTI := fun ρ Q => ta ρ fun d => ∃ ds, listOf d = some ds ∧ ds.length ≤ 100000 ∧ Q ds.length fun i e => ds[i]? = some e
section
variable {X : Cx} {fr : Fr} {osc scope : Scope} {bs caps : List Str} {js : List Nat} {N0 : List Str} {L : Addr} {tg iter elt a : Expr} {ifs : List Expr} {ta te : DTE} {di : DTI} {tt : DTT} {dg : Dt → List Dt → Prop} {gt : TG} {px p0 pos pos1 : Pos}
theorem di_list (h : DE X iter ta) : DI X tg iter (dOver ta) := by
  obtain ⟨te, p, l⟩ := h
  refine ⟨_, pi_list p, fun ρ σ W Q r h R k => l ρ σ W _ r h _ fun d v W1 s1 i1 ⟨ds, el, hl, q⟩ => ?_⟩
  obtain ⟨a, xs, rfl, hq, ha⟩ := list_g i1 el
  refine ⟨a, rfl, ⟨xs, hq W1 (Same.refl _)⟩, k _ _ _ W1 s1 hl (fun W2 s2 => ⟨fun i hi => ?_, ?_⟩) q⟩
  · rw [ha.length] at hi
    have hv := List.getElem?_eq_getElem hi
    refine ⟨⟨xs, _, hq W2 s2, hv⟩, fun v' H3 ⟨e1, e2⟩ => ⟨W2, Le.refl _, e1.symm, ?_⟩⟩
    obtain ⟨e, he, ie⟩ := ha.get' (e2 xs (hq W2 s2))
    exact ⟨e, he, Is.mono0 s2 ie⟩
  · exact ⟨xs, hq W2 s2, by rw [ha.length]; exact Nat.le_refl _⟩
theorem df_compG (hc : X.calm = true) (S : compOkG osc scope bs caps js N0 = true) (hN0 : X.N = N0) (he' : X.env.scope = osc) (hcs : X.env.cells = cellsFrom (L + 1) osc.names []) (hl : DI X tg iter di)
    (hg : ∀ C s H fp pins, PG (cxCompG X scope (clOf X.env.cells scope.names) bs caps C s H fp pins) tg gt) (lg : LiG X.K bs.length gt dg)
    (ht : ∀ C s H fp pins, DC (cxCompG X scope (clOf X.env.cells scope.names) bs caps C s H fp pins) ifs tt)
    (he : ∀ C s H fp pins, DE (cxCompG X scope (clOf X.env.cells scope.names) bs caps C s H fp pins) elt te) (hs : ∀ y, foldedSetIterable iter X.env y = pure y := by intro _; rfl) :
    DF X (.ListComp elt [⟨tg, iter, ifs, 0⟩] scope pos) (dCompG js di dg tt te) := by
  obtain ⟨wi, p, l⟩ := hl
  exact ⟨_, pe_compG hc (compScG (hN0 ▸ S) he' hcs) p hg (fun C s H fp pins => (ht C s H fp pins).up) (fun C s H fp pins => (he C s H fp pins).up) hs, li_compG l lg li_liftT li_lift⟩
end
end OD

namespace OD
variable {Z : Hp}
open PySem PySem.Spec PyProof.Rows L2
section
variable {K : PySem.W.Frag} {F : Hp} {W W' W0 : Vw}
theorem NewL.mono {d : Dt} {v : V} (h : NewL K F W d v) (s : Le W W') : NewL K F W' d v := by
  obtain ⟨es, p, xs, h1, h2, h3, h4, h5, h6⟩ := h
  exact ⟨es, p, xs, h1, h2, h3, s.h _ _ h4, s.n p (by rw [h4]; intro z; cases z) h5, h6.mono s⟩
theorem Prt.mono {b : Bool} {d : Dt} {v : V} (h : Prt K F W b d v) (s : Le W W') : Prt K F W' b d v := by
  cases b with
  | false => exact Is.mono h s
  | true =>
    rcases h with h | ⟨h1, h2⟩
    · exact .inl (h.mono s)
    · exact .inr ⟨h1, Is.mono h2 s⟩
theorem Prt.frz {b : Bool} {d : Dt} {u : V} (le : Le W0 W) (h : Prt K W0.h W b d u) : ∃ W1 : Vw, W1.h = W.h ∧ Same W.g W1.g ∧ Le W0 W1 ∧ Is K W1.g d u ∧
    ∀ b2 d2 u2, Prt K W0.h W b2 d2 u2 → (∀ es fs, b = true → b2 = true → d = .lst es → d2 = .lst fs → u ≠ u2) → Prt K W0.h W1 b2 d2 u2 := by
  cases b with
  | false => exact ⟨W, rfl, Same.refl _, le, h, fun _ _ _ k _ => k⟩
  | true =>
    rcases h with ⟨es, p, xs, rfl, rfl, h3, h4, h5, h6⟩ | ⟨_, h2⟩
    · refine ⟨W.frz p _ h4, rfl, same_new h5 _, le_frz le h3 h4 h5, is_lst.mpr ⟨p, xs, rfl, upd_same, AllIs.mono0 (same_new h5 _) h6⟩, fun b2 d2 u2 k ne => ?_⟩
      cases b2 with
      | false => exact Is.mono0 (same_new h5 _) k
      | true =>
        rcases k with ⟨fs, q, ys, rfl, rfl, k3, k4, k5, k6⟩ | ⟨k1, k2⟩
        · have hq : q ≠ p := fun z => ne es fs rfl rfl rfl rfl (by rw [z])
          exact .inl ⟨fs, q, ys, rfl, rfl, k3, k4, (upd_ne hq).trans k5, AllIs.mono0 (same_new h5 _) k6⟩
        · exact .inr ⟨k1, Is.mono0 (same_new h5 _) k2⟩
    · exact ⟨W, rfl, Same.refl _, le, h2, fun _ _ _ k _ => k⟩
theorem Tld.frz {fr : Fr} {d : Dt} {v : V} (le : Le W0 W) (h : Tld K W0.h W fr d v) : ∃ W1 : Vw, W1.h = W.h ∧ Le W0 W1 ∧ Is K W1.g d v := by
  match fr, h with
  | .d, h => exact ⟨W, rfl, le, h⟩
  | .l, ⟨es, p, xs, e1, e2, h3, h4, h5, h6⟩ =>
    subst e1; subst e2
    exact ⟨W.frz p _ h4, rfl, le_frz le h3 h4 h5, is_lst.mpr ⟨p, xs, rfl, upd_same, AllIs.mono0 (same_new h5 _) h6⟩⟩
  | .t a b, ⟨d1, d2, q, u1, u2, e1, e2, hq, p1, p2, ne⟩ =>
    subst e1; subst e2
    obtain ⟨W1, e1, s1, le1, i1, k1⟩ := p1.frz le
    obtain ⟨W2, e2, s2, le2, i2, _⟩ := (k1 b d2 u2 p2 ne).frz le1
    exact ⟨W2, e2.trans e1, le2, is_tup.mpr ⟨q, _, rfl, s2 _ _ (s1 _ _ hq), allIs_cons.mpr ⟨u1, _, rfl, Is.mono0 s2 i1, allIs_cons.mpr ⟨u2, _, rfl, i2, allIs_nil.mpr rfl⟩⟩⟩⟩
end
def TldSp (K : PySem.W.Frag) (fr : Fr) (S : DSp) : Sp := fun vs H Q _ => ∃ (W : Vw) (ds : List Dt) (Qd : Dt → Prop), W.h = H ∧ AllIs K W.g ds vs ∧ S ds Qd ∧ ∀ d v W', Le W W' → Tld K W.h W' fr d v → Qd d → Q v W'.h
def TldSpX (K : PySem.W.Frag) (fr : Fr) (S : DSpX) : Sp := fun vs H Q E => ∃ (W : Vw) (ds : List Dt) (Qd : Dt → Prop) (Ed : Addr → Prop), W.h = H ∧ AllIs K W.g ds vs ∧ S ds Qd Ed ∧
  (∀ d v W', Le W W' → Tld K W.h W' fr d v → Qd d → Q v W'.h) ∧ ∀ C H', Same W.h H' → Ed C → E (.ref C) none H'
structure TOk (P : Program) (w : World) (K : PySem.W.Frag) (mg : Str → Option Value) (base : Heap) (n : Nat) (x : Str) (fr : Fr) (S : DSp) : Prop where
  ex : ∃ f fd ps, mg x = some (.ref f) ∧ PySem.W.keepIn K (.ref f) = true ∧ Binds K fd ps [] ∧ FnOk P w K mg base CX0 n f fd ps (TldSp K fr S)
structure TOkX (P : Program) (w : World) (K : PySem.W.Frag) (mg : Str → Option Value) (base : Heap) (n : Nat) (x : Str) (fr : Fr) (S : DSpX) : Prop where
  ex : ∃ f fd ps, mg x = some (.ref f) ∧ PySem.W.keepIn K (.ref f) = true ∧ Binds K fd ps [] ∧ FnOk P w K mg base (CX1 P w) n f fd ps (TldSpX K fr S)
section
variable {P : Program} {w : World} {K : PySem.W.Frag} {mg : Str → Option Value} {base : Heap} {fr : Fr}
theorem TOk.mk' {x qual : Str} {st : Stmt} {f : Addr} {fd : FuncData} {ps : List Str} {n : Nat} {S : DSp} (F : Fun K x qual st f fd) (hm : mg x = some (.ref f)) (hb : Binds K fd ps []) (h : FnOk P w K mg base CX0 n f fd ps (TldSp K fr S)) : TOk P w K mg base n x fr S :=
  ⟨f, fd, ps, hm, F.kp, hb, h⟩
theorem TOkX.mk' {x qual : Str} {st : Stmt} {f : Addr} {fd : FuncData} {ps : List Str} {n : Nat} {S : DSpX} (F : Fun K x qual st f fd) (hm : mg x = some (.ref f)) (hb : Binds K fd ps []) (h : FnOk P w K mg base (CX1 P w) n f fd ps (TldSpX K fr S)) : TOkX P w K mg base n x fr S :=
  ⟨f, fd, ps, hm, F.kp, hb, h⟩
end
section
variable {X : Cx} {fr : Fr} {a b : Bool} {e e1 e2 : Expr} {es : List Expr} {t t1 t2 : DTE} {ta : DTA} {n : Nat} {x y : Str} {S : DSp} {SX : DSpX} {p pos p0 p1 p2 : Pos} {i j : Nat}
def slP : Bool → Dt → Sl
  | true, .lst es => .own es
  | _, d => .some d
theorem Rl.ownN {K : PySem.W.Frag} {F : Hp} {W : Vw} {ρ : DS} {σ : St} (r : Rl K Z F W ρ σ) {p : Addr} {xs : List V} {ds : List Dt} (i : Nat) (nep : ∀ (j : Nat) (es : List Dt), ρ[j]? = some (Sl.own es) → σ[j]? ≠ some (some (V.ref p))) (nea : ∀ (j : Nat) (a : Addr) (es : List Dt), ρ[j]? = some (Sl.arg a es) → a ≠ p)
    (hF : F p = none) (h1 : W.h p = some (.lst xs)) (h2 : W.g p = none) (h3 : AllIs K W.g ds xs) : Rl K Z F W (ρ.set i (.own ds)) (σ.set i (some (.ref p))) := by
  refine ⟨by rw [List.length_set, List.length_set]; exact r.len, fun j e q => ?_, fun j es q => ?_, fun j k es es' hjk q1 q2 => ?_, r.fr, r.z, fun j a fs q => ?_⟩
  · rcases set_get q with ⟨_, _, e1⟩ | ⟨hij, q⟩
    · cases e1
    · rw [List.getElem?_set_ne hij]
      exact r.at_ j e q
  · rcases set_get q with ⟨rfl, hl, e1⟩ | ⟨hij, q⟩
    · cases e1
      exact ⟨p, xs, by rw [List.getElem?_set_self (by rw [← r.len]; exact hl)], h1, h2, hF, h3⟩
    · rw [List.getElem?_set_ne hij]
      exact r.ow j es q
  · rcases set_get q1 with ⟨rfl, hl, e1⟩ | ⟨hij, q1⟩
    · rcases set_get q2 with ⟨rfl, _, _⟩ | ⟨hik, q2⟩
      · exact absurd rfl hjk
      · rw [List.getElem?_set_self (by rw [← r.len]; exact hl), List.getElem?_set_ne hik]
        exact fun z => nep k es' q2 z.symm
    · rcases set_get q2 with ⟨rfl, hl, _⟩ | ⟨hik, q2⟩
      · rw [List.getElem?_set_self (by rw [← r.len]; exact hl), List.getElem?_set_ne hij]
        exact nep j es q1
      · rw [List.getElem?_set_ne hij, List.getElem?_set_ne hik]
        exact r.ne j k es es' hjk q1 q2
  · rcases set_get q with ⟨_, _, e1⟩ | ⟨hij, q⟩
    · cases e1
    obtain ⟨⟨ys, g1, g2⟩, k1, k2⟩ := r.ar j a fs q
    refine ⟨⟨ys, by rw [List.getElem?_set_ne hij]; exact g1, g2⟩, fun k es q' => ?_, fun k c es q' => ?_⟩
    · rcases set_get q' with ⟨rfl, hl, e1⟩ | ⟨hik, q'⟩
      · rw [List.getElem?_set_self (by rw [← r.len]; exact hl)]
        intro z
        cases z
        exact nea j _ fs q rfl
      · rw [List.getElem?_set_ne hik]
        exact k1 k es q'
    · rcases set_get q' with ⟨_, _, e1⟩ | ⟨hik, q'⟩
      · cases e1
      exact k2 k c es q'
theorem Rl.part {K : PySem.W.Frag} {F F' : Hp} {W : Vw} {ρ : DS} {σ : St} (r : Rl K Z F W ρ σ) {b : Bool} {d : Dt} {v : V} (i : Nat) (h : Prt K F' W b d v) (hF : ∀ p, F' p = none → F p = none)
    (nep : ∀ (p : Addr) (j : Nat) (es fs : List Dt), b = true → d = .lst fs → v = .ref p → F' p = none → ρ[j]? = some (Sl.own es) → σ[j]? ≠ some (some (V.ref p))) (nea : ∀ (p : Addr) (j : Nat) (a : Addr) (es : List Dt), F' p = none → ρ[j]? = some (Sl.arg a es) → a ≠ p) :
    Rl K Z F W (ρ.set i (slP b d)) (σ.set i (some v)) := by
  cases b with
  | false => cases d <;> exact r.set i h
  | true =>
    rcases h with ⟨es, p, xs, rfl, rfl, h3, h4, h5, h6⟩ | ⟨z, h2⟩
    · exact r.ownN i (fun j fs e => nep p j fs es rfl rfl rfl h3 e) (fun j a fs e => nea p j a fs h3 e) (hF p h3) h4 h5 h6
    · cases d <;> first | exact r.set i h2 | cases z
end
end OD

namespace L2
open PySem PySem.Spec PyProof.Rows
def Cx.arg (X : Cx) : Cx := { X with fn := fun y => !(y == "") }
section
variable {X : Cx} {pins : List (Addr × Obj)} {σ : St} {H : Hp} {s : Shared}
theorem Inv.arg (I : Inv X pins σ H s) (hf : ∀ y, X.fn y = true) : Inv X.arg pins σ H s :=
  ⟨⟨I.ok.mod, I.ok.kind, I.ok.glob, I.ok.blt, I.ok.above, I.ok.inj, I.ok.has, fun x c _ => I.ok.cab x c (hf x), I.ok.hd, I.ok.frames, I.ok.stk, I.ok.exf, I.ok.bs, I.ok.bsz, I.ok.noex, I.ok.exfs, I.ok.funs, I.ok.frf⟩, I.os, I.bare, I.base, I.loc, I.cell, I.free, I.freeC, I.pin, I.hok, I.len⟩
end
end L2
namespace OD
variable {Z : Hp}
open PySem PySem.Spec PyProof.Rows L2
def Vw.del (W : Vw) (a : Addr) (hg : W.g a = none) : Vw := ⟨W.g, fun b => if b = a then none else W.h b, fun b o q => by
  have : b ≠ a := fun e => by rw [e, hg] at q; cases q
  show (if b = a then none else W.h b) = some o
  rw [if_neg this]
  exact W.sub _ _ q⟩
abbrev ASp := Dt → List Dt → List Dt → (List Dt → Prop) → Prop
def ArgSp (K : PySem.W.Frag) (S : ASp) : Sp := fun vs H Q _ => ∃ (W : Vw) (d0 : Dt) (es0 ds : List Dt) (Qd : List Dt → Prop) (v0 : V) (a : Addr) (xs vs' : List V) (hg : W.g a = none), W.h = H ∧ vs = v0 :: .ref a :: vs' ∧ W.h a = some (.lst xs) ∧ Is K W.g d0 v0 ∧ AllIs K W.g es0 xs ∧ AllIs K W.g ds vs' ∧ S d0 es0 ds Qd ∧
  ∀ es ys W', Le (W.del a hg) W' → W'.h a = some (.lst ys) → W'.g a = none → AllIs K W'.g es ys → Qd es → Q .non W'.h
structure AOk (P : Program) (w : World) (K : PySem.W.Frag) (mg : Str → Option Value) (base : Heap) (n : Nat) (x : Str) (S : ASp) : Prop where
  ex : ∃ f fd ps, mg x = some (.ref f) ∧ PySem.W.keepIn K (.ref f) = true ∧ Binds K fd ps [] ∧ FnOk P w K mg base CX0 n f fd ps (ArgSp K S)
section
variable {P : Program} {w : World} {K : PySem.W.Frag} {mg : Str → Option Value} {base : Heap}
theorem AOk.mk' {x qual : Str} {st : Stmt} {f : Addr} {fd : FuncData} {ps : List Str} {n : Nat} {S : ASp} (F : Fun K x qual st f fd) (hm : mg x = some (.ref f)) (hb : Binds K fd ps []) (h : FnOk P w K mg base CX0 n f fd ps (ArgSp K S)) : AOk P w K mg base n x S :=
  ⟨f, fd, ps, hm, F.kp, hb, h⟩
end
section
variable {X : Cx} {fr : Fr} {e e0 k : Expr} {es : List Expr} {t te tk : DTE} {ta : DTA} {n : Nat} {x y : Str} {S : ASp} {p pos p0 p1 p2 p3 : Pos} {i : Nat}
end
end OD

namespace OD
variable {Z : Hp}
open PySem PySem.Spec PyProof.Rows L2
section
variable {X : Cx} {tg : Expr}
variable {a b c : Expr} {ta : DTA} {p0 pos1 : Pos}
end
end OD

namespace L2
open PySem PySem.Spec PyProof.Rows
section
variable {X : Cx}
end
end L2
namespace OD
variable {Z : Hp}
open PySem PySem.Spec PyProof.Rows L2
abbrev DTB := Prop → (Addr → Prop) → DS → Prop
section
variable {X : Cx} {e : Expr} {es : List Expr} {t : DTA} {n : Nat} {x y m : Str} {j : Nat} {S : DSpX} {p pos py hpos epos tpos : Pos} {fr : Fr} {th : DTS} {c : Value} {b₀ : Stmt} {suite body : List Stmt} {d : DTB}
end
end OD

namespace OD
open PySem L2
variable {X : Cx} {e : Expr} {t : DTE}
end OD

namespace OD
open PySem L2 PyProof.Rows
section
variable {Z F : Hp} {K : PySem.W.Frag} {W W' W0 : Vw} {G : Hp} {ρ : DS} {σ : L2.St}
theorem snoc_get {α : Type} {l : List α} {x y : α} {i : Nat} (q : (l ++ [x])[i]? = some y) : l[i]? = some y ∨ (i = l.length ∧ x = y) := by
  rcases Nat.lt_trichotomy i l.length with h | h | h
  · rw [List.getElem?_append_left h] at q; exact .inl q
  · subst h
    rw [List.getElem?_append_right (Nat.le_refl _), Nat.sub_self] at q
    exact .inr ⟨rfl, Option.some.inj q⟩
  · rw [List.getElem?_eq_none (by rw [List.length_append]; show l.length + 1 ≤ i; omega)] at q
    cases q
theorem get_lt {α : Type} {l : List α} {y : α} {i : Nat} (q : l[i]? = some y) : i < l.length := by
  rcases Nat.lt_or_ge i l.length with h | h
  · exact h
  · rw [List.getElem?_eq_none h] at q; cases q
theorem snoc_lt {α : Type} {l : List α} {x y : α} {i : Nat} (q : l[i]? = some y) : (l ++ [x])[i]? = some y := by rw [List.getElem?_append_left (get_lt q)]; exact q
theorem snoc_ne {α : Type} {l : List α} {x : α} {i : Nat} (h : i < l.length) : (l ++ [x])[i]? = l[i]? := List.getElem?_append_left h
theorem Rl.push (r : Rl K Z F W ρ σ) : Rl K Z F W (ρ ++ [Sl.none]) (σ ++ [none]) := by
  have hs : ∀ i y, ρ[i]? = some y → (σ ++ [none])[i]? = σ[i]? := fun i y q => snoc_ne (by rw [← r.len]; exact get_lt q)
  have cl : ∀ i y, (ρ ++ [Sl.none])[i]? = some y → y ≠ Sl.none → ρ[i]? = some y := fun i y q hy => by
    rcases snoc_get q with q | ⟨_, e⟩
    · exact q
    · exact absurd e.symm hy
  refine ⟨by rw [List.length_append, List.length_append, r.len]; rfl, fun i d q => ?_, fun i ds q => ?_, fun i k ds es hik q1 q2 => ?_, r.fr, r.z, fun i c ds q => ?_⟩
  · have q := cl i _ q (fun z => nomatch z)
    rw [hs i _ q]; exact r.at_ i d q
  · have q := cl i _ q (fun z => nomatch z)
    rw [hs i _ q]; exact r.ow i ds q
  · have q1 := cl i _ q1 (fun z => nomatch z)
    have q2 := cl k _ q2 (fun z => nomatch z)
    rw [hs i _ q1, hs k _ q2]; exact r.ne i k ds es hik q1 q2
  · have q := cl i _ q (fun z => nomatch z)
    obtain ⟨⟨xs, h1, h2⟩, k1, k2⟩ := r.ar i c ds q
    refine ⟨⟨xs, by rw [hs i _ q]; exact h1, h2⟩, fun k es q' => ?_, fun k b es q' => k2 k b es (cl k _ q' (fun z => nomatch z))⟩
    have q' := cl k _ q' (fun z => nomatch z)
    rw [hs k _ q']; exact k1 k es q'
theorem Rl.snocOff {x : Sl} {o : Option V} (r : Rl K Z F W (ρ ++ [x]) (σ ++ [o])) : Rl K Z F W ρ σ := by
  have len : ρ.length = σ.length := by have := r.len; rw [List.length_append, List.length_append] at this; exact Nat.succ.inj this
  have hs : ∀ i y, ρ[i]? = some y → (σ ++ [o])[i]? = σ[i]? := fun i y q => snoc_ne (by rw [← len]; exact get_lt q)
  refine ⟨len, fun i d q => ?_, fun i ds q => ?_, fun i k ds es hik q1 q2 => ?_, r.fr, r.z, fun i c ds q => ?_⟩
  · rw [← hs i _ q]; exact r.at_ i d (snoc_lt q)
  · rw [← hs i _ q]; exact r.ow i ds (snoc_lt q)
  · rw [← hs i _ q1, ← hs k _ q2]; exact r.ne i k ds es hik (snoc_lt q1) (snoc_lt q2)
  · obtain ⟨⟨xs, h1, h2⟩, k1, k2⟩ := r.ar i c ds (snoc_lt q)
    exact ⟨⟨xs, by rw [← hs i _ q]; exact h1, h2⟩, fun k es q' => by rw [← hs k _ q']; exact k1 k es (snoc_lt q'), fun k b es q' => k2 k b es (snoc_lt q')⟩
structure TAt (K : PySem.W.Frag) (Z : Hp) (W0 : Vw) (G : Hp) (W : Vw) (ρ : DS) (σ : L2.St) (i : Nat) (es : List Dt) (d : Dt) : Prop where
  ex : ∃ p q v, At K Z W0 G W (ρ ++ [.own es]) (σ ++ [some (.ref p)]) ∧ σ[i]? = some (some (.ref q)) ∧ W.g q = some (.tup [.ref p, v]) ∧ Is K W.g d v
variable {i : Nat} {es : List Dt} {d : Dt}
theorem TAt.step (t : TAt K Z W0 G W ρ σ i es d) (s : Le W W') : TAt K Z W0 G W' ρ σ i es d :=
  let ⟨p, q, v, a, h1, h2, h3⟩ := t.ex; ⟨p, q, v, a.step s, h1, s.g _ _ h2, h3.mono s⟩
theorem TAt.off (t : TAt K Z W0 G W ρ σ i es d) : At K Z W0 G W ρ σ := let ⟨_, _, _, a, _⟩ := t.ex; ⟨a.le, a.gs, a.rl.snocOff⟩
abbrev DTG := List Dt → Dt → DTS
end
section
variable {X : Cx} {fr : Fr} {st : Stmt} {rest : List Stmt} {t : DTE} {u : DTS} {ug : DTG} {e : Expr} {te : DTE} {pos p0 p1 p2 p3 pos' : Pos} {i j : Nat} {x y : Str}
end
end OD

namespace OD
open PySem L2
section
variable {js : List Nat} {ta te : DTE} {X : Cx} {e : Expr} {fr : Fr} {st : Stmt} {i : Nat}
theorem each_t {s : DS} {P R : Prop} : (dEach s fun b => if b = true then P else R) = P := by show (if true = true then P else R) = P; rw [if_pos rfl]
theorem one_t {e : Dt} {s : List Dt → DS} {P R : List Dt → Prop} (h : ∃ as, dOne e as ∧ dEach (s as) fun b => if b = true then P as else R as) : P [e] := by
  obtain ⟨as, z, h⟩ := h
  cases z
  exact each_t.mp h
theorem compL_eq : dCompLC js ta te = dCompG js (dOver ta) dOne dEach te := funext fun ρ => funext fun Q => congrArg (ta ρ) (funext fun d => propext
  ⟨fun ⟨ds, Pv, h1, h3, h4, h5, h6⟩ => ⟨ds, h1, h3, Pv, h4, fun i e es _ he hp => ⟨_, rfl, each_t.mpr (h5 i e es he hp)⟩, h6⟩,
   fun ⟨ds, h1, h3, Pv, h4, h5, h6⟩ => ⟨ds, Pv, h1, h3, h4, fun i e es he hp => one_t (h5 i e es (get_lt he) he hp), h6⟩⟩)
theorem cgF_L (h : DF X e (dCompG js (dOver ta) dOne dEach te)) : DF X e (dCompLC js ta te) := compL_eq ▸ h
end
end OD

namespace L2
open PySem PySem.Spec PyProof.Rows
section
variable {X : Cx} {o e : Expr} {es : List Expr} {n : Nat} {m x : Str} {pos p apos py epos : Pos} {i : Nat}
end
end L2
namespace OD
variable {Z : Hp}
open PySem PySem.Spec PyProof.Rows L2
structure MOkX (P : Program) (w : World) (K : PySem.W.Frag) (mg : Str → Option Value) (base : Heap) (n : Nat) (C : Addr) (m : Str) (S : DSpX) : Prop where
  cl : Cls K C
  ex : ∃ f fd ps, Meth K C m f ∧ Binds K fd ps [] ∧ FnOk P w K mg base (CX1 P w) n f fd ps (PureSpX K S)
theorem MOkX.mono {P : Program} {w : World} {K : PySem.W.Frag} {mg : Str → Option Value} {base : Heap} {C : Addr} {x : Str} {m n : Nat} {S : DSpX} (h : MOkX P w K mg base m C x S) (hl : m ≤ n) : MOkX P w K mg base n C x S :=
  let ⟨f, fd, ps, a, b, c⟩ := h.ex; ⟨h.cl, f, fd, ps, a, b, c.mono hl⟩
abbrev DTC := (DS → Prop) → (Addr → Prop) → DS → Prop
section
variable {X : Cx} {o e : Expr} {es : List Expr} {t : DTA} {ta : DTE} {n : Nat} {x y m z : Str} {i j : Nat} {S : DSpX} {p pos py hpos epos tpos apos : Pos} {fr : Fr} {th : DTS} {c : Value} {b₀ : Stmt} {suite body : List Stmt} {d : DTC}
end
end OD

namespace OD
variable {Z : Hp}
open PySem PySem.Spec PyProof.Rows L2
section
variable {X : Cx} {a b : Expr} {ta : DTA} {te : DTE} {p0 pos pos1 tpos : Pos} {elts : List Expr} {x1 : Nat}
end
end OD

namespace OD
open PySem L2 PyProof.Rows
def MvSp (K : PySem.W.Frag) (S : DSp) : Sp := fun vs H Q _ => ∃ (W : Vw) (d0 : Dt) (es0 ds : List Dt) (Qd : Dt → Prop) (v0 : V) (a : Addr) (xs vs' : List V) (hg : W.g a = none), W.h = H ∧ vs = v0 :: .ref a :: vs' ∧ W.h a = some (.lst xs) ∧ Is K W.g d0 v0 ∧ AllIs K W.g es0 xs ∧ AllIs K W.g ds vs' ∧ S (d0 :: .lst es0 :: ds) Qd ∧
  ∀ es p ys W', Le (W.del a hg) W' → (W.del a hg).h p = none → W'.h p = some (.lst ys) → W'.g p = none → AllIs K W'.g es ys → Qd (.lst es) → Q (.ref p) W'.h
structure VOk (P : Program) (w : World) (K : PySem.W.Frag) (mg : Str → Option Value) (base : Heap) (n : Nat) (x : Str) (S : DSp) : Prop where
  ex : ∃ f fd ps, mg x = some (.ref f) ∧ PySem.W.keepIn K (.ref f) = true ∧ Binds K fd ps [] ∧ FnOk P w K mg base CX0 n f fd ps (MvSp K S)
section
variable {P : Program} {w : World} {K : PySem.W.Frag} {mg : Str → Option Value} {base : Heap}
theorem VOk.mk' {x qual : Str} {st : Stmt} {f : Addr} {fd : FuncData} {ps : List Str} {n : Nat} {S : DSp} (F : Fun K x qual st f fd) (hm : mg x = some (.ref f)) (hb : Binds K fd ps []) (h : FnOk P w K mg base CX0 n f fd ps (MvSp K S)) : VOk P w K mg base n x S :=
  ⟨f, fd, ps, hm, F.kp, hb, h⟩
end
section
variable {X : Cx} {e0 e1 : Expr} {es : List Expr} {t tf : DTE} {ta : DTA} {n : Nat} {x : Str} {S : DSp} {p pos : Pos}
def dIsiS (ta : DTE) : DTE := fun ρ Q => ta ρ fun d => ∃ x, d = .str x ∧ Q (.bl true)
theorem de_isiS {a : Expr} {ta : DTE} {p' : Pos} (hm : X.mg "isinstance" = none) (hmc : X.mg "str" = none) (ha : DE X a ta)
    (hg : Gl X "isinstance" := by rfl) (hgc : Gl X "str" := by rfl)
    (hs : starEach [a, .Name "str" p'] X.env = (false, eval a X.env) :: starEach [.Name "str" p'] X.env := by rfl) (hs2 : starEach [.Name "str" p'] X.env = (false, eval (.Name "str" p') X.env) :: starEach [] X.env := by rfl)
    (hpl : (backTo pos (starEach [.Name "str" p'] X.env)).any (·.1) = false := by rfl) :
    DE X (.Call (.Name "isinstance" p) [a, .Name "str" p'] [] pos) (dIsiS ta) := by
  obtain ⟨te, p1, l1⟩ := ha
  have pc : PE X (.Name "str" p') (tC (.ty "str")) := pe_bltn hgc hmc PyProof.Rows.boot_str rfl (by decide) (by decide)
  refine ⟨_, pe_callB call_isi hg hm boot_isinstance (pa_cons p1 (pa_cons pc pa_nil hs2) hs) (by decide) (by decide) hs hpl, fun ρ σ H Q r h R k => l1 ρ σ H _ r h _ fun d v H1 s1 i1 ⟨x, e, q⟩ => ?_⟩
  subst e
  obtain rfl := is_str.mp i1
  exact ⟨.str x, "str", _, true, rfl, .str x, kit_same, k _ _ H1 s1 (is_bl.mpr rfl) q⟩
end
end OD

namespace L2
open PySem PySem.Spec PyProof.Rows
section
variable {X : Cx} {a b : Expr} {ta tb : TE} {x1 x2 : Str} {p1 p2 p3 p4 pos : Pos}
def tFtx (ta tb : TE) : TE := fun σ H Q => ta σ H fun v H1 => ∃ i, v = .int i ∧ i.natAbs.log2 < 1000 ∧ tb σ H1 fun u H2 => ∃ j, u = .int j ∧ j.natAbs.log2 < 1000 ∧ ∀ x, Q (.str x) H2
theorem int_len {i : Int} (h : i.natAbs.log2 < 1000) : (Str.ofString (toString i)).length ≤ 1001 := by
  have := int_text_length_le (k := 1000) (by decide) h
  rw [PySem.ofString_length]
  exact this
theorem pe_ftx {k1 k2} (ha : PE X a ta) (hb : PE X b tb) (h1 : x1.length ≤ 1000) (h2 : x2.length ≤ 1000) :
    PE X (.JoinedStr [.Constant (.str x1) k1 p1, .FormattedValue a (-1) none p2, .Constant (.str x2) k2 p3, .FormattedValue b (-1) none p4] pos) (tFtx ta tb) := by
  intro pins s σ H Q I h
  have e0 : (Str.empty ++ x1).length = x1.length := by rw [strLen_append]; exact Nat.zero_add _
  refine wpAny_JoinedStr (Calls.Constant_str ⟨x1, _, rfl, by rw [e0, sizeLine_eq]; omega, ?_⟩)
  refine wpAny_FormattedValue_plain (thn (ha pins _ σ H _ (I.tok _) h) fun u s1 ⟨v, H1, I1, rv, i, ev, hi, h⟩ => ?_)
  subst ev
  obtain ⟨t, rfl⟩ := (show ∃ t, u = Value.int i t from rv)
  have li := int_len hi
  refine wpAny_formatField_int (by omega) ⟨_, _, rfl, by rw [strLen_append, e0, sizeLine_eq]; omega, ?_⟩
  refine Calls.Constant_str ⟨x2, _, rfl, by rw [strLen_append, strLen_append, e0, sizeLine_eq]; omega, ?_⟩
  refine wpAny_FormattedValue_plain (thn (hb pins _ σ H1 _ ((I1.tok _).tok _) h) fun u s2 ⟨v, H2, I2, rv, j, ev, hj, h⟩ => ?_)
  subst ev
  obtain ⟨t, rfl⟩ := (show ∃ t, u = Value.int j t from rv)
  have lj := int_len hj
  have fin : (((Str.empty ++ x1) ++ Str.ofString (toString i)) ++ x2 ++ Str.ofString (toString j)).length ≤ sizeLine := by
    rw [strLen_append, strLen_append, strLen_append, e0, sizeLine_eq]; omega
  exact wpAny_formatField_int (by omega) ⟨_, _, rfl, fin, fin, .str _, H2, (I2.tok _).tok _, ⟨_, rfl⟩, h _⟩
end
end L2
namespace OD
open PySem PySem.Spec PyProof.Rows L2
section
variable {X : Cx} {a b : Expr} {ta tb : DTE} {x1 x2 : Str} {p1 p2 p3 p4 pos : Pos}
def dFtx (ta tb : DTE) : DTE := fun ρ Q => ta ρ fun d => ∃ i, d = .int i ∧ i.natAbs.log2 < 1000 ∧ tb ρ fun e => ∃ j, e = .int j ∧ j.natAbs.log2 < 1000 ∧ ∀ x, Q (.str x)
theorem de_ftx {k1 k2} (ha : DE X a ta) (hb : DE X b tb) (h1 : x1.length ≤ 1000 := by decide +kernel) (h2 : x2.length ≤ 1000 := by decide +kernel) :
    DE X (.JoinedStr [.Constant (.str x1) k1 p1, .FormattedValue a (-1) none p2, .Constant (.str x2) k2 p3, .FormattedValue b (-1) none p4] pos) (dFtx ta tb) := by
  obtain ⟨te, p, l⟩ := ha
  obtain ⟨tf, p', l'⟩ := hb
  refine ⟨_, pe_ftx p p' h1 h2, fun ρ σ H Q r h R k => l ρ σ H _ r h _ fun d v H1 s1 i1 ⟨i, ed, hi, q1⟩ => ?_⟩
  subst ed
  refine ⟨i, is_int.mp i1, hi, l' ρ σ H1 _ (r.mono s1) q1 _ fun e u H2 s2 i2 ⟨j, ee, hj, q2⟩ => ?_⟩
  subst ee
  exact ⟨j, is_int.mp i2, hj, fun x => k _ _ H2 (s1.trans s2) (is_str.mpr rfl) (q2 x)⟩
end
def spInitX (C : Addr) (f : Str) (ok : Int → Prop) (D : Addr) : Sp := fun vs H Q E => ∃ p dx i, vs = [.ref p, .int i] ∧ H p = some (.ins C dx []) ∧
  ((ok i ∧ ∀ H' : Hp, H' p = some (.ins C dx [(f, .int i)]) → (∀ b o, H b = some o → b ≠ p → H' b = some o) → Q .non H') ∨ (¬ ok i ∧ ∀ H', Same H H' → E (.ref D) none H'))
structure KOkX (P : Program) (w : World) (K : PySem.W.Frag) (mg : Str → Option Value) (base : Heap) (n : Nat) (x : Str) (C : Addr) (f : Str) (ok : Int → Prop) (D : Addr) : Prop where
  ex : ∃ g fd ps, mg x = some (.ref C) ∧ Mk K C g ∧ Binds K fd ps [] ∧ FnOk P w K mg base (CX1 P w) n g fd ps (spInitX C f ok D)
section
variable {X : Cx} {e : Expr} {es : List Expr} {t : DTA} {n : Nat} {x : Str} {p pos : Pos}
def dMakeX (X : Cx) (C : Addr) (f : Str) (ok : Int → Prop) (D : Addr) (t : DTA) : DTE := fun ρ Q => t ρ fun ds => ∃ i, ds = [.int i] ∧ ((ok i ∧ Q (.way C f i)) ∨ (¬ ok i ∧ Rz X D))
theorem de_makeX {C D : Addr} {f : Str} {ok : Int → Prop} (G : KOkX X.prog X.w X.K X.mg X.base n x C f ok D) (hr : Room (n + 1) X.A) (hg : Gl X x) (ha : DA X (e :: es) t) (hdb : (x == ("__debug__" : Str)) = false := by decide)
    (he : starEach (e :: es) X.env = (false, eval e X.env) :: starEach es X.env := by rfl) (hpl : (backTo pos (starEach es X.env)).any (·.1) = false := by rfl) : DE X (.Call (.Name x p) (e :: es) [] pos) (dMakeX X C f ok D t) := by
  obtain ⟨g, fd, ps, hm, M, hb, F⟩ := G.ex
  obtain ⟨te, p1, l1⟩ := ha
  refine ⟨_, pe_make M F hr hg hm hb .nil pass_can p1 hdb he hpl, fun ρ σ H Q r h R k => l1 ρ σ H _ r h _ fun ds vs H1 s1 i1 ⟨i, ed, h⟩ y dy ny ndy ne => ?_⟩
  subst ed
  obtain ⟨v, rfl, hv⟩ := i1.one
  obtain rfl := is_int.mp hv
  rcases h with ⟨hok, q1⟩ | ⟨hno, hR⟩
  · refine ⟨y, dy, i, rfl, upd_same, .inl ⟨hok, fun H' e1 e2 => ⟨rfl, ?_⟩⟩⟩
    have keep : Same H1.h H' := fun b o hb => e2 b o (by rw [upd_ne (ne_of_none hb ny), upd_ne (ne_of_none hb ndy)]; exact hb) (ne_of_none hb ny)
    have gy : H1.g y = none := H1.sub.free ny
    exact k _ _ ⟨upd H1.g y (.ins C dy [(f, .int i)]), H', fun b u q => by
        by_cases e : b = y
        · subst e; rw [upd_same] at q; rw [e1]; exact q
        · rw [upd_ne e] at q; exact keep _ _ (H1.sub _ _ q)⟩
      (s1.trans ⟨same_new gy _, keep, fun a z1 z2 => by
        have : a ≠ y := fun e => z1 (e ▸ ny)
        show upd H1.g y _ a = none
        rw [upd_ne this]; exact z2⟩) (is_way.mpr ⟨y, dy, rfl, upd_same⟩) q1
  · refine ⟨y, dy, i, rfl, upd_same, .inr ⟨hno, fun H' s' => ⟨D, rfl, (hR H' ?_).2⟩⟩⟩
    exact ((rl_zx r).trans s1.h).trans fun b o hb => s' b o (by rw [upd_ne (ne_of_none hb ny), upd_ne (ne_of_none hb ndy)]; exact hb)
end
section
variable {P : Program} {w : World} {K : PySem.W.Frag} {mg : Str → Option Value} {base : Heap}
theorem init_okX {qual : Str} {st : Stmt} {g C D : Addr} {fd : FuncData} {y f : Str} {k : Nat} {ok : Int → Prop} (F : Fun K "__init__" qual st g fd) (sc : FnScope ["self", y] ["self", y] (defScope st)) (cl : Cls K C) (na : NoAttr K C f)
    (hbody : ∀ (cdv : Value) (A : Around) (outer : List Env) (s : Shared) (H : Hp) (E : XK), Room k (A.deeper (envOfC qual (defScope st) s.heap.objs.size g cdv)) →
      ∃ te t, PSs (cxOf (CX1 P w) P w K mg base ["self", y] qual (defScope st) g cdv A outer s H E) (defBody st) (sFld K (tVar 0) te f) ∧ LiE K (Zx (cxOf (CX1 P w) P w K mg base ["self", y] qual (defScope st) g cdv A outer s H E)) te t ∧
        ∀ i, (¬ ok i → Rz (cxOf (CX1 P w) P w K mg base ["self", y] qual (defScope st) g cdv A outer s H E) D) → t [.none, .some (.int i)] fun d => d = .int i ∧ ok i) :
    FnOk P w K mg base (CX1 P w) (k + 1) g fd ["self", y] (spInitX C f ok D) := by
  refine Fun.okX F sc (fun vs H Q E h => ?_) (fun cdv A outer s H vs Q E hr h => ?_)
  · obtain ⟨p, dx, i, rfl, _⟩ := h
    rfl
  obtain ⟨p, dx, i, rfl, hp, h⟩ := h
  obtain ⟨te, t, ps, l, ht⟩ := hbody cdv A outer s H E hr
  have ht := ht i fun hno => rz_of fun H' z => h.elim (fun z => absurd z.1 hno) fun q => q.2 H' z
  rw [zx_def] at l
  refine ⟨_, ps, l (F := H) [.none, .some (.int i)] _ ⟨H, H, Same.refl H⟩ _ ⟨rfl, fun j d e => ?_, fun j ds e => ?_, fun j j' ds es _ e _ => ?_, Same.refl H, Same.refl H, fun j a ds e => ?_⟩ ht _ fun d v W1 s1 i1 ⟨ed, hok⟩ => ?_⟩
  · match j, e with
    | 0, e => cases e
    | 1, e =>
      have e' : Dt.int i = d := by cases e; rfl
      subst e'
      exact ⟨.int i, rfl, is_int.mpr rfl⟩
    | j + 2, e => cases e
  · match j, e with
    | 0, e => cases e
    | 1, e => cases e
    | j + 2, e => cases e
  · match j, e with
    | 0, e => cases e
    | 1, e => cases e
    | j + 2, e => cases e
  · match j, e with
    | 0, e => cases e
    | 1, e => cases e
    | j + 2, e => cases e
  · subst ed
    obtain rfl := is_int.mp i1
    rcases h with ⟨_, q⟩ | ⟨hno, _⟩
    · refine ⟨.ref p, rfl, p, C, dx, [], rfl, s1.h _ _ hp, cl, na, (by show 0 < 1000; decide), ?_⟩
      refine q _ upd_same fun b o hb hbp => ?_
      rw [upd_ne hbp]
      exact s1.h _ _ hb
    · exact absurd hok hno
end
end OD

namespace OD
variable {Z : Hp}
open PySem PySem.Spec PyProof.Rows L2
section
variable {X : Cx} {tg : Expr}
variable {a b c : Expr} {ta : DTA} {p0 pos1 : Pos}
end
end OD
namespace L2
open PySem PySem.Spec PyProof.Rows
section
variable {prog : Program} {w : World} {A : Around} {E : Value → Shared → Prop} {s : Shared}
end
section
variable {X : Cx} {pos : Pos}
end
end L2
namespace OD
open PySem PySem.Spec PyProof.Rows L2
section
variable {X : Cx} {fr : Fr} {e : Expr} {te : DTE} {pos : Pos}
end
end OD

namespace L2
open PySem PySem.Spec PyProof.Rows
section
variable {X : Cx}
theorem Vals.oneS {x : Str} {us : List Value} (h : Vals [.str x] us) : ∃ t, us = [.str x t] := by
  obtain ⟨u, rfl, t, rfl⟩ := h.one
  exact ⟨t, rfl⟩
theorem mt_starts : MtR X "str.startswith" (fun x vs H Q => ∃ z y, x = .str z ∧ vs = [.str y] ∧ Q (.bl (Txt.startswith z y)) H) := by
  intro pins s σ H x vs v us Q I rx rv h
  obtain ⟨z, y, rfl, rfl, q⟩ := h
  obtain ⟨t, rfl⟩ := rx
  obtain ⟨u, rfl⟩ := rv.oneS
  exact call_gives PySem.F.slot_str_startswith (typeIs_str s z t) PySem.F.entry_str_startswith (PySem.F.args_str_startswith_2 _ _) (gives_str_startswith z y t u) ⟨.bl _, H, I, rfl, q⟩
theorem mt_rstripC : MtR X "str.rstrip" (fun x vs H Q => ∃ z y, x = .str z ∧ vs = [.str y] ∧ z.length ≤ sizeLine ∧ Q (.str (Txt.rstripChars z y)) H) := by
  intro pins s σ H x vs v us Q I rx rv h
  obtain ⟨z, y, rfl, rfl, hl, q⟩ := h
  obtain ⟨t, rfl⟩ := rx
  obtain ⟨u, rfl⟩ := rv.oneS
  exact call_gives PySem.F.slot_str_rstrip (typeIs_str s z t) PySem.F.entry_str_rstrip (PySem.F.args_str_rstrip_2 _ _) (gives_str_rstrip_chars z y t u) (post_val_or_made (fun _ => fits_stripped _ _ _ hl) fun t' k => ⟨.str _, H, I.tok _, ⟨_, rfl⟩, q⟩)
def rSlS : V → Option Int → Option Int → Hp → VK → Prop := fun x lo hi H Q => ∃ z, x = .str z ∧ z.length ≤ sizeLine ∧ Q (.str (Txt.slice z lo hi)) H
theorem part_is {v : Value} {o : Option Int} (h : IsPart v o) : ∃ l : Option (Int × Tok), partValue l = v ∧ l.map (·.1) = o := by
  cases h with
  | none => exact ⟨none, rfl, rfl⟩
  | int i t => exact ⟨some (i, t), rfl, rfl⟩
theorem sl_str : SlR X rSlS := by
  intro pins s σ H x v vl vu lo hi sl Q I rx hs pl pu h
  obtain ⟨z, rfl, hl, q⟩ := h
  obtain ⟨t, rfl⟩ := rx
  obtain ⟨l, rfl, el⟩ := part_is pl
  obtain ⟨u, rfl, eu⟩ := part_is pu
  have hs' : s.heap.IsSlice sl l u none := hs
  refine ⟨"str", _, PySem.F.slot_str_getitem.lookup, typeIs_str s z t, wpAny_getItem_str_slice hs' rfl ?_⟩
  have key : ∀ t' k, EP X pins σ Q (.str (Txt.slice z (l.map (·.1)) (u.map (·.1))) t') { s with toks := k } := fun t' k => ⟨.str _, H, I.tok _, ⟨_, rfl⟩, by rw [el, eu]; exact q⟩
  exact post_val_or_str ⟨Nat.le_trans (Txt.slice_le z _ _) hl, key⟩
end
end L2
namespace OD
open PySem PySem.Spec PyProof.Rows L2
section
variable {X : Cx} {a b e : Expr} {ta tb t : DTE} {p pos p0 : Pos} {x : Str}
def gCatS : Dt → Dt → (Dt → Prop) → Prop := fun d e Q => ∃ x y, d = .str x ∧ e = .str y ∧ x.length + y.length ≤ 16777216 ∧ Q (.str (x ++ y))
theorem o_catS : DOp X (binaryOp .Add) gCatS := by
  refine ⟨_, op_add_str, fun H x y d e Q i1 i2 ⟨u, v, ed, ee, hl, q⟩ R k => ?_⟩
  subst ed
  subst ee
  exact ⟨u, v, is_str.mp i1, is_str.mp i2, by rw [sizeLine_eq]; exact hl, k _ _ H (Le.refl H) (is_str.mpr rfl) q⟩
def occ (y x : Str) : Bool := !(Builtin.Str.occurrences x y 0 x.length 1).isEmpty
theorem o_notinT : DOp X (compareOp .NotIn) (gS fun y x => .bl (!occ y x)) := by
  refine ⟨_, op_notin_str, fun H x y d e Q i1 i2 ⟨u, v, ed, ee, q⟩ R k => ?_⟩
  subst ed
  subst ee
  exact ⟨u, v, is_str.mp i1, is_str.mp i2, k _ _ H (Le.refl H) (is_bl.mpr rfl) q⟩
def dLenS (ta : DTE) : DTE := fun ρ Q => ta ρ fun d => ∃ x, d = .str x ∧ x.length ≤ 16777216 ∧ Q (.int x.length)
theorem de_lenS (hg : Gl X "len") (hm : X.mg "len" = none) (ha : DE X a ta) (hs : starEach [a] X.env = (false, eval a X.env) :: starEach [] X.env := by rfl) (hpl : (backTo pos (starEach [] X.env)).any (·.1) = false := by rfl) :
    DE X (.Call (.Name "len" p0) [a] [] pos) (dLenS ta) := by
  obtain ⟨te, p1, l1⟩ := ha
  refine ⟨_, pe_callB call_len_str hg hm PySem.boot_len (pa_cons p1 pa_nil hs) (by decide) (by decide) hs hpl, fun ρ σ H Q r h R k => l1 ρ σ H _ r h _ fun d v H1 s1 i1 ⟨x, ed, hl, q⟩ => ?_⟩
  subst ed
  exact ⟨x, by rw [is_str.mp i1], by rw [sizeLine_eq]; exact hl, k _ _ H1 s1 (is_int.mpr rfl) q⟩
def dStr (ta : DTE) : DTE := fun ρ Q => ta ρ fun d => ∃ i : Int, d = .int i ∧ i.natAbs.log2 < 1920 ∧ Q (.str (toString i))
theorem de_strI (hg : Gl X "str") (hm : X.mg "str" = none) (ha : DE X a ta) (hs : starEach [a] X.env = (false, eval a X.env) :: starEach [] X.env := by rfl) (hpl : (backTo pos (starEach [] X.env)).any (·.1) = false := by rfl) :
    DE X (.Call (.Name "str" p0) [a] [] pos) (dStr ta) := by
  obtain ⟨te, p1, l1⟩ := ha
  refine ⟨_, pe_callTy call_str_int hg hm PyProof.Rows.boot_str (pa_cons p1 pa_nil hs) (by decide) (by decide) hs hpl, fun ρ σ H Q r h R k => l1 ρ σ H _ r h _ fun d v H1 s1 i1 ⟨i, ed, hl, q⟩ => ?_⟩
  subst ed
  exact ⟨i, by rw [is_int.mp i1], hl, k _ _ H1 s1 (is_str.mpr rfl) q⟩
def dItS (ta tb : DTE) : DTE := dOp (fun d e Q => ∃ x i c, d = .str x ∧ e = .int i ∧ 0 ≤ i ∧ i < 2 ^ 63 ∧ i < x.length ∧ x.cps[i.toNat]? = some c ∧ Q (.str ⟨#[c]⟩)) ta tb
theorem de_itS (ha : DE X a ta) (hb : DE X b tb) (hs : PlainIxT b := by intro _ _; rfl) : DE X (.Subscript a b pos) (dItS ta tb) := by
  obtain ⟨te, p1, l1⟩ := ha
  obtain ⟨tf, p2, l2⟩ := hb
  refine ⟨_, pe_item_str p1 p2 hs, liOp l1 l2 fun H x y d e Q i1 i2 ⟨z, i, c, ed, ee, h0, h1, h2, hc, q⟩ R k => ?_⟩
  subst ed
  subst ee
  exact ⟨z, i, c, is_str.mp i1, is_int.mp i2, h0, h1, h2, hc, k _ _ H (Le.refl H) (is_str.mpr rfl) q⟩
theorem de_gstr {y : Str} {tk : Tok} (hg : Gl X x) (hm : X.mg x = some (.str y tk)) (hd : (x == ("__debug__" : Str)) = false := by decide) : DE X (.Name x pos) (dC (.str y)) :=
  ⟨_, pe_glob hg hm (v := .str y) ⟨tk, rfl⟩ hd, fun ρ σ H Q r h R k => k (.str y) (.str y) H (Le.refl H) (is_str.mpr rfl) h⟩
def dMt (f : Str → Str → Dt) (ta tb : DTE) : DTE := fun ρ Q => ta ρ fun d => ∃ x, d = .str x ∧ x.length ≤ 16777216 ∧ tb ρ fun e => ∃ y, e = .str y ∧ Q (f x y)
variable {apos cpos : Pos}
theorem de_starts (ha : DE X a ta) (hb : DE X b tb) (hbase : attributeBase a "startswith" X.env (eval a X.env) = eval a X.env := by rfl)
    (hfew : ((backTo cpos (starEach [b] X.env)).all (fun x => !x.1) && (backToKw cpos (keywordEach [] X.env)).all (fun x => x.1.isSome)
      && decide ([b].length + ([] : List Keyword).length + (if ([] : List Keyword).isEmpty then 0 else 1) < 30)) = true := by rfl)
    (hline : (apos.endLine == cpos.line) = true := by rfl) (hs : starEach [b] X.env = (false, eval b X.env) :: starEach [] X.env := by rfl) (hpl : (backTo cpos (starEach [] X.env)).any (·.1) = false := by rfl) :
    DE X (.Call (.Attribute a "startswith" apos) [b] [] cpos) (dMt (fun x y => .bl (Txt.startswith x y)) ta tb) := by
  obtain ⟨te, p1, l1⟩ := ha
  obtain ⟨tf, p2, l2⟩ := hb
  refine ⟨_, pe_bm PySem.F.plainAttrs_str PySem.F.slot_str_startswith PySem.F.type_str_startswith mt_starts p1 (pa_cons p2 pa_nil hs) hbase hfew hline hs hpl, fun ρ σ H Q r h R k => l1 ρ σ H _ r h _ fun d v H1 s1 i1 ⟨x, ed, hl, q1⟩ => ?_⟩
  subst ed
  obtain rfl := is_str.mp i1
  refine ⟨rfl, l2 ρ σ H1 _ (r.mono s1) q1 _ fun e u H2 s2 i2 ⟨y, ee, q2⟩ => ?_⟩
  subst ee
  obtain rfl := is_str.mp i2
  exact ⟨x, y, rfl, rfl, k _ _ H2 (s1.trans s2) (is_bl.mpr rfl) q2⟩
theorem de_rstripC (ha : DE X a ta) (hb : DE X b tb) (hbase : attributeBase a "rstrip" X.env (eval a X.env) = eval a X.env := by rfl)
    (hfew : ((backTo cpos (starEach [b] X.env)).all (fun x => !x.1) && (backToKw cpos (keywordEach [] X.env)).all (fun x => x.1.isSome)
      && decide ([b].length + ([] : List Keyword).length + (if ([] : List Keyword).isEmpty then 0 else 1) < 30)) = true := by rfl)
    (hline : (apos.endLine == cpos.line) = true := by rfl) (hs : starEach [b] X.env = (false, eval b X.env) :: starEach [] X.env := by rfl) (hpl : (backTo cpos (starEach [] X.env)).any (·.1) = false := by rfl) :
    DE X (.Call (.Attribute a "rstrip" apos) [b] [] cpos) (dMt (fun x y => .str (Txt.rstripChars x y)) ta tb) := by
  obtain ⟨te, p1, l1⟩ := ha
  obtain ⟨tf, p2, l2⟩ := hb
  refine ⟨_, pe_bm PySem.F.plainAttrs_str PySem.F.slot_str_rstrip PySem.F.type_str_rstrip mt_rstripC p1 (pa_cons p2 pa_nil hs) hbase hfew hline hs hpl, fun ρ σ H Q r h R k => l1 ρ σ H _ r h _ fun d v H1 s1 i1 ⟨x, ed, hl, q1⟩ => ?_⟩
  subst ed
  obtain rfl := is_str.mp i1
  refine ⟨rfl, l2 ρ σ H1 _ (r.mono s1) q1 _ fun e u H2 s2 i2 ⟨y, ee, q2⟩ => ?_⟩
  subst ee
  obtain rfl := is_str.mp i2
  exact ⟨x, y, rfl, rfl, by rw [sizeLine_eq]; exact hl, k _ _ H2 (s1.trans s2) (is_str.mpr rfl) q2⟩
def dSlT (te : DTE) (tl th : DTO) : DTE := fun ρ Q => te ρ fun d => tl ρ fun l => th ρ fun u => ∃ x, d = .str x ∧ x.length ≤ 16777216 ∧ Q (.str (Txt.slice x l u))
theorem de_sliceT {lo hi : Option Expr} {tl th : DTO} {p2 : Pos} (ha : DE X a ta) (hl : DO X lo tl) (hu : DO X hi th) : DE X (.Subscript a (.Slice lo hi none p2) pos) (dSlT ta tl th) := by
  obtain ⟨te, p1, l1⟩ := ha
  obtain ⟨tf, p2, l2⟩ := hl
  obtain ⟨tg, p3, l3⟩ := hu
  refine ⟨_, pe_slice sl_str p1 p2 p3, fun ρ σ H Q r h R k => l1 ρ σ H _ r h _ fun d v H1 s1 i1 q1 => l2 ρ σ H1 _ (r.mono s1) q1 _ fun l H2 s2 q2 => l3 ρ σ H2 _ (r.mono (s1.trans s2)) q2 _ fun u H3 s3 ⟨x, ed, hx, q⟩ => ?_⟩
  subst ed
  exact ⟨x, is_str.mp i1, by rw [sizeLine_eq]; exact hx, k _ _ H3 ((s1.trans s2).trans s3) (is_str.mpr rfl) q⟩
end
end OD
namespace L2
open PySem PySem.Spec PyProof.Rows
def ItS (z : Str) : It := ⟨fun i _ => i < z.cps.size, fun i H x H' => H' = H ∧ ∃ c, z.cps[i]? = some c ∧ x = .str ⟨#[c]⟩, fun i _ => z.cps.size ≤ i⟩
theorem turn_ascii {P : Program} {w : World} {K : PySem.W.Frag} {tg : Expr} (it : Addr) (z : Str) (t : Tok) : Turn P w K tg (ItS z) [it] it (fun i h => h.IsStrIter it "str_ascii_iterator" z t i) where
  mem := by simp
  obj := fun i h st b hb => by
    have e : b = it := by simpa using hb
    subst e
    obtain ⟨o, e, c, d⟩ := st
    exact ⟨o, e, fun v z => by rw [d] at z; cases z⟩
  keep := fun i h h' st k => by
    obtain ⟨o, e, r⟩ := st
    exact ⟨o, k it (by simp) o e, r⟩
  item := by
    intro X hP hw hK hc i pins s σ H E I hf st hg
    subst hP hw hK
    obtain ⟨f0, f1, f2, f3, f4, f5⟩ := hf it (by simp)
    have hg : i < z.cps.size := hg
    have W := Walks.strAscii (prog := X.prog) (w := X.w) (I.ok.hd hc) it z t
    refine W.item i s _ _ hg st fun v h' tk hv st' kk => ?_
    obtain ⟨c, u, ec, rfl⟩ := hv
    have I1 : Inv X pins σ H { s with heap := h', toks := tk } := I.turned (fun b o hb e => kk b o (by simpa using hb) e) f0 f1 f3 f4 f5
    obtain ⟨o, e, cl, d⟩ := id st'
    exact ⟨_, rfl, go_of (s := { s with heap := h', toks := tk }) e cl d (by decide) ⟨.str ⟨#[c]⟩, H, I1, ⟨u, rfl⟩, ⟨rfl, c, ec, rfl⟩, st', fun b hb => (hf b hb).1⟩⟩
  done := by
    intro X hP hw hK hc i pins s σ H E I hf st hg
    subst hP hw hK
    obtain ⟨f0, f1, f2, f3, f4, f5⟩ := hf it (by simp)
    have hg : z.cps.size ≤ i := hg
    exact wpAny_pyNext_ascii_end (I.ok.hd hc) st (by simp; omega) fun h' eb => ⟨rfl, I.turned (t' := s.toks) (fun b o hb e => eb b o hb e) f0 f1 f3 f4 f5⟩
  self := fun _ _ _ _ _ st h => wpAny_pyIter_striter_ascii st h
section
variable {X : Cx} {tg : Expr}
def iTxt (tl : TE) : TI := fun σ H R => tl σ H fun v H1 => ∃ z, v = .str z ∧ z.cps.all (· < 128) = true ∧ R (ItS z) H1
theorem pi_txt {l : Expr} {tl : TE} (hl : PE X l tl) : PI X tg l (iTxt tl) := by
  intro pins s σ H R I h
  refine thn (hl pins s σ H _ I h) fun v s1 ⟨x, H1, I1, r1, q1⟩ => ?_
  obtain ⟨z, e, ha, q⟩ := q1
  subst e
  obtain ⟨t, rfl⟩ := r1
  refine wpAny_pyIter_ascii ha ?_
  refine ⟨s1.heap.objs.size, [s1.heap.objs.size], _, _, H1, rfl, I1.kept (t' := s1.toks) fun b o e => Heap.get?_push_of_some _ e, turn_ascii _ z t, ⟨_, Heap.get?_push_size _ rfl, rfl, rfl⟩, fun b hb => ?_, q⟩
  have e : b = s1.heap.objs.size := by simpa using hb
  subst e
  exact I1.fpOk (Nat.le_refl _) (I1.hok.fresh (Nat.le_refl _))
theorem for_txt {z : Str} {g : TG} {tb : TS} {D : Ends} {σ : St} {H : Hp} (Pv : Nat → St → Hp → Prop) (h0 : Pv 0 σ H)
    (hs : ∀ i c σ H, z.cps[i]? = some c → Pv i σ H → g (.str ⟨#[c]⟩) σ H fun σ2 H2 => tb { D with nx := Pv (i + 1), ct := Pv (i + 1), bk := D.nx } σ2 H2) (hd : ∀ σ H, Pv z.cps.size σ H → D.nx σ H) :
    ∃ W : Nat → Nat → St → Hp → Prop, (∃ m, W 0 m σ H) ∧ ∀ i m σ H, W i m σ H →
      ((ItS z).stop i H ∧ D.nx σ H) ∨ ((ItS z).go i H ∧ ∃ N : St → Hp → Prop, (∀ σ' H', N σ' H' → ∃ m', m' < m ∧ W (i + 1) m' σ' H') ∧ ∀ x H', (ItS z).yld i H x H' → g x σ H' fun σ2 H2 => tb { D with nx := N, ct := N, bk := D.nx } σ2 H2) := by
  refine ⟨fun i m σ H => m = z.cps.size - i ∧ i ≤ z.cps.size ∧ Pv i σ H, ⟨z.cps.size, by simp, Nat.zero_le _, h0⟩, ?_⟩
  rintro i m σ H ⟨rfl, hi, p⟩
  by_cases hlt : i < z.cps.size
  · refine .inr ⟨hlt, Pv (i + 1), fun σ' H' p' => ⟨z.cps.size - (i + 1), by omega, rfl, hlt, p'⟩, fun x H' y => ?_⟩
    obtain ⟨e, c, ec, y⟩ := y
    subst e y
    exact hs i c σ _ ec p
  · have e : i = z.cps.size := by omega
    subst e
    exact .inl ⟨Nat.le_refl _, hd σ H p⟩
end
end L2
namespace OD
open PySem PySem.Spec PyProof.Rows L2
section
variable {X : Cx} {fr : Fr} {te : DTE} {pos : Pos}
def dForT (j : Nat) (te : DTE) (tb : DTS) : DTS := fun D ρ => te ρ fun d => ∃ (x : Str) (Pv : Nat → DS → Prop), d = .str x ∧ x.cps.all (· < 128) = true ∧ Pv 0 ρ ∧
  (∀ i c ρ', x.cps[i]? = some c → Pv i ρ' → tb { D with nx := Pv (i + 1), ct := Pv (i + 1), bk := D.nx } (ρ'.set j (.some (.str ⟨#[c]⟩)))) ∧ ∀ ρ', Pv x.cps.size ρ' → D.nx ρ'
theorem ds_forT {j : Nat} {x : Str} {a : Expr} {body : List Stmt} {tb : DTS} {px : Pos} (hc : X.calm = true) (hN : X.N.Nodup) (hi : X.N[j]? = some x) (hx : Loc X.env.scope x) (hp : PassesOwn (model X.prog X.w) X.A X.env X.xe)
    (h : DE X a te) (hb : DSs X fr body tb) (hs : ∀ x, foldedSetIterable a X.env x = pure x := by intro _; rfl)
    (hf : X.fn x = true ∨ X.env.scope.names.lookup x = some .local := by first | exact .inl rfl | exact .inr rfl | assumption) : DSt X fr (.For (.Name x px) a body [] pos) (dForT j te tb) := by
  obtain ⟨tt, p, l⟩ := h
  obtain ⟨tbs, p2, l2⟩ := hb
  refine ⟨_, ps_for hp hc (pi_txt p) (pg_name hN hi hx hf) p2 hs, fun W0 G ρ σ W D D' at_ s h => l ρ σ W _ at_.rl h _ fun d v W1 s1 i1 ⟨z, Pv, ed, hz, h0, ht, hd⟩ => ?_⟩
  subst ed
  have hg : Same G W1.g := at_.gs.trans s1.g
  refine ⟨z, is_str.mp i1, hz, for_txt (fun i => InL X.K (Zx X) W0 W1 (Pv i)) ⟨ρ, W1, rfl, (at_.step s1).now, h0⟩ ?_ ?_⟩
  · rintro i c σ' _ ec ⟨ρ', W2, rfl, a2, hp2⟩
    exact l2 W0 W1.g _ _ W2 { D with nx := Pv (i + 1), ct := Pv (i + 1), bk := D.nx } _ (a2.set j (is_str.mpr rfl)) (sim_loop s hg) (ht i c ρ' ec hp2)
  · rintro σ' _ ⟨ρ', W2, rfl, a2, hp2⟩
    exact s.nx ρ' σ' W2 (a2.weak hg) (hd ρ' hp2)
end
end OD

namespace OD
open PySem
local macro_rules | `(tactic| walk_at "ws") => `(tactic| any_goals (first | assumption | wp_step))
def isDg (c : Nat) : Prop := 48 ≤ c ∧ c ≤ 57
def dgs (l : List Nat) : Nat := l.foldl (fun a c => a * 10 + (c - 48)) 0
def dgVal : List Nat → Int
  | 45 :: r => -(dgs r : Int)
  | l => dgs l
def Numl (l : List Nat) : Prop := l = [48] ∨ ∃ c r, 49 ≤ c ∧ c ≤ 57 ∧ (∀ x ∈ r, isDg x) ∧ (l = c :: r ∨ l = 45 :: c :: r)
theorem Numl.mem {l : List Nat} (h : Numl l) : ∀ c ∈ l, 45 ≤ c ∧ c ≤ 57 := by
  rcases h with rfl | ⟨c, r, c1, c2, hr, rfl | rfl⟩
  · intro c hc
    rw [List.mem_singleton.mp hc]; decide
  · intro x hx
    rcases List.mem_cons.mp hx with rfl | hx
    · omega
    · have := hr x hx
      unfold isDg at this; omega
  · intro x hx
    rcases List.mem_cons.mp hx with rfl | hx
    · decide
    rcases List.mem_cons.mp hx with rfl | hx
    · omega
    · have := hr x hx
      unfold isDg at this; omega
theorem ten {c : Nat} (h : isDg c) : c = 48 ∨ c = 49 ∨ c = 50 ∨ c = 51 ∨ c = 52 ∨ c = 53 ∨ c = 54 ∨ c = 55 ∨ c = 56 ∨ c = 57 := by
  unfold isDg at h; omega
theorem takeWhile_all {p : Nat → Bool} : ∀ {l : List Nat}, (∀ x ∈ l, p x = true) → l.takeWhile p = l
  | [], _ => rfl
  | c :: r, h => by rw [List.takeWhile_cons, if_pos (h c List.mem_cons_self), takeWhile_all fun x hx => h x (List.mem_cons_of_mem _ hx)]
theorem fold_dg {f : Array Nat × Bool → Nat → Option (Array Nat × Bool)} (hf : ∀ a b c, isDg c → f (a, b) c = some (a.push (c - 48), true)) : ∀ (l : List Nat) (a : Array Nat) (b : Bool), (∀ x ∈ l, isDg x) → l.foldlM f (a, b) = some (a ++ (l.map (· - 48)).toArray, b || !l.isEmpty)
  | [], a, b, _ => by simp
  | c :: r, a, b, h => by
    rw [List.foldlM_cons, hf a b c (h c List.mem_cons_self)]
    show r.foldlM f (a.push (c - 48), true) = _
    rw [fold_dg hf r _ _ fun x hx => h x (List.mem_cons_of_mem _ hx)]
    simp
theorem drop_last {p : Nat → Bool} (hp : ∀ c, isDg c → p c = false) : ∀ (l : List Nat), (∀ x ∈ l, isDg x) → l ≠ [] → (l.reverse.dropWhile p).reverse = l := fun l h hn => by
  cases e : l.reverse with
  | nil => simp at e; exact absurd e hn
  | cons c r =>
    rw [List.dropWhile_cons, hp c (h c (by rw [← List.mem_reverse, e]; exact List.mem_cons_self))]
    simp only [Bool.false_eq_true, if_false]
    rw [← e, List.reverse_reverse]
theorem numl_core {N : Type} {R inv lib : N} {tl : Nat → N} {val : Int → N} {p : Nat → Bool} {f : Array Nat × Bool → Nat → Option (Array Nat × Bool)} {g : Array Nat × Bool → Option (Array Nat)} {cs : List Nat} {neg : Bool}
    (hR : R = (match (cs.reverse.dropWhile p).reverse.foldlM f (#[], false) >>= g with
      | none => inv
      | some ds => if (![2, 4, 8, 16, 32].contains 10 && 0 != 0 && decide (ds.size > 0)) = true then tl ds.size else if (10 == 10 && decide (ds.size > 6000)) = true then lib else
        if (false && ds.foldl (fun acc d => acc * 10 + d) 0 != 0) = true then inv else val (if neg = true then -((ds.foldl (fun acc d => acc * 10 + d) 0 : Nat) : Int) else ((ds.foldl (fun acc d => acc * 10 + d) 0 : Nat) : Int))))
    (hf : ∀ a b c, isDg c → f (a, b) c = some (a.push (c - 48), true)) (hp : ∀ c, isDg c → p c = false) (hg : ∀ a, g (a, true) = some a) (hd : ∀ x ∈ cs, isDg x) (hn : cs ≠ []) (hl : cs.length ≤ 640) :
    R = val (if neg = true then -(dgs cs : Int) else dgs cs) := by
  rw [hR, drop_last hp cs hd hn, fold_dg hf cs _ _ hd]
  have e : (false || !cs.isEmpty) = true := by cases cs <;> first | rfl | exact absurd rfl hn
  rw [e]
  show (match g (#[] ++ (cs.map (· - 48)).toArray, true) with | none => inv | some ds => _) = _
  rw [hg]
  have sz : (#[] ++ (cs.map (· - 48)).toArray : Array Nat).size = cs.length := by simp
  have fo : (#[] ++ (cs.map (· - 48)).toArray : Array Nat).foldl (fun acc d => acc * 10 + d) 0 = dgs cs := by simp [dgs, List.foldl_map]
  show (if (![2, 4, 8, 16, 32].contains 10 && 0 != 0 && decide ((#[] ++ (cs.map (· - 48)).toArray : Array Nat).size > 0)) = true then _ else _) = _
  rw [if_neg (by simp), if_neg (by rw [sz]; simp; omega), if_neg (by simp), fo]
theorem meets_int_new_str (x : Str) (t : Tok) (hx : Numl x.cps.toList) (hl : x.cps.toList.length ≤ 640) :
    Meets (Builtin.«int.__new__» ⟨[.type "int", .str x t], []⟩) (Made.int (dgVal x.cps.toList)).spec :=
  Meets.of_wp fun prog w A R s h => by
    obtain ⟨hp, g, d, tk, os⟩ := s
    have hm := hx.mem
    have ha : x.cps.all (· < 128) = true := by
      rw [← Array.all_toList, List.all_eq_true]
      intro c hc
      have := hm c hc
      exact decide_eq_true (by omega)
    have hz : x.cps.toList.takeWhile (· != 0) = x.cps.toList := takeWhile_all fun c hc => by
      have := hm c hc
      simp
      omega
    clear hm
    have f1 := F.conv_sub_int
    have f2 := F.madeHere_int
    have f3 : typeLookup (.type "str") "__int__" = pure none := by rw [typeLookup_type, builtinLookup_eq_fast]; kernel_rfl
    have f4 : typeLookup (.type "str") "__index__" = pure none := by rw [typeLookup_type, builtinLookup_eq_fast]; kernel_rfl
    have f5 : typeLookup (.type "str") "__trunc__" = pure none := by rw [typeLookup_type, builtinLookup_eq_fast]; kernel_rfl
    iterate 48 walk_at "ws"
    simp only [ha, if_true]
    repeat walk_at "ws"
    simp only [hz, hl, if_true]
    repeat walk_at "ws"
    generalize x.cps.toList = l at *
    rcases hx with rfl | ⟨c, r, c1, c2, hr, rfl | rfl⟩
    · split
      · rename_i heq
        injection heq
      · rename_i heq
        injection heq
      · rename_i heq
        injection heq with heq
        subst heq
        repeat walk_at "ws"
        exact ⟨_, rfl, h⟩
      · rename_i heq
        injection heq
    all_goals
      have nn : c = 49 ∨ c = 50 ∨ c = 51 ∨ c = 52 ∨ c = 53 ∨ c = 54 ∨ c = 55 ∨ c = 56 ∨ c = 57 := by omega
      have hd : ∀ x ∈ c :: r, isDg x := fun x hx => by
        rcases List.mem_cons.mp hx with rfl | hx
        · exact ⟨by omega, by omega⟩
        · exact hr x hx
      have hl' : (c :: r).length ≤ 640 := by simp only [List.length_cons] at hl ⊢; omega
    · have hv : (if false = true then -(dgs (c :: r) : Int) else dgs (c :: r)) = dgVal (c :: r) := by
        rcases nn with rfl | rfl | rfl | rfl | rfl | rfl | rfl | rfl | rfl <;> rfl
      split
      all_goals
        rename_i heq
        have e := (numl_core (neg := false) (cs := c :: r) (by rcases nn with rfl | rfl | rfl | rfl | rfl | rfl | rfl | rfl | rfl <;> rfl) (fun a b c h => by rcases ten h with rfl | rfl | rfl | rfl | rfl | rfl | rfl | rfl | rfl | rfl <;> rfl) (fun c h => by rcases ten h with rfl | rfl | rfl | rfl | rfl | rfl | rfl | rfl | rfl | rfl <;> rfl) (fun a => rfl) hd (fun z => nomatch z) hl').symm.trans heq
      · injection e
      · injection e
      · injection e with e
        rw [hv] at e
        subst e
        repeat walk_at "ws"
        exact ⟨_, rfl, h⟩
      · injection e
    · split
      all_goals
        rename_i heq
        have e := (numl_core (neg := true) (cs := c :: r) (by rcases nn with rfl | rfl | rfl | rfl | rfl | rfl | rfl | rfl | rfl <;> rfl) (fun a b c h => by rcases ten h with rfl | rfl | rfl | rfl | rfl | rfl | rfl | rfl | rfl | rfl <;> rfl) (fun c h => by rcases ten h with rfl | rfl | rfl | rfl | rfl | rfl | rfl | rfl | rfl | rfl <;> rfl) (fun a => rfl) hd (fun z => nomatch z) hl').symm.trans heq
      · injection e
      · injection e
      · injection e with e
        subst e
        repeat walk_at "ws"
        exact ⟨_, rfl, h⟩
      · injection e
end OD
namespace L2
open PySem PySem.Spec PyProof.Rows
section
variable {X : Cx}
theorem call_int_str : CallR X (.type "int") (fun xs H Q => ∃ z, xs = [.str z] ∧ OD.Numl z.cps.toList ∧ z.cps.toList.length ≤ 640 ∧ Q (.int (OD.dgVal z.cps.toList)) H) := by
  intro pins s σ H xs us Q I r h
  obtain ⟨z, rfl, hn, hl, q⟩ := h
  obtain ⟨t, rfl⟩ := r.oneS
  exact call_int_1 (OD.meets_int_new_str z t hn hl) ⟨rfl, .int _, H, I.tok _, ⟨_, rfl⟩, q⟩
theorem mt_zfill : MtR X "str.zfill" (fun x vs H Q => ∃ z i, x = .str z ∧ vs = [.int i] ∧ PadOk i = true ∧ z.length ≤ sizeLine ∧ Q (.str (Txt.zfill z i)) H) := by
  intro pins s σ H x vs v us Q I rx rv h
  obtain ⟨z, i, rfl, rfl, hp, hz, q⟩ := h
  obtain ⟨t, rfl⟩ := rx
  obtain ⟨u, rfl, t', rfl⟩ := vals1 rv
  exact call_gives PySem.F.slot_str_zfill (typeIs_str s z t) PySem.F.entry_str_zfill (PySem.F.args_str_zfill_2 _ _) (gives_str_zfill z i t t' (PadOk.parts hp).1 (PadOk.parts hp).2) (post_val_or_made (fits_zfilled (PadOk.parts hp).2) fun t2 k => ⟨.str _, H, I.tok _, ⟨_, rfl⟩, q⟩)
theorem vals_strs : ∀ {ts : List Str} {us : List Value}, Vals (ts.map V.str) us → ∃ l, us = strValues l ∧ l.map (·.1) = ts
  | [], us, h => by cases h; exact ⟨[], rfl, rfl⟩
  | x :: ts, us, h => by
    cases h with
    | cons r h =>
      obtain ⟨t, rfl⟩ := r
      obtain ⟨l, rfl, e⟩ := vals_strs h
      exact ⟨(x, t) :: l, rfl, by rw [List.map_cons, e]⟩
theorem mt_join : MtR X "str.join" (fun x vs H Q => ∃ z p ts, x = .str z ∧ vs = [.ref p] ∧ SqL X.K H p (ts.map V.str) ∧ JoinOk z ts = true ∧ Q (.str (Txt.join z ts)) H) := by
  intro pins s σ H x vs v us Q I rx rv h
  obtain ⟨z, p, ts, rfl, rfl, hq, hok, q⟩ := h
  obtain ⟨t, rfl⟩ := rx
  obtain ⟨u, rfl, ru⟩ := rv.one
  cases ru
  obtain ⟨its, r, pl, hz⟩ := I.list hq
  obtain ⟨l, rfl, rfl⟩ := vals_strs r
  exact SC.join pl.isList rfl hok fun t' k => ⟨.str _, H, I.tok _, ⟨_, rfl⟩, q⟩
end
end L2
namespace OD
open PySem PySem.Spec PyProof.Rows L2
section
variable {X : Cx} {a b e : Expr} {ta tb t : DTE} {p pos p0 : Pos} {x : Str}
theorem de_gstrE {y : Str} (hg : Gl X x) (hm : ∃ tk, X.mg x = some (.str y tk)) (hd : (x == ("__debug__" : Str)) = false := by decide) : DE X (.Name x pos) (dC (.str y)) := by
  obtain ⟨tk, hm⟩ := hm
  exact de_gstr hg hm hd
def dIntS (ta : DTE) : DTE := fun ρ Q => ta ρ fun d => ∃ x : Str, d = .str x ∧ Numl x.cps.toList ∧ x.cps.toList.length ≤ 640 ∧ Q (.int (dgVal x.cps.toList))
theorem de_intS (hg : Gl X "int") (hm : X.mg "int" = none) (ha : DE X a ta) (hs : starEach [a] X.env = (false, eval a X.env) :: starEach [] X.env := by rfl) (hpl : (backTo pos (starEach [] X.env)).any (·.1) = false := by rfl) :
    DE X (.Call (.Name "int" p0) [a] [] pos) (dIntS ta) := by
  obtain ⟨te, p1, l1⟩ := ha
  refine ⟨_, pe_callTy call_int_str hg hm boot_intT (pa_cons p1 pa_nil hs) (by decide) (by decide) hs hpl, fun ρ σ H Q r h R k => l1 ρ σ H _ r h _ fun d v H1 s1 i1 ⟨x, ed, hn, hl, q⟩ => ?_⟩
  subst ed
  exact ⟨x, by rw [is_str.mp i1], hn, hl, k _ _ H1 s1 (is_int.mpr rfl) q⟩
variable {apos cpos : Pos}
def dZf (ta tb : DTE) : DTE := fun ρ Q => ta ρ fun d => ∃ x, d = .str x ∧ x.length ≤ 16777216 ∧ tb ρ fun e => ∃ i, e = .int i ∧ PadOk i = true ∧ Q (.str (Txt.zfill x i))
theorem de_zfill (ha : DE X a ta) (hb : DE X b tb) (hbase : attributeBase a "zfill" X.env (eval a X.env) = eval a X.env := by rfl)
    (hfew : ((backTo cpos (starEach [b] X.env)).all (fun x => !x.1) && (backToKw cpos (keywordEach [] X.env)).all (fun x => x.1.isSome)
      && decide ([b].length + ([] : List Keyword).length + (if ([] : List Keyword).isEmpty then 0 else 1) < 30)) = true := by rfl)
    (hline : (apos.endLine == cpos.line) = true := by rfl) (hs : starEach [b] X.env = (false, eval b X.env) :: starEach [] X.env := by rfl) (hpl : (backTo cpos (starEach [] X.env)).any (·.1) = false := by rfl) :
    DE X (.Call (.Attribute a "zfill" apos) [b] [] cpos) (dZf ta tb) := by
  obtain ⟨te, p1, l1⟩ := ha
  obtain ⟨tf, p2, l2⟩ := hb
  refine ⟨_, pe_bm PySem.F.plainAttrs_str PySem.F.slot_str_zfill PySem.F.type_str_zfill mt_zfill p1 (pa_cons p2 pa_nil hs) hbase hfew hline hs hpl, fun ρ σ H Q r h R k => l1 ρ σ H _ r h _ fun d v H1 s1 i1 ⟨x, ed, hl, q1⟩ => ?_⟩
  subst ed
  obtain rfl := is_str.mp i1
  refine ⟨rfl, l2 ρ σ H1 _ (r.mono s1) q1 _ fun e u H2 s2 i2 ⟨y, ee, hp, q2⟩ => ?_⟩
  subst ee
  obtain rfl := is_int.mp i2
  exact ⟨x, y, rfl, rfl, hp, by rw [sizeLine_eq]; exact hl, k _ _ H2 (s1.trans s2) (is_str.mpr rfl) q2⟩
def dJoin (ta tb : DTE) : DTE := fun ρ Q => ta ρ fun d => ∃ x, d = .str x ∧ tb ρ fun e => ∃ ts : List Str, listOf e = some (ts.map Dt.str) ∧ JoinOk x ts = true ∧ Q (.str (Txt.join x ts))
theorem all_strs {K : PySem.W.Frag} {H : Hp} : ∀ {ts : List Str} {xs : List V}, AllIs K H (ts.map Dt.str) xs → xs = ts.map V.str
  | [], xs, h => allIs_nil.mp h
  | x :: ts, xs, h => by
    obtain ⟨v, r, rfl, h1, h2⟩ := allIs_cons.mp h
    rw [all_strs h2, is_str.mp h1]
    rfl
theorem de_join (ha : DE X a ta) (hb : DE X b tb) (hbase : attributeBase a "join" X.env (eval a X.env) = eval a X.env := by rfl)
    (hfew : ((backTo cpos (starEach [b] X.env)).all (fun x => !x.1) && (backToKw cpos (keywordEach [] X.env)).all (fun x => x.1.isSome)
      && decide ([b].length + ([] : List Keyword).length + (if ([] : List Keyword).isEmpty then 0 else 1) < 30)) = true := by rfl)
    (hline : (apos.endLine == cpos.line) = true := by rfl) (hs : starEach [b] X.env = (false, eval b X.env) :: starEach [] X.env := by rfl) (hpl : (backTo cpos (starEach [] X.env)).any (·.1) = false := by rfl) :
    DE X (.Call (.Attribute a "join" apos) [b] [] cpos) (dJoin ta tb) := by
  obtain ⟨te, p1, l1⟩ := ha
  obtain ⟨tf, p2, l2⟩ := hb
  refine ⟨_, pe_bm PySem.F.plainAttrs_str PySem.F.slot_str_join PySem.F.type_str_join mt_join p1 (pa_cons p2 pa_nil hs) hbase hfew hline hs hpl, fun ρ σ H Q r h R k => l1 ρ σ H _ r h _ fun d v H1 s1 i1 ⟨x, ed, q1⟩ => ?_⟩
  subst ed
  obtain rfl := is_str.mp i1
  refine ⟨rfl, l2 ρ σ H1 _ (r.mono s1) q1 _ fun e u H2 s2 i2 ⟨ts, ee, hok, q2⟩ => ?_⟩
  obtain ⟨p, xs, rfl, h1, h2⟩ := list_is i2 ee
  obtain rfl := all_strs h2
  exact ⟨x, p, ts, rfl, rfl, h1, hok, k _ _ H2 (s1.trans s2) (is_str.mpr rfl) q2⟩
end
end OD

namespace PySem
open Sem (wp)
section
variable {A : Around} {R : Result → Shared → Prop} {s : Shared} {w : World} {prog : Program}
end
end PySem
namespace PySem
open Sem (wp)
section
variable {A : Around} {R : Result → Shared → Prop} {s : Shared} {w : World} {prog : Program}
end
end PySem
namespace L2
open PySem PySem.Spec PyProof.Rows
section
variable {X : Cx} {a : Expr} {p0 p1 pos pos1 : Pos}
end
end L2
namespace OD
open PySem PySem.Spec PyProof.Rows L2
section
variable {X : Cx} {a : Expr} {ta : DTE} {p0 p1 pos pos1 : Pos}
end
end OD
namespace PySem
open Sem (wp)
section
variable {A : Around} {R : Result → Shared → Prop} {s : Shared} {w : World} {prog : Program}
end
end PySem
namespace L2
open PySem PySem.Spec PyProof.Rows
section
variable {X : Cx}
end
end L2
namespace OD
open PySem PySem.Spec PyProof.Rows L2
section
variable {X : Cx}
end
end OD

namespace L2
open PySem PySem.Spec PyProof.Rows
structure HeldB (P : Program) (w : World) (stack : List Env) (H : Hp) (h0 : Heap) (H' : Hp) (e : Addr) (cls : Value) (L : Addr) (h : Heap) : Prop where
  ex : ∃ B a0, Heap.HeldW B stack e cls a0 L h ∧ (∀ b o, h0.get? b = some o → H b = none → b ∉ frs stack → B.get? b = some o) ∧ (∀ b o, h0.get? b = some o → b ∉ frs stack → ∃ o', B.get? b = some o') ∧ HOk P w H' B
  slot : ∀ b o, h0.get? b = some o → b ∈ frs stack → ∃ sl, h.get? b = some { o with slots := sl }
  free : ∀ b o, h0.get? b = some o → H b = none → H' b = none
  tups : ∀ b xs, H b = some (.tup xs) → H' b = some (.tup xs)
  frzs : ∀ b o u, H b = some (.frz o u) → H' b = some (.frz o u)
  tbls : ∀ b ps, H b = some (.tbl ps) → ∃ more, H' b = some (.tbl (ps ++ more))
  new : h0.get? e = none
structure Held (P : Program) (w : World) (stack : List Env) (H : Hp) (h0 : Heap) (H' : Hp) (e : Addr) (cls : Value) (L : Addr) (h : Heap) : Prop extends HeldB P w stack H h0 H' e cls L h where
  chn : ∃ n, Chn h n (.ref e)
theorem K2.sameBut {h h' : Heap} {C : Addr} (hC : ∃ m, h.Ns C m) (sb : Heap.SameBut C h h') : K2 h h' := fun b o vs hb hd => by
  obtain ⟨m, oC, es, ep, hoC, hdC, _⟩ := hC
  refine ⟨o, vs, (sb.2 b fun z => ?_).trans hb, hd, rfl⟩
  rw [z, hoC] at hb
  cases hb
  rw [hdC] at hd
  cases hd
theorem kp_passOn {α : Type} (what : String) (e : Value) (env : Env) : Kp2 (PySem.passOn what e env : Sem α) := by
  unfold PySem.passOn
  refine kp_bind (kp_field _ _) fun _ => kp_ite (kp_bind (kp_uns _) fun _ => ?_) ?_
  all_goals exact kp_bind (kp_setFlight _ _) fun _ => kp_throw _
section
variable {P : Program} {w : World} {stack : List Env} {H H' : Hp} {h0 h : Heap} {e L : Addr} {cls : Value}
end
section
variable {X : Cx} {pins : List (Addr × Obj)} {σ : St} {H H' : Hp} {s s' : Shared} {M : Model} {E : Value → Shared → Prop} {e : Addr} {cls : Value}
theorem held_leaves {Q : Unit → Shared → Prop} (I : Inv X pins σ H s) (hstk : X.stack = X.env :: X.outer) (hf : X.env.frame = some X.env.locals) (f : Held X.prog X.w X.stack X.H₀ X.s₀.heap H' e cls X.env.locals s'.heap)
    (hQ : ∀ h', Flies X.prog X.w X.outer X.H₀ X.s₀.heap H' e cls h' → Q () { s' with heap := h' }) : wpAny M X.A (leaving X.env (.ref e)) Q E s' := by
  have hfs : frs X.stack = X.env.locals :: frs X.outer := by rw [hstk]; unfold frs; rw [List.filterMap_cons, hf]
  have nst : ∀ b o, X.s₀.heap.get? b = some o → b ∉ frs X.outer → b ∉ frs X.stack := fun b o q nb z => by
    rw [hfs] at z
    rcases List.mem_cons.mp z with z | z
    · exact I.neL q z
    · exact nb z
  obtain ⟨B, a0, hh, k1, k2, k3⟩ := f.ex
  have hm := hh.2.2.1
  rw [hstk] at hh
  obtain ⟨cn, ch⟩ := f.chn
  refine with2 (kp_leaving _ _) ?_
  unfold leaving
  refine wpAny_bind (wpAny_noteFrame_againW hf hh.2.2.2 (wpAny_landsW hh fun h' hfl up k2' => hQ h' ⟨?_, cn, ch.k2 k2'⟩))
  obtain ⟨q1, q2, ⟨_, _, q3⟩, q4⟩ := hfl
  refine ⟨⟨B, a0, ⟨q1, q2, q3, q4⟩, fun b o q n nb => k1 b o q n (nst b o q nb), fun b o q nb => k2 b o q (nst b o q nb), k3⟩, fun b o q hb => ?_, f.free, f.tups, f.frzs, f.tbls, f.new⟩
  have hb' : b ∈ frs X.stack := by rw [hfs]; exact List.mem_cons_of_mem _ hb
  obtain ⟨sl, z⟩ := f.slot b o q hb'
  obtain ⟨_, ob, ho, hd⟩ := hm.mem hb'
  rw [z] at ho
  cases ho
  obtain ⟨sl', z'⟩ := up b _ z hd
  exact ⟨sl', z'⟩
end
end L2
namespace OD
open PySem PySem.Spec PyProof.Rows L2
section
variable {X : Cx} {pins pins1 : List (Addr × Obj)} {σ σ1 : L2.St} {H3 H1 H' : Hp} {s3 s1 s' : Shared} {scope : Scope} {x : Str} {fp : List Addr} {C a : Addr} {cls : Value}
end
def XOh (X : Cx) (C : Addr) (H' : Hp) : Prop := ∀ (pins : List (Addr × Obj)) (σ : L2.St) (H : Hp) (s : Shared) (a : Addr) (s' : Shared), Inv X pins σ H s → s'.os = s.os → AllBare s'.gens → Held X.prog X.w X.stack X.H₀ X.s₀.heap H' a (.ref C) X.env.locals s'.heap → X.xe (.ref a) s'
def RzH (X : Cx) (C : Addr) : Prop := Rz X C ∧ ∀ H', Same (Zx X) H' → XOh X C H'
section
variable {P : Program} {w : World} {K : PySem.W.Frag} {mg : Str → Option Value} {base : Heap} {N : List Str} {qual : Str} {scope : Scope} {f C : Addr} {cd : Value} {A : Around} {outer : List Env} {s : Shared} {H H1 : Hp} {E : XK}
theorem rzH_of (h : ∀ H', Same H H' → E (.ref C) none H') : RzH (cxOf (CX1 P w) P w K mg base N qual scope f cd A outer s H E) C := ⟨rz_of h, fun H' z pins σ H2 s2 a s' I os bare fl => by
  rw [zx_def] at z
  exact held_leaves (X := cxOf (CX1 P w) P w K mg base N qual scope f cd A outer s H E) I rfl rfl fl fun h' fl' => ⟨a, C, H', rfl, os.trans I.os, bare, fl', h H' z⟩⟩
end
section
variable {X : Cx} {pins : List (Addr × Obj)} {σ : L2.St} {H : Hp} {s : Shared} {scope : Scope} {x : Str} {fp : List Addr}
end
section
variable {Z : Hp} {X : Cx} {fr : Fr} {scope : Scope} {x g : Str} {iter : Expr} {px pv pf pos cpos : Pos} {tl : DTE} {S : DSpX} {n : Nat}
end
section
variable {P : Program} {w : World} {K : PySem.W.Frag} {mg : Str → Option Value} {base : Heap}
end
section
variable {X : Cx} {fr : Fr} {a e : Expr} {tg : Expr} {ta : DTA} {te : DTE} {p0 pos pos1 rpos tpos : Pos} {h₀ : ExceptHandler} {hs : List ExceptHandler}
end
end OD

namespace L2
open PySem PySem.Spec PyProof.Rows
section
variable {X : Cx}
end
end L2
namespace OD
open PySem PySem.Spec PyProof.Rows L2
section
variable {X : Cx} {a : Expr} {ta : DTE} {p0 pos : Pos}
end
end OD

namespace L2
open PySem PySem.Spec PyProof.Rows
theorem entry_unchain : entryFor table "proto.unchain" = some Builtin.«proto.unchain» := entryFor_of_tree (by kernel_rfl)
section
variable {prog : Program} {w : World} {A : Around} {s : Shared} {h0 : Heap} {e : Addr} {R : Result → Shared → Prop}
theorem unchain_ok (k : K2 h0 s.heap) (hn : h0.get? e = none) (hR : R (.ok (.ret .none)) s) : ∀ (n j : Nat) (o slow : Value) (tg : Bool), n ≤ j → Chn h0 (n + 1) o → Chn h0 (j + 1) slow → codeAny (model prog w) A (.builtin "proto.unchain" ⟨[.ref e, o, slow, .bool tg], []⟩) R s := by
  intro n
  induction n with
  | zero =>
    intro j o slow tg hj ⟨a, ob, vs, x, eo, ho, hd, hx, cx⟩ cs
    subst eo
    cases cx
    obtain ⟨o', vs', ho', hd', hx'⟩ := k a ob vs ho hd
    refine codeAny_builtin entry_unchain ?_
    unfold Builtin.«proto.unchain»
    refine wpAny_bind (wpAny_field ho' hd' (hx'.trans hx) ?_)
    rw [if_pos (by rfl)]
    show wpAny _ _ (pure (Fin.done (.ret .none))) _ _ _
    exact wpAny_pure hR
  | succ n ih =>
    intro j o slow tg hj ⟨a, ob, vs, x, eo, ho, hd, hx, cx⟩ cs
    subst eo
    obtain ⟨o', vs', ho', hd', hx'⟩ := k a ob vs ho hd
    have cx0 := cx
    obtain ⟨a2, ob2, vs2, x2, e2, ho2, hd2, hx2, cx2⟩ := cx
    subst e2
    have ne : a2 ≠ e := fun z => by rw [z, hn] at ho2; cases ho2
    refine codeAny_builtin entry_unchain ?_
    unfold Builtin.«proto.unchain»
    refine wpAny_bind (wpAny_field ho' hd' (hx'.trans hx) ?_)
    rw [if_neg (by simp)]
    rw [if_neg (by simpa using ne)]
    refine wpAny_ite ?_
    split
    · refine wpAny_bind (wpAny_rule ?_)
      show wpAny _ _ (pure (Fin.done (.ret .none))) _ _ _
      exact wpAny_pure hR
    · obtain ⟨j, rfl⟩ : ∃ j', j = j' + 1 := ⟨j - 1, by omega⟩
      cases tg with
      | true =>
        obtain ⟨b, ob3, ws, y, eb, hb, hdb, hy, cy⟩ := cs
        subst eb
        obtain ⟨o3, ws', hb', hdb', hy'⟩ := k b ob3 ws hb hdb
        refine wpAny_bind (wpAny_field hb' hdb' (hy'.trans hy) ?_)
        show wpAny _ _ (pure (Fin.again _)) _ _ _
        exact wpAny_pure ⟨Code.quiet_builtin _ (by decide +kernel), ih j _ _ _ (by omega) cx0 cy⟩
      | false =>
        show wpAny _ _ (pure (Fin.again _)) _ _ _
        exact wpAny_pure ⟨Code.quiet_builtin _ (by decide +kernel), ih (j + 1) _ _ _ (by omega) cx0 cs⟩
theorem raiseNew_chain {α : Type} {E : Value → Shared → Prop} {Q : α → Shared → Prop} {a : Addr} {n : Nat} {oe : Obj} {vs : Array Value} (hh : A.handled = some (.ref a)) (k : K2 h0 s.heap) (hn : h0.get? e = none) (ch : Chn h0 (n + 1) (.ref a))
    (he : s.heap.get? e = some oe) (hd : oe.data = .fields vs) (hz : 2 < vs.size) (h : E (.ref e) { s with heap := s.heap.update e (Obj.mapFields (·.setIfInBounds 2 (.ref a))) }) : wpAny (model prog w) A (raiseNew (.ref e) : Sem α) Q E s := by
  have ne : a ≠ e := fun z => by
    obtain ⟨b, ob, _, _, eb, hb, _⟩ := ch
    cases eb
    rw [z, hn] at hb; cases hb
  unfold raiseNew
  refine wpAny_bind (wpAny_handled ?_)
  rw [hh]
  dsimp only
  rw [if_pos (by simpa using ne)]
  refine wpAny_bind (wpAny_holding (wpAny_runValue (unchain_ok k hn ?_ n n _ _ _ (Nat.le_refl _) ch ch)))
  show wpAny _ _ _ _ _ _
  refine wpAny_bind ?_
  show wpAny _ _ (setField (.ref e) 2 (.ref a)) _ _ _
  exact wpAny_setField he hd hz (wpAny_throw h)
end
structure MadeIn (h h2 : Heap) (e : Addr) (cls ctx : Value) : Prop where
  keeps : ∀ b o, h.get? b = some o → h2.get? b = some o
  new : h.get? e = none
  there : ∃ oe vs a0, h2.get? e = some oe ∧ oe.cls = cls ∧ oe.data = .fields vs ∧ vs[0]? = some a0 ∧ vs[1]? = some .none ∧ vs[2]? = some ctx
theorem raise_from {X : Cx} {C a : Addr} {x m : Str} {np cpos pos mpos npos : Pos} {j j' : Nat} {n : Nat} {pins : List (Addr × Obj)} {σ : St} {H : Hp} {s : Shared} {Q : Flow → Shared → Prop} {E : Value → Shared → Prop} (hg : Gl X x) (hm : X.mg x = some (.ref C)) (hC : ExcK X.K C) (I : Inv (X.inH a) pins σ H s)
    (ch : Chn s.heap (n + 1) (.ref a)) (h : ∀ h2 e, MadeIn s.heap h2 e (.ref C) (.ref a) → E (.ref e) { s with heap := h2, toks := s.toks + 1 }) (hdb : (x == ("__debug__" : Str)) = false := by decide) :
    wpAny (model X.prog X.w) (X.inH a).A (exec (.Raise (some (.Call (.Name x np) [.Constant (.str m) j mpos] [] cpos)) (some (.Constant .none j' npos)) pos) X.env) Q E s := by
  obtain ⟨bm, N, nm, qn, bs, hdct, sn, sub, ab, col, dd, k0, k1, k2, k3, k5, mN, hO, hN, hni, T⟩ := exc_obj I.ok.mod.kin hC
  have hO := I.bk _ _ hO
  have hN := hN.keeps I.bk
  have T := T.keeps I.bk
  rw [arm_exec_Raise]
  refine wpAny_bind (wpAny_standAt ?_)
  unfold raiseStmt
  simp only [evalOpt, Option.map]
  refine wpAny_bind (wpAny_bind (wpAny_Call_ofName (ld_glob (X := X.inH a) I hg hm ?_ hdb)))
  unfold callWith
  refine wpAny_bind (wpAny_holding (Calls.evalArgs_plain (Calls.spliced_cons (Calls.Constant_str (k := j) (pos := mpos) ?_))))
  refine Calls.spliced_nil (wpAny_bind (wpAny_standAt ?_))
  refine wpAny_bind (wpAny_keeperOf_exc hO ?_)
  refine wpAny_bind (PySem.wpAny_call_exc_subU PySem.F.excBase_ValueError (by decide) PySem.F.excBase_ValueError T hO hN hni (fun h' e hm => wpAny_bind (wpAny_holding (wpAny_point (wpAny_pure ?_)))) (hrest := by show 1 ≤ sizeLine; decide))
  refine wpAny_bind (wpAny_standAt (wpAny_pure ?_))
  obtain ⟨t, he, ht, _⟩ := hm.there
  have hO' := hm.keeps _ _ hO
  refine wpAny_bind (wpAny_holding (wpAny_bind (Constant_none (wpAny_bind (wpAny_standAt (wpAny_pure (wpAny_bind (wpAny_pure ?_))))))))
  dsimp only
  have hcB : (Value.ref C :: bm).contains (.type "BaseException") = true := by rw [List.contains_cons, T.hasType PySem.F.excBase_ValueError.hasBase, Bool.or_true]
  repeat (first | with_reducible refine wpAny_loadPart_at he ?_ | with_reducible refine wpAny_loadPart_at hO' ?_ | (with_reducible refine wpAny_isSubtype_exc hO' ?_; rw [hcB]) | wp_step)
  have neC : e ≠ C := fun z => by
    have q := hm.new
    rw [z] at q
    exact absurd (hO.symm.trans q) (by simp)
  have he2 : ((h'.update e (Obj.mapFields fun x => x.setIfInBounds 3 Value.none)).update e (Obj.mapFields fun x => x.setIfInBounds 4 (Value.bool true))).get? e = some { cls := .ref C, data := .fields #[.ref t, .none, .none, .none, .bool true, .none] } :=
    Heap.get?_update_self (o := { cls := .ref C, data := .fields #[.ref t, .none, .none, .none, .bool false, .none] }) _ (Heap.get?_update_self _ he rfl) rfl
  have oth : ∀ b, e ≠ b → ((h'.update e (Obj.mapFields fun x => x.setIfInBounds 3 Value.none)).update e (Obj.mapFields fun x => x.setIfInBounds 4 (Value.bool true))).get? b = h'.get? b := fun b n => (Heap.get?_update_other _ _ n).trans (Heap.get?_update_other _ _ n)
  have hO2 := (oth C neC).trans hO'
  generalize ((h'.update e (Obj.mapFields fun x => x.setIfInBounds 3 Value.none)).update e (Obj.mapFields fun x => x.setIfInBounds 4 (Value.bool true))) = h2 at he2 oth hO2 ⊢
  refine wpAny_loadPart_at hO2 ?_
  refine wpAny_pure ?_
  rw [if_pos (by rfl)]
  refine wpAny_pure (wpAny_bind ?_)
  unfold setFlight
  refine wpAny_bind (wpAny_field he2 rfl rfl ?_)
  rw [if_neg (by simp)]
  refine wpAny_pure (raiseNew_chain (h0 := s.heap) (n := n) rfl ?_ hm.new ch he2 rfl (by simp) (h _ e ⟨fun b o q => ?_, hm.new, _, _, _, Heap.get?_update_self _ he2 rfl, rfl, rfl, rfl, rfl, rfl⟩))
  · exact K2.keeps fun b o q => (oth b fun z => by rw [← z, hm.new] at q; cases q).trans (hm.keeps b o q)
  · have nb : e ≠ b := fun z => by rw [← z, hm.new] at q; cases q
    exact (Heap.get?_update_other _ _ nb).trans ((oth b nb).trans (hm.keeps b o q))
section
variable {X : Cx} {pins : List (Addr × Obj)} {σ : St} {H H' : Hp} {s s' : Shared} {M : Model} {A : Around} {E : Value → Shared → Prop} {e : Addr} {cls : Value}
theorem note_made {h1 : Heap} {ctx : Value} {t n : Nat} {E2 : Value → Shared → Prop} (I : Inv X pins σ H s) (hstk : X.stack = X.env :: X.outer) (hf : X.env.frame = some X.env.locals) (hex : X.ex = []) (hA : A.frames = X.A.frames) (hx : MadeIn s.heap h1 e cls ctx) (hc : Chn h1 n (.ref e))
    (hQ : ∀ h', Held X.prog X.w X.stack X.H₀ X.s₀.heap H e cls X.env.locals h' → E (.ref e) { s with heap := h', toks := t }) : wpAny M A (noteFrame (.ref e) X.env) (fun _ s' => cameBackBy M X.A X.env E (.ref e) s') E2 { s with heap := h1, toks := t } := by
  have hfr : A.frames = some (X.env :: X.outer) := by rw [hA, ← hstk]; exact I.ok.frames
  have hfs : frs X.stack = X.env.locals :: frs X.outer := by rw [hstk]; unfold frs; rw [List.filterMap_cons, hf]
  have hl0 : s.heap.FunFrames (PySem.W.hideAll s.heap (frs X.stack)) (X.env :: X.outer) := by
    have z := I.stack
    rw [hstk] at z
    refine PySem.W.funFrames_hide z fun env he a ha => ?_
    rw [hstk]
    exact List.mem_filterMap.mpr ⟨env, he, ha⟩
  have hl : h1.FunFrames (PySem.W.hideAll s.heap (frs X.stack)) (X.env :: X.outer) := hl0.of_keeps fun b o hb _ => ⟨o, hx.keeps b o hb, rfl⟩
  have nx : ∀ b, b ∉ X.ex := fun b z => by rw [hex] at z; cases z
  have hkb : (PySem.W.hideAll s.heap (frs X.stack)).StaysIn h1 := fun b o q => hx.keeps b o (PySem.W.of_hideAll _ q)
  have hen : (PySem.W.hideAll s.heap (frs X.stack)).get? e = none := by
    cases q : (PySem.W.hideAll s.heap (frs X.stack)).get? e with
    | none => rfl
    | some o => have z := PySem.W.of_hideAll _ q; rw [hx.new] at z; cases z
  obtain ⟨oe, vs, a0, he, hcl, hd, v0, v1, v2⟩ := hx.there
  subst hcl
  refine with2 (kp_note _ _) ?_
  unfold noteFrame
  simp only [hf]
  refine wpAny_bind (wpAny_field he hd v1 ?_)
  rw [if_neg (by decide)]
  refine PySem.wpAny_entryW (base := PySem.W.hideAll s.heap (frs X.stack)) hfr hl hf he hkb hen hd (Array.getElem?_eq_some_iff.mp v1).1 v0 fun h2 ⟨x1, x2, x3, x4⟩ k2 => ?_
  have hh : Heap.HeldW (PySem.W.hideAll s.heap (frs X.stack)) (X.env :: X.outer) e oe.cls a0 X.env.locals h2 := ⟨x1, hen, x2, x3⟩
  have out : ∀ h3, Heap.HeldW (PySem.W.hideAll s.heap (frs X.stack)) (X.env :: X.outer) e oe.cls a0 X.env.locals h3 → (∀ b o, h2.get? b = some o → (∀ vs, o.data ≠ .fields vs) → h3.get? b = some o) → K2 h2 h3 → Held X.prog X.w X.stack X.H₀ X.s₀.heap H e oe.cls X.env.locals h3 := fun h3 hh3 kp k3 => by
    rw [← hstk] at hh3
    refine ⟨⟨⟨_, a0, hh3, fun b o q n nb => ?_, fun b o q nb => ?_, ?_⟩, fun b o q hb => ?_, fun b o q n => I.base.free b o q n (nx b), I.base.tups, I.base.frzs, I.base.tbls, ?_⟩, n, (hc.k2 k2).k2 k3⟩
    · exact PySem.W.hideAll_get _ (I.base.keep b o q n (fun z => nb (by rw [hfs]; exact List.mem_cons_of_mem _ z)) (nx b)) nb
    · obtain ⟨o', z⟩ := I.base.there b o q (nx b)
      exact ⟨o', PySem.W.hideAll_get _ z nb⟩
    · exact I.hok.part fun b u hb q => PySem.W.hideAll_get _ q fun z => hb (I.stkFree b z)
    · have hb2 : b ∈ frs X.outer := by
        rw [hfs] at hb
        rcases List.mem_cons.mp hb with z | z
        · exact absurd z (I.neL q)
        · exact z
      obtain ⟨sl, z⟩ := I.base.slot b o q (I.ok.frf b hb2) hb2 (nx b)
      obtain ⟨_, ob, ho, hdo⟩ := I.funs.mem hb2
      rw [z] at ho
      cases ho
      obtain ⟨sl', z'⟩ := x4 b _ (hx.keeps b _ z) hdo
      exact ⟨sl', kp b _ z' hdo⟩
    · cases q : X.s₀.heap.get? e with
      | none => rfl
      | some o =>
        obtain ⟨o', z⟩ := I.base.there e o q (nx e)
        rw [hx.new] at z; cases z
  obtain ⟨oe2, vs2, T, oT, ts, he2, hc2, hd2, w1, hnT, hTe, hT, hdT, h3⟩ := x3
  have hsz3 : 3 < ts.size := (Array.getElem?_eq_some_iff.mp h3).1
  have other : ∀ b, b ≠ T → (h2.update T (Obj.mapFields (·.setIfInBounds 3 (rawInt X.env.locals)))).get? b = h2.get? b := fun b hb => Heap.get?_update_other _ _ (Ne.symm hb)
  have noRecord : ∀ b o, h2.get? b = some o → (∀ vs, o.data ≠ .fields vs) → b ≠ T := fun b o hb hnf q => by
    rw [q, hT] at hb; injection hb with hb; subst hb; exact hnf ts hdT
  unfold cameBackBy
  refine wpAny_bind (wpAny_field he2 hd2 w1 ?_)
  rw [if_neg (show ¬ ((Value.ref T == Value.none) = true) from by simp)]
  unfold setFlight
  refine wpAny_bind (wpAny_field he2 hd2 w1 ?_)
  rw [if_pos (show (Value.ref T != Value.none) = true from by simp), hf]
  refine wpAny_setField hT hdT hsz3 (hQ _ (out _ ⟨fun b o hbo => (other b fun q => by rw [q, hnT] at hbo; cases hbo).trans (x1 b o hbo), hen, hh.2.2.1.of_keeps fun b o hb hnf => ⟨o, (other b (noRecord b o hb hnf)).trans hb, rfl⟩, ?_⟩ (fun b o hb hnf => (other b (noRecord b o hb hnf)).trans hb) (K2.update hT fun us hu => ?_)))
  · exact ⟨oe2, vs2, T, _, _, (other e (Ne.symm hTe)).trans he2, hc2, hd2, w1, hnT, hTe, Heap.get?_update_self _ hT (Obj.isFreed_of_fields (Obj.data_mapFields hdT _)), Obj.data_mapFields hdT _, by simp [hsz3]⟩
  · exact ⟨_, Obj.data_mapFields hu _, Array.getElem?_setIfInBounds_ne (by decide)⟩
theorem held_on {L : Addr} {h : Heap} (I : Inv X pins σ H s) (hstk : X.stack = X.env :: X.outer) (hf : X.env.frame = some X.env.locals) (hex : X.ex = []) (f : FliesB X.prog X.w X.stack H s.heap H' e cls h) {B : Heap} {a0 : Value}
    (fl : Heap.FlyingW B X.stack e cls a0 h) (k1 : ∀ b o, s.heap.get? b = some o → H b = none → b ∉ frs X.stack → B.get? b = some o) (k2 : ∀ b o, s.heap.get? b = some o → b ∉ frs X.stack → ∃ o', B.get? b = some o') (k3 : HOk X.prog X.w H' B) :
    ∀ h', Heap.HeldW B X.stack e cls a0 L h' → h.UpToSlots h' → HeldB X.prog X.w X.stack X.H₀ X.s₀.heap H' e cls L h' := by
  have hfs : frs X.stack = X.env.locals :: frs X.outer := by rw [hstk]; unfold frs; rw [List.filterMap_cons, hf]
  have nx : ∀ b, b ∉ X.ex := fun b z => by rw [hex] at z; cases z
  refine fun h' hh up => ⟨⟨B, a0, hh, fun b o q n nb => ?_, fun b o q nb => ?_, k3⟩, fun b o q hb => ?_, fun b o q n => ?_, fun b xs q => f.tups b xs (I.base.tups b xs q), fun b o u q => f.frzs b o u (I.base.frzs b o u q), fun b ps q => ?_, ?_⟩
  · exact k1 b o (I.base.keep b o q n (fun z => nb (by rw [hfs]; exact List.mem_cons_of_mem _ z)) (nx b)) (I.base.free b o q n (nx b)) nb
  · obtain ⟨o', z⟩ := I.base.there b o q (nx b)
    exact k2 b o' z nb
  · have hb2 : b ∈ frs X.outer := by
      rw [hfs] at hb
      rcases List.mem_cons.mp hb with z | z
      · exact absurd z (I.neL q)
      · exact z
    obtain ⟨sl, z⟩ := I.base.slot b o q (I.ok.frf b hb2) hb2 (nx b)
    obtain ⟨sl', z'⟩ := f.slot b _ z hb
    obtain ⟨_, ob, ho, hd⟩ := fl.2.2.1.mem hb
    rw [z'] at ho
    cases ho
    obtain ⟨sl2, z2⟩ := up b _ z' hd
    exact ⟨sl2, z2⟩
  · obtain ⟨o', z⟩ := I.base.there b o q (nx b)
    exact f.free b o' z (I.base.free b o q n (nx b))
  · obtain ⟨m1, e1⟩ := I.base.tbls b ps q
    obtain ⟨m2, e2⟩ := f.tbls b _ e1
    exact ⟨m1 ++ m2, by rw [e2, Array.append_assoc]⟩
  · cases q : X.s₀.heap.get? e with
    | none => rfl
    | some o =>
      obtain ⟨o', z⟩ := I.base.there e o q (nx e)
      rw [f.new] at z; cases z
end
end L2
namespace OD
open PySem PySem.Spec PyProof.Rows L2
section
variable {X : Cx} {k n : Nat} {f Cz : Addr} {fd : FuncData} {ps : List Str} {sp : Sp} {x y z m : Str} {p pos rpos py hpos np cpos mpos npos zpos tpos : Pos} {j j' : Nat} {e : Expr} {es : List Expr} {t : TA} {c : Value}
def eTryFN (X : Cx) (c : Value) (Cz : Addr) : XK := fun cls _ H' => ∃ C, cls = .ref C ∧ ((PySem.W.exmOne X.K cls c = some true ∧ XOh X Cz H') ∨ (PySem.W.exmOne X.K cls c = some false ∧ XOh X C H'))
theorem ps_tryFN (hstk : X.stack = X.env :: X.outer) (hf : X.env.frame = some X.env.locals) (hex : X.ex = []) (F : FnOk X.prog X.w X.K X.mg X.base (CX1 X.prog X.w) k f fd ps sp) (hr : Room k X.A) (hg : Gl X x) (hm : X.mg x = some (.ref f)) (hk : PySem.W.keepIn X.K (.ref f) = true) (hb : Binds X.K fd ps [])
    (ha : PA X.nox (e :: es) t) (hgy : Gl X y) (hmy : X.mg y = some c) (hgz : Gl X z) (hmz : X.mg z = some (.ref Cz)) (hCz : ExcK X.K Cz) (hdb : (x == ("__debug__" : Str)) = false := by decide) (hdy : (y == ("__debug__" : Str)) = false := by decide) (hdz : (z == ("__debug__" : Str)) = false := by decide)
    (he : starEach (e :: es) X.env = (false, eval e X.env) :: starEach es X.env := by rfl) (hpl : (backTo pos (starEach es X.env)).any (·.1) = false := by rfl) :
    PS X (.Try [.Return (some (.Call (.Name x p) (e :: es) [] pos)) rpos] [.ExceptHandler (some (.Name y py)) none [.Raise (some (.Call (.Name z np) [.Constant (.str m) j mpos] [] cpos)) (some (.Constant .none j' npos)) zpos] hpos] [] [] tpos)
      (fun D σ H => t σ H fun vs H1 => sp vs H1 D.rt (eTryFN X c Cz)) := by
  intro pins s σ H D I h
  have hfr : X.A.frames = some (X.env :: X.outer) := by rw [← hstk]; exact I.ok.frames
  refine wpAny_Try_except (wpAny_mono (wpAny_execs_cons (wpAny_Return_some (wpAny_mono (call_x F hr hg hm hk hb ha I h hdb he hpl) (fun v s1 q => ?A) fun _ _ q => q))) (fun _ _ q => q) fun e s1 hx => ?B)
  case A =>
    obtain ⟨x, H1, I1, r1, q1⟩ := q
    exact ⟨x, σ, H1, I1, r1, q1⟩
  case B =>
    obtain ⟨a, C, H', H1, s2, rfl, I1, os, bare, fl, C', eC, hex2⟩ := hx
    cases eC
    obtain ⟨cn, ch⟩ := fl.chn
    obtain ⟨cn, rfl⟩ : ∃ n', cn = n' + 1 := by
      cases cn with
      | zero => cases ch
      | succ n' => exact ⟨n', rfl⟩
    obtain ⟨B, a0, fl0, k1, k2, k3⟩ := fl.ex
    have inv : ∀ h', Heap.FlyingW B X.stack a (.ref C) a0 h' → s1.heap.UpToSlots h' → Inv X pins σ H' { s1 with heap := h' } := fun h' x1 x2 => by
      have f' : FliesB X.prog X.w X.stack H1 s2.heap H' a (.ref C) h' := ⟨⟨B, a0, x1, k1, k2, k3⟩, fun b o q hb => by
        obtain ⟨sl, z⟩ := fl.slot b o q hb
        obtain ⟨_, ob, ho, hd⟩ := fl0.2.2.1.mem hb
        rw [z] at ho
        cases ho
        obtain ⟨sl', z'⟩ := x2 b _ z hd
        exact ⟨sl', z'⟩, fl.free, fl.tups, fl.frzs, fl.tbls, fl.new⟩
      exact I1.call' (s' := { s1 with heap := h' }) os f'.un f'.hok bare (fun _ z => nomatch z)
    have fl0' := fl0
    rw [hstk] at fl0
    refine with2 (kp_note _ _) (wpAny_looks_onW hfr hf fl0 fun h4 held4 up4 kk4 => ?_)
    refine with2 (kp_setFlight _ _) (wpAny_landsW held4 fun h5 fl5 up5 kk5 => ?_)
    have I5 := inv h5 (by rw [hstk]; exact fl5) (up4.trans up5)
    obtain ⟨ob, hob, hoc⟩ := fl5.there
    have ty : PySem.W.Looks (model X.prog X.w) h5 (typeOf (.ref a)) (.ref C) := by rw [← hoc]; exact (PySem.W.Looks.ld hob).andThen .now
    rcases hex2 with ⟨hxm, hxo⟩ | ⟨hxm, hxo⟩
    · refine wpAny_handleBy_cons (codeAny_handlers_test (ld_glob (X := X.inH a) (I5.inH a) hgy hmy ((PySem.W.exm_one I5.kIn ty hxm).here ?_) hdy)) (by intro q; cases q)
      refine codeAny_handlers_suite ?_
      refine with2 (kp_setFlight _ _) (lands_againW fl5 fun h6 fl6 up6 kk6 => ?_)
      have I6 := inv h6 (by rw [hstk]; exact fl6) ((up4.trans up5).trans up6)
      have ch6 : Chn h6 (cn + 1) (.ref a) := ((ch.k2 kk4).k2 kk5).k2 kk6
      refine wpAny_execs_cons (raise_from hgz hmz hCz (I6.inH a) ch6 (fun h7 e7 mk => ?_) hdz)
      obtain ⟨oe, vs, v0, q1, q2, q3, q4, q5, q6⟩ := mk.there
      refine note_made (n := cn + 2) I6 hstk hf hex rfl mk ⟨e7, oe, vs, .ref a, rfl, q1, q3, q6, ch6.k2 (K2.keeps mk.keeps)⟩ fun h8 hl8 => ?_
      exact hxo pins σ H' _ e7 _ I6 rfl bare hl8
    · refine wpAny_handleBy_cons (codeAny_handlers_test (ld_glob (X := X.inH a) (I5.inH a) hgy hmy ((PySem.W.exm_one I5.kIn ty hxm).here ?_) hdy)) (by intro q; cases q)
      refine wpAny_handleBy_nil ?_
      obtain ⟨_, _, _, oe, ws, T, oT, ts, he5, hc5, hd5, h15, _⟩ := id fl5
      have done := held_on (L := X.env.locals) I1 hstk hf hex fl.toFliesB fl0' k1 k2 k3
      refine with2 (kp_passOn _ _ _) ?_
      unfold PySem.passOn
      refine wpAny_bind (wpAny_field he5 hd5 h15 ?_)
      rw [if_neg (show ¬ ((Value.ref T == Value.none) = true) from by simp), hf]
      refine wpAny_bind (PySem.W.setFlight_onW fl5 fun h6 hh6 up6 => wpAny_throw fun kk6 => ?_)
      rw [← hstk] at hh6
      exact hxo pins σ H1 s2 a _ I1 os bare ⟨done h6 hh6 ((up4.trans up5).trans up6), cn + 1, ((ch.k2 kk4).k2 kk5).k2 kk6⟩
def dTryFN (X : Cx) (c : Value) (Cz : Addr) (S : DSpX) (t : DTA) : DTS := fun D ρ => t ρ fun ds => S ds D.rt fun C => (PySem.W.exmOne X.K (.ref C) c = some true ∧ RzH X Cz) ∨ (PySem.W.exmOne X.K (.ref C) c = some false ∧ RzH X C)
theorem ds_tryFN {S : DSpX} {td : DTA} (hstk : X.stack = X.env :: X.outer) (hf : X.env.frame = some X.env.locals) (hex : X.ex = []) (G : DOkX X.prog X.w X.K X.mg X.base n x S) (hr : Room n X.A) (hg : Gl X x) (ha : DA X.nox (e :: es) td) (hgy : Gl X y) (hmy : X.mg y = some c) (hgz : Gl X z) (hmz : X.mg z = some (.ref Cz)) (hCz : ExcK X.K Cz)
    (hdb : (x == ("__debug__" : Str)) = false := by decide) (hdy : (y == ("__debug__" : Str)) = false := by decide) (hdz : (z == ("__debug__" : Str)) = false := by decide)
    (he : starEach (e :: es) X.env = (false, eval e X.env) :: starEach es X.env := by rfl) (hpl : (backTo pos (starEach es X.env)).any (·.1) = false := by rfl) :
    DSt X .d (.Try [.Return (some (.Call (.Name x p) (e :: es) [] pos)) rpos] [.ExceptHandler (some (.Name y py)) none [.Raise (some (.Call (.Name z np) [.Constant (.str m) j mpos] [] cpos)) (some (.Constant .none j' npos)) zpos] hpos] [] [] tpos) (dTryFN X c Cz S td) := by
  obtain ⟨f, fd, ps, hm, hk, hb, F⟩ := G.ex
  obtain ⟨te, p1, l1⟩ := ha
  refine ⟨_, ps_tryFN hstk hf hex F hr hg hm hk hb p1 hgy hmy hgz hmz hCz hdb hdy hdz he hpl, fun W0 G ρ σ W D D' at_ s h => ?_⟩
  refine l1 ρ σ W _ at_.rl h _ fun ds vs W1 s1 i1 q1 => ⟨W1, ds, _, _, rfl, i1, q1, fun d v W2 s2 i2 q2 => s.tl d v W2 ((at_.le.trans s1).trans s2) i2 q2, fun C H' s' hC => ⟨C, rfl, ?_⟩⟩
  have zz := ((rl_zx at_.rl).trans s1.h).trans s'
  rcases hC with ⟨e1, e2⟩ | ⟨e1, e2⟩
  · exact .inl ⟨e1, e2.2 H' zz⟩
  · exact .inr ⟨e1, e2.2 H' zz⟩
end
section
variable {P : Program} {w : World} {K : PySem.W.Frag} {mg : Str → Option Value} {base : Heap}
theorem okDXH {x qual : Str} {st : Stmt} {f : Addr} {fd : FuncData} {N ps : List Str} {k : Nat} {S : DSpX} (F : Fun K x qual st f fd) (sc : FnScope N ps (defScope st)) (len : ∀ ds Q R, S ds Q R → ds.length = ps.length)
    (hbody : ∀ (cdv : Value) (A : Around) (outer : List Env) (s : Shared) (H : Hp) (E : XK), Room k (A.deeper (envOfC qual (defScope st) s.heap.objs.size f cdv)) → ∀ (ds : List Dt) (Q : Dt → Prop) (R : Addr → Prop), S ds Q R →
      (∀ C, R C → RzH (cxOf (CX1 P w) P w K mg base N qual (defScope st) f cdv A outer s H E) C) →
      ∃ t, DSs (cxOf (CX1 P w) P w K mg base N qual (defScope st) f cdv A outer s H E) .d (defBody st) t ∧ t { nx := fun _ => False, rt := Q } (dstart N.length ds)) : FnOk P w K mg base (CX1 P w) (k + 1) f fd ps (PureSpX K S) := by
  refine Fun.okX F sc (fun vs H Q E h => ?_) (fun cdv A outer s H vs Q E hr h => ?_)
  · obtain ⟨W, ds, Qd, Ed, _, ia, hS, _⟩ := h
    rw [← ia.length]
    exact len ds Qd Ed hS
  obtain ⟨W, ds, Qd, Ed, rfl, ia, hS, kk, ke⟩ := h
  obtain ⟨t, ⟨ts, p, l⟩, ht⟩ := hbody cdv A outer s W.h E hr ds Qd Ed hS fun C hC => rzH_of fun H' z => ke C H' z hC
  exact ⟨ts, p, l W W.g (dstart N.length ds) (start N vs) W { nx := fun _ => False, rt := Qd } _ (at_start ia (zx_stk (Nat.succ_ne_self _))) ⟨fun ρ σ W' a q => q.elim, fun d v W' s' i q => kk d v W' s' i q, fun _ _ _ _ q => q.elim, fun _ _ _ _ q => q.elim⟩ ht⟩
end
end OD
namespace L2
open PySem PySem.Spec PyProof.Rows
theorem mt_upper {X : Cx} : MtR X "str.upper" (fun x vs H Q => ∃ z, x = .str z ∧ vs = [] ∧ Builtin.Str.tooLong (Txt.upper z).length = false ∧ Q (.str (Txt.upper z)) H) := by
  intro pins s σ H x vs v us Q I rx rv h
  obtain ⟨z, rfl, rfl, hl, q⟩ := h
  obtain ⟨t, rfl⟩ := rx
  cases rv
  exact call_gives PySem.F.slot_str_upper (typeIs_str s z t) PySem.F.entry_str_upper (PySem.F.args_str_upper_1 _) (gives_str_upper z t hl) ⟨fit_le hl, .str _, H, I.tok _, ⟨_, rfl⟩, q⟩
end L2
namespace OD
open PySem PySem.Spec PyProof.Rows L2
section
variable {X : Cx} {fr : Fr} {e : Expr} {te : DTE} {pos : Pos}
def dUpper (ta : DTE) : DTE := fun ρ Q => ta ρ fun d => ∃ x, d = .str x ∧ Builtin.Str.tooLong (Txt.upper x).length = false ∧ Q (.str (Txt.upper x))
theorem de_upper {apos cpos : Pos} (ho : DE X e te) (hbase : attributeBase e "upper" X.env (eval e X.env) = eval e X.env := by rfl) (hline : (apos.endLine == cpos.line) = true := by rfl) : DE X (.Call (.Attribute e "upper" apos) [] [] cpos) (dUpper te) := by
  obtain ⟨tt, p1, l1⟩ := ho
  refine ⟨_, pe_bm0 (T := "str") PySem.F.plainAttrs_str PySem.F.slot_str_upper PySem.F.type_str_upper mt_upper p1 hbase hline, fun ρ σ H Q r h R k => l1 ρ σ H _ r h _ fun d v H1 s1 i1 ⟨x, ed, hl, q1⟩ => ?_⟩
  subst ed
  obtain rfl := is_str.mp i1
  exact ⟨rfl, x, rfl, rfl, hl, k _ _ H1 s1 (is_str.mpr rfl) q1⟩
def dUnp3T (i j m : Nat) (te : DTE) : DTS := fun D ρ => te ρ fun d => ∃ a b c, d = .tup [a, b, c] ∧ D.nx (((ρ.set i (.some a)).set j (.some b)).set m (.some c))
theorem ds_unp3T {i j m : Nat} {x y z : Str} {px py pz pt : Pos} {kt : Nat} (hc : X.calm = true) (hN : X.N.Nodup) (hi : X.N[i]? = some x) (hj : X.N[j]? = some y) (hm : X.N[m]? = some z) (hx : Loc X.env.scope x) (hy : Loc X.env.scope y) (hz : Loc X.env.scope z) (h : DE X e te)
    (hf : X.fn x = true ∨ X.env.scope.names.lookup x = some .local := by first | exact .inl rfl | exact .inr rfl | assumption) (hf2 : X.fn y = true ∨ X.env.scope.names.lookup y = some .local := by first | exact .inl rfl | exact .inr rfl | assumption) (hf3 : X.fn z = true ∨ X.env.scope.names.lookup z = some .local := by first | exact .inl rfl | exact .inr rfl | assumption)
    (hs : swapsWithSole [.Tuple [.Name x px, .Name y py, .Name z pz] kt pt] e pos.line X.env = pure false := by rfl) (hw : swappedStores [.Tuple [.Name x px, .Name y py, .Name z pz] kt pt] e X.env = pure none := by rfl) :
    DSt X fr (.Assign [.Tuple [.Name x px, .Name y py, .Name z pz] kt pt] e pos) (dUnp3T i j m te) := by
  obtain ⟨tt, p, l⟩ := h
  refine ⟨_, ps_asg p (pg_tup hc (pgs_cons (pg_name hN hi hx hf) (pgs_cons (pg_name hN hj hy hf2) (pgs_cons (pg_name hN hm hz hf3) pgs_nil)))) hs hw, fun W0 G ρ σ W D D' at_ s h => l ρ σ W _ at_.rl h _ fun d v W1 s1 i1 ⟨a, b, c, ed, q1⟩ => ?_⟩
  subst ed
  obtain ⟨q, xs, rfl, hq, ha⟩ := is_tup.mp i1
  obtain ⟨v1, v2, v3, rfl, h1, h2, h3⟩ := ha.three
  refine ⟨q, _, rfl, .of (W1.sub _ _ hq), rfl, v1, [v2, v3], rfl, v2, [v3], rfl, v3, [], rfl, rfl, ?_⟩
  exact s.nx _ _ W1 ((((at_.step s1).set i h1).set j h2).set m h3) q1
end
end OD
namespace OD
open PySem PySem.Spec PyProof.Rows L2
def dCall0 (S : DSp) : DTE := fun _ Q => S [] Q
theorem de_call0 {X : Cx} {n : Nat} {x : Str} {p pos : Pos} {S : DSp} (G : DOk X.prog X.w X.K X.mg X.base n x S) (hr : Room n X.A) (hg : Gl X x) (hdb : (x == ("__debug__" : Str)) = false := by decide) : DE X (.Call (.Name x p) [] [] pos) (dCall0 S) := by
  obtain ⟨f, fd, ps, hm, hk, hb, F⟩ := G.ex
  refine ⟨_, pe_call0 F hr hg hm hk hb .nil pass0 hdb, fun ρ σ W Q r h R k => ?_⟩
  exact ⟨W, [], Q, rfl, allIs_nil.mpr rfl, h, fun d v W2 s2 i2 q2 => k d v W2 s2 i2 q2⟩
end OD
namespace OD
open PySem PySem.Spec PyProof.Rows L2
section
variable {X : Cx} {K : PySem.W.Frag} {y : Str} {a : Expr} {ta : DTE} {p0 p' pos : Pos} {D : Addr}
theorem de_isiXH (hK : X.K = K) (hm : X.mg "isinstance" = none) (hmc : X.mg y = some (.ref D)) (ha : DE X a ta)
    (hg : Gl X "isinstance" := by rfl) (hgc : Gl X y := by rfl) (hdy : (y == ("__debug__" : Str)) = false := by decide)
    (hs : starEach [a, .Name y p'] X.env = (false, eval a X.env) :: starEach [.Name y p'] X.env := by rfl) (hs2 : starEach [.Name y p'] X.env = (false, eval (.Name y p') X.env) :: starEach [] X.env := by rfl)
    (hpl : (backTo pos (starEach [.Name y p'] X.env)).any (·.1) = false := by rfl) :
    DE X (.Call (.Name "isinstance" p0) [a, .Name y p'] [] pos) (dIsiX K (.ref D) ta) := hK ▸ de_isiX hm hmc ha hg hgc hdy hs hs2 hpl
theorem de_isiXBH (hK : X.K = K) (hm : X.mg "isinstance" = none) (hmc : X.mg "ValueError" = none) (ha : DE X a ta)
    (hg : Gl X "isinstance" := by rfl) (hgc : Gl X "ValueError" := by rfl)
    (hs : starEach [a, .Name "ValueError" p'] X.env = (false, eval a X.env) :: starEach [.Name "ValueError" p'] X.env := by rfl) (hs2 : starEach [.Name "ValueError" p'] X.env = (false, eval (.Name "ValueError" p') X.env) :: starEach [] X.env := by rfl)
    (hpl : (backTo pos (starEach [.Name "ValueError" p'] X.env)).any (·.1) = false := by rfl) :
    DE X (.Call (.Name "isinstance" p0) [a, .Name "ValueError" p'] [] pos) (dIsiX K (.type "ValueError") ta) := hK ▸ de_isiXB hm hmc ha hg hgc hs hs2 hpl
end
end OD

namespace My
open PySem L2 OD

local macro_rules | `(tactic| walk_at "sc") => `(tactic| exact ⟨rfl, rfl, rfl, by decide +kernel, rfl, by decide +kernel, by decide +kernel⟩)
local macro_rules | `(tactic| walk_at "ln") => `(tactic| (intros; rename_i h; repeat (first | (obtain ⟨e, _⟩ := h; subst e; rfl) | obtain ⟨_, h⟩ := h)))
local macro_rules | `(tactic| walk_at "rd1") => `(tactic| first | refine ⟨_, rfl, ?_⟩ | refine ⟨_, _, rfl, rfl, ?_⟩ | refine ⟨_, _, _, _, rfl, rfl, rfl, ?_⟩ | refine ⟨_, _, _, rfl, rfl, rfl, ?_⟩ | refine iteT ?_ | refine iteF ?_ | refine ⟨rfl, rfl, ?_⟩ | refine ⟨rfl, ?_⟩ | refine ⟨cdivN (by decide), ?_⟩ | refine ⟨cmodN (by decide), ?_⟩ | refine ⟨cpowN (by decide), ?_⟩ | refine ⟨mulR (by decide), ?_⟩ | refine ⟨mulL (by decide), ?_⟩ | refine ⟨_, _, rfl, ?_⟩)
local macro_rules | `(tactic| walk_at "rd") => `(tactic| repeat (walk_at "rd1"))
theorem ifT {b : Bool} {A B : Prop} (e : b = true) (h : A) : if b = true then A else B := by rw [if_pos e]; exact h
theorem ifF {b : Bool} {A B : Prop} (e : b = false) (h : B) : if b = true then A else B := by rw [if_neg (by rw [e]; exact Bool.false_ne_true)]; exact h
theorem ifB {b : Bool} {A B : Prop} (h1 : b = true → A) (h2 : b = false → B) : if b = true then A else B := by
  cases b with
  | true => exact ifT rfl (h1 rfl)
  | false => exact ifF rfl (h2 rfl)
theorem eqI {a b : Int} (h : a = b) : eqD (.int a) (.int b) = true := by rw [eqD_int]; exact beq_iff_eq.mpr h
theorem nT {b : Bool} (h : b = true) : (!b) = false := by rw [h]; rfl
theorem of_nF {b : Bool} (h : (!b) = false) : b = true := by cases b <;> first | rfl | cases h
def S_cell : DSp := fun ds Q => ∃ ns k, ds = [.scr ns, .int k] ∧ 0 ≤ k ∧ ∀ z : Int, Q (.int z)
def S_law : DSp := fun ds Q => ∃ ns : List Int, ds = [.scr ns] ∧ ns.length ≤ 63 ∧ Q (.bl true)
theorem atI_row {xs : List Int} {k : Int} (h0 : 0 ≤ k) (h : k < xs.length) : atI (xs.map Dt.int) k = some (.int (xs.getD k.toNat 0)) := by
  have e : ((k.toNat : Nat) : Int) = k := Int.toNat_of_nonneg h0
  have hl : k.toNat < xs.length := by omega
  have := atI_nat (j := k.toNat) (xs := xs.map Dt.int) (v := .int (xs.getD k.toNat 0)) (by
    rw [List.getElem?_map, List.getElem?_eq_getElem hl, List.getD_eq_getElem?_getD, List.getElem?_eq_getElem hl]
    rfl)
  rwa [e] at this
theorem cut_ints (ms : List Int) (lo hi : Option Int) : ∃ ms' : List Int, cutD (ms.map Dt.int) lo hi = ms'.map Dt.int ∧ ms'.length ≤ ms.length ∧ ∀ z ∈ ms', z ∈ ms := by
  unfold cutD
  rw [← List.map_drop, ← List.map_take]
  refine ⟨_, rfl, ?_, fun t ht => List.mem_of_mem_drop (List.mem_of_mem_take ht)⟩
  rw [List.length_take, List.length_drop]
  omega
theorem len_ints (xs : List Int) : (xs.map Dt.int).length = xs.length := List.length_map _
inductive Kd where | plain | below | balanced | growing | falling | pairs
def Kd.num : Kd → Int
  | .plain => 0 | .below => 1 | .balanced => 2 | .growing => 3 | .falling => 4 | .pairs => 5
def Kd.fld : Kd → Str
  | .plain => "base" | .below => "base" | .balanced => "half" | .growing => "first" | .falling => "most" | .pairs => "most"
def Kd.lo : Kd → Int
  | .plain => 2 | .below => 2 | .balanced => 1 | .growing => 2 | .falling => 1 | .pairs => 1
def Kd.hi : Kd → Int
  | .plain => 60 | .below => 60 | .balanced => 30 | .growing => 60 | .falling => 9 | .pairs => 9
def Kd.ok (k : Kd) (n : Int) : Prop := k.lo ≤ n ∧ n ≤ k.hi
def whole : Dt → Option Bool
  | .int _ => some true
  | .bl _ => some false
  | .tup _ => some false
  | .lst _ => some false
  | _ => none
def S_whole : DSp := fun ds Q => ∃ d b, ds = [d] ∧ whole d = some b ∧ Q (.bl b)
def tl (x : Str) : List Nat := x.cps.toList
theorem str_ext {x y : Str} (h : tl x = tl y) : x = y := by
  cases x; cases y
  unfold tl at h
  simp only at h
  congr 1
  exact Array.ext' h
def asc (x : Str) : Prop := ∀ c ∈ tl x, c < 128
theorem asc_all {x : Str} (h : asc x) : x.cps.all (· < 128) = true := by
  rw [← Array.all_toList, List.all_eq_true]
  exact fun c hc => decide_eq_true (h c hc)
theorem tl_len (x : Str) : (tl x).length = x.length := by unfold tl; simp [Str.length]
theorem tl_app (x y : Str) : tl (x ++ y) = tl x ++ tl y := by
  show (x.cps ++ y.cps).toList = _
  simp [tl]
theorem asc_app {x y : Str} (hx : asc x) (hy : asc y) : asc (x ++ y) := fun c hc => by
  rw [tl_app] at hc
  rcases List.mem_append.mp hc with h | h
  · exact hx c h
  · exact hy c h
theorem slice_mem {x : Str} {l u : Option Int} {c : Nat} (h : c ∈ tl (Txt.slice x l u)) : c ∈ tl x := by
  unfold Txt.slice tl at h
  split at h
  · exact h
  · simp only [List.mem_filterMap] at h
    obtain ⟨i, _, hi⟩ := h
    have hi : (tl x)[i]? = some c := by unfold tl; rw [Array.getElem?_toList]; exact hi
    exact List.mem_of_getElem? hi
theorem asc_slice {x : Str} {l u : Option Int} (h : asc x) : asc (Txt.slice x l u) := fun c hc => h c (slice_mem hc)
theorem slice_len (x : Str) (l u : Option Int) : (Txt.slice x l u).length ≤ x.length := Txt.slice_le x l u
theorem slice_from {x : Str} {i : Int} (h0 : 0 ≤ i) (h1 : i ≤ (tl x).length) : tl (Txt.slice x (some i) none) = (tl x).drop i.toNat := by
  have e : Txt.slice x (some i) none = StrLaws.sliceText x (some i) none := rfl
  rw [e, StrLaws.sliceText_from ⟨h0, h1⟩]
  show (((tl x).drop i.toNat).take ((((tl x).length : Nat) : Int) - i).toNat) = _
  rw [List.take_of_length_le]
  rw [List.length_drop]; omega
theorem slice_to {x : Str} {j : Int} (h0 : 0 ≤ j) (h1 : j ≤ (tl x).length) : tl (Txt.slice x none (some j)) = (tl x).take j.toNat := by
  have e : Txt.slice x none (some j) = StrLaws.sliceText x none (some j) := rfl
  rw [e, StrLaws.sliceText_to ⟨h0, h1⟩]
  show (((tl x).drop 0).take (j - 0).toNat) = _
  rw [List.drop_zero, Int.sub_zero]
theorem beq_tl (x y : Str) : (x == y) = decide (tl x = tl y) := by
  by_cases h : x = y
  · subst h; simp
  · rw [beq_eq_false_iff_ne.mpr h, decide_eq_false fun z => h (str_ext z)]
theorem starts_dash (x : Str) : Txt.startswith x "-" = decide ((tl x).head? = some 45) := by
  unfold Txt.startswith Builtin.Str.subAt
  have e : (("-" : Str)).cps = #[45] := by decide +kernel
  have el : (("-" : Str)).length = 1 := by decide +kernel
  rw [e, el]
  obtain ⟨⟨l⟩⟩ := x
  cases l with
  | nil => rfl
  | cons c r =>
    show (decide (0 + 1 ≤ r.length + 1) && ((⟨c :: r⟩ : Array Nat).extract 0 (0 + 1) == #[45])) = decide (some c = some 45)
    rw [decide_eq_true (by omega), Bool.true_and]
    have e2 : (⟨c :: r⟩ : Array Nat).extract 0 (0 + 1) = #[c] := by simp
    rw [e2]
    by_cases h : c = 45
    · subst h; rfl
    · rw [decide_eq_false (by simpa using h)]
      simpa using h
theorem slice1_dash (x : Str) : (Txt.slice x none (some 1) == ("-" : Str)) = decide ((tl x).head? = some 45) := by
  rw [beq_tl]
  have e : tl ("-" : Str) = [45] := by decide +kernel
  rw [e]
  cases h : tl x with
  | nil =>
    have : tl (Txt.slice x none (some 1)) = [] := by
      apply List.eq_nil_iff_forall_not_mem.mpr
      intro c hc
      have := slice_mem hc
      rw [h] at this; cases this
    rw [this]; rfl
  | cons c r =>
    rw [slice_to (by decide) (by rw [h, List.length_cons]; omega), h]
    show decide ([c] = [45]) = decide (some c = some 45)
    simp
theorem occ_fig (c : Nat) : occ ⟨#[c]⟩ "0123456789" = (decide (48 ≤ c) && decide (c ≤ 57)) := by
  unfold occ
  rw [StrLaws.found_one]
  have e : (("0123456789" : Str)).cps.toList = [48, 49, 50, 51, 52, 53, 54, 55, 56, 57] := by decide +kernel
  rw [e]
  by_cases h : 48 ≤ c ∧ c ≤ 57
  · rw [decide_eq_true h.1, decide_eq_true h.2]
    rcases (by omega : c = 48 ∨ c = 49 ∨ c = 50 ∨ c = 51 ∨ c = 52 ∨ c = 53 ∨ c = 54 ∨ c = 55 ∨ c = 56 ∨ c = 57) with rfl | rfl | rfl | rfl | rfl | rfl | rfl | rfl | rfl | rfl <;> rfl
  · have : c ∉ [48, 49, 50, 51, 52, 53, 54, 55, 56, 57] := fun hc => h (by simp at hc; omega)
    rw [decide_eq_false this]
    by_cases h1 : 48 ≤ c
    · rw [decide_eq_true h1, decide_eq_false (by omega)]; rfl
    · rw [decide_eq_false h1]; rfl
def figB (c : Nat) : Bool := decide (48 ≤ c) && decide (c ≤ 57)
theorem figB_iff {c : Nat} : figB c = true ↔ isDg c := by
  unfold figB isDg
  rw [Bool.and_eq_true, decide_eq_true_iff, decide_eq_true_iff]
def fg (x : Str) : List Nat := if (tl x).head? = some 45 then (tl x).drop 1 else tl x
open Classical in
noncomputable def wv (x : Str) : Option Int := if Numl (tl x) ∧ (fg x).length ≤ 60 then some (dgVal (tl x)) else none
theorem fg_of {x : Str} {f : List Nat} (hf : f = fg x) : (tl x = f ∧ (tl x).head? ≠ some 45) ∨ tl x = 45 :: f := by
  subst hf
  unfold fg
  by_cases h : (tl x).head? = some 45
  · rw [if_pos h]
    cases e : tl x with
    | nil => rw [e] at h; cases h
    | cons c r => rw [e] at h; cases h; exact .inr rfl
  · rw [if_neg h]; exact .inl ⟨rfl, h⟩
theorem numl_iff {x : Str} {f : List Nat} (hf : f = fg x) : Numl (tl x) ↔ (f ≠ [] ∧ (∀ c ∈ f, isDg c) ∧ (f.head? = some 48 → tl x = [48])) := by
  constructor
  · intro h
    rcases h with h | ⟨c, r, c1, c2, hr, h | h⟩
    · have e : f = [48] := by rw [hf]; unfold fg; rw [h]; rfl
      subst e
      exact ⟨fun z => (nomatch z), fun c hc => by rw [List.mem_singleton.mp hc]; exact ⟨by decide, by decide⟩, fun _ => h⟩
    · have e : f = c :: r := by
        rw [hf]; unfold fg; rw [h, if_neg]
        intro z
        have : c = 45 := Option.some.inj z
        omega
      subst e
      refine ⟨fun z => (nomatch z), fun x hx => ?_, fun z => absurd (Option.some.inj z) (by omega)⟩
      rcases List.mem_cons.mp hx with rfl | hx
      · exact ⟨by omega, by omega⟩
      · exact hr x hx
    · have e : f = c :: r := by rw [hf]; unfold fg; rw [h]; rfl
      subst e
      refine ⟨fun z => (nomatch z), fun x hx => ?_, fun z => absurd (Option.some.inj z) (by omega)⟩
      rcases List.mem_cons.mp hx with rfl | hx
      · exact ⟨by omega, by omega⟩
      · exact hr x hx
  · rintro ⟨h1, h2, h3⟩
    cases f with
    | nil => exact absurd rfl h1
    | cons c r =>
      by_cases hc : c = 48
      · subst hc; exact .inl (h3 rfl)
      · have d := h2 c List.mem_cons_self
        unfold isDg at d
        refine .inr ⟨c, r, by omega, by omega, fun x hx => h2 x (List.mem_cons_of_mem _ hx), ?_⟩
        rcases fg_of hf with ⟨e, _⟩ | e
        · exact .inl e
        · exact .inr e
def dg (n : Nat) : List Nat := (Nat.toDigits 10 n).map Char.toNat
theorem tl_of (s : String) : tl (Str.ofString s) = s.toList.map Char.toNat := by unfold tl; rw [PySem.Str.ofString_eq_toList]
theorem tl_nat (n : Nat) : tl (Str.ofString (toString (n : Int))) = dg n := by
  rw [tl_of]
  have e : (toString (n : Int)) = Nat.repr n := rfl
  rw [e, Nat.toList_repr]; rfl
theorem tl_neg (n : Nat) (h : 0 < n) : tl (Str.ofString (toString (-(n : Int)))) = 45 :: dg n := by
  rw [tl_of]
  obtain ⟨m, rfl⟩ : ∃ m, n = m + 1 := ⟨n - 1, by omega⟩
  have e : (toString (-((m + 1 : Nat) : Int))) = "-" ++ Nat.repr (m + 1) := rfl
  rw [e, String.toList_append, Nat.toList_repr]; rfl
theorem dg_fig (n : Nat) : ∀ c ∈ dg n, isDg c := fun c hc => by
  obtain ⟨d, hd, rfl⟩ := List.mem_map.mp hc
  have := Nat.isDigit_of_mem_toDigits (b := 10) (by decide) (by decide) hd
  unfold Char.isDigit at this
  rw [Bool.and_eq_true, decide_eq_true_iff, decide_eq_true_iff] at this
  exact ⟨this.1, this.2⟩
theorem dg_small {d : Nat} (h : d < 10) : dg d = [48 + d] := by
  unfold dg
  rw [Nat.toDigits_of_lt_base h]
  rcases (by omega : d = 0 ∨ d = 1 ∨ d = 2 ∨ d = 3 ∨ d = 4 ∨ d = 5 ∨ d = 6 ∨ d = 7 ∨ d = 8 ∨ d = 9) with rfl | rfl | rfl | rfl | rfl | rfl | rfl | rfl | rfl | rfl <;> rfl
theorem dg_step {n d : Nat} (hn : 0 < n) (hd : d < 10) : dg (10 * n + d) = dg n ++ dg d := by
  unfold dg
  rw [← Nat.toDigits_append_toDigits (by decide) hn hd, List.map_append]
def padF (k : Nat) (l : List Nat) : List Nat := List.replicate (k - l.length) 48 ++ l
theorem dg_parts {q : Nat} (hq : 0 < q) : ∀ (k r : Nat), r < 10 ^ (k + 1) → dg (q * 10 ^ (k + 1) + r) = dg q ++ padF (k + 1) (dg r)
  | 0, r, h => by
    rw [show q * 10 ^ (0 + 1) + r = 10 * q + r by rw [Nat.zero_add, Nat.pow_one, Nat.mul_comm], dg_step hq h, dg_small h]
    rfl
  | k + 1, r, h => by
    obtain ⟨r1, d, rfl, hd⟩ : ∃ r1 d, r = 10 * r1 + d ∧ d < 10 := ⟨r / 10, r % 10, by omega, Nat.mod_lt _ (by decide)⟩
    have hp : 10 ^ (k + 1 + 1) = 10 * 10 ^ (k + 1) := Nat.pow_succ'
    have h1 : r1 < 10 ^ (k + 1) := by omega
    have e : q * 10 ^ (k + 1 + 1) + (10 * r1 + d) = 10 * (q * 10 ^ (k + 1) + r1) + d := by rw [hp]; grind
    have pos : 0 < q * 10 ^ (k + 1) + r1 := by
      have := Nat.mul_pos hq (Nat.pow_pos (n := k + 1) (show 0 < 10 by decide))
      omega
    rw [e, dg_step pos hd, dg_parts hq k r1 h1, List.append_assoc]
    congr 1
    unfold padF
    rcases Nat.eq_zero_or_pos r1 with rfl | hr
    · rw [Nat.mul_zero, Nat.zero_add, dg_small hd, dg_small (by decide : 0 < 10)]
      show List.replicate (k + 1 - 1) 48 ++ [48 + 0] ++ [48 + d] = List.replicate (k + 1 + 1 - 1) 48 ++ [48 + d]
      rw [Nat.add_sub_cancel, Nat.add_sub_cancel, List.replicate_succ' (n := k)]
    · rw [dg_step hr hd, List.length_append, dg_small hd, List.append_assoc]
      show List.replicate (k + 1 - (dg r1).length) 48 ++ _ = List.replicate (k + 1 + 1 - ((dg r1).length + 1)) 48 ++ _
      rw [show k + 1 + 1 - ((dg r1).length + 1) = k + 1 - (dg r1).length by omega]
theorem dg_len {n k : Nat} (hk : 0 < k) (h : n < 10 ^ k) : (dg n).length ≤ k := by
  unfold dg
  rw [List.length_map]
  exact (Nat.length_toDigits_le_iff (by decide) hk).mpr h
theorem dg_head (n : Nat) : ∃ c r, dg n = c :: r ∧ isDg c := by
  cases e : dg n with
  | nil => unfold dg at e; exact absurd (List.map_eq_nil_iff.mp e) Nat.toDigits_ne_nil
  | cons c r => exact ⟨c, r, rfl, dg_fig n c (by rw [e]; exact List.mem_cons_self)⟩
theorem tl_zfill {x : Str} {k : Nat} {c : Nat} {r : List Nat} (h : tl x = c :: r) (hc : isDg c) : tl (Txt.zfill x (k : Int)) = padF k (tl x) := by
  have hl := tl_len x
  unfold Txt.zfill
  split
  · rename_i hk
    have : k - (tl x).length = 0 := by omega
    unfold padF; rw [this]; rfl
  · rename_i hk
    unfold zfilled
    have e0 : x.cps[0]? = some c := by
      have : x.cps.toList[0]? = some c := by show (tl x)[0]? = _; rw [h]; rfl
      simpa using this
    rw [e0]
    have key : (match some c with | some 43 | some 45 => Builtin.Str.strSub x 0 1 ++ Builtin.Str.padded (Builtin.Str.strSub x 1 x.length) ((k : Int).toNat - x.length) 0 48 | _ => Builtin.Str.padded x ((k : Int).toNat - x.length) 0 48) = Builtin.Str.padded x ((k : Int).toNat - x.length) 0 48 := by
      rcases ten hc with rfl | rfl | rfl | rfl | rfl | rfl | rfl | rfl | rfl | rfl <;> rfl
    refine (congrArg tl key).trans ?_
    unfold Builtin.Str.padded padF
    show (Array.replicate _ 48 ++ x.cps ++ Array.replicate 0 48).toList = _
    rw [hl]
    simp [tl]
theorem tl_join : ∀ ts : List Str, tl (Txt.join ("" : Str) ts) = (ts.map tl).flatten
  | [] => rfl
  | [x] => by
    show tl (Builtin.Str.glued _ [x]) = _
    rw [StrLaws.glued_eq_join]
    show tl x = _
    simp
  | x :: y :: r => by
    have ih := tl_join (y :: r)
    have e1 : Txt.join ("" : Str) (x :: y :: r) = x ++ ("" : Str) ++ Txt.join ("" : Str) (y :: r) := by
      show Builtin.Str.glued _ _ = _ ++ _ ++ Builtin.Str.glued _ _
      rw [StrLaws.glued_eq_join, StrLaws.glued_eq_join]; rfl
    rw [e1, tl_app, tl_app, ih]
    have e2 : tl ("" : Str) = [] := by decide +kernel
    rw [e2, List.append_nil]
    show _ = (tl x :: (y :: r).map tl).flatten
    rw [List.flatten_cons]
def shw (i : Int) : Str := Str.ofString (toString i)
def S_shown0 : DSp := fun ds Q => ∃ n : Nat, ds = [.int n] ∧ n < 2 ^ 1800 ∧ Q (.str (shw n))
def S_shownW : DSp := fun ds Q => ∃ i : Int, ds = [.int i] ∧ i.natAbs < 2 ^ 1800 ∧ Q (.str (shw i))
theorem log_lt {n : Nat} {k : Nat} (hk : 0 < k) (h : n < 2 ^ k) : n.log2 < k := by
  rcases Nat.eq_zero_or_pos n with rfl | hp
  · exact hk
  · exact (Nat.log2_lt (by omega)).mpr h
theorem shw_neg {n : Nat} (h : 0 < n) : shw (-(n : Int)) = ("-" : Str) ++ shw n := by
  apply str_ext
  unfold shw
  rw [tl_app, tl_neg n h, tl_nat]
  have e : tl ("-" : Str) = [45] := by decide +kernel
  rw [e]; rfl
theorem shw_len (i : Int) {k : Nat} (hk : 0 < k) (h : i.natAbs < 10 ^ k) : (shw i).length ≤ k + 1 := by
  rw [← tl_len]
  rcases (by omega : 0 ≤ i ∨ i < 0) with hi | hi
  · obtain ⟨n, rfl⟩ := Int.eq_ofNat_of_zero_le hi
    unfold shw; rw [tl_nat]
    have := dg_len hk (n := n) (by omega)
    omega
  · obtain ⟨n, rfl, hn⟩ : ∃ n : Nat, i = -(n : Int) ∧ 0 < n := ⟨i.natAbs, by omega, by omega⟩
    unfold shw; rw [tl_neg n hn]
    have := dg_len hk (n := n) (by omega)
    rw [List.length_cons]; omega
theorem shw_asc (i : Int) : asc (shw i) := fun c hc => by
  rcases (by omega : 0 ≤ i ∨ i < 0) with hi | hi
  · obtain ⟨n, rfl⟩ := Int.eq_ofNat_of_zero_le hi
    unfold shw at hc; rw [tl_nat] at hc
    have := dg_fig n c hc
    unfold isDg at this; omega
  · obtain ⟨n, rfl, hn⟩ : ∃ n : Nat, i = -(n : Int) ∧ 0 < n := ⟨i.natAbs, by omega, by omega⟩
    unfold shw at hc; rw [tl_neg n hn] at hc
    rcases List.mem_cons.mp hc with rfl | hc
    · decide
    · have := dg_fig n c hc
      unfold isDg at this; omega
theorem big60 : (10 : Int) ^ Int.toNat 60 = ((10 ^ 60 : Nat) : Int) := by decide
theorem fm_nat (a b : Nat) : ((a : Int)).fmod (b : Int) = ((a % b : Nat) : Int) := by rw [Int.fmod_eq_emod_of_nonneg _ (Int.natCast_nonneg b)]; rfl
theorem fd_nat (a b : Nat) : ((a : Int)).fdiv (b : Int) = ((a / b : Nat) : Int) := by rw [Int.fdiv_eq_ediv_of_nonneg _ (Int.natCast_nonneg b)]; rfl
theorem shw_parts {n r : Nat} {ps : List Str} (h : dg n = dg r ++ (ps.reverse.map tl).flatten) : Txt.join ("" : Str) (ps ++ [shw r]).reverse = shw n := by
  apply str_ext
  rw [tl_join, List.reverse_append]
  show (tl (shw r) :: ps.reverse.map tl).flatten = tl (shw n)
  rw [List.flatten_cons]
  unfold shw
  rw [tl_nat, tl_nat, h]
theorem shw_next {n r : Nat} {ps : List Str} (h : dg n = dg r ++ (ps.reverse.map tl).flatten) (hr : 10 ^ 60 ≤ r) : dg n = dg (r / 10 ^ 60) ++ ((ps ++ [Txt.zfill (shw ((r % 10 ^ 60 : Nat) : Int)) ((60 : Nat) : Int)]).reverse.map tl).flatten := by
  obtain ⟨c, l, e, hc⟩ := dg_head (r % 10 ^ 60)
  have e1 : tl (Txt.zfill (shw ((r % 10 ^ 60 : Nat) : Int)) ((60 : Nat) : Int)) = padF 60 (dg (r % 10 ^ 60)) := by
    rw [tl_zfill (x := shw ((r % 10 ^ 60 : Nat) : Int)) (k := 60) (c := c) (r := l) (by unfold shw; rw [tl_nat]; exact e) hc]
    unfold shw
    rw [tl_nat]
  have e2 := dg_parts (q := r / 10 ^ 60) (Nat.div_pos hr (by decide)) 59 (r % 10 ^ 60) (Nat.mod_lt _ (by decide))
  rw [Nat.mul_comm, Nat.div_add_mod] at e2
  rw [h, e2, List.reverse_append]
  show _ = _ ++ (tl _ :: ps.reverse.map tl).flatten
  rw [List.flatten_cons, e1, List.append_assoc]
theorem join_ok {ts : List Str} (h1 : ∀ y ∈ ts, y.length ≤ 61) (h2 : ts.length ≤ 2000) : JoinOk ("" : Str) ts = true := by
  have e : (("" : Str)).length = 0 := by decide +kernel
  have := StrLaws.joinFits (sep := ("" : Str)) (texts := ts) (B := 61) h1 (by rw [e]; omega)
  unfold JoinOk
  rw [this]; rfl
theorem zf_len {r : Nat} (h : r < 10 ^ 60) : (Txt.zfill (shw (r : Int)) ((60 : Nat) : Int)).length ≤ 61 := by
  obtain ⟨c, l, e, hc⟩ := dg_head r
  rw [← tl_len, tl_zfill (x := shw (r : Int)) (k := 60) (c := c) (r := l) (by unfold shw; rw [tl_nat]; exact e) hc]
  unfold padF shw
  rw [tl_nat, List.length_append, List.length_replicate]
  have := dg_len (by decide : 0 < 60) h
  omega
theorem pow_two_lt {k n r : Nat} (h : r * 2 ^ k ≤ n) (hr : k = 0 ∨ 1 ≤ r) (hn : n < 2 ^ 1800) : k ≤ 1800 := by
  rcases hr with rfl | hr
  · decide
  · have : 2 ^ k ≤ n := Nat.le_trans (by have := Nat.mul_le_mul_right (2 ^ k) hr; rwa [Nat.one_mul] at this) h
    exact Nat.le_of_lt ((Nat.pow_lt_pow_iff_right (by decide)).mp (Nat.lt_of_le_of_lt this hn))
def allFg (x : Str) : Bool := (tl x).all figB
def S_alone : DSp := fun ds Q => ∃ x, ds = [.str x] ∧ asc x ∧ Q (.bl (allFg x))
theorem allFg_iff {x : Str} : allFg x = true ↔ ∀ c ∈ tl x, isDg c := by
  unfold allFg
  rw [List.all_eq_true]
  exact ⟨fun h c hc => figB_iff.mp (h c hc), fun h c hc => figB_iff.mpr (h c hc)⟩
theorem wv_some {x : Str} (h : Numl (tl x)) (hl : (fg x).length ≤ 60) : wv x = some (dgVal (tl x)) := if_pos ⟨h, hl⟩
theorem wv_none {x : Str} (h : ¬ (Numl (tl x) ∧ (fg x).length ≤ 60)) : wv x = none := if_neg h
theorem str_nil {f : Str} : (f == ("" : Str)) = decide (tl f = []) := by
  rw [beq_tl]
  have e : tl ("" : Str) = [] := by decide +kernel
  rw [e]
theorem cps_head {f : Str} {c : Nat} {r : List Nat} (h : tl f = c :: r) : f.cps[Int.toNat 0]? = some c := by
  have : f.cps.toList[0]? = some c := by show (tl f)[0]? = _; rw [h]; rfl
  simpa using this
theorem one_nought (c : Nat) : ((⟨#[c]⟩ : Str) == ("0" : Str)) = decide (c = 48) := by
  rw [beq_tl]
  have e : tl ("0" : Str) = [48] := by decide +kernel
  rw [e]
  show decide ([c] = [48]) = _
  simp
theorem is_nought (x : Str) : (x == ("0" : Str)) = decide (tl x = [48]) := by
  rw [beq_tl]
  have e : tl ("0" : Str) = [48] := by decide +kernel
  rw [e]
def Kd.nam : Kd → Str
  | .plain => .ofString "plain"
  | .below => .ofString "below"
  | .balanced => .ofString "balanced"
  | .growing => .ofString "growing"
  | .falling => .ofString "falling"
  | .pairs => .ofString "pairs"
theorem fold_ge : ∀ (l : List Nat) (a : Nat), a * 10 ^ l.length ≤ l.foldl (fun a c => a * 10 + (c - 48)) a
  | [], a => by simp
  | c :: l, a => by
    show a * 10 ^ (l.length + 1) ≤ l.foldl (fun a c => a * 10 + (c - 48)) (a * 10 + (c - 48))
    refine Nat.le_trans ?_ (fold_ge l _)
    have := Nat.mul_le_mul_right (10 ^ l.length) (show a * 10 ≤ a * 10 + (c - 48) by omega)
    rw [Nat.pow_succ', ← Nat.mul_assoc]
    exact this
theorem dgs_ge {c : Nat} {r : List Nat} (h : 49 ≤ c) : 10 ^ r.length ≤ dgs (c :: r) := by
  show _ ≤ r.foldl (fun a c => a * 10 + (c - 48)) (0 * 10 + (c - 48))
  refine Nat.le_trans ?_ (fold_ge r _)
  have := Nat.mul_le_mul_right (10 ^ r.length) (show 1 ≤ 0 * 10 + (c - 48) by omega)
  rwa [Nat.one_mul] at this
theorem dgs_snoc (l : List Nat) (c : Nat) : dgs (l ++ [c]) = dgs l * 10 + (c - 48) := by unfold dgs; rw [List.foldl_append]; rfl
theorem dgs_dg (m : Nat) : dgs (dg m) = m := by
  induction m using Nat.strongRecOn with
  | ind m ih =>
    by_cases h : m < 10
    · rw [dg_small h]
      show 0 * 10 + (48 + m - 48) = m
      omega
    · have e : m = 10 * (m / 10) + m % 10 := by omega
      have e2 : dg m = dg (m / 10) ++ [48 + m % 10] := by
        conv => lhs; rw [e]
        rw [dg_step (by omega) (Nat.mod_lt _ (by decide)), dg_small (Nat.mod_lt _ (by decide))]
      rw [e2, dgs_snoc, ih (m / 10) (by omega)]
      omega
theorem dg_ne (m : Nat) : dg m ≠ [] := by
  obtain ⟨c, r, e, _⟩ := dg_head m
  rw [e]; exact List.cons_ne_nil _ _
theorem tl_shw (m : Nat) : tl (shw (m : Int)) = dg m := by unfold shw; exact tl_nat m
theorem dg_val (m : Nat) : dgVal (dg m) = (m : Int) := by
  have h := dgs_dg m
  obtain ⟨c, r, e, hc⟩ := dg_head m
  rw [e] at h ⊢
  unfold dgVal
  split
  · rename_i heq
    have : c = 45 := (List.cons.inj heq).1
    unfold isDg at hc
    omega
  · rw [h]
theorem fold_lt : ∀ (l : List Nat) (a : Nat), (∀ c ∈ l, isDg c) → l.foldl (fun a c => a * 10 + (c - 48)) a < (a + 1) * 10 ^ l.length
  | [], a, _ => by simp
  | c :: l, a, h => by
    have hc := h c List.mem_cons_self
    unfold isDg at hc
    show l.foldl (fun a c => a * 10 + (c - 48)) (a * 10 + (c - 48)) < (a + 1) * 10 ^ (l.length + 1)
    refine Nat.lt_of_lt_of_le (fold_lt l _ fun c hc => h c (List.mem_cons_of_mem _ hc)) ?_
    rw [Nat.pow_succ', ← Nat.mul_assoc]
    exact Nat.mul_le_mul_right _ (by omega)
theorem dg_nought {m : Nat} (h : 1 ≤ m) : (dg m).head? ≠ some 48 := by
  intro z
  obtain ⟨c, r, e, hc⟩ := dg_head m
  rw [e] at z
  have : c = 48 := Option.some.inj z
  subst this
  by_cases hm : m < 10
  · rw [dg_small hm] at e
    have := (List.cons.inj e).1
    omega
  · have hl : (dg m).length = r.length + 1 := by rw [e]; rfl
    have h1 : dgs (dg m) = dgs r := by
      rw [e]
      show r.foldl _ (0 * 10 + (48 - 48)) = r.foldl _ 0
      rfl
    rw [dgs_dg] at h1
    have lt : ∀ l : List Nat, (∀ c ∈ l, isDg c) → dgs l < 10 ^ l.length := fun l h => by have := fold_lt l 0 h; rwa [Nat.zero_add, Nat.one_mul] at this
    have h2 := lt r fun c hc => dg_fig m c (by rw [e]; exact List.mem_cons_of_mem _ hc)
    rw [← h1] at h2
    have hr : 0 < r.length := by
      cases r with
      | nil => have : m < 10 ^ 0 := h2; omega
      | cons _ _ => exact Nat.succ_pos _
    have h3 := dg_len hr h2
    omega
theorem wv_dg {x : Str} {m : Nat} (e : tl x = dg m) (h1 : 1 ≤ m) (h2 : m ≤ 60) : wv x = some (m : Int) := by
  obtain ⟨c, r, ec, hc⟩ := dg_head m
  have hd : (tl x).head? ≠ some 45 := by
    rw [e, ec]
    intro z
    have : c = 45 := Option.some.inj z
    unfold isDg at hc
    omega
  have ef : fg x = dg m := by unfold fg; rw [if_neg hd, e]
  have hn : Numl (tl x) := (numl_iff ef.symm).mpr ⟨dg_ne m, dg_fig m, fun z => absurd z (dg_nought h1)⟩
  rw [wv_some hn (by rw [ef]; exact Nat.le_trans (dg_len (k := 2) (by decide) (by omega)) (by decide)), e, dg_val]
theorem two_fig : ∀ c d : _root_.Fin 58, 49 ≤ c.val → 48 ≤ d.val → dg (dgs [c.val]) = [c.val] ∧ dg (dgs [c.val, d.val]) = [c.val, d.val] := by decide +kernel
theorem dg_of {x : Str} {i : Int} (hd : ∀ c ∈ tl x, isDg c) (h : wv x = some i) (h1 : 1 ≤ i) (h2 : i ≤ 60) : tl x = dg i.toNat := by
  unfold wv at h
  split at h
  · rename_i hh
    cases h
    obtain ⟨hn, _⟩ := hh
    rcases hn with hn | ⟨c, r, c1, c2, hr, hn | hn⟩
    · rw [hn] at h1
      exact absurd h1 (by decide)
    · have ev : dgVal (tl x) = (dgs (c :: r) : Int) := by
        rw [hn]
        unfold dgVal
        split
        · rename_i heq
          have : c = 45 := (List.cons.inj heq).1
          omega
        · rfl
      rw [ev] at h2 ⊢
      rw [hn, Int.toNat_natCast]
      have g := dgs_ge (c := c) (r := r) c1
      match r, hr, g, h2 with
      | [], _, _, _ => exact ((two_fig ⟨c, by omega⟩ ⟨48, by decide⟩ c1 (by decide)).1).symm
      | [d], hr, _, _ =>
        have hd := hr d List.mem_cons_self
        unfold isDg at hd
        exact ((two_fig ⟨c, by omega⟩ ⟨d, by omega⟩ c1 hd.1).2).symm
      | d :: d' :: r', _, g, h2 =>
        have : 10 ^ 2 ≤ 10 ^ (d :: d' :: r').length := Nat.pow_le_pow_right (by decide) (by simp)
        omega
    · have := hd 45 (by rw [hn]; exact List.mem_cons_self)
      unfold isDg at this
      omega
  · cases h
theorem nam_chars (k : Kd) : ∀ c ∈ tl k.nam, 97 ≤ c ∧ c ≤ 122 := by cases k <;> decide +kernel
theorem nam_ne (k : Kd) : tl k.nam ≠ [] := by cases k <;> decide +kernel
theorem nam_len (k : Kd) : k.nam.length ≤ 8 := by cases k <;> decide +kernel
theorem nam_inj {k j : Kd} (h : tl k.nam = tl j.nam) : k = j := by
  revert h
  cases k <;> cases j <;> first | (intro _; rfl) | (intro h; exact absurd h (by decide +kernel))
theorem part_eq : ∀ {u v u' v' : List Nat}, u ++ v = u' ++ v' → (∀ c ∈ u, ¬ isDg c) → (∀ c ∈ u', ¬ isDg c) → (∀ c ∈ v, isDg c) → (∀ c ∈ v', isDg c) → u = u' ∧ v = v'
  | [], v, [], v', h, _, _, _, _ => ⟨rfl, h⟩
  | [], v, c :: r, v', h, _, h2, h3, _ => absurd (h3 c (by rw [show v = c :: (r ++ v') from h]; exact List.mem_cons_self)) (h2 c List.mem_cons_self)
  | c :: r, v, [], v', h, h1, _, _, h4 => absurd (h4 c (by rw [← show c :: (r ++ v) = v' from h]; exact List.mem_cons_self)) (h1 c List.mem_cons_self)
  | c :: r, v, c' :: r', v', h, h1, h2, h3, h4 => by
    have h' : c :: (r ++ v) = c' :: (r' ++ v') := h
    obtain ⟨e1, e2⟩ := List.cons.inj h'
    obtain ⟨e3, e4⟩ := part_eq e2 (fun c hc => h1 c (List.mem_cons_of_mem _ hc)) (fun c hc => h2 c (List.mem_cons_of_mem _ hc)) h3 h4
    exact ⟨by rw [e1, e3], e4⟩
theorem nam_nd (k : Kd) : ∀ c ∈ tl k.nam, ¬ isDg c := fun c hc z => by
  have := nam_chars k c hc
  unfold isDg at z
  omega
theorem ok_nat {k : Kd} {n : Int} (h : k.ok n) : ∃ m : Nat, n = m ∧ 1 ≤ m ∧ m ≤ 60 := by
  obtain ⟨h1, h2⟩ := h
  refine ⟨n.toNat, ?_, ?_, ?_⟩ <;> cases k <;> simp only [Kd.lo, Kd.hi] at * <;> omega
theorem tl_good {k : Kd} {m : Nat} : tl (k.nam ++ shw (m : Int)) = tl k.nam ++ dg m := by rw [tl_app, tl_shw]
def Bad (x : Str) : Prop := ∀ k n, Kd.ok k n → x ≠ k.nam ++ shw n
theorem bad_part {x : Str} {u v : List Nat} (hx : tl x = u ++ v) (hu : ∀ c ∈ u, ¬ isDg c) (hv : ∀ c ∈ v, isDg c) (h : ∀ (k : Kd) (m : Nat), k.ok m → u = tl k.nam → v = dg m → False) : Bad x := fun k n hn e => by
  obtain ⟨m, rfl, _, _⟩ := ok_nat hn
  rw [e, tl_good] at hx
  obtain ⟨e1, e2⟩ := part_eq hx (nam_nd k) hu (dg_fig m) hv
  exact h k m hn e1.symm e2.symm
theorem bad_char {x : Str} {c : Nat} (hc : c ∈ tl x) (h : ¬ isDg c ∧ ¬ (97 ≤ c ∧ c ≤ 122)) : Bad x := fun k n hn e => by
  obtain ⟨m, rfl, _, _⟩ := ok_nat hn
  rw [e, tl_good] at hc
  rcases List.mem_append.mp hc with z | z
  · exact h.2 (nam_chars k c z)
  · exact h.1 (dg_fig m c z)
theorem good_inj {k k' : Kd} {n n' : Int} (h : k.ok n) (h' : k'.ok n') (e : k.nam ++ shw n = k'.nam ++ shw n') : k = k' ∧ n = n' := by
  obtain ⟨m, rfl, _, _⟩ := ok_nat h
  obtain ⟨m', rfl, _, _⟩ := ok_nat h'
  have e' := congrArg tl e
  rw [tl_good, tl_good] at e'
  obtain ⟨e1, e2⟩ := part_eq e' (nam_nd k) (nam_nd k') (dg_fig m) (dg_fig m')
  have := congrArg dgs e2
  rw [dgs_dg, dgs_dg] at this
  exact ⟨nam_inj e1, by rw [this]⟩
theorem bad_num {k : Kd} {m : Nat} (h : ¬ k.ok m) : Bad (k.nam ++ shw (m : Int)) := bad_part tl_good (nam_nd k) (dg_fig m) fun k' m' hn e1 e2 => by
  obtain rfl := nam_inj e1
  have := congrArg dgs e2
  rw [dgs_dg, dgs_dg] at this
  rw [this] at h
  exact h hn
theorem bad_neg {k : Kd} {m : Nat} (h : 0 < m) : Bad (k.nam ++ shw (-(m : Int))) := bad_char (c := 45) (by
  rw [tl_app]
  refine List.mem_append_right _ ?_
  unfold shw
  rw [tl_neg m h]
  exact List.mem_cons_self) (by unfold isDg; decide)
theorem nought1 : tl (Str.ofString "0") = [48] := by decide +kernel
theorem bad_nought {k : Kd} {m : Nat} : Bad (k.nam ++ Str.ofString "0" ++ shw (m : Int)) := bad_part (u := tl k.nam) (v := 48 :: dg m) (by rw [tl_app, tl_app, tl_shw, nought1, List.append_assoc]; rfl) (nam_nd k) (fun c hc => by
  rcases List.mem_cons.mp hc with rfl | hc
  · exact ⟨by decide, by decide⟩
  · exact dg_fig m c hc) fun k' m' hn e1 e2 => by
  have h1 := congrArg dgs e2
  have h2 : dgs (48 :: dg m) = dgs (dg m) := rfl
  rw [h2, dgs_dg, dgs_dg] at h1
  subst h1
  have := congrArg List.length e2
  rw [List.length_cons] at this
  omega
theorem bad_end {x : Str} (hx : ∀ c ∈ tl x, ¬ isDg c) : Bad x := bad_part (u := tl x) (v := []) (by rw [List.append_nil]) hx (fun c hc => nomatch hc) fun _ m _ _ e => dg_ne m e.symm
theorem bad_num0 {m : Nat} : Bad (shw (m : Int)) := bad_part (u := []) (v := dg m) (tl_shw m) (fun c hc => nomatch hc) (dg_fig m) fun k _ _ e _ => nam_ne k e.symm
theorem bad_name {y : Str} {m : Nat} (hy : ∀ c ∈ tl y, ¬ isDg c) (h : ∀ k : Kd, tl y ≠ tl k.nam) : Bad (y ++ shw (m : Int)) := bad_part (by rw [tl_app, tl_shw]) hy (dg_fig m) fun k _ _ e _ => h k e
theorem cut_nam (k : Kd) : (∀ c ∈ tl (Txt.slice k.nam none (some (-1))), ¬ isDg c) ∧ (∀ j : Kd, tl (Txt.slice k.nam none (some (-1))) ≠ tl j.nam) := by
  constructor
  · intro c hc
    exact nam_nd k c (slice_mem hc)
  · intro j
    cases k <;> cases j <;> decide +kernel
theorem up_nam (k : Kd) : ∃ c ∈ tl (Txt.upper k.nam), 65 ≤ c ∧ c ≤ 90 := by cases k <;> decide +kernel
theorem up_len (k : Kd) : (Txt.upper k.nam).length ≤ 8 ∧ asc (Txt.upper k.nam) := by cases k <;> exact ⟨by decide +kernel, by unfold asc; decide +kernel⟩
def odds : List Str := [Str.ofString "plan", Str.ofString "belows", Str.ofString "odd", Str.ofString "pair", Str.ofString "fallin", Str.ofString "growings"]
theorem odds_ok : ∀ y ∈ odds, ((tl y).all fun c => decide (97 ≤ c ∧ c ≤ 122)) = true ∧ y.length ≤ 8 ∧ tl y ≠ tl (Kd.nam .plain) ∧ tl y ≠ tl (Kd.nam .below) ∧ tl y ≠ tl (Kd.nam .balanced) ∧ tl y ≠ tl (Kd.nam .growing) ∧ tl y ≠ tl (Kd.nam .falling) ∧ tl y ≠ tl (Kd.nam .pairs) := by decide +kernel
theorem bad_odd {y : Str} (hy : y ∈ odds) {m : Nat} : Bad (y ++ shw (m : Int)) := by
  obtain ⟨h1, _, h2⟩ := odds_ok y hy
  refine bad_name (fun c hc z => ?_) fun k => ?_
  · have := of_decide_eq_true (List.all_eq_true.mp h1 c hc)
    unfold isDg at z
    omega
  · obtain ⟨a, b, c, d, e, f⟩ := h2
    cases k <;> assumption
theorem fig_in (c : Nat) : (Str.ofString "0123456789").cps.contains c = figB c := by
  have e : (Str.ofString "0123456789").cps = #[48, 49, 50, 51, 52, 53, 54, 55, 56, 57] := by decide +kernel
  rw [e, Bool.eq_iff_iff, figB_iff]
  unfold isDg
  rw [Array.contains_iff_mem]
  simp
  omega
def tail (l : List Nat) : List Nat := (l.reverse.takeWhile figB).reverse
theorem tail_fig (l : List Nat) : ∀ c ∈ tail l, isDg c := fun c hc => by
  have h := List.all_takeWhile (p := figB) (l := l.reverse)
  exact figB_iff.mp (List.all_eq_true.mp h c (List.mem_reverse.mp hc))
theorem tail_len (l : List Nat) : (tail l).length ≤ l.length := by
  unfold tail
  rw [List.length_reverse, ← List.length_reverse (as := l)]
  exact (List.takeWhile_sublist _).length_le
theorem tail_eq (l : List Nat) : l.take (l.length - (tail l).length) ++ tail l = l := by
  have h := List.takeWhile_append_dropWhile (p := figB) (l := l.reverse)
  have h2 := congrArg List.reverse h
  rw [List.reverse_append, List.reverse_reverse] at h2
  have h4 : l.length = (l.reverse.dropWhile figB).reverse.length + (tail l).length := by
    have := congrArg List.length h2
    rw [List.length_append] at this
    exact this.symm
  have h5 : l.take (l.length - (tail l).length) = (l.reverse.dropWhile figB).reverse := by
    rw [h4, Nat.add_sub_cancel]
    have h6 := congrArg (List.take (l.reverse.dropWhile figB).reverse.length) h2
    rw [List.take_left' rfl] at h6
    exact h6.symm
  rw [h5]
  exact h2
theorem tl_strip (x : Str) : tl (Txt.rstripChars x (Str.ofString "0123456789")) = (tl x).take ((tl x).length - (tail (tl x)).length) := by
  unfold Txt.rstripChars
  rw [PyProof.Rows.stripBy_eq]
  have e : (Str.ofString "0123456789").cps.contains = figB := funext fig_in
  rw [e]
  show (x.cps.extract 0 _).toList = _
  rw [Array.toList_extract, List.extract_eq_drop_take]
  show (((tl x).drop 0).take (x.length - ((tl x).reverse.takeWhile figB).length - 0)) = _
  rw [List.drop_zero, Nat.sub_zero, tl_len]
  unfold tail
  rw [List.length_reverse]
theorem good_tail {k : Kd} {m : Nat} : tail (tl (k.nam ++ shw (m : Int))) = dg m := by
  rw [tl_good]
  unfold tail
  rw [List.reverse_append, List.takeWhile_append_of_pos fun c hc => figB_iff.mpr (dg_fig m c (List.mem_reverse.mp hc))]
  cases e : (tl k.nam).reverse with
  | nil => exact absurd (List.reverse_eq_nil_iff.mp e) (nam_ne k)
  | cons c r =>
    have hc : c ∈ tl k.nam := List.mem_reverse.mp (by rw [e]; exact List.mem_cons_self)
    rw [List.takeWhile_cons_of_neg fun z => nam_nd k c hc (figB_iff.mp z), List.append_nil, List.reverse_reverse]
theorem good_strip {k : Kd} {m : Nat} : tl (Txt.rstripChars (k.nam ++ shw (m : Int)) (Str.ofString "0123456789")) = tl k.nam := by
  rw [tl_strip, good_tail, tl_good, List.length_append, Nat.add_sub_cancel, List.take_left']
  rfl
def bdT (k : Kd) : Dt := .tup [.str k.nam, .int k.lo, .int k.hi]
def bdL : List Dt := [bdT .plain, bdT .below, bdT .balanced, bdT .growing] ++ [bdT .falling, bdT .pairs]
theorem sg_len : (Str.ofString " .-+,:PZ").length = 8 := by decide +kernel
theorem sg_at (z : Int) : ∃ c, (Str.ofString " .-+,:PZ").cps[(z.fmod 8).toNat]? = some c ∧ c < 128 ∧ ¬ isDg c ∧ ¬ (97 ≤ c ∧ c ≤ 122) := by
  have s0 := Int.fmod_nonneg_of_pos z (show (0 : Int) < 8 by decide)
  have s1 := Int.fmod_lt_of_pos z (show (0 : Int) < 8 by decide)
  have e : (Str.ofString " .-+,:PZ").cps = #[32, 46, 45, 43, 44, 58, 80, 90] := by decide +kernel
  rw [e]
  have hk : (z.fmod 8).toNat < 8 := by omega
  generalize (z.fmod 8).toNat = k at *
  unfold isDg
  · rcases (by omega : k = 0 ∨ k = 1 ∨ k = 2 ∨ k = 3 ∨ k = 4 ∨ k = 5 ∨ k = 6 ∨ k = 7) with rfl | rfl | rfl | rfl | rfl | rfl | rfl | rfl <;> exact ⟨_, rfl, by decide⟩
theorem bd_at (z : Int) : ∃ k : Kd, atI bdL (z.fmod 6) = some (bdT k) := by
  have s0 := Int.fmod_nonneg_of_pos z (show (0 : Int) < 6 by decide)
  have s1 := Int.fmod_lt_of_pos z (show (0 : Int) < 6 by decide)
  rcases (by omega : z.fmod 6 = 0 ∨ z.fmod 6 = 1 ∨ z.fmod 6 = 2 ∨ z.fmod 6 = 3 ∨ z.fmod 6 = 4 ∨ z.fmod 6 = 5) with e | e | e | e | e | e <;> rw [e]
  · exact ⟨.plain, rfl⟩
  · exact ⟨.below, rfl⟩
  · exact ⟨.balanced, rfl⟩
  · exact ⟨.growing, rfl⟩
  · exact ⟨.falling, rfl⟩
  · exact ⟨.pairs, rfl⟩
theorem e58 : (10 : Int) ^ Int.toNat 58 = ((10 ^ 58 : Nat) : Int) := by decide
theorem bad_four (k : Kd) {z w : Int} (h0 : 0 ≤ w) (h1 : w < 4) : ∃ i : Int, atI [Dt.int (k.lo - 1), Dt.int (k.hi + 1), Dt.int (k.hi + 1 + z.fmod (10 ^ Int.toNat 58)), Dt.int (-1 - z.fmod 99)] w = some (Dt.int i) ∧ i.natAbs < 10 ^ 58 + 100 ∧ Bad (k.nam ++ shw i) := by
  have kb : 1 ≤ k.lo ∧ k.lo ≤ 2 ∧ 9 ≤ k.hi ∧ k.hi ≤ 60 := by cases k <;> decide
  have r0 := Int.fmod_nonneg_of_pos z (show (0 : Int) < ((10 ^ 58 : Nat) : Int) by decide)
  have r1 := Int.fmod_lt_of_pos z (show (0 : Int) < ((10 ^ 58 : Nat) : Int) by decide)
  have s0 := Int.fmod_nonneg_of_pos z (show (0 : Int) < 99 by decide)
  have s1 := Int.fmod_lt_of_pos z (show (0 : Int) < 99 by decide)
  rw [e58]
  generalize z.fmod ((10 ^ 58 : Nat) : Int) = r at *
  generalize z.fmod 99 = s at *
  generalize 10 ^ 58 = B at *
  rcases (by omega : w = 0 ∨ w = 1 ∨ w = 2 ∨ w = 3) with rfl | rfl | rfl | rfl
  · refine ⟨_, rfl, by omega, ?_⟩
    obtain ⟨p, hp⟩ : ∃ p : Nat, k.lo - 1 = p := ⟨(k.lo - 1).toNat, by omega⟩
    rw [hp]
    exact bad_num fun h => by have := h.1; omega
  · refine ⟨_, rfl, by omega, ?_⟩
    obtain ⟨p, hp⟩ : ∃ p : Nat, k.hi + 1 = p := ⟨(k.hi + 1).toNat, by omega⟩
    rw [hp]
    exact bad_num fun h => by have := h.2; omega
  · refine ⟨_, rfl, by omega, ?_⟩
    obtain ⟨p, hp⟩ : ∃ p : Nat, k.hi + 1 + r = p := ⟨(k.hi + 1 + r).toNat, by omega⟩
    rw [hp]
    exact bad_num fun h => by have := h.2; omega
  · refine ⟨_, rfl, by omega, ?_⟩
    obtain ⟨p, hp, h2⟩ : ∃ p : Nat, -1 - s = -(p : Int) ∧ 0 < p := ⟨(1 + s).toNat, by omega, by omega⟩
    rw [hp]
    exact bad_neg h2
theorem app_mem {u v : Str} {c : Nat} (h : c ∈ tl u) : c ∈ tl (u ++ v) := by rw [tl_app]; exact List.mem_append_left _ h
theorem mem_app {u v : Str} {c : Nat} (h : c ∈ tl v) : c ∈ tl (u ++ v) := by rw [tl_app]; exact List.mem_append_right _ h
def sevenT (k : Kd) (m : Nat) : List Str := [k.nam, shw (m : Int), Str.ofString "", Txt.upper k.nam ++ shw (m : Int), k.nam ++ Str.ofString "x", k.nam ++ shw (m : Int) ++ Str.ofString ",1", k.nam ++ shw (m : Int) ++ Str.ofString " "]
theorem sev_ok {k : Kd} {m : Nat} (h : m ≤ 60) : ∀ x ∈ sevenT k m, asc x ∧ x.length ≤ 4000 ∧ Bad x := by
  have hs : (shw (m : Int)).length ≤ 3 := shw_len (k := 2) (m : Int) (by decide) (by rw [Int.natAbs_natCast]; omega)
  have lk := nam_len k
  have le : ∀ u v : Str, (u ++ v).length = u.length + v.length := fun u v => by rw [← tl_len, tl_app, List.length_append, tl_len, tl_len]
  have ak : asc k.nam := fun c hc => by have := nam_chars k c hc; omega
  have aw := shw_asc (m : Int)
  obtain ⟨ul, ua⟩ := up_len k
  have lits : (asc (Str.ofString "") ∧ asc (Str.ofString "x") ∧ asc (Str.ofString ",1") ∧ asc (Str.ofString " ")) ∧ (Str.ofString "").length = 0 ∧ (Str.ofString "x").length = 1 ∧ (Str.ofString ",1").length = 2 ∧ (Str.ofString " ").length = 1 := by unfold asc; decide +kernel
  obtain ⟨⟨a1, a2, a3, a4⟩, l1, l2, l3, l4⟩ := lits
  intro x hx
  unfold sevenT at hx
  simp only [List.mem_cons, List.not_mem_nil, or_false] at hx
  rcases hx with rfl | rfl | rfl | rfl | rfl | rfl | rfl
  · exact ⟨ak, by omega, bad_end (nam_nd k)⟩
  · exact ⟨aw, by omega, bad_num0⟩
  · exact ⟨a1, by omega, bad_end (by have e : tl (Str.ofString "") = [] := by decide +kernel
                                     rw [e]; exact fun c hc => nomatch hc)⟩
  · refine ⟨asc_app ua aw, by rw [le]; omega, ?_⟩
    obtain ⟨c, hc, c1, c2⟩ := up_nam k
    exact bad_char (app_mem hc) (by unfold isDg; omega)
  · refine ⟨asc_app ak a2, by rw [le]; omega, bad_end fun c hc => ?_⟩
    rw [tl_app] at hc
    rcases List.mem_append.mp hc with z | z
    · exact nam_nd k c z
    · have e : tl (Str.ofString "x") = [120] := by decide +kernel
      rw [e] at z
      rw [List.mem_singleton.mp z]
      unfold isDg; decide
  · refine ⟨asc_app (asc_app ak aw) a3, by rw [le, le]; omega, bad_char (c := 44) (mem_app ?_) (by unfold isDg; decide)⟩
    decide +kernel
  · refine ⟨asc_app (asc_app ak aw) a4, by rw [le, le]; omega, bad_char (c := 32) (mem_app ?_) (by unfold isDg; decide)⟩
    decide +kernel
theorem sev_at {z : Int} (a b c d e f g : Str) : ∃ x ∈ [a, b, c, d, e, f, g], atI [Dt.str a, .str b, .str c, .str d, .str e, .str f, .str g] (z.fmod 7) = some (.str x) := by
  have s0 := Int.fmod_nonneg_of_pos z (show (0 : Int) < 7 by decide)
  have s1 := Int.fmod_lt_of_pos z (show (0 : Int) < 7 by decide)
  rcases (by omega : z.fmod 7 = 0 ∨ z.fmod 7 = 1 ∨ z.fmod 7 = 2 ∨ z.fmod 7 = 3 ∨ z.fmod 7 = 4 ∨ z.fmod 7 = 5 ∨ z.fmod 7 = 6) with e | e | e | e | e | e | e <;> rw [e]
  · exact ⟨a, by simp, rfl⟩
  · exact ⟨b, by simp, rfl⟩
  · exact ⟨c, by simp, rfl⟩
  · exact ⟨d, by simp, rfl⟩
  · exact ⟨_, by simp, rfl⟩
  · exact ⟨f, by simp, rfl⟩
  · exact ⟨g, by simp, rfl⟩
theorem odd_at (z : Int) : ∃ y ∈ odds, atI [Dt.str (Str.ofString "plan"), .str (Str.ofString "belows"), .str (Str.ofString "odd"), .str (Str.ofString "pair"), .str (Str.ofString "fallin"), .str (Str.ofString "growings")] (z.fmod 6) = some (.str y) := by
  have s0 := Int.fmod_nonneg_of_pos z (show (0 : Int) < 6 by decide)
  have s1 := Int.fmod_lt_of_pos z (show (0 : Int) < 6 by decide)
  rcases (by omega : z.fmod 6 = 0 ∨ z.fmod 6 = 1 ∨ z.fmod 6 = 2 ∨ z.fmod 6 = 3 ∨ z.fmod 6 = 4 ∨ z.fmod 6 = 5) with e | e | e | e | e | e <;> rw [e] <;> exact ⟨_, by unfold odds; simp, rfl⟩
theorem cut_17 (l : List Dt) : (cutD l (some 1) (some 17)).length ≤ l.length - 1 := by
  unfold cutD
  have e1 : HT.sIx l.length 0 (some 1) = min 1 l.length := HT.sIx_nat _ _ 1
  have e2 : HT.sIx l.length l.length (some 17) = min 17 l.length := HT.sIx_nat _ _ 17
  rw [e1, e2, List.length_take, List.length_drop]
  omega
def sixK : List Kd := [.plain, .below, .balanced, .growing, .falling, .pairs]
theorem bd_six : bdL = sixK.map bdT := rfl
theorem six_eq (k : Kd) : Dt.lst (sixK.map fun j => Dt.bl (j.nam == k.nam)) = Dt.lst ([.bl (k.num == 0), .bl (k.num == 1), .bl (k.num == 2)] ++ [.bl (k.num == 3), .bl (k.num == 4), .bl (k.num == 5)]) := by
  have h : ∀ j k : Kd, (j.nam == k.nam) = (k.num == j.num) := fun j k => by cases j <;> cases k <;> decide +kernel
  unfold sixK
  simp only [List.map_cons, List.map_nil, h, List.cons_append, List.nil_append]
  rfl
def S_lbds : DSp := fun ds Q => ds = [] ∧ Q (.lst bdL)
def S_lref : DSp := fun ds Q => ∃ x, ds = [.str x] ∧ asc x ∧ x.length ≤ 4000 ∧ (∀ k n, Kd.ok k n → x ≠ k.nam ++ shw n) ∧ Q (.bl true)
def S_lbad : DSp := fun ds Q => ∃ (k : Kd) (n c : Int), ds = [.str k.nam, .int k.lo, .int k.hi, .int n, .int c] ∧ k.ok n ∧ 0 ≤ c ∧ ∀ x, asc x → x.length ≤ 4000 → (∀ k n, Kd.ok k n → x ≠ k.nam ++ shw n) → Q (.str x)
def six (k : Kd) : Dt := .lst ([.bl (k.num == 0), .bl (k.num == 1), .bl (k.num == 2)] ++ [.bl (k.num == 3), .bl (k.num == 4), .bl (k.num == 5)])
def thirteen : Dt := .lst [.bl true, .bl true, .bl false, .bl false, .bl false, .bl false, .bl false, .bl false, .bl false, .bl false, .bl false, .bl false, .bl false]
structure Adr where
  Plain : Addr
  Below : Addr
  Balanced : Addr
  Growing : Addr
  Falling : Addr
  Pairs : Addr
  NoWay : Addr
  OddError : Addr
  NoText : Addr
  NoNumber : Addr
  NoWriting : Addr
  TooLess : Addr
  NoRatio : Addr
  NoFalling : Addr
  NoPairs : Addr
  Nought : Addr
  NoSpan : Addr
  NoTotal : Addr
  NoRow : Addr
structure Txt (K : PySem.W.Frag) (mg : Str → Option Value) (A : Adr) : Prop where
  kt : KitT K
  isinstance : mg "isinstance" = none
  n_int : mg "int" = none
  n_bool : mg "bool" = none
  n_tuple : mg "tuple" = none
  len : mg "len" = none
  range : mg "range" = none
  n_str : mg "str" = none
  n_ValueError : mg "ValueError" = none
  gs_FIGURES : ∃ tk, mg "FIGURES" = some (.str "0123456789" tk)
  cl_Plain : Cls K A.Plain
  na_Plain : NoAttr K A.Plain "base"
  cl_Below : Cls K A.Below
  na_Below : NoAttr K A.Below "base"
  cl_Balanced : Cls K A.Balanced
  na_Balanced : NoAttr K A.Balanced "half"
  cl_Growing : Cls K A.Growing
  na_Growing : NoAttr K A.Growing "first"
  cl_Falling : Cls K A.Falling
  na_Falling : NoAttr K A.Falling "most"
  cl_Pairs : Cls K A.Pairs
  na_Pairs : NoAttr K A.Pairs "most"
  gc_Plain : mg "Plain" = some (.ref A.Plain)
  gc_Below : mg "Below" = some (.ref A.Below)
  gc_Balanced : mg "Balanced" = some (.ref A.Balanced)
  gc_Growing : mg "Growing" = some (.ref A.Growing)
  gc_Falling : mg "Falling" = some (.ref A.Falling)
  gc_Pairs : mg "Pairs" = some (.ref A.Pairs)
  isi_Plain : IsiOk K A.Plain
  ki_Plain_Plain : PySem.W.kitOne K (.ref A.Plain) (.ref A.Plain) = some true
  ki_Plain_Below : PySem.W.kitOne K (.ref A.Plain) (.ref A.Below) = some false
  ki_Plain_Balanced : PySem.W.kitOne K (.ref A.Plain) (.ref A.Balanced) = some false
  ki_Plain_Growing : PySem.W.kitOne K (.ref A.Plain) (.ref A.Growing) = some false
  ki_Plain_Falling : PySem.W.kitOne K (.ref A.Plain) (.ref A.Falling) = some false
  ki_Plain_Pairs : PySem.W.kitOne K (.ref A.Plain) (.ref A.Pairs) = some false
  isi_Below : IsiOk K A.Below
  ki_Below_Plain : PySem.W.kitOne K (.ref A.Below) (.ref A.Plain) = some false
  ki_Below_Below : PySem.W.kitOne K (.ref A.Below) (.ref A.Below) = some true
  ki_Below_Balanced : PySem.W.kitOne K (.ref A.Below) (.ref A.Balanced) = some false
  ki_Below_Growing : PySem.W.kitOne K (.ref A.Below) (.ref A.Growing) = some false
  ki_Below_Falling : PySem.W.kitOne K (.ref A.Below) (.ref A.Falling) = some false
  ki_Below_Pairs : PySem.W.kitOne K (.ref A.Below) (.ref A.Pairs) = some false
  isi_Balanced : IsiOk K A.Balanced
  ki_Balanced_Plain : PySem.W.kitOne K (.ref A.Balanced) (.ref A.Plain) = some false
  ki_Balanced_Below : PySem.W.kitOne K (.ref A.Balanced) (.ref A.Below) = some false
  ki_Balanced_Balanced : PySem.W.kitOne K (.ref A.Balanced) (.ref A.Balanced) = some true
  ki_Balanced_Growing : PySem.W.kitOne K (.ref A.Balanced) (.ref A.Growing) = some false
  ki_Balanced_Falling : PySem.W.kitOne K (.ref A.Balanced) (.ref A.Falling) = some false
  ki_Balanced_Pairs : PySem.W.kitOne K (.ref A.Balanced) (.ref A.Pairs) = some false
  isi_Growing : IsiOk K A.Growing
  ki_Growing_Plain : PySem.W.kitOne K (.ref A.Growing) (.ref A.Plain) = some false
  ki_Growing_Below : PySem.W.kitOne K (.ref A.Growing) (.ref A.Below) = some false
  ki_Growing_Balanced : PySem.W.kitOne K (.ref A.Growing) (.ref A.Balanced) = some false
  ki_Growing_Growing : PySem.W.kitOne K (.ref A.Growing) (.ref A.Growing) = some true
  ki_Growing_Falling : PySem.W.kitOne K (.ref A.Growing) (.ref A.Falling) = some false
  ki_Growing_Pairs : PySem.W.kitOne K (.ref A.Growing) (.ref A.Pairs) = some false
  isi_Falling : IsiOk K A.Falling
  ki_Falling_Plain : PySem.W.kitOne K (.ref A.Falling) (.ref A.Plain) = some false
  ki_Falling_Below : PySem.W.kitOne K (.ref A.Falling) (.ref A.Below) = some false
  ki_Falling_Balanced : PySem.W.kitOne K (.ref A.Falling) (.ref A.Balanced) = some false
  ki_Falling_Growing : PySem.W.kitOne K (.ref A.Falling) (.ref A.Growing) = some false
  ki_Falling_Falling : PySem.W.kitOne K (.ref A.Falling) (.ref A.Falling) = some true
  ki_Falling_Pairs : PySem.W.kitOne K (.ref A.Falling) (.ref A.Pairs) = some false
  isi_Pairs : IsiOk K A.Pairs
  ki_Pairs_Plain : PySem.W.kitOne K (.ref A.Pairs) (.ref A.Plain) = some false
  ki_Pairs_Below : PySem.W.kitOne K (.ref A.Pairs) (.ref A.Below) = some false
  ki_Pairs_Balanced : PySem.W.kitOne K (.ref A.Pairs) (.ref A.Balanced) = some false
  ki_Pairs_Growing : PySem.W.kitOne K (.ref A.Pairs) (.ref A.Growing) = some false
  ki_Pairs_Falling : PySem.W.kitOne K (.ref A.Pairs) (.ref A.Falling) = some false
  ki_Pairs_Pairs : PySem.W.kitOne K (.ref A.Pairs) (.ref A.Pairs) = some true
  gc_NoWay : mg "NoWay" = some (.ref A.NoWay)
  gc_OddError : mg "OddError" = some (.ref A.OddError)
  gc_NoText : mg "NoText" = some (.ref A.NoText)
  gc_NoNumber : mg "NoNumber" = some (.ref A.NoNumber)
  gc_NoWriting : mg "NoWriting" = some (.ref A.NoWriting)
  gc_TooLess : mg "TooLess" = some (.ref A.TooLess)
  gc_NoRatio : mg "NoRatio" = some (.ref A.NoRatio)
  gc_NoFalling : mg "NoFalling" = some (.ref A.NoFalling)
  gc_NoPairs : mg "NoPairs" = some (.ref A.NoPairs)
  gc_Nought : mg "Nought" = some (.ref A.Nought)
  gc_NoSpan : mg "NoSpan" = some (.ref A.NoSpan)
  gc_NoTotal : mg "NoTotal" = some (.ref A.NoTotal)
  gc_NoRow : mg "NoRow" = some (.ref A.NoRow)
  ex_NoText : ExcK K A.NoText
  ix_NoText : IsxOk K A.NoText
  em_NoText_NoWay : PySem.W.exmOne K (.ref A.NoText) (.ref A.NoWay) = some false
  em_NoText_OddError : PySem.W.exmOne K (.ref A.NoText) (.ref A.OddError) = some true
  kx_NoText_NoWay : PySem.W.kitOne K (.ref A.NoText) (.ref A.NoWay) = some false
  kx_NoText_OddError : PySem.W.kitOne K (.ref A.NoText) (.ref A.OddError) = some true
  kx_NoText_NoText : PySem.W.kitOne K (.ref A.NoText) (.ref A.NoText) = some true
  kx_NoText_NoNumber : PySem.W.kitOne K (.ref A.NoText) (.ref A.NoNumber) = some false
  kx_NoText_NoWriting : PySem.W.kitOne K (.ref A.NoText) (.ref A.NoWriting) = some false
  kx_NoText_TooLess : PySem.W.kitOne K (.ref A.NoText) (.ref A.TooLess) = some false
  kx_NoText_NoRatio : PySem.W.kitOne K (.ref A.NoText) (.ref A.NoRatio) = some false
  kx_NoText_NoFalling : PySem.W.kitOne K (.ref A.NoText) (.ref A.NoFalling) = some false
  kx_NoText_NoPairs : PySem.W.kitOne K (.ref A.NoText) (.ref A.NoPairs) = some false
  kx_NoText_Nought : PySem.W.kitOne K (.ref A.NoText) (.ref A.Nought) = some false
  kx_NoText_NoSpan : PySem.W.kitOne K (.ref A.NoText) (.ref A.NoSpan) = some false
  kx_NoText_NoTotal : PySem.W.kitOne K (.ref A.NoText) (.ref A.NoTotal) = some false
  kx_NoText_NoRow : PySem.W.kitOne K (.ref A.NoText) (.ref A.NoRow) = some false
  kx_NoText_ValueError : PySem.W.kitOne K (.ref A.NoText) (.type "ValueError") = some true
  ex_NoWay : ExcK K A.NoWay
  ix_NoWay : IsxOk K A.NoWay
  em_NoWay_NoWay : PySem.W.exmOne K (.ref A.NoWay) (.ref A.NoWay) = some true
  em_NoWay_OddError : PySem.W.exmOne K (.ref A.NoWay) (.ref A.OddError) = some true
  kx_NoWay_NoWay : PySem.W.kitOne K (.ref A.NoWay) (.ref A.NoWay) = some true
  kx_NoWay_OddError : PySem.W.kitOne K (.ref A.NoWay) (.ref A.OddError) = some true
  kx_NoWay_NoText : PySem.W.kitOne K (.ref A.NoWay) (.ref A.NoText) = some false
  kx_NoWay_NoNumber : PySem.W.kitOne K (.ref A.NoWay) (.ref A.NoNumber) = some false
  kx_NoWay_NoWriting : PySem.W.kitOne K (.ref A.NoWay) (.ref A.NoWriting) = some false
  kx_NoWay_TooLess : PySem.W.kitOne K (.ref A.NoWay) (.ref A.TooLess) = some false
  kx_NoWay_NoRatio : PySem.W.kitOne K (.ref A.NoWay) (.ref A.NoRatio) = some false
  kx_NoWay_NoFalling : PySem.W.kitOne K (.ref A.NoWay) (.ref A.NoFalling) = some false
  kx_NoWay_NoPairs : PySem.W.kitOne K (.ref A.NoWay) (.ref A.NoPairs) = some false
  kx_NoWay_Nought : PySem.W.kitOne K (.ref A.NoWay) (.ref A.Nought) = some false
  kx_NoWay_NoSpan : PySem.W.kitOne K (.ref A.NoWay) (.ref A.NoSpan) = some false
  kx_NoWay_NoTotal : PySem.W.kitOne K (.ref A.NoWay) (.ref A.NoTotal) = some false
  kx_NoWay_NoRow : PySem.W.kitOne K (.ref A.NoWay) (.ref A.NoRow) = some false
  kx_NoWay_ValueError : PySem.W.kitOne K (.ref A.NoWay) (.type "ValueError") = some true
def Adr.at (A : Adr) : Kd → Addr
  | .plain => A.Plain | .below => A.Below | .balanced => A.Balanced | .growing => A.Growing | .falling => A.Falling | .pairs => A.Pairs
def wayD (A : Adr) (k : Kd) (n : Int) : Dt := .way (A.at k) k.fld n
def S_wread (A : Adr) : DSpX := fun ds Q R => ∃ x, ds = [.str x] ∧ asc x ∧ x.length ≤ 5000 ∧ (∀ i, wv x = some i → Q (.int i)) ∧ (wv x = none → R A.NoText)
theorem kiAll {K : PySem.W.Frag} {mg : Str → Option Value} {A : Adr} (T : Txt K mg A) (k d : Kd) : PySem.W.kitOne K (.ref (A.at k)) (.ref (A.at d)) = some (k.num == d.num) := by
  cases k <;> cases d
  · exact T.ki_Plain_Plain
  · exact T.ki_Plain_Below
  · exact T.ki_Plain_Balanced
  · exact T.ki_Plain_Growing
  · exact T.ki_Plain_Falling
  · exact T.ki_Plain_Pairs
  · exact T.ki_Below_Plain
  · exact T.ki_Below_Below
  · exact T.ki_Below_Balanced
  · exact T.ki_Below_Growing
  · exact T.ki_Below_Falling
  · exact T.ki_Below_Pairs
  · exact T.ki_Balanced_Plain
  · exact T.ki_Balanced_Below
  · exact T.ki_Balanced_Balanced
  · exact T.ki_Balanced_Growing
  · exact T.ki_Balanced_Falling
  · exact T.ki_Balanced_Pairs
  · exact T.ki_Growing_Plain
  · exact T.ki_Growing_Below
  · exact T.ki_Growing_Balanced
  · exact T.ki_Growing_Growing
  · exact T.ki_Growing_Falling
  · exact T.ki_Growing_Pairs
  · exact T.ki_Falling_Plain
  · exact T.ki_Falling_Below
  · exact T.ki_Falling_Balanced
  · exact T.ki_Falling_Growing
  · exact T.ki_Falling_Falling
  · exact T.ki_Falling_Pairs
  · exact T.ki_Pairs_Plain
  · exact T.ki_Pairs_Below
  · exact T.ki_Pairs_Balanced
  · exact T.ki_Pairs_Growing
  · exact T.ki_Pairs_Falling
  · exact T.ki_Pairs_Pairs
theorem isiAt {K : PySem.W.Frag} {mg : Str → Option Value} {A : Adr} (T : Txt K mg A) (k : Kd) : IsiOk K (A.at k) := by
  cases k
  · exact T.isi_Plain
  · exact T.isi_Below
  · exact T.isi_Balanced
  · exact T.isi_Growing
  · exact T.isi_Falling
  · exact T.isi_Pairs
def S_bndX (A : Adr) : DSpX := fun ds Q R => ∃ n lo hi, ds = [.int n, .int lo, .int hi] ∧ lo.natAbs.log2 < 1000 ∧ hi.natAbs.log2 < 1000 ∧ ((lo ≤ n ∧ n ≤ hi ∧ Q (.int n)) ∨ (¬ (lo ≤ n ∧ n ≤ hi) ∧ R A.NoWay))
def S_wshown (A : Adr) : DSp := fun ds Q => ∃ k n, ds = [wayD A k n] ∧ k.ok n ∧ Q (.str (Kd.nam k ++ shw n))
def S_wmadeX (A : Adr) : DSpX := fun ds Q R => ∃ x i, ds = [.str x, .int i] ∧ (∀ k, x = Kd.nam k → k.ok i → Q (wayD A k i)) ∧ (∀ k, x = Kd.nam k → ¬ k.ok i → R A.NoWay) ∧ ((∀ k, x ≠ Kd.nam k) → R A.NoText)
def S_wreadX (A : Adr) : DSpX := fun ds Q R => ∃ x, ds = [.str x] ∧ asc x ∧ x.length ≤ 4000 ∧ (∀ k n, Kd.ok k n → x = Kd.nam k ++ shw n → Q (wayD A k n)) ∧ ((∀ k n, Kd.ok k n → x ≠ Kd.nam k ++ shw n) → R A.NoText)
def S_lmade (A : Adr) : DSp := fun ds Q => ∃ k n, ds = [.str (Kd.nam k), .int n] ∧ k.ok n ∧ Q (wayD A k n)
def S_lkinds (A : Adr) : DSp := fun ds Q => ∃ k n, ds = [wayD A k n] ∧ Q (six k)
def S_lvalue (A : Adr) : DSp := fun ds Q => ∃ k n, ds = [wayD A k n, .str (Kd.nam k)] ∧ Q (.int n)
section
variable {P : Program} {w : World} {K : PySem.W.Frag} {mg : Str → Option Value} {base : Heap} {f : Addr} {fd : FuncData} {A : Adr}
abbrev s_law_cell_at : Stmt := top 36
theorem sc_law_cell_at : FnScope ["_law_script", "_law_k"] ["_law_script", "_law_k"] (defScope s_law_cell_at) := by walk_at "sc"
theorem ok_law_cell_at (T : Txt K mg A) (F : Fun K "_law_cell_at" "_law_cell_at" s_law_cell_at f fd) : FnOk P w K mg base CX0 1 f fd ["_law_script", "_law_k"] (PureSp K (S_cell)) := by
  refine okD F sc_law_cell_at (by walk_at "ln") fun _ _ _ _ _ _ hr ds Q h => ?_
  obtain ⟨ns, k, rfl, hk, q⟩ := h
  refine ⟨_, (dss_cons (ds_if (dt_cmp (o_lt) (dv 1) (de_len rfl T.len (dv 0)) (nomark _)) (dss_one (ds_ret (de_ix (dv 0) (dv 1) (fun _ _ => rfl)))) dss_nil)
  (dss_one (ds_ret de_int))), ?_⟩
  walk_at "rd"
  refine ite2 (fun hlt => ?_) (fun _ => q 0)
  have hlt : k < (ns.map Dt.int).length := of_decide_eq_true hlt
  rw [List.length_map] at hlt
  exact ⟨_, rfl, _, rfl, _, _, _, rfl, rfl, atI_row hk hlt, q _⟩
abbrev s_law_bounds : Stmt := top 37
theorem sc_law_bounds : FnScope ["_law_some"] [] (defScope s_law_bounds) := by walk_at "sc"
theorem ok_law_bounds (T : Txt K mg A) (F : Fun K "_law_bounds" "_law_bounds" s_law_bounds f fd) : FnOk P w K mg base CX0 1 f fd [] (PureSp K (S_lbds)) := by
  refine okD F sc_law_bounds (by walk_at "ln") fun _ _ _ _ _ _ hr ds Q h => ?_
  obtain ⟨rfl, q⟩ := h
  refine ⟨_, (dss_cons (ds_set (i := 0) sc_law_bounds.nd rfl (Or.inl rfl) (de_lst (da_cons (de_tup (da_cons de_str (da_cons de_int (da_cons de_int da_nil)))) (da_cons (de_tup (da_cons de_str (da_cons de_int (da_cons de_int da_nil)))) (da_cons (de_tup (da_cons de_str (da_cons de_int (da_cons de_int da_nil)))) (da_cons (de_tup (da_cons de_str (da_cons de_int (da_cons de_int da_nil)))) da_nil))))))
  (dss_one (ds_ret (de_op o_cat (dv 0) (de_lst (da_cons (de_tup (da_cons de_str (da_cons de_int (da_cons de_int da_nil)))) (da_cons (de_tup (da_cons de_str (da_cons de_int (da_cons de_int da_nil)))) da_nil))))))), ?_⟩
  walk_at "rd"
  exact ⟨by decide, q⟩
abbrev s_is_whole : Stmt := top 16
theorem sc_is_whole : FnScope ["value"] ["value"] (defScope s_is_whole) := by walk_at "sc"
theorem ok_is_whole (T : Txt K mg A) (F : Fun K "is_whole" "is_whole" s_is_whole f fd) : FnOk P w K mg base CX0 1 f fd ["value"] (PureSp K (S_whole)) := by
  refine okD F sc_is_whole (by walk_at "ln") fun _ _ _ _ _ _ hr ds Q h => ?_
  obtain ⟨d, b, rfl, hw, q⟩ := h
  refine ⟨_, (dss_one (ds_ret (de_and (de_isi (T := .int) T.kt T.isinstance T.n_int PyProof.Rows.boot_int (dv 0)) (de_one (de_not (de_isi (T := .bool) T.kt T.isinstance T.n_bool PyProof.Rows.boot_bool (dv 0))))))), ?_⟩
  cases d <;> cases hw
  all_goals
    walk_at "rd"
    exact q
abbrev s_bounded : Stmt := top 19
theorem sc_bounded : FnScope ["number", "least", "most"] ["number", "least", "most"] (defScope s_bounded) := by walk_at "sc"
theorem ok_bounded (T : Txt K mg A) (G_is_whole : DOk P w K mg base 1 "is_whole" (S_whole)) (F : Fun K "bounded" "bounded" s_bounded f fd) : FnOk P w K mg base (CX1 P w) 2 f fd ["number", "least", "most"] (PureSpX K (S_bndX A)) := by
  refine okDX F sc_bounded (by walk_at "ln") fun _ _ _ _ _ _ hr ds Q R h rz => ?_
  obtain ⟨n, lo, hi, rfl, z1, z2, q⟩ := h
  refine ⟨_, (dss_cons (ds_if (DW.dt (dw_or (dt_not (dt_val (de_call G_is_whole (hr.mono (by decide)) rfl (da_cons (dv 0) da_nil)))) (dw_or (dt_cmp (o_lt) (dv 0) (dv 1) (nomark _)) (dw_or1 (dt_cmp (o_gt) (dv 0) (dv 2) (nomark _)))))) (dss_one (ds_raise rfl rfl T.gc_NoWay T.ex_NoWay (de_ftx (dv 1) (dv 2)))) dss_nil)
  (dss_one (ds_ret (dv 0)))), ?_⟩
  refine ⟨_, rfl, _, _, rfl, rfl, _, rfl, ifF rfl ?_⟩
  rcases q with ⟨h1, h2, q⟩ | ⟨hn, q⟩
  · refine ⟨_, rfl, _, rfl, _, _, rfl, rfl, _, rfl, ifF (decide_eq_false (by omega)) ?_⟩
    refine ⟨_, rfl, _, rfl, _, _, rfl, rfl, _, rfl, ifF (decide_eq_false (by omega)) ?_⟩
    exact ⟨_, rfl, q⟩
  · refine ⟨_, rfl, _, rfl, _, _, rfl, rfl, _, rfl, ifB (fun h => ?_) (fun h => ?_)⟩
    · exact ifT rfl ⟨_, rfl, lo, rfl, z1, _, rfl, hi, rfl, z2, fun x => rz _ q⟩
    · have h := of_decide_eq_false h
      refine ⟨_, rfl, _, rfl, _, _, rfl, rfl, _, rfl, ifT (decide_eq_true (by omega)) ?_⟩
      exact ⟨_, rfl, lo, rfl, z1, _, rfl, hi, rfl, z2, fun x => rz _ q⟩
abbrev s_Plain_init : Stmt := inClass (top 21) 0
theorem sc_Plain_init : FnScope ["self", "base"] ["self", "base"] (defScope s_Plain_init) := by walk_at "sc"
theorem ok_Plain_init (T : Txt K mg A) (G_bounded : DOkX P w K mg base 2 "bounded" (S_bndX A)) (F : Fun K "__init__" "Plain.__init__" s_Plain_init f fd) : FnOk P w K mg base (CX1 P w) 3 f fd ["self", "base"] (spInitX A.Plain "base" (Kd.ok .plain) A.NoWay) := by
  refine init_okX F sc_Plain_init T.cl_Plain T.na_Plain (fun cdv A outer s H E hr => ?_)
  obtain ⟨te, p, l⟩ := ((de_callX G_bounded (hr.mono (by decide)) rfl (da_cons (dv 1) (da_cons de_int (da_cons de_int da_nil)))) : DE (cxOf (CX1 P w) P w K mg base ["self", "base"] "Plain.__init__" (defScope s_Plain_init) f cdv A outer s H E) _ _)
  refine ⟨te, _, pss_one (ps_fld (pv 0) p rfl), l, fun i hR => ?_⟩
  refine ⟨_, rfl, i, 2, 60, rfl, by decide, by decide, ?_⟩
  by_cases h : Kd.ok .plain i
  · exact .inl ⟨h.1, h.2, rfl, h⟩
  · exact .inr ⟨h, hR h⟩
abbrev s_Below_init : Stmt := inClass (top 22) 0
theorem sc_Below_init : FnScope ["self", "base"] ["self", "base"] (defScope s_Below_init) := by walk_at "sc"
theorem ok_Below_init (T : Txt K mg A) (G_bounded : DOkX P w K mg base 2 "bounded" (S_bndX A)) (F : Fun K "__init__" "Below.__init__" s_Below_init f fd) : FnOk P w K mg base (CX1 P w) 3 f fd ["self", "base"] (spInitX A.Below "base" (Kd.ok .below) A.NoWay) := by
  refine init_okX F sc_Below_init T.cl_Below T.na_Below (fun cdv A outer s H E hr => ?_)
  obtain ⟨te, p, l⟩ := ((de_callX G_bounded (hr.mono (by decide)) rfl (da_cons (dv 1) (da_cons de_int (da_cons de_int da_nil)))) : DE (cxOf (CX1 P w) P w K mg base ["self", "base"] "Below.__init__" (defScope s_Below_init) f cdv A outer s H E) _ _)
  refine ⟨te, _, pss_one (ps_fld (pv 0) p rfl), l, fun i hR => ?_⟩
  refine ⟨_, rfl, i, 2, 60, rfl, by decide, by decide, ?_⟩
  by_cases h : Kd.ok .below i
  · exact .inl ⟨h.1, h.2, rfl, h⟩
  · exact .inr ⟨h, hR h⟩
abbrev s_Balanced_init : Stmt := inClass (top 23) 0
theorem sc_Balanced_init : FnScope ["self", "half"] ["self", "half"] (defScope s_Balanced_init) := by walk_at "sc"
theorem ok_Balanced_init (T : Txt K mg A) (G_bounded : DOkX P w K mg base 2 "bounded" (S_bndX A)) (F : Fun K "__init__" "Balanced.__init__" s_Balanced_init f fd) : FnOk P w K mg base (CX1 P w) 3 f fd ["self", "half"] (spInitX A.Balanced "half" (Kd.ok .balanced) A.NoWay) := by
  refine init_okX F sc_Balanced_init T.cl_Balanced T.na_Balanced (fun cdv A outer s H E hr => ?_)
  obtain ⟨te, p, l⟩ := ((de_callX G_bounded (hr.mono (by decide)) rfl (da_cons (dv 1) (da_cons de_int (da_cons de_int da_nil)))) : DE (cxOf (CX1 P w) P w K mg base ["self", "half"] "Balanced.__init__" (defScope s_Balanced_init) f cdv A outer s H E) _ _)
  refine ⟨te, _, pss_one (ps_fld (pv 0) p rfl), l, fun i hR => ?_⟩
  refine ⟨_, rfl, i, 1, 30, rfl, by decide, by decide, ?_⟩
  by_cases h : Kd.ok .balanced i
  · exact .inl ⟨h.1, h.2, rfl, h⟩
  · exact .inr ⟨h, hR h⟩
abbrev s_Growing_init : Stmt := inClass (top 24) 0
theorem sc_Growing_init : FnScope ["self", "first"] ["self", "first"] (defScope s_Growing_init) := by walk_at "sc"
theorem ok_Growing_init (T : Txt K mg A) (G_bounded : DOkX P w K mg base 2 "bounded" (S_bndX A)) (F : Fun K "__init__" "Growing.__init__" s_Growing_init f fd) : FnOk P w K mg base (CX1 P w) 3 f fd ["self", "first"] (spInitX A.Growing "first" (Kd.ok .growing) A.NoWay) := by
  refine init_okX F sc_Growing_init T.cl_Growing T.na_Growing (fun cdv A outer s H E hr => ?_)
  obtain ⟨te, p, l⟩ := ((de_callX G_bounded (hr.mono (by decide)) rfl (da_cons (dv 1) (da_cons de_int (da_cons de_int da_nil)))) : DE (cxOf (CX1 P w) P w K mg base ["self", "first"] "Growing.__init__" (defScope s_Growing_init) f cdv A outer s H E) _ _)
  refine ⟨te, _, pss_one (ps_fld (pv 0) p rfl), l, fun i hR => ?_⟩
  refine ⟨_, rfl, i, 2, 60, rfl, by decide, by decide, ?_⟩
  by_cases h : Kd.ok .growing i
  · exact .inl ⟨h.1, h.2, rfl, h⟩
  · exact .inr ⟨h, hR h⟩
abbrev s_Falling_init : Stmt := inClass (top 25) 0
theorem sc_Falling_init : FnScope ["self", "most"] ["self", "most"] (defScope s_Falling_init) := by walk_at "sc"
theorem ok_Falling_init (T : Txt K mg A) (G_bounded : DOkX P w K mg base 2 "bounded" (S_bndX A)) (F : Fun K "__init__" "Falling.__init__" s_Falling_init f fd) : FnOk P w K mg base (CX1 P w) 3 f fd ["self", "most"] (spInitX A.Falling "most" (Kd.ok .falling) A.NoWay) := by
  refine init_okX F sc_Falling_init T.cl_Falling T.na_Falling (fun cdv A outer s H E hr => ?_)
  obtain ⟨te, p, l⟩ := ((de_callX G_bounded (hr.mono (by decide)) rfl (da_cons (dv 1) (da_cons de_int (da_cons de_int da_nil)))) : DE (cxOf (CX1 P w) P w K mg base ["self", "most"] "Falling.__init__" (defScope s_Falling_init) f cdv A outer s H E) _ _)
  refine ⟨te, _, pss_one (ps_fld (pv 0) p rfl), l, fun i hR => ?_⟩
  refine ⟨_, rfl, i, 1, 9, rfl, by decide, by decide, ?_⟩
  by_cases h : Kd.ok .falling i
  · exact .inl ⟨h.1, h.2, rfl, h⟩
  · exact .inr ⟨h, hR h⟩
abbrev s_Pairs_init : Stmt := inClass (top 26) 0
theorem sc_Pairs_init : FnScope ["self", "most"] ["self", "most"] (defScope s_Pairs_init) := by walk_at "sc"
theorem ok_Pairs_init (T : Txt K mg A) (G_bounded : DOkX P w K mg base 2 "bounded" (S_bndX A)) (F : Fun K "__init__" "Pairs.__init__" s_Pairs_init f fd) : FnOk P w K mg base (CX1 P w) 3 f fd ["self", "most"] (spInitX A.Pairs "most" (Kd.ok .pairs) A.NoWay) := by
  refine init_okX F sc_Pairs_init T.cl_Pairs T.na_Pairs (fun cdv A outer s H E hr => ?_)
  obtain ⟨te, p, l⟩ := ((de_callX G_bounded (hr.mono (by decide)) rfl (da_cons (dv 1) (da_cons de_int (da_cons de_int da_nil)))) : DE (cxOf (CX1 P w) P w K mg base ["self", "most"] "Pairs.__init__" (defScope s_Pairs_init) f cdv A outer s H E) _ _)
  refine ⟨te, _, pss_one (ps_fld (pv 0) p rfl), l, fun i hR => ?_⟩
  refine ⟨_, rfl, i, 1, 9, rfl, by decide, by decide, ?_⟩
  by_cases h : Kd.ok .pairs i
  · exact .inl ⟨h.1, h.2, rfl, h⟩
  · exact .inr ⟨h, hR h⟩
abbrev s_law_made : Stmt := top 38
theorem sc_law_made : FnScope ["_law_name", "_law_number"] ["_law_name", "_law_number"] (defScope s_law_made) := by walk_at "sc"
theorem ok_law_made (T : Txt K mg A) (M_Plain : KOkX P w K mg base 3 "Plain" A.Plain "base" (Kd.ok .plain) A.NoWay) (M_Below : KOkX P w K mg base 3 "Below" A.Below "base" (Kd.ok .below) A.NoWay) (M_Balanced : KOkX P w K mg base 3 "Balanced" A.Balanced "half" (Kd.ok .balanced) A.NoWay) (M_Growing : KOkX P w K mg base 3 "Growing" A.Growing "first" (Kd.ok .growing) A.NoWay) (M_Falling : KOkX P w K mg base 3 "Falling" A.Falling "most" (Kd.ok .falling) A.NoWay) (M_Pairs : KOkX P w K mg base 3 "Pairs" A.Pairs "most" (Kd.ok .pairs) A.NoWay) (F : Fun K "_law_made" "_law_made" s_law_made f fd) : FnOk P w K mg base CX0 5 f fd ["_law_name", "_law_number"] (PureSp K (S_lmade A)) := by
  refine okD F sc_law_made (by walk_at "ln") fun _ _ _ _ _ _ hr ds Q h => ?_
  obtain ⟨k, n, rfl, hn, q⟩ := h
  refine ⟨_, (dss_cons (ds_if (dt_cmp (o_eqS) (dv 0) de_str (nomark _)) (dss_one (ds_ret (de_makeX M_Plain (hr.mono (by decide)) rfl (da_cons (dv 1) da_nil)))) dss_nil)
  (dss_cons (ds_if (dt_cmp (o_eqS) (dv 0) de_str (nomark _)) (dss_one (ds_ret (de_makeX M_Below (hr.mono (by decide)) rfl (da_cons (dv 1) da_nil)))) dss_nil)
  (dss_cons (ds_if (dt_cmp (o_eqS) (dv 0) de_str (nomark _)) (dss_one (ds_ret (de_makeX M_Balanced (hr.mono (by decide)) rfl (da_cons (dv 1) da_nil)))) dss_nil)
  (dss_cons (ds_if (dt_cmp (o_eqS) (dv 0) de_str (nomark _)) (dss_one (ds_ret (de_makeX M_Growing (hr.mono (by decide)) rfl (da_cons (dv 1) da_nil)))) dss_nil)
  (dss_cons (ds_if (dt_cmp (o_eqS) (dv 0) de_str (nomark _)) (dss_one (ds_ret (de_makeX M_Falling (hr.mono (by decide)) rfl (da_cons (dv 1) da_nil)))) dss_nil)
  (dss_one (ds_ret (de_makeX M_Pairs (hr.mono (by decide)) rfl (da_cons (dv 1) da_nil))))))))), ?_⟩
  cases k
  all_goals
    walk_at "rd"
    exact .inl ⟨hn, q⟩
abbrev s_whole_shown : Stmt := top 29
theorem sc_whole_shown : FnScope ["number", "limit", "parts", "rest"] ["number"] (defScope s_whole_shown) := by walk_at "sc"
theorem ok_whole_shown_0 (T : Txt K mg A) (F : Fun K "whole_shown" "whole_shown" s_whole_shown f fd) : FnOk P w K mg base CX0 1 f fd ["number"] (PureSp K (S_shown0)) := by
  refine okD F sc_whole_shown (by walk_at "ln") fun _ _ _ _ _ _ hr ds Q h => ?_
  obtain ⟨n, rfl, hn, q⟩ := h
  refine ⟨_, (dss_cons (ds_if (dt_cmp (o_lt) (dv 0) de_int (nomark _)) (dss_one ds_never) dss_nil)
  (dss_cons (ds_set (i := 1) sc_whole_shown.nd rfl (Or.inl rfl) (de_op o_pow de_int de_int))
  (dss_cons (ds_setO (i := 2) sc_whole_shown.nd rfl (Or.inl rfl) (df_lst da_nil))
  (dss_cons (ds_set (i := 3) sc_whole_shown.nd rfl (Or.inl rfl) (dv 0))
  (dss_cons (ds_while PassesOwn.never (dt_cmp (o_ge) (dv 3) (dv 1) (nomark _)) (dss_cons (ds_app 2 (de_zfill (de_strI rfl T.n_str (de_op o_mod (dv 3) (dv 1))) de_int))
  (dss_one (ds_set (i := 3) sc_whole_shown.nd rfl (Or.inl rfl) (de_op o_fdivG (dv 3) (dv 1))))))
  (dss_cons (ds_app 2 (de_strI rfl T.n_str (dv 3)))
  (dss_cons (ds_rev 2)
  (dss_frz 2 (dss_one (ds_ret (de_join de_str (dv 2)))))))))))), ?_⟩
  refine ⟨_, rfl, _, _, rfl, rfl, _, rfl, ifF (decide_eq_false (by omega)) ?_⟩
  walk_at "rd"
  refine ⟨fun r ρ => ∃ ps : List Str, ρ = [.some (.int n), .some (.int (10 ^ Int.toNat 60)), .own (ps.map Dt.str), .some (.int r)] ∧ dg n = dg r ++ (ps.reverse.map tl).flatten ∧ (∀ y ∈ ps, y.length ≤ 61) ∧ r * 2 ^ ps.length ≤ n ∧ (ps.length = 0 ∨ 1 ≤ r), ⟨n, [], rfl, by simp, (fun y hy => nomatch hy), by simp, .inl rfl⟩, ?_⟩
  rintro r ρ' ⟨ps, rfl, hd, hp, hk, h1⟩
  have hps := pow_two_lt hk h1 hn
  have lp : (ps.map Dt.str).length = ps.length := List.length_map _
  refine ⟨_, rfl, _, rfl, _, _, rfl, rfl, _, rfl, ?_⟩
  rw [big60]
  refine ifB (fun h => ?_) (fun h => ?_)
  · have hr : 10 ^ 60 ≤ r := Int.ofNat_le.mp (of_decide_eq_true h)
    have hlt : r % 10 ^ 60 < 10 ^ 60 := Nat.mod_lt _ (by decide)
    refine ⟨_, rfl, _, rfl, _, rfl, _, _, rfl, rfl, (by show ((10 ^ 60 : Nat) : Int) ≠ 0; decide), ?_⟩
    dsimp only
    rw [fm_nat]
    refine ⟨_, rfl, Nat.lt_trans (log_lt (k := 200) (by decide) (Nat.lt_trans (by rw [Int.natAbs_natCast]; exact hlt) (by decide))) (by decide), _, rfl, Nat.le_trans (shw_len (k := 60) _ (by decide) (by rw [Int.natAbs_natCast]; exact hlt)) (by decide), _, rfl, rfl, by rw [lp]; omega, ?_⟩
    refine ⟨_, rfl, _, rfl, _, _, rfl, rfl, cdivG (by decide) (by decide), ?_⟩
    dsimp only
    rw [fd_nat]
    have hq : 0 < r / 10 ^ 60 := Nat.div_pos hr (by decide)
    have hm := Nat.div_mul_le_self r (10 ^ 60)
    have h2 : r / 10 ^ 60 * 2 ≤ r := Nat.le_trans (Nat.mul_le_mul_left _ (by decide)) hm
    refine ⟨r / 10 ^ 60, Nat.div_lt_self (by omega) (by decide), ps ++ [Txt.zfill (shw ((r % 10 ^ 60 : Nat) : Int)) ((60 : Nat) : Int)], by rw [List.map_append]; rfl, shw_next hd hr, fun y hy => ?_, ?_, .inr hq⟩
    · rcases List.mem_append.mp hy with hy | hy
      · exact hp y hy
      · rw [List.mem_singleton.mp hy]; exact zf_len hlt
    · have e3 : 2 ^ (ps.length + 1) = 2 * 2 ^ ps.length := Nat.pow_succ'
      rw [List.length_append, List.length_singleton, e3, ← Nat.mul_assoc]
      exact Nat.le_trans (Nat.mul_le_mul_right _ h2) hk
  · have hr : ¬ ((10 ^ 60 : Nat) : Int) ≤ (r : Int) := of_decide_eq_false h
    have hr : r < 10 ^ 60 := by omega
    have hl := shw_len (k := 60) (r : Int) (by decide) (by rw [Int.natAbs_natCast]; exact hr)
    refine ⟨_, rfl, _, rfl, _, rfl, Nat.lt_trans (log_lt (k := 200) (by decide) (Nat.lt_trans (by rw [Int.natAbs_natCast]; exact hr) (by decide))) (by decide), by rw [lp]; omega, ?_⟩
    refine ⟨_, rfl, _, rfl, _, rfl, _, rfl, (ps ++ [shw r]).reverse, ?_, join_ok (fun y hy => ?_) (by rw [List.length_reverse, List.length_append]; show _ + 1 ≤ _; omega), ?_⟩
    · rw [List.map_reverse, List.map_append]; rfl
    · rcases List.mem_append.mp (List.mem_reverse.mp hy) with hy | hy
      · exact hp y hy
      · rw [List.mem_singleton.mp hy]; exact hl
    · rw [shw_parts hd]; exact q
theorem ok_whole_shown (T : Txt K mg A) (G_whole_shown : DOk P w K mg base 1 "whole_shown" (S_shown0)) (F : Fun K "whole_shown" "whole_shown" s_whole_shown f fd) : FnOk P w K mg base CX0 2 f fd ["number"] (PureSp K (S_shownW)) := by
  refine okD F sc_whole_shown (by walk_at "ln") fun _ _ _ _ _ _ hr ds Q h => ?_
  obtain ⟨i, rfl, hi, q⟩ := h
  refine ⟨_, (dss_cons (ds_if (dt_cmp (o_lt) (dv 0) de_int (nomark _)) (dss_one (ds_ret (de_op o_catS de_str (de_call G_whole_shown (hr.mono (by decide)) rfl (da_cons (de_neg (dv 0)) da_nil))))) dss_nil)
  (dss_cons (ds_set (i := 1) sc_whole_shown.nd rfl (Or.inl rfl) (de_op o_pow de_int de_int))
  (dss_cons (ds_setO (i := 2) sc_whole_shown.nd rfl (Or.inl rfl) (df_lst da_nil))
  (dss_cons (ds_set (i := 3) sc_whole_shown.nd rfl (Or.inl rfl) (dv 0))
  (dss_cons (ds_while PassesOwn.never (dt_cmp (o_ge) (dv 3) (dv 1) (nomark _)) (dss_cons (ds_app 2 (de_zfill (de_strI rfl T.n_str (de_op o_mod (dv 3) (dv 1))) de_int))
  (dss_one (ds_set (i := 3) sc_whole_shown.nd rfl (Or.inl rfl) (de_op o_fdivG (dv 3) (dv 1))))))
  (dss_cons (ds_app 2 (de_strI rfl T.n_str (dv 3)))
  (dss_cons (ds_rev 2)
  (dss_frz 2 (dss_one (ds_ret (de_join de_str (dv 2)))))))))))), ?_⟩
  refine ⟨_, rfl, _, _, rfl, rfl, _, rfl, ifB (fun h => ?_) (fun h => ?_)⟩
  · have h0 : i < 0 := of_decide_eq_true h
    obtain ⟨n, rfl, hn⟩ : ∃ n : Nat, i = -(n : Int) ∧ 0 < n := ⟨i.natAbs, by omega, by omega⟩
    rw [shw_neg hn] at q
    have hn2 : n < 2 ^ 1800 := by rw [Int.natAbs_neg, Int.natAbs_natCast] at hi; exact hi
    refine ⟨_, rfl, _, rfl, n, by rw [Int.neg_neg], hn2, _, _, rfl, rfl, ?_, q⟩
    have e : (("-" : Str)).length = 1 := by decide +kernel
    have := shw_len (k := 1800) (n : Int) (by decide) (by rw [Int.natAbs_natCast]; exact Nat.lt_of_lt_of_le hn2 (Nat.pow_le_pow_left (by decide) _))
    rw [e]; omega
  · have h0 : ¬ i < 0 := of_decide_eq_false h
    obtain ⟨n, rfl⟩ := Int.eq_ofNat_of_zero_le (show 0 ≤ i by omega)
    have hn : n < 2 ^ 1800 := by rw [Int.natAbs_natCast] at hi; exact hi
    walk_at "rd"
    refine ⟨fun r ρ => ∃ ps : List Str, ρ = [.some (.int n), .some (.int (10 ^ Int.toNat 60)), .own (ps.map Dt.str), .some (.int r)] ∧ dg n = dg r ++ (ps.reverse.map tl).flatten ∧ (∀ y ∈ ps, y.length ≤ 61) ∧ r * 2 ^ ps.length ≤ n ∧ (ps.length = 0 ∨ 1 ≤ r), ⟨n, [], rfl, by simp, (fun y hy => nomatch hy), by simp, .inl rfl⟩, ?_⟩
    rintro r ρ' ⟨ps, rfl, hd, hp, hk, h1⟩
    have hps := pow_two_lt hk h1 hn
    have lp : (ps.map Dt.str).length = ps.length := List.length_map _
    refine ⟨_, rfl, _, rfl, _, _, rfl, rfl, _, rfl, ?_⟩
    rw [big60]
    refine ifB (fun h => ?_) (fun h => ?_)
    · have hr : 10 ^ 60 ≤ r := Int.ofNat_le.mp (of_decide_eq_true h)
      have hlt : r % 10 ^ 60 < 10 ^ 60 := Nat.mod_lt _ (by decide)
      refine ⟨_, rfl, _, rfl, _, rfl, _, _, rfl, rfl, (by show ((10 ^ 60 : Nat) : Int) ≠ 0; decide), ?_⟩
      dsimp only
      rw [fm_nat]
      refine ⟨_, rfl, Nat.lt_trans (log_lt (k := 200) (by decide) (Nat.lt_trans (by rw [Int.natAbs_natCast]; exact hlt) (by decide))) (by decide), _, rfl, Nat.le_trans (shw_len (k := 60) _ (by decide) (by rw [Int.natAbs_natCast]; exact hlt)) (by decide), _, rfl, rfl, by rw [lp]; omega, ?_⟩
      refine ⟨_, rfl, _, rfl, _, _, rfl, rfl, cdivG (by decide) (by decide), ?_⟩
      dsimp only
      rw [fd_nat]
      have hq : 0 < r / 10 ^ 60 := Nat.div_pos hr (by decide)
      have hm := Nat.div_mul_le_self r (10 ^ 60)
      have h2 : r / 10 ^ 60 * 2 ≤ r := Nat.le_trans (Nat.mul_le_mul_left _ (by decide)) hm
      refine ⟨r / 10 ^ 60, Nat.div_lt_self (by omega) (by decide), ps ++ [Txt.zfill (shw ((r % 10 ^ 60 : Nat) : Int)) ((60 : Nat) : Int)], by rw [List.map_append]; rfl, shw_next hd hr, fun y hy => ?_, ?_, .inr hq⟩
      · rcases List.mem_append.mp hy with hy | hy
        · exact hp y hy
        · rw [List.mem_singleton.mp hy]; exact zf_len hlt
      · have e3 : 2 ^ (ps.length + 1) = 2 * 2 ^ ps.length := Nat.pow_succ'
        rw [List.length_append, List.length_singleton, e3, ← Nat.mul_assoc]
        exact Nat.le_trans (Nat.mul_le_mul_right _ h2) hk
    · have hr : ¬ ((10 ^ 60 : Nat) : Int) ≤ (r : Int) := of_decide_eq_false h
      have hr : r < 10 ^ 60 := by omega
      have hl := shw_len (k := 60) (r : Int) (by decide) (by rw [Int.natAbs_natCast]; exact hr)
      refine ⟨_, rfl, _, rfl, _, rfl, Nat.lt_trans (log_lt (k := 200) (by decide) (Nat.lt_trans (by rw [Int.natAbs_natCast]; exact hr) (by decide))) (by decide), by rw [lp]; omega, ?_⟩
      refine ⟨_, rfl, _, rfl, _, rfl, _, rfl, (ps ++ [shw r]).reverse, ?_, join_ok (fun y hy => ?_) (by rw [List.length_reverse, List.length_append]; show _ + 1 ≤ _; omega), ?_⟩
      · rw [List.map_reverse, List.map_append]; rfl
      · rcases List.mem_append.mp (List.mem_reverse.mp hy) with hy | hy
        · exact hp y hy
        · rw [List.mem_singleton.mp hy]; exact hl
      · rw [shw_parts hd]; exact q
abbrev s_way_shown : Stmt := top 30
theorem sc_way_shown : FnScope ["way"] ["way"] (defScope s_way_shown) := by walk_at "sc"
theorem ok_way_shown (T : Txt K mg A) (G_whole_shown : DOk P w K mg base 2 "whole_shown" (S_shownW)) (F : Fun K "way_shown" "way_shown" s_way_shown f fd) : FnOk P w K mg base CX0 3 f fd ["way"] (PureSp K (S_wshown A)) := by
  refine okD F sc_way_shown (by walk_at "ln") fun _ _ _ _ _ _ hr ds Q h => ?_
  obtain ⟨k, n, rfl, hn, q⟩ := h
  refine ⟨_, (dss_cons (ds_if (dt_val (de_isiO T.isinstance T.gc_Plain (dv 0))) (dss_one (ds_ret (de_op o_catS de_str (de_call G_whole_shown (hr.mono (by decide)) rfl (da_cons (de_fld (dv 0)) da_nil))))) dss_nil)
  (dss_cons (ds_if (dt_val (de_isiO T.isinstance T.gc_Below (dv 0))) (dss_one (ds_ret (de_op o_catS de_str (de_call G_whole_shown (hr.mono (by decide)) rfl (da_cons (de_fld (dv 0)) da_nil))))) dss_nil)
  (dss_cons (ds_if (dt_val (de_isiO T.isinstance T.gc_Balanced (dv 0))) (dss_one (ds_ret (de_op o_catS de_str (de_call G_whole_shown (hr.mono (by decide)) rfl (da_cons (de_fld (dv 0)) da_nil))))) dss_nil)
  (dss_cons (ds_if (dt_val (de_isiO T.isinstance T.gc_Growing (dv 0))) (dss_one (ds_ret (de_op o_catS de_str (de_call G_whole_shown (hr.mono (by decide)) rfl (da_cons (de_fld (dv 0)) da_nil))))) dss_nil)
  (dss_cons (ds_if (dt_val (de_isiO T.isinstance T.gc_Falling (dv 0))) (dss_one (ds_ret (de_op o_catS de_str (de_call G_whole_shown (hr.mono (by decide)) rfl (da_cons (de_fld (dv 0)) da_nil))))) dss_nil)
  (dss_one (ds_ret (de_op o_catS de_str (de_call G_whole_shown (hr.mono (by decide)) rfl (da_cons (de_fld (dv 0)) da_nil)))))))))), ?_⟩
  obtain ⟨m, rfl, m1, m2⟩ := ok_nat hn
  have hb : ((m : Int)).natAbs < 2 ^ 1800 := Nat.lt_of_lt_of_le (show ((m : Int)).natAbs < 2 ^ 6 by rw [Int.natAbs_natCast]; omega) (Nat.pow_le_pow_right (by decide) (by decide))
  have hs : (shw (m : Int)).length ≤ 3 := shw_len (k := 2) (m : Int) (by decide) (by rw [Int.natAbs_natCast]; omega)
  generalize (m : Int) = n at *
  cases k
  · refine ⟨_, rfl, _, _, _, _, rfl, T.isi_Plain, T.ki_Plain_Plain, _, rfl, ifT rfl ⟨_, rfl, _, _, _, rfl, rfl, T.cl_Plain, T.na_Plain, n, rfl, hb, _, _, rfl, rfl, Nat.le_trans (Nat.add_le_add (nam_len .plain) hs) (by decide), q⟩⟩
  · refine ⟨_, rfl, _, _, _, _, rfl, T.isi_Below, T.ki_Below_Plain, _, rfl, ifF rfl ⟨_, rfl, _, _, _, _, rfl, T.isi_Below, T.ki_Below_Below, _, rfl, ifT rfl ⟨_, rfl, _, _, _, rfl, rfl, T.cl_Below, T.na_Below, n, rfl, hb, _, _, rfl, rfl, Nat.le_trans (Nat.add_le_add (nam_len .below) hs) (by decide), q⟩⟩⟩
  · refine ⟨_, rfl, _, _, _, _, rfl, T.isi_Balanced, T.ki_Balanced_Plain, _, rfl, ifF rfl ⟨_, rfl, _, _, _, _, rfl, T.isi_Balanced, T.ki_Balanced_Below, _, rfl, ifF rfl ⟨_, rfl, _, _, _, _, rfl, T.isi_Balanced, T.ki_Balanced_Balanced, _, rfl, ifT rfl ⟨_, rfl, _, _, _, rfl, rfl, T.cl_Balanced, T.na_Balanced, n, rfl, hb, _, _, rfl, rfl, Nat.le_trans (Nat.add_le_add (nam_len .balanced) hs) (by decide), q⟩⟩⟩⟩
  · refine ⟨_, rfl, _, _, _, _, rfl, T.isi_Growing, T.ki_Growing_Plain, _, rfl, ifF rfl ⟨_, rfl, _, _, _, _, rfl, T.isi_Growing, T.ki_Growing_Below, _, rfl, ifF rfl ⟨_, rfl, _, _, _, _, rfl, T.isi_Growing, T.ki_Growing_Balanced, _, rfl, ifF rfl ⟨_, rfl, _, _, _, _, rfl, T.isi_Growing, T.ki_Growing_Growing, _, rfl, ifT rfl ⟨_, rfl, _, _, _, rfl, rfl, T.cl_Growing, T.na_Growing, n, rfl, hb, _, _, rfl, rfl, Nat.le_trans (Nat.add_le_add (nam_len .growing) hs) (by decide), q⟩⟩⟩⟩⟩
  · refine ⟨_, rfl, _, _, _, _, rfl, T.isi_Falling, T.ki_Falling_Plain, _, rfl, ifF rfl ⟨_, rfl, _, _, _, _, rfl, T.isi_Falling, T.ki_Falling_Below, _, rfl, ifF rfl ⟨_, rfl, _, _, _, _, rfl, T.isi_Falling, T.ki_Falling_Balanced, _, rfl, ifF rfl ⟨_, rfl, _, _, _, _, rfl, T.isi_Falling, T.ki_Falling_Growing, _, rfl, ifF rfl ⟨_, rfl, _, _, _, _, rfl, T.isi_Falling, T.ki_Falling_Falling, _, rfl, ifT rfl ⟨_, rfl, _, _, _, rfl, rfl, T.cl_Falling, T.na_Falling, n, rfl, hb, _, _, rfl, rfl, Nat.le_trans (Nat.add_le_add (nam_len .falling) hs) (by decide), q⟩⟩⟩⟩⟩⟩
  · refine ⟨_, rfl, _, _, _, _, rfl, T.isi_Pairs, T.ki_Pairs_Plain, _, rfl, ifF rfl ⟨_, rfl, _, _, _, _, rfl, T.isi_Pairs, T.ki_Pairs_Below, _, rfl, ifF rfl ⟨_, rfl, _, _, _, _, rfl, T.isi_Pairs, T.ki_Pairs_Balanced, _, rfl, ifF rfl ⟨_, rfl, _, _, _, _, rfl, T.isi_Pairs, T.ki_Pairs_Growing, _, rfl, ifF rfl ⟨_, rfl, _, _, _, _, rfl, T.isi_Pairs, T.ki_Pairs_Falling, _, rfl, ifF rfl ⟨_, rfl, _, _, _, rfl, rfl, T.cl_Pairs, T.na_Pairs, n, rfl, hb, _, _, rfl, rfl, Nat.le_trans (Nat.add_le_add (nam_len .pairs) hs) (by decide), q⟩⟩⟩⟩⟩⟩
abbrev s_has_figures_alone : Stmt := top 31
theorem sc_has_figures_alone : FnScope ["text", "sign"] ["text"] (defScope s_has_figures_alone) := by walk_at "sc"
theorem ok_has_figures_alone (T : Txt K mg A) (F : Fun K "has_figures_alone" "has_figures_alone" s_has_figures_alone f fd) : FnOk P w K mg base CX0 1 f fd ["text"] (PureSp K (S_alone)) := by
  refine okD F sc_has_figures_alone (by walk_at "ln") fun _ _ _ _ _ _ hr ds Q h => ?_
  obtain ⟨x, rfl, hx, q⟩ := h
  refine ⟨_, (dss_cons (ds_forT (j := 1) rfl sc_has_figures_alone.nd rfl (Or.inl rfl) PassesOwn.never (dv 0) (dss_one (ds_if (dt_cmp o_notinT (dv 1) (de_gstrE rfl T.gs_FIGURES) (by with_unfolding_all rfl)) (dss_one (ds_ret de_bl)) dss_nil)))
  (dss_one (ds_ret de_bl))), ?_⟩
  refine ⟨_, rfl, x, fun i ρ => ∃ v, ρ = [.some (.str x), v] ∧ ∀ c ∈ (tl x).take i, figB c = true, rfl, asc_all hx, ⟨_, rfl, fun c hc => by cases hc⟩, ?_, ?_⟩
  · rintro i c ρ' hc ⟨v, rfl, hb⟩
    have hc' : (tl x)[i]? = some c := by unfold tl; rw [Array.getElem?_toList]; exact hc
    refine ⟨_, rfl, _, _, rfl, rfl, _, rfl, ?_⟩
    rw [occ_fig]
    refine ifB (fun h => ?_) (fun h => ⟨_, rfl, fun c' hc2 => ?_⟩)
    · have : allFg x = false := by
        rw [← Bool.not_eq_true]
        intro z
        have := List.all_eq_true.mp z c (List.mem_of_getElem? hc')
        unfold figB at this
        rw [this] at h; cases h
      rw [this] at q
      exact q
    · rw [List.take_succ, hc'] at hc2
      rcases List.mem_append.mp hc2 with h2 | h2
      · exact hb c' h2
      · rw [List.mem_singleton.mp h2]
        exact of_nF h
  · rintro ρ' ⟨v, rfl, hb⟩
    have : allFg x = true := List.all_eq_true.mpr fun c hc => hb c (by
      rw [List.take_of_length_le (by unfold tl; simp)]; exact hc)
    rw [this] at q
    exact q
abbrev s_whole_read : Stmt := top 32
theorem sc_whole_read : FnScope ["text", "figures"] ["text"] (defScope s_whole_read) := by walk_at "sc"
theorem ok_whole_read (T : Txt K mg A) (G_has_figures_alone : DOk P w K mg base 1 "has_figures_alone" (S_alone)) (F : Fun K "whole_read" "whole_read" s_whole_read f fd) : FnOk P w K mg base (CX1 P w) 2 f fd ["text"] (PureSpX K (S_wread A)) := by
  refine okDX F sc_whole_read (by walk_at "ln") fun _ _ _ _ _ _ hr ds Q R h rz => ?_
  obtain ⟨x, rfl, hx, hl, q, hR⟩ := h
  refine ⟨_, (dss_cons (ds_set (i := 1) sc_whole_read.nd rfl (Or.inl rfl) (de_ifExp (dt_val (de_starts (dv 0) de_str)) (de_sliceT (dv 0) (do_some de_int) do_none) (dv 0)))
  (dss_join (ds_if (DW.dt (dw_or (dt_cmp (o_eqS) (dv 1) de_str (nomark _)) (dw_or (dt_cmp (o_gt) (de_lenS rfl T.len (dv 1)) de_int (nomark _)) (dw_or1 (dt_not (dt_val (de_call G_has_figures_alone (hr.mono (by decide)) rfl (da_cons (dv 1) da_nil)))))))) (dss_one (ds_raise rfl rfl T.gc_NoText T.ex_NoText de_str)) dss_nil)
  (dss_join (ds_if (DW.dt (dw_and (dt_cmp (o_eqS) (de_itS (dv 1) de_int) de_str (nomark _)) (dw_and1 (dt_cmp (o_neS) (dv 0) de_str (nomark _))))) (dss_one (ds_raise rfl rfl T.gc_NoText T.ex_NoText de_str)) dss_nil)
  (dss_one (ds_ret (de_intS rfl T.n_int (dv 0))))))), ?_⟩
  have hxl := tl_len x
  have hx60 : (fg x).length ≤ 60 → x.length ≤ 61 := fun h => by
    rw [← hxl]
    rcases fg_of (x := x) rfl with ⟨e, _⟩ | e
    · rw [e]; omega
    · rw [e, List.length_cons]; omega
  refine ⟨_, rfl, _, rfl, by omega, _, rfl, _, rfl, ?_⟩
  rw [starts_dash]
  refine ifB (fun h => ?_) (fun h => ?_)
  · have h := of_decide_eq_true h
    have h1 : 1 ≤ (tl x).length := by
      cases e : tl x with
      | nil => rw [e] at h; cases h
      | cons c r => rw [List.length_cons]; omega
    refine ⟨_, rfl, _, rfl, _, rfl, by omega, ?_⟩
    obtain ⟨f, hf⟩ : ∃ f, Txt.slice x (some 1) none = f := ⟨_, rfl⟩
    have t1 : tl f = fg x := by rw [← hf, slice_from (by decide) (by omega)]; unfold fg; rw [if_pos h]; rfl
    have a1 : asc f := hf ▸ asc_slice hx
    have l1 : f.length ≤ 5000 := by have := slice_len x (some 1) none; rw [hf] at this; omega
    rw [hf]
    have hfl := tl_len f
    refine ⟨fun ρ => ρ = [.some (.str x), .some (.str f)] ∧ fg x ≠ [] ∧ (fg x).length ≤ 60 ∧ ∀ c ∈ fg x, isDg c, ?_, ?_⟩
    · refine ⟨_, rfl, _, _, rfl, rfl, _, rfl, ?_⟩
      rw [str_nil, t1]
      refine ifB (fun h => ifT rfl (rz _ (hR (wv_none fun z => ((numl_iff rfl).mp z.1).1 (of_decide_eq_true h))))) (fun h => ?_)
      refine ⟨_, rfl, _, rfl, by omega, _, _, rfl, rfl, _, rfl, ifB (fun h2 => ifT rfl (rz _ (hR (wv_none fun z => ?_)))) (fun h2 => ?_)⟩
      · have h2 : (60 : Int) < (f.length : Int) := of_decide_eq_true h2
        have := z.2
        rw [← t1] at this
        omega
      have h2 : ¬ (60 : Int) < (f.length : Int) := of_decide_eq_false h2
      refine ⟨_, rfl, f, rfl, a1, _, rfl, ifB (fun h3 => (rz _ (hR (wv_none fun z => ?_)))) (fun h3 => ⟨rfl, of_decide_eq_false h, by rw [← t1]; omega, by rw [← t1]; exact allFg_iff.mp (of_nF h3)⟩)⟩
      have z2 := ((numl_iff rfl).mp z.1).2.1
      rw [← t1] at z2
      rw [allFg_iff.mpr z2] at h3
      cases h3
    rintro ρ ⟨rfl, f1, f2, f3⟩
    obtain ⟨c, r, ec⟩ : ∃ c r, fg x = c :: r := by
      cases e : fg x with
      | nil => exact absurd e f1
      | cons c r => exact ⟨c, r, rfl⟩
    refine ⟨fun ρ => ρ = [.some (.str x), .some (.str f)] ∧ (c = 48 → tl x = [48]), ?_, ?_⟩
    · refine ⟨_, rfl, _, _, c, rfl, rfl, by decide, by decide, by rw [← tl_len, t1, ec, List.length_cons]; omega, cps_head (t1.trans ec), _, _, rfl, rfl, _, rfl, ?_⟩
      rw [one_nought]
      refine ifB (fun h => ?_) (fun h => ifF rfl ⟨rfl, fun z => absurd z (of_decide_eq_false h)⟩)
      refine ⟨_, rfl, _, _, rfl, rfl, _, rfl, ?_⟩
      rw [is_nought]
      refine ifB (fun h2 => rz _ (hR (wv_none fun z => ?_))) (fun h2 => ⟨rfl, fun _ => of_decide_eq_true (of_nF h2)⟩)
      have z3 := ((numl_iff rfl).mp z.1).2.2 (by rw [ec, of_decide_eq_true h]; rfl)
      rw [decide_eq_true z3] at h2
      cases h2
    rintro ρ ⟨rfl, hc⟩
    have hn : Numl (tl x) := (numl_iff rfl).mpr ⟨f1, f3, fun z => hc (by rw [ec] at z; exact Option.some.inj z)⟩
    exact ⟨_, rfl, x, rfl, hn, by show (tl x).length ≤ 640; rw [hxl]; have := hx60 f2; omega, q _ (wv_some hn f2)⟩
  · refine ⟨_, rfl, ?_⟩
    have t1 : tl x = fg x := by unfold fg; rw [if_neg (of_decide_eq_false h)]
    have a1 := hx
    have l1 := hl
    have hfl := tl_len x
    refine ⟨fun ρ => ρ = [.some (.str x), .some (.str x)] ∧ fg x ≠ [] ∧ (fg x).length ≤ 60 ∧ ∀ c ∈ fg x, isDg c, ?_, ?_⟩
    · refine ⟨_, rfl, _, _, rfl, rfl, _, rfl, ?_⟩
      rw [str_nil, t1]
      refine ifB (fun h => ifT rfl (rz _ (hR (wv_none fun z => ((numl_iff rfl).mp z.1).1 (of_decide_eq_true h))))) (fun h => ?_)
      refine ⟨_, rfl, _, rfl, by omega, _, _, rfl, rfl, _, rfl, ifB (fun h2 => ifT rfl (rz _ (hR (wv_none fun z => ?_)))) (fun h2 => ?_)⟩
      · have h2 : (60 : Int) < (x.length : Int) := of_decide_eq_true h2
        have := z.2
        rw [← t1] at this
        omega
      have h2 : ¬ (60 : Int) < (x.length : Int) := of_decide_eq_false h2
      refine ⟨_, rfl, x, rfl, a1, _, rfl, ifB (fun h3 => (rz _ (hR (wv_none fun z => ?_)))) (fun h3 => ⟨rfl, of_decide_eq_false h, by rw [← t1]; omega, by rw [← t1]; exact allFg_iff.mp (of_nF h3)⟩)⟩
      have z2 := ((numl_iff rfl).mp z.1).2.1
      rw [← t1] at z2
      rw [allFg_iff.mpr z2] at h3
      cases h3
    rintro ρ ⟨rfl, f1, f2, f3⟩
    obtain ⟨c, r, ec⟩ : ∃ c r, fg x = c :: r := by
      cases e : fg x with
      | nil => exact absurd e f1
      | cons c r => exact ⟨c, r, rfl⟩
    refine ⟨fun ρ => ρ = [.some (.str x), .some (.str x)] ∧ (c = 48 → tl x = [48]), ?_, ?_⟩
    · refine ⟨_, rfl, _, _, c, rfl, rfl, by decide, by decide, by rw [← tl_len, t1, ec, List.length_cons]; omega, cps_head (t1.trans ec), _, _, rfl, rfl, _, rfl, ?_⟩
      rw [one_nought]
      refine ifB (fun h => ?_) (fun h => ifF rfl ⟨rfl, fun z => absurd z (of_decide_eq_false h)⟩)
      refine ⟨_, rfl, _, _, rfl, rfl, _, rfl, ?_⟩
      rw [is_nought]
      refine ifB (fun h2 => rz _ (hR (wv_none fun z => ?_))) (fun h2 => ⟨rfl, fun _ => of_decide_eq_true (of_nF h2)⟩)
      have z3 := ((numl_iff rfl).mp z.1).2.2 (by rw [ec, of_decide_eq_true h]; rfl)
      rw [decide_eq_true z3] at h2
      cases h2
    rintro ρ ⟨rfl, hc⟩
    have hn : Numl (tl x) := (numl_iff rfl).mpr ⟨f1, f3, fun z => hc (by rw [ec] at z; exact Option.some.inj z)⟩
    exact ⟨_, rfl, x, rfl, hn, by show (tl x).length ≤ 640; rw [hxl]; have := hx60 f2; omega, q _ (wv_some hn f2)⟩
abbrev s_way_made : Stmt := top 33
theorem sc_way_made : FnScope ["name", "number"] ["name", "number"] (defScope s_way_made) := by walk_at "sc"
theorem ok_way_made (T : Txt K mg A) (M_Plain : KOkX P w K mg base 3 "Plain" A.Plain "base" (Kd.ok .plain) A.NoWay) (M_Below : KOkX P w K mg base 3 "Below" A.Below "base" (Kd.ok .below) A.NoWay) (M_Balanced : KOkX P w K mg base 3 "Balanced" A.Balanced "half" (Kd.ok .balanced) A.NoWay) (M_Growing : KOkX P w K mg base 3 "Growing" A.Growing "first" (Kd.ok .growing) A.NoWay) (M_Falling : KOkX P w K mg base 3 "Falling" A.Falling "most" (Kd.ok .falling) A.NoWay) (M_Pairs : KOkX P w K mg base 3 "Pairs" A.Pairs "most" (Kd.ok .pairs) A.NoWay) (F : Fun K "way_made" "way_made" s_way_made f fd) : FnOk P w K mg base (CX1 P w) 5 f fd ["name", "number"] (PureSpX K (S_wmadeX A)) := by
  refine okDX F sc_way_made (by walk_at "ln") fun _ _ _ _ _ _ hr ds Q R h rz => ?_
  obtain ⟨x, i, rfl, q1, q2, q3⟩ := h
  refine ⟨_, (dss_cons (ds_if (dt_cmp (o_eqS) (dv 0) de_str (nomark _)) (dss_one (ds_ret (de_makeX M_Plain (hr.mono (by decide)) rfl (da_cons (dv 1) da_nil)))) dss_nil)
  (dss_cons (ds_if (dt_cmp (o_eqS) (dv 0) de_str (nomark _)) (dss_one (ds_ret (de_makeX M_Below (hr.mono (by decide)) rfl (da_cons (dv 1) da_nil)))) dss_nil)
  (dss_cons (ds_if (dt_cmp (o_eqS) (dv 0) de_str (nomark _)) (dss_one (ds_ret (de_makeX M_Balanced (hr.mono (by decide)) rfl (da_cons (dv 1) da_nil)))) dss_nil)
  (dss_cons (ds_if (dt_cmp (o_eqS) (dv 0) de_str (nomark _)) (dss_one (ds_ret (de_makeX M_Growing (hr.mono (by decide)) rfl (da_cons (dv 1) da_nil)))) dss_nil)
  (dss_cons (ds_if (dt_cmp (o_eqS) (dv 0) de_str (nomark _)) (dss_one (ds_ret (de_makeX M_Falling (hr.mono (by decide)) rfl (da_cons (dv 1) da_nil)))) dss_nil)
  (dss_cons (ds_if (dt_cmp (o_eqS) (dv 0) de_str (nomark _)) (dss_one (ds_ret (de_makeX M_Pairs (hr.mono (by decide)) rfl (da_cons (dv 1) da_nil)))) dss_nil)
  (dss_one (ds_raise rfl rfl T.gc_NoText T.ex_NoText de_str)))))))), ?_⟩
  refine ⟨_, rfl, _, _, rfl, rfl, _, rfl, ifB (fun h => ?_) (fun h0 => ?_)⟩
  · have e : x = Kd.nam .plain := eq_of_beq h
    by_cases hk : Kd.ok .plain i
    · exact ⟨_, rfl, i, rfl, .inl ⟨hk, q1 .plain e hk⟩⟩
    · exact ⟨_, rfl, i, rfl, .inr ⟨hk, rz _ (q2 .plain e hk)⟩⟩
  refine ⟨_, rfl, _, _, rfl, rfl, _, rfl, ifB (fun h => ?_) (fun h1 => ?_)⟩
  · have e : x = Kd.nam .below := eq_of_beq h
    by_cases hk : Kd.ok .below i
    · exact ⟨_, rfl, i, rfl, .inl ⟨hk, q1 .below e hk⟩⟩
    · exact ⟨_, rfl, i, rfl, .inr ⟨hk, rz _ (q2 .below e hk)⟩⟩
  refine ⟨_, rfl, _, _, rfl, rfl, _, rfl, ifB (fun h => ?_) (fun h2 => ?_)⟩
  · have e : x = Kd.nam .balanced := eq_of_beq h
    by_cases hk : Kd.ok .balanced i
    · exact ⟨_, rfl, i, rfl, .inl ⟨hk, q1 .balanced e hk⟩⟩
    · exact ⟨_, rfl, i, rfl, .inr ⟨hk, rz _ (q2 .balanced e hk)⟩⟩
  refine ⟨_, rfl, _, _, rfl, rfl, _, rfl, ifB (fun h => ?_) (fun h3 => ?_)⟩
  · have e : x = Kd.nam .growing := eq_of_beq h
    by_cases hk : Kd.ok .growing i
    · exact ⟨_, rfl, i, rfl, .inl ⟨hk, q1 .growing e hk⟩⟩
    · exact ⟨_, rfl, i, rfl, .inr ⟨hk, rz _ (q2 .growing e hk)⟩⟩
  refine ⟨_, rfl, _, _, rfl, rfl, _, rfl, ifB (fun h => ?_) (fun h4 => ?_)⟩
  · have e : x = Kd.nam .falling := eq_of_beq h
    by_cases hk : Kd.ok .falling i
    · exact ⟨_, rfl, i, rfl, .inl ⟨hk, q1 .falling e hk⟩⟩
    · exact ⟨_, rfl, i, rfl, .inr ⟨hk, rz _ (q2 .falling e hk)⟩⟩
  refine ⟨_, rfl, _, _, rfl, rfl, _, rfl, ifB (fun h => ?_) (fun h5 => ?_)⟩
  · have e : x = Kd.nam .pairs := eq_of_beq h
    by_cases hk : Kd.ok .pairs i
    · exact ⟨_, rfl, i, rfl, .inl ⟨hk, q1 .pairs e hk⟩⟩
    · exact ⟨_, rfl, i, rfl, .inr ⟨hk, rz _ (q2 .pairs e hk)⟩⟩
  refine rz _ (q3 fun k e => ?_)
  cases k
  · exact Bool.noConfusion (Eq.trans (Eq.symm h0) (beq_iff_eq.mpr e : (x == Kd.nam .plain) = true))
  · exact Bool.noConfusion (Eq.trans (Eq.symm h1) (beq_iff_eq.mpr e : (x == Kd.nam .below) = true))
  · exact Bool.noConfusion (Eq.trans (Eq.symm h2) (beq_iff_eq.mpr e : (x == Kd.nam .balanced) = true))
  · exact Bool.noConfusion (Eq.trans (Eq.symm h3) (beq_iff_eq.mpr e : (x == Kd.nam .growing) = true))
  · exact Bool.noConfusion (Eq.trans (Eq.symm h4) (beq_iff_eq.mpr e : (x == Kd.nam .falling) = true))
  · exact Bool.noConfusion (Eq.trans (Eq.symm h5) (beq_iff_eq.mpr e : (x == Kd.nam .pairs) = true))
abbrev s_way_read : Stmt := top 34
theorem sc_way_read : FnScope ["text", "name", "number"] ["text"] (defScope s_way_read) := by walk_at "sc"
theorem ok_way_read (T : Txt K mg A) (G_whole_read : DOkX P w K mg base 2 "whole_read" (S_wread A)) (G_way_made : DOkX P w K mg base 5 "way_made" (S_wmadeX A)) (F : Fun K "way_read" "way_read" s_way_read f fd) : FnOk P w K mg base (CX1 P w) 6 f fd ["text"] (PureSpX K (S_wreadX A)) := by
  refine okDXH F sc_way_read (by walk_at "ln") fun _ _ _ _ _ _ hr ds Q R h rzh => ?_
  have rz := fun C h => (rzh C h).1
  obtain ⟨x, rfl, hx, hl, q1, q2⟩ := h
  refine ⟨_, (dss_cons (ds_set (i := 1) sc_way_read.nd rfl (Or.inl rfl) (de_rstripC (dv 0) (de_gstrE rfl T.gs_FIGURES)))
  (dss_cons (ds_set (i := 2) sc_way_read.nd rfl (Or.inl rfl) (de_callX G_whole_read (hr.mono (by decide)) rfl (da_cons (de_sliceT (dv 0) (do_some (de_lenS rfl T.len (dv 1))) do_none) da_nil)))
  (dss_one (ds_tryFN rfl rfl rfl G_way_made (hr.mono (by decide)) rfl (da_cons (dv 1) (da_cons (dv 2) da_nil)) rfl T.gc_NoWay rfl T.gc_NoText T.ex_NoText)))), ?_⟩
  have lx := tl_len x
  refine ⟨_, rfl, _, rfl, by omega, _, rfl, ?_⟩
  dsimp only
  have gs : ∀ k m, x = Kd.nam k ++ shw ((m : Nat) : Int) → Txt.rstripChars x (Str.ofString "0123456789") = Kd.nam k ∧ tail (tl x) = dg m := fun k m e => by
    subst e
    exact ⟨str_ext good_strip, good_tail⟩
  have tn := tl_strip x
  generalize Txt.rstripChars x (Str.ofString "0123456789") = nm at *
  have t0 := tail_len (tl x)
  have ln : nm.length = (tl x).length - (tail (tl x)).length := by rw [← tl_len, tn, List.length_take]; omega
  have te := tail_eq (tl x)
  have td : tl (Txt.slice x (some (nm.length : Int)) none) = tail (tl x) := by
    rw [slice_from (by omega) (by omega), Int.toNat_natCast, ln]
    have := congrArg (List.drop ((tl x).length - (tail (tl x)).length)) te
    rw [List.drop_left' (by rw [List.length_take]; omega)] at this
    exact this.symm
  have ls := slice_len x (some (nm.length : Int)) none
  have as := asc_slice (l := some (nm.length : Int)) (u := none) hx
  refine ⟨_, rfl, _, rfl, _, rfl, by omega, _, rfl, _, rfl, by omega, ?_⟩
  generalize Txt.slice x (some (nm.length : Int)) none = d at *
  have hd : ∀ c ∈ tl d, isDg c := by rw [td]; exact tail_fig _
  have ex : x = nm ++ d := str_ext (by rw [tl_app, tn, td, te])
  refine ⟨_, rfl, as, by omega, fun i hi => ?_, fun hnone => ?_⟩
  · refine ⟨_, rfl, _, rfl, nm, i, rfl, fun k e hk => ?_, fun k e hk => ?_, fun hk => ?_⟩
    · obtain ⟨m, rfl, m1, m2⟩ := ok_nat hk
      refine q1 k _ hk ?_
      have := dg_of hd hi (by omega) (by omega)
      rw [Int.toNat_natCast, ← tl_shw] at this
      rw [ex, e, str_ext this]
    · refine .inl ⟨T.em_NoWay_NoWay, rzh _ (q2 fun k' n' hn' e' => ?_)⟩
      obtain ⟨m, rfl, m1, m2⟩ := ok_nat hn'
      obtain ⟨g1, g2⟩ := gs k' m e'
      obtain rfl : k = k' := nam_inj (by rw [← e, g1])
      rw [wv_dg (td.trans g2) m1 m2] at hi
      cases hi
      exact hk hn'
    · refine .inr ⟨T.em_NoText_NoWay, rzh _ (q2 fun k' n' hn' e' => ?_)⟩
      obtain ⟨m, rfl, m1, m2⟩ := ok_nat hn'
      exact hk k' (gs k' m e').1
  · refine rz _ (q2 fun k' n' hn' e' => ?_)
    obtain ⟨m, rfl, m1, m2⟩ := ok_nat hn'
    rw [wv_dg (td.trans (gs k' m e').2) m1 m2] at hnone
    cases hnone
abbrev s_law_kinds : Stmt := top 39
theorem sc_law_kinds : FnScope ["_law_way", "_law_kinds_here"] ["_law_way"] (defScope s_law_kinds) := by walk_at "sc"
theorem ok_law_kinds (T : Txt K mg A) (F : Fun K "_law_kinds" "_law_kinds" s_law_kinds f fd) : FnOk P w K mg base CX0 1 f fd ["_law_way"] (PureSp K (S_lkinds A)) := by
  refine okD F sc_law_kinds (by walk_at "ln") fun _ _ _ _ _ _ hr ds Q h => ?_
  obtain ⟨k, n, rfl, q⟩ := h
  refine ⟨_, (dss_cons (ds_set (i := 1) sc_law_kinds.nd rfl (Or.inl rfl) (de_lst (da_cons (de_isiO T.isinstance T.gc_Plain (dv 0)) (da_cons (de_isiO T.isinstance T.gc_Below (dv 0)) (da_cons (de_isiO T.isinstance T.gc_Balanced (dv 0)) da_nil)))))
  (dss_one (ds_ret (de_op o_cat (dv 1) (de_lst (da_cons (de_isiO T.isinstance T.gc_Growing (dv 0)) (da_cons (de_isiO T.isinstance T.gc_Falling (dv 0)) (da_cons (de_isiO T.isinstance T.gc_Pairs (dv 0)) da_nil)))))))), ?_⟩
  refine ⟨_, rfl, _, _, _, _, rfl, isiAt T k, kiAll T k .plain, _, rfl, _, _, _, _, rfl, isiAt T k, kiAll T k .below, _, rfl, _, _, _, _, rfl, isiAt T k, kiAll T k .balanced, rfl, ?_⟩
  exact ⟨_, rfl, _, rfl, _, _, _, _, rfl, isiAt T k, kiAll T k .growing, _, rfl, _, _, _, _, rfl, isiAt T k, kiAll T k .falling, _, rfl, _, _, _, _, rfl, isiAt T k, kiAll T k .pairs, rfl, _, _, rfl, rfl, (by show (3 : Nat) + 3 ≤ 100000; decide), q⟩
abbrev s_law_value : Stmt := top 40
theorem sc_law_value : FnScope ["_law_way", "_law_name"] ["_law_way", "_law_name"] (defScope s_law_value) := by walk_at "sc"
theorem ok_law_value (T : Txt K mg A) (F : Fun K "_law_value" "_law_value" s_law_value f fd) : FnOk P w K mg base CX0 1 f fd ["_law_way", "_law_name"] (PureSp K (S_lvalue A)) := by
  refine okD F sc_law_value (by walk_at "ln") fun _ _ _ _ _ _ hr ds Q h => ?_
  obtain ⟨k, n, rfl, q⟩ := h
  refine ⟨_, (dss_cons (ds_if (dt_cmp o_inS (dv 1) (de_tup (da_cons de_str (da_cons de_str da_nil))) (by with_unfolding_all rfl)) (dss_one (ds_ret (de_fld (dv 0)))) dss_nil)
  (dss_cons (ds_if (dt_cmp (o_eqS) (dv 1) de_str (nomark _)) (dss_one (ds_ret (de_fld (dv 0)))) dss_nil)
  (dss_cons (ds_if (dt_cmp (o_eqS) (dv 1) de_str (nomark _)) (dss_one (ds_ret (de_fld (dv 0)))) dss_nil)
  (dss_one (ds_ret (de_fld (dv 0))))))), ?_⟩
  cases k
  · refine ⟨_, rfl, rfl, _, _, _, rfl, rfl, rfl, _, rfl, ifT (by decide +kernel) ?_⟩
    exact ⟨_, rfl, _, _, _, rfl, rfl, T.cl_Plain, T.na_Plain, q⟩
  · refine ⟨_, rfl, rfl, _, _, _, rfl, rfl, rfl, _, rfl, ifT (by decide +kernel) ?_⟩
    exact ⟨_, rfl, _, _, _, rfl, rfl, T.cl_Below, T.na_Below, q⟩
  · refine ⟨_, rfl, rfl, _, _, _, rfl, rfl, rfl, _, rfl, ifF (by decide +kernel) ?_⟩
    refine ⟨_, rfl, _, _, rfl, rfl, _, rfl, ifT (by decide +kernel) ?_⟩
    exact ⟨_, rfl, _, _, _, rfl, rfl, T.cl_Balanced, T.na_Balanced, q⟩
  · refine ⟨_, rfl, rfl, _, _, _, rfl, rfl, rfl, _, rfl, ifF (by decide +kernel) ?_⟩
    refine ⟨_, rfl, _, _, rfl, rfl, _, rfl, ifF (by decide +kernel) ?_⟩
    refine ⟨_, rfl, _, _, rfl, rfl, _, rfl, ifT (by decide +kernel) ?_⟩
    exact ⟨_, rfl, _, _, _, rfl, rfl, T.cl_Growing, T.na_Growing, q⟩
  · refine ⟨_, rfl, rfl, _, _, _, rfl, rfl, rfl, _, rfl, ifF (by decide +kernel) ?_⟩
    refine ⟨_, rfl, _, _, rfl, rfl, _, rfl, ifF (by decide +kernel) ?_⟩
    refine ⟨_, rfl, _, _, rfl, rfl, _, rfl, ifF (by decide +kernel) ?_⟩
    exact ⟨_, rfl, _, _, _, rfl, rfl, T.cl_Falling, T.na_Falling, q⟩
  · refine ⟨_, rfl, rfl, _, _, _, rfl, rfl, rfl, _, rfl, ifF (by decide +kernel) ?_⟩
    refine ⟨_, rfl, _, _, rfl, rfl, _, rfl, ifF (by decide +kernel) ?_⟩
    refine ⟨_, rfl, _, _, rfl, rfl, _, rfl, ifF (by decide +kernel) ?_⟩
    exact ⟨_, rfl, _, _, _, rfl, rfl, T.cl_Pairs, T.na_Pairs, q⟩
abbrev s_law_refusal : Stmt := top 41
theorem sc_law_refusal : FnScope ["_law_text", "_law_kinds_here", "e"] ["_law_text"] (defScope s_law_refusal) := by walk_at "sc"
theorem ok_law_refusal (T : Txt K mg A) (G_way_read : DOkX P w K mg base 6 "way_read" (S_wreadX A)) (F : Fun K "_law_refusal" "_law_refusal" s_law_refusal f fd) : FnOk P w K mg base CX0 7 f fd ["_law_text"] (PureSp K (S_lref)) := by
  refine okD F sc_law_refusal (by walk_at "ln") fun _ _ _ _ _ _ hr ds Q h => ?_
  obtain ⟨x, rfl, hx, hl, hn, q⟩ := h
  refine ⟨_, (dss_cons (ds_set (i := 1) sc_law_refusal.nd rfl (Or.inl rfl) (de_lst da_nil))
  (dss_cons (ds_tryAs (j := 2) rfl rfl sc_law_refusal.nd rfl rfl G_way_read (hr.mono (by decide)) rfl (da_cons (dv 0) da_nil) (fun _ => (dss_cons (ds_set (i := 1) sc_law_refusal.nd rfl (Or.inl rfl) (de_lst (da_cons (de_isiXBH (K := K) rfl T.isinstance T.n_ValueError (dv 2)) (da_cons (de_isiXH (K := K) rfl T.isinstance T.gc_NoText (dv 2)) (da_cons (de_isiXH (K := K) rfl T.isinstance T.gc_NoWay (dv 2)) (da_cons (de_isiXH (K := K) rfl T.isinstance T.gc_NoNumber (dv 2)) da_nil))))))
  (dss_cons (ds_set (i := 1) sc_law_refusal.nd rfl (Or.inl rfl) (de_op o_cat (dv 1) (de_lst (da_cons (de_isiXH (K := K) rfl T.isinstance T.gc_NoWriting (dv 2)) (da_cons (de_isiXH (K := K) rfl T.isinstance T.gc_TooLess (dv 2)) (da_cons (de_isiXH (K := K) rfl T.isinstance T.gc_NoRatio (dv 2)) da_nil))))))
  (dss_cons (ds_set (i := 1) sc_law_refusal.nd rfl (Or.inl rfl) (de_op o_cat (dv 1) (de_lst (da_cons (de_isiXH (K := K) rfl T.isinstance T.gc_NoFalling (dv 2)) (da_cons (de_isiXH (K := K) rfl T.isinstance T.gc_NoPairs (dv 2)) (da_cons (de_isiXH (K := K) rfl T.isinstance T.gc_Nought (dv 2)) da_nil))))))
  (dss_one (ds_set (i := 1) sc_law_refusal.nd rfl (Or.inl rfl) (de_op o_cat (dv 1) (de_lst (da_cons (de_isiXH (K := K) rfl T.isinstance T.gc_NoSpan (dv 2)) (da_cons (de_isiXH (K := K) rfl T.isinstance T.gc_NoTotal (dv 2)) (da_cons (de_isiXH (K := K) rfl T.isinstance T.gc_NoRow (dv 2)) da_nil))))))))))) rfl T.gc_OddError)
  (dss_one (ds_ret (de_cmp (o_eq hr) (dv 1) (de_op o_cat (de_lst (da_cons de_bl (da_cons de_bl da_nil))) (DF.de (df_rep (de_lst (da_cons de_bl da_nil)) de_int))) (nomark _)))))), ?_⟩
  refine ⟨rfl, _, rfl, x, rfl, hx, hl, fun k n hk e => absurd e (hn k n hk), fun _ => ⟨T.em_NoText_OddError, ?_⟩⟩
  refine ⟨_, rfl, _, _, rfl, T.ix_NoText, T.kx_NoText_ValueError, _, rfl, _, _, rfl, T.ix_NoText, T.kx_NoText_NoText, _, rfl, _, _, rfl, T.ix_NoText, T.kx_NoText_NoWay, _, rfl, _, _, rfl, T.ix_NoText, T.kx_NoText_NoNumber, rfl, ?_⟩
  refine ⟨_, rfl, _, rfl, _, _, rfl, T.ix_NoText, T.kx_NoText_NoWriting, _, rfl, _, _, rfl, T.ix_NoText, T.kx_NoText_TooLess, _, rfl, _, _, rfl, T.ix_NoText, T.kx_NoText_NoRatio, rfl, _, _, rfl, rfl, by decide, ?_⟩
  refine ⟨_, rfl, _, rfl, _, _, rfl, T.ix_NoText, T.kx_NoText_NoFalling, _, rfl, _, _, rfl, T.ix_NoText, T.kx_NoText_NoPairs, _, rfl, _, _, rfl, T.ix_NoText, T.kx_NoText_Nought, rfl, _, _, rfl, rfl, by decide, ?_⟩
  refine ⟨_, rfl, _, rfl, _, _, rfl, T.ix_NoText, T.kx_NoText_NoSpan, _, rfl, _, _, rfl, T.ix_NoText, T.kx_NoText_NoTotal, _, rfl, _, _, rfl, T.ix_NoText, T.kx_NoText_NoRow, rfl, _, _, rfl, rfl, by decide, ?_⟩
  walk_at "rd"
  refine ⟨by decide, by decide, by decide, _, _, rfl, rfl, by decide, rfl, rfl, ?_⟩
  show Q (.bl (eqD thirteen thirteen))
  rw [eqD_self 40 rfl]
  exact q
abbrev s_law_bad : Stmt := top 42
theorem sc_law_bad : FnScope ["_law_name", "_law_least", "_law_greatest", "_law_number", "_law_cell", "_law_way", "_law_text", "_law_at"] ["_law_name", "_law_least", "_law_greatest", "_law_number", "_law_cell"] (defScope s_law_bad) := by walk_at "sc"
theorem ok_law_bad (T : Txt K mg A) (F : Fun K "_law_bad" "_law_bad" s_law_bad f fd) : FnOk P w K mg base CX0 1 f fd ["_law_name", "_law_least", "_law_greatest", "_law_number", "_law_cell"] (PureSp K (S_lbad)) := by
  refine okD F sc_law_bad (by walk_at "ln") fun _ _ _ _ _ _ hr ds Q h => ?_
  obtain ⟨k, n, c, rfl, hn, hc, q⟩ := h
  refine ⟨_, (dss_cons (ds_set (i := 5) sc_law_bad.nd rfl (Or.inl rfl) (de_op o_mod (dv 4) de_int))
  (dss_cons (ds_set (i := 4) sc_law_bad.nd rfl (Or.inl rfl) (de_op o_fdiv (dv 4) de_int))
  (dss_cons (ds_set (i := 6) sc_law_bad.nd rfl (Or.inl rfl) (de_op o_catS (dv 0) (de_strI rfl T.n_str (dv 3))))
  (dss_cons (ds_set (i := 7) sc_law_bad.nd rfl (Or.inl rfl) (de_op o_mod (de_op o_fdiv (dv 4) de_int) (de_op o_add (de_lenS rfl T.len (dv 6)) de_int)))
  (dss_cons (ds_if (dt_cmp (o_lt) (dv 5) de_int (nomark _)) (dss_one (ds_ret (de_op o_catS (dv 0) (de_strI rfl T.n_str (de_ix (de_lst (da_cons (de_op o_sub (dv 1) de_int) (da_cons (de_op o_add (dv 2) de_int) (da_cons (de_op o_add (de_op o_add (dv 2) de_int) (de_op o_mod (dv 4) (de_op o_pow de_int de_int))) (da_cons (de_op o_sub (de_neg de_int) (de_op o_mod (dv 4) de_int)) da_nil))))) (dv 5) (fun _ _ => rfl)))))) dss_nil)
  (dss_cons (ds_if (dt_cmp (o_eq hr) (dv 5) de_int (nomark _)) (dss_one (ds_ret (de_op o_catS (de_op o_catS (dv 0) de_str) (de_strI rfl T.n_str (dv 3))))) dss_nil)
  (dss_cons (ds_if (dt_cmp (o_eq hr) (dv 5) de_int (nomark _)) (dss_one (ds_ret (de_op o_catS (de_op o_catS (de_sliceT (dv 6) do_none (do_some (dv 7))) (de_itS de_str (de_op o_mod (dv 4) de_int))) (de_sliceT (dv 6) (do_some (dv 7)) do_none)))) dss_nil)
  (dss_cons (ds_if (dt_cmp (o_eq hr) (dv 5) de_int (nomark _)) (dss_one (ds_ret (de_ix (de_lst (da_cons (dv 0) (da_cons (de_strI rfl T.n_str (dv 3)) (da_cons de_str (da_cons (de_op o_catS (de_upper (dv 0)) (de_strI rfl T.n_str (dv 3))) (da_cons (de_op o_catS (dv 0) de_str) (da_cons (de_op o_catS (dv 6) de_str) (da_cons (de_op o_catS (dv 6) de_str) da_nil)))))))) (de_op o_mod (dv 4) de_int) (fun _ _ => rfl)))) dss_nil)
  (dss_cons (ds_if (dt_cmp (o_eq hr) (dv 5) de_int (nomark _)) (dss_one (ds_ret (de_op o_catS (de_sliceT (dv 0) do_none (do_some (de_neg de_int))) (de_strI rfl T.n_str (dv 3))))) dss_nil)
  (dss_one (ds_ret (de_op o_catS (de_ix (de_lst (da_cons de_str (da_cons de_str (da_cons de_str (da_cons de_str (da_cons de_str (da_cons de_str da_nil))))))) (de_op o_mod (dv 4) de_int) (fun _ _ => rfl)) (de_strI rfl T.n_str (dv 3)))))))))))))), ?_⟩
  have q : ∀ x, asc x → x.length ≤ 4000 → Bad x → Q (.str x) := q
  have w0 := Int.fmod_nonneg_of_pos c (show (0 : Int) < 9 by decide)
  have w1 := Int.fmod_lt_of_pos c (show (0 : Int) < 9 by decide)
  have z0 : 0 ≤ c.fdiv 9 := Int.fdiv_nonneg hc (by decide)
  obtain ⟨m, rfl, m1, m2⟩ := ok_nat hn
  have hs : (shw (m : Int)).length ≤ 3 := shw_len (k := 2) (m : Int) (by decide) (by rw [Int.natAbs_natCast]; omega)
  have lk := nam_len k
  have lo : ((m : Int)).natAbs.log2 < 1920 := Nat.lt_of_lt_of_le (log_lt (k := 6) (by decide) (by rw [Int.natAbs_natCast]; omega)) (by decide)
  have le : ∀ u v : Str, (u ++ v).length = u.length + v.length := fun u v => by rw [← tl_len, tl_app, List.length_append, tl_len, tl_len]
  have ak : asc k.nam := fun c hc => by have := nam_chars k c hc; omega
  have aw := shw_asc (m : Int)
  refine ⟨_, rfl, _, _, rfl, rfl, cmodN (by decide), ?_⟩
  refine ⟨_, rfl, _, _, rfl, rfl, cdivN (by decide), ?_⟩
  dsimp only
  generalize c.fmod 9 = w at *
  generalize c.fdiv 9 = z at *
  refine ⟨_, rfl, _, rfl, _, rfl, lo, _, _, rfl, rfl, Nat.le_trans (Nat.add_le_add lk hs) (by decide), ?_⟩
  change dSeq _ _ _ (List.set _ 6 (.some (.str (k.nam ++ shw (m : Int)))))
  have lt : (k.nam ++ shw (m : Int)).length ≤ 11 := by rw [le]; omega
  have at_ : asc (k.nam ++ shw (m : Int)) := asc_app ak aw
  refine ⟨_, rfl, _, _, rfl, rfl, cdivN (by decide), _, rfl, _, rfl, by omega, _, _, rfl, rfl, _, _, rfl, rfl, (by show ((k.nam ++ shw (m : Int)).length : Int) + 1 ≠ 0; omega), ?_⟩
  dsimp only
  generalize (z.fdiv 16).fmod (((k.nam ++ shw (m : Int)).length : Int) + 1) = a
  have l0 : (Str.ofString "0").length = 1 := by decide +kernel
  refine ⟨_, rfl, _, _, rfl, rfl, _, rfl, ifB (fun h => ?_) (fun _ => ?_)⟩
  · have h := of_decide_eq_true h
    obtain ⟨i, ei, hb, hbad⟩ := bad_four k (z := z) w0 h
    have li := shw_len (k := 59) i (by decide) (Nat.lt_of_lt_of_le hb (by decide))
    walk_at "rd"
    exact ⟨_, _, _, rfl, rfl, ei, i, rfl, Nat.lt_of_lt_of_le (log_lt (k := 200) (by decide) (Nat.lt_of_lt_of_le hb (by decide))) (by decide), _, _, rfl, rfl, Nat.le_trans (Nat.add_le_add lk li) (by decide), q _ (asc_app ak (shw_asc i)) (by rw [le]; exact Nat.le_trans (Nat.add_le_add lk li) (by decide)) hbad⟩
  refine ⟨_, rfl, rfl, rfl, _, rfl, ifB (fun _ => ?_) (fun _ => ?_)⟩
  · walk_at "rd"
    have a0 : asc (Str.ofString "0") := by unfold asc; decide +kernel
    exact ⟨by omega, _, rfl, _, rfl, lo, _, _, rfl, rfl, by rw [le, l0]; exact Nat.le_trans (Nat.add_le_add (Nat.add_le_add_right lk 1) hs) (by decide), q _ (asc_app (asc_app ak a0) aw) (by rw [le, le]; show _ + _ + (shw (m : Int)).length ≤ _; omega) bad_nought⟩
  refine ⟨_, rfl, rfl, rfl, _, rfl, ifB (fun _ => ?_) (fun _ => ?_)⟩
  · obtain ⟨ch, ec, c1, c2⟩ := sg_at z
    have s0 := Int.fmod_nonneg_of_pos z (show (0 : Int) < 8 by decide)
    have s1 := Int.fmod_lt_of_pos z (show (0 : Int) < 8 by decide)
    have l1 : (⟨#[ch]⟩ : Str).length = 1 := rfl
    have hs1 : asc ⟨#[ch]⟩ := fun d hd => by rw [List.mem_singleton.mp (show d ∈ [ch] from hd)]; exact c1
    have la := slice_len (k.nam ++ shw (m : Int)) none (some a)
    have lb := slice_len (k.nam ++ shw (m : Int)) (some a) none
    have aa := asc_slice (l := none) (u := some a) at_
    have ab := asc_slice (l := some a) (u := none) at_
    walk_at "rd"
    refine ⟨by omega, _, rfl, _, _, rfl, rfl, cmodN (by decide), _, _, ch, rfl, rfl, s0, by omega, by rw [sg_len]; exact s1, ec, _, _, rfl, rfl, by rw [l1]; omega, _, rfl, _, rfl, _, rfl, _, rfl, by omega, _, _, rfl, rfl, by rw [le, l1]; omega, ?_⟩
    exact q _ (asc_app (asc_app aa hs1) ab) (by rw [le, le, l1]; omega) (bad_char (c := ch) (app_mem (mem_app (List.mem_singleton.mpr rfl))) c2)
  refine ⟨_, rfl, rfl, rfl, _, rfl, ifB (fun _ => ?_) (fun _ => ?_)⟩
  · obtain ⟨x, hx, ex⟩ := sev_at (z := z) k.nam (shw (m : Int)) (Str.ofString "") (Txt.upper k.nam ++ shw (m : Int)) (k.nam ++ Str.ofString "x") (k.nam ++ shw (m : Int) ++ Str.ofString ",1") (k.nam ++ shw (m : Int) ++ Str.ofString " ")
    obtain ⟨x1, x2, x3⟩ := sev_ok (k := k) m2 x hx
    obtain ⟨ul, ua⟩ := up_len k
    have lits : (Str.ofString "x").length = 1 ∧ (Str.ofString ",1").length = 2 ∧ (Str.ofString " ").length = 1 := by decide +kernel
    obtain ⟨l2, l3, l4⟩ := lits
    walk_at "rd"
    refine ⟨lo, _, rfl, _, rfl, decide_eq_false (by rw [sizeLine_eq]; omega), _, rfl, _, rfl, lo, _, _, rfl, rfl, Nat.le_trans (Nat.add_le_add ul hs) (by decide), _, rfl, _, _, rfl, rfl, by omega, _, rfl, _, _, rfl, rfl, by omega, _, rfl, _, _, rfl, rfl, by omega, rfl, ?_⟩
    exact ⟨_, rfl, _, _, rfl, rfl, cmodN (by decide), _, _, _, rfl, rfl, ex, q x x1 x2 x3⟩
  refine ⟨_, rfl, rfl, rfl, _, rfl, ifB (fun _ => ?_) (fun _ => ?_)⟩
  · obtain ⟨d1, d2⟩ := cut_nam k
    have la := slice_len k.nam none (some (-1))
    have aa := asc_slice (l := none) (u := some (-1)) ak
    walk_at "rd"
    exact ⟨by omega, _, rfl, _, rfl, lo, _, _, rfl, rfl, Nat.le_trans (Nat.add_le_add (Nat.le_trans la lk) hs) (by decide), q _ (asc_app aa aw) (by rw [le]; exact Nat.le_trans (Nat.add_le_add (Nat.le_trans la lk) hs) (by decide)) (bad_name d1 d2)⟩
  obtain ⟨y, hy, ey⟩ := odd_at z
  obtain ⟨o1, o2, _⟩ := odds_ok y hy
  have ay : asc y := fun c hc => by have := of_decide_eq_true (List.all_eq_true.mp o1 c hc); omega
  walk_at "rd"
  exact ⟨_, _, _, rfl, rfl, ey, _, rfl, _, rfl, lo, _, _, rfl, rfl, Nat.le_trans (Nat.add_le_add o2 hs) (by decide), q _ (asc_app ay aw) (by rw [le]; exact Nat.le_trans (Nat.add_le_add o2 hs) (by decide)) (bad_odd hy)⟩
abbrev s_law : Stmt := top 43
theorem sc_law : FnScope ["_law_script", "_law_cell", "_law_name", "_law_least", "_law_greatest", "_law_number", "_law_way", "_law_text", "_law_found", "_law_k"] ["_law_script"] (defScope s_law) := by walk_at "sc"
theorem ok_law (T : Txt K mg A) (G__law_cell_at : DOk P w K mg base 1 "_law_cell_at" (S_cell)) (G__law_bounds : DOk P w K mg base 1 "_law_bounds" (S_lbds)) (G__law_made : DOk P w K mg base 5 "_law_made" (S_lmade A)) (G_way_shown : DOk P w K mg base 3 "way_shown" (S_wshown A)) (G_way_read : DOkX P w K mg base 6 "way_read" (S_wreadX A)) (G__law_kinds : DOk P w K mg base 1 "_law_kinds" (S_lkinds A)) (G__law_value : DOk P w K mg base 1 "_law_value" (S_lvalue A)) (G__law_refusal : DOk P w K mg base 7 "_law_refusal" (S_lref)) (G__law_bad : DOk P w K mg base 1 "_law_bad" (S_lbad)) (F : Fun K "law" "law" s_law f fd) : FnOk P w K mg base CX0 8 f fd ["_law_script"] (PureSp K (S_law)) := by
  refine okD F sc_law (by walk_at "ln") fun _ _ _ _ _ _ hr ds Q h => ?_
  obtain ⟨ns, rfl, hns, q⟩ := h
  refine ⟨_, (dss_cons (ds_set (i := 1) sc_law.nd rfl (Or.inl rfl) (de_call G__law_cell_at (hr.mono (by decide)) rfl (da_cons (dv 0) (da_cons de_int da_nil))))
  (dss_cons (ds_unp3T (i := 2) (j := 3) (m := 4) rfl sc_law.nd rfl rfl rfl (Or.inr rfl) (Or.inl rfl) (Or.inl rfl) (de_ix (de_call0 G__law_bounds (hr.mono (by decide)) rfl) (de_op o_mod (dv 1) de_int) (fun _ _ => rfl)))
  (dss_cons (ds_set (i := 5) sc_law.nd rfl (Or.inl rfl) (de_op o_add (dv 3) (de_op o_mod (de_op o_fdiv (dv 1) de_int) (de_op o_add (de_op o_sub (dv 4) (dv 3)) de_int))))
  (dss_cons (ds_set (i := 6) sc_law.nd rfl (Or.inl rfl) (de_call G__law_made (hr.mono (by decide)) rfl (da_cons (dv 2) (da_cons (dv 5) da_nil))))
  (dss_cons (ds_set (i := 7) sc_law.nd rfl (Or.inl rfl) (de_call G_way_shown (hr.mono (by decide)) rfl (da_cons (dv 6) da_nil)))
  (dss_join (ds_if (DW.dt (dw_or (dt_not (dt_val (de_isiS T.isinstance T.n_str (dv 7)))) (dw_or1 (dt_cmp (o_neS) (dv 7) (de_op o_catS (dv 2) (de_strI rfl T.n_str (dv 5))) (nomark _))))) (dss_one (ds_ret de_bl)) dss_nil)
  (dss_cons (ds_set (i := 8) sc_law.nd rfl (Or.inl rfl) (de_callX G_way_read (hr.mono (by decide)) rfl (da_cons (dv 7) da_nil)))
  (dss_join (ds_if (DW.dt (dw_or (dt_cmp (o_ne hr) (de_call G__law_kinds (hr.mono (by decide)) rfl (da_cons (dv 8) da_nil)) (DF.de (cgF_L (df_compG (osc := defScope s_law) (N0 := ["_law_script", "_law_cell", "_law_name", "_law_least", "_law_greatest", "_law_number", "_law_way", "_law_text", "_law_found", "_law_k"]) (bs := ["_law_other"]) (caps := ["_law_name"]) (js := [2]) rfl (by decide +kernel) rfl rfl rfl (di_list (de_call0 G__law_bounds (hr.mono (by decide)) rfl)) (fun _ _ _ _ _ => (pg_name (i := 0) (show List.Nodup [("_law_other" : Str), ("_law_name" : Str)] by decide +kernel) rfl (Or.inl (lookup_relabel_local rfl)) (.inl rfl))) lig_one (fun _ _ _ _ _ => dc_nil) (fun _ _ _ _ _ => (de_cmp (o_eqS) (de_ix (dv 0) de_int (fun _ _ => rfl)) (dv 1) (nomark _)))))) (nomark _)) (dw_or1 (dt_cmp (o_ne hr) (de_call G__law_kinds (hr.mono (by decide)) rfl (da_cons (dv 6) da_nil)) (de_call G__law_kinds (hr.mono (by decide)) rfl (da_cons (dv 8) da_nil)) (nomark _))))) (dss_one (ds_ret de_bl)) dss_nil)
  (dss_join (ds_if (DW.dt (dw_or (dt_cmp (o_ne hr) (de_call G__law_value (hr.mono (by decide)) rfl (da_cons (dv 8) (da_cons (dv 2) da_nil))) (dv 5) (nomark _)) (dw_or1 (dt_cmp (o_neS) (de_call G_way_shown (hr.mono (by decide)) rfl (da_cons (dv 8) da_nil)) (dv 7) (nomark _))))) (dss_one (ds_ret de_bl)) dss_nil)
  (dss_cons (ds_forR2 (j := 9) rfl sc_law.nd rfl (Or.inl rfl) PassesOwn.never rfl T.range (da_cons de_int (da_cons (de_op o_add de_int (de_len rfl T.len (de_slice (dv 0) (do_some de_int) (do_some de_int)))) da_nil)) (dss_one (ds_if (dt_not (dt_val (de_call G__law_refusal (hr.mono (by decide)) rfl (da_cons (de_call G__law_bad (hr.mono (by decide)) rfl (da_cons (dv 2) (da_cons (dv 3) (da_cons (dv 4) (da_cons (dv 5) (da_cons (de_op o_mod (de_ix (dv 0) (dv 9) (fun _ _ => rfl)) (de_op o_pow de_int de_int)) da_nil)))))) da_nil)))) (dss_one (ds_ret de_bl)) dss_nil)))
  (dss_one (ds_ret de_bl)))))))))))), ?_⟩
  obtain ⟨cs, ec, lc, _⟩ := cut_ints ns (some 1) (some 17)
  refine ⟨_, rfl, ns, _, rfl, by decide, fun c => ?_⟩
  obtain ⟨k, hk⟩ := bd_at c
  refine ⟨rfl, _, rfl, _, _, rfl, rfl, cmodN (by decide), bdL, _, bdT k, rfl, rfl, hk, _, _, _, rfl, ?_⟩
  have kb : 1 ≤ k.lo ∧ k.lo ≤ k.hi ∧ k.hi ≤ 60 := by cases k <;> decide
  have f0 := Int.fmod_nonneg_of_pos (c.fdiv 6) (show (0 : Int) < k.hi - k.lo + 1 by omega)
  have f1 := Int.fmod_lt_of_pos (c.fdiv 6) (show (0 : Int) < k.hi - k.lo + 1 by omega)
  refine ⟨_, rfl, _, rfl, _, _, rfl, rfl, cdivN (by decide), _, rfl, _, rfl, _, _, rfl, rfl, _, _, rfl, rfl, _, _, rfl, rfl, (by show k.hi - k.lo + 1 ≠ 0; omega), _, _, rfl, rfl, ?_⟩
  dsimp only
  have hn : k.ok (k.lo + (c.fdiv 6).fmod (k.hi - k.lo + 1)) := ⟨by omega, by omega⟩
  generalize k.lo + (c.fdiv 6).fmod (k.hi - k.lo + 1) = n at *
  obtain ⟨m, rfl, m1, m2⟩ := ok_nat hn
  have hs : (shw (m : Int)).length ≤ 3 := shw_len (k := 2) (m : Int) (by decide) (by rw [Int.natAbs_natCast]; omega)
  have lk := nam_len k
  have lo : ((m : Int)).natAbs.log2 < 1920 := Nat.lt_of_lt_of_le (log_lt (k := 6) (by decide) (by rw [Int.natAbs_natCast]; omega)) (by decide)
  have le : ∀ u v : Str, (u ++ v).length = u.length + v.length := fun u v => by rw [← tl_len, tl_app, List.length_append, tl_len, tl_len]
  have ak : asc k.nam := fun c hc => by have := nam_chars k c hc; omega
  have aw := shw_asc (m : Int)
  generalize hN : (m : Int) = n at *
  refine ⟨_, rfl, _, rfl, k, n, rfl, hn, ?_⟩
  refine ⟨_, rfl, k, n, rfl, hn, ?_⟩
  refine ⟨fun ρ => ρ = [.some (.scr ns), .some (.int c), .some (.str k.nam), .some (.int k.lo), .some (.int k.hi), .some (.int n), .some (wayD A k n), .some (.str (k.nam ++ shw n)), .none, .none], ?_, ?_⟩
  · refine ⟨_, rfl, _, rfl, _, rfl, ifF rfl ?_⟩
    exact ⟨_, rfl, _, rfl, _, rfl, _, rfl, lo, _, _, rfl, rfl, Nat.le_trans (Nat.add_le_add lk hs) (by decide), _, _, rfl, rfl, _, rfl, ifF (nT (beq_self_eq_true _)) rfl⟩
  rintro ρ rfl
  refine ⟨_, rfl, _, rfl, asc_app ak aw, by rw [le]; omega, fun k' n' hk' e => ?_, fun hbad => absurd rfl (hbad k n hn)⟩
  obtain ⟨rfl, rfl⟩ := good_inj hn hk' e
  have ok6 : okE 40 (six k) = true := by cases k <;> rfl
  refine ⟨fun ρ => ρ = [.some (.scr ns), .some (.int c), .some (.str k.nam), .some (.int k.lo), .some (.int k.hi), .some (.int n), .some (wayD A k n), .some (.str (k.nam ++ shw n)), .some (wayD A k n), .none], ?_, ?_⟩
  · refine ⟨_, rfl, k, n, rfl, rfl, bdL, fun i es => es = (sixK.take i).map fun j => Dt.bl (j.nam == k.nam), rfl, by decide, rfl, ?_, ?_⟩
    · rintro i e es he rfl
      rw [bd_six, List.getElem?_map] at he
      cases hj : sixK[i]? with
      | none => rw [hj] at he; cases he
      | some j =>
        rw [hj] at he
        cases he
        refine ⟨_, rfl, _, _, _, rfl, rfl, rfl, _, rfl, _, _, rfl, rfl, ?_⟩
        show _ = List.map _ (List.take (i + 1) sixK)
        rw [List.take_succ, hj, List.map_append]
        rfl
    · rintro es rfl
      have e6 : Dt.lst ((sixK.take bdL.length).map fun j => Dt.bl (j.nam == k.nam)) = six k := six_eq k
      show gNe (six k) (Dt.lst ((sixK.take bdL.length).map fun j => Dt.bl (j.nam == k.nam))) _
      rw [e6]
      refine ⟨ok6, ok6, _, rfl, ifF (nT (eqD_self 40 ok6)) ?_⟩
      refine ⟨_, rfl, k, n, rfl, _, rfl, k, n, rfl, ok6, ok6, _, rfl, ifF (nT (eqD_self 40 ok6)) rfl⟩
  rintro ρ rfl
  refine ⟨fun ρ => ρ = [.some (.scr ns), .some (.int c), .some (.str k.nam), .some (.int k.lo), .some (.int k.hi), .some (.int n), .some (wayD A k n), .some (.str (k.nam ++ shw n)), .some (wayD A k n), .none], ?_, ?_⟩
  · refine ⟨_, rfl, _, rfl, k, n, rfl, _, rfl, rfl, rfl, _, rfl, ifF (nT (eqI rfl)) ?_⟩
    exact ⟨_, rfl, k, n, rfl, hn, _, rfl, _, _, rfl, rfl, _, rfl, ifF (nT (beq_self_eq_true _)) rfl⟩
  rintro ρ rfl
  have l17 := cut_17 (ns.map Dt.int)
  rw [ec, len_ints, len_ints] at l17
  walk_at "rd"
  refine ⟨_, _, fun _ ρ => ∃ v, ρ = [.some (.scr ns), .some (.int c), .some (.str k.nam), .some (.int k.lo), .some (.int k.hi), .some (.int n), .some (wayD A k n), .some (.str (k.nam ++ shw n)), .some (wayD A k n), v], rfl, by decide, by decide, ?_, ?_, ⟨_, rfl⟩, ?_, ?_⟩
  · rw [ec, len_ints]; omega
  · rw [ec, len_ints]; omega
  · rintro i ρ' hi ⟨v, rfl⟩
    rw [ec, len_ints] at hi
    have hi' : i + 1 < ns.length := by omega
    have hx := atI_row (xs := ns) (k := 1 + (i : Int)) (by omega) (by omega)
    generalize ns.getD (1 + (i : Int)).toNat 0 = z at *
    have p0 := Int.fmod_nonneg_of_pos z (show (0 : Int) < 10 ^ Int.toNat 40 by decide)
    refine ⟨_, rfl, _, rfl, _, rfl, _, rfl, _, rfl, _, rfl, _, _, _, rfl, rfl, hx, _, _, rfl, rfl, cpowN (by decide), _, _, rfl, rfl, cmodN (by decide), k, n, _, rfl, hn, p0, fun x x1 x2 x3 => ?_⟩
    exact ⟨x, rfl, x1, x2, x3, _, rfl, ifF rfl ⟨_, rfl⟩⟩
  · rintro ρ' ⟨v, rfl⟩
    exact q
end
def BA (n q : Str) (st : Stmt) (ps : List Str) (us : List Value) : Prop := ∀ (kV doc pm : Value) (an : Option Addr) (cdv ct : Value), bindArgs (PySem.W.fnOf n q (defArgs st) (defBody st) (defScope st) .none kV doc pm an cdv ct) ⟨us, []⟩ = pure (ps.zip us)
def BZ (n q : Str) (st : Stmt) (ps : List Str) : Prop := ∀ us : List Value, us.length = ps.length → BA n q st ps us
theorem bz0 {n q : Str} {st : Stmt} {ps : List Str} (hl : ps.length = 0) (h : BA n q st ps []) : BZ n q st ps := fun us e => match us, e.trans hl with | [], _ => h
theorem bz1 {n q : Str} {st : Stmt} {ps : List Str} (hl : ps.length = 1) (h : ∀ u0 : Value, BA n q st ps [u0]) : BZ n q st ps := fun us e => match us, e.trans hl with | [_], _ => h _
theorem bz2 {n q : Str} {st : Stmt} {ps : List Str} (hl : ps.length = 2) (h : ∀ u0 u1 : Value, BA n q st ps [u0, u1]) : BZ n q st ps := fun us e => match us, e.trans hl with | [_, _], _ => h _ _
theorem bz3 {n q : Str} {st : Stmt} {ps : List Str} (hl : ps.length = 3) (h : ∀ u0 u1 u2 : Value, BA n q st ps [u0, u1, u2]) : BZ n q st ps := fun us e => match us, e.trans hl with | [_, _, _], _ => h _ _ _
theorem bz5 {n q : Str} {st : Stmt} {ps : List Str} (hl : ps.length = 5) (h : ∀ u0 u1 u2 u3 u4 : Value, BA n q st ps [u0, u1, u2, u3, u4]) : BZ n q st ps := fun us e => match us, e.trans hl with | [_, _, _, _, _], _ => h _ _ _ _ _
section
variable (K : PySem.W.Frag)
def FX (n q : Str) (st : Stmt) (f : Addr) : Prop := ∃ oc od kV dc pm an cd ct sl, K.lookup f = some ⟨oc, od, .func (PySem.W.fnOf n q (defArgs st) (defBody st) (defScope st) .none kV dc pm an cd ct), sl⟩ ∧ PySem.W.codeIn K cd q = true ∧ PySem.W.keepIn K (.ref f) = true
def FD (n : Str) (st : Stmt) (f : Addr) : Prop := PySem.W.nsIn K mainGlobals n = some (some (.ref f)) ∧ FX K n n st f
def FE (g n : Str) (st : Stmt) (f : Addr) : Prop := PySem.W.nsIn K mainGlobals g = some (some (.ref f)) ∧ FX K n n st f
def FM (n q : Str) (st : Stmt) (f : Addr) : Prop := PySem.W.isFn K (.ref f) = true ∧ FX K n q st f
def Fi (C : Addr) (n : Str) (f : Addr) : Prop := PySem.W.findIn K (.ref C) n = some (some (.ref f))
def Ki (C D : Addr) (b : Bool) : Prop := PySem.W.kitOne K (.ref C) (.ref D) = some b
def Gc (n : Str) (C : Addr) : Prop := PySem.W.nsIn K mainGlobals n = some (some (.ref C))
def Gs (n y : Str) (t : Tok) : Prop := PySem.W.nsIn K mainGlobals n = some (some (.str y t))
def Zn (n : Str) : Prop := PySem.W.nsIn K mainGlobals n = some none
structure ClR (C : Addr) (x : Str) : Prop where
  cls : Cls K C
  mks : PySem.W.makesIn K C = true
  kc : PySem.W.keepIn K (.ref C) = true
  na : PySem.W.findIn K (.ref C) x = some none
structure IR (C : Addr) : Prop where
  ia : PySem.W.findIn K (.ref C) "__class__" = some (some (.builtin "object.__class__"))
  im : PySem.W.mroIn K C (.type "object") = some true
variable {K} {n q : Str} {st : Stmt} {f : Addr}
theorem FX.mk {oc od kV dc pm an cd ct sl} (l : K.lookup f = some ⟨oc, od, .func (PySem.W.fnOf n q (defArgs st) (defBody st) (defScope st) .none kV dc pm an cd ct), sl⟩) (c : PySem.W.codeIn K cd q = true) (k : PySem.W.keepIn K (.ref f) = true) : FX K n q st f := ⟨_, _, _, _, _, _, _, _, _, l, c, k⟩
theorem FX.get (r : FX K n q st f) (ps : List Str) (h : BZ n q st ps) : ∃ fd, Fun K n q st f fd ∧ Binds K fd ps [] :=
  let ⟨_, _, _, _, _, _, _, _, _, l, c, k⟩ := r; ⟨_, fun_mk l c k, (fun_mk l c k).binds fun a b c d e f us z => h us z a b c d e f⟩
theorem FD.get (r : FD K n st f) {h : Heap} {mg : Str → Option Value} (X : K.In h) (G : h.Ns mainGlobals mg) (ps : List Str) (h : BZ n n st ps) : ∃ fd, mg n = some (.ref f) ∧ Fun K n n st f fd ∧ Binds K fd ps [] :=
  let ⟨fd, F, b⟩ := r.2.get ps h; ⟨fd, PySem.W.mg_of X G r.1, F, b⟩
theorem FE.get {g : Str} (r : FE K g n st f) {h : Heap} {mg : Str → Option Value} (X : K.In h) (G : h.Ns mainGlobals mg) (ps : List Str) (h : BZ n n st ps) : ∃ fd, mg g = some (.ref f) ∧ Fun K n n st f fd ∧ Binds K fd ps [] :=
  let ⟨fd, F, b⟩ := r.2.get ps h; ⟨fd, PySem.W.mg_of X G r.1, F, b⟩
theorem FM.get (r : FM K n q st f) (ps : List Str) (h : BZ n q st ps) : ∃ fd, Fun K n q st f fd ∧ Binds K fd ps [] := r.2.get ps h
end

theorem all_mk {l : PySem.W.OpenLaw} {w : World} {K : PySem.W.Frag} {h : Heap} {mg : Str → Option Value} {fa : Addr} (X : K.In h) (G : h.Ns mainGlobals mg) (hfa : mg "law" = some (.ref fa))
 {C_Plain C_Below C_Balanced C_Growing C_Falling C_Pairs C_NoWay C_OddError C_NoText C_NoNumber C_NoWriting C_TooLess C_NoRatio C_NoFalling C_NoPairs C_Nought C_NoSpan C_NoTotal C_NoRow f1 f2 f3 f4 f5 f6 f7 f8 f9 f10 f11 f12 f13 f14 f15 f16 f17 f18 f19 f20 f21 f22 : Addr} {t_FIGURES : Tok}
 (aC_Plain : Gc K "Plain" C_Plain)
 (aC_Below : Gc K "Below" C_Below)
 (aC_Balanced : Gc K "Balanced" C_Balanced)
 (aC_Growing : Gc K "Growing" C_Growing)
 (aC_Falling : Gc K "Falling" C_Falling)
 (aC_Pairs : Gc K "Pairs" C_Pairs)
 (aC_NoWay : Gc K "NoWay" C_NoWay)
 (aC_OddError : Gc K "OddError" C_OddError)
 (aC_NoText : Gc K "NoText" C_NoText)
 (aC_NoNumber : Gc K "NoNumber" C_NoNumber)
 (aC_NoWriting : Gc K "NoWriting" C_NoWriting)
 (aC_TooLess : Gc K "TooLess" C_TooLess)
 (aC_NoRatio : Gc K "NoRatio" C_NoRatio)
 (aC_NoFalling : Gc K "NoFalling" C_NoFalling)
 (aC_NoPairs : Gc K "NoPairs" C_NoPairs)
 (aC_Nought : Gc K "Nought" C_Nought)
 (aC_NoSpan : Gc K "NoSpan" C_NoSpan)
 (aC_NoTotal : Gc K "NoTotal" C_NoTotal)
 (aC_NoRow : Gc K "NoRow" C_NoRow)
 (r1 : FD K "_law_cell_at" s_law_cell_at f1)
 (r2 : FD K "_law_bounds" s_law_bounds f2)
 (r3 : FD K "is_whole" s_is_whole f3)
 (r4 : FD K "bounded" s_bounded f4)
 (a5_Plain : Fi K C_Plain "__init__" f5)
 (r5 : FM K "__init__" "Plain.__init__" s_Plain_init f5)
 (a6_Below : Fi K C_Below "__init__" f6)
 (r6 : FM K "__init__" "Below.__init__" s_Below_init f6)
 (a7_Balanced : Fi K C_Balanced "__init__" f7)
 (r7 : FM K "__init__" "Balanced.__init__" s_Balanced_init f7)
 (a8_Growing : Fi K C_Growing "__init__" f8)
 (r8 : FM K "__init__" "Growing.__init__" s_Growing_init f8)
 (a9_Falling : Fi K C_Falling "__init__" f9)
 (r9 : FM K "__init__" "Falling.__init__" s_Falling_init f9)
 (a10_Pairs : Fi K C_Pairs "__init__" f10)
 (r10 : FM K "__init__" "Pairs.__init__" s_Pairs_init f10)
 (r11 : FD K "_law_made" s_law_made f11)
 (r12 : FD K "whole_shown" s_whole_shown f12)
 (r13 : FD K "way_shown" s_way_shown f13)
 (r14 : FD K "has_figures_alone" s_has_figures_alone f14)
 (r15 : FD K "whole_read" s_whole_read f15)
 (r16 : FD K "way_made" s_way_made f16)
 (r17 : FD K "way_read" s_way_read f17)
 (r18 : FD K "_law_kinds" s_law_kinds f18)
 (r19 : FD K "_law_value" s_law_value f19)
 (r20 : FD K "_law_refusal" s_law_refusal f20)
 (r21 : FD K "_law_bad" s_law_bad f21)
 (r22 : FD K "law" s_law f22)
 (c_Plain : ClR K C_Plain "base")
 (c_Below : ClR K C_Below "base")
 (c_Balanced : ClR K C_Balanced "half")
 (c_Growing : ClR K C_Growing "first")
 (c_Falling : ClR K C_Falling "most")
 (c_Pairs : ClR K C_Pairs "most")
 (i_Plain : IR K C_Plain)
 (ki_Plain_Plain : Ki K C_Plain C_Plain true)
 (ki_Plain_Below : Ki K C_Plain C_Below false)
 (ki_Plain_Balanced : Ki K C_Plain C_Balanced false)
 (ki_Plain_Growing : Ki K C_Plain C_Growing false)
 (ki_Plain_Falling : Ki K C_Plain C_Falling false)
 (ki_Plain_Pairs : Ki K C_Plain C_Pairs false)
 (i_Below : IR K C_Below)
 (ki_Below_Plain : Ki K C_Below C_Plain false)
 (ki_Below_Below : Ki K C_Below C_Below true)
 (ki_Below_Balanced : Ki K C_Below C_Balanced false)
 (ki_Below_Growing : Ki K C_Below C_Growing false)
 (ki_Below_Falling : Ki K C_Below C_Falling false)
 (ki_Below_Pairs : Ki K C_Below C_Pairs false)
 (i_Balanced : IR K C_Balanced)
 (ki_Balanced_Plain : Ki K C_Balanced C_Plain false)
 (ki_Balanced_Below : Ki K C_Balanced C_Below false)
 (ki_Balanced_Balanced : Ki K C_Balanced C_Balanced true)
 (ki_Balanced_Growing : Ki K C_Balanced C_Growing false)
 (ki_Balanced_Falling : Ki K C_Balanced C_Falling false)
 (ki_Balanced_Pairs : Ki K C_Balanced C_Pairs false)
 (i_Growing : IR K C_Growing)
 (ki_Growing_Plain : Ki K C_Growing C_Plain false)
 (ki_Growing_Below : Ki K C_Growing C_Below false)
 (ki_Growing_Balanced : Ki K C_Growing C_Balanced false)
 (ki_Growing_Growing : Ki K C_Growing C_Growing true)
 (ki_Growing_Falling : Ki K C_Growing C_Falling false)
 (ki_Growing_Pairs : Ki K C_Growing C_Pairs false)
 (i_Falling : IR K C_Falling)
 (ki_Falling_Plain : Ki K C_Falling C_Plain false)
 (ki_Falling_Below : Ki K C_Falling C_Below false)
 (ki_Falling_Balanced : Ki K C_Falling C_Balanced false)
 (ki_Falling_Growing : Ki K C_Falling C_Growing false)
 (ki_Falling_Falling : Ki K C_Falling C_Falling true)
 (ki_Falling_Pairs : Ki K C_Falling C_Pairs false)
 (i_Pairs : IR K C_Pairs)
 (ki_Pairs_Plain : Ki K C_Pairs C_Plain false)
 (ki_Pairs_Below : Ki K C_Pairs C_Below false)
 (ki_Pairs_Balanced : Ki K C_Pairs C_Balanced false)
 (ki_Pairs_Growing : Ki K C_Pairs C_Growing false)
 (ki_Pairs_Falling : Ki K C_Pairs C_Falling false)
 (ki_Pairs_Pairs : Ki K C_Pairs C_Pairs true)
 (in_ : PySem.W.specialIn K (.builtin "object.__class__") "__get__" = some (some (.builtin "getset_descriptor.__get__")))
 (it_ : PySem.W.takesIn K (.builtin "object.__class__") = some true)
 (ex_NoText : ExcK K C_NoText)
 (ix_NoText : IsxOk K C_NoText)
 (em_NoText_NoWay : PySem.W.exmOne K (.ref C_NoText) (.ref C_NoWay) = some false)
 (em_NoText_OddError : PySem.W.exmOne K (.ref C_NoText) (.ref C_OddError) = some true)
 (kx_NoText_NoWay : Ki K C_NoText C_NoWay false)
 (kx_NoText_OddError : Ki K C_NoText C_OddError true)
 (kx_NoText_NoText : Ki K C_NoText C_NoText true)
 (kx_NoText_NoNumber : Ki K C_NoText C_NoNumber false)
 (kx_NoText_NoWriting : Ki K C_NoText C_NoWriting false)
 (kx_NoText_TooLess : Ki K C_NoText C_TooLess false)
 (kx_NoText_NoRatio : Ki K C_NoText C_NoRatio false)
 (kx_NoText_NoFalling : Ki K C_NoText C_NoFalling false)
 (kx_NoText_NoPairs : Ki K C_NoText C_NoPairs false)
 (kx_NoText_Nought : Ki K C_NoText C_Nought false)
 (kx_NoText_NoSpan : Ki K C_NoText C_NoSpan false)
 (kx_NoText_NoTotal : Ki K C_NoText C_NoTotal false)
 (kx_NoText_NoRow : Ki K C_NoText C_NoRow false)
 (kx_NoText_ValueError : PySem.W.kitOne K (.ref C_NoText) (.type "ValueError") = some true)
 (ex_NoWay : ExcK K C_NoWay)
 (ix_NoWay : IsxOk K C_NoWay)
 (em_NoWay_NoWay : PySem.W.exmOne K (.ref C_NoWay) (.ref C_NoWay) = some true)
 (em_NoWay_OddError : PySem.W.exmOne K (.ref C_NoWay) (.ref C_OddError) = some true)
 (kx_NoWay_NoWay : Ki K C_NoWay C_NoWay true)
 (kx_NoWay_OddError : Ki K C_NoWay C_OddError true)
 (kx_NoWay_NoText : Ki K C_NoWay C_NoText false)
 (kx_NoWay_NoNumber : Ki K C_NoWay C_NoNumber false)
 (kx_NoWay_NoWriting : Ki K C_NoWay C_NoWriting false)
 (kx_NoWay_TooLess : Ki K C_NoWay C_TooLess false)
 (kx_NoWay_NoRatio : Ki K C_NoWay C_NoRatio false)
 (kx_NoWay_NoFalling : Ki K C_NoWay C_NoFalling false)
 (kx_NoWay_NoPairs : Ki K C_NoWay C_NoPairs false)
 (kx_NoWay_Nought : Ki K C_NoWay C_Nought false)
 (kx_NoWay_NoSpan : Ki K C_NoWay C_NoSpan false)
 (kx_NoWay_NoTotal : Ki K C_NoWay C_NoTotal false)
 (kx_NoWay_NoRow : Ki K C_NoWay C_NoRow false)
 (kx_NoWay_ValueError : PySem.W.kitOne K (.ref C_NoWay) (.type "ValueError") = some true)
 (g_FIGURES : Gs K "FIGURES" "0123456789" t_FIGURES)
 (z_isinstance : Zn K "isinstance")
 (z_int : Zn K "int")
 (z_bool : Zn K "bool")
 (z_tuple : Zn K "tuple")
 (z_len : Zn K "len")
 (z_range : Zn K "range")
 (z_str : Zn K "str")
 (z_ValueError : Zn K "ValueError") :
 ∃ fd : FuncData, (∀ (s : Shared) (v : Value), BindsTo s fd ⟨[v], []⟩ [("_law_script", v)]) ∧ ∀ base : Heap, K.In base → base.Ns mainGlobals mg → FnOk l.prog w K mg base CX0 8 fa fd ["_law_script"] (PureSp K (S_law)) := by
  have mn {n : Str} (z : Zn K n) := PySem.W.mg_none_of X G z
  have mo {n : Str} {C : Addr} (z : Gc K n C) := PySem.W.mg_of X G z
  let A : Adr := ⟨C_Plain, C_Below, C_Balanced, C_Growing, C_Falling, C_Pairs, C_NoWay, C_OddError, C_NoText, C_NoNumber, C_NoWriting, C_TooLess, C_NoRatio, C_NoFalling, C_NoPairs, C_Nought, C_NoSpan, C_NoTotal, C_NoRow⟩
  have T : Txt K mg A := ⟨kitT K, mn z_isinstance, mn z_int, mn z_bool, mn z_tuple, mn z_len, mn z_range, mn z_str, mn z_ValueError, ⟨_, PySem.W.mg_of X G g_FIGURES⟩, c_Plain.cls, c_Plain.na, c_Below.cls, c_Below.na, c_Balanced.cls, c_Balanced.na, c_Growing.cls, c_Growing.na, c_Falling.cls, c_Falling.na, c_Pairs.cls, c_Pairs.na, mo aC_Plain, mo aC_Below, mo aC_Balanced, mo aC_Growing, mo aC_Falling, mo aC_Pairs, ⟨c_Plain.cls, i_Plain.1, in_, it_, i_Plain.2⟩, ki_Plain_Plain, ki_Plain_Below, ki_Plain_Balanced, ki_Plain_Growing, ki_Plain_Falling, ki_Plain_Pairs, ⟨c_Below.cls, i_Below.1, in_, it_, i_Below.2⟩, ki_Below_Plain, ki_Below_Below, ki_Below_Balanced, ki_Below_Growing, ki_Below_Falling, ki_Below_Pairs, ⟨c_Balanced.cls, i_Balanced.1, in_, it_, i_Balanced.2⟩, ki_Balanced_Plain, ki_Balanced_Below, ki_Balanced_Balanced, ki_Balanced_Growing, ki_Balanced_Falling, ki_Balanced_Pairs, ⟨c_Growing.cls, i_Growing.1, in_, it_, i_Growing.2⟩, ki_Growing_Plain, ki_Growing_Below, ki_Growing_Balanced, ki_Growing_Growing, ki_Growing_Falling, ki_Growing_Pairs, ⟨c_Falling.cls, i_Falling.1, in_, it_, i_Falling.2⟩, ki_Falling_Plain, ki_Falling_Below, ki_Falling_Balanced, ki_Falling_Growing, ki_Falling_Falling, ki_Falling_Pairs, ⟨c_Pairs.cls, i_Pairs.1, in_, it_, i_Pairs.2⟩, ki_Pairs_Plain, ki_Pairs_Below, ki_Pairs_Balanced, ki_Pairs_Growing, ki_Pairs_Falling, ki_Pairs_Pairs, mo aC_NoWay, mo aC_OddError, mo aC_NoText, mo aC_NoNumber, mo aC_NoWriting, mo aC_TooLess, mo aC_NoRatio, mo aC_NoFalling, mo aC_NoPairs, mo aC_Nought, mo aC_NoSpan, mo aC_NoTotal, mo aC_NoRow, ex_NoText, ix_NoText, em_NoText_NoWay, em_NoText_OddError, kx_NoText_NoWay, kx_NoText_OddError, kx_NoText_NoText, kx_NoText_NoNumber, kx_NoText_NoWriting, kx_NoText_TooLess, kx_NoText_NoRatio, kx_NoText_NoFalling, kx_NoText_NoPairs, kx_NoText_Nought, kx_NoText_NoSpan, kx_NoText_NoTotal, kx_NoText_NoRow, kx_NoText_ValueError, ex_NoWay, ix_NoWay, em_NoWay_NoWay, em_NoWay_OddError, kx_NoWay_NoWay, kx_NoWay_OddError, kx_NoWay_NoText, kx_NoWay_NoNumber, kx_NoWay_NoWriting, kx_NoWay_TooLess, kx_NoWay_NoRatio, kx_NoWay_NoFalling, kx_NoWay_NoPairs, kx_NoWay_Nought, kx_NoWay_NoSpan, kx_NoWay_NoTotal, kx_NoWay_NoRow, kx_NoWay_ValueError⟩
  obtain ⟨_, m1, F1, b1⟩ := r1.get X G ["_law_script", "_law_k"] (bz2 rfl fun _ _ _ _ _ _ _ _ => rfl)
  obtain ⟨_, m2, F2, b2⟩ := r2.get X G [] (bz0 rfl fun _ _ _ _ _ _ => rfl)
  obtain ⟨_, m3, F3, b3⟩ := r3.get X G ["value"] (bz1 rfl fun _ _ _ _ _ _ _ => rfl)
  obtain ⟨_, m4, F4, b4⟩ := r4.get X G ["number", "least", "most"] (bz3 rfl fun _ _ _ _ _ _ _ _ _ => rfl)
  obtain ⟨_, F5, b5⟩ := r5.get ["self", "base"] (bz2 rfl fun _ _ _ _ _ _ _ _ => rfl)
  obtain ⟨_, F6, b6⟩ := r6.get ["self", "base"] (bz2 rfl fun _ _ _ _ _ _ _ _ => rfl)
  obtain ⟨_, F7, b7⟩ := r7.get ["self", "half"] (bz2 rfl fun _ _ _ _ _ _ _ _ => rfl)
  obtain ⟨_, F8, b8⟩ := r8.get ["self", "first"] (bz2 rfl fun _ _ _ _ _ _ _ _ => rfl)
  obtain ⟨_, F9, b9⟩ := r9.get ["self", "most"] (bz2 rfl fun _ _ _ _ _ _ _ _ => rfl)
  obtain ⟨_, F10, b10⟩ := r10.get ["self", "most"] (bz2 rfl fun _ _ _ _ _ _ _ _ => rfl)
  obtain ⟨_, m11, F11, b11⟩ := r11.get X G ["_law_name", "_law_number"] (bz2 rfl fun _ _ _ _ _ _ _ _ => rfl)
  obtain ⟨_, m12, F12, b12⟩ := r12.get X G ["number"] (bz1 rfl fun _ _ _ _ _ _ _ => rfl)
  obtain ⟨_, m13, F13, b13⟩ := r13.get X G ["way"] (bz1 rfl fun _ _ _ _ _ _ _ => rfl)
  obtain ⟨_, m14, F14, b14⟩ := r14.get X G ["text"] (bz1 rfl fun _ _ _ _ _ _ _ => rfl)
  obtain ⟨_, m15, F15, b15⟩ := r15.get X G ["text"] (bz1 rfl fun _ _ _ _ _ _ _ => rfl)
  obtain ⟨_, m16, F16, b16⟩ := r16.get X G ["name", "number"] (bz2 rfl fun _ _ _ _ _ _ _ _ => rfl)
  obtain ⟨_, m17, F17, b17⟩ := r17.get X G ["text"] (bz1 rfl fun _ _ _ _ _ _ _ => rfl)
  obtain ⟨_, m18, F18, b18⟩ := r18.get X G ["_law_way"] (bz1 rfl fun _ _ _ _ _ _ _ => rfl)
  obtain ⟨_, m19, F19, b19⟩ := r19.get X G ["_law_way", "_law_name"] (bz2 rfl fun _ _ _ _ _ _ _ _ => rfl)
  obtain ⟨_, m20, F20, b20⟩ := r20.get X G ["_law_text"] (bz1 rfl fun _ _ _ _ _ _ _ => rfl)
  obtain ⟨_, m21, F21, b21⟩ := r21.get X G ["_law_name", "_law_least", "_law_greatest", "_law_number", "_law_cell"] (bz5 rfl fun _ _ _ _ _ _ _ _ _ _ _ => rfl)
  obtain ⟨a22, _, _, kV, dc, pm, an, cd, ct, _, l22, c22, k22⟩ := r22
  cases hfa.symm.trans (PySem.W.mg_of X G a22)
  have F22 := fun_mk (st := s_law) l22 c22 k22
  refine ⟨PySem.W.fnOf "law" "law" (defArgs s_law) (defBody s_law) (defScope s_law) .none kV dc pm an cd ct, fun s v => .of_eq rfl, fun base _ _ => ?_⟩
  have G__law_cell_at := DOk.mk' F1 m1 b1 (ok_law_cell_at (P := l.prog) (w := w) (base := base) T F1)
  have G__law_bounds := DOk.mk' F2 m2 b2 (ok_law_bounds (P := l.prog) (w := w) (base := base) T F2)
  have G_is_whole := DOk.mk' F3 m3 b3 (ok_is_whole (P := l.prog) (w := w) (base := base) T F3)
  have G_bounded := DOkX.mk' F4 m4 b4 (ok_bounded T G_is_whole F4)
  have M_Plain : KOkX l.prog w K mg base 3 "Plain" A.Plain "base" (Kd.ok .plain) A.NoWay := ⟨_, _, _, mo aC_Plain, ⟨c_Plain.mks, a5_Plain, r5.1, c_Plain.kc⟩, b5, ok_Plain_init T G_bounded F5⟩
  have M_Below : KOkX l.prog w K mg base 3 "Below" A.Below "base" (Kd.ok .below) A.NoWay := ⟨_, _, _, mo aC_Below, ⟨c_Below.mks, a6_Below, r6.1, c_Below.kc⟩, b6, ok_Below_init T G_bounded F6⟩
  have M_Balanced : KOkX l.prog w K mg base 3 "Balanced" A.Balanced "half" (Kd.ok .balanced) A.NoWay := ⟨_, _, _, mo aC_Balanced, ⟨c_Balanced.mks, a7_Balanced, r7.1, c_Balanced.kc⟩, b7, ok_Balanced_init T G_bounded F7⟩
  have M_Growing : KOkX l.prog w K mg base 3 "Growing" A.Growing "first" (Kd.ok .growing) A.NoWay := ⟨_, _, _, mo aC_Growing, ⟨c_Growing.mks, a8_Growing, r8.1, c_Growing.kc⟩, b8, ok_Growing_init T G_bounded F8⟩
  have M_Falling : KOkX l.prog w K mg base 3 "Falling" A.Falling "most" (Kd.ok .falling) A.NoWay := ⟨_, _, _, mo aC_Falling, ⟨c_Falling.mks, a9_Falling, r9.1, c_Falling.kc⟩, b9, ok_Falling_init T G_bounded F9⟩
  have M_Pairs : KOkX l.prog w K mg base 3 "Pairs" A.Pairs "most" (Kd.ok .pairs) A.NoWay := ⟨_, _, _, mo aC_Pairs, ⟨c_Pairs.mks, a10_Pairs, r10.1, c_Pairs.kc⟩, b10, ok_Pairs_init T G_bounded F10⟩
  have G__law_made := DOk.mk' F11 m11 b11 (ok_law_made T M_Plain M_Below M_Balanced M_Growing M_Falling M_Pairs F11)
  have G_whole_shown := DOk.mk' F12 m12 b12 (ok_whole_shown_0 (P := l.prog) (w := w) (base := base) T F12)
  have G_whole_shown := DOk.mk' F12 m12 b12 (ok_whole_shown (P := l.prog) (w := w) (base := base) T G_whole_shown F12)
  have G_way_shown := DOk.mk' F13 m13 b13 (ok_way_shown T G_whole_shown F13)
  have G_has_figures_alone := DOk.mk' F14 m14 b14 (ok_has_figures_alone (P := l.prog) (w := w) (base := base) T F14)
  have G_whole_read := DOkX.mk' F15 m15 b15 (ok_whole_read T G_has_figures_alone F15)
  have G_way_made := DOkX.mk' F16 m16 b16 (ok_way_made T M_Plain M_Below M_Balanced M_Growing M_Falling M_Pairs F16)
  have G_way_read := DOkX.mk' F17 m17 b17 (ok_way_read T G_whole_read G_way_made F17)
  have G__law_kinds := DOk.mk' F18 m18 b18 (ok_law_kinds (P := l.prog) (w := w) (base := base) T F18)
  have G__law_value := DOk.mk' F19 m19 b19 (ok_law_value (P := l.prog) (w := w) (base := base) T F19)
  have G__law_refusal := DOk.mk' F20 m20 b20 (ok_law_refusal T G_way_read F20)
  have G__law_bad := DOk.mk' F21 m21 b21 (ok_law_bad (P := l.prog) (w := w) (base := base) T F21)
  exact ok_law T G__law_cell_at G__law_bounds G__law_made G_way_shown G_way_read G__law_kinds G__law_value G__law_refusal G__law_bad F22
theorem walk {l : PySem.W.OpenLaw} {q : Program} {loose : List Str} {XP : (Str → Option Value) → Heap → Prop} {YP : World → Heap → Prop} {d : DefRec} {K : Params → PySem.W.Frag} (hn : l.most = some 63) (hdf : d.params.defaults = [])
    (hY : ∀ (w : World) (h : Heap), YP w h → (K w.params).In h)
    (F : ∀ (w : World) (mg : Str → Option Value) (fa : Addr) (h : Heap), (K w.params).In h → h.Ns mainGlobals mg → mg d.name = some (.ref fa) →
      ∃ fd : FuncData, (∀ (s : Shared) (u : Value), BindsTo s fd ⟨[u], []⟩ [("_law_script", u)]) ∧ ∀ base : Heap, (K w.params).In base → base.Ns mainGlobals mg → FnOk l.prog w (K w.params) mg base CX0 8 fa fd ["_law_script"] (PureSp (K w.params) (S_law))) :
    PySem.W.WalkO q loose XP YP l.row.toRowW d [] (fun f vs => PySem.call f vs) :=
  L2.walk_of (n := 63) (k := 8) (x := "_law_script") (CX := fun _ => CX0) (sp := fun w => PureSp (K w.params) (S_law)) hn (by decide) hdf ⟨rfl, by decide, by decide⟩ hY F (fun w H a ns hl _ hS => ⟨⟨H, H, Same.refl H⟩, [.scr ns], fun d => d = .bl true, rfl, allIs_cons.mpr ⟨_, _, rfl, is_scr.mpr ⟨a, rfl, hS⟩, allIs_nil.mpr rfl⟩, ⟨ns, rfl, hl, rfl⟩, fun d v W' _ i e => by subst e; exact is_bl.mp i⟩) fun _ _ _ _ _ z => z
end My
local macro_rules | `(tactic| walk_at "fx") => `(tactic| (refine' My.FX.mk ?l ?c ?k; (case l => k_is); (case c => k_is); (case k => k_is)))
local macro_rules | `(tactic| walk_at "kk") => `(tactic| first | k_is | kit_is | kts_exm | (delta L2.ExcK; k_exc) | (delta My.Fi; k_is) | (delta My.Zn; k_is) | (delta My.Gs; k_is) | (delta My.Gc; k_is) | (delta My.Ki; kit_is) | (delta My.FD; refine ⟨?a, ?b⟩; (case a => k_is); (case b => walk_at "fx")) | (delta My.FE; refine ⟨?a, ?b⟩; (case a => k_is); (case b => walk_at "fx")) | (delta My.FM; refine ⟨?a, ?b⟩; (case a => k_is); (case b => walk_at "fx")) | (refine ⟨⟨?_, ?_, ?_, ?_⟩, ?_, ?_, ?_⟩ <;> k_is) | (refine ⟨?_, ?_, ?_, ?_, ?_, ?_, ?_⟩ <;> k_is) | (refine ⟨?_, ?_⟩ <;> k_is))
open PySem PySem.W PyProof.Rows
set_option maxRecDepth 100000 in
set_option maxHeartbeats 0 in
theorem PySem.Challenge.cw_oddbases_k56_ways_as_texts_holds : PySem.Challenge.rw_oddbases_k56_ways_as_texts.Holds := by
  w_on; o_law
  refine holds_open (q := My.h_view_39) (loose := []) (Xt := (fun s => xlAt My.h_view_39 [] s && recOk (RowW.records (OpenRow.toRowW PySem.Challenge.rw_oddbases_k56_ways_as_texts.row)) s)) (XP := XL My.h_view_39 []) (Yf := Hook.obs (kHook My.h_heap_39 My.myAs My.myE)) (Ya := Hook.val (kHook My.h_heap_39 My.myAs My.myE)) (YP := Hook.says (kHook My.h_heap_39 My.myAs My.myE)) (N := 11786) My.left (Hook.of _) (Hook.keeps _) (fun s e => xl_of s (Bool.and_eq_true_iff.mp e).1) XL.keeps (by rfl) (by rfl) (by rfl) (fun s e => recFacts_of (Bool.and_eq_true_iff.mp e).2) (by rfl) (by first | assumption | decide +kernel) (by decide +kernel) ⟨rfl, rfl, rfl, rfl, rfl, by decide +kernel⟩ ?hw ?hc
  case hw => w_witness2
  k_fill
  refine My.walk (l := PySem.Challenge.rw_oddbases_k56_ways_as_texts) rfl rfl (fun w h Y => PySem.W.kIn_of Y) ?F
  case F =>
    intro w mg fa h KX G hmg
    refine' My.all_mk KX G hmg ?aC_Plain ?aC_Below ?aC_Balanced ?aC_Growing ?aC_Falling ?aC_Pairs ?aC_NoWay ?aC_OddError ?aC_NoText ?aC_NoNumber ?aC_NoWriting ?aC_TooLess ?aC_NoRatio ?aC_NoFalling ?aC_NoPairs ?aC_Nought ?aC_NoSpan ?aC_NoTotal ?aC_NoRow ?r1 ?r2 ?r3 ?r4 ?a5_Plain ?r5 ?a6_Below ?r6 ?a7_Balanced ?r7 ?a8_Growing ?r8 ?a9_Falling ?r9 ?a10_Pairs ?r10 ?r11 ?r12 ?r13 ?r14 ?r15 ?r16 ?r17 ?r18 ?r19 ?r20 ?r21 ?r22 ?c_Plain ?c_Below ?c_Balanced ?c_Growing ?c_Falling ?c_Pairs ?i_Plain ?ki_Plain_Plain ?ki_Plain_Below ?ki_Plain_Balanced ?ki_Plain_Growing ?ki_Plain_Falling ?ki_Plain_Pairs ?i_Below ?ki_Below_Plain ?ki_Below_Below ?ki_Below_Balanced ?ki_Below_Growing ?ki_Below_Falling ?ki_Below_Pairs ?i_Balanced ?ki_Balanced_Plain ?ki_Balanced_Below ?ki_Balanced_Balanced ?ki_Balanced_Growing ?ki_Balanced_Falling ?ki_Balanced_Pairs ?i_Growing ?ki_Growing_Plain ?ki_Growing_Below ?ki_Growing_Balanced ?ki_Growing_Growing ?ki_Growing_Falling ?ki_Growing_Pairs ?i_Falling ?ki_Falling_Plain ?ki_Falling_Below ?ki_Falling_Balanced ?ki_Falling_Growing ?ki_Falling_Falling ?ki_Falling_Pairs ?i_Pairs ?ki_Pairs_Plain ?ki_Pairs_Below ?ki_Pairs_Balanced ?ki_Pairs_Growing ?ki_Pairs_Falling ?ki_Pairs_Pairs ?in_ ?it_ ?ex_NoText ?ix_NoText ?em_NoText_NoWay ?em_NoText_OddError ?kx_NoText_NoWay ?kx_NoText_OddError ?kx_NoText_NoText ?kx_NoText_NoNumber ?kx_NoText_NoWriting ?kx_NoText_TooLess ?kx_NoText_NoRatio ?kx_NoText_NoFalling ?kx_NoText_NoPairs ?kx_NoText_Nought ?kx_NoText_NoSpan ?kx_NoText_NoTotal ?kx_NoText_NoRow ?kx_NoText_ValueError ?ex_NoWay ?ix_NoWay ?em_NoWay_NoWay ?em_NoWay_OddError ?kx_NoWay_NoWay ?kx_NoWay_OddError ?kx_NoWay_NoText ?kx_NoWay_NoNumber ?kx_NoWay_NoWriting ?kx_NoWay_TooLess ?kx_NoWay_NoRatio ?kx_NoWay_NoFalling ?kx_NoWay_NoPairs ?kx_NoWay_Nought ?kx_NoWay_NoSpan ?kx_NoWay_NoTotal ?kx_NoWay_NoRow ?kx_NoWay_ValueError ?g_FIGURES ?z_isinstance ?z_int ?z_bool ?z_tuple ?z_len ?z_range ?z_str ?z_ValueError
    case aC_Plain | aC_Below | aC_Balanced | aC_Growing | aC_Falling | aC_Pairs | aC_NoWay | aC_OddError | aC_NoText | aC_NoNumber | aC_NoWriting | aC_TooLess | aC_NoRatio | aC_NoFalling | aC_NoPairs | aC_Nought | aC_NoSpan | aC_NoTotal | aC_NoRow | r1 | r2 | r3 | r4 | a5_Plain | r5 | a6_Below | r6 | a7_Balanced | r7 | a8_Growing | r8 | a9_Falling | r9 | a10_Pairs | r10 | r11 | r12 | r13 | r14 | r15 | r16 | r17 | r18 | r19 | r20 | r21 | r22 | c_Plain | c_Below | c_Balanced | c_Growing | c_Falling | c_Pairs | i_Plain | ki_Plain_Plain | ki_Plain_Below | ki_Plain_Balanced | ki_Plain_Growing | ki_Plain_Falling | ki_Plain_Pairs | i_Below | ki_Below_Plain | ki_Below_Below | ki_Below_Balanced | ki_Below_Growing | ki_Below_Falling | ki_Below_Pairs | i_Balanced | ki_Balanced_Plain | ki_Balanced_Below | ki_Balanced_Balanced | ki_Balanced_Growing | ki_Balanced_Falling | ki_Balanced_Pairs | i_Growing | ki_Growing_Plain | ki_Growing_Below | ki_Growing_Balanced | ki_Growing_Growing | ki_Growing_Falling | ki_Growing_Pairs | i_Falling | ki_Falling_Plain | ki_Falling_Below | ki_Falling_Balanced | ki_Falling_Growing | ki_Falling_Falling | ki_Falling_Pairs | i_Pairs | ki_Pairs_Plain | ki_Pairs_Below | ki_Pairs_Balanced | ki_Pairs_Growing | ki_Pairs_Falling | ki_Pairs_Pairs | in_ | it_ | ex_NoText | ix_NoText | em_NoText_NoWay | em_NoText_OddError | kx_NoText_NoWay | kx_NoText_OddError | kx_NoText_NoText | kx_NoText_NoNumber | kx_NoText_NoWriting | kx_NoText_TooLess | kx_NoText_NoRatio | kx_NoText_NoFalling | kx_NoText_NoPairs | kx_NoText_Nought | kx_NoText_NoSpan | kx_NoText_NoTotal | kx_NoText_NoRow | kx_NoText_ValueError | ex_NoWay | ix_NoWay | em_NoWay_NoWay | em_NoWay_OddError | kx_NoWay_NoWay | kx_NoWay_OddError | kx_NoWay_NoText | kx_NoWay_NoNumber | kx_NoWay_NoWriting | kx_NoWay_TooLess | kx_NoWay_NoRatio | kx_NoWay_NoFalling | kx_NoWay_NoPairs | kx_NoWay_Nought | kx_NoWay_NoSpan | kx_NoWay_NoTotal | kx_NoWay_NoRow | kx_NoWay_ValueError | g_FIGURES | z_isinstance | z_int | z_bool | z_tuple | z_len | z_range | z_str | z_ValueError => walk_at "kk"
