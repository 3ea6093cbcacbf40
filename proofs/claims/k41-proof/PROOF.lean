import PyProof.Rows.All
import Wide.All
import OpenK.AllK
import Wide.FinOn
import Lean
import PyProof.EqAt
import PyProof.EqKinds
import PyProof.TupleCall
import PyProof.NeKinds
import PySem.Challenge.RW_oddbases_k41_order_by_numbers
set_option Elab.async false
set_option linter.all false
set_option maxRecDepth 100000
namespace L2
open PySem PySem.Spec PyProof.Rows

abbrev Key := Sum Int Str
def keyIs : Key → Value → Bool
  | .inl k, v => Value.isInt k v
  | .inr x, v => Value.isStrOf x v
def keyH (w : World) : Key → Int
  | .inl k => hashInt k
  | .inr x => hashStr w x
theorem keyIs_shape : ∀ {k : Key} {v : Value}, keyIs k v = true → (∃ i t, k = Sum.inl i ∧ v = Value.int i t) ∨ (∃ x t, k = Sum.inr x ∧ v = Value.str x t)
  | .inl i, v, h => by
    obtain ⟨t, e⟩ := Value.isInt_shape (k := i) (v := v) h
    exact .inl ⟨i, t, rfl, e⟩
  | .inr x, v, h => by
    obtain ⟨t, e⟩ := Value.isStrOf_shape (x := x) (v := v) h
    exact .inr ⟨x, t, rfl, e⟩
theorem key_ll (a b : Int) : decide ((Sum.inl a : Key) = Sum.inl b) = (a == b) := by
  by_cases e : a = b
  · subst e; simp
  · have h : ¬ (Sum.inl a : Key) = Sum.inl b := fun q => e (Sum.inl.inj q)
    rw [decide_eq_false h]
    exact (beq_eq_false_iff_ne.mpr e).symm
theorem key_rr (a b : Str) : decide ((Sum.inr a : Key) = Sum.inr b) = decide (a = b) := by
  by_cases e : a = b
  · subst e; simp
  · have h : ¬ (Sum.inr a : Key) = Sum.inr b := fun q => e (Sum.inr.inj q)
    rw [decide_eq_false h, decide_eq_false e]
theorem key_lr (a : Int) (b : Str) : decide ((Sum.inl a : Key) = Sum.inr b) = false := decide_eq_false (fun q => nomatch q)
theorem key_rl (a : Str) (b : Int) : decide ((Sum.inr a : Key) = Sum.inl b) = false := decide_eq_false (fun q => nomatch q)

def mixKind (prog : Program) (w : World) : PySem.KeyKind prog w Key where
  is := keyIs
  hash := keyH w
  inj := fun v a b ha hb => by
    rcases keyIs_shape ha with ⟨i, t, rfl, rfl⟩ | ⟨x, t, rfl, rfl⟩
    · rcases keyIs_shape hb with ⟨j, u, rfl, e⟩ | ⟨y, u, rfl, e⟩
      · injection e with e1 _; rw [e1]
      · exact nomatch e
    · rcases keyIs_shape hb with ⟨j, u, rfl, e⟩ | ⟨y, u, rfl, e⟩
      · exact nomatch e
      · injection e with e1 _; rw [e1]
  byValue := fun k v h => by
    rcases keyIs_shape h with ⟨i, t, rfl, rfl⟩ | ⟨x, t, rfl, rfl⟩ <;> rfl
  pyHash := fun hv h => by
    rcases keyIs_shape hv with ⟨i, t, rfl, rfl⟩ | ⟨x, t, rfl, rfl⟩
    · exact wpAny_pyHash_int h
    · exact wpAny_pyHash_str h
  eqBool := fun hu hv h => by
    rcases keyIs_shape hu with ⟨i, t, rfl, rfl⟩ | ⟨x, t, rfl, rfl⟩
    · rcases keyIs_shape hv with ⟨j, u, rfl, rfl⟩ | ⟨y, u, rfl, rfl⟩
      · rw [key_ll] at h; exact wpAny_eqBool_int h
      · rw [key_lr] at h; exact SeqAt.EqAt.int_str i t y u _ _ _ _ h
    · rcases keyIs_shape hv with ⟨j, u, rfl, rfl⟩ | ⟨y, u, rfl, rfl⟩
      · rw [key_rl] at h; exact SeqAt.EqAt.str_int x t j u _ _ _ _ h
      · rw [key_rr] at h; exact wpAny_eqBool_str h
  «strs» := fun k x t v h => by
    rcases keyIs_shape h with ⟨i, u, rfl, e⟩ | ⟨y, u, rfl, e⟩
    · exact nomatch e
    · injection e with e1 _
      subst e1
      cases v <;> rfl

end L2

namespace L2
open PySem PySem.Spec PyProof.Rows

inductive V where
  | non | bl (b : Bool) | int (i : Int) | str (x : Str) | byt (b : Array UInt8) | flt (b : UInt64) | ref (a : Addr) | ty (n : String)
  deriving DecidableEq

def RelV : V → Value → Prop
  | .non, u => u = Value.none
  | .bl b, u => u = Value.bool b
  | .int i, u => ∃ t, u = Value.int i t
  | .str x, u => ∃ t, u = Value.str x t
  | .byt b, u => ∃ t, u = Value.bytes b t
  | .flt b, u => ∃ t, u = Value.float b t
  | .ref a, u => u = Value.ref a
  | .ty n, u => u = Value.type n

abbrev Vals : List V → List Value → Prop := Paired RelV
theorem Vals.length {xs : List V} {us : List Value} (r : Vals xs us) : xs.length = us.length := Paired.length r
theorem Vals.get : ∀ {xs : List V} {us : List Value} {i : Nat} {x : V}, Vals xs us → xs[i]? = some x → ∃ u, us[i]? = some u ∧ RelV x u
  | _, _, _, _, .nil, e => by simp at e
  | _, _, 0, _, .cons r _, e => by simp at e; subst e; exact ⟨_, rfl, r⟩
  | _, _, i + 1, x, .cons _ t, e => by
    obtain ⟨u, h1, h2⟩ := Vals.get (i := i) (x := x) t (by simpa using e)
    exact ⟨u, by simpa using h1, h2⟩
theorem Vals.set {x : V} {u : Value} (r : RelV x u) : ∀ {xs : List V} {us : List Value} (i : Nat), Vals xs us → Vals (xs.set i x) (us.set i u)
  | _, _, _, .nil => .nil
  | _, _, 0, .cons _ t => .cons r t
  | _, _, i + 1, .cons q t => .cons q (Vals.set r i t)
theorem Vals.append : ∀ {xs ys : List V} {us ws : List Value}, Vals xs us → Vals ys ws → Vals (xs ++ ys) (us ++ ws)
  | _, _, _, _, .nil, s => s
  | _, _, _, _, .cons r t, s => .cons r (Vals.append t s)
theorem Vals.take : ∀ {xs : List V} {us : List Value} (n : Nat), Vals xs us → Vals (xs.take n) (us.take n)
  | _, _, 0, _ => .nil
  | _, _, _ + 1, .nil => .nil
  | _, _, n + 1, .cons r t => .cons r (Vals.take n t)
theorem Vals.drop : ∀ {xs : List V} {us : List Value} (n : Nat), Vals xs us → Vals (xs.drop n) (us.drop n)
  | _, _, 0, r => r
  | _, _, _ + 1, .nil => .nil
  | _, _, n + 1, .cons _ t => Vals.drop n t
theorem Vals.none_of : ∀ {xs : List V} {us : List Value} {i : Nat}, Vals xs us → xs[i]? = none → us[i]? = none := fun {xs us i} r e => by
  have h1 := r.length
  have h2 : xs.length ≤ i := List.getElem?_eq_none_iff.mp e
  exact List.getElem?_eq_none_iff.mpr (by omega)

def RelO : Option V → Option Value → Prop
  | some v, some u => RelV v u
  | none, none => True
  | _, _ => False
def KV {κ : Type} : List (κ × V) → List (κ × Value) → Prop := Paired fun (p : κ × V) (q : κ × Value) => p.1 = q.1 ∧ RelV p.2 q.2

def kV : Key → V
  | .inl i => .int i
  | .inr x => .str x

inductive HO where
  /-- a list -/
  | lst (xs : List V)
  /-- a tuple (never changes) -/
  | tup (xs : List V)
  /-- a dict whose keys are ints and texts; one whose keys are tuples of ints and texts (the empty one is both) -/
  | dK (kvs : List (Key × V)) | dT (kvs : List (List Key × V))
  /-- a set of ints: its members, its size -/
  | set (S : Int → Bool) (n : Nat)
  /-- an instance of the class at C, its dict at dx, its attributes -/
  | ins (C dx : Addr) (fs : List (Str × V))
  /-- the dict of the instance at x -/
  | own (x : Addr)
  /-- the dict of an exception -/
  | xd (fs : List (Str × V))
  /-- a bound method, f of x -/
  | met (f x : Addr)
  /-- a range object lo, lo + 1, .. below hi -/
  | rng (lo hi : Int)
  /-- a thing that is known to the object (the script; a dict while a loop walks it): read, never written while it is so -/
  | frz (o : Obj) (u : HO)
  /-- a code object's table -/
  | tbl (ps : Array Value)
  /-- any other thing, by what is true of its one object (a def of one's own: SetO a S n := HO.ext fun h => ..) -/
  | ext (φ : Heap → Prop)

abbrev Hp := Addr → Option HO
def upd (H : Hp) (a : Addr) (o : HO) : Hp := fun b => if b = a then some o else H b
theorem upd_same {H : Hp} {a : Addr} {o : HO} : upd H a o a = some o := by unfold upd; rw [if_pos rfl]
theorem upd_ne {H : Hp} {a b : Addr} {o : HO} (h : b ≠ a) : upd H a o b = H b := by unfold upd; rw [if_neg h]
theorem ne_of_none {H : Hp} {a b : Addr} {o : HO} (h : H a = some o) (h' : H b = none) : a ≠ b := by
  intro e; subst e; rw [h] at h'; cases h'

section
variable (P : Program) (w : World)
def ObjOk (H : Hp) (h : Heap) (a : Addr) : HO → Prop
  | .lst xs => xs.length ≤ sizeLine ∧ ∃ (its : List Value) (n : Nat), Vals xs its ∧ h.get? a = some { cls := .type "list", data := .seq its.toArray n }
  | .tup xs => xs.length ≤ sizeLine ∧ ∃ its : List Value, Vals xs its ∧ IsTup h a its.toArray
  | .dK kvs => kvs.length ≤ sizeLine ∧ (a == sysModules) = false ∧ ∃ vs, KV kvs vs ∧ h.DictOf (mixKind P w) a vs
  | .dT kvs => kvs.length ≤ sizeLine ∧ (a == sysModules) = false ∧ ∃ xs : List (List Key × Addr × Value),
      Paired (fun (p : List Key × V) (q : List Key × Addr × Value) => p.1 = q.1 ∧ H q.2.1 = some (.tup (p.1.map kV)) ∧ RelV p.2 q.2.2) kvs xs ∧
      ∃ o es ep, h.get? a = some o ∧ o.ExactDict ∧ o.data = .dict es ep ∧ es.toList = xs.map (entryOfKey (tupleKind (mixKind P w))) ∧ (xs.map (·.1)).Nodup
  | .set S n => h.SetOf (intKind P w) a S n
  | .ins C dx fs => H dx = some (.own a) ∧ fs.length ≤ 1000 ∧ dx ≠ a ∧ h.get? a = some (PySem.W.instObj C dx) ∧
      ∃ mA, h.Ns1 dx mA ∧ (∀ f, RelO (fs.lookup f) (mA f)) ∧ PySem.Within mA (fs.map (·.1))
  | .own _ => ∃ o, h.get? a = some o
  | .xd fs => ∃ mA, h.Ns1 a mA ∧ ∀ f, RelO (fs.lookup f) (mA f)
  | .rng lo hi => ∃ t u v, h.get? a = some { cls := .type "range", data := .fields #[.int lo t, .int hi u, .int 1 v] }
  | .frz o u => h.get? a = some o ∧ ObjOk H h a u
  | .tbl ps => h.get? a = some { cls := .none, data := .fields ps }
  | .met f x => h.get? a = some (PySem.W.methodObj (.ref f) (.ref x))
  | .ext φ => φ h ∧ (∃ o, h.get? a = some o) ∧ ∀ h1 h2 : Heap, φ h1 → (∀ o, h1.get? a = some o → h2.get? a = some o) → φ h2
def HOk (H : Hp) (h : Heap) : Prop := ∀ a o, H a = some o → ObjOk P w H h a o
end

section
variable {P : Program} {w : World} {H H' : Hp} {h h' : Heap} {a : Addr} {o : HO}
theorem ObjOk.lt (x : ObjOk P w H h a o) : a < h.objs.size := by
  cases o with
  | lst xs => obtain ⟨_, _, _, _, e⟩ := x; exact Heap.lt_size e
  | tup xs => obtain ⟨_, _, _, p⟩ := x; exact p.lt
  | dK kvs => obtain ⟨_, _, _, _, o, _, _, e, _⟩ := x; exact Heap.lt_size e
  | dT kvs => obtain ⟨_, _, _, _, o, _, _, e, _⟩ := x; exact Heap.lt_size e
  | set S n => obtain ⟨o, _, _, _, e, _⟩ := x; exact Heap.lt_size e
  | ins C dx fs => obtain ⟨_, _, _, e, _⟩ := x; exact Heap.lt_size e
  | own y => obtain ⟨_, e⟩ := x; exact Heap.lt_size e
  | xd fs => obtain ⟨_, ⟨_, _, _, e, _⟩, _⟩ := x; exact Heap.lt_size e
  | rng lo hi => obtain ⟨_, _, _, e⟩ := x; exact Heap.lt_size e
  | frz ob u => obtain ⟨e, _⟩ := x; exact Heap.lt_size e
  | tbl ps => exact Heap.lt_size (show h.get? a = some _ from x)
  | met f y => exact Heap.lt_size (show h.get? a = some _ from x)
  | ext φ => obtain ⟨_, ⟨_, e⟩, _⟩ := x; exact Heap.lt_size e
theorem Paired.mapP {α β : Type} {F G : α → β → Prop} : ∀ {l₁ : List α} {l₂ : List β}, Paired F l₁ l₂ → (∀ a b, F a b → G a b) → Paired G l₁ l₂
  | _, _, .nil, _ => .nil
  | _, _, .cons r t, f => .cons (f _ _ r) (Paired.mapP t f)
theorem ObjOk.stay (x : ObjOk P w H h a o) (k : ∀ b u, (b = a ∨ H b = some (.own a)) → h.get? b = some u → h'.get? b = some u)
    (ho : ∀ b, H b = some (.own a) → H' b = some (.own a)) (ht : ∀ b xs, H b = some (.tup xs) → H' b = some (.tup xs)) : ObjOk P w H' h' a o := by
  induction o with
  | lst xs => obtain ⟨z, its, n, r, e⟩ := x; exact ⟨z, its, n, r, k _ _ (.inl rfl) e⟩
  | tup xs => obtain ⟨z, its, r, ob, e, c⟩ := x; exact ⟨z, its, r, ob, k _ _ (.inl rfl) e, c⟩
  | dK kvs => obtain ⟨z, y, vs, r, ob, es, ep, e, c⟩ := x; exact ⟨z, y, vs, r, ob, es, ep, k _ _ (.inl rfl) e, c⟩
  | dT kvs =>
    obtain ⟨z, y, xs, r, ob, es, ep, e, c⟩ := x
    exact ⟨z, y, xs, Paired.mapP r fun p q z => ⟨z.1, ht _ _ z.2.1, z.2.2⟩, ob, es, ep, k _ _ (.inl rfl) e, c⟩
  | set S n => obtain ⟨ob, es, ep, t, e, c⟩ := x; exact ⟨ob, es, ep, t, k _ _ (.inl rfl) e, c⟩
  | ins C dx fs =>
    obtain ⟨d, z, ne, e, mA, ⟨od, es, ep, e2, c⟩, r⟩ := x
    exact ⟨ho _ d, z, ne, k _ _ (.inl rfl) e, mA, ⟨od, es, ep, k _ _ (.inr d) e2, c⟩, r⟩
  | own y => obtain ⟨ob, e⟩ := x; exact ⟨ob, k _ _ (.inl rfl) e⟩
  | xd fs => obtain ⟨mA, ⟨od, es, ep, e, c⟩, r⟩ := x; exact ⟨mA, ⟨od, es, ep, k _ _ (.inl rfl) e, c⟩, r⟩
  | rng lo hi => obtain ⟨t, u, v, e⟩ := x; exact ⟨t, u, v, k _ _ (.inl rfl) e⟩
  | frz ob u ih => obtain ⟨e, q⟩ := x; exact ⟨k _ _ (.inl rfl) e, ih q⟩
  | tbl ps =>
    have e : h.get? a = some { cls := .none, data := .fields ps } := x
    show h'.get? a = some { cls := .none, data := .fields ps }
    exact k a _ (.inl rfl) e
  | met f y =>
    have e : h.get? a = some (PySem.W.methodObj (.ref f) (.ref y)) := x
    show h'.get? a = some (PySem.W.methodObj (.ref f) (.ref y))
    exact k a _ (.inl rfl) e
  | ext φ => obtain ⟨p, ⟨o, e⟩, st⟩ := x; exact ⟨st _ _ p fun o q => k _ _ (.inl rfl) q, ⟨o, k _ _ (.inl rfl) e⟩, st⟩
theorem HOk.lt (x : HOk P w H h) (e : H a = some o) : a < h.objs.size := (x a o e).lt
theorem HOk.fresh (x : HOk P w H h) (e : h.objs.size ≤ a) : H a = none := by
  cases q : H a with
  | none => rfl
  | some u => exact absurd (Nat.lt_of_lt_of_le (x.lt q) e) (Nat.lt_irrefl _)
theorem HOk.kept (x : HOk P w H h) (k : ∀ b u, h.get? b = some u → h'.get? b = some u) : HOk P w H h' := fun a o e =>
  (x a o e).stay (fun b u _ q => k b u q) (fun _ q => q) fun _ _ q => q
theorem HOk.laid (x : HOk P w H h) (k : ∀ b u, h.get? b = some u → h'.get? b = some u) (hp : h.objs.size ≤ a) (new : ObjOk P w (upd H a o) h' a o) : HOk P w (upd H a o) h' := fun b u e => by
  have hn := x.fresh hp
  by_cases hb : b = a
  · subst hb; rw [upd_same] at e; cases e; exact new
  · rw [upd_ne hb] at e
    exact (x b u e).stay (fun c v _ q => k c v q) (fun c q => by rw [upd_ne (ne_of_none q hn)]; exact q) fun c xs q => by rw [upd_ne (ne_of_none q hn)]; exact q
end

def Rd (H : Hp) (a : Addr) (u : HO) : Prop := H a = some u ∨ ∃ o, H a = some (.frz o u)
theorem Rd.of {H : Hp} {a : Addr} {u : HO} (h : H a = some u) : Rd H a u := .inl h
theorem Rd.ok {P : Program} {w : World} {H : Hp} {h : Heap} {a : Addr} {u : HO} (r : Rd H a u) (x : HOk P w H h) : ObjOk P w H h a u := by
  rcases r with r | ⟨o, r⟩
  · exact x a u r
  · obtain ⟨_, q⟩ := x a _ r
    exact q
def Mut : Option HO → Prop
  | some (.lst _) => True
  | some (.dK _) => True
  | some (.dT _) => True
  | some (.set _ _) => True
  | some (.ins _ _ _) => True
  | some (.ext _) => True
  | _ => False
section
variable {P : Program} {w : World} {H : Hp} {h h' : Heap} {x e : Addr} {o' : HO}
theorem HOk.write (ok : HOk P w H h) (mu : Mut (H x)) (he : e = x ∨ H e = some (.own x)) (k : ∀ b u, b ≠ e → h.get? b = some u → h'.get? b = some u) (heo : ∃ u, h'.get? e = some u)
    (new : ObjOk P w (upd H x o') h' x o') : HOk P w (upd H x o') h' := fun b u q => by
  have nown : ∀ c y, H c = some (.own y) → c ≠ x := fun c y r z => by subst z; rw [r] at mu; exact mu
  have ntup : ∀ c xs, H c = some (.tup xs) → c ≠ x := fun c xs r z => by subst z; rw [r] at mu; exact mu
  by_cases hb : b = x
  · subst hb; rw [upd_same] at q; cases q; exact new
  · rw [upd_ne hb] at q
    by_cases hbe : b = e
    · have q' : H b = some (.own x) := by
        rcases he with z | z
        · exact absurd (hbe.trans z) hb
        · rw [hbe]; exact z
      rw [q] at q'; cases q'
      obtain ⟨v, hv⟩ := heo
      exact ⟨v, by rw [hbe]; exact hv⟩
    · refine (ok b u q).stay (fun c v hc r => k c v ?_ r) (fun c r => by rw [upd_ne (nown c b r)]; exact r) fun c xs r => by rw [upd_ne (ntup c xs r)]; exact r
      rcases hc with rfl | hc
      · exact hbe
      · rintro rfl
        rcases he with z | z
        · exact nown c b hc z
        · rw [hc] at z; cases z; exact hb rfl
end

structure Un (fs ex : List Addr) (H H' : Hp) (h h' : Heap) : Prop where
  keep : ∀ b o, h.get? b = some o → H b = none → b ∉ fs → b ∉ ex → h'.get? b = some o
  slot : ∀ b o, h.get? b = some o → H b = none → b ∈ fs → b ∉ ex → ∃ sl, h'.get? b = some { o with slots := sl }
  free : ∀ b o, h.get? b = some o → H b = none → b ∉ ex → H' b = none
  there : ∀ b o, h.get? b = some o → b ∉ ex → ∃ o', h'.get? b = some o'
  tups : ∀ b xs, H b = some (.tup xs) → H' b = some (.tup xs)
  frzs : ∀ b o u, H b = some (.frz o u) → H' b = some (.frz o u)
  tbls : ∀ b ps, H b = some (.tbl ps) → ∃ more, H' b = some (.tbl (ps ++ more))
section
variable {fs fs' ex ex' : List Addr} {H H1 H2 : Hp} {h h1 h2 h' : Heap} {a x e : Addr} {o : HO}
theorem Un.any (u : Un fs ex H H1 h h1) {b : Addr} {ob : Obj} (q : h.get? b = some ob) (n : H b = none) (hx : b ∉ ex) : ∃ sl, h1.get? b = some { ob with slots := sl } := by
  by_cases hb : b ∈ fs
  · exact u.slot b ob q n hb hx
  · exact ⟨ob.slots, u.keep b ob q n hb hx⟩
theorem Un.trans (a : Un fs ex H H1 h h1) (b : Un fs ex H1 H2 h1 h2) : Un fs ex H H2 h h2 where
  keep := fun c ob q n hc hx => b.keep c ob (a.keep c ob q n hc hx) (a.free c ob q n hx) hc hx
  slot := fun c ob q n hc hx => by
    obtain ⟨sl, e1⟩ := a.slot c ob q n hc hx
    obtain ⟨sl', e2⟩ := b.slot c _ e1 (a.free c ob q n hx) hc hx
    exact ⟨sl', e2⟩
  free := fun c ob q n hx => by
    obtain ⟨o', e1⟩ := a.there c ob q hx
    exact b.free c o' e1 (a.free c ob q n hx) hx
  there := fun c ob q hx => by
    obtain ⟨o', e1⟩ := a.there c ob q hx
    exact b.there c o' e1 hx
  tups := fun c xs q => b.tups c xs (a.tups c xs q)
  frzs := fun c ob xs q => b.frzs c ob xs (a.frzs c ob xs q)
  tbls := fun c ps q => by
    obtain ⟨m1, e1⟩ := a.tbls c ps q
    obtain ⟨m2, e2⟩ := b.tbls c _ e1
    exact ⟨m1 ++ m2, by rw [e2, Array.append_assoc]⟩
theorem Un.kept (k : ∀ b u, h.get? b = some u → h'.get? b = some u) : Un fs ex H H h h' :=
  ⟨fun b ob q _ _ _ => k b ob q, fun b ob q _ _ _ => ⟨ob.slots, k b ob q⟩, fun _ _ _ n _ => n, fun b ob q _ => ⟨ob, k b ob q⟩, fun _ _ q => q, fun _ _ _ q => q, fun _ ps q => ⟨#[], by rw [q]; simp⟩⟩
theorem Un.refl : Un fs ex H H h h := Un.kept fun _ _ q => q
theorem Un.laid (k : ∀ b u, h.get? b = some u → h'.get? b = some u) (hp : h.objs.size ≤ a) (hn : H a = none) : Un fs ex H (upd H a o) h h' where
  keep := fun b u q _ _ _ => k b u q
  slot := fun b u q _ _ _ => ⟨u.slots, k b u q⟩
  free := fun b u q n _ => by rw [upd_ne (Nat.ne_of_lt (Nat.lt_of_lt_of_le (Heap.lt_size q) hp))]; exact n
  there := fun b u q _ => ⟨u, k b u q⟩
  tups := fun b xs q => by rw [upd_ne (ne_of_none q hn)]; exact q
  frzs := fun b u xs q => by rw [upd_ne (ne_of_none q hn)]; exact q
  tbls := fun b ps q => ⟨#[], by rw [upd_ne (ne_of_none q hn), q]; simp⟩
theorem Un.write (mu : Mut (H x)) (he : e = x ∨ H e = some (.own x)) (k : ∀ b u, b ≠ e → h.get? b = some u → h'.get? b = some u) (heo : ∃ u, h'.get? e = some u) : Un fs ex H (upd H x o) h h' := by
  have hx : ∀ b, H b = none → b ≠ x := fun b n z => by subst z; rw [n] at mu; exact mu
  have hb : ∀ b, H b = none → b ≠ e := fun b n z => by
    subst z
    rcases he with r | r
    · exact hx b n r
    · rw [n] at r; cases r
  have hm : ∀ b u, H b = some u → ¬ Mut (some u) → b ≠ x := fun b u q nm z => by subst z; rw [q] at mu; exact nm mu
  refine ⟨fun b u q n _ _ => k b u (hb b n) q, fun b u q n _ _ => ⟨u.slots, k b u (hb b n) q⟩, fun b u q n _ => by rw [upd_ne (hx b n)]; exact n, fun b u q _ => ?_,
    fun b xs q => by rw [upd_ne (hm b _ q fun z => z)]; exact q, fun b u xs q => by rw [upd_ne (hm b _ q fun z => z)]; exact q, fun b ps q => ⟨#[], by rw [upd_ne (hm b _ q fun z => z), q]; simp⟩⟩
  by_cases hbe : b = e
  · subst hbe; exact heo
  · exact ⟨u, k b u hbe q⟩
theorem Un.mono (u : Un fs ex H H1 h h1) (hs : ∀ b ∈ fs, b ∈ fs') (hx : ∀ b ∈ ex, b ∈ ex') : Un fs' ex' H H1 h h1 :=
  ⟨fun b ob q n hb he => u.keep b ob q n (fun z => hb (hs b z)) fun z => he (hx b z), fun _ _ q n _ he => u.any q n fun z => he (hx _ z), fun b ob q n he => u.free b ob q n fun z => he (hx b z), fun b ob q he => u.there b ob q fun z => he (hx b z), u.tups, u.frzs, u.tbls⟩
end

def trk (h : Heap) (H : Hp) : List Addr := (List.range h.objs.size).filter fun a => (H a).isSome
def hidT (h : Heap) (H : Hp) : Heap := PySem.W.hideAll h (trk h H)
theorem hidT_size (h : Heap) (H : Hp) : (hidT h H).objs.size = h.objs.size := PySem.W.hideAll_size _ _
theorem hidT_get {h : Heap} {H : Hp} {b : Addr} {o : Obj} (e : h.get? b = some o) (n : H b = none) : (hidT h H).get? b = some o :=
  PySem.W.hideAll_get _ e fun hm => by
    have q : (H b).isSome = true := (List.mem_filter.mp hm).2
    rw [n] at q; simp at q
theorem of_hidT {h : Heap} {H : Hp} {b : Addr} {o : Obj} (e : (hidT h H).get? b = some o) : h.get? b = some o ∧ H b = none := by
  have e' : h.get? b = some o := PySem.W.of_hideAll (trk h H) e
  refine ⟨e', ?_⟩
  cases q : H b with
  | none => rfl
  | some x =>
    have hm : b ∈ trk h H := List.mem_filter.mpr ⟨List.mem_range.mpr (Heap.lt_size e'), by simp [q]⟩
    have z : (hidT h H).get? b = none := PySem.W.hideAll_none (trk h H) hm
    rw [z] at e; cases e

def allNews (g h : Heap) (L : Addr) : List (Addr × Obj) := (List.range h.objs.size).filterMap fun a => if a = L ∨ (g.get? a).isSome = true then none else (h.get? a).map fun o => (a, o)
def rest (g h : Heap) (L d : Addr) : List (Addr × Obj) := (allNews g h L).filter fun p => decide (p.1 ≠ d)
end L2

namespace L2
open PySem PySem.Spec PyProof.Rows

structure Mod (K : PySem.W.Frag) (mg : Str → Option Value) (base : Heap) : Prop where
  kin : K.In base
  glob : base.Ns mainGlobals mg
  blt : ∃ mb, base.Ns builtinsNs mb ∧ ∀ x : Str, x ≠ "__name__" → mb x = bootBuiltins x
  nolimit : base.NoLimit

structure Cx where
  prog : Program
  w : World
  K : PySem.W.Frag
  mg : Str → Option Value
  base : Heap
  A : Around
  N : List Str
  s₀ : Shared
  H₀ : Hp
  env : Env
  outer : List Env
  stack : List Env
  ex : List Addr
  fn : Str → Bool
  calm : Bool
  pn : List (Addr × Obj)
  xe : Value → Shared → Prop
def frs (l : List Env) : List Addr := l.filterMap (·.frame)
abbrev Cx.fs (X : Cx) : List Addr := frs X.outer

def Vis (sc : Scope) (x : Str) : Prop := sc.names.lookup x = some .local ∨ sc.names.lookup x = some .cell ∨ sc.names.lookup x = some .free
def Loc (sc : Scope) (x : Str) : Prop := sc.names.lookup x = some .local ∨ sc.names.lookup x = some .cell
def Look (env : Env) (h : Heap) (m : Str → Option Value) (x : Str) (u : Value) : Prop :=
  (env.kindOf x = some .local ∧ m x = some u) ∨ ((env.kindOf x = some .cell ∨ env.kindOf x = some .free) ∧ ∃ c, env.cells.lookup x = some c ∧ h.IsCell c (some u))

structure Cx.Ok (X : Cx) : Prop where
  mod : Mod X.K X.mg X.base
  kind : X.env.scope.kind = .function
  glob : X.env.globals = mainGlobals
  blt : X.env.builtins = builtinsNs
  above : X.s₀.heap.objs.size ≤ X.env.locals
  inj : ∀ x y c, X.env.cells.lookup x = some c → X.env.cells.lookup y = some c → x = y
  has : ∀ x, (X.env.kindOf x = some .cell ∨ X.env.kindOf x = some .free) → ∃ c, X.env.cells.lookup x = some c
  cab : ∀ x c, X.fn x = true → X.env.cells.lookup x = some c → X.s₀.heap.objs.size ≤ c
  hd : X.calm = true → X.A.handled = none
  frames : X.A.frames = some X.stack
  stk : X.stack = X.outer ∨ (X.stack = X.env :: X.outer ∧ X.env.frame = some X.env.locals)
  exf : ∀ b ∈ X.ex, b ≠ X.env.locals ∧ ∀ x c, X.env.cells.lookup x = some c → c ≠ b
  bs : ∀ b o, X.base.get? b = some o → X.s₀.heap.get? b = some o ∧ X.H₀ b = none
  bsz : X.base.objs.size ≤ X.s₀.heap.objs.size
  noex : ∀ b o, X.base.get? b = some o → b ∉ X.ex
  exfs : ∀ b ∈ X.ex, b ∉ X.fs
  funs : X.s₀.heap.FunFrames X.base X.outer
  frf : ∀ b ∈ X.fs, X.H₀ b = none

structure Inv (X : Cx) (pins : List (Addr × Obj)) (σ : List (Option V)) (H : Hp) (s : Shared) : Prop where
  ok : X.Ok
  os : s.os = X.s₀.os
  bare : AllBare s.gens
  base : Un X.fs X.ex X.H₀ H X.s₀.heap s.heap
  loc : ∃ m, s.heap.Ns X.env.locals m ∧ ∀ (i : Nat) (x : Str) (v : V), X.N[i]? = some x → σ[i]? = some (some v) → Vis X.env.scope x → ∃ u, RelV v u ∧ Look X.env s.heap m x u
  cell : ∀ x c, X.env.cells.lookup x = some c → ∃ v, s.heap.IsCell c v
  free : H X.env.locals = none
  freeC : ∀ x c, X.env.cells.lookup x = some c → H c = none
  pin : ∀ p ∈ X.pn ++ pins, s.heap.get? p.1 = some p.2 ∧ H p.1 = none ∧ p.1 ≠ X.env.locals ∧ p.1 ∉ X.fs ∧ ∀ v, p.2.data ≠ .cell v
  hok : HOk X.prog X.w H s.heap
  len : σ.length = X.N.length

section
variable {X : Cx} {pins : List (Addr × Obj)} {σ : List (Option V)} {H H' : Hp} {s : Shared} {h' : Heap}

theorem Cx.Ok.nofr (ok : X.Ok) {b : Addr} {o : Obj} (e : X.base.get? b = some o) : b ∉ X.fs := fun hb => by
  have := (ok.funs.mem hb).1
  rw [e] at this; cases this
theorem Inv.bs (I : Inv X pins σ H s) : ∀ b o, X.base.get? b = some o → s.heap.get? b = some o ∧ H b = none := fun b o e =>
  ⟨I.base.keep b o (I.ok.bs b o e).1 (I.ok.bs b o e).2 (I.ok.nofr e) (I.ok.noex b o e), I.base.free b o (I.ok.bs b o e).1 (I.ok.bs b o e).2 (I.ok.noex b o e)⟩
theorem Inv.bk (I : Inv X pins σ H s) : ∀ b o, X.base.get? b = some o → s.heap.get? b = some o := fun b o e => (I.bs b o e).1
theorem Inv.mod (I : Inv X pins σ H s) : Mod X.K X.mg X.base := I.ok.mod
theorem Inv.kIn (I : Inv X pins σ H s) : X.K.In s.heap := I.ok.mod.kin.keeps I.bk
theorem Inv.nolimit (I : Inv X pins σ H s) : s.heap.NoLimit := I.ok.mod.nolimit.keeps I.bk
theorem Inv.fr (I : Inv X pins σ H s) : ∃ m, Fr X.base X.env.locals s.heap m :=
  let ⟨m, hn, _⟩ := I.loc
  ⟨m, hn, I.bk, Nat.le_trans I.ok.bsz I.ok.above⟩
theorem Inv.lt (I : Inv X pins σ H s) : X.env.locals < s.heap.objs.size := let ⟨_, hn, _⟩ := I.loc; hn.lt
theorem Inv.sz (I : Inv X pins σ H s) : X.s₀.heap.objs.size ≤ s.heap.objs.size := Nat.le_trans I.ok.above (Nat.le_of_lt I.lt)
theorem Inv.nofs (I : Inv X pins σ H s) {a : Addr} (h : s.heap.objs.size ≤ a) : a ∉ X.fs := fun hb => by
  obtain ⟨_, o, ho, _⟩ := I.ok.funs.mem hb
  exact absurd (Nat.lt_of_lt_of_le (Heap.lt_size ho) (Nat.le_trans I.sz h)) (Nat.lt_irrefl _)
theorem Inv.cne (I : Inv X pins σ H s) : ∀ x c, X.env.cells.lookup x = some c → c ≠ X.env.locals := fun x c e z => by
  obtain ⟨v, o, ho, hd⟩ := I.cell x c e
  obtain ⟨m, ⟨o', es, ep, ho', hd', _⟩, _⟩ := I.loc
  rw [z, ho'] at ho; cases ho; rw [hd'] at hd; cases hd
theorem Inv.funs (I : Inv X pins σ H s) : s.heap.FunFrames X.base X.outer := by
  have all : ∀ (l : List Env), (∀ b ∈ frs l, b ∈ X.fs) → X.s₀.heap.FunFrames X.base l → s.heap.FunFrames X.base l := by
    intro l
    induction l with
    | nil => intro _ _; trivial
    | cons env r ih =>
      intro hs hl
      obtain ⟨hk, ⟨L, o, hf, hn, ho, hd⟩, hr⟩ := hl
      have hL : L ∈ X.fs := hs L (by unfold frs; rw [List.filterMap_cons, hf]; exact List.mem_cons_self)
      obtain ⟨sl, e⟩ := I.base.slot L o ho (I.ok.frf L hL) hL fun z => I.ok.exfs L z hL
      exact ⟨hk, ⟨L, _, hf, hn, e, hd⟩, ih (fun b hb => hs b (by unfold frs; rw [List.filterMap_cons, hf]; exact List.mem_cons_of_mem _ hb)) hr⟩
  exact all X.outer (fun _ hb => hb) I.ok.funs

theorem Inv.stack (I : Inv X pins σ H s) : s.heap.FunFrames X.base X.stack := by
  rcases I.ok.stk with e | ⟨e, hf⟩
  · rw [e]; exact I.funs
  · rw [e]
    obtain ⟨m, hn, _⟩ := I.loc
    refine .cons (by rw [I.ok.kind]; decide) hf hn ?_ I.funs
    exact Heap.get?_none_of_le (Nat.le_trans I.ok.bsz I.ok.above)
theorem Inv.stkSub (I : Inv X pins σ H s) : ∀ b ∈ frs X.stack, b ∈ X.env.locals :: X.fs := fun b hb => by
  rcases I.ok.stk with e | ⟨e, hf⟩
  · rw [e] at hb; exact List.mem_cons_of_mem _ hb
  · rw [e] at hb
    unfold frs at hb
    rw [List.filterMap_cons, hf] at hb
    exact hb
theorem Inv.stkFree (I : Inv X pins σ H s) : ∀ b ∈ frs X.stack, H b = none := fun b hb => by
  rcases List.mem_cons.mp (I.stkSub b hb) with e | hb
  · rw [e]; exact I.free
  · obtain ⟨_, o, ho, _⟩ := I.ok.funs.mem hb
    exact I.base.free b o ho (I.ok.frf b hb) fun z => I.ok.exfs b z hb

theorem Inv.step {g' : Array GenState} {t' : Nat} {d' : Drawn} {ch : List Addr} (I : Inv X pins σ H s)
    (hch : ∀ b ∈ ch, (b ∈ X.ex ∨ X.s₀.heap.objs.size ≤ b) ∧ b ≠ X.env.locals ∧ (∀ x c, X.env.cells.lookup x = some c → c ≠ b) ∧ ∀ p ∈ X.pn ++ pins, p.1 ≠ b)
    (keep : ∀ b o, b ≠ X.env.locals → b ∉ X.fs → b ∉ ch → s.heap.get? b = some o → H b = none → h'.get? b = some o)
    (slot : ∀ b o, b ≠ X.env.locals → b ∈ X.fs → b ∉ ch → s.heap.get? b = some o → H b = none → ∃ sl, h'.get? b = some { o with slots := sl }) (free : ∀ b o, b ∉ ch → s.heap.get? b = some o → H b = none → H' b = none)
    (there : ∀ b o, b ∉ ch → s.heap.get? b = some o → ∃ o', h'.get? b = some o')
    (tups : ∀ b xs, H b = some (.tup xs) → H' b = some (.tup xs)) (frzs : ∀ b o u, H b = some (.frz o u) → H' b = some (.frz o u)) (tbls : ∀ b ps, H b = some (.tbl ps) → ∃ more, H' b = some (.tbl (ps ++ more)))
    (ns : ∀ m, s.heap.Ns X.env.locals m → h'.Ns X.env.locals m) (hok : HOk X.prog X.w H' h') (hg : AllBare g') :
    Inv X pins σ H' { s with heap := h', gens := g', drawn := d', toks := t' } := by
  have neL : ∀ b o, X.s₀.heap.get? b = some o → b ≠ X.env.locals := fun b o e => Nat.ne_of_lt (Nat.lt_of_lt_of_le (Heap.lt_size e) I.ok.above)
  have neC : ∀ b o, X.s₀.heap.get? b = some o → b ∉ X.ex → b ∉ ch := fun b o e hx hb => by
    rcases (hch b hb).1 with z | z
    · exact hx z
    · exact absurd (Nat.lt_of_lt_of_le (Heap.lt_size e) z) (Nat.lt_irrefl _)
  have cellK : ∀ x c, X.env.cells.lookup x = some c → ∀ v, s.heap.IsCell c v → h'.IsCell c v := fun x c e v ⟨o, ho, hd⟩ => by
    have nch : c ∉ ch := fun z => (hch c z).2.2.1 x c e rfl
    by_cases hc : c ∈ X.fs
    · obtain ⟨sl, q⟩ := slot c o (I.cne x c e) hc nch ho (I.freeC x c e)
      exact ⟨_, q, hd⟩
    · exact ⟨o, keep c o (I.cne x c e) hc nch ho (I.freeC x c e), hd⟩
  refine ⟨I.ok, I.os, hg, ⟨fun b o e n hb hx => ?_, fun b o e n hb hx => ?_, fun b o e n hx => ?_, fun b o e hx => ?_, fun b xs e => tups b xs (I.base.tups b xs e), fun b o xs e => frzs b o xs (I.base.frzs b o xs e), fun b ps e => ?_⟩, ?_, fun x c e => ?_, ?_, fun x c e => ?_, fun p hp => ?_, hok, I.len⟩
  · exact keep b o (neL b o e) hb (neC b o e hx) (I.base.keep b o e n hb hx) (I.base.free b o e n hx)
  · obtain ⟨sl, e1⟩ := I.base.slot b o e n hb hx
    obtain ⟨sl', e2⟩ := slot b _ (neL b o e) hb (neC b o e hx) e1 (I.base.free b o e n hx)
    exact ⟨sl', e2⟩
  · obtain ⟨o', e1⟩ := I.base.there b o e hx
    exact free b o' (neC b o e hx) e1 (I.base.free b o e n hx)
  · obtain ⟨o', e1⟩ := I.base.there b o e hx
    exact there b o' (neC b o e hx) e1
  · obtain ⟨m1, e1⟩ := I.base.tbls b ps e
    obtain ⟨m2, e2⟩ := tbls b _ e1
    exact ⟨m1 ++ m2, by rw [e2, Array.append_assoc]⟩
  · obtain ⟨m, hn, hl⟩ := I.loc
    refine ⟨m, ns m hn, fun i x v e1 e2 e3 => ?_⟩
    obtain ⟨u, r, l⟩ := hl i x v e1 e2 e3
    refine ⟨u, r, ?_⟩
    rcases l with l | ⟨k, c, e, z⟩
    · exact .inl l
    · exact .inr ⟨k, c, e, cellK x c e _ z⟩
  · obtain ⟨v, z⟩ := I.cell x c e
    exact ⟨v, cellK x c e v z⟩
  · obtain ⟨m, ⟨o, _, _, ho, _⟩, _⟩ := I.loc
    exact free _ o (fun z => (hch _ z).2.1 rfl) ho I.free
  · obtain ⟨v, o, ho, hd⟩ := I.cell x c e
    exact free c o (fun z => (hch c z).2.2.1 x c e rfl) ho (I.freeC x c e)
  · obtain ⟨e, n, ne, nf, d⟩ := I.pin p hp
    have nch : p.1 ∉ ch := fun z => (hch p.1 z).2.2.2 p hp rfl
    exact ⟨keep p.1 p.2 ne nf nch e n, free p.1 p.2 nch e n, ne, nf, d⟩
theorem Inv.un {t' : Nat} (I : Inv X pins σ H s) (u : Un X.fs [] H H' s.heap h') (hok : HOk X.prog X.w H' h') : Inv X pins σ H' { s with heap := h', toks := t' } := by
  obtain ⟨m, ⟨o, es, ep, ho, r⟩, _⟩ := id I.loc
  obtain ⟨sl, hL⟩ := u.any ho I.free (by simp)
  exact I.step (g' := s.gens) (d' := s.drawn) (ch := []) (fun _ z => nomatch z) (fun b o _ hb _ e n => u.keep b o e n hb (by simp)) (fun b o _ hb _ e n => u.slot b o e n hb (by simp)) (fun b o _ e n => u.free b o e n (by simp)) (fun b o _ e => u.there b o e (by simp)) u.tups u.frzs u.tbls (fun m' hm => by
    obtain ⟨o', es', ep', ho', r'⟩ := hm
    rw [ho] at ho'; cases ho'
    exact ⟨_, es', ep', hL, r'⟩) hok I.bare
theorem Inv.call {g' : Array GenState} {t' : Nat} {d' : Drawn} {ch : List Addr} (I : Inv X pins σ H s) (u : Un (frs X.stack) ch H H' s.heap h') (hok : HOk X.prog X.w H' h') (hg : AllBare g')
    (hch : ∀ b ∈ ch, (b ∈ X.ex ∨ X.s₀.heap.objs.size ≤ b) ∧ b ≠ X.env.locals ∧ (∀ x c, X.env.cells.lookup x = some c → c ≠ b) ∧ ∀ p ∈ X.pn ++ pins, p.1 ≠ b) :
    Inv X pins σ H' { s with heap := h', gens := g', drawn := d', toks := t' } := by
  obtain ⟨m, ⟨o, es, ep, ho, r⟩, _⟩ := id I.loc
  obtain ⟨sl, hL⟩ := u.any ho I.free fun z => (hch _ z).2.1 rfl
  exact I.step (ch := ch) hch (fun b o hL hb hc e n => u.keep b o e n (fun z => (List.mem_cons.mp (I.stkSub b z)).elim hL hb) hc) (fun b o _ _ hc e n => u.any e n hc) (fun b o hc e n => u.free b o e n hc) (fun b o hc e => u.there b o e hc) u.tups u.frzs u.tbls (fun m' hm => by
    obtain ⟨o', es', ep', ho', r'⟩ := hm
    rw [ho] at ho'; cases ho'
    exact ⟨_, es', ep', hL, r'⟩) hok hg
theorem Inv.turned {t' : Nat} {it : Addr} (I : Inv X pins σ H s) (k : ∀ b o, b ≠ it → s.heap.get? b = some o → h'.get? b = some o) (hn : H it = none) (hL : it ≠ X.env.locals)
    (h1 : it ∈ X.ex ∨ X.s₀.heap.objs.size ≤ it) (h2 : ∀ x c, X.env.cells.lookup x = some c → c ≠ it) (h3 : ∀ p ∈ X.pn ++ pins, p.1 ≠ it) : Inv X pins σ H { s with heap := h', toks := t' } := by
  have nit : ∀ b u, H b = some u → b ≠ it := fun b u e z => by rw [z, hn] at e; cases e
  refine I.step (g' := s.gens) (d' := s.drawn) (ch := [it]) (fun b hb => ?_) (fun b o _ _ hc e _ => k b o (fun z => hc (by simp [z])) e) (fun b o _ _ hc e _ => ⟨o.slots, k b o (fun z => hc (by simp [z])) e⟩) (fun _ _ _ _ n => n)
    (fun b o hc e => ⟨o, k b o (fun z => hc (by simp [z])) e⟩) (fun _ _ e => e) (fun _ _ _ e => e) (fun b ps e => ⟨#[], by rw [e]; simp⟩) (fun m hm => ?_) (fun b u e => ?_) I.bare
  · have e : b = it := by simpa using hb
    subst e
    exact ⟨h1, hL, h2, h3⟩
  · obtain ⟨o, es, ep, ho, r⟩ := hm
    exact ⟨o, es, ep, k _ o (Ne.symm hL) ho, r⟩
  · refine (I.hok b u e).stay (fun c v hc q => k c v ?_ q) (fun _ q => q) fun _ _ q => q
    rcases hc with z | z
    · rw [z]; exact nit b u e
    · exact nit c _ z
theorem Inv.tok (I : Inv X pins σ H s) (t : Nat) : Inv X pins σ H { s with toks := t } := I.un (h' := s.heap) (t' := t) Un.refl I.hok
theorem Inv.kept {t' : Nat} (I : Inv X pins σ H s) (k : ∀ b u, s.heap.get? b = some u → h'.get? b = some u) : Inv X pins σ H { s with heap := h', toks := t' } := I.un (Un.kept k) (I.hok.kept k)
theorem Inv.laid {a : Addr} {o : HO} {t' : Nat} (I : Inv X pins σ H s) (k : ∀ b u, s.heap.get? b = some u → h'.get? b = some u) (hp : s.heap.objs.size ≤ a) (new : ObjOk X.prog X.w (upd H a o) h' a o) :
    Inv X pins σ (upd H a o) { s with heap := h', toks := t' } := I.un (Un.laid k hp (I.hok.fresh hp)) (I.hok.laid k hp new)
theorem Inv.write {x e : Addr} {o : HO} {t' : Nat} (I : Inv X pins σ H s) (mu : Mut (H x)) (he : e = x ∨ H e = some (.own x)) (k : ∀ b u, b ≠ e → s.heap.get? b = some u → h'.get? b = some u) (heo : ∃ u, h'.get? e = some u)
    (new : ObjOk X.prog X.w (upd H x o) h' x o) : Inv X pins σ (upd H x o) { s with heap := h', toks := t' } := I.un (Un.write mu he k heo) (I.hok.write mu he k heo new)
theorem Inv.weak {σ' : List (Option V)} (I : Inv X pins σ H s) (hl : σ'.length = σ.length) (w : ∀ (i : Nat) v, σ'[i]? = some (some v) → σ[i]? = some (some v)) : Inv X pins σ' H s :=
  ⟨I.ok, I.os, I.bare, I.base, let ⟨m, hn, hl'⟩ := I.loc; ⟨m, hn, fun i x v e1 e2 e3 => hl' i x v e1 (w i v e2) e3⟩, I.cell, I.free, I.freeC, I.pin, I.hok, hl.trans I.len⟩
theorem Inv.pins_of {pins' : List (Addr × Obj)} (I : Inv X pins σ H s) (h : ∀ p ∈ pins', s.heap.get? p.1 = some p.2 ∧ H p.1 = none ∧ p.1 ≠ X.env.locals ∧ p.1 ∉ X.fs ∧ ∀ v, p.2.data ≠ .cell v) : Inv X pins' σ H s :=
  ⟨I.ok, I.os, I.bare, I.base, I.loc, I.cell, I.free, I.freeC, fun p hp => (List.mem_append.mp hp).elim (fun z => I.pin p (List.mem_append_left _ z)) (h p), I.hok, I.len⟩

theorem nodup_ix {N : List Str} (hN : N.Nodup) {i j : Nat} {x : Str} (a : N[i]? = some x) (b : N[j]? = some x) : i = j := by
  obtain ⟨h1, e1⟩ := List.getElem?_eq_some_iff.mp a
  obtain ⟨h2, e2⟩ := List.getElem?_eq_some_iff.mp b
  exact (List.getElem_inj hN).mp (e1.trans e2.symm)

theorem store_ok2 {M : Model} {A : Around} {E : Value → Shared → Prop} {i : Nat} {x : Str} {v : V} {u : Value} {Q : Unit → Shared → Prop} (I : Inv X pins σ H s) (hN : X.N.Nodup) (hi : X.N[i]? = some x) (hx : Loc X.env.scope x) (r : RelV v u)
    (h : ∀ s', Inv X pins (σ.set i (some v)) H s' → (∃ a, Heap.SameBut a s.heap s'.heap ∧ (a = X.env.locals ∨ X.env.cells.lookup x = some a)) → Q () s') (hf : X.fn x = true ∨ X.env.scope.names.lookup x = some .local := by first | exact .inl rfl | exact .inr rfl | assumption) : wpAny M A (storeName X.env x u) Q E s := by
  obtain ⟨m, hn, hl⟩ := id I.loc
  have hcls : (X.env.scope.kind == .class || (X.env.scope.kind == .module && X.env.locals != X.env.globals)) = false := by rw [I.ok.kind]; rfl
  have hiσ : i < σ.length := by rw [I.len]; exact (List.getElem?_eq_some_iff.mp hi).1
  have cne := I.cne
  have tracked : ∀ {a : Addr} {h' : Heap}, (∃ o, s.heap.get? a = some o ∧ H a = none) → Heap.SameBut a s.heap h' → HOk X.prog X.w H h' := fun {a h'} ha hs b ob e => by
    obtain ⟨_, _, hfree⟩ := ha
    refine (I.hok b ob e).stay (fun c w' hc q => (hs.2 c ?_).trans q) (fun _ q => q) fun _ _ q => q
    rintro rfl
    rcases hc with rfl | hc
    · rw [hfree] at e; cases e
    · rw [hfree] at hc; cases hc
  rcases hx with hk | hk
  · refine wpAny_storeName_local hk hn (fun h' hn' hs => ?_) hcls
    obtain ⟨oL, _, _, hoL, _⟩ := id hn
    refine h _ ⟨I.ok, I.os, I.bare, ⟨fun b o e n hb hx => ?_, fun b o e n hb hx => ?_, I.base.free, fun b o e hx => ?_, I.base.tups, I.base.frzs, I.base.tbls⟩, ⟨_, hn', fun j y v' e1 e2 e3 => ?_⟩, fun y c e => ?_, I.free, I.freeC, fun p hp => ?_, tracked ⟨oL, hoL, I.free⟩ hs, by simpa using I.len⟩ ⟨_, hs, .inl rfl⟩
    · exact (hs.2 b (Nat.ne_of_lt (Nat.lt_of_lt_of_le (Heap.lt_size e) I.ok.above))).trans (I.base.keep b o e n hb hx)
    · obtain ⟨sl, e1⟩ := I.base.slot b o e n hb hx
      exact ⟨sl, (hs.2 b (Nat.ne_of_lt (Nat.lt_of_lt_of_le (Heap.lt_size e) I.ok.above))).trans e1⟩
    · obtain ⟨o', e1⟩ := I.base.there b o e hx
      exact ⟨o', (hs.2 b (Nat.ne_of_lt (Nat.lt_of_lt_of_le (Heap.lt_size e) I.ok.above))).trans e1⟩
    · by_cases hj : j = i
      · subst hj
        rw [hi] at e1; cases e1
        rw [List.getElem?_set_self hiσ] at e2
        cases e2
        exact ⟨u, r, .inl ⟨hk, by simp⟩⟩
      · rw [List.getElem?_set_ne (Ne.symm hj)] at e2
        obtain ⟨u', r', q⟩ := hl j y v' e1 e2 e3
        refine ⟨u', r', ?_⟩
        rcases q with ⟨k, e⟩ | ⟨k, c, e, z⟩
        · refine .inl ⟨k, ?_⟩
          have : y ≠ x := fun e => hj (nodup_ix hN e1 (e ▸ hi))
          simp [this, e]
        · exact .inr ⟨k, c, e, z.sameBut hs (cne y c e)⟩
    · obtain ⟨w', z⟩ := I.cell y c e
      exact ⟨w', z.sameBut hs (cne y c e)⟩
    · obtain ⟨e, n, ne, nf, d⟩ := I.pin p hp
      exact ⟨(hs.2 p.1 ne).trans e, n, ne, nf, d⟩
  · have hfn : X.fn x = true := by
      rcases hf with z | z
      · exact z
      · rw [z] at hk; cases hk
    obtain ⟨c, hc⟩ := I.ok.has x (.inl hk)
    obtain ⟨w', z⟩ := I.cell x c hc
    refine wpAny_storeName_cell I.ok.kind hk hc z (fun h' hc' hs => ?_)
    obtain ⟨oc, hoc, hocd⟩ := id z
    refine h { s with heap := h' } ⟨I.ok, I.os, I.bare, ⟨fun b o e n hb hx => ?_, fun b o e n hb hx => ?_, I.base.free, fun b o e hx => ?_, I.base.tups, I.base.frzs, I.base.tbls⟩, ⟨m, hn.sameBut hs (Ne.symm (cne x c hc)), fun j y v' e1 e2 e3 => ?_⟩, fun y c' e => ?_, I.free, I.freeC, fun p hp => ?_, tracked ⟨oc, hoc, I.freeC x c hc⟩ hs, by simpa using I.len⟩ ⟨c, hs, .inr hc⟩
    · exact (hs.2 b (Nat.ne_of_lt (Nat.lt_of_lt_of_le (Heap.lt_size e) (I.ok.cab x c hfn hc)))).trans (I.base.keep b o e n hb hx)
    · obtain ⟨sl, e1⟩ := I.base.slot b o e n hb hx
      exact ⟨sl, (hs.2 b (Nat.ne_of_lt (Nat.lt_of_lt_of_le (Heap.lt_size e) (I.ok.cab x c hfn hc)))).trans e1⟩
    · obtain ⟨o', e1⟩ := I.base.there b o e hx
      exact ⟨o', (hs.2 b (Nat.ne_of_lt (Nat.lt_of_lt_of_le (Heap.lt_size e) (I.ok.cab x c hfn hc)))).trans e1⟩
    · by_cases hj : j = i
      · subst hj
        rw [hi] at e1; cases e1
        rw [List.getElem?_set_self hiσ] at e2
        cases e2
        exact ⟨u, r, .inr ⟨.inl hk, c, hc, hc'⟩⟩
      · rw [List.getElem?_set_ne (Ne.symm hj)] at e2
        obtain ⟨u', r', q⟩ := hl j y v' e1 e2 e3
        refine ⟨u', r', ?_⟩
        rcases q with q | ⟨k, c', e, z'⟩
        · exact .inl q
        · refine .inr ⟨k, c', e, z'.sameBut hs ?_⟩
          rintro rfl
          exact hj (nodup_ix hN e1 (I.ok.inj _ _ _ e hc ▸ hi))
    · by_cases hcc : c' = c
      · subst hcc; exact ⟨_, hc'⟩
      · obtain ⟨w2, z2⟩ := I.cell y c' e
        exact ⟨w2, z2.sameBut hs hcc⟩
    · obtain ⟨e, n, ne, nf, d⟩ := I.pin p hp
      refine ⟨(hs.2 p.1 ?_).trans e, n, ne, nf, d⟩
      intro q
      rw [q, hoc] at e
      have q' : oc = p.2 := Option.some.inj e
      exact d w' (by rw [← q']; exact hocd)
theorem store_ok {M : Model} {A : Around} {E : Value → Shared → Prop} {i : Nat} {x : Str} {v : V} {u : Value} {Q : Unit → Shared → Prop} (I : Inv X pins σ H s) (hN : X.N.Nodup) (hi : X.N[i]? = some x) (hx : Loc X.env.scope x) (r : RelV v u)
    (h : ∀ s', Inv X pins (σ.set i (some v)) H s' → Q () s') (hf : X.fn x = true ∨ X.env.scope.names.lookup x = some .local := by first | exact .inl rfl | exact .inr rfl | assumption) : wpAny M A (storeName X.env x u) Q E s :=
  store_ok2 I hN hi hx r (fun s' I' _ => h s' I') hf
theorem Inv.call' {s' : Shared} {ch : List Addr} (I : Inv X pins σ H s) (ho : s'.os = s.os) (u : Un (frs X.stack) ch H H' s.heap s'.heap) (hok : HOk X.prog X.w H' s'.heap) (hg : AllBare s'.gens)
    (hch : ∀ b ∈ ch, (b ∈ X.ex ∨ X.s₀.heap.objs.size ≤ b) ∧ b ≠ X.env.locals ∧ (∀ x c, X.env.cells.lookup x = some c → c ≠ b) ∧ ∀ p ∈ X.pn ++ pins, p.1 ≠ b) : Inv X pins σ H' s' := by
  obtain ⟨h', g', d', t', o'⟩ := s'
  have e : o' = s.os := ho
  subst e
  exact I.call (g' := g') (t' := t') (d' := d') u hok hg hch
end

abbrev XK := Value → Option Addr → Hp → Prop
abbrev St := List (Option V)
abbrev VK := V → Hp → Prop
abbrev TE := St → Hp → VK → Prop
abbrev TT := St → Hp → (Bool → Hp → Prop) → Prop
abbrev TA := St → Hp → (List V → Hp → Prop) → Prop
structure Ends where
  nx : St → Hp → Prop
  rt : VK
  bk : St → Hp → Prop := fun _ _ => False
  ct : St → Hp → Prop := fun _ _ => False
abbrev TS := Ends → St → Hp → Prop

def EP (X : Cx) (pins : List (Addr × Obj)) (σ : St) (Q : VK) (u : Value) (s' : Shared) : Prop := ∃ v H', Inv X pins σ H' s' ∧ RelV v u ∧ Q v H'
def TP (X : Cx) (pins : List (Addr × Obj)) (σ : St) (Q : Bool → Hp → Prop) (b : Bool) (s' : Shared) : Prop := ∃ H', Inv X pins σ H' s' ∧ Q b H'
def AP (X : Cx) (pins : List (Addr × Obj)) (σ : St) (Q : List V → Hp → Prop) (us : List Value) (s' : Shared) : Prop := ∃ vs H', Inv X pins σ H' s' ∧ Vals vs us ∧ Q vs H'
def SP (X : Cx) (pins : List (Addr × Obj)) (D : Ends) (f : Flow) (s' : Shared) : Prop :=
  match f with
  | .next => ∃ σ' H', Inv X pins σ' H' s' ∧ D.nx σ' H'
  | .brk => ∃ σ' H', Inv X pins σ' H' s' ∧ D.bk σ' H'
  | .cont => ∃ σ' H', Inv X pins σ' H' s' ∧ D.ct σ' H'
  | .ret u => ∃ v σ' H', Inv X pins σ' H' s' ∧ RelV v u ∧ D.rt v H'

def PE (X : Cx) (e : Expr) (t : TE) : Prop :=
  ∀ (pins : List (Addr × Obj)) (s : Shared) (σ : St) (H : Hp) (Q : VK), Inv X pins σ H s → t σ H Q → wpAny (model X.prog X.w) X.A (eval e X.env) (EP X pins σ Q) X.xe s
def PT (X : Cx) (e : Expr) (t : TT) : Prop :=
  ∀ (pins : List (Addr × Obj)) (s : Shared) (σ : St) (H : Hp) (Q : Bool → Hp → Prop), Inv X pins σ H s → t σ H Q → wpAny (model X.prog X.w) X.A (isTrue e X.env (eval e X.env)) (TP X pins σ Q) X.xe s
def PW (X : Cx) (e : Expr) (t : TT) : Prop :=
  ∀ (whole : Sem Value) (pins : List (Addr × Obj)) (s : Shared) (σ : St) (H : Hp) (Q : Bool → Hp → Prop), Inv X pins σ H s → t σ H Q → wpAny (model X.prog X.w) X.A (isTrue e X.env whole) (TP X pins σ Q) X.xe s
theorem PW.pt {X : Cx} {e : Expr} {t : TT} (h : PW X e t) : PT X e t := h _
def PA (X : Cx) (es : List Expr) (t : TA) : Prop :=
  ∀ (pos : Pos) (pins : List (Addr × Obj)) (s : Shared) (σ : St) (H : Hp) (Q : List V → Hp → Prop), Inv X pins σ H s → t σ H Q → wpAny (model X.prog X.w) X.A (spliced (backTo pos (starEach es X.env))) (AP X pins σ Q) X.xe s
def PS (X : Cx) (st : Stmt) (t : TS) : Prop :=
  ∀ (pins : List (Addr × Obj)) (s : Shared) (σ : St) (H : Hp) (D : Ends), Inv X pins σ H s → t D σ H → wpAny (model X.prog X.w) X.A (exec st X.env) (SP X pins D) X.xe s
def PSs (X : Cx) (st : List Stmt) (t : TS) : Prop :=
  ∀ (pins : List (Addr × Obj)) (s : Shared) (σ : St) (H : Hp) (D : Ends), Inv X pins σ H s → t D σ H → wpAny (model X.prog X.w) X.A (execs st X.env) (SP X pins D) X.xe s
theorem thn {α : Type} {t : Sem α} {Q Q' : α → Shared → Prop} {M : Model} {A : Around} {E : Value → Shared → Prop} {s : Shared} (h : wpAny M A t Q E s) (hQ : ∀ a s, Q a s → Q' a s) : wpAny M A t Q' E s := wpAny_mono h hQ fun _ _ x => x
end L2

namespace L2
open PySem PySem.Spec PyProof.Rows
section
variable {X : Cx}

theorem bin {a b : Expr} {ta tb : TE} (ha : PE X a ta) (hb : PE X b tb) {pins : List (Addr × Obj)} {s : Shared} {σ : St} {H : Hp} {R : V → V → Hp → Prop} (I : Inv X pins σ H s) (h : ta σ H fun x H1 => tb σ H1 fun y H2 => R x y H2)
    {α : Type} {Q : α → Shared → Prop} {f : Value → Value → Sem α}
    (hf : ∀ v u s2 x y H2, Inv X pins σ H2 s2 → RelV x v → RelV y u → R x y H2 → wpAny (model X.prog X.w) X.A (f v u) Q X.xe s2) :
    wpAny (model X.prog X.w) X.A (eval a X.env) (fun v s₁ => wpAny (model X.prog X.w) X.A (eval b X.env) (fun u s₂ => wpAny (model X.prog X.w) X.A (f v u) Q X.xe s₂) X.xe s₁) X.xe s := by
  refine thn (ha pins s σ H _ I h) fun v s1 ⟨x, H1, I1, r1, q1⟩ => ?_
  refine thn (hb pins s1 σ H1 _ I1 q1) fun u s2 ⟨y, H2, I2, r2, q2⟩ => ?_
  exact hf v u s2 x y H2 I2 r1 r2 q2

def tVar (i : Nat) : TE := fun σ H Q => ∃ v, σ[i]? = some (some v) ∧ Q v H
def tC (v : V) : TE := fun _ H Q => Q v H
theorem pe_var {i : Nat} {x : Str} {pos : Pos} (hN : X.N[i]? = some x) (hv : Vis X.env.scope x) (hd : (x == ("__debug__" : Str)) = false := by decide) (hcd : (x == ("__classdict__" : Str)) = false := by decide) : PE X (.Name x pos) (tVar i) := by
  intro pins s σ H Q I h
  obtain ⟨v, e, h⟩ := h
  obtain ⟨m, hn, hl⟩ := I.loc
  obtain ⟨u, r, l⟩ := hl i x v hN e hv
  have fin : EP X pins σ Q u s := ⟨v, H, I, r, h⟩
  rcases l with ⟨hk, hm⟩ | ⟨hk, c, hc, hcell⟩
  · exact wpAny_Name (wpAny_loadName_local I.ok.kind hk hn hm fin) hd
  · rcases hk with hk | hk
    · exact wpAny_Name (wpAny_loadName_cell I.ok.kind hk hc hcell fin) hd
    · exact wpAny_Name (wpAny_loadName_free I.ok.kind hk hc hcell fin hcd) hd
theorem pe_int {i j pos} : PE X (.Constant (.int i) j pos) (tC (.int i)) := fun _ _ _ H _ I h => wpAny_Constant_int ⟨.int i, H, I.tok _, ⟨_, rfl⟩, h⟩
theorem pe_bl {b j pos} : PE X (.Constant (.bool b) j pos) (tC (.bl b)) := fun _ _ _ H _ I h => Constant_bool ⟨.bl b, H, I, rfl, h⟩
theorem pe_non {j pos} : PE X (.Constant .none j pos) (tC .non) := fun _ _ _ H _ I h => Constant_none ⟨.non, H, I, rfl, h⟩
theorem pe_str {x j pos} : PE X (.Constant (.str x) j pos) (tC (.str x)) := fun _ _ _ H _ I h => Calls.Constant_str ⟨.str x, H, I.tok _, ⟨_, rfl⟩, h⟩

def Gl (X : Cx) (x : Str) : Prop := X.env.kindOf x = some .globalImplicit
theorem ld_glob {E : Value → Shared → Prop} {pins : List (Addr × Obj)} {s : Shared} {σ : St} {H : Hp} {x : Str} {u : Value} {pos : Pos} {Q : Value → Shared → Prop} (I : Inv X pins σ H s) (hg : Gl X x) (hm : X.mg x = some u) (h : Q u s)
    (hd : (x == ("__debug__" : Str)) = false := by decide) : wpAny (model X.prog X.w) X.A (eval (.Name x pos) X.env) Q E s :=
  Calls.Name_function_global I.ok.kind hg (Calls.loadGlobal_global (by rw [I.ok.glob]; exact I.mod.glob.keeps I.bk) hm h) hd
theorem ld_blt {E : Value → Shared → Prop} {pins : List (Addr × Obj)} {s : Shared} {σ : St} {H : Hp} {x : Str} {u : Value} {pos : Pos} {Q : Value → Shared → Prop} (I : Inv X pins σ H s) (hg : Gl X x) (hm : X.mg x = none) (hv : bootBuiltins x = some u) (h : Q u s)
    (hn : x ≠ "__name__" := by decide) (hd : (x == ("__debug__" : Str)) = false := by decide) : wpAny (model X.prog X.w) X.A (eval (.Name x pos) X.env) Q E s := by
  obtain ⟨mb, h1, h2⟩ := I.mod.blt
  exact Calls.Name_function_global I.ok.kind hg (Calls.loadGlobal_builtin (by rw [I.ok.glob]; exact I.mod.glob.keeps I.bk) hm (by rw [I.ok.blt]; exact h1.keeps I.bk) ((h2 x hn).trans hv) h) hd
theorem pe_glob {x : Str} {v : V} {u : Value} {pos : Pos} (hg : Gl X x) (hm : X.mg x = some u) (r : RelV v u) (hd : (x == ("__debug__" : Str)) = false := by decide) : PE X (.Name x pos) (tC v) :=
  fun _ _ _ H _ I h => ld_glob I hg hm ⟨v, H, I, r, h⟩ hd
theorem pe_bltn {x : Str} {v : V} {u : Value} {pos : Pos} (hg : Gl X x) (hm : X.mg x = none) (hv : bootBuiltins x = some u) (r : RelV v u) (hn : x ≠ "__name__" := by decide) (hd : (x == ("__debug__" : Str)) = false := by decide) : PE X (.Name x pos) (tC v) :=
  fun _ _ _ H _ I h => ld_blt I hg hm hv ⟨v, H, I, r, h⟩ hn hd

variable {a b : Expr} {ta tb : TE} {pos : Pos}
def PC (X : Cx) (op : CmpOp) (a b : Expr) (t : TE) : Prop :=
  ∀ (pins : List (Addr × Obj)) (s : Shared) (σ : St) (H : Hp) (Q : VK), Inv X pins σ H s → t σ H Q →
    wpAny (model X.prog X.w) X.A (eval a X.env) (fun v s₁ => wpAny (model X.prog X.w) X.A (eval b X.env) (fun u s₂ => wpAny (model X.prog X.w) X.A (compareOp op v u) (EP X pins σ Q) X.xe s₂) X.xe s₁) X.xe s
theorem nobehind (b : Expr) {op : CmpOp} (h : op ≠ .In) (h2 : op ≠ .NotIn) : behindInMarks op b = false := by
  have e1 : (op == CmpOp.In) = false := by cases op <;> first | rfl | exact absurd rfl h
  have e2 : (op == CmpOp.NotIn) = false := by cases op <;> first | rfl | exact absurd rfl h2
  cases b <;> simp [behindInMarks, e1, e2]
def tIsN (ta : TE) : TE := fun σ H Q => ta σ H fun x H1 => Q (.bl (decide (x = .non))) H1
theorem RelV.none_iff {x : V} {v : Value} (r : RelV x v) : (v == Value.none) = decide (x = .non) := by
  cases x with
  | non => cases r; rfl
  | bl _ => cases r; rfl
  | int _ => obtain ⟨t, rfl⟩ := r; rfl
  | str _ => obtain ⟨t, rfl⟩ := r; rfl
  | byt _ => obtain ⟨t, rfl⟩ := r; rfl
  | flt _ => obtain ⟨t, rfl⟩ := r; rfl
  | ref _ => cases r; rfl
  | ty _ => cases r; rfl
theorem pc_isN {j pos'} (ha : PE X a ta) : PC X .Is a (.Constant .none j pos') (tIsN ta) := by
  intro pins s σ H Q I h
  refine thn (ha pins s σ H _ I h) fun v s1 ⟨x, H1, I1, r1, q1⟩ => ?_
  exact Constant_none (is_none_gen ⟨.bl _, H1, I1, by rw [r1.none_iff]; rfl, q1⟩)
def tB (t : TE) : TT := fun σ H Q => t σ H fun x H1 => ∃ c, x = .bl c ∧ Q c H1
theorem pt_cmp {op : CmpOp} {t : TE} (h : PC X op a b t) (h1 : behindInMarks op b = false := by first | exact nobehind _ (by decide) (by decide) | rfl) : PT X (.Compare a [op] [b] pos) (tB t) := by
  intro pins s σ H Q I hw
  refine wpAny_isTrue_Compare1 (thn (h pins s σ H _ I hw) fun v s1 h1 => thn h1 fun u s2 h2 => thn h2 fun c s3 ⟨x, H1, I1, r1, q1⟩ => ?_) h1
  obtain ⟨d, rfl, q⟩ := q1
  cases r1
  exact wpAny_truthy_bool ⟨H1, I1, q⟩
theorem pt_val {e : Expr} {t : TE} (h : PE X e t) (he : ∀ whole, isTrue e X.env whole = (do let v ← whole; standAt e.pos; holding [v] (truthy v)) := by intro _; rfl) : PT X e (tB t) := by
  intro pins s σ H Q I hw
  refine isTrue_plain (thn (h pins s σ H _ I hw) fun v s1 ⟨x, H1, I1, r1, q1⟩ => ?_) (he _)
  obtain ⟨d, rfl, q⟩ := q1
  cases r1
  exact wpAny_truthy_bool ⟨H1, I1, q⟩

variable {tA tB' : TT} {rest : List Expr}
def tAnd (t u : TT) : TT := fun σ H Q => t σ H fun c H1 => if c = true then u σ H1 Q else Q false H1
def tOr (t u : TT) : TT := fun σ H Q => t σ H fun c H1 => if c = true then Q true H1 else u σ H1 Q
def tNot (t : TT) : TT := fun σ H Q => t σ H fun c H1 => Q (!c) H1
theorem pw_and1 (ha : PT X a tA) : PW X (.BoolOp .And [a] pos) tA := by
  intro wh pins s σ H Q I h
  refine isTrue_and (thn (ha pins s σ H Q I h) fun c s1 e => ?_)
  cases c with
  | true => exact isTrue_and_nil e
  | false => exact e
theorem pw_or1 (ha : PT X a tA) : PW X (.BoolOp .Or [a] pos) tA := by
  intro wh pins s σ H Q I h
  refine isTrue_or (thn (ha pins s σ H Q I h) fun c s1 e => ?_)
  cases c with
  | false => exact isTrue_or_nil e
  | true => exact e
theorem pw_and (ha : PT X a tA) (hb : PW X (.BoolOp .And (b :: rest) pos) tB') : PW X (.BoolOp .And (a :: b :: rest) pos) (tAnd tA tB') := by
  intro wh pins s σ H Q I h
  refine isTrue_and (thn (ha pins s σ H _ I h) fun c s1 ⟨H1, I1, q1⟩ => ?_)
  cases c with
  | true => exact hb wh pins s1 σ H1 Q I1 q1
  | false => exact ⟨H1, I1, q1⟩
theorem pw_or (ha : PT X a tA) (hb : PW X (.BoolOp .Or (b :: rest) pos) tB') : PW X (.BoolOp .Or (a :: b :: rest) pos) (tOr tA tB') := by
  intro wh pins s σ H Q I h
  refine isTrue_or (thn (ha pins s σ H _ I h) fun c s1 ⟨H1, I1, q1⟩ => ?_)
  cases c with
  | true => exact ⟨H1, I1, q1⟩
  | false => exact hb wh pins s1 σ H1 Q I1 q1
theorem pt_not (ha : PT X a tA) : PT X (.UnaryOp .Not a pos) (tNot tA) := by
  intro pins s σ H Q I h
  exact isTrue_not (ha pins s σ H (fun c H1 => Q (!c) H1) I h)
def tAndV (ta tb : TE) : TE := fun σ H Q => ta σ H fun x H1 => ∃ c, x = .bl c ∧ if c = true then tb σ H1 Q else Q (.bl false) H1
def tNotV (ta : TE) : TE := fun σ H Q => ta σ H fun x H1 => ∃ c, x = .bl c ∧ Q (.bl (!c)) H1
theorem pe_one {op} {t : TE} (h : PE X a t) : PE X (.BoolOp op [a] pos) t := fun pins s σ H Q I hw => BoolOp_one (h pins s σ H Q I hw)
theorem pe_and (ha : PE X a ta) (hb : PE X (.BoolOp .And (b :: rest) pos) tb) : PE X (.BoolOp .And (a :: b :: rest) pos) (tAndV ta tb) := by
  intro pins s σ H Q I h
  refine BoolOp_and (thn (ha pins s σ H _ I h) fun v s1 ⟨x, H1, I1, r1, q1⟩ => ?_)
  obtain ⟨c, rfl, q1⟩ := q1
  cases r1
  refine wpAny_truthy_bool ?_
  cases c with
  | true => exact hb pins s1 σ H1 Q I1 q1
  | false => exact ⟨.bl false, H1, I1, rfl, q1⟩
theorem pe_not (ha : PE X a ta) : PE X (.UnaryOp .Not a pos) (tNotV ta) := by
  intro pins s σ H Q I h
  refine UnaryOp_ (thn (ha pins s σ H _ I h) fun v s1 ⟨x, H1, I1, r1, q1⟩ => ?_)
  obtain ⟨c, rfl, q1⟩ := q1
  cases r1
  exact not_of (wpAny_truthy_bool ⟨.bl (!c), H1, I1, rfl, q1⟩)
def tIf (t : TT) (ta tb : TE) : TE := fun σ H Q => t σ H fun c H1 => if c = true then ta σ H1 Q else tb σ H1 Q
theorem pe_ifExp {c : Expr} (hc : PT X c tA) (ha : PE X a ta) (hb : PE X b tb) : PE X (.IfExp c a b pos) (tIf tA ta tb) := by
  intro pins s σ H Q I h
  refine wpAny_IfExp (thn (hc pins s σ H _ I h) fun d s1 ⟨H1, I1, q1⟩ => ?_)
  cases d with
  | true => exact ha pins s1 σ H1 Q I1 q1
  | false => exact hb pins s1 σ H1 Q I1 q1
end
end L2

namespace L2
open PySem PySem.Spec PyProof.Rows

def SqL (K : PySem.W.Frag) (H : Hp) (a : Addr) (xs : List V) : Prop :=
  Rd H a (.lst xs) ∨
    ∃ (o : Obj) (its : Array Value) (n : Nat), K.lookup a = some o ∧ o.cls = .type "list" ∧ o.dict = none ∧ o.data = .seq its n ∧ its.size ≤ sizeLine ∧ Vals xs its.toList
def SqT (K : PySem.W.Frag) (H : Hp) (a : Addr) (xs : List V) : Prop :=
  Rd H a (.tup xs) ∨
    ∃ (o : Obj) (its : Array Value) (n : Nat), K.lookup a = some o ∧ o.cls = .type "tuple" ∧ o.data = .seq its n ∧ its.size ≤ sizeLine ∧ Vals xs its.toList
def absV : Value → Option V
  | .none => some .non
  | .bool b => some (.bl b)
  | .int i _ => some (.int i)
  | .str x _ => some (.str x)
  | .bytes b _ => some (.byt b)
  | .float b _ => some (.flt b)
  | .ref a => some (.ref a)
  | .type n => some (.ty n)
  | _ => none
theorem RelV.abs {x : V} {u : Value} (r : RelV x u) : absV u = some x := by
  cases x with
  | non => cases r; rfl
  | bl _ => cases r; rfl
  | int _ => obtain ⟨t, rfl⟩ := r; rfl
  | str _ => obtain ⟨t, rfl⟩ := r; rfl
  | byt _ => obtain ⟨t, rfl⟩ := r; rfl
  | flt _ => obtain ⟨t, rfl⟩ := r; rfl
  | ref _ => cases r; rfl
  | ty _ => cases r; rfl
theorem RelV.inj {x y : V} {u : Value} (r : RelV x u) (q : RelV y u) : x = y := Option.some.inj (r.abs.symm.trans q.abs)
theorem Vals.inj : ∀ {xs ys : List V} {us : List Value}, Vals xs us → Vals ys us → xs = ys
  | _, _, _, .nil, .nil => rfl
  | _, _, _, .cons r t, .cons r' t' => by rw [r.inj r', Vals.inj t t']
section
variable {X : Cx} {pins : List (Addr × Obj)} {σ : St} {H : Hp} {s : Shared} {a : Addr} {xs ys : List V}
theorem SqL.of {K : PySem.W.Frag} (h : H a = some (.lst xs)) : SqL K H a xs := .inl (.inl h)
theorem SqT.of {K : PySem.W.Frag} (h : H a = some (.tup xs)) : SqT K H a xs := .inl (.inl h)
theorem Inv.list (I : Inv X pins σ H s) (h : SqL X.K H a xs) : ∃ its : List Value, Vals xs its ∧ PlainL s.heap a its.toArray ∧ xs.length ≤ sizeLine := by
  rcases h with h | ⟨o, its, n, hk, hc, hd, hs, hz, r⟩
  · obtain ⟨z, its, n, r, e⟩ := h.ok I.hok
    exact ⟨its, r, ⟨_, n, e, rfl, rfl, rfl⟩, z⟩
  · refine ⟨its.toList, r, ⟨o, n, I.kIn a o hk, hc, hd, by simpa using hs⟩, ?_⟩
    have e := r.length
    simp only [Array.length_toList] at e
    omega
theorem Inv.tuple (I : Inv X pins σ H s) (h : SqT X.K H a xs) : ∃ its : List Value, Vals xs its ∧ IsTup s.heap a its.toArray ∧ xs.length ≤ sizeLine := by
  rcases h with h | ⟨o, its, n, hk, hc, hs, hz, r⟩
  · obtain ⟨z, its, r, p⟩ := h.ok I.hok
    exact ⟨its, r, p, z⟩
  · refine ⟨its.toList, r, ⟨o, I.kIn a o hk, hc, n, by simpa using hs⟩, ?_⟩
    have e := r.length
    simp only [Array.length_toList] at e
    omega
theorem Inv.list_inj (I : Inv X pins σ H s) (h : SqL X.K H a xs) (h' : SqL X.K H a ys) : xs = ys := by
  obtain ⟨its, r, ⟨o, n, e, _, _, d⟩, _⟩ := I.list h
  obtain ⟨its', r', ⟨o', n', e', _, _, d'⟩, _⟩ := I.list h'
  rw [e] at e'; cases e'
  rw [d] at d'
  injection d' with d1 _
  have : its = its' := by simpa using congrArg Array.toList d1
  subst this
  exact r.inj r'
end

abbrev Cx.wish (X : Cx) (E : Value → Shared → Prop) : Cx := { X with xe := E }
abbrev Cx.nox (X : Cx) : Cx := X.wish fun _ _ => False
theorem Cx.Ok.wish {X : Cx} (ok : X.Ok) (E : Value → Shared → Prop) : (X.wish E).Ok :=
  ⟨ok.mod, ok.kind, ok.glob, ok.blt, ok.above, ok.inj, ok.has, ok.cab, ok.hd, ok.frames, ok.stk, ok.exf, ok.bs, ok.bsz, ok.noex, ok.exfs, ok.funs, ok.frf⟩
theorem Cx.Ok.unwish {X : Cx} {E : Value → Shared → Prop} (ok : (X.wish E).Ok) : X.Ok :=
  ⟨ok.mod, ok.kind, ok.glob, ok.blt, ok.above, ok.inj, ok.has, ok.cab, ok.hd, ok.frames, ok.stk, ok.exf, ok.bs, ok.bsz, ok.noex, ok.exfs, ok.funs, ok.frf⟩
section
variable {X : Cx} {pins : List (Addr × Obj)} {σ : St} {H : Hp} {s : Shared} {E : Value → Shared → Prop}
theorem Inv.wish (I : Inv X pins σ H s) (E : Value → Shared → Prop) : Inv (X.wish E) pins σ H s := ⟨I.ok.wish E, I.os, I.bare, I.base, I.loc, I.cell, I.free, I.freeC, I.pin, I.hok, I.len⟩
theorem Inv.unwish (I : Inv (X.wish E) pins σ H s) : Inv X pins σ H s := ⟨I.ok.unwish, I.os, I.bare, I.base, I.loc, I.cell, I.free, I.freeC, I.pin, I.hok, I.len⟩
theorem SP.unwish {D : Ends} {f : Flow} {s' : Shared} (h : SP (X.wish E) pins D f s') : SP X pins D f s' := by
  cases f with
  | next => obtain ⟨σ', H', I, q⟩ := h; exact ⟨σ', H', I.unwish, q⟩
  | brk => obtain ⟨σ', H', I, q⟩ := h; exact ⟨σ', H', I.unwish, q⟩
  | cont => obtain ⟨σ', H', I, q⟩ := h; exact ⟨σ', H', I.unwish, q⟩
  | ret u => obtain ⟨v, σ', H', I, r, q⟩ := h; exact ⟨v, σ', H', I.unwish, r, q⟩
theorem PE.nox {e : Expr} {t : TE} (h : PE X.nox e t) : PE X e t := fun pins s σ H Q I hw =>
  wpAny_mono (h pins s σ H Q (I.wish _) hw) (fun _ _ ⟨v, H', I', r, q⟩ => ⟨v, H', I'.unwish, r, q⟩) fun _ _ z => False.elim z
theorem PT.nox {e : Expr} {t : TT} (h : PT X.nox e t) : PT X e t := fun pins s σ H Q I hw =>
  wpAny_mono (h pins s σ H Q (I.wish _) hw) (fun _ _ ⟨H', I', q⟩ => ⟨H', I'.unwish, q⟩) fun _ _ z => False.elim z
theorem PSs.nox {st : List Stmt} {t : TS} (h : PSs X.nox st t) : PSs X st t := fun pins s σ H D I hw =>
  wpAny_mono (h pins s σ H D (I.wish _) hw) (fun _ _ q => q.unwish) fun _ _ z => False.elim z
end

section
variable {X : Cx} {st : Stmt} {rest : List Stmt} {t u : TS} {e : Expr} {te : TE} {pos : Pos}
def tNext : TS := fun D σ H => D.nx σ H
def tSeq (t u : TS) : TS := fun D σ H => t { D with nx := u D } σ H
theorem pss_nil : PSs X [] tNext := fun _ _ σ H _ I h => wpAny_execs_nil ⟨σ, H, I, h⟩
theorem pss_cons (h1 : PS X st t) (h2 : PSs X rest u) : PSs X (st :: rest) (tSeq t u) := by
  intro pins s σ H D I h
  refine wpAny_execs_cons (thn (h1 pins s σ H { D with nx := u D } I h) fun f s1 q => ?_)
  cases f with
  | next =>
    obtain ⟨σ', H', I', q⟩ := q
    exact h2 pins s1 σ' H' D I' q
  | ret v => exact q
  | brk => exact q
  | cont => exact q
theorem pss_one (h1 : PS X st t) : PSs X [st] t := by
  intro pins s σ H D I h
  refine wpAny_execs_cons (thn (h1 pins s σ H D I h) fun f s1 q => ?_)
  cases f with
  | next => exact wpAny_execs_nil q
  | ret v => exact q
  | brk => exact q
  | cont => exact q
theorem Inv.quiet {pins : List (Addr × Obj)} {σ : St} {H : Hp} {s : Shared} (I : Inv X pins σ H s) : interactive X.env = false := by simp [interactive, I.ok.kind]
def tDrop (te : TE) : TS := fun D σ H => te σ H fun _ H1 => D.nx σ H1
theorem ps_expr (he : PE X e te) (hs : swapsWith e none pos.line X.env = pure false := by rfl) : PS X (.Expr e pos) (tDrop te) := by
  intro pins s σ H D I h
  exact wpAny_Expr_any (thn (he pins s σ H _ I h) fun v s1 ⟨x, H1, I1, r1, q1⟩ => ⟨σ, H1, I1, q1⟩) I.quiet hs
def tRet (te : TE) : TS := fun D σ H => te σ H D.rt
theorem ps_ret (he : PE X e te) : PS X (.Return (some e) pos) (tRet te) := by
  intro pins s σ H D I h
  exact wpAny_Return_some (thn (he pins s σ H _ I h) fun v s1 ⟨x, H1, I1, r1, q1⟩ => ⟨x, σ, H1, I1, r1, q1⟩)
def tIfS (c : TT) (t u : TS) : TS := fun D σ H => c σ H fun b H1 => if b = true then t D σ H1 else u D σ H1
theorem ps_if {c : Expr} {a b : List Stmt} {tc : TT} (hc : PT X c tc) (ha : PSs X a t) (hb : PSs X b u) : PS X (.If c a b pos) (tIfS tc t u) := by
  intro pins s σ H D I h
  refine wpAny_If (thn (hc pins s σ H _ I h) fun d s1 ⟨H1, I1, q1⟩ => ?_)
  cases d with
  | true => exact ha pins s1 σ H1 D I1 q1
  | false => exact hb pins s1 σ H1 D I1 q1
def tNever : TS := fun _ _ _ => False
theorem ps_never : PS X st tNever := fun _ _ _ _ _ _ h => h.elim
end

abbrev TG := V → St → Hp → (St → Hp → Prop) → Prop
abbrev TGs := List V → St → Hp → (St → Hp → Prop) → Prop
def PG (X : Cx) (target : Expr) (t : TG) : Prop :=
  ∀ (pins : List (Addr × Obj)) (s : Shared) (σ : St) (H : Hp) (v : V) (u : Value) (Q : St → Hp → Prop), Inv X pins σ H s → RelV v u → t v σ H Q →
    wpAny (model X.prog X.w) X.A (assign target X.env u) (fun _ s' => ∃ σ' H', Inv X pins σ' H' s' ∧ Q σ' H') X.xe s
def PGs (X : Cx) (ts : List Expr) (t : TGs) : Prop :=
  ∀ (pins : List (Addr × Obj)) (s : Shared) (σ : St) (H : Hp) (vs : List V) (us : List Value) (Q : St → Hp → Prop), Inv X pins σ H s → Vals vs us → t vs σ H Q →
    wpAny (model X.prog X.w) X.A (assignInOrder ((assignEach ts X.env).map (·.2)) us) (fun _ s' => ∃ σ' H', Inv X pins σ' H' s' ∧ Q σ' H') X.xe s
abbrev TSet := V → V → V → Hp → (Hp → Prop) → Prop
def PSet (X : Cx) (t : TSet) : Prop :=
  ∀ (pins : List (Addr × Obj)) (s : Shared) (σ : St) (H : Hp) (o i v : V) (ov iv u : Value) (Q : Hp → Prop), Inv X pins σ H s → RelV o ov → RelV i iv → RelV v u → t o i v H Q →
    wpAny (model X.prog X.w) X.A (setItem ov iv u) (fun _ s' => ∃ H', Inv X pins σ H' s' ∧ Q H') X.xe s
section
variable {X : Cx} {pos : Pos}
def gName (i : Nat) : TG := fun v σ H Q => Q (σ.set i (some v)) H
theorem pg_name {i : Nat} {x : Str} (hN : X.N.Nodup) (hi : X.N[i]? = some x) (hx : Loc X.env.scope x) (hf : X.fn x = true ∨ X.env.scope.names.lookup x = some .local := by first | exact .inl rfl | exact .inr rfl | assumption) : PG X (.Name x pos) (gName i) := by
  intro pins s σ H v u Q I r h
  exact wpAny_assign_Name (store_ok I hN hi hx r (fun s' I' => ⟨_, H, I', h⟩) hf)
def gNil : TGs := fun vs σ H Q => vs = [] ∧ Q σ H
def gCons (t : TG) (u : TGs) : TGs := fun vs σ H Q => ∃ v r, vs = v :: r ∧ t v σ H fun σ' H' => u r σ' H' Q
theorem pgs_nil : PGs X [] gNil := by
  intro pins s σ H vs us Q I r h
  obtain ⟨e, h⟩ := h
  subst e
  cases r
  exact assignInOrder_nil ⟨σ, H, I, h⟩
theorem pgs_cons {e : Expr} {es : List Expr} {t : TG} {u : TGs} (h1 : PG X e t) (h2 : PGs X es u)
    (hs : (assignEach (e :: es) X.env).map (·.2) = assign e X.env :: (assignEach es X.env).map (·.2) := by rfl) : PGs X (e :: es) (gCons t u) := by
  intro pins s σ H vs us Q I r h
  obtain ⟨v, vr, e1, h⟩ := h
  subst e1
  cases r with
  | cons r rr =>
    rw [hs]
    refine assignInOrder_cons (thn (h1 pins s σ H _ _ _ I r h) fun _ s1 ⟨σ1, H1, I1, q1⟩ => ?_)
    exact h2 pins s1 σ1 H1 _ _ Q I1 rr q1
def gTup (K : PySem.W.Frag) (n : Nat) (t : TGs) : TG := fun v σ H Q => ∃ a xs, v = .ref a ∧ SqT K H a xs ∧ xs.length = n ∧ t xs σ H Q
theorem pg_tup {es : List Expr} {k : Nat} {t : TGs} {n : Nat} (hc : X.calm = true) (h : PGs X es t)
    (hn : (assignEach es X.env).length = n := by rfl) (hst : (assignEach es X.env).findIdx? (·.1) = none := by rfl) : PG X (.Tuple es k pos) (gTup X.K n t) := by
  intro pins s σ H v u Q I r hw
  obtain ⟨a, xs, e1, hq, hl, hw⟩ := hw
  subst e1
  cases r
  obtain ⟨its, rv, ht, hz⟩ := I.tuple hq
  refine assign_Tuple_tuple (I.ok.hd hc) ht (by simp [hn, ← hl, rv.length]) hst fun h' hx => ?_
  have I1 : Inv X pins σ H { s with heap := h' } := I.kept (t' := s.toks) fun b o e => hx b o (Nat.ne_of_lt (Heap.lt_size e)) e
  exact h pins _ σ H xs _ Q I1 (by simpa using rv) hw
def gSub (to ti : TE) (t : TSet) : TG := fun v σ H Q => to σ H fun o H1 => ti σ H1 fun i H2 => t o i v H2 fun H3 => Q σ H3
theorem pg_sub {o i : Expr} {to ti : TE} {t : TSet} (ho : PE X o to) (hi : PE X i ti) (hs : PSet X t)
    (ha : ∀ v, assign (.Subscript o i pos) X.env v = (do
      let ov ← holding [v] (eval o X.env)
      let iv ← holding [v, ov] (eval i X.env)
      standAt pos
      holding [v, ov, iv] (setItem ov iv v)
      release [v, ov, iv] []) := by intro _; rfl) : PG X (.Subscript o i pos) (gSub to ti t) := by
  intro pins s σ H v u Q I r h
  rw [ha]
  refine wpAny_bind (wpAny_holding (thn (ho pins s σ H _ I h) fun ov s1 ⟨x, H1, I1, r1, q1⟩ => ?_))
  refine wpAny_bind (wpAny_holding (thn (hi pins s1 σ H1 _ I1 q1) fun iv s2 ⟨y, H2, I2, r2, q2⟩ => ?_))
  refine wpAny_bind (wpAny_standAt (wpAny_bind (wpAny_holding (thn (hs pins s2 σ H2 x y v ov iv u _ I2 r1 r2 r q2) fun _ s3 ⟨H3, I3, q3⟩ => ?_))))
  exact wpAny_release ⟨σ, H3, I3, q3⟩
def tAsg (te : TE) (g : TG) : TS := fun D σ H => te σ H fun x H1 => g x σ H1 D.nx
theorem ps_asg {tg e : Expr} {te : TE} {g : TG} (he : PE X e te) (hg : PG X tg g) (hs : swapsWithSole [tg] e pos.line X.env = pure false := by rfl) (hw : swappedStores [tg] e X.env = pure none := by rfl)
    (h1 : (assignEach [tg] X.env).map (·.2) = [assign tg X.env] := by rfl) : PS X (.Assign [tg] e pos) (tAsg te g) := by
  intro pins s σ H D I h
  refine wpAny_Assign_stores (thn (he pins s σ H _ I h) fun v s1 ⟨x, H1, I1, r1, q1⟩ => ?_) hs hw
  rw [h1]
  exact thn (hg pins s1 σ H1 x v _ I1 r1 q1) fun _ s2 q => q
theorem ps_set {i : Nat} {x : Str} {e : Expr} {te : TE} {pos' : Pos} (hN : X.N.Nodup) (hi : X.N[i]? = some x) (hx : Loc X.env.scope x) (he : PE X e te) (hs : swapsWith e (some (.Name x pos')) pos.line X.env = pure false := by rfl) (hf : X.fn x = true ∨ X.env.scope.names.lookup x = some .local := by first | exact .inl rfl | exact .inr rfl | assumption) :
    PS X (.Assign [.Name x pos'] e pos) (tAsg te (gName i)) := by
  intro pins s σ H D I h
  refine wpAny_Assign_Name (thn (he pins s σ H _ I h) fun v s1 ⟨y, H1, I1, r1, q1⟩ => ?_) hs
  exact store_ok I1 hN hi hx r1 (fun s2 I2 => ⟨_, H1, I2, q1⟩) hf
end

section
variable {X : Cx} {pos : Pos}
def tWhile (c : TT) (tb : TS) : TS := fun D σ H => ∃ W : Nat → St → Hp → Prop, (∃ m, W m σ H) ∧ ∀ m σ H, W m σ H →
  c σ H fun b H1 => if b = true then ∃ N : St → Hp → Prop, (∀ σ' H', N σ' H' → ∃ m', m' < m ∧ W m' σ' H') ∧ tb { D with nx := N, ct := N, bk := D.nx } σ H1 else D.nx σ H1
theorem ps_while {c : Expr} {body : List Stmt} {tc : TT} {tb : TS} (hp : PassesOwn (model X.prog X.w) X.A X.env X.xe) (hc : PT X c tc) (hb : PSs X body tb) : PS X (.While c body [] pos) (tWhile tc tb) := by
  intro pins s σ H D I h
  obtain ⟨W, ⟨m0, w0⟩, turn⟩ := h
  refine wpAny_While (codeAny_whileLoop (fun n s' => ∃ σ' H', Inv X pins σ' H' s' ∧ W n σ' H') ?_ m0 ⟨σ, H, I, w0⟩)
  rintro n s1 ⟨σ1, H1, I1, w1⟩
  refine wpAny_passesOwn hp (thn (hc pins s1 σ1 H1 _ I1 (turn n σ1 H1 w1)) fun b s2 ⟨H2, I2, q2⟩ => ?_)
  cases b with
  | true =>
    obtain ⟨N, hN, q2⟩ := q2
    rw [if_pos rfl]
    refine wpAny_passesOwn hp (thn (hb pins s2 σ1 H2 _ I2 q2) fun f s3 q3 => ?_)
    cases f with
    | next =>
      obtain ⟨σ3, H3, I3, n3⟩ := q3
      obtain ⟨m', hm, w3⟩ := hN σ3 H3 n3
      exact ⟨m', hm, σ3, H3, I3, w3⟩
    | cont =>
      obtain ⟨σ3, H3, I3, n3⟩ := q3
      obtain ⟨m', hm, w3⟩ := hN σ3 H3 n3
      exact ⟨m', hm, σ3, H3, I3, w3⟩
    | brk => exact q3
    | ret v => exact q3
  | false =>
    rw [if_neg Bool.false_ne_true]
    exact wpAny_execs_nil ⟨σ1, H2, I2, q2⟩
end

structure It where
  go : Nat → Hp → Prop
  yld : Nat → Hp → V → Hp → Prop
  stop : Nat → Hp → Prop
def FpOk (X : Cx) (pins : List (Addr × Obj)) (H : Hp) (b : Addr) : Prop :=
  H b = none ∧ b ≠ X.env.locals ∧ b ∉ X.fs ∧ (b ∈ X.ex ∨ X.s₀.heap.objs.size ≤ b) ∧ (∀ x c, X.env.cells.lookup x = some c → c ≠ b) ∧ ∀ p ∈ X.pn ++ pins, p.1 ≠ b
theorem Inv.fpOk {X : Cx} {pins : List (Addr × Obj)} {σ : St} {H H' : Hp} {s : Shared} {b : Addr} (I : Inv X pins σ H s) (hb : s.heap.objs.size ≤ b) (hn : H' b = none) : FpOk X pins H' b := by
  refine ⟨hn, Nat.ne_of_gt (Nat.lt_of_lt_of_le I.lt hb), I.nofs hb, .inr (Nat.le_trans I.sz hb), fun x c e z => ?_, fun p hp z => ?_⟩
  · obtain ⟨v, q⟩ := I.cell x c e
    exact absurd (Nat.lt_of_lt_of_le q.lt (by rw [z]; exact hb)) (Nat.lt_irrefl _)
  · exact absurd (Nat.lt_of_lt_of_le (Heap.lt_size (I.pin p hp).1) (by rw [z]; exact hb)) (Nat.lt_irrefl _)
structure Turn (P : Program) (w : World) (K : PySem.W.Frag) (tg : Expr) (J : It) (fp : List Addr) (it : Addr) (tn : Nat → Heap → Prop) : Prop where
  mem : it ∈ fp
  obj : ∀ i h, tn i h → ∀ b ∈ fp, ∃ o, h.get? b = some o ∧ ∀ v, o.data ≠ .cell v
  keep : ∀ i h h', tn i h → (∀ b ∈ fp, ∀ o, h.get? b = some o → h'.get? b = some o) → tn i h'
  item : ∀ (X : Cx), X.prog = P → X.w = w → X.K = K → X.calm = true → ∀ (i : Nat) (pins : List (Addr × Obj)) (s : Shared) (σ : St) (H : Hp) (E : Value → Shared → Prop), Inv X pins σ H s → (∀ b ∈ fp, FpOk X pins H b) → tn i s.heap → J.go i H →
    wpAny (model P w) X.A (pyNext (.ref it)) (fun r s1 => ∃ u, r = some u ∧
      wpAny (model P w) X.A (letOwnedTupleGo tg (.ref it) u) (fun _ s2 => ∃ x H', Inv X pins σ H' s2 ∧ RelV x u ∧ J.yld i H x H' ∧ tn (i + 1) s2.heap ∧ ∀ b ∈ fp, H' b = none) E s1) E s
  done : ∀ (X : Cx), X.prog = P → X.w = w → X.K = K → X.calm = true → ∀ (i : Nat) (pins : List (Addr × Obj)) (s : Shared) (σ : St) (H : Hp) (E : Value → Shared → Prop), Inv X pins σ H s → (∀ b ∈ fp, FpOk X pins H b) → tn i s.heap → J.stop i H →
    wpAny (model P w) X.A (pyNext (.ref it)) (fun r s1 => r = none ∧ Inv X pins σ H s1) E s
  self : ∀ (A : Around) (i : Nat) (s : Shared) (Q : Value → Shared → Prop) (E : Value → Shared → Prop), tn i s.heap → Q (.ref it) s → wpAny (model P w) A (pyIter (.ref it)) Q E s
abbrev TI := St → Hp → (It → Hp → Prop) → Prop
def PIE (X : Cx) (pins : List (Addr × Obj)) (σ : St) (tg : Expr) (R : It → Hp → Prop) (itv : Value) (s2 : Shared) : Prop :=
  ∃ (it : Addr) (fp : List Addr) (tn : Nat → Heap → Prop) (J : It) (H' : Hp), itv = .ref it ∧ Inv X pins σ H' s2 ∧ Turn X.prog X.w X.K tg J fp it tn ∧ tn 0 s2.heap ∧ (∀ b ∈ fp, FpOk X pins H' b) ∧ R J H'
def PI (X : Cx) (tg iter : Expr) (wi : TI) : Prop :=
  ∀ (pins : List (Addr × Obj)) (s : Shared) (σ : St) (H : Hp) (R : It → Hp → Prop), Inv X pins σ H s → wi σ H R →
    wpAny (model X.prog X.w) X.A (eval iter X.env) (fun v s1 => wpAny (model X.prog X.w) X.A (pyIter v) (PIE X pins σ tg R) X.xe s1) X.xe s

theorem go_of {M : Model} {A : Around} {E : Value → Shared → Prop} {s : Shared} {tg : Expr} {it : Addr} {u : Value} {o : Obj} {n : String} {vs : Array Value} {Q : Unit → Shared → Prop} (ho : s.heap.get? it = some o) (hc : o.cls = .type n) (hd : o.data = .fields vs)
    (hn : ["enumerate", "zip", "dict_itemiterator", "dict_reverseitemiterator", "odict_iterator", "itertools.zip_longest", "itertools.pairwise"].contains n = false) (hQ : Q () s) : wpAny M A (letOwnedTupleGo tg (.ref it) u) Q E s := by
  unfold letOwnedTupleGo
  cases tg <;> first
    | exact wpAny_pure hQ
    | (cases u <;> first
        | exact wpAny_pure hQ
        | (refine wpAny_bind (wpAny_load ho ?_)
           rw [hc, hd]
           show wpAny M A (if (["enumerate", "zip", "dict_itemiterator", "dict_reverseitemiterator", "odict_iterator", "itertools.zip_longest", "itertools.pairwise"].contains n && vs[0]? == some (rawInt _)) = true then _ else _) Q E s
           rw [if_neg (by intro h; rw [hn, Bool.false_and] at h; cases h)]
           exact wpAny_pure hQ))

def Itl (K : PySem.W.Frag) (a : Addr) : It :=
  ⟨fun i H => ∃ xs x, SqL K H a xs ∧ xs[i]? = some x, fun i H x H' => H' = H ∧ ∀ xs, SqL K H a xs → xs[i]? = some x, fun i H => ∃ xs, SqL K H a xs ∧ xs.length ≤ i⟩
def Itr (lo : Int) (n : Nat) : It := ⟨fun i _ => i < n, fun i H x H' => H' = H ∧ x = .int (lo + i), fun i _ => n ≤ i⟩
theorem turn_list {P : Program} {w : World} {K : PySem.W.Frag} {tg : Expr} (a it : Addr) : Turn P w K tg (Itl K a) [it] it (fun i h => h.IsListIter it a i) where
  mem := by simp
  obj := fun i h st b hb => by
    have e : b = it := by simpa using hb
    subst e
    obtain ⟨o, e, c, d⟩ := st
    exact ⟨o, e, fun v z => by rw [d] at z; cases z⟩
  keep := fun i h h' st k => st.at fun o e => k it (by simp) o e
  item := by
    intro X hP hw hK hc i pins s σ H E I hf st hg
    subst hP hw hK
    obtain ⟨xs, x, hq, hx⟩ := hg
    obtain ⟨its, rv, p, hz⟩ := I.list hq
    obtain ⟨u, hu, ru⟩ := rv.get hx
    obtain ⟨f0, f1, f2, f3, f4, f5⟩ := hf it (by simp)
    refine wpAny_pyNext_list_item st p.isList (x := u) (by simpa using hu) fun h' st' sb => ?_
    have I1 : Inv X pins σ H { s with heap := h' } := I.turned (t' := s.toks) (fun b o hb e => (sb.2 b hb).trans e) f0 f1 f3 f4 f5
    obtain ⟨o, e, c, d⟩ := id st'
    exact ⟨u, rfl, go_of (s := { s with heap := h' }) e c d (by decide) ⟨x, H, I1, ru, ⟨rfl, fun ys hy => by rw [I.list_inj hy hq]; exact hx⟩, st', fun b hb => (hf b hb).1⟩⟩
  done := by
    intro X hP hw hK hc i pins s σ H E I hf st hg
    subst hP hw hK
    obtain ⟨xs, hq, hx⟩ := hg
    obtain ⟨its, rv, p, hz⟩ := I.list hq
    obtain ⟨f0, f1, f2, f3, f4, f5⟩ := hf it (by simp)
    have hl := rv.length
    exact wpAny_pyNext_list_end (I.ok.hd hc) st p.isList (by simp; omega) fun h' eb => ⟨rfl, I.turned (t' := s.toks) (fun b o hb e => eb b o hb e) f0 f1 f3 f4 f5⟩
  self := fun _ _ _ _ _ st h => wpAny_pyIter_listiter st h
theorem turn_range {P : Program} {w : World} {K : PySem.W.Frag} {tg : Expr} (it : Addr) (lo : Int) (n : Nat) : Turn P w K tg (Itr lo n) [it] it (fun i h => IsRangeIter h it (lo + (i : Nat) * 1) ((n : Int) - (i : Nat)) 1) where
  mem := by simp
  obj := fun i h st b hb => by
    have e : b = it := by simpa using hb
    subst e
    exact ⟨_, st, fun v z => by
      have z' : Data.fields _ = Data.cell v := z
      cases z'⟩
  keep := fun i h h' st k => k it (by simp) _ st
  item := by
    intro X hP hw hK hc i pins s σ H E I hf st hg
    subst hP hw hK
    obtain ⟨f0, f1, f2, f3, f4, f5⟩ := hf it (by simp)
    have W := Walks.range (prog := X.prog) (w := X.w) (I.ok.hd hc) it lo 1 n
    refine W.item i s _ _ hg st fun v h' tk hv st' kk => ?_
    obtain ⟨t, rfl⟩ := hv
    have I1 : Inv X pins σ H { s with heap := h', toks := tk } := I.turned (fun b o hb e => kk b o (by simpa using hb) e) f0 f1 f3 f4 f5
    refine ⟨_, rfl, go_of (s := { s with heap := h', toks := tk }) (n := "range_iterator") st' rfl rfl (by decide) ⟨.int (lo + i), H, I1, ⟨t, ?_⟩, ⟨rfl, rfl⟩, st', fun b hb => (hf b hb).1⟩⟩
    rw [Int.mul_one]
  done := by
    intro X hP hw hK hc i pins s σ H E I hf st hg
    subst hP hw hK
    obtain ⟨f0, f1, f2, f3, f4, f5⟩ := hf it (by simp)
    exact wpAny_pyNext_range_end (I.ok.hd hc) st (by have : n ≤ i := hg; omega) fun h' eb => ⟨rfl, I.turned (t' := s.toks) (fun b o hb e => eb b o hb e) f0 f1 f3 f4 f5⟩
  self := fun _ _ _ _ _ st h => wpAny_pyIter_rangeiter st h
end L2

namespace L2
open PySem PySem.Spec PyProof.Rows
section
variable {X : Cx} {tg : Expr}
def iList (K : PySem.W.Frag) (tl : TE) : TI := fun σ H R => tl σ H fun x H1 => ∃ a, x = .ref a ∧ (∃ xs, SqL K H1 a xs) ∧ R (Itl K a) H1
theorem pi_list {l : Expr} {tl : TE} (hl : PE X l tl) : PI X tg l (iList X.K tl) := by
  intro pins s σ H R I h
  refine thn (hl pins s σ H _ I h) fun v s1 ⟨x, H1, I1, r1, q1⟩ => ?_
  obtain ⟨a, e, ⟨xs, hq⟩, q⟩ := q1
  subst e
  cases r1
  obtain ⟨its, rv, p, hz⟩ := I1.list hq
  refine wpAny_pyIter_list p.isList ?_
  refine ⟨s1.heap.objs.size, [s1.heap.objs.size], _, _, H1, rfl, I1.kept (t' := s1.toks) fun b o e => Heap.get?_push_of_some _ e, turn_list a _, ⟨_, Heap.get?_push_size _ rfl, rfl, rfl⟩, fun b hb => ?_, q⟩
  have e : b = s1.heap.objs.size := by simpa using hb
  subst e
  exact I1.fpOk (Nat.le_refl _) (I1.hok.fresh (Nat.le_refl _))
theorem range_it {pins : List (Addr × Obj)} {σ : St} {H : Hp} {s : Shared} {R : It → Hp → Prop} {E : Value → Shared → Prop} {lo hi : Int} {t u v : Tok} {tk : Nat} (I : Inv X pins σ H s) (h1 : -(2 ^ 62) ≤ lo) (h2 : lo < 2 ^ 62) (h3 : -(2 ^ 62) ≤ hi) (h4 : hi < 2 ^ 62)
    (q : R (Itr lo (hi - lo).toNat) H) : wpAny (model X.prog X.w) X.A (pyIter (.ref s.heap.objs.size)) (PIE X pins σ tg R) E { s with heap := s.heap.push { cls := .type "range", data := .fields #[.int lo t, .int hi u, .int 1 v] }, toks := tk } := by
  refine wpAny_pyIter_range (IsRange.new ..) (small_one h1 h2 h3 h4) ?_
  have I1 : Inv X pins σ H { s with heap := s.heap.push { cls := .type "range", data := .fields #[.int lo t, .int hi u, .int 1 v] }, toks := tk } := I.kept fun b o e => Heap.get?_push_of_some _ e
  refine ⟨(s.heap.push { cls := .type "range", data := .fields #[.int lo t, .int hi u, .int 1 v] }).objs.size, [(s.heap.push { cls := .type "range", data := .fields #[.int lo t, .int hi u, .int 1 v] }).objs.size], _, _, H, rfl,
    I1.kept (t' := tk) fun b o e => Heap.get?_push_of_some _ e, turn_range _ lo (hi - lo).toNat, ?_, fun b hb => ?_, q⟩
  · have e1 : lo + ((0 : Nat) : Int) * 1 = lo := by simp
    have e2 : (((hi - lo).toNat : Nat) : Int) - ((0 : Nat) : Int) = Builtin.Range.rangeSize lo hi 1 := by rw [rangeSize_one]; split <;> omega
    show IsRangeIter _ _ (lo + ((0 : Nat) : Int) * 1) ((((hi - lo).toNat : Nat) : Int) - ((0 : Nat) : Int)) 1
    rw [e1, e2]
    exact Heap.get?_push_size _ rfl
  · have e : b = (s.heap.push { cls := .type "range", data := .fields #[.int lo t, .int hi u, .int 1 v] }).objs.size := by simpa using hb
    subst e
    exact I1.fpOk (Nat.le_refl _) (I1.hok.fresh (Nat.le_refl _))
def iRng1 (ta : TA) : TI := fun σ H R => ta σ H fun vs H1 => ∃ j : Int, vs = [.int j] ∧ -(2 ^ 62) ≤ j ∧ j < 2 ^ 62 ∧ R (Itr 0 j.toNat) H1
def iRng2 (ta : TA) : TI := fun σ H R => ta σ H fun vs H1 => ∃ i j : Int, vs = [.int i, .int j] ∧ (-(2 ^ 62) ≤ i ∧ i < 2 ^ 62 ∧ -(2 ^ 62) ≤ j ∧ j < 2 ^ 62) ∧ R (Itr i (j - i).toNat) H1
theorem pi_range1 {a : Expr} {ta : TA} {p pos : Pos} (hg : Gl X "range") (hm : X.mg "range" = none) (ha : PA X [a] ta) (hs : starEach [a] X.env = [(false, eval a X.env)] := by rfl) : PI X tg (.Call (.Name "range" p) [a] [] pos) (iRng1 ta) := by
  intro pins s σ H R I h
  refine Call_ (ld_blt I hg hm boot_range (PyProof.Rows.callWith_type1 (thn (ha pos pins s σ H _ I h) fun us s1 ⟨vs, H1, I1, r1, q1⟩ => ?_) hs rfl))
  obtain ⟨j, e, q1, q2, q⟩ := q1
  subst e
  cases r1 with
  | cons r rr =>
    cases rr
    obtain ⟨t, rfl⟩ := r
    exact call_range_1 (range_it I1 (by omega) (by omega) q1 q2 (by simpa using q))
theorem pi_range2 {a b : Expr} {ta : TA} {p pos : Pos} (hg : Gl X "range") (hm : X.mg "range" = none) (ha : PA X [a, b] ta) (hs : starEach [a, b] X.env = [(false, eval a X.env), (false, eval b X.env)] := by rfl) (hs2 : starEach [b] X.env = [(false, eval b X.env)] := by rfl) :
    PI X tg (.Call (.Name "range" p) [a, b] [] pos) (iRng2 ta) := by
  intro pins s σ H R I h
  refine Call_ (ld_blt I hg hm boot_range (PyProof.Rows.callWith_type1 (thn (ha pos pins s σ H _ I h) fun us s1 ⟨vs, H1, I1, r1, q1⟩ => ?_) (by rw [hs, hs2]) (by rw [hs2]; rfl)))
  obtain ⟨i, j, e, ⟨q1, q2, q3, q4⟩, q⟩ := q1
  subst e
  cases r1 with
  | cons r rr =>
    cases rr with
    | cons r' rr =>
      cases rr
      obtain ⟨t, rfl⟩ := r
      obtain ⟨t', rfl⟩ := r'
      exact call_range_2 (range_it I1 q1 q2 q3 q4 q)

def tFor (wi : TI) (g : TG) (tb : TS) : TS := fun D σ H => wi σ H fun J H1 => ∃ W : Nat → Nat → St → Hp → Prop, (∃ m, W 0 m σ H1) ∧ ∀ i m σ H, W i m σ H →
  (J.stop i H ∧ D.nx σ H) ∨ (J.go i H ∧ ∃ N : St → Hp → Prop, (∀ σ' H', N σ' H' → ∃ m', m' < m ∧ W (i + 1) m' σ' H') ∧ ∀ x H', J.yld i H x H' → g x σ H' fun σ2 H2 => tb { D with nx := N, ct := N, bk := D.nx } σ2 H2)
def pinsAt (fp : List Addr) (h : Heap) : List (Addr × Obj) := fp.filterMap fun b => (h.get? b).map fun o => (b, o)
theorem mem_pinsAt {fp : List Addr} {h : Heap} {b : Addr} {o : Obj} (hb : b ∈ fp) (e : h.get? b = some o) : (b, o) ∈ pinsAt fp h := List.mem_filterMap.mpr ⟨b, hb, by rw [e]; rfl⟩
theorem of_pinsAt {fp : List Addr} {h : Heap} {p : Addr × Obj} (hp : p ∈ pinsAt fp h) : p.1 ∈ fp ∧ h.get? p.1 = some p.2 := by
  obtain ⟨b, hb, e⟩ := List.mem_filterMap.mp hp
  cases q : h.get? b with
  | none => rw [q] at e; cases e
  | some o =>
    rw [q] at e
    have e' : (b, o) = p := Option.some.inj e
    subst e'
    exact ⟨hb, q⟩
theorem Inv.pinned {pins : List (Addr × Obj)} {σ : St} {H : Hp} {s : Shared} {fp : List Addr} (I : Inv X pins σ H s) (hf : ∀ b ∈ fp, FpOk X pins H b) (ho : ∀ b ∈ fp, ∃ o, s.heap.get? b = some o ∧ ∀ v, o.data ≠ .cell v) : Inv X (pins ++ pinsAt fp s.heap) σ H s :=
  I.pins_of fun p hp => (List.mem_append.mp hp).elim (fun z => I.pin p (List.mem_append_right _ z)) fun z => by
    obtain ⟨hb, e⟩ := of_pinsAt z
    obtain ⟨f0, f1, f2, _⟩ := hf p.1 hb
    obtain ⟨o, e', d⟩ := ho p.1 hb
    rw [e] at e'; cases e'
    exact ⟨e, f0, f1, f2, d⟩
theorem Inv.unpinned {pins pl : List (Addr × Obj)} {σ : St} {H : Hp} {s : Shared} (I : Inv X (pins ++ pl) σ H s) : Inv X pins σ H s := I.pins_of fun p hp => I.pin p (List.mem_append_right _ (List.mem_append_left _ hp))
theorem ps_for {iter : Expr} {body : List Stmt} {wi : TI} {g : TG} {tb : TS} {pos : Pos} (hp : PassesOwn (model X.prog X.w) X.A X.env X.xe) (hc : X.calm = true) (hi : PI X tg iter wi) (hg : PG X tg g) (hb : PSs X body tb)
    (hs : ∀ x, foldedSetIterable iter X.env x = pure x := by intro _; rfl) : PS X (.For tg iter body [] pos) (tFor wi g tb) := by
  intro pins s σ H D I h
  refine wpAny_For (thn (hi pins s σ H _ I h) fun v s1 h1 => thn h1 fun itv s2 h2 => ?_) hs
  obtain ⟨it, fp, tn, J, H2, e, I2, T, st2, f2, W, ⟨m0, w0⟩, turn⟩ := h2
  subst e
  -- what stays true of the iterator's objects through the loop
  have stat : ∀ {H' : Hp}, (∀ b ∈ fp, H' b = none) → ∀ b ∈ fp, FpOk X pins H' b := fun hn b hb => ⟨hn b hb, (f2 b hb).2⟩
  refine codeAny_forLoop_any (fun n s' => ∃ i σ' H', Inv X pins σ' H' s' ∧ tn i s'.heap ∧ (∀ b ∈ fp, H' b = none) ∧ W i n σ' H') ?_ m0 ⟨0, σ, H2, I2, st2, fun b hb => (f2 b hb).1, w0⟩
  rintro n s3 ⟨i, σ3, H3, I3, st3, fr3, w3⟩
  rcases turn i n σ3 H3 w3 with ⟨stop, qn⟩ | ⟨go, N, hN, step⟩
  · refine wpAny_passesOwn hp (thn (T.done X rfl rfl rfl hc i pins s3 σ3 H3 X.xe I3 (stat fr3) st3 stop) fun r s4 ⟨hr, I4⟩ => ?_)
    subst hr
    exact wpAny_execs_nil ⟨σ3, H3, I4, qn⟩
  · refine wpAny_passesOwn hp (thn (T.item X rfl rfl rfl hc i pins s3 σ3 H3 X.xe I3 (stat fr3) st3 go) fun r s4 ⟨u, hr, h4⟩ => ?_)
    subst hr
    refine wpAny_passesOwn hp (thn h4 fun _ s5 ⟨x, H5, I5, r5, y5, st5, fr5⟩ => ?_)
    have I5' := I5.pinned (stat fr5) (T.obj _ _ st5)
    refine wpAny_passesOwn hp (thn (hg _ s5 σ3 H5 x u _ I5' r5 (step x H5 y5)) fun _ s6 ⟨σ6, H6, I6, q6⟩ => ?_)
    refine wpAny_passesOwn hp (thn (hb _ s6 σ6 H6 _ I6 q6) fun f s7 q7 => ?_)
    have again : ∀ {σ7 : St} {H7 : Hp}, Inv X (pins ++ pinsAt fp s5.heap) σ7 H7 s7 → N σ7 H7 → ∃ m, m < n ∧ ∃ i σ' H', Inv X pins σ' H' s7 ∧ tn i s7.heap ∧ (∀ b ∈ fp, H' b = none) ∧ W i m σ' H' := fun {σ7 H7} I7 n7 => by
      obtain ⟨m', hm, w7⟩ := hN σ7 H7 n7
      refine ⟨m', hm, i + 1, σ7, H7, I7.unpinned, T.keep _ _ _ st5 fun b hb o e => (I7.pin (b, o) (List.mem_append_right _ (List.mem_append_right _ (mem_pinsAt hb e)))).1, fun b hb => ?_, w7⟩
      obtain ⟨o, e, d⟩ := T.obj _ _ st5 b hb
      exact (I7.pin (b, o) (List.mem_append_right _ (List.mem_append_right _ (mem_pinsAt hb e)))).2.1
    cases f with
    | next => obtain ⟨σ7, H7, I7, n7⟩ := q7; exact again I7 n7
    | cont => obtain ⟨σ7, H7, I7, n7⟩ := q7; exact again I7 n7
    | brk => obtain ⟨σ7, H7, I7, q7⟩ := q7; exact ⟨σ7, H7, I7.unpinned, q7⟩
    | ret v => obtain ⟨x7, σ7, H7, I7, r7, q7⟩ := q7; exact ⟨x7, σ7, H7, I7.unpinned, r7, q7⟩
end

theorem for_list {K : PySem.W.Frag} {a : Addr} {xs : List V} {g : TG} {tb : TS} {D : Ends} {σ : St} {H : Hp} (Pv : Nat → St → Hp → Prop) (h0 : Pv 0 σ H) (hl : ∀ i σ H, i ≤ xs.length → Pv i σ H → SqL K H a xs)
    (hs : ∀ i x σ H, xs[i]? = some x → Pv i σ H → g x σ H fun σ2 H2 => tb { D with nx := Pv (i + 1), ct := Pv (i + 1), bk := D.nx } σ2 H2) (hd : ∀ σ H, Pv xs.length σ H → D.nx σ H) :
    ∃ W : Nat → Nat → St → Hp → Prop, (∃ m, W 0 m σ H) ∧ ∀ i m σ H, W i m σ H →
      ((Itl K a).stop i H ∧ D.nx σ H) ∨ ((Itl K a).go i H ∧ ∃ N : St → Hp → Prop, (∀ σ' H', N σ' H' → ∃ m', m' < m ∧ W (i + 1) m' σ' H') ∧ ∀ x H', (Itl K a).yld i H x H' → g x σ H' fun σ2 H2 => tb { D with nx := N, ct := N, bk := D.nx } σ2 H2) := by
  refine ⟨fun i m σ H => m = xs.length - i ∧ i ≤ xs.length ∧ Pv i σ H, ⟨xs.length, by simp, Nat.zero_le _, h0⟩, ?_⟩
  rintro i m σ H ⟨rfl, hi, p⟩
  have q := hl i σ H hi p
  by_cases hlt : i < xs.length
  · refine .inr ⟨⟨xs, xs[i], q, by simp [hlt]⟩, Pv (i + 1), fun σ' H' p' => ⟨xs.length - (i + 1), by omega, rfl, hlt, p'⟩, fun x H' y => ?_⟩
    obtain ⟨e, y⟩ := y
    subst e
    exact hs i x σ _ (y xs q) p
  · have e : i = xs.length := by omega
    subst e
    exact .inl ⟨⟨xs, q, Nat.le_refl _⟩, hd σ H p⟩
theorem for_range {lo : Int} {n : Nat} {g : TG} {tb : TS} {D : Ends} {σ : St} {H : Hp} (Pv : Nat → St → Hp → Prop) (h0 : Pv 0 σ H)
    (hs : ∀ i σ H, i < n → Pv i σ H → g (.int (lo + i)) σ H fun σ2 H2 => tb { D with nx := Pv (i + 1), ct := Pv (i + 1), bk := D.nx } σ2 H2) (hd : ∀ σ H, Pv n σ H → D.nx σ H) :
    ∃ W : Nat → Nat → St → Hp → Prop, (∃ m, W 0 m σ H) ∧ ∀ i m σ H, W i m σ H →
      ((Itr lo n).stop i H ∧ D.nx σ H) ∨ ((Itr lo n).go i H ∧ ∃ N : St → Hp → Prop, (∀ σ' H', N σ' H' → ∃ m', m' < m ∧ W (i + 1) m' σ' H') ∧ ∀ x H', (Itr lo n).yld i H x H' → g x σ H' fun σ2 H2 => tb { D with nx := N, ct := N, bk := D.nx } σ2 H2) := by
  refine ⟨fun i m σ H => m = n - i ∧ i ≤ n ∧ Pv i σ H, ⟨n, by simp, Nat.zero_le _, h0⟩, ?_⟩
  rintro i m σ H ⟨rfl, hi, p⟩
  by_cases hlt : i < n
  · refine .inr ⟨hlt, Pv (i + 1), fun σ' H' p' => ⟨n - (i + 1), by omega, rfl, hlt, p'⟩, fun x H' y => ?_⟩
    obtain ⟨e, y⟩ := y
    subst e y
    exact hs i σ _ hlt p
  · have e : i = n := by omega
    subst e
    exact .inl ⟨Nat.le_refl _, hd σ H p⟩
end L2

namespace L2
open PySem PySem.Spec PyProof.Rows

abbrev R2 := V → V → Hp → VK → Prop
def OpR (X : Cx) (f : Value → Value → Sem Value) (r : R2) : Prop :=
  ∀ (pins : List (Addr × Obj)) (s : Shared) (σ : St) (H : Hp) (x y : V) (v u : Value) (Q : VK), Inv X pins σ H s → RelV x v → RelV y u → r x y H Q →
    wpAny (model X.prog X.w) X.A (f v u) (EP X pins σ Q) X.xe s
def UnR (X : Cx) (f : Value → Sem Value) (r : V → Hp → VK → Prop) : Prop :=
  ∀ (pins : List (Addr × Obj)) (s : Shared) (σ : St) (H : Hp) (x : V) (v : Value) (Q : VK), Inv X pins σ H s → RelV x v → r x H Q →
    wpAny (model X.prog X.w) X.A (f v) (EP X pins σ Q) X.xe s
def CallR (X : Cx) (f : Value) (r : List V → Hp → VK → Prop) : Prop :=
  ∀ (pins : List (Addr × Obj)) (s : Shared) (σ : St) (H : Hp) (xs : List V) (us : List Value) (Q : VK), Inv X pins σ H s → Vals xs us → r xs H Q →
    wpAny (model X.prog X.w) X.A (call f us) (EP X pins σ Q) X.xe s
def TruR (X : Cx) (r : V → Hp → (Bool → Hp → Prop) → Prop) : Prop :=
  ∀ (pins : List (Addr × Obj)) (s : Shared) (σ : St) (H : Hp) (x : V) (v : Value) (Q : Bool → Hp → Prop), Inv X pins σ H s → RelV x v → r x H Q →
    wpAny (model X.prog X.w) X.A (truthy v) (TP X pins σ Q) X.xe s

def tOp (r : R2) (ta tb : TE) : TE := fun σ H Q => ta σ H fun x H1 => tb σ H1 fun y H2 => r x y H2 Q
def tUn (r : V → Hp → VK → Prop) (ta : TE) : TE := fun σ H Q => ta σ H fun x H1 => r x H1 Q
def rI (C : Int → Int → Prop) (g : Int → Int → V) : R2 := fun x y H Q => ∃ i j, x = .int i ∧ y = .int j ∧ C i j ∧ Q (g i j) H
def rI0 (g : Int → Int → V) : R2 := fun x y H Q => ∃ i j, x = .int i ∧ y = .int j ∧ Q (g i j) H
def rU (g : Int → V) : V → Hp → VK → Prop := fun x H Q => ∃ i, x = .int i ∧ Q (g i) H

section
variable {X : Cx} {a b c : Expr} {ta tb tc : TE} {pos : Pos}

theorem binT (ha : PE X a ta) (hb : PE X b tb) {pins : List (Addr × Obj)} {s : Shared} {σ : St} {H : Hp} {R : V → V → Hp → Prop} (I : Inv X pins σ H s)
    (h : ta σ H fun x H1 => tb σ H1 fun y H2 => R x y H2) {Q : Value → Shared → Prop} {f : Value → Value → Sem Value}
    (hf : ∀ v u s2 x y H2, Inv X pins σ H2 s2 → RelV x v → RelV y u → R x y H2 → wpAny (model X.prog X.w) X.A (f v u) Q X.xe s2) :
    wpAny (model X.prog X.w) X.A (eval a X.env) (fun v s₁ => wpAny (model X.prog X.w) X.A (eval b X.env) (fun u s₂ => wpAny (model X.prog X.w) X.A (f v u) Q X.xe s₂) X.xe s₁) X.xe s := by
  refine thn (ha pins s σ H _ I h) fun v s1 ⟨x, H1, I1, r1, q1⟩ => ?_
  refine thn (hb pins s1 σ H1 _ I1 q1) fun u s2 ⟨y, H2, I2, r2, q2⟩ => ?_
  exact hf v u s2 x y H2 I2 r1 r2 q2

theorem pe_op {op : Operator} {r : R2} (ho : OpR X (binaryOp op) r) (ha : PE X a ta) (hb : PE X b tb) : PE X (.BinOp a op b pos) (tOp r ta tb) := by
  intro pins s σ H Q I h
  exact wpAny_BinOp (binT ha hb I h fun v u s2 x y H2 I2 rx ry q => ho pins s2 σ H2 x y v u Q I2 rx ry q)
theorem pe_un {op : UnaryOp} {r : V → Hp → VK → Prop} (ho : UnR X (unaryOp op) r) (ha : PE X a ta) : PE X (.UnaryOp op a pos) (tUn r ta) := by
  intro pins s σ H Q I h
  exact UnaryOp_ (thn (ha pins s σ H _ I h) fun v s1 ⟨x, H1, I1, r1, q1⟩ => ho pins s1 σ H1 x v Q I1 r1 q1)
theorem opI {f : Value → Value → Sem Value} {C : Int → Int → Prop} {g : Int → Int → Int}
    (rule : ∀ (i j : Int) (t u : Tok) (s : Shared) (Q : Value → Shared → Prop) (E : Value → Shared → Prop), C i j → Q (.int (g i j) s.toks) { s with toks := s.toks + 1 } → wpAny (model X.prog X.w) X.A (f (.int i t) (.int j u)) Q E s) :
    OpR X f (rI C fun i j => .int (g i j)) := by
  intro pins s σ H x y v u Q I rx ry h
  obtain ⟨i, j, rfl, rfl, hc, q⟩ := h
  obtain ⟨t, rfl⟩ := rx
  obtain ⟨t', rfl⟩ := ry
  exact rule i j t t' s _ _ hc ⟨.int (g i j), H, I.tok _, ⟨_, rfl⟩, q⟩
theorem opI0 {f : Value → Value → Sem Value} {g : Int → Int → Int}
    (rule : ∀ (i j : Int) (t u : Tok) (s : Shared) (Q : Value → Shared → Prop) (E : Value → Shared → Prop), Q (.int (g i j) s.toks) { s with toks := s.toks + 1 } → wpAny (model X.prog X.w) X.A (f (.int i t) (.int j u)) Q E s) :
    OpR X f (rI0 fun i j => .int (g i j)) := by
  intro pins s σ H x y v u Q I rx ry h
  obtain ⟨i, j, rfl, rfl, q⟩ := h
  obtain ⟨t, rfl⟩ := rx
  obtain ⟨t', rfl⟩ := ry
  exact rule i j t t' s _ _ ⟨.int (g i j), H, I.tok _, ⟨_, rfl⟩, q⟩
theorem opB0 {f : Value → Value → Sem Value} {g : Int → Int → Bool}
    (rule : ∀ (i j : Int) (t u : Tok) (s : Shared) (Q : Value → Shared → Prop) (E : Value → Shared → Prop), Q (.bool (g i j)) s → wpAny (model X.prog X.w) X.A (f (.int i t) (.int j u)) Q E s) :
    OpR X f (rI0 fun i j => .bl (g i j)) := by
  intro pins s σ H x y v u Q I rx ry h
  obtain ⟨i, j, rfl, rfl, q⟩ := h
  obtain ⟨t, rfl⟩ := rx
  obtain ⟨t', rfl⟩ := ry
  exact rule i j t t' s _ _ ⟨.bl (g i j), H, I, rfl, q⟩

def CDivN (i j : Int) : Prop := j ≠ 0 ∧ j.natAbs < 1073741824
def CPow (i j : Int) : Prop := 0 ≤ j ∧ j ≤ 1000000 ∧ i.natAbs < 2 ^ 64
def CMul (i j : Int) : Prop := (-(2 ^ 64) < i ∧ i < 2 ^ 64) ∨ (-(2 ^ 64) < j ∧ j < 2 ^ 64)
theorem CMul.ok {i j : Int} (h : CMul i j) : IntMulOk i j := by
  rcases h with ⟨h1, h2⟩ | ⟨h1, h2⟩
  · exact .of_left (intBits_le_64 h1 h2)
  · exact .of_right (intBits_le_64 h1 h2)
theorem op_add : OpR X (binaryOp .Add) (rI0 fun i j => .int (i + j)) := opI0 fun _ _ _ _ _ _ _ q => add_int q
theorem op_sub : OpR X (binaryOp .Sub) (rI0 fun i j => .int (i - j)) := opI0 fun _ _ _ _ _ _ _ q => sub_int q
theorem op_fdivN : OpR X (binaryOp .FloorDiv) (rI CDivN fun i j => .int (i.fdiv j)) := opI fun _ _ _ _ _ _ _ hc q => floordiv_int hc.1 q (.inl (PyProof.noPylong_small hc.2))
theorem op_modN : OpR X (binaryOp .Mod) (rI (fun _ j => j ≠ 0) fun i j => .int (i.fmod j)) := opI fun _ _ _ _ _ _ _ hc q => mod_int' hc q
theorem unI {f : Value → Sem Value} {g : Int → Int}
    (rule : ∀ (i : Int) (t : Tok) (s : Shared) (Q : Value → Shared → Prop) (E : Value → Shared → Prop), Q (.int (g i) s.toks) { s with toks := s.toks + 1 } → wpAny (model X.prog X.w) X.A (f (.int i t)) Q E s) :
    UnR X f (rU fun i => .int (g i)) := by
  intro pins s σ H x v Q I rx h
  obtain ⟨i, rfl, q⟩ := h
  obtain ⟨t, rfl⟩ := rx
  exact rule i t s _ _ ⟨.int (g i), H, I.tok _, ⟨_, rfl⟩, q⟩
theorem un_neg : UnR X (unaryOp .USub) (rU fun i => .int (-i)) := unI fun _ _ _ _ _ q => neg_int q
end

def scal : V → V → Bool
  | .non, .non => true | .non, .int _ => true | .int _, .non => true | .non, .bl _ => true | .bl _, .non => true | .non, .str _ => true | .str _, .non => true
  | .int _, .int _ => true | .bl _, .bl _ => true | .str _, .str _ => true | .byt _, .byt _ => true
  | .int _, .str _ => true | .str _, .int _ => true | .bl _, .str _ => true | .str _, .bl _ => true
  | _, _ => false
def rEq : R2 := fun x y H Q => scal x y = true ∧ Q (.bl (decide (x = y))) H
theorem dec_int {i j : Int} : decide (V.int i = V.int j) = (i == j) := by
  rw [Bool.eq_iff_iff]
  simp
theorem dec_bl {i j : Bool} : decide (V.bl i = V.bl j) = (i == j) := by
  rw [Bool.eq_iff_iff]
  simp
theorem dec_str {i j : Str} : decide (V.str i = V.str j) = (i == j) := by
  rw [Bool.eq_iff_iff]
  simp
theorem dec_byt {i j : Array UInt8} : decide (V.byt i = V.byt j) = (i.toList == j.toList) := by
  rw [Bool.eq_iff_iff]
  cases i
  cases j
  simp

section
variable {X : Cx} {a b c : Expr} {ta tb tc : TE} {pos : Pos}
theorem fin_bl {pins : List (Addr × Obj)} {σ : St} {H : Hp} {s : Shared} {Q : VK} {k k' : Bool} (I : Inv X pins σ H s) (q : Q (.bl k) H) (e : k = k') : EP X pins σ Q (.bool k') s := by
  subst e
  exact ⟨.bl k, H, I, rfl, q⟩
theorem op_eq : OpR X (compareOp .Eq) rEq := by
  intro pins s σ H x y v u Q I rx ry h
  obtain ⟨hs, q⟩ := h
  cases x with
  | non =>
    cases rx
    cases y with
    | non => cases ry; exact PySem.EqNone.eq_none_none (fin_bl I q (by simp))
    | bl j => cases ry; exact PySem.EqNone.eq_none_bool (fin_bl I q (by simp))
    | int j => obtain ⟨t', rfl⟩ := ry; exact PySem.EqNone.eq_none_int (fin_bl I q (by simp))
    | str j => obtain ⟨t', rfl⟩ := ry; exact PySem.EqNone.eq_none_str (fin_bl I q (by simp))
    | _ => exact absurd (show false = true from hs) Bool.false_ne_true
  | bl i =>
    cases rx
    cases y with
    | non => cases ry; exact PySem.EqNone.eq_bool_none (fin_bl I q (by simp))
    | bl j => cases ry; exact eq_bool (fin_bl I q dec_bl)
    | str j => obtain ⟨t', rfl⟩ := ry; exact PySem.EqMixed.eq_bool_str (fin_bl I q (by simp))
    | _ => exact absurd (show false = true from hs) Bool.false_ne_true
  | int i =>
    obtain ⟨t, rfl⟩ := rx
    cases y with
    | non => cases ry; exact PySem.EqNone.eq_int_none (fin_bl I q (by simp))
    | int j => obtain ⟨t', rfl⟩ := ry; exact eq_int (fin_bl I q dec_int)
    | str j => obtain ⟨t', rfl⟩ := ry; exact PySem.EqMixed.eq_int_str (fin_bl I q (by simp))
    | _ => exact absurd (show false = true from hs) Bool.false_ne_true
  | str i =>
    obtain ⟨t, rfl⟩ := rx
    cases y with
    | non => cases ry; exact PySem.EqNone.eq_str_none (fin_bl I q (by simp))
    | bl j => cases ry; exact PySem.EqMixed.eq_str_bool (fin_bl I q (by simp))
    | int j => obtain ⟨t', rfl⟩ := ry; exact PySem.EqMixed.eq_str_int (fin_bl I q (by simp))
    | str j => obtain ⟨t', rfl⟩ := ry; exact eq_str (fin_bl I q dec_str)
    | _ => exact absurd (show false = true from hs) Bool.false_ne_true
  | byt i =>
    obtain ⟨t, rfl⟩ := rx
    cases y with
    | byt j => obtain ⟨t', rfl⟩ := ry; exact PySem.W.eq_bytes (fin_bl I q dec_byt)
    | _ => exact absurd (show false = true from hs) Bool.false_ne_true
  | _ => cases y <;> exact absurd (show false = true from hs) Bool.false_ne_true
theorem op_lt : OpR X (compareOp .Lt) (rI0 fun i j => .bl (decide (i < j))) := opB0 fun _ _ _ _ _ _ _ q => lt_int q
theorem op_gt : OpR X (compareOp .Gt) (rI0 fun i j => .bl (decide (j < i))) := opB0 fun _ _ _ _ _ _ _ q => gt_int q
theorem OpR.or {f : Value → Value → Sem Value} {r r' : R2} (h : OpR X f r) (h' : OpR X f r') : OpR X f (fun x y H Q => r x y H Q ∨ r' x y H Q) := by
  intro pins s σ H x y v u Q I rx ry q
  rcases q with q | q
  · exact h pins s σ H x y v u Q I rx ry q
  · exact h' pins s σ H x y v u Q I rx ry q

theorem nomark (b : Expr) {op : CmpOp} (h : op ≠ .In := by decide) (h2 : op ≠ .NotIn := by decide) : behindInMarks op b = false := by
  have e1 : (op == CmpOp.In) = false := by cases op <;> first | rfl | exact absurd rfl h
  have e2 : (op == CmpOp.NotIn) = false := by cases op <;> first | rfl | exact absurd rfl h2
  cases b <;> simp [behindInMarks, e1, e2]
theorem pe_cmpR {op : CmpOp} {r : R2} (ho : OpR X (compareOp op) r) (ha : PE X a ta) (hb : PE X b tb) (hm : behindInMarks op b = false) : PE X (.Compare a [op] [b] pos) (tOp r ta tb) := by
  intro pins s σ H Q I h
  exact wpAny_Compare1 (binT ha hb I h fun v u s2 x y H2 I2 rx ry q => ho pins s2 σ H2 x y v u Q I2 rx ry q) hm
def tTest (t : TE) : TT := fun σ H Q => t σ H fun x H' => ∃ k, x = .bl k ∧ Q k H'
theorem pt_cmpR {op : CmpOp} {r : R2} (ho : OpR X (compareOp op) r) (ha : PE X a ta) (hb : PE X b tb) (hm : behindInMarks op b = false) : PT X (.Compare a [op] [b] pos) (tTest (tOp r ta tb)) := by
  intro pins s σ H Q I h
  refine wpAny_isTrue_Compare1 (thn (ha pins s σ H _ I h) fun v s1 ⟨x, H1, I1, r1, q1⟩ => thn (hb pins s1 σ H1 _ I1 q1) fun u s2 ⟨y, H2, I2, r2, q2⟩ =>
    thn (ho pins s2 σ H2 x y v u _ I2 r1 r2 q2) fun c s3 ⟨z, H3, I3, r3, k, e, q3⟩ => ?_) hm
  subst e
  cases r3
  exact wpAny_truthy_bool ⟨H3, I3, q3⟩
def TruV (K : PySem.W.Frag) (x : V) (H : Hp) (k : Bool) : Prop :=
  match x with
  | .non => k = false
  | .bl b => k = b
  | .int i => k = (i != 0)
  | .str y => y.length ≤ sizeLine ∧ k = ((y.length : Int) != 0)
  | .byt y => y.size ≤ sizeLine ∧ k = ((y.size : Int) != 0)
  | .ref p => (∃ xs, SqL K H p xs ∧ k = !xs.isEmpty) ∨ (∃ xs, SqT K H p xs ∧ k = !xs.isEmpty) ∨ ∃ kvs, H p = some (.dK kvs) ∧ k = !kvs.isEmpty
  | _ => False
theorem isEmpty_kv {κ : Type} {kvs : List (κ × V)} {vs : List (κ × Value)} (r : KV kvs vs) : (!vs.isEmpty) = !kvs.isEmpty := by
  cases r <;> rfl
theorem isEmpty_of {xs : List V} {its : List Value} (r : Vals xs its) : (!its.toArray.isEmpty) = !xs.isEmpty := by
  cases r <;> simp
theorem line63 : (sizeLine : Nat) < 2 ^ 63 := by rw [sizeLine_eq]; decide
theorem tru_ok : TruR X (fun x H Q => ∃ k, TruV X.K x H k ∧ Q k H) := by
  intro pins s σ H x v Q I rx h
  obtain ⟨k, e, q⟩ := h
  have hl := line63
  have hs : sizeLine = 16777216 := sizeLine_eq
  cases x with
  | non =>
    cases rx
    have e' : k = false := e
    subst e'
    exact truthy_none ⟨H, I, q⟩
  | bl b =>
    cases rx
    have e' : k = b := e
    subst e'
    exact wpAny_truthy_bool ⟨H, I, q⟩
  | int i =>
    obtain ⟨t, rfl⟩ := rx
    have e' : k = (i != 0) := e
    subst e'
    exact PySem.P.truthy_int ⟨H, I, q⟩
  | str y =>
    obtain ⟨t, rfl⟩ := rx
    obtain ⟨hy, e'⟩ : y.length ≤ sizeLine ∧ k = ((y.length : Int) != 0) := e
    subst e'
    exact PySem.P.truthy_str (by omega) ⟨H, I.tok _, q⟩
  | byt y =>
    obtain ⟨t, rfl⟩ := rx
    obtain ⟨hy, e'⟩ : y.size ≤ sizeLine ∧ k = ((y.size : Int) != 0) := e
    subst e'
    exact PySem.W.truthy_bytes (by omega) ⟨H, I.tok _, q⟩
  | ref p =>
    cases rx
    have e' : (∃ xs, SqL X.K H p xs ∧ k = !xs.isEmpty) ∨ (∃ xs, SqT X.K H p xs ∧ k = !xs.isEmpty) ∨ ∃ kvs, H p = some (.dK kvs) ∧ k = !kvs.isEmpty := e
    rcases e' with ⟨xs, hx, e'⟩ | ⟨xs, hx, e'⟩ | ⟨kvs, hx, e'⟩
    · subst e'
      obtain ⟨its, r, pl, hz⟩ := I.list hx
      have hlen := r.length
      exact wpAny_truthy_list pl.isList (by simp only [List.size_toArray]; omega) ⟨H, I.tok _, by rw [isEmpty_of r]; exact q⟩
    · subst e'
      obtain ⟨its, r, pl, hz⟩ := I.tuple hx
      have hlen := r.length
      exact truthy_tuple pl (by simp only [List.size_toArray]; omega) ⟨H, I.tok _, by rw [isEmpty_of r]; exact q⟩
    · subst e'
      obtain ⟨hz, hS, vs, r, m⟩ : kvs.length ≤ sizeLine ∧ (p == sysModules) = false ∧ ∃ vs, KV kvs vs ∧ s.heap.DictOf (mixKind X.prog X.w) p vs := I.hok p _ hx
      have hlen : kvs.length = vs.length := Paired.length r
      exact wpAny_truthy_dict hS m (by omega) ⟨H, I.tok _, by rw [isEmpty_kv r]; exact q⟩
  | _ => exact (show False from e).elim
theorem pt_truth (ha : PE X a ta) (he : ∀ whole, isTrue a X.env whole = (do let v ← whole; standAt a.pos; holding [v] (truthy v))) :
    PT X a (fun σ H Q => ta σ H fun x H' => ∃ k, TruV X.K x H' k ∧ Q k H') := by
  intro pins s σ H Q I h
  exact isTrue_plain (thn (ha pins s σ H _ I h) fun v s1 ⟨x, H1, I1, r1, q1⟩ => tru_ok pins s1 σ H1 x v Q I1 r1 q1) (he _)

theorem vals1 {x : V} {us : List Value} (r : Vals [x] us) : ∃ u, us = [u] ∧ RelV x u := by
  cases r with
  | cons r1 r2 => cases r2; exact ⟨_, rfl, r1⟩
theorem vals2 {x y : V} {us : List Value} (r : Vals [x, y] us) : ∃ u w', us = [u, w'] ∧ RelV x u ∧ RelV y w' := by
  cases r with
  | cons r1 r2 =>
    cases r2 with
    | cons r3 r4 => cases r4; exact ⟨_, _, rfl, r1, r3⟩
theorem call_max2 (hc : X.calm = true) : CallR X (.builtin "max") (fun xs H Q => ∃ i j, xs = [.int i, .int j] ∧ Q (.int (if j > i then j else i)) H) := by
  intro pins s σ H xs us Q I r h
  obtain ⟨i, j, rfl, q⟩ := h
  obtain ⟨u, w', rfl, ⟨t, rfl⟩, ⟨t', rfl⟩⟩ := vals2 r
  refine max_two_ints (I.ok.hd hc) fun h' tk k => ⟨_, H, I.kept k, ?_, q⟩
  by_cases hj : j > i
  · rw [if_pos hj, if_pos hj]; exact ⟨_, rfl⟩
  · rw [if_neg hj, if_neg hj]; exact ⟨_, rfl⟩
theorem call_min2 (hc : X.calm = true) : CallR X (.builtin "min") (fun xs H Q => ∃ i j, xs = [.int i, .int j] ∧ Q (.int (if j < i then j else i)) H) := by
  intro pins s σ H xs us Q I r h
  obtain ⟨i, j, rfl, q⟩ := h
  obtain ⟨u, w', rfl, ⟨t, rfl⟩, ⟨t', rfl⟩⟩ := vals2 r
  refine min_two_ints (I.ok.hd hc) fun h' tk k => ⟨_, H, I.kept k, ?_, q⟩
  by_cases hj : j < i
  · rw [if_pos hj, if_pos hj]; exact ⟨_, rfl⟩
  · rw [if_neg hj, if_neg hj]; exact ⟨_, rfl⟩
end
end L2

namespace L2
open PySem PySem.Spec PyProof.Rows

structure ObjM (h : Heap) (x dx C : Addr) (mA : Str → Option Value) : Prop where
  obj : h.get? x = some (PySem.W.instObj C dx)
  ns : h.Ns1 dx mA
  ne : dx ≠ x

theorem lookIn_ns {h : Heap} {dx : Addr} {mA : Str → Option Value} (n : h.Ns1 dx mA) : ∃ od, h.get? dx = some od ∧ ∀ name, PySem.W.lookIn name od = some (mA name) := by
  obtain ⟨o, es, ep, ho, hd, hk, _, hm⟩ := n
  refine ⟨o, ho, fun name => ?_⟩
  have e := hm name
  unfold nsFind findBy at e
  rw [← Array.find?_toList] at e
  unfold PySem.W.lookIn
  rw [hd]
  dsimp only
  split
  · rename_i y q
    rw [q] at e
    exact congrArg some e
  · rename_i q
    rw [q] at e
    have a : es.toList.any (·.refKey) = false := by
      rw [List.any_eq_false]
      intro y hy
      obtain ⟨z, t, hkey⟩ := hk y (Array.mem_toList_iff.mp hy)
      simp [DictEntry.refKey, hkey]
    have a' : ¬ es.toList.any (·.refKey) = true := by rw [a]; exact Bool.false_ne_true
    rw [if_neg a']
    exact congrArg some e

theorem ObjM.look {h : Heap} {x dx C : Addr} {mA : Str → Option Value} (I : ObjM h x dx C mA) : ∃ od, PySem.W.InstAt h x (PySem.W.instObj C dx) C (some od) ∧ ∀ name, PySem.W.lookIn name od = some (mA name) :=
  let ⟨od, ho, hl⟩ := lookIn_ns I.ns
  ⟨od, ⟨I.obj, rfl, rfl, ho⟩, hl⟩

section
variable {prog : Program} {w : World} {A : Around} {E : Value → Shared → Prop} {s : Shared} {K : PySem.W.Frag} {x dx C f : Addr} {mA : Str → Option Value} {name : Str} {v : Value}

theorem get_map {expr : Bool} {Q : Value → Shared → Prop} (X : K.In s.heap) (I : ObjM s.heap x dx C mA) (hg : PySem.W.plainGet K C name = true) (hh : PySem.W.hasDictIn K C = true)
    (ha : PySem.W.findIn K (.ref C) name = some none) (hv : mA name = some v) (hv' : PySem.W.handedIn v = true) (h : Q v { s with toks := s.toks + 1 }) :
    wpAny (model prog w) A (getAttr (.ref x) name expr) Q E s := by
  obtain ⟨od, J, hl⟩ := I.look
  exact PySem.W.get_value X J (PySem.W.plainGet_of hg).1 (PySem.W.findObj_own hh ha rfl (by rw [hl, hv])) hv' h

theorem get_meth {pl : Sem Bool} {Q : Value × List Value → Shared → Prop} (X : K.In s.heap) (I : ObjM s.heap x dx C mA) (hg : PySem.W.plainGet K C name = true)
    (hf : PySem.W.findIn K (.ref C) name = some (some (.ref f))) (ht : PySem.W.isFn K (.ref f) = true) (hv : mA name = none) (h : Q (.ref f, [.ref x]) s) :
    wpAny (model prog w) A (getMethod (.ref x) name pl) Q E s := by
  obtain ⟨od, J, hl⟩ := I.look
  exact PySem.W.method_fn X J (PySem.W.plainGet_of hg).1 (PySem.W.plainGet_of hg).2 hf (beq_iff_eq.mp ht) (by show (PySem.W.lookIn name od).map (·.isSome) = some false; rw [hl, hv]; rfl) h

theorem set_map {ns : List Str} {Q : Unit → Shared → Prop} (X : K.In s.heap) (I : ObjM s.heap x dx C mA)
    (hs : PySem.W.findIn K (.ref C) "__setattr__" = some (some (.builtin "object.__setattr__"))) (hp : PySem.W.plainOver K C = true) (ht : PySem.W.takerIn K C name = some none) (hh : PySem.W.hasDictIn K C = true)
    (hw : PySem.Within mA ns) (hsz : ns.length ≤ sizeLine)
    (h : ∀ h', ObjM h' x dx C (fun y => if y = name then some v else mA y) → Heap.SameBut dx s.heap h' → Q () { s with heap := h', toks := s.toks + 2 }) :
    wpAny (model prog w) A (setAttr (.ref x) name v) Q E s := by
  obtain ⟨od, J, hl⟩ := I.look
  refine PySem.W.set_plain X J hs (PySem.W.osa_open (s := { s with toks := s.toks + 1 }) (r := none) X J hp ht fun b => ?_)
  obtain ⟨cd, hc, hd'⟩ := PySem.W.any_some hh
  have hx : s.heap.get? x = some ⟨.ref C, some dx, .plain, #[]⟩ := I.obj
  refine wpAny_bind (wpAny_pure (wpAny_bind (wpAny_bind (wpAny_loadPart hx (wpAny_bind (PySem.W.Looks.here (s := { s with toks := s.toks + 1 }) (PySem.W.looks_clsIn X hc) ?_))))))
  rw [hd']
  refine wpAny_pure (a := some dx) (wpAny_bind (wpAny_pure (wpAny_bind ?_)))
  refine wpAny_nsSet1 (s := { s with toks := s.toks + 1 }) I.ns fun h' hn2 hs2 => ?_
  obtain ⟨oD, esD, epD, hoD, hdD, hcD⟩ := hn2.count (PySem.Within.cons name v hw)
  refine wpAny_bind (wpAny_lookBehind hoD (by rw [hdD]; exact pastItsLine_dict (Nat.le_trans hcD (by rw [List.length_cons]; omega))) ?_)
  exact wpAny_pure (h _ ⟨(hs2.2 _ (Ne.symm I.ne)).trans I.obj, hn2, I.ne⟩ hs2)

theorem make_map {R : Result → Shared → Prop} {vs : List Value} {kw : List (Str × Value)} (X : K.In s.heap) (hm : PySem.W.makesIn K C = true)
    (hi : PySem.W.findIn K (.ref C) "__init__" = some (some (.ref f))) (hf : PySem.W.typeIn K (.ref f) = some (.type "function"))
    (h : codeAny (model prog w) (A.under (.builtin "type.__call__" ⟨.ref C :: vs, kw⟩)) (.call (.ref f) ⟨.ref (s.heap.objs.size + 1) :: vs, kw⟩) (PySem.W.InitBack (s.heap.objs.size + 1) R)
      { s with heap := (s.heap.push PySem.W.emptyDict).push (PySem.W.instObj C s.heap.objs.size) }) :
    codeAny (model prog w) A (.call (.ref C) ⟨vs, kw⟩) R s := by
  obtain ⟨hh, g, d, t, os⟩ := s
  exact PySem.W.make_core (PySem.W.makes_of X hm) (PySem.W.looks_findIn X hi) (fun self => PySem.W.bind_fn X self hf) (.inl rfl) h
end

def putF (f : Str) (v : V) : List (Str × V) → List (Str × V)
  | [] => [(f, v)]
  | (g, x) :: r => if g = f then (g, v) :: r else (g, x) :: putF f v r
theorem lookup_putF (f g : Str) (v : V) : ∀ fs : List (Str × V), (putF f v fs).lookup g = if g = f then some v else fs.lookup g
  | [] => by
    show List.lookup g [(f, v)] = _
    by_cases h : g = f
    · have hb : (g == f) = true := beq_iff_eq.mpr h
      simp only [List.lookup, hb, if_pos h]
    · have hb : (g == f) = false := beq_eq_false_iff_ne.mpr h
      simp only [List.lookup, hb, if_neg h]
  | (k, x) :: r => by
    have ih := lookup_putF f g v r
    rw [show putF f v ((k, x) :: r) = (if k = f then (k, v) :: r else (k, x) :: putF f v r) from rfl]
    by_cases hk : k = f
    · rw [if_pos hk]
      by_cases h : g = k
      · have hb : (g == k) = true := beq_iff_eq.mpr h
        simp only [List.lookup, hb, if_pos (h.trans hk)]
      · have hb : (g == k) = false := beq_eq_false_iff_ne.mpr h
        simp only [List.lookup, hb, if_neg (fun e : g = f => h (e.trans hk.symm))]
    · rw [if_neg hk]
      by_cases h : g = k
      · have hb : (g == k) = true := beq_iff_eq.mpr h
        simp only [List.lookup, hb, if_neg (fun e : g = f => hk (h.symm.trans e))]
      · have hb : (g == k) = false := beq_eq_false_iff_ne.mpr h
        simp only [List.lookup, hb]
        exact ih
theorem keys_putF (f : Str) (v : V) : ∀ fs : List (Str × V), f ∈ (putF f v fs).map (·.1) ∧ ∀ g, g ∈ fs.map (·.1) → g ∈ (putF f v fs).map (·.1)
  | [] => ⟨by simp [putF], fun g h => by simp at h⟩
  | (k, x) :: r => by
    obtain ⟨i1, i2⟩ := keys_putF f v r
    rw [show putF f v ((k, x) :: r) = (if k = f then (k, v) :: r else (k, x) :: putF f v r) from rfl]
    by_cases hk : k = f
    · rw [if_pos hk]
      subst hk
      exact ⟨by simp, fun g h => by simpa using h⟩
    · rw [if_neg hk]
      refine ⟨?_, fun g h => ?_⟩
      · rw [List.map_cons]
        exact List.mem_cons_of_mem _ i1
      · rw [List.map_cons] at h ⊢
        rcases List.mem_cons.mp h with e | e
        · exact List.mem_cons.mpr (.inl e)
        · exact List.mem_cons_of_mem _ (i2 g e)
theorem length_putF (f : Str) (v : V) : ∀ fs : List (Str × V), (putF f v fs).length ≤ fs.length + 1
  | [] => by simp [putF]
  | (k, x) :: r => by
    have ih := length_putF f v r
    rw [show putF f v ((k, x) :: r) = (if k = f then (k, v) :: r else (k, x) :: putF f v r) from rfl]
    by_cases hk : k = f
    · rw [if_pos hk, List.length_cons, List.length_cons]; omega
    · rw [if_neg hk, List.length_cons, List.length_cons]; omega

theorem RelO.some_of {v : V} {o : Option Value} (r : RelO (some v) o) : ∃ u, o = some u ∧ RelV v u := by
  cases o with
  | none => exact (show False from r).elim
  | some u => exact ⟨u, rfl, r⟩
theorem RelO.none_of {o : Option Value} (r : RelO none o) : o = none := by
  cases o with
  | none => rfl
  | some u => exact (show False from r).elim
theorem handed_of {v : V} {u : Value} (r : RelV v u) : PySem.W.handedIn u = true := by
  cases v with
  | non => cases (show u = Value.none from r); rfl
  | bl b => cases (show u = Value.bool b from r); rfl
  | int i => obtain ⟨t, e⟩ := (show ∃ t, u = Value.int i t from r); cases e; rfl
  | str x => obtain ⟨t, e⟩ := (show ∃ t, u = Value.str x t from r); cases e; rfl
  | byt b => obtain ⟨t, e⟩ := (show ∃ t, u = Value.bytes b t from r); cases e; rfl
  | flt b => obtain ⟨t, e⟩ := (show ∃ t, u = Value.float b t from r); cases e; rfl
  | ref a => cases (show u = Value.ref a from r); rfl
  | ty n => cases (show u = Value.type n from r); rfl

section
variable {P : Program} {w : World} {H H' : Hp} {h h' : Heap} {a C dx : Addr} {fs fs' : List (Str × V)}
theorem ins_get (hok : HOk P w H h) (e : H a = some (.ins C dx fs)) : ∃ mA, ObjM h a dx C mA ∧ (∀ f, RelO (fs.lookup f) (mA f)) ∧ PySem.Within mA (fs.map (·.1)) ∧ fs.length ≤ 1000 ∧ H dx = some (.own a) := by
  obtain ⟨d, z, ne, ob, mA, n, r, q⟩ := (show ObjOk P w H h a (.ins C dx fs) from hok a _ e)
  exact ⟨mA, ⟨ob, n, ne⟩, r, q, z, d⟩
end

structure Cls (K : PySem.W.Frag) (C : Addr) : Prop where
  pg : PySem.W.plainGet K C Str.empty = true
  hd : PySem.W.hasDictIn K C = true
  po : PySem.W.plainOver K C = true
  sa : PySem.W.findIn K (.ref C) "__setattr__" = some (some (.builtin "object.__setattr__"))
theorem Cls.get {K : PySem.W.Frag} {C : Addr} (c : Cls K C) (f : Str) : PySem.W.plainGet K C f = true := c.pg
def NoAttr (K : PySem.W.Frag) (C : Addr) (f : Str) : Prop := PySem.W.findIn K (.ref C) f = some none
theorem NoAttr.taker {K : PySem.W.Frag} {C : Addr} {f : Str} (n : NoAttr K C f) : PySem.W.takerIn K C f = some none := by
  unfold PySem.W.takerIn
  rw [show PySem.W.findIn K (.ref C) f = some none from n]
  rfl
structure Meth (K : PySem.W.Frag) (C : Addr) (m : Str) (f : Addr) : Prop where
  at_ : PySem.W.findIn K (.ref C) m = some (some (.ref f))
  fn : PySem.W.isFn K (.ref f) = true
  kp : PySem.W.keepIn K (.ref f) = true

section
variable {X : Cx} {pins : List (Addr × Obj)} {σ : St} {H : Hp} {s : Shared} {a C dx : Addr} {fs : List (Str × V)} {f : Str} {v : V} {A : Around} {E : Value → Shared → Prop}

theorem getattr_ok {b : Bool} {Q : Value → Shared → Prop} (I : Inv X pins σ H s) (e : H a = some (.ins C dx fs)) (c : Cls X.K C) (n : NoAttr X.K C f) (l : fs.lookup f = some v)
    (h : ∀ u s', Inv X pins σ H s' → RelV v u → Q u s') : wpAny (model X.prog X.w) A (getAttr (.ref a) f b) Q E s := by
  obtain ⟨mA, O, r, _, _, _⟩ := ins_get I.hok e
  obtain ⟨u, hu, ru⟩ := RelO.some_of (v := v) (o := mA f) (by rw [← l]; exact r f)
  exact get_map I.kIn O (c.get f) c.hd n hu (handed_of ru) (h u _ (I.tok _) ru)

theorem getmeth_ok {m : Str} {g : Addr} {pl : Sem Bool} {Q : Value × List Value → Shared → Prop} (I : Inv X pins σ H s) (e : H a = some (.ins C dx fs)) (c : Cls X.K C) (k : Meth X.K C m g) (l : fs.lookup m = none)
    (h : Q (.ref g, [.ref a]) s) : wpAny (model X.prog X.w) A (getMethod (.ref a) m pl) Q E s := by
  obtain ⟨mA, O, r, _, _, _⟩ := ins_get I.hok e
  have hn : mA m = none := RelO.none_of (by rw [← l]; exact r m)
  exact get_meth I.kIn O (c.get m) k.at_ k.fn hn h

theorem setattr_ok {y : V} {u : Value} {Q : Unit → Shared → Prop} (I : Inv X pins σ H s) (e : H a = some (.ins C dx fs)) (c : Cls X.K C) (n : NoAttr X.K C f) (hl : fs.length < 1000) (ry : RelV y u)
    (h : ∀ s', Inv X pins σ (upd H a (.ins C dx (putF f y fs))) s' → Q () s') : wpAny (model X.prog X.w) A (setAttr (.ref a) f u) Q E s := by
  obtain ⟨mA, O, r, wi, _, ho⟩ := ins_get I.hok e
  have hz : (fs.map (·.1)).length ≤ sizeLine := by rw [List.length_map, sizeLine_eq]; omega
  refine set_map I.kIn O c.sa c.po n.taker c.hd wi hz fun h' O' sb => h _ ?_
  have hd : ∃ o, h'.get? dx = some o := let ⟨o, _, _, e', _⟩ := O'.ns; ⟨o, e'⟩
  refine I.write (x := a) (e := dx) (by rw [e]; exact True.intro) (.inr ho) (fun b q hb z => (sb.2 b hb).trans z) hd ?_
  refine ⟨by rw [upd_ne O.ne]; exact ho, ?_, O.ne, O'.obj, _, O'.ns, fun g => ?_, fun g hg => ?_⟩
  · have := length_putF f y fs; omega
  · show RelO ((putF f y fs).lookup g) (if g = f then some u else mA g)
    rw [lookup_putF]
    by_cases q : g = f
    · rw [if_pos q, if_pos q]; exact ry
    · rw [if_neg q, if_neg q]; exact r g
  · by_cases q : g = f
    · rw [q]; exact (keys_putF f y fs).1
    · refine (keys_putF f y fs).2 g (wi g fun z => hg ?_)
      show (if g = f then some u else mA g) = none
      rw [if_neg q]; exact z

theorem Inv.made (I : Inv X pins σ H s) : Inv X pins σ (upd (upd H s.heap.objs.size (.own (s.heap.objs.size + 1))) (s.heap.objs.size + 1) (.ins C s.heap.objs.size []))
    { s with heap := (s.heap.push PySem.W.emptyDict).push (PySem.W.instObj C s.heap.objs.size) } := by
  have e1 : (s.heap.push PySem.W.emptyDict).get? s.heap.objs.size = some PySem.W.emptyDict := Heap.get?_push_size s.heap rfl
  have e2 : ((s.heap.push PySem.W.emptyDict).push (PySem.W.instObj C s.heap.objs.size)).get? (s.heap.objs.size + 1) = some (PySem.W.instObj C s.heap.objs.size) := by
    have := Heap.get?_push_size (s.heap.push PySem.W.emptyDict) (o := PySem.W.instObj C s.heap.objs.size) rfl
    rwa [Heap.size_push] at this
  have e3 : (s.heap.push PySem.W.emptyDict).Ns s.heap.objs.size (fun _ => none) := ⟨PySem.W.emptyDict, #[], _, e1, rfl, (fun e he => absurd he (by simp)), fun _ => rfl⟩
  have I1 := I.laid (a := s.heap.objs.size) (o := .own (s.heap.objs.size + 1)) (h' := s.heap.push PySem.W.emptyDict) (t' := s.toks) (fun b u q => Heap.get?_push_of_some _ q) (Nat.le_refl _) ⟨_, e1⟩
  refine I1.laid (a := s.heap.objs.size + 1) (o := .ins C s.heap.objs.size []) (t' := s.toks) (fun b u q => Heap.get?_push_of_some _ q) (Nat.le_of_eq (Heap.size_push _ _)) ?_
  have ne : s.heap.objs.size ≠ s.heap.objs.size + 1 := Nat.ne_of_lt (Nat.lt_succ_self _)
  refine ⟨by rw [upd_ne ne, upd_same], Nat.zero_le _, ne, e2, fun _ => none, (Heap.Ns1.of_empty e3).at fun o q => Heap.get?_push_of_some _ q, fun _ => True.intro, fun y hy => absurd rfl hy⟩

theorem attr_of {prog : Program} {w : World} {env : Env} {e : Expr} {f : Str} {pos : Pos} {s : Shared} {Q : Value → Shared → Prop} (hb : attributeBase e f env (eval e env) = eval e env)
    (h : wpAny (model prog w) A (eval e env) (fun o s₁ => wpAny (model prog w) A (getAttr o f true) Q E s₁) E s) : wpAny (model prog w) A (eval (.Attribute e f pos) env) Q E s :=
  Attribute_any_ h (by rw [arm_eval_Attribute, hb])
end

def tFld (K : PySem.W.Frag) (ta : TE) (f : Str) : TE := fun σ H Q => ta σ H fun x H1 => ∃ a C dx fs v, x = .ref a ∧ H1 a = some (.ins C dx fs) ∧ Cls K C ∧ NoAttr K C f ∧ fs.lookup f = some v ∧ Q v H1
def sFld (K : PySem.W.Frag) (ta tv : TE) (f : Str) : TS := fun D σ H => tv σ H fun y H1 => ta σ H1 fun x H2 => ∃ a C dx fs, x = .ref a ∧ H2 a = some (.ins C dx fs) ∧ Cls K C ∧ NoAttr K C f ∧ fs.length < 1000 ∧
  D.nx σ (upd H2 a (.ins C dx (putF f y fs)))
section
variable {X : Cx} {o e value : Expr} {f : Str} {pos pos' tpos : Pos} {ta tv : TE}
theorem pe_fld (he : PE X e ta) (hb : attributeBase e f X.env (eval e X.env) = eval e X.env) : PE X (.Attribute e f pos) (tFld X.K ta f) := by
  intro pins s σ H Q I h
  refine attr_of hb (thn (he pins s σ H _ I h) fun u s1 ⟨x, H1, I1, rx, a, C, dx, fs, v, ex, ea, c, n, l, q⟩ => ?_)
  subst ex
  obtain rfl : u = Value.ref a := rx
  exact getattr_ok I1 ea c n l fun u' s2 I2 ru => ⟨v, H1, I2, ru, q⟩
theorem ps_fld (ha : PE X o ta) (hv : PE X value tv) (hs : swapsWith value (some (.Attribute o f pos')) pos.line X.env = pure false) : PS X (.Assign [.Attribute o f pos'] value pos) (sFld X.K ta tv f) := by
  intro pins s σ H D I h
  refine plainObj_wpAny_Assign_Attribute (thn (hv pins s σ H _ I h) fun u s1 ⟨y, H1, I1, ry, q⟩ => thn (ha pins s1 σ H1 _ I1 q) fun ov s2 ⟨x, H2, I2, rx, a, C, dx, fs, ex, ea, c, n, l, q2⟩ => ?_) hs
  subst ex
  obtain rfl : ov = Value.ref a := rx
  exact setattr_ok I2 ea c n l ry fun s3 I3 => ⟨σ, _, I3, q2⟩
end

section
variable {X : Cx} {pins : List (Addr × Obj)} {σ : St} {H : Hp} {s : Shared} {A : Around} {E : Value → Shared → Prop} {Q : Value → Shared → Prop} {c : Value} {b : Bool}
inductive TyOf (K : PySem.W.Frag) (H : Hp) : V → Value → Prop where
  | non : TyOf K H .non (.type "NoneType")
  | bl (x : Bool) : TyOf K H (.bl x) (.type "bool")
  | int (i : Int) : TyOf K H (.int i) (.type "int")
  | str (x : Str) : TyOf K H (.str x) (.type "str")
  | flt (x : UInt64) : TyOf K H (.flt x) (.type "float")
  | lst {a : Addr} {xs : List V} (e : H a = some (.lst xs)) : TyOf K H (.ref a) (.type "list")
  | frz {a : Addr} {o : Obj} {xs : List V} (e : H a = some (.frz o (.lst xs))) : TyOf K H (.ref a) (.type "list")
  | tup {a : Addr} {xs : List V} (e : H a = some (.tup xs)) : TyOf K H (.ref a) (.type "tuple")
  | dK {a : Addr} {kvs : List (Key × V)} (e : H a = some (.dK kvs)) : TyOf K H (.ref a) (.type "dict")
  | dT {a : Addr} {kvs : List (List Key × V)} (e : H a = some (.dT kvs)) : TyOf K H (.ref a) (.type "dict")
  | ins {a C dx : Addr} {fs : List (Str × V)} (e : H a = some (.ins C dx fs)) (cl : Cls K C) (ha : PySem.W.findIn K (.ref C) "__class__" = some (some (.builtin "object.__class__")))
      (hn : PySem.W.specialIn K (.builtin "object.__class__") "__get__" = some (some (.builtin "getset_descriptor.__get__"))) (htk : PySem.W.takesIn K (.builtin "object.__class__") = some true)
      (hm : PySem.W.mroIn K C (.type "object") = some true) : TyOf K H (.ref a) (.ref C)
theorem isinst_ok {x : V} {u t : Value} (I : Inv X pins σ H s) (rx : RelV x u) (ty : TyOf X.K H x t) (e : PySem.W.kitOne X.K t c = some b) (h : ∀ tk, Q (.bool b) { s with toks := tk }) :
    wpAny (model X.prog X.w) A (call (.builtin "isinstance") [u, c]) Q E s := by
  cases ty with
  | non => cases (show u = Value.none from rx); exact PySem.W.kia_one PySem.W.kitx_none I.kIn True.intro e (fun z => nomatch z) h
  | bl y => cases (show u = Value.bool y from rx); exact PySem.W.kia_one PySem.W.kitx_bool I.kIn True.intro e (fun z => nomatch z) h
  | int i => obtain ⟨t, q⟩ := (show ∃ t, u = Value.int i t from rx); cases q; exact PySem.W.kia_one PySem.W.kitx_int I.kIn True.intro e (fun z => nomatch z) h
  | str y => obtain ⟨t, q⟩ := (show ∃ t, u = Value.str y t from rx); cases q; exact PySem.W.kia_one PySem.W.kitx_str I.kIn True.intro e (fun z => nomatch z) h
  | flt y => obtain ⟨t, q⟩ := (show ∃ t, u = Value.float y t from rx); cases q; exact PySem.W.kia_one PySem.W.kitx_float I.kIn True.intro e (fun z => nomatch z) h
  | @lst a xs ea =>
    cases (show u = Value.ref a from rx)
    obtain ⟨_, _, n, _, h1⟩ := (show ObjOk X.prog X.w H s.heap a (.lst xs) from I.hok a _ ea)
    exact PySem.W.kia_one PySem.W.kitx_list I.kIn ⟨_, h1, rfl⟩ e (fun z => nomatch z) h
  | @frz a ob xs ea =>
    cases (show u = Value.ref a from rx)
    obtain ⟨_, _, _, n, _, h1⟩ := (show ObjOk X.prog X.w H s.heap a (.frz ob (.lst xs)) from I.hok a _ ea)
    exact PySem.W.kia_one PySem.W.kitx_list I.kIn ⟨_, h1, rfl⟩ e (fun z => nomatch z) h
  | @tup a xs ea =>
    cases (show u = Value.ref a from rx)
    obtain ⟨_, _, _, p⟩ := (show ObjOk X.prog X.w H s.heap a (.tup xs) from I.hok a _ ea)
    obtain ⟨o, h1, h2, _⟩ := p
    exact PySem.W.kia_one PySem.W.kitx_tuple I.kIn ⟨o, h1, h2⟩ e (fun z => nomatch z) h
  | @dK a kvs ea =>
    cases (show u = Value.ref a from rx)
    obtain ⟨_, _, vs, _, p⟩ := (show ObjOk X.prog X.w H s.heap a (.dK kvs) from I.hok a _ ea)
    obtain ⟨o, es, ep, h1, h2, _⟩ := p
    exact PySem.W.kia_one PySem.W.kitx_dict I.kIn ⟨o, h1, h2.1⟩ e (fun z => nomatch z) h
  | @dT a kvs ea =>
    cases (show u = Value.ref a from rx)
    obtain ⟨_, _, xs, _, o, es, ep, h1, h2, _⟩ := (show ObjOk X.prog X.w H s.heap a (.dT kvs) from I.hok a _ ea)
    exact PySem.W.kia_one PySem.W.kitx_dict I.kIn ⟨o, h1, h2.1⟩ e (fun z => nomatch z) h
  | @ins a C dx fs ea cl ha hn htk hm =>
    cases (show u = Value.ref a from rx)
    obtain ⟨mA, O, _⟩ := ins_get I.hok ea
    obtain ⟨od, J, _⟩ := O.look
    exact PySem.W.kia_one (PySem.W.kitx_own (cl.get _) cl.hd ha hn htk hm) I.kIn J e (fun z => nomatch z) h
end
end L2

namespace L2
open PySem PySem.Spec PyProof.Rows

structure Room (k : Nat) (A : Around) : Prop where
  hd : A.handled = none
  dp : A.depth + 3 * k + 5 < recursionLimit
  un : A.units + 16 * k + 200 < cLine
theorem Room.mono {j k : Nat} {A : Around} (r : Room k A) (h : j ≤ k) : Room j A := ⟨r.hd, by have := r.dp; omega, by have := r.un; omega⟩
theorem Room.deeper {k : Nat} {A : Around} (r : Room (k + 1) A) (env : Env) : Room k (A.deeper env) :=
  ⟨r.hd, by have := r.dp; show A.depth + 1 + 3 * k + 5 < _; omega, by have := r.un; show A.units + 3 + 16 * k + 200 < _; omega⟩
theorem Room.in1 {k : Nat} {A : Around} (r : Room (k + 1) A) : Room k A.in1 :=
  ⟨r.hd, by have := r.dp; show A.depth + 3 * k + 5 < _; omega, by have := r.un; show A.units + 1 + 16 * k + 200 < _; omega⟩
theorem make_depth {A : Around} {C : Addr} {us : List Value} {kw : List (Str × Value)} : (A.under (.builtin "type.__call__" ⟨.ref C :: us, kw⟩)).depth = A.depth + 1 := by
  first | rfl | simp [Around.under, Code.weight, Code.isCreation, Code.isGuard, Code.isCaller, Code.frames, Code.isFrame, guardIds]
theorem make_units {A : Around} {C : Addr} {us : List Value} {kw : List (Str × Value)} : (A.under (.builtin "type.__call__" ⟨.ref C :: us, kw⟩)).units = A.units + 1 := by
  first | rfl | simp [Around.under, Code.cUnits, Code.frames, Code.isFrame]
theorem Room.make {k : Nat} {A : Around} (r : Room (k + 1) A) (C : Addr) (us : List Value) (kw : List (Str × Value)) : Room k (A.under (.builtin "type.__call__" ⟨.ref C :: us, kw⟩)) :=
  ⟨r.hd, by have := r.dp; rw [make_depth]; omega, by have := r.un; rw [make_units]; omega⟩
theorem Room.depth {k : Nat} {A : Around} (r : Room k A) : A.depth < recursionLimit := by have := r.dp; omega
theorem Room.units {k : Nat} {A : Around} (r : Room k A) : A.units + 64 < cLine := by have := r.un; omega
def tNil : TA := fun _ H Q => Q [] H
def tCons (ta : TE) (tr : TA) : TA := fun σ H Q => ta σ H fun x H1 => tr σ H1 fun xs H2 => Q (x :: xs) H2
section
variable {X : Cx} {e : Expr} {es : List Expr} {te : TE} {t : TA} {pos : Pos}
theorem pa_nil : PA X [] tNil := fun _ _ _ _ H Q I h => Calls.spliced_nil ⟨[], H, I, .nil, h⟩
theorem pa_cons (ha : PE X e te) (hr : PA X es t) (hs : starEach (e :: es) X.env = (false, eval e X.env) :: starEach es X.env := by rfl) : PA X (e :: es) (tCons te t) := by
  intro pos pins s σ H Q I h
  rw [hs]
  show wpAny _ _ (spliced ((false, eval e X.env) :: backTo pos (starEach es X.env))) _ _ s
  refine Calls.spliced_cons (thn (ha pins s σ H _ I h) fun u s1 ⟨x, H1, I1, r1, q1⟩ => ?_)
  exact thn (hr pos pins s1 σ H1 _ I1 q1) fun us s2 ⟨xs, H2, I2, r2, q2⟩ => ⟨x :: xs, H2, I2, .cons r1 r2, q2⟩

def tTup (t : TA) : TE := fun σ H Q => t σ H fun xs H1 => xs.length ≤ sizeLine ∧ ∀ p, H1 p = none → Q (.ref p) (upd H1 p (.tup xs))
def tLst (t : TA) : TE := fun σ H Q => t σ H fun xs H1 => xs.length ≤ sizeLine ∧ ∀ p, H1 p = none → Q (.ref p) (upd H1 p (.lst xs))
theorem pe_tup {x1} (h : PA X es t) : PE X (.Tuple es x1 pos) (tTup t) := by
  intro pins s σ H Q I hq
  refine wpAny_Tuple_spliced (thn (h pos pins s σ H _ I hq) fun us s1 ⟨xs, H1, I1, r, z, q⟩ => ⟨by rw [← r.length]; exact z, ?_⟩)
  have hf : H1 s1.heap.objs.size = none := I1.hok.fresh (Nat.le_refl _)
  refine ⟨.ref s1.heap.objs.size, upd H1 s1.heap.objs.size (.tup xs), I1.laid (t' := s1.toks) (fun b u e => Heap.get?_push_of_some _ e) (Nat.le_refl _) ?_, rfl, q _ hf⟩
  exact ⟨z, us, r, ⟨_, Heap.get?_push_size _ rfl, rfl, _, rfl⟩⟩
theorem pe_lst (h : PA X es t) : PE X (.List es pos) (tLst t) := by
  intro pins s σ H Q I hq
  refine wpAny_List_spliced (thn (h pos pins s σ H _ I hq) fun us s1 ⟨xs, H1, I1, r, z, q⟩ => ⟨by rw [← r.length]; exact z, ?_⟩)
  have hf : H1 s1.heap.objs.size = none := I1.hok.fresh (Nat.le_refl _)
  refine ⟨.ref s1.heap.objs.size, upd H1 s1.heap.objs.size (.lst xs), I1.laid (t' := s1.toks) (fun b u e => Heap.get?_push_of_some _ e) (Nat.le_refl _) ?_, rfl, q _ hf⟩
  exact ⟨z, us, 0, r, Heap.get?_push_size _ rfl⟩
end

abbrev Sp := List V → Hp → VK → XK → Prop
abbrev CXT := List Env → Hp → Shared → XK → Value → Shared → Prop

structure Env0 (P : Program) (w : World) (K : PySem.W.Frag) (mg : Str → Option Value) (base : Heap) (A : Around) (outer : List Env) (s : Shared) (H : Hp) : Prop where
  frames : A.frames = some outer
  mod : Mod K mg base
  bs : ∀ b o, base.get? b = some o → s.heap.get? b = some o ∧ H b = none
  bsz : base.objs.size ≤ s.heap.objs.size
  funs : s.heap.FunFrames base outer
  frf : ∀ b ∈ frs outer, H b = none
  hok : HOk P w H s.heap
  bare : AllBare s.gens
def CE (outer : List Env) (P : Program) (w : World) (H : Hp) (s : Shared) (Q : VK) (u : Value) (s' : Shared) : Prop :=
  ∃ v H', s'.os = s.os ∧ AllBare s'.gens ∧ Un (frs outer) [] H H' s.heap s'.heap ∧ HOk P w H' s'.heap ∧ RelV v u ∧ Q v H'
def CR (CX : CXT) (outer : List Env) (P : Program) (w : World) (H : Hp) (s : Shared) (Q : VK) (E : XK) (r : Result) (s' : Shared) : Prop :=
  match r with
  | .ok (.ret u) => CE outer P w H s Q u s'
  | .ok _ => False
  | .error e => CX outer H s E e s'
structure FnOk (P : Program) (w : World) (K : PySem.W.Frag) (mg : Str → Option Value) (base : Heap) (CX : CXT) (k : Nat) (f : Addr) (fd : FuncData) (ps : List Str) (sp : Sp) : Prop where
  len : ∀ vs H Q E, sp vs H Q E → vs.length = ps.length
  run : ∀ (A : Around) (outer : List Env) (s : Shared) (H : Hp) (args : Args) (us : List Value) (vs : List V) (Q : VK) (E : XK), Room k A → Env0 P w K mg base A outer s H → BindsTo s fd args (ps.zip us) → Vals vs us → sp vs H Q E →
    codeAny (model P w) A (.call (.ref f) args) (CR CX outer P w H s Q E) s
theorem FnOk.mono {P : Program} {w : World} {K : PySem.W.Frag} {mg : Str → Option Value} {base : Heap} {CX : CXT} {j k : Nat} {f : Addr} {fd : FuncData} {ps : List Str} {sp : Sp} (F : FnOk P w K mg base CX j f fd ps sp) (h : j ≤ k) :
    FnOk P w K mg base CX k f fd ps sp := ⟨F.len, fun A outer s H args us vs Q E hr => F.run A outer s H args us vs Q E (hr.mono h)⟩
theorem FnOk.imp {P : Program} {w : World} {K : PySem.W.Frag} {mg : Str → Option Value} {base : Heap} {CX : CXT} {k : Nat} {f : Addr} {fd : FuncData} {ps : List Str} {sp sp' : Sp} (F : FnOk P w K mg base CX k f fd ps sp)
    (h : ∀ vs H Q E, sp' vs H Q E → sp vs H Q E) : FnOk P w K mg base CX k f fd ps sp' :=
  ⟨fun vs H Q E q => F.len vs H Q E (h _ _ _ _ q), fun A outer s H args us vs Q E hr he hb hv hs => F.run A outer s H args us vs Q E hr he hb hv (h _ _ _ _ hs)⟩

theorem Env0.make {P : Program} {w : World} {K : PySem.W.Frag} {mg : Str → Option Value} {base : Heap} {A : Around} {outer : List Env} {s : Shared} {H : Hp} (e : Env0 P w K mg base A outer s H) (C : Addr) (us : List Value) (kw : List (Str × Value)) :
    Env0 P w K mg base (A.under (.builtin "type.__call__" ⟨.ref C :: us, kw⟩)) outer s H := ⟨by first | exact e.frames | (simpa [Around.under, Code.envs, Code.isFrame, pushEnvs] using e.frames), e.mod, e.bs, e.bsz, e.funs, e.frf, e.hok, e.bare⟩
theorem Env0.in1 {P : Program} {w : World} {K : PySem.W.Frag} {mg : Str → Option Value} {base : Heap} {A : Around} {outer : List Env} {s : Shared} {H : Hp} (e : Env0 P w K mg base A outer s H) :
    Env0 P w K mg base A.in1 outer s H := ⟨e.frames, e.mod, e.bs, e.bsz, e.funs, e.frf, e.hok, e.bare⟩

section
variable {X : Cx} {pins : List (Addr × Obj)} {σ : St} {H : Hp} {s s' : Shared}
theorem Inv.env0 (I : Inv X pins σ H s) : Env0 X.prog X.w X.K X.mg X.base X.A X.stack s H :=
  ⟨I.ok.frames, I.ok.mod, I.bs, Nat.le_trans I.ok.bsz I.sz, I.stack, I.stkFree, I.hok, I.bare⟩
theorem Inv.after {Q : VK} {u : Value} (I : Inv X pins σ H s) (h : CE X.stack X.prog X.w H s Q u s') : EP X pins σ Q u s' := by
  obtain ⟨v, H', os, bare, un, hok, r, q⟩ := h
  obtain ⟨hh, g, d, t, os'⟩ := s'
  obtain rfl : os' = s.os := os
  exact ⟨v, H', I.call (h' := hh) (g' := g) (d' := d) (t' := t) (ch := []) un hok bare (fun b z => absurd z (by simp)), r, q⟩
end

def tCall (sp : Sp) (dvs : List V) (E : XK) (t : TA) : TE := fun σ H Q => t σ H fun vs H1 => sp (vs ++ dvs) H1 Q E
def tMake (C : Addr) (sp : Sp) (dvs : List V) (E : XK) (t : TA) : TE := fun σ H Q => t σ H fun vs H1 => ∀ x dx, H1 x = none → H1 dx = none → dx ≠ x →
  sp (.ref x :: (vs ++ dvs)) (upd (upd H1 dx (.own x)) x (.ins C dx [])) (fun v H2 => v = .non ∧ Q (.ref x) H2) E

def Binds (K : PySem.W.Frag) (fd : FuncData) (ps : List Str) (ds : List Value) : Prop :=
  ∀ (s : Shared) (us : List Value), K.In s.heap → (us ++ ds).length = ps.length → BindsTo s fd ⟨us, []⟩ (ps.zip (us ++ ds))
theorem Binds.all {K : PySem.W.Frag} {fd : FuncData} {ps : List Str} (h : ∀ us : List Value, us.length = ps.length → bindArgs fd ⟨us, []⟩ = pure (ps.zip us)) : Binds K fd ps [] := fun s us _ hl => by
  rw [List.append_nil] at hl ⊢
  exact .of_eq (h us hl)

def Passes (CX : CXT) (X : Cx) (E : XK) : Prop := ∀ (pins : List (Addr × Obj)) (σ : St) (H : Hp) (s : Shared) (e : Value) (s' : Shared), Inv X pins σ H s → CX X.stack H s E e s' → X.xe e s'

section
variable {X : Cx} {CX : CXT} {k : Nat} {f C : Addr} {fd : FuncData} {ps : List Str} {sp : Sp} {dvs : List V} {ds : List Value} {E : XK} {x m : Str} {p pos apos : Pos} {e o : Expr} {es : List Expr} {ta : TE} {t : TA}

theorem run_fn {pins : List (Addr × Obj)} {σ : St} {H : Hp} {s : Shared} {Q : VK} {us : List Value} {vs : List V} (F : FnOk X.prog X.w X.K X.mg X.base CX k f fd ps sp) (hr : Room k X.A) (hb : Binds X.K fd ps ds) (hd : Vals dvs ds) (hx : Passes CX X E)
    (I : Inv X pins σ H s) (r : Vals vs us) (h : sp (vs ++ dvs) H Q E) : wpAny (model X.prog X.w) X.A (call (.ref f) us) (EP X pins σ Q) X.xe s := by
  have r2 : Vals (vs ++ dvs) (us ++ ds) := r.append hd
  have hl : (us ++ ds).length = ps.length := by rw [← r2.length]; exact F.len _ _ _ _ h
  refine wpAny_call (codeAny_mono (F.run X.A X.stack s H ⟨us, []⟩ (us ++ ds) (vs ++ dvs) Q E hr I.env0 (hb s us I.kIn hl) r2 h) fun r s' hq => ?_)
  cases r with
  | error e => exact hx pins σ H s e s' I hq
  | ok fl =>
    cases fl with
    | ret u => exact I.after hq
    | next => exact False.elim hq
    | brk => exact False.elim hq
    | cont => exact False.elim hq

theorem pe_call (F : FnOk X.prog X.w X.K X.mg X.base CX k f fd ps sp) (hr : Room k X.A) (hg : Gl X x) (hm : X.mg x = some (.ref f)) (hk : PySem.W.keepIn X.K (.ref f) = true) (hb : Binds X.K fd ps ds) (hd : Vals dvs ds) (hx : Passes CX X E)
    (ha : PA X (e :: es) t) (hdb : (x == ("__debug__" : Str)) = false := by decide) (he : starEach (e :: es) X.env = (false, eval e X.env) :: starEach es X.env := by rfl) (hpl : (backTo pos (starEach es X.env)).any (·.1) = false := by rfl) :
    PE X (.Call (.Name x p) (e :: es) [] pos) (tCall sp dvs E t) := by
  intro pins s σ H Q I h
  refine wpAny_Call_Name_kw (ld_glob I hg hm ?_ hdb)
  refine PySem.W.callWith_K (h₀ := X.base) I.ok.mod.kin hk (thn (ha pos pins s σ H _ I h) fun us s1 ⟨vs, H1, I1, r, q⟩ => ⟨I1.kIn, ?_⟩) he hpl
  exact run_fn F hr hb hd hx I1 r q
structure Mk (K : PySem.W.Frag) (C f : Addr) : Prop where
  makes : PySem.W.makesIn K C = true
  init : PySem.W.findIn K (.ref C) "__init__" = some (some (.ref f))
  fn : PySem.W.isFn K (.ref f) = true
  kp : PySem.W.keepIn K (.ref C) = true

theorem run_make {pins : List (Addr × Obj)} {σ : St} {H : Hp} {s : Shared} {Q : VK} {us : List Value} {vs : List V} (M : Mk X.K C f) (F : FnOk X.prog X.w X.K X.mg X.base CX k f fd ps sp) (hr : Room (k + 1) X.A) (hb : Binds X.K fd ps ds) (hd : Vals dvs ds)
    (hx : Passes CX X E) (I : Inv X pins σ H s) (r : Vals vs us)
    (h : ∀ x dx, H x = none → H dx = none → dx ≠ x → sp (.ref x :: (vs ++ dvs)) (upd (upd H dx (.own x)) x (.ins C dx [])) (fun v H2 => v = .non ∧ Q (.ref x) H2) E) :
    wpAny (model X.prog X.w) X.A (call (.ref C) us) (EP X pins σ Q) X.xe s := by
  have hq := h (s.heap.objs.size + 1) s.heap.objs.size (I.hok.fresh (Nat.le_succ _)) (I.hok.fresh (Nat.le_refl _)) (Nat.ne_of_lt (Nat.lt_succ_self _))
  have I2 := Inv.made (C := C) I
  have r2 : Vals (V.ref (s.heap.objs.size + 1) :: (vs ++ dvs)) (Value.ref (s.heap.objs.size + 1) :: (us ++ ds)) := .cons rfl (r.append hd)
  have hl : (Value.ref (s.heap.objs.size + 1) :: us ++ ds).length = ps.length := by
    have e := r2.length
    rw [F.len _ _ _ _ hq] at e
    exact e.symm
  refine wpAny_call (make_map (f := f) I.kIn M.makes M.init (beq_iff_eq.mp M.fn) (codeAny_mono (F.run _ X.stack _ _ ⟨Value.ref (s.heap.objs.size + 1) :: us, []⟩ (Value.ref (s.heap.objs.size + 1) :: (us ++ ds)) _ _ E (hr.make C us [])
    (I2.env0.make C us []) (hb _ (Value.ref (s.heap.objs.size + 1) :: us) I2.kIn hl) r2 hq) fun r s' hq' => ?_))
  cases r with
  | error e => exact hx pins σ _ _ e s' I2 hq'
  | ok fl =>
    cases fl with
    | ret u =>
      obtain ⟨v, H', I3, rv, ev, q3⟩ := I2.after hq'
      subst ev
      exact ⟨rv, ⟨V.ref (s.heap.objs.size + 1), H', I3, rfl, q3⟩⟩
    | next => exact False.elim hq'
    | brk => exact False.elim hq'
    | cont => exact False.elim hq'
theorem pe_make (M : Mk X.K C f) (F : FnOk X.prog X.w X.K X.mg X.base CX k f fd ps sp) (hr : Room (k + 1) X.A) (hg : Gl X x) (hm : X.mg x = some (.ref C)) (hb : Binds X.K fd ps ds) (hd : Vals dvs ds) (hx : Passes CX X E)
    (ha : PA X (e :: es) t) (hdb : (x == ("__debug__" : Str)) = false := by decide) (he : starEach (e :: es) X.env = (false, eval e X.env) :: starEach es X.env := by rfl) (hpl : (backTo pos (starEach es X.env)).any (·.1) = false := by rfl) :
    PE X (.Call (.Name x p) (e :: es) [] pos) (tMake C sp dvs E t) := by
  intro pins s σ H Q I h
  refine wpAny_Call_Name_kw (ld_glob I hg hm ?_ hdb)
  refine PySem.W.callWith_K (h₀ := X.base) I.ok.mod.kin M.kp (thn (ha pos pins s σ H _ I h) fun us s1 ⟨vs, H1, I1, r, q⟩ => ⟨I1.kIn, ?_⟩) he hpl
  exact run_make M F hr hb hd hx I1 r q
end

section
variable {X : Cx} {CX : CXT} {k : Nat} {f C : Addr} {fd : FuncData} {ps ks : List Str} {sp : Sp} {E : XK} {x m : Str} {p pos apos kpos : Pos} {e o : Expr} {es : List Expr} {kws : List Keyword} {te ta : TE} {t tk : TA} {nm : Option Str}
variable {g : List Value → List Value → List Value} {gV : List V → List V → List V}
end

structure FnScope (N P : List Str) (sc : Scope) : Prop where
  kind : sc.kind = .function
  co : sc.isCoroutine = false
  gen : sc.isGenerator = false
  nd : N.Nodup
  pre : N.take P.length = P
  par : ∀ x ∈ P, sc.names.lookup x = some .local ∨ sc.names.lookup x = some .cell
  nofree : ∀ y ∈ sc.names, y.2 ≠ .free

theorem bindL_out {kindOf : Str → Option NameKind} {x : Str} : ∀ {binds : List (Str × Value)} {m : Str → Option Value}, (∀ v, (x, v) ∉ binds) → bindL kindOf binds m x = m x
  | [], _, _ => rfl
  | (n, v) :: r, m, h => by
    unfold bindL
    rw [bindL_out fun w hw => h w (List.mem_cons_of_mem _ hw)]
    split
    · have : x ≠ n := by rintro rfl; exact h v List.mem_cons_self
      simp [this]
    · rfl
theorem bindC_out {kindOf : Str → Option NameKind} {x : Str} : ∀ {binds : List (Str × Value)} {m : Str → Option Value}, (∀ v, (x, v) ∉ binds) → bindC kindOf binds m x = m x
  | [], _, _ => rfl
  | (n, v) :: r, m, h => by
    unfold bindC
    rw [bindC_out fun w hw => h w (List.mem_cons_of_mem _ hw)]
    split
    · rfl
    · have : x ≠ n := by rintro rfl; exact h v List.mem_cons_self
      simp [this]
theorem bindL_get {kindOf : Str → Option NameKind} {x : Str} {v : Value} : ∀ {P : List Str} {vs : List Value} {i : Nat} {m : Str → Option Value}, P.Nodup → P[i]? = some x → vs[i]? = some v → kindOf x = some .local →
    bindL kindOf (P.zip vs) m x = some v
  | [], _, _, _, _, h, _, _ => by simp at h
  | _ :: _, [], _, _, _, _, h, _ => by simp at h
  | p :: P, w :: vs, 0, m, nd, h1, h2, hk => by
    simp at h1 h2; subst h1; subst h2
    show bindL kindOf ((p, w) :: P.zip vs) m p = _
    unfold bindL
    rw [bindL_out fun v hv => (List.nodup_cons.mp nd).1 (List.of_mem_zip hv).1, if_pos hk]
    simp
  | p :: P, w :: vs, i + 1, m, nd, h1, h2, hk => by
    show bindL kindOf ((p, w) :: P.zip vs) m x = _
    unfold bindL
    exact bindL_get (i := i) (List.nodup_cons.mp nd).2 (by simpa using h1) (by simpa using h2) hk
theorem bindC_get {kindOf : Str → Option NameKind} {x : Str} {v : Value} : ∀ {P : List Str} {vs : List Value} {i : Nat} {m : Str → Option Value}, P.Nodup → P[i]? = some x → vs[i]? = some v → kindOf x ≠ some .local →
    bindC kindOf (P.zip vs) m x = some v
  | [], _, _, _, _, h, _, _ => by simp at h
  | _ :: _, [], _, _, _, _, h, _ => by simp at h
  | p :: P, w :: vs, 0, m, nd, h1, h2, hk => by
    simp at h1 h2; subst h1; subst h2
    show bindC kindOf ((p, w) :: P.zip vs) m p = _
    unfold bindC
    rw [bindC_out fun v hv => (List.nodup_cons.mp nd).1 (List.of_mem_zip hv).1, if_neg hk]
    simp
  | p :: P, w :: vs, i + 1, m, nd, h1, h2, hk => by
    show bindC kindOf ((p, w) :: P.zip vs) m x = _
    unfold bindC
    exact bindC_get (i := i) (List.nodup_cons.mp nd).2 (by simpa using h1) (by simpa using h2) hk

def start (N : List Str) (vs : List V) : St := vs.map some ++ List.replicate (N.length - vs.length) none

def cxOf (CX : CXT) (P : Program) (w : World) (K : PySem.W.Frag) (mg : Str → Option Value) (base : Heap) (N : List Str) (qual : Str) (scope : Scope) (f : Addr) (cd : Value) (A : Around) (outer : List Env) (s : Shared) (H : Hp) (E : XK) : Cx where
  prog := P
  w := w
  K := K
  mg := mg
  base := base
  A := A.deeper (envOfC qual scope s.heap.objs.size f cd)
  N := N
  s₀ := s
  H₀ := H
  env := envOfC qual scope s.heap.objs.size f cd
  outer := outer
  stack := envOfC qual scope s.heap.objs.size f cd :: outer
  ex := []
  calm := true
  fn := fun _ => true
  pn := []
  xe := fun e s' => wpAny (model P w) (A.deeper (envOfC qual scope s.heap.objs.size f cd)) (leaving (envOfC qual scope s.heap.objs.size f cd) e) (fun _ s'' => CX outer H s E e s'') (fun e' s'' => CX outer H s E e' s'') s'

theorem cell_has {sc : Scope} {n : Nat} {x : Str} (h : sc.names.lookup x = some .cell) : ∃ c, (cellsFrom n sc.names []).lookup x = some c := by
  have q := PySem.W.cellsFrom_some sc.names n [] (.inl h)
  exact Option.isSome_iff_exists.mp q

theorem inv_start {CX : CXT} {P : Program} {w : World} {K : PySem.W.Frag} {mg : Str → Option Value} {base : Heap} {N ps : List Str} {qual : Str} {scope : Scope} {f : Addr} {cd : Value} {A : Around} {outer : List Env} {s s1 : Shared} {H : Hp} {E : XK} {us : List Value} {vs : List V}
    (S : FnScope N ps scope) (hd : A.handled = none) (e0 : Env0 P w K mg base A outer s H) (hl : vs.length = ps.length) (r : Vals vs us)
    (x : InCallC s s.heap.objs.size (bindL (envOfC qual scope s.heap.objs.size f cd).kindOf (ps.zip us) fun _ => none) (cellsFrom (s.heap.objs.size + 1) scope.names []) (bindC (envOfC qual scope s.heap.objs.size f cd).kindOf (ps.zip us) fun _ => none) s1) :
    Inv (cxOf CX P w K mg base N qual scope f cd A outer s H E) [] (start N vs) H s1 := by
  have hpl : ps.length ≤ N.length := by have := congrArg List.length S.pre; rw [List.length_take] at this; omega
  obtain ⟨h1, tk, rfl, hk⟩ := x.done
  have noA : ∀ b : Addr, b ∉ (cxOf CX P w K mg base N qual scope f cd A outer s H E).ex := fun b z => absurd (show b ∈ ([] : List Addr) from z) (by simp)
  refine ⟨⟨e0.mod, S.kind, rfl, rfl, Nat.le_refl _, fun y z c h1 h2 => ?_, fun y hy => ?_, fun y c _ h => ?_, fun _ => hd, Around.frames_deeper e0.frames, .inr ⟨rfl, rfl⟩, fun b z => absurd z (noA b), e0.bs, e0.bsz, fun b _ _ => noA b, fun b z => absurd z (noA b), e0.funs, e0.frf⟩,
    rfl, e0.bare, Un.kept hk, ⟨_, x.toInCall.ns, fun i y v h1 h2 h3 => ?_⟩, fun y c h => ⟨_, x.cell y c h⟩, e0.hok.fresh (Nat.le_refl _), fun y c h => ?_, fun p hp => absurd (show p ∈ ([] : List (Addr × Obj)) from hp) (by simp), e0.hok.kept hk, ?_⟩
  · exact name_of_addr x.apart (PySem.mem_of_lookup h1) (PySem.mem_of_lookup h2)
  · have hy : scope.names.lookup y = some .cell ∨ scope.names.lookup y = some .free := hy
    rcases hy with hy | hy
    · exact cell_has hy
    · exact absurd rfl (S.nofree _ (PySem.mem_of_lookup hy))
  · exact Nat.le_of_lt (x.above y c (PySem.mem_of_lookup h))
  · have hi : i < vs.length := by
      unfold start at h2
      by_cases hi : i < vs.length
      · exact hi
      · rw [List.getElem?_append_right (by simpa using hi)] at h2
        rw [List.getElem?_replicate] at h2
        split at h2 <;> cases h2
    have ha : vs[i]? = some v := by
      unfold start at h2
      rw [List.getElem?_append_left (by simpa using hi), List.getElem?_map] at h2
      cases e : vs[i]? with
      | none => rw [e] at h2; cases h2
      | some a => rw [e] at h2; cases h2; rfl
    obtain ⟨u, hu, rv⟩ := r.get ha
    have hp : ps[i]? = some y := by
      rw [← S.pre, List.getElem?_take_of_lt (by omega)]; exact h1
    have ndP : ps.Nodup := by rw [← S.pre]; exact S.nd.sublist (List.take_sublist _ _)
    refine ⟨u, rv, ?_⟩
    rcases S.par y (List.mem_of_getElem? hp) with k | k
    · exact .inl ⟨k, bindL_get ndP hp hu k⟩
    · obtain ⟨c, e⟩ := cell_has (n := s.heap.objs.size + 1) k
      refine .inr ⟨.inl k, c, e, ?_⟩
      have q := x.cell y c e
      rw [bindC_get ndP hp hu (by show scope.names.lookup y ≠ _; rw [k]; decide)] at q
      exact q
  · exact e0.hok.fresh (Nat.le_of_lt (x.above y c (PySem.mem_of_lookup h)))
  · unfold start
    show _ = N.length
    rw [List.length_append, List.length_map, List.length_replicate]
    omega

theorem fn_of {CX : CXT} {P : Program} {w : World} {K : PySem.W.Frag} {mg : Str → Option Value} {base : Heap} {k : Nat} {f : Addr} {name qual : Str} {params : Arguments} {body : List Stmt} {scope : Scope} {dV kV doc pm cdv ct oc : Value} {an od : Option Addr}
    {osl : Array (Option Value)} {N ps : List Str} {sp : Sp} (lk : K.lookup f = some ⟨oc, od, .func (PySem.W.fnOf name qual params body scope dV kV doc pm an cdv ct), osl⟩) (hcd : PySem.W.codeIn K cdv qual = true) (S : FnScope N ps scope)
    (len : ∀ vs H Q E, sp vs H Q E → vs.length = ps.length)
    (hbody : ∀ (A : Around) (outer : List Env) (s : Shared) (H : Hp) (vs : List V) (Q : VK) (E : XK), Room k (A.deeper (envOfC qual scope s.heap.objs.size f cdv)) → sp vs H Q E →
      ∃ t, PSs (cxOf CX P w K mg base N qual scope f cdv A outer s H E) body t ∧ t { nx := fun _ H' => Q .non H', rt := Q } (start N vs) H) :
    FnOk P w K mg base CX (k + 1) f (PySem.W.fnOf name qual params body scope dV kV doc pm an cdv ct) ps sp := by
  refine ⟨len, fun A outer s H args us vs Q E hr e0 hb r hsp => ?_⟩
  have hl := len _ _ _ _ hsp
  have KX : K.In s.heap := e0.mod.kin.keeps fun b o e => (e0.bs b o e).1
  have lim : s.heap.NoLimit := e0.mod.nolimit.keeps fun b o e => (e0.bs b o e).1
  have hkind : ∀ y ∈ ps.zip us, scope.names.lookup y.1 = some .local ∨ (scope.names.lookup y.1 = some .cell ∧ ((cellsFrom (s.heap.objs.size + 1) scope.names []).lookup y.1).isSome = true) := fun ⟨n, v⟩ hy => by
    rcases S.par n (List.of_mem_zip hy).1 with q | q
    · exact .inl q
    · exact .inr ⟨q, PySem.W.cellsFrom_some _ _ _ (.inl q)⟩
  refine codeAny_call_function hr.depth (KX _ _ lk) rfl S.co S.gen rfl (PySem.W.codeRec_of KX hcd) (hb _ _ _ _ ?_)
  refine wpAny_newFunctionEnv_cells S.kind hkind fun env he s1 x => ?_
  subst he
  refine ⟨lim.keeps x.toInCall.keep, codeAny_func ?_⟩
  obtain ⟨t, ht, hq⟩ := hbody A outer s H vs Q E (hr.deeper _) hsp
  have I : Inv (cxOf CX P w K mg base N qual scope f cdv A outer s H E) [] (start N vs) H s1 := inv_start S hr.hd e0 hl r x
  refine wpAny_mono (ht [] s1 (start N vs) H _ I hq) (fun fl s' hs => ?_) fun e s' hs => hs
  have fin : ∀ {σ' : St} {H' : Hp} {v : V} {u : Value}, Inv (cxOf CX P w K mg base N qual scope f cdv A outer s H E) [] σ' H' s' → RelV v u → Q v H' → CE outer P w H s Q u s' :=
    fun {σ' H' v u} J rv q => ⟨v, H', J.os, J.bare, J.base, J.hok, rv, q⟩
  cases fl with
  | ret u =>
    obtain ⟨v, σ', H', J, rv, q⟩ := hs
    exact fin J rv q
  | next =>
    obtain ⟨σ', H', J, q⟩ := hs
    exact fin (v := V.non) (u := Value.none) J rfl q
  | brk =>
    obtain ⟨_, _, _, q⟩ := hs
    exact False.elim q
  | cont =>
    obtain ⟨_, _, _, q⟩ := hs
    exact False.elim q
end L2

namespace L2
open PySem PySem.Spec PyProof.Rows
section
variable {X : Cx} {x : Str} {p pos : Pos} {e : Expr} {es : List Expr} {t : TA} {id T : String} {r : List V → Hp → VK → Prop}

def tCB (r : List V → Hp → VK → Prop) (t : TA) : TE := fun σ H Q => t σ H fun vs H1 => r vs H1 Q
theorem pe_callB (hc : CallR X (.builtin id) r) (hg : Gl X x) (hm : X.mg x = none) (hv : bootBuiltins x = some (.builtin id)) (ha : PA X (e :: es) t) (hn : x ≠ "__name__" := by decide) (hdb : (x == ("__debug__" : Str)) = false := by decide)
    (he : starEach (e :: es) X.env = (false, eval e X.env) :: starEach es X.env := by rfl) (hpl : (backTo pos (starEach es X.env)).any (·.1) = false := by rfl) : PE X (.Call (.Name x p) (e :: es) [] pos) (tCB r t) := by
  intro pins s σ H Q I h
  refine wpAny_Call_Name_kw (ld_blt I hg hm hv ?_ hn hdb)
  exact PyProof.Rows.callWith_builtin1 (thn (ha pos pins s σ H _ I h) fun us s1 ⟨vs, H1, I1, r1, q1⟩ => hc pins s1 σ H1 vs us Q I1 r1 q1) he hpl
theorem pe_callTy (hc : CallR X (.type T) r) (hg : Gl X x) (hm : X.mg x = none) (hv : bootBuiltins x = some (.type T)) (ha : PA X (e :: es) t) (hn : x ≠ "__name__" := by decide) (hdb : (x == ("__debug__" : Str)) = false := by decide)
    (he : starEach (e :: es) X.env = (false, eval e X.env) :: starEach es X.env := by rfl) (hpl : (backTo pos (starEach es X.env)).any (·.1) = false := by rfl) : PE X (.Call (.Name x p) (e :: es) [] pos) (tCB r t) := by
  intro pins s σ H Q I h
  refine wpAny_Call_Name_kw (ld_blt I hg hm hv ?_ hn hdb)
  exact PyProof.Rows.callWith_type1 (thn (ha pos pins s σ H _ I h) fun us s1 ⟨vs, H1, I1, r1, q1⟩ => hc pins s1 σ H1 vs us Q I1 r1 q1) he hpl
end
end L2

namespace HT
open PySem PyProof.Rows

section
open PySem.SeqAt
open PySem.AutoSeq1 (wpAny_loadPart')
open PySem.MeetsSeq PySem.MeetsSeq2 PySem.MeetsSeq3

end

section
variable {prog : Program} {w : World} {A : Around} {E : Value → Shared → Prop} {s : Shared}

def sIx (n d : Nat) : Option Int → Nat
  | none => d
  | some v => if v < 0 then (v + (n : Int)).toNat else min v.toNat n
end
end HT

namespace L2
open PySem PySem.Spec PyProof.Rows

abbrev TO := St → Hp → (Option Int → Hp → Prop) → Prop
def PO (X : Cx) (e : Option Expr) (t : TO) : Prop :=
  ∀ (pins : List (Addr × Obj)) (s : Shared) (σ : St) (H : Hp) (Q : Option Int → Hp → Prop), Inv X pins σ H s → t σ H Q →
    wpAny (model X.prog X.w) X.A (evalPart e X.env) (fun u s' => ∃ o H', Inv X pins σ H' s' ∧ IsPart u o ∧ Q o H') X.xe s
def tPart (t : TE) : TO := fun σ H Q => t σ H fun x H1 => ∃ i, x = .int i ∧ Q (some i) H1

section
variable {X : Cx} {e : Expr} {te : TE} {lo hi : Option Expr} {tl th : TO} {pos p2 : Pos}

theorem po_some (h : PE X e te) : PO X (some e) (tPart te) := by
  intro pins s σ H Q I hw
  rw [evalPart_some]
  refine thn (h pins s σ H _ I hw) fun u s1 ⟨x, H1, I1, r1, q1⟩ => ?_
  obtain ⟨i, rfl, q⟩ := q1
  obtain ⟨t, rfl⟩ := r1
  exact ⟨some i, H1, I1, .int i t, q⟩

def SlR (X : Cx) (r : V → Option Int → Option Int → Hp → VK → Prop) : Prop :=
  ∀ (pins : List (Addr × Obj)) (s : Shared) (σ : St) (H : Hp) (x : V) (v vl vu : Value) (lo hi : Option Int) (sl : Addr) (Q : VK), Inv X pins σ H s → RelV x v → s.heap.IsSliceOf sl vl vu .none → IsPart vl lo → IsPart vu hi → r x lo hi H Q →
    ∃ T id, typeLookup (.type T) "__getitem__" = pure (some (.builtin id)) ∧ s.TypeIs v T ∧ wpAny (model X.prog X.w) X.A (getItem v (.ref sl)) (EP X pins σ Q) X.xe s
theorem SlR.or {r r' : V → Option Int → Option Int → Hp → VK → Prop} (h : SlR X r) (h' : SlR X r') : SlR X (fun x lo hi H Q => r x lo hi H Q ∨ r' x lo hi H Q) := by
  intro pins s σ H x v vl vu lo hi sl Q I rx hs pl pu q
  rcases q with q | q
  · exact h pins s σ H x v vl vu lo hi sl Q I rx hs pl pu q
  · exact h' pins s σ H x v vl vu lo hi sl Q I rx hs pl pu q
def tSl (r : V → Option Int → Option Int → Hp → VK → Prop) (te : TE) (tl th : TO) : TE := fun σ H Q => te σ H fun x H1 => tl σ H1 fun l H2 => th σ H2 fun u H3 => r x l u H3 Q
theorem pe_slice {r : V → Option Int → Option Int → Hp → VK → Prop} (hr : SlR X r) (he : PE X e te) (hl : PO X lo tl) (hu : PO X hi th) : PE X (.Subscript e (.Slice lo hi none p2) pos) (tSl r te tl th) := by
  intro pins s σ H Q I h
  refine Subscript_ (thn (he pins s σ H _ I h) fun v s1 ⟨x, H1, I1, r1, q1⟩ => ?_)
  refine wpAny_Slice (thn (hl pins s1 σ H1 _ I1 q1) fun vl s2 ⟨l, H2, I2, pl, q2⟩ => thn (hu pins s2 σ H2 _ I2 q2) fun vu s3 ⟨u, H3, I3, pu, q3⟩ => ?_)
  rw [evalPart_none]
  refine wpAny_pure ?_
  have I4 : Inv X pins σ H3 { s3 with heap := s3.heap.push { cls := .type "slice", data := .fields #[vl, vu, .none] } } := I3.kept (t' := s3.toks) fun b ob q => Heap.get?_push_of_some _ q
  obtain ⟨T, id, hT, ht, hg⟩ := hr pins { s3 with heap := s3.heap.push { cls := .type "slice", data := .fields #[vl, vu, .none] } } σ H3 x v vl vu l u s3.heap.objs.size Q I4 r1 (Heap.IsSliceOf.new ..) pl pu q3
  show wpAny (model X.prog X.w) X.A (subscriptTail e (.Slice lo hi none p2) v (.ref s3.heap.objs.size)) (EP X pins σ Q) X.xe { s3 with heap := s3.heap.push { cls := .type "slice", data := .fields #[vl, vu, .none] } }
  exact tail_any (ops := [.ref s3.heap.objs.size, v]) ht hT hg (by with_unfolding_all rfl)

def cutV (xs : List V) (lo hi : Option Int) : List V := (xs.drop (HT.sIx xs.length 0 lo)).take (HT.sIx xs.length xs.length hi - HT.sIx xs.length 0 lo)
theorem cutV_length (xs : List V) (lo hi : Option Int) : (cutV xs lo hi).length ≤ xs.length := by
  unfold cutV
  rw [List.length_take, List.length_drop]
  omega
end
end L2

namespace L2
open PySem PySem.Spec PyProof.Rows

def ixN (n : Nat) (i : Int) : Option Nat := if 0 ≤ i then (if i < n then some i.toNat else none) else if -(n : Int) ≤ i then some (i + n).toNat else none
def atI {α : Type} (xs : List α) (i : Int) : Option α := (ixN xs.length i).bind fun j => xs[j]?
theorem ixN_seq {n : Nat} {i : Int} {j : Nat} (h : ixN n i = some j) : seqIndex? i n = some j ∧ j < n ∧ -(n : Int) ≤ i ∧ i < n := by
  unfold ixN at h
  by_cases h0 : 0 ≤ i
  · rw [if_pos h0] at h
    by_cases h1 : i < n
    · rw [if_pos h1] at h
      have e : i.toNat = j := Option.some.inj h
      exact ⟨by rw [seqIndex_of h0 h1, e], by omega, by omega, h1⟩
    · rw [if_neg h1] at h; cases h
  · rw [if_neg h0] at h
    by_cases h1 : -(n : Int) ≤ i
    · rw [if_pos h1] at h
      have e : (i + n).toNat = j := Option.some.inj h
      exact ⟨by rw [seqIndex_neg (by omega) h1, e], by omega, h1, by omega⟩
    · rw [if_neg h1] at h; cases h
theorem atI_get {α : Type} {xs : List α} {i : Int} {v : α} (h : atI xs i = some v) : ∃ j, seqIndex? i xs.length = some j ∧ xs[j]? = some v ∧ j < xs.length ∧ -(xs.length : Int) ≤ i ∧ i < xs.length := by
  unfold atI at h
  cases e : ixN xs.length i with
  | none => rw [e] at h; cases h
  | some j =>
    rw [e] at h
    obtain ⟨h1, h2, h3, h4⟩ := ixN_seq e
    exact ⟨j, h1, h, h2, h3, h4⟩
theorem atI_nat {α : Type} {xs : List α} {j : Nat} {v : α} (h : xs[j]? = some v) : atI xs (j : Int) = some v := by
  have hj : j < xs.length := (List.getElem?_eq_some_iff.mp h).1
  have e : ixN xs.length (j : Int) = some j := by
    unfold ixN
    rw [if_pos (by omega), if_pos (by omega)]; simp
  unfold atI; rw [e]; exact h
theorem atI_last {α : Type} (xs : List α) (v : α) : atI (xs ++ [v]) (-1) = some v := by
  have hl : (xs ++ [v]).length = xs.length + 1 := by simp
  have e : ixN (xs ++ [v]).length (-1) = some xs.length := by
    unfold ixN
    rw [hl, if_neg (by decide), if_pos (by omega)]
    congr 1
    omega
  unfold atI
  rw [e]
  show (xs ++ [v])[xs.length]? = some v
  simp

def PlainIx (b : Expr) : Prop := ∀ o i, subscripted b false o i = operate [o, i] (getItem o i)
def IxR (X : Cx) (r : R2) : Prop :=
  ∀ (value slice : Expr) (pins : List (Addr × Obj)) (s : Shared) (σ : St) (H : Hp) (x y : V) (v u : Value) (Q : VK), Inv X pins σ H s → RelV x v → RelV y u → r x y H Q →
    subscripted slice false v u = operate [v, u] (getItem v u) → wpAny (model X.prog X.w) X.A (subscriptTail value slice v u) (EP X pins σ Q) X.xe s
def MtR (X : Cx) (id : String) (r : V → List V → Hp → VK → Prop) : Prop :=
  ∀ (pins : List (Addr × Obj)) (s : Shared) (σ : St) (H : Hp) (x : V) (xs : List V) (v : Value) (us : List Value) (Q : VK), Inv X pins σ H s → RelV x v → Vals xs us → r x xs H Q →
    wpAny (model X.prog X.w) X.A (call (.builtin id) (v :: us)) (EP X pins σ Q) X.xe s
section
variable {X : Cx} {a b : Expr} {ta tb : TE} {pos : Pos}
theorem IxR.or {r r' : R2} (h : IxR X r) (h' : IxR X r') : IxR X (fun x y H Q => r x y H Q ∨ r' x y H Q) := by
  intro value slice pins s σ H x y v u Q I rx ry q hs
  rcases q with q | q
  · exact h value slice pins s σ H x y v u Q I rx ry q hs
  · exact h' value slice pins s σ H x y v u Q I rx ry q hs
theorem MtR.or {id : String} {r r' : V → List V → Hp → VK → Prop} (h : MtR X id r) (h' : MtR X id r') : MtR X id (fun x xs H Q => r x xs H Q ∨ r' x xs H Q) := by
  intro pins s σ H x xs v us Q I rx rs q
  rcases q with q | q
  · exact h pins s σ H x xs v us Q I rx rs q
  · exact h' pins s σ H x xs v us Q I rx rs q
theorem pe_ix {r : R2} (hr : IxR X r) (ha : PE X a ta) (hb : PE X b tb) (hs : PlainIx b) : PE X (.Subscript a b pos) (tOp r ta tb) := by
  intro pins s σ H Q I h
  exact Subscript_ (binT ha hb I h fun v u s2 x y H2 I2 rx ry q => hr a b pins s2 σ H2 x y v u Q I2 rx ry q (hs _ _))

def rIxL (K : PySem.W.Frag) : R2 := fun x y H Q => ∃ p xs i v, x = .ref p ∧ y = .int i ∧ SqL K H p xs ∧ atI xs i = some v ∧ Q v H
def rIxT (K : PySem.W.Frag) : R2 := fun x y H Q => ∃ p xs i v, x = .ref p ∧ y = .int i ∧ SqT K H p xs ∧ atI xs i = some v ∧ Q v H
def rIxS : R2 := fun x y H Q => ∃ z i c, x = .str z ∧ y = .int i ∧ z.length ≤ sizeLine ∧ atI z.cps.toList i = some c ∧ Q (.str ⟨#[c]⟩) H
theorem ix_list : IxR X (rIxL X.K) := by
  intro value slice pins s σ H x y v u Q I rx ry h hs
  obtain ⟨p, xs, i, z, rfl, rfl, hq, he, q⟩ := h
  cases rx
  obtain ⟨t, rfl⟩ := ry
  obtain ⟨its, r, pl, hz⟩ := I.list hq
  obtain ⟨j, h1, h2, h3, h4, h5⟩ := atI_get he
  obtain ⟨w, ew, rw'⟩ := r.get h2
  have hl := r.length
  have hn := line63
  have fin : EP X pins σ Q w s := ⟨z, H, I, rw', q⟩
  by_cases h0 : 0 ≤ i
  · have hj : i.toNat = j := by
      rw [seqIndex_of h0 h5] at h1
      exact Option.some.inj h1
    exact item_listR pl.isList h0 (by omega) (by rw [hj]; simpa using ew) fin hs
  · have hj : (i + (its.toArray.size : Int)).toNat = j := by
      rw [seqIndex_neg (by omega) h4] at h1
      rw [List.size_toArray, ← hl]
      exact Option.some.inj h1
    exact subscriptTail_builtinR (x := w) pl.isList.typeIs slot_list_getitem.lookup
      (wpAny_getItem_list_neg (Q := fun r s' => r = w ∧ EP X pins σ Q r s') pl.isList (by omega) (by rw [List.size_toArray] <;> omega) (by omega) (by rw [hj]; simpa using ew) ⟨rfl, fin⟩) hs
theorem ix_tup : IxR X (rIxT X.K) := by
  intro value slice pins s σ H x y v u Q I rx ry h hs
  obtain ⟨p, xs, i, z, rfl, rfl, hq, he, q⟩ := h
  cases rx
  obtain ⟨t, rfl⟩ := ry
  obtain ⟨its, r, pl, hz⟩ := I.tuple hq
  obtain ⟨j, h1, h2, h3, h4, h5⟩ := atI_get he
  obtain ⟨w, ew, rw'⟩ := r.get h2
  have hl := r.length
  have hn := line63
  have fin : EP X pins σ Q w s := ⟨z, H, I, rw', q⟩
  exact subscriptTail_builtinR (x := w) pl.typeIs slot_tuple_getitem.lookup
    (getItem_tuple (j := j) (Q := fun r s' => r = w ∧ EP X pins σ Q r s') pl (by omega) (by omega) (by rw [List.size_toArray, ← hl]; exact h1) (by simpa using ew) ⟨rfl, fin⟩) hs
theorem ix_str : IxR X rIxS := by
  intro value slice pins s σ H x y v u Q I rx ry h hs
  obtain ⟨z, i, c, rfl, rfl, hz, he, q⟩ := h
  obtain ⟨t, rfl⟩ := rx
  obtain ⟨t', rfl⟩ := ry
  obtain ⟨j, h1, h2, h3, h4, h5⟩ := atI_get he
  have hl : z.cps.toList.length = z.length := by simp [Str.length]
  rw [hl] at h1 h4 h5
  have hn := line63
  exact tail_any (typeIs_str s z t) slot_str_getitem.lookup (getItem_str (c := c) (by
    have e1 : decide (i < -(2 ^ 63 : Int)) = false := decide_eq_false (by omega)
    have e2 : decide (i ≥ 2 ^ 63) = false := decide_eq_false (by omega)
    rw [e1, e2, Bool.or_false]) (by rw [h1]; simpa using h2) ⟨.str ⟨#[c]⟩, H, I.tok _, ⟨_, rfl⟩, q⟩) hs
def rIx (K : PySem.W.Frag) : R2 := fun x y H Q => rIxL K x y H Q ∨ rIxT K x y H Q ∨ rIxS x y H Q
theorem ix_seq : IxR X (rIx X.K) := ix_list.or (ix_tup.or ix_str)

theorem mapSeq_set (its : List Value) (n j : Nat) (u : Value) : Obj.mapSeq (·.setIfInBounds j u) { cls := .type "list", data := .seq its.toArray n } = { cls := .type "list", data := .seq (its.set j u).toArray n } := by
  simp [Obj.mapSeq]
theorem Inv.lst {pins : List (Addr × Obj)} {σ : St} {H : Hp} {s : Shared} {p : Addr} {xs : List V} (I : Inv X pins σ H s) (h : H p = some (.lst xs)) :
    ∃ (its : List Value) (n : Nat), Vals xs its ∧ s.heap.get? p = some { cls := .type "list", data := .seq its.toArray n } ∧ xs.length ≤ sizeLine := by
  obtain ⟨z, its, n, r, e⟩ := I.hok p _ h
  exact ⟨its, n, r, e, z⟩
theorem Inv.lstUpd {pins : List (Addr × Obj)} {σ : St} {H : Hp} {s : Shared} {p : Addr} {xs ys : List V} {its its' : List Value} {n n' : Nat} {f : Obj → Obj} (I : Inv X pins σ H s) (h : H p = some (.lst xs))
    (ho : s.heap.get? p = some { cls := .type "list", data := .seq its.toArray n }) (hf : f { cls := .type "list", data := .seq its.toArray n } = { cls := .type "list", data := .seq its'.toArray n' }) (r : Vals ys its') (hz : ys.length ≤ sizeLine) (t : Nat) :
    Inv X pins σ (upd H p (.lst ys)) { s with heap := s.heap.update p f, toks := t } := by
  have e : (s.heap.update p f).get? p = some { cls := .type "list", data := .seq its'.toArray n' } := by
    rw [Heap.get?_update_self f ho (by rw [hf] <;> rfl), hf]
  refine I.write (x := p) (e := p) (by rw [h]; trivial) (.inl rfl) (fun b u hb q => (Heap.get?_update_other _ _ (Ne.symm hb)).trans q) ⟨_, e⟩ ?_
  exact ⟨hz, its', n', r, e⟩
def rSetL : V → V → V → Hp → (Hp → Prop) → Prop := fun o i v H Q => ∃ p xs k j, o = .ref p ∧ i = .int k ∧ H p = some (.lst xs) ∧ ixN xs.length k = some j ∧ Q (upd H p (.lst (xs.set j v)))
theorem set_list : PSet X rSetL := by
  intro pins s σ H o i v ov iv u Q I ro ri rv h
  obtain ⟨p, xs, k, j, rfl, rfl, hp, hj, q⟩ := h
  cases ro
  obtain ⟨t, rfl⟩ := ri
  obtain ⟨its, n, r, ho, hz⟩ := I.lst hp
  obtain ⟨h1, h2, h3, h4⟩ := ixN_seq hj
  have hl := r.length
  have hn := line63
  have I' : Inv X pins σ (upd H p (.lst (xs.set j v))) { s with heap := s.heap.update p (Obj.mapSeq (·.setIfInBounds j u)) } :=
    I.lstUpd hp ho (mapSeq_set its n j u) (r.set rv j) (by rw [List.length_set]; exact hz) s.toks
  by_cases h0 : 0 ≤ k
  · have hk : k.toNat = j := by
      rw [seqIndex_of h0 h4] at h1
      exact Option.some.inj h1
    exact PySem.W.ki_setAt ho h0 (by omega) (by rw [List.size_toArray, ← hl]; exact h4) (by rw [hk]; exact ⟨_, I', q⟩)
  · have hk : (k + (its.toArray.size : Int)).toNat = j := by
      rw [seqIndex_neg (by omega) h3] at h1
      rw [List.size_toArray, ← hl]
      exact Option.some.inj h1
    exact PySem.W.ki_setBack ho (by omega) (by rw [List.size_toArray, ← hl]; exact h3) (by omega) (by rw [hk]; exact ⟨_, I', q⟩)

theorem slice_bounds (lo hi : Option Int) (n : Nat) : (sliceBounds lo hi none n).1 = ((HT.sIx n 0 lo : Nat) : Int) ∧ (sliceBounds lo hi none n).2.1 = ((HT.sIx n n hi : Nat) : Int) ∧ (sliceBounds lo hi none n).2.2 = 1 := by
  refine ⟨?_, ?_, rfl⟩
  · cases lo with
    | none => simp [sliceBounds, HT.sIx]
    | some i =>
      simp only [sliceBounds, HT.sIx, Option.getD_none, show (1 : Int) > 0 by decide, if_true]
      by_cases h : i < 0
      · simp only [h, if_true] <;> omega
      · simp only [h, if_false] <;> omega
  · cases hi with
    | none => simp [sliceBounds, HT.sIx]
    | some i =>
      simp only [sliceBounds, HT.sIx, Option.getD_none, show (1 : Int) > 0 by decide, if_true]
      by_cases h : i < 0
      · simp only [h, if_true] <;> omega
      · simp only [h, if_false] <;> omega
theorem slicePick_cut (its : List Value) (lo hi : Option Int) : slicePick its.toArray lo hi none = ((its.drop (HT.sIx its.length 0 lo)).take (HT.sIx its.length its.length hi - HT.sIx its.length 0 lo)).toArray := by
  obtain ⟨h1, h2, h3⟩ := slice_bounds lo hi its.toArray.size
  unfold slicePick
  rw [h1, h2, h3]
  simp only [sliceRange_one, pick_run, List.size_toArray] <;> rfl
def rSlL (K : PySem.W.Frag) : V → Option Int → Option Int → Hp → VK → Prop := fun x lo hi H Q => ∃ a xs, x = .ref a ∧ SqL K H a xs ∧ ∀ p, H p = none → Q (.ref p) (upd H p (.lst (cutV xs lo hi)))
theorem sl_list : SlR X (rSlL X.K) := by
  intro pins s σ H x v vl vu lo hi sl Q I rx hs pl pu h
  obtain ⟨a, xs, rfl, hx, q⟩ := h
  cases rx
  obtain ⟨its, r, ht, hz⟩ := I.list hx
  have hlen := r.length
  refine ⟨"list", _, slot_list_getitem.lookup, ht.isList.typeIs, ?_⟩
  refine wpAny_getItem_list_slice ht.isList hs pl pu .none (by simp) ?_ (by rw [List.size_toArray] <;> omega)
  rw [slicePick_cut, ← hlen]
  refine ⟨.ref s.heap.objs.size, _, I.laid (t' := s.toks) (o := .lst (cutV xs lo hi)) (fun b ob q => Heap.get?_push_of_some _ q) (Nat.le_refl _) ?_, rfl, q _ (I.hok.fresh (Nat.le_refl _))⟩
  exact ⟨Nat.le_trans (cutV_length xs lo hi) hz, _, 0, (r.drop (HT.sIx xs.length 0 lo)).take (HT.sIx xs.length xs.length hi - HT.sIx xs.length 0 lo), Heap.get?_push_size _ rfl⟩

def flatV : V → Bool
  | .non => true
  | .bl _ => true
  | .int _ => true
  | .str _ => true
  | _ => false
def eqV : V → V → Bool
  | .non, .non => true
  | .bl a, .bl b => a == b
  | .bl a, .int b => (if a then 1 else 0) == b
  | .int a, .bl b => a == (if b then 1 else 0)
  | .int a, .int b => a == b
  | .str a, .str b => a == b
  | _, _ => false
theorem eqAt_V {A : Around} {s : Shared} {y x : V} {u v : Value} (ry : RelV y u) (rx : RelV x v) (fy : flatV y = true) (fx : flatV x = true) : SeqAt.EqAt A s u v (eqV y x) := by
  cases y with
  | non =>
    cases ry
    cases x with
    | non => cases rx; exact SeqAt.EqAt.same _
    | bl b => cases rx; exact SeqAt.EqAt.none_bool b
    | int b => obtain ⟨t, rfl⟩ := rx; exact SeqAt.EqAt.none_int b t
    | str b => obtain ⟨t, rfl⟩ := rx; exact SeqAt.EqAt.none_str b t
    | _ => exact absurd (show false = true from fx) Bool.false_ne_true
  | bl a =>
    cases ry
    cases x with
    | non => cases rx; exact SeqAt.EqAt.bool_none a
    | bl b => cases rx; exact SeqAt.EqAt.bool_bool a b
    | int b => obtain ⟨t, rfl⟩ := rx; exact SeqAt.EqAt.bool_int a b t
    | str b => obtain ⟨t, rfl⟩ := rx; exact SeqAt.EqAt.bool_str a b t
    | _ => exact absurd (show false = true from fx) Bool.false_ne_true
  | int a =>
    obtain ⟨t', rfl⟩ := ry
    cases x with
    | non => cases rx; exact SeqAt.EqAt.int_none a t'
    | bl b => cases rx; exact SeqAt.EqAt.int_bool a t' b
    | int b => obtain ⟨t, rfl⟩ := rx; exact SeqAt.EqAt.int_int a t' b t
    | str b => obtain ⟨t, rfl⟩ := rx; exact SeqAt.EqAt.int_str a t' b t
    | _ => exact absurd (show false = true from fx) Bool.false_ne_true
  | str a =>
    obtain ⟨t', rfl⟩ := ry
    cases x with
    | non => cases rx; exact SeqAt.EqAt.str_none a t'
    | bl b => cases rx; exact SeqAt.EqAt.str_bool a t' b
    | int b => obtain ⟨t, rfl⟩ := rx; exact SeqAt.EqAt.str_int a t' b t
    | str b => obtain ⟨t, rfl⟩ := rx; exact SeqAt.EqAt.str_str a t' b t
    | _ => exact absurd (show false = true from fx) Bool.false_ne_true
  | _ => exact absurd (show false = true from fy) Bool.false_ne_true
def eqU (x : V) (u : Value) : Bool := match u with
  | .none => eqV .non x
  | .bool b => eqV (.bl b) x
  | .int i _ => eqV (.int i) x
  | .str z _ => eqV (.str z) x
  | _ => false
theorem eqU_of {x y : V} {u : Value} (r : RelV y u) (f : flatV y = true) : eqU x u = eqV y x := by
  cases y with
  | non => cases r; rfl
  | bl b => cases r; rfl
  | int i => obtain ⟨t, rfl⟩ := r; rfl
  | str z => obtain ⟨t, rfl⟩ := r; rfl
  | _ => exact absurd (show false = true from f) Bool.false_ne_true
theorem any_eqU {x : V} : ∀ {xs : List V} {us : List Value}, Vals xs us → xs.all flatV = true → us.any (eqU x) = xs.any fun y => eqV y x
  | _, _, .nil, _ => rfl
  | y :: xs, u :: us, .cons r t, f => by
    rw [List.all_cons, Bool.and_eq_true] at f
    rw [List.any_cons, List.any_cons, eqU_of r f.1, any_eqU t f.2]
theorem mem_eqAt {A : Around} {s : Shared} {x : V} {v : Value} (rx : RelV x v) (fx : flatV x = true) : ∀ {xs : List V} {us : List Value}, Vals xs us → xs.all flatV = true → ∀ u ∈ us, SeqAt.EqAt A s u v (eqU x u)
  | _, _, .nil, _ => fun u hu => by cases hu
  | y :: xs, u :: us, .cons r t, f => fun u' hu => by
    rw [List.all_cons, Bool.and_eq_true] at f
    rcases List.mem_cons.mp hu with rfl | hu
    · rw [eqU_of r f.1]; exact eqAt_V r rx f.1 fx
    · exact mem_eqAt rx fx t f.2 u' hu
def inV (x : V) (xs : List V) : Bool := xs.any fun y => eqV y x
def rIn (K : PySem.W.Frag) (neg : Bool) : R2 := fun x y H Q => ∃ p xs, y = .ref p ∧ (SqL K H p xs ∨ SqT K H p xs) ∧ flatV x = true ∧ xs.all flatV = true ∧ Q (.bl (if neg then !inV x xs else inV x xs)) H
theorem op_in_seq : OpR X (compareOp .In) (rIn X.K false) := by
  intro pins s σ H x y v u Q I rx ry h
  obtain ⟨p, xs, rfl, hq, fx, fs, q⟩ := h
  cases ry
  rcases hq with hq | hq
  · obtain ⟨its, r, pl, hz⟩ := I.list hq
    refine SeqAt.in_listAt (eqU x) pl.isList (fun w hw => mem_eqAt rx fx r fs w (by simpa using hw)) ⟨.bl _, H, I, rfl, ?_⟩
    rw [show its.toArray.any (eqU x) = its.any (eqU x) by simp, any_eqU r fs]
    exact q
  · obtain ⟨its, r, pl, hz⟩ := I.tuple hq
    refine SeqAt.in_tupleAt (eqU x) pl (fun w hw => mem_eqAt rx fx r fs w (by simpa using hw)) ⟨.bl _, H, I, rfl, ?_⟩
    rw [show its.toArray.any (eqU x) = its.any (eqU x) by simp, any_eqU r fs]
    exact q
theorem call_len_seq : CallR X (.builtin "len") (fun xs H Q => ∃ p ys, xs = [.ref p] ∧ (SqL X.K H p ys ∨ SqT X.K H p ys) ∧ Q (.int ys.length) H) := by
  intro pins s σ H xs us Q I r h
  obtain ⟨p, ys, rfl, hq, q⟩ := h
  obtain ⟨u, rfl, rx⟩ := vals1 r
  cases rx
  have hn := line63
  rcases hq with hq | hq
  · obtain ⟨its, r', pl, hz⟩ := I.list hq
    have hlen := r'.length
    exact Calls.call_len_list pl.isList (by simp only [List.size_toArray] <;> omega) ⟨.int ys.length, H, I.tok _, ⟨s.toks + 1, by rw [List.size_toArray, hlen]⟩, q⟩
  · obtain ⟨its, r', pl, hz⟩ := I.tuple hq
    have hlen := r'.length
    exact len_tuple pl (by simp only [List.size_toArray] <;> omega) ⟨.int ys.length, H, I.tok _, ⟨s.toks + 1, by rw [List.size_toArray, hlen]⟩, q⟩
theorem CallR.or {f : Value} {r r' : List V → Hp → VK → Prop} (h : CallR X f r) (h' : CallR X f r') : CallR X f (fun xs H Q => r xs H Q ∨ r' xs H Q) := by
  intro pins s σ H xs us Q I rs q
  rcases q with q | q
  · exact h pins s σ H xs us Q I rs q
  · exact h' pins s σ H xs us Q I rs q
theorem call_list_of : CallR X (.type "list") (fun xs H Q => ∃ p ys, xs = [.ref p] ∧ (SqL X.K H p ys ∨ SqT X.K H p ys) ∧ ∀ l, H l = none → Q (.ref l) (upd H l (.lst ys))) := by
  intro pins s σ H xs us Q I r h
  obtain ⟨p, ys, rfl, hq, q⟩ := h
  obtain ⟨u, rfl, rx⟩ := vals1 r
  cases rx
  have fin : ∀ (its : List Value), Vals ys its → ys.length ≤ sizeLine → ∀ (h' : Heap) (c' : Nat), (∀ b o', s.heap.get? b = some o' → h'.get? b = some o') →
      h'.get? s.heap.objs.size = some { cls := .type "list", dict := none, data := .seq its.toArray c', slots := #[] } → EP X pins σ Q (.ref s.heap.objs.size) { s with heap := h' } := fun its r' hz h' c' kp e =>
    ⟨.ref s.heap.objs.size, _, I.laid (t' := s.toks) kp (Nat.le_refl _) (show ObjOk X.prog X.w _ h' _ (.lst ys) from ⟨hz, its, c', r', e⟩), rfl, q _ (I.hok.fresh (Nat.le_refl _))⟩
  rcases hq with hq | hq
  · obtain ⟨its, r', pl, hz⟩ := I.list hq
    have hlen := r'.length
    obtain ⟨o, ho, hc, n, hd⟩ := pl.isList
    exact call_list_seq p (.inl rfl) ho hc hd (fun h' c' kp e => fin its r' hz h' c' kp e) (by simp only [List.size_toArray] <;> omega)
  · obtain ⟨its, r', pl, hz⟩ := I.tuple hq
    have hlen := r'.length
    obtain ⟨o, ho, hc, n, hd⟩ := pl
    exact call_list_seq p (.inr rfl) ho hc hd (fun h' c' kp e => fin its r' hz h' c' kp e) (by simp only [List.size_toArray] <;> omega)
def tyV (K : PySem.W.Frag) (T : String) (x : V) (H : Hp) : Prop := match x with
  | .str _ => T = "str"
  | .int _ => T = "int"
  | .ref p => (T = "list" ∧ ∃ xs, SqL K H p xs) ∨ (T = "tuple" ∧ ∃ o, K.lookup p = some o ∧ o.cls = .type "tuple" ∧ o.dict = none) ∨
      (T = "dict" ∧ ((∃ kvs, H p = some (.dK kvs)) ∨ ∃ kvs, H p = some (.dT kvs))) ∨ (T = "set" ∧ ∃ S n, H p = some (.set S n))
  | _ => False
theorem tyV_is {pins : List (Addr × Obj)} {σ : St} {H : Hp} {s : Shared} {T : String} {x : V} {v : Value} (I : Inv X pins σ H s) (r : RelV x v) (ty : tyV X.K T x H) :
    s.TypeIs v T ∧ ∀ a, v = .ref a → ∃ ob, s.heap.get? a = some ob ∧ ob.dict = none := by
  cases x with
  | str z =>
    obtain ⟨t, rfl⟩ := r
    cases (show T = "str" from ty)
    exact ⟨typeIs_str s z t, fun _ e => nomatch e⟩
  | int i =>
    obtain ⟨t, rfl⟩ := r
    cases (show T = "int" from ty)
    exact ⟨typeIs_int s i t, fun _ e => nomatch e⟩
  | ref p =>
    cases r
    rcases ty with ⟨rfl, xs, hq⟩ | ⟨rfl, o, hk, hc, hd⟩ | ⟨rfl, hk⟩ | ⟨rfl, S, n, hk⟩
    · obtain ⟨its, _, pl, _⟩ := I.list hq
      refine ⟨pl.isList.typeIs, fun a e => ?_⟩
      cases e
      obtain ⟨o, n, e, c, hd, _⟩ := pl
      exact ⟨o, e, hd⟩
    · refine ⟨⟨o, I.kIn p o hk, hc⟩, fun a e => ?_⟩
      cases e
      exact ⟨o, I.kIn _ o hk, hd⟩
    · have z : ∃ o, s.heap.get? p = some o ∧ o.ExactDict := by
        rcases hk with ⟨kvs, hk⟩ | ⟨kvs, hk⟩
        · obtain ⟨_, _, _, _, o, _, _, e, ex, _⟩ := I.hok p _ hk
          exact ⟨o, e, ex⟩
        · obtain ⟨_, _, _, _, o, _, _, e, ex, _⟩ := I.hok p _ hk
          exact ⟨o, e, ex⟩
      obtain ⟨o, e, ex⟩ := z
      refine ⟨⟨o, e, ex.1⟩, fun a e2 => ?_⟩
      cases e2
      exact ⟨o, e, ex.2.1⟩
    · obtain ⟨o, _, _, _, e, ex, _⟩ := I.hok p _ hk
      refine ⟨⟨o, e, ex.1⟩, fun a e2 => ?_⟩
      cases e2
      exact ⟨o, e, ex.2.1⟩
  | _ => exact False.elim ty
def tBM0 (K : PySem.W.Frag) (T : String) (r : V → List V → Hp → VK → Prop) (to : TE) : TE := fun σ H Q => to σ H fun x H1 => tyV K T x H1 ∧ r x [] H1 Q
def tBM (K : PySem.W.Frag) (T : String) (r : V → List V → Hp → VK → Prop) (to : TE) (t : TA) : TE := fun σ H Q => to σ H fun x H1 => tyV K T x H1 ∧ t σ H1 fun xs H2 => r x xs H2 Q
variable {o e : Expr} {es : List Expr} {to : TE} {t : TA} {name : Str} {apos cpos : Pos} {T id : String} {r : V → List V → Hp → VK → Prop}
theorem pe_bm0 (pa : PlainAttrs T) (slot : Slot T name id) (hty : typeOf (.builtin id) = pure (.type "method_descriptor")) (hm : MtR X id r) (ho : PE X o to)
    (hbase : attributeBase o name X.env (eval o X.env) = eval o X.env := by rfl) (hline : (apos.endLine == cpos.line) = true := by rfl) : PE X (.Call (.Attribute o name apos) [] [] cpos) (tBM0 X.K T r to) := by
  intro pins s σ H Q I h
  refine wpAny_Call_method0_late hbase hline (thn (ho pins s σ H _ I h) fun v s1 ⟨x, H1, I1, r1, ty, q1⟩ => ?_)
  obtain ⟨h1, h2⟩ := tyV_is I1 r1 ty
  exact ⟨T, id, pa, slot, hty, h1, h2, Calls.callWith_builtin rfl (PySem.evalArgs_none (hm pins s1 σ H1 x [] v [] Q I1 r1 .nil q1))⟩
theorem pe_bm (pa : PlainAttrs T) (slot : Slot T name id) (hty : typeOf (.builtin id) = pure (.type "method_descriptor")) (hm : MtR X id r) (ho : PE X o to) (ha : PA X (e :: es) t)
    (hbase : attributeBase o name X.env (eval o X.env) = eval o X.env := by rfl)
    (hfew : ((backTo cpos (starEach (e :: es) X.env)).all (fun x => !x.1) && (backToKw cpos (keywordEach [] X.env)).all (fun x => x.1.isSome)
      && decide ((e :: es).length + ([] : List Keyword).length + (if ([] : List Keyword).isEmpty then 0 else 1) < 30)) = true := by rfl)
    (hline : (apos.endLine == cpos.line) = true := by rfl) (hs : starEach (e :: es) X.env = (false, eval e X.env) :: starEach es X.env := by rfl) (hplain : (backTo cpos (starEach es X.env)).any (·.1) = false := by rfl) :
    PE X (.Call (.Attribute o name apos) (e :: es) [] cpos) (tBM X.K T r to t) := by
  intro pins s σ H Q I h
  refine wpAny_Call_method_late hbase hfew hline rfl (thn (ho pins s σ H _ I h) fun v s1 ⟨x, H1, I1, r1, ty, q1⟩ => ?_)
  obtain ⟨h1, h2⟩ := tyV_is I1 r1 ty
  refine ⟨T, id, pa, slot, hty, h1, h2, ?_⟩
  have hA := ha cpos pins s1 σ H1 _ I1 q1
  rw [hs] at hA ⊢
  refine Calls.callWith_builtin (by show (false || (backTo cpos (starEach es X.env)).any (·.1)) = false; rw [hplain] <;> rfl) (Calls.evalArgs_plain ?_)
  exact thn hA fun us s2 ⟨vs, H2, I2, r2, q2⟩ => hm pins s2 σ H2 x vs v us Q I2 r1 r2 q2
/- xs.append(e), list.index on a module's tuple .. are MtR facts of 06m -/
end
end L2

namespace L2
open PySem PySem.Spec PyProof.Rows

def MtM (X : Cx) (id : String) (r : V → List V → Hp → VK → Prop) : Prop :=
  ∀ (pins : List (Addr × Obj)) (s : Shared) (σ : St) (H : Hp) (x : V) (xs : List V) (v : Value) (us : List Value) (Q : VK), Inv X pins σ H s → RelV x v → Vals xs us → r x xs H Q →
    wpAny (model X.prog X.w) X.A (call (.builtin id) (v :: us)) (EP X pins σ Q) X.xe s

theorem Vals.one : ∀ {x : V} {us : List Value}, Vals [x] us → ∃ u, us = [u] ∧ RelV x u
  | _, _, .cons r .nil => ⟨_, rfl, r⟩
theorem Vals.two : ∀ {x y : V} {us : List Value}, Vals [x, y] us → ∃ u v, us = [u, v] ∧ RelV x u ∧ RelV y v
  | _, _, _, .cons r (.cons q .nil) => ⟨_, _, rfl, r, q⟩
theorem Vals.zero : ∀ {us : List Value}, Vals [] us → us = []
  | _, .nil => rfl
theorem Vals.dropLast {xs : List V} {us : List Value} (h : Vals xs us) : Vals xs.dropLast us.dropLast := by
  induction h with
  | nil => exact .nil
  | cons r t ih =>
    cases t with
    | nil => exact .nil
    | cons q t' => exact .cons r ih
theorem Vals.eraseIdx : ∀ {xs : List V} {us : List Value} (i : Nat), Vals xs us → Vals (xs.eraseIdx i) (us.eraseIdx i)
  | _, _, _, .nil => .nil
  | _, _, 0, .cons _ t => t
  | _, _, i + 1, .cons r t => .cons r (Vals.eraseIdx i t)
theorem Vals.reverse {xs : List V} {us : List Value} (h : Vals xs us) : Vals xs.reverse us.reverse := by
  induction h with
  | nil => exact .nil
  | cons r t ih => rw [List.reverse_cons, List.reverse_cons]; exact Vals.append ih (.cons r .nil)
theorem erase_last {α : Type} (l : List α) : l.eraseIdx (l.length - 1) = l.dropLast := by
  induction l with
  | nil => rfl
  | cons a r ih =>
    cases r with
    | nil => rfl
    | cons b r =>
      have e : (a :: b :: r).length - 1 = ((b :: r).length - 1) + 1 := by
        have h1 : (a :: b :: r).length = r.length + 2 := rfl
        have h2 : (b :: r).length = r.length + 1 := rfl
        omega
      rw [e, List.eraseIdx_cons_succ, ih]
      all_goals rfl
section
variable {X : Cx} {pins : List (Addr × Obj)} {σ : St} {H : Hp} {s : Shared} {l b : Addr} {xs ys zs : List V}

theorem Inv.lset {its its' : List Value} {n : Nat} {f : Array Value → Array Value} {t' : Nat} (I : Inv X pins σ H s) (hH : H l = some (.lst xs))
    (e : s.heap.get? l = some { cls := .type "list", data := .seq its.toArray n }) (hf : f its.toArray = its'.toArray) (hv : Vals ys its') (hz : ys.length ≤ sizeLine) :
    Inv X pins σ (upd H l (.lst ys)) { s with heap := s.heap.update l (Obj.mapSeq f), toks := t' } := by
  have q := PySem.IsL.update e f
  rw [hf] at q
  refine I.write (x := l) (e := l) (by rw [hH]; exact trivial) (.inl rfl) (fun b' u hb hu => (Heap.get?_update_other s.heap (Obj.mapSeq f) (Ne.symm hb)).trans hu) ⟨_, q⟩ ?_
  exact ⟨hz, its', _, hv, q⟩
theorem Inv.lnew {its : List Value} {t' : Nat} (I : Inv X pins σ H s) (hv : Vals ys its) (hz : ys.length ≤ sizeLine) :
    Inv X pins σ (upd H s.heap.objs.size (.lst ys)) { s with heap := s.heap.push { cls := .type "list", data := .seq its.toArray }, toks := t' } :=
  I.laid (fun _ _ q => Heap.get?_push_of_some _ q) (Nat.le_refl _) ⟨hz, its, 0, hv, Heap.get?_push_size _ rfl⟩
theorem Inv.fresh (I : Inv X pins σ H s) : H s.heap.objs.size = none := I.hok.fresh (Nat.le_refl _)
theorem Inv.lstM (I : Inv X pins σ H s) (hH : H l = some (.lst xs)) : xs.length ≤ sizeLine ∧ ∃ (its : List Value) (n : Nat), Vals xs its ∧ xs.length = its.length ∧ s.heap.get? l = some { cls := .type "list", data := .seq its.toArray n } := by
  obtain ⟨z, its, n, r, e⟩ := I.hok l _ hH
  exact ⟨z, its, n, r, r.length, e⟩

end

section
variable {X : Cx}

def rAppend : V → List V → Hp → VK → Prop := fun x vs H Q => ∃ l xs y, x = .ref l ∧ vs = [y] ∧ H l = some (.lst xs) ∧ xs.length < sizeLine ∧ Q .non (upd H l (.lst (xs ++ [y])))
theorem mt_append : MtM X "list.append" rAppend := by
  intro pins s σ H x vs v us Q I rx rv h
  obtain ⟨l, xs, y, rfl, rfl, hH, hz, q⟩ := h
  cases rx
  obtain ⟨u, rfl, ru⟩ := rv.one
  obtain ⟨z, its, n, r, hl, e⟩ := I.lstM hH
  refine call_meets F.slot_list_append ⟨_, e, rfl⟩ F.entry_list_append (F.args_list_append_2 _ _) (PySem.list_append l its.toArray n u (by rw [List.size_toArray]; omega)) ⟨e, ?_⟩
  refine ⟨.non, _, I.lset (its' := its ++ [u]) hH e (by simp) (r.append (.cons ru .nil)) ?_, rfl, q⟩
  rw [List.length_append, List.length_singleton]
  omega

def rPop : V → List V → Hp → VK → Prop := fun x vs H Q => ∃ l xs y, x = .ref l ∧ vs = [] ∧ H l = some (.lst xs) ∧ xs[xs.length - 1]? = some y ∧ Q y (upd H l (.lst xs.dropLast))
theorem mt_pop : MtM X "list.pop" rPop := by
  intro pins s σ H x vs v us Q I rx rv h
  obtain ⟨l, xs, y, rfl, rfl, hH, hy, q⟩ := h
  cases rx
  have hus := rv.zero
  subst hus
  obtain ⟨z, its, n, r, hl, e⟩ := I.lstM hH
  obtain ⟨u, hu, ru⟩ := r.get hy
  have hy' : its.toArray[its.toArray.size - 1]? = some u := by
    show its.toArray[its.length - 1]? = some u
    rw [← Array.getElem?_toList, ← hl]
    exact hu
  refine call_meets F.slot_list_pop ⟨_, e, rfl⟩ F.entry_list_pop (F.args_list_pop_1 _) (MeetsSeq.list_pop_last l its.toArray n u hy' (by rw [List.size_toArray]; omega)) ⟨e, ?_⟩
  refine ⟨y, _, I.lset (its' := its.dropLast) hH e ?_ r.dropLast ?_, ru, q⟩
  · show its.toArray.eraseIdxIfInBounds (its.toArray.size - 1) = its.dropLast.toArray
    rw [List.size_toArray, List.eraseIdxIfInBounds_toArray, erase_last]
  · rw [List.length_dropLast]
    omega

end

section
variable {prog : Program} {w : World} {A : Around} {E : Value → Shared → Prop} {s : Shared}
set_option maxRecDepth 100000 in
end

section
variable {X : Cx}
end
end L2

namespace Att
open PySem PySem.W PySem.Calls PyProof.Rows

theorem ints_of_wellAll {P : Params} {h : Heap} : ∀ (ns : List Int) (vs : List Value), WellAll P h vs (ns.map WData.int) → IntsAre vs ns := by
  intro ns
  induction ns with
  | nil =>
    intro vs w
    rw [List.map_nil] at w
    cases w
    exact .nil
  | cons n ns ih =>
    intro vs w
    rw [List.map_cons] at w
    cases w with
    | cons a b =>
      cases a
      exact .cons _ _ (ih _ b)

theorem script_of {l : OpenLaw} {n : Nat} (hn : l.most = some n) {P : Params} {h : Heap} {args : List WData} {vals : List Value}
    (hpre : l.row.toRowW.claim.pre args = true) (hwl : WellAll P h vals args) :
    ∃ a vs ns, vals = [Value.ref a] ∧ args = [WData.list (ns.map WData.int)] ∧ h.get? a = some { cls := .type "list", data := .seq vs.toArray } ∧ IntsAre vs ns ∧ ns.length ≤ n := by
  have hsh : WShape.hasAll [] args [.list .int] = true := (pre_splitW hpre).1
  have hc : l.pre.holds [] { args := args } = true := (pre_splitW hpre).2
  obtain ⟨d, r, rfl, h1, h2⟩ := hasAllW_cons hsh
  obtain rfl := hasAllW_nil h2
  obtain ⟨xs, rfl, h3⟩ := hasW_list h1
  obtain ⟨ns, rfl⟩ := items_int h3
  have hlen : ns.length ≤ n := by
    unfold OpenLaw.pre at hc
    have h4 : (WTm.not (.lt (.lit (.int (n : Int))) (.len (.arg 0)))).holds [] { args := [.list (ns.map .int)] } = true := by
      have h4 := (holds_andW hc).1
      rw [hn] at h4
      exact h4
    have h5 := condW_of h4 (w_not (w_lt w_lit (w_len_list (w_arg rfl))))
    rw [List.length_map] at h5
    refine Nat.le_of_not_lt fun q => ?_
    have q' : (n : Int) < ((ns.length : Nat) : Int) := by omega
    first
      | (rw [decide_eq_true q'] at h5; exact absurd h5 (by decide))
      | (simp at h5; omega)
  cases hwl with
  | cons w1 w2 =>
    cases w2
    cases w1 with
    | list ho hall => exact ⟨_, _, ns, rfl, rfl, ho, ints_of_wellAll ns _ hall, hlen⟩

theorem post_true (l : OpenLaw) (args : List WData) : l.row.toRowW.claim.post args (.bool true) args = true :=
  postW_of (r := l.row.toRowW) (X := (true == true))
    (show WShape.has [] (.bool true) .bool = true by first | rfl | decide | simp [WShape.has, WShape.arms, WShape.armsAll])
    (show (WTm.eq .res (.lit (.bool true))).value [] { args := args, res := some (.bool true), after := args } = some (.bool (true == true)) from w_eq_bool (w_res rfl) w_lit) rfl

theorem attach_call {l : OpenLaw} {n : Nat} {q : Program} {loose : List Str} {XP : (Str → Option Value) → Heap → Prop} {YP : World → Heap → Prop} {d : DefRec}
    (hn : l.most = some n) (hdf : d.params.defaults = [])
    (call : ∀ (w : World) (s₀ s₁ : Shared) (mg mb : Str → Option Value) (fa : Addr) (o : Obj) (pm cd doc : Value) (a : Addr) (vs : List Value) (ns : List Int),
      Ground q loose [] XP w s₀ mg mb s₁.heap → YP w s₁.heap →
      s₁.heap.get? fa = some o → o.data = .func (docDef d.name d.params d.body d.scope pm cd doc) → s₁.heap.CodeRec cd d.name → mg d.name = some (.ref fa) →
      s₁.heap.get? a = some { cls := .type "list", data := .seq vs.toArray } → IntsAre vs ns → ns.length ≤ n → s₁.gens = #[] →
      codeAny (model l.prog w) callerA (.call (.ref fa) ⟨[.ref a], []⟩) (fun r s' => r = .ok (.ret (.bool true)) ∧ OldK s₁.heap s'.heap ∧ s'.os = s₁.os ∧ AllBare s'.gens) s₁) :
    WalkO q loose XP YP l.row.toRowW d [] (fun f vs => PySem.call f vs) := by
  intro w s₀ s₁ mg mb G Y fa o pm cd doc dV kV ho hd hcd hD hmg hg args vals as hpre hlay hrd hwl hlo
  obtain rfl : dV = .none := Dflts.none hD hdf
  obtain rfl : kV = .none := Dflts.noKw hD
  obtain ⟨a, vs, ns, rfl, rfl, hobj, hints, hlen⟩ := script_of hn hpre hwl
  refine enter_call (codeAny_mono (call w s₀ s₁ mg mb fa o pm cd doc a vs ns G Y ho (fd_plain hd) hcd hmg hobj hints hlen hg) fun r s' hq => ?_)
  obtain ⟨rfl, h2, h3, h4⟩ := hq
  exact ⟨.inl ⟨.bool true, .bool true, [], rfl, fun _ => rfl, .bool true, post_true l _, fun _ => ⟨List.Pairwise.nil, fun _ hm => (nomatch hm)⟩⟩, h2, h3, h4⟩

section
variable {prog : Program} {w : World} {A : Around} {E : Value → Shared → Prop} {s : Shared} {K : Frag}

def ledger (h : Heap) (L d : Addr) : List (Addr × Obj) := (List.range h.objs.size).filterMap fun a => if a = L ∨ a = d then none else (h.get? a).map fun o => (a, o)
end
end Att

namespace L2
open PySem PySem.Spec PyProof.Rows

theorem vals_ints : ∀ {vs : List Value} {ns : List Int}, IntsAre vs ns → Vals (ns.map V.int) vs
  | _, _, .nil => .nil
  | _, _, .cons n t h => .cons ⟨t, rfl⟩ (vals_ints h)

def Only (H : Hp) : Prop := ∀ b, H b = none ∨ ∃ o xs, H b = some (.frz o (.lst xs))

theorem law_call {P : Program} {w : World} {K : PySem.W.Frag} {mg mb : Str → Option Value} {CX : CXT} {k : Nat} {fa a : Addr} {fd : FuncData} {x : Str} {sp : Sp} {s₁ : Shared} {vs : List Value} {ns : List Int}
    (KX : K.In s₁.heap) (hns : s₁.heap.Ns mainGlobals mg) (hb : s₁.heap.Ns builtinsNs mb) (hbb : ∀ x : Str, x ≠ "__name__" → mb x = bootBuiltins x) (hlim : s₁.heap.NoLimit) (hg : s₁.gens = #[])
    (ha : s₁.heap.get? a = some { cls := .type "list", data := .seq vs.toArray }) (hi : IntsAre vs ns) (hl : ns.length ≤ sizeLine) (hr : Room k callerA)
    (F : ∀ base : Heap, K.In base → base.Ns mainGlobals mg → FnOk P w K mg base CX k fa fd [x] sp) (hbind : ∀ (s : Shared) (u : Value), BindsTo s fd ⟨[u], []⟩ [(x, u)])
    (hsp : ∀ H : Hp, Only H → SqL K H a (ns.map V.int) → sp [.ref a] H (fun v _ => v = .bl true) fun _ _ _ => False)
    (hCX : ∀ H e s', CX [] H s₁ (fun _ _ _ => False) e s' → False) :
    codeAny (model P w) callerA (.call (.ref fa) ⟨[.ref a], []⟩) (fun r s' => r = .ok (.ret (.bool true)) ∧ OldK s₁.heap s'.heap ∧ s'.os = s₁.os ∧ AllBare s'.gens) s₁ := by
  have rv := vals_ints hi
  have lenV := hi.length
  -- from an abstract heap in which nothing but the script may be tracked
  have core : ∀ H : Hp, Only H → SqL K H a (ns.map V.int) → HOk P w H s₁.heap → (∀ b, H b ≠ none → b = a) → (H a ≠ none → K.lookup a = none) →
      codeAny (model P w) callerA (.call (.ref fa) ⟨[.ref a], []⟩) (fun r s' => r = .ok (.ret (.bool true)) ∧ OldK s₁.heap s'.heap ∧ s'.os = s₁.os ∧ AllBare s'.gens) s₁ := by
    intro H hO hS hok hA hK
    have base_of : ∀ {b : Addr} {o : Obj}, s₁.heap.get? b = some o → H b = none → (hidT s₁.heap H).get? b = some o := fun e n => hidT_get e n
    have noA : ∀ {b : Addr} {o : Obj} {es : Array DictEntry} {ep : Nat}, s₁.heap.get? b = some o → o.data = .dict es ep → H b = none := fun {b o es ep} e d => by
      cases q : H b with
      | none => rfl
      | some u =>
        have e' : b = a := hA b (by rw [q]; simp)
        subst e'
        rw [ha] at e; cases e
        have d' : Data.seq vs.toArray _ = Data.dict es ep := d
        cases d'
    have nsK : ∀ {b : Addr} {m : Str → Option Value}, s₁.heap.Ns b m → (hidT s₁.heap H).Ns b m := fun {b m} ⟨o, es, ep, e, d, r⟩ => ⟨o, es, ep, base_of e (noA e d), d, r⟩
    have hKb : K.In (hidT s₁.heap H) := fun b o e => base_of (KX b o e) (by
      cases q : H b with
      | none => rfl
      | some u =>
        have e' : b = a := hA b (by rw [q]; simp)
        subst e'
        rw [hK (by rw [q]; simp)] at e; cases e)
    have hM : Mod K mg (hidT s₁.heap H) := ⟨hKb, nsK hns, ⟨mb, nsK hb, hbb⟩, let ⟨mc, h1, h2⟩ := hlim; ⟨mc, nsK h1, h2⟩⟩
    have e0 : Env0 P w K mg (hidT s₁.heap H) callerA [] s₁ H := ⟨rfl, hM, fun b o e => of_hidT e, Nat.le_of_eq (hidT_size _ _), trivial, fun b hb => absurd (show b ∈ ([] : List Addr) from hb) (by simp), hok, .of_eq hg⟩
    refine codeAny_mono ((F _ hKb (nsK hns)).run callerA [] s₁ H ⟨[.ref a], []⟩ [.ref a] [.ref a] _ _ hr e0 (hbind s₁ (.ref a)) (.cons rfl .nil) (hsp H hO hS)) fun r s' h => ?_
    cases r with
    | error e => exact (hCX H e s' h).elim
    | ok fl =>
      cases fl with
      | next => exact False.elim h
      | brk => exact False.elim h
      | cont => exact False.elim h
      | ret u =>
        obtain ⟨v, H', os, bare, un, hok', r', q⟩ := h
        have q' : v = .bl true := q
        subst q'
        obtain rfl : u = Value.bool true := r'
        refine ⟨rfl, OldK.of_keep fun b o e => ?_, os, bare⟩
        cases q : H b with
        | none => exact un.keep b o e q (by intro z; exact absurd (show b ∈ ([] : List Addr) from z) (by simp)) (by simp)
        | some u =>
          rcases hO b with z | ⟨ob, xs, z⟩
          · rw [q] at z; cases z
          · have z2 := un.frzs b ob _ z
            obtain ⟨e1, _⟩ := hok b _ z
            obtain ⟨e2, _⟩ := hok' b _ z2
            rw [e] at e1; cases e1
            exact e2
  cases hk : K.lookup a with
  | some o =>
    -- the script is one of the module's own objects
    have e := KX a o hk
    rw [ha] at e
    cases e
    refine core (fun _ => none) (fun _ => .inl rfl) (.inr ⟨_, vs.toArray, _, hk, rfl, rfl, rfl, by rw [List.size_toArray, lenV]; exact hl, by simpa using rv⟩) (fun b u z => by have z' : (none : Option HO) = some u := z; cases z') (fun b z => absurd rfl z) fun z => absurd rfl z
  | none =>
    refine core (fun b => if b = a then some (.frz { cls := .type "list", data := .seq vs.toArray } (.lst (ns.map V.int))) else none) (fun b => ?_) (.inl (.inr ⟨{ cls := .type "list", data := .seq vs.toArray }, if_pos rfl⟩)) (fun b u z => ?_) (fun b z => ?_) fun _ => hk
    · by_cases hb : b = a
      · exact .inr ⟨_, _, if_pos hb⟩
      · exact .inl (if_neg hb)
    · by_cases hb : b = a
      · have z' := (if_pos hb).symm.trans z
        cases z'
        subst hb
        exact ⟨ha, by rw [List.length_map]; exact hl, vs, _, rv, ha⟩
      · have z' := (if_neg hb).symm.trans z
        cases z'
    · by_cases hb : b = a
      · exact hb
      · exact absurd (if_neg hb) z
end L2

namespace L2
open PySem PySem.Spec PyProof.Rows

theorem walk_of {l : PySem.W.OpenLaw} {n k : Nat} {q : Program} {loose : List Str} {XP : (Str → Option Value) → Heap → Prop} {YP : World → Heap → Prop} {d : DefRec} {K : Params → PySem.W.Frag} {CX : World → CXT} {sp : World → Sp} {x : Str}
    (hn : l.most = some n) (hn2 : n ≤ sizeLine) (hdf : d.params.defaults = []) (hr : Room k callerA)
    (hY : ∀ (w : World) (h : Heap), YP w h → (K w.params).In h)
    (F : ∀ (w : World) (mg : Str → Option Value) (fa : Addr) (h : Heap), (K w.params).In h → h.Ns mainGlobals mg → mg d.name = some (.ref fa) →
      ∃ fd : FuncData, (∀ (s : Shared) (u : Value), BindsTo s fd ⟨[u], []⟩ [(x, u)]) ∧
        ∀ base : Heap, (K w.params).In base → base.Ns mainGlobals mg → FnOk l.prog w (K w.params) mg base (CX w) k fa fd [x] (sp w))
    (hsp : ∀ (w : World) (H : Hp) (a : Addr) (ns : List Int), ns.length ≤ n → Only H → SqL (K w.params) H a (ns.map V.int) → sp w [.ref a] H (fun v _ => v = .bl true) fun _ _ _ => False)
    (hCX : ∀ (w : World) (H : Hp) (s : Shared) (e : Value) (s' : Shared), CX w [] H s (fun _ _ _ => False) e s' → False) :
    PySem.W.WalkO q loose XP YP l.row.toRowW d [] (fun f vs => PySem.call f vs) := by
  refine Att.attach_call hn hdf fun w s₀ s₁ mg mb fa o pm cd doc a vs ns G Y ho hd hcd hmg hobj hints hlen hg => ?_
  have KX := hY w _ Y
  obtain ⟨fd, hb, hF⟩ := F w mg fa _ KX G.T.g hmg
  exact law_call KX G.T.g G.T.b G.T.builtins G.T.nolimit hg hobj hints (Nat.le_trans hlen hn2) hr hF hb (fun H hO hS => hsp w H a ns hlen hO hS) fun H e s' => hCX w H s₁ e s'
end L2


namespace L2
open PySem PySem.Spec PyProof.Rows

def inClass (s : Stmt) (j : Nat) : Stmt := match s with
  | .ClassDef _ _ _ body _ _ _ _ _ _ _ => body.getD j (.Pass ⟨0, 0, 0, 0⟩)
  | _ => .Pass ⟨0, 0, 0, 0⟩
def defArgs (s : Stmt) : Arguments := match s with
  | .FunctionDef _ a _ _ _ _ _ _ _ _ => a
  | _ => { posonlyargs := [], args := [], vararg := none, kwonlyargs := [], kw_defaults := [], kwarg := none, defaults := [] }
def defBody (s : Stmt) : List Stmt := match s with
  | .FunctionDef _ _ b _ _ _ _ _ _ _ => b
  | _ => []
def defScope (s : Stmt) : Scope := match s with
  | .FunctionDef _ _ _ _ _ _ sc _ _ _ => sc
  | _ => { kind := .function, names := [], isGenerator := false, isCoroutine := false }

abbrev CX0 : CXT := fun _ _ _ _ _ _ => False
abbrev E0 : XK := fun _ _ _ => False
theorem pass0 {X : Cx} : Passes CX0 X E0 := fun _ _ _ _ _ _ _ h => h.elim

structure Fun (K : PySem.W.Frag) (x qual : Str) (st : Stmt) (f : Addr) (fd : FuncData) : Prop where
  ex : ∃ (oc : Value) (od : Option Addr) (kV doc pm : Value) (an : Option Addr) (cdv ct : Value) (osl : Array (Option Value)),
    fd = PySem.W.fnOf x qual (defArgs st) (defBody st) (defScope st) .none kV doc pm an cdv ct ∧ K.lookup f = some ⟨oc, od, .func fd, osl⟩ ∧ PySem.W.codeIn K cdv qual = true
  kp : PySem.W.keepIn K (.ref f) = true
section
variable {P : Program} {w : World} {K : PySem.W.Frag} {mg : Str → Option Value} {base : Heap}
theorem Fun.ok {x qual : Str} {st : Stmt} {f : Addr} {fd : FuncData} {N ps : List Str} {k : Nat} {sp : Sp} (F : Fun K x qual st f fd) (S : FnScope N ps (defScope st)) (len : ∀ vs H Q E, sp vs H Q E → vs.length = ps.length)
    (hbody : ∀ (cdv : Value) (A : Around) (outer : List Env) (s : Shared) (H : Hp) (vs : List V) (Q : VK) (E : XK), Room k (A.deeper (envOfC qual (defScope st) s.heap.objs.size f cdv)) → sp vs H Q E →
      ∃ t, PSs (cxOf CX0 P w K mg base N qual (defScope st) f cdv A outer s H E).nox (defBody st) t ∧ t { nx := fun _ H' => Q .non H', rt := Q } (start N vs) H) : FnOk P w K mg base CX0 (k + 1) f fd ps sp := by
  obtain ⟨oc, od, kV, doc, pm, an, cdv, ct, osl, rfl, lk, hcd⟩ := F.ex
  refine fn_of lk hcd S len fun A outer s H vs Q E hr hsp => ?_
  obtain ⟨t, h, q⟩ := hbody cdv A outer s H vs Q E hr hsp
  exact ⟨t, h.nox, q⟩
theorem Fun.binds {x qual : Str} {st : Stmt} {f : Addr} {fd : FuncData} {ps : List Str} (F : Fun K x qual st f fd)
    (h : ∀ (kV doc pm : Value) (an : Option Addr) (cdv ct : Value) (us : List Value), us.length = ps.length → bindArgs (PySem.W.fnOf x qual (defArgs st) (defBody st) (defScope st) .none kV doc pm an cdv ct) ⟨us, []⟩ = pure (ps.zip us)) : Binds K fd ps [] := by
  obtain ⟨oc, od, kV, doc, pm, an, cdv, ct, osl, rfl, lk, hcd⟩ := F.ex
  exact .all (h kV doc pm an cdv ct)
theorem fun_mk {x qual : Str} {st : Stmt} {f : Addr} {oc : Value} {od an : Option Addr} {osl : Array (Option Value)} {kV doc pm cdv ct : Value} (l : K.lookup f = some ⟨oc, od, .func (PySem.W.fnOf x qual (defArgs st) (defBody st) (defScope st) .none kV doc pm an cdv ct), osl⟩)
    (c : PySem.W.codeIn K cdv qual = true) (k : PySem.W.keepIn K (.ref f) = true) : Fun K x qual st f (PySem.W.fnOf x qual (defArgs st) (defBody st) (defScope st) .none kV doc pm an cdv ct) := ⟨⟨oc, od, kV, doc, pm, an, cdv, ct, osl, rfl, l, c⟩, k⟩
end
section
variable {X : Cx}
theorem pv (i : Nat) {x : Str} {pos : Pos} (hN : X.N[i]? = some x := by rfl) (hv : Vis X.env.scope x := by first | exact Or.inl rfl | exact Or.inr (Or.inl rfl) | exact Or.inr (Or.inr rfl)) (hd : (x == ("__debug__" : Str)) = false := by decide)
    (hcd : (x == ("__classdict__" : Str)) = false := by decide) : PE X (.Name x pos) (tVar i) := pe_var hN hv hd hcd
end

theorem iteF {A B : Prop} (h : B) : if false = true then A else B := by
  rw [if_neg Bool.false_ne_true]
  exact h
theorem iteT {A B : Prop} (h : A) : if true = true then A else B := by
  rw [if_pos rfl]
  exact h
theorem ite2 {c A B : Prop} [Decidable c] (h1 : c → A) (h2 : ¬ c → B) : if c then A else B := by
  by_cases h : c
  · rw [if_pos h]
    exact h1 h
  · rw [if_neg h]
    exact h2 h
def Same (H H' : Hp) : Prop := ∀ b o, H b = some o → H' b = some o
theorem Same.refl (H : Hp) : Same H H := fun _ _ h => h
theorem Same.trans {H H1 H2 : Hp} (a : Same H H1) (b : Same H1 H2) : Same H H2 := fun c o h => b c o (a c o h)
theorem Same.free {H H' : Hp} (e : Same H H') {l : Addr} (h : H' l = Option.none) : H l = Option.none := by
  cases q : H l with
  | none => rfl
  | some o =>
    rw [e l o q] at h
    cases h
theorem Same.seq {K : PySem.W.Frag} {H H' : Hp} {a : Addr} {xs : List V} (e : Same H H') (h : SqL K H a xs) : SqL K H' a xs := by
  rcases h with (h | ⟨o, h⟩) | h
  · exact .inl (.inl (e _ _ h))
  · exact .inl (.inr ⟨o, e _ _ h⟩)
  · exact .inr h

end L2

set_option maxRecDepth 1000000
set_option maxHeartbeats 0
open PySem in
def My.top (i : Nat) : Stmt := PySem.Challenge.pw_oddbases_k41_order_by_numbers.main.body.getD i (.Pass ⟨0, 0, 0, 0⟩)
noncomputable section
open PySem My
abbrev My.v_ : Option Value := some (.ref 6)
abbrev My.g_ : Array GenState := ⟨[]⟩
abbrev My.d_ := @Drawn.mk 0 0 0 0
abbrev My.P_ := @Pos.mk
abbrev My.N_ (o : Params → Obj) (a b : Params → W.BT) (x : Params) : W.BT := .node (o x) (a x) (b x)
abbrev My.Z_ (_ : Params) : W.BT := .nil
abbrev My.L_ (o : Params → Obj) := N_ o Z_ Z_
theorem My.sg_ {tb p w n₀ ann b} {n : Nat} {s s' : W.SharedT} {t : Thread} {f : Flow} {c : Code} {q : Pos} (h : W.segRunT tb p w n₀ ann b n s t = some (f, s', c, q)) : W.segRun tb p w n₀ ann b n s.abs t = some (f, s'.abs, c, q) := W.segRun_of h
abbrev My.p_ (a : String) (b : Nat) : Value := .str (.ofString a) b
abbrev My.j_ (a : Int) (b : Nat) : Value := .int a b
abbrev My.r_ (a : Nat) : Value := .ref a
abbrev My.e_ (x : Params) (a : String) (b : Nat) (v : Value) : DictEntry := ⟨PyData.keyHash x (.ofString a), .str (.ofString a) b, v⟩
abbrev My.t0 (a1 : String) (a3 : Nat) (a7 : String) (a8 a9 : Nat) (x : Params) : Obj := (@Obj.mk (.type "function") none (@Data.func (@FuncData.mk (.ofString a1) (.ofString a1) (L2.defArgs (My.top a3)) (@FuncBody.stmts (L2.defBody (My.top a3))) (L2.defScope (My.top a3)) 3 (@List.nil (@Prod @Str @Nat)) .none .none .none (p_ a7 a8) none (r_ a9) .none 0)) #[])
abbrev My.t1 (a1 : String) (a2 : Nat) (a3 : String) (a4 a6 : Nat) (a7 a9 : Int) (a17 a20 a21 a22 a23 : Nat) (a24 : Int) (a29 : Nat) (x : Params) : Obj := (@Obj.mk (.type "code") none (@Data.fields (List.toArray [(p_ a1 a2), (p_ a3 a4), (p_ "/claim/cut.py" a6), (j_ a7 0), (j_ a9 0), (j_ 0 0), (j_ 0 0), (j_ 3 0), (r_ a17), (.bool @Bool.true), (j_ 181 0), (r_ a20), .none, (r_ a21), (r_ a22), (r_ a23), (j_ a24 0), (j_ a7 0), (p_ "/claim/cut.py" a29)])) #[])
abbrev My.t2 (a0 : String) (a2 : Nat) (x : Params) : Obj := (@Obj.mk .none none (@Data.func (@FuncData.mk (.ofString a0) (.ofString a0) (L2.defArgs (My.top a2)) (@FuncBody.stmts (L2.defBody (My.top a2))) (L2.defScope (My.top a2)) 0 (@List.nil (@Prod @Str @Nat)) .none .none .none .none none .none .none 0)) #[])
abbrev My.t3 (x : Params) : Obj := (@Obj.mk (.type "tuple") none (@Data.seq #[] 0) #[])
abbrev My.t4 (x : Params) : Obj := (@Obj.mk .none none (@Data.fields #[]) #[])
abbrev My.t5 (a1 : String) (a2 : Nat) (a3 : String) (a4 : Nat) (x : Params) : Obj := (@Obj.mk (.type "tuple") none (@Data.seq (List.toArray [(p_ a1 a2), (p_ a3 a4)]) 0) #[])
abbrev My.t6 (a1 : String) (a2 a4 a6 : Nat) (a7 a9 : Int) (a17 a20 a21 : Nat) (a22 : Int) (a27 : Nat) (x : Params) : Obj := (@Obj.mk (.type "code") none (@Data.fields (List.toArray [(p_ a1 a2), (p_ a1 a4), (p_ "/claim/cut.py" a6), (j_ a7 0), (j_ a9 0), (j_ 0 0), (j_ 0 0), (j_ 3 0), (r_ a17), (.bool @Bool.true), (j_ 181 0), (r_ a20), .none, .none, .none, (r_ a21), (j_ a22 0), (j_ a7 0), (p_ "/claim/cut.py" a27)])) #[])
abbrev My.t7 (a1 : String) (a2 : Nat) (a3 : String) (a4 : Nat) (a5 : String) (a6 : Nat) (x : Params) : Obj := (@Obj.mk (.type "tuple") none (@Data.seq (List.toArray [(p_ a1 a2), (p_ a3 a4), (p_ a5 a6)]) 0) #[])
abbrev My.t8 (a2 a4 : Nat) (a5 : String) (a6 : Nat) (a7 : String) (a8 : Nat) (a9 : String) (a10 : Nat) (a11 : String) (a12 : Nat) (a13 : String) (a14 : Nat) (x : Params) : Obj := (@Obj.mk (.type "tuple") none (@Data.seq (List.toArray [(p_ "_law_name" a2), (p_ "_law_number_here" a4), (p_ a5 a6), (p_ a7 a8), (p_ a9 a10), (p_ a11 a12), (p_ a13 a14)]) 0) #[])
abbrev My.t9 (a1 : String) (a2 : Nat) (a3 : String) (a4 : Nat) (a5 : String) (a6 : Nat) (a7 : String) (a8 : Nat) (a9 : String) (a10 : Nat) (x : Params) : Obj := (@Obj.mk (.type "tuple") none (@Data.seq (List.toArray [(p_ a1 a2), (p_ a3 a4), (p_ a5 a6), (p_ a7 a8), (p_ a9 a10)]) 0) #[])
abbrev My.t10 (a2 : Nat) (x : Params) : Obj := (@Obj.mk (.type "builtin_function_or_method") none (@Data.fields (List.toArray [(.builtin "object.__init_subclass__"), (r_ a2)])) #[])
abbrev My.t11 (a1 : Nat) (x : Params) : Obj := (@Obj.mk (.type "super") none (@Data.fields (List.toArray [(r_ a1), (r_ a1), (r_ a1)])) #[])
abbrev My.t12 (a1 : String) (a3 a6 a8 a10 a12 : Nat) (x : Params) : Obj := (@Obj.mk (.type "type") none (@Data.cls (@ClassData.mk (.ofString a1) [(r_ 143)] [(r_ a3), (r_ 143), (.type "object")] a6 (.ofString a1) @Bool.true [] [] @Bool.false (@Option.none @Bool) @Bool.false)) (@List.toArray (@Option @Value) [(some (r_ a8)), none, (some (p_ a1 a10)), (some (p_ a1 a12)), (some (.builtin "object.__new__")), (some (.bool @Bool.true))]))
abbrev My.t13 (a1 : String) (a2 : Nat) (x : Params) : Obj := (@Obj.mk (.type "tuple") none (@Data.seq (List.toArray [(p_ a1 a2)]) 0) #[])
abbrev My.t14 (a1 a2 : String) (a3 a4 a12 : Nat) (x : Params) : Obj := (@Obj.mk (.type "function") none (@Data.func (@FuncData.mk (.ofString a1) (.ofString a2) (L2.defArgs (L2.inClass (My.top a3) a4)) (@FuncBody.stmts (L2.defBody (L2.inClass (My.top a3) a4))) (L2.defScope (L2.inClass (My.top a3) a4)) 3 (@List.nil (@Prod @Str @Nat)) .none .none .none (p_ "oddbases.ways" 281) none (r_ a12) .none 0)) #[])
abbrev My.t15 (a0 a1 : String) (a2 a3 : Nat) (x : Params) : Obj := (@Obj.mk .none none (@Data.func (@FuncData.mk (.ofString a0) (.ofString a1) (L2.defArgs (L2.inClass (My.top a2) a3)) (@FuncBody.stmts (L2.defBody (L2.inClass (My.top a2) a3))) (L2.defScope (L2.inClass (My.top a2) a3)) 0 (@List.nil (@Prod @Str @Nat)) .none .none .none .none none .none .none 0)) #[])
abbrev My.t16 (a1 a3 : Nat) (a4 : String) (a5 : Nat) (x : Params) : Obj := (@Obj.mk (.type "frame") none @Data.plain (@List.toArray (@Option @Value) [(some (r_ a1)), (some (r_ 3)), (some (r_ a3)), none, (some (p_ a4 a5)), none, (some (r_ 0))]))
abbrev My.t17 (a1 : String) (a2 a4 a6 : Nat) (a7 : Int) (a17 a20 : Nat) (a21 : Int) (a26 : Nat) (x : Params) : Obj := (@Obj.mk (.type "code") none (@Data.fields (List.toArray [(p_ a1 a2), (p_ a1 a4), (p_ "/claim/cut.py" a6), (j_ a7 0), (j_ 0 0), (j_ 0 0), (j_ 0 0), (j_ 0 0), (r_ a17), (.bool @Bool.false), (j_ 181 0), (r_ a20), .none, .none, .none, .none, (j_ a21 0), (j_ a7 0), (p_ "/claim/cut.py" a26)])) #[])
abbrev My.t18 (a0 : Int) (a4 : Nat) (a5 : Int) (a9 : Nat) (a10 : Int) (a14 : Nat) (a15 : Int) (a19 : Nat) (a20 : Int) (a24 : Nat) (a25 : Int) (a29 : Nat) (x : Params) : Obj := (@Obj.mk .none none (@Data.fields (List.toArray [(j_ a0 0), (j_ 4 0), (r_ a4), (j_ a5 0), (j_ 4 0), (r_ a9), (j_ a10 0), (j_ 4 0), (r_ a14), (j_ a15 0), (j_ 4 0), (r_ a19), (j_ a20 0), (j_ 4 0), (r_ a24), (j_ a25 0), (j_ 4 0), (r_ a29)])) #[])
abbrev My.t19 (a3 a8 : Nat) (a9 : String) (a10 a13 : Nat) (a14 : Int) (a15 : Nat) (a16 : String) (a18 a19 : Nat) (a20 : String) (a22 a23 : Nat) (a24 : String) (a26 a27 : Nat) (a28 : String) (a30 a31 a34 a35 a38 a39 a42 a43 : Nat) (x : Params) : Obj := (@Obj.mk (.type "dict") none (@Data.dict (List.toArray [(e_ x "__module__" a3 (p_ "oddbases.ways" 281)), (e_ x "__qualname__" a8 (p_ a9 a10)), (e_ x "__firstlineno__" a13 (j_ a14 a15)), (e_ x a16 a18 (r_ a19)), (e_ x a20 a22 (r_ a23)), (e_ x a24 a26 (r_ a27)), (e_ x a28 a30 (r_ a31)), (e_ x "split" a34 (r_ a35)), (e_ x "has" a38 (r_ a39)), (e_ x "__static_attributes__" a42 (r_ a43))]) 10) #[])
abbrev My.t20 (x : Params) : Obj := (@Obj.mk (.type "builtin_function_or_method") none (@Data.fields (List.toArray [(.builtin "type.__prepare__"), (.type "type")])) #[])
abbrev My.t21 (a1 : Nat) (x : Params) : Obj := (@Obj.mk (.type "tuple") none (@Data.seq (List.toArray [(r_ a1)]) 0) #[])
abbrev My.t22 (a3 a8 : Nat) (a9 : Int) (a10 a13 a14 : Nat) (a15 : String) (a17 a18 : Nat) (a19 : String) (a21 a22 a25 a26 : Nat) (a27 : String) (a29 a30 a33 a34 a37 : Nat) (x : Params) : Obj := (@Obj.mk (.type "dict") none (@Data.dict (List.toArray [(e_ x "__module__" a3 (p_ "oddbases.ways" 281)), (e_ x "__firstlineno__" a8 (j_ a9 a10)), (e_ x "__init__" a13 (r_ a14)), (e_ x a15 a17 (r_ a18)), (e_ x a19 a21 (r_ a22)), (e_ x "ratio" a25 (r_ a26)), (e_ x a27 a29 (r_ a30)), (e_ x "__static_attributes__" a33 (r_ a34)), (e_ x "__doc__" a37 .none)]) 2) #[])
abbrev My.t23 (a0 : Int) (a4 : Nat) (a5 : Int) (a9 : Nat) (a10 : Int) (a14 : Nat) (a15 : Int) (a19 : Nat) (a20 : Int) (a24 : Nat) (x : Params) : Obj := (@Obj.mk .none none (@Data.fields (List.toArray [(j_ a0 0), (j_ 4 0), (r_ a4), (j_ a5 0), (j_ 4 0), (r_ a9), (j_ a10 0), (j_ 4 0), (r_ a14), (j_ a15 0), (j_ 4 0), (r_ a19), (j_ a20 0), (j_ 4 0), (r_ a24)])) #[])
abbrev My.t24 (a3 a8 : Nat) (a9 : String) (a10 a13 : Nat) (a14 : Int) (a15 a18 a19 : Nat) (a20 : String) (a22 a23 : Nat) (a24 : String) (a26 a27 a30 a31 : Nat) (a32 : String) (a34 a35 a38 a39 : Nat) (x : Params) : Obj := (@Obj.mk (.type "dict") none (@Data.dict (List.toArray [(e_ x "__module__" a3 (p_ "oddbases.ways" 281)), (e_ x "__qualname__" a8 (p_ a9 a10)), (e_ x "__firstlineno__" a13 (j_ a14 a15)), (e_ x "__init__" a18 (r_ a19)), (e_ x a20 a22 (r_ a23)), (e_ x a24 a26 (r_ a27)), (e_ x "ratio" a30 (r_ a31)), (e_ x a32 a34 (r_ a35)), (e_ x "__static_attributes__" a38 (r_ a39))]) 9) #[])
abbrev My.t25 (a3 a8 : Nat) (a9 : Int) (a10 a13 a14 a17 a18 a21 a22 a25 a26 a29 : Nat) (x : Params) : Obj := (@Obj.mk (.type "dict") none (@Data.dict (List.toArray [(e_ x "__module__" a3 (p_ "oddbases.ways" 281)), (e_ x "__firstlineno__" a8 (j_ a9 a10)), (e_ x "__init__" a13 (r_ a14)), (e_ x "high" a17 (r_ a18)), (e_ x "ratio" a21 (r_ a22)), (e_ x "__static_attributes__" a25 (r_ a26)), (e_ x "__doc__" a29 .none)]) 2) #[])
abbrev My.t26 (a0 a2 : Int) (a4 : Nat) (a5 : Int) (a9 : Nat) (a10 : Int) (a14 : Nat) (x : Params) : Obj := (@Obj.mk .none none (@Data.fields (List.toArray [(j_ a0 0), (j_ a2 0), (r_ a4), (j_ a5 0), (j_ a2 0), (r_ a9), (j_ a10 0), (j_ a2 0), (r_ a14)])) #[])
abbrev My.t27 (a3 a8 : Nat) (a9 : String) (a10 a13 : Nat) (a14 : Int) (a15 a18 a19 a22 a23 a26 a27 a30 a31 : Nat) (x : Params) : Obj := (@Obj.mk (.type "dict") none (@Data.dict (List.toArray [(e_ x "__module__" a3 (p_ "oddbases.ways" 281)), (e_ x "__qualname__" a8 (p_ a9 a10)), (e_ x "__firstlineno__" a13 (j_ a14 a15)), (e_ x "__init__" a18 (r_ a19)), (e_ x "high" a22 (r_ a23)), (e_ x "ratio" a26 (r_ a27)), (e_ x "__static_attributes__" a30 (r_ a31))]) 7) #[])
abbrev My.t28 (a0 a2 : Int) (a4 : Nat) (a5 : Int) (a9 : Nat) (a10 : Int) (a14 : Nat) (a15 : Int) (a19 : Nat) (x : Params) : Obj := (@Obj.mk .none none (@Data.fields (List.toArray [(j_ a0 0), (j_ a2 0), (r_ a4), (j_ a5 0), (j_ a2 0), (r_ a9), (j_ a10 0), (j_ a2 0), (r_ a14), (j_ a15 0), (j_ a2 0), (r_ a19)])) #[])
abbrev My.t29 (a2 a3 : Nat) (x : Params) : Obj := (@Obj.mk (.type "getset_descriptor") none (@Data.fields (List.toArray [(p_ "__weakref__" a2), (r_ a3), (.builtin "ExceptionGroup.__weakref__"), .none])) #[])
abbrev My.t30 (a1 : String) (a3 a9 a11 a13 a15 : Nat) (x : Params) : Obj := (@Obj.mk (.type "type") none (@Data.cls (@ClassData.mk (.ofString a1) [(r_ 31)] [(r_ a3), (r_ 31), (.type "ValueError"), (.type "Exception"), (.type "BaseException"), (.type "object")] a9 (.ofString a1) @Bool.true [] [] @Bool.false (@Option.none @Bool) @Bool.false)) (@List.toArray (@Option @Value) [(some (r_ a11)), none, (some (p_ a1 a13)), (some (p_ a1 a15)), (some (.builtin "ValueError.__new__")), (some (.bool @Bool.true))]))
abbrev My.t31 (a3 a8 : Nat) (a9 : Int) (a10 a13 a14 a17 : Nat) (x : Params) : Obj := (@Obj.mk (.type "dict") none (@Data.dict (List.toArray [(e_ x "__module__" a3 (p_ "oddbases.errors" 194)), (e_ x "__firstlineno__" a8 (j_ a9 a10)), (e_ x "__static_attributes__" a13 (r_ a14)), (e_ x "__doc__" a17 .none)]) 2) #[])
abbrev My.t32 (a3 a8 : Nat) (a9 : String) (a10 a13 : Nat) (a14 : Int) (a15 a18 a19 : Nat) (x : Params) : Obj := (@Obj.mk (.type "dict") none (@Data.dict (List.toArray [(e_ x "__module__" a3 (p_ "oddbases.errors" 194)), (e_ x "__qualname__" a8 (p_ a9 a10)), (e_ x "__firstlineno__" a13 (j_ a14 a15)), (e_ x "__static_attributes__" a18 (r_ a19))]) 4) #[])
abbrev My.U24 (x : Params) : DictEntry := (e_ x "Way" 359 (r_ 143))
abbrev My.U23 (x : Params) : DictEntry := (e_ x "NoWay" 229 (r_ 44))
abbrev My.U22 (x : Params) : DictEntry := (e_ x "_wall" 193 (r_ 21))
abbrev My.U21 (x : Params) : DictEntry := (e_ x "__doc__" 166 .none)
abbrev My.U20 (x : Params) : DictEntry := (e_ x "Below" 449 (r_ 218))
abbrev My.U19 (x : Params) : DictEntry := (e_ x "Plain" 400 (r_ 178))
abbrev My.U18 (x : Params) : DictEntry := (e_ x "__spec__" 169 .none)
abbrev My.U17 (x : Params) : DictEntry := (e_ x "bounded" 291 (r_ 91))
abbrev My.U16 (x : Params) : DictEntry := (e_ x "NoPairs" 261 (r_ 68))
abbrev My.U15 (x : Params) : DictEntry := (e_ x "Falling" 605 (r_ 345))
abbrev My.U14 (x : Params) : DictEntry := (e_ x "Growing" 547 (r_ 298))
abbrev My.U13 (x : Params) : DictEntry := (e_ x "is_whole" 280 (r_ 84))
abbrev My.U12 (x : Params) : DictEntry := (e_ x "thing_at" 271 (r_ 77))
abbrev My.U11 (x : Params) : DictEntry := (e_ x "OddError" 213 (r_ 31))
abbrev My.U10 (x : Params) : DictEntry := (e_ x "__cached__" 174 .none)
abbrev My.U9 (x : Params) : DictEntry := (e_ x "Balanced" 506 (r_ 265))
abbrev My.U8 (x : Params) : DictEntry := (e_ x "NoWriting" 245 (r_ 56))
abbrev My.U7 (x : Params) : DictEntry := (e_ x "__package__" 167 .none)
abbrev My.U6 (x : Params) : DictEntry := (e_ x "__builtins__" 171 (r_ 4))
abbrev My.U5 (x : Params) : DictEntry := (e_ x "__annotations__" 170 (r_ 6))
abbrev My.U4 (x : Params) : DictEntry := (e_ x "__name__" 165 (p_ "oddbases.ways" 281))
abbrev My.U3 (x : Params) : DictEntry := (e_ x "__file__" 173 (p_ "/claim/cut.py" 172))
abbrev My.U2 (x : Params) : DictEntry := (e_ x "__name__" 165 (p_ "oddbases.errors" 194))
abbrev My.U1 (x : Params) : DictEntry := (e_ x "__loader__" 168 (.builtin "__main__.__loader__#opaque"))
abbrev My.U0 (x : Params) : DictEntry := (e_ x "__name__" 165 (p_ "law_oddbases_k41_order_by_numbers" 731))
def My.o606 := t0 "law" 41 "law_oddbases_k41_order_by_numbers" 731 536
def My.o605 := t1 "law" 853 "law" 854 855 264 1 531 532 533 534 535 865 866
def My.o604 := t2 "law" 41
def My.o603 := t3
def My.o602 (x : Params) : Obj := (@Obj.mk (.type "tuple") none (@Data.seq (List.toArray [(p_ "_law_script" 856), (p_ "_law_name" 857), (p_ "_law_number_here" 858), (p_ "_law_change" 859), (p_ "_law_one" 860), (p_ "_law_other" 861), (p_ "_law_way_here" 862), (p_ "_law_handed" 863), (p_ "_law_due" 864)]) 0) #[])
def My.o601 := t4
def My.o599 := t0 "_law_is" 40 "law_oddbases_k41_order_by_numbers" 731 529
def My.o598 := t1 "_law_is" 845 "_law_is" 846 847 262 2 524 525 526 527 528 850 851
def My.o597 := t2 "_law_is" 40
def My.o595 := t5 "_law_found" 848 "_law_due" 849
def My.o592 := t0 "_law_sign" 39 "law_oddbases_k41_order_by_numbers" 731 522
def My.o591 := t1 "_law_sign" 837 "_law_sign" 838 839 256 2 517 518 519 520 521 842 843
def My.o590 := t2 "_law_sign" 39
def My.o588 := t5 "_law_one" 840 "_law_other" 841
def My.o585 := t0 "_law_second" 38 "law_oddbases_k41_order_by_numbers" 731 515
def My.o584 := t6 "_law_second" 831 832 833 243 5 512 513 514 834 835
def My.o583 := t2 "_law_second" 38
def My.o580 := t0 "_law_chosen" 37 "law_oddbases_k41_order_by_numbers" 731 510
def My.o579 := t1 "_law_chosen" 822 "_law_chosen" 823 824 235 1 505 506 507 508 509 828 829
def My.o578 := t2 "_law_chosen" 37
def My.o576 := t7 "_law_cell" 825 "_law_name" 826 "_law_part" 827
def My.o573 := t0 "_law_way" 36 "law_oddbases_k41_order_by_numbers" 731 503
def My.o572 := t1 "_law_way" 814 "_law_way" 815 816 225 2 498 499 500 501 502 819 820
def My.o571 := t2 "_law_way" 36
def My.o569 := t5 "_law_name" 817 "_law_number_here" 818
def My.o566 := t0 "_law_number" 35 "law_oddbases_k41_order_by_numbers" 731 496
def My.o565 := t1 "_law_number" 802 "_law_number" 803 804 220 3 491 492 493 494 495 811 812
def My.o564 := t2 "_law_number" 35
def My.o562 (x : Params) : Obj := (@Obj.mk (.type "tuple") none (@Data.seq (List.toArray [(p_ "_law_name" 805), (p_ "_law_number_here" 806), (p_ "_law_row" 807), (p_ "_law_found" 808), (p_ "_law_weight" 809), (p_ "_law_figure_here" 810)]) 0) #[])
def My.o559 := t0 "_law_weights" 34 "law_oddbases_k41_order_by_numbers" 731 489
def My.o558 := t1 "_law_weights" 789 "_law_weights" 790 791 203 3 484 485 486 487 488 799 800
def My.o557 := t2 "_law_weights" 34
def My.o555 := t8 792 793 "_law_many" 794 "_law_found" 795 "_law_lower" 796 "_law_k" 797 "_law_here" 798
def My.o552 := t0 "_law_row_by" 33 "law_oddbases_k41_order_by_numbers" 731 482
def My.o551 := t6 "_law_row_by" 783 784 785 200 3 479 480 481 786 787
def My.o550 := t2 "_law_row_by" 33
def My.o545 := t0 "_law_legal" 32 "law_oddbases_k41_order_by_numbers" 731 477
def My.o544 := t1 "_law_legal" 772 "_law_legal" 773 774 191 3 472 473 474 475 476 780 781
def My.o543 := t2 "_law_legal" 32
def My.o541 := t9 "_law_name" 775 "_law_number_here" 776 "_law_row" 777 "_law_made" 778 "_law_place" 779
def My.o538 := t0 "_law_figure" 31 "law_oddbases_k41_order_by_numbers" 731 470
def My.o537 := t1 "_law_figure" 759 "_law_figure" 760 761 184 4 465 466 467 468 469 769 770
def My.o536 := t2 "_law_figure" 31
def My.o534 := t8 762 763 "_law_place" 764 "_law_cell" 765 "_law_low_here" 766 "_law_high_here" 767 "_law_edge" 768
def My.o531 := t0 "_law_high" 30 "law_oddbases_k41_order_by_numbers" 731 463
def My.o530 := t1 "_law_high" 750 "_law_high" 751 752 176 3 458 459 460 461 462 756 757
def My.o529 := t2 "_law_high" 30
def My.o527 := t7 "_law_name" 753 "_law_number_here" 754 "_law_place" 755
def My.o524 := t0 "_law_low" 29 "law_oddbases_k41_order_by_numbers" 731 456
def My.o523 := t1 "_law_low" 741 "_law_low" 742 743 172 3 451 452 453 454 455 747 748
def My.o522 := t2 "_law_low" 29
def My.o520 := t7 "_law_name" 744 "_law_number_here" 745 "_law_place" 746
def My.o517 := t0 "_law_cell_at" 28 "law_oddbases_k41_order_by_numbers" 731 449
def My.o516 := t1 "_law_cell_at" 733 "_law_cell_at" 734 735 168 2 444 445 446 447 448 738 739
def My.o515 := t2 "_law_cell_at" 28
def My.o513 := t5 "_law_script" 736 "_law_k" 737
def My.o510 := t0 "order" 26 "oddbases.orders" 709 442
def My.o509 := t1 "order" 720 "order" 721 722 156 3 437 438 439 440 441 728 729
def My.o508 := t2 "order" 26
def My.o506 := t9 "way" 723 "one" 724 "other" 725 "place" 726 "more" 727
def My.o503 := t0 "parting" 25 "oddbases.orders" 709 435
def My.o502 := t1 "parting" 711 "parting" 712 713 151 2 430 431 432 433 434 717 718
def My.o501 := t2 "parting" 25
def My.o499 := t7 "one" 714 "other" 715 "place" 716
def My.o496 := t0 "held_to_be_writings" 23 "oddbases.writings" 671 428
def My.o495 := t1 "held_to_be_writings" 700 "held_to_be_writings" 701 702 146 2 423 424 425 426 427 706 707
def My.o494 := t2 "held_to_be_writings" 23
def My.o492 := t7 "way" 703 "rows" 704 "row" 705
def My.o489 := t0 "is_writing" 22 "oddbases.writings" 671 421
def My.o488 := t1 "is_writing" 692 "is_writing" 693 694 140 2 416 417 418 419 420 697 698
def My.o487 := t2 "is_writing" 22
def My.o485 := t5 "way" 695 "row" 696
def My.o482 := t0 "has_mosts_above_noughts_alone" 21 "oddbases.writings" 671 414
def My.o481 := t1 "has_mosts_above_noughts_alone" 683 "has_mosts_above_noughts_alone" 684 685 135 2 409 410 411 412 413 689 690
def My.o480 := t2 "has_mosts_above_noughts_alone" 21
def My.o478 := t7 "way" 686 "row" 687 "place" 688
def My.o475 := t0 "has_figures_alone" 20 "oddbases.writings" 671 407
def My.o474 := t1 "has_figures_alone" 673 "has_figures_alone" 674 675 130 2 402 403 404 405 406 680 681
def My.o473 := t2 "has_figures_alone" 20
def My.o471 (x : Params) : Obj := (@Obj.mk (.type "tuple") none (@Data.seq (List.toArray [(p_ "way" 676), (p_ "row" 677), (p_ "place" 678), (p_ "thing" 679)]) 0) #[])
def My.o466 := t10 399
def My.o465 := t11 399
def My.o464 := t12 "Pairs" 399 398 348 606 614
def My.o463 (x : Params) : Obj := (@Obj.mk (.type "dict") none (@Data.dict (List.toArray [(e_ x "__module__" 613 (p_ "oddbases.ways" 281)), (e_ x "__firstlineno__" 617 (j_ 110 616)), (e_ x "__init__" 625 (r_ 361)), (e_ x "nought" 632 (r_ 368)), (e_ x "high" 640 (r_ 375)), (e_ x "ratio" 648 (r_ 382)), (e_ x "split" 657 (r_ 389)), (e_ x "has" 665 (r_ 396)), (e_ x "__static_attributes__" 667 (r_ 397)), (e_ x "__doc__" 668 .none)]) 2) #[])
def My.o462 := t13 "most" 666
def My.o461 := t14 "has" "Pairs.has" 18 5 395
def My.o460 := t1 "has" 658 "Pairs.has" 659 660 127 2 390 391 392 393 394 663 664
def My.o459 := t15 "has" "Pairs.has" 18 5
def My.o457 := t5 "self" 661 "number" 662
def My.o454 := t14 "split" "Pairs.split" 18 4 388
def My.o453 := t1 "split" 649 "Pairs.split" 650 651 124 3 383 384 385 386 387 655 656
def My.o452 := t15 "split" "Pairs.split" 18 4
def My.o450 := t7 "self" 652 "total" 653 "place" 654
def My.o447 := t14 "ratio" "Pairs.ratio" 18 3 381
def My.o446 := t1 "ratio" 641 "Pairs.ratio" 642 643 121 2 376 377 378 379 380 646 647
def My.o445 := t15 "ratio" "Pairs.ratio" 18 3
def My.o443 := t5 "self" 644 "place" 645
def My.o440 := t14 "high" "Pairs.high" 18 2 374
def My.o439 := t1 "high" 633 "Pairs.high" 634 635 118 2 369 370 371 372 373 638 639
def My.o438 := t15 "high" "Pairs.high" 18 2
def My.o436 := t5 "self" 636 "place" 637
def My.o433 := t14 "nought" "Pairs.nought" 18 1 367
def My.o432 := t1 "nought" 626 "Pairs.nought" 627 628 115 1 362 363 364 365 366 630 631
def My.o431 := t15 "nought" "Pairs.nought" 18 1
def My.o429 := t13 "self" 629
def My.o426 := t14 "__init__" "Pairs.__init__" 18 0 360
def My.o425 := t1 "__init__" 618 "Pairs.__init__" 619 620 112 2 355 356 357 358 359 623 624
def My.o424 := t15 "__init__" "Pairs.__init__" 18 0
def My.o422 := t5 "self" 621 "most" 622
def My.o419 := t16 353 350 "oddbases.ways" 281
def My.o418 := t17 "Pairs" 608 609 610 110 351 352 611 612
def My.o417 := t18 112 360 115 367 118 374 121 381 124 388 127 395
def My.o415 := t19 613 615 "Pairs" 614 617 110 616 "__init__" 625 361 "nought" 632 368 "high" 640 375 "ratio" 648 382 657 389 665 396 667 397
def My.o414 := t20
def My.o413 := t21 143
def My.o409 := t10 345
def My.o408 := t11 345
def My.o407 := t12 "Falling" 345 344 301 548 556
def My.o406 := t22 555 559 94 558 567 314 "high" 575 321 "weights" 583 328 591 335 "split" 600 342 602 343 603
def My.o405 := t13 "most" 601
def My.o404 := t14 "split" "Falling.split" 17 4 341
def My.o403 := t1 "split" 592 "Falling.split" 593 594 108 3 336 337 338 339 340 598 599
def My.o402 := t15 "split" "Falling.split" 17 4
def My.o400 := t7 "self" 595 "total" 596 "place" 597
def My.o397 := t14 "ratio" "Falling.ratio" 17 3 334
def My.o396 := t1 "ratio" 584 "Falling.ratio" 585 586 105 2 329 330 331 332 333 589 590
def My.o395 := t15 "ratio" "Falling.ratio" 17 3
def My.o393 := t5 "self" 587 "place" 588
def My.o390 := t14 "weights" "Falling.weights" 17 2 327
def My.o389 := t1 "weights" 576 "Falling.weights" 577 578 102 2 322 323 324 325 326 581 582
def My.o388 := t15 "weights" "Falling.weights" 17 2
def My.o386 := t5 "self" 579 "many" 580
def My.o383 := t14 "high" "Falling.high" 17 1 320
def My.o382 := t1 "high" 568 "Falling.high" 569 570 99 2 315 316 317 318 319 573 574
def My.o381 := t15 "high" "Falling.high" 17 1
def My.o379 := t5 "self" 571 "place" 572
def My.o376 := t14 "__init__" "Falling.__init__" 17 0 313
def My.o375 := t1 "__init__" 560 "Falling.__init__" 561 562 96 2 308 309 310 311 312 565 566
def My.o374 := t15 "__init__" "Falling.__init__" 17 0
def My.o372 := t5 "self" 563 "most" 564
def My.o369 := t16 306 303 "oddbases.ways" 281
def My.o368 := t17 "Falling" 550 551 552 94 304 305 553 554
def My.o367 := t23 96 313 99 320 102 327 105 334 108 341
def My.o365 := t24 555 557 "Falling" 556 559 94 558 567 314 "high" 575 321 "weights" 583 328 591 335 "split" 600 342 602 343
def My.o359 := t10 298
def My.o358 := t11 298
def My.o357 := t12 "Growing" 298 297 268 507 515
def My.o356 := t25 514 518 84 517 526 281 534 288 542 295 544 296 545
def My.o355 := t13 "first" 543
def My.o354 := t14 "ratio" "Growing.ratio" 16 2 294
def My.o353 := t1 "ratio" 535 "Growing.ratio" 536 537 92 2 289 290 291 292 293 540 541
def My.o352 := t15 "ratio" "Growing.ratio" 16 2
def My.o350 := t5 "self" 538 "place" 539
def My.o347 := t14 "high" "Growing.high" 16 1 287
def My.o346 := t1 "high" 527 "Growing.high" 528 529 89 2 282 283 284 285 286 532 533
def My.o345 := t15 "high" "Growing.high" 16 1
def My.o343 := t5 "self" 530 "place" 531
def My.o340 := t14 "__init__" "Growing.__init__" 16 0 280
def My.o339 := t1 "__init__" 519 "Growing.__init__" 520 521 86 2 275 276 277 278 279 524 525
def My.o338 := t15 "__init__" "Growing.__init__" 16 0
def My.o336 := t5 "self" 522 "first" 523
def My.o333 := t16 273 270 "oddbases.ways" 281
def My.o332 := t17 "Growing" 509 510 511 84 271 272 512 513
def My.o331 := t26 86 4 280 89 287 92 294
def My.o329 := t27 514 516 "Growing" 515 518 84 517 526 281 534 288 542 295 544 296
def My.o323 := t10 265
def My.o322 := t11 265
def My.o321 := t12 "Balanced" 265 264 221 450 458
def My.o320 := t22 457 461 68 460 469 234 "low" 477 241 "high" 485 248 493 255 "has" 501 262 503 263 504
def My.o319 := t13 "half" 502
def My.o318 := t14 "has" "Balanced.has" 15 4 261
def My.o317 := t1 "has" 494 "Balanced.has" 495 496 82 2 256 257 258 259 260 499 500
def My.o316 := t15 "has" "Balanced.has" 15 4
def My.o314 := t5 "self" 497 "number" 498
def My.o311 := t14 "ratio" "Balanced.ratio" 15 3 254
def My.o310 := t1 "ratio" 486 "Balanced.ratio" 487 488 79 2 249 250 251 252 253 491 492
def My.o309 := t15 "ratio" "Balanced.ratio" 15 3
def My.o307 := t5 "self" 489 "place" 490
def My.o304 := t14 "high" "Balanced.high" 15 2 247
def My.o303 := t1 "high" 478 "Balanced.high" 479 480 76 2 242 243 244 245 246 483 484
def My.o302 := t15 "high" "Balanced.high" 15 2
def My.o300 := t5 "self" 481 "place" 482
def My.o297 := t14 "low" "Balanced.low" 15 1 240
def My.o296 := t1 "low" 470 "Balanced.low" 471 472 73 2 235 236 237 238 239 475 476
def My.o295 := t15 "low" "Balanced.low" 15 1
def My.o293 := t5 "self" 473 "place" 474
def My.o290 := t14 "__init__" "Balanced.__init__" 15 0 233
def My.o289 := t1 "__init__" 462 "Balanced.__init__" 463 464 70 2 228 229 230 231 232 467 468
def My.o288 := t15 "__init__" "Balanced.__init__" 15 0
def My.o286 := t5 "self" 465 "half" 466
def My.o283 := t16 226 223 "oddbases.ways" 281
def My.o282 := t17 "Balanced" 452 453 454 68 224 225 455 456
def My.o281 := t23 70 233 73 240 76 247 79 254 82 261
def My.o279 := t24 457 459 "Balanced" 458 461 68 460 469 234 "low" 477 241 "high" 485 248 493 255 "has" 501 262 503 263
def My.o273 := t10 218
def My.o272 := t11 218
def My.o271 := t12 "Below" 218 217 181 401 409
def My.o270 (x : Params) : Obj := (@Obj.mk (.type "dict") none (@Data.dict (List.toArray [(e_ x "__module__" 408 (p_ "oddbases.ways" 281)), (e_ x "__firstlineno__" 412 (j_ 55 411)), (e_ x "__init__" 420 (r_ 194)), (e_ x "high" 428 (r_ 201)), (e_ x "ratio" 436 (r_ 208)), (e_ x "has" 444 (r_ 215)), (e_ x "__static_attributes__" 446 (r_ 216)), (e_ x "__doc__" 447 .none)]) 2) #[])
def My.o269 := t13 "base" 445
def My.o268 := t14 "has" "Below.has" 14 3 214
def My.o267 := t1 "has" 437 "Below.has" 438 439 66 2 209 210 211 212 213 442 443
def My.o266 := t15 "has" "Below.has" 14 3
def My.o264 := t5 "self" 440 "number" 441
def My.o261 := t14 "ratio" "Below.ratio" 14 2 207
def My.o260 := t1 "ratio" 429 "Below.ratio" 430 431 63 2 202 203 204 205 206 434 435
def My.o259 := t15 "ratio" "Below.ratio" 14 2
def My.o257 := t5 "self" 432 "place" 433
def My.o254 := t14 "high" "Below.high" 14 1 200
def My.o253 := t1 "high" 421 "Below.high" 422 423 60 2 195 196 197 198 199 426 427
def My.o252 := t15 "high" "Below.high" 14 1
def My.o250 := t5 "self" 424 "place" 425
def My.o247 := t14 "__init__" "Below.__init__" 14 0 193
def My.o246 := t1 "__init__" 413 "Below.__init__" 414 415 57 2 188 189 190 191 192 418 419
def My.o245 := t15 "__init__" "Below.__init__" 14 0
def My.o243 := t5 "self" 416 "base" 417
def My.o240 := t16 186 183 "oddbases.ways" 281
def My.o239 := t17 "Below" 403 404 405 55 184 185 406 407
def My.o238 := t28 57 4 193 60 200 63 207 66 214
def My.o236 (x : Params) : Obj := (@Obj.mk (.type "dict") none (@Data.dict (List.toArray [(e_ x "__module__" 408 (p_ "oddbases.ways" 281)), (e_ x "__qualname__" 410 (p_ "Below" 409)), (e_ x "__firstlineno__" 412 (j_ 55 411)), (e_ x "__init__" 420 (r_ 194)), (e_ x "high" 428 (r_ 201)), (e_ x "ratio" 436 (r_ 208)), (e_ x "has" 444 (r_ 215)), (e_ x "__static_attributes__" 446 (r_ 216))]) 8) #[])
def My.o230 := t10 178
def My.o229 := t11 178
def My.o228 := t12 "Plain" 178 177 148 360 368
def My.o227 := t25 367 371 45 370 379 161 387 168 395 175 397 176 398
def My.o226 := t13 "base" 396
def My.o225 := t14 "ratio" "Plain.ratio" 13 2 174
def My.o224 := t1 "ratio" 388 "Plain.ratio" 389 390 53 2 169 170 171 172 173 393 394
def My.o223 := t15 "ratio" "Plain.ratio" 13 2
def My.o221 := t5 "self" 391 "place" 392
def My.o218 := t14 "high" "Plain.high" 13 1 167
def My.o217 := t1 "high" 380 "Plain.high" 381 382 50 2 162 163 164 165 166 385 386
def My.o216 := t15 "high" "Plain.high" 13 1
def My.o214 := t5 "self" 383 "place" 384
def My.o211 := t14 "__init__" "Plain.__init__" 13 0 160
def My.o210 := t1 "__init__" 372 "Plain.__init__" 373 374 47 2 155 156 157 158 159 377 378
def My.o209 := t15 "__init__" "Plain.__init__" 13 0
def My.o207 := t5 "self" 375 "base" 376
def My.o204 := t16 153 150 "oddbases.ways" 281
def My.o203 := t17 "Plain" 362 363 364 45 151 152 365 366
def My.o202 := t26 47 4 160 50 167 53 174
def My.o200 := t27 367 369 "Plain" 368 371 45 370 379 161 387 168 395 175 397 176
def My.o194 := t10 143
def My.o193 := t11 143
def My.o192 := t29 355 143
def My.o191 (x : Params) : Obj := (@Obj.mk (.type "getset_descriptor") none (@Data.fields (List.toArray [(p_ "__dict__" 353), (r_ 143), (.builtin "function.__dict__"), (.builtin "function.__dict__#set")])) #[])
def My.o412 (x : Params) : Obj := (@Obj.mk (.type "type") none (@Data.cls (@ClassData.mk (.ofString "Way") [(.type "object")] [(r_ 143), (.type "object")] 142 (.ofString "Way") @Bool.true [] [(r_ 178), (r_ 218), (r_ 265), (r_ 298), (r_ 345), (r_ 399)] @Bool.false (@Option.none @Bool) @Bool.false)) (@List.toArray (@Option @Value) [none, none, (some (p_ "Way" 292)), (some (p_ "Way" 300)), (some (.builtin "object.__new__")), (some (.bool @Bool.true))]))
def My.o189 (x : Params) : Obj := (@Obj.mk (.type "dict") none (@Data.dict (List.toArray [(e_ x "__module__" 299 (p_ "oddbases.ways" 281)), (e_ x "__firstlineno__" 303 (j_ 26 302)), (e_ x "nought" 310 (r_ 105)), (e_ x "low" 318 (r_ 112)), (e_ x "weights" 326 (r_ 119)), (e_ x "weight" 334 (r_ 126)), (e_ x "split" 343 (r_ 133)), (e_ x "has" 351 (r_ 140)), (e_ x "__static_attributes__" 352 (r_ 141)), (e_ x "__dict__" 354 (r_ 144)), (e_ x "__weakref__" 356 (r_ 145)), (e_ x "__doc__" 357 .none)]) 4) #[])
def My.o187 := t14 "has" "Way.has" 12 5 139
def My.o186 := t1 "has" 344 "Way.has" 345 346 43 2 134 135 136 137 138 349 350
def My.o185 := t15 "has" "Way.has" 12 5
def My.o183 := t5 "self" 347 "number" 348
def My.o180 := t14 "split" "Way.split" 12 4 132
def My.o179 := t1 "split" 335 "Way.split" 336 337 40 3 127 128 129 130 131 341 342
def My.o178 := t15 "split" "Way.split" 12 4
def My.o176 := t7 "self" 338 "total" 339 "place" 340
def My.o173 := t14 "weight" "Way.weight" 12 3 125
def My.o172 := t1 "weight" 327 "Way.weight" 328 329 37 2 120 121 122 123 124 332 333
def My.o171 := t15 "weight" "Way.weight" 12 3
def My.o169 := t5 "self" 330 "place" 331
def My.o166 := t14 "weights" "Way.weights" 12 2 118
def My.o165 := t1 "weights" 319 "Way.weights" 320 321 34 2 113 114 115 116 117 324 325
def My.o164 := t15 "weights" "Way.weights" 12 2
def My.o162 := t5 "self" 322 "many" 323
def My.o159 := t14 "low" "Way.low" 12 1 111
def My.o158 := t1 "low" 311 "Way.low" 312 313 31 2 106 107 108 109 110 316 317
def My.o157 := t15 "low" "Way.low" 12 1
def My.o155 := t5 "self" 314 "place" 315
def My.o152 := t14 "nought" "Way.nought" 12 0 104
def My.o151 := t1 "nought" 304 "Way.nought" 305 306 28 1 99 100 101 102 103 308 309
def My.o150 := t15 "nought" "Way.nought" 12 0
def My.o148 := t13 "self" 307
def My.o145 := t16 97 94 "oddbases.ways" 281
def My.o144 := t17 "Way" 294 295 296 26 95 96 297 298
def My.o143 := t18 28 104 31 111 34 118 37 125 40 132 43 139
def My.o141 := t19 299 301 "Way" 300 303 26 302 "nought" 310 105 "low" 318 112 "weights" 326 119 "weight" 334 126 343 133 351 140 352 141
def My.o136 := t0 "bounded" 11 "oddbases.ways" 281 90
def My.o135 := t1 "bounded" 283 "bounded" 284 285 22 3 85 86 87 88 89 289 290
def My.o134 := t2 "bounded" 11
def My.o132 := t7 "number" 286 "least" 287 "most" 288
def My.o129 := t0 "is_whole" 9 "oddbases.pairs" 272 83
def My.o128 := t1 "is_whole" 274 "is_whole" 275 276 19 1 78 79 80 81 82 278 279
def My.o127 := t2 "is_whole" 9
def My.o125 := t13 "value" 277
def My.o122 := t0 "thing_at" 7 "oddbases.rows" 262 76
def My.o121 := t1 "thing_at" 264 "thing_at" 265 266 14 2 71 72 73 74 75 269 270
def My.o120 := t2 "thing_at" 7
def My.o118 := t5 "row" 267 "place" 268
def My.o115 := t10 68
def My.o114 := t11 68
def My.o113 := t30 "NoPairs" 68 67 59 246 254
def My.o112 := t31 253 257 11 256 258 66 259
def My.o110 := t16 64 61 "oddbases.errors" 194
def My.o109 := t17 "NoPairs" 248 249 250 11 62 63 251 252
def My.o106 := t32 253 255 "NoPairs" 254 257 11 256 258 66
def My.o104 := t21 31
def My.o100 := t10 56
def My.o99 := t11 56
def My.o98 := t30 "NoWriting" 56 55 47 230 238
def My.o97 := t31 237 241 9 240 242 54 243
def My.o95 := t16 52 49 "oddbases.errors" 194
def My.o94 := t17 "NoWriting" 232 233 234 9 50 51 235 236
def My.o91 := t32 237 239 "NoWriting" 238 241 9 240 242 54
def My.o85 := t10 44
def My.o84 := t11 44
def My.o83 := t30 "NoWay" 44 43 35 214 222
def My.o82 := t31 221 225 7 224 226 42 227
def My.o80 := t16 40 37 "oddbases.errors" 194
def My.o79 := t17 "NoWay" 216 217 218 7 38 39 219 220
def My.o76 := t32 221 223 "NoWay" 222 225 7 224 226 42
def My.o70 := t10 31
def My.o69 := t11 31
def My.o68 := t29 209 31
def My.o103 (x : Params) : Obj := (@Obj.mk (.type "type") none (@Data.cls (@ClassData.mk (.ofString "OddError") [(.type "ValueError")] [(r_ 31), (.type "ValueError"), (.type "Exception"), (.type "BaseException"), (.type "object")] 30 (.ofString "OddError") @Bool.true [] [(r_ 44), (r_ 56), (r_ 68)] @Bool.false (@Option.none @Bool) @Bool.false)) (@List.toArray (@Option @Value) [(some (r_ 22)), none, (some (p_ "OddError" 196)), (some (p_ "OddError" 204)), (some (.builtin "ValueError.__new__")), (some (.bool @Bool.true))]))
def My.o66 (x : Params) : Obj := (@Obj.mk (.type "dict") none (@Data.dict (List.toArray [(e_ x "__module__" 203 (p_ "oddbases.errors" 194)), (e_ x "__firstlineno__" 207 (j_ 5 206)), (e_ x "__static_attributes__" 208 (r_ 29)), (e_ x "__weakref__" 210 (r_ 32)), (e_ x "__doc__" 211 .none)]) 3) #[])
def My.o64 := t16 27 24 "oddbases.errors" 194
def My.o63 := t17 "OddError" 198 199 200 5 25 26 201 202
def My.o60 := t32 203 205 "OddError" 204 207 5 206 208 29
def My.o58 (x : Params) : Obj := (@Obj.mk (.type "tuple") none (@Data.seq (List.toArray [(.type "ValueError")]) 0) #[])
def My.o57 := t0 "_wall" 0 "__main__" 164 20
def My.o56 := t1 "_wall" 187 "_wall" 188 189 1 1 15 16 17 18 19 191 192
def My.o55 := t2 "_wall" 0
def My.o53 := t13 "k" 190
def My.o46 := t16 13 3 "__main__" 164
def My.o45 := t17 "<module>" 182 183 184 1 11 12 185 186
def My.o547 (x : Params) : Obj := (@Obj.mk .none none (@Data.fields (List.toArray ((j_ 1 0) :: (j_ 0 0) :: (r_ 20) :: (j_ 5 0) :: (j_ 0 0) :: (r_ 27) :: (j_ 7 0) :: (j_ 0 0) :: (r_ 40) :: (j_ 9 0) :: (j_ 0 0) :: (r_ 52) :: (j_ 11 0) :: (j_ 0 0) :: (r_ 64) :: (j_ 14 0) :: (j_ 0 0) :: (r_ 76) :: (j_ 19 0) :: (j_ 0 0) :: (r_ 83) :: (j_ 22 0) :: (j_ 0 0) :: (r_ 90) :: (j_ 26 0) :: (j_ 0 0) :: (r_ 97) :: (j_ 45 0) :: (j_ 0 0) :: (r_ 153) :: (j_ 55 0) :: (j_ 0 0) :: (r_ 186) :: (j_ 68 0) :: (j_ 0 0) :: (r_ 226) :: (j_ 84 0) :: (j_ 0 0) :: (r_ 273) :: (j_ 94 0) :: (j_ 0 0) :: (r_ 306) :: (j_ 110 0) :: (j_ 0 0) :: (r_ 353) :: (j_ 130 0) :: (j_ 0 0) :: (r_ 407) :: (j_ 135 0) :: (j_ 0 0) :: (r_ 414) :: (j_ 140 0) :: (j_ 0 0) :: (r_ 421) :: (j_ 146 0) :: (j_ 0 0) :: (r_ 428) :: (j_ 151 0) :: (j_ 0 0) :: (r_ 435) :: (j_ 156 0) :: (j_ 0 0) :: (r_ 442) :: (j_ 168 0) :: (j_ 0 0) :: (r_ 449) :: (j_ 172 0) :: (j_ 0 0) :: (r_ 456) :: (j_ 176 0) :: (j_ 0 0) :: (r_ 463) :: (j_ 184 0) :: (j_ 0 0) :: (r_ 470) :: (j_ 191 0) :: (j_ 0 0) :: (r_ 477) :: (j_ 200 0) :: (j_ 0 0) :: (r_ 482) :: (j_ 203 0) :: (j_ 0 0) :: (r_ 489) :: (j_ 220 0) :: (j_ 0 0) :: (r_ 496) :: (j_ 225 0) :: (j_ 0 0) :: (r_ 503) :: (j_ 235 0) :: (j_ 0 0) :: (r_ 510) :: (j_ 243 0) :: (j_ 0 0) :: (r_ 515) :: (j_ 256 0) :: (j_ 0 0) :: (r_ 522) :: (j_ 262 0) :: (j_ 0 0) :: (r_ 529) :: (j_ 264 0) :: (j_ 0 0) :: (r_ 536) :: []))) #[])
def My.o546 (x : Params) : Obj := (@Obj.mk (.type "dict") none (@Data.dict (List.toArray [(U0 x), (U21 x), (U7 x), (U1 x), (U18 x), (U5 x), (U6 x), (U3 x), (U10 x), (U22 x), (U11 x), (U23 x), (U8 x), (U16 x), (U12 x), (U13 x), (U17 x), (U24 x), (U19 x), (U20 x), (U9 x), (U14 x), (U15 x), (e_ x "Pairs" 670 (r_ 399)), (e_ x "has_figures_alone" 682 (r_ 408)), (e_ x "has_mosts_above_noughts_alone" 691 (r_ 415)), (e_ x "is_writing" 699 (r_ 422)), (e_ x "held_to_be_writings" 708 (r_ 429)), (e_ x "parting" 719 (r_ 436)), (e_ x "order" 730 (r_ 443)), (e_ x "_law_cell_at" 740 (r_ 450)), (e_ x "_law_low" 749 (r_ 457)), (e_ x "_law_high" 758 (r_ 464)), (e_ x "_law_figure" 771 (r_ 471)), (e_ x "_law_legal" 782 (r_ 478)), (e_ x "_law_row_by" 788 (r_ 483)), (e_ x "_law_weights" 801 (r_ 490)), (e_ x "_law_number" 813 (r_ 497)), (e_ x "_law_way" 821 (r_ 504)), (e_ x "_law_chosen" 830 (r_ 511)), (e_ x "_law_second" 836 (r_ 516)), (e_ x "_law_sign" 844 (r_ 523)), (e_ x "_law_is" 852 (r_ 530)), (e_ x "law" 867 (r_ 537))]) 44) #[])
def My.o468 (x : Params) : Obj := (@Obj.mk .none none (@Data.fields (List.toArray ((j_ 1 0) :: (j_ 0 0) :: (r_ 20) :: (j_ 5 0) :: (j_ 0 0) :: (r_ 27) :: (j_ 7 0) :: (j_ 0 0) :: (r_ 40) :: (j_ 9 0) :: (j_ 0 0) :: (r_ 52) :: (j_ 11 0) :: (j_ 0 0) :: (r_ 64) :: (j_ 14 0) :: (j_ 0 0) :: (r_ 76) :: (j_ 19 0) :: (j_ 0 0) :: (r_ 83) :: (j_ 22 0) :: (j_ 0 0) :: (r_ 90) :: (j_ 26 0) :: (j_ 0 0) :: (r_ 97) :: (j_ 45 0) :: (j_ 0 0) :: (r_ 153) :: (j_ 55 0) :: (j_ 0 0) :: (r_ 186) :: (j_ 68 0) :: (j_ 0 0) :: (r_ 226) :: (j_ 84 0) :: (j_ 0 0) :: (r_ 273) :: (j_ 94 0) :: (j_ 0 0) :: (r_ 306) :: (j_ 110 0) :: (j_ 0 0) :: (r_ 353) :: (j_ 130 0) :: (j_ 0 0) :: (r_ 407) :: (j_ 135 0) :: (j_ 0 0) :: (r_ 414) :: (j_ 140 0) :: (j_ 0 0) :: (r_ 421) :: (j_ 146 0) :: (j_ 0 0) :: (r_ 428) :: (j_ 151 0) :: (j_ 0 0) :: (r_ 435) :: (j_ 156 0) :: (j_ 0 0) :: (r_ 442) :: (j_ 168 0) :: (j_ 0 0) :: (r_ 449) :: (j_ 172 0) :: (j_ 0 0) :: (r_ 456) :: (j_ 176 0) :: (j_ 0 0) :: (r_ 463) :: (j_ 184 0) :: (j_ 0 0) :: (r_ 470) :: (j_ 191 0) :: (j_ 0 0) :: (r_ 477) :: []))) #[])
def My.o467 (x : Params) : Obj := (@Obj.mk (.type "dict") none (@Data.dict (List.toArray [(U0 x), (U21 x), (U7 x), (U1 x), (U18 x), (U5 x), (U6 x), (U3 x), (U10 x), (U22 x), (U11 x), (U23 x), (U8 x), (U16 x), (U12 x), (U13 x), (U17 x), (U24 x), (U19 x), (U20 x), (U9 x), (U14 x), (U15 x), (e_ x "Pairs" 670 (r_ 399)), (e_ x "has_figures_alone" 682 (r_ 408)), (e_ x "has_mosts_above_noughts_alone" 691 (r_ 415)), (e_ x "is_writing" 699 (r_ 422)), (e_ x "held_to_be_writings" 708 (r_ 429)), (e_ x "parting" 719 (r_ 436)), (e_ x "order" 730 (r_ 443)), (e_ x "_law_cell_at" 740 (r_ 450)), (e_ x "_law_low" 749 (r_ 457)), (e_ x "_law_high" 758 (r_ 464)), (e_ x "_law_figure" 771 (r_ 471)), (e_ x "_law_legal" 782 (r_ 478))]) 35) #[])
def My.o411 (x : Params) : Obj := (@Obj.mk .none none (@Data.fields (List.toArray [(j_ 1 0), (j_ 0 0), (r_ 20), (j_ 5 0), (j_ 0 0), (r_ 27), (j_ 7 0), (j_ 0 0), (r_ 40), (j_ 9 0), (j_ 0 0), (r_ 52), (j_ 11 0), (j_ 0 0), (r_ 64), (j_ 14 0), (j_ 0 0), (r_ 76), (j_ 19 0), (j_ 0 0), (r_ 83), (j_ 22 0), (j_ 0 0), (r_ 90), (j_ 26 0), (j_ 0 0), (r_ 97), (j_ 45 0), (j_ 0 0), (r_ 153), (j_ 55 0), (j_ 0 0), (r_ 186), (j_ 68 0), (j_ 0 0), (r_ 226), (j_ 84 0), (j_ 0 0), (r_ 273), (j_ 94 0), (j_ 0 0), (r_ 306), (j_ 110 0), (j_ 0 0), (r_ 353)])) #[])
def My.o410 (x : Params) : Obj := (@Obj.mk (.type "dict") none (@Data.dict (List.toArray [(U4 x), (U21 x), (U7 x), (U1 x), (U18 x), (U5 x), (U6 x), (U3 x), (U10 x), (U22 x), (U11 x), (U23 x), (U8 x), (U16 x), (U12 x), (U13 x), (U17 x), (U24 x), (U19 x), (U20 x), (U9 x), (U14 x), (U15 x), (e_ x "Pairs" 670 (r_ 399))]) 24) #[])
def My.o361 (x : Params) : Obj := (@Obj.mk .none none (@Data.fields (List.toArray [(j_ 1 0), (j_ 0 0), (r_ 20), (j_ 5 0), (j_ 0 0), (r_ 27), (j_ 7 0), (j_ 0 0), (r_ 40), (j_ 9 0), (j_ 0 0), (r_ 52), (j_ 11 0), (j_ 0 0), (r_ 64), (j_ 14 0), (j_ 0 0), (r_ 76), (j_ 19 0), (j_ 0 0), (r_ 83), (j_ 22 0), (j_ 0 0), (r_ 90), (j_ 26 0), (j_ 0 0), (r_ 97), (j_ 45 0), (j_ 0 0), (r_ 153), (j_ 55 0), (j_ 0 0), (r_ 186), (j_ 68 0), (j_ 0 0), (r_ 226), (j_ 84 0), (j_ 0 0), (r_ 273), (j_ 94 0), (j_ 0 0), (r_ 306)])) #[])
def My.o362 (x : Params) : Obj := (@Obj.mk (.type "type") none (@Data.cls (@ClassData.mk (.ofString "Way") [(.type "object")] [(r_ 143), (.type "object")] 142 (.ofString "Way") @Bool.true [] [(r_ 178), (r_ 218), (r_ 265), (r_ 298), (r_ 345)] @Bool.false (@Option.none @Bool) @Bool.false)) (@List.toArray (@Option @Value) [none, none, (some (p_ "Way" 292)), (some (p_ "Way" 300)), (some (.builtin "object.__new__")), (some (.bool @Bool.true))]))
def My.o360 (x : Params) : Obj := (@Obj.mk (.type "dict") none (@Data.dict (List.toArray [(U4 x), (U21 x), (U7 x), (U1 x), (U18 x), (U5 x), (U6 x), (U3 x), (U10 x), (U22 x), (U11 x), (U23 x), (U8 x), (U16 x), (U12 x), (U13 x), (U17 x), (U24 x), (U19 x), (U20 x), (U9 x), (U14 x), (U15 x)]) 23) #[])
def My.o325 (x : Params) : Obj := (@Obj.mk .none none (@Data.fields (List.toArray [(j_ 1 0), (j_ 0 0), (r_ 20), (j_ 5 0), (j_ 0 0), (r_ 27), (j_ 7 0), (j_ 0 0), (r_ 40), (j_ 9 0), (j_ 0 0), (r_ 52), (j_ 11 0), (j_ 0 0), (r_ 64), (j_ 14 0), (j_ 0 0), (r_ 76), (j_ 19 0), (j_ 0 0), (r_ 83), (j_ 22 0), (j_ 0 0), (r_ 90), (j_ 26 0), (j_ 0 0), (r_ 97), (j_ 45 0), (j_ 0 0), (r_ 153), (j_ 55 0), (j_ 0 0), (r_ 186), (j_ 68 0), (j_ 0 0), (r_ 226), (j_ 84 0), (j_ 0 0), (r_ 273)])) #[])
def My.o326 (x : Params) : Obj := (@Obj.mk (.type "type") none (@Data.cls (@ClassData.mk (.ofString "Way") [(.type "object")] [(r_ 143), (.type "object")] 142 (.ofString "Way") @Bool.true [] [(r_ 178), (r_ 218), (r_ 265), (r_ 298)] @Bool.false (@Option.none @Bool) @Bool.false)) (@List.toArray (@Option @Value) [none, none, (some (p_ "Way" 292)), (some (p_ "Way" 300)), (some (.builtin "object.__new__")), (some (.bool @Bool.true))]))
def My.o324 (x : Params) : Obj := (@Obj.mk (.type "dict") none (@Data.dict (List.toArray [(U4 x), (U21 x), (U7 x), (U1 x), (U18 x), (U5 x), (U6 x), (U3 x), (U10 x), (U22 x), (U11 x), (U23 x), (U8 x), (U16 x), (U12 x), (U13 x), (U17 x), (U24 x), (U19 x), (U20 x), (U9 x), (U14 x)]) 22) #[])
def My.o275 (x : Params) : Obj := (@Obj.mk .none none (@Data.fields (List.toArray [(j_ 1 0), (j_ 0 0), (r_ 20), (j_ 5 0), (j_ 0 0), (r_ 27), (j_ 7 0), (j_ 0 0), (r_ 40), (j_ 9 0), (j_ 0 0), (r_ 52), (j_ 11 0), (j_ 0 0), (r_ 64), (j_ 14 0), (j_ 0 0), (r_ 76), (j_ 19 0), (j_ 0 0), (r_ 83), (j_ 22 0), (j_ 0 0), (r_ 90), (j_ 26 0), (j_ 0 0), (r_ 97), (j_ 45 0), (j_ 0 0), (r_ 153), (j_ 55 0), (j_ 0 0), (r_ 186), (j_ 68 0), (j_ 0 0), (r_ 226)])) #[])
def My.o276 (x : Params) : Obj := (@Obj.mk (.type "type") none (@Data.cls (@ClassData.mk (.ofString "Way") [(.type "object")] [(r_ 143), (.type "object")] 142 (.ofString "Way") @Bool.true [] [(r_ 178), (r_ 218), (r_ 265)] @Bool.false (@Option.none @Bool) @Bool.false)) (@List.toArray (@Option @Value) [none, none, (some (p_ "Way" 292)), (some (p_ "Way" 300)), (some (.builtin "object.__new__")), (some (.bool @Bool.true))]))
def My.o274 (x : Params) : Obj := (@Obj.mk (.type "dict") none (@Data.dict (List.toArray [(U4 x), (U21 x), (U7 x), (U1 x), (U18 x), (U5 x), (U6 x), (U3 x), (U10 x), (U22 x), (U11 x), (U23 x), (U8 x), (U16 x), (U12 x), (U13 x), (U17 x), (U24 x), (U19 x), (U20 x), (U9 x)]) 21) #[])
def My.o232 (x : Params) : Obj := (@Obj.mk .none none (@Data.fields (List.toArray [(j_ 1 0), (j_ 0 0), (r_ 20), (j_ 5 0), (j_ 0 0), (r_ 27), (j_ 7 0), (j_ 0 0), (r_ 40), (j_ 9 0), (j_ 0 0), (r_ 52), (j_ 11 0), (j_ 0 0), (r_ 64), (j_ 14 0), (j_ 0 0), (r_ 76), (j_ 19 0), (j_ 0 0), (r_ 83), (j_ 22 0), (j_ 0 0), (r_ 90), (j_ 26 0), (j_ 0 0), (r_ 97), (j_ 45 0), (j_ 0 0), (r_ 153), (j_ 55 0), (j_ 0 0), (r_ 186)])) #[])
def My.o233 (x : Params) : Obj := (@Obj.mk (.type "type") none (@Data.cls (@ClassData.mk (.ofString "Way") [(.type "object")] [(r_ 143), (.type "object")] 142 (.ofString "Way") @Bool.true [] [(r_ 178), (r_ 218)] @Bool.false (@Option.none @Bool) @Bool.false)) (@List.toArray (@Option @Value) [none, none, (some (p_ "Way" 292)), (some (p_ "Way" 300)), (some (.builtin "object.__new__")), (some (.bool @Bool.true))]))
def My.o231 (x : Params) : Obj := (@Obj.mk (.type "dict") none (@Data.dict (List.toArray [(U4 x), (U21 x), (U7 x), (U1 x), (U18 x), (U5 x), (U6 x), (U3 x), (U10 x), (U22 x), (U11 x), (U23 x), (U8 x), (U16 x), (U12 x), (U13 x), (U17 x), (U24 x), (U19 x), (U20 x)]) 20) #[])
def My.o196 (x : Params) : Obj := (@Obj.mk .none none (@Data.fields (List.toArray [(j_ 1 0), (j_ 0 0), (r_ 20), (j_ 5 0), (j_ 0 0), (r_ 27), (j_ 7 0), (j_ 0 0), (r_ 40), (j_ 9 0), (j_ 0 0), (r_ 52), (j_ 11 0), (j_ 0 0), (r_ 64), (j_ 14 0), (j_ 0 0), (r_ 76), (j_ 19 0), (j_ 0 0), (r_ 83), (j_ 22 0), (j_ 0 0), (r_ 90), (j_ 26 0), (j_ 0 0), (r_ 97), (j_ 45 0), (j_ 0 0), (r_ 153)])) #[])
def My.o197 (x : Params) : Obj := (@Obj.mk (.type "type") none (@Data.cls (@ClassData.mk (.ofString "Way") [(.type "object")] [(r_ 143), (.type "object")] 142 (.ofString "Way") @Bool.true [] [(r_ 178)] @Bool.false (@Option.none @Bool) @Bool.false)) (@List.toArray (@Option @Value) [none, none, (some (p_ "Way" 292)), (some (p_ "Way" 300)), (some (.builtin "object.__new__")), (some (.bool @Bool.true))]))
def My.o195 (x : Params) : Obj := (@Obj.mk (.type "dict") none (@Data.dict (List.toArray [(U4 x), (U21 x), (U7 x), (U1 x), (U18 x), (U5 x), (U6 x), (U3 x), (U10 x), (U22 x), (U11 x), (U23 x), (U8 x), (U16 x), (U12 x), (U13 x), (U17 x), (U24 x), (U19 x)]) 19) #[])
def My.o138 (x : Params) : Obj := (@Obj.mk .none none (@Data.fields (List.toArray [(j_ 1 0), (j_ 0 0), (r_ 20), (j_ 5 0), (j_ 0 0), (r_ 27), (j_ 7 0), (j_ 0 0), (r_ 40), (j_ 9 0), (j_ 0 0), (r_ 52), (j_ 11 0), (j_ 0 0), (r_ 64), (j_ 14 0), (j_ 0 0), (r_ 76), (j_ 19 0), (j_ 0 0), (r_ 83), (j_ 22 0), (j_ 0 0), (r_ 90), (j_ 26 0), (j_ 0 0), (r_ 97)])) #[])
def My.o190 (x : Params) : Obj := (@Obj.mk (.type "type") none (@Data.cls (@ClassData.mk (.ofString "Way") [(.type "object")] [(r_ 143), (.type "object")] 142 (.ofString "Way") @Bool.true [] [] @Bool.false (@Option.none @Bool) @Bool.false)) (@List.toArray (@Option @Value) [none, none, (some (p_ "Way" 292)), (some (p_ "Way" 300)), (some (.builtin "object.__new__")), (some (.bool @Bool.true))]))
def My.o137 (x : Params) : Obj := (@Obj.mk (.type "dict") none (@Data.dict (List.toArray [(U4 x), (U21 x), (U7 x), (U1 x), (U18 x), (U5 x), (U6 x), (U3 x), (U10 x), (U22 x), (U11 x), (U23 x), (U8 x), (U16 x), (U12 x), (U13 x), (U17 x), (U24 x)]) 18) #[])
def My.o102 (x : Params) : Obj := (@Obj.mk .none none (@Data.fields (List.toArray [(j_ 1 0), (j_ 0 0), (r_ 20), (j_ 5 0), (j_ 0 0), (r_ 27), (j_ 7 0), (j_ 0 0), (r_ 40), (j_ 9 0), (j_ 0 0), (r_ 52), (j_ 11 0), (j_ 0 0), (r_ 64), (j_ 14 0), (j_ 0 0), (r_ 76), (j_ 19 0), (j_ 0 0), (r_ 83), (j_ 22 0), (j_ 0 0), (r_ 90)])) #[])
def My.o101 (x : Params) : Obj := (@Obj.mk (.type "dict") none (@Data.dict (List.toArray [(U4 x), (U21 x), (U7 x), (U1 x), (U18 x), (U5 x), (U6 x), (U3 x), (U10 x), (U22 x), (U11 x), (U23 x), (U8 x), (U16 x), (U12 x), (U13 x), (U17 x)]) 17) #[])
def My.o87 := t28 1 0 20 5 27 7 40 9 52
def My.o88 (x : Params) : Obj := (@Obj.mk (.type "type") none (@Data.cls (@ClassData.mk (.ofString "OddError") [(.type "ValueError")] [(r_ 31), (.type "ValueError"), (.type "Exception"), (.type "BaseException"), (.type "object")] 30 (.ofString "OddError") @Bool.true [] [(r_ 44), (r_ 56)] @Bool.false (@Option.none @Bool) @Bool.false)) (@List.toArray (@Option @Value) [(some (r_ 22)), none, (some (p_ "OddError" 196)), (some (p_ "OddError" 204)), (some (.builtin "ValueError.__new__")), (some (.bool @Bool.true))]))
def My.o86 (x : Params) : Obj := (@Obj.mk (.type "dict") none (@Data.dict (List.toArray [(U2 x), (U21 x), (U7 x), (U1 x), (U18 x), (U5 x), (U6 x), (U3 x), (U10 x), (U22 x), (U11 x), (U23 x), (U8 x)]) 13) #[])
def My.o72 := t26 1 0 20 5 27 7 40
def My.o73 (x : Params) : Obj := (@Obj.mk (.type "type") none (@Data.cls (@ClassData.mk (.ofString "OddError") [(.type "ValueError")] [(r_ 31), (.type "ValueError"), (.type "Exception"), (.type "BaseException"), (.type "object")] 30 (.ofString "OddError") @Bool.true [] [(r_ 44)] @Bool.false (@Option.none @Bool) @Bool.false)) (@List.toArray (@Option @Value) [(some (r_ 22)), none, (some (p_ "OddError" 196)), (some (p_ "OddError" 204)), (some (.builtin "ValueError.__new__")), (some (.bool @Bool.true))]))
def My.o71 (x : Params) : Obj := (@Obj.mk (.type "dict") none (@Data.dict (List.toArray [(U2 x), (U21 x), (U7 x), (U1 x), (U18 x), (U5 x), (U6 x), (U3 x), (U10 x), (U22 x), (U11 x), (U23 x)]) 12) #[])
def My.o50 (x : Params) : Obj := (@Obj.mk .none none (@Data.fields (List.toArray [(j_ 1 0), (j_ 0 0), (r_ 20), (j_ 5 0), (j_ 0 0), (r_ 27)])) #[])
def My.o67 (x : Params) : Obj := (@Obj.mk (.type "type") none (@Data.cls (@ClassData.mk (.ofString "OddError") [(.type "ValueError")] [(r_ 31), (.type "ValueError"), (.type "Exception"), (.type "BaseException"), (.type "object")] 30 (.ofString "OddError") @Bool.true [] [] @Bool.false (@Option.none @Bool) @Bool.false)) (@List.toArray (@Option @Value) [(some (r_ 22)), none, (some (p_ "OddError" 196)), (some (p_ "OddError" 204)), (some (.builtin "ValueError.__new__")), (some (.bool @Bool.true))]))
def My.o49 (x : Params) : Obj := (@Obj.mk (.type "dict") none (@Data.dict (List.toArray [(U2 x), (U21 x), (U7 x), (U1 x), (U18 x), (U5 x), (U6 x), (U3 x), (U10 x), (U22 x), (U11 x)]) 11) #[])
abbrev My.Y49 : Params → W.BT := (N_ o601 (L_ o603) Z_)
abbrev My.Y48 : Params → W.BT := (N_ o413 (L_ o601) Z_)
abbrev My.Y47 : Params → W.BT := (N_ o603 (L_ o601) Z_)
abbrev My.Y46 : Params → W.BT := (N_ o603 (L_ o603) Z_)
abbrev My.Y45 : Params → W.BT := (N_ o603 (L_ o601) (L_ o603))
abbrev My.Y44 : Params → W.BT := (N_ o115 (N_ o603 (L_ o318) Z_) (L_ o603))
abbrev My.Y43 : Params → W.BT := (N_ o603 (N_ o185 (L_ o322) Z_) (L_ o603))
abbrev My.Y42 : Params → W.BT := (N_ o603 (N_ o603 (L_ o314) Z_) (L_ o247))
abbrev My.Y41 : Params → W.BT := (N_ o113 (N_ o179 (L_ o316) Z_) (L_ o601))
abbrev My.Y40 : Params → W.BT := (N_ o601 (N_ o183 (L_ o320) Z_) (L_ o253))
abbrev My.Y39 : Params → W.BT := (N_ o109 Y49 (L_ o245))
abbrev My.Y38 : Params → W.BT := (N_ o114 (N_ o180 (L_ o317) Z_) (L_ o250))
abbrev My.Y37 : Params → W.BT := (N_ o118 (N_ o603 (L_ o321) Z_) (L_ o254))
abbrev My.Y36 : Params → W.BT := (N_ o110 (N_ o176 (L_ o601) Z_) (L_ o246))
abbrev My.Y35 : Params → W.BT := (N_ o120 (N_ o186 (L_ o323) Z_) (L_ o601))
abbrev My.Y34 : Params → W.BT := (N_ o112 (N_ o178 (L_ o603) Z_) (L_ o603))
abbrev My.Y33 : Params → W.BT := (N_ o603 (N_ o601 (L_ o319) Z_) (L_ o252))
abbrev My.Y32 : Params → W.BT := (N_ o601 (N_ o603 (L_ o311) Z_) (L_ o603))
abbrev My.Y31 : Params → W.BT := (N_ o141 (N_ o603 (L_ o345) Z_) (L_ o414))
abbrev My.Y30 : Params → W.BT := (N_ o603 (N_ o216 (L_ o353) Z_) (L_ o286))
abbrev My.Y29 : Params → W.BT := (N_ o603 (N_ o601 (L_ o357) Z_) (L_ o290))
abbrev My.Y28 : Params → W.BT := (N_ o145 Y47 (L_ o282))
abbrev My.Y27 : Params → W.BT := (N_ o603 (N_ o601 (L_ o343) Z_) (L_ o273))
abbrev My.Y26 : Params → W.BT := (N_ o155 (N_ o603 (L_ o359) Z_) (L_ o601))
abbrev My.Y25 : Params → W.BT := (N_ o601 (N_ o214 (L_ o603) Z_) (L_ o603))
abbrev My.Y24 : Params → W.BT := (N_ o151 (N_ o218 (L_ o355) Z_) (L_ o288))
abbrev My.Y23 : Params → W.BT := (N_ o143 (N_ o210 (L_ o347) Z_) (L_ o603))
abbrev My.Y22 : Params → W.BT := (N_ o414 (N_ o207 (L_ o603) Z_) (L_ o413))
abbrev My.Y21 : Params → W.BT := (N_ o148 (N_ o603 (L_ o352) Z_) (L_ o601))
abbrev My.Y20 : Params → W.BT := (N_ o152 (N_ o603 (L_ o356) Z_) (L_ o289))
abbrev My.Y19 : Params → W.BT := (N_ o144 (N_ o211 (L_ o603) Z_) (L_ o281))
abbrev My.Y18 : Params → W.BT := (N_ o601 (N_ o221 (L_ o358) Z_) (L_ o603))
abbrev My.Y17 : Params → W.BT := (N_ o603 (N_ o601 (L_ o350) Z_) (L_ o283))
abbrev My.Y16 : Params → W.BT := (N_ o150 (N_ o217 (L_ o354) Z_) (L_ o603))
abbrev My.Y15 : Params → W.BT := (N_ o603 (N_ o209 (L_ o346) Z_) (L_ o279))
abbrev My.Y14 : Params → W.BT := (N_ o601 (N_ o200 (L_ o603) Z_) (N_ o267 (L_ o404) Z_))
abbrev My.Y13 : Params → W.BT := (N_ o135 (N_ o204 (L_ o603) Z_) (N_ o271 (L_ o408) Z_))
abbrev My.Y12 : Params → W.BT := (N_ o127 (N_ o193 (L_ o333) Z_) (N_ o601 (L_ o400) Z_))
abbrev My.Y11 : Params → W.BT := (N_ o129 Y48 (N_ o603 (L_ o402) Z_))
abbrev My.Y10 : Params → W.BT := (N_ o603 (N_ o202 (L_ o339) Z_) (N_ o269 (L_ o406) Z_))
abbrev My.Y9 : Params → W.BT := (N_ o603 (N_ o414 (L_ o336) Z_) (N_ o266 (L_ o403) Z_))
abbrev My.Y8 : Params → W.BT := (N_ o134 (N_ o203 (L_ o340) Z_) (N_ o270 (L_ o407) Z_))
abbrev My.Y7 : Params → W.BT := (N_ o136 Y47 (N_ o272 (L_ o409) Z_))
abbrev My.Y6 : Params → W.BT := (N_ o128 (N_ o194 (L_ o603) Z_) (N_ o264 (L_ o603) Z_))
abbrev My.Y5 : Params → W.BT := (N_ o132 (N_ o603 (L_ o338) Z_) (N_ o268 (L_ o405) Z_))
abbrev My.Y4 : Params → W.BT := (N_ o141 (N_ o603 (L_ o345) (L_ o481)) (N_ o414 (L_ o415) (L_ o545)))
abbrev My.Y3 : Params → W.BT := (N_ o135 (N_ o204 (L_ o603) (L_ o601)) (N_ o271 (L_ o408) (L_ o541)))
abbrev My.Y2 : Params → W.BT := (N_ o603 (N_ o601 (L_ o343) (L_ o603)) (N_ o273 (L_ o413) (L_ o543)))
abbrev My.Y1 : Params → W.BT := (N_ o414 (N_ o207 (L_ o603) (L_ o480)) (N_ o413 (L_ o414) (L_ o544)))
abbrev My.Y0 : Params → W.BT := (N_ o136 (N_ o603 (L_ o601) (L_ o478)) (N_ o272 (L_ o409) (L_ o603)))
def My.myAs : List Nat := ((nat_lit 2) :: (nat_lit 3) :: (nat_lit 15) :: (nat_lit 17) :: (nat_lit 18) :: (nat_lit 20) :: (nat_lit 21) :: (nat_lit 22) :: (nat_lit 29) :: (nat_lit 30) :: (nat_lit 31) :: (nat_lit 32) :: (nat_lit 35) :: (nat_lit 42) :: (nat_lit 43) :: (nat_lit 44) :: (nat_lit 47) :: (nat_lit 54) :: (nat_lit 55) :: (nat_lit 56) :: (nat_lit 59) :: (nat_lit 66) :: (nat_lit 67) :: (nat_lit 68) :: (nat_lit 71) :: (nat_lit 73) :: (nat_lit 74) :: (nat_lit 76) :: (nat_lit 77) :: (nat_lit 78) :: (nat_lit 80) :: (nat_lit 81) :: (nat_lit 83) :: (nat_lit 84) :: (nat_lit 85) :: (nat_lit 87) :: (nat_lit 88) :: (nat_lit 90) :: (nat_lit 91) :: (nat_lit 99) :: (nat_lit 101) :: (nat_lit 102) :: (nat_lit 104) :: (nat_lit 105) :: (nat_lit 106) :: (nat_lit 108) :: (nat_lit 109) :: (nat_lit 111) :: (nat_lit 112) :: (nat_lit 113) :: (nat_lit 115) :: (nat_lit 116) :: (nat_lit 118) :: (nat_lit 119) :: (nat_lit 120) :: (nat_lit 122) :: (nat_lit 123) :: (nat_lit 125) :: (nat_lit 126) :: (nat_lit 127) :: (nat_lit 129) :: (nat_lit 130) :: (nat_lit 132) :: (nat_lit 133) :: (nat_lit 134) :: (nat_lit 136) :: (nat_lit 137) :: (nat_lit 139) :: (nat_lit 140) :: (nat_lit 141) :: (nat_lit 142) :: (nat_lit 143) :: (nat_lit 144) :: (nat_lit 145) :: (nat_lit 148) :: (nat_lit 155) :: (nat_lit 157) :: (nat_lit 158) :: (nat_lit 160) :: (nat_lit 161) :: (nat_lit 162) :: (nat_lit 164) :: (nat_lit 165) :: (nat_lit 167) :: (nat_lit 168) :: (nat_lit 169) :: (nat_lit 171) :: (nat_lit 172) :: (nat_lit 174) :: (nat_lit 175) :: (nat_lit 176) :: (nat_lit 177) :: (nat_lit 178) :: (nat_lit 181) :: (nat_lit 188) :: (nat_lit 190) :: (nat_lit 191) :: (nat_lit 193) :: (nat_lit 194) :: (nat_lit 195) :: (nat_lit 197) :: (nat_lit 198) :: (nat_lit 200) :: (nat_lit 201) :: (nat_lit 202) :: (nat_lit 204) :: (nat_lit 205) :: (nat_lit 207) :: (nat_lit 208) :: (nat_lit 209) :: (nat_lit 211) :: (nat_lit 212) :: (nat_lit 214) :: (nat_lit 215) :: (nat_lit 216) :: (nat_lit 217) :: (nat_lit 218) :: (nat_lit 221) :: (nat_lit 228) :: (nat_lit 230) :: (nat_lit 231) :: (nat_lit 233) :: (nat_lit 234) :: (nat_lit 235) :: (nat_lit 237) :: (nat_lit 238) :: (nat_lit 240) :: (nat_lit 241) :: (nat_lit 242) :: (nat_lit 244) :: (nat_lit 245) :: (nat_lit 247) :: (nat_lit 248) :: (nat_lit 249) :: (nat_lit 251) :: (nat_lit 252) :: (nat_lit 254) :: (nat_lit 255) :: (nat_lit 256) :: (nat_lit 258) :: (nat_lit 259) :: (nat_lit 261) :: (nat_lit 262) :: (nat_lit 263) :: (nat_lit 264) :: (nat_lit 265) :: (nat_lit 268) :: (nat_lit 275) :: (nat_lit 277) :: (nat_lit 278) :: (nat_lit 280) :: (nat_lit 281) :: (nat_lit 282) :: (nat_lit 284) :: (nat_lit 285) :: (nat_lit 287) :: (nat_lit 288) :: (nat_lit 289) :: (nat_lit 291) :: (nat_lit 292) :: (nat_lit 294) :: (nat_lit 295) :: (nat_lit 296) :: (nat_lit 297) :: (nat_lit 298) :: (nat_lit 301) :: (nat_lit 308) :: (nat_lit 310) :: (nat_lit 311) :: (nat_lit 313) :: (nat_lit 314) :: (nat_lit 315) :: (nat_lit 317) :: (nat_lit 318) :: (nat_lit 320) :: (nat_lit 321) :: (nat_lit 322) :: (nat_lit 324) :: (nat_lit 325) :: (nat_lit 327) :: (nat_lit 328) :: (nat_lit 329) :: (nat_lit 331) :: (nat_lit 332) :: (nat_lit 334) :: (nat_lit 335) :: (nat_lit 336) :: (nat_lit 338) :: (nat_lit 339) :: (nat_lit 341) :: (nat_lit 342) :: (nat_lit 343) :: (nat_lit 344) :: (nat_lit 345) :: (nat_lit 348) :: (nat_lit 355) :: (nat_lit 357) :: (nat_lit 358) :: (nat_lit 360) :: (nat_lit 361) :: (nat_lit 362) :: (nat_lit 364) :: (nat_lit 365) :: (nat_lit 367) :: (nat_lit 368) :: (nat_lit 369) :: (nat_lit 371) :: (nat_lit 372) :: (nat_lit 374) :: (nat_lit 375) :: (nat_lit 376) :: (nat_lit 378) :: (nat_lit 379) :: (nat_lit 381) :: (nat_lit 382) :: (nat_lit 383) :: (nat_lit 385) :: (nat_lit 386) :: (nat_lit 388) :: (nat_lit 389) :: (nat_lit 390) :: (nat_lit 392) :: (nat_lit 393) :: (nat_lit 395) :: (nat_lit 396) :: (nat_lit 397) :: (nat_lit 398) :: (nat_lit 399) :: (nat_lit 402) :: (nat_lit 404) :: (nat_lit 405) :: (nat_lit 407) :: (nat_lit 408) :: (nat_lit 409) :: (nat_lit 411) :: (nat_lit 412) :: (nat_lit 414) :: (nat_lit 415) :: (nat_lit 416) :: (nat_lit 418) :: (nat_lit 419) :: (nat_lit 421) :: (nat_lit 422) :: (nat_lit 423) :: (nat_lit 425) :: (nat_lit 426) :: (nat_lit 428) :: (nat_lit 429) :: (nat_lit 430) :: (nat_lit 432) :: (nat_lit 433) :: (nat_lit 435) :: (nat_lit 436) :: (nat_lit 437) :: (nat_lit 439) :: (nat_lit 440) :: (nat_lit 442) :: (nat_lit 443) :: (nat_lit 444) :: (nat_lit 446) :: (nat_lit 447) :: (nat_lit 449) :: (nat_lit 450) :: (nat_lit 451) :: (nat_lit 453) :: (nat_lit 454) :: (nat_lit 456) :: (nat_lit 457) :: (nat_lit 458) :: (nat_lit 460) :: (nat_lit 461) :: (nat_lit 463) :: (nat_lit 464) :: (nat_lit 465) :: (nat_lit 467) :: (nat_lit 468) :: (nat_lit 470) :: (nat_lit 471) :: (nat_lit 472) :: (nat_lit 474) :: (nat_lit 475) :: (nat_lit 477) :: (nat_lit 478) :: (nat_lit 479) :: (nat_lit 482) :: (nat_lit 483) :: (nat_lit 484) :: (nat_lit 486) :: (nat_lit 487) :: (nat_lit 489) :: (nat_lit 490) :: (nat_lit 491) :: (nat_lit 493) :: (nat_lit 494) :: (nat_lit 496) :: (nat_lit 497) :: (nat_lit 498) :: (nat_lit 500) :: (nat_lit 501) :: (nat_lit 503) :: (nat_lit 504) :: (nat_lit 505) :: (nat_lit 507) :: (nat_lit 508) :: (nat_lit 510) :: (nat_lit 511) :: (nat_lit 512) :: (nat_lit 515) :: (nat_lit 516) :: (nat_lit 517) :: (nat_lit 519) :: (nat_lit 520) :: (nat_lit 522) :: (nat_lit 523) :: (nat_lit 524) :: (nat_lit 526) :: (nat_lit 527) :: (nat_lit 529) :: (nat_lit 530) :: (nat_lit 531) :: (nat_lit 533) :: (nat_lit 534) :: (nat_lit 536) :: (nat_lit 537) :: [])
def My.h_heap_39 : PySem.Params → PySem.W.Frag := fun x =>
(nat_lit 2, (@W.boot_o_2 x)) ::
(nat_lit 3, (o546 x)) ::
(nat_lit 15, (o603 x)) ::
(nat_lit 17, (o53 x)) ::
(nat_lit 18, (o603 x)) ::
(nat_lit 20, (o56 x)) ::
(nat_lit 21, (o57 x)) ::
(nat_lit 22, (o58 x)) ::
(nat_lit 29, (o603 x)) ::
(nat_lit 30, (o66 x)) ::
(nat_lit 31, (o103 x)) ::
(nat_lit 32, (o68 x)) ::
(nat_lit 35, (o104 x)) ::
(nat_lit 42, (o603 x)) ::
(nat_lit 43, (o82 x)) ::
(nat_lit 44, (o83 x)) ::
(nat_lit 47, (o104 x)) ::
(nat_lit 54, (o603 x)) ::
(nat_lit 55, (o97 x)) ::
(nat_lit 56, (o98 x)) ::
(nat_lit 59, (o104 x)) ::
(nat_lit 66, (o603 x)) ::
(nat_lit 67, (o112 x)) ::
(nat_lit 68, (o113 x)) ::
(nat_lit 71, (o603 x)) ::
(nat_lit 73, (o118 x)) ::
(nat_lit 74, (o603 x)) ::
(nat_lit 76, (o121 x)) ::
(nat_lit 77, (o122 x)) ::
(nat_lit 78, (o603 x)) ::
(nat_lit 80, (o125 x)) ::
(nat_lit 81, (o603 x)) ::
(nat_lit 83, (o128 x)) ::
(nat_lit 84, (o129 x)) ::
(nat_lit 85, (o603 x)) ::
(nat_lit 87, (o132 x)) ::
(nat_lit 88, (o603 x)) ::
(nat_lit 90, (o135 x)) ::
(nat_lit 91, (o136 x)) ::
(nat_lit 99, (o603 x)) ::
(nat_lit 101, (o148 x)) ::
(nat_lit 102, (o603 x)) ::
(nat_lit 104, (o151 x)) ::
(nat_lit 105, (o152 x)) ::
(nat_lit 106, (o603 x)) ::
(nat_lit 108, (o155 x)) ::
(nat_lit 109, (o603 x)) ::
(nat_lit 111, (o158 x)) ::
(nat_lit 112, (o159 x)) ::
(nat_lit 113, (o603 x)) ::
(nat_lit 115, (o162 x)) ::
(nat_lit 116, (o603 x)) ::
(nat_lit 118, (o165 x)) ::
(nat_lit 119, (o166 x)) ::
(nat_lit 120, (o603 x)) ::
(nat_lit 122, (o169 x)) ::
(nat_lit 123, (o603 x)) ::
(nat_lit 125, (o172 x)) ::
(nat_lit 126, (o173 x)) ::
(nat_lit 127, (o603 x)) ::
(nat_lit 129, (o176 x)) ::
(nat_lit 130, (o603 x)) ::
(nat_lit 132, (o179 x)) ::
(nat_lit 133, (o180 x)) ::
(nat_lit 134, (o603 x)) ::
(nat_lit 136, (o183 x)) ::
(nat_lit 137, (o603 x)) ::
(nat_lit 139, (o186 x)) ::
(nat_lit 140, (o187 x)) ::
(nat_lit 141, (o603 x)) ::
(nat_lit 142, (o189 x)) ::
(nat_lit 143, (o412 x)) ::
(nat_lit 144, (o191 x)) ::
(nat_lit 145, (o192 x)) ::
(nat_lit 148, (o413 x)) ::
(nat_lit 155, (o603 x)) ::
(nat_lit 157, (o207 x)) ::
(nat_lit 158, (o603 x)) ::
(nat_lit 160, (o210 x)) ::
(nat_lit 161, (o211 x)) ::
(nat_lit 162, (o603 x)) ::
(nat_lit 164, (o214 x)) ::
(nat_lit 165, (o603 x)) ::
(nat_lit 167, (o217 x)) ::
(nat_lit 168, (o218 x)) ::
(nat_lit 169, (o603 x)) ::
(nat_lit 171, (o221 x)) ::
(nat_lit 172, (o603 x)) ::
(nat_lit 174, (o224 x)) ::
(nat_lit 175, (o225 x)) ::
(nat_lit 176, (o226 x)) ::
(nat_lit 177, (o227 x)) ::
(nat_lit 178, (o228 x)) ::
(nat_lit 181, (o413 x)) ::
(nat_lit 188, (o603 x)) ::
(nat_lit 190, (o243 x)) ::
(nat_lit 191, (o603 x)) ::
(nat_lit 193, (o246 x)) ::
(nat_lit 194, (o247 x)) ::
(nat_lit 195, (o603 x)) ::
(nat_lit 197, (o250 x)) ::
(nat_lit 198, (o603 x)) ::
(nat_lit 200, (o253 x)) ::
(nat_lit 201, (o254 x)) ::
(nat_lit 202, (o603 x)) ::
(nat_lit 204, (o257 x)) ::
(nat_lit 205, (o603 x)) ::
(nat_lit 207, (o260 x)) ::
(nat_lit 208, (o261 x)) ::
(nat_lit 209, (o603 x)) ::
(nat_lit 211, (o264 x)) ::
(nat_lit 212, (o603 x)) ::
(nat_lit 214, (o267 x)) ::
(nat_lit 215, (o268 x)) ::
(nat_lit 216, (o269 x)) ::
(nat_lit 217, (o270 x)) ::
(nat_lit 218, (o271 x)) ::
(nat_lit 221, (o413 x)) ::
(nat_lit 228, (o603 x)) ::
(nat_lit 230, (o286 x)) ::
(nat_lit 231, (o603 x)) ::
(nat_lit 233, (o289 x)) ::
(nat_lit 234, (o290 x)) ::
(nat_lit 235, (o603 x)) ::
(nat_lit 237, (o293 x)) ::
(nat_lit 238, (o603 x)) ::
(nat_lit 240, (o296 x)) ::
(nat_lit 241, (o297 x)) ::
(nat_lit 242, (o603 x)) ::
(nat_lit 244, (o300 x)) ::
(nat_lit 245, (o603 x)) ::
(nat_lit 247, (o303 x)) ::
(nat_lit 248, (o304 x)) ::
(nat_lit 249, (o603 x)) ::
(nat_lit 251, (o307 x)) ::
(nat_lit 252, (o603 x)) ::
(nat_lit 254, (o310 x)) ::
(nat_lit 255, (o311 x)) ::
(nat_lit 256, (o603 x)) ::
(nat_lit 258, (o314 x)) ::
(nat_lit 259, (o603 x)) ::
(nat_lit 261, (o317 x)) ::
(nat_lit 262, (o318 x)) ::
(nat_lit 263, (o319 x)) ::
(nat_lit 264, (o320 x)) ::
(nat_lit 265, (o321 x)) ::
(nat_lit 268, (o413 x)) ::
(nat_lit 275, (o603 x)) ::
(nat_lit 277, (o336 x)) ::
(nat_lit 278, (o603 x)) ::
(nat_lit 280, (o339 x)) ::
(nat_lit 281, (o340 x)) ::
(nat_lit 282, (o603 x)) ::
(nat_lit 284, (o343 x)) ::
(nat_lit 285, (o603 x)) ::
(nat_lit 287, (o346 x)) ::
(nat_lit 288, (o347 x)) ::
(nat_lit 289, (o603 x)) ::
(nat_lit 291, (o350 x)) ::
(nat_lit 292, (o603 x)) ::
(nat_lit 294, (o353 x)) ::
(nat_lit 295, (o354 x)) ::
(nat_lit 296, (o355 x)) ::
(nat_lit 297, (o356 x)) ::
(nat_lit 298, (o357 x)) ::
(nat_lit 301, (o413 x)) ::
(nat_lit 308, (o603 x)) ::
(nat_lit 310, (o372 x)) ::
(nat_lit 311, (o603 x)) ::
(nat_lit 313, (o375 x)) ::
(nat_lit 314, (o376 x)) ::
(nat_lit 315, (o603 x)) ::
(nat_lit 317, (o379 x)) ::
(nat_lit 318, (o603 x)) ::
(nat_lit 320, (o382 x)) ::
(nat_lit 321, (o383 x)) ::
(nat_lit 322, (o603 x)) ::
(nat_lit 324, (o386 x)) ::
(nat_lit 325, (o603 x)) ::
(nat_lit 327, (o389 x)) ::
(nat_lit 328, (o390 x)) ::
(nat_lit 329, (o603 x)) ::
(nat_lit 331, (o393 x)) ::
(nat_lit 332, (o603 x)) ::
(nat_lit 334, (o396 x)) ::
(nat_lit 335, (o397 x)) ::
(nat_lit 336, (o603 x)) ::
(nat_lit 338, (o400 x)) ::
(nat_lit 339, (o603 x)) ::
(nat_lit 341, (o403 x)) ::
(nat_lit 342, (o404 x)) ::
(nat_lit 343, (o405 x)) ::
(nat_lit 344, (o406 x)) ::
(nat_lit 345, (o407 x)) ::
(nat_lit 348, (o413 x)) ::
(nat_lit 355, (o603 x)) ::
(nat_lit 357, (o422 x)) ::
(nat_lit 358, (o603 x)) ::
(nat_lit 360, (o425 x)) ::
(nat_lit 361, (o426 x)) ::
(nat_lit 362, (o603 x)) ::
(nat_lit 364, (o429 x)) ::
(nat_lit 365, (o603 x)) ::
(nat_lit 367, (o432 x)) ::
(nat_lit 368, (o433 x)) ::
(nat_lit 369, (o603 x)) ::
(nat_lit 371, (o436 x)) ::
(nat_lit 372, (o603 x)) ::
(nat_lit 374, (o439 x)) ::
(nat_lit 375, (o440 x)) ::
(nat_lit 376, (o603 x)) ::
(nat_lit 378, (o443 x)) ::
(nat_lit 379, (o603 x)) ::
(nat_lit 381, (o446 x)) ::
(nat_lit 382, (o447 x)) ::
(nat_lit 383, (o603 x)) ::
(nat_lit 385, (o450 x)) ::
(nat_lit 386, (o603 x)) ::
(nat_lit 388, (o453 x)) ::
(nat_lit 389, (o454 x)) ::
(nat_lit 390, (o603 x)) ::
(nat_lit 392, (o457 x)) ::
(nat_lit 393, (o603 x)) ::
(nat_lit 395, (o460 x)) ::
(nat_lit 396, (o461 x)) ::
(nat_lit 397, (o462 x)) ::
(nat_lit 398, (o463 x)) ::
(nat_lit 399, (o464 x)) ::
(nat_lit 402, (o603 x)) ::
(nat_lit 404, (o471 x)) ::
(nat_lit 405, (o603 x)) ::
(nat_lit 407, (o474 x)) ::
(nat_lit 408, (o475 x)) ::
(nat_lit 409, (o603 x)) ::
(nat_lit 411, (o478 x)) ::
(nat_lit 412, (o603 x)) ::
(nat_lit 414, (o481 x)) ::
(nat_lit 415, (o482 x)) ::
(nat_lit 416, (o603 x)) ::
(nat_lit 418, (o485 x)) ::
(nat_lit 419, (o603 x)) ::
(nat_lit 421, (o488 x)) ::
(nat_lit 422, (o489 x)) ::
(nat_lit 423, (o603 x)) ::
(nat_lit 425, (o492 x)) ::
(nat_lit 426, (o603 x)) ::
(nat_lit 428, (o495 x)) ::
(nat_lit 429, (o496 x)) ::
(nat_lit 430, (o603 x)) ::
(nat_lit 432, (o499 x)) ::
(nat_lit 433, (o603 x)) ::
(nat_lit 435, (o502 x)) ::
(nat_lit 436, (o503 x)) ::
(nat_lit 437, (o603 x)) ::
(nat_lit 439, (o506 x)) ::
(nat_lit 440, (o603 x)) ::
(nat_lit 442, (o509 x)) ::
(nat_lit 443, (o510 x)) ::
(nat_lit 444, (o603 x)) ::
(nat_lit 446, (o513 x)) ::
(nat_lit 447, (o603 x)) ::
(nat_lit 449, (o516 x)) ::
(nat_lit 450, (o517 x)) ::
(nat_lit 451, (o603 x)) ::
(nat_lit 453, (o520 x)) ::
(nat_lit 454, (o603 x)) ::
(nat_lit 456, (o523 x)) ::
(nat_lit 457, (o524 x)) ::
(nat_lit 458, (o603 x)) ::
(nat_lit 460, (o527 x)) ::
(nat_lit 461, (o603 x)) ::
(nat_lit 463, (o530 x)) ::
(nat_lit 464, (o531 x)) ::
(nat_lit 465, (o603 x)) ::
(nat_lit 467, (o534 x)) ::
(nat_lit 468, (o603 x)) ::
(nat_lit 470, (o537 x)) ::
(nat_lit 471, (o538 x)) ::
(nat_lit 472, (o603 x)) ::
(nat_lit 474, (o541 x)) ::
(nat_lit 475, (o603 x)) ::
(nat_lit 477, (o544 x)) ::
(nat_lit 478, (o545 x)) ::
(nat_lit 479, (o603 x)) ::
(nat_lit 482, (o551 x)) ::
(nat_lit 483, (o552 x)) ::
(nat_lit 484, (o603 x)) ::
(nat_lit 486, (o555 x)) ::
(nat_lit 487, (o603 x)) ::
(nat_lit 489, (o558 x)) ::
(nat_lit 490, (o559 x)) ::
(nat_lit 491, (o603 x)) ::
(nat_lit 493, (o562 x)) ::
(nat_lit 494, (o603 x)) ::
(nat_lit 496, (o565 x)) ::
(nat_lit 497, (o566 x)) ::
(nat_lit 498, (o603 x)) ::
(nat_lit 500, (o569 x)) ::
(nat_lit 501, (o603 x)) ::
(nat_lit 503, (o572 x)) ::
(nat_lit 504, (o573 x)) ::
(nat_lit 505, (o603 x)) ::
(nat_lit 507, (o576 x)) ::
(nat_lit 508, (o603 x)) ::
(nat_lit 510, (o579 x)) ::
(nat_lit 511, (o580 x)) ::
(nat_lit 512, (o603 x)) ::
(nat_lit 515, (o584 x)) ::
(nat_lit 516, (o585 x)) ::
(nat_lit 517, (o603 x)) ::
(nat_lit 519, (o588 x)) ::
(nat_lit 520, (o603 x)) ::
(nat_lit 522, (o591 x)) ::
(nat_lit 523, (o592 x)) ::
(nat_lit 524, (o603 x)) ::
(nat_lit 526, (o595 x)) ::
(nat_lit 527, (o603 x)) ::
(nat_lit 529, (o598 x)) ::
(nat_lit 530, (o599 x)) ::
(nat_lit 531, (o603 x)) ::
(nat_lit 533, (o602 x)) ::
(nat_lit 534, (o603 x)) ::
(nat_lit 536, (o605 x)) ::
(nat_lit 537, (o606 x)) :: []
def My.h_view_39 : PySem.Program := { PySem.Challenge.pw_oddbases_k41_order_by_numbers with main := { PySem.Challenge.pw_oddbases_k41_order_by_numbers.main with body := [My.top 0, My.top 2, My.top 3, My.top 4, My.top 5, My.top 7, My.top 9, My.top 11, My.top 12, My.top 13, My.top 14, My.top 15, My.top 16, My.top 17, My.top 18, My.top 20, My.top 21, My.top 22, My.top 23, My.top 25, My.top 26, My.top 28, My.top 29, My.top 30, My.top 31, My.top 32, My.top 33, My.top 34, My.top 35, My.top 36, My.top 37, My.top 38, My.top 39, My.top 40, My.top 41] } }
def My.h_heap_607 : ((x : @Params) → @Heap) := (fun x => (@Heap.mk (@Array.mk @Obj ((@W.boot_o_0 x) :: (@W.boot_o_1 x) :: (@W.boot_o_2 x) :: (o546 x) :: (@W.boot_o_4 x) :: (@W.boot_o_5 x) :: (@W.boot_o_6 x) :: (@W.boot_o_7 x) :: (@W.boot_o_8 x) :: (@W.boot_o_9 x) :: (@W.boot_o_10 x) :: (o603 x) :: (o547 x) :: (o45 x) :: (o46 x) :: (o603 x) :: (o601 x) :: (o53 x) :: (o603 x) :: (o55 x) :: (o56 x) :: (o57 x) :: (o58 x) :: (o414 x) :: (o60 x) :: (o603 x) :: (o601 x) :: (o63 x) :: (o64 x) :: (o603 x) :: (o66 x) :: (o103 x) :: (o68 x) :: (o69 x) :: (o70 x) :: (o104 x) :: (o414 x) :: (o76 x) :: (o603 x) :: (o601 x) :: (o79 x) :: (o80 x) :: (o603 x) :: (o82 x) :: (o83 x) :: (o84 x) :: (o85 x) :: (o104 x) :: (o414 x) :: (o91 x) :: (o603 x) :: (o601 x) :: (o94 x) :: (o95 x) :: (o603 x) :: (o97 x) :: (o98 x) :: (o99 x) :: (o100 x) :: (o104 x) :: (o414 x) :: (o106 x) :: (o603 x) :: (o601 x) :: (o109 x) :: (o110 x) :: (o603 x) :: (o112 x) :: (o113 x) :: (o114 x) :: (o115 x) :: (o603 x) :: (o601 x) :: (o118 x) :: (o603 x) :: (o120 x) :: (o121 x) :: (o122 x) :: (o603 x) :: (o601 x) :: (o125 x) :: (o603 x) :: (o127 x) :: (o128 x) :: (o129 x) :: (o603 x) :: (o601 x) :: (o132 x) :: (o603 x) :: (o134 x) :: (o135 x) :: (o136 x) :: (o603 x) :: (o414 x) :: (o141 x) :: (o603 x) :: (o143 x) :: (o144 x) :: (o145 x) :: (o603 x) :: (o601 x) :: (o148 x) :: (o603 x) :: (o150 x) :: (o151 x) :: (o152 x) :: (o603 x) :: (o601 x) :: (o155 x) :: (o603 x) :: (o157 x) :: (o158 x) :: (o159 x) :: (o603 x) :: (o601 x) :: (o162 x) :: (o603 x) :: (o164 x) :: (o165 x) :: (o166 x) :: (o603 x) :: (o601 x) :: (o169 x) :: (o603 x) :: (o171 x) :: (o172 x) :: (o173 x) :: (o603 x) :: (o601 x) :: (o176 x) :: (o603 x) :: (o178 x) :: (o179 x) :: (o180 x) :: (o603 x) :: (o601 x) :: (o183 x) :: (o603 x) :: (o185 x) :: (o186 x) :: (o187 x) :: (o603 x) :: (o189 x) :: (o412 x) :: (o191 x) :: (o192 x) :: (o193 x) :: (o194 x) :: (o413 x) :: (o414 x) :: (o200 x) :: (o603 x) :: (o202 x) :: (o203 x) :: (o204 x) :: (o603 x) :: (o601 x) :: (o207 x) :: (o603 x) :: (o209 x) :: (o210 x) :: (o211 x) :: (o603 x) :: (o601 x) :: (o214 x) :: (o603 x) :: (o216 x) :: (o217 x) :: (o218 x) :: (o603 x) :: (o601 x) :: (o221 x) :: (o603 x) :: (o223 x) :: (o224 x) :: (o225 x) :: (o226 x) :: (o227 x) :: (o228 x) :: (o229 x) :: (o230 x) :: (o413 x) :: (o414 x) :: (o236 x) :: (o603 x) :: (o238 x) :: (o239 x) :: (o240 x) :: (o603 x) :: (o601 x) :: (o243 x) :: (o603 x) :: (o245 x) :: (o246 x) :: (o247 x) :: (o603 x) :: (o601 x) :: (o250 x) :: (o603 x) :: (o252 x) :: (o253 x) :: (o254 x) :: (o603 x) :: (o601 x) :: (o257 x) :: (o603 x) :: (o259 x) :: (o260 x) :: (o261 x) :: (o603 x) :: (o601 x) :: (o264 x) :: (o603 x) :: (o266 x) :: (o267 x) :: (o268 x) :: (o269 x) :: (o270 x) :: (o271 x) :: (o272 x) :: (o273 x) :: (o413 x) :: (o414 x) :: (o279 x) :: (o603 x) :: (o281 x) :: (o282 x) :: (o283 x) :: (o603 x) :: (o601 x) :: (o286 x) :: (o603 x) :: (o288 x) :: (o289 x) :: (o290 x) :: (o603 x) :: (o601 x) :: (o293 x) :: (o603 x) :: (o295 x) :: (o296 x) :: (o297 x) :: (o603 x) :: (o601 x) :: (o300 x) :: (o603 x) :: (o302 x) :: (o303 x) :: (o304 x) :: (o603 x) :: (o601 x) :: (o307 x) :: (o603 x) :: (o309 x) :: (o310 x) :: (o311 x) :: (o603 x) :: (o601 x) :: (o314 x) :: (o603 x) :: (o316 x) :: (o317 x) :: (o318 x) :: (o319 x) :: (o320 x) :: (o321 x) :: (o322 x) :: (o323 x) :: (o413 x) :: (o414 x) :: (o329 x) :: (o603 x) :: (o331 x) :: (o332 x) :: (o333 x) :: (o603 x) :: (o601 x) :: (o336 x) :: (o603 x) :: (o338 x) :: (o339 x) :: (o340 x) :: (o603 x) :: (o601 x) :: (o343 x) :: (o603 x) :: (o345 x) :: (o346 x) :: (o347 x) :: (o603 x) :: (o601 x) :: (o350 x) :: (o603 x) :: (o352 x) :: (o353 x) :: (o354 x) :: (o355 x) :: (o356 x) :: (o357 x) :: (o358 x) :: (o359 x) :: (o413 x) :: (o414 x) :: (o365 x) :: (o603 x) :: (o367 x) :: (o368 x) :: (o369 x) :: (o603 x) :: (o601 x) :: (o372 x) :: (o603 x) :: (o374 x) :: (o375 x) :: (o376 x) :: (o603 x) :: (o601 x) :: (o379 x) :: (o603 x) :: (o381 x) :: (o382 x) :: (o383 x) :: (o603 x) :: (o601 x) :: (o386 x) :: (o603 x) :: (o388 x) :: (o389 x) :: (o390 x) :: (o603 x) :: (o601 x) :: (o393 x) :: (o603 x) :: (o395 x) :: (o396 x) :: (o397 x) :: (o603 x) :: (o601 x) :: (o400 x) :: (o603 x) :: (o402 x) :: (o403 x) :: (o404 x) :: (o405 x) :: (o406 x) :: (o407 x) :: (o408 x) :: (o409 x) :: (o413 x) :: (o414 x) :: (o415 x) :: (o603 x) :: (o417 x) :: (o418 x) :: (o419 x) :: (o603 x) :: (o601 x) :: (o422 x) :: (o603 x) :: (o424 x) :: (o425 x) :: (o426 x) :: (o603 x) :: (o601 x) :: (o429 x) :: (o603 x) :: (o431 x) :: (o432 x) :: (o433 x) :: (o603 x) :: (o601 x) :: (o436 x) :: (o603 x) :: (o438 x) :: (o439 x) :: (o440 x) :: (o603 x) :: (o601 x) :: (o443 x) :: (o603 x) :: (o445 x) :: (o446 x) :: (o447 x) :: (o603 x) :: (o601 x) :: (o450 x) :: (o603 x) :: (o452 x) :: (o453 x) :: (o454 x) :: (o603 x) :: (o601 x) :: (o457 x) :: (o603 x) :: (o459 x) :: (o460 x) :: (o461 x) :: (o462 x) :: (o463 x) :: (o464 x) :: (o465 x) :: (o466 x) :: (o603 x) :: (o601 x) :: (o471 x) :: (o603 x) :: (o473 x) :: (o474 x) :: (o475 x) :: (o603 x) :: (o601 x) :: (o478 x) :: (o603 x) :: (o480 x) :: (o481 x) :: (o482 x) :: (o603 x) :: (o601 x) :: (o485 x) :: (o603 x) :: (o487 x) :: (o488 x) :: (o489 x) :: (o603 x) :: (o601 x) :: (o492 x) :: (o603 x) :: (o494 x) :: (o495 x) :: (o496 x) :: (o603 x) :: (o601 x) :: (o499 x) :: (o603 x) :: (o501 x) :: (o502 x) :: (o503 x) :: (o603 x) :: (o601 x) :: (o506 x) :: (o603 x) :: (o508 x) :: (o509 x) :: (o510 x) :: (o603 x) :: (o601 x) :: (o513 x) :: (o603 x) :: (o515 x) :: (o516 x) :: (o517 x) :: (o603 x) :: (o601 x) :: (o520 x) :: (o603 x) :: (o522 x) :: (o523 x) :: (o524 x) :: (o603 x) :: (o601 x) :: (o527 x) :: (o603 x) :: (o529 x) :: (o530 x) :: (o531 x) :: (o603 x) :: (o601 x) :: (o534 x) :: (o603 x) :: (o536 x) :: (o537 x) :: (o538 x) :: (o603 x) :: (o601 x) :: (o541 x) :: (o603 x) :: (o543 x) :: (o544 x) :: (o545 x) :: (o603 x) :: (o601 x) :: (o550 x) :: (o551 x) :: (o552 x) :: (o603 x) :: (o601 x) :: (o555 x) :: (o603 x) :: (o557 x) :: (o558 x) :: (o559 x) :: (o603 x) :: (o601 x) :: (o562 x) :: (o603 x) :: (o564 x) :: (o565 x) :: (o566 x) :: (o603 x) :: (o601 x) :: (o569 x) :: (o603 x) :: (o571 x) :: (o572 x) :: (o573 x) :: (o603 x) :: (o601 x) :: (o576 x) :: (o603 x) :: (o578 x) :: (o579 x) :: (o580 x) :: (o603 x) :: (o601 x) :: (o583 x) :: (o584 x) :: (o585 x) :: (o603 x) :: (o601 x) :: (o588 x) :: (o603 x) :: (o590 x) :: (o591 x) :: (o592 x) :: (o603 x) :: (o601 x) :: (o595 x) :: (o603 x) :: (o597 x) :: (o598 x) :: (o599 x) :: (o603 x) :: (o601 x) :: (o602 x) :: (o603 x) :: (o604 x) :: (o605 x) :: (o606 x) :: [])) (@Life.mk [] [] [] 0 (@List.nil (@Prod @Nat @Nat)) [] @Bool.false #[] [] 0 @Bool.false @Bool.false @Bool.false (0 : Int) [(2000 : Int), (10 : Int), (10 : Int)] @Bool.false 0 @Bool.true [] [] 0 @Bool.false)))
def My.h_env_41 : @Env := (@Env.mk (@Module.scope (@Program.main ((@W.OpenRow.toRowW (@W.OpenLaw.row @Challenge.rw_oddbases_k41_order_by_numbers))).1)) @mainNs @mainNs (@List.nil (@Prod @Str @Addr)) @Str.empty (@Option.none @Addr) (r_ 13) (@some @Addr (@OfNat.ofNat @Addr 14 (@instOfNatNat 14))) (@OfNat.ofNat @Addr 0 (@instOfNatNat 0)))
def My.h_tree_606 : Params → W.BT := (N_ W.boot_o_0 (N_ W.boot_o_1 (N_ o546 (N_ W.boot_o_7 (N_ o603 (N_ o103 (N_ o601 (N_ o603 (N_ o311 (L_ o580) Z_) (L_ o603)) (N_ o603 (L_ o381) (L_ o603))) (N_ o603 (N_ o209 (L_ o346) (L_ o482)) (N_ o279 (L_ o603) (L_ o603)))) (N_ o104 (N_ o601 (N_ o412 Y46 (L_ o464)) (N_ o260 (L_ o397) (L_ o530))) (N_ o158 (N_ o225 (L_ o365) (L_ o601)) (N_ o295 (L_ o432) (L_ o564))))) (N_ o414 (N_ o601 (N_ o603 (N_ o601 (N_ o319 (L_ o588) Z_) (L_ o601)) (N_ o252 (L_ o389) (L_ o522))) (N_ o150 (N_ o217 (L_ o354) (L_ o603)) (N_ o603 (L_ o424) (L_ o603)))) (N_ o97 (N_ o132 (N_ o603 (N_ o338 (L_ o604) Z_) (L_ o474)) (N_ o268 (L_ o405) (L_ o538))) (N_ o166 (N_ o236 (L_ o603) (L_ o506)) (N_ o303 (L_ o440) (L_ o572)))))) (N_ o603 (N_ o55 (N_ o104 (N_ o112 (N_ o178 (N_ o603 (L_ o584) Z_) (L_ o452)) Y45) (N_ o603 (N_ o601 (L_ o350) (L_ o603)) (N_ o283 (L_ o603) (L_ o552)))) (N_ o601 (N_ o128 (N_ o194 Y46 (L_ o601)) (N_ o264 (L_ o603) (L_ o534))) (N_ o162 (N_ o229 (L_ o369) (L_ o502)) (N_ o601 (L_ o436) (L_ o601))))) (N_ o63 (N_ o82 (N_ o120 (N_ o186 (N_ o323 (L_ o592) Z_) (L_ o460)) (N_ o601 (L_ o393) (L_ o601))) (N_ o601 (N_ o221 (L_ o358) (L_ o494)) Y45)) (N_ o104 Y0 (N_ o603 (N_ o240 (L_ o603) (L_ o510)) (N_ o307 (L_ o603) (L_ o576))))))) (N_ W.boot_o_5 (N_ W.boot_o_9 (N_ o53 (N_ o69 (N_ o110 (N_ o176 (N_ o601 (L_ o601) Z_) (L_ o450)) (N_ o246 (L_ o383) (L_ o516))) (N_ o144 (N_ o211 (L_ o603) (L_ o601)) (N_ o281 (L_ o418) (L_ o550)))) (N_ o91 (N_ o603 (N_ o192 (N_ o332 (L_ o598) Z_) (L_ o466)) Y45) (N_ o603 (N_ o227 (L_ o367) (L_ o603)) (N_ o297 (L_ o603) (L_ o566))))) (N_ o603 (N_ o80 (N_ o118 (N_ o603 (N_ o321 (L_ o590) Z_) (L_ o603)) (N_ o254 (L_ o603) (L_ o524))) (N_ o152 (N_ o603 (L_ o356) (L_ o492)) (N_ o289 (L_ o426) (L_ o558)))) (N_ o99 (N_ o134 (N_ o203 (N_ o340 (L_ o606) Z_) (L_ o603)) (N_ o270 (L_ o407) (L_ o601))) (N_ o601 (N_ o238 (L_ o375) (L_ o508)) Y45)))) (N_ o45 (N_ o57 (N_ o76 (N_ o114 (N_ o180 (N_ o317 (L_ o603) Z_) (L_ o454)) (N_ o250 (L_ o603) (L_ o520))) (N_ o148 (N_ o603 (L_ o352) (L_ o488)) (N_ o601 (L_ o422) (L_ o601)))) (N_ o95 (N_ o603 (N_ o414 (N_ o336 (L_ o602) Z_) (L_ o603)) (N_ o266 (L_ o403) (L_ o536))) (N_ o164 (N_ o413 (L_ o601) (L_ o603)) (N_ o603 (L_ o438) (L_ o603))))) (N_ o603 (N_ o84 (N_ o122 (N_ o603 (N_ o414 (L_ o601) Z_) (L_ o462)) (N_ o603 (L_ o395) (L_ o603))) (N_ o603 (N_ o223 (L_ o413) (L_ o496)) (N_ o293 (L_ o603) (L_ o562)))) (N_ o106 Y1 (N_ o172 (N_ o601 (L_ o379) (L_ o601)) (N_ o309 (L_ o446) (L_ o578)))))))) (N_ W.boot_o_2 (N_ W.boot_o_4 (N_ W.boot_o_8 (N_ o601 (N_ o68 (N_ o109 (N_ o601 Y46 (L_ o601)) (N_ o245 (L_ o382) (L_ o515))) (N_ o143 (N_ o210 (L_ o347) (L_ o603)) (N_ o603 (L_ o417) (L_ o601)))) (N_ o414 (N_ o125 (N_ o191 (N_ o331 (L_ o597) Z_) (L_ o465)) (N_ o261 (L_ o603) (L_ o531))) (N_ o159 (N_ o226 (L_ o603) (L_ o499)) (N_ o296 (L_ o433) (L_ o565))))) (N_ o60 (N_ o79 (N_ o601 (N_ o183 (N_ o320 (L_ o603) Z_) (L_ o457)) (N_ o253 (L_ o390) (L_ o523))) (N_ o151 (N_ o218 (L_ o355) (L_ o601)) (N_ o288 (L_ o425) (L_ o557)))) (N_ o98 (N_ o603 (N_ o202 (N_ o339 (L_ o605) Z_) (L_ o475)) (N_ o269 (L_ o406) (L_ o603))) (N_ o603 (N_ o603 (L_ o374) (L_ o603)) (N_ o304 (L_ o603) (L_ o573)))))) (N_ o547 (N_ o56 (N_ o414 (N_ o113 (N_ o179 (N_ o316 (L_ o585) Z_) (L_ o453)) (N_ o601 (L_ o386) (L_ o601))) (N_ o601 (N_ o214 (L_ o603) (L_ o487)) Y45)) (N_ o94 (N_ o129 (N_ o413 (N_ o601 (L_ o601) Z_) (L_ o471)) (N_ o603 (L_ o402) (L_ o603))) (N_ o603 (N_ o230 (L_ o603) (L_ o503)) (N_ o300 (L_ o603) (L_ o569))))) (N_ o64 (N_ o83 (N_ o121 (N_ o187 (N_ o413 (L_ o603) Z_) (L_ o461)) (N_ o257 (L_ o603) (L_ o527))) (N_ o155 (N_ o603 (L_ o359) (L_ o495)) (N_ o601 (L_ o429) (L_ o601)))) (N_ o414 Y2 (N_ o171 Y45 (N_ o603 (L_ o445) (L_ o603))))))) (N_ W.boot_o_6 (N_ W.boot_o_10 (N_ o603 (N_ o70 (N_ o603 (N_ o603 (N_ o314 (L_ o583) Z_) (L_ o603)) (N_ o247 (L_ o603) (L_ o517))) (N_ o145 (N_ o603 (L_ o601) (L_ o485)) (N_ o282 (L_ o419) (L_ o551)))) (N_ o603 (N_ o127 (N_ o193 (N_ o333 (L_ o599) Z_) (L_ o603)) (N_ o601 (L_ o400) (L_ o601))) (N_ o601 (N_ o228 (L_ o368) (L_ o501)) Y45))) (N_ o601 (N_ o603 (N_ o603 (N_ o185 (N_ o322 (L_ o591) Z_) (L_ o459)) Y45) (N_ o603 (N_ o601 (L_ o357) (L_ o603)) (N_ o290 (L_ o603) (L_ o559)))) (N_ o100 Y3 (N_ o169 (N_ o239 (L_ o376) (L_ o509)) (N_ o601 (L_ o443) (L_ o601)))))) (N_ o46 (N_ o58 (N_ o603 (N_ o115 (N_ o603 (N_ o318 (L_ o601) Z_) (L_ o603)) (N_ o603 (L_ o388) (L_ o603))) (N_ o603 (N_ o216 (L_ o353) (L_ o489)) (N_ o286 (L_ o603) (L_ o555)))) (N_ o603 (N_ o601 (N_ o200 Y46 (L_ o473)) (N_ o267 (L_ o404) (L_ o537))) (N_ o165 (N_ o414 (L_ o372) (L_ o601)) (N_ o302 (L_ o439) (L_ o571))))) (N_ o66 (N_ o85 (N_ o603 (N_ o189 (N_ o329 (L_ o595) Z_) (L_ o463)) (N_ o259 (L_ o396) (L_ o529))) (N_ o157 (N_ o224 (L_ o414) (L_ o603)) (N_ o603 (L_ o431) (L_ o603)))) (N_ o603 Y4 (N_ o173 (N_ o243 (L_ o603) (L_ o513)) (N_ o310 (L_ o447) (L_ o579)))))))))
def My.h_sts_546 : (@List @Stmt) := [My.top 33, My.top 34, My.top 35, My.top 36, My.top 37, My.top 38, My.top 39, My.top 40, My.top 41]
def My.h_tree_545 : Params → W.BT := (N_ W.boot_o_0 (N_ W.boot_o_1 (N_ o467 (N_ W.boot_o_7 (N_ o603 (N_ o103 (N_ o601 (N_ o603 (L_ o311) (L_ o603)) (N_ o603 (L_ o381) (L_ o603))) (N_ o603 (N_ o209 (L_ o346) (L_ o482)) (N_ o279 (L_ o603) Z_))) (N_ o104 (N_ o601 (N_ o412 (L_ o603) (L_ o464)) (N_ o260 (L_ o397) (L_ o530))) (N_ o158 (N_ o225 (L_ o365) (L_ o601)) (N_ o295 (L_ o432) Z_)))) (N_ o414 (N_ o601 (N_ o603 (N_ o601 (L_ o319) (L_ o601)) (N_ o252 (L_ o389) (L_ o522))) (N_ o150 (N_ o217 (L_ o354) (L_ o603)) (N_ o603 (L_ o424) Z_))) (N_ o97 (N_ o132 (N_ o603 (L_ o338) (L_ o474)) (N_ o268 (L_ o405) (L_ o538))) (N_ o166 (N_ o236 (L_ o603) (L_ o506)) (N_ o303 (L_ o440) Z_))))) (N_ o603 (N_ o55 (N_ o104 (N_ o112 (N_ o178 (L_ o603) (L_ o452)) Y45) (N_ o603 (N_ o601 (L_ o350) (L_ o603)) (N_ o283 (L_ o603) Z_))) (N_ o601 (N_ o128 (N_ o194 (L_ o603) (L_ o601)) (N_ o264 (L_ o603) (L_ o534))) (N_ o162 (N_ o229 (L_ o369) (L_ o502)) (N_ o601 (L_ o436) Z_)))) (N_ o63 (N_ o82 (N_ o120 (N_ o186 (L_ o323) (L_ o460)) (N_ o601 (L_ o393) (L_ o601))) (N_ o601 (N_ o221 (L_ o358) (L_ o494)) Y47)) (N_ o104 Y0 (N_ o603 (N_ o240 (L_ o603) (L_ o510)) (N_ o307 (L_ o603) Z_)))))) (N_ W.boot_o_5 (N_ W.boot_o_9 (N_ o53 (N_ o69 (N_ o110 (N_ o176 (L_ o601) (L_ o450)) (N_ o246 (L_ o383) (L_ o516))) (N_ o144 (N_ o211 (L_ o603) (L_ o601)) (N_ o281 (L_ o418) Z_))) (N_ o91 (N_ o603 (N_ o192 (L_ o332) (L_ o466)) Y45) (N_ o603 (N_ o227 (L_ o367) (L_ o603)) (N_ o297 (L_ o603) Z_)))) (N_ o603 (N_ o80 (N_ o118 (N_ o603 (L_ o321) (L_ o603)) (N_ o254 (L_ o603) (L_ o524))) (N_ o152 (N_ o603 (L_ o356) (L_ o492)) (N_ o289 (L_ o426) Z_))) (N_ o99 (N_ o134 (N_ o203 (L_ o340) (L_ o603)) (N_ o270 (L_ o407) (L_ o601))) (N_ o601 (N_ o238 (L_ o375) (L_ o508)) Y47)))) (N_ o45 (N_ o57 (N_ o76 (N_ o114 (N_ o180 (L_ o317) (L_ o454)) (N_ o250 (L_ o603) (L_ o520))) (N_ o148 (N_ o603 (L_ o352) (L_ o488)) (N_ o601 (L_ o422) Z_))) (N_ o95 (N_ o603 (N_ o414 (L_ o336) (L_ o603)) (N_ o266 (L_ o403) (L_ o536))) (N_ o164 (N_ o413 (L_ o601) (L_ o603)) (N_ o603 (L_ o438) Z_)))) (N_ o603 (N_ o84 (N_ o122 (N_ o603 (L_ o414) (L_ o462)) (N_ o603 (L_ o395) (L_ o603))) (N_ o603 (N_ o223 (L_ o413) (L_ o496)) (N_ o293 (L_ o603) Z_))) (N_ o106 Y1 (N_ o172 (N_ o601 (L_ o379) (L_ o601)) (N_ o309 (L_ o446) Z_))))))) (N_ W.boot_o_2 (N_ W.boot_o_4 (N_ W.boot_o_8 (N_ o601 (N_ o68 (N_ o109 (N_ o601 (L_ o603) (L_ o601)) (N_ o245 (L_ o382) (L_ o515))) (N_ o143 (N_ o210 (L_ o347) (L_ o603)) (N_ o603 (L_ o417) Z_))) (N_ o414 (N_ o125 (N_ o191 (L_ o331) (L_ o465)) (N_ o261 (L_ o603) (L_ o531))) (N_ o159 (N_ o226 (L_ o603) (L_ o499)) (N_ o296 (L_ o433) Z_)))) (N_ o60 (N_ o79 (N_ o601 (N_ o183 (L_ o320) (L_ o457)) (N_ o253 (L_ o390) (L_ o523))) (N_ o151 (N_ o218 (L_ o355) (L_ o601)) (N_ o288 (L_ o425) Z_))) (N_ o98 (N_ o603 (N_ o202 (L_ o339) (L_ o475)) (N_ o269 (L_ o406) (L_ o603))) (N_ o603 (N_ o603 (L_ o374) (L_ o603)) (N_ o304 (L_ o603) Z_))))) (N_ o468 (N_ o56 (N_ o414 (N_ o113 (N_ o179 (L_ o316) (L_ o453)) (N_ o601 (L_ o386) (L_ o601))) (N_ o601 (N_ o214 (L_ o603) (L_ o487)) Y47)) (N_ o94 (N_ o129 (N_ o413 (L_ o601) (L_ o471)) (N_ o603 (L_ o402) (L_ o603))) (N_ o603 (N_ o230 (L_ o603) (L_ o503)) (N_ o300 (L_ o603) Z_)))) (N_ o64 (N_ o83 (N_ o121 (N_ o187 (L_ o413) (L_ o461)) (N_ o257 (L_ o603) (L_ o527))) (N_ o155 (N_ o603 (L_ o359) (L_ o495)) (N_ o601 (L_ o429) Z_))) (N_ o414 Y2 (N_ o171 Y45 (N_ o603 (L_ o445) Z_)))))) (N_ W.boot_o_6 (N_ W.boot_o_10 (N_ o603 (N_ o70 (N_ o603 (N_ o603 (L_ o314) (L_ o603)) (N_ o247 (L_ o603) (L_ o517))) (N_ o145 (N_ o603 (L_ o601) (L_ o485)) (N_ o282 (L_ o419) Z_))) (N_ o603 (N_ o127 (N_ o193 (L_ o333) (L_ o603)) (N_ o601 (L_ o400) (L_ o601))) (N_ o601 (N_ o228 (L_ o368) (L_ o501)) Y47))) (N_ o601 (N_ o603 (N_ o603 (N_ o185 (L_ o322) (L_ o459)) Y45) (N_ o603 (N_ o601 (L_ o357) (L_ o603)) (N_ o290 (L_ o603) Z_))) (N_ o100 Y3 (N_ o169 (N_ o239 (L_ o376) (L_ o509)) (N_ o601 (L_ o443) Z_))))) (N_ o46 (N_ o58 (N_ o603 (N_ o115 (N_ o603 (L_ o318) (L_ o603)) (N_ o603 (L_ o388) (L_ o603))) (N_ o603 (N_ o216 (L_ o353) (L_ o489)) (N_ o286 (L_ o603) Z_))) (N_ o603 (N_ o601 (N_ o200 (L_ o603) (L_ o473)) (N_ o267 (L_ o404) (L_ o537))) (N_ o165 (N_ o414 (L_ o372) (L_ o601)) (N_ o302 (L_ o439) Z_)))) (N_ o66 (N_ o85 (N_ o603 (N_ o189 (L_ o329) (L_ o463)) (N_ o259 (L_ o396) (L_ o529))) (N_ o157 (N_ o224 (L_ o414) (L_ o603)) (N_ o603 (L_ o431) Z_))) (N_ o603 Y4 (N_ o173 (N_ o243 (L_ o603) (L_ o513)) (N_ o310 (L_ o447) Z_))))))))
def My.h_sts_467 : (@List @Stmt) := [My.top 19, My.top 20, My.top 21, My.top 22, My.top 23, My.top 24, My.top 25, My.top 26, My.top 27, My.top 28, My.top 29, My.top 30, My.top 31, My.top 32]
def My.h_tree_466 : Params → W.BT := (N_ W.boot_o_0 (N_ W.boot_o_1 (N_ o410 (N_ W.boot_o_7 (N_ o603 (N_ o103 (N_ o601 (N_ o603 (L_ o311) (L_ o603)) (N_ o603 (L_ o381) Z_)) (N_ o603 (N_ o209 (L_ o346) Z_) (N_ o279 (L_ o603) Z_))) (N_ o104 (N_ o601 (N_ o412 (L_ o603) (L_ o464)) (N_ o260 (L_ o397) Z_)) (N_ o158 (N_ o225 (L_ o365) Z_) (N_ o295 (L_ o432) Z_)))) (N_ o414 (N_ o601 (N_ o603 (N_ o601 (L_ o319) (L_ o601)) (N_ o252 (L_ o389) Z_)) (N_ o150 (N_ o217 (L_ o354) Z_) (N_ o603 (L_ o424) Z_))) (N_ o97 Y5 (N_ o166 (N_ o236 (L_ o603) Z_) (N_ o303 (L_ o440) Z_))))) (N_ o603 (N_ o55 (N_ o104 (N_ o112 (N_ o178 (L_ o603) (L_ o452)) Y47) (N_ o603 (N_ o601 (L_ o350) Z_) (N_ o283 (L_ o603) Z_))) (N_ o601 Y6 (N_ o162 (N_ o229 (L_ o369) Z_) (N_ o601 (L_ o436) Z_)))) (N_ o63 (N_ o82 (N_ o120 (N_ o186 (L_ o323) (L_ o460)) (N_ o601 (L_ o393) Z_)) (N_ o601 (N_ o221 (L_ o358) Z_) Y47)) (N_ o104 Y7 (N_ o603 (N_ o240 (L_ o603) Z_) (N_ o307 (L_ o603) Z_)))))) (N_ W.boot_o_5 (N_ W.boot_o_9 (N_ o53 (N_ o69 (N_ o110 (N_ o176 (L_ o601) (L_ o450)) (N_ o246 (L_ o383) Z_)) (N_ o144 (N_ o211 (L_ o603) Z_) (N_ o281 (L_ o418) Z_))) (N_ o91 (N_ o603 (N_ o192 (L_ o332) (L_ o466)) Y47) (N_ o603 (N_ o227 (L_ o367) Z_) (N_ o297 (L_ o603) Z_)))) (N_ o603 (N_ o80 (N_ o118 (N_ o603 (L_ o321) (L_ o603)) (N_ o254 (L_ o603) Z_)) (N_ o152 (N_ o603 (L_ o356) Z_) (N_ o289 (L_ o426) Z_))) (N_ o99 Y8 (N_ o601 (N_ o238 (L_ o375) Z_) Y47)))) (N_ o45 (N_ o57 (N_ o76 (N_ o114 (N_ o180 (L_ o317) (L_ o454)) (N_ o250 (L_ o603) Z_)) (N_ o148 (N_ o603 (L_ o352) Z_) (N_ o601 (L_ o422) Z_))) (N_ o95 Y9 (N_ o164 Y48 (N_ o603 (L_ o438) Z_)))) (N_ o603 (N_ o84 (N_ o122 (N_ o603 (L_ o414) (L_ o462)) (N_ o603 (L_ o395) Z_)) (N_ o603 (N_ o223 (L_ o413) Z_) (N_ o293 (L_ o603) Z_))) (N_ o106 (N_ o414 (N_ o207 (L_ o603) Z_) (N_ o413 (L_ o414) Z_)) (N_ o172 (N_ o601 (L_ o379) Z_) (N_ o309 (L_ o446) Z_))))))) (N_ W.boot_o_2 (N_ W.boot_o_4 (N_ W.boot_o_8 (N_ o601 (N_ o68 (N_ o109 (N_ o601 (L_ o603) (L_ o601)) (N_ o245 (L_ o382) Z_)) (N_ o143 (N_ o210 (L_ o347) Z_) (N_ o603 (L_ o417) Z_))) (N_ o414 (N_ o125 (N_ o191 (L_ o331) (L_ o465)) (N_ o261 (L_ o603) Z_)) (N_ o159 (N_ o226 (L_ o603) Z_) (N_ o296 (L_ o433) Z_)))) (N_ o60 (N_ o79 (N_ o601 (N_ o183 (L_ o320) (L_ o457)) (N_ o253 (L_ o390) Z_)) (N_ o151 (N_ o218 (L_ o355) Z_) (N_ o288 (L_ o425) Z_))) (N_ o98 Y10 (N_ o603 (N_ o603 (L_ o374) Z_) (N_ o304 (L_ o603) Z_))))) (N_ o411 (N_ o56 (N_ o414 (N_ o113 (N_ o179 (L_ o316) (L_ o453)) (N_ o601 (L_ o386) Z_)) (N_ o601 (N_ o214 (L_ o603) Z_) Y47)) (N_ o94 Y11 (N_ o603 (N_ o230 (L_ o603) Z_) (N_ o300 (L_ o603) Z_)))) (N_ o64 (N_ o83 (N_ o121 (N_ o187 (L_ o413) (L_ o461)) (N_ o257 (L_ o603) Z_)) (N_ o155 (N_ o603 (L_ o359) Z_) (N_ o601 (L_ o429) Z_))) (N_ o414 (N_ o603 (N_ o601 (L_ o343) Z_) (N_ o273 (L_ o413) Z_)) (N_ o171 Y47 (N_ o603 (L_ o445) Z_)))))) (N_ W.boot_o_6 (N_ W.boot_o_10 (N_ o603 (N_ o70 (N_ o603 (N_ o603 (L_ o314) (L_ o603)) (N_ o247 (L_ o603) Z_)) (N_ o145 Y47 (N_ o282 (L_ o419) Z_))) (N_ o603 Y12 (N_ o601 (N_ o228 (L_ o368) Z_) Y47))) (N_ o601 (N_ o603 (N_ o603 (N_ o185 (L_ o322) (L_ o459)) Y47) (N_ o603 (N_ o601 (L_ o357) Z_) (N_ o290 (L_ o603) Z_))) (N_ o100 Y13 (N_ o169 (N_ o239 (L_ o376) Z_) (N_ o601 (L_ o443) Z_))))) (N_ o46 (N_ o58 (N_ o603 (N_ o115 (N_ o603 (L_ o318) (L_ o603)) (N_ o603 (L_ o388) Z_)) (N_ o603 (N_ o216 (L_ o353) Z_) (N_ o286 (L_ o603) Z_))) (N_ o603 Y14 (N_ o165 (N_ o414 (L_ o372) Z_) (N_ o302 (L_ o439) Z_)))) (N_ o66 (N_ o85 (N_ o603 (N_ o189 (L_ o329) (L_ o463)) (N_ o259 (L_ o396) Z_)) (N_ o157 (N_ o224 (L_ o414) Z_) (N_ o603 (L_ o431) Z_))) (N_ o603 (N_ o141 (N_ o603 (L_ o345) Z_) (N_ o414 (L_ o415) Z_)) (N_ o173 (N_ o243 (L_ o603) Z_) (N_ o310 (L_ o447) Z_))))))))
def My.h_sts_410 : (@List @Stmt) := [My.top 18]
def My.h_tree_409 : Params → W.BT := (N_ W.boot_o_0 (N_ W.boot_o_1 (N_ o360 (N_ W.boot_o_7 (N_ o603 (N_ o103 (N_ o601 (N_ o603 (L_ o311) Z_) (N_ o603 (L_ o381) Z_)) Y15) (N_ o104 (N_ o601 (N_ o362 (L_ o603) Z_) (N_ o260 (L_ o397) Z_)) (N_ o158 (N_ o225 (L_ o365) Z_) (L_ o295)))) (N_ o414 (N_ o601 (N_ o603 (N_ o601 (L_ o319) Z_) (N_ o252 (L_ o389) Z_)) Y16) (N_ o97 Y5 (N_ o166 (N_ o236 (L_ o603) Z_) (L_ o303))))) (N_ o603 (N_ o55 (N_ o104 (N_ o112 (N_ o178 (L_ o603) Z_) Y47) Y17) (N_ o601 Y6 (N_ o162 (N_ o229 (L_ o369) Z_) (L_ o601)))) (N_ o63 (N_ o82 (N_ o120 (N_ o186 (L_ o323) Z_) (N_ o601 (L_ o393) Z_)) Y18) (N_ o104 Y7 (N_ o603 (N_ o240 (L_ o603) Z_) (L_ o307)))))) (N_ W.boot_o_5 (N_ W.boot_o_9 (N_ o53 (N_ o69 (N_ o110 (N_ o176 (L_ o601) Z_) (N_ o246 (L_ o383) Z_)) Y19) (N_ o91 (N_ o603 (N_ o192 (L_ o332) Z_) Y47) (N_ o603 (N_ o227 (L_ o367) Z_) (L_ o297)))) (N_ o603 (N_ o80 (N_ o118 (N_ o603 (L_ o321) Z_) (N_ o254 (L_ o603) Z_)) Y20) (N_ o99 Y8 (N_ o601 (N_ o238 (L_ o375) Z_) (L_ o603))))) (N_ o45 (N_ o57 (N_ o76 (N_ o114 (N_ o180 (L_ o317) Z_) (N_ o250 (L_ o603) Z_)) Y21) (N_ o95 Y9 (N_ o164 Y48 (L_ o603)))) (N_ o603 (N_ o84 (N_ o122 (N_ o603 (L_ o414) Z_) (N_ o603 (L_ o395) Z_)) (N_ o603 (N_ o223 (L_ o413) Z_) (L_ o293))) (N_ o106 Y22 (N_ o172 (N_ o601 (L_ o379) Z_) (L_ o309))))))) (N_ W.boot_o_2 (N_ W.boot_o_4 (N_ W.boot_o_8 (N_ o601 (N_ o68 (N_ o109 Y49 (N_ o245 (L_ o382) Z_)) Y23) (N_ o414 (N_ o125 (N_ o191 (L_ o331) Z_) (N_ o261 (L_ o603) Z_)) (N_ o159 (N_ o226 (L_ o603) Z_) (L_ o296)))) (N_ o60 (N_ o79 (N_ o601 (N_ o183 (L_ o320) Z_) (N_ o253 (L_ o390) Z_)) Y24) (N_ o98 Y10 (N_ o603 (N_ o603 (L_ o374) Z_) (L_ o304))))) (N_ o361 (N_ o56 (N_ o414 (N_ o113 (N_ o179 (L_ o316) Z_) (N_ o601 (L_ o386) Z_)) Y25) (N_ o94 Y11 (N_ o603 (N_ o230 (L_ o603) Z_) (L_ o300)))) (N_ o64 (N_ o83 (N_ o121 (N_ o187 (L_ o413) Z_) (N_ o257 (L_ o603) Z_)) Y26) (N_ o414 Y27 (N_ o171 Y47 (L_ o603)))))) (N_ W.boot_o_6 (N_ W.boot_o_10 (N_ o603 (N_ o70 (N_ o603 (N_ o603 (L_ o314) Z_) (N_ o247 (L_ o603) Z_)) Y28) (N_ o603 Y12 (N_ o601 (N_ o228 (L_ o368) Z_) (L_ o603)))) (N_ o601 (N_ o603 (N_ o603 (N_ o185 (L_ o322) Z_) Y47) Y29) (N_ o100 Y13 (N_ o169 (N_ o239 (L_ o376) Z_) (L_ o601))))) (N_ o46 (N_ o58 (N_ o603 (N_ o115 (N_ o603 (L_ o318) Z_) (N_ o603 (L_ o388) Z_)) Y30) (N_ o603 Y14 (N_ o165 (N_ o414 (L_ o372) Z_) (L_ o302)))) (N_ o66 (N_ o85 (N_ o603 (N_ o189 (L_ o329) Z_) (N_ o259 (L_ o396) Z_)) (N_ o157 (N_ o224 (L_ o414) Z_) (L_ o603))) (N_ o603 Y31 (N_ o173 (N_ o243 (L_ o603) Z_) (L_ o310))))))))
def My.h_sts_360 : (@List @Stmt) := [My.top 17]
def My.h_tree_359 : Params → W.BT := (N_ W.boot_o_0 (N_ W.boot_o_1 (N_ o324 (N_ W.boot_o_7 (N_ o603 (N_ o103 Y32 Y15) (N_ o104 (N_ o601 (N_ o326 (L_ o603) Z_) (L_ o260)) (N_ o158 (L_ o225) (L_ o295)))) (N_ o414 (N_ o601 Y33 Y16) (N_ o97 (N_ o132 (N_ o603 (L_ o338) Z_) (L_ o268)) (N_ o166 (L_ o236) (L_ o303))))) (N_ o603 (N_ o55 (N_ o104 Y34 Y17) (N_ o601 (N_ o128 (N_ o194 (L_ o603) Z_) (L_ o264)) (N_ o162 (L_ o229) (L_ o601)))) (N_ o63 (N_ o82 Y35 Y18) (N_ o104 (N_ o136 Y47 (L_ o272)) (N_ o603 (L_ o240) (L_ o307)))))) (N_ W.boot_o_5 (N_ W.boot_o_9 (N_ o53 (N_ o69 Y36 Y19) (N_ o91 (N_ o603 (N_ o192 (L_ o332) Z_) (L_ o603)) (N_ o603 (L_ o227) (L_ o297)))) (N_ o603 (N_ o80 Y37 Y20) (N_ o99 (N_ o134 (N_ o203 (L_ o340) Z_) (L_ o270)) (N_ o601 (L_ o238) (L_ o603))))) (N_ o45 (N_ o57 (N_ o76 Y38 Y21) (N_ o95 (N_ o603 (N_ o414 (L_ o336) Z_) (L_ o266)) (N_ o164 (L_ o413) (L_ o603)))) (N_ o603 (N_ o84 (N_ o122 (N_ o603 (L_ o414) Z_) (L_ o603)) (N_ o603 (L_ o223) (L_ o293))) (N_ o106 Y22 (N_ o172 (L_ o601) (L_ o309))))))) (N_ W.boot_o_2 (N_ W.boot_o_4 (N_ W.boot_o_8 (N_ o601 (N_ o68 Y39 Y23) (N_ o414 (N_ o125 (N_ o191 (L_ o331) Z_) (L_ o261)) (N_ o159 (L_ o226) (L_ o296)))) (N_ o60 (N_ o79 Y40 Y24) (N_ o98 (N_ o603 (N_ o202 (L_ o339) Z_) (L_ o269)) (N_ o603 (L_ o603) (L_ o304))))) (N_ o325 (N_ o56 (N_ o414 Y41 Y25) (N_ o94 (N_ o129 Y48 (L_ o603)) (N_ o603 (L_ o230) (L_ o300)))) (N_ o64 (N_ o83 (N_ o121 (N_ o187 (L_ o413) Z_) (L_ o257)) Y26) (N_ o414 Y27 (N_ o171 (L_ o603) (L_ o603)))))) (N_ W.boot_o_6 (N_ W.boot_o_10 (N_ o603 (N_ o70 Y42 Y28) (N_ o603 (N_ o127 (N_ o193 (L_ o333) Z_) (L_ o601)) (N_ o601 (L_ o228) (L_ o603)))) (N_ o601 (N_ o603 Y43 Y29) (N_ o100 (N_ o135 (N_ o204 (L_ o603) Z_) (L_ o271)) (N_ o169 (L_ o239) (L_ o601))))) (N_ o46 (N_ o58 (N_ o603 Y44 Y30) (N_ o603 (N_ o601 (N_ o200 (L_ o603) Z_) (L_ o267)) (N_ o165 (L_ o414) (L_ o302)))) (N_ o66 (N_ o85 (N_ o603 (N_ o189 (L_ o329) Z_) (L_ o259)) (N_ o157 (L_ o224) (L_ o603))) (N_ o603 Y31 (N_ o173 (L_ o243) (L_ o310))))))))
def My.h_sts_324 : (@List @Stmt) := [My.top 16]
def My.h_tree_323 : Params → W.BT := (N_ W.boot_o_0 (N_ W.boot_o_1 (N_ o274 (N_ W.boot_o_7 (N_ o603 (N_ o103 Y32 (N_ o603 (L_ o209) (L_ o279))) (N_ o104 (N_ o601 (L_ o276) (L_ o260)) (N_ o158 (L_ o225) (L_ o295)))) (N_ o414 (N_ o601 Y33 (N_ o150 (L_ o217) (L_ o603))) (N_ o97 (N_ o132 (L_ o603) (L_ o268)) (N_ o166 (L_ o236) (L_ o303))))) (N_ o603 (N_ o55 (N_ o104 Y34 (N_ o603 (L_ o601) (L_ o283))) (N_ o601 (N_ o128 (L_ o194) (L_ o264)) (N_ o162 (L_ o229) (L_ o601)))) (N_ o63 (N_ o82 Y35 (N_ o601 (L_ o221) (L_ o603))) (N_ o104 (N_ o136 (L_ o603) (L_ o272)) (N_ o603 (L_ o240) (L_ o307)))))) (N_ W.boot_o_5 (N_ W.boot_o_9 (N_ o53 (N_ o69 Y36 (N_ o144 (L_ o211) (L_ o281))) (N_ o91 (N_ o603 (L_ o192) (L_ o603)) (N_ o603 (L_ o227) (L_ o297)))) (N_ o603 (N_ o80 Y37 (N_ o152 (L_ o603) (L_ o289))) (N_ o99 (N_ o134 (L_ o203) (L_ o270)) (N_ o601 (L_ o238) (L_ o603))))) (N_ o45 (N_ o57 (N_ o76 Y38 (N_ o148 (L_ o603) (L_ o601))) (N_ o95 (N_ o603 (L_ o414) (L_ o266)) (N_ o164 (L_ o413) (L_ o603)))) (N_ o603 (N_ o84 (N_ o122 (L_ o603) (L_ o603)) (N_ o603 (L_ o223) (L_ o293))) (N_ o106 (N_ o414 (L_ o207) (L_ o413)) (N_ o172 (L_ o601) (L_ o309))))))) (N_ W.boot_o_2 (N_ W.boot_o_4 (N_ W.boot_o_8 (N_ o601 (N_ o68 Y39 (N_ o143 (L_ o210) (L_ o603))) (N_ o414 (N_ o125 (L_ o191) (L_ o261)) (N_ o159 (L_ o226) (L_ o296)))) (N_ o60 (N_ o79 Y40 (N_ o151 (L_ o218) (L_ o288))) (N_ o98 (N_ o603 (L_ o202) (L_ o269)) (N_ o603 (L_ o603) (L_ o304))))) (N_ o275 (N_ o56 (N_ o414 Y41 (N_ o601 (L_ o214) (L_ o603))) (N_ o94 (N_ o129 (L_ o413) (L_ o603)) (N_ o603 (L_ o230) (L_ o300)))) (N_ o64 (N_ o83 (N_ o121 (L_ o187) (L_ o257)) (N_ o155 (L_ o603) (L_ o601))) (N_ o414 (N_ o603 (L_ o601) (L_ o273)) (N_ o171 (L_ o603) (L_ o603)))))) (N_ W.boot_o_6 (N_ W.boot_o_10 (N_ o603 (N_ o70 Y42 (N_ o145 (L_ o603) (L_ o282))) (N_ o603 (N_ o127 (L_ o193) (L_ o601)) (N_ o601 (L_ o228) (L_ o603)))) (N_ o601 (N_ o603 Y43 (N_ o603 (L_ o601) (L_ o290))) (N_ o100 (N_ o135 (L_ o204) (L_ o271)) (N_ o169 (L_ o239) (L_ o601))))) (N_ o46 (N_ o58 (N_ o603 Y44 (N_ o603 (L_ o216) (L_ o286))) (N_ o603 (N_ o601 (L_ o200) (L_ o267)) (N_ o165 (L_ o414) (L_ o302)))) (N_ o66 (N_ o85 (N_ o603 (L_ o189) (L_ o259)) (N_ o157 (L_ o224) (L_ o603))) (N_ o603 (N_ o141 (L_ o603) (L_ o414)) (N_ o173 (L_ o243) (L_ o310))))))))
def My.h_sts_274 : (@List @Stmt) := [My.top 15]
def My.h_tree_273 : Params → W.BT := (N_ W.boot_o_0 (N_ W.boot_o_1 (N_ o231 (N_ W.boot_o_7 (N_ o603 (N_ o103 (N_ o601 (L_ o603) (L_ o603)) (N_ o603 (L_ o209) Z_)) (N_ o104 (N_ o601 (L_ o233) (L_ o260)) (N_ o158 (L_ o225) Z_))) (N_ o414 (N_ o601 (N_ o603 (L_ o601) (L_ o252)) (N_ o150 (L_ o217) Z_)) (N_ o97 (N_ o132 (L_ o603) (L_ o268)) (N_ o166 (L_ o236) Z_)))) (N_ o603 (N_ o55 (N_ o104 (N_ o112 (L_ o178) (L_ o603)) Y47) (N_ o601 (N_ o128 (L_ o194) (L_ o264)) (N_ o162 (L_ o229) Z_))) (N_ o63 (N_ o82 (N_ o120 (L_ o186) (L_ o601)) (N_ o601 (L_ o221) Z_)) (N_ o104 (N_ o136 (L_ o603) (L_ o272)) (N_ o603 (L_ o240) Z_))))) (N_ W.boot_o_5 (N_ W.boot_o_9 (N_ o53 (N_ o69 (N_ o110 (L_ o176) (L_ o246)) (N_ o144 (L_ o211) Z_)) (N_ o91 (N_ o603 (L_ o192) (L_ o603)) (N_ o603 (L_ o227) Z_))) (N_ o603 (N_ o80 (N_ o118 (L_ o603) (L_ o254)) (N_ o152 (L_ o603) Z_)) (N_ o99 (N_ o134 (L_ o203) (L_ o270)) (N_ o601 (L_ o238) Z_)))) (N_ o45 (N_ o57 (N_ o76 (N_ o114 (L_ o180) (L_ o250)) (N_ o148 (L_ o603) Z_)) (N_ o95 (N_ o603 (L_ o414) (L_ o266)) (N_ o164 (L_ o413) Z_))) (N_ o603 (N_ o84 (N_ o122 (L_ o603) (L_ o603)) (N_ o603 (L_ o223) Z_)) (N_ o106 (N_ o414 (L_ o207) Z_) (N_ o172 (L_ o601) Z_)))))) (N_ W.boot_o_2 (N_ W.boot_o_4 (N_ W.boot_o_8 (N_ o601 (N_ o68 (N_ o109 (L_ o601) (L_ o245)) (N_ o143 (L_ o210) Z_)) (N_ o414 (N_ o125 (L_ o191) (L_ o261)) (N_ o159 (L_ o226) Z_))) (N_ o60 (N_ o79 (N_ o601 (L_ o183) (L_ o253)) (N_ o151 (L_ o218) Z_)) (N_ o98 (N_ o603 (L_ o202) (L_ o269)) Y46))) (N_ o232 (N_ o56 (N_ o414 (N_ o113 (L_ o179) (L_ o601)) (N_ o601 (L_ o214) Z_)) (N_ o94 (N_ o129 (L_ o413) (L_ o603)) (N_ o603 (L_ o230) Z_))) (N_ o64 (N_ o83 (N_ o121 (L_ o187) (L_ o257)) (N_ o155 (L_ o603) Z_)) (N_ o414 (N_ o603 (L_ o601) (L_ o273)) (N_ o171 (L_ o603) Z_))))) (N_ W.boot_o_6 (N_ W.boot_o_10 (N_ o603 (N_ o70 (N_ o603 (L_ o603) (L_ o247)) (N_ o145 (L_ o603) Z_)) (N_ o603 (N_ o127 (L_ o193) (L_ o601)) (N_ o601 (L_ o228) Z_))) (N_ o601 (N_ o603 (N_ o603 (L_ o185) (L_ o603)) Y47) (N_ o100 (N_ o135 (L_ o204) (L_ o271)) (N_ o169 (L_ o239) Z_)))) (N_ o46 (N_ o58 (N_ o603 (N_ o115 (L_ o603) (L_ o603)) (N_ o603 (L_ o216) Z_)) (N_ o603 (N_ o601 (L_ o200) (L_ o267)) (N_ o165 (L_ o414) Z_))) (N_ o66 (N_ o85 (N_ o603 (L_ o189) (L_ o259)) (N_ o157 (L_ o224) Z_)) (N_ o603 (N_ o141 (L_ o603) Z_) (N_ o173 (L_ o243) Z_)))))))
def My.h_sts_231 : (@List @Stmt) := [My.top 14]
def My.h_tree_230 : Params → W.BT := (N_ W.boot_o_0 (N_ W.boot_o_1 (N_ o195 (N_ W.boot_o_7 (N_ o603 (N_ o103 Y49 (N_ o603 (L_ o209) Z_)) (N_ o104 (N_ o601 (L_ o197) Z_) (N_ o158 (L_ o225) Z_))) (N_ o414 (N_ o601 Y47 (N_ o150 (L_ o217) Z_)) (N_ o97 (N_ o132 (L_ o603) Z_) (L_ o166)))) (N_ o603 (N_ o55 (N_ o104 (N_ o112 (L_ o178) Z_) Y47) (N_ o601 (N_ o128 (L_ o194) Z_) (N_ o162 (L_ o229) Z_))) (N_ o63 (N_ o82 (N_ o120 (L_ o186) Z_) (N_ o601 (L_ o221) Z_)) (N_ o104 (N_ o136 (L_ o603) Z_) (L_ o603))))) (N_ W.boot_o_5 (N_ W.boot_o_9 (N_ o53 (N_ o69 (N_ o110 (L_ o176) Z_) (N_ o144 (L_ o211) Z_)) (N_ o91 (N_ o603 (L_ o192) Z_) (N_ o603 (L_ o227) Z_))) (N_ o603 (N_ o80 (N_ o118 (L_ o603) Z_) (N_ o152 (L_ o603) Z_)) (N_ o99 (N_ o134 (L_ o203) Z_) (L_ o601)))) (N_ o45 (N_ o57 (N_ o76 (N_ o114 (L_ o180) Z_) (N_ o148 (L_ o603) Z_)) (N_ o95 (N_ o603 (L_ o414) Z_) (L_ o164))) (N_ o603 (N_ o84 (N_ o122 (L_ o603) Z_) (N_ o603 (L_ o223) Z_)) (N_ o106 (N_ o414 (L_ o207) Z_) (L_ o172)))))) (N_ W.boot_o_2 (N_ W.boot_o_4 (N_ W.boot_o_8 (N_ o601 (N_ o68 (N_ o109 (L_ o601) Z_) (N_ o143 (L_ o210) Z_)) (N_ o414 (N_ o125 (L_ o191) Z_) (N_ o159 (L_ o226) Z_))) (N_ o60 (N_ o79 (N_ o601 (L_ o183) Z_) (N_ o151 (L_ o218) Z_)) (N_ o98 (N_ o603 (L_ o202) Z_) (L_ o603)))) (N_ o196 (N_ o56 (N_ o414 (N_ o113 (L_ o179) Z_) (N_ o601 (L_ o214) Z_)) (N_ o94 (N_ o129 (L_ o413) Z_) (N_ o603 (L_ o230) Z_))) (N_ o64 (N_ o83 (N_ o121 (L_ o187) Z_) (N_ o155 (L_ o603) Z_)) (N_ o414 Y47 (L_ o171))))) (N_ W.boot_o_6 (N_ W.boot_o_10 (N_ o603 (N_ o70 Y46 (N_ o145 (L_ o603) Z_)) (N_ o603 (N_ o127 (L_ o193) Z_) (N_ o601 (L_ o228) Z_))) (N_ o601 (N_ o603 (N_ o603 (L_ o185) Z_) Y47) (N_ o100 (N_ o135 (L_ o204) Z_) (L_ o169)))) (N_ o46 (N_ o58 (N_ o603 (N_ o115 (L_ o603) Z_) (N_ o603 (L_ o216) Z_)) (N_ o603 (N_ o601 (L_ o200) Z_) (L_ o165))) (N_ o66 (N_ o85 (N_ o603 (L_ o189) Z_) (N_ o157 (L_ o224) Z_)) (N_ o603 (N_ o141 (L_ o603) Z_) (L_ o173)))))))
def My.h_sts_195 : (@List @Stmt) := [My.top 13]
def My.h_tree_194 : Params → W.BT := (N_ W.boot_o_0 (N_ W.boot_o_1 (N_ o137 (N_ W.boot_o_7 (N_ o603 (N_ o103 Y49 (L_ o603)) (N_ o104 (N_ o601 (L_ o190) Z_) (L_ o158))) (N_ o414 (N_ o601 Y47 (L_ o150)) (N_ o97 (L_ o132) (L_ o166)))) (N_ o603 (N_ o55 (N_ o104 (N_ o112 (L_ o178) Z_) (L_ o603)) (N_ o601 (N_ o128 (L_ o194) Z_) (L_ o162))) (N_ o63 (N_ o82 (N_ o120 (L_ o186) Z_) (L_ o601)) (N_ o104 (L_ o136) (L_ o603))))) (N_ W.boot_o_5 (N_ W.boot_o_9 (N_ o53 (N_ o69 (N_ o110 (L_ o176) Z_) (L_ o144)) (N_ o91 (N_ o603 (L_ o192) Z_) (L_ o603))) (N_ o603 (N_ o80 (N_ o118 (L_ o603) Z_) (L_ o152)) (N_ o99 (L_ o134) (L_ o601)))) (N_ o45 (N_ o57 (N_ o76 (N_ o114 (L_ o180) Z_) (L_ o148)) (N_ o95 (L_ o603) (L_ o164))) (N_ o603 (N_ o84 (N_ o122 (L_ o603) Z_) (L_ o603)) (N_ o106 (L_ o414) (L_ o172)))))) (N_ W.boot_o_2 (N_ W.boot_o_4 (N_ W.boot_o_8 (N_ o601 (N_ o68 (N_ o109 (L_ o601) Z_) (L_ o143)) (N_ o414 (N_ o125 (L_ o191) Z_) (L_ o159))) (N_ o60 (N_ o79 (N_ o601 (L_ o183) Z_) (L_ o151)) (N_ o98 (L_ o603) (L_ o603)))) (N_ o138 (N_ o56 (N_ o414 (N_ o113 (L_ o179) Z_) (L_ o601)) (N_ o94 (L_ o129) (L_ o603))) (N_ o64 (N_ o83 (N_ o121 (L_ o187) Z_) (L_ o155)) (N_ o414 (L_ o603) (L_ o171))))) (N_ W.boot_o_6 (N_ W.boot_o_10 (N_ o603 (N_ o70 Y46 (L_ o145)) (N_ o603 (N_ o127 (L_ o193) Z_) (L_ o601))) (N_ o601 (N_ o603 (N_ o603 (L_ o185) Z_) (L_ o603)) (N_ o100 (L_ o135) (L_ o169)))) (N_ o46 (N_ o58 (N_ o603 (N_ o115 (L_ o603) Z_) (L_ o603)) (N_ o603 (L_ o601) (L_ o165))) (N_ o66 (N_ o85 (N_ o603 (L_ o189) Z_) (L_ o157)) (N_ o603 (L_ o141) (L_ o173)))))))
def My.h_sts_137 : (@List @Stmt) := [My.top 12]
def My.h_tree_136 : Params → W.BT := (N_ W.boot_o_0 (N_ W.boot_o_1 (N_ o101 (N_ W.boot_o_7 (N_ o603 (N_ o103 (L_ o601) Z_) (N_ o104 (L_ o601) Z_)) (N_ o414 Y49 (N_ o97 (L_ o132) Z_))) (N_ o603 (N_ o55 (N_ o104 (L_ o112) Z_) (N_ o601 (L_ o128) Z_)) (N_ o63 (N_ o82 (L_ o120) Z_) (N_ o104 (L_ o136) Z_)))) (N_ W.boot_o_5 (N_ W.boot_o_9 (N_ o53 (N_ o69 (L_ o110) Z_) (N_ o91 (L_ o603) Z_)) (N_ o603 (N_ o80 (L_ o118) Z_) (N_ o99 (L_ o134) Z_))) (N_ o45 (N_ o57 (N_ o76 (L_ o114) Z_) (N_ o95 (L_ o603) Z_)) (N_ o603 (N_ o84 (L_ o122) Z_) (L_ o106))))) (N_ W.boot_o_2 (N_ W.boot_o_4 (N_ W.boot_o_8 (N_ o601 (N_ o68 (L_ o109) Z_) (N_ o414 (L_ o125) Z_)) (N_ o60 (N_ o79 (L_ o601) Z_) (N_ o98 (L_ o603) Z_))) (N_ o102 (N_ o56 (N_ o414 (L_ o113) Z_) (N_ o94 (L_ o129) Z_)) (N_ o64 (N_ o83 (L_ o121) Z_) (L_ o414)))) (N_ W.boot_o_6 (N_ W.boot_o_10 (N_ o603 (N_ o70 (L_ o603) Z_) (N_ o603 (L_ o127) Z_)) (N_ o601 Y46 (N_ o100 (L_ o135) Z_))) (N_ o46 (N_ o58 (N_ o603 (L_ o115) Z_) Y47) (N_ o66 (N_ o85 (L_ o603) Z_) (L_ o603))))))
def My.h_sts_101 : (@List @Stmt) := [My.top 5, My.top 6, My.top 7, My.top 8, My.top 9, My.top 10, My.top 11]
def My.h_tree_100 : Params → W.BT := (N_ W.boot_o_0 (N_ W.boot_o_1 (N_ o86 (N_ W.boot_o_7 (N_ o603 (L_ o88) (L_ o104)) (N_ o414 (L_ o601) (L_ o97))) (N_ o603 (N_ o55 (L_ o104) (L_ o601)) (N_ o63 (L_ o82) Z_))) (N_ W.boot_o_5 (N_ W.boot_o_9 (N_ o53 (L_ o69) (L_ o91)) (N_ o603 (L_ o80) (L_ o99))) (N_ o45 (N_ o57 (L_ o76) (L_ o95)) (N_ o603 (L_ o84) Z_)))) (N_ W.boot_o_2 (N_ W.boot_o_4 (N_ W.boot_o_8 (N_ o601 (L_ o68) (L_ o414)) (N_ o60 (L_ o79) (L_ o98))) (N_ o87 (N_ o56 (L_ o414) (L_ o94)) (N_ o64 (L_ o83) Z_))) (N_ W.boot_o_6 (N_ W.boot_o_10 (N_ o603 (L_ o70) (L_ o603)) (N_ o601 (L_ o603) (L_ o100))) (N_ o46 (N_ o58 (L_ o603) (L_ o603)) (N_ o66 (L_ o85) Z_)))))
def My.h_sts_86 : (@List @Stmt) := [My.top 4]
def My.h_tree_85 : Params → W.BT := (N_ W.boot_o_0 (N_ W.boot_o_1 (N_ o71 (N_ W.boot_o_7 (N_ o603 (L_ o73) Z_) (N_ o414 (L_ o601) Z_)) (N_ o603 (N_ o55 (L_ o104) Z_) (N_ o63 (L_ o82) Z_))) (N_ W.boot_o_5 (N_ W.boot_o_9 (N_ o53 (L_ o69) Z_) (N_ o603 (L_ o80) Z_)) (N_ o45 (N_ o57 (L_ o76) Z_) (N_ o603 (L_ o84) Z_)))) (N_ W.boot_o_2 (N_ W.boot_o_4 (N_ W.boot_o_8 (N_ o601 (L_ o68) Z_) (N_ o60 (L_ o79) Z_)) (N_ o72 (N_ o56 (L_ o414) Z_) (N_ o64 (L_ o83) Z_))) (N_ W.boot_o_6 (N_ W.boot_o_10 (N_ o603 (L_ o70) Z_) Y49) (N_ o46 (N_ o58 (L_ o603) Z_) (N_ o66 (L_ o85) Z_)))))
def My.h_sts_71 : (@List @Stmt) := [My.top 3]
def My.h_tree_70 : Params → W.BT := (N_ W.boot_o_0 (N_ W.boot_o_1 (N_ o49 (N_ W.boot_o_7 (N_ o603 (L_ o67) Z_) (L_ o414)) (N_ o603 (L_ o55) (L_ o63))) (N_ W.boot_o_5 (N_ W.boot_o_9 (N_ o53 (L_ o69) Z_) (L_ o603)) (N_ o45 (L_ o57) (L_ o603)))) (N_ W.boot_o_2 (N_ W.boot_o_4 (N_ W.boot_o_8 (N_ o601 (L_ o68) Z_) (L_ o60)) (N_ o50 (L_ o56) (L_ o64))) (N_ W.boot_o_6 (N_ W.boot_o_10 (N_ o603 (L_ o70) Z_) (L_ o601)) (N_ o46 (L_ o58) (L_ o66)))))
def My.h_sts_49 : (@List @Stmt) := [My.top 0, My.top 1, My.top 2]
def My.h_tree_47 : Params → W.BT := (N_ W.boot_o_0 (N_ W.boot_o_1 (N_ W.boot_o_3 (L_ W.boot_o_7) (L_ o603)) (N_ W.boot_o_5 (L_ W.boot_o_9) (L_ o45))) (N_ W.boot_o_2 (N_ W.boot_o_4 (L_ W.boot_o_8) (L_ o601)) (N_ W.boot_o_6 (L_ W.boot_o_10) (L_ o46))))
def My.h_heap_46 : ((x : @Params) → @Heap) := (fun x => (@Heap.mk (@Array.mk @Obj [(@W.boot_o_0 x), (@W.boot_o_1 x), (@W.boot_o_2 x), (@W.boot_o_3 x), (@W.boot_o_4 x), (@W.boot_o_5 x), (@W.boot_o_6 x), (@W.boot_o_7 x), (@W.boot_o_8 x), (@W.boot_o_9 x), (@W.boot_o_10 x), (o603 x), (o601 x), (o45 x), (o46 x)]) (@Life.mk [] [] [] 0 (@List.nil (@Prod @Nat @Nat)) [] @Bool.false #[] [] 0 @Bool.false @Bool.false @Bool.false (0 : Int) [(2000 : Int), (10 : Int), (10 : Int)] @Bool.false 0 @Bool.true [] [] 0 @Bool.false)))
abbrev My.k0 := (@Life.mk [] [] [] 0 (@List.nil (@Prod @Nat @Nat)) [] @Bool.false #[] [] 0 @Bool.false @Bool.false @Bool.false (0 : Int) [(2000 : Int), (10 : Int), (10 : Int)] @Bool.false 0 @Bool.true [] [] 0 @Bool.false)
abbrev My.S_ (t : Params → W.BT) (n k : Nat) (w : World) (o : OsState) : W.SharedT := W.SharedT.mk (t w.params) n k0 g_ d_ k o
abbrev My.k1 := (@W.OpenRow.toRowW (@W.OpenLaw.row @Challenge.rw_oddbases_k41_order_by_numbers))
abbrev My.k2 (x0 : World) (x1 : OsState) := (@Shared.mk (@h_heap_607 x0.params) g_ d_ 868 x1)
abbrev My.k3 := (@Code.body (@W.behindTheImports (k1).1) @h_env_41)
abbrev My.k4 := (@HAppend.hAppend (@List @Stmt) (@List @Stmt) (@List @Stmt) (@instHAppendOfAppend (@List @Stmt) (@List.instAppend @Stmt)) @h_sts_274 (@HAppend.hAppend (@List @Stmt) (@List @Stmt) (@List @Stmt) (@instHAppendOfAppend (@List @Stmt) (@List.instAppend @Stmt)) @h_sts_324 (@HAppend.hAppend (@List @Stmt) (@List @Stmt) (@List @Stmt) (@instHAppendOfAppend (@List @Stmt) (@List.instAppend @Stmt)) @h_sts_360 (@HAppend.hAppend (@List @Stmt) (@List @Stmt) (@List @Stmt) (@instHAppendOfAppend (@List @Stmt) (@List.instAppend @Stmt)) @h_sts_410 (@HAppend.hAppend (@List @Stmt) (@List @Stmt) (@List @Stmt) (@instHAppendOfAppend (@List @Stmt) (@List.instAppend @Stmt)) @h_sts_467 (@HAppend.hAppend (@List @Stmt) (@List @Stmt) (@List @Stmt) (@instHAppendOfAppend (@List @Stmt) (@List.instAppend @Stmt)) @h_sts_546 []))))))
abbrev My.k5 := (@Prod (@Prod (@List (@Option @FnShape)) @Bool) (@Prod (@List (@Option @PyProof.Rows.PlainShape)) (@Prod (@List (@Option (@Prod @PyProof.Rows.PlainShape @Bool))) (@Prod (@Prod (@List (@Option @FnShape)) @Bool) (@List (@Prod (@Option (@Prod (@List (@Option @FnShape)) @Bool)) (@Option (@Prod @PyProof.Rows.PlainShape @Bool))))))))
abbrev My.k6 := (@Prod @Flow (@Prod @Shared (@Prod @Code @Pos)))
abbrev My.k7 := (@Prod @Flow (@Prod @W.SharedT (@Prod @Code @Pos)))
abbrev My.k8 := (@instHAppendOfAppend (@List @Stmt) (@List.instAppend @Stmt))
abbrev My.k9 (x0 : World) (x1 : OsState) := (@ite @Bool (@Eq @Bool @Bool.true @Bool.true) (@instDecidableEqBool @Bool.true @Bool.true) (@BEq.beq @Nat (@instBEqOfDecidableEq @Nat @instDecidableEqNat) (@Array.size @GenState (@Shared.gens (k2 x0 x1))) 0) (@Bool.not (@leftWithCleanup (@Shared.gens (k2 x0 x1)))))
abbrev My.k10 := (@Nat.add 331 (@Nat.add 382 (@Nat.add 310 (@Nat.add 342 (@Nat.add 374 (@Nat.add 310 (@Nat.add 375 (@Nat.add 406 (@Nat.add 376 (@Nat.add 280 2))))))))))
abbrev My.k11 := (@Bool.true, ((@pinGoodD (@PyProof.Rows.drecsOf @h_view_39)), ((@PyProof.Rows.plainGoodE @h_view_39 (@W.looseW @h_view_39 [])), ((@PyProof.Rows.plainGoodD @h_view_39 []), ((@W.wideGood @h_view_39), (@W.clsGoodW @h_view_39 []))))))
abbrev My.k12 := (@List (@Prod (@Option (@Prod (@List (@Option @FnShape)) @Bool)) (@Option (@Prod @PyProof.Rows.PlainShape @Bool))))
abbrev My.k13 (x0 : World) (x1 : OsState) := (@Bool.and (@Bool.and (@Bool.and (@W.staticsOk (@importedModules (@Module.body (@Program.main (k1).1))) (@W.boot_heap x0.params) (@h_heap_607 x0.params)) (@W.namesBound (k1).1 (@h_heap_607 x0.params))) (@W.gensDone (k2 x0 x1))) (@W.laidKept (@W.boot_heap x0.params) (@h_heap_607 x0.params)))
abbrev My.k14 := (@HAppend.hAppend (@List @Stmt) (@List @Stmt) (@List @Stmt) k8 @h_sts_137 (@HAppend.hAppend (@List @Stmt) (@List @Stmt) (@List @Stmt) k8 @h_sts_195 (@HAppend.hAppend (@List @Stmt) (@List @Stmt) (@List @Stmt) k8 @h_sts_231 k4)))
abbrev My.k15 := (@Prod (@Prod (@Option @Str) (@List (@Prod @Str @Value))) (@Prod @Bool (@Prod @Bool k5)))
abbrev My.k16 (x0 : World) (x1 : OsState) := (@PyProof.Rows.plainSeenE @h_view_39 (@W.looseW @h_view_39 []) (k2 x0 x1))
abbrev My.k17 := (@Eq.refl (@List @Addr) My.myAs)
abbrev My.k18 := (@HAppend.hAppend (@List @Stmt) (@List @Stmt) (@List @Stmt) k8 @h_sts_410 (@HAppend.hAppend (@List @Stmt) (@List @Stmt) (@List @Stmt) k8 @h_sts_467 (@HAppend.hAppend (@List @Stmt) (@List @Stmt) (@List @Stmt) k8 @h_sts_546 [])))
abbrev My.k19 := (@importedModules (@Module.body (@Program.main (k1).1)))
abbrev My.k20 (x0 : World) (x1 : OsState) := (@pinSeenD @h_view_39 (@PyProof.Rows.drecsOf @h_view_39) (k2 x0 x1))
abbrev My.k21 (x0 : World) (x1 : OsState) := (@PyProof.Rows.plainSeenD @h_view_39 [] (k2 x0 x1))
abbrev My.k22 := (@Prod (@List (@Option @FnShape)) @Bool)
abbrev My.k23 (x0 : World) (x1 : OsState) := (@W.clsSeenW @h_view_39 [] (k2 x0 x1))
abbrev My.k24 := (@List.nil (@Prod @Str @W.WData))
abbrev My.k25 (x0 : World) (x1 : OsState) := (@W.wideSeen @h_view_39 (k2 x0 x1))
abbrev My.k26 := (@W.piecesOf @h_sts_546 @h_env_41 k3 (P_ 191 0 199 20) [(@W.topFrame (P_ 0 0 0 0))])
abbrev My.k27 := (@W.piecesOf @h_sts_467 @h_env_41 k3 (P_ 110 0 128 17) [(@W.topFrame (P_ 0 0 0 0))])
abbrev My.k28 := (@W.piecesOf @h_sts_410 @h_env_41 k3 (P_ 94 0 109 17) [(@W.topFrame (P_ 0 0 0 0))])
abbrev My.k29 := (@W.piecesOf @h_sts_360 @h_env_41 k3 (P_ 84 0 93 17) [(@W.topFrame (P_ 0 0 0 0))])
abbrev My.k30 := (@W.piecesOf @h_sts_324 @h_env_41 k3 (P_ 68 0 83 16) [(@W.topFrame (P_ 0 0 0 0))])
abbrev My.k31 := (@W.piecesOf @h_sts_274 @h_env_41 k3 (P_ 55 0 67 16) [(@W.topFrame (P_ 0 0 0 0))])
abbrev My.k32 := (@W.piecesOf @h_sts_231 @h_env_41 k3 (P_ 45 0 54 16) [(@W.topFrame (P_ 0 0 0 0))])
abbrev My.k33 := (@W.piecesOf @h_sts_195 @h_env_41 k3 (P_ 26 0 44 16) [(@W.topFrame (P_ 0 0 0 0))])
abbrev My.k34 := (@W.piecesOf @h_sts_137 @h_env_41 k3 (P_ 22 0 25 17) [(@W.topFrame (P_ 0 0 0 0))])
abbrev My.k35 := (@List (@Option (@Prod @PyProof.Rows.PlainShape @Bool)))
abbrev My.k36 := (@W.piecesOf @h_sts_101 @h_env_41 k3 (P_ 9 0 10 8) [(@W.topFrame (P_ 0 0 0 0))])
abbrev My.k37 := (@W.piecesOf @h_sts_86 @h_env_41 k3 (P_ 7 0 8 8) [(@W.topFrame (P_ 0 0 0 0))])
abbrev My.k38 := (@W.piecesOf @h_sts_71 @h_env_41 k3 (P_ 5 0 6 8) [(@W.topFrame (P_ 0 0 0 0))])
abbrev My.k39 := (@W.piecesOf @h_sts_49 @h_env_41 k3 (P_ 0 0 0 0) [(@W.topFrame (P_ 0 0 0 0))])
abbrev My.k40 := (@PyProof.Rows.plainGoodE @h_view_39 (@W.looseW @h_view_39 []))
abbrev My.k41 := (@Nat.add 12 (@Nat.add 1 (@Nat.add 225 (@Nat.add 214 (@Nat.add 214 k10)))))
abbrev My.k42 (x0 : World) (x1 : OsState) := (S_ h_tree_545 479 783 x0 x1)
abbrev My.k43 (x0 : World) (x1 : OsState) := (S_ h_tree_466 402 671 x0 x1)
abbrev My.k44 (x0 : World) (x1 : OsState) := (S_ h_tree_409 348 606 x0 x1)
abbrev My.k45 (x0 : World) (x1 : OsState) := (S_ h_tree_359 301 548 x0 x1)
abbrev My.k46 (x0 : World) (x1 : OsState) := (S_ h_tree_323 268 507 x0 x1)
abbrev My.k47 (x0 : World) (x1 : OsState) := (S_ h_tree_273 221 450 x0 x1)
abbrev My.k48 (x0 : World) (x1 : OsState) := (S_ h_tree_230 181 401 x0 x1)
abbrev My.k49 (x0 : World) (x1 : OsState) := (S_ h_tree_194 148 360 x0 x1)
abbrev My.k50 := (@PyProof.Rows.clssOf @h_view_39 (@W.looseW @h_view_39 []))
abbrev My.k51 (x0 : World) (x1 : OsState) := (S_ h_tree_136 92 292 x0 x1)
abbrev My.k52 (x0 : World) (x1 : OsState) := (S_ h_tree_100 59 246 x0 x1)
abbrev My.k53 (x0 : World) (x1 : OsState) := (S_ h_tree_85 47 230 x0 x1)
abbrev My.k54 (x0 : World) (x1 : OsState) := (S_ h_tree_70 35 214 x0 x1)
abbrev My.k55 (x0 : World) (x1 : OsState) := (S_ h_tree_47 15 187 x0 x1)
abbrev My.k56 (x0 : World) (x1 : OsState) := (@Shared.mk (@h_heap_46 x0.params) g_ d_ 187 x1)
abbrev My.k57 (x0 : World) (x1 : OsState) := (@PyProof.Rows.tablesOk @h_view_39 (@Shared.heap (k2 x0 x1)))
abbrev My.k58 (x0 : World) (x1 : OsState) := (@PyProof.Rows.tabsOk @h_view_39 (k2 x0 x1))
abbrev My.k59 := (@Nat.add 310 (@Nat.add 375 (@Nat.add 406 (@Nat.add 376 (@Nat.add 280 2)))))
abbrev My.k60 := (@PyProof.Rows.plainGoodD @h_view_39 [])
abbrev My.k61 (x0 : World) (x1 : OsState) := (@Heap.accountedOkI (@Shared.heap (k2 x0 x1)) k19)
abbrev My.k62 (x0 : World) (x1 : OsState) := (S_ h_tree_606 538 868 x0 x1)
abbrev My.k63 (x0 : World) (x1 : OsState) := (@Heap.isNs (@Shared.heap (k2 x0 x1)) @mainGlobals)
abbrev My.k64 := (@HAppend.hAppend (@List @Stmt) (@List @Stmt) (@List @Stmt) k8 @h_sts_86 (@HAppend.hAppend (@List @Stmt) (@List @Stmt) (@List @Stmt) k8 @h_sts_101 k14))
abbrev My.k65 (x0 : World) (x1 : OsState) := (@Heap.isNs (@Shared.heap (k2 x0 x1)) @builtinsNs)
abbrev My.k66 (x0 : World) (x1 : OsState) := (@Shared.mk (@W.boot_heap x0.params) g_ @W.boot_drawn @W.boot_toks x1)
abbrev My.k67 := (@Thread.mk (@denote @treeTable k3) k3 (P_ 0 0 0 0) [(@W.topFrame (P_ 0 0 0 0))])
abbrev My.kh0 := (@W.kHook @h_heap_39 My.myAs (fun x0 => (@id (@Eq (@List @Addr) My.myAs (@List.map (@Prod @Addr @Obj) @Addr (fun (x1 : (@Prod @Addr @Obj)) => (@Prod.fst @Addr @Obj x1)) (@h_heap_39 x0))) k17)))
theorem My.pf_642 : ((x0 : World) → (@Eq ((x1 : OsState) → (@W.Hook.α kh0)) (fun x1 => (@W.Hook.obs kh0 (k2 x0 x1))) (fun x1 => (@W.Hook.val kh0 x0)))) := by intros; kernel_rfl
theorem My.pf_632 : ((x0 : World) → (@Eq ((x1 : OsState) → k12) (fun x1 => (k23 x0 x1)) (fun x1 => (@W.clsGoodW @h_view_39 [])))) := by intros; kernel_rfl
theorem My.pf_630 : ((x0 : World) → (@Eq ((x1 : OsState) → k22) (fun x1 => (k25 x0 x1)) (fun x1 => (@W.wideGood @h_view_39)))) := by intros; kernel_rfl
theorem My.pf_633 : ((x0 : World) → ((x1 : OsState) → (@Eq (@Prod k22 k12) ((k25 x0 x1), (k23 x0 x1)) ((@W.wideGood @h_view_39), (@W.clsGoodW @h_view_39 []))))) := (fun x0 => (fun x1 => (@W.looks_pair k22 k12 (k25 x0 x1) (@W.wideGood @h_view_39) (k23 x0 x1) (@W.clsGoodW @h_view_39 []) ((fun x2 => (fun x3 => (congrFun (My.pf_630 x2) x3))) x0 x1) ((fun x2 => (fun x3 => (congrFun (My.pf_632 x2) x3))) x0 x1))))
theorem My.pf_628 : ((x0 : World) → (@Eq ((x1 : OsState) → k35) (fun x1 => (k21 x0 x1)) (fun x1 => k60))) := by intros; kernel_rfl
theorem My.pf_634 : ((x0 : World) → ((x1 : OsState) → (@Eq (@Prod k35 (@Prod k22 k12)) ((k21 x0 x1), ((k25 x0 x1), (k23 x0 x1))) (k60, ((@W.wideGood @h_view_39), (@W.clsGoodW @h_view_39 [])))))) := (fun x0 => (fun x1 => (@W.looks_pair k35 (@Prod k22 k12) (k21 x0 x1) k60 ((k25 x0 x1), (k23 x0 x1)) ((@W.wideGood @h_view_39), (@W.clsGoodW @h_view_39 [])) ((fun x2 => (fun x3 => (congrFun (My.pf_628 x2) x3))) x0 x1) (@My.pf_633 x0 x1))))
theorem My.pf_626 : ((x0 : World) → (@Eq ((x1 : OsState) → (@List (@Option @PyProof.Rows.PlainShape))) (fun x1 => (k16 x0 x1)) (fun x1 => k40))) := by intros; kernel_rfl
theorem My.pf_635 : ((x0 : World) → ((x1 : OsState) → (@Eq (@Prod (@List (@Option @PyProof.Rows.PlainShape)) (@Prod k35 (@Prod k22 k12))) ((k16 x0 x1), ((k21 x0 x1), ((k25 x0 x1), (k23 x0 x1)))) (k40, (k60, ((@W.wideGood @h_view_39), (@W.clsGoodW @h_view_39 []))))))) := (fun x0 => (fun x1 => (@W.looks_pair (@List (@Option @PyProof.Rows.PlainShape)) (@Prod k35 (@Prod k22 k12)) (k16 x0 x1) k40 ((k21 x0 x1), ((k25 x0 x1), (k23 x0 x1))) (k60, ((@W.wideGood @h_view_39), (@W.clsGoodW @h_view_39 []))) ((fun x2 => (fun x3 => (congrFun (My.pf_626 x2) x3))) x0 x1) (@My.pf_634 x0 x1))))
theorem My.pf_624 : ((x0 : World) → (@Eq ((x1 : OsState) → k22) (fun x1 => (k20 x0 x1)) (fun x1 => (@pinGoodD (@PyProof.Rows.drecsOf @h_view_39))))) := by intros; kernel_rfl
theorem My.pf_636 : ((x0 : World) → ((x1 : OsState) → (@Eq k5 ((k20 x0 x1), ((k16 x0 x1), ((k21 x0 x1), ((k25 x0 x1), (k23 x0 x1))))) ((@pinGoodD (@PyProof.Rows.drecsOf @h_view_39)), (k40, (k60, ((@W.wideGood @h_view_39), (@W.clsGoodW @h_view_39 [])))))))) := (fun x0 => (fun x1 => (@W.looks_pair k22 (@Prod (@List (@Option @PyProof.Rows.PlainShape)) (@Prod k35 (@Prod k22 k12))) (k20 x0 x1) (@pinGoodD (@PyProof.Rows.drecsOf @h_view_39)) ((k16 x0 x1), ((k21 x0 x1), ((k25 x0 x1), (k23 x0 x1)))) (k40, (k60, ((@W.wideGood @h_view_39), (@W.clsGoodW @h_view_39 [])))) ((fun x2 => (fun x3 => (congrFun (My.pf_624 x2) x3))) x0 x1) (@My.pf_635 x0 x1))))
theorem My.pf_622 : ((x0 : World) → (@Eq ((x1 : OsState) → @Bool) (fun x1 => (k58 x0 x1)) (fun x1 => @Bool.true))) := by intros; kernel_rfl
theorem My.pf_637 : ((x0 : World) → ((x1 : OsState) → (@Eq (@Prod @Bool k5) ((k58 x0 x1), ((k20 x0 x1), ((k16 x0 x1), ((k21 x0 x1), ((k25 x0 x1), (k23 x0 x1)))))) k11))) := (fun x0 => (fun x1 => (@W.looks_pair @Bool k5 (k58 x0 x1) @Bool.true ((k20 x0 x1), ((k16 x0 x1), ((k21 x0 x1), ((k25 x0 x1), (k23 x0 x1))))) ((@pinGoodD (@PyProof.Rows.drecsOf @h_view_39)), (k40, (k60, ((@W.wideGood @h_view_39), (@W.clsGoodW @h_view_39 []))))) ((fun x2 => (fun x3 => (congrFun (My.pf_622 x2) x3))) x0 x1) (@My.pf_636 x0 x1))))
theorem My.pf_620 : ((x0 : World) → (@Eq ((x1 : OsState) → @Bool) (fun x1 => (@Bool.and (@Bool.and (@Bool.and (@Bool.and (@Bool.and (@Bool.and (@Heap.keysOk (@Shared.heap (k2 x0 x1)) (@W.looseW @h_view_39 []) (@List.map @DefRec @Str (fun (x2 : @DefRec) => (@DefRec.name x2)) (@PyProof.Rows.recsOf @h_view_39)) (@List.map (@Prod @Str @PyData) @Str (fun (x2 : (@Prod @Str @PyData)) => (@Prod.fst @Str @PyData x2)) (@PyProof.Rows.litsOf @h_view_39)) (@List.map @ClsRec @Str (fun (x2 : @ClsRec) => (@ClsRec.name x2)) k50)) (k61 x0 x1)) (k63 x0 x1)) (k65 x0 x1)) (k57 x0 x1)) ((fun (x2 : @Shared) => (@Bool.and (@W.xlAt @h_view_39 k24 x2) (@W.recOk (@W.RowW.records k1) x2))) (k2 x0 x1))) (k9 x0 x1))) (fun x1 => @Bool.true))) := by intros; kernel_rfl
theorem My.pf_638 : ((x0 : World) → ((x1 : OsState) → (@Eq (@Prod @Bool (@Prod @Bool k5)) ((@Bool.and (@Bool.and (@Bool.and (@Bool.and (@Bool.and (@Bool.and (@Heap.keysOk (@Shared.heap (k2 x0 x1)) (@W.looseW @h_view_39 []) (@List.map @DefRec @Str (fun (x2 : @DefRec) => (@DefRec.name x2)) (@PyProof.Rows.recsOf @h_view_39)) (@List.map (@Prod @Str @PyData) @Str (fun (x2 : (@Prod @Str @PyData)) => (@Prod.fst @Str @PyData x2)) (@PyProof.Rows.litsOf @h_view_39)) (@List.map @ClsRec @Str (fun (x2 : @ClsRec) => (@ClsRec.name x2)) k50)) (k61 x0 x1)) (k63 x0 x1)) (k65 x0 x1)) (k57 x0 x1)) ((fun (x2 : @Shared) => (@Bool.and (@W.xlAt @h_view_39 k24 x2) (@W.recOk (@W.RowW.records k1) x2))) (k2 x0 x1))) (k9 x0 x1)), ((k58 x0 x1), ((k20 x0 x1), ((k16 x0 x1), ((k21 x0 x1), ((k25 x0 x1), (k23 x0 x1))))))) (@Bool.true, k11)))) := (fun x0 => (fun x1 => (@W.looks_pair @Bool (@Prod @Bool k5) (@Bool.and (@Bool.and (@Bool.and (@Bool.and (@Bool.and (@Bool.and (@Heap.keysOk (@Shared.heap (k2 x0 x1)) (@W.looseW @h_view_39 []) (@List.map @DefRec @Str (fun (x2 : @DefRec) => (@DefRec.name x2)) (@PyProof.Rows.recsOf @h_view_39)) (@List.map (@Prod @Str @PyData) @Str (fun (x2 : (@Prod @Str @PyData)) => (@Prod.fst @Str @PyData x2)) (@PyProof.Rows.litsOf @h_view_39)) (@List.map @ClsRec @Str (fun (x2 : @ClsRec) => (@ClsRec.name x2)) k50)) (k61 x0 x1)) (k63 x0 x1)) (k65 x0 x1)) (k57 x0 x1)) ((fun (x2 : @Shared) => (@Bool.and (@W.xlAt @h_view_39 k24 x2) (@W.recOk (@W.RowW.records k1) x2))) (k2 x0 x1))) (k9 x0 x1)) @Bool.true ((k58 x0 x1), ((k20 x0 x1), ((k16 x0 x1), ((k21 x0 x1), ((k25 x0 x1), (k23 x0 x1)))))) k11 ((fun x2 => (fun x3 => (congrFun (My.pf_620 x2) x3))) x0 x1) (@My.pf_637 x0 x1))))
theorem My.pf_618 : ((x0 : World) → (@Eq ((x1 : OsState) → (@Prod (@Option @Str) (@List (@Prod @Str @Value)))) (fun x1 => (@Heap.bltView (@Shared.heap (k2 x0 x1)))) (fun x1 => @bltViewBooted))) := by intros; kernel_rfl
theorem My.pf_639 : ((x0 : World) → ((x1 : OsState) → (@Eq k15 ((@Heap.bltView (@Shared.heap (k2 x0 x1))), ((@Bool.and (@Bool.and (@Bool.and (@Bool.and (@Bool.and (@Bool.and (@Heap.keysOk (@Shared.heap (k2 x0 x1)) (@W.looseW @h_view_39 []) (@List.map @DefRec @Str (fun (x2 : @DefRec) => (@DefRec.name x2)) (@PyProof.Rows.recsOf @h_view_39)) (@List.map (@Prod @Str @PyData) @Str (fun (x2 : (@Prod @Str @PyData)) => (@Prod.fst @Str @PyData x2)) (@PyProof.Rows.litsOf @h_view_39)) (@List.map @ClsRec @Str (fun (x2 : @ClsRec) => (@ClsRec.name x2)) k50)) (k61 x0 x1)) (k63 x0 x1)) (k65 x0 x1)) (k57 x0 x1)) ((fun (x2 : @Shared) => (@Bool.and (@W.xlAt @h_view_39 k24 x2) (@W.recOk (@W.RowW.records k1) x2))) (k2 x0 x1))) (k9 x0 x1)), ((k58 x0 x1), ((k20 x0 x1), ((k16 x0 x1), ((k21 x0 x1), ((k25 x0 x1), (k23 x0 x1)))))))) (@bltViewBooted, (@Bool.true, k11))))) := (fun x0 => (fun x1 => (@W.looks_pair (@Prod (@Option @Str) (@List (@Prod @Str @Value))) (@Prod @Bool (@Prod @Bool k5)) (@Heap.bltView (@Shared.heap (k2 x0 x1))) @bltViewBooted ((@Bool.and (@Bool.and (@Bool.and (@Bool.and (@Bool.and (@Bool.and (@Heap.keysOk (@Shared.heap (k2 x0 x1)) (@W.looseW @h_view_39 []) (@List.map @DefRec @Str (fun (x2 : @DefRec) => (@DefRec.name x2)) (@PyProof.Rows.recsOf @h_view_39)) (@List.map (@Prod @Str @PyData) @Str (fun (x2 : (@Prod @Str @PyData)) => (@Prod.fst @Str @PyData x2)) (@PyProof.Rows.litsOf @h_view_39)) (@List.map @ClsRec @Str (fun (x2 : @ClsRec) => (@ClsRec.name x2)) k50)) (k61 x0 x1)) (k63 x0 x1)) (k65 x0 x1)) (k57 x0 x1)) ((fun (x2 : @Shared) => (@Bool.and (@W.xlAt @h_view_39 k24 x2) (@W.recOk (@W.RowW.records k1) x2))) (k2 x0 x1))) (k9 x0 x1)), ((k58 x0 x1), ((k20 x0 x1), ((k16 x0 x1), ((k21 x0 x1), ((k25 x0 x1), (k23 x0 x1))))))) (@Bool.true, k11) ((fun x2 => (fun x3 => (congrFun (My.pf_618 x2) x3))) x0 x1) (@My.pf_638 x0 x1))))
theorem My.pf_616 : ((x0 : World) → (@Eq ((x1 : OsState) → @PyProof.Rows.Seen) (fun x1 => (@PyProof.Rows.seen (@List.map @DefRec @Str (fun (x2 : @DefRec) => (@DefRec.name x2)) (@PyProof.Rows.recsOf @h_view_39)) (@PyProof.Rows.ownsOf @h_view_39) [] (@Shared.mk (@Shared.heap (k2 x0 x1)) #[] (@Shared.drawn (k2 x0 x1)) (@Shared.toks (k2 x0 x1)) (@Shared.os (k2 x0 x1))))) (fun x1 => (@PyProof.Rows.expectedOf @h_view_39)))) := by intros; kernel_rfl
theorem My.pf_640 : ((x0 : World) → ((x1 : OsState) → (@Eq (@Prod @PyProof.Rows.Seen k15) (@W.openSeen @h_view_39 [] k19 (fun (x2 : @Shared) => (@Bool.and (@W.xlAt @h_view_39 k24 x2) (@W.recOk (@W.RowW.records k1) x2))) @Bool.true (k2 x0 x1)) (@W.openGood @h_view_39 [])))) := (fun x0 => (fun x1 => (@W.looks_pair @PyProof.Rows.Seen k15 (@PyProof.Rows.seen (@List.map @DefRec @Str (fun (x2 : @DefRec) => (@DefRec.name x2)) (@PyProof.Rows.recsOf @h_view_39)) (@PyProof.Rows.ownsOf @h_view_39) [] (@Shared.mk (@Shared.heap (k2 x0 x1)) #[] (@Shared.drawn (k2 x0 x1)) (@Shared.toks (k2 x0 x1)) (@Shared.os (k2 x0 x1)))) (@PyProof.Rows.expectedOf @h_view_39) ((@Heap.bltView (@Shared.heap (k2 x0 x1))), ((@Bool.and (@Bool.and (@Bool.and (@Bool.and (@Bool.and (@Bool.and (@Heap.keysOk (@Shared.heap (k2 x0 x1)) (@W.looseW @h_view_39 []) (@List.map @DefRec @Str (fun (x2 : @DefRec) => (@DefRec.name x2)) (@PyProof.Rows.recsOf @h_view_39)) (@List.map (@Prod @Str @PyData) @Str (fun (x2 : (@Prod @Str @PyData)) => (@Prod.fst @Str @PyData x2)) (@PyProof.Rows.litsOf @h_view_39)) (@List.map @ClsRec @Str (fun (x2 : @ClsRec) => (@ClsRec.name x2)) k50)) (k61 x0 x1)) (k63 x0 x1)) (k65 x0 x1)) (k57 x0 x1)) ((fun (x2 : @Shared) => (@Bool.and (@W.xlAt @h_view_39 k24 x2) (@W.recOk (@W.RowW.records k1) x2))) (k2 x0 x1))) (k9 x0 x1)), ((k58 x0 x1), ((k20 x0 x1), ((k16 x0 x1), ((k21 x0 x1), ((k25 x0 x1), (k23 x0 x1)))))))) (@bltViewBooted, (@Bool.true, k11)) ((fun x2 => (fun x3 => (congrFun (My.pf_616 x2) x3))) x0 x1) (@My.pf_639 x0 x1))))
theorem My.pf_643 : ((x0 : World) → ((x1 : OsState) → (@Eq (@Prod (@Prod @PyProof.Rows.Seen k15) (@W.Hook.α kh0)) ((@W.openSeen @h_view_39 [] k19 (fun (x2 : @Shared) => (@Bool.and (@W.xlAt @h_view_39 k24 x2) (@W.recOk (@W.RowW.records k1) x2))) @Bool.true (k2 x0 x1)), (@W.Hook.obs kh0 (k2 x0 x1))) ((@W.openGood @h_view_39 []), (@W.Hook.val kh0 x0))))) := (fun x0 => (fun x1 => (@W.looks_pair (@Prod @PyProof.Rows.Seen k15) (@W.Hook.α kh0) (@W.openSeen @h_view_39 [] k19 (fun (x2 : @Shared) => (@Bool.and (@W.xlAt @h_view_39 k24 x2) (@W.recOk (@W.RowW.records k1) x2))) @Bool.true (k2 x0 x1)) (@W.openGood @h_view_39 []) (@W.Hook.obs kh0 (k2 x0 x1)) (@W.Hook.val kh0 x0) (@My.pf_640 x0 x1) ((fun x2 => (fun x3 => (congrFun (My.pf_642 x2) x3))) x0 x1))))
theorem My.pf_614 : ((x0 : World) → (@Eq ((x1 : OsState) → @Bool) (fun x1 => (k13 x0 x1)) (fun x1 => @Bool.true))) := by intros; kernel_rfl
theorem My.pf_644 : ((x0 : World) → ((x1 : OsState) → (@Eq (@Prod @Bool (@Prod (@Prod @PyProof.Rows.Seen k15) (@W.Hook.α kh0))) ((k13 x0 x1), ((@W.openSeen @h_view_39 [] k19 (fun (x2 : @Shared) => (@Bool.and (@W.xlAt @h_view_39 k24 x2) (@W.recOk (@W.RowW.records k1) x2))) @Bool.true (k2 x0 x1)), (@W.Hook.obs kh0 (k2 x0 x1)))) (@Bool.true, ((@W.openGood @h_view_39 []), (@W.Hook.val kh0 x0)))))) := (fun x0 => (fun x1 => (@W.looks_pair @Bool (@Prod (@Prod @PyProof.Rows.Seen k15) (@W.Hook.α kh0)) (k13 x0 x1) @Bool.true ((@W.openSeen @h_view_39 [] k19 (fun (x2 : @Shared) => (@Bool.and (@W.xlAt @h_view_39 k24 x2) (@W.recOk (@W.RowW.records k1) x2))) @Bool.true (k2 x0 x1)), (@W.Hook.obs kh0 (k2 x0 x1))) ((@W.openGood @h_view_39 []), (@W.Hook.val kh0 x0)) ((fun x2 => (fun x3 => (congrFun (My.pf_614 x2) x3))) x0 x1) (@My.pf_643 x0 x1))))
theorem My.pf_609 : ((x0 : World) → (@Eq ((x1 : OsState) → (@Option @Shared)) (fun x1 => (@W.topRun @treeTable (k1).1 x0 11 v_ 2 (@W.SharedT.abs (k62 x0 x1)) (@Thread.mk (@W.doneF @Flow.next) k3 (P_ 264 0 278 48) [(@W.topFrame (P_ 0 0 0 0))]))) (fun x1 => (@some @Shared (k2 x0 x1))))) := by intros; kernel_rfl
theorem My.pf_607 : ((x0 : World) → (@Eq ((x1 : OsState) → (@Option k7)) (fun x1 => (@W.segRunT @treeTable (k1).1 x0 11 v_ 1 280 (k42 x0 x1) k26)) (fun x1 => (@some k7 (@Flow.next, ((k62 x0 x1), (k3, (P_ 264 0 278 48)))))))) := by intros; kernel_rfl
theorem My.pf_546 : ((x0 : World) → (@Eq ((x1 : OsState) → (@Option k7)) (fun x1 => (@W.segRunT @treeTable (k1).1 x0 11 v_ 1 376 (k43 x0 x1) k27)) (fun x1 => (@some k7 (@Flow.next, ((k42 x0 x1), (k3, (P_ 191 0 199 20)))))))) := by intros; kernel_rfl
theorem My.pf_467 : ((x0 : World) → (@Eq ((x1 : OsState) → (@Option k7)) (fun x1 => (@W.segRunT @treeTable (k1).1 x0 11 v_ 1 406 (k44 x0 x1) k28)) (fun x1 => (@some k7 (@Flow.next, ((k43 x0 x1), (k3, (P_ 110 0 128 17)))))))) := by intros; kernel_rfl
theorem My.pf_410 : ((x0 : World) → (@Eq ((x1 : OsState) → (@Option k7)) (fun x1 => (@W.segRunT @treeTable (k1).1 x0 11 v_ 1 375 (k45 x0 x1) k29)) (fun x1 => (@some k7 (@Flow.next, ((k44 x0 x1), (k3, (P_ 94 0 109 17)))))))) := by intros; kernel_rfl
theorem My.pf_360 : ((x0 : World) → (@Eq ((x1 : OsState) → (@Option k7)) (fun x1 => (@W.segRunT @treeTable (k1).1 x0 11 v_ 1 310 (k46 x0 x1) k30)) (fun x1 => (@some k7 (@Flow.next, ((k45 x0 x1), (k3, (P_ 84 0 93 17)))))))) := by intros; kernel_rfl
theorem My.pf_324 : ((x0 : World) → (@Eq ((x1 : OsState) → (@Option k7)) (fun x1 => (@W.segRunT @treeTable (k1).1 x0 11 v_ 1 374 (k47 x0 x1) k31)) (fun x1 => (@some k7 (@Flow.next, ((k46 x0 x1), (k3, (P_ 68 0 83 16)))))))) := by intros; kernel_rfl
theorem My.pf_274 : ((x0 : World) → (@Eq ((x1 : OsState) → (@Option k7)) (fun x1 => (@W.segRunT @treeTable (k1).1 x0 11 v_ 1 342 (k48 x0 x1) k32)) (fun x1 => (@some k7 (@Flow.next, ((k47 x0 x1), (k3, (P_ 55 0 67 16)))))))) := by intros; kernel_rfl
theorem My.pf_231 : ((x0 : World) → (@Eq ((x1 : OsState) → (@Option k7)) (fun x1 => (@W.segRunT @treeTable (k1).1 x0 11 v_ 1 310 (k49 x0 x1) k33)) (fun x1 => (@some k7 (@Flow.next, ((k48 x0 x1), (k3, (P_ 45 0 54 16)))))))) := by intros; kernel_rfl
theorem My.pf_195 : ((x0 : World) → (@Eq ((x1 : OsState) → (@Option k7)) (fun x1 => (@W.segRunT @treeTable (k1).1 x0 11 v_ 1 382 (k51 x0 x1) k34)) (fun x1 => (@some k7 (@Flow.next, ((k49 x0 x1), (k3, (P_ 26 0 44 16)))))))) := by intros; kernel_rfl
theorem My.pf_137 : ((x0 : World) → (@Eq ((x1 : OsState) → (@Option k7)) (fun x1 => (@W.segRunT @treeTable (k1).1 x0 11 v_ 1 331 (k52 x0 x1) k36)) (fun x1 => (@some k7 (@Flow.next, ((k51 x0 x1), (k3, (P_ 22 0 25 17)))))))) := by intros; kernel_rfl
theorem My.pf_101 : ((x0 : World) → (@Eq ((x1 : OsState) → (@Option k7)) (fun x1 => (@W.segRunT @treeTable (k1).1 x0 11 v_ 1 214 (k53 x0 x1) k37)) (fun x1 => (@some k7 (@Flow.next, ((k52 x0 x1), (k3, (P_ 9 0 10 8)))))))) := by intros; kernel_rfl
theorem My.pf_86 : ((x0 : World) → (@Eq ((x1 : OsState) → (@Option k7)) (fun x1 => (@W.segRunT @treeTable (k1).1 x0 11 v_ 1 214 (k54 x0 x1) k38)) (fun x1 => (@some k7 (@Flow.next, ((k53 x0 x1), (k3, (P_ 7 0 8 8)))))))) := by intros; kernel_rfl
theorem My.pf_71 : ((x0 : World) → (@Eq ((x1 : OsState) → (@Option k7)) (fun x1 => (@W.segRunT @treeTable (k1).1 x0 11 v_ 1 225 (k55 x0 x1) k39)) (fun x1 => (@some k7 (@Flow.next, ((k54 x0 x1), (k3, (P_ 5 0 6 8)))))))) := by intros; kernel_rfl
theorem My.pf_49 : ((x0 : World) → (@Eq ((x1 : OsState) → (@Option k6)) (fun x1 => (@W.segRun @treeTable (k1).1 x0 11 v_ 1 1 (k56 x0 x1) (@W.blockOf (@W.behindTheImports (k1).1) @h_env_41 k3 (P_ 0 0 0 0) [(@W.topFrame (P_ 0 0 0 0))]))) (fun x1 => (@some k6 (@Flow.next, ((@W.SharedT.abs (k55 x0 x1)), (k3, (P_ 0 0 0 0)))))))) := by intros; kernel_rfl
theorem My.pf_47 : ((x0 : World) → (@Eq ((x1 : OsState) → (@Option (@Prod @Shared @Thread))) (fun x1 => (@W.topGo @treeTable (k1).1 x0 11 v_ 12 (k66 x0 x1) (@W.topStub (k1).1))) (fun x1 => (@some (@Prod @Shared @Thread) ((k56 x0 x1), k67))))) := by intros; kernel_rfl
theorem My.pf_610 : ((x0 : World) → ((x1 : OsState) → (@Eq (@Option @Shared) (@W.topRun @treeTable (k1).1 x0 11 v_ k41 (k66 x0 x1) (@W.topStub (k1).1)) (@some @Shared (k2 x0 x1))))) := (fun x0 => (fun x1 => (@W.go_top @treeTable (k1).1 x0 11 v_ 12 (@Nat.add 1 (@Nat.add 225 (@Nat.add 214 (@Nat.add 214 k10)))) (k66 x0 x1) (k56 x0 x1) (k2 x0 x1) (@W.topStub (k1).1) k67 (congrFun (My.pf_47 x0) x1) (@W.piece_block @treeTable (k1).1 x0 11 v_ @h_env_41 (P_ 0 0 0 0) 1 (@Nat.add 225 (@Nat.add 214 (@Nat.add 214 k10))) (k56 x0 x1) (@W.SharedT.abs (k55 x0 x1)) (k2 x0 x1) (@W.behindTheImports (k1).1) k3 (P_ 0 0 0 0) (P_ 0 0 0 0) (congrFun (My.pf_49 x0) x1) (@W.piece_app @treeTable (k1).1 x0 11 v_ @h_env_41 (P_ 0 0 0 0) 225 (@Nat.add 214 (@Nat.add 214 k10)) (@W.SharedT.abs (k55 x0 x1)) (@W.SharedT.abs (k54 x0 x1)) (k2 x0 x1) @h_sts_49 (@HAppend.hAppend (@List @Stmt) (@List @Stmt) (@List @Stmt) k8 @h_sts_71 k64) k3 (P_ 0 0 0 0) (P_ 5 0 6 8) (sg_ (congrFun (My.pf_71 x0) x1)) (@W.piece_app @treeTable (k1).1 x0 11 v_ @h_env_41 (P_ 0 0 0 0) 214 (@Nat.add 214 k10) (@W.SharedT.abs (k54 x0 x1)) (@W.SharedT.abs (k53 x0 x1)) (k2 x0 x1) @h_sts_71 k64 k3 (P_ 5 0 6 8) (P_ 7 0 8 8) (sg_ (congrFun (My.pf_86 x0) x1)) (@W.piece_app @treeTable (k1).1 x0 11 v_ @h_env_41 (P_ 0 0 0 0) 214 k10 (@W.SharedT.abs (k53 x0 x1)) (@W.SharedT.abs (k52 x0 x1)) (k2 x0 x1) @h_sts_86 (@HAppend.hAppend (@List @Stmt) (@List @Stmt) (@List @Stmt) k8 @h_sts_101 k14) k3 (P_ 7 0 8 8) (P_ 9 0 10 8) (sg_ (congrFun (My.pf_101 x0) x1)) (@W.piece_app @treeTable (k1).1 x0 11 v_ @h_env_41 (P_ 0 0 0 0) 331 (@Nat.add 382 (@Nat.add 310 (@Nat.add 342 (@Nat.add 374 k59)))) (@W.SharedT.abs (k52 x0 x1)) (@W.SharedT.abs (k51 x0 x1)) (k2 x0 x1) @h_sts_101 k14 k3 (P_ 9 0 10 8) (P_ 22 0 25 17) (sg_ (congrFun (My.pf_137 x0) x1)) (@W.piece_app @treeTable (k1).1 x0 11 v_ @h_env_41 (P_ 0 0 0 0) 382 (@Nat.add 310 (@Nat.add 342 (@Nat.add 374 k59))) (@W.SharedT.abs (k51 x0 x1)) (@W.SharedT.abs (k49 x0 x1)) (k2 x0 x1) @h_sts_137 (@HAppend.hAppend (@List @Stmt) (@List @Stmt) (@List @Stmt) k8 @h_sts_195 (@HAppend.hAppend (@List @Stmt) (@List @Stmt) (@List @Stmt) k8 @h_sts_231 k4)) k3 (P_ 22 0 25 17) (P_ 26 0 44 16) (sg_ (congrFun (My.pf_195 x0) x1)) (@W.piece_app @treeTable (k1).1 x0 11 v_ @h_env_41 (P_ 0 0 0 0) 310 (@Nat.add 342 (@Nat.add 374 k59)) (@W.SharedT.abs (k49 x0 x1)) (@W.SharedT.abs (k48 x0 x1)) (k2 x0 x1) @h_sts_195 (@HAppend.hAppend (@List @Stmt) (@List @Stmt) (@List @Stmt) k8 @h_sts_231 k4) k3 (P_ 26 0 44 16) (P_ 45 0 54 16) (sg_ (congrFun (My.pf_231 x0) x1)) (@W.piece_app @treeTable (k1).1 x0 11 v_ @h_env_41 (P_ 0 0 0 0) 342 (@Nat.add 374 k59) (@W.SharedT.abs (k48 x0 x1)) (@W.SharedT.abs (k47 x0 x1)) (k2 x0 x1) @h_sts_231 k4 k3 (P_ 45 0 54 16) (P_ 55 0 67 16) (sg_ (congrFun (My.pf_274 x0) x1)) (@W.piece_app @treeTable (k1).1 x0 11 v_ @h_env_41 (P_ 0 0 0 0) 374 k59 (@W.SharedT.abs (k47 x0 x1)) (@W.SharedT.abs (k46 x0 x1)) (k2 x0 x1) @h_sts_274 (@HAppend.hAppend (@List @Stmt) (@List @Stmt) (@List @Stmt) k8 @h_sts_324 (@HAppend.hAppend (@List @Stmt) (@List @Stmt) (@List @Stmt) k8 @h_sts_360 k18)) k3 (P_ 55 0 67 16) (P_ 68 0 83 16) (sg_ (congrFun (My.pf_324 x0) x1)) (@W.piece_app @treeTable (k1).1 x0 11 v_ @h_env_41 (P_ 0 0 0 0) 310 (@Nat.add 375 (@Nat.add 406 (@Nat.add 376 (@Nat.add 280 2)))) (@W.SharedT.abs (k46 x0 x1)) (@W.SharedT.abs (k45 x0 x1)) (k2 x0 x1) @h_sts_324 (@HAppend.hAppend (@List @Stmt) (@List @Stmt) (@List @Stmt) k8 @h_sts_360 k18) k3 (P_ 68 0 83 16) (P_ 84 0 93 17) (sg_ (congrFun (My.pf_360 x0) x1)) (@W.piece_app @treeTable (k1).1 x0 11 v_ @h_env_41 (P_ 0 0 0 0) 375 (@Nat.add 406 (@Nat.add 376 (@Nat.add 280 2))) (@W.SharedT.abs (k45 x0 x1)) (@W.SharedT.abs (k44 x0 x1)) (k2 x0 x1) @h_sts_360 k18 k3 (P_ 84 0 93 17) (P_ 94 0 109 17) (sg_ (congrFun (My.pf_410 x0) x1)) (@W.piece_app @treeTable (k1).1 x0 11 v_ @h_env_41 (P_ 0 0 0 0) 406 (@Nat.add 376 (@Nat.add 280 2)) (@W.SharedT.abs (k44 x0 x1)) (@W.SharedT.abs (k43 x0 x1)) (k2 x0 x1) @h_sts_410 (@HAppend.hAppend (@List @Stmt) (@List @Stmt) (@List @Stmt) k8 @h_sts_467 (@HAppend.hAppend (@List @Stmt) (@List @Stmt) (@List @Stmt) k8 @h_sts_546 [])) k3 (P_ 94 0 109 17) (P_ 110 0 128 17) (sg_ (congrFun (My.pf_467 x0) x1)) (@W.piece_app @treeTable (k1).1 x0 11 v_ @h_env_41 (P_ 0 0 0 0) 376 (@Nat.add 280 2) (@W.SharedT.abs (k43 x0 x1)) (@W.SharedT.abs (k42 x0 x1)) (k2 x0 x1) @h_sts_467 (@HAppend.hAppend (@List @Stmt) (@List @Stmt) (@List @Stmt) k8 @h_sts_546 []) k3 (P_ 110 0 128 17) (P_ 191 0 199 20) (sg_ (congrFun (My.pf_546 x0) x1)) (@W.piece_app @treeTable (k1).1 x0 11 v_ @h_env_41 (P_ 0 0 0 0) 280 2 (@W.SharedT.abs (k42 x0 x1)) (@W.SharedT.abs (k62 x0 x1)) (k2 x0 x1) @h_sts_546 [] k3 (P_ 191 0 199 20) (P_ 264 0 278 48) (sg_ (congrFun (My.pf_607 x0) x1)) (congrFun (My.pf_609 x0) x1))))))))))))))))))
theorem My.pf_612 : ((x0 : World) → (@Eq (@Prod @Bool (@Prod @Nat (@Option @Value))) ((@Bool.and (@Heap.isNs (@W.boot_heap x0.params) @mainGlobals) (@BEq.beq @Nat (@instBEqOfDecidableEq @Nat @instDecidableEqNat) (@Array.size @GenState g_) 0)), ((@Array.size @Obj (@Heap.objs (@W.boot_heap x0.params))), (@Heap.nsMap (@W.boot_heap x0.params) @mainGlobals (.ofString "__annotations__")))) (@Bool.true, (11, v_)))) := by intros; kernel_rfl
theorem My.pf_43 : ((x0 : @Shared) → (@Eq (@Option @Shared) (@fenceModules? (k1).1 x0) (@some @Shared x0))) := by intros; kernel_rfl
theorem My.pf_42 : (@Eq @Program (@W.opening (k1).1) (@W.plainProg (@Scope.names (@Module.scope (@Program.main (k1).1))))) := by intros; kernel_rfl
theorem My.left : (@W.LeftO (k1).1 @h_view_39 [] (fun (x0 : @Shared) => (@Bool.and (@W.xlAt @h_view_39 k24 x0) (@W.recOk (@W.RowW.records k1) x0))) (@W.Hook.α kh0) (@W.Hook.obs kh0) (@W.Hook.val kh0) 8378 @Bool.true) := (@W.LeftO.of_pieces (k1).1 @h_view_39 [] (fun (x0 : @Shared) => (@Bool.and (@W.xlAt @h_view_39 k24 x0) (@W.recOk (@W.RowW.records k1) x0))) (@W.Hook.α kh0) (@W.Hook.obs kh0) (@W.Hook.val kh0) 8378 @Bool.true @W.boot_heap @h_heap_607 g_ g_ @W.boot_drawn d_ @W.boot_toks 868 11 v_ k41 (@W.boot_open (k1).1 8378 @My.pf_42 (@of_decide_eq_true (@Eq @Bool (@Nat.ble 600 8378) @Bool.true) (@instDecidableEqBool (@Nat.ble 600 8378) @Bool.true) (@id (@Eq @Bool (@Decidable.decide (@Eq @Bool (@Nat.ble 600 8378) @Bool.true) (@instDecidableEqBool (@Nat.ble 600 8378) @Bool.true)) @Bool.true) (@Eq.refl @Bool @Bool.true))) @My.pf_43) @My.pf_612 @My.pf_610 (@of_decide_eq_true (@Eq @Bool (@Nat.ble k41 8378) @Bool.true) (@instDecidableEqBool (@Nat.ble k41 8378) @Bool.true) (@id (@Eq @Bool (@Decidable.decide (@Eq @Bool (@Nat.ble k41 8378) @Bool.true) (@instDecidableEqBool (@Nat.ble k41 8378) @Bool.true)) @Bool.true) (@Eq.refl @Bool @Bool.true))) (fun x0 => (@funext @OsState (fun x1 => (@Prod @Bool (@Prod (@Prod @PyProof.Rows.Seen k15) (@W.Hook.α kh0)))) (fun x1 => ((k13 x0 x1), ((@W.openSeen @h_view_39 [] k19 (fun (x2 : @Shared) => (@Bool.and (@W.xlAt @h_view_39 k24 x2) (@W.recOk (@W.RowW.records k1) x2))) @Bool.true (k2 x0 x1)), (@W.Hook.obs kh0 (k2 x0 x1))))) (fun x1 => (@Bool.true, ((@W.openGood @h_view_39 []), (@W.Hook.val kh0 x0)))) (fun x1 => (@My.pf_644 x0 x1)))))
end
theorem My.myE : ∀ P, My.myAs = (My.h_heap_39 P).map (·.1) := fun _ => by kernel_rfl
set_option maxRecDepth 100000

set_option maxHeartbeats 4000000
namespace OD
open PySem PySem.Spec PyProof.Rows L2
abbrev St := L2.St

inductive Dt where
  | non | bl (b : Bool) | int (i : Int) | str (x : Str) | tup (ds : List Dt) | lst (ds : List Dt) | scr (ns : List Int) | way (C : Addr) (f : Str) (n : Int)

mutual
/-- the value v stands for the data in the heap H -/
def Is (K : PySem.W.Frag) (H : Hp) : Dt → V → Prop
  | .non, v => v = .non
  | .bl b, v => v = .bl b
  | .int i, v => v = .int i
  | .str x, v => v = .str x
  | .tup ds, v => ∃ a xs, v = .ref a ∧ H a = some (.tup xs) ∧ AllIs K H ds xs
  | .lst ds, v => ∃ a xs, v = .ref a ∧ H a = some (.lst xs) ∧ AllIs K H ds xs
  | .scr ns, v => ∃ a, v = .ref a ∧ SqL K H a (ns.map V.int)
  | .way C f n, v => ∃ a dx, v = .ref a ∧ H a = some (.ins C dx [(f, .int n)])
def AllIs (K : PySem.W.Frag) (H : Hp) : List Dt → List V → Prop
  | [], xs => xs = []
  | d :: ds, xs => ∃ x r, xs = x :: r ∧ Is K H d x ∧ AllIs K H ds r
end
variable {K : PySem.W.Frag} {H H' H1 H2 : Hp}
theorem is_non {v : V} : Is K H .non v ↔ v = .non := by unfold Is; exact Iff.rfl
theorem is_bl {b : Bool} {v : V} : Is K H (.bl b) v ↔ v = .bl b := by unfold Is; exact Iff.rfl
theorem is_int {i : Int} {v : V} : Is K H (.int i) v ↔ v = .int i := by unfold Is; exact Iff.rfl
theorem is_str {x : Str} {v : V} : Is K H (.str x) v ↔ v = .str x := by unfold Is; exact Iff.rfl
theorem is_tup {ds : List Dt} {v : V} : Is K H (.tup ds) v ↔ ∃ a xs, v = .ref a ∧ H a = some (.tup xs) ∧ AllIs K H ds xs := by
  constructor
  · intro h; unfold Is at h; exact h
  · intro h; unfold Is; exact h
theorem is_lst {ds : List Dt} {v : V} : Is K H (.lst ds) v ↔ ∃ a xs, v = .ref a ∧ H a = some (.lst xs) ∧ AllIs K H ds xs := by
  constructor
  · intro h; unfold Is at h; exact h
  · intro h; unfold Is; exact h
theorem is_scr {ns : List Int} {v : V} : Is K H (.scr ns) v ↔ ∃ a, v = .ref a ∧ SqL K H a (ns.map V.int) := by
  constructor
  · intro h; unfold Is at h; exact h
  · intro h; unfold Is; exact h
theorem is_way {C : Addr} {f : Str} {n : Int} {v : V} : Is K H (.way C f n) v ↔ ∃ a dx, v = .ref a ∧ H a = some (.ins C dx [(f, .int n)]) := by
  constructor
  · intro h; unfold Is at h; exact h
  · intro h; unfold Is; exact h
theorem allIs_nil {xs : List V} : AllIs K H [] xs ↔ xs = [] := by unfold AllIs; exact Iff.rfl
theorem allIs_cons {d : Dt} {ds : List Dt} {xs : List V} : AllIs K H (d :: ds) xs ↔ ∃ x r, xs = x :: r ∧ Is K H d x ∧ AllIs K H ds r := by
  constructor
  · intro h; unfold AllIs at h; exact h
  · intro h; unfold AllIs; exact h
mutual
theorem Is.mono0 (s : Same H H') : ∀ {d : Dt} {v : V}, Is K H d v → Is K H' d v
  | .non, _, h => is_non.mpr (is_non.mp h)
  | .bl _, _, h => is_bl.mpr (is_bl.mp h)
  | .int _, _, h => is_int.mpr (is_int.mp h)
  | .str _, _, h => is_str.mpr (is_str.mp h)
  | .tup ds, _, h => by
    obtain ⟨a, xs, e, h1, h2⟩ := is_tup.mp h
    exact is_tup.mpr ⟨a, xs, e, s _ _ h1, AllIs.mono0 s h2⟩
  | .lst ds, _, h => by
    obtain ⟨a, xs, e, h1, h2⟩ := is_lst.mp h
    exact is_lst.mpr ⟨a, xs, e, s _ _ h1, AllIs.mono0 s h2⟩
  | .scr ns, _, h => by
    obtain ⟨a, e, h1⟩ := is_scr.mp h
    exact is_scr.mpr ⟨a, e, s.seq h1⟩
  | .way C f n, _, h => by
    obtain ⟨a, dx, e, h1⟩ := is_way.mp h
    exact is_way.mpr ⟨a, dx, e, s _ _ h1⟩
theorem AllIs.mono0 (s : Same H H') : ∀ {ds : List Dt} {xs : List V}, AllIs K H ds xs → AllIs K H' ds xs
  | [], _, h => allIs_nil.mpr (allIs_nil.mp h)
  | d :: ds, _, h => by
    obtain ⟨x, r, e, h1, h2⟩ := allIs_cons.mp h
    exact allIs_cons.mpr ⟨x, r, e, Is.mono0 s h1, AllIs.mono0 s h2⟩
end
theorem AllIs.length : ∀ {ds : List Dt} {xs : List V}, AllIs K H ds xs → ds.length = xs.length
  | [], _, h => by rw [allIs_nil.mp h]; rfl
  | d :: ds, _, h => by
    obtain ⟨x, r, rfl, _, h2⟩ := allIs_cons.mp h
    rw [List.length_cons, List.length_cons, AllIs.length h2]
theorem AllIs.get : ∀ {ds : List Dt} {xs : List V} {i : Nat} {d : Dt}, AllIs K H ds xs → ds[i]? = some d → ∃ v, xs[i]? = some v ∧ Is K H d v
  | [], _, _, _, _, e => by simp at e
  | d :: ds, _, 0, d', h, e => by
    obtain ⟨x, r, rfl, h1, h2⟩ := allIs_cons.mp h
    simp at e; subst e
    exact ⟨x, rfl, h1⟩
  | d :: ds, _, i + 1, d', h, e => by
    obtain ⟨x, r, rfl, h1, h2⟩ := allIs_cons.mp h
    obtain ⟨v, e1, e2⟩ := AllIs.get (i := i) h2 (by simpa using e)
    exact ⟨v, by simpa using e1, e2⟩
theorem AllIs.get' : ∀ {ds : List Dt} {xs : List V} {i : Nat} {v : V}, AllIs K H ds xs → xs[i]? = some v → ∃ d, ds[i]? = some d ∧ Is K H d v
  | [], _, _, _, h, e => by rw [allIs_nil.mp h] at e; simp at e
  | d :: ds, _, 0, v, h, e => by
    obtain ⟨x, r, rfl, h1, h2⟩ := allIs_cons.mp h
    simp at e; subst e
    exact ⟨d, rfl, h1⟩
  | d :: ds, _, i + 1, v, h, e => by
    obtain ⟨x, r, rfl, h1, h2⟩ := allIs_cons.mp h
    obtain ⟨v, e1, e2⟩ := AllIs.get' (i := i) h2 (by simpa using e)
    exact ⟨v, by simpa using e1, e2⟩
theorem AllIs.append : ∀ {ds es : List Dt} {xs ys : List V}, AllIs K H ds xs → AllIs K H es ys → AllIs K H (ds ++ es) (xs ++ ys)
  | [], _, _, _, h, h' => by rw [allIs_nil.mp h]; exact h'
  | d :: ds, _, _, _, h, h' => by
    obtain ⟨x, r, rfl, h1, h2⟩ := allIs_cons.mp h
    exact allIs_cons.mpr ⟨x, _, rfl, h1, AllIs.append h2 h'⟩
theorem AllIs.drop : ∀ {ds : List Dt} {xs : List V} (n : Nat), AllIs K H ds xs → AllIs K H (ds.drop n) (xs.drop n)
  | _, _, 0, h => h
  | [], _, n + 1, h => by rw [allIs_nil.mp h]; exact allIs_nil.mpr rfl
  | d :: ds, _, n + 1, h => by
    obtain ⟨x, r, rfl, h1, h2⟩ := allIs_cons.mp h
    exact AllIs.drop n h2
theorem AllIs.take : ∀ {ds : List Dt} {xs : List V} (n : Nat), AllIs K H ds xs → AllIs K H (ds.take n) (xs.take n)
  | _, _, 0, _ => allIs_nil.mpr rfl
  | [], _, n + 1, h => by rw [allIs_nil.mp h]; exact allIs_nil.mpr rfl
  | d :: ds, _, n + 1, h => by
    obtain ⟨x, r, rfl, h1, h2⟩ := allIs_cons.mp h
    exact allIs_cons.mpr ⟨x, _, rfl, h1, AllIs.take n h2⟩
theorem AllIs.ints : ∀ {ns : List Int}, AllIs K H (ns.map Dt.int) (ns.map V.int)
  | [] => allIs_nil.mpr rfl
  | n :: ns => allIs_cons.mpr ⟨.int n, _, rfl, is_int.mpr rfl, AllIs.ints⟩
theorem AllIs.atI {ds : List Dt} {xs : List V} {i : Int} {d : Dt} (h : AllIs K H ds xs) (e : L2.atI ds i = some d) : ∃ v, L2.atI xs i = some v ∧ Is K H d v := by
  unfold L2.atI at e ⊢
  rw [← h.length]
  cases q : ixN ds.length i with
  | none => rw [q] at e; cases e
  | some j =>
    rw [q] at e
    exact h.get e
theorem AllIs.one {d : Dt} {xs : List V} (h : AllIs K H [d] xs) : ∃ v, xs = [v] ∧ Is K H d v := by
  obtain ⟨x, r, rfl, h1, h2⟩ := allIs_cons.mp h
  rw [allIs_nil.mp h2]
  exact ⟨x, rfl, h1⟩
theorem AllIs.two {d e : Dt} {xs : List V} (h : AllIs K H [d, e] xs) : ∃ v u, xs = [v, u] ∧ Is K H d v ∧ Is K H e u := by
  obtain ⟨x, r, rfl, h1, h2⟩ := allIs_cons.mp h
  obtain ⟨u, rfl, h3⟩ := h2.one
  exact ⟨x, u, rfl, h1, h3⟩

theorem same_new {p : Addr} (h : H p = none) (o : HO) : Same H (upd H p o) := fun b u q => by rw [upd_ne (ne_of_none q h)]; exact q

structure Vw where
  g : Hp
  h : Hp
  sub : Same g h
structure Le (W W' : Vw) : Prop where
  g : Same W.g W'.g
  h : Same W.h W'.h
  n : ∀ a, W.h a ≠ none → W.g a = none → W'.g a = none
theorem Le.refl (W : Vw) : Le W W := ⟨Same.refl _, Same.refl _, fun _ _ h => h⟩
theorem Le.trans {W W1 W2 : Vw} (a : Le W W1) (b : Le W1 W2) : Le W W2 :=
  ⟨a.g.trans b.g, a.h.trans b.h, fun c h1 h2 => b.n c (fun z => h1 (a.h.free z)) (a.n c h1 h2)⟩
theorem Is.mono {W W' : Vw} {d : Dt} {v : V} (h : Is K W.g d v) (s : Le W W') : Is K W'.g d v := Is.mono0 s.g h
theorem AllIs.mono {W W' : Vw} {d : List Dt} {v : List V} (h : AllIs K W.g d v) (s : Le W W') : AllIs K W'.g d v := AllIs.mono0 s.g h
def Vw.new (W : Vw) (p : Addr) (o : HO) : Vw := ⟨upd W.g p o, upd W.h p o, fun b u q => by
  by_cases e : b = p
  · subst e; rw [upd_same] at q ⊢; exact q
  · rw [upd_ne e] at q ⊢; exact W.sub _ _ q⟩
theorem le_new {W : Vw} {p : Addr} (hp : W.h p = none) (o : HO) : Le W (W.new p o) :=
  ⟨same_new (W.sub.free hp) o, same_new hp o, fun a h1 h2 => by
    have : a ≠ p := fun e => h1 (e ▸ hp)
    show upd W.g p o a = none
    rw [upd_ne this]; exact h2⟩
def Vw.mine (W : Vw) (p : Addr) (o : HO) (hp : W.g p = none) : Vw := ⟨W.g, upd W.h p o, fun b u q => by
  have : b ≠ p := fun e => by rw [e, hp] at q; cases q
  rw [upd_ne this]; exact W.sub _ _ q⟩
theorem le_mine {W : Vw} {p : Addr} (hp : W.h p = none) (o : HO) : Le W (W.mine p o (W.sub.free hp)) :=
  ⟨Same.refl _, same_new hp o, fun _ _ h => h⟩
def Vw.frz (W : Vw) (p : Addr) (o : HO) (hp : W.h p = some o) : Vw := ⟨upd W.g p o, W.h, fun b u q => by
  by_cases e : b = p
  · subst e; rw [upd_same] at q; rw [hp]; exact q
  · rw [upd_ne e] at q; exact W.sub _ _ q⟩

inductive Sl where | none | some (d : Dt) | own (ds : List Dt)
abbrev DS := List Sl
structure Rl (K : PySem.W.Frag) (F : Addr → Prop) (W : Vw) (ρ : DS) (σ : St) : Prop where
  len : ρ.length = σ.length
  at_ : ∀ (i : Nat) (d : Dt), ρ[i]? = some (.some d) → ∃ v, σ[i]? = some (some v) ∧ Is K W.g d v
  ow : ∀ (i : Nat) (ds : List Dt), ρ[i]? = some (.own ds) → ∃ a xs, σ[i]? = some (some (.ref a)) ∧ W.h a = some (.lst xs) ∧ W.g a = none ∧ F a ∧ AllIs K W.g ds xs
  ne : ∀ (i j : Nat) (ds es : List Dt), i ≠ j → ρ[i]? = some (.own ds) → ρ[j]? = some (.own es) → σ[i]? ≠ σ[j]?
  fr : ∀ p, W.h p = none → F p
variable {F : Addr → Prop} {W W' : Vw}
theorem Rl.mono {ρ : DS} {σ : St} (r : Rl K F W ρ σ) (s : Le W W') : Rl K F W' ρ σ :=
  ⟨r.len, fun i d e => let ⟨v, h1, h2⟩ := r.at_ i d e; ⟨v, h1, h2.mono s⟩,
   fun i ds e => let ⟨a, xs, h1, h2, h3, h4, h5⟩ := r.ow i ds e; ⟨a, xs, h1, s.h _ _ h2, s.n a (by rw [h2]; intro z; cases z) h3, h4, h5.mono s⟩, r.ne, fun p hp => r.fr p (s.h.free hp)⟩
theorem set_get {α : Type} {l : List α} {i j : Nat} {x y : α} (q : (l.set i x)[j]? = some y) : (i = j ∧ i < l.length ∧ x = y) ∨ (i ≠ j ∧ l[j]? = some y) := by
  by_cases hij : i = j
  · subst hij
    by_cases hl : i < l.length
    · rw [List.getElem?_set_self hl] at q
      exact .inl ⟨rfl, hl, Option.some.inj q⟩
    · rw [List.getElem?_eq_none (by rw [List.length_set]; omega)] at q
      cases q
  · rw [List.getElem?_set_ne hij] at q
    exact .inr ⟨hij, q⟩
theorem Rl.set {ρ : DS} {σ : St} (r : Rl K F W ρ σ) {d : Dt} {v : V} (i : Nat) (h : Is K W.g d v) : Rl K F W (ρ.set i (.some d)) (σ.set i (some v)) := by
  refine ⟨by rw [List.length_set, List.length_set]; exact r.len, fun j e q => ?_, fun j ds q => ?_, fun j k ds es hjk q1 q2 => ?_, r.fr⟩
  · rcases set_get q with ⟨rfl, hl, e1⟩ | ⟨hij, q⟩
    · cases e1
      exact ⟨v, by rw [List.getElem?_set_self (by rw [← r.len]; exact hl)], h⟩
    · rw [List.getElem?_set_ne hij]
      exact r.at_ j e q
  · rcases set_get q with ⟨_, _, e1⟩ | ⟨hij, q⟩
    · cases e1
    · rw [List.getElem?_set_ne hij]
      exact r.ow j ds q
  · rcases set_get q1 with ⟨_, _, e1⟩ | ⟨hij, q1⟩
    · cases e1
    rcases set_get q2 with ⟨_, _, e1⟩ | ⟨hik, q2⟩
    · cases e1
    rw [List.getElem?_set_ne hij, List.getElem?_set_ne hik]
    exact r.ne j k ds es hjk q1 q2
theorem Rl.own {ρ : DS} {σ : St} (r : Rl K F W ρ σ) (s : Le W W') {p : Addr} {xs : List V} {ds : List Dt} (i : Nat) (h0 : W.h p = none) (h1 : W'.h p = some (.lst xs)) (h2 : W'.g p = none) (h3 : AllIs K W'.g ds xs) :
    Rl K F W' (ρ.set i (.own ds)) (σ.set i (some (.ref p))) := by
  have r' := r.mono s
  have nep : ∀ (j : Nat) (es : List Dt), ρ[j]? = some (Sl.own es) → σ[j]? ≠ some (some (V.ref p)) := fun j es q z => by
    obtain ⟨a, ys, e1, e2, _⟩ := r.ow j es q
    rw [z] at e1
    cases e1
    rw [h0] at e2
    cases e2
  refine ⟨by rw [List.length_set, List.length_set]; exact r.len, fun j e q => ?_, fun j es q => ?_, fun j k es es' hjk q1 q2 => ?_, r'.fr⟩
  · rcases set_get q with ⟨_, _, e1⟩ | ⟨hij, q⟩
    · cases e1
    · rw [List.getElem?_set_ne hij]
      exact r'.at_ j e q
  · rcases set_get q with ⟨rfl, hl, e1⟩ | ⟨hij, q⟩
    · cases e1
      exact ⟨p, xs, by rw [List.getElem?_set_self (by rw [← r.len]; exact hl)], h1, h2, r.fr p h0, h3⟩
    · rw [List.getElem?_set_ne hij]
      exact r'.ow j es q
  · rcases set_get q1 with ⟨rfl, hl, e1⟩ | ⟨hij, q1⟩
    · rcases set_get q2 with ⟨rfl, _, _⟩ | ⟨hik, q2⟩
      · exact absurd rfl hjk
      · rw [List.getElem?_set_self (by rw [← r.len]; exact hl), List.getElem?_set_ne hik]
        exact fun z => nep k es' q2 z.symm
    · rcases set_get q2 with ⟨rfl, hl, _⟩ | ⟨hik, q2⟩
      · rw [List.getElem?_set_self (by rw [← r.len]; exact hl), List.getElem?_set_ne hij]
        exact nep j es q1
      · rw [List.getElem?_set_ne hij, List.getElem?_set_ne hik]
        exact r.ne j k es es' hjk q1 q2
theorem Rl.put {ρ : DS} {σ : St} (r : Rl K F W ρ σ) {i : Nat} {ds es : List Dt} {a : Addr} {ys : List V} (hi : ρ[i]? = some (.own ds)) (ha : σ[i]? = some (some (.ref a))) (hg : W.g a = none) (hF : F a) (h3 : AllIs K W.g es ys) :
    Rl K F (W.mine a (.lst ys) hg) (ρ.set i (.own es)) σ := by
  have hl : i < ρ.length := by
    rcases Nat.lt_or_ge i ρ.length with h | h
    · exact h
    · rw [List.getElem?_eq_none h] at hi; cases hi
  have other : ∀ j fs, j ≠ i → ρ[j]? = some (.own fs) → σ[j]? ≠ some (some (.ref a)) := fun j fs hj q z => r.ne j i fs ds hj q hi (z.trans ha.symm)
  refine ⟨by rw [List.length_set]; exact r.len, fun j e q => ?_, fun j fs q => ?_, fun j k fs fs' hjk q1 q2 => ?_, fun p hp => ?_⟩
  · rcases set_get q with ⟨_, _, e1⟩ | ⟨hij, q⟩
    · cases e1
    · exact r.at_ j e q
  · rcases set_get q with ⟨rfl, _, e1⟩ | ⟨hij, q⟩
    · cases e1
      exact ⟨a, ys, ha, upd_same, hg, hF, h3⟩
    · obtain ⟨b, xs, e1, e2, e3, e4, e5⟩ := r.ow j fs q
      have hb : b ≠ a := fun z => other j fs (fun z => hij z.symm) q (z ▸ e1)
      exact ⟨b, xs, e1, (upd_ne hb).trans e2, e3, e4, e5⟩
  · have k1 : ∃ gs, ρ[j]? = some (.own gs) := by
      rcases set_get q1 with ⟨rfl, _, _⟩ | ⟨_, q⟩
      · exact ⟨_, hi⟩
      · exact ⟨_, q⟩
    have k2 : ∃ gs, ρ[k]? = some (.own gs) := by
      rcases set_get q2 with ⟨rfl, _, _⟩ | ⟨_, q⟩
      · exact ⟨_, hi⟩
      · exact ⟨_, q⟩
    obtain ⟨_, k1⟩ := k1
    obtain ⟨_, k2⟩ := k2
    exact r.ne j k _ _ hjk k1 k2
  · by_cases e : p = a
    · exact e ▸ hF
    · exact r.fr p ((upd_ne (H := W.h) (o := .lst ys) e).symm.trans hp)
theorem Rl.frz {ρ : DS} {σ : St} (r : Rl K F W ρ σ) {i : Nat} {ds : List Dt} {a : Addr} {xs : List V} (hi : ρ[i]? = some (.own ds)) (ha : σ[i]? = some (some (.ref a))) (hh : W.h a = some (.lst xs)) (hg : W.g a = none) (h3 : AllIs K W.g ds xs) :
    Rl K F (W.frz a _ hh) (ρ.set i (.some (.lst ds))) σ := by
  have sg : Same W.g (upd W.g a (.lst xs)) := same_new hg _
  have other : ∀ j fs, j ≠ i → ρ[j]? = some (.own fs) → σ[j]? ≠ some (some (.ref a)) := fun j fs hj q z => r.ne j i fs ds hj q hi (z.trans ha.symm)
  refine ⟨by rw [List.length_set]; exact r.len, fun j e q => ?_, fun j fs q => ?_, fun j k fs fs' hjk q1 q2 => ?_, r.fr⟩
  · rcases set_get q with ⟨rfl, _, e1⟩ | ⟨hij, q⟩
    · cases e1
      exact ⟨_, ha, is_lst.mpr ⟨a, xs, rfl, upd_same, AllIs.mono0 sg h3⟩⟩
    · obtain ⟨v, e1, e2⟩ := r.at_ j e q
      exact ⟨v, e1, Is.mono0 sg e2⟩
  · rcases set_get q with ⟨_, _, e1⟩ | ⟨hij, q⟩
    · cases e1
    · obtain ⟨b, ys, e1, e2, e3, e4, e5⟩ := r.ow j fs q
      have hb : b ≠ a := fun z => other j fs (fun z => hij z.symm) q (z ▸ e1)
      exact ⟨b, ys, e1, e2, (upd_ne hb).trans e3, e4, AllIs.mono0 sg e5⟩
  · rcases set_get q1 with ⟨_, _, e1⟩ | ⟨_, q1⟩
    · cases e1
    rcases set_get q2 with ⟨_, _, e1⟩ | ⟨_, q2⟩
    · cases e1
    exact r.ne j k _ _ hjk q1 q2
def dstart (n : Nat) (ds : List Dt) : DS := ds.map Sl.some ++ List.replicate (n - ds.length) Sl.none
theorem Rl.start {N : List Str} {ds : List Dt} {vs : List V} (h : AllIs K W.g ds vs) : Rl K (fun a => W.h a = none) W (dstart N.length ds) (L2.start N vs) := by
  have hl := h.length
  have cls : ∀ (i : Nat) (y : Sl), (dstart N.length ds)[i]? = some y → (∃ d, ds[i]? = some d ∧ y = .some d) ∨ y = .none := fun i y e => by
    unfold dstart at e
    by_cases hi : i < ds.length
    · rw [List.getElem?_append_left (by rw [List.length_map]; exact hi), List.getElem?_map] at e
      cases q : ds[i]? with
      | none => rw [q] at e; cases e
      | some d' =>
        rw [q] at e
        exact .inl ⟨d', rfl, (Option.some.inj e).symm⟩
    · rw [List.getElem?_append_right (by rw [List.length_map]; omega), List.getElem?_replicate] at e
      split at e
      · exact .inr (Option.some.inj e).symm
      · cases e
  refine ⟨by unfold L2.start dstart; rw [List.length_append, List.length_append, List.length_map, List.length_map, List.length_replicate, List.length_replicate, hl], fun i d e => ?_, fun i es e => ?_, fun i j es fs _ e _ => ?_, fun p hp => hp⟩
  · rcases cls i _ e with ⟨d', q, e1⟩ | e1
    · cases e1
      obtain ⟨v, h1, h2⟩ := h.get q
      refine ⟨v, ?_, h2⟩
      have hi : i < ds.length := by
        rcases Nat.lt_or_ge i ds.length with h | h
        · exact h
        · rw [List.getElem?_eq_none h] at q; cases q
      unfold L2.start
      rw [List.getElem?_append_left (by rw [List.length_map, ← hl]; exact hi), List.getElem?_map, h1]
      rfl
    · cases e1
  · rcases cls i _ e with ⟨d', q, e1⟩ | e1
    · cases e1
    · cases e1
  · rcases cls i _ e with ⟨d', q, e1⟩ | e1
    · cases e1
    · cases e1

abbrev DTE := DS → (Dt → Prop) → Prop
abbrev DTT := DS → (Bool → Prop) → Prop
abbrev DTA := DS → (List Dt → Prop) → Prop
def LiE (K : PySem.W.Frag) (te : TE) (t : DTE) : Prop :=
  ∀ {F : Addr → Prop} (ρ : DS) (σ : St) (H : Vw) (Q : Dt → Prop), Rl K F H ρ σ → t ρ Q → ∀ R : VK, (∀ d v H', Le H H' → Is K H'.g d v → Q d → R v H'.h) → te σ H.h R
def LiT (K : PySem.W.Frag) (te : TT) (t : DTT) : Prop :=
  ∀ {F : Addr → Prop} (ρ : DS) (σ : St) (H : Vw) (Q : Bool → Prop), Rl K F H ρ σ → t ρ Q → ∀ R : Bool → Hp → Prop, (∀ d H', Le H H' → Q d → R d H'.h) → te σ H.h R
def LiA (K : PySem.W.Frag) (te : TA) (t : DTA) : Prop :=
  ∀ {F : Addr → Prop} (ρ : DS) (σ : St) (H : Vw) (Q : List Dt → Prop), Rl K F H ρ σ → t ρ Q → ∀ R : List V → Hp → Prop, (∀ d v H', Le H H' → AllIs K H'.g d v → Q d → R v H'.h) → te σ H.h R
def DE (X : Cx) (e : Expr) (t : DTE) : Prop := ∃ te, PE X e te ∧ LiE X.K te t
def DT (X : Cx) (e : Expr) (t : DTT) : Prop := ∃ te, PT X e te ∧ LiT X.K te t
def DW (X : Cx) (e : Expr) (t : DTT) : Prop := ∃ te, PW X e te ∧ LiT X.K te t
def DA (X : Cx) (es : List Expr) (t : DTA) : Prop := ∃ te, PA X es te ∧ LiA X.K te t
theorem DW.dt {X : Cx} {e : Expr} {t : DTT} (h : DW X e t) : DT X e t := let ⟨te, h1, h2⟩ := h; ⟨te, h1.pt, h2⟩

def dVar (i : Nat) : DTE := fun ρ Q => ∃ d, ρ[i]? = some (.some d) ∧ Q d
def dC (d : Dt) : DTE := fun _ Q => Q d
section
variable {X : Cx} {a b c : Expr} {ta tb tc : DTE} {pos : Pos}
theorem dv (i : Nat) {x : Str} {pos : Pos} (hN : X.N[i]? = some x := by rfl) (hv : Vis X.env.scope x := by first | exact Or.inl rfl | exact Or.inr (Or.inl rfl) | exact Or.inr (Or.inr rfl)) (hd : (x == ("__debug__" : Str)) = false := by decide)
    (hcd : (x == ("__classdict__" : Str)) = false := by decide) : DE X (.Name x pos) (dVar i) :=
  ⟨tVar i, pe_var hN hv hd hcd, fun ρ σ H Q r h R k => by
    obtain ⟨d, e, q⟩ := h
    obtain ⟨v, h1, h2⟩ := r.at_ i d e
    exact ⟨v, h1, k d v H (Le.refl H) h2 q⟩⟩
theorem lic {v : V} {d : Dt} (h : ∀ H : Vw, Is K H.g d v) : LiE K (tC v) (dC d) := fun ρ σ H Q r q R k => k d v H (Le.refl H) (h H) q
theorem de_int {i j pos} : DE X (.Constant (.int i) j pos) (dC (.int i)) := ⟨_, pe_int, lic fun _ => is_int.mpr rfl⟩
theorem de_bl {b j pos} : DE X (.Constant (.bool b) j pos) (dC (.bl b)) := ⟨_, pe_bl, lic fun _ => is_bl.mpr rfl⟩
theorem de_non {j pos} : DE X (.Constant .none j pos) (dC .non) := ⟨_, pe_non, lic fun _ => is_non.mpr rfl⟩
theorem de_str {x j pos} : DE X (.Constant (.str x) j pos) (dC (.str x)) := ⟨_, pe_str, lic fun _ => is_str.mpr rfl⟩

def DOp (X : Cx) (f : Value → Value → Sem Value) (g : Dt → Dt → (Dt → Prop) → Prop) : Prop :=
  ∃ r, OpR X f r ∧ ∀ (H : Vw) (x y : V) (d e : Dt) (Q : Dt → Prop), Is X.K H.g d x → Is X.K H.g e y → g d e Q → ∀ R : VK, (∀ d v H', Le H H' → Is X.K H'.g d v → Q d → R v H'.h) → r x y H.h R
def dOp (g : Dt → Dt → (Dt → Prop) → Prop) (ta tb : DTE) : DTE := fun ρ Q => ta ρ fun d => tb ρ fun e => g d e Q
theorem liOp {te tf : TE} {r : R2} {g : Dt → Dt → (Dt → Prop) → Prop} (ha : LiE K te ta) (hb : LiE K tf tb)
    (hg : ∀ (H : Vw) (x y : V) (d e : Dt) (Q : Dt → Prop), Is K H.g d x → Is K H.g e y → g d e Q → ∀ R : VK, (∀ d v H', Le H H' → Is K H'.g d v → Q d → R v H'.h) → r x y H.h R) : LiE K (tOp r te tf) (dOp g ta tb) :=
  fun ρ σ H Q rl h R k => ha ρ σ H _ rl h _ fun d v H1 s1 i1 q1 => hb ρ σ H1 _ (rl.mono s1) q1 _ fun e u H2 s2 i2 q2 =>
    hg H2 v u d e Q (i1.mono s2) i2 q2 R fun d' v' H3 s3 i3 q3 => k d' v' H3 ((s1.trans s2).trans s3) i3 q3
theorem de_op {op : Operator} {g : Dt → Dt → (Dt → Prop) → Prop} (ho : DOp X (binaryOp op) g) (ha : DE X a ta) (hb : DE X b tb) : DE X (.BinOp a op b pos) (dOp g ta tb) := by
  obtain ⟨r, h1, h2⟩ := ho
  obtain ⟨te, p1, l1⟩ := ha
  obtain ⟨tf, p2, l2⟩ := hb
  exact ⟨_, pe_op h1 p1 p2, liOp l1 l2 h2⟩
theorem de_cmp {op : CmpOp} {g : Dt → Dt → (Dt → Prop) → Prop} (ho : DOp X (compareOp op) g) (ha : DE X a ta) (hb : DE X b tb) (hm : behindInMarks op b = false) : DE X (.Compare a [op] [b] pos) (dOp g ta tb) := by
  obtain ⟨r, h1, h2⟩ := ho
  obtain ⟨te, p1, l1⟩ := ha
  obtain ⟨tf, p2, l2⟩ := hb
  exact ⟨_, pe_cmpR h1 p1 p2 hm, liOp l1 l2 h2⟩
def dTest (t : DTE) : DTT := fun ρ Q => t ρ fun d => ∃ k, d = .bl k ∧ Q k
theorem liTest {te : TE} {t : DTE} (h : LiE K te t) : LiT K (tTest te) (dTest t) := fun ρ σ H Q r q R k =>
  h ρ σ H _ r q _ fun d v H1 s1 i1 ⟨b, e, qb⟩ => by
    subst e
    exact ⟨b, is_bl.mp i1, k b H1 s1 qb⟩
theorem dt_cmp {op : CmpOp} {g : Dt → Dt → (Dt → Prop) → Prop} (ho : DOp X (compareOp op) g) (ha : DE X a ta) (hb : DE X b tb) (hm : behindInMarks op b = false) : DT X (.Compare a [op] [b] pos) (dTest (dOp g ta tb)) := by
  obtain ⟨r, h1, h2⟩ := ho
  obtain ⟨te, p1, l1⟩ := ha
  obtain ⟨tf, p2, l2⟩ := hb
  exact ⟨_, pt_cmpR h1 p1 p2 hm, liTest (liOp l1 l2 h2)⟩
theorem dt_val {e : Expr} {t : DTE} (h : DE X e t) (he : ∀ whole, isTrue e X.env whole = (do let v ← whole; standAt e.pos; holding [v] (truthy v)) := by intro _; rfl) : DT X e (dTest t) := by
  obtain ⟨te, p, l⟩ := h
  exact ⟨_, pt_val p he, liTest l⟩
variable {tA tB : DTT} {rest : List Expr}
def dAnd (t u : DTT) : DTT := fun ρ Q => t ρ fun c => if c = true then u ρ Q else Q false
def dOr (t u : DTT) : DTT := fun ρ Q => t ρ fun c => if c = true then Q true else u ρ Q
def dNot (t : DTT) : DTT := fun ρ Q => t ρ fun c => Q (!c)
theorem dw_and1 (ha : DT X a tA) : DW X (.BoolOp .And [a] pos) tA := let ⟨_, p, l⟩ := ha; ⟨_, pw_and1 p, l⟩
theorem dw_or1 (ha : DT X a tA) : DW X (.BoolOp .Or [a] pos) tA := let ⟨_, p, l⟩ := ha; ⟨_, pw_or1 p, l⟩
theorem dw_and (ha : DT X a tA) (hb : DW X (.BoolOp .And (b :: rest) pos) tB) : DW X (.BoolOp .And (a :: b :: rest) pos) (dAnd tA tB) := by
  obtain ⟨te, p1, l1⟩ := ha
  obtain ⟨tf, p2, l2⟩ := hb
  refine ⟨_, pw_and p1 p2, fun ρ σ H Q r h R k => l1 ρ σ H _ r h _ fun c H1 s1 q1 => ?_⟩
  cases c with
  | true => exact l2 ρ σ H1 Q (r.mono s1) q1 R fun d H2 s2 q2 => k d H2 (s1.trans s2) q2
  | false => exact k _ H1 s1 q1
theorem dw_or (ha : DT X a tA) (hb : DW X (.BoolOp .Or (b :: rest) pos) tB) : DW X (.BoolOp .Or (a :: b :: rest) pos) (dOr tA tB) := by
  obtain ⟨te, p1, l1⟩ := ha
  obtain ⟨tf, p2, l2⟩ := hb
  refine ⟨_, pw_or p1 p2, fun ρ σ H Q r h R k => l1 ρ σ H _ r h _ fun c H1 s1 q1 => ?_⟩
  cases c with
  | false => exact l2 ρ σ H1 Q (r.mono s1) q1 R fun d H2 s2 q2 => k d H2 (s1.trans s2) q2
  | true => exact k _ H1 s1 q1
theorem dt_not (ha : DT X a tA) : DT X (.UnaryOp .Not a pos) (dNot tA) := by
  obtain ⟨te, p1, l1⟩ := ha
  exact ⟨_, pt_not p1, fun ρ σ H Q r h R k => l1 ρ σ H _ r h _ fun c H1 s1 q1 => k _ H1 s1 q1⟩
def dAndV (ta tb : DTE) : DTE := fun ρ Q => ta ρ fun d => ∃ c, d = .bl c ∧ if c = true then tb ρ Q else Q (.bl false)
def dNotV (ta : DTE) : DTE := fun ρ Q => ta ρ fun d => ∃ c, d = .bl c ∧ Q (.bl (!c))
theorem de_one {op} {t : DTE} (h : DE X a t) : DE X (.BoolOp op [a] pos) t := let ⟨_, p, l⟩ := h; ⟨_, pe_one p, l⟩
theorem de_and (ha : DE X a ta) (hb : DE X (.BoolOp .And (b :: rest) pos) tb) : DE X (.BoolOp .And (a :: b :: rest) pos) (dAndV ta tb) := by
  obtain ⟨te, p1, l1⟩ := ha
  obtain ⟨tf, p2, l2⟩ := hb
  refine ⟨_, pe_and p1 p2, fun ρ σ H Q r h R k => l1 ρ σ H _ r h _ fun d v H1 s1 i1 ⟨c, e, q1⟩ => ?_⟩
  subst e
  refine ⟨c, is_bl.mp i1, ?_⟩
  cases c with
  | true => exact l2 ρ σ H1 Q (r.mono s1) q1 R fun d v H2 s2 i2 q2 => k d v H2 (s1.trans s2) i2 q2
  | false => exact k _ _ H1 s1 (is_bl.mpr rfl) q1
theorem de_not (ha : DE X a ta) : DE X (.UnaryOp .Not a pos) (dNotV ta) := by
  obtain ⟨te, p1, l1⟩ := ha
  refine ⟨_, pe_not p1, fun ρ σ H Q r h R k => l1 ρ σ H _ r h _ fun d v H1 s1 i1 ⟨c, e, q1⟩ => ?_⟩
  subst e
  exact ⟨c, is_bl.mp i1, k _ _ H1 s1 (is_bl.mpr rfl) q1⟩
def dIf (t : DTT) (ta tb : DTE) : DTE := fun ρ Q => t ρ fun c => if c = true then ta ρ Q else tb ρ Q
theorem de_ifExp {c : Expr} (hc : DT X c tA) (ha : DE X a ta) (hb : DE X b tb) : DE X (.IfExp c a b pos) (dIf tA ta tb) := by
  obtain ⟨tt, p0, l0⟩ := hc
  obtain ⟨te, p1, l1⟩ := ha
  obtain ⟨tf, p2, l2⟩ := hb
  refine ⟨_, pe_ifExp p0 p1 p2, fun ρ σ H Q r h R k => l0 ρ σ H _ r h _ fun c H1 s1 q1 => ?_⟩
  cases c with
  | true => exact l1 ρ σ H1 Q (r.mono s1) q1 R fun d v H2 s2 i2 q2 => k d v H2 (s1.trans s2) i2 q2
  | false => exact l2 ρ σ H1 Q (r.mono s1) q1 R fun d v H2 s2 i2 q2 => k d v H2 (s1.trans s2) i2 q2
end

section
variable {X : Cx} {a b c : Expr} {ta tb tc : DTE} {pos : Pos}
def gI (g : Int → Int → Dt) : Dt → Dt → (Dt → Prop) → Prop := fun d e Q => ∃ i j, d = .int i ∧ e = .int j ∧ Q (g i j)
def gIC (C : Int → Int → Prop) (g : Int → Int → Dt) : Dt → Dt → (Dt → Prop) → Prop := fun d e Q => ∃ i j, d = .int i ∧ e = .int j ∧ C i j ∧ Q (g i j)
theorem dop_I0 {f : Value → Value → Sem Value} {g : Int → Int → Int} (h : OpR X f (rI0 fun i j => .int (g i j))) : DOp X f (gI fun i j => .int (g i j)) := by
  refine ⟨_, h, fun H x y d e Q i1 i2 q R k => ?_⟩
  obtain ⟨i, j, rfl, rfl, q⟩ := q
  exact ⟨i, j, is_int.mp i1, is_int.mp i2, k _ _ H (Le.refl H) (is_int.mpr rfl) q⟩
theorem dop_B0 {f : Value → Value → Sem Value} {g : Int → Int → Bool} (h : OpR X f (rI0 fun i j => .bl (g i j))) : DOp X f (gI fun i j => .bl (g i j)) := by
  refine ⟨_, h, fun H x y d e Q i1 i2 q R k => ?_⟩
  obtain ⟨i, j, rfl, rfl, q⟩ := q
  exact ⟨i, j, is_int.mp i1, is_int.mp i2, k _ _ H (Le.refl H) (is_bl.mpr rfl) q⟩
theorem dop_IC {f : Value → Value → Sem Value} {C : Int → Int → Prop} {g : Int → Int → Int} (h : OpR X f (rI C fun i j => .int (g i j))) : DOp X f (gIC C fun i j => .int (g i j)) := by
  refine ⟨_, h, fun H x y d e Q i1 i2 q R k => ?_⟩
  obtain ⟨i, j, rfl, rfl, hc, q⟩ := q
  exact ⟨i, j, is_int.mp i1, is_int.mp i2, hc, k _ _ H (Le.refl H) (is_int.mpr rfl) q⟩
theorem op_mulB : OpR X (binaryOp .Mult) (rI IntMulOk fun i j => .int (i * j)) := opI fun _ _ _ _ _ _ _ hc q => mul_int q hc
theorem o_add : DOp X (binaryOp .Add) (gI fun i j => .int (i + j)) := dop_I0 op_add
theorem o_sub : DOp X (binaryOp .Sub) (gI fun i j => .int (i - j)) := dop_I0 op_sub
theorem o_mul : DOp X (binaryOp .Mult) (gIC IntMulOk fun i j => .int (i * j)) := dop_IC op_mulB
theorem o_fdiv : DOp X (binaryOp .FloorDiv) (gIC CDivN fun i j => .int (i.fdiv j)) := dop_IC op_fdivN
def CModN (_ j : Int) : Prop := j ≠ 0
theorem o_mod : DOp X (binaryOp .Mod) (gIC CModN fun i j => .int (i.fmod j)) := dop_IC (C := CModN) op_modN
theorem cdivN {c n : Int} (h : (n != 0 && decide (n.natAbs < 1073741824)) = true) : CDivN c n := by
  rw [Bool.and_eq_true, bne_iff_ne, decide_eq_true_iff] at h
  exact h
theorem cmodN {c n : Int} (h : (n != 0) = true) : CModN c n := bne_iff_ne.mp h
theorem cpowN {c n : Int} (h : (decide (0 ≤ n) && (decide (n ≤ 1000000) && decide (c.natAbs < 18446744073709551616))) = true) : CPow c n := by
  rw [Bool.and_eq_true, Bool.and_eq_true, decide_eq_true_iff, decide_eq_true_iff, decide_eq_true_iff] at h
  exact h
theorem mulR {c n : Int} (h : decide (n.natAbs < 9223372036854775808) = true) : IntMulOk c n := by
  rw [decide_eq_true_iff] at h
  exact .of_right (intBits_le_64 (by omega) (by omega))
theorem mulL {c n : Int} (h : decide (n.natAbs < 9223372036854775808) = true) : IntMulOk n c := by
  rw [decide_eq_true_iff] at h
  exact .of_left (intBits_le_64 (by omega) (by omega))
theorem o_lt : DOp X (compareOp .Lt) (gI fun i j => .bl (decide (i < j))) := dop_B0 op_lt
theorem o_gt : DOp X (compareOp .Gt) (gI fun i j => .bl (decide (j < i))) := dop_B0 op_gt
def dNeg (ta : DTE) : DTE := fun ρ Q => ta ρ fun d => ∃ i, d = .int i ∧ Q (.int (-i))
theorem de_neg (ha : DE X a ta) : DE X (.UnaryOp .USub a pos) (dNeg ta) := by
  obtain ⟨te, p1, l1⟩ := ha
  refine ⟨_, pe_un un_neg p1, fun ρ σ H Q r h R k => l1 ρ σ H _ r h _ fun d v H1 s1 i1 ⟨i, e, q1⟩ => ?_⟩
  subst e
  exact ⟨i, is_int.mp i1, k _ _ H1 s1 (is_int.mpr rfl) q1⟩
def dNil : DTA := fun _ Q => Q []
def dCons (te : DTE) (t : DTA) : DTA := fun ρ Q => te ρ fun d => t ρ fun ds => Q (d :: ds)
variable {es : List Expr} {t : DTA}
theorem da_nil : DA X [] dNil := ⟨_, pa_nil, fun ρ σ H Q r h R k => k [] [] H (Le.refl H) (allIs_nil.mpr rfl) h⟩
theorem da_cons (ha : DE X a ta) (hr : DA X es t) (hs : starEach (a :: es) X.env = (false, eval a X.env) :: starEach es X.env := by rfl) : DA X (a :: es) (dCons ta t) := by
  obtain ⟨te, p1, l1⟩ := ha
  obtain ⟨tf, p2, l2⟩ := hr
  exact ⟨_, pa_cons p1 p2 hs, fun ρ σ H Q r h R k => l1 ρ σ H _ r h _ fun d v H1 s1 i1 q1 => l2 ρ σ H1 _ (r.mono s1) q1 _ fun ds vs H2 s2 i2 q2 =>
    k (d :: ds) (v :: vs) H2 (s1.trans s2) (allIs_cons.mpr ⟨v, vs, rfl, i1.mono s2, i2⟩) q2⟩
def dTup (t : DTA) : DTE := fun ρ Q => t ρ fun ds => Nat.ble ds.length 1000 = true ∧ Q (.tup ds)
def dLst (t : DTA) : DTE := fun ρ Q => t ρ fun ds => Nat.ble ds.length 1000 = true ∧ Q (.lst ds)
theorem de_tup {x1} (h : DA X es t) : DE X (.Tuple es x1 pos) (dTup t) := by
  obtain ⟨te, p1, l1⟩ := h
  refine ⟨_, pe_tup p1, fun ρ σ H Q r h R k => l1 ρ σ H _ r h _ fun ds vs H1 s1 i1 ⟨hl, q1⟩ => ⟨?_, fun p hp => ?_⟩⟩
  · rw [← i1.length]; exact Nat.le_trans (Nat.le_of_ble_eq_true hl) (by decide)
  · have s := le_new hp (.tup vs)
    exact k _ _ _ (s1.trans s) (is_tup.mpr ⟨p, vs, rfl, upd_same, i1.mono s⟩) q1
theorem de_lst (h : DA X es t) : DE X (.List es pos) (dLst t) := by
  obtain ⟨te, p1, l1⟩ := h
  refine ⟨_, pe_lst p1, fun ρ σ H Q r h R k => l1 ρ σ H _ r h _ fun ds vs H1 s1 i1 ⟨hl, q1⟩ => ⟨?_, fun p hp => ?_⟩⟩
  · rw [← i1.length]; exact Nat.le_trans (Nat.le_of_ble_eq_true hl) (by decide)
  · have s := le_new hp (.lst vs)
    exact k _ _ _ (s1.trans s) (is_lst.mpr ⟨p, vs, rfl, upd_same, i1.mono s⟩) q1

def seqOf : Dt → Option (List Dt)
  | .tup ds => some ds
  | .lst ds => some ds
  | .scr ns => some (ns.map .int)
  | _ => none
theorem seq_is {H : Vw} {d : Dt} {v : V} {ds : List Dt} (h : Is K H.g d v) (e : seqOf d = some ds) : ∃ a xs, v = .ref a ∧ (SqL K H.h a xs ∨ SqT K H.h a xs) ∧ AllIs K H.g ds xs := by
  cases d with
  | tup es =>
    obtain rfl : es = ds := Option.some.inj e
    obtain ⟨a, xs, rfl, h1, h2⟩ := is_tup.mp h
    exact ⟨a, xs, rfl, .inr (.of (H.sub _ _ h1)), h2⟩
  | lst es =>
    obtain rfl : es = ds := Option.some.inj e
    obtain ⟨a, xs, rfl, h1, h2⟩ := is_lst.mp h
    exact ⟨a, xs, rfl, .inl (.of (H.sub _ _ h1)), h2⟩
  | scr ns =>
    obtain rfl : ns.map Dt.int = ds := Option.some.inj e
    obtain ⟨a, rfl, h1⟩ := is_scr.mp h
    exact ⟨a, _, rfl, .inl (H.sub.seq h1), AllIs.ints⟩
  | _ => cases e
def dIx (ta tb : DTE) : DTE := fun ρ Q => ta ρ fun d => tb ρ fun e => ∃ ds i d', seqOf d = some ds ∧ e = .int i ∧ atI ds i = some d' ∧ Q d'
theorem de_ix (ha : DE X a ta) (hb : DE X b tb) (hs : PlainIx b) : DE X (.Subscript a b pos) (dIx ta tb) := by
  obtain ⟨te, p1, l1⟩ := ha
  obtain ⟨tf, p2, l2⟩ := hb
  refine ⟨_, pe_ix ix_seq p1 p2 hs, fun ρ σ H Q r h R k => l1 ρ σ H _ r h _ fun d v H1 s1 i1 q1 => l2 ρ σ H1 _ (r.mono s1) q1 _ fun e u H2 s2 i2 q2 => ?_⟩
  obtain ⟨ds, i, d', e1, e2, e3, q⟩ := q2
  subst e2
  obtain ⟨p, xs, e4, h1, h2⟩ := seq_is (i1.mono s2) e1
  obtain ⟨w, e5, h3⟩ := h2.atI e3
  rcases h1 with h1 | h1
  · exact .inl ⟨p, xs, i, w, e4, is_int.mp i2, h1, e5, k d' w H2 (s1.trans s2) h3 q⟩
  · exact .inr (.inl ⟨p, xs, i, w, e4, is_int.mp i2, h1, e5, k d' w H2 (s1.trans s2) h3 q⟩)
def dLen (t : DTE) : DTE := fun ρ Q => t ρ fun d => ∃ ds, seqOf d = some ds ∧ Q (.int ds.length)
theorem de_len {p : Pos} (hg : Gl X "len") (hm : X.mg "len" = none) (ha : DE X a ta) (hs : starEach [a] X.env = (false, eval a X.env) :: starEach [] X.env := by rfl) (hpl : (backTo pos (starEach [] X.env)).any (·.1) = false := by rfl) :
    DE X (.Call (.Name "len" p) [a] [] pos) (dLen ta) := by
  obtain ⟨te, p1, l1⟩ := ha
  refine ⟨_, pe_callB call_len_seq hg hm PySem.boot_len (pa_cons p1 pa_nil hs) (by decide) (by decide) hs hpl, fun ρ σ H Q r h R k => l1 ρ σ H _ r h _ fun d v H1 s1 i1 ⟨ds, e, q⟩ => ?_⟩
  obtain ⟨a, xs, rfl, h1, h2⟩ := seq_is i1 e
  exact ⟨a, xs, rfl, h1, by rw [← h2.length]; exact k _ _ H1 s1 (is_int.mpr rfl) q⟩
def cutD (xs : List Dt) (lo hi : Option Int) : List Dt := (xs.drop (HT.sIx xs.length 0 lo)).take (HT.sIx xs.length xs.length hi - HT.sIx xs.length 0 lo)
theorem AllIs.cut {G : Hp} {ds : List Dt} {xs : List V} (h : AllIs K G ds xs) (lo hi : Option Int) : AllIs K G (cutD ds lo hi) (cutV xs lo hi) := by
  unfold cutD cutV
  rw [← h.length]
  exact (h.drop _).take _
abbrev DTO := DS → (Option Int → Prop) → Prop
def DO (X : Cx) (e : Option Expr) (t : DTO) : Prop := ∃ te, PO X e te ∧ ∀ {F : Addr → Prop} (ρ : DS) (σ : St) (H : Vw) (Q : Option Int → Prop), Rl X.K F H ρ σ → t ρ Q → ∀ R : Option Int → Hp → Prop, (∀ o H', Le H H' → Q o → R o H'.h) → te σ H.h R
def dPart (t : DTE) : DTO := fun ρ Q => t ρ fun d => ∃ i, d = .int i ∧ Q (some i)
theorem do_some (ha : DE X a ta) : DO X (some a) (dPart ta) := by
  obtain ⟨te, p1, l1⟩ := ha
  refine ⟨_, po_some p1, fun ρ σ H Q r h R k => l1 ρ σ H _ r h _ fun d v H1 s1 i1 ⟨i, e, q⟩ => ?_⟩
  subst e
  exact ⟨i, is_int.mp i1, k _ H1 s1 q⟩
def listOf : Dt → Option (List Dt)
  | .lst ds => some ds
  | .scr ns => some (ns.map .int)
  | _ => none
theorem list_is {H : Vw} {d : Dt} {v : V} {ds : List Dt} (h : Is K H.g d v) (e : listOf d = some ds) : ∃ a xs, v = .ref a ∧ SqL K H.h a xs ∧ AllIs K H.g ds xs := by
  cases d with
  | lst es =>
    obtain rfl : es = ds := Option.some.inj e
    obtain ⟨a, xs, rfl, h1, h2⟩ := is_lst.mp h
    exact ⟨a, xs, rfl, .of (H.sub _ _ h1), h2⟩
  | scr ns =>
    obtain rfl : ns.map Dt.int = ds := Option.some.inj e
    obtain ⟨a, rfl, h1⟩ := is_scr.mp h
    exact ⟨a, _, rfl, H.sub.seq h1, AllIs.ints⟩
  | _ => cases e
def dSl (te : DTE) (tl th : DTO) : DTE := fun ρ Q => te ρ fun d => tl ρ fun l => th ρ fun u => ∃ ds, listOf d = some ds ∧ Q (.lst (cutD ds l u))
theorem de_slice {lo hi : Option Expr} {tl th : DTO} {p2 : Pos} (ha : DE X a ta) (hl : DO X lo tl) (hu : DO X hi th) : DE X (.Subscript a (.Slice lo hi none p2) pos) (dSl ta tl th) := by
  obtain ⟨te, p1, l1⟩ := ha
  obtain ⟨tf, p2, l2⟩ := hl
  obtain ⟨tg, p3, l3⟩ := hu
  refine ⟨_, pe_slice sl_list p1 p2 p3, fun ρ σ H Q r h R k => l1 ρ σ H _ r h _ fun d v H1 s1 i1 q1 => l2 ρ σ H1 _ (r.mono s1) q1 _ fun l H2 s2 q2 => l3 ρ σ H2 _ (r.mono (s1.trans s2)) q2 _ fun u H3 s3 ⟨ds, e, q⟩ => ?_⟩
  obtain ⟨a, xs, rfl, h1, h2⟩ := list_is (i1.mono (s2.trans s3)) e
  refine ⟨a, xs, rfl, h1, fun p hp => ?_⟩
  have s := le_new hp (.lst (cutV xs l u))
  exact k _ _ _ (((s1.trans s2).trans s3).trans s) (is_lst.mpr ⟨p, _, rfl, upd_same, (h2.cut l u).mono s⟩) q
end

def LiF (K : PySem.W.Frag) (te : TE) (t : DTE) : Prop :=
  ∀ {F : Addr → Prop} (ρ : DS) (σ : St) (H : Vw) (Q : Dt → Prop), Rl K F H ρ σ → t ρ Q → ∀ R : VK,
    (∀ es p xs H', Le H H' → H.h p = none → H'.h p = some (.lst xs) → H'.g p = none → AllIs K H'.g es xs → Q (.lst es) → R (.ref p) H'.h) → te σ H.h R
def DF (X : Cx) (e : Expr) (t : DTE) : Prop := ∃ te, PE X e te ∧ LiF X.K te t
theorem le_frz {H H' : Vw} {p : Addr} {o : HO} (s : Le H H') (h0 : H.h p = none) (h1 : H'.h p = some o) (h2 : H'.g p = none) : Le H (H'.frz p o h1) :=
  ⟨s.g.trans (same_new h2 o), s.h, fun a z1 z2 => by
    have : a ≠ p := fun e => z1 (e ▸ h0)
    show upd H'.g p o a = none
    rw [upd_ne this]; exact s.n a z1 z2⟩
section
variable {X : Cx} {a b c e : Expr} {ta tb tc : DTE} {t : DTA} {pos p0 p1 p2 : Pos} {es : List Expr}
theorem DF.de {t : DTE} (h : DF X e t) : DE X e t := by
  obtain ⟨te, p, l⟩ := h
  exact ⟨te, p, fun ρ σ H Q r h R k => l ρ σ H Q r h R fun es q xs H' s h0 h1 h2 i z => k (.lst es) (.ref q) (H'.frz q _ h1) (le_frz s h0 h1 h2) (is_lst.mpr ⟨q, xs, rfl, upd_same, AllIs.mono0 (same_new h2 _) i⟩) z⟩
theorem df_lst (h : DA X es t) : DF X (.List es pos) (dLst t) := by
  obtain ⟨te, p1, l1⟩ := h
  refine ⟨_, pe_lst p1, fun ρ σ H Q r h R k => l1 ρ σ H _ r h _ fun ds vs H1 s1 i1 ⟨hl, q1⟩ => ⟨?_, fun p hp => ?_⟩⟩
  · rw [← i1.length]; exact Nat.le_trans (Nat.le_of_ble_eq_true hl) (by decide)
  · exact k ds p vs (H1.mine p (.lst vs) (H1.sub.free hp)) (s1.trans (le_mine hp _)) (s1.h.free hp) upd_same (H1.sub.free hp) i1 q1
def dList (ta : DTE) : DTE := fun ρ Q => ta ρ fun d => ∃ ds, seqOf d = some ds ∧ Q (.lst ds)
theorem df_list (hg : Gl X "list") (hm : X.mg "list" = none) (ha : DE X a ta) (hs : starEach [a] X.env = (false, eval a X.env) :: starEach [] X.env := by rfl) (hpl : (backTo pos (starEach [] X.env)).any (·.1) = false := by rfl) :
    DF X (.Call (.Name "list" p0) [a] [] pos) (dList ta) := by
  obtain ⟨te, p1, l1⟩ := ha
  refine ⟨_, pe_callTy call_list_of hg hm PyProof.Rows.boot_list (pa_cons p1 pa_nil hs) (by decide) (by decide) hs hpl, fun ρ σ H Q r h R k => l1 ρ σ H _ r h _ fun d v H1 s1 i1 ⟨ds, e, q⟩ => ?_⟩
  obtain ⟨a, xs, rfl, h1, h2⟩ := seq_is i1 e
  exact ⟨a, xs, rfl, h1, fun p hp => k _ p _ (H1.mine p _ (H1.sub.free hp)) (s1.trans (le_mine hp _)) (s1.h.free hp) upd_same (H1.sub.free hp) h2 q⟩

variable {i : Nat} {x : Str}
def dLenO (i : Nat) : DTE := fun ρ Q => ∃ ds, ρ[i]? = some (.own ds) ∧ Q (.int ds.length)
theorem de_lenO (i : Nat) (hg : Gl X "len") (hm : X.mg "len" = none) (hN : X.N[i]? = some x := by rfl) (hv : Vis X.env.scope x := by first | exact Or.inl rfl | exact Or.inr (Or.inl rfl) | exact Or.inr (Or.inr rfl)) (hd : (x == ("__debug__" : Str)) = false := by decide)
    (hcd : (x == ("__classdict__" : Str)) = false := by decide) (hs : starEach [.Name x p1] X.env = (false, eval (.Name x p1) X.env) :: starEach [] X.env := by rfl) (hpl : (backTo pos (starEach [] X.env)).any (·.1) = false := by rfl) :
    DE X (.Call (.Name "len" p0) [.Name x p1] [] pos) (dLenO i) := by
  refine ⟨_, pe_callB call_len_seq hg hm PySem.boot_len (pa_cons (pe_var hN hv hd hcd) pa_nil hs) (by decide) (by decide) hs hpl, fun ρ σ H Q r h R k => ?_⟩
  obtain ⟨ds, e, q⟩ := h
  obtain ⟨a, xs, e1, e2, e3, e4, e5⟩ := r.ow i ds e
  exact ⟨.ref a, e1, a, xs, rfl, .inl (.of e2), by rw [← e5.length]; exact k _ _ H (Le.refl H) (is_int.mpr rfl) q⟩
def dIxO (i : Nat) (tb : DTE) : DTE := fun ρ Q => ∃ ds, ρ[i]? = some (.own ds) ∧ tb ρ fun e => ∃ k d, e = .int k ∧ atI ds k = some d ∧ Q d
theorem de_ixO (i : Nat) (hb : DE X b tb) (hs : PlainIx b) (hN : X.N[i]? = some x := by rfl) (hv : Vis X.env.scope x := by first | exact Or.inl rfl | exact Or.inr (Or.inl rfl) | exact Or.inr (Or.inr rfl)) (hd : (x == ("__debug__" : Str)) = false := by decide)
    (hcd : (x == ("__classdict__" : Str)) = false := by decide) : DE X (.Subscript (.Name x p1) b pos) (dIxO i tb) := by
  obtain ⟨tf, p2, l2⟩ := hb
  refine ⟨_, pe_ix ix_list (pe_var hN hv hd hcd) p2 hs, fun ρ σ H Q r h R k => ?_⟩
  obtain ⟨ds, e, h⟩ := h
  obtain ⟨a, xs, e1, e2, e3, e4, e5⟩ := r.ow i ds e
  refine ⟨.ref a, e1, l2 ρ σ H _ r h _ fun e u H2 s2 i2 ⟨n, d, en, ed, q⟩ => ?_⟩
  subst en
  obtain ⟨v, ev, iv⟩ := e5.atI ed
  exact ⟨a, xs, n, v, rfl, is_int.mp i2, .of (s2.h _ _ e2), ev, k d v H2 s2 (iv.mono s2) q⟩
theorem allIs_empty {G : Hp} {ds : List Dt} {xs : List V} (h : AllIs K G ds xs) : (!xs.isEmpty) = !ds.isEmpty := by
  cases ds with
  | nil => rw [allIs_nil.mp h]; rfl
  | cons d ds => obtain ⟨x, r, rfl, _⟩ := allIs_cons.mp h; rfl
def dTru (ta : DTE) : DTT := fun ρ Q => ta ρ fun d => ∃ ds, listOf d = some ds ∧ Q (!ds.isEmpty)
theorem dt_tru (ha : DE X a ta) (he : ∀ whole, isTrue a X.env whole = (do let v ← whole; standAt a.pos; holding [v] (truthy v)) := by intro _; rfl) : DT X a (dTru ta) := by
  obtain ⟨te, p1, l1⟩ := ha
  refine ⟨_, pt_truth p1 he, fun ρ σ H Q r h R k => l1 ρ σ H _ r h _ fun d v H1 s1 i1 ⟨ds, e, q⟩ => ?_⟩
  obtain ⟨a, xs, rfl, h1, h2⟩ := list_is i1 e
  exact ⟨!ds.isEmpty, .inl ⟨xs, h1, (allIs_empty h2).symm⟩, k _ H1 s1 q⟩

end

abbrev DSp := List Dt → (Dt → Prop) → Prop
def PureSp (K : PySem.W.Frag) (S : DSp) : Sp := fun vs H Q _ => ∃ (W : Vw) (ds : List Dt) (Qd : Dt → Prop), W.h = H ∧ AllIs K W.g ds vs ∧ S ds Qd ∧ ∀ d v W', Le W W' → Is K W'.g d v → Qd d → Q v W'.h
def FreshSp (K : PySem.W.Frag) (S : DSp) : Sp := fun vs H Q _ => ∃ (W : Vw) (ds : List Dt) (Qd : Dt → Prop), W.h = H ∧ AllIs K W.g ds vs ∧ S ds Qd ∧
  ∀ es p xs W', Le W W' → W.h p = none → W'.h p = some (.lst xs) → W'.g p = none → AllIs K W'.g es xs → Qd (.lst es) → Q (.ref p) W'.h
structure DOk (P : Program) (w : World) (K : PySem.W.Frag) (mg : Str → Option Value) (base : Heap) (n : Nat) (x : Str) (S : DSp) : Prop where
  ex : ∃ f fd ps, mg x = some (.ref f) ∧ PySem.W.keepIn K (.ref f) = true ∧ Binds K fd ps [] ∧ FnOk P w K mg base CX0 n f fd ps (PureSp K S)
structure FOk (P : Program) (w : World) (K : PySem.W.Frag) (mg : Str → Option Value) (base : Heap) (n : Nat) (x : Str) (S : DSp) : Prop where
  ex : ∃ f fd ps, mg x = some (.ref f) ∧ PySem.W.keepIn K (.ref f) = true ∧ Binds K fd ps [] ∧ FnOk P w K mg base CX0 n f fd ps (FreshSp K S)
structure MOk (P : Program) (w : World) (K : PySem.W.Frag) (mg : Str → Option Value) (base : Heap) (n : Nat) (C : Addr) (m : Str) (S : DSp) : Prop where
  cl : Cls K C
  ex : ∃ f fd ps, Meth K C m f ∧ Binds K fd ps [] ∧ FnOk P w K mg base CX0 n f fd ps (PureSp K S)
structure FMOk (P : Program) (w : World) (K : PySem.W.Frag) (mg : Str → Option Value) (base : Heap) (n : Nat) (C : Addr) (m : Str) (S : DSp) : Prop where
  cl : Cls K C
  ex : ∃ f fd ps, Meth K C m f ∧ Binds K fd ps [] ∧ FnOk P w K mg base CX0 n f fd ps (FreshSp K S)
section
variable {X : Cx} {a b c e o : Expr} {ta tb tc : DTE} {pos p apos : Pos} {es : List Expr} {t : DTA} {n : Nat} {x m : Str} {S : DSp}
def dCall (S : DSp) (t : DTA) : DTE := fun ρ Q => t ρ fun ds => S ds Q
theorem de_call (G : DOk X.prog X.w X.K X.mg X.base n x S) (hr : Room n X.A) (hg : Gl X x) (ha : DA X (e :: es) t) (hdb : (x == ("__debug__" : Str)) = false := by decide)
    (he : starEach (e :: es) X.env = (false, eval e X.env) :: starEach es X.env := by rfl) (hpl : (backTo pos (starEach es X.env)).any (·.1) = false := by rfl) : DE X (.Call (.Name x p) (e :: es) [] pos) (dCall S t) := by
  obtain ⟨f, fd, ps, hm, hk, hb, F⟩ := G.ex
  obtain ⟨te, p1, l1⟩ := ha
  refine ⟨_, pe_call F hr hg hm hk hb .nil pass0 p1 hdb he hpl, fun ρ σ H Q r h R k => l1 ρ σ H _ r h _ fun ds vs H1 s1 i1 q1 => ?_⟩
  rw [List.append_nil]
  exact ⟨H1, ds, Q, rfl, i1, q1, fun d v H2 s2 i2 q2 => k d v H2 (s1.trans s2) i2 q2⟩
def tMethD (X : Cx) (n : Nat) (m : Str) (ta : TE) (t : TA) : TE := fun σ H Q => ta σ H fun x H1 => ∃ a dx fs C f fd ps sp, x = .ref a ∧ H1 a = some (.ins C dx fs) ∧ fs.lookup m = none ∧ Cls X.K C ∧ Meth X.K C m f ∧ Binds X.K fd ps [] ∧
  FnOk X.prog X.w X.K X.mg X.base CX0 n f fd ps sp ∧ t σ H1 fun vs H2 => sp (x :: vs) H2 Q E0
theorem pe_methD {pl : Sem Bool} {te : TE} {tt : TA} (he : PE X o te) (hr : Room n X.A) (ha : PA X (e :: es) tt)
    (hst : starEach (e :: es) X.env = (false, eval e X.env) :: starEach es X.env := by rfl) (hpl : (backTo pos (starEach es X.env)).any (·.1) = false := by rfl)
    (ht : eval (.Call (.Attribute o m apos) (e :: es) [] pos) X.env = (do
      let ov ← eval o X.env
      standAt apos.atName
      let (f, first) ← holding [ov] (getMethod ov m pl)
      callWith pos f first (backTo pos (starEach (e :: es) X.env)) (backToKw pos (keywordEach [] X.env))) := by rfl) :
    PE X (.Call (.Attribute o m apos) (e :: es) [] pos) (tMethD X n m te tt) := by
  intro pins s σ H Q I h
  refine PySem.W.methodCall_KW (pl := pl) (thn (he pins s σ H _ I h) fun u s1 ⟨x, H1, I1, rx, a, dx, fs, C, f, fd, ps, sp, ex, ea, l, c, hm, hb, F, q⟩ => ?_) ht
  subst ex
  obtain rfl : u = Value.ref a := rx
  refine getmeth_ok I1 ea c hm l ?_
  refine PySem.W.callWith_K (first := [.ref a]) (h₀ := X.base) I.ok.mod.kin hm.kp (thn (ha pos pins s1 σ H1 _ I1 q) fun us s2 ⟨vs, H2, I2, r, q2⟩ => ⟨I2.kIn, ?_⟩) hst hpl
  exact run_fn (us := .ref a :: us) (vs := .ref a :: vs) (dvs := []) (E := E0) F hr hb .nil pass0 I2 (.cons rfl r) (by rw [List.append_nil]; exact q2)
def dMeth (X : Cx) (n : Nat) (m : Str) (ta : DTE) (t : DTA) : DTE := fun ρ Q => ta ρ fun d => ∃ C f k S, d = .way C f k ∧ (m == f) = false ∧ MOk X.prog X.w X.K X.mg X.base n C m S ∧ t ρ fun ds => S (d :: ds) Q
theorem de_meth {pl : Sem Bool} (hr : Room n X.A) (he : DE X o ta) (ha : DA X (e :: es) t)
    (hst : starEach (e :: es) X.env = (false, eval e X.env) :: starEach es X.env := by rfl) (hpl : (backTo pos (starEach es X.env)).any (·.1) = false := by rfl)
    (ht : eval (.Call (.Attribute o m apos) (e :: es) [] pos) X.env = (do
      let ov ← eval o X.env
      standAt apos.atName
      let (f, first) ← holding [ov] (getMethod ov m pl)
      callWith pos f first (backTo pos (starEach (e :: es) X.env)) (backToKw pos (keywordEach [] X.env))) := by rfl) :
    DE X (.Call (.Attribute o m apos) (e :: es) [] pos) (dMeth X n m ta t) := by
  obtain ⟨te, p0, l0⟩ := he
  obtain ⟨tt, p1, l1⟩ := ha
  refine ⟨_, pe_methD (pl := pl) p0 hr p1 hst hpl ht, fun ρ σ H Q r h R k => l0 ρ σ H _ r h _ fun d v H1 s1 i1 ⟨C, f, z, S, ed, hne, M, q1⟩ => ?_⟩
  subst ed
  obtain ⟨a, dx, rfl, ha⟩ := is_way.mp i1
  obtain ⟨g, fd, ps, hm, hb, F⟩ := M.ex
  refine ⟨a, dx, _, C, g, fd, ps, _, rfl, H1.sub _ _ ha, by simp [List.lookup, hne], M.cl, hm, hb, F, l1 ρ σ H1 _ (r.mono s1) q1 _ fun ds vs H2 s2 i2 q2 => ?_⟩
  exact ⟨H2, _, Q, rfl, allIs_cons.mpr ⟨_, _, rfl, i1.mono s2, i2⟩, q2, fun d v H3 s3 i3 q3 => k d v H3 ((s1.trans s2).trans s3) i3 q3⟩
def dFld (K : PySem.W.Frag) (f : Str) (ta : DTE) : DTE := fun ρ Q => ta ρ fun d => ∃ C g k, d = .way C g k ∧ (f == g) = true ∧ Cls K C ∧ NoAttr K C f ∧ Q (.int k)
theorem de_fld {f : Str} (ha : DE X a ta) (hb : attributeBase a f X.env (eval a X.env) = eval a X.env := by rfl) : DE X (.Attribute a f pos) (dFld X.K f ta) := by
  obtain ⟨te, p1, l1⟩ := ha
  refine ⟨_, pe_fld p1 hb, fun ρ σ H Q r h R k => l1 ρ σ H _ r h _ fun d v H1 s1 i1 ⟨C, g, z, ed, hfg, hc, hn, q1⟩ => ?_⟩
  subst ed
  obtain ⟨p, dx, rfl, hp⟩ := is_way.mp i1
  exact ⟨p, C, dx, _, .int z, rfl, H1.sub _ _ hp, hc, hn, by simp [List.lookup, hfg], k _ _ H1 s1 (is_int.mpr rfl) q1⟩
def spInitW (C : Addr) (f : Str) (ok : Int → Prop) : Sp := fun vs H Q _ => ∃ p dx i, vs = [.ref p, .int i] ∧ H p = some (.ins C dx []) ∧ ok i ∧ ∀ H' : Hp, H' p = some (.ins C dx [(f, .int i)]) → (∀ b o, H b = some o → b ≠ p → H' b = some o) → Q .non H'
structure KOk (P : Program) (w : World) (K : PySem.W.Frag) (mg : Str → Option Value) (base : Heap) (n : Nat) (x : Str) (C : Addr) (f : Str) (ok : Int → Prop) : Prop where
  ex : ∃ g fd ps, mg x = some (.ref C) ∧ Mk K C g ∧ Binds K fd ps [] ∧ FnOk P w K mg base CX0 n g fd ps (spInitW C f ok)
def dMake (C : Addr) (f : Str) (ok : Int → Prop) (t : DTA) : DTE := fun ρ Q => t ρ fun ds => ∃ i, ds = [.int i] ∧ ok i ∧ Q (.way C f i)
theorem de_make {C : Addr} {f : Str} {ok : Int → Prop} (G : KOk X.prog X.w X.K X.mg X.base n x C f ok) (hr : Room (n + 1) X.A) (hg : Gl X x) (ha : DA X (e :: es) t) (hdb : (x == ("__debug__" : Str)) = false := by decide)
    (he : starEach (e :: es) X.env = (false, eval e X.env) :: starEach es X.env := by rfl) (hpl : (backTo pos (starEach es X.env)).any (·.1) = false := by rfl) : DE X (.Call (.Name x p) (e :: es) [] pos) (dMake C f ok t) := by
  obtain ⟨g, fd, ps, hm, M, hb, F⟩ := G.ex
  obtain ⟨te, p1, l1⟩ := ha
  refine ⟨_, pe_make M F hr hg hm hb .nil pass0 p1 hdb he hpl, fun ρ σ H Q r h R k => l1 ρ σ H _ r h _ fun ds vs H1 s1 i1 ⟨i, ed, hok, q1⟩ y dy ny ndy ne => ?_⟩
  subst ed
  obtain ⟨v, rfl, hv⟩ := i1.one
  obtain rfl := is_int.mp hv
  refine ⟨y, dy, i, rfl, upd_same, hok, fun H' e1 e2 => ⟨rfl, ?_⟩⟩
  have keep : Same H1.h H' := fun b o hb => e2 b o (by rw [upd_ne (ne_of_none hb ny), upd_ne (ne_of_none hb ndy)]; exact hb) (ne_of_none hb ny)
  have gy : H1.g y = none := H1.sub.free ny
  exact k _ _ ⟨upd H1.g y (.ins C dy [(f, .int i)]), H', fun b u q => by
      by_cases e : b = y
      · subst e; rw [upd_same] at q; rw [e1]; exact q
      · rw [upd_ne e] at q; exact keep _ _ (H1.sub _ _ q)⟩
    (s1.trans ⟨same_new gy _, keep, fun a z1 z2 => by
      have : a ≠ y := fun e => z1 (e ▸ ny)
      show upd H1.g y _ a = none
      rw [upd_ne this]; exact z2⟩) (is_way.mpr ⟨y, dy, rfl, upd_same⟩) q1

structure KitT (K : PySem.W.Frag) : Prop where
  ib : PySem.W.kitOne K (.type "int") (.type "bool") = some false
  it : PySem.W.kitOne K (.type "int") (.type "tuple") = some false
  il : PySem.W.kitOne K (.type "int") (.type "list") = some false
  bi : PySem.W.kitOne K (.type "bool") (.type "int") = some true
  bt : PySem.W.kitOne K (.type "bool") (.type "tuple") = some false
  bl : PySem.W.kitOne K (.type "bool") (.type "list") = some false
  ti : PySem.W.kitOne K (.type "tuple") (.type "int") = some false
  tb : PySem.W.kitOne K (.type "tuple") (.type "bool") = some false
  tl : PySem.W.kitOne K (.type "tuple") (.type "list") = some false
  li : PySem.W.kitOne K (.type "list") (.type "int") = some false
  lb : PySem.W.kitOne K (.type "list") (.type "bool") = some false
  lt : PySem.W.kitOne K (.type "list") (.type "tuple") = some false
theorem kit_same {K : PySem.W.Frag} {t : Value} : PySem.W.kitOne K t t = some true := by
  unfold PySem.W.kitOne
  rw [if_pos (beq_self_eq_true t)]
theorem kit_bb {K : PySem.W.Frag} {t c : String} {b : Bool} (h1 : (Value.type t == Value.type c) = false) (h2 : PySem.W.kitMeta c = true) (h3 : (fastBuiltinMro t).map (·.contains (Value.type c)) = some b) : PySem.W.kitOne K (.type t) (.type c) = some b := by
  unfold PySem.W.kitOne PySem.W.kitCls
  rw [if_neg (by rw [h1]; decide)]
  show (if PySem.W.kitMeta c = true then PySem.W.subIn K (.type t) (.type c) else none) = some b
  rw [if_pos h2]
  exact h3
theorem kitT (K : PySem.W.Frag) : KitT K := by
  constructor <;> exact kit_bb (by decide +kernel) (by decide +kernel) (by decide +kernel)
inductive TyN where | int | bool | tuple | list
def TyN.str : TyN → String
  | .int => "int" | .bool => "bool" | .tuple => "tuple" | .list => "list"
def isiD : Dt → TyN → Option Bool
  | .int _, .int => some true | .int _, .bool => some false | .int _, .tuple => some false | .int _, .list => some false
  | .bl _, .int => some true | .bl _, .bool => some true | .bl _, .tuple => some false | .bl _, .list => some false
  | .tup _, .int => some false | .tup _, .bool => some false | .tup _, .tuple => some true | .tup _, .list => some false
  | .lst _, .int => some false | .lst _, .bool => some false | .lst _, .tuple => some false | .lst _, .list => some true
  | _, _ => none
theorem isi_ty {H : Vw} {d : Dt} {v : V} {T : TyN} {b : Bool} (kt : KitT K) (h : Is K H.g d v) (e : isiD d T = some b) : ∃ tv, TyOf K H.h v tv ∧ PySem.W.kitOne K tv (.type T.str) = some b := by
  cases d with
  | int i =>
    obtain rfl := is_int.mp h
    refine ⟨_, .int i, ?_⟩
    cases T <;> (obtain rfl := Option.some.inj e; first | exact kit_same | exact kt.ib | exact kt.it | exact kt.il)
  | bl i =>
    obtain rfl := is_bl.mp h
    refine ⟨_, .bl i, ?_⟩
    cases T <;> (obtain rfl := Option.some.inj e; first | exact kit_same | exact kt.bi | exact kt.bt | exact kt.bl)
  | tup ds =>
    obtain ⟨a, xs, rfl, h1, _⟩ := is_tup.mp h
    refine ⟨_, .tup (H.sub _ _ h1), ?_⟩
    cases T <;> (obtain rfl := Option.some.inj e; first | exact kit_same | exact kt.ti | exact kt.tb | exact kt.tl)
  | lst ds =>
    obtain ⟨a, xs, rfl, h1, _⟩ := is_lst.mp h
    refine ⟨_, .lst (H.sub _ _ h1), ?_⟩
    cases T <;> (obtain rfl := Option.some.inj e; first | exact kit_same | exact kt.li | exact kt.lb | exact kt.lt)
  | _ => cases T <;> cases e
theorem call_isi : CallR X (.builtin "isinstance") (fun xs H Q => ∃ v T tv b, xs = [v, .ty T] ∧ TyOf X.K H v tv ∧ PySem.W.kitOne X.K tv (.type T) = some b ∧ Q (.bl b) H) := by
  intro pins s σ H xs us Q I r h
  obtain ⟨v, T, tv, b, rfl, hty, hk, q⟩ := h
  cases r with
  | cons r1 r2 =>
    cases r2 with
    | cons r3 r4 =>
      cases r4
      cases r3
      exact isinst_ok I r1 hty hk fun tk => ⟨.bl b, H, I.tok _, rfl, q⟩
def dIsi (T : TyN) (ta : DTE) : DTE := fun ρ Q => ta ρ fun d => ∃ b, isiD d T = some b ∧ Q (.bl b)
theorem de_isi {T : TyN} {y : Str} {p' : Pos} (kt : KitT X.K) (hm : X.mg "isinstance" = none) (hmc : X.mg y = none) (hv : bootBuiltins y = some (.type T.str)) (ha : DE X a ta)
    (hg : Gl X "isinstance" := by rfl) (hgc : Gl X y := by rfl) (hny : y ≠ "__name__" := by decide) (hdy : (y == ("__debug__" : Str)) = false := by decide)
    (hs : starEach [a, .Name y p'] X.env = (false, eval a X.env) :: starEach [.Name y p'] X.env := by rfl) (hs2 : starEach [.Name y p'] X.env = (false, eval (.Name y p') X.env) :: starEach [] X.env := by rfl)
    (hpl : (backTo pos (starEach [.Name y p'] X.env)).any (·.1) = false := by rfl) :
    DE X (.Call (.Name "isinstance" p) [a, .Name y p'] [] pos) (dIsi T ta) := by
  obtain ⟨te, p1, l1⟩ := ha
  have pc : PE X (.Name y p') (tC (.ty T.str)) := pe_bltn hgc hmc hv rfl hny hdy
  refine ⟨_, pe_callB call_isi hg hm boot_isinstance (pa_cons p1 (pa_cons pc pa_nil hs2) hs) (by decide) (by decide) hs hpl, fun ρ σ H Q r h R k => l1 ρ σ H _ r h _ fun d v H1 s1 i1 ⟨b, e, q⟩ => ?_⟩
  obtain ⟨tv, h1, h2⟩ := isi_ty kt i1 e
  exact ⟨v, T.str, tv, b, rfl, h1, h2, k _ _ H1 s1 (is_bl.mpr rfl) q⟩
end

structure DEnds where
  nx : DS → Prop
  rt : Dt → Prop
  bk : DS → Prop := fun _ => False
  ct : DS → Prop := fun _ => False
abbrev DTS := DEnds → DS → Prop
structure At (K : PySem.W.Frag) (W0 : Vw) (G : Hp) (W : Vw) (ρ : DS) (σ : St) : Prop where
  le : Le W0 W
  gs : Same G W.g
  rl : Rl K (fun a => W0.h a = none) W ρ σ
structure Sim (K : PySem.W.Frag) (fr : Bool) (W0 : Vw) (G : Hp) (D : DEnds) (D' : Ends) : Prop where
  nx : ∀ ρ σ W', At K W0 G W' ρ σ → D.nx ρ → D'.nx σ W'.h
  rt : fr = false → ∀ d v W', Le W0 W' → Is K W'.g d v → D.rt d → D'.rt v W'.h
  rf : ∀ es p xs W', Le W0 W' → W0.h p = none → W'.h p = some (.lst xs) → W'.g p = none → AllIs K W'.g es xs → D.rt (.lst es) → D'.rt (.ref p) W'.h
  bk : ∀ ρ σ W', At K W0 G W' ρ σ → D.bk ρ → D'.bk σ W'.h
  ct : ∀ ρ σ W', At K W0 G W' ρ σ → D.ct ρ → D'.ct σ W'.h
section
variable {W0 : Vw} {G G' : Hp} {ρ : DS} {σ : St} {fr : Bool}
theorem At.step (a : At K W0 G W ρ σ) (s : Le W W') : At K W0 G W' ρ σ := ⟨a.le.trans s, a.gs.trans s.g, a.rl.mono s⟩
theorem At.set (a : At K W0 G W ρ σ) {d : Dt} {v : V} (i : Nat) (h : Is K W.g d v) : At K W0 G W (ρ.set i (.some d)) (σ.set i (some v)) := ⟨a.le, a.gs, a.rl.set i h⟩
theorem At.weak (a : At K W0 G W ρ σ) (s : Same G' G) : At K W0 G' W ρ σ := ⟨a.le, s.trans a.gs, a.rl⟩
theorem At.own (a : At K W0 G W ρ σ) (s : Le W W') {p : Addr} {xs : List V} {ds : List Dt} (i : Nat) (h0 : W.h p = none) (h1 : W'.h p = some (.lst xs)) (h2 : W'.g p = none) (h3 : AllIs K W'.g ds xs) :
    At K W0 G W' (ρ.set i (.own ds)) (σ.set i (some (.ref p))) := ⟨a.le.trans s, a.gs.trans s.g, a.rl.own s i h0 h1 h2 h3⟩
theorem At.put (at_ : At K W0 G W ρ σ) {i : Nat} {ds es : List Dt} {a : Addr} {ys : List V} (hi : ρ[i]? = some (.own ds)) (ha : σ[i]? = some (some (.ref a))) (hg : W.g a = none) (hF : W0.h a = none) (h3 : AllIs K W.g es ys) :
    At K W0 G (W.mine a (.lst ys) hg) (ρ.set i (.own es)) σ :=
  ⟨⟨at_.le.g, fun b o q => by
      have : b ≠ a := fun e => by rw [e, hF] at q; cases q
      show upd W.h a _ b = some o
      rw [upd_ne this]; exact at_.le.h _ _ q, at_.le.n⟩, at_.gs, at_.rl.put hi ha hg hF h3⟩
theorem At.frz (at_ : At K W0 G W ρ σ) {i : Nat} {ds : List Dt} {a : Addr} {xs : List V} (hi : ρ[i]? = some (.own ds)) (ha : σ[i]? = some (some (.ref a))) (hh : W.h a = some (.lst xs)) (hg : W.g a = none) (hF : W0.h a = none) (h3 : AllIs K W.g ds xs) :
    At K W0 G (W.frz a _ hh) (ρ.set i (.some (.lst ds))) σ :=
  ⟨le_frz at_.le hF hh hg, at_.gs.trans (same_new hg _), at_.rl.frz hi ha hh hg h3⟩
theorem Sim.weak {D : DEnds} {D' : Ends} (h : Sim K fr W0 G' D D') (s : Same G' G) : Sim K fr W0 G D D' :=
  ⟨fun ρ σ W' a => h.nx ρ σ W' (a.weak s), h.rt, h.rf, fun ρ σ W' a => h.bk ρ σ W' (a.weak s), fun ρ σ W' a => h.ct ρ σ W' (a.weak s)⟩
end
def LiS (K : PySem.W.Frag) (fr : Bool) (ts : TS) (t : DTS) : Prop := ∀ (W0 : Vw) (G : Hp) (ρ : DS) (σ : St) (W : Vw) (D : DEnds) (D' : Ends), At K W0 G W ρ σ → Sim K fr W0 G D D' → t D ρ → ts D' σ W.h
def DSt (X : Cx) (fr : Bool) (st : Stmt) (t : DTS) : Prop := ∃ ts, PS X st ts ∧ LiS X.K fr ts t
def DSs (X : Cx) (fr : Bool) (sts : List Stmt) (t : DTS) : Prop := ∃ ts, PSs X sts ts ∧ LiS X.K fr ts t
def dNext : DTS := fun D ρ => D.nx ρ
def dSeq (t u : DTS) : DTS := fun D ρ => t { D with nx := u D } ρ
def dRet (te : DTE) : DTS := fun D ρ => te ρ D.rt
def dRetO (i : Nat) : DTS := fun D ρ => ∃ ds, ρ[i]? = some (.own ds) ∧ D.rt (.lst ds)
def dSet (i : Nat) (te : DTE) : DTS := fun D ρ => te ρ fun d => D.nx (ρ.set i (.some d))
def dSetO (i : Nat) (te : DTE) : DTS := fun D ρ => te ρ fun d => ∃ ds, d = .lst ds ∧ D.nx (ρ.set i (.own ds))
def dIfS (c : DTT) (t u : DTS) : DTS := fun D ρ => c ρ fun b => if b = true then t D ρ else u D ρ
def dDrop (te : DTE) : DTS := fun D ρ => te ρ fun _ => D.nx ρ
def dNever : DTS := fun _ _ => False
def dUnp (i j : Nat) (te : DTE) : DTS := fun D ρ => te ρ fun d => ∃ a b, d = .tup [a, b] ∧ D.nx ((ρ.set i (.some a)).set j (.some b))
def dForL (j : Nat) (te : DTE) (tb : DTS) : DTS := fun D ρ => te ρ fun d => ∃ (ds : List Dt) (Pv : Nat → DS → Prop), listOf d = some ds ∧ Pv 0 ρ ∧
  (∀ i e ρ', ds[i]? = some e → Pv i ρ' → tb { D with nx := Pv (i + 1), ct := Pv (i + 1), bk := D.nx } (ρ'.set j (.some e))) ∧ ∀ ρ', Pv ds.length ρ' → D.nx ρ'
def dForR (j : Nat) (te : DTE) (tb : DTS) : DTS := fun D ρ => te ρ fun d => ∃ (n : Int) (Pv : Nat → DS → Prop), d = .int n ∧ -(2 ^ 62) ≤ n ∧ n < 2 ^ 62 ∧ Pv 0 ρ ∧
  (∀ (i : Nat) ρ', i < n.toNat → Pv i ρ' → tb { D with nx := Pv (i + 1), ct := Pv (i + 1), bk := D.nx } (ρ'.set j (.some (.int i)))) ∧ ∀ ρ', Pv n.toNat ρ' → D.nx ρ'
def dForR2 (j : Nat) (ta : DTA) (tb : DTS) : DTS := fun D ρ => ta ρ fun ds => ∃ (m n : Int) (Pv : Nat → DS → Prop), ds = [.int m, .int n] ∧ -(2 ^ 62) ≤ m ∧ m < 2 ^ 62 ∧ -(2 ^ 62) ≤ n ∧ n < 2 ^ 62 ∧ Pv 0 ρ ∧
  (∀ (i : Nat) ρ', i < (n - m).toNat → Pv i ρ' → tb { D with nx := Pv (i + 1), ct := Pv (i + 1), bk := D.nx } (ρ'.set j (.some (.int (m + i))))) ∧ ∀ ρ', Pv (n - m).toNat ρ' → D.nx ρ'
def dWhile (c : DTT) (tb : DTS) : DTS := fun D ρ => ∃ Pv : Nat → DS → Prop, (∃ m, Pv m ρ) ∧ ∀ m ρ', Pv m ρ' →
  c ρ' fun b => if b = true then tb { D with nx := fun ρ2 => ∃ m', m' < m ∧ Pv m' ρ2, ct := fun ρ2 => ∃ m', m' < m ∧ Pv m' ρ2, bk := D.nx } ρ' else D.nx ρ'
section
variable {X : Cx} {fr : Bool} {st : Stmt} {rest : List Stmt} {t u : DTS} {e : Expr} {te : DTE} {pos p0 p1 p2 : Pos}
theorem dss_nil : DSs X fr [] dNext := ⟨_, pss_nil, fun W0 G ρ σ W D D' a s h => s.nx ρ σ W a h⟩
theorem dss_cons (h1 : DSt X fr st t) (h2 : DSs X fr rest u) : DSs X fr (st :: rest) (dSeq t u) := by
  obtain ⟨ts, p1, l1⟩ := h1
  obtain ⟨us, p2, l2⟩ := h2
  exact ⟨_, pss_cons p1 p2, fun W0 G ρ σ W D D' a s h => l1 W0 G ρ σ W { D with nx := u D } { D' with nx := us D' } a ⟨fun ρ' σ' W' a' q => l2 W0 G ρ' σ' W' D D' a' s q, s.rt, s.rf, s.bk, s.ct⟩ h⟩
theorem dss_one (h : DSt X fr st t) : DSs X fr [st] t := let ⟨_, p, l⟩ := h; ⟨_, pss_one p, l⟩
def dFrz (i : Nat) (t : DTS) : DTS := fun D ρ => ∃ ds, ρ[i]? = some (.own ds) ∧ t D (ρ.set i (.some (.lst ds)))
theorem dss_frz (i : Nat) (h : DSs X fr rest t) : DSs X fr rest (dFrz i t) := by
  obtain ⟨ts, p, l⟩ := h
  refine ⟨ts, p, fun W0 G ρ σ W D D' a s h => ?_⟩
  obtain ⟨ds, e, q⟩ := h
  obtain ⟨b, xs, e1, e2, e3, e4, e5⟩ := a.rl.ow i ds e
  exact l W0 G _ σ (W.frz b _ e2) D D' (a.frz e e1 e2 e3 e4 e5) s q
theorem ds_ret (h : DE X e te) : DSt X false (.Return (some e) pos) (dRet te) := by
  obtain ⟨tt, p, l⟩ := h
  exact ⟨_, ps_ret p, fun W0 G ρ σ W D D' a s h => l ρ σ W _ a.rl h _ fun d v W1 s1 i1 q1 => s.rt rfl d v W1 (a.le.trans s1) i1 q1⟩
theorem ds_retO (i : Nat) {x : Str} (hN : X.N[i]? = some x := by rfl) (hv : Vis X.env.scope x := by first | exact Or.inl rfl | exact Or.inr (Or.inl rfl) | exact Or.inr (Or.inr rfl)) (hd : (x == ("__debug__" : Str)) = false := by decide)
    (hcd : (x == ("__classdict__" : Str)) = false := by decide) : DSt X fr (.Return (some (.Name x p0)) pos) (dRetO i) := by
  refine ⟨_, ps_ret (pe_var hN hv hd hcd), fun W0 G ρ σ W D D' a s h => ?_⟩
  obtain ⟨ds, e, q⟩ := h
  obtain ⟨b, xs, e1, e2, e3, e4, e5⟩ := a.rl.ow i ds e
  exact ⟨.ref b, e1, s.rf ds b xs W a.le e4 e2 e3 e5 q⟩
theorem ds_expr (h : DE X e te) (hs : swapsWith e none pos.line X.env = pure false := by rfl) : DSt X fr (.Expr e pos) (dDrop te) := by
  obtain ⟨tt, p, l⟩ := h
  exact ⟨_, ps_expr p hs, fun W0 G ρ σ W D D' a s h => l ρ σ W _ a.rl h _ fun d v W1 s1 i1 q1 => s.nx ρ σ W1 (a.step s1) q1⟩
theorem ds_set {i : Nat} {x : Str} {pos' : Pos} (hN : X.N.Nodup) (hi : X.N[i]? = some x) (hx : Loc X.env.scope x) (h : DE X e te) (hs : swapsWith e (some (.Name x pos')) pos.line X.env = pure false := by rfl) (hf : X.fn x = true ∨ X.env.scope.names.lookup x = some .local := by first | exact .inl rfl | exact .inr rfl | assumption) :
    DSt X fr (.Assign [.Name x pos'] e pos) (dSet i te) := by
  obtain ⟨tt, p, l⟩ := h
  exact ⟨_, ps_set hN hi hx p hs hf, fun W0 G ρ σ W D D' a s h => l ρ σ W _ a.rl h _ fun d v W1 s1 i1 q1 => s.nx _ _ W1 ((a.step s1).set i i1) q1⟩
theorem ds_setO {i : Nat} {x : Str} {pos' : Pos} (hN : X.N.Nodup) (hi : X.N[i]? = some x) (hx : Loc X.env.scope x) (h : DF X e te) (hs : swapsWith e (some (.Name x pos')) pos.line X.env = pure false := by rfl) (hf : X.fn x = true ∨ X.env.scope.names.lookup x = some .local := by first | exact .inl rfl | exact .inr rfl | assumption) :
    DSt X fr (.Assign [.Name x pos'] e pos) (dSetO i te) := by
  obtain ⟨tt, p, l⟩ := h
  refine ⟨_, ps_set hN hi hx p hs hf, fun W0 G ρ σ W D D' a s h => l ρ σ W _ a.rl h _ fun es q xs W1 s1 h0 h1 h2 i1 ⟨ds, ed, q1⟩ => ?_⟩
  cases ed
  exact s.nx _ _ W1 (a.own s1 i h0 h1 h2 i1) q1
theorem ds_if {c : Expr} {a b : List Stmt} {tc : DTT} (hc : DT X c tc) (ha : DSs X fr a t) (hb : DSs X fr b u) : DSt X fr (.If c a b pos) (dIfS tc t u) := by
  obtain ⟨t0, p0, l0⟩ := hc
  obtain ⟨t1, p1, l1⟩ := ha
  obtain ⟨t2, p2, l2⟩ := hb
  refine ⟨_, ps_if p0 p1 p2, fun W0 G ρ σ W D D' a s h => l0 ρ σ W _ a.rl h _ fun k W1 s1 q1 => ?_⟩
  cases k with
  | true => exact l1 W0 G ρ σ W1 D D' (a.step s1) s q1
  | false => exact l2 W0 G ρ σ W1 D D' (a.step s1) s q1
theorem ds_never : DSt X fr st dNever := ⟨_, ps_never, fun _ _ _ _ _ _ _ _ _ h => h.elim⟩
theorem ds_unp {i j : Nat} {x y : Str} {px py pt : Pos} {kt : Nat} (hc : X.calm = true) (hN : X.N.Nodup) (hi : X.N[i]? = some x) (hj : X.N[j]? = some y) (hx : Loc X.env.scope x) (hy : Loc X.env.scope y) (h : DE X e te)
    (hf : X.fn x = true ∨ X.env.scope.names.lookup x = some .local := by first | exact .inl rfl | exact .inr rfl | assumption) (hf2 : X.fn y = true ∨ X.env.scope.names.lookup y = some .local := by first | exact .inl rfl | exact .inr rfl | assumption)
    (hs : swapsWithSole [.Tuple [.Name x px, .Name y py] kt pt] e pos.line X.env = pure false := by rfl) (hw : swappedStores [.Tuple [.Name x px, .Name y py] kt pt] e X.env = pure none := by rfl) :
    DSt X fr (.Assign [.Tuple [.Name x px, .Name y py] kt pt] e pos) (dUnp i j te) := by
  obtain ⟨tt, p, l⟩ := h
  refine ⟨_, ps_asg p (pg_tup hc (pgs_cons (pg_name hN hi hx hf) (pgs_cons (pg_name hN hj hy hf2) pgs_nil))) hs hw, fun W0 G ρ σ W D D' at_ s h => l ρ σ W _ at_.rl h _ fun d v W1 s1 i1 ⟨a, b, ed, q1⟩ => ?_⟩
  subst ed
  obtain ⟨q, xs, rfl, hq, ha⟩ := is_tup.mp i1
  obtain ⟨v1, v2, rfl, h1, h2⟩ := ha.two
  refine ⟨q, _, rfl, .of (W1.sub _ _ hq), rfl, v1, [v2], rfl, v2, [], rfl, rfl, ?_⟩
  exact s.nx _ _ W1 (((at_.step s1).set i h1).set j h2) q1
def InL (K : PySem.W.Frag) (W0 W1 : Vw) (Pv : DS → Prop) (σ : St) (H : Hp) : Prop := ∃ (ρ : DS) (W : Vw), W.h = H ∧ At K W0 W1.g W ρ σ ∧ Pv ρ
theorem sim_loop {K : PySem.W.Frag} {W0 W1 : Vw} {G : Hp} {D : DEnds} {D' : Ends} {Pv : DS → Prop} (s : Sim K fr W0 G D D') (hg : Same G W1.g) :
    Sim K fr W0 W1.g { D with nx := Pv, ct := Pv, bk := D.nx } { D' with nx := InL K W0 W1 Pv, ct := InL K W0 W1 Pv, bk := D'.nx } :=
  ⟨fun ρ3 σ3 W3 a3 q3 => ⟨ρ3, W3, rfl, a3, q3⟩, s.rt, s.rf, fun ρ3 σ3 W3 a3 q3 => s.nx ρ3 σ3 W3 (a3.weak hg) q3, fun ρ3 σ3 W3 a3 q3 => ⟨ρ3, W3, rfl, a3, q3⟩⟩
theorem At.now {K : PySem.W.Frag} {W0 : Vw} {G : Hp} {W : Vw} {ρ : DS} {σ : St} (a : At K W0 G W ρ σ) : At K W0 W.g W ρ σ := ⟨a.le, Same.refl _, a.rl⟩
theorem ds_for {j : Nat} {x : Str} {iter : Expr} {body : List Stmt} {tb : DTS} {px : Pos} (hc : X.calm = true) (hN : X.N.Nodup) (hi : X.N[j]? = some x) (hx : Loc X.env.scope x) (hp : PassesOwn (model X.prog X.w) X.A X.env X.xe)
    (h : DE X iter te) (hb : DSs X fr body tb) (hs : ∀ x, foldedSetIterable iter X.env x = pure x := by intro _; rfl)
    (hf : X.fn x = true ∨ X.env.scope.names.lookup x = some .local := by first | exact .inl rfl | exact .inr rfl | assumption) : DSt X fr (.For (.Name x px) iter body [] pos) (dForL j te tb) := by
  obtain ⟨tt, p, l⟩ := h
  obtain ⟨tbs, p2, l2⟩ := hb
  refine ⟨_, ps_for hp hc (pi_list p) (pg_name hN hi hx hf) p2 hs, fun W0 G ρ σ W D D' at_ s h => l ρ σ W _ at_.rl h _ fun d v W1 s1 i1 ⟨ds, Pv, el, h0, ht, hd⟩ => ?_⟩
  have hg : Same G W1.g := at_.gs.trans s1.g
  have hq : ∃ a xs, v = .ref a ∧ (∀ W2 : Vw, Same W1.g W2.g → SqL X.K W2.h a xs) ∧ AllIs X.K W1.g ds xs := by
    cases d with
    | lst es =>
      obtain rfl : es = ds := Option.some.inj el
      obtain ⟨a, xs, rfl, h1, h2⟩ := is_lst.mp i1
      exact ⟨a, xs, rfl, fun W2 s2 => .of (W2.sub _ _ (s2 _ _ h1)), h2⟩
    | scr ns =>
      obtain rfl : ns.map Dt.int = ds := Option.some.inj el
      obtain ⟨a, rfl, h1⟩ := is_scr.mp i1
      exact ⟨a, _, rfl, fun W2 s2 => W2.sub.seq (s2.seq h1), AllIs.ints⟩
    | _ => cases el
  obtain ⟨a, xs, rfl, hq, ha⟩ := hq
  refine ⟨a, rfl, ⟨xs, hq W1 (Same.refl _)⟩, for_list (K := X.K) (a := a) (xs := xs) (fun i => InL X.K W0 W1 (Pv i)) ⟨ρ, W1, rfl, (at_.step s1).now, h0⟩ (fun i σ' H' _ ⟨_, W2, e2, a2, _⟩ => e2 ▸ hq W2 a2.gs) ?_ ?_⟩
  · rintro i x σ' _ hi ⟨ρ', W2, rfl, a2, hp2⟩
    obtain ⟨e, he, ie⟩ := ha.get' hi
    exact l2 W0 W1.g _ _ W2 { D with nx := Pv (i + 1), ct := Pv (i + 1), bk := D.nx } _ (a2.set j (Is.mono0 a2.gs ie)) (sim_loop s hg) (ht i e ρ' he hp2)
  · rintro σ' _ ⟨ρ', W2, rfl, a2, hp2⟩
    exact s.nx ρ' σ' W2 (a2.weak hg) (hd ρ' (by rw [ha.length]; exact hp2))
theorem ds_forR {j : Nat} {x : Str} {a : Expr} {body : List Stmt} {tb : DTS} {px p0 pos1 : Pos} (hc : X.calm = true) (hN : X.N.Nodup) (hi : X.N[j]? = some x) (hx : Loc X.env.scope x) (hp : PassesOwn (model X.prog X.w) X.A X.env X.xe)
    (hg : Gl X "range") (hm : X.mg "range" = none) (h : DE X a te) (hb : DSs X fr body tb) (hs : ∀ x, foldedSetIterable (.Call (.Name "range" p0) [a] [] pos1) X.env x = pure x := by intro _; rfl)
    (hst : starEach [a] X.env = [(false, eval a X.env)] := by rfl) (hst2 : starEach [a] X.env = (false, eval a X.env) :: starEach [] X.env := by rfl)
    (hf : X.fn x = true ∨ X.env.scope.names.lookup x = some .local := by first | exact .inl rfl | exact .inr rfl | assumption) : DSt X fr (.For (.Name x px) (.Call (.Name "range" p0) [a] [] pos1) body [] pos) (dForR j te tb) := by
  obtain ⟨tt, p, l⟩ := h
  obtain ⟨tbs, p2, l2⟩ := hb
  refine ⟨_, ps_for hp hc (pi_range1 hg hm (pa_cons p pa_nil hst2) hst) (pg_name hN hi hx hf) p2 hs, fun W0 G ρ σ W D D' at_ s h => l ρ σ W _ at_.rl h _ fun d v W1 s1 i1 ⟨n, Pv, ed, n1, n2, h0, ht, hd⟩ => ?_⟩
  subst ed
  have hg : Same G W1.g := at_.gs.trans s1.g
  refine ⟨n, by rw [is_int.mp i1], n1, n2, for_range (lo := 0) (n := n.toNat) (fun i => InL X.K W0 W1 (Pv i)) ⟨ρ, W1, rfl, (at_.step s1).now, h0⟩ ?_ ?_⟩
  · rintro i σ' _ hi ⟨ρ', W2, rfl, a2, hp2⟩
    have ez : (0 : Int) + (i : Int) = (i : Int) := Int.zero_add _
    rw [ez]
    exact l2 W0 W1.g _ _ W2 { D with nx := Pv (i + 1), ct := Pv (i + 1), bk := D.nx } _ (a2.set j (is_int.mpr rfl)) (sim_loop s hg) (ht i ρ' hi hp2)
  · rintro σ' _ ⟨ρ', W2, rfl, a2, hp2⟩
    exact s.nx ρ' σ' W2 (a2.weak hg) (hd ρ' hp2)
theorem ds_while {c : Expr} {body : List Stmt} {tc : DTT} {tb : DTS} (hp : PassesOwn (model X.prog X.w) X.A X.env X.xe) (hc : DT X c tc) (hb : DSs X fr body tb) : DSt X fr (.While c body [] pos) (dWhile tc tb) := by
  obtain ⟨t0, p0, l0⟩ := hc
  obtain ⟨tbs, p2, l2⟩ := hb
  refine ⟨_, ps_while hp p0 p2, fun W0 G ρ σ W D D' at_ s h => ?_⟩
  obtain ⟨Pv, ⟨m0, h0⟩, ht⟩ := h
  refine ⟨fun m => InL X.K W0 W (Pv m), ⟨m0, ρ, W, rfl, at_.now, h0⟩, ?_⟩
  rintro m σ' _ ⟨ρ', W2, rfl, a2, hp2⟩
  refine l0 ρ' σ' W2 _ a2.rl (ht m ρ' hp2) _ fun b W3 s3 q3 => ?_
  have a3 := a2.step s3
  cases b with
  | true =>
    refine ⟨InL X.K W0 W (fun ρ2 => ∃ m', m' < m ∧ Pv m' ρ2), fun σ4 H4 ⟨ρ4, W4, e4, a4, m', hm, p4⟩ => ⟨m', hm, ρ4, W4, e4, a4, p4⟩, ?_⟩
    exact l2 W0 W.g _ _ W3 { D with nx := fun ρ2 => ∃ m', m' < m ∧ Pv m' ρ2, ct := fun ρ2 => ∃ m', m' < m ∧ Pv m' ρ2, bk := D.nx } _ a3 (sim_loop s at_.gs) q3
  | false => exact s.nx ρ' σ' W3 (a3.weak at_.gs) q3

variable {i : Nat} {x : Str}
def dApp (i : Nat) (te : DTE) : DTS := fun D ρ => ∃ ds, ρ[i]? = some (.own ds) ∧ te ρ fun d => ds.length ≤ 100000 ∧ D.nx (ρ.set i (.own (ds ++ [d])))
theorem ds_app (i : Nat) (h : DE X e te) (hN : X.N[i]? = some x := by rfl) (hv : Vis X.env.scope x := by first | exact Or.inl rfl | exact Or.inr (Or.inl rfl) | exact Or.inr (Or.inr rfl)) (hd : (x == ("__debug__" : Str)) = false := by decide)
    (hcd : (x == ("__classdict__" : Str)) = false := by decide) (hst : starEach [e] X.env = (false, eval e X.env) :: starEach [] X.env := by rfl) (hpl : (backTo p2 (starEach [] X.env)).any (·.1) = false := by rfl)
    (hfew : ((backTo p2 (starEach [e] X.env)).all (fun x => !x.1) && (backToKw p2 (keywordEach [] X.env)).all (fun x => x.1.isSome)
      && decide ([e].length + ([] : List Keyword).length + (if ([] : List Keyword).isEmpty then 0 else 1) < 30)) = true := by rfl)
    (hbase : attributeBase (.Name x p0) "append" X.env (eval (.Name x p0) X.env) = eval (.Name x p0) X.env := by rfl) (hline : (p1.endLine == p2.line) = true := by rfl)
    (hs : swapsWith (.Call (.Attribute (.Name x p0) "append" p1) [e] [] p2) none pos.line X.env = pure false := by rfl) :
    DSt X fr (.Expr (.Call (.Attribute (.Name x p0) "append" p1) [e] [] p2) pos) (dApp i te) := by
  obtain ⟨tt, p, l⟩ := h
  refine ⟨_, ps_expr (pe_bm PySem.F.plainAttrs_list PySem.F.slot_list_append PySem.F.type_list_append mt_append (pe_var hN hv hd hcd) (pa_cons p pa_nil hst) hbase hfew hline hst hpl) hs, fun W0 G ρ σ W D D' at_ s h => ?_⟩
  obtain ⟨ds, ei, h⟩ := h
  obtain ⟨b, xs, e1, e2, e3, e4, e5⟩ := at_.rl.ow i ds ei
  refine ⟨.ref b, e1, .inl ⟨rfl, xs, .of e2⟩, l ρ σ W _ at_.rl h _ fun d v W1 s1 i1 ⟨hl, q1⟩ => ?_⟩
  have a1 := at_.step s1
  have hg1 : W1.g b = none := s1.n b (by rw [e2]; intro z; cases z) e3
  refine ⟨b, xs, v, rfl, rfl, s1.h _ _ e2, by rw [← e5.length]; exact Nat.lt_of_le_of_lt hl (by decide), ?_⟩
  exact s.nx _ _ _ (a1.put ei e1 hg1 e4 ((e5.mono s1).append (allIs_cons.mpr ⟨v, [], rfl, i1, allIs_nil.mpr rfl⟩))) q1
theorem AllIs.dropLast {G : Hp} {ds : List Dt} {xs : List V} (h : AllIs K G ds xs) : AllIs K G ds.dropLast xs.dropLast := by
  rw [List.dropLast_eq_take, List.dropLast_eq_take, h.length]
  exact h.take _
theorem AllIs.reverse {G : Hp} : ∀ {ds : List Dt} {xs : List V}, AllIs K G ds xs → AllIs K G ds.reverse xs.reverse
  | [], _, h => by rw [allIs_nil.mp h]; exact allIs_nil.mpr rfl
  | d :: ds, _, h => by
    obtain ⟨x, r, rfl, h1, h2⟩ := allIs_cons.mp h
    rw [List.reverse_cons, List.reverse_cons]
    exact (AllIs.reverse h2).append (allIs_cons.mpr ⟨x, [], rfl, h1, allIs_nil.mpr rfl⟩)
theorem AllIs.set {G : Hp} : ∀ {ds : List Dt} {xs : List V} {d : Dt} {v : V} (j : Nat), AllIs K G ds xs → Is K G d v → AllIs K G (ds.set j d) (xs.set j v)
  | [], _, _, _, _, h, _ => by rw [allIs_nil.mp h]; exact allIs_nil.mpr rfl
  | d :: ds, _, _, _, 0, h, i => by
    obtain ⟨x, r, rfl, h1, h2⟩ := allIs_cons.mp h
    exact allIs_cons.mpr ⟨_, _, rfl, i, h2⟩
  | d :: ds, _, _, _, j + 1, h, i => by
    obtain ⟨x, r, rfl, h1, h2⟩ := allIs_cons.mp h
    exact allIs_cons.mpr ⟨_, _, rfl, h1, AllIs.set j h2 i⟩
def dPop (i : Nat) : DTS := fun D ρ => ∃ ds, ρ[i]? = some (.own ds) ∧ ds.isEmpty = false ∧ D.nx (ρ.set i (.own ds.dropLast))
theorem ds_pop (i : Nat) (hN : X.N[i]? = some x := by rfl) (hv : Vis X.env.scope x := by first | exact Or.inl rfl | exact Or.inr (Or.inl rfl) | exact Or.inr (Or.inr rfl)) (hd : (x == ("__debug__" : Str)) = false := by decide)
    (hcd : (x == ("__classdict__" : Str)) = false := by decide)
    (hbase : attributeBase (.Name x p0) "pop" X.env (eval (.Name x p0) X.env) = eval (.Name x p0) X.env := by rfl) (hline : (p1.endLine == p2.line) = true := by rfl)
    (hs : swapsWith (.Call (.Attribute (.Name x p0) "pop" p1) [] [] p2) none pos.line X.env = pure false := by rfl) :
    DSt X fr (.Expr (.Call (.Attribute (.Name x p0) "pop" p1) [] [] p2) pos) (dPop i) := by
  refine ⟨_, ps_expr (pe_bm0 PySem.F.plainAttrs_list PySem.F.slot_list_pop PySem.F.type_list_pop mt_pop (pe_var hN hv hd hcd) hbase hline) hs, fun W0 G ρ σ W D D' at_ s h => ?_⟩
  obtain ⟨ds, ei, hne, q1⟩ := h
  obtain ⟨b, xs, e1, e2, e3, e4, e5⟩ := at_.rl.ow i ds ei
  have hx : xs ≠ [] := fun z => by
    have := e5.length
    rw [z] at this
    rw [List.length_eq_zero_iff.mp this] at hne
    cases hne
  have hlt : xs.length - 1 < xs.length := by
    have := List.length_pos_iff.mpr hx
    omega
  exact ⟨.ref b, e1, .inl ⟨rfl, xs, .of e2⟩, b, xs, xs[xs.length - 1], rfl, rfl, e2, List.getElem?_eq_getElem hlt, s.nx _ _ _ (at_.put ei e1 e3 e4 e5.dropLast) q1⟩
def dPut (i : Nat) (ti te : DTE) : DTS := fun D ρ => ∃ ds, ρ[i]? = some (.own ds) ∧ te ρ fun d => ti ρ fun z => ∃ n j, z = .int n ∧ ixN ds.length n = some j ∧ D.nx (ρ.set i (.own (ds.set j d)))
theorem ds_put (i : Nat) {k : Expr} {ti : DTE} (hk : DE X k ti) (h : DE X e te) (hN : X.N[i]? = some x := by rfl) (hv : Vis X.env.scope x := by first | exact Or.inl rfl | exact Or.inr (Or.inl rfl) | exact Or.inr (Or.inr rfl)) (hd : (x == ("__debug__" : Str)) = false := by decide)
    (hcd : (x == ("__classdict__" : Str)) = false := by decide)
    (ha : ∀ v, assign (.Subscript (.Name x p0) k p1) X.env v = (do
      let ov ← holding [v] (eval (.Name x p0) X.env)
      let iv ← holding [v, ov] (eval k X.env)
      standAt p1
      holding [v, ov, iv] (setItem ov iv v)
      release [v, ov, iv] []) := by intro _; rfl)
    (hs : swapsWithSole [.Subscript (.Name x p0) k p1] e pos.line X.env = pure false := by rfl) (hw : swappedStores [.Subscript (.Name x p0) k p1] e X.env = pure none := by rfl)
    (h1 : (assignEach [.Subscript (.Name x p0) k p1] X.env).map (·.2) = [assign (.Subscript (.Name x p0) k p1) X.env] := by rfl) :
    DSt X fr (.Assign [.Subscript (.Name x p0) k p1] e pos) (dPut i ti te) := by
  obtain ⟨tt, p, l⟩ := h
  obtain ⟨tk, pk, lk⟩ := hk
  refine ⟨_, ps_asg p (pg_sub (pe_var hN hv hd hcd) pk set_list ha) hs hw h1, fun W0 G ρ σ W D D' at_ s h => ?_⟩
  obtain ⟨ds, ei, h⟩ := h
  refine l ρ σ W _ at_.rl h _ fun d v W1 s1 i1 q1 => ?_
  have a1 := at_.step s1
  obtain ⟨b, xs, e1, e2, e3, e4, e5⟩ := a1.rl.ow i ds ei
  refine ⟨.ref b, e1, lk ρ σ W1 _ a1.rl q1 _ fun z u W2 s2 i2 ⟨n, j, ez, ej, q2⟩ => ?_⟩
  subst ez
  have a2 := a1.step s2
  have hg2 : W2.g b = none := s2.n b (by rw [e2]; intro z; cases z) e3
  refine ⟨b, xs, n, j, rfl, is_int.mp i2, s2.h _ _ e2, by rw [← e5.length]; exact ej, ?_⟩
  exact s.nx _ _ _ (a2.put ei e1 hg2 e4 ((e5.mono s2).set j (i1.mono s2))) q2
end

section
variable {P : Program} {w : World} {K : PySem.W.Frag} {mg : Str → Option Value} {base : Heap}
theorem at_start {W : Vw} {N : List Str} {ds : List Dt} {vs : List V} (ia : AllIs K W.g ds vs) : At K W W.g W (dstart N.length ds) (start N vs) := ⟨Le.refl W, Same.refl _, Rl.start ia⟩
theorem okD {x qual : Str} {st : Stmt} {f : Addr} {fd : FuncData} {N ps : List Str} {k : Nat} {S : DSp} (F : Fun K x qual st f fd) (sc : FnScope N ps (defScope st)) (len : ∀ ds Q, S ds Q → ds.length = ps.length)
    (hbody : ∀ (cdv : Value) (A : Around) (outer : List Env) (s : Shared) (H : Hp) (E : XK), Room k (A.deeper (envOfC qual (defScope st) s.heap.objs.size f cdv)) → ∀ (ds : List Dt) (Q : Dt → Prop), S ds Q →
      ∃ t, DSs (cxOf CX0 P w K mg base N qual (defScope st) f cdv A outer s H E).nox false (defBody st) t ∧ t { nx := fun _ => Q .non, rt := Q } (dstart N.length ds)) : FnOk P w K mg base CX0 (k + 1) f fd ps (PureSp K S) := by
  refine F.ok sc (fun vs H Q E h => ?_) (fun cdv A outer s H vs Q E hr h => ?_)
  · obtain ⟨W, ds, Qd, _, ia, hS, _⟩ := h
    rw [← ia.length]
    exact len ds Qd hS
  obtain ⟨W, ds, Qd, rfl, ia, hS, kk⟩ := h
  obtain ⟨t, ⟨ts, p, l⟩, ht⟩ := hbody cdv A outer s W.h E hr ds Qd hS
  refine ⟨ts, p, l W W.g (dstart N.length ds) (start N vs) W { nx := fun _ => Qd .non, rt := Qd } _ (at_start ia) ⟨fun ρ σ W' a q => kk .non .non W' a.le (is_non.mpr rfl) q, fun _ d v W' s' i' q => kk d v W' s' i' q, fun es q xs W' s' h0 h1 h2 i' z => ?_, fun _ _ _ _ q => q.elim, fun _ _ _ _ q => q.elim⟩ ht⟩
  exact kk (.lst es) (.ref q) (W'.frz q _ h1) (le_frz s' h0 h1 h2) (is_lst.mpr ⟨q, xs, rfl, upd_same, AllIs.mono0 (same_new h2 _) i'⟩) z
theorem DOk.mk' {x qual : Str} {st : Stmt} {f : Addr} {fd : FuncData} {ps : List Str} {n : Nat} {S : DSp} (F : Fun K x qual st f fd) (hm : mg x = some (.ref f)) (hb : Binds K fd ps []) (h : FnOk P w K mg base CX0 n f fd ps (PureSp K S)) : DOk P w K mg base n x S :=
  ⟨f, fd, ps, hm, F.kp, hb, h⟩
theorem FOk.mk' {x qual : Str} {st : Stmt} {f : Addr} {fd : FuncData} {ps : List Str} {n : Nat} {S : DSp} (F : Fun K x qual st f fd) (hm : mg x = some (.ref f)) (hb : Binds K fd ps []) (h : FnOk P w K mg base CX0 n f fd ps (FreshSp K S)) : FOk P w K mg base n x S :=
  ⟨f, fd, ps, hm, F.kp, hb, h⟩
theorem DOk.mono {x : Str} {m n : Nat} {S : DSp} (h : DOk P w K mg base m x S) (hl : m ≤ n) : DOk P w K mg base n x S :=
  let ⟨f, fd, ps, h1, h2, h3, h4⟩ := h.ex; ⟨f, fd, ps, h1, h2, h3, h4.mono hl⟩
theorem FOk.mono {x : Str} {m n : Nat} {S : DSp} (h : FOk P w K mg base m x S) (hl : m ≤ n) : FOk P w K mg base n x S :=
  let ⟨f, fd, ps, h1, h2, h3, h4⟩ := h.ex; ⟨f, fd, ps, h1, h2, h3, h4.mono hl⟩
theorem MOk.mono {C : Addr} {x : Str} {m n : Nat} {S : DSp} (h : MOk P w K mg base m C x S) (hl : m ≤ n) : MOk P w K mg base n C x S :=
  ⟨h.cl, let ⟨f, fd, ps, h1, h3, h4⟩ := h.ex; ⟨f, fd, ps, h1, h3, h4.mono hl⟩⟩
theorem FMOk.mono {C : Addr} {x : Str} {m n : Nat} {S : DSp} (h : FMOk P w K mg base m C x S) (hl : m ≤ n) : FMOk P w K mg base n C x S :=
  ⟨h.cl, let ⟨f, fd, ps, h1, h3, h4⟩ := h.ex; ⟨f, fd, ps, h1, h3, h4.mono hl⟩⟩
theorem MOk.imp {C : Addr} {x : Str} {n : Nat} {S S' : DSp} (h : MOk P w K mg base n C x S) (hi : ∀ ds Q, S' ds Q → S ds Q) : MOk P w K mg base n C x S' :=
  ⟨h.cl, let ⟨f, fd, ps, h1, h3, h4⟩ := h.ex; ⟨f, fd, ps, h1, h3, h4.imp fun vs H Q E ⟨W, ds, Qd, a, b, c, d⟩ => ⟨W, ds, Qd, a, b, hi _ _ c, d⟩⟩⟩
theorem FMOk.imp {C : Addr} {x : Str} {n : Nat} {S S' : DSp} (h : FMOk P w K mg base n C x S) (hi : ∀ ds Q, S' ds Q → S ds Q) : FMOk P w K mg base n C x S' :=
  ⟨h.cl, let ⟨f, fd, ps, h1, h3, h4⟩ := h.ex; ⟨f, fd, ps, h1, h3, h4.imp fun vs H Q E ⟨W, ds, Qd, a, b, c, d⟩ => ⟨W, ds, Qd, a, b, hi _ _ c, d⟩⟩⟩
theorem DOk.imp {x : Str} {n : Nat} {S S' : DSp} (h : DOk P w K mg base n x S) (hi : ∀ ds Q, S' ds Q → S ds Q) : DOk P w K mg base n x S' :=
  let ⟨f, fd, ps, h1, h2, h3, h4⟩ := h.ex; ⟨f, fd, ps, h1, h2, h3, h4.imp fun vs H Q E ⟨W, ds, Qd, a, b, c, d⟩ => ⟨W, ds, Qd, a, b, hi _ _ c, d⟩⟩
theorem init_ok {qual : Str} {st : Stmt} {g C : Addr} {fd : FuncData} {y f : Str} {k : Nat} {ok : Int → Prop} (F : Fun K "__init__" qual st g fd) (sc : FnScope ["self", y] ["self", y] (defScope st)) (cl : Cls K C) (na : NoAttr K C f)
    (hbody : ∀ (cdv : Value) (A : Around) (outer : List Env) (s : Shared) (H : Hp) (E : XK), Room k (A.deeper (envOfC qual (defScope st) s.heap.objs.size g cdv)) →
      ∃ te t, PSs (cxOf CX0 P w K mg base ["self", y] qual (defScope st) g cdv A outer s H E).nox (defBody st) (sFld K (tVar 0) te f) ∧ LiE K te t ∧ ∀ i, ok i → t [.none, .some (.int i)] fun d => d = .int i) :
    FnOk P w K mg base CX0 (k + 1) g fd ["self", y] (spInitW C f ok) := by
  refine F.ok sc (fun vs H Q E h => ?_) (fun cdv A outer s H vs Q E hr h => ?_)
  · obtain ⟨p, dx, i, rfl, _⟩ := h
    rfl
  obtain ⟨p, dx, i, rfl, hp, hok, q⟩ := h
  obtain ⟨te, t, ps, l, ht⟩ := hbody cdv A outer s H E hr
  refine ⟨_, ps, l (F := fun _ => True) [.none, .some (.int i)] _ ⟨H, H, Same.refl H⟩ _ ⟨rfl, fun j d e => ?_, fun j ds e => ?_, fun j j' ds es _ e _ => ?_, fun _ _ => trivial⟩ (ht i hok) _ fun d v W1 s1 i1 ed => ?_⟩
  · match j, e with
    | 0, e => cases e
    | 1, e =>
      have e' : Dt.int i = d := by cases e; rfl
      subst e'
      exact ⟨.int i, rfl, is_int.mpr rfl⟩
    | j + 2, e => cases e
  · match j, e with
    | 0, e => cases e
    | 1, e => cases e
    | j + 2, e => cases e
  · match j, e with
    | 0, e => cases e
    | 1, e => cases e
    | j + 2, e => cases e
  · subst ed
    obtain rfl := is_int.mp i1
    refine ⟨.ref p, rfl, p, C, dx, [], rfl, s1.h _ _ hp, cl, na, (by show 0 < 1000; decide), ?_⟩
    refine q _ upd_same fun b o hb hbp => ?_
    rw [upd_ne hbp]
    exact s1.h _ _ hb
end
end OD

namespace OD
open PySem PySem.Spec PyProof.Rows L2
mutual
/-- Python's == of data -/
def eqD : Dt → Dt → Bool
  | .non, .non => true
  | .bl a, .bl b => a == b
  | .bl a, .int b => (if a then (1 : Int) else 0) == b
  | .int a, .bl b => a == (if b then (1 : Int) else 0)
  | .int a, .int b => a == b
  | .tup ds, .tup es => eqDs ds es
  | .lst ds, .lst es => eqDs ds es
  | _, _ => false
def eqDs : List Dt → List Dt → Bool
  | [], [] => true
  | d :: ds, e :: es => eqD d e && eqDs ds es
  | _, _ => false
end
def okE : Nat → Dt → Bool
  | _, .non => true
  | _, .bl _ => true
  | _, .int _ => true
  | n + 1, .tup ds => ds.all (okE n)
  | n + 1, .lst ds => ds.all (okE n)
  | _, _ => false
theorem eqD_int (a b : Int) : eqD (.int a) (.int b) = (a == b) := by unfold eqD; rfl
theorem eqD_bl (a b : Bool) : eqD (.bl a) (.bl b) = (a == b) := by unfold eqD; rfl
theorem eqD_tup (ds es : List Dt) : eqD (.tup ds) (.tup es) = eqDs ds es := by rw [eqD]
theorem eqD_lst (ds es : List Dt) : eqD (.lst ds) (.lst es) = eqDs ds es := by rw [eqD]
theorem eqDs_nil : eqDs [] [] = true := by unfold eqDs; rfl
theorem eqDs_cons (d e : Dt) (ds es : List Dt) : eqDs (d :: ds) (e :: es) = (eqD d e && eqDs ds es) := by rw [eqDs]
theorem eqDs_nil_cons (e : Dt) (es : List Dt) : eqDs [] (e :: es) = false := by unfold eqDs; rfl
theorem eqDs_cons_nil (e : Dt) (es : List Dt) : eqDs (e :: es) [] = false := by unfold eqDs; rfl
theorem eqDs_range : ∀ ds es : List Dt, (((List.range (min ds.length es.length)).all fun j => eqD (ds.getD j .non) (es.getD j .non)) && (ds.length == es.length)) = eqDs ds es
  | [], [] => by rw [eqDs_nil]; rfl
  | [], e :: es => by
    rw [eqDs_nil_cons]
    have h : ((([] : List Dt).length == (e :: es).length)) = false := by simp
    rw [h, Bool.and_false]
  | d :: ds, [] => by
    rw [eqDs_cons_nil]
    have h : (((d :: ds).length == ([] : List Dt).length)) = false := by simp
    rw [h, Bool.and_false]
  | d :: ds, e :: es => by
    have ih := eqDs_range ds es
    rw [eqDs_cons, ← ih]
    have hm : min (d :: ds).length (e :: es).length = min ds.length es.length + 1 := by
      rw [List.length_cons, List.length_cons]; omega
    rw [hm, List.range_succ_eq_map, List.all_cons, List.all_map, Bool.and_assoc]
    have hl : ((d :: ds).length == (e :: es).length) = (ds.length == es.length) := by
      rw [List.length_cons, List.length_cons]
      rw [Bool.eq_iff_iff, beq_iff_eq, beq_iff_eq]
      omega
    rw [hl]
    rfl
theorem eqDs_lens {ds es : List Dt} (h : ds.length ≠ es.length) : eqDs ds es = false := by
  rw [← eqDs_range ds es]
  have h : (ds.length == es.length) = false := beq_eq_false_iff_ne.mpr h
  rw [h, Bool.and_false]
theorem eqDs_all {ds es : List Dt} (h : ds.length = es.length) : ((List.range ds.length).all fun j => eqD (ds.getD j .non) (es.getD j .non)) = eqDs ds es := by
  rw [← eqDs_range ds es]
  have h' : (ds.length == es.length) = true := beq_iff_eq.mpr h
  rw [h', Bool.and_true, ← h, Nat.min_self]
theorem eqDs_self : ∀ {ds : List Dt}, (∀ d ∈ ds, eqD d d = true) → eqDs ds ds = true
  | [], _ => eqDs_nil
  | d :: ds, h => by
    rw [eqDs_cons, h d List.mem_cons_self, eqDs_self fun e he => h e (List.mem_cons_of_mem _ he)]
    rfl
theorem eqD_self : ∀ (n : Nat) {d : Dt}, okE n d = true → eqD d d = true := by
  intro n
  induction n with
  | zero =>
    intro d h
    cases d with
    | non => unfold eqD; rfl
    | bl b => rw [eqD_bl]; exact beq_self_eq_true _
    | int b => rw [eqD_int]; exact beq_self_eq_true _
    | _ => simp [okE] at h
  | succ n ih =>
    intro d h
    cases d with
    | non => unfold eqD; rfl
    | bl b => rw [eqD_bl]; exact beq_self_eq_true _
    | int b => rw [eqD_int]; exact beq_self_eq_true _
    | tup ds =>
      rw [eqD_tup]
      have h' : ∀ d ∈ ds, okE n d = true := by simpa [okE] using h
      exact eqDs_self fun d hd => ih (h' d hd)
    | lst ds =>
      rw [eqD_lst]
      have h' : ∀ d ∈ ds, okE n d = true := by simpa [okE] using h
      exact eqDs_self fun d hd => ih (h' d hd)
    | _ => simp [okE] at h
example : eqD (.int ((2 : Nat) : Int)) (.int 2) = true := by rfl
section
variable {X : Cx} {pins : List (Addr × Obj)} {σ : St} {K : PySem.W.Frag} {H : Hp} {s : Shared}
theorem eqs_of : ∀ {ds es : List Dt} {xs : List V}, (∀ d e v, d ∈ ds → e ∈ es → Is K H d v → Is K H e v → eqD d e = true) → AllIs K H ds xs → AllIs K H es xs → eqDs ds es = true
  | [], es, xs, ih, i1, i2 => by
    obtain rfl := allIs_nil.mp i1
    cases es with
    | nil => exact eqDs_nil
    | cons e es => obtain ⟨_, _, z, _⟩ := allIs_cons.mp i2; cases z
  | d :: ds, es, xs, ih, i1, i2 => by
    obtain ⟨x, r, rfl, j1, j2⟩ := allIs_cons.mp i1
    cases es with
    | nil => cases allIs_nil.mp i2
    | cons e es =>
      obtain ⟨y, r', z, k1, k2⟩ := allIs_cons.mp i2
      cases z
      rw [eqDs_cons, ih d e x List.mem_cons_self List.mem_cons_self j1 k1, eqs_of (fun d' e' v' hd he => ih d' e' v' (List.mem_cons_of_mem _ hd) (List.mem_cons_of_mem _ he)) j2 k2]
      rfl
theorem okE_tup {n : Nat} {ds : List Dt} (h : okE n (.tup ds) = true) : ∃ m, n = m + 1 ∧ ∀ d ∈ ds, okE m d = true := by
  cases n with
  | zero => simp [okE] at h
  | succ m => exact ⟨m, rfl, by simpa [okE] using h⟩
theorem okE_lst {n : Nat} {ds : List Dt} (h : okE n (.lst ds) = true) : ∃ m, n = m + 1 ∧ ∀ d ∈ ds, okE m d = true := by
  cases n with
  | zero => simp [okE] at h
  | succ m => exact ⟨m, rfl, by simpa [okE] using h⟩
theorem okE_str {n : Nat} {x : Str} (h : okE n (.str x) = true) : False := by cases n <;> simp [okE] at h
theorem okE_scr {n : Nat} {x : List Int} (h : okE n (.scr x) = true) : False := by cases n <;> simp [okE] at h
theorem okE_way {n : Nat} {C : Addr} {f : Str} {k : Int} (h : okE n (.way C f k) = true) : False := by cases n <;> simp [okE] at h
theorem eq_same : ∀ (n : Nat) {d e : Dt} {v : V}, okE n d = true → okE n e = true → Is K H d v → Is K H e v → eqD d e = true := by
  intro n
  induction n with
  | zero =>
    intro d e v h1 h2 i1 i2
    cases d with
    | tup ds => obtain ⟨_, z, _⟩ := okE_tup h1; cases z
    | lst ds => obtain ⟨_, z, _⟩ := okE_lst h1; cases z
    | str x => exact (okE_str h1).elim
    | scr x => exact (okE_scr h1).elim
    | way C f k => exact (okE_way h1).elim
    | non =>
      obtain rfl := is_non.mp i1
      cases e with
      | non => unfold eqD; rfl
      | bl b => cases is_bl.mp i2
      | int b => cases is_int.mp i2
      | tup es => obtain ⟨_, _, e, _⟩ := is_tup.mp i2; cases e
      | lst es => obtain ⟨_, _, e, _⟩ := is_lst.mp i2; cases e
      | str x => exact (okE_str h2).elim
      | scr x => exact (okE_scr h2).elim
      | way C f k => exact (okE_way h2).elim
    | bl a =>
      obtain rfl := is_bl.mp i1
      cases e with
      | non => cases is_non.mp i2
      | bl b => cases is_bl.mp i2; rw [eqD_bl]; exact beq_self_eq_true _
      | int b => cases is_int.mp i2
      | tup es => obtain ⟨_, _, e, _⟩ := is_tup.mp i2; cases e
      | lst es => obtain ⟨_, _, e, _⟩ := is_lst.mp i2; cases e
      | str x => exact (okE_str h2).elim
      | scr x => exact (okE_scr h2).elim
      | way C f k => exact (okE_way h2).elim
    | int a =>
      obtain rfl := is_int.mp i1
      cases e with
      | non => cases is_non.mp i2
      | bl b => cases is_bl.mp i2
      | int b => cases is_int.mp i2; rw [eqD_int]; exact beq_self_eq_true _
      | tup es => obtain ⟨_, _, e, _⟩ := is_tup.mp i2; cases e
      | lst es => obtain ⟨_, _, e, _⟩ := is_lst.mp i2; cases e
      | str x => exact (okE_str h2).elim
      | scr x => exact (okE_scr h2).elim
      | way C f k => exact (okE_way h2).elim
  | succ n ih =>
    intro d e v h1 h2 i1 i2
    cases d with
    | str x => exact (okE_str h1).elim
    | scr x => exact (okE_scr h1).elim
    | way C f k => exact (okE_way h1).elim
    | non =>
      obtain rfl := is_non.mp i1
      cases e with
      | non => unfold eqD; rfl
      | bl b => cases is_bl.mp i2
      | int b => cases is_int.mp i2
      | tup es => obtain ⟨_, _, e, _⟩ := is_tup.mp i2; cases e
      | lst es => obtain ⟨_, _, e, _⟩ := is_lst.mp i2; cases e
      | str x => exact (okE_str h2).elim
      | scr x => exact (okE_scr h2).elim
      | way C f k => exact (okE_way h2).elim
    | bl a =>
      obtain rfl := is_bl.mp i1
      cases e with
      | non => cases is_non.mp i2
      | bl b => cases is_bl.mp i2; rw [eqD_bl]; exact beq_self_eq_true _
      | int b => cases is_int.mp i2
      | tup es => obtain ⟨_, _, e, _⟩ := is_tup.mp i2; cases e
      | lst es => obtain ⟨_, _, e, _⟩ := is_lst.mp i2; cases e
      | str x => exact (okE_str h2).elim
      | scr x => exact (okE_scr h2).elim
      | way C f k => exact (okE_way h2).elim
    | int a =>
      obtain rfl := is_int.mp i1
      cases e with
      | non => cases is_non.mp i2
      | bl b => cases is_bl.mp i2
      | int b => cases is_int.mp i2; rw [eqD_int]; exact beq_self_eq_true _
      | tup es => obtain ⟨_, _, e, _⟩ := is_tup.mp i2; cases e
      | lst es => obtain ⟨_, _, e, _⟩ := is_lst.mp i2; cases e
      | str x => exact (okE_str h2).elim
      | scr x => exact (okE_scr h2).elim
      | way C f k => exact (okE_way h2).elim
    | tup ds =>
      obtain ⟨a, xs, rfl, hx, ha⟩ := is_tup.mp i1
      obtain ⟨m, em, hd⟩ := okE_tup h1
      cases em
      cases e with
      | non => cases is_non.mp i2
      | bl b => cases is_bl.mp i2
      | int b => cases is_int.mp i2
      | tup es =>
        obtain ⟨b, ys, eb, hy, hb⟩ := is_tup.mp i2
        cases eb
        rw [hx] at hy
        cases hy
        obtain ⟨m, em, he⟩ := okE_tup h2
        cases em
        rw [eqD_tup]
        exact eqs_of (fun d e v q1 q2 => ih (hd d q1) (he e q2)) ha hb
      | lst es =>
        obtain ⟨b, ys, eb, hy, hb⟩ := is_lst.mp i2
        cases eb
        rw [hx] at hy
        cases hy
      | str x => exact (okE_str h2).elim
      | scr x => exact (okE_scr h2).elim
      | way C f k => exact (okE_way h2).elim
    | lst ds =>
      obtain ⟨a, xs, rfl, hx, ha⟩ := is_lst.mp i1
      obtain ⟨m, em, hd⟩ := okE_lst h1
      cases em
      cases e with
      | non => cases is_non.mp i2
      | bl b => cases is_bl.mp i2
      | int b => cases is_int.mp i2
      | lst es =>
        obtain ⟨b, ys, eb, hy, hb⟩ := is_lst.mp i2
        cases eb
        rw [hx] at hy
        cases hy
        obtain ⟨m, em, he⟩ := okE_lst h2
        cases em
        rw [eqD_lst]
        exact eqs_of (fun d e v q1 q2 => ih (hd d q1) (he e q2)) ha hb
      | tup es =>
        obtain ⟨b, ys, eb, hy, hb⟩ := is_tup.mp i2
        cases eb
        rw [hx] at hy
        cases hy
      | str x => exact (okE_str h2).elim
      | scr x => exact (okE_scr h2).elim
      | way C f k => exact (okE_way h2).elim
theorem items_eq {n : Nat} {A : Around} {ds es : List Dt} {xs ys : List V} {its its2 : List Value}
    (ih : ∀ {d e : Dt} {x y : V} {v u : Value}, okE n d = true → okE n e = true → Is K H d x → Is K H e y → RelV x v → RelV y u → SeqAt.EqAt A s v u (eqD d e))
    (hd : ∀ d ∈ ds, okE n d = true) (he : ∀ d ∈ es, okE n d = true) (a1 : AllIs K H ds xs) (a2 : AllIs K H es ys) (r1 : Vals xs its) (r2 : Vals ys its2) :
    ∀ j (h1 : j < its.toArray.size) (h2 : j < its2.toArray.size), SeqAt.EqAt A s its.toArray[j] its2.toArray[j] (eqD (ds.getD j .non) (es.getD j .non)) := by
  intro j h1 h2
  have l1 := a1.length.trans r1.length
  have l2 := a2.length.trans r2.length
  rw [List.size_toArray] at h1 h2
  have g1 : ds[j]? = some ds[j] := List.getElem?_eq_getElem (by omega)
  have g2 : es[j]? = some es[j] := List.getElem?_eq_getElem (by omega)
  obtain ⟨x, e1, i1⟩ := a1.get g1
  obtain ⟨y, e2, i2⟩ := a2.get g2
  obtain ⟨v, e3, q1⟩ := r1.get e1
  obtain ⟨u, e4, q2⟩ := r2.get e2
  have f1 : ds.getD j .non = ds[j] := by rw [List.getD_eq_getElem?_getD, g1]; rfl
  have f2 : es.getD j .non = es[j] := by rw [List.getD_eq_getElem?_getD, g2]; rfl
  have f3 : its.toArray[j] = v := by
    have z : its[j]? = some its[j] := List.getElem?_eq_getElem h1
    rw [z] at e3
    simpa using Option.some.inj e3
  have f4 : its2.toArray[j] = u := by
    have z : its2[j]? = some its2[j] := List.getElem?_eq_getElem h2
    rw [z] at e4
    simpa using Option.some.inj e4
  rw [f1, f2, f3, f4]
  exact ih (hd _ (List.mem_of_getElem? g1)) (he _ (List.mem_of_getElem? g2)) i1 i2 q1 q2
theorem eq_at (I : Inv X pins σ H s) : ∀ (n : Nat) {A : Around} {d e : Dt} {x y : V} {v u : Value}, A.units + n < cLine → okE n d = true → okE n e = true → Is X.K H d x → Is X.K H e y → RelV x v → RelV y u → SeqAt.EqAt A s v u (eqD d e) := by
  intro n
  induction n with
  | zero =>
    intro A d e x y v u hu h1 h2 i1 i2 q1 q2
    cases d with
    | tup ds => obtain ⟨_, z, _⟩ := okE_tup h1; cases z
    | lst ds => obtain ⟨_, z, _⟩ := okE_lst h1; cases z
    | str x => exact (okE_str h1).elim
    | scr x => exact (okE_scr h1).elim
    | way C f k => exact (okE_way h1).elim
    | non =>
      obtain rfl := is_non.mp i1
      cases e with
      | non => obtain rfl := is_non.mp i2; exact eqAt_V q1 q2 rfl rfl
      | bl b => obtain rfl := is_bl.mp i2; exact eqAt_V q1 q2 rfl rfl
      | int b => obtain rfl := is_int.mp i2; exact eqAt_V q1 q2 rfl rfl
      | tup es => obtain ⟨_, z, _⟩ := okE_tup h2; cases z
      | lst es => obtain ⟨_, z, _⟩ := okE_lst h2; cases z
      | str x => exact (okE_str h2).elim
      | scr x => exact (okE_scr h2).elim
      | way C f k => exact (okE_way h2).elim
    | bl a =>
      obtain rfl := is_bl.mp i1
      cases e with
      | non => obtain rfl := is_non.mp i2; exact eqAt_V q1 q2 rfl rfl
      | bl b => obtain rfl := is_bl.mp i2; exact eqAt_V q1 q2 rfl rfl
      | int b => obtain rfl := is_int.mp i2; exact eqAt_V q1 q2 rfl rfl
      | tup es => obtain ⟨_, z, _⟩ := okE_tup h2; cases z
      | lst es => obtain ⟨_, z, _⟩ := okE_lst h2; cases z
      | str x => exact (okE_str h2).elim
      | scr x => exact (okE_scr h2).elim
      | way C f k => exact (okE_way h2).elim
    | int a =>
      obtain rfl := is_int.mp i1
      cases e with
      | non => obtain rfl := is_non.mp i2; exact eqAt_V q1 q2 rfl rfl
      | bl b => obtain rfl := is_bl.mp i2; exact eqAt_V q1 q2 rfl rfl
      | int b => obtain rfl := is_int.mp i2; exact eqAt_V q1 q2 rfl rfl
      | tup es => obtain ⟨_, z, _⟩ := okE_tup h2; cases z
      | lst es => obtain ⟨_, z, _⟩ := okE_lst h2; cases z
      | str x => exact (okE_str h2).elim
      | scr x => exact (okE_scr h2).elim
      | way C f k => exact (okE_way h2).elim
  | succ n ih =>
    intro A d e x y v u hu h1 h2 i1 i2 q1 q2
    have hA : A.units < cLine := by omega
    have hu' : A.in1.units + n < cLine := by show A.units + 1 + n < cLine; omega
    cases d with
    | str x => exact (okE_str h1).elim
    | scr x => exact (okE_scr h1).elim
    | way C f k => exact (okE_way h1).elim
    | non =>
      obtain rfl := is_non.mp i1
      cases e with
      | non => obtain rfl := is_non.mp i2; exact eqAt_V q1 q2 rfl rfl
      | bl b => obtain rfl := is_bl.mp i2; exact eqAt_V q1 q2 rfl rfl
      | int b => obtain rfl := is_int.mp i2; exact eqAt_V q1 q2 rfl rfl
      | tup es =>
        obtain ⟨b, ys, rfl, hy, hb⟩ := is_tup.mp i2
        obtain ⟨its2, r2, t2, _⟩ := I.tuple (.of hy)
        cases q1; cases q2
        exact SeqAt.EqAt.none_tuple t2 hA
      | lst es =>
        obtain ⟨b, ys, rfl, hy, hb⟩ := is_lst.mp i2
        obtain ⟨its2, r2, t2, _⟩ := I.list (.of hy)
        cases q1; cases q2
        exact SeqAt.EqAt.none_list t2.isList hA
      | str x => exact (okE_str h2).elim
      | scr x => exact (okE_scr h2).elim
      | way C f k => exact (okE_way h2).elim
    | bl a =>
      obtain rfl := is_bl.mp i1
      cases e with
      | non => obtain rfl := is_non.mp i2; exact eqAt_V q1 q2 rfl rfl
      | bl b => obtain rfl := is_bl.mp i2; exact eqAt_V q1 q2 rfl rfl
      | int b => obtain rfl := is_int.mp i2; exact eqAt_V q1 q2 rfl rfl
      | tup es =>
        obtain ⟨b, ys, rfl, hy, hb⟩ := is_tup.mp i2
        obtain ⟨its2, r2, t2, _⟩ := I.tuple (.of hy)
        cases q1; cases q2
        exact SeqAt.EqAt.bool_tuple a t2 hA
      | lst es =>
        obtain ⟨b, ys, rfl, hy, hb⟩ := is_lst.mp i2
        obtain ⟨its2, r2, t2, _⟩ := I.list (.of hy)
        cases q1; cases q2
        exact SeqAt.EqAt.bool_list a t2.isList hA
      | str x => exact (okE_str h2).elim
      | scr x => exact (okE_scr h2).elim
      | way C f k => exact (okE_way h2).elim
    | int a =>
      obtain rfl := is_int.mp i1
      cases e with
      | non => obtain rfl := is_non.mp i2; exact eqAt_V q1 q2 rfl rfl
      | bl b => obtain rfl := is_bl.mp i2; exact eqAt_V q1 q2 rfl rfl
      | int b => obtain rfl := is_int.mp i2; exact eqAt_V q1 q2 rfl rfl
      | tup es =>
        obtain ⟨b, ys, rfl, hy, hb⟩ := is_tup.mp i2
        obtain ⟨its2, r2, t2, _⟩ := I.tuple (.of hy)
        obtain ⟨t, rfl⟩ := q1; cases q2
        exact SeqAt.EqAt.int_tuple a t t2 hA
      | lst es =>
        obtain ⟨b, ys, rfl, hy, hb⟩ := is_lst.mp i2
        obtain ⟨its2, r2, t2, _⟩ := I.list (.of hy)
        obtain ⟨t, rfl⟩ := q1; cases q2
        exact SeqAt.EqAt.int_list a t t2.isList hA
      | str x => exact (okE_str h2).elim
      | scr x => exact (okE_scr h2).elim
      | way C f k => exact (okE_way h2).elim
    | tup ds =>
      obtain ⟨a, xs, rfl, hx, ha⟩ := is_tup.mp i1
      obtain ⟨m, em, hd⟩ := okE_tup h1
      cases em
      obtain ⟨its, r1, t1, _⟩ := I.tuple (.of hx)
      cases q1
      cases e with
      | non => obtain rfl := is_non.mp i2; cases q2; exact SeqAt.EqAt.tuple_none t1 hA
      | bl b => obtain rfl := is_bl.mp i2; cases q2; exact SeqAt.EqAt.tuple_bool b t1 hA
      | int b => obtain rfl := is_int.mp i2; obtain ⟨t, rfl⟩ := q2; exact SeqAt.EqAt.tuple_int b t t1 hA
      | tup es =>
        have i2' := i2
        obtain ⟨b, ys, rfl, hy, hb⟩ := is_tup.mp i2
        obtain ⟨its2, r2, t2, _⟩ := I.tuple (.of hy)
        cases q2
        by_cases hab : a = b
        · subst hab
          rw [eq_same _ h1 h2 i1 i2']
          exact SeqAt.EqAt.same _
        · obtain ⟨m', em, he⟩ := okE_tup h2
          cases em
          have q := SeqAt.RcAt.tuples t1 t2 hA (items_eq (fun {d e x y v u} => ih (A := A.in1) hu') hd he ha hb r1 r2)
          rw [List.size_toArray, List.size_toArray, ← r1.length, ← r2.length, ← ha.length, ← hb.length, eqDs_range] at q
          rw [eqD_tup]
          exact .of_refs hab q
      | lst es =>
        obtain ⟨b, ys, rfl, hy, hb⟩ := is_lst.mp i2
        obtain ⟨its2, r2, t2, _⟩ := I.list (.of hy)
        cases q2
        exact SeqAt.EqAt.tuple_list t1 t2.isList hA
      | str x => exact (okE_str h2).elim
      | scr x => exact (okE_scr h2).elim
      | way C f k => exact (okE_way h2).elim
    | lst ds =>
      obtain ⟨a, xs, rfl, hx, ha⟩ := is_lst.mp i1
      obtain ⟨m, em, hd⟩ := okE_lst h1
      cases em
      obtain ⟨its, r1, t1, _⟩ := I.list (.of hx)
      cases q1
      cases e with
      | non => obtain rfl := is_non.mp i2; cases q2; exact SeqAt.EqAt.list_none t1.isList hA
      | bl b => obtain rfl := is_bl.mp i2; cases q2; exact SeqAt.EqAt.list_bool b t1.isList hA
      | int b => obtain rfl := is_int.mp i2; obtain ⟨t, rfl⟩ := q2; exact SeqAt.EqAt.list_int b t t1.isList hA
      | lst es =>
        have i2' := i2
        obtain ⟨b, ys, rfl, hy, hb⟩ := is_lst.mp i2
        obtain ⟨its2, r2, t2, _⟩ := I.list (.of hy)
        cases q2
        by_cases hab : a = b
        · subst hab
          rw [eq_same _ h1 h2 i1 i2']
          exact SeqAt.EqAt.same _
        · obtain ⟨m', em, he⟩ := okE_lst h2
          cases em
          rw [eqD_lst]
          have l1 := ha.length.trans r1.length
          have l2 := hb.length.trans r2.length
          by_cases hl : ds.length = es.length
          · have q := SeqAt.RcAt.lists t1.isList t2.isList (by rw [List.size_toArray, List.size_toArray]; omega) hA (items_eq (fun {d e x y v u} => ih (A := A.in1) hu') hd he ha hb r1 r2)
            rw [List.size_toArray, ← l1, eqDs_all hl] at q
            exact .of_refs hab q
          · have q := SeqAt.RcAt.lists_lengths t1.isList t2.isList (by rw [List.size_toArray, List.size_toArray, bne_iff_ne]; omega) hA
            rw [eqDs_lens hl]
            exact .of_refs hab q
      | tup es =>
        obtain ⟨b, ys, rfl, hy, hb⟩ := is_tup.mp i2
        obtain ⟨its2, r2, t2, _⟩ := I.tuple (.of hy)
        cases q2
        exact SeqAt.EqAt.list_tuple t1.isList t2 hA
      | str x => exact (okE_str h2).elim
      | scr x => exact (okE_scr h2).elim
      | way C f k => exact (okE_way h2).elim
theorem rc_at (I : Inv X pins σ H s) {n : Nat} {A : Around} {d e : Dt} {x y : V} {v u : Value} (hu : A.units + (n + 1) < cLine) (h1 : okE (n + 1) d = true) (h2 : okE (n + 1) e = true) (i1 : Is X.K H d x) (i2 : Is X.K H e y) (q1 : RelV x v) (q2 : RelV y u) :
    SeqAt.RcAt A s v u (eqD d e) ∧ SeqAt.RcNeAt A s v u (!eqD d e) := by
  have hA : A.units < cLine := by omega
  have hu' : A.in1.units + n < cLine := by show A.units + 1 + n < cLine; omega
  have ih := fun {d e : Dt} {x y : V} {v u : Value} => eq_at I n (A := A.in1) (d := d) (e := e) (x := x) (y := y) (v := v) (u := u) hu'
  cases d with
  | str x => exact (okE_str h1).elim
  | scr x => exact (okE_scr h1).elim
  | way C f k => exact (okE_way h1).elim
  | non =>
    obtain rfl := is_non.mp i1
    cases q1
    cases e with
    | non => obtain rfl := is_non.mp i2; cases q2; exact ⟨SeqAt.RcAt.none_none, SeqAt.RcNeAt.none_none⟩
    | bl b => obtain rfl := is_bl.mp i2; cases q2; exact ⟨SeqAt.RcAt.none_bool b, SeqAt.RcNeAt.none_bool b⟩
    | int b => obtain rfl := is_int.mp i2; obtain ⟨t, rfl⟩ := q2; exact ⟨SeqAt.RcAt.none_int b t, SeqAt.RcNeAt.none_int b t⟩
    | tup es =>
      obtain ⟨b, ys, rfl, hy, hb⟩ := is_tup.mp i2
      obtain ⟨its2, r2, t2, _⟩ := I.tuple (.of hy)
      cases q2
      exact ⟨SeqAt.RcAt.none_tuple t2 hA, SeqAt.RcNeAt.none_tuple t2 hA⟩
    | lst es =>
      obtain ⟨b, ys, rfl, hy, hb⟩ := is_lst.mp i2
      obtain ⟨its2, r2, t2, _⟩ := I.list (.of hy)
      cases q2
      exact ⟨SeqAt.RcAt.none_list t2.isList hA, SeqAt.RcNeAt.none_list t2.isList hA⟩
    | str x => exact (okE_str h2).elim
    | scr x => exact (okE_scr h2).elim
    | way C f k => exact (okE_way h2).elim
  | bl a =>
    obtain rfl := is_bl.mp i1
    cases q1
    cases e with
    | non => obtain rfl := is_non.mp i2; cases q2; exact ⟨SeqAt.RcAt.bool_none a, SeqAt.RcNeAt.bool_none a⟩
    | bl b => obtain rfl := is_bl.mp i2; cases q2; exact ⟨SeqAt.RcAt.bool_bool a b, SeqAt.RcNeAt.bool_bool a b⟩
    | int b => obtain rfl := is_int.mp i2; obtain ⟨t, rfl⟩ := q2; exact ⟨SeqAt.RcAt.bool_int a b t, SeqAt.RcNeAt.bool_int a b t⟩
    | tup es =>
      obtain ⟨b, ys, rfl, hy, hb⟩ := is_tup.mp i2
      obtain ⟨its2, r2, t2, _⟩ := I.tuple (.of hy)
      cases q2
      exact ⟨SeqAt.RcAt.bool_tuple a t2 hA, SeqAt.RcNeAt.bool_tuple a t2 hA⟩
    | lst es =>
      obtain ⟨b, ys, rfl, hy, hb⟩ := is_lst.mp i2
      obtain ⟨its2, r2, t2, _⟩ := I.list (.of hy)
      cases q2
      exact ⟨SeqAt.RcAt.bool_list a t2.isList hA, SeqAt.RcNeAt.bool_list a t2.isList hA⟩
    | str x => exact (okE_str h2).elim
    | scr x => exact (okE_scr h2).elim
    | way C f k => exact (okE_way h2).elim
  | int a =>
    obtain rfl := is_int.mp i1
    obtain ⟨ta, rfl⟩ := q1
    cases e with
    | non => obtain rfl := is_non.mp i2; cases q2; exact ⟨SeqAt.RcAt.int_none a ta, SeqAt.RcNeAt.int_none a ta⟩
    | bl b => obtain rfl := is_bl.mp i2; cases q2; exact ⟨SeqAt.RcAt.int_bool a ta b, SeqAt.RcNeAt.int_bool a ta b⟩
    | int b => obtain rfl := is_int.mp i2; obtain ⟨t, rfl⟩ := q2; exact ⟨SeqAt.RcAt.int_int a ta b t, SeqAt.RcNeAt.int_int a ta b t⟩
    | tup es =>
      obtain ⟨b, ys, rfl, hy, hb⟩ := is_tup.mp i2
      obtain ⟨its2, r2, t2, _⟩ := I.tuple (.of hy)
      cases q2
      exact ⟨SeqAt.RcAt.int_tuple a ta t2 hA, SeqAt.RcNeAt.int_tuple a ta t2 hA⟩
    | lst es =>
      obtain ⟨b, ys, rfl, hy, hb⟩ := is_lst.mp i2
      obtain ⟨its2, r2, t2, _⟩ := I.list (.of hy)
      cases q2
      exact ⟨SeqAt.RcAt.int_list a ta t2.isList hA, SeqAt.RcNeAt.int_list a ta t2.isList hA⟩
    | str x => exact (okE_str h2).elim
    | scr x => exact (okE_scr h2).elim
    | way C f k => exact (okE_way h2).elim
  | tup ds =>
    obtain ⟨a, xs, rfl, hx, ha⟩ := is_tup.mp i1
    obtain ⟨m, em, hd⟩ := okE_tup h1
    cases em
    obtain ⟨its, r1, t1, _⟩ := I.tuple (.of hx)
    cases q1
    cases e with
    | non => obtain rfl := is_non.mp i2; cases q2; exact ⟨SeqAt.RcAt.tuple_none t1 hA, SeqAt.RcNeAt.tuple_none t1 hA⟩
    | bl b => obtain rfl := is_bl.mp i2; cases q2; exact ⟨SeqAt.RcAt.tuple_bool b t1 hA, SeqAt.RcNeAt.tuple_bool b t1 hA⟩
    | int b => obtain rfl := is_int.mp i2; obtain ⟨t, rfl⟩ := q2; exact ⟨SeqAt.RcAt.tuple_int b t t1 hA, SeqAt.RcNeAt.tuple_int b t t1 hA⟩
    | tup es =>
      obtain ⟨b, ys, rfl, hy, hb⟩ := is_tup.mp i2
      obtain ⟨its2, r2, t2, _⟩ := I.tuple (.of hy)
      cases q2
      obtain ⟨m', em, he⟩ := okE_tup h2
      cases em
      have it := items_eq (A := A.in1) ih hd he ha hb r1 r2
      have q := SeqAt.RcAt.tuples t1 t2 hA it
      have q' := SeqAt.RcNeAt.tuples t1 t2 hA it
      rw [List.size_toArray, List.size_toArray, ← r1.length, ← r2.length, ← ha.length, ← hb.length, eqDs_range] at q q'
      rw [eqD_tup]
      exact ⟨q, q'⟩
    | lst es =>
      obtain ⟨b, ys, rfl, hy, hb⟩ := is_lst.mp i2
      obtain ⟨its2, r2, t2, _⟩ := I.list (.of hy)
      cases q2
      exact ⟨SeqAt.RcAt.tuple_list t1 t2.isList hA, SeqAt.RcNeAt.tuple_list t1 t2.isList hA⟩
    | str x => exact (okE_str h2).elim
    | scr x => exact (okE_scr h2).elim
    | way C f k => exact (okE_way h2).elim
  | lst ds =>
    obtain ⟨a, xs, rfl, hx, ha⟩ := is_lst.mp i1
    obtain ⟨m, em, hd⟩ := okE_lst h1
    cases em
    obtain ⟨its, r1, t1, _⟩ := I.list (.of hx)
    cases q1
    cases e with
    | non => obtain rfl := is_non.mp i2; cases q2; exact ⟨SeqAt.RcAt.list_none t1.isList hA, SeqAt.RcNeAt.list_none t1.isList hA⟩
    | bl b => obtain rfl := is_bl.mp i2; cases q2; exact ⟨SeqAt.RcAt.list_bool b t1.isList hA, SeqAt.RcNeAt.list_bool b t1.isList hA⟩
    | int b => obtain rfl := is_int.mp i2; obtain ⟨t, rfl⟩ := q2; exact ⟨SeqAt.RcAt.list_int b t t1.isList hA, SeqAt.RcNeAt.list_int b t t1.isList hA⟩
    | lst es =>
      obtain ⟨b, ys, rfl, hy, hb⟩ := is_lst.mp i2
      obtain ⟨its2, r2, t2, _⟩ := I.list (.of hy)
      cases q2
      obtain ⟨m', em, he⟩ := okE_lst h2
      cases em
      rw [eqD_lst]
      have l1 := ha.length.trans r1.length
      have l2 := hb.length.trans r2.length
      by_cases hl : ds.length = es.length
      · have it := items_eq (A := A.in1) ih hd he ha hb r1 r2
        have q := SeqAt.RcAt.lists t1.isList t2.isList (by rw [List.size_toArray, List.size_toArray]; omega) hA it
        have q' := SeqAt.RcNeAt.lists t1.isList t2.isList (by rw [List.size_toArray, List.size_toArray]; omega) hA it
        rw [List.size_toArray, ← l1, eqDs_all hl] at q q'
        exact ⟨q, q'⟩
      · have q := SeqAt.RcAt.lists_lengths t1.isList t2.isList (by rw [List.size_toArray, List.size_toArray, bne_iff_ne]; omega) hA
        have q' := SeqAt.RcNeAt.lists_lengths t1.isList t2.isList (by rw [List.size_toArray, List.size_toArray, bne_iff_ne]; omega) hA
        rw [eqDs_lens hl]
        exact ⟨q, q'⟩
    | tup es =>
      obtain ⟨b, ys, rfl, hy, hb⟩ := is_tup.mp i2
      obtain ⟨its2, r2, t2, _⟩ := I.tuple (.of hy)
      cases q2
      exact ⟨SeqAt.RcAt.list_tuple t1.isList t2 hA, SeqAt.RcNeAt.list_tuple t1.isList t2 hA⟩
    | str x => exact (okE_str h2).elim
    | scr x => exact (okE_scr h2).elim
    | way C f k => exact (okE_way h2).elim
def gEq : Dt → Dt → (Dt → Prop) → Prop := fun d e Q => okE 40 d = true ∧ okE 40 e = true ∧ Q (.bl (eqD d e))
def gNe : Dt → Dt → (Dt → Prop) → Prop := fun d e Q => okE 40 d = true ∧ okE 40 e = true ∧ Q (.bl (!eqD d e))
theorem o_eq {k : Nat} (hr : Room k X.A) : DOp X (compareOp .Eq) gEq := by
  refine ⟨fun x y H Q => ∃ d e, Is X.K H d x ∧ Is X.K H e y ∧ okE 40 d = true ∧ okE 40 e = true ∧ Q (.bl (eqD d e)) H, fun pins s σ H x y v u Q I rx ry h => ?_, fun H x y d e Q i1 i2 q R k => ⟨d, e, Is.mono0 H.sub i1, Is.mono0 H.sub i2, q.1, q.2.1, k _ _ H (Le.refl H) (is_bl.mpr rfl) q.2.2⟩⟩
  obtain ⟨d, e, i1, i2, h1, h2, q⟩ := h
  have hu := hr.units
  exact (rc_at (n := 39) I (A := X.A) (by omega) h1 h2 i1 i2 rx ry).1 _ _ _ _ ⟨.bl _, H, I, rfl, q⟩
theorem o_ne {k : Nat} (hr : Room k X.A) : DOp X (compareOp .NotEq) gNe := by
  refine ⟨fun x y H Q => ∃ d e, Is X.K H d x ∧ Is X.K H e y ∧ okE 40 d = true ∧ okE 40 e = true ∧ Q (.bl (!eqD d e)) H, fun pins s σ H x y v u Q I rx ry h => ?_, fun H x y d e Q i1 i2 q R k => ⟨d, e, Is.mono0 H.sub i1, Is.mono0 H.sub i2, q.1, q.2.1, k _ _ H (Le.refl H) (is_bl.mpr rfl) q.2.2⟩⟩
  obtain ⟨d, e, i1, i2, h1, h2, q⟩ := h
  have hu := hr.units
  exact (rc_at (n := 39) I (A := X.A) (by omega) h1 h2 i1 i2 rx ry).2 _ _ _ _ ⟨.bl _, H, I, rfl, q⟩
end
end OD

namespace OD
open PySem PySem.Spec PyProof.Rows L2
section
variable {X : Cx} {pins : List (Addr × Obj)} {σ : St} {H : Hp} {s : Shared} {scope : Scope} {x : Str} {fp : List Addr}
end
end OD

namespace OD
open PySem PySem.Spec PyProof.Rows L2
section
variable {X : Cx} {pins : List (Addr × Obj)} {σ : St} {H : Hp} {s : Shared} {h' : Heap}
theorem fp_ch {ch : List Addr} (hn : ∀ b ∈ ch, FpOk X pins H b) : ∀ b ∈ ch, (b ∈ X.ex ∨ X.s₀.heap.objs.size ≤ b) ∧ b ≠ X.env.locals ∧ (∀ x c, X.env.cells.lookup x = some c → c ≠ b) ∧ ∀ p ∈ X.pn ++ pins, p.1 ≠ b := fun b hb => by
  obtain ⟨_, h2, _, h4, h5, h6⟩ := hn b hb
  exact ⟨h4, h2, h5, h6⟩
theorem inv_turned {ch : List Addr} {t' : Nat} (I : Inv X pins σ H s) (hn : ∀ b ∈ ch, FpOk X pins H b) (k : ∀ b o, b ∉ ch → s.heap.get? b = some o → h'.get? b = some o) : Inv X pins σ H { s with heap := h', toks := t' } := by
  have nit : ∀ b u, H b = some u → b ∉ ch := fun b u e z => by rw [(hn b z).1] at e; cases e
  refine I.step (g' := s.gens) (d' := s.drawn) (ch := ch) (fp_ch hn) (fun b o _ _ hc e _ => k b o hc e) (fun b o _ _ hc e _ => ⟨o.slots, k b o hc e⟩) (fun _ _ _ _ n => n)
    (fun b o hc e => ⟨o, k b o hc e⟩) (fun _ _ e => e) (fun _ _ _ e => e) (fun b ps e => ⟨#[], by rw [e]; simp⟩) (fun m hm => ?_) (fun b u e => ?_) I.bare
  · obtain ⟨o, es, ep, ho, r⟩ := hm
    exact ⟨o, es, ep, k _ o (fun z => (hn _ z).2.1 rfl) ho, r⟩
  · refine (I.hok b u e).stay (fun c v hc q => k c v ?_ q) (fun _ q => q) fun _ _ q => q
    rcases hc with z | z
    · rw [z]; exact nit b u e
    · exact nit c _ z
theorem inv_turnedT {ch : List Addr} {t' : Nat} {T : Addr} {xs : List V} (I : Inv X pins σ H s) (hn : ∀ b ∈ ch, FpOk X pins H b) (k : ∀ b o, b ∉ ch → s.heap.get? b = some o → h'.get? b = some o) (hT : s.heap.objs.size ≤ T)
    (new : ObjOk X.prog X.w (upd H T (.tup xs)) h' T (.tup xs)) : Inv X pins σ (upd H T (.tup xs)) { s with heap := h', toks := t' } := by
  have nit : ∀ b u, H b = some u → b ∉ ch := fun b u e z => by rw [(hn b z).1] at e; cases e
  have fT : H T = none := I.hok.fresh hT
  have old : ∀ b o, s.heap.get? b = some o → b ≠ T := fun b o e => Nat.ne_of_lt (Nat.lt_of_lt_of_le (Heap.lt_size e) hT)
  have up : ∀ b u, H b = some u → upd H T (.tup xs) b = some u := fun b u e => (upd_ne (ne_of_none e fT)).trans e
  refine I.step (g' := s.gens) (d' := s.drawn) (ch := ch) (fp_ch hn) (fun b o _ _ hc e _ => k b o hc e) (fun b o _ _ hc e _ => ⟨o.slots, k b o hc e⟩) (fun b o _ e n => (upd_ne (old b o e)).trans n)
    (fun b o hc e => ⟨o, k b o hc e⟩) (fun b xs e => up b _ e) (fun b o u e => up b _ e) (fun b ps e => ⟨#[], by rw [up b _ e]; simp⟩) (fun m hm => ?_) (fun b u e => ?_) I.bare
  · obtain ⟨o, es, ep, ho, r⟩ := hm
    exact ⟨o, es, ep, k _ o (fun z => (hn _ z).2.1 rfl) ho, r⟩
  · by_cases hb : b = T
    · subst hb
      rw [upd_same] at e
      cases e
      exact new
    · rw [upd_ne hb] at e
      refine (I.hok b u e).stay (fun c v hc q => k c v ?_ q) (fun c q => up c _ q) fun c ys q => up c _ q
      rcases hc with z | z
      · rw [z]; exact nit b u e
      · exact nit c _ z
end
def Itz (K : PySem.W.Frag) (l1 l2 : Addr) : It :=
  ⟨fun i H => ∃ xs ys x y, SqL K H l1 xs ∧ SqL K H l2 ys ∧ xs[i]? = some x ∧ ys[i]? = some y,
   fun i H v H' => ∃ T x y, v = .ref T ∧ H T = none ∧ H' = upd H T (.tup [x, y]) ∧ (∀ xs, SqL K H l1 xs → xs[i]? = some x) ∧ ∀ ys, SqL K H l2 ys → ys[i]? = some y,
   fun i H => ∃ xs ys, SqL K H l1 xs ∧ SqL K H l2 ys ∧ (xs.length ≤ i ∨ ys.length ≤ i)⟩
def tnZip (l1 l2 z TI TO i1 i2 : Addr) (i : Nat) (h : Heap) : Prop := IsZip h z TI TO .none ∧ IsPair h TI (.ref i1) (.ref i2) ∧ (∃ a b, IsPair h TO a b) ∧ h.IsListIter i1 l1 i ∧ h.IsListIter i2 l2 i
theorem turn_zip {P : Program} {w : World} {K : PySem.W.Frag} {elts : List Expr} {x1} {tpos : Pos} (l1 l2 z TI TO i1 i2 : Addr) (D : ZipApart z TI TO i1 i2 l1 l2) :
    Turn P w K (.Tuple elts x1 tpos) (Itz K l1 l2) [z, TI, TO, i1, i2] z (tnZip l1 l2 z TI TO i1 i2) where
  mem := by simp
  obj := fun i h ⟨h1, h2, ⟨a, b, h3⟩, ⟨o4, e4, c4, d4⟩, ⟨o5, e5, c5, d5⟩⟩ b hb => by
    simp only [List.mem_cons, List.not_mem_nil, or_false] at hb
    rcases hb with rfl | rfl | rfl | rfl | rfl
    · exact ⟨_, h1, fun v z => by cases z⟩
    · exact ⟨_, h2, fun v z => by cases z⟩
    · exact ⟨_, h3, fun v z => by cases z⟩
    · exact ⟨_, e4, fun v z => by rw [d4] at z; cases z⟩
    · exact ⟨_, e5, fun v z => by rw [d5] at z; cases z⟩
  keep := fun i h h' ⟨h1, h2, ⟨a, b, h3⟩, ⟨o4, e4, c4⟩, ⟨o5, e5, c5⟩⟩ k =>
    ⟨k z (by simp) _ h1, k TI (by simp) _ h2, ⟨a, b, k TO (by simp) _ h3⟩, ⟨o4, k i1 (by simp) _ e4, c4⟩, ⟨o5, k i2 (by simp) _ e5, c5⟩⟩
  item := fun X hP hw hK hc i pins s σ H E I hfp ⟨h1, h2, ⟨a, b, h3⟩, h4, h5⟩ ⟨xs, ys, x, y, q1, q2, e1, e2⟩ => by
    subst hP hw hK
    obtain ⟨its1, r1, p1, z1⟩ := I.list q1
    obtain ⟨its2, r2, p2, z2⟩ := I.list q2
    obtain ⟨u, eu, ru⟩ := r1.get e1
    obtain ⟨v, ev, rv⟩ := r2.get e2
    refine wpAny_pyNext_zip_item D h1 h2 h3 h4 h5 p1.isList p2.isList (x := u) (y := v) (by simpa using eu) (by simpa using ev) fun h' a1 a2 a3 a4 a5 a6 a7 => ?_
    refine ⟨_, rfl, wpAny_letOwnedTupleGo_zip a1 fun h'' b1 b2 => ?_⟩
    have ne : ∀ b ∈ [z, TI, TO, i1, i2], b ≠ s.heap.objs.size := fun b hb => by
      simp only [List.mem_cons, List.not_mem_nil, or_false] at hb
      obtain ⟨o4, e4, _⟩ := id h4
      obtain ⟨o5, e5, _⟩ := id h5
      rcases hb with rfl | rfl | rfl | rfl | rfl
      · exact Nat.ne_of_lt (Heap.lt_size h1)
      · exact Nat.ne_of_lt (Heap.lt_size h2)
      · exact Nat.ne_of_lt (Heap.lt_size h3)
      · exact Nat.ne_of_lt (Heap.lt_size e4)
      · exact Nat.ne_of_lt (Heap.lt_size e5)
    have zn : z ≠ s.heap.objs.size := ne z (by simp)
    have aT : IsPair h'' s.heap.objs.size u v := b2.extBut _ _ (Ne.symm zn) a5
    have I' : Inv X pins σ (upd H s.heap.objs.size (.tup [x, y])) { s with heap := h'' } := inv_turnedT (ch := [z, TI, TO, i1, i2]) (t' := s.toks) I hfp (fun b o hb e => by
        simp only [List.mem_cons, List.not_mem_nil, or_false, not_or] at hb
        exact b2.extBut b o hb.1 (a7 b o hb.1 hb.2.2.1 hb.2.2.2.1 hb.2.2.2.2 e)) (Nat.le_refl _) ⟨by show 2 ≤ sizeLine; rw [sizeLine_eq]; decide, [u, v], .cons ru (.cons rv .nil), _, aT, rfl, _, rfl⟩
    refine ⟨.ref s.heap.objs.size, _, I', rfl, ⟨_, x, y, rfl, I.fresh, rfl, fun xs' q => ?_, fun ys' q => ?_⟩, ⟨b1, b2.extBut _ _ D.TIz (a7 TI _ D.TIz D.TITO D.TIi1 D.TIi2 h2), ⟨u, v, b2.extBut _ _ D.TOz a2⟩, a3.extBut b2.extBut D.i1z, a4.extBut b2.extBut D.i2z⟩, fun b hb => ?_⟩
    · rw [I.list_inj q q1]; exact e1
    · rw [I.list_inj q q2]; exact e2
    · exact (upd_ne (ne b hb)).trans (hfp b hb).1
  done := fun X hP hw hK hc i pins s σ H E I hfp ⟨h1, h2, ⟨a, b, h3⟩, h4, h5⟩ ⟨xs, ys, q1, q2, e⟩ => by
    subst hP hw hK
    obtain ⟨its1, r1, p1, z1⟩ := I.list q1
    obtain ⟨its2, r2, p2, z2⟩ := I.list q2
    refine wpAny_pyNext_zip_end (I.ok.hd hc) D h1 h2 h3 h4 h5 p1.isList p2.isList (e.imp (fun e => ?_) fun e => ?_) fun h' hk => ⟨rfl, ?_⟩
    · have := r1.length
      simp; omega
    · have := r2.length
      simp; omega
    · exact inv_turned (ch := [z, TI, TO, i1, i2]) (t' := s.toks) I hfp fun b o hb e => by
        simp only [List.mem_cons, List.not_mem_nil, or_false, not_or] at hb
        exact hk b o hb.1 hb.2.2.1 hb.2.2.2.1 hb.2.2.2.2 e
  self := fun A i s Q E ⟨h1, _⟩ q => wpAny_pyIter_zip h1 q
def iZip (K : PySem.W.Frag) (ta : TA) : TI := fun σ H R => ta σ H fun vs H1 => ∃ l1 l2 xs ys, vs = [.ref l1, .ref l2] ∧ SqL K H1 l1 xs ∧ SqL K H1 l2 ys ∧ R (Itz K l1 l2) H1
theorem zip_apart {n l1 l2 : Nat} (h1 : l1 < n) (h2 : l2 < n) : ZipApart (n + 4) (n + 2) (n + 3) n (n + 1) l1 l2 := by
  constructor <;> (show (_ : Nat) ≠ _; omega)
theorem boot_zip : bootBuiltins "zip" = some (.type "zip") := by decide +kernel
section
variable {X : Cx}
theorem pi_zip {a b : Expr} {ta : TA} {p pos : Pos} {elts : List Expr} {x1} {tpos : Pos} (hg : Gl X "zip") (hm : X.mg "zip" = none) (ha : PA X [a, b] ta) (hs : starEach [a, b] X.env = (false, eval a X.env) :: starEach [b] X.env := by rfl)
    (hpl : (backTo pos (starEach [b] X.env)).any (·.1) = false := by rfl) : PI X (.Tuple elts x1 tpos) (.Call (.Name "zip" p) [a, b] [] pos) (iZip X.K ta) := by
  intro pins s σ H R I h
  refine Call_ (ld_blt I hg hm boot_zip (PyProof.Rows.callWith_type1 (thn (ha pos pins s σ H _ I h) fun us s1 ⟨vs, H1, I1, r1, q1⟩ => ?_) hs hpl))
  obtain ⟨l1, l2, xs, ys, e, q1, q2, q⟩ := q1
  subst e
  obtain ⟨u, v, rfl, ru, rv⟩ := r1.two
  cases ru
  cases rv
  obtain ⟨its1, r1, p1, z1⟩ := I1.list q1
  obtain ⟨its2, r2, p2, z2⟩ := I1.list q2
  have lt1 : l1 < s1.heap.objs.size := by obtain ⟨o, e, _⟩ := id p1.isList; exact Heap.lt_size e
  have lt2 : l2 < s1.heap.objs.size := by obtain ⟨o, e, _⟩ := id p2.isList; exact Heap.lt_size e
  refine call_zip_2 p1.isList p2.isList fun h' b1 b2 b3 b4 b5 b6 b7 => ?_
  have I2 : Inv X pins σ H1 { s1 with heap := h' } := I1.kept (t' := s1.toks) b7
  refine wpAny_pyIter_zip b1 ⟨s1.heap.objs.size + 4, [s1.heap.objs.size + 4, s1.heap.objs.size + 2, s1.heap.objs.size + 3, s1.heap.objs.size, s1.heap.objs.size + 1], _, _, H1, rfl, I2,
    turn_zip l1 l2 (s1.heap.objs.size + 4) (s1.heap.objs.size + 2) (s1.heap.objs.size + 3) s1.heap.objs.size (s1.heap.objs.size + 1) (zip_apart lt1 lt2),
    ⟨b1, b2, ⟨_, _, b3⟩, b4, b5⟩, fun b hb => ?_, q⟩
  have hb' : s1.heap.objs.size ≤ b := by
    simp only [List.mem_cons, List.not_mem_nil, or_false] at hb
    rcases hb with rfl | rfl | rfl | rfl | rfl
    · exact Nat.le_add_right _ _
    · exact Nat.le_add_right _ _
    · exact Nat.le_add_right _ _
    · exact Nat.le_refl _
    · exact Nat.le_add_right _ _
  have f := I1.fpOk hb' (I1.hok.fresh hb')
  exact f
theorem for_zip {K : PySem.W.Frag} {l1 l2 : Addr} {xs ys : List V} {g : TG} {tb : TS} {D : Ends} {σ : St} {H : Hp} (Pv : Nat → St → Hp → Prop) (h0 : Pv 0 σ H) (hl : ∀ i σ H, Pv i σ H → SqL K H l1 xs ∧ SqL K H l2 ys)
    (hs : ∀ i x y T σ H, xs[i]? = some x → ys[i]? = some y → H T = none → Pv i σ H → g (.ref T) σ (upd H T (.tup [x, y])) fun σ2 H2 => tb { D with nx := Pv (i + 1), ct := Pv (i + 1), bk := D.nx } σ2 H2) (hd : ∀ σ H, Pv (min xs.length ys.length) σ H → D.nx σ H) :
    ∃ W : Nat → Nat → St → Hp → Prop, (∃ m, W 0 m σ H) ∧ ∀ i m σ H, W i m σ H →
      ((Itz K l1 l2).stop i H ∧ D.nx σ H) ∨ ((Itz K l1 l2).go i H ∧ ∃ N : St → Hp → Prop, (∀ σ' H', N σ' H' → ∃ m', m' < m ∧ W (i + 1) m' σ' H') ∧ ∀ x H', (Itz K l1 l2).yld i H x H' → g x σ H' fun σ2 H2 => tb { D with nx := N, ct := N, bk := D.nx } σ2 H2) := by
  refine ⟨fun i m σ H => m = min xs.length ys.length - i ∧ i ≤ min xs.length ys.length ∧ Pv i σ H, ⟨_, rfl, Nat.zero_le _, h0⟩, ?_⟩
  rintro i m σ H ⟨rfl, hi, p⟩
  obtain ⟨q1, q2⟩ := hl i σ H p
  by_cases hlt : i < min xs.length ys.length
  · have g1 : xs[i]? = some xs[i] := List.getElem?_eq_getElem (by omega)
    have g2 : ys[i]? = some ys[i] := List.getElem?_eq_getElem (by omega)
    refine .inr ⟨⟨xs, ys, xs[i], ys[i], q1, q2, g1, g2⟩, Pv (i + 1), fun σ' H' p' => ⟨min xs.length ys.length - (i + 1), by omega, rfl, hlt, p'⟩, fun v H' y => ?_⟩
    obtain ⟨T, x, y, rfl, hT, rfl, e1, e2⟩ := y
    exact hs i x y T σ H (e1 xs q1) (e2 ys q2) hT p
  · have e : i = min xs.length ys.length := by omega
    subst e
    exact .inl ⟨⟨xs, ys, q1, q2, by omega⟩, hd σ H p⟩
end

section
variable {X : Cx} {fr : Bool} {ta : DTA} {tb : DTS} {pos : Pos}
theorem list_g {K : PySem.W.Frag} {W1 : Vw} {d : Dt} {v : V} {ds : List Dt} (i1 : Is K W1.g d v) (el : listOf d = some ds) : ∃ a xs, v = .ref a ∧ (∀ W2 : Vw, Same W1.g W2.g → SqL K W2.h a xs) ∧ AllIs K W1.g ds xs := by
  cases d with
  | lst es =>
    obtain rfl : es = ds := Option.some.inj el
    obtain ⟨a, xs, rfl, h1, h2⟩ := is_lst.mp i1
    exact ⟨a, xs, rfl, fun W2 s2 => .of (W2.sub _ _ (s2 _ _ h1)), h2⟩
  | scr ns =>
    obtain rfl : ns.map Dt.int = ds := Option.some.inj el
    obtain ⟨a, rfl, h1⟩ := is_scr.mp i1
    exact ⟨a, _, rfl, fun W2 s2 => W2.sub.seq (s2.seq h1), AllIs.ints⟩
  | _ => cases el
def dForZ (i j : Nat) (ta : DTA) (tb : DTS) : DTS := fun D ρ => ta ρ fun ds => ∃ (d e : Dt) (xs ys : List Dt) (Pv : Nat → DS → Prop), ds = [d, e] ∧ listOf d = some xs ∧ listOf e = some ys ∧ Pv 0 ρ ∧
  (∀ n x y ρ', xs[n]? = some x → ys[n]? = some y → Pv n ρ' → tb { D with nx := Pv (n + 1), ct := Pv (n + 1), bk := D.nx } ((ρ'.set i (.some x)).set j (.some y))) ∧ ∀ ρ', Pv (min xs.length ys.length) ρ' → D.nx ρ'
theorem ds_for_zip {i j : Nat} {x y : Str} {a b : Expr} {body : List Stmt} {px py pt p0 pos1 : Pos} {kt : Nat} (hc : X.calm = true) (hN : X.N.Nodup) (hi : X.N[i]? = some x) (hj : X.N[j]? = some y) (hx : Loc X.env.scope x) (hy : Loc X.env.scope y) (hp : PassesOwn (model X.prog X.w) X.A X.env X.xe)
    (hg : Gl X "zip") (hm : X.mg "zip" = none) (ha : DA X [a, b] ta) (hb : DSs X fr body tb) (hs : ∀ z, foldedSetIterable (.Call (.Name "zip" p0) [a, b] [] pos1) X.env z = pure z := by intro _; rfl)
    (hst : starEach [a, b] X.env = (false, eval a X.env) :: starEach [b] X.env := by rfl) (hpl : (backTo pos1 (starEach [b] X.env)).any (·.1) = false := by rfl)
    (hf : X.fn x = true ∨ X.env.scope.names.lookup x = some .local := by first | exact .inl rfl | exact .inr rfl | assumption) (hf2 : X.fn y = true ∨ X.env.scope.names.lookup y = some .local := by first | exact .inl rfl | exact .inr rfl | assumption) :
    DSt X fr (.For (.Tuple [.Name x px, .Name y py] kt pt) (.Call (.Name "zip" p0) [a, b] [] pos1) body [] pos) (dForZ i j ta tb) := by
  obtain ⟨tt, p, l⟩ := ha
  obtain ⟨tbs, p2, l2⟩ := hb
  refine ⟨_, ps_for hp hc (pi_zip hg hm p hst hpl) (pg_tup hc (pgs_cons (pg_name hN hi hx hf) (pgs_cons (pg_name hN hj hy hf2) pgs_nil))) p2 hs, fun W0 G ρ σ W D D' at_ s h => l ρ σ W _ at_.rl h _ fun ds vs W1 s1 i1 ⟨d, e, xs, ys, Pv, ed, el1, el2, h0, ht, hd⟩ => ?_⟩
  subst ed
  obtain ⟨v1, v2, rfl, j1, j2⟩ := i1.two
  have hg1 : Same G W1.g := at_.gs.trans s1.g
  obtain ⟨l1, us, rfl, hq1, ha1⟩ := list_g j1 el1
  obtain ⟨l2', ws, rfl, hq2, ha2⟩ := list_g j2 el2
  refine ⟨l1, l2', us, ws, rfl, hq1 W1 (Same.refl _), hq2 W1 (Same.refl _), for_zip (K := X.K) (xs := us) (ys := ws) (fun n => InL X.K W0 W1 (Pv n)) ⟨ρ, W1, rfl, (at_.step s1).now, h0⟩ (fun n σ' H' ⟨_, W2, e2, a2, _⟩ => e2 ▸ ⟨hq1 W2 a2.gs, hq2 W2 a2.gs⟩) ?_ ?_⟩
  · rintro n u w T σ' _ hu hw hT ⟨ρ', W2, rfl, a2, hp2⟩
    obtain ⟨x', ex, ix⟩ := ha1.get' hu
    obtain ⟨y', ey, iy⟩ := ha2.get' hw
    have s3 := le_new hT (.tup [u, w])
    have a3 := a2.step s3
    refine ⟨T, _, rfl, .of upd_same, rfl, u, [w], rfl, w, [], rfl, rfl, ?_⟩
    exact l2 W0 W1.g _ _ (W2.new T (.tup [u, w])) { D with nx := Pv (n + 1), ct := Pv (n + 1), bk := D.nx } _ ((a3.set i (Is.mono0 a3.gs ix)).set j (Is.mono0 a3.gs iy)) (sim_loop s hg1) (ht n x' y' ρ' ex ey hp2)
  · rintro σ' _ ⟨ρ', W2, rfl, a2, hp2⟩
    exact s.nx ρ' σ' W2 (a2.weak hg1) (hd ρ' (by rw [ha1.length, ha2.length]; exact hp2))
def liftE (K : PySem.W.Frag) (t : DTE) : TE := fun σ H R => ∃ (F : Addr → Prop) (ρ : DS) (W : Vw) (Q : Dt → Prop), W.h = H ∧ Rl K F W ρ σ ∧ t ρ Q ∧ ∀ d v W', Le W W' → Is K W'.g d v → Q d → R v W'.h
theorem DE.up {e : Expr} {t : DTE} (h : DE X e t) : PE X e (liftE X.K t) := by
  obtain ⟨te, p, l⟩ := h
  intro pins s σ H R I q
  obtain ⟨F, ρ, W, Q, rfl, r, h, k⟩ := q
  exact p pins s σ W.h R I (l ρ σ W Q r h R k)
theorem li_lift {K : PySem.W.Frag} {t : DTE} : LiE K (liftE K t) t := fun ρ σ H Q r h R k => ⟨_, ρ, H, Q, rfl, r, h, k⟩
theorem LiF.le {K : PySem.W.Frag} {te : TE} {t : DTE} (l : LiF K te t) : LiE K te t := fun ρ σ H Q r h R k => l ρ σ H Q r h R fun es q xs H' s h0 h1 h2 i z => k (.lst es) (.ref q) (H'.frz q _ h1) (le_frz s h0 h1 h2) (is_lst.mpr ⟨q, xs, rfl, upd_same, AllIs.mono0 (same_new h2 _) i⟩) z
variable {scope : Scope} {x : Str} {elt iter : Expr} {px : Pos} {tl te : DTE}
end
end OD

namespace OD
open PySem PySem.Spec PyProof.Rows L2
def Ite (K : PySem.W.Frag) (l : Addr) : It :=
  ⟨fun i H => ∃ xs x, SqL K H l xs ∧ xs[i]? = some x,
   fun i H v H' => ∃ T x, v = .ref T ∧ H T = none ∧ H' = upd H T (.tup [.int i, x]) ∧ ∀ xs, SqL K H l xs → xs[i]? = some x,
   fun i H => ∃ xs, SqL K H l xs ∧ xs.length ≤ i⟩
def tnEnum (l e it : Addr) (i : Nat) (h : Heap) : Prop := (∃ old, IsEnum h e it (i : Int) old) ∧ h.IsListIter it l i
theorem turn_enum {P : Program} {w : World} {K : PySem.W.Frag} {elts : List Expr} {x1} {tpos : Pos} (l e it : Addr) (hne : e ≠ it) : Turn P w K (.Tuple elts x1 tpos) (Ite K l) [e, it] e (tnEnum l e it) where
  mem := by simp
  obj := fun i h ⟨⟨old, h1⟩, ⟨o4, e4, c4, d4⟩⟩ b hb => by
    simp only [List.mem_cons, List.not_mem_nil, or_false] at hb
    rcases hb with rfl | rfl
    · exact ⟨_, h1, fun v z => by cases z⟩
    · exact ⟨_, e4, fun v z => by rw [d4] at z; cases z⟩
  keep := fun i h h' ⟨⟨old, h1⟩, ⟨o4, e4, c4⟩⟩ k => ⟨⟨old, k e (by simp) _ h1⟩, ⟨o4, k it (by simp) _ e4, c4⟩⟩
  item := fun X hP hw hK hc i pins s σ H E I hfp ⟨⟨old, h1⟩, h4⟩ ⟨xs, x, q1, e1⟩ => by
    subst hP hw hK
    obtain ⟨its1, r1, p1, z1⟩ := I.list q1
    obtain ⟨u, eu, ru⟩ := r1.get e1
    refine wpAny_pyNext_enum_item h1 h4 p1.isList (x := u) (by simpa using eu) hne fun h' a1 a2 a3 a4 a5 => ?_
    refine ⟨_, rfl, wpAny_letOwnedTupleGo_enum a1 fun h'' b1 b2 => ?_⟩
    have ne : ∀ b ∈ [e, it], b ≠ s.heap.objs.size := fun b hb => by
      simp only [List.mem_cons, List.not_mem_nil, or_false] at hb
      obtain ⟨o4, e4, _⟩ := id h4
      rcases hb with rfl | rfl
      · exact Nat.ne_of_lt (Heap.lt_size h1)
      · exact Nat.ne_of_lt (Heap.lt_size e4)
    have en : e ≠ s.heap.objs.size := ne e (by simp)
    have aT := b2.extBut _ _ (Ne.symm en) a3
    have I' : Inv X pins σ (upd H s.heap.objs.size (.tup [.int i, x])) { s with heap := h'', toks := s.toks + 1 } := inv_turnedT (ch := [e, it]) (t' := s.toks + 1) I hfp (fun b o hb q => by
        simp only [List.mem_cons, List.not_mem_nil, or_false, not_or] at hb
        exact b2.extBut b o hb.1 (a5 b o hb.1 hb.2 q)) (Nat.le_refl _) ⟨by show 2 ≤ sizeLine; rw [sizeLine_eq]; decide, [.int i s.toks, u], .cons ⟨_, rfl⟩ (.cons ru .nil), _, aT, rfl, _, rfl⟩
    refine ⟨.ref s.heap.objs.size, _, I', rfl, ⟨_, x, rfl, I.fresh, rfl, fun xs' q => ?_⟩, ⟨⟨u, ?_⟩, a2.extBut b2.extBut (Ne.symm hne)⟩, fun b hb => ?_⟩
    · rw [I.list_inj q q1]; exact e1
    · have : ((i + 1 : Nat) : Int) = (i : Int) + 1 := by omega
      show IsEnum h'' e it ((i + 1 : Nat) : Int) u
      rw [this]
      exact b1
    · exact (upd_ne (ne b hb)).trans (hfp b hb).1
  done := fun X hP hw hK hc i pins s σ H E I hfp ⟨⟨old, h1⟩, h4⟩ ⟨xs, q1, e1⟩ => by
    subst hP hw hK
    obtain ⟨its1, r1, p1, z1⟩ := I.list q1
    refine wpAny_pyNext_enum_end (I.ok.hd hc) h1 h4 p1.isList ?_ fun h' hk => ⟨rfl, ?_⟩
    · have := r1.length
      simp; omega
    · exact inv_turned (ch := [e, it]) (t' := s.toks) I hfp fun b o hb q => by
        simp only [List.mem_cons, List.not_mem_nil, or_false, not_or] at hb
        exact hk b o hb.2 q
  self := fun A i s Q E ⟨⟨old, h1⟩, _⟩ q => wpAny_pyIter_enum h1 q
def iEnum (K : PySem.W.Frag) (ta : TA) : TI := fun σ H R => ta σ H fun vs H1 => ∃ l xs, vs = [.ref l] ∧ SqL K H1 l xs ∧ R (Ite K l) H1
section
variable {X : Cx}
theorem boot_enum : bootBuiltins "enumerate" = some (.type "enumerate") := by decide +kernel
theorem pi_enum {a : Expr} {ta : TA} {p pos : Pos} {elts : List Expr} {x1} {tpos : Pos} (hg : Gl X "enumerate") (hm : X.mg "enumerate" = none) (ha : PA X [a] ta) (hs : starEach [a] X.env = (false, eval a X.env) :: starEach [] X.env := by rfl)
    (hpl : (backTo pos (starEach [] X.env)).any (·.1) = false := by rfl) : PI X (.Tuple elts x1 tpos) (.Call (.Name "enumerate" p) [a] [] pos) (iEnum X.K ta) := by
  intro pins s σ H R I h
  refine Call_ (ld_blt I hg hm boot_enum (PyProof.Rows.callWith_type1 (thn (ha pos pins s σ H _ I h) fun us s1 ⟨vs, H1, I1, r1, q1⟩ => ?_) hs hpl))
  obtain ⟨l, xs, e, q1, q⟩ := q1
  subst e
  obtain ⟨u, rfl, ru⟩ := r1.one
  cases ru
  obtain ⟨its1, r1, p1, z1⟩ := I1.list q1
  refine call_enumerate_list p1.isList fun h' b1 b2 b3 b4 => ?_
  have I2 : Inv X pins σ H1 { s1 with heap := h' } := I1.kept (t' := s1.toks) b4
  refine wpAny_pyIter_enum b1 ⟨s1.heap.objs.size + 1, [s1.heap.objs.size + 1, s1.heap.objs.size], _, _, H1, rfl, I2, turn_enum l (s1.heap.objs.size + 1) s1.heap.objs.size (Nat.succ_ne_self _), ⟨⟨_, b1⟩, b2⟩, fun b hb => ?_, q⟩
  have hb' : s1.heap.objs.size ≤ b := by
    simp only [List.mem_cons, List.not_mem_nil, or_false] at hb
    rcases hb with rfl | rfl
    · exact Nat.le_add_right _ _
    · exact Nat.le_refl _
  have f := I1.fpOk hb' (I1.hok.fresh hb')
  exact f
theorem for_enum {K : PySem.W.Frag} {l : Addr} {xs : List V} {g : TG} {tb : TS} {D : Ends} {σ : St} {H : Hp} (Pv : Nat → St → Hp → Prop) (h0 : Pv 0 σ H) (hl : ∀ i σ H, Pv i σ H → SqL K H l xs)
    (hs : ∀ (i : Nat) x T σ H, xs[i]? = some x → H T = none → Pv i σ H → g (.ref T) σ (upd H T (.tup [.int i, x])) fun σ2 H2 => tb { D with nx := Pv (i + 1), ct := Pv (i + 1), bk := D.nx } σ2 H2) (hd : ∀ σ H, Pv xs.length σ H → D.nx σ H) :
    ∃ W : Nat → Nat → St → Hp → Prop, (∃ m, W 0 m σ H) ∧ ∀ i m σ H, W i m σ H →
      ((Ite K l).stop i H ∧ D.nx σ H) ∨ ((Ite K l).go i H ∧ ∃ N : St → Hp → Prop, (∀ σ' H', N σ' H' → ∃ m', m' < m ∧ W (i + 1) m' σ' H') ∧ ∀ x H', (Ite K l).yld i H x H' → g x σ H' fun σ2 H2 => tb { D with nx := N, ct := N, bk := D.nx } σ2 H2) := by
  refine ⟨fun i m σ H => m = xs.length - i ∧ i ≤ xs.length ∧ Pv i σ H, ⟨_, rfl, Nat.zero_le _, h0⟩, ?_⟩
  rintro i m σ H ⟨rfl, hi, p⟩
  have q1 := hl i σ H p
  by_cases hlt : i < xs.length
  · have g1 : xs[i]? = some xs[i] := List.getElem?_eq_getElem hlt
    refine .inr ⟨⟨xs, xs[i], q1, g1⟩, Pv (i + 1), fun σ' H' p' => ⟨xs.length - (i + 1), by omega, rfl, hlt, p'⟩, fun v H' y => ?_⟩
    obtain ⟨T, x, rfl, hT, rfl, e1⟩ := y
    exact hs i x T σ H (e1 xs q1) hT p
  · have e : i = xs.length := by omega
    subst e
    exact .inl ⟨⟨xs, q1, Nat.le_refl _⟩, hd σ H p⟩
end
section
variable {X : Cx} {fr : Bool} {ta : DTA} {tb : DTS} {pos p0 p1 p2 : Pos}
def dForE (i j : Nat) (ta : DTA) (tb : DTS) : DTS := fun D ρ => ta ρ fun ds => ∃ (d : Dt) (xs : List Dt) (Pv : Nat → DS → Prop), ds = [d] ∧ listOf d = some xs ∧ Pv 0 ρ ∧
  (∀ (n : Nat) x ρ', xs[n]? = some x → Pv n ρ' → tb { D with nx := Pv (n + 1), ct := Pv (n + 1), bk := D.nx } ((ρ'.set i (.some (.int n))).set j (.some x))) ∧ ∀ ρ', Pv xs.length ρ' → D.nx ρ'
theorem ds_for_enumerate {i j : Nat} {x y : Str} {a : Expr} {body : List Stmt} {px py pt p0 pos1 : Pos} {kt : Nat} (hc : X.calm = true) (hN : X.N.Nodup) (hi : X.N[i]? = some x) (hj : X.N[j]? = some y) (hx : Loc X.env.scope x) (hy : Loc X.env.scope y) (hp : PassesOwn (model X.prog X.w) X.A X.env X.xe)
    (hg : Gl X "enumerate") (hm : X.mg "enumerate" = none) (ha : DA X [a] ta) (hb : DSs X fr body tb) (hs : ∀ z, foldedSetIterable (.Call (.Name "enumerate" p0) [a] [] pos1) X.env z = pure z := by intro _; rfl)
    (hst : starEach [a] X.env = (false, eval a X.env) :: starEach [] X.env := by rfl) (hpl : (backTo pos1 (starEach [] X.env)).any (·.1) = false := by rfl)
    (hf : X.fn x = true ∨ X.env.scope.names.lookup x = some .local := by first | exact .inl rfl | exact .inr rfl | assumption) (hf2 : X.fn y = true ∨ X.env.scope.names.lookup y = some .local := by first | exact .inl rfl | exact .inr rfl | assumption) :
    DSt X fr (.For (.Tuple [.Name x px, .Name y py] kt pt) (.Call (.Name "enumerate" p0) [a] [] pos1) body [] pos) (dForE i j ta tb) := by
  obtain ⟨tt, p, l⟩ := ha
  obtain ⟨tbs, p2, l2⟩ := hb
  refine ⟨_, ps_for hp hc (pi_enum hg hm p hst hpl) (pg_tup hc (pgs_cons (pg_name hN hi hx hf) (pgs_cons (pg_name hN hj hy hf2) pgs_nil))) p2 hs, fun W0 G ρ σ W D D' at_ s h => l ρ σ W _ at_.rl h _ fun ds vs W1 s1 i1 ⟨d, xs, Pv, ed, el1, h0, ht, hd⟩ => ?_⟩
  subst ed
  obtain ⟨v1, rfl, j1⟩ := i1.one
  have hg1 : Same G W1.g := at_.gs.trans s1.g
  obtain ⟨l1, us, rfl, hq1, ha1⟩ := list_g j1 el1
  refine ⟨l1, us, rfl, hq1 W1 (Same.refl _), for_enum (K := X.K) (xs := us) (fun n => InL X.K W0 W1 (Pv n)) ⟨ρ, W1, rfl, (at_.step s1).now, h0⟩ (fun n σ' H' ⟨_, W2, e2, a2, _⟩ => e2 ▸ hq1 W2 a2.gs) ?_ ?_⟩
  · rintro n u T σ' _ hu hT ⟨ρ', W2, rfl, a2, hp2⟩
    obtain ⟨x', ex, ix⟩ := ha1.get' hu
    have s3 := le_new hT (.tup [.int n, u])
    have a3 := a2.step s3
    refine ⟨T, _, rfl, .of upd_same, rfl, .int n, [u], rfl, u, [], rfl, rfl, ?_⟩
    exact l2 W0 W1.g _ _ (W2.new T (.tup [.int n, u])) { D with nx := Pv (n + 1), ct := Pv (n + 1), bk := D.nx } _ ((a3.set i (is_int.mpr rfl)).set j (Is.mono0 a3.gs ix)) (sim_loop s hg1) (ht n x' ρ' ex hp2)
  · rintro σ' _ ⟨ρ', W2, rfl, a2, hp2⟩
    exact s.nx ρ' σ' W2 (a2.weak hg1) (hd ρ' (by rw [ha1.length]; exact hp2))
theorem ds_forR2 {j : Nat} {x : Str} {a b : Expr} {body : List Stmt} {px p0 pos1 : Pos} (hc : X.calm = true) (hN : X.N.Nodup) (hi : X.N[j]? = some x) (hx : Loc X.env.scope x) (hp : PassesOwn (model X.prog X.w) X.A X.env X.xe)
    (hg : Gl X "range") (hm : X.mg "range" = none) (h : DA X [a, b] ta) (hb : DSs X fr body tb) (hs : ∀ x, foldedSetIterable (.Call (.Name "range" p0) [a, b] [] pos1) X.env x = pure x := by intro _; rfl)
    (hst : starEach [a, b] X.env = [(false, eval a X.env), (false, eval b X.env)] := by rfl) (hst2 : starEach [b] X.env = [(false, eval b X.env)] := by rfl)
    (hf : X.fn x = true ∨ X.env.scope.names.lookup x = some .local := by first | exact .inl rfl | exact .inr rfl | assumption) : DSt X fr (.For (.Name x px) (.Call (.Name "range" p0) [a, b] [] pos1) body [] pos) (dForR2 j ta tb) := by
  obtain ⟨tt, p, l⟩ := h
  obtain ⟨tbs, p2, l2⟩ := hb
  refine ⟨_, ps_for hp hc (pi_range2 hg hm p hst hst2) (pg_name hN hi hx hf) p2 hs, fun W0 G ρ σ W D D' at_ s h => l ρ σ W _ at_.rl h _ fun ds vs W1 s1 i1 ⟨m, n, Pv, ed, m1, m2, n1, n2, h0, ht, hd⟩ => ?_⟩
  subst ed
  obtain ⟨v1, v2, rfl, j1, j2⟩ := i1.two
  have hg1 : Same G W1.g := at_.gs.trans s1.g
  refine ⟨m, n, by rw [is_int.mp j1, is_int.mp j2], ⟨m1, m2, n1, n2⟩, for_range (lo := m) (n := (n - m).toNat) (fun i => InL X.K W0 W1 (Pv i)) ⟨ρ, W1, rfl, (at_.step s1).now, h0⟩ ?_ ?_⟩
  · rintro i σ' _ hi ⟨ρ', W2, rfl, a2, hp2⟩
    exact l2 W0 W1.g _ _ W2 { D with nx := Pv (i + 1), ct := Pv (i + 1), bk := D.nx } _ (a2.set j (is_int.mpr rfl)) (sim_loop s hg1) (ht i ρ' hi hp2)
  · rintro σ' _ ⟨ρ', W2, rfl, a2, hp2⟩
    exact s.nx ρ' σ' W2 (a2.weak hg1) (hd ρ' hp2)
def dMin (ta : DTA) : DTE := fun ρ Q => ta ρ fun ds => ∃ i j, ds = [.int i, .int j] ∧ Q (.int (if j < i then j else i))
theorem de_min {a b : Expr} (hc : X.calm = true) (hg : Gl X "min") (hm : X.mg "min" = none) (ha : DA X [a, b] ta) (hs : starEach [a, b] X.env = (false, eval a X.env) :: starEach [b] X.env := by rfl) (hpl : (backTo pos (starEach [b] X.env)).any (·.1) = false := by rfl) :
    DE X (.Call (.Name "min" p0) [a, b] [] pos) (dMin ta) := by
  obtain ⟨te, p1, l1⟩ := ha
  refine ⟨_, pe_callB (call_min2 hc) hg hm (by decide +kernel) p1 (by decide) (by decide) hs hpl, fun ρ σ H Q r h R k => l1 ρ σ H _ r h _ fun ds vs H1 s1 i1 ⟨i, j, ed, q⟩ => ?_⟩
  subst ed
  obtain ⟨v1, v2, rfl, j1, j2⟩ := i1.two
  exact ⟨i, j, by rw [is_int.mp j1, is_int.mp j2], k _ _ H1 s1 (is_int.mpr rfl) q⟩
structure IsiOk (K : PySem.W.Frag) (C : Addr) : Prop where
  cl : Cls K C
  ha : PySem.W.findIn K (.ref C) "__class__" = some (some (.builtin "object.__class__"))
  hn : PySem.W.specialIn K (.builtin "object.__class__") "__get__" = some (some (.builtin "getset_descriptor.__get__"))
  htk : PySem.W.takesIn K (.builtin "object.__class__") = some true
  hm : PySem.W.mroIn K C (.type "object") = some true
theorem call_isiO : CallR X (.builtin "isinstance") (fun xs H Q => ∃ v D tv b, xs = [v, .ref D] ∧ TyOf X.K H v tv ∧ PySem.W.kitOne X.K tv (.ref D) = some b ∧ Q (.bl b) H) := by
  intro pins s σ H xs us Q I r h
  obtain ⟨v, D, tv, b, rfl, hty, hk, q⟩ := h
  cases r with
  | cons r1 r2 =>
    cases r2 with
    | cons r3 r4 =>
      cases r4
      cases r3
      exact isinst_ok I r1 hty hk fun tk => ⟨.bl b, H, I.tok _, rfl, q⟩
def dIsiO (K : PySem.W.Frag) (D : Addr) (ta : DTE) : DTE := fun ρ Q => ta ρ fun d => ∃ C f n b, d = .way C f n ∧ IsiOk K C ∧ PySem.W.kitOne K (.ref C) (.ref D) = some b ∧ Q (.bl b)
theorem de_isiO {a : Expr} {t : DTE} {y : Str} {p' : Pos} {D : Addr} (hm : X.mg "isinstance" = none) (hmc : X.mg y = some (.ref D)) (ha : DE X a t)
    (hg : Gl X "isinstance" := by rfl) (hgc : Gl X y := by rfl) (hdy : (y == ("__debug__" : Str)) = false := by decide)
    (hs : starEach [a, .Name y p'] X.env = (false, eval a X.env) :: starEach [.Name y p'] X.env := by rfl) (hs2 : starEach [.Name y p'] X.env = (false, eval (.Name y p') X.env) :: starEach [] X.env := by rfl)
    (hpl : (backTo pos (starEach [.Name y p'] X.env)).any (·.1) = false := by rfl) :
    DE X (.Call (.Name "isinstance" p0) [a, .Name y p'] [] pos) (dIsiO X.K D t) := by
  obtain ⟨te, p1, l1⟩ := ha
  have pc : PE X (.Name y p') (tC (.ref D)) := pe_glob hgc hmc rfl hdy
  refine ⟨_, pe_callB call_isiO hg hm boot_isinstance (pa_cons p1 (pa_cons pc pa_nil hs2) hs) (by decide) (by decide) hs hpl, fun ρ σ H Q r h R k => l1 ρ σ H _ r h _ fun d v H1 s1 i1 ⟨C, f, n, b, ed, ok, e, q⟩ => ?_⟩
  subst ed
  obtain ⟨p, dx, rfl, hp⟩ := is_way.mp i1
  exact ⟨_, D, _, b, rfl, .ins (H1.sub _ _ hp) ok.cl ok.ha ok.hn ok.htk ok.hm, e, k _ _ H1 s1 (is_bl.mpr rfl) q⟩
end
end OD

namespace OD
open PySem PySem.Spec PyProof.Rows L2
def Itd (lo : Int) (n : Nat) : It := ⟨fun i _ => i < n, fun i H x H' => H' = H ∧ x = .int (lo - i), fun i _ => n ≤ i⟩
theorem turn_down {P : Program} {w : World} {K : PySem.W.Frag} {tg : Expr} (it : Addr) (lo : Int) (n : Nat) : Turn P w K tg (Itd lo n) [it] it (fun i h => IsRangeIter h it (lo + (i : Nat) * (-1)) ((n : Int) - (i : Nat)) (-1)) where
  mem := by simp
  obj := fun i h st b hb => by
    have e : b = it := by simpa using hb
    subst e
    exact ⟨_, st, fun v z => by
      have z' : Data.fields _ = Data.cell v := z
      cases z'⟩
  keep := fun i h h' st k => k it (by simp) _ st
  item := by
    intro X hP hw hK hc i pins s σ H E I hf st hg
    subst hP hw hK
    obtain ⟨f0, f1, f2, f3, f4, f5⟩ := hf it (by simp)
    have W := Walks.range (prog := X.prog) (w := X.w) (I.ok.hd hc) it lo (-1) n
    refine W.item i s _ _ hg st fun v h' tk hv st' kk => ?_
    obtain ⟨t, rfl⟩ := hv
    have I1 : Inv X pins σ H { s with heap := h', toks := tk } := I.turned (fun b o hb e => kk b o (by simpa using hb) e) f0 f1 f3 f4 f5
    refine ⟨_, rfl, go_of (s := { s with heap := h', toks := tk }) (n := "range_iterator") st' rfl rfl (by decide) ⟨.int (lo - i), H, I1, ⟨t, ?_⟩, ⟨rfl, rfl⟩, st', fun b hb => (hf b hb).1⟩⟩
    rw [show lo + (i : Int) * (-1) = lo - i by omega]
  done := by
    intro X hP hw hK hc i pins s σ H E I hf st hg
    subst hP hw hK
    obtain ⟨f0, f1, f2, f3, f4, f5⟩ := hf it (by simp)
    exact wpAny_pyNext_range_end (I.ok.hd hc) st (by have : n ≤ i := hg; omega) fun h' eb => ⟨rfl, I.turned (t' := s.toks) (fun b o hb e => eb b o hb e) f0 f1 f3 f4 f5⟩
  self := fun _ _ _ _ _ st h => wpAny_pyIter_rangeiter st h
theorem rangeSize_down (a b : Int) : Builtin.Range.rangeSize a b (-1) = if b < a then a - b else 0 := by
  unfold Builtin.Range.rangeSize
  rw [if_neg (by decide)]
  split
  · rename_i h
    have : (a - b - 1) / (- -1) = a - b - 1 := by rw [show (- -1 : Int) = 1 by decide, Int.ediv_one]
    omega
  · rfl
theorem small_down {a b : Int} (ha : -(2 ^ 62) ≤ a) (ha' : a < 2 ^ 62) (hb : -(2 ^ 62) ≤ b) (hb' : b < 2 ^ 62) : Builtin.Range.small a b (-1) = true := by
  unfold Builtin.Range.small
  rw [rangeSize_down]
  simp only [Builtin.Range.rangeFitsLong, Bool.and_eq_true, Bool.or_eq_true, decide_eq_true_eq, beq_iff_eq, show ¬ (-1 : Int) > 0 by decide, if_false]
  split <;> omega
section
variable {X : Cx} {tg : Expr}
def iDown (ta : TA) : TI := fun σ H R => ta σ H fun vs H1 => ∃ i j : Int, vs = [.int i, .int j, .int (-1)] ∧ (-(2 ^ 30) ≤ i ∧ i < 2 ^ 30 ∧ -(2 ^ 30) ≤ j ∧ j < 2 ^ 30) ∧ R (Itd i (i - j).toNat) H1
theorem pi_down {a b c : Expr} {ta : TA} {p pos : Pos} (hg : Gl X "range") (hm : X.mg "range" = none) (ha : PA X [a, b, c] ta) (hs : starEach [a, b, c] X.env = (false, eval a X.env) :: starEach [b, c] X.env := by rfl)
    (hpl : (backTo pos (starEach [b, c] X.env)).any (·.1) = false := by rfl) : PI X tg (.Call (.Name "range" p) [a, b, c] [] pos) (iDown ta) := by
  intro pins s σ H R I h
  refine Call_ (ld_blt I hg hm boot_range (PyProof.Rows.callWith_type1 (thn (ha pos pins s σ H _ I h) fun us s1 ⟨vs, H1, I1, r1, q1⟩ => ?_) hs hpl))
  obtain ⟨i, j, e, ⟨q1, q2, q3, q4⟩, q⟩ := q1
  subst e
  cases r1 with
  | cons r rr =>
  cases rr with
  | cons r' rr =>
  cases rr with
  | cons r'' rr =>
    cases rr
    obtain ⟨t, rfl⟩ := r
    obtain ⟨t', rfl⟩ := r'
    obtain ⟨t'', rfl⟩ := r''
    refine call_range_3 (by decide) ?_ (Or.inl (PyProof.noPylong_small (by omega)))
    refine wpAny_pyIter_range (IsRange.new ..) (small_down (by omega) (by omega) (by omega) (by omega)) ?_
    have I2 : Inv X pins σ H1 { s1 with heap := s1.heap.push { cls := .type "range", data := .fields #[.int i t, .int j t', .int (-1) t''] }, toks := s1.toks } := I1.kept fun b o e => Heap.get?_push_of_some _ e
    refine ⟨(s1.heap.push { cls := .type "range", data := .fields #[.int i t, .int j t', .int (-1) t''] }).objs.size, [(s1.heap.push { cls := .type "range", data := .fields #[.int i t, .int j t', .int (-1) t''] }).objs.size], _, _, H1, rfl,
      I2.kept (t' := s1.toks) fun b o e => Heap.get?_push_of_some _ e, turn_down _ i (i - j).toNat, ?_, fun b hb => ?_, q⟩
    · have e1 : i + ((0 : Nat) : Int) * (-1) = i := by simp
      have e2 : (((i - j).toNat : Nat) : Int) - ((0 : Nat) : Int) = Builtin.Range.rangeSize i j (-1) := by rw [rangeSize_down]; split <;> omega
      show IsRangeIter _ _ (i + ((0 : Nat) : Int) * (-1)) ((((i - j).toNat : Nat) : Int) - ((0 : Nat) : Int)) (-1)
      rw [e1, e2]
      exact Heap.get?_push_size _ rfl
    · have e : b = (s1.heap.push { cls := .type "range", data := .fields #[.int i t, .int j t', .int (-1) t''] }).objs.size := by simpa using hb
      subst e
      exact I2.fpOk (Nat.le_refl _) (I2.hok.fresh (Nat.le_refl _))
theorem for_down {lo : Int} {n : Nat} {g : TG} {tb : TS} {D : Ends} {σ : St} {H : Hp} (Pv : Nat → St → Hp → Prop) (h0 : Pv 0 σ H)
    (hs : ∀ i σ H, i < n → Pv i σ H → g (.int (lo - i)) σ H fun σ2 H2 => tb { D with nx := Pv (i + 1), ct := Pv (i + 1), bk := D.nx } σ2 H2) (hd : ∀ σ H, Pv n σ H → D.nx σ H) :
    ∃ W : Nat → Nat → St → Hp → Prop, (∃ m, W 0 m σ H) ∧ ∀ i m σ H, W i m σ H →
      ((Itd lo n).stop i H ∧ D.nx σ H) ∨ ((Itd lo n).go i H ∧ ∃ N : St → Hp → Prop, (∀ σ' H', N σ' H' → ∃ m', m' < m ∧ W (i + 1) m' σ' H') ∧ ∀ x H', (Itd lo n).yld i H x H' → g x σ H' fun σ2 H2 => tb { D with nx := N, ct := N, bk := D.nx } σ2 H2) := by
  refine ⟨fun i m σ H => m = n - i ∧ i ≤ n ∧ Pv i σ H, ⟨n, by simp, Nat.zero_le _, h0⟩, ?_⟩
  rintro i m σ H ⟨rfl, hi, p⟩
  by_cases hlt : i < n
  · refine .inr ⟨hlt, Pv (i + 1), fun σ' H' p' => ⟨n - (i + 1), by omega, rfl, hlt, p'⟩, fun x H' y => ?_⟩
    obtain ⟨e, y⟩ := y
    subst e y
    exact hs i σ _ hlt p
  · have e : i = n := by omega
    subst e
    exact .inl ⟨Nat.le_refl _, hd σ H p⟩
variable {fr : Bool} {ta : DTA} {tb : DTS} {te : DTE} {pos p0 p1 p2 : Pos}
def dForD (j : Nat) (ta : DTA) (tb : DTS) : DTS := fun D ρ => ta ρ fun ds => ∃ (m n : Int) (Pv : Nat → DS → Prop), ds = [.int m, .int n, .int (-1)] ∧ -(2 ^ 30) ≤ m ∧ m < 2 ^ 30 ∧ -(2 ^ 30) ≤ n ∧ n < 2 ^ 30 ∧ Pv 0 ρ ∧
  (∀ (i : Nat) ρ', i < (m - n).toNat → Pv i ρ' → tb { D with nx := Pv (i + 1), ct := Pv (i + 1), bk := D.nx } (ρ'.set j (.some (.int (m - i))))) ∧ ∀ ρ', Pv (m - n).toNat ρ' → D.nx ρ'
theorem AllIs.three {K : PySem.W.Frag} {H : Hp} {d e f : Dt} {xs : List V} (h : AllIs K H [d, e, f] xs) : ∃ v u w, xs = [v, u, w] ∧ Is K H d v ∧ Is K H e u ∧ Is K H f w := by
  obtain ⟨x, r, rfl, h1, h2⟩ := allIs_cons.mp h
  obtain ⟨u, w, rfl, h3, h4⟩ := h2.two
  exact ⟨x, u, w, rfl, h1, h3, h4⟩
theorem ds_forD {j : Nat} {x : Str} {a b c : Expr} {body : List Stmt} {px p0 pos1 : Pos} (hc : X.calm = true) (hN : X.N.Nodup) (hi : X.N[j]? = some x) (hx : Loc X.env.scope x) (hp : PassesOwn (model X.prog X.w) X.A X.env X.xe)
    (hg : Gl X "range") (hm : X.mg "range" = none) (h : DA X [a, b, c] ta) (hb : DSs X fr body tb) (hs : ∀ x, foldedSetIterable (.Call (.Name "range" p0) [a, b, c] [] pos1) X.env x = pure x := by intro _; rfl)
    (hst : starEach [a, b, c] X.env = (false, eval a X.env) :: starEach [b, c] X.env := by rfl) (hpl : (backTo pos1 (starEach [b, c] X.env)).any (·.1) = false := by rfl)
    (hf : X.fn x = true ∨ X.env.scope.names.lookup x = some .local := by first | exact .inl rfl | exact .inr rfl | assumption) : DSt X fr (.For (.Name x px) (.Call (.Name "range" p0) [a, b, c] [] pos1) body [] pos) (dForD j ta tb) := by
  obtain ⟨tt, p, l⟩ := h
  obtain ⟨tbs, p2, l2⟩ := hb
  refine ⟨_, ps_for hp hc (pi_down hg hm p hst hpl) (pg_name hN hi hx hf) p2 hs, fun W0 G ρ σ W D D' at_ s h => l ρ σ W _ at_.rl h _ fun ds vs W1 s1 i1 ⟨m, n, Pv, ed, m1, m2, n1, n2, h0, ht, hd⟩ => ?_⟩
  subst ed
  obtain ⟨v1, v2, v3, rfl, j1, j2, j3⟩ := i1.three
  have hg1 : Same G W1.g := at_.gs.trans s1.g
  refine ⟨m, n, by rw [is_int.mp j1, is_int.mp j2, is_int.mp j3], ⟨m1, m2, n1, n2⟩, for_down (lo := m) (n := (m - n).toNat) (fun i => InL X.K W0 W1 (Pv i)) ⟨ρ, W1, rfl, (at_.step s1).now, h0⟩ ?_ ?_⟩
  · rintro i σ' _ hi ⟨ρ', W2, rfl, a2, hp2⟩
    exact l2 W0 W1.g _ _ W2 { D with nx := Pv (i + 1), ct := Pv (i + 1), bk := D.nx } _ (a2.set j (is_int.mpr rfl)) (sim_loop s hg1) (ht i ρ' hi hp2)
  · rintro σ' _ ⟨ρ', W2, rfl, a2, hp2⟩
    exact s.nx ρ' σ' W2 (a2.weak hg1) (hd ρ' hp2)
def dMax (ta : DTA) : DTE := fun ρ Q => ta ρ fun ds => ∃ i j, ds = [.int i, .int j] ∧ Q (.int (if j > i then j else i))
theorem de_max {a b : Expr} (hc : X.calm = true) (hg : Gl X "max") (hm : X.mg "max" = none) (ha : DA X [a, b] ta) (hs : starEach [a, b] X.env = (false, eval a X.env) :: starEach [b] X.env := by rfl) (hpl : (backTo pos (starEach [b] X.env)).any (·.1) = false := by rfl) :
    DE X (.Call (.Name "max" p0) [a, b] [] pos) (dMax ta) := by
  obtain ⟨te, p1, l1⟩ := ha
  refine ⟨_, pe_callB (call_max2 hc) hg hm (by decide +kernel) p1 (by decide) (by decide) hs hpl, fun ρ σ H Q r h R k => l1 ρ σ H _ r h _ fun ds vs H1 s1 i1 ⟨i, j, ed, q⟩ => ?_⟩
  subst ed
  obtain ⟨v1, v2, rfl, j1, j2⟩ := i1.two
  exact ⟨i, j, by rw [is_int.mp j1, is_int.mp j2], k _ _ H1 s1 (is_int.mpr rfl) q⟩
def isNon : Dt → Bool
  | .non => true
  | _ => false
theorem isNon_iff {K : PySem.W.Frag} {H : Hp} {d : Dt} {v : V} (h : Is K H d v) : decide (v = .non) = isNon d := by
  cases d with
  | non => rw [is_non.mp h]; rfl
  | bl b => rw [is_bl.mp h]; rfl
  | int b => rw [is_int.mp h]; rfl
  | str b => rw [is_str.mp h]; rfl
  | tup b => obtain ⟨a, xs, rfl, _⟩ := is_tup.mp h; rfl
  | lst b => obtain ⟨a, xs, rfl, _⟩ := is_lst.mp h; rfl
  | scr b => obtain ⟨a, rfl, _⟩ := is_scr.mp h; rfl
  | way b _ _ => obtain ⟨a, xs, rfl, _⟩ := is_way.mp h; rfl
def dIsNo (ta : DTE) : DTE := fun ρ Q => ta ρ fun d => Q (.bl (isNon d))
theorem dt_isN {a : Expr} {j pos'} (ha : DE X a te) : DT X (.Compare a [.Is] [.Constant .none j pos'] pos) (dTest (dIsNo te)) := by
  obtain ⟨t1, p1, l1⟩ := ha
  refine ⟨_, pt_cmp (pc_isN p1), liTest (te := tIsN t1) (t := dIsNo te) fun ρ σ H Q r h R k => l1 ρ σ H _ r h _ fun d v H1 s1 i1 q => k (.bl (isNon d)) (.bl (decide (v = .non))) H1 s1 (is_bl.mpr (by rw [isNon_iff i1])) q⟩
end
end OD

namespace OD
open PySem PySem.Spec PyProof.Rows L2
def pickV (xs : List V) (lo hi st : Option Int) : List V := (sliceRange (sliceBounds lo hi st xs.length).1 (sliceBounds lo hi st xs.length).2.1 (sliceBounds lo hi st xs.length).2.2).filterMap (xs[·]?)
def pickD (xs : List Dt) (lo hi st : Option Int) : List Dt := (sliceRange (sliceBounds lo hi st xs.length).1 (sliceBounds lo hi st xs.length).2.1 (sliceBounds lo hi st xs.length).2.2).filterMap (xs[·]?)
theorem vals_pick {xs : List V} {us : List Value} (r : Vals xs us) : ∀ ix : List Nat, Vals (ix.filterMap (xs[·]?)) (ix.filterMap (us.toArray[·]?))
  | [] => .nil
  | i :: ix => by
    rw [List.filterMap_cons, List.filterMap_cons]
    cases e : xs[i]? with
    | none =>
      have : us.toArray[i]? = none := by
        rw [List.getElem?_toArray, List.getElem?_eq_none]
        have := List.getElem?_eq_none_iff.mp e
        rw [← r.length]; exact this
      rw [this]
      exact vals_pick r ix
    | some x =>
      obtain ⟨u, eu, ru⟩ := r.get e
      have : us.toArray[i]? = some u := by rw [List.getElem?_toArray]; exact eu
      rw [this]
      exact .cons ru (vals_pick r ix)
theorem AllIs.pick {K : PySem.W.Frag} {H : Hp} {ds : List Dt} {xs : List V} (h : AllIs K H ds xs) : ∀ ix : List Nat, AllIs K H (ix.filterMap (ds[·]?)) (ix.filterMap (xs[·]?))
  | [] => allIs_nil.mpr rfl
  | i :: ix => by
    rw [List.filterMap_cons, List.filterMap_cons]
    cases e : ds[i]? with
    | none =>
      have : xs[i]? = none := by
        rw [List.getElem?_eq_none]
        have := List.getElem?_eq_none_iff.mp e
        rw [← h.length]; exact this
      rw [this]
      exact h.pick ix
    | some x =>
      obtain ⟨u, eu, ru⟩ := h.get e
      rw [eu]
      exact allIs_cons.mpr ⟨u, _, rfl, ru, h.pick ix⟩
theorem pickD_mem {ds : List Dt} {lo hi st : Option Int} {e : Dt} (h : e ∈ pickD ds lo hi st) : e ∈ ds := by
  obtain ⟨i, _, q⟩ := List.mem_filterMap.mp h
  exact List.mem_of_getElem? q
section
variable {X : Cx} {a : Expr} {te : TE} {tl th ts : TO} {lo hi : Option Expr} {st : Expr} {pos p2 : Pos} {ta : DTE} {dl dh dt : DTO}
def tSlS (K : PySem.W.Frag) (te : TE) (tl th ts : TO) : TE := fun σ H Q => te σ H fun x H1 => tl σ H1 fun l H2 => th σ H2 fun u H3 => ts σ H3 fun k H4 => k ≠ some 0 ∧ ∃ a xs, x = .ref a ∧ SqL K H4 a xs ∧ (pickV xs l u k).length ≤ xs.length ∧ ∀ p, H4 p = none → Q (.ref p) (upd H4 p (.lst (pickV xs l u k)))
theorem pe_sliceS (he : PE X a te) (hl : PO X lo tl) (hu : PO X hi th) (hs : PO X (some st) ts) : PE X (.Subscript a (.Slice lo hi (some st) p2) pos) (tSlS X.K te tl th ts) := by
  intro pins s σ H Q I h
  refine Subscript_ (thn (he pins s σ H _ I h) fun v s1 ⟨x, H1, I1, r1, q1⟩ => ?_)
  refine wpAny_Slice (thn (hl pins s1 σ H1 _ I1 q1) fun vl s2 ⟨l, H2, I2, pl, q2⟩ => thn (hu pins s2 σ H2 _ I2 q2) fun vu s3 ⟨u, H3, I3, pu, q3⟩ => thn (hs pins s3 σ H3 _ I3 q3) fun vs s4 ⟨k, H4, I4, pk, q4⟩ => ?_)
  obtain ⟨hk, b, xs, rfl, hx, hle, q⟩ := q4
  cases r1
  have I5 : Inv X pins σ H4 { s4 with heap := s4.heap.push { cls := .type "slice", data := .fields #[vl, vu, vs] } } := I4.kept (t' := s4.toks) fun b ob q => Heap.get?_push_of_some _ q
  obtain ⟨its, r, ht, hz⟩ := I5.list hx
  have hlen := r.length
  show wpAny (model X.prog X.w) X.A (subscriptTail a (.Slice lo hi (some st) p2) (.ref b) (.ref s4.heap.objs.size)) (EP X pins σ Q) X.xe { s4 with heap := s4.heap.push { cls := .type "slice", data := .fields #[vl, vu, vs] } }
  refine tail_any (ops := [.ref b, .ref s4.heap.objs.size]) ht.isList.typeIs slot_list_getitem.lookup ?_ (by with_unfolding_all rfl)
  refine wpAny_getItem_list_slice ht.isList (Heap.IsSliceOf.new ..) pl pu pk hk ?_ (by rw [List.size_toArray] <;> omega)
  have e : slicePick its.toArray l u k = ((sliceRange (sliceBounds l u k xs.length).1 (sliceBounds l u k xs.length).2.1 (sliceBounds l u k xs.length).2.2).filterMap (its.toArray[·]?)).toArray := by
    unfold slicePick
    rw [List.size_toArray, ← hlen]
  rw [e]
  refine ⟨.ref _, _, I5.laid (t' := s4.toks) (o := .lst (pickV xs l u k)) (fun b ob q => Heap.get?_push_of_some _ q) (Nat.le_refl _) ?_, rfl, q _ (I5.hok.fresh (Nat.le_refl _))⟩
  exact ⟨Nat.le_trans hle hz, _, 0, vals_pick r _, Heap.get?_push_size _ rfl⟩
theorem pickV_le {ds : List V} {lo hi st : Option Int} : (pickV ds lo hi st).length ≤ ds.length := by
  unfold pickV
  refine Nat.le_trans (List.length_filterMap_le _ _) (sliceRange_length_le _ _ _ _ (fun hc => ?_) fun hc => ?_)
  · simp only [sliceBounds] at hc ⊢
    simp only [hc, if_true]
    constructor
    · cases lo with
      | none => simp
      | some i => dsimp only; omega
    · cases hi with
      | none => simp
      | some i => dsimp only; omega
  · simp only [sliceBounds] at hc ⊢
    simp only [hc, if_false]
    constructor
    · cases lo with
      | none => simp
      | some i => dsimp only; omega
    · cases hi with
      | none => simp
      | some i => dsimp only; omega
def dSlS (te : DTE) (tl th ts : DTO) : DTE := fun ρ Q => te ρ fun d => tl ρ fun l => th ρ fun u => ts ρ fun k => k ≠ some 0 ∧ ∃ ds, listOf d = some ds ∧ ∀ es : List Dt, (∀ e ∈ es, e ∈ ds) → es.length ≤ ds.length → Q (.lst es)
theorem df_sliceS (ha : DE X a ta) (hl : DO X lo dl) (hu : DO X hi dh) (hs : DO X (some st) dt) : DF X (.Subscript a (.Slice lo hi (some st) p2) pos) (dSlS ta dl dh dt) := by
  obtain ⟨t1, p1, l1⟩ := ha
  obtain ⟨t2, p2, l2⟩ := hl
  obtain ⟨t3, p3, l3⟩ := hu
  obtain ⟨t4, p4, l4⟩ := hs
  refine ⟨_, pe_sliceS p1 p2 p3 p4, fun ρ σ H Q r h R k => l1 ρ σ H _ r h _ fun d v H1 s1 i1 q1 => l2 ρ σ H1 _ (r.mono s1) q1 _ fun l H2 s2 q2 => l3 ρ σ H2 _ (r.mono (s1.trans s2)) q2 _ fun u H3 s3 q3 => l4 ρ σ H3 _ (r.mono ((s1.trans s2).trans s3)) q3 _ fun c H4 s4 ⟨hc, ds, e, q⟩ => ?_⟩
  obtain ⟨b, xs, rfl, h1, h2⟩ := list_is (i1.mono ((s2.trans s3).trans s4)) e
  refine ⟨hc, b, xs, rfl, h1, pickV_le, fun p hp => ?_⟩
  have hs := ((s1.trans s2).trans s3).trans s4
  have hA : AllIs X.K H4.g (pickD ds l u c) (pickV xs l u c) := by
    unfold pickD pickV
    rw [← h2.length]
    exact h2.pick _
  exact k _ p _ (H4.mine p _ (H4.sub.free hp)) (hs.trans (le_mine hp _)) (hs.h.free hp) upd_same (H4.sub.free hp) hA (q _ (fun e he => pickD_mem he) (by rw [hA.length, h2.length]; exact pickV_le))
variable {fr : Bool} {tA : DTA} {tb : DTS} {p0 p1 : Pos}
def dSeqJ (t u : DTS) : DTS := fun D ρ => ∃ P : DS → Prop, t { D with nx := P } ρ ∧ ∀ ρ', P ρ' → u D ρ'
theorem dss_join {sst : Stmt} {rest : List Stmt} {t u : DTS} (h1 : DSt X fr sst t) (h2 : DSs X fr rest u) : DSs X fr (sst :: rest) (dSeqJ t u) := by
  obtain ⟨ts, p1, l1⟩ := h1
  obtain ⟨us, p2, l2⟩ := h2
  refine ⟨_, pss_cons p1 p2, fun W0 G ρ σ W D D' a s h => ?_⟩
  obtain ⟨P, h, k⟩ := h
  exact l1 W0 G ρ σ W { D with nx := P } { D' with nx := us D' } a ⟨fun ρ' σ' W' a' q => l2 W0 G ρ' σ' W' D D' a' s (k ρ' q), s.rt, s.rf, s.bk, s.ct⟩ h
end
end OD

namespace OD
open PySem PySem.Spec PyProof.Rows L2
section
variable {X : Cx} {ta : DTE} {pos p0 : Pos}
end
end OD

namespace OD
open PySem PySem.Spec PyProof.Rows L2
section
variable {X : Cx} {K : PySem.W.Frag} {H : Hp}
def gS (f : Str → Str → Dt) : Dt → Dt → (Dt → Prop) → Prop := fun d e Q => ∃ x y, d = .str x ∧ e = .str y ∧ Q (f x y)
theorem dec_strV {x y : Str} : decide (V.str x = V.str y) = (x == y) := by
  rw [Bool.eq_iff_iff]
  simp
theorem o_eqS : DOp X (compareOp .Eq) (gS fun x y => .bl (x == y)) := by
  refine ⟨_, op_eq, fun H x y d e Q i1 i2 ⟨a, b, ed, ee, q⟩ R k => ?_⟩
  subst ed
  subst ee
  obtain rfl := is_str.mp i1
  obtain rfl := is_str.mp i2
  refine ⟨rfl, ?_⟩
  rw [dec_strV]
  exact k _ _ H (Le.refl H) (is_bl.mpr rfl) q
def allStrs : List Dt → Option (List Str)
  | [] => some []
  | .str i :: r => (allStrs r).map (i :: ·)
  | _ => none
theorem allStrs_is : ∀ {ds : List Dt} {ns : List Str} {xs : List V}, allStrs ds = some ns → AllIs K H ds xs → xs = ns.map V.str
  | [], ns, xs, e, h => by
    cases e
    exact allIs_nil.mp h
  | d :: ds, ns, xs, e, h => by
    cases d with
    | str i =>
      obtain ⟨ms, e1, e2⟩ := Option.map_eq_some_iff.mp (show (allStrs ds).map (i :: ·) = some ns from e)
      obtain ⟨x, r, rfl, h1, h2⟩ := allIs_cons.mp h
      rw [allStrs_is e1 h2, is_str.mp h1, ← e2]
      rfl
    | _ => cases e
theorem inV_strs (i : Str) : ∀ ns : List Str, inV (.str i) (ns.map V.str) = ns.any fun a => a == i
  | [] => rfl
  | n :: ns => by
    have ih := inV_strs i ns
    unfold inV at ih ⊢
    rw [List.map_cons, List.any_cons, List.any_cons, ih]
    rfl
theorem flat_strs : ∀ ns : List Str, (ns.map V.str).all flatV = true
  | [] => rfl
  | n :: ns => by rw [List.map_cons, List.all_cons, flat_strs ns]; rfl
theorem o_inS : DOp X (compareOp .In) (fun d e Q => ∃ i ds ns, d = .str i ∧ seqOf e = some ds ∧ allStrs ds = some ns ∧ Q (.bl (ns.any fun a => a == i))) := by
  refine ⟨_, op_in_seq, fun H x y d e Q i1 i2 q R k => ?_⟩
  obtain ⟨i, ds, ns, rfl, e1, e2, q⟩ := q
  obtain ⟨p, xs, rfl, h1, h2⟩ := seq_is i2 e1
  obtain rfl := allStrs_is e2 h2
  obtain rfl := is_str.mp i1
  refine ⟨p, _, rfl, h1, rfl, flat_strs ns, ?_⟩
  show R (.bl (inV (.str i) (ns.map V.str))) H.h
  rw [inV_strs]
  exact k _ _ H (Le.refl H) (is_bl.mpr rfl) q
end
section
variable {X : Cx} {fr : Bool} {te : DTE} {tb : DTS} {pos p0 p1 p2 : Pos}
end
end OD

namespace OD
open PySem PySem.Spec PyProof.Rows L2
def cxCompC (X : Cx) (scope : Scope) (cl : List (Str × Addr)) (x : Str) (caps : List Str) (C : Addr) (s : Shared) (H : Hp) (fp : List Addr) (pins : List (Addr × Obj)) : Cx where
  prog := X.prog
  w := X.w
  K := X.K
  mg := X.mg
  base := X.base
  A := X.A
  N := x :: caps
  s₀ := s
  H₀ := H
  env := compEnvC scope cl C X.env
  outer := X.stack
  stack := X.stack
  ex := fp
  fn := fun y => y == x
  calm := X.calm
  pn := X.pn ++ pins
  xe := fun _ _ => False
structure CompScC (X : Cx) (scope : Scope) (cl : List (Str × Addr)) (x : Str) (caps : List Str) (js : List Nat) : Prop where
  clos : closureFor scope X.env = pure cl
  sub : ∀ y c, cl.lookup y = some c → X.env.cells.lookup y = some c
  has : ∀ y, ((relabel scope X.env).names.lookup y = some .cell ∨ (relabel scope X.env).names.lookup y = some .free) → ∃ c, cl.lookup y = some c
  nox : cl.lookup x = none
  cell : ∀ y ∈ scope.names, y.2 ≠ .cell
  kind : scope.kind = .function
  names : ∀ y ∈ scope.names, y.2 = .local → scope.names.lookup y.1 = some .local
  loc : scope.names.lookup x = some .local
  nd : (x :: caps).Nodup
  len : js.length = caps.length
  at_ : ∀ (k : Nat) y, caps[k]? = some y → ∃ j, js[k]? = some j ∧ X.N[j]? = some y
  cap : ∀ y ∈ caps, (relabel scope X.env).names.lookup y = some .cell ∧ X.env.scope.names.lookup y = some .cell
def capV (σ : St) (js : List Nat) : St := js.map fun j => (σ[j]?).getD none
section
variable {X : Cx} {pins : List (Addr × Obj)} {σ : St} {H : Hp} {s : Shared} {scope : Scope} {cl : List (Str × Addr)} {x : Str} {caps : List Str} {js : List Nat} {fp : List Addr}
theorem inv_compC {h₁ : Heap} {t : Nat} {m : Str → Option Value} (I : Inv X pins σ H s) (S : CompScC X scope cl x caps js) (hfp : ∀ b ∈ fp, FpOk X pins H b) (hob : ∀ b ∈ fp, ∃ o, s.heap.get? b = some o)
    (hn : h₁.Ns s.heap.objs.size m) (hk : ∀ b o, s.heap.get? b = some o → h₁.get? b = some o) : Inv (cxCompC X scope cl x caps s.heap.objs.size s H fp pins) [] (none :: capV σ js) H { s with heap := h₁, toks := t } := by
  refine ⟨⟨I.ok.mod, S.kind, I.ok.glob, I.ok.blt, Nat.le_refl _, fun y z c h1 h2 => ?_, fun y hy => ?_, fun y c hf h => ?_, I.ok.hd, I.ok.frames, .inl rfl, fun b hb => ⟨?_, fun y c h => ?_⟩, I.bs, Nat.le_trans I.ok.bsz I.sz, fun b o e hb => ?_, fun b hb z => ?_, I.stack, I.stkFree⟩,
    rfl, I.bare, Un.kept hk, ⟨_, hn, fun i y v h1 h2 h3 => ?_⟩, fun y c h => ?_, I.hok.fresh (Nat.le_refl _), fun y c h => ?_, fun p hp => ?_, I.hok.kept hk, ?_⟩
  · exact I.ok.inj y z c (S.sub y c h1) (S.sub z c h2)
  · exact S.has y hy
  · obtain rfl : y = x := eq_of_beq hf
    have h : cl.lookup y = some c := h
    rw [S.nox] at h
    cases h
  · obtain ⟨o, e⟩ := hob b hb
    exact Nat.ne_of_lt (Heap.lt_size e)
  · exact (hfp b hb).2.2.2.2.1 y c (S.sub y c h)
  · obtain ⟨_, _, _, h4, _⟩ := hfp b hb
    rcases h4 with h4 | h4
    · exact I.ok.noex b o e h4
    · exact absurd (Nat.lt_of_lt_of_le (Heap.lt_size e) (Nat.le_trans I.ok.bsz h4)) (Nat.lt_irrefl _)
  · obtain ⟨_, h2, h3, _⟩ := hfp b hb
    rcases List.mem_cons.mp (I.stkSub b z) with q | q
    · exact h2 q
    · exact h3 q
  · match i, h1, h2 with
    | 0, _, h2 => cases h2
    | i + 1, h1, h2 =>
      have h1 : caps[i]? = some y := h1
      have h2 : (capV σ js)[i]? = some (some v) := h2
      obtain ⟨j, hj, hN⟩ := S.at_ i y h1
      have hv : σ[j]? = some (some v) := by
        unfold capV at h2
        rw [List.getElem?_map, hj] at h2
        have h2 : (σ[j]?).getD none = some v := Option.some.inj h2
        cases q : σ[j]? with
        | none => rw [q] at h2; cases h2
        | some w => rw [q] at h2; exact congrArg some h2
      obtain ⟨c1, c2⟩ := S.cap y (List.mem_of_getElem? h1)
      obtain ⟨m0, _, hl⟩ := I.loc
      obtain ⟨u, ru, lk⟩ := hl j y v hN hv (.inr (.inl c2))
      refine ⟨u, ru, .inr ⟨.inl c1, ?_⟩⟩
      obtain ⟨c, hc⟩ := S.has y (.inl c1)
      rcases lk with ⟨lk, _⟩ | ⟨_, c', hc', hcell⟩
      · have lk : X.env.scope.names.lookup y = some .local := lk
        rw [c2] at lk
        cases lk
      · have e := S.sub y c hc
        rw [hc'] at e
        cases e
        obtain ⟨o, ho, hd⟩ := hcell
        exact ⟨_, hc, o, hk _ _ ho, hd⟩
  · obtain ⟨v, o, ho, hd⟩ := I.cell y c (S.sub y c h)
    exact ⟨v, o, hk _ _ ho, hd⟩
  · exact I.freeC y c (S.sub y c h)
  · have hp : p ∈ X.pn ++ pins := by
      rcases List.mem_append.mp hp with q | q
      · exact q
      · cases q
    obtain ⟨h1, h2, h3, h4, h5⟩ := I.pin p hp
    refine ⟨hk _ _ h1, h2, Nat.ne_of_lt (Heap.lt_size h1), fun z => ?_, h5⟩
    rcases List.mem_cons.mp (I.stkSub _ z) with q | q
    · exact h3 q
    · exact h4 q
  · show (none :: capV σ js).length = (x :: caps).length
    unfold capV
    rw [List.length_cons, List.length_map, S.len, List.length_cons]
theorem inv_backC {C : Addr} {σ' : St} {H' : Hp} {s' : Shared} (I : Inv X pins σ H s) (hfp : ∀ b ∈ fp, FpOk X pins H b) (I' : Inv (cxCompC X scope cl x caps C s H fp pins) [] σ' H' s') : Inv X pins σ H' s' :=
  I.call' (ch := fp) I'.os I'.base I'.hok I'.bare fun b hb => by
    obtain ⟨_, h2, _, h4, h5, h6⟩ := hfp b hb
    exact ⟨h4, h2, h5, h6⟩
def rCompC (te : TE) (τ : St) (Q : V → Hp → Prop) : It → Hp → Prop := fun J H1 => ∃ (n : Nat) (vals : Nat → V → Prop), n < sizeLine ∧ ∀ D, H1 D = none → ∃ Pv : Nat → List V → Hp → Prop,
  Pv 0 [] (upd H1 D (.lst [])) ∧ (∀ i ys H2, i ≤ n → Pv i ys H2 → H2 D = some (.lst ys) ∧ ys.length = i) ∧
  (∀ i ys H2, i < n → Pv i ys H2 → J.go i H2 ∧ ∀ v H3, J.yld i H2 v H3 → H3 = H2 ∧ vals i v) ∧ (∀ ys H2, Pv n ys H2 → J.stop n H2) ∧
  (∀ i v ys H2, i < n → vals i v → Pv i ys H2 → te (some v :: τ) H2 fun y H3 => H3 D = some (.lst ys) ∧ Pv (i + 1) (ys ++ [y]) (upd H3 D (.lst (ys ++ [y])))) ∧ ∀ ys H2, Pv n ys H2 → Q (.ref D) H2
def tCompC (wi : TI) (te : TE) (js : List Nat) : TE := fun σ H Q => wi σ H (rCompC te (capV σ js) Q)
theorem comp_blockC {elt iter : Expr} {px pos : Pos} {it D : Addr} {n : Nat} {J : It} {vals : Nat → V → Prop} {τ : St} {tn : Nat → Heap → Prop} {te : TE} {R : Result → Shared → Prop} {s₄ : Shared} {Pv : Nat → List V → Hp → Prop} {C : Addr} (hc : X.calm = true) (S : CompScC X scope cl x caps js)
    (he : PE (cxCompC X scope cl x caps C s H fp pins) elt te) (I : Inv (cxCompC X scope cl x caps C s H fp pins) [] (none :: τ) H s₄) (T : Turn X.prog X.w X.K (.Name x px) J fp it tn) (t0 : tn 0 s₄.heap)
    (hfp : ∀ b ∈ fp, FpOk (cxCompC X scope cl x caps C s H fp pins) [] H b) (hn : n < sizeLine)
    (h0 : Pv 0 [] H) (hl : ∀ i ys H2, i ≤ n → Pv i ys H2 → H2 D = some (.lst ys) ∧ ys.length = i)
    (hgo : ∀ i ys H2, i < n → Pv i ys H2 → J.go i H2 ∧ ∀ v H3, J.yld i H2 v H3 → H3 = H2 ∧ vals i v) (hst : ∀ ys H2, Pv n ys H2 → J.stop n H2)
    (ht : ∀ i v ys H2, i < n → vals i v → Pv i ys H2 → te (some v :: τ) H2 fun y H3 => H3 D = some (.lst ys) ∧ Pv (i + 1) (ys ++ [y]) (upd H3 D (.lst (ys ++ [y]))))
    (hR : ∀ σ' H' ys s', Inv (cxCompC X scope cl x caps C s H fp pins) [] σ' H' s' → Pv n ys H' → R (.ok .next) s') :
    codeAny (model X.prog X.w) X.A (.compStart (.ListComp elt [⟨.Name x px, iter, [], 0⟩] scope pos) 0 (.ref it) (.ref D) (compEnvC scope cl C X.env)) R s₄ := by
  have loop : codeAny (model X.prog X.w) X.A (.compLoop (.ListComp elt [⟨.Name x px, iter, [], 0⟩] scope pos) 0 (.ref it) (.ref D) (compEnvC scope cl C X.env)) R s₄ := by
    refine codeAny_compLoop_list (fun k s' => ∃ i ys v0 H', k = n + 1 - i ∧ i ≤ n ∧ Inv (cxCompC X scope cl x caps C s H fp pins) [] (v0 :: τ) H' s' ∧ tn i s'.heap ∧ (∀ b ∈ fp, FpOk (cxCompC X scope cl x caps C s H fp pins) [] H' b) ∧ Pv i ys H') ?_ (n + 1) ⟨0, [], none, H, rfl, Nat.zero_le _, I, t0, hfp, h0⟩
    rintro k s' ⟨i, ys, v0, H', rfl, hi, I', tn', hfp', hp⟩
    obtain ⟨q2, q3⟩ := hl i ys H' hi hp
    by_cases hlt : i < n
    · obtain ⟨g, gy⟩ := hgo i ys H' hlt hp
      refine wpAny_mono (T.item (cxCompC X scope cl x caps C s H fp pins) rfl rfl rfl hc i [] s' (v0 :: τ) H' (fun _ _ => False) I' hfp' tn' g) (fun r s1 ⟨u, er, hq⟩ => ?_) fun _ _ z => z.elim
      subst er
      show wpAny (model X.prog X.w) X.A (assign (.Name x px) (compEnvC scope cl C X.env) u) _ _ s1
      intro Γ p hΓ
      have hq' : ∃ v H1, Inv (cxCompC X scope cl x caps C s H fp pins) [] (v0 :: τ) H1 s1 ∧ RelV v u ∧ J.yld i H' v H1 ∧ tn (i + 1) s1.heap ∧ ∀ b ∈ fp, H1 b = none := hq Γ p hΓ
      obtain ⟨v, H1, I1, rv, yv, tn1, fn1⟩ := hq'
      obtain ⟨eH, hv⟩ := gy v H1 yv
      subst eH
      refine (?_ : wpAny (model X.prog X.w) X.A (assign (.Name x px) (compEnvC scope cl C X.env) u) _ _ s1) Γ p hΓ
      have hpin : ∀ b ∈ fp, ∃ o, s1.heap.get? b = some o ∧ ∀ v, o.data ≠ .cell v := T.obj (i + 1) s1.heap tn1
      have IP : Inv (cxCompC X scope cl x caps C s H fp pins) (pinsAt fp s1.heap) (v0 :: τ) H1 s1 := by
        have := I1.pinned hfp' hpin
        rw [List.nil_append] at this
        exact this
      refine wpAny_mono (pg_name (X := cxCompC X scope cl x caps C s H fp pins) (i := 0) (x := x) (pos := px) S.nd rfl (.inl (lookup_relabel_local S.loc)) (.inl (beq_self_eq_true x)) (pinsAt fp s1.heap) s1 (v0 :: τ) H1 v u (fun σ2 H2 => σ2 = some v :: τ ∧ H2 = H1) IP rv ⟨rfl, rfl⟩) (fun _ s2 h2 => ?_) fun _ _ z => z.elim
      obtain ⟨σ2, H2, I2, e1, e2⟩ := h2
      subst e1
      subst e2
      refine wpAny_mono (he (pinsAt fp s1.heap) s2 (some v :: τ) H2 _ I2 (ht i v ys H2 hlt hv hp)) (fun y s3 h3 => ?_) fun _ _ z => z.elim
      obtain ⟨y', H3, I3, ry, hD, hp3⟩ := h3
      refine wpAny_mono (mt_append (X := cxCompC X scope cl x caps C s H fp pins) (pinsAt fp s1.heap) s3 (some v :: τ) H3 (.ref D) [y'] (.ref D) [y] (fun _ H4 => H4 = upd H3 D (.lst (ys ++ [y']))) I3 rfl (.cons ry .nil) ⟨D, ys, y', rfl, rfl, hD, by omega, rfl⟩) (fun _ s4 h4 => ?_) fun _ _ z => z.elim
      obtain ⟨_, H4, I4, _, e4⟩ := h4
      subst e4
      have pinned : ∀ b ∈ fp, ∀ o, s1.heap.get? b = some o → s4.heap.get? b = some o ∧ (upd H3 D (.lst (ys ++ [y']))) b = none := fun b hb o e =>
        have z := I4.pin (b, o) (List.mem_append_right _ (mem_pinsAt hb e))
        ⟨z.1, z.2.1⟩
      refine ⟨n + 1 - (i + 1), by omega, i + 1, ys ++ [y'], some v, _, rfl, hlt, I4.pins_of (fun p z => nomatch z), T.keep _ _ _ tn1 fun b hb o e => (pinned b hb o e).1, fun b hb => ⟨?_, (hfp' b hb).2⟩, hp3⟩
      obtain ⟨o, e, _⟩ := hpin b hb
      exact (pinned b hb o e).2
    · have e : i = n := by omega
      subst e
      refine wpAny_mono (T.done (cxCompC X scope cl x caps C s H fp pins) rfl rfl rfl hc i [] s' (v0 :: τ) H' (fun _ _ => False) I' hfp' tn' (hst ys H' hp)) (fun r s1 ⟨er, I1⟩ => ?_) fun _ _ z => z.elim
      subst er
      exact hR _ H' ys s1 I1 hp
  exact codeAny_compStart_list loop (T.self X.A 0 s₄ _ _ t0 loop)
theorem comp_fromC {elt iter : Expr} {px pos : Pos} {te : TE} {Q : V → Hp → Prop} {s2 : Shared} {it : Addr} {tn : Nat → Heap → Prop} {J : It} {H' : Hp} {RR : Value → Addr → Result → Shared → Prop} {E : Value → Shared → Prop} (hc : X.calm = true) (S : CompScC X scope cl x caps js)
    (he : ∀ C s H fp pins, PE (cxCompC X scope cl x caps C s H fp pins) elt te) (I2 : Inv X pins σ H' s2) (T : Turn X.prog X.w X.K (.Name x px) J fp it tn) (t0 : tn 0 s2.heap) (hfp : ∀ b ∈ fp, FpOk X pins H' b) (hr : rCompC te (capV σ js) Q J H')
    (hRR : ∀ D C H3 s', Inv X pins σ H3 s' → (∃ m, s'.heap.Ns C m) → H3 C = none → C ≠ X.env.locals → X.s₀.heap.objs.size ≤ C → (∀ y c, X.env.cells.lookup y = some c → c ≠ C) → (∀ p ∈ X.pn ++ pins, p.1 ≠ C) → Q (.ref D) H3 →
      RR (.ref D) C (.ok .next) s') :
    wpAny (model X.prog X.w) X.A (newList []) (fun acc s₃ => wpAny (model X.prog X.w) X.A (newFunctionEnv scope X.env.globals cl [] X.env.qual none .none (some X.env)) (fun cenv s₄ =>
      codeAny (model X.prog X.w) X.A (.compStart (.ListComp elt [⟨.Name x px, iter, [], 0⟩] scope pos) 0 (.ref it) acc { cenv with scope := relabel scope X.env }) (RR acc cenv.locals) s₄) E s₃) E s2 := by
  obtain ⟨n, vals, hn, hD⟩ := hr
  obtain ⟨Pv, h0, hl, hgo, hst, ht, hd⟩ := hD s2.heap.objs.size I2.fresh
  refine wpAny_newObj_type (wpAny_newFunctionEnv S.cell (by intro y hy; simp at hy) (fun h₁ hns₁ hsb₁ => ?_) S.kind)
  dsimp only at hns₁ hsb₁ ⊢
  have I3 : Inv X pins σ (upd H' s2.heap.objs.size (.lst [])) { s2 with heap := s2.heap.push { cls := .type "list", data := .seq ([] : List Value).toArray } } := I2.lnew (its := []) (t' := s2.toks) .nil (by show 0 ≤ sizeLine; omega)
  have hob := T.obj 0 s2.heap t0
  have keep : ∀ b o, (s2.heap.push { cls := .type "list", data := .seq ([] : List Value).toArray }).get? b = some o → h₁.get? b = some o := fun b o e =>
    hsb₁.extBut b o (Nat.ne_of_lt (Heap.lt_size e)) (Heap.get?_push_of_some _ e)
  have fp3 : ∀ b ∈ fp, FpOk X pins (upd H' s2.heap.objs.size (.lst [])) b := fun b hb => by
    obtain ⟨o, e, _⟩ := hob b hb
    exact ⟨(upd_ne (Nat.ne_of_lt (Heap.lt_size e))).trans (hfp b hb).1, (hfp b hb).2⟩
  have IY := inv_compC (t := s2.toks + ([] : List (Str × Value)).length) I3 S fp3 (fun b hb => by
    obtain ⟨o, e, _⟩ := hob b hb
    exact ⟨o, Heap.get?_push_of_some _ e⟩) hns₁ keep
  refine comp_blockC (D := s2.heap.objs.size) (n := n) (vals := vals) (Pv := Pv) hc S (he _ _ _ _ _) IY T (T.keep _ _ _ t0 fun b hb o e => keep b o (Heap.get?_push_of_some _ e)) (fun b hb => ?_) hn h0 hl hgo hst ht (fun σ' H3 ys s' I' hp => ?_)
  · obtain ⟨f1, f2, f3, f4, f5, f6⟩ := fp3 b hb
    obtain ⟨o, e, _⟩ := hob b hb
    refine ⟨f1, Nat.ne_of_lt (Heap.lt_size (Heap.get?_push_of_some _ e)), fun z => ?_, .inl hb, fun y c h => f5 y c (S.sub y c h), fun p hp => ?_⟩
    · rcases List.mem_cons.mp (I3.stkSub b z) with q | q
      · exact f2 q
      · exact f3 q
    · rcases List.mem_append.mp hp with q | q
      · exact f6 p q
      · cases q
  · obtain ⟨m, hn, _⟩ := I'.loc
    refine hRR _ _ H3 s' (inv_backC I3 fp3 I') ⟨m, hn⟩ I'.free (Nat.ne_of_gt I3.lt) I3.sz (fun y c h z => ?_) (fun p hp z => ?_) (hd ys H3 hp)
    · obtain ⟨v, q⟩ := I3.cell y c h
      exact absurd q.lt (by rw [z]; exact Nat.lt_irrefl _)
    · exact absurd (Heap.lt_size (I3.pin p hp).1) (by rw [z]; exact Nat.lt_irrefl _)
theorem pe_compC {elt iter : Expr} {px pos : Pos} {wi : TI} {te : TE} (hc : X.calm = true) (S : CompScC X scope cl x caps js) (hl : PI X (.Name x px) iter wi) (he : ∀ C s H fp pins, PE (cxCompC X scope cl x caps C s H fp pins) elt te)
    (hs : ∀ y, foldedSetIterable iter X.env y = pure y := by intro _; rfl) : PE X (.ListComp elt [⟨.Name x px, iter, [], 0⟩] scope pos) (tCompC wi te js) := by
  intro pins s σ H Q I h
  rw [eval_ListComp]
  refine wpAny_comprehension_free (use := none) rfl hs S.clos S.kind S.names (thn (hl pins s σ H (rCompC te (capV σ js) Q) I h) fun v s1 h1 => thn h1 fun itv s2 h2 => ?_)
  obtain ⟨it, fp, tn, J, H', rfl, I2, T, t0, hfp, hr⟩ := h2
  refine comp_fromC (RR := fun acc C => compPost (model X.prog X.w) X.A X.xe none (EP X pins σ Q) acc C) hc S he I2 T t0 hfp hr ?_
  intro D C H3 s' I' ⟨m, hn⟩ hC h1 h2 h3 h4 q
  exact ⟨m, hn, fun h' hs' => ⟨.ref D, H3, I'.turned (it := C) (fun b o hb e => hs'.extBut b o hb e) hC h1 (.inr h2) h3 h4, rfl, q⟩⟩
theorem ps_setCompC {elt iter : Expr} {y : Str} {i : Nat} {px py pos spos : Pos} {wi : TI} {te : TE} (hc : X.calm = true) (S : CompScC X scope cl x caps js) (hN : X.N.Nodup) (hi : X.N[i]? = some y) (hy : Loc X.env.scope y) (hl : PI X (.Name x px) iter wi) (he : ∀ C s H fp pins, PE (cxCompC X scope cl x caps C s H fp pins) elt te)
    (hsw : swapsWith (.ListComp elt [⟨.Name x px, iter, [], 0⟩] scope pos) (some (.Name y py)) spos.line X.env = pure true) (hs : ∀ y, foldedSetIterable iter X.env y = pure y := by intro _; rfl)
    (hf : X.fn y = true ∨ X.env.scope.names.lookup y = some .local := by first | exact .inl rfl | exact .inr rfl | assumption) :
    PS X (.Assign [.Name y py] (.ListComp elt [⟨.Name x px, iter, [], 0⟩] scope pos) spos) (tAsg (tCompC wi te js) (gName i)) := by
  intro pins s σ H D I h
  rw [exec_Assign_Name_used _ _ _ _ hsw]
  refine wpAny_bind (wpAny_standAt (wpAny_bind ?_))
  show wpAny _ X.A (do let _ ← comprehension (.ListComp elt [⟨.Name x px, iter, [], 0⟩] scope pos) scope X.env _ (newList []) false (eval iter X.env) (some (assign (.Name y py) X.env))) _ _ s
  refine wpAny_bind (wpAny_mono (wpAny_comprehension_free (use := some (assign (.Name y py) X.env)) (Q := fun _ s' => SP X pins D .next s') rfl hs S.clos S.kind S.names (thn (hl pins s σ H (rCompC te (capV σ js) fun v H1 => gName i v σ H1 D.nx) I h) fun v s1 h1 => thn h1 fun itv s2 h2 => ?_))
    (fun _ s' hq => wpAny_pure (wpAny_pure hq)) fun _ _ e => e)
  obtain ⟨it, fp, tn, J, H', rfl, I2, T, t0, hfp, hr⟩ := h2
  refine comp_fromC (RR := fun acc C => compPost (model X.prog X.w) X.A X.xe (some (assign (.Name y py) X.env)) (fun _ s' => SP X pins D .next s') acc C) hc S he I2 T t0 hfp hr ?_
  intro A C H3 s' I' ⟨m, hn⟩ hC h1 h2 h3 h4 q
  refine wpAny_assign_Name (store_ok2 I' hN hi hy (v := .ref A) rfl (fun s3 I3 ⟨b, hb, hbb⟩ => ?_) hf)
  have hCb : C ≠ b := by
    rcases hbb with e | e
    · rw [e]; exact h1
    · exact fun z => h3 y b e z.symm
  exact ⟨m, hn.sameBut hb hCb, fun h' hs' => ⟨_, H3, I3.turned (it := C) (fun b o hb e => hs'.extBut b o hb e) hC h1 (.inr h2) h3 h4, q⟩⟩
end
def clOf (cells : List (Str × Addr)) (names : List (Str × NameKind)) : List (Str × Addr) := (names.filterMap fun y => if y.2 == .free then (cells.lookup y.1).map (y.1, ·) else none).reverse
theorem mem_lookup {α : Type} {y : Str} {c : α} : ∀ {l : List (Str × α)}, (y, c) ∈ l → ∃ c', l.lookup y = some c'
  | [], h => nomatch h
  | (z, d) :: r, h => by
    rw [List.lookup_cons]
    cases q : y == z with
    | true => exact ⟨d, rfl⟩
    | false =>
      rcases List.mem_cons.mp h with e | e
      · cases e
        rw [beq_self_eq_true] at q
        cases q
      · exact mem_lookup e
theorem mem_clOf {cells : List (Str × Addr)} {names : List (Str × NameKind)} {y : Str} {c : Addr} : (y, c) ∈ clOf cells names ↔ (y, NameKind.free) ∈ names ∧ cells.lookup y = some c := by
  unfold clOf
  rw [List.mem_reverse, List.mem_filterMap]
  constructor
  · rintro ⟨⟨z, k⟩, hz, e⟩
    split at e
    · rename_i hk
      obtain rfl := eq_of_beq hk
      obtain ⟨d, hd, e⟩ := Option.map_eq_some_iff.mp e
      cases e
      exact ⟨hz, hd⟩
    · cases e
  · rintro ⟨h1, h2⟩
    exact ⟨(y, .free), h1, by show Option.map _ (List.lookup y cells) = _; rw [h2]; rfl⟩
theorem clos_of {scope : Scope} {env : Env} (h : ∀ y, (y, NameKind.free) ∈ scope.names → ∃ c, env.cells.lookup y = some c) : closureFor scope env = pure (clOf env.cells scope.names) := by
  have key : ∀ (names : List (Str × NameKind)) (acc : List (Str × Addr)), (∀ y, (y, NameKind.free) ∈ names → ∃ c, env.cells.lookup y = some c) →
      (forIn names acc fun x r => (if x.2 == NameKind.free then do let c ← cellOf env x.1; pure (ForInStep.yield ((x.1, c) :: r)) else pure (ForInStep.yield r) : Sem (ForInStep (List (Str × Addr))))) = (pure (clOf env.cells names ++ acc) : Sem (List (Str × Addr))) := by
    intro names
    induction names with
    | nil => intro acc _; rfl
    | cons a r ih =>
      intro acc ha
      obtain ⟨n, k⟩ := a
      rw [List.forIn_cons]
      cases hk : k == NameKind.free with
      | true =>
        obtain rfl := eq_of_beq hk
        obtain ⟨c, hc⟩ := ha n List.mem_cons_self
        have e1 : cellOf env n = pure c := by unfold cellOf; rw [hc]
        have e2 : clOf env.cells ((n, NameKind.free) :: r) = clOf env.cells r ++ [(n, c)] := by
          unfold clOf
          rw [List.filterMap_cons_some (b := (n, c)) (by show Option.map _ (List.lookup n env.cells) = _; rw [hc]; rfl), List.reverse_cons]
        show (do let c ← cellOf env n; pure (ForInStep.yield ((n, c) :: acc)) : Sem _) >>= _ = _
        rw [e1, pure_bind, pure_bind, e2, List.append_assoc]
        exact ih ((n, c) :: acc) fun y hy => ha y (List.mem_cons_of_mem _ hy)
      | false =>
        have e2 : clOf env.cells ((n, k) :: r) = clOf env.cells r := by
          unfold clOf
          rw [List.filterMap_cons_none (by show (if (k == NameKind.free) = true then _ else none) = none; rw [hk]; rfl)]
        show (pure (ForInStep.yield acc) : Sem _) >>= _ = _
        rw [pure_bind, e2]
        exact ih acc fun y hy => ha y (List.mem_cons_of_mem _ hy)
  have := key scope.names [] h
  rw [List.append_nil] at this
  unfold closureFor
  rw [← this]
  exact (bind_pure _).trans rfl
theorem lookup_relabel_free {env : Env} (hk : env.scope.kind = .function) : ∀ {names : List (Str × NameKind)} {x : Str}, names.lookup x = some .free → env.scope.names.lookup x = some .cell →
    (names.map fun (n, k) => if (k == NameKind.free && env.scope.kind == .function && env.kindOf n == some .cell) then (n, NameKind.cell) else (n, k)).lookup x = some .cell
  | [], _, h, _ => by simp at h
  | (n, k) :: r, x, h, he => by
    have ih := @lookup_relabel_free env hk r x
    show List.lookup x ((if (k == NameKind.free && env.scope.kind == .function && env.kindOf n == some .cell) = true then (n, NameKind.cell) else (n, k)) :: _) = _
    cases hx : x == n with
    | true =>
      obtain rfl := eq_of_beq hx
      simp only [List.lookup_cons, hx] at h
      cases h
      have e : env.kindOf x = some .cell := he
      rw [hk, e]
      simp [List.lookup_cons]
    | false =>
      simp only [List.lookup_cons, hx] at h
      by_cases hc : (k == NameKind.free && env.scope.kind == .function && env.kindOf n == some .cell) = true
      · rw [if_pos hc]; simp only [List.lookup_cons, hx]; exact ih h he
      · rw [if_neg hc]; simp only [List.lookup_cons, hx]; exact ih h he
def compOkC (osc scope : Scope) (x : Str) (caps : List Str) (js : List Nat) (N : List Str) : Bool :=
  scope.names.all (fun y => y.2 != .cell && (y.2 != .local || scope.names.lookup y.1 == some .local) && (y.2 != .free || (osc.names.lookup y.1 == some .cell && y.1 != x))) && (scope.kind == .function) && (osc.kind == .function) && (scope.names.lookup x == some .local) &&
  decide (x :: caps).Nodup && (js.map (fun j => N[j]?) == caps.map some) && caps.all (fun y => scope.names.lookup y == some .free && osc.names.lookup y == some .cell)
theorem compScC {X : Cx} {osc scope : Scope} {x : Str} {caps : List Str} {js : List Nat} {L : Addr} (h : compOkC osc scope x caps js X.N = true) (he : X.env.scope = osc) (hc : X.env.cells = cellsFrom (L + 1) osc.names []) : CompScC X scope (clOf X.env.cells scope.names) x caps js := by
  unfold compOkC at h
  simp only [Bool.and_eq_true] at h
  obtain ⟨⟨⟨⟨⟨⟨h1, h2⟩, h3⟩, h4⟩, h5⟩, h6⟩, h7⟩ := h
  rw [List.all_eq_true] at h1 h7
  have hfree : ∀ y, (y, NameKind.free) ∈ scope.names → osc.names.lookup y = some .cell ∧ y ≠ x := fun y hy => by
    have q := h1 _ hy
    rw [Bool.and_eq_true, Bool.and_eq_true] at q
    have q : (osc.names.lookup y == some .cell && y != x) = true := q.2
    rw [Bool.and_eq_true] at q
    exact ⟨eq_of_beq q.1, bne_iff_ne.mp q.2⟩
  have hcell : ∀ y, osc.names.lookup y = some .cell → ∃ c, X.env.cells.lookup y = some c := fun y hy => by rw [hc]; exact cell_has hy
  have hfc : ∀ y, (y, NameKind.free) ∈ scope.names → ∃ c, X.env.cells.lookup y = some c := fun y hy => hcell y (hfree y hy).1
  have hk : X.env.scope.kind = .function := by rw [he]; exact eq_of_beq h3
  have hj : js.map (fun j => X.N[j]?) = caps.map some := eq_of_beq h6
  refine ⟨clos_of hfc, fun y c q => (mem_clOf.mp (PySem.mem_of_lookup q)).2, fun y q => ?_, ?_, fun y hy e => ?_, eq_of_beq h2, fun y hy e => ?_, eq_of_beq h4, of_decide_eq_true h5, ?_, fun k y q => ?_, fun y hy => ?_⟩
  · have : (y, NameKind.free) ∈ scope.names := by
      have mem : ∃ k, (y, k) ∈ (relabel scope X.env).names ∧ (k = .cell ∨ k = .free) := by
        rcases q with q | q
        · exact ⟨_, PySem.mem_of_lookup q, .inl rfl⟩
        · exact ⟨_, PySem.mem_of_lookup q, .inr rfl⟩
      obtain ⟨k, hm, hk'⟩ := mem
      obtain ⟨⟨n, k0⟩, hn, e⟩ := List.mem_map.mp hm
      have ncell : k0 ≠ .cell := fun z => by
        have q := h1 _ hn
        rw [Bool.and_eq_true, Bool.and_eq_true] at q
        exact absurd z (bne_iff_ne.mp q.1.1)
      dsimp only at e
      split at e
      · rename_i hz
        rw [Bool.and_eq_true, Bool.and_eq_true] at hz
        obtain rfl := eq_of_beq hz.1.1
        cases e
        exact hn
      · cases e
        rcases hk' with z | z
        · exact absurd z ncell
        · rw [z] at hn; exact hn
    obtain ⟨c, hc'⟩ := hfc y this
    exact mem_lookup (mem_clOf.mpr ⟨this, hc'⟩)
  · cases q : (clOf X.env.cells scope.names).lookup x with
    | none => rfl
    | some c => exact absurd rfl (hfree x (mem_clOf.mp (PySem.mem_of_lookup q)).1).2
  · have q := h1 y hy
    rw [Bool.and_eq_true, Bool.and_eq_true] at q
    exact absurd e (bne_iff_ne.mp q.1.1)
  · have q := h1 y hy
    rw [Bool.and_eq_true, Bool.and_eq_true, e] at q
    exact eq_of_beq (show (scope.names.lookup y.1 == some .local) = true from q.1.2)
  · have := congrArg List.length hj
    rwa [List.length_map, List.length_map] at this
  · have e : (js.map fun j => X.N[j]?)[k]? = (caps.map some)[k]? := by rw [hj]
    rw [List.getElem?_map, List.getElem?_map, q] at e
    obtain ⟨j, hj1, hj2⟩ := Option.map_eq_some_iff.mp e
    exact ⟨j, hj1, hj2⟩
  · have q := h7 y hy
    rw [Bool.and_eq_true] at q
    have q2 : X.env.scope.names.lookup y = some .cell := by rw [he]; exact eq_of_beq q.2
    exact ⟨lookup_relabel_free hk (eq_of_beq q.1) q2, q2⟩
def capS (ρ : DS) (js : List Nat) : DS := js.map fun j => match (ρ[j]? : Option Sl) with
  | Option.some (Sl.some d) => Sl.some d
  | _ => Sl.none
theorem rl_cap {K : PySem.W.Frag} {F : Addr → Prop} {W W2 : Vw} {ρ : DS} {σ : St} {js : List Nat} {d : Dt} {v : V} (r : Rl K F W ρ σ) (s2 : Same W.g W2.g) (i : Is K W2.g d v) : Rl K (fun _ => True) W2 (.some d :: capS ρ js) (some v :: capV σ js) := by
  have no : ∀ (j : Nat) (ds : List Dt), (Sl.some d :: capS ρ js)[j]? = some (.own ds) → False := fun j ds q => by
    match j, q with
    | 0, q => cases q
    | k + 1, q =>
      have q : (capS ρ js)[k]? = some (.own ds) := q
      unfold capS at q
      rw [List.getElem?_map] at q
      obtain ⟨j, _, e⟩ := Option.map_eq_some_iff.mp q
      split at e <;> cases e
  refine ⟨by unfold capS capV; rw [List.length_cons, List.length_cons, List.length_map, List.length_map], fun j e q => ?_, fun j ds q => (no j ds q).elim, fun j j' ds ds' _ q _ => (no j ds q).elim, fun _ _ => trivial⟩
  match j, q with
  | 0, q => cases q; exact ⟨v, rfl, i⟩
  | k + 1, q =>
    have q : (capS ρ js)[k]? = some (.some e) := q
    unfold capS at q
    rw [List.getElem?_map] at q
    obtain ⟨j, hj, e2⟩ := Option.map_eq_some_iff.mp q
    split at e2
    · rename_i d' hd
      cases e2
      obtain ⟨u, hu, iu⟩ := r.at_ j e hd
      refine ⟨u, ?_, Is.mono0 s2 iu⟩
      show (capV σ js)[k]? = _
      unfold capV
      rw [List.getElem?_map, hj]
      show some ((σ[j]?).getD none) = _
      rw [hu]
      rfl
    · cases e2
def dCompR (js : List Nat) (ta te : DTE) : DTE := fun ρ Q => ta ρ fun d => ∃ (m : Int) (Pv : Nat → List Dt → Prop), d = .int m ∧ -(2 ^ 62) ≤ m ∧ m ≤ 100000 ∧ Pv 0 [] ∧
  (∀ (i : Nat) es, i < m.toNat → Pv i es → te (.some (.int i) :: capS ρ js) fun y => Pv (i + 1) (es ++ [y])) ∧ ∀ es, Pv m.toNat es → Q (.lst es)
def iRngE (t : TE) : TI := fun σ H R => t σ H fun v H1 => ∃ j : Int, v = .int j ∧ -(2 ^ 62) ≤ j ∧ j < 2 ^ 62 ∧ R (Itr 0 j.toNat) H1
theorem li_compR {K : PySem.W.Frag} {tl te : TE} {t u : DTE} {js : List Nat} (h1 : LiE K tl t) (h2 : LiE K te u) : LiF K (tCompC (iRngE tl) te js) (dCompR js t u) := by
  intro F ρ σ H Q r h R k
  refine h1 ρ σ H _ r h _ fun d v W1 s1 i1 ⟨m, Pv, ed, hm0, hm, h0, ht, hd⟩ => ?_
  subst ed
  have r1 := r.mono s1
  refine ⟨m, is_int.mp i1, hm0, by omega, m.toNat, fun i v => v = .int i, Nat.lt_of_le_of_lt (show m.toNat ≤ 100000 by omega) (by decide), fun D hD => ?_⟩
  have gD : W1.g D = none := W1.sub.free hD
  refine ⟨fun i ys H2 => ∃ (W2 : Vw) (es : List Dt), W2.h = H2 ∧ Same W1.g W2.g ∧ Same W1.h (fun b => if b = D then none else W2.h b) ∧ (∀ b, W1.h b ≠ none → W1.g b = none → W2.g b = none) ∧ W2.h D = some (.lst ys) ∧ W2.g D = none ∧ AllIs K W2.g es ys ∧ ys.length = i ∧ Pv i es, ?_, ?_, ?_, ?_, ?_, ?_⟩
  · refine ⟨W1.mine D (.lst []) gD, [], rfl, Same.refl _, fun b o q => ?_, fun b _ q => q, upd_same, gD, allIs_nil.mpr rfl, rfl, h0⟩
    have hb : b ≠ D := fun e => by rw [e, hD] at q; cases q
    show (if b = D then none else upd W1.h D (.lst []) b) = some o
    rw [if_neg hb, upd_ne hb]
    exact q
  · rintro i ys _ _ ⟨W2, es, rfl, s2, _, _, q1, q2, _, q4, _⟩
    exact ⟨q1, q4⟩
  · rintro i ys H2 hi _
    refine ⟨hi, fun v H3 ⟨e1, e2⟩ => ⟨e1, ?_⟩⟩
    rw [Int.zero_add] at e2
    exact e2
  · rintro ys H2 _
    exact Nat.le_refl _
  · rintro i v ys _ hi rfl ⟨W2, es, rfl, s2, sh, sn, q1, q2, q3, q4, q5⟩
    refine h2 (F := fun _ => True) (.some (.int i) :: capS ρ js) (some (.int i) :: capV σ js) W2 _ (rl_cap r1 s2 (is_int.mpr rfl)) (ht i es hi q5) _ fun y w W3 s3 i3 q6 => ?_
    have g3 : W3.g D = none := s3.n D (by rw [q1]; intro z; cases z) q2
    refine ⟨s3.h _ _ q1, W3.mine D (.lst (ys ++ [w])) g3, es ++ [y], rfl, s2.trans s3.g, fun b o q => ?_, fun b z1 z2 => ?_, upd_same, g3, (q3.mono s3).append (allIs_cons.mpr ⟨w, [], rfl, i3, allIs_nil.mpr rfl⟩), by rw [List.length_append, q4]; rfl, q6⟩
    · have q' : (if b = D then none else W2.h b) = some o := sh b o q
      have hb : b ≠ D := fun e => by rw [e, hD] at q; cases q
      rw [if_neg hb] at q'
      show (if b = D then none else upd W3.h D (.lst (ys ++ [w])) b) = some o
      rw [if_neg hb, upd_ne hb]
      exact s3.h _ _ q'
    · have hb : b ≠ D := fun e => z1 (e ▸ hD)
      have z3 := sn b z1 z2
      refine s3.n b ?_ z3
      cases q : W1.h b with
      | none => exact absurd q z1
      | some o =>
        have q' : (if b = D then none else W2.h b) = some o := sh b o q
        rw [if_neg hb] at q'
        rw [q']
        intro z; cases z
  · rintro ys _ ⟨W2, es, rfl, s2, sh, sn, q1, q2, q3, _, q5⟩
    refine k es D ys W2 (s1.trans ⟨s2, fun b o q => ?_, sn⟩) (s1.h.free hD) q1 q2 q3 (hd es q5)
    have q' : (if b = D then none else W2.h b) = some o := sh b o q
    have hb : b ≠ D := fun e => by rw [e, hD] at q; cases q
    rwa [if_neg hb] at q'
section
variable {X : Cx} {fr : Bool} {osc scope : Scope} {x : Str} {caps : List Str} {js : List Nat} {N0 : List Str} {L : Addr} {a elt : Expr} {ta te : DTE} {px p0 pos pos1 : Pos}
theorem pi_rangeE {t : TE} {tg : Expr} (hg : Gl X "range") (hm : X.mg "range" = none) (p : PE X a t) (hst : starEach [a] X.env = [(false, eval a X.env)]) (hst2 : starEach [a] X.env = (false, eval a X.env) :: starEach [] X.env) : PI X tg (.Call (.Name "range" p0) [a] [] pos1) (iRngE t) := by
  intro pins s σ H R I h
  refine pi_range1 hg hm (pa_cons p pa_nil hst2) hst pins s σ H R I ?_
  refine (?_ : t σ H fun v H1 => ∃ j : Int, [v] = [V.int j] ∧ -(2 ^ 62) ≤ j ∧ j < 2 ^ 62 ∧ R (Itr 0 j.toNat) H1)
  have e : (fun (v : V) (H1 : Hp) => ∃ j : Int, v = V.int j ∧ -(2 ^ 62) ≤ j ∧ j < 2 ^ 62 ∧ R (Itr 0 j.toNat) H1) = fun v H1 => ∃ j : Int, [v] = [V.int j] ∧ -(2 ^ 62) ≤ j ∧ j < 2 ^ 62 ∧ R (Itr 0 j.toNat) H1 := by
    funext v H1
    refine propext ⟨fun ⟨j, q, z⟩ => ⟨j, by rw [q], z⟩, fun ⟨j, q, z⟩ => ⟨j, (List.cons.inj q).1, z⟩⟩
  rw [← e]
  exact h
theorem ds_setCompR {y : Str} {i : Nat} {py spos : Pos} (hc : X.calm = true) (S : compOkC osc scope x caps js N0 = true) (hN0 : X.N = N0) (he' : X.env.scope = osc) (hcs : X.env.cells = cellsFrom (L + 1) osc.names []) (hN : X.N.Nodup) (hi : X.N[i]? = some y) (hy : Loc X.env.scope y) (hg : Gl X "range") (hm : X.mg "range" = none) (hl : DE X a ta)
    (he : ∀ C s H fp pins, DE (cxCompC X scope (clOf X.env.cells scope.names) x caps C s H fp pins) elt te)
    (hsw : swapsWith (.ListComp elt [⟨.Name x px, .Call (.Name "range" p0) [a] [] pos1, [], 0⟩] scope pos) (some (.Name y py)) spos.line X.env = pure true := by rfl)
    (hs : ∀ y, foldedSetIterable (.Call (.Name "range" p0) [a] [] pos1) X.env y = pure y := by intro _; rfl)
    (hst : starEach [a] X.env = [(false, eval a X.env)] := by rfl) (hst2 : starEach [a] X.env = (false, eval a X.env) :: starEach [] X.env := by rfl)
    (hf : X.fn y = true ∨ X.env.scope.names.lookup y = some .local := by first | exact .inl rfl | exact .inr rfl | assumption) :
    DSt X fr (.Assign [.Name y py] (.ListComp elt [⟨.Name x px, .Call (.Name "range" p0) [a] [] pos1, [], 0⟩] scope pos) spos) (dSetO i (dCompR js ta te)) := by
  obtain ⟨tt, p, l⟩ := hl
  refine ⟨_, ps_setCompC hc (compScC (hN0 ▸ S) he' hcs) hN hi hy (pi_rangeE hg hm p hst hst2) (fun C s H fp pins => (he C s H fp pins).up) hsw hs hf, fun W0 G ρ σ W D D' a s h => li_compR l li_lift ρ σ W _ a.rl h _ fun es q xs W1 s1 h0 h1 h2 i1 ⟨ds, ed, q1⟩ => ?_⟩
  cases ed
  exact s.nx _ _ W1 (a.own s1 i h0 h1 h2 i1) q1
theorem ds_setCompRP {y : Str} {i : Nat} {py spos : Pos} (hc : X.calm = true) (S : compOkC osc scope x caps js N0 = true) (hN0 : X.N = N0) (he' : X.env.scope = osc) (hcs : X.env.cells = cellsFrom (L + 1) osc.names []) (hN : X.N.Nodup) (hi : X.N[i]? = some y) (hy : Loc X.env.scope y) (hg : Gl X "range") (hm : X.mg "range" = none) (hl : DE X a ta)
    (he : ∀ C s H fp pins, DE (cxCompC X scope (clOf X.env.cells scope.names) x caps C s H fp pins) elt te)
    (hsw : swapsWith (.ListComp elt [⟨.Name x px, .Call (.Name "range" p0) [a] [] pos1, [], 0⟩] scope pos) (some (.Name y py)) spos.line X.env = pure true := by rfl)
    (hs : ∀ y, foldedSetIterable (.Call (.Name "range" p0) [a] [] pos1) X.env y = pure y := by intro _; rfl)
    (hst : starEach [a] X.env = [(false, eval a X.env)] := by rfl) (hst2 : starEach [a] X.env = (false, eval a X.env) :: starEach [] X.env := by rfl)
    (hf : X.fn y = true ∨ X.env.scope.names.lookup y = some .local := by first | exact .inl rfl | exact .inr rfl | assumption) :
    DSt X fr (.Assign [.Name y py] (.ListComp elt [⟨.Name x px, .Call (.Name "range" p0) [a] [] pos1, [], 0⟩] scope pos) spos) (dSet i (dCompR js ta te)) := by
  obtain ⟨tt, p, l⟩ := hl
  exact ⟨_, ps_setCompC (te := liftE X.K te) hc (compScC (hN0 ▸ S) he' hcs) hN hi hy (pi_rangeE hg hm p hst hst2) (fun C s H fp pins => (he C s H fp pins).up) hsw hs hf, fun W0 G ρ σ W D D' a s h => LiF.le (li_compR l (li_lift (t := te))) ρ σ W _ a.rl h _ fun d v W1 s1 i1 q1 => s.nx _ _ W1 ((a.step s1).set i i1) q1⟩
end
section
variable {X : Cx} {a : Expr} {p0 pos : Pos}
end
end OD

namespace My
open PySem L2 OD

local macro_rules | `(tactic| walk_at "rd1") => `(tactic| first | refine ⟨_, rfl, ?_⟩ | refine ⟨_, _, rfl, rfl, ?_⟩ | refine ⟨_, _, _, _, rfl, rfl, rfl, ?_⟩ | refine ⟨_, _, _, rfl, rfl, rfl, ?_⟩ | refine iteT ?_ | refine iteF ?_ | refine ⟨rfl, rfl, ?_⟩ | refine ⟨rfl, ?_⟩ | refine ⟨cdivN (by decide), ?_⟩ | refine ⟨cmodN (by decide), ?_⟩ | refine ⟨cpowN (by decide), ?_⟩ | refine ⟨mulR (by decide), ?_⟩ | refine ⟨mulL (by decide), ?_⟩ | refine ⟨_, _, rfl, ?_⟩)
local macro_rules | `(tactic| walk_at "rd") => `(tactic| repeat (walk_at "rd1"))
theorem ifT {b : Bool} {A B : Prop} (e : b = true) (h : A) : if b = true then A else B := by rw [if_pos e]; exact h
theorem ifF {b : Bool} {A B : Prop} (e : b = false) (h : B) : if b = true then A else B := by rw [if_neg (by rw [e]; exact Bool.false_ne_true)]; exact h
theorem ifB {b : Bool} {A B : Prop} (h1 : b = true → A) (h2 : b = false → B) : if b = true then A else B := by
  cases b with
  | true => exact ifT rfl (h1 rfl)
  | false => exact ifF rfl (h2 rfl)
theorem eqI {a b : Int} (h : a = b) : eqD (.int a) (.int b) = true := by rw [eqD_int]; exact beq_iff_eq.mpr h
theorem neI {a b : Int} (h : a ≠ b) : eqD (.int a) (.int b) = false := by rw [eqD_int]; exact beq_eq_false_iff_ne.mpr h
theorem of_eqI {a b : Int} (h : eqD (.int a) (.int b) = true) : a = b := by rw [eqD_int] at h; exact beq_iff_eq.mp h
theorem of_neI {a b : Int} (h : eqD (.int a) (.int b) = false) : a ≠ b := by rw [eqD_int] at h; exact beq_eq_false_iff_ne.mp h
theorem nT {b : Bool} (h : b = true) : (!b) = false := by rw [h]; rfl
theorem nF {b : Bool} (h : b = false) : (!b) = true := by rw [h]; rfl
theorem of_nT {b : Bool} (h : (!b) = true) : b = false := by cases b <;> first | rfl | cases h
theorem of_nF {b : Bool} (h : (!b) = false) : b = true := by cases b <;> first | rfl | cases h
def rowD (ns : List Int) : Dt := .lst (ns.map Dt.int)
def trim (ns : List Int) : List Int := (ns.reverse.dropWhile (· == 0)).reverse
def S_cell : DSp := fun ds Q => ∃ ns k, ds = [.scr ns, .int k] ∧ 0 ≤ k ∧ ∀ z : Int, Q (.int z)
def S_law : DSp := fun ds Q => ∃ ns : List Int, ds = [.scr ns] ∧ ns.length ≤ 63 ∧ Q (.bl true)
theorem atI_row {xs : List Int} {k : Int} (h0 : 0 ≤ k) (h : k < xs.length) : atI (xs.map Dt.int) k = some (.int (xs.getD k.toNat 0)) := by
  have e : ((k.toNat : Nat) : Int) = k := Int.toNat_of_nonneg h0
  have hl : k.toNat < xs.length := by omega
  have := atI_nat (j := k.toNat) (xs := xs.map Dt.int) (v := .int (xs.getD k.toNat 0)) (by
    rw [List.getElem?_map, List.getElem?_eq_getElem hl, List.getD_eq_getElem?_getD, List.getElem?_eq_getElem hl]
    rfl)
  rwa [e] at this
theorem ixN_nat {n : Nat} {k : Int} (h0 : 0 ≤ k) (h : k < n) : ixN n k = some k.toNat := by
  unfold ixN
  rw [if_pos h0, if_pos h]
theorem ixN_neg1 {n : Nat} (h : 0 < n) : ixN n (-1) = some (n - 1) := by
  unfold ixN
  rw [if_neg (by decide), if_pos (by omega)]
  congr 1
  omega
theorem atI_last {xs : List Int} {z : Int} : atI ((xs ++ [z]).map Dt.int) (-1) = some (.int z) := by
  unfold atI
  rw [ixN_neg1 (by rw [List.length_map, List.length_append]; exact Nat.succ_pos _)]
  show ((xs ++ [z]).map Dt.int)[((xs ++ [z]).map Dt.int).length - 1]? = _
  rw [List.length_map, List.length_append, List.map_append, List.getElem?_append_right (by rw [List.length_map]; exact Nat.le_of_eq (Nat.add_sub_cancel ..).symm)]
  rw [List.length_map, show xs.length + [z].length - 1 - xs.length = 0 by simp]
  rfl
theorem all_ok {ns : List Int} {n : Nat} : (ns.map Dt.int).all (okE n) = true := by
  rw [List.all_eq_true]
  intro x hx
  obtain ⟨z, _, e⟩ := List.mem_map.mp hx
  subst e
  cases n <;> rfl
theorem okE_row9 (ns : List Int) : okE 39 (rowD ns) = true := all_ok (n := 38)
theorem cut_ints (ms : List Int) (lo hi : Option Int) : ∃ ms' : List Int, cutD (ms.map Dt.int) lo hi = ms'.map Dt.int ∧ ms'.length ≤ ms.length ∧ ∀ z ∈ ms', z ∈ ms := by
  unfold cutD
  rw [← List.map_drop, ← List.map_take]
  refine ⟨_, rfl, ?_, fun t ht => List.mem_of_mem_drop (List.mem_of_mem_take ht)⟩
  rw [List.length_take, List.length_drop]
  omega
theorem mem_ints {ns : List Int} {e : Dt} (h : e ∈ ns.map Dt.int) : ∃ z, e = .int z := by
  obtain ⟨z, _, q⟩ := List.mem_map.mp h
  exact ⟨z, q.symm⟩
theorem get_ints {ns : List Int} {i : Nat} {x : Dt} (h : (ns.map Dt.int)[i]? = some x) : x = .int (ns.getD i 0) ∧ i < ns.length := by
  rw [List.getElem?_map] at h
  cases q : ns[i]? with
  | none => rw [q] at h; cases h
  | some z =>
    rw [q] at h
    have hl : i < ns.length := by
      rcases Nat.lt_or_ge i ns.length with h | h
      · exact h
      · rw [List.getElem?_eq_none h] at q; cases q
    rw [List.getD_eq_getElem?_getD, q]
    exact ⟨(Option.some.inj h).symm, hl⟩
theorem app_ints (xs : List Int) (z : Int) : xs.map Dt.int ++ [.int z] = (xs ++ [z]).map Dt.int := by rw [List.map_append]; rfl
theorem set_ints (xs : List Int) (j : Nat) (z : Int) : (xs.map Dt.int).set j (.int z) = (xs.set j z).map Dt.int := by rw [List.map_set]
theorem drop_ints (xs : List Int) : (xs.map Dt.int).dropLast = xs.dropLast.map Dt.int := by rw [List.map_dropLast]
theorem len_ints (xs : List Int) : (xs.map Dt.int).length = xs.length := List.length_map _
theorem trim_nil : trim [] = [] := rfl
theorem trim_zero (xs : List Int) : trim (xs ++ [0]) = trim xs := by
  unfold trim
  rw [List.reverse_append]
  rfl
theorem trim_ne {xs : List Int} {z : Int} (h : z ≠ 0) : trim (xs ++ [z]) = xs ++ [z] := by
  unfold trim
  rw [List.reverse_append]
  show (List.dropWhile _ (z :: xs.reverse)).reverse = _
  rw [List.dropWhile_cons, if_neg (by simpa using h), List.reverse_cons, List.reverse_reverse]
theorem snoc_cases (xs : List Int) : xs = [] ∨ ∃ l z, xs = l ++ [z] := by
  rcases List.eq_nil_or_concat xs with h | ⟨l, z, h⟩
  · exact .inl h
  · exact .inr ⟨l, z, by rw [h, List.concat_eq_append]⟩
theorem trim_len (xs : List Int) : (trim xs).length ≤ xs.length := by
  unfold trim
  rw [List.length_reverse]
  refine Nat.le_trans (List.dropWhile_sublist _).length_le ?_
  rw [List.length_reverse]
  exact Nat.le_refl _
theorem while_trim {i : Nat} {D : DEnds} {ρ : DS} {ms : List Int} (hi : ρ[i]? = some (.own (ms.map Dt.int))) (q : D.nx (ρ.set i (.own ((trim ms).map Dt.int)))) :
    dWhile (dAnd (dTest (dOp (gI fun i j => Dt.bl (decide (j < i))) (dLenO i) (dC (Dt.int 0)))) (dTest (dOp gEq (dIxO i (dNeg (dC (Dt.int 1)))) (dC (Dt.int 0))))) (dPop i) D ρ := by
  have hl : i < ρ.length := by
    rcases Nat.lt_or_ge i ρ.length with h | h
    · exact h
    · rw [List.getElem?_eq_none h] at hi; cases hi
  refine ⟨fun m ρ' => ∃ l : List Int, ρ' = ρ.set i (.own (l.map Dt.int)) ∧ l.length = m ∧ trim l = trim ms, ⟨_, ms, ?_, rfl, rfl⟩, ?_⟩
  · apply List.ext_getElem?
    intro j
    by_cases hj : i = j
    · subst hj; rw [List.getElem?_set_self hl]; exact hi
    · rw [List.getElem?_set_ne hj]
  · rintro m ρ' ⟨l, rfl, rfl, ht⟩
    have hg : (ρ.set i (.own (l.map Dt.int)))[i]? = some (.own (l.map Dt.int)) := List.getElem?_set_self hl
    refine ⟨_, hg, _, _, rfl, rfl, _, rfl, ?_⟩
    rcases snoc_cases l with rfl | ⟨l', z, rfl⟩
    · refine ifF rfl (ifF rfl ?_)
      rw [← ht, trim_nil] at q
      exact q
    · refine ifT (by rw [decide_eq_true_iff, List.length_map, List.length_append]; simp) ?_
      refine ⟨_, hg, _, rfl, _, _, rfl, atI_last, rfl, rfl, _, rfl, ?_⟩
      by_cases hz : z = 0
      · refine ifT (eqI hz) ?_
        subst hz
        refine ⟨_, hg, by simp, l'.length, by rw [List.length_append]; exact Nat.lt_succ_self _, l', ?_, rfl, ?_⟩
        · rw [drop_ints, List.dropLast_concat, List.set_set]
        · rw [← ht, trim_zero]
      · refine ifF (neI hz) ?_
        rw [← ht, trim_ne hz] at q
        exact q
inductive Kd where | plain | below | balanced | growing | falling | pairs
def Kd.num : Kd → Int
  | .plain => 0 | .below => 1 | .balanced => 2 | .growing => 3 | .falling => 4 | .pairs => 5
def Kd.fld : Kd → Str
  | .plain => "base" | .below => "base" | .balanced => "half" | .growing => "first" | .falling => "most" | .pairs => "most"
def Kd.lo : Kd → Int
  | .plain => 2 | .below => 2 | .balanced => 1 | .growing => 2 | .falling => 1 | .pairs => 1
def Kd.hi : Kd → Int
  | .plain => 60 | .below => 60 | .balanced => 30 | .growing => 60 | .falling => 9 | .pairs => 9
def Kd.ok (k : Kd) (n : Int) : Prop := k.lo ≤ n ∧ n ≤ k.hi
def whole : Dt → Option Bool
  | .int _ => some true
  | .bl _ => some false
  | .tup _ => some false
  | .lst _ => some false
  | _ => none
def S_whole : DSp := fun ds Q => ∃ d b, ds = [d] ∧ whole d = some b ∧ Q (.bl b)
def S_bounded : DSp := fun ds Q => ∃ n lo hi, ds = [.int n, .int lo, .int hi] ∧ lo ≤ n ∧ n ≤ hi ∧ Q (.int n)
inductive Nm where | i (n : Int) | p (a b : Int)
def Nm.dt : Nm → Dt
  | .i n => .int n
  | .p a b => .tup [.int a, .int b]
def Nm.re : Nm → Int
  | .i n => n
  | .p a _ => a
def Nm.im : Nm → Int
  | .i _ => 0
  | .p _ b => b
def Nm.mul : Nm → Nm → Nm
  | .i a, .i b => .i (a * b)
  | m, n => .p (m.re * n.re - m.im * n.im) (m.re * n.im + m.im * n.re)
theorem small {n : Int} (h0 : -1000000 ≤ n) (h1 : n ≤ 1000000) (c : Int) : IntMulOk c n := mulR (by rw [decide_eq_true_iff]; omega)
theorem small' {n : Int} (h0 : -1000000 ≤ n) (h1 : n ≤ 1000000) (c : Int) : IntMulOk n c := mulL (by rw [decide_eq_true_iff]; omega)
def Kd.four : Kd → Bool
  | .plain => true | .below => true | .balanced => true | .growing => true | _ => false
def Kd.five : Kd → Bool
  | .falling => false | _ => true
def Kd.low : Kd → Int → Int → Int
  | .balanced, n, _ => -n
  | _, _, _ => 0
def Kd.high : Kd → Int → Int → Int
  | .plain, n, _ => n - 1
  | .below, n, _ => n - 1
  | .balanced, n, _ => n
  | .growing, n, p => n + p - 1
  | .falling, n, _ => n
  | .pairs, n, _ => n * n
def Kd.rat : Kd → Int → Int → Int
  | .plain, n, _ => n
  | .below, n, _ => -n
  | .balanced, n, _ => 2 * n + 1
  | .growing, n, p => n + p
  | _, _, _ => 0
def Kd.ratN : Kd → Int → Int → Nm
  | .pairs, n, _ => .p (-n) 1
  | k, n, p => .i (k.rat n p)
def Nm.add : Nm → Nm → Nm
  | .i a, .i b => .i (a + b)
  | m, n => .p (m.re + n.re) (m.im + n.im)
def Kd.zero : Kd → Nm
  | .pairs => .p 0 0
  | _ => .i 0
def wtF (n : Int) : Nat → Int × Int
  | 0 => (1, 1)
  | j + 1 => ((wtF n j).2, n * (wtF n j).2 + (wtF n j).1)
def wtR (k : Kd) (n : Int) : Nat → Nm
  | 0 => k.zero.add (.i 1)
  | j + 1 => (k.ratN n j).mul (wtR k n j)
def wt : Kd → Int → Nat → Nm
  | .falling, n, j => .i (wtF n j).2
  | k, n, j => wtR k n j
theorem ok_bd {k : Kd} {n : Int} (h : k.ok n) : 1 ≤ n ∧ n ≤ 60 := by
  obtain ⟨h1, h2⟩ := h
  cases k <;> simp only [Kd.lo, Kd.hi] at * <;> omega
theorem rat_bd {k : Kd} {n p : Int} (h : k.ok n) (p0 : 0 ≤ p) (p1 : p ≤ 1000) : -1000000 ≤ (k.ratN n p).re ∧ (k.ratN n p).re ≤ 1000000 ∧ -1000000 ≤ (k.ratN n p).im ∧ (k.ratN n p).im ≤ 1000000 := by
  obtain ⟨h1, h2⟩ := ok_bd h
  cases k <;> simp only [Kd.ratN, Kd.rat, Nm.re, Nm.im] <;> omega
theorem wt_five {k : Kd} {n : Int} {j : Nat} (h : k.five = true) : wt k n j = wtR k n j := by cases k <;> first | rfl | cases h
theorem ibits {a : Int} {k : Nat} (h : a.natAbs < 2 ^ k) : Builtin.Int.intBits a ≤ k := by
  rw [intBits_le_iff]
  exact h
def bdN (m : Nm) (k : Nat) : Prop := m.re.natAbs < 2 ^ k ∧ m.im.natAbs < 2 ^ k
theorem mulBig {a b : Int} {i j : Nat} (h : a.natAbs < 2 ^ i) (h' : b.natAbs < 2 ^ j) (hij : i + j ≤ 134217728) : IntMulOk a b := IntMulOk.of_le (ibits h) (ibits h') hij
def wsum (k : Kd) (n : Int) (ns : List Int) : Nat → Nm
  | 0 => k.zero
  | j + 1 => (wsum k n ns j).add ((Nm.i (ns.getD j 0)).mul (wt k n j))
def bdR (ns : List Int) : Prop := ∀ t ∈ ns, t.natAbs < 2 ^ 5000
theorem row_at {ns : List Int} {i : Nat} (h : i < ns.length) : atI (ns.map Dt.int) (i : Int) = some (.int (ns.getD i 0)) := by
  refine atI_nat ?_
  rw [List.getElem?_map, List.getElem?_eq_getElem h, List.getD_eq_getElem?_getD, List.getElem?_eq_getElem h]
  rfl
theorem bdR_get {ns : List Int} (h : bdR ns) (i : Nat) : (ns.getD i 0).natAbs < 2 ^ 5000 := by
  rw [List.getD_eq_getElem?_getD]
  cases q : ns[i]? with
  | none => exact Nat.two_pow_pos 5000
  | some z => exact h z (List.mem_of_getElem? q)
theorem wtF_bd {n : Int} (h1 : 1 ≤ n) (h2 : n ≤ 60) : ∀ j : Nat, (wtF n j).1.natAbs < 2 ^ (12 * j + 1) ∧ (wtF n j).2.natAbs < 2 ^ (12 * j + 1)
  | 0 => ⟨(by decide : (1 : Int).natAbs < 2 ^ 1), (by decide : (1 : Int).natAbs < 2 ^ 1)⟩
  | j + 1 => by
    obtain ⟨a, b⟩ := wtF_bd h1 h2 j
    have pw : 2 ^ (12 * (j + 1) + 1) = 2 ^ (12 * j + 1) * 4096 := by rw [show 12 * (j + 1) + 1 = (12 * j + 1) + 12 by omega, Nat.pow_add]
    rw [pw]
    unfold wtF
    dsimp only
    generalize 2 ^ (12 * j + 1) = B at *
    have hm : (n * (wtF n j).2).natAbs ≤ 60 * (wtF n j).2.natAbs := by
      rw [Int.natAbs_mul]
      exact Nat.mul_le_mul_right _ (by omega)
    have hs := Int.natAbs_add_le (n * (wtF n j).2) (wtF n j).1
    exact ⟨by omega, by omega⟩
theorem mul_re (r w : Nm) : (r.mul w).re = r.re * w.re - r.im * w.im := by cases r <;> cases w <;> simp [Nm.mul, Nm.re, Nm.im]
theorem mul_im (r w : Nm) : (r.mul w).im = r.re * w.im + r.im * w.re := by cases r <;> cases w <;> simp [Nm.mul, Nm.re, Nm.im]
theorem wtR_bd {k : Kd} {n : Int} (h : k.ok n) : ∀ j : Nat, j ≤ 1000 → bdN (wtR k n j) (12 * j + 1)
  | 0, _ => by cases k <;> exact ⟨(by decide : (1 : Int).natAbs < 2 ^ 1), (by decide : (0 : Int).natAbs < 2 ^ 1)⟩
  | j + 1, hj => by
    obtain ⟨a, b⟩ := wtR_bd h j (by omega)
    have pw : 2 ^ (12 * (j + 1) + 1) = 2 ^ (12 * j + 1) * 4096 := by rw [show 12 * (j + 1) + 1 = (12 * j + 1) + 12 by omega, Nat.pow_add]
    obtain ⟨r1, r2, r3, r4⟩ := rat_bd (p := (j : Int)) h (by omega) (by omega)
    have hr : (k.ratN n j).re.natAbs ≤ 2000 ∧ (k.ratN n j).im.natAbs ≤ 1 := by
      obtain ⟨h1, h2⟩ := ok_bd h
      cases k <;> simp only [Kd.ratN, Kd.rat, Nm.re, Nm.im] <;> constructor <;> omega
    unfold bdN
    rw [pw]
    unfold wtR
    generalize 2 ^ (12 * j + 1) = B at *
    generalize k.ratN n j = r at *
    generalize wtR k n j = w at *
    obtain ⟨c, d⟩ := hr
    have m1 : (r.re * w.re).natAbs ≤ 2000 * w.re.natAbs := by rw [Int.natAbs_mul]; exact Nat.mul_le_mul_right _ c
    have m2 : (r.im * w.im).natAbs ≤ 1 * w.im.natAbs := by rw [Int.natAbs_mul]; exact Nat.mul_le_mul_right _ d
    have m3 : (r.re * w.im).natAbs ≤ 2000 * w.im.natAbs := by rw [Int.natAbs_mul]; exact Nat.mul_le_mul_right _ c
    have m4 : (r.im * w.re).natAbs ≤ 1 * w.re.natAbs := by rw [Int.natAbs_mul]; exact Nat.mul_le_mul_right _ d
    have s1 : (r.re * w.re - r.im * w.im).natAbs ≤ (r.re * w.re).natAbs + (r.im * w.im).natAbs := by omega
    have s2 := Int.natAbs_add_le (r.re * w.im) (r.im * w.re)
    rw [mul_re, mul_im]
    exact ⟨by omega, by omega⟩
theorem wt_bd {k : Kd} {n : Int} (h : k.ok n) {j : Nat} (hj : j ≤ 1000) : bdN (wt k n j) (12 * j + 1) := by
  by_cases h5 : k.five = true
  · rw [wt_five h5]; exact wtR_bd h j hj
  · cases k with
    | falling =>
      obtain ⟨h1, h2⟩ := ok_bd h
      exact ⟨(wtF_bd h1 h2 j).2, show (0 : Int).natAbs < _ from Nat.two_pow_pos _⟩
    | _ => exact absurd rfl h5
theorem wt4 {k : Kd} {n : Int} (h : k.four = true) : ∀ j, ∃ w, wtR k n j = .i w
  | 0 => by cases k <;> cases h <;> exact ⟨_, rfl⟩
  | j + 1 => by
    obtain ⟨w, e⟩ := wt4 (n := n) h j
    unfold wtR
    rw [e]
    cases k <;> cases h <;> exact ⟨_, rfl⟩
theorem wtI {k : Kd} {n : Int} (h : k ≠ .pairs) (j : Nat) : ∃ w, wt k n j = .i w := by
  cases k with
  | pairs => exact absurd rfl h
  | falling => exact ⟨_, rfl⟩
  | _ => exact wt4 rfl _
def sF (k : Kd) (n : Int) (j : Nat) (t : Nm) : Int := match k with
  | .pairs => (t.re + n * t.im).fmod (n * n + 1)
  | k => k.low n j + (t.re - k.low n j).fmod (k.high n j - k.low n j + 1)
def sC (k : Kd) (n : Int) (j : Nat) (t : Nm) : Nm := match k with
  | .pairs => .p (((t.re - sF .pairs n j t) * (-n) - t.im * (-1)).fdiv (n * n + 1)) (((t.re - sF .pairs n j t) * (-1) + t.im * (-n)).fdiv (n * n + 1))
  | k => .i ((t.re - sF k n j t).fdiv (k.rat n j))
def Nm.ty (k : Kd) (m : Nm) : Prop := match k with
  | .pairs => ∃ a b, m = .p a b
  | _ => ∃ a, m = .i a
def tot (k : Kd) (m : Nm) : Prop := k ≠ .pairs → ∃ a, m = .i a
def cAt (k : Kd) (n : Int) (ts : List Nm) : Nat → Nm
  | 0 => k.zero
  | j + 1 => sC k n j ((cAt k n ts j).add (ts.getD j (.i 0)))
def hasN : Kd → Nm → Bool
  | .below, .i _ => true
  | .balanced, .i _ => true
  | .pairs, .p _ _ => true
  | .pairs, .i _ => false
  | _, .i a => decide (0 ≤ a)
  | _, .p _ _ => false
structure Fin (k : Kd) (n : Int) (ts : List Nm) (J : Nat) : Prop where
  le : ts.length ≤ J
  z : cAt k n ts J = k.zero
  nz : ∀ j, ts.length ≤ j → j < J → cAt k n ts j ≠ k.zero ∧ hasN k (cAt k n ts j) = true
def wF (k : Kd) (n : Int) (f : Nat → Int) : Nat → Nm
  | 0 => k.zero
  | j + 1 => (wF k n f j).add ((Nm.i (f j)).mul (wt k n j))
theorem add_re (m n : Nm) : (m.add n).re = m.re + n.re := by cases m <;> cases n <;> simp [Nm.add, Nm.re]
theorem mul_re' (r w : Nm) : (r.mul w).re = r.re * w.re - r.im * w.im := by cases r <;> cases w <;> simp [Nm.mul, Nm.re, Nm.im]
theorem mul_im' (r w : Nm) : (r.mul w).im = r.re * w.im + r.im * w.re := by cases r <;> cases w <;> simp [Nm.mul, Nm.re, Nm.im]
theorem ty_i {k : Kd} {m : Nm} (h : k ≠ .pairs) (t : m.ty k) : ∃ a, m = .i a := by
  cases k <;> first | exact t | exact absurd rfl h
theorem ty_of_i {k : Kd} {a : Int} (h : k ≠ .pairs) : (Nm.i a).ty k := by
  cases k <;> first | exact ⟨_, rfl⟩ | exact absurd rfl h
theorem zero_ty (k : Kd) : (k.zero).ty k := by cases k <;> first | exact ⟨_, rfl⟩ | exact ⟨_, _, rfl⟩
theorem zero_re (k : Kd) : (k.zero).re = 0 := by cases k <;> rfl
theorem sC_ty (k : Kd) (n : Int) (j : Nat) (t : Nm) : (sC k n j t).ty k := by
  cases k <;> first | exact ⟨_, rfl⟩ | exact ⟨_, _, rfl⟩
theorem cAt_ty (k : Kd) (n : Int) (ts : List Nm) : ∀ j, (cAt k n ts j).ty k
  | 0 => zero_ty k
  | j + 1 => sC_ty k n j _
theorem tot_getD {k : Kd} {ts : List Nm} (h : ∀ t ∈ ts, tot k t) (j : Nat) : tot k (ts.getD j (.i 0)) := by
  rw [List.getD_eq_getElem?_getD]
  cases q : ts[j]? with
  | none => exact fun _ => ⟨0, rfl⟩
  | some t => exact h t (List.mem_of_getElem? q)
theorem split_pos {lo t n : Int} (hn : 0 < n) : lo ≤ lo + (t - lo).fmod n ∧ lo + (t - lo).fmod n ≤ lo + n - 1 ∧ (lo + (t - lo).fmod n) + ((t - (lo + (t - lo).fmod n)).fdiv n) * n = t := by
  have h0 := Int.fmod_nonneg_of_pos (t - lo) hn
  have h1 := Int.fmod_lt_of_pos (t - lo) hn
  have e : t - (lo + (t - lo).fmod n) = n * (t - lo).fdiv n := by
    have := Int.fmod_def (t - lo) n
    omega
  refine ⟨by omega, by omega, ?_⟩
  have d : (t - (lo + (t - lo).fmod n)).fdiv n = (t - lo).fdiv n := by
    rw [e]
    exact Int.mul_fdiv_cancel_left _ (by omega)
  rw [d, Int.mul_comm]
  omega
theorem split_neg {lo t n : Int} (hn : 0 < n) : lo ≤ lo + (t - lo).fmod n ∧ lo + (t - lo).fmod n ≤ lo + n - 1 ∧ (lo + (t - lo).fmod n) + ((t - (lo + (t - lo).fmod n)).fdiv (-n)) * (-n) = t := by
  have h0 := Int.fmod_nonneg_of_pos (t - lo) hn
  have h1 := Int.fmod_lt_of_pos (t - lo) hn
  have e : t - (lo + (t - lo).fmod n) = (-n) * (-((t - lo).fdiv n)) := by
    have := Int.fmod_def (t - lo) n
    rw [Int.neg_mul_neg]
    omega
  refine ⟨by omega, by omega, ?_⟩
  have d : (t - (lo + (t - lo).fmod n)).fdiv (-n) = -((t - lo).fdiv n) := by
    rw [e]
    exact Int.mul_fdiv_cancel_left _ (by omega)
  rw [d, Int.neg_mul_neg, Int.mul_comm]
  have := Int.fmod_def (t - lo) n
  omega
theorem split_pair {a b m : Int} (N : Int) (hN : N = m * m + 1) (f : Int) (hf : f = (a + m * b).fmod N) (t0 t1 : Int) (h0 : t0 = (a - f) * (-m) - b * (-1)) (h1 : t1 = (a - f) * (-1) + b * (-m)) :
    0 ≤ f ∧ f ≤ m * m ∧ f - m * (t0.fdiv N) - t1.fdiv N = a ∧ t0.fdiv N - m * (t1.fdiv N) = b := by
  have sq : 0 ≤ m * m := by
    rcases Int.le_total 0 m with h | h
    · exact Int.mul_nonneg h h
    · exact Int.mul_nonneg_of_nonpos_of_nonpos h h
  have hp : 0 < N := by omega
  have g0 := Int.fmod_nonneg_of_pos (a + m * b) hp
  have g1 := Int.fmod_lt_of_pos (a + m * b) hp
  have e := Int.fmod_def (a + m * b) N
  rw [← hf] at e g0 g1
  generalize (a + m * b).fdiv N = q at e
  have e0 : t0 = N * (b - m * q) := by subst hN; grind
  have e1 : t1 = N * (-q) := by subst hN; grind
  have d0 : t0.fdiv N = b - m * q := by rw [e0]; exact Int.mul_fdiv_cancel_left _ (by omega)
  have d1 : t1.fdiv N = -q := by rw [e1]; exact Int.mul_fdiv_cancel_left _ (by omega)
  rw [d0, d1]
  refine ⟨g0, by omega, ?_, ?_⟩ <;> subst hN <;> grind
def Kd.size : Kd → Int → Int → Int
  | .plain, n, _ => n
  | .below, n, _ => n
  | .balanced, n, _ => 2 * n + 1
  | .growing, n, p => n + p
  | _, _, _ => 0
theorem four_of {k : Kd} (h5 : k.five = true) (hk : k ≠ .pairs) : k.four = true := by
  cases k <;> first | rfl | exact absurd rfl hk | cases h5
theorem size_eq {k : Kd} (h : k.four = true) (n p : Int) : k.high n p - k.low n p + 1 = k.size n p ∧ (k.rat n p = k.size n p ∨ k.rat n p = -(k.size n p)) := by
  cases k <;> cases h <;> simp only [Kd.high, Kd.low, Kd.size, Kd.rat] <;> refine ⟨by omega, ?_⟩ <;> first | exact .inl rfl | exact .inr rfl | exact .inr trivial | exact .inl trivial
theorem size_pos {k : Kd} {n : Int} (h : k.four = true) (hn : k.ok n) (j : Nat) : 2 ≤ k.size n j := by
  obtain ⟨h1, h2⟩ := hn
  cases k <;> cases h <;> simp only [Kd.lo, Kd.hi, Kd.size] at * <;> omega
theorem split_ok {k : Kd} {n : Int} {j : Nat} {t : Nm} (h5 : k.five = true) (hn : k.ok n) (ht : t.ty k) :
    k.low n j ≤ sF k n j t ∧ sF k n j t ≤ k.high n j ∧ t.re = sF k n j t + ((k.ratN n j).mul (sC k n j t)).re ∧ t.im = ((k.ratN n j).mul (sC k n j t)).im := by
  by_cases hk : k = .pairs
  · subst hk
    obtain ⟨g1, g2, g3, g4⟩ := split_pair (a := t.re) (b := t.im) (m := n) (n * n + 1) rfl _ rfl _ _ rfl rfl
    refine ⟨g1, g2, ?_, ?_⟩
    · rw [mul_re']
      show t.re = _ + (-n * _ - 1 * _)
      unfold sC sF Nm.re Nm.im at *
      dsimp only at *
      grind
    · rw [mul_im']
      show t.im = (-n * _ + 1 * _)
      unfold sC sF Nm.re Nm.im at *
      dsimp only at *
      grind
  · have h4 := four_of h5 hk
    obtain ⟨e1, e2⟩ := size_eq h4 n j
    have hp := size_pos h4 hn j
    obtain ⟨a, rfl⟩ := ty_i hk ht
    have eF : sF k n j (.i a) = k.low n j + (a - k.low n j).fmod (k.size n j) := by rw [← e1]; cases k <;> first | rfl | exact absurd rfl hk
    have eC : sC k n j (.i a) = .i ((a - sF k n j (.i a)).fdiv (k.rat n j)) := by cases k <;> first | rfl | exact absurd rfl hk
    have eR : k.ratN n j = .i (k.rat n j) := by cases k <;> first | rfl | exact absurd rfl hk
    have s1 := split_pos (lo := k.low n j) (t := a) (n := k.size n j) (by omega)
    have s2 := split_neg (lo := k.low n j) (t := a) (n := k.size n j) (by omega)
    rw [eC, eR, eF]
    refine ⟨s1.1, by have := s1.2.1; omega, ?_, rfl⟩
    show a = _ + k.rat n j * _
    rw [Int.mul_comm (k.rat n j)]
    rcases e2 with e | e
    · rw [e]; exact s1.2.2.symm
    · rw [e]; exact s2.2.2.symm
theorem wt_succ {k : Kd} {n : Int} (h5 : k.five = true) (j : Nat) : wt k n (j + 1) = (k.ratN n j).mul (wt k n j) := by
  cases k <;> first | rfl | cases h5
theorem add_z {k : Kd} {c : Nm} (h : c.ty k) : c.add (.i 0) = c := by
  by_cases hk : k = .pairs
  · subst hk
    obtain ⟨a, b, rfl⟩ := h
    show Nm.p (a + 0) (b + 0) = _
    rw [Int.add_zero, Int.add_zero]
  · obtain ⟨a, rfl⟩ := ty_i hk h
    show Nm.i (a + 0) = _
    rw [Int.add_zero]
theorem cAt_out {k : Kd} {n : Int} {ts : List Nm} {j : Nat} (h : ts.length ≤ j) : cAt k n ts (j + 1) = sC k n j (cAt k n ts j) := by
  have e : ts.getD j (.i 0) = .i 0 := by rw [List.getD_eq_getElem?_getD, List.getElem?_eq_none h]; rfl
  show sC k n j ((cAt k n ts j).add (ts.getD j (.i 0))) = _
  rw [e, add_z (cAt_ty k n ts j)]
theorem pos_step {s t f a : Int} (hs : 2 ≤ s) (f1 : 0 ≤ f) (f2 : f ≤ s - 1) (q : t = f + s * a) : 2 * a.natAbs ≤ t.natAbs + 1 ∧ (0 ≤ t → 0 ≤ a) ∧ (t.natAbs ≤ 1 → 0 ≤ t → a = 0) := by
  have hm : ∀ x : Int, 0 ≤ x → 2 * x ≤ s * x := fun x hx => Int.mul_le_mul_of_nonneg_right hs hx
  have e2 : s * (-a) = -(s * a) := Int.mul_neg ..
  have e3 : s * (-a - 1) = -(s * a) - s := by rw [Int.mul_sub, Int.mul_one, e2]
  rcases (by omega : 0 ≤ a ∨ a ≤ -1) with z | z
  · have := hm a z
    exact ⟨by omega, fun _ => z, fun _ _ => by omega⟩
  · have := hm (-a - 1) (by omega)
    exact ⟨by omega, fun _ => by omega, fun _ _ => by omega⟩
theorem step4 {k : Kd} {n : Int} {j : Nat} {t a : Int} (h4 : k.four = true) (hn : k.ok n) (e : sC k n j (.i t) = .i a) :
    2 * a.natAbs ≤ t.natAbs + 1 ∧ (hasN k (.i t) = true → hasN k (.i a) = true) ∧ (t.natAbs ≤ 1 → hasN k (.i t) = true → a = 0 ∨ (t = -1 ∧ a = 1)) := by
  have h5 : k.five = true := by cases k <;> first | rfl | cases h4
  have hk : k ≠ .pairs := fun z => by rw [z] at h4; cases h4
  obtain ⟨f1, f2, q, _⟩ := split_ok (j := j) h5 hn (t := .i t) (ty_of_i hk)
  rw [e, mul_re'] at q
  have hs := size_pos h4 hn j
  obtain ⟨h1, h2⟩ := hn
  generalize sF k n j (.i t) = f at *
  cases k with
  | falling => cases h4
  | pairs => cases h4
  | plain =>
    simp only [Kd.ratN, Kd.rat, Nm.re, Nm.im, Kd.low, Kd.high, Kd.size, hasN, decide_eq_true_iff] at *
    obtain ⟨p1, p2, p3⟩ := pos_step (t := t) (a := a) hs f1 f2 (by omega)
    exact ⟨p1, p2, fun x y => .inl (p3 x y)⟩
  | below =>
    simp only [Kd.ratN, Kd.rat, Nm.re, Nm.im, Kd.low, Kd.high, Kd.size, hasN] at *
    have q' : t = f - n * a := by rw [q, Int.neg_mul]; omega
    have hm : ∀ x : Int, 0 ≤ x → 2 * x ≤ n * x := fun x hx => Int.mul_le_mul_of_nonneg_right hs hx
    have e1 : n * (a - 1) = n * a - n := by rw [Int.mul_sub, Int.mul_one]
    have e2 : n * (-a) = -(n * a) := Int.mul_neg ..
    have e3 : n * (-a - 1) = -(n * a) - n := by rw [Int.mul_sub, Int.mul_one, e2]
    refine ⟨?_, fun _ => trivial, fun h3 _ => ?_⟩
    · rcases (by omega : 1 ≤ a ∨ a = 0 ∨ a ≤ -1) with z | z | z
      · have := hm (a - 1) (by omega); omega
      · omega
      · have := hm (-a) (by omega); omega
    · rcases (by omega : 2 ≤ a ∨ a = 1 ∨ a = 0 ∨ a ≤ -1) with z | z | z | z
      · have := hm (a - 1) (by omega); omega
      · subst z; omega
      · exact .inl z
      · have := hm (-a) (by omega); omega
  | balanced =>
    simp only [Kd.ratN, Kd.rat, Nm.re, Nm.im, Kd.low, Kd.high, Kd.size, hasN, Kd.lo] at *
    have q' : t = f + 2 * (n * a) + a := by rw [q, Int.add_mul, Int.mul_assoc]; omega
    have hm : ∀ x : Int, 0 ≤ x → x ≤ n * x := fun x hx => by
      have := Int.mul_le_mul_of_nonneg_right h1 hx
      omega
    have e1 : n * (a - 1) = n * a - n := by rw [Int.mul_sub, Int.mul_one]
    have e2 : n * (-a) = -(n * a) := Int.mul_neg ..
    have e3 : n * (-a - 1) = -(n * a) - n := by rw [Int.mul_sub, Int.mul_one, e2]
    have key : 2 * a.natAbs ≤ t.natAbs := by
      rcases (by omega : 1 ≤ a ∨ a = 0 ∨ a ≤ -1) with z | z | z
      · have := hm (a - 1) (by omega); have := hm a (by omega); omega
      · omega
      · have := hm (-a - 1) (by omega); have := hm (-a) (by omega); omega
    exact ⟨by omega, fun _ => trivial, fun _ _ => .inl (by omega)⟩
  | growing =>
    simp only [Kd.ratN, Kd.rat, Nm.re, Nm.im, Kd.low, Kd.high, Kd.size, hasN, decide_eq_true_iff] at *
    obtain ⟨p1, p2, p3⟩ := pos_step (t := t) (a := a) (s := n + (j : Int)) hs f1 (by omega) (by omega)
    exact ⟨p1, p2, fun x y => .inl (p3 x y)⟩
theorem zero4 {k : Kd} (h4 : k.four = true) : k.zero = .i 0 := by cases k <;> first | rfl | cases h4
theorem sC4 {k : Kd} {n : Int} {j : Nat} {t : Nm} (h4 : k.four = true) : ∃ a, sC k n j t = .i a := ty_i (fun z => by rw [z] at h4; cases h4) (sC_ty k n j t)
theorem ends4 {k : Kd} {n : Int} (h4 : k.four = true) (hn : k.ok n) : ∀ (b : Nat) (j : Nat) (c : Nat → Nm) (t : Int), c 0 = .i t → (∀ i, c (i + 1) = sC k n (j + i) (c i)) → hasN k (.i t) = true → t.natAbs ≤ 2 ^ b → ∃ m, m ≤ b + 2 ∧ c m = k.zero
  | 0, j, c, t, h0, hc, hh, hb => by
    obtain ⟨a, ea⟩ := sC4 (n := n) (j := j) (t := .i t) h4
    have e1 : c 1 = .i a := by rw [hc 0, h0]; exact ea
    obtain ⟨_, s2, s3⟩ := step4 h4 hn ea
    rcases s3 hb hh with z | ⟨_, z⟩
    · exact ⟨1, by omega, by rw [e1, z, zero4 h4]⟩
    · obtain ⟨a2, ea2⟩ := sC4 (n := n) (j := j + 1) (t := .i a) h4
      have e2 : c 2 = .i a2 := by rw [hc 1, e1]; exact ea2
      obtain ⟨_, _, s5⟩ := step4 h4 hn ea2
      rcases s5 (by omega) (s2 hh) with y | ⟨y, _⟩
      · exact ⟨2, by omega, by rw [e2, y, zero4 h4]⟩
      · omega
  | b + 1, j, c, t, h0, hc, hh, hb => by
    obtain ⟨a, ea⟩ := sC4 (n := n) (j := j) (t := .i t) h4
    have e1 : c 1 = .i a := by rw [hc 0, h0]; exact ea
    obtain ⟨s1, s2, _⟩ := step4 h4 hn ea
    have hp : 2 ^ (b + 1) = 2 * 2 ^ b := by rw [Nat.pow_succ]; omega
    obtain ⟨m, hm, e⟩ := ends4 h4 hn b (j + 1) (fun i => c (i + 1)) a e1 (fun i => by rw [hc (i + 1), show j + (i + 1) = j + 1 + i by omega]) (s2 hh) (by omega)
    exact ⟨m + 1, by omega, e⟩
theorem seq_has4 {k : Kd} {n : Int} (h4 : k.four = true) (hn : k.ok n) {j : Nat} {c : Nat → Nm} {t : Int} (h0 : c 0 = .i t) (hc : ∀ i, c (i + 1) = sC k n (j + i) (c i)) (hh : hasN k (.i t) = true) : ∀ i, ∃ a, c i = .i a ∧ hasN k (.i a) = true
  | 0 => ⟨t, h0, hh⟩
  | i + 1 => by
    obtain ⟨a, e, h⟩ := seq_has4 h4 hn h0 hc hh i
    obtain ⟨a', e'⟩ := sC4 (n := n) (j := j + i) (t := .i a) h4
    exact ⟨a', by rw [hc i, e]; exact e', (step4 h4 hn e').2.1 h⟩
def pA (n a b : Int) : Int := ((a - (a + n * b).fmod (n * n + 1)) * (-n) - b * (-1)).fdiv (n * n + 1)
def pB (n a b : Int) : Int := ((a - (a + n * b).fmod (n * n + 1)) * (-1) + b * (-n)).fdiv (n * n + 1)
theorem sC_p (n : Int) (j : Nat) (a b : Int) : sC .pairs n j (.p a b) = .p (pA n a b) (pB n a b) := rfl
def pz (n : Int) : Nat → Int → Int → Bool
  | 0, a, b => a == 0 && b == 0
  | m + 1, a, b => (a == 0 && b == 0) || pz n m (pA n a b) (pB n a b)
theorem pz_all : (List.range 9).all (fun n => (List.range 31).all fun a => (List.range 31).all fun b => pz ((n : Int) + 1) 14 ((a : Int) - 15) ((b : Int) - 15)) = true := by decide +kernel
theorem pz_at {n a b : Int} (n1 : 1 ≤ n) (n2 : n ≤ 9) (a1 : -15 ≤ a) (a2 : a ≤ 15) (b1 : -15 ≤ b) (b2 : b ≤ 15) : pz n 14 a b = true := by
  have h := List.all_eq_true.mp pz_all (n - 1).toNat (List.mem_range.mpr (by omega))
  have h := List.all_eq_true.mp h (a + 15).toNat (List.mem_range.mpr (by omega))
  have h := List.all_eq_true.mp h (b + 15).toNat (List.mem_range.mpr (by omega))
  rw [show (((n - 1).toNat : Nat) : Int) + 1 = n by omega, show (((a + 15).toNat : Nat) : Int) - 15 = a by omega, show (((b + 15).toNat : Nat) : Int) - 15 = b by omega] at h
  exact h
theorem pz_seq {n : Int} : ∀ (m j : Nat) (c : Nat → Nm) (a b : Int), c 0 = .p a b → (∀ i, c (i + 1) = sC .pairs n (j + i) (c i)) → pz n m a b = true → ∃ i, i ≤ m ∧ c i = Kd.zero .pairs
  | 0, j, c, a, b, h0, hc, h => by
    unfold pz at h
    rw [Bool.and_eq_true, beq_iff_eq, beq_iff_eq] at h
    exact ⟨0, Nat.le_refl _, by rw [h0, h.1, h.2]; rfl⟩
  | m + 1, j, c, a, b, h0, hc, h => by
    unfold pz at h
    rw [Bool.or_eq_true] at h
    rcases h with h | h
    · rw [Bool.and_eq_true, beq_iff_eq, beq_iff_eq] at h
      exact ⟨0, by omega, by rw [h0, h.1, h.2]; rfl⟩
    · obtain ⟨i, hi, e⟩ := pz_seq m (j + 1) (fun i => c (i + 1)) _ _ (by rw [hc 0, h0]; exact sC_p n _ a b) (fun i => by rw [hc (i + 1), show j + (i + 1) = j + 1 + i by omega]) h
      exact ⟨i + 1, by omega, e⟩
theorem norm_eq {n a b : Int} : ∃ f, 0 ≤ f ∧ f ≤ n * n ∧ (a - f) * (a - f) + b * b = (n * n + 1) * (pA n a b * pA n a b + pB n a b * pB n a b) := by
  obtain ⟨g1, g2, g3, g4⟩ := split_pair (a := a) (b := b) (m := n) (n * n + 1) rfl _ rfl _ _ rfl rfl
  refine ⟨_, g1, g2, ?_⟩
  have e1 : pA n a b = ((a - (a + n * b).fmod (n * n + 1)) * (-n) - b * (-1)).fdiv (n * n + 1) := rfl
  have e2 : pB n a b = ((a - (a + n * b).fmod (n * n + 1)) * (-1) + b * (-n)).fdiv (n * n + 1) := rfl
  rw [← e1, ← e2] at g3
  rw [← e1, ← e2] at g4
  generalize (a + n * b).fmod (n * n + 1) = f at *
  generalize pA n a b = x at *
  generalize pB n a b = y at *
  have ea : a - f = -(n * x) - y := by omega
  have eb : b = x - n * y := by omega
  rw [ea, eb]
  grind
theorem sq_nonneg (x : Int) : 0 ≤ x * x := by
  rcases Int.le_total 0 x with h | h
  · exact Int.mul_nonneg h h
  · exact Int.mul_nonneg_of_nonpos_of_nonpos h h
theorem far_ineq {n a b f : Int} (n1 : 1 ≤ n) (n2 : n ≤ 9) (f0 : 0 ≤ f) (f1 : f ≤ n * n) (h : ¬ (-15 ≤ a ∧ a ≤ 15 ∧ -15 ≤ b ∧ b ≤ 15)) : 8 * ((a - f) * (a - f) + b * b) ≤ 5 * ((n * n + 1) * (a * a + b * b)) := by
  have e1 : (a - f) * (a - f) = a * a - 2 * (a * f) + f * f := by grind
  have e2 : (n * n + 1) * (a * a + b * b) = (n * n) * (a * a + b * b) + (a * a + b * b) := by grind
  rw [e1, e2]
  have q1 : 1 ≤ n * n := by have := Int.mul_le_mul n1 n1 (by omega) (by omega); omega
  have q2 : n * n ≤ 81 := by have := Int.mul_le_mul n2 n2 (by omega) (by omega); omega
  have hff : f * f ≤ (n * n) * (n * n) := Int.mul_le_mul f1 f1 f0 (by omega)
  have hf0 : 0 ≤ f * f := sq_nonneg f
  -- a f from below
  have haf : -(a.natAbs : Int) * (n * n) ≤ a * f := by
    rcases Int.le_total 0 a with z | z
    · have z1 : 0 ≤ a * f := Int.mul_nonneg z f0
      have z2 : 0 ≤ a * (n * n) := Int.mul_nonneg z (by omega)
      rw [show (a.natAbs : Int) = a by omega, Int.neg_mul]
      omega
    · rw [show (a.natAbs : Int) = -a by omega, Int.neg_neg]
      exact Int.mul_le_mul_of_nonpos_left z f1
  have hA : (a.natAbs : Int) * a.natAbs = a * a := by
    rcases Int.le_total 0 a with z | z
    · rw [show (a.natAbs : Int) = a by omega]
    · rw [show (a.natAbs : Int) = -a by omega, Int.neg_mul_neg]
  have hB : (b.natAbs : Int) * b.natAbs = b * b := by
    rcases Int.le_total 0 b with z | z
    · rw [show (b.natAbs : Int) = b by omega]
    · rw [show (b.natAbs : Int) = -b by omega, Int.neg_mul_neg]
  have hAB : 16 ≤ (a.natAbs : Int) ∨ 16 ≤ (b.natAbs : Int) := by omega
  have hA0 : (0 : Int) ≤ (a.natAbs : Int) := Int.natCast_nonneg _
  rw [← hA, ← hB]
  generalize (a.natAbs : Int) = A at *
  generalize (b.natAbs : Int) = B at *
  have sB := sq_nonneg B
  have s4 := sq_nonneg (A - 4)
  have s2 := sq_nonneg (A - 2)
  have x4 : (A - 4) * (A - 4) = A * A - 8 * A + 16 := by grind
  have x2 : (A - 2) * (A - 2) = A * A - 4 * A + 4 := by grind
  rw [x4] at s4
  rw [x2] at s2
  have hb16 : 16 ≤ B → 256 ≤ B * B := fun z => by have := Int.mul_le_mul z z (by decide) (by omega); omega
  have ha16 : 16 ≤ A → 16 * A ≤ A * A := fun z => Int.mul_le_mul_of_nonneg_right z (by omega)
  rcases (by omega : n = 1 ∨ n = 2 ∨ n = 3 ∨ n = 4 ∨ n = 5 ∨ n = 6 ∨ n = 7 ∨ n = 8 ∨ n = 9) with z | z | z | z | z | z | z | z | z <;> subst z <;> rcases hAB with z | z <;> first | (have := ha16 z; omega) | (have := hb16 z; omega)
theorem norm_far {n a b : Int} (n1 : 1 ≤ n) (n2 : n ≤ 9) (h : ¬ (-15 ≤ a ∧ a ≤ 15 ∧ -15 ≤ b ∧ b ≤ 15)) : 8 * (pA n a b * pA n a b + pB n a b * pB n a b) ≤ 5 * (a * a + b * b) := by
  obtain ⟨f, f0, f1, e⟩ := norm_eq (n := n) (a := a) (b := b)
  have k := far_ineq n1 n2 f0 f1 h
  rw [e] at k
  have q1 : 0 < n * n + 1 := by have := sq_nonneg n; omega
  generalize pA n a b * pA n a b + pB n a b * pB n a b = X at *
  generalize a * a + b * b = Y at *
  generalize n * n + 1 = N at *
  have k' : N * (8 * X) ≤ N * (5 * Y) := by
    have r1 : N * (8 * X) = 8 * (N * X) := by grind
    have r2 : N * (5 * Y) = 5 * (N * Y) := by grind
    rw [r1, r2]; exact k
  exact Int.le_of_mul_le_mul_left k' q1
theorem endsP {n : Int} (n1 : 1 ≤ n) (n2 : n ≤ 9) : ∀ (d j : Nat) (c : Nat → Nm) (a b : Int), c 0 = .p a b → (∀ i, c (i + 1) = sC .pairs n (j + i) (c i)) → a * a + b * b ≤ ((2 ^ d : Nat) : Int) → ∃ m, m ≤ 2 * d + 16 ∧ c m = Kd.zero .pairs := by
  intro d
  induction d with
  | zero =>
    intro j c a b h0 hc hb
    have sa := sq_nonneg a
    have sb := sq_nonneg b
    have hb' : a * a + b * b ≤ 1 := hb
    have ha : -15 ≤ a ∧ a ≤ 15 := by
      constructor
      · rcases Int.lt_or_le a (-15) with z | z
        · have := Int.mul_le_mul (show 16 ≤ -a by omega) (show 16 ≤ -a by omega) (by decide) (by omega)
          rw [Int.neg_mul_neg] at this; omega
        · exact z
      · rcases Int.lt_or_le 15 a with z | z
        · have := Int.mul_le_mul (show 16 ≤ a by omega) (show 16 ≤ a by omega) (by decide) (by omega)
          omega
        · exact z
    have hbb : -15 ≤ b ∧ b ≤ 15 := by
      constructor
      · rcases Int.lt_or_le b (-15) with z | z
        · have := Int.mul_le_mul (show 16 ≤ -b by omega) (show 16 ≤ -b by omega) (by decide) (by omega)
          rw [Int.neg_mul_neg] at this; omega
        · exact z
      · rcases Int.lt_or_le 15 b with z | z
        · have := Int.mul_le_mul (show 16 ≤ b by omega) (show 16 ≤ b by omega) (by decide) (by omega)
          omega
        · exact z
    obtain ⟨i, hi, e⟩ := pz_seq 14 j c a b h0 hc (pz_at n1 n2 ha.1 ha.2 hbb.1 hbb.2)
    exact ⟨i, by omega, e⟩
  | succ d ih =>
    intro j c a b h0 hc hb
    by_cases hin : -15 ≤ a ∧ a ≤ 15 ∧ -15 ≤ b ∧ b ≤ 15
    · obtain ⟨i, hi, e⟩ := pz_seq 14 j c a b h0 hc (pz_at n1 n2 hin.1 hin.2.1 hin.2.2.1 hin.2.2.2)
      exact ⟨i, by omega, e⟩
    · have e1 : c 1 = .p (pA n a b) (pB n a b) := by rw [hc 0, h0]; exact sC_p n _ a b
      have k1 := norm_far n1 n2 hin
      by_cases hin2 : -15 ≤ pA n a b ∧ pA n a b ≤ 15 ∧ -15 ≤ pB n a b ∧ pB n a b ≤ 15
      · obtain ⟨i, hi, e⟩ := pz_seq 14 (j + 1) (fun i => c (i + 1)) _ _ e1 (fun i => by rw [hc (i + 1), show j + (i + 1) = j + 1 + i by omega]) (pz_at n1 n2 hin2.1 hin2.2.1 hin2.2.2.1 hin2.2.2.2)
        exact ⟨i + 1, by omega, e⟩
      · have k2 := norm_far n1 n2 hin2
        have e2 : c 2 = .p (pA n (pA n a b) (pB n a b)) (pB n (pA n a b) (pB n a b)) := by rw [hc 1, e1]; exact sC_p n _ _ _
        have hp : ((2 ^ (d + 1) : Nat) : Int) = 2 * ((2 ^ d : Nat) : Int) := by rw [Nat.pow_succ]; omega
        have h2 : (0 : Int) ≤ ((2 ^ d : Nat) : Int) := Int.natCast_nonneg _
        obtain ⟨m, hm, e⟩ := ih (j + 2) (fun i => c (i + 2)) _ _ e2 (fun i => by rw [hc (i + 2), show j + (i + 2) = j + 2 + i by omega]) (by omega)
        exact ⟨m + 2, by omega, e⟩
theorem sC_bd4 {k : Kd} {n : Int} {j : Nat} {c t : Nm} {T : Nat} (h4 : k.four = true) (hn : k.ok n) (hc : c.ty k) (ht : tot k t) (b1 : c.re.natAbs ≤ T + 1) (b2 : t.re.natAbs ≤ T) : (sC k n j (c.add t)).re.natAbs ≤ T + 1 := by
  have hk : k ≠ .pairs := fun z => by rw [z] at h4; cases h4
  obtain ⟨x, rfl⟩ := ty_i hk hc
  obtain ⟨y, rfl⟩ := ht hk
  obtain ⟨a, ea⟩ := sC4 (n := n) (j := j) (t := .i (x + y)) h4
  have e : (Nm.i x).add (.i y) = .i (x + y) := rfl
  rw [e, ea]
  have := (step4 h4 hn ea).1
  simp only [Nm.re] at *
  omega
theorem cAt_bd4 {k : Kd} {n : Int} {ts : List Nm} {T : Nat} (h4 : k.four = true) (hn : k.ok n) (ht : ∀ t ∈ ts, tot k t) (hb : ∀ t ∈ ts, t.re.natAbs ≤ T) : ∀ j, (cAt k n ts j).re.natAbs ≤ T + 1
  | 0 => by
    show (k.zero).re.natAbs ≤ _
    rw [zero_re]
    exact Nat.zero_le _
  | j + 1 => by
    refine sC_bd4 h4 hn (cAt_ty k n ts j) (tot_getD ht j) (cAt_bd4 h4 hn ht hb j) ?_
    rw [List.getD_eq_getElem?_getD]
    cases q : ts[j]? with
    | none => exact Nat.zero_le _
    | some t => exact hb t (List.mem_of_getElem? q)
theorem sq_le {x T : Int} (h1 : -T ≤ x) (h2 : x ≤ T) : x * x ≤ T * T := by
  rcases Int.le_total 0 x with z | z
  · exact Int.mul_le_mul h2 h2 z (by omega)
  · have := Int.mul_le_mul (show -x ≤ T by omega) (show -x ≤ T by omega) (by omega) (by omega)
    rwa [Int.neg_mul_neg] at this
theorem norm_step {n a b x y T : Int} (hT : 81 ≤ T) (n1 : 1 ≤ n) (n2 : n ≤ 9) (hx1 : -T ≤ x) (hx2 : x ≤ T) (hy1 : -T ≤ y) (hy2 : y ≤ T) (h : a * a + b * b ≤ 30 * (T * T)) :
    pA n (a + x) (b + y) * pA n (a + x) (b + y) + pB n (a + x) (b + y) * pB n (a + x) (b + y) ≤ 30 * (T * T) := by
  obtain ⟨f, f0, f1, e⟩ := norm_eq (n := n) (a := a + x) (b := b + y)
  have q1 : 1 ≤ n * n := by have := Int.mul_le_mul n1 n1 (by omega) (by omega); omega
  have q2 : n * n ≤ 81 := by have := Int.mul_le_mul n2 n2 (by omega) (by omega); omega
  generalize pA n (a + x) (b + y) * pA n (a + x) (b + y) + pB n (a + x) (b + y) * pB n (a + x) (b + y) = X at *
  have hX : 2 * X ≤ (n * n + 1) * X ∨ X < 0 := by
    rcases Int.lt_or_le X 0 with z | z
    · exact .inr z
    · exact .inl (Int.mul_le_mul_of_nonneg_right (by omega) z)
  -- (a + x - f)^2 <= 3/2 a^2 + 3 (x - f)^2
  have r1 : 2 * ((a + x - f) * (a + x - f)) ≤ 3 * (a * a) + 6 * ((x - f) * (x - f)) := by
    have := sq_nonneg (a - 2 * (x - f))
    have e1 : (a - 2 * (x - f)) * (a - 2 * (x - f)) = a * a - 4 * (a * (x - f)) + 4 * ((x - f) * (x - f)) := by grind
    have e2 : (a + x - f) * (a + x - f) = a * a + 2 * (a * (x - f)) + (x - f) * (x - f) := by grind
    omega
  have r2 : 2 * ((b + y) * (b + y)) ≤ 3 * (b * b) + 6 * (y * y) := by
    have := sq_nonneg (b - 2 * y)
    have e1 : (b - 2 * y) * (b - 2 * y) = b * b - 4 * (b * y) + 4 * (y * y) := by grind
    have e2 : (b + y) * (b + y) = b * b + 2 * (b * y) + y * y := by grind
    omega
  have s1 : (x - f) * (x - f) ≤ (2 * T) * (2 * T) := sq_le (by omega) (by omega)
  have s2 : y * y ≤ T * T := sq_le hy1 hy2
  have s3 : (2 * T) * (2 * T) = 4 * (T * T) := by grind
  have s4 := sq_nonneg T
  omega
theorem cAt_bdP {n : Int} {ts : List Nm} {T : Nat} (hT : 81 ≤ T) (hn : Kd.pairs.ok n) (hb : ∀ t ∈ ts, t.re.natAbs ≤ T ∧ t.im.natAbs ≤ T) : ∀ j, ∃ a b, cAt .pairs n ts j = .p a b ∧ a * a + b * b ≤ 30 * ((T : Int) * T)
  | 0 => ⟨0, 0, rfl, by have := sq_nonneg (T : Int); omega⟩
  | j + 1 => by
    obtain ⟨a, b, e, h⟩ := cAt_bdP hT hn hb j
    have ht : (ts.getD j (.i 0)).re.natAbs ≤ T ∧ (ts.getD j (.i 0)).im.natAbs ≤ T := by
      rw [List.getD_eq_getElem?_getD]
      cases q : ts[j]? with
      | none => exact ⟨Nat.zero_le _, Nat.zero_le _⟩
      | some t => exact hb t (List.mem_of_getElem? q)
    have ea : (Nm.p a b).add (ts.getD j (.i 0)) = .p (a + (ts.getD j (.i 0)).re) (b + (ts.getD j (.i 0)).im) := by
      cases ts.getD j (.i 0) <;> rfl
    refine ⟨_, _, by show sC .pairs n j ((cAt .pairs n ts j).add _) = _; rw [e, ea]; exact sC_p .., ?_⟩
    have h1 : (1 : Int) ≤ n := hn.1
    have h2 : n ≤ 9 := hn.2
    exact norm_step (by omega) h1 h2 (by omega) (by omega) (by omega) (by omega) h
theorem least {P : Nat → Prop} : ∀ (m : Nat), P m → ∃ i, i ≤ m ∧ P i ∧ ∀ l, l < i → ¬ P l := by
  intro m
  induction m using Nat.strongRecOn with
  | ind m ih =>
    intro h
    by_cases hx : ∃ l, l < m ∧ P l
    · obtain ⟨l, hl, pl⟩ := hx
      obtain ⟨i, hi, h2⟩ := ih l hl pl
      exact ⟨i, by omega, h2⟩
    · exact ⟨m, Nat.le_refl _, h, fun l hl pl => hx ⟨l, hl, pl⟩⟩
theorem settles {k : Kd} {n : Int} {ts : List Nm} {b : Nat} (h5 : k.five = true) (hn : k.ok n) (ht : ∀ t ∈ ts, tot k t) (hb : ∀ t ∈ ts, t.re.natAbs ≤ 2 ^ b ∧ t.im.natAbs ≤ 2 ^ b) (b7 : 7 ≤ b) (hh : hasN k (cAt k n ts ts.length) = true) :
    ∃ J, Fin k n ts J ∧ J ≤ ts.length + 4 * b + 30 := by
  have hpow : 2 ^ (b + 1) = 2 * 2 ^ b := by rw [Nat.pow_succ]; omega
  have h128 : 128 ≤ 2 ^ b := Nat.pow_le_pow_right (by decide : 0 < 2) b7
  have main : ∃ m, m ≤ 4 * b + 30 ∧ cAt k n ts (ts.length + m) = k.zero ∧ ∀ i, hasN k (cAt k n ts (ts.length + i)) = true := by
    have hc : ∀ i, cAt k n ts (ts.length + (i + 1)) = sC k n (ts.length + i) (cAt k n ts (ts.length + i)) := fun i => cAt_out (j := ts.length + i) (by omega)
    by_cases hk : k = .pairs
    · subst hk
      obtain ⟨x, y, e, hxy⟩ := cAt_bdP (T := 2 ^ b) (by omega) hn hb ts.length
      have hbig : 30 * (((2 ^ b : Nat) : Int) * ((2 ^ b : Nat) : Int)) ≤ ((2 ^ (2 * b + 5) : Nat) : Int) := by
        have : 2 ^ (2 * b + 5) = 32 * (2 ^ b * 2 ^ b) := by rw [← Nat.pow_add, show 2 * b + 5 = (b + b) + 5 by omega, Nat.pow_add]; omega
        rw [this, ← Int.natCast_mul]
        omega
      obtain ⟨m, hm, em⟩ := endsP hn.1 hn.2 (2 * b + 5) ts.length (fun i => cAt .pairs n ts (ts.length + i)) x y e hc (Int.le_trans hxy hbig)
      refine ⟨m, by omega, em, fun i => ?_⟩
      obtain ⟨u, v, e'⟩ := cAt_ty .pairs n ts (ts.length + i)
      rw [e']
      rfl
    · have h4 := four_of h5 hk
      obtain ⟨t, et⟩ := ty_i hk (cAt_ty k n ts ts.length)
      rw [et] at hh
      have bd := cAt_bd4 h4 hn ht (fun t h => (hb t h).1) ts.length
      rw [et] at bd
      have bd' : t.natAbs ≤ 2 ^ b + 1 := bd
      obtain ⟨m, hm, em⟩ := ends4 h4 hn (b + 1) ts.length (fun i => cAt k n ts (ts.length + i)) t et hc hh (by omega)
      refine ⟨m, by omega, em, fun i => ?_⟩
      obtain ⟨a, e', h'⟩ := seq_has4 h4 hn (c := fun i => cAt k n ts (ts.length + i)) et hc hh i
      have e' : cAt k n ts (ts.length + i) = .i a := e'
      rw [e']
      exact h'
  obtain ⟨m, hm, em, hall⟩ := main
  obtain ⟨i, hi, pi, hl⟩ := least (P := fun i => cAt k n ts (ts.length + i) = k.zero) m em
  refine ⟨ts.length + i, ⟨by omega, pi, fun j h1 h2 => ?_⟩, by omega⟩
  have e : j = ts.length + (j - ts.length) := by omega
  rw [e]
  exact ⟨hl _ (by omega), hall _⟩
def Kd.isF : Kd → Bool
  | .falling => true
  | _ => false
structure Legal (k : Kd) (n : Int) (r : List Int) : Prop where
  fig : ∀ p, p < r.length → k.low n p ≤ r.getD p 0 ∧ r.getD p 0 ≤ k.high n p
  fal : k.isF = true → ∀ p, p + 1 < r.length → r.getD (p + 1) 0 = n → r.getD p 0 = 0
  end_ : r = [] ∨ r.getD (r.length - 1) 0 ≠ 0
open Classical in
noncomputable def legal (k : Kd) (n : Int) (r : List Int) : Bool := decide (Legal k n r)
open Classical in
theorem legal_t {k : Kd} {n : Int} {r : List Int} (h : Legal k n r) : legal k n r = true := by unfold legal; exact decide_eq_true h
open Classical in
theorem legal_f {k : Kd} {n : Int} {r : List Int} (h : ¬ Legal k n r) : legal k n r = false := by unfold legal; exact decide_eq_false h
structure Lg (k : Kd) (n : Int) (r : List Int) : Prop where
  fig : ∀ p, p < r.length → k.low n p ≤ r.getD p 0 ∧ r.getD p 0 ≤ k.high n p
  fal : k.isF = true → ∀ p, p + 1 < r.length → r.getD (p + 1) 0 = n → r.getD p 0 = 0
theorem low_le {k : Kd} {n : Int} (h : k.ok n) (p : Nat) : k.low n p ≤ 0 ∧ 0 ≤ k.high n p := by
  obtain ⟨h1, h2⟩ := h
  cases k <;> simp only [Kd.lo, Kd.hi, Kd.low, Kd.high] at * <;> first | omega | exact ⟨Int.le_refl _, Int.mul_nonneg (by omega) (by omega)⟩
theorem getD_snoc_lt {r : List Int} {z : Int} {p : Nat} (h : p < r.length) : (r ++ [z]).getD p 0 = r.getD p 0 := by
  rw [List.getD_eq_getElem?_getD, List.getD_eq_getElem?_getD, List.getElem?_append_left h]
theorem getD_snoc_eq {r : List Int} {z : Int} : (r ++ [z]).getD r.length 0 = z := by
  rw [List.getD_eq_getElem?_getD, List.getElem?_append_right (Nat.le_refl _)]
  simp
theorem Lg.nil (k : Kd) (n : Int) : Lg k n [] := ⟨fun p h => absurd h (Nat.not_lt_zero _), fun _ p h => absurd h (Nat.not_lt_zero _)⟩
theorem Lg.pop {k : Kd} {n : Int} {r : List Int} {z : Int} (h : Lg k n (r ++ [z])) : Lg k n r := by
  refine ⟨fun p hp => ?_, fun hk p hp => ?_⟩
  · have := h.fig p (by rw [List.length_append]; omega)
    rwa [getD_snoc_lt hp] at this
  · have := h.fal hk p (by rw [List.length_append]; omega)
    rwa [getD_snoc_lt hp, getD_snoc_lt (by omega)] at this
theorem Lg.trim {k : Kd} {n : Int} : ∀ {r : List Int}, Lg k n r → Legal k n (trim r) := by
  intro r
  generalize hl : r.length = m
  induction m generalizing r with
  | zero =>
    intro h
    obtain rfl : r = [] := List.length_eq_zero_iff.mp hl
    exact ⟨h.fig, h.fal, .inl rfl⟩
  | succ m ih =>
    intro h
    rcases snoc_cases r with rfl | ⟨l, z, rfl⟩
    · cases hl
    · by_cases hz : z = 0
      · subst hz
        rw [trim_zero]
        exact ih (by rw [List.length_append] at hl; exact Nat.succ.inj hl) h.pop
      · rw [trim_ne hz]
        exact ⟨h.fig, h.fal, .inr (by rw [List.length_append]; exact fun e => hz (by rw [← e]; exact getD_snoc_eq.symm))⟩
theorem Lg.push {k : Kd} {n z : Int} {r : List Int} (h : Lg k n r) (hz : k.low n r.length ≤ z ∧ z ≤ k.high n r.length) (hf : k.isF = true → z = n → r = [] ∨ r.getD (r.length - 1) 0 = 0) : Lg k n (r ++ [z]) := by
  refine ⟨fun p hp => ?_, fun hk p hp e => ?_⟩
  · rw [List.length_append] at hp
    rcases (by simp at hp; omega : p < r.length ∨ p = r.length) with q | q
    · rw [getD_snoc_lt q]; exact h.fig p q
    · subst q; rw [getD_snoc_eq]; exact hz
  · rw [List.length_append] at hp
    rcases (by simp at hp; omega : p + 1 < r.length ∨ p + 1 = r.length) with q | q
    · rw [getD_snoc_lt q] at e
      rw [getD_snoc_lt (by omega)]
      exact h.fal hk p q e
    · rw [q, getD_snoc_eq] at e
      rw [getD_snoc_lt (by omega)]
      rcases hf hk e with z | z
      · rw [z] at q; cases q
      · rw [show r.length - 1 = p by omega] at z; exact z
theorem getD_set_ne {r : List Int} {i j : Nat} {z : Int} (h : i ≠ j) : (r.set i z).getD j 0 = r.getD j 0 := by
  rw [List.getD_eq_getElem?_getD, List.getD_eq_getElem?_getD, List.getElem?_set_ne h]
theorem getD_set_eq {r : List Int} {i : Nat} {z : Int} (h : i < r.length) : (r.set i z).getD i 0 = z := by
  rw [List.getD_eq_getElem?_getD, List.getElem?_set_self h]
  rfl
theorem Lg.zero {k : Kd} {n : Int} {r : List Int} (hn : k.ok n) (h : Lg k n r) : Lg k n (r.set (r.length - 1) 0) := by
  refine ⟨fun p hp => ?_, fun hk p hp e => ?_⟩
  · rw [List.length_set] at hp
    by_cases q : r.length - 1 = p
    · subst q; rw [getD_set_eq hp]; exact low_le hn _
    · rw [getD_set_ne q]; exact h.fig p hp
  · rw [List.length_set] at hp
    have n1 : n ≠ 0 := by have := hn.1; cases k <;> simp only [Kd.lo] at this <;> omega
    by_cases q : r.length - 1 = p + 1
    · rw [← q, getD_set_eq (by omega)] at e; exact absurd e.symm n1
    · rw [getD_set_ne q] at e
      rw [getD_set_ne (by omega)]
      exact h.fal hk p hp e
theorem wsum_wF (k : Kd) (n : Int) (ns : List Int) : ∀ j, wsum k n ns j = wF k n (fun i => ns.getD i 0) j
  | 0 => rfl
  | j + 1 => by unfold wsum wF; rw [wsum_wF k n ns j]
theorem wF_congr {k : Kd} {n : Int} {f g : Nat → Int} : ∀ j, (∀ i, i < j → f i = g i) → wF k n f j = wF k n g j
  | 0, _ => rfl
  | j + 1, h => by
    unfold wF
    rw [wF_congr j fun i hi => h i (by omega), h j (by omega)]
def worthR (k : Kd) (n : Int) (r : List Int) : Nm := wsum k n r r.length
theorem wsum_snoc_lt {k : Kd} {n : Int} {l : List Int} {z : Int} {j : Nat} (h : j ≤ l.length) : wsum k n (l ++ [z]) j = wsum k n l j := by
  rw [wsum_wF, wsum_wF]
  exact wF_congr j fun i hi => getD_snoc_lt (by omega)
theorem worthR_snoc (k : Kd) (n : Int) (l : List Int) (z : Int) : worthR k n (l ++ [z]) = (worthR k n l).add ((Nm.i z).mul (wt k n l.length)) := by
  unfold worthR
  rw [List.length_append]
  show (wsum k n (l ++ [z]) l.length).add ((Nm.i ((l ++ [z]).getD l.length 0)).mul (wt k n l.length)) = _
  rw [wsum_snoc_lt (Nat.le_refl _), getD_snoc_eq]
def wf (n : Int) (j : Nat) : Int := (wtF n j).2
theorem wf_0 (n : Int) : wf n 0 = 1 := rfl
theorem wf_1 (n : Int) : wf n 1 = n + 1 := by show n * 1 + 1 = _; rw [Int.mul_one]
theorem wf_2 (n : Int) (j : Nat) : wf n (j + 2) = n * wf n (j + 1) + wf n j := rfl
theorem wf_pos {n : Int} (h : 1 ≤ n) : ∀ j, 1 ≤ wf n j ∧ wf n j ≤ wf n (j + 1)
  | 0 => by rw [wf_0, wf_1]; omega
  | j + 1 => by
    obtain ⟨a, b⟩ := wf_pos h j
    have : wf n (j + 1) ≤ n * wf n (j + 1) := by
      have := Int.mul_le_mul_of_nonneg_right h (show 0 ≤ wf n (j + 1) by omega)
      omega
    rw [wf_2]
    omega
def rs (n m : Int) (L : Nat) : Nat → Int
  | 0 => m
  | i + 1 => (rs n m L i).fmod (wf n (L - 1 - i))
def gs (n m : Int) (L : Nat) (p : Nat) : Int := (rs n m L (L - 1 - p)).fdiv (wf n p)
theorem map_getD {f : Nat → Int} {L p : Nat} (h : p < L) : ((List.range L).map f).getD p 0 = f p := by
  rw [List.getD_eq_getElem?_getD, List.getElem?_map, List.getElem?_range h]
  rfl
def Figs (k : Kd) (n : Int) (j : Nat) (r : List Int) : Prop := ∀ p, p < r.length → k.low n ((j + p : Nat) : Int) ≤ r.getD p 0 ∧ r.getD p 0 ≤ k.high n ((j + p : Nat) : Int)
theorem Figs.cons {k : Kd} {n f : Int} {j : Nat} {r : List Int} (h : Figs k n j (f :: r)) : (k.low n j ≤ f ∧ f ≤ k.high n j) ∧ Figs k n (j + 1) r := by
  refine ⟨h 0 (by simp), fun p hp => ?_⟩
  have := h (p + 1) (by simp; exact hp)
  rw [show j + (p + 1) = j + 1 + p by omega] at this
  exact this
theorem getD_out {r : List Int} {p : Nat} (h : r.length ≤ p) : r.getD p 0 = 0 := by rw [List.getD_eq_getElem?_getD, List.getElem?_eq_none h]; rfl
theorem row_ext {r s : List Int} (h : ∀ p, r.getD p 0 = s.getD p 0) (hr : r = [] ∨ r.getD (r.length - 1) 0 ≠ 0) (hs : s = [] ∨ s.getD (s.length - 1) 0 ≠ 0) : r = s := by
  have hl : r.length = s.length := by
    rcases (by omega : r.length = s.length ∨ r.length < s.length ∨ s.length < r.length) with z | z | z
    · exact z
    · rcases hs with hs | hs
      · rw [hs] at z; simp at z
      · exact absurd (by rw [← h]; exact getD_out (by omega)) hs
    · rcases hr with hr | hr
      · rw [hr] at z; simp at z
      · exact absurd (by rw [h]; exact getD_out (by omega)) hr
  apply List.ext_getElem hl
  intro i h1 h2
  have := h i
  rw [List.getD_eq_getElem?_getD, List.getD_eq_getElem?_getD, List.getElem?_eq_getElem h1, List.getElem?_eq_getElem h2] at this
  exact this
theorem worthF_snoc (n : Int) (l : List Int) (z : Int) : (worthR .falling n (l ++ [z])).re = (worthR .falling n l).re + z * wf n l.length := by
  rw [worthR_snoc, add_re]
  rfl
theorem Lg.lt {n : Int} (h1 : 1 ≤ n) : ∀ (m : Nat) (r : List Int), r.length = m → Lg .falling n r → (worthR .falling n r).re < wf n m := by
  intro m
  induction m using Nat.strongRecOn with
  | ind m ih =>
    intro r hl h
    rcases snoc_cases r with rfl | ⟨l, z, rfl⟩
    · subst hl; show (0 : Int) < wf n 0; rw [wf_0]; decide
    · have el : l.length + 1 = m := by rw [List.length_append] at hl; exact hl
      have hz := h.fig l.length (by rw [List.length_append]; simp)
      rw [getD_snoc_eq] at hz
      have hz0 : 0 ≤ z := hz.1
      have hz1 : z ≤ n := hz.2
      have il := ih l.length (by omega) l rfl h.pop
      have wp := (wf_pos h1 l.length).1
      rw [worthF_snoc, ← el]
      rcases (by omega : z ≤ n - 1 ∨ z = n) with c | c
      · have k1 := Int.mul_le_mul_of_nonneg_right c (show 0 ≤ wf n l.length by omega)
        have k2 : (n - 1) * wf n l.length = n * wf n l.length - wf n l.length := by rw [Int.sub_mul, Int.one_mul]
        have k3 : n * wf n l.length < wf n (l.length + 1) := by
          cases l.length with
          | zero => rw [wf_1, wf_0]; omega
          | succ q => rw [wf_2]; have := (wf_pos h1 q).1; omega
        omega
      · subst c
        rcases snoc_cases l with rfl | ⟨l', y, rfl⟩
        · show (0 : Int) + z * wf z 0 < wf z 1
          rw [wf_0, wf_1]; omega
        · have hy := h.fal rfl l'.length (by rw [List.length_append, List.length_append]; simp) (by
            have := getD_snoc_eq (r := l' ++ [y]) (z := z)
            rw [List.length_append] at this
            exact this)
          rw [getD_snoc_lt (by rw [List.length_append]; simp), getD_snoc_eq] at hy
          subst hy
          have i2 := ih l'.length (by rw [List.length_append] at el; simp at el; omega) l' rfl h.pop.pop
          rw [worthF_snoc, Int.zero_mul, Int.add_zero, List.length_append]
          show _ + z * wf z (l'.length + 1) < wf z (l'.length + 2)
          rw [wf_2]
          omega
theorem fig_small {k : Kd} {n : Int} {r : List Int} (hn : k.ok n) (h : Legal k n r) (hl : r.length ≤ 2000) : ∀ t ∈ r, t.natAbs ≤ 4000 := by
  intro t ht
  obtain ⟨i, hi, e⟩ := List.getElem_of_mem ht
  have f := h.fig i hi
  have eg : r.getD i 0 = t := by rw [List.getD_eq_getElem?_getD, List.getElem?_eq_getElem hi, e]; rfl
  rw [eg] at f
  obtain ⟨b1, b2⟩ := ok_bd hn
  have sq : n * n ≤ 3600 := by have := Int.mul_le_mul b2 b2 (by omega) (by omega); omega
  cases k <;> simp only [Kd.low, Kd.high] at f <;> omega
theorem fig_bd {k : Kd} {n : Int} {r : List Int} (hn : k.ok n) (h : Legal k n r) (hl : r.length ≤ 2000) : bdR r := fun t ht =>
  Nat.lt_of_le_of_lt (fig_small hn h hl t ht) (Nat.lt_of_lt_of_le (by decide : 4000 < 2 ^ 12) (Nat.pow_le_pow_right (by decide) (by decide)))
def want (k : Kd) (m : Nm) : Nm := match k with
  | .pairs => .p m.re m.im
  | _ => match m with
    | .i a => .i a
    | .p a b => if b = 0 then .i a else .p a b
theorem rat_span {k : Kd} {n : Int} (h4 : k.four = true) (hn : k.ok n) (j : Nat) {a b : Int} (ha : k.low n j ≤ a ∧ a ≤ k.high n j) (hb : k.low n j ≤ b ∧ b ≤ k.high n j) : (a - b).natAbs + 1 ≤ (k.rat n j).natAbs := by
  have h1 := hn.1
  cases k <;> try (first | (cases h4; done))
  all_goals
    simp only [Kd.low, Kd.high, Kd.rat, Kd.lo] at *
    omega
theorem wt_rat {k : Kd} {n : Int} (h4 : k.four = true) (j : Nat) : (wt k n (j + 1)).re = k.rat n j * (wt k n j).re := by
  have h5 : k.five = true := by cases k <;> first | rfl | cases h4
  have hp : k ≠ .pairs := by rintro rfl; cases h4
  obtain ⟨w, e⟩ := wtI (n := n) hp j
  rw [wt_succ h5, e]
  cases k <;> first | rfl | cases h4
theorem wF_succ_re {k : Kd} {n : Int} (hp : k ≠ .pairs) (f : Nat → Int) (j : Nat) : (wF k n f (j + 1)).re = (wF k n f j).re + f j * (wt k n j).re := by
  obtain ⟨w, e⟩ := wtI (n := n) hp j
  show ((wF k n f j).add ((Nm.i (f j)).mul (wt k n j))).re = _
  rw [add_re, e]
  rfl
theorem d4 {k : Kd} {n : Int} {f g : Nat → Int} (h4 : k.four = true) (hn : k.ok n) : ∀ j : Nat, (∀ i : Nat, i < j → (k.low n i ≤ f i ∧ f i ≤ k.high n i) ∧ (k.low n i ≤ g i ∧ g i ≤ k.high n i)) → ((wF k n f j).re - (wF k n g j).re).natAbs + 1 ≤ (wt k n j).re.natAbs
  | 0, _ => by
    show ((k.zero).re - (k.zero).re).natAbs + 1 ≤ _
    cases k <;> first | exact Nat.le_refl 1 | cases h4
  | j + 1, h => by
    have hp : k ≠ .pairs := by rintro rfl; cases h4
    have ih := d4 h4 hn j fun i hi => h i (by omega)
    obtain ⟨ha, hb⟩ := h j (by omega)
    have sp := rat_span h4 hn j ha hb
    rw [wF_succ_re hp, wF_succ_re hp, wt_rat h4, Int.natAbs_mul]
    have e : (wF k n f j).re + f j * (wt k n j).re - ((wF k n g j).re + g j * (wt k n j).re) = ((wF k n f j).re - (wF k n g j).re) + (f j - g j) * (wt k n j).re := by
      rw [Int.sub_mul]
      omega
    rw [e]
    generalize (wF k n f j).re - (wF k n g j).re = D at *
    generalize (wt k n j).re = x at *
    have t1 := Int.natAbs_add_le D ((f j - g j) * x)
    have t2 : ((f j - g j) * x).natAbs = (f j - g j).natAbs * x.natAbs := Int.natAbs_mul _ _
    generalize ((f j - g j) * x).natAbs = y at *
    have t3 := Nat.mul_le_mul_right x.natAbs sp
    rw [Nat.add_mul, Nat.one_mul, ← t2] at t3
    omega
theorem fF {n : Int} {f : Nat → Int} (h1 : 1 ≤ n) : ∀ j : Nat, (∀ i : Nat, i < j → 0 ≤ f i ∧ f i ≤ n) → (∀ i : Nat, i + 1 < j → f (i + 1) = n → f i = 0) → 0 ≤ (wF .falling n f j).re ∧ (wF .falling n f j).re < wf n j
  | 0, _, _ => ⟨Int.le_refl 0, show (0 : Int) < 1 by decide⟩
  | j + 1, h, g => by
    have hp : Kd.falling ≠ .pairs := fun z => nomatch z
    have ew : (wF .falling n f (j + 1)).re = (wF .falling n f j).re + f j * wf n j := wF_succ_re hp f j
    obtain ⟨a, b⟩ := fF h1 j (fun i hi => h i (by omega)) (fun i hi => g i (by omega))
    obtain ⟨c, d⟩ := h j (by omega)
    obtain ⟨w1, w2⟩ := wf_pos h1 j
    rw [ew]
    refine ⟨Int.add_nonneg a (Int.mul_nonneg c (by omega)), ?_⟩
    by_cases e : f j = n
    · cases j with
      | zero =>
        rw [e, wf_1]
        have : (wF .falling n f 0).re < 1 := b
        show _ + n * 1 < _
        omega
      | succ i =>
        have z : f i = 0 := g i (by omega) e
        obtain ⟨_, b'⟩ := fF h1 i (fun i hi => h i (by omega)) (fun i hi => g i (by omega))
        have e2 : (wF .falling n f (i + 1)).re = (wF .falling n f i).re + f i * wf n i := wF_succ_re hp f i
        rw [e2, z, Int.zero_mul, e, wf_2]
        omega
    · have m : f j * wf n j ≤ (n - 1) * wf n j := Int.mul_le_mul_of_nonneg_right (by omega) (by omega)
      rw [Int.sub_mul, Int.one_mul] at m
      have u : n * wf n j ≤ wf n (j + 1) := by
        cases j with
        | zero => rw [wf_1]; show n * 1 ≤ _; omega
        | succ i => rw [wf_2]; have := (wf_pos h1 i).1; omega
      omega
theorem d5 {k : Kd} {n : Int} {r s : List Int} (hp : k ≠ .pairs) (hn : k.ok n) (hr : Legal k n r) (hs : Legal k n s) (j : Nat) : ((wF k n (fun i => r.getD i 0) j).re - (wF k n (fun i => s.getD i 0) j).re).natAbs + 1 ≤ (wt k n j).re.natAbs := by
  have fg : ∀ {t : List Int}, Legal k n t → ∀ i : Nat, k.low n i ≤ t.getD i 0 ∧ t.getD i 0 ≤ k.high n i := fun {t} ht i => by
    by_cases hi : i < t.length
    · exact ht.fig i hi
    · rw [getD_out (by omega)]; exact low_le hn i
  by_cases h4 : k.four = true
  · exact d4 h4 hn j fun i _ => ⟨fg hr i, fg hs i⟩
  · have hk : k = .falling := by cases k <;> first | rfl | exact absurd rfl h4 | exact absurd rfl hp
    subst hk
    have h1 : 1 ≤ n := hn.1
    have lf : ∀ {t : List Int}, Legal .falling n t → ∀ i : Nat, t.getD (i + 1) 0 = n → t.getD i 0 = 0 := fun {t} ht i e => by
      by_cases hi : i + 1 < t.length
      · exact ht.fal rfl i hi e
      · rw [getD_out (by omega)] at e; omega
    obtain ⟨a, b⟩ := fF h1 j (fun i _ => fg hr i) (fun i _ => lf hr i)
    obtain ⟨c, d⟩ := fF h1 j (fun i _ => fg hs i) (fun i _ => lf hs i)
    have ew : (wt .falling n j).re = wf n j := rfl
    rw [ew]
    omega
theorem wt_up {k : Kd} {n : Int} (hp : k ≠ .pairs) (hb : k ≠ .below) (hn : k.ok n) : ∀ j : Nat, 1 ≤ (wt k n j).re := fun j => by
  by_cases h4 : k.four = true
  · induction j with
    | zero => cases k <;> first | exact Int.le_refl 1 | cases h4
    | succ j ih =>
      rw [wt_rat h4]
      have h1 := hn.1
      have r1 : 1 ≤ k.rat n j := by
        cases k <;> first | exact absurd rfl hb | (cases h4; done) | (simp only [Kd.rat, Kd.lo] at *; omega)
      have := Int.mul_le_mul_of_nonneg_right r1 (show (0 : Int) ≤ (wt k n j).re by omega)
      omega
  · have hk : k = .falling := by cases k <;> first | rfl | exact absurd rfl h4 | exact absurd rfl hp
    subst hk
    exact (wf_pos hn.1 j).1
theorem wt_below {n : Int} (hn : Kd.below.ok n) : ∀ j : Nat, (j % 2 = 0 → 1 ≤ (wt .below n j).re) ∧ (j % 2 = 1 → (wt .below n j).re ≤ -1)
  | 0 => ⟨fun _ => Int.le_refl 1, fun h => by omega⟩
  | j + 1 => by
    obtain ⟨a, b⟩ := wt_below hn j
    have e : (wt .below n (j + 1)).re = -n * (wt .below n j).re := wt_rat rfl j
    have h1 : 2 ≤ n := hn.1
    rw [e]
    refine ⟨fun h => ?_, fun h => ?_⟩
    · have b := b (by omega)
      have m := Int.mul_le_mul_of_nonneg_right (show (1 : Int) ≤ n by omega) (show (0 : Int) ≤ -(wt .below n j).re by omega)
      have e2 : -n * (wt .below n j).re = n * -(wt .below n j).re := by rw [Int.neg_mul, Int.mul_neg]
      rw [e2]
      omega
    · have a := a (by omega)
      have m := Int.mul_le_mul_of_nonneg_right (show (1 : Int) ≤ n by omega) (show (0 : Int) ≤ (wt .below n j).re by omega)
      rw [Int.neg_mul]
      omega
def sg (a b : Int) : Int := if a < b then -1 else if b < a then 1 else 0
theorem sg_gt {X Y D a b w : Int} (e : X - Y = D + (a - b) * w) (hD : D.natAbs + 1 ≤ w.natAbs) (hw : 1 ≤ w) (hab : b < a) : sg X Y = 1 := by
  have m := Int.mul_le_mul_of_nonneg_right (show (1 : Int) ≤ a - b by omega) (show (0 : Int) ≤ w by omega)
  have : Y < X := by omega
  unfold sg
  rw [if_neg (by omega), if_pos this]
theorem sg_lt {X Y D a b w : Int} (e : X - Y = D + (a - b) * w) (hD : D.natAbs + 1 ≤ w.natAbs) (hw : 1 ≤ w) (hab : a < b) : sg X Y = -1 := by
  have m := Int.mul_le_mul_of_nonneg_right (show (1 : Int) ≤ b - a by omega) (show (0 : Int) ≤ w by omega)
  have e2 : (a - b) * w = -((b - a) * w) := by rw [← Int.neg_mul, Int.neg_sub]
  have : X < Y := by omega
  unfold sg
  rw [if_pos this]
theorem sg_neg {X Y D a b w : Int} (e : X - Y = D + (a - b) * w) : X - Y = D + (b - a) * -w := by
  rw [e, Int.mul_neg, ← Int.neg_mul, Int.neg_sub]
theorem wF_top {k : Kd} {n : Int} {f g : Nat → Int} (hp : k ≠ .pairs) {p : Nat} : ∀ d : Nat, (∀ i : Nat, p < i → f i = g i) → (wF k n f (p + 1 + d)).re - (wF k n g (p + 1 + d)).re = (wF k n f p).re - (wF k n g p).re + (f p - g p) * (wt k n p).re
  | 0, _ => by
    rw [Nat.add_zero, wF_succ_re hp, wF_succ_re hp, Int.sub_mul]
    omega
  | d + 1, h => by
    have ih := wF_top (k := k) (n := n) hp d h
    rw [show p + 1 + (d + 1) = (p + 1 + d) + 1 from rfl, wF_succ_re hp, wF_succ_re hp, h (p + 1 + d) (by omega)]
    omega
theorem wF_more {k : Kd} {n : Int} {r : List Int} (hp : k ≠ .pairs) : ∀ d : Nat, (wF k n (fun i => r.getD i 0) (r.length + d)).re = (worthR k n r).re
  | 0 => by
    show (wF k n _ r.length).re = (wsum k n r r.length).re
    rw [wsum_wF]
  | d + 1 => by
    rw [show r.length + (d + 1) = (r.length + d) + 1 from rfl, wF_succ_re hp, wF_more hp d]
    show _ + r.getD (r.length + d) 0 * _ = _
    rw [getD_out (by omega), Int.zero_mul, Int.add_zero]
def pt (xs ys : List Int) : Nat → Option Nat
  | 0 => none
  | n + 1 => if xs.getD n 0 = ys.getD n 0 then pt xs ys n else some n
theorem pt_none {xs ys : List Int} : ∀ {m : Nat}, pt xs ys m = none → ∀ i : Nat, i < m → xs.getD i 0 = ys.getD i 0
  | 0, _, i, hi => absurd hi (Nat.not_lt_zero _)
  | m + 1, h, i, hi => by
    unfold pt at h
    by_cases e : xs.getD m 0 = ys.getD m 0
    · rw [if_pos e] at h
      rcases (by omega : i < m ∨ i = m) with z | z
      · exact pt_none h i z
      · rw [z]; exact e
    · rw [if_neg e] at h; cases h
theorem pt_some {xs ys : List Int} {p : Nat} : ∀ {m : Nat}, pt xs ys m = some p → p < m ∧ xs.getD p 0 ≠ ys.getD p 0 ∧ ∀ i : Nat, p < i → i < m → xs.getD i 0 = ys.getD i 0
  | 0, h => nomatch h
  | m + 1, h => by
    unfold pt at h
    by_cases e : xs.getD m 0 = ys.getD m 0
    · rw [if_pos e] at h
      obtain ⟨a, b, c⟩ := pt_some h
      refine ⟨by omega, b, fun i h1 h2 => ?_⟩
      rcases (by omega : i < m ∨ i = m) with z | z
      · exact c i h1 z
      · rw [z]; exact e
    · rw [if_neg e] at h
      cases h
      exact ⟨by omega, e, fun i h1 h2 => by omega⟩
theorem ord_none {k : Kd} {n : Int} {r s : List Int} (hr : Legal k n r) (hs : Legal k n s) (h : pt r s (max r.length s.length) = none) : sg (worthR k n r).re (worthR k n s).re = 0 := by
  have : r = s := row_ext (fun p => by
    by_cases hp : p < max r.length s.length
    · exact pt_none h p hp
    · rw [getD_out (by omega), getD_out (by omega)]) hr.end_ hs.end_
  subst this
  unfold sg
  rw [if_neg (Int.lt_irrefl _), if_neg (Int.lt_irrefl _)]
theorem ord_some {k : Kd} {n : Int} {r s : List Int} {p : Nat} (hp : k ≠ .pairs) (hn : k.ok n) (hr : Legal k n r) (hs : Legal k n s) (h : pt r s (max r.length s.length) = some p) :
    r.getD p 0 ≠ s.getD p 0 ∧ (k ≠ .below ∨ p % 2 = 0 → (s.getD p 0 < r.getD p 0 → sg (worthR k n r).re (worthR k n s).re = 1) ∧ (r.getD p 0 < s.getD p 0 → sg (worthR k n r).re (worthR k n s).re = -1)) ∧
    (k = .below → p % 2 = 1 → (s.getD p 0 < r.getD p 0 → sg (worthR k n r).re (worthR k n s).re = -1) ∧ (r.getD p 0 < s.getD p 0 → sg (worthR k n r).re (worthR k n s).re = 1)) := by
  obtain ⟨a, b, c⟩ := pt_some h
  have c' : ∀ i : Nat, p < i → r.getD i 0 = s.getD i 0 := fun i hi => by
    by_cases z : i < max r.length s.length
    · exact c i hi z
    · rw [getD_out (by omega), getD_out (by omega)]
  obtain ⟨d, hd⟩ : ∃ d, max r.length s.length = p + 1 + d := ⟨max r.length s.length - (p + 1), by omega⟩
  have t := wF_top (k := k) (n := n) (f := fun i => r.getD i 0) (g := fun i => s.getD i 0) hp d c'
  have e1 : p + 1 + d = r.length + (p + 1 + d - r.length) := by omega
  have e2 : p + 1 + d = s.length + (p + 1 + d - s.length) := by omega
  have m1 := wF_more (k := k) (n := n) (r := r) hp (p + 1 + d - r.length)
  have m2 := wF_more (k := k) (n := n) (r := s) hp (p + 1 + d - s.length)
  rw [← e1] at m1
  rw [← e2] at m2
  rw [m1, m2] at t
  have D := d5 hp hn hr hs p
  refine ⟨b, fun hb => ?_, fun hb hodd => ?_⟩
  · have w1 : 1 ≤ (wt k n p).re := by
      by_cases z : k = .below
      · subst z
        exact (wt_below hn p).1 (by rcases hb with q | q; exact absurd rfl q; exact q)
      · exact wt_up hp z hn p
    exact ⟨fun q => sg_gt t D w1 q, fun q => sg_lt t D w1 q⟩
  · subst hb
    have w1 := (wt_below hn p).2 hodd
    have t' := sg_neg t
    have D' : ((wF .below n (fun i => r.getD i 0) p).re - (wF .below n (fun i => s.getD i 0) p).re).natAbs + 1 ≤ (-(wt .below n p).re).natAbs := by rw [Int.natAbs_neg]; exact D
    exact ⟨fun q => sg_lt t' D' (by omega) q, fun q => sg_gt t' D' (by omega) q⟩
def Kd.nam : Kd → Str
  | .plain => .ofString "plain"
  | .below => .ofString "below"
  | .balanced => .ofString "balanced"
  | .growing => .ofString "growing"
  | .falling => .ofString "falling"
  | .pairs => .ofString "pairs"
def Fg (k : Kd) (n : Int) (r : List Int) : Prop := ∀ p, p < r.length → k.low n p ≤ r.getD p 0 ∧ r.getD p 0 ≤ k.high n p
theorem Fg.put {k : Kd} {n : Int} {r : List Int} (hn : k.ok n) (h : Fg k n r) (j : Nat) : Fg k n (r.set j 0) := fun p hp => by
  rw [List.length_set] at hp
  by_cases q : j = p
  · subst q
    rw [getD_set_eq hp]
    exact low_le hn j
  · rw [getD_set_ne q]
    exact h p hp
def Fl (k : Kd) (n : Int) (r : List Int) (i : Nat) : Prop := k.isF = true → ∀ q : Nat, r.length ≤ q + 1 + i → q + 1 < r.length → r.getD (q + 1) 0 = n → r.getD q 0 = 0
theorem Fl.put {k : Kd} {n : Int} {r : List Int} {i j : Nat} (hn : k.ok n) (h : Fl k n r i) (hj : j + i < r.length) : Fl k n (r.set j 0) i := fun hk q h1 h2 h3 => by
  rw [List.length_set] at h1 h2
  by_cases e : j = q
  · subst e; rw [getD_set_eq (by omega)]
  · rw [getD_set_ne e]
    by_cases e2 : j = q + 1
    · subst e2
      rw [getD_set_eq (by omega)] at h3
      have := hn.1
      cases k <;> simp only [Kd.lo] at this <;> first | omega | cases hk
    · rw [getD_set_ne e2] at h3
      exact h hk q h1 h2 h3
theorem Fg.snoc {k : Kd} {n f : Int} {r : List Int} {i : Nat} (hlr : r.length = i) (hp : ∀ p, p < i → k.low n p ≤ r.getD p 0 ∧ r.getD p 0 ≤ k.high n p) (hf : k.low n i ≤ f ∧ f ≤ k.high n i) :
    ∃ r' : List Int, r.map Dt.int ++ [.int f] = r'.map Dt.int ∧ r'.length = i + 1 ∧ ∀ p, p < i + 1 → k.low n p ≤ r'.getD p 0 ∧ r'.getD p 0 ≤ k.high n p := by
  refine ⟨r ++ [f], by rw [List.map_append]; rfl, by rw [List.length_append, hlr]; rfl, fun p hp' => ?_⟩
  rcases (by omega : p < i ∨ p = i) with z | z
  · rw [getD_snoc_lt (by omega)]
    exact hp p z
  · subst z
    rw [← hlr, getD_snoc_eq, hlr]
    exact hf
def optD : Option Nat → Dt
  | none => .non
  | some k => .int k
def wtl (k : Kd) (n : Int) (m : Nat) : List Int := (List.range m).map fun j => (wt k n j).re
theorem wtl_succ (k : Kd) (n : Int) (m : Nat) : wtl k n (m + 1) = wtl k n m ++ [(wt k n m).re] := by
  unfold wtl
  rw [List.range_succ, List.map_append]
  rfl
theorem wtl_len (k : Kd) (n : Int) (m : Nat) : (wtl k n m).length = m := by unfold wtl; rw [List.length_map, List.length_range]
theorem wtl_get {k : Kd} {n : Int} {m i : Nat} (h : i < m) : (wtl k n m).getD i 0 = (wt k n i).re := map_getD h
theorem sg_swap (a b : Int) : sg b a = 0 - sg a b := by
  unfold sg
  repeat' split
  all_goals omega
theorem sg_self (a : Int) : sg a a = 0 := by
  unfold sg
  rw [if_neg (Int.lt_irrefl _), if_neg (Int.lt_irrefl _)]
theorem ints_in {ns : List Int} : ∀ {es : List Dt}, (∀ e ∈ es, e ∈ ns.map Dt.int) → ∃ zs : List Int, es = zs.map Dt.int
  | [], _ => ⟨[], rfl⟩
  | e :: es, h => by
    obtain ⟨z, rfl⟩ := mem_ints (h e List.mem_cons_self)
    obtain ⟨zs, rfl⟩ := ints_in (fun e he => h e (List.mem_cons_of_mem _ he))
    exact ⟨z :: zs, rfl⟩
def S_at : DSp := fun ds Q => ∃ xs k, ds = [rowD xs, .int k] ∧ 0 ≤ k ∧ Q (.int (xs.getD k.toNat 0))
def S_part : DSp := fun ds Q => ∃ xs ys, ds = [rowD xs, rowD ys] ∧ xs.length ≤ 1000 ∧ ys.length ≤ 1000 ∧ Q (optD (pt xs ys (max xs.length ys.length)))
def S_chosen : DSp := fun ds Q => ∃ c, ds = [.int c] ∧ ∀ k n, k ≠ .pairs → k.ok n → Q (.tup [.str (Kd.nam k), .int n])
def S_low1 : DSp := fun ds Q => ∃ k n p, ds = [.str (Kd.nam k), .int n, .int p] ∧ Q (.int (k.low n p))
def S_high1 : DSp := fun ds Q => ∃ k n p, ds = [.str (Kd.nam k), .int n, .int p] ∧ k.ok n ∧ Q (.int (k.high n p))
def S_fig : DSp := fun ds Q => ∃ k n, ∃ p : Nat, ∃ c : Int, ds = [.str (Kd.nam k), .int n, .int p, .int c] ∧ k.ok n ∧ ∀ f, k.low n p ≤ f ∧ f ≤ k.high n p → Q (.int f)
def S_leg : DSp := fun ds Q => ∃ k n r, ds = [.str (Kd.nam k), .int n, rowD r] ∧ k.ok n ∧ Fg k n r ∧ r.length ≤ 1000 ∧ ∀ r', Legal k n r' → r'.length ≤ r.length → Q (rowD r')
def S_rowby : DSp := fun ds Q => ∃ k n cs, ds = [.str (Kd.nam k), .int n, rowD cs] ∧ k.ok n ∧ cs.length ≤ 1000 ∧ ∀ r, Legal k n r → r.length ≤ cs.length → Q (rowD r)
def S_wl : DSp := fun ds Q => ∃ k n, ∃ m : Nat, ds = [.str (Kd.nam k), .int n, .int m] ∧ k ≠ .pairs ∧ k.ok n ∧ m ≤ 1000 ∧ Q (rowD (wtl k n (m + 1)))
def S_num : DSp := fun ds Q => ∃ k n r, ds = [.str (Kd.nam k), .int n, rowD r] ∧ k ≠ .pairs ∧ k.ok n ∧ r.length ≤ 1000 ∧ bdR r ∧ Q (.int (worthR k n r).re)
def S_second : DSp := fun ds Q => ∃ k n r cs c, ds = [.str (Kd.nam k), .int n, rowD r, rowD cs, .int c] ∧ k.ok n ∧ Legal k n r ∧ r.length ≤ 100 ∧ cs.length ≤ 100 ∧ ∀ r', Legal k n r' → r'.length ≤ 200 → Q (rowD r')
def S_sign : DSp := fun ds Q => ∃ a b, ds = [.int a, .int b] ∧ Q (.int (sg a b))
def S_isI : DSp := fun ds Q => ∃ a : Int, ds = [.int a, .int a] ∧ Q (.bl true)
structure Adr where
  Plain : Addr
  Below : Addr
  Balanced : Addr
  Growing : Addr
  Falling : Addr
  Pairs : Addr
structure Txt (K : PySem.W.Frag) (mg : Str → Option Value) (A : Adr) : Prop where
  kt : KitT K
  isinstance : mg "isinstance" = none
  n_int : mg "int" = none
  n_bool : mg "bool" = none
  n_list : mg "list" = none
  len : mg "len" = none
  range : mg "range" = none
  n_zip : mg "zip" = none
  n_enumerate : mg "enumerate" = none
  n_min : mg "min" = none
  n_max : mg "max" = none
  cl_Plain : Cls K A.Plain
  na_Plain : NoAttr K A.Plain "base"
  cl_Below : Cls K A.Below
  na_Below : NoAttr K A.Below "base"
  cl_Balanced : Cls K A.Balanced
  na_Balanced : NoAttr K A.Balanced "half"
  cl_Growing : Cls K A.Growing
  na_Growing : NoAttr K A.Growing "first"
  cl_Falling : Cls K A.Falling
  na_Falling : NoAttr K A.Falling "most"
  cl_Pairs : Cls K A.Pairs
  na_Pairs : NoAttr K A.Pairs "most"
  gc_Pairs : mg "Pairs" = some (.ref A.Pairs)
  gc_Falling : mg "Falling" = some (.ref A.Falling)
  gc_Below : mg "Below" = some (.ref A.Below)
  isi_Plain : IsiOk K A.Plain
  ki_Plain_Pairs : PySem.W.kitOne K (.ref A.Plain) (.ref A.Pairs) = some false
  ki_Plain_Falling : PySem.W.kitOne K (.ref A.Plain) (.ref A.Falling) = some false
  ki_Plain_Below : PySem.W.kitOne K (.ref A.Plain) (.ref A.Below) = some false
  isi_Below : IsiOk K A.Below
  ki_Below_Pairs : PySem.W.kitOne K (.ref A.Below) (.ref A.Pairs) = some false
  ki_Below_Falling : PySem.W.kitOne K (.ref A.Below) (.ref A.Falling) = some false
  ki_Below_Below : PySem.W.kitOne K (.ref A.Below) (.ref A.Below) = some true
  isi_Balanced : IsiOk K A.Balanced
  ki_Balanced_Pairs : PySem.W.kitOne K (.ref A.Balanced) (.ref A.Pairs) = some false
  ki_Balanced_Falling : PySem.W.kitOne K (.ref A.Balanced) (.ref A.Falling) = some false
  ki_Balanced_Below : PySem.W.kitOne K (.ref A.Balanced) (.ref A.Below) = some false
  isi_Growing : IsiOk K A.Growing
  ki_Growing_Pairs : PySem.W.kitOne K (.ref A.Growing) (.ref A.Pairs) = some false
  ki_Growing_Falling : PySem.W.kitOne K (.ref A.Growing) (.ref A.Falling) = some false
  ki_Growing_Below : PySem.W.kitOne K (.ref A.Growing) (.ref A.Below) = some false
  isi_Falling : IsiOk K A.Falling
  ki_Falling_Pairs : PySem.W.kitOne K (.ref A.Falling) (.ref A.Pairs) = some false
  ki_Falling_Falling : PySem.W.kitOne K (.ref A.Falling) (.ref A.Falling) = some true
  ki_Falling_Below : PySem.W.kitOne K (.ref A.Falling) (.ref A.Below) = some false
  isi_Pairs : IsiOk K A.Pairs
  ki_Pairs_Pairs : PySem.W.kitOne K (.ref A.Pairs) (.ref A.Pairs) = some true
  ki_Pairs_Falling : PySem.W.kitOne K (.ref A.Pairs) (.ref A.Falling) = some false
  ki_Pairs_Below : PySem.W.kitOne K (.ref A.Pairs) (.ref A.Below) = some false
def Adr.at (A : Adr) : Kd → Addr
  | .plain => A.Plain | .below => A.Below | .balanced => A.Balanced | .growing => A.Growing | .falling => A.Falling | .pairs => A.Pairs
def wayD (A : Adr) (k : Kd) (n : Int) : Dt := .way (A.at k) k.fld n
def S_get (A : Adr) (k : Kd) (g : Int → Int → Int) : DSp := fun ds Q => ∃ n p, ds = [wayD A k n, .int p] ∧ k.ok n ∧ Q (.int (g n p))
def S_zero : DSp := fun ds Q => ∃ o p, ds = [o, p] ∧ Q (.int 0)
def S_isw (A : Adr) : DSp := fun ds Q => ∃ k n r, ds = [wayD A k n, rowD r] ∧ k.ok n ∧ r.length ≤ 1000 ∧ Q (.bl (legal k n r))
def S_figs (A : Adr) : DSp := fun ds Q => ∃ k n r, ds = [wayD A k n, rowD r] ∧ k.ok n ∧ r.length ≤ 1000 ∧ ∀ b : Bool, (b = true ↔ ∀ p, p < r.length → k.low n p ≤ r.getD p 0 ∧ r.getD p 0 ≤ k.high n p) → Q (.bl b)
def S_mosts (A : Adr) : DSp := fun ds Q => ∃ n r, ds = [wayD A .falling n, rowD r] ∧ Kd.falling.ok n ∧ r.length ≤ 1000 ∧ ∀ b : Bool, (b = true ↔ ∀ p, p + 1 < r.length → r.getD (p + 1) 0 = n → r.getD p 0 = 0) → Q (.bl b)
theorem isiAt {K : PySem.W.Frag} {mg : Str → Option Value} {A : Adr} (T : Txt K mg A) (k : Kd) : IsiOk K (A.at k) := by
  cases k
  · exact T.isi_Plain
  · exact T.isi_Below
  · exact T.isi_Balanced
  · exact T.isi_Growing
  · exact T.isi_Falling
  · exact T.isi_Pairs
theorem kiF {K : PySem.W.Frag} {mg : Str → Option Value} {A : Adr} (T : Txt K mg A) (k : Kd) : PySem.W.kitOne K (.ref (A.at k)) (.ref A.Falling) = some k.isF := by
  cases k
  · exact T.ki_Plain_Falling
  · exact T.ki_Below_Falling
  · exact T.ki_Balanced_Falling
  · exact T.ki_Growing_Falling
  · exact T.ki_Falling_Falling
  · exact T.ki_Pairs_Falling
theorem e_low (k : Kd) : (("low" : Str) == k.fld) = false := by cases k <;> decide +kernel
theorem e_high (k : Kd) : (("high" : Str) == k.fld) = false := by cases k <;> decide +kernel
def S_held (A : Adr) : DSp := fun ds Q => ∃ k n, ∃ rs : List (List Int), ds = [wayD A k n, .lst (rs.map rowD)] ∧ k.ok n ∧ (∀ r ∈ rs, Legal k n r ∧ r.length ≤ 1000) ∧ Q .non
theorem kiP {K : PySem.W.Frag} {mg : Str → Option Value} {A : Adr} (T : Txt K mg A) (k : Kd) : PySem.W.kitOne K (.ref (A.at k)) (.ref A.Pairs) = some (match k with | .pairs => true | _ => false) := by
  cases k
  · exact T.ki_Plain_Pairs
  · exact T.ki_Below_Pairs
  · exact T.ki_Balanced_Pairs
  · exact T.ki_Growing_Pairs
  · exact T.ki_Falling_Pairs
  · exact T.ki_Pairs_Pairs
def S_wayT (A : Adr) : DSp := fun ds Q => ∃ k n, ds = [.str (Kd.nam k), .int n] ∧ k ≠ .pairs ∧ k.ok n ∧ Q (wayD A k n)
def S_order (A : Adr) : DSp := fun ds Q => ∃ k n r s, ds = [wayD A k n, rowD r, rowD s] ∧ k ≠ .pairs ∧ k.ok n ∧ Legal k n r ∧ Legal k n s ∧ r.length ≤ 1000 ∧ s.length ≤ 1000 ∧ Q (.int (sg (worthR k n r).re (worthR k n s).re))
theorem kiB {K : PySem.W.Frag} {mg : Str → Option Value} {A : Adr} (T : Txt K mg A) (k : Kd) : PySem.W.kitOne K (.ref (A.at k)) (.ref A.Below) = some (match k with | .below => true | _ => false) := by
  cases k
  · exact T.ki_Plain_Below
  · exact T.ki_Below_Below
  · exact T.ki_Balanced_Below
  · exact T.ki_Growing_Below
  · exact T.ki_Falling_Below
  · exact T.ki_Pairs_Below
theorem kind5 (i : Int) : ∃ k : Kd, k ≠ .pairs ∧ k.num = i.fmod 5 := by
  have a0 := Int.fmod_nonneg_of_pos i (show (0 : Int) < 5 by decide)
  have a1 := Int.fmod_lt_of_pos i (show (0 : Int) < 5 by decide)
  rcases (by omega : i.fmod 5 = 0 ∨ i.fmod 5 = 1 ∨ i.fmod 5 = 2 ∨ i.fmod 5 = 3 ∨ i.fmod 5 = 4) with e | e | e | e | e <;> rw [e]
  · exact ⟨.plain, (fun h => nomatch h), rfl⟩
  · exact ⟨.below, (fun h => nomatch h), rfl⟩
  · exact ⟨.balanced, (fun h => nomatch h), rfl⟩
  · exact ⟨.growing, (fun h => nomatch h), rfl⟩
  · exact ⟨.falling, (fun h => nomatch h), rfl⟩
section
variable {P : Program} {w : World} {K : PySem.W.Frag} {mg : Str → Option Value} {base : Heap} {f : Addr} {fd : FuncData} {A : Adr}
abbrev s_law_chosen : Stmt := top 37
theorem sc_law_chosen : FnScope ["_law_cell", "_law_name", "_law_part"] ["_law_cell"] (defScope s_law_chosen) := ⟨rfl, rfl, rfl, by decide +kernel, rfl, by decide +kernel, by decide +kernel⟩
theorem ok_law_chosen (T : Txt K mg A) (F : Fun K "_law_chosen" "_law_chosen" s_law_chosen f fd) : FnOk P w K mg base CX0 1 f fd ["_law_cell"] (PureSp K (S_chosen)) := by
  refine okD F sc_law_chosen (fun ds Q h => ?_) (fun cdv A' outer s H E hr ds Q h => ?_)
  · obtain ⟨c, rfl, q⟩ := h
    rfl
  obtain ⟨c, rfl, q⟩ := h
  refine ⟨_, (dss_cons (ds_set (i := 1) sc_law_chosen.nd rfl (Or.inl rfl) (de_ix (de_lst (da_cons de_str (da_cons de_str (da_cons de_str (da_cons de_str (da_cons de_str da_nil)))))) (de_op o_mod (dv 0) de_int) (fun _ _ => rfl)))
  (dss_cons (ds_set (i := 2) sc_law_chosen.nd rfl (Or.inl rfl) (de_op o_fdiv (dv 0) de_int))
  (dss_cons (ds_if (dt_cmp (o_eqS) (dv 1) de_str (nomark _)) (dss_one (ds_ret (de_tup (da_cons (dv 1) (da_cons (de_op o_add de_int (de_op o_mod (dv 2) de_int)) da_nil))))) dss_nil)
  (dss_cons (ds_if (dt_cmp (o_eqS) (dv 1) de_str (nomark _)) (dss_one (ds_ret (de_tup (da_cons (dv 1) (da_cons (de_op o_add de_int (de_op o_mod (dv 2) de_int)) da_nil))))) dss_nil)
  (dss_one (ds_ret (de_tup (da_cons (dv 1) (da_cons (de_op o_add de_int (de_op o_mod (dv 2) de_int)) da_nil))))))))), ?_⟩
  obtain ⟨k, hkp, hk⟩ := kind5 c
  have key : atI [Dt.str (.ofString "plain"), .str (.ofString "below"), .str (.ofString "balanced"), .str (.ofString "growing"), .str (.ofString "falling")] (c.fmod 5) = some (.str k.nam) := by
    rw [← hk]
    cases k <;> first | rfl | exact absurd rfl hkp
  refine ⟨rfl, _, rfl, _, _, rfl, rfl, cmodN (by decide), _, _, _, rfl, rfl, key, ?_⟩
  have b0 := Int.fmod_nonneg_of_pos (c.fdiv 5) (show (0 : Int) < 59 by decide)
  have b1 := Int.fmod_lt_of_pos (c.fdiv 5) (show (0 : Int) < 59 by decide)
  have c0 := Int.fmod_nonneg_of_pos (c.fdiv 5) (show (0 : Int) < 30 by decide)
  have c1 := Int.fmod_lt_of_pos (c.fdiv 5) (show (0 : Int) < 30 by decide)
  have d0 := Int.fmod_nonneg_of_pos (c.fdiv 5) (show (0 : Int) < 9 by decide)
  have d1 := Int.fmod_lt_of_pos (c.fdiv 5) (show (0 : Int) < 9 by decide)
  cases k
  all_goals walk_at "rd"
  · exact q .plain _ hkp ⟨by show (2 : Int) ≤ _; omega, by show _ ≤ (60 : Int); omega⟩
  · exact q .below _ hkp ⟨by show (2 : Int) ≤ _; omega, by show _ ≤ (60 : Int); omega⟩
  · exact q .balanced _ hkp ⟨by show (1 : Int) ≤ _; omega, by show _ ≤ (30 : Int); omega⟩
  · exact q .growing _ hkp ⟨by show (2 : Int) ≤ _; omega, by show _ ≤ (60 : Int); omega⟩
  · exact q .falling _ hkp ⟨by show (1 : Int) ≤ _; omega, by show _ ≤ (9 : Int); omega⟩
  · exact absurd rfl hkp
abbrev s_law_cell_at : Stmt := top 28
theorem sc_law_cell_at : FnScope ["_law_script", "_law_k"] ["_law_script", "_law_k"] (defScope s_law_cell_at) := ⟨rfl, rfl, rfl, by decide +kernel, rfl, by decide +kernel, by decide +kernel⟩
theorem ok_law_cell_at (T : Txt K mg A) (F : Fun K "_law_cell_at" "_law_cell_at" s_law_cell_at f fd) : FnOk P w K mg base CX0 1 f fd ["_law_script", "_law_k"] (PureSp K (S_cell)) := by
  refine okD F sc_law_cell_at (fun ds Q h => ?_) (fun cdv A' outer s H E hr ds Q h => ?_)
  · obtain ⟨ns, k, rfl, hk, q⟩ := h
    rfl
  obtain ⟨ns, k, rfl, hk, q⟩ := h
  refine ⟨_, (dss_cons (ds_if (dt_cmp (o_lt) (dv 1) (de_len rfl T.len (dv 0)) (nomark _)) (dss_one (ds_ret (de_ix (dv 0) (dv 1) (fun _ _ => rfl)))) dss_nil)
  (dss_one (ds_ret de_int))), ?_⟩
  walk_at "rd"
  refine ite2 (fun hlt => ?_) (fun _ => q 0)
  have hlt : k < (ns.map Dt.int).length := of_decide_eq_true hlt
  rw [List.length_map] at hlt
  exact ⟨_, rfl, _, rfl, _, _, _, rfl, rfl, atI_row hk hlt, q _⟩
abbrev s_law_low : Stmt := top 29
theorem sc_law_low : FnScope ["_law_name", "_law_number_here", "_law_place"] ["_law_name", "_law_number_here", "_law_place"] (defScope s_law_low) := ⟨rfl, rfl, rfl, by decide +kernel, rfl, by decide +kernel, by decide +kernel⟩
theorem ok_law_low (T : Txt K mg A) (F : Fun K "_law_low" "_law_low" s_law_low f fd) : FnOk P w K mg base CX0 1 f fd ["_law_name", "_law_number_here", "_law_place"] (PureSp K (S_low1)) := by
  refine okD F sc_law_low (fun ds Q h => ?_) (fun cdv A' outer s H E hr ds Q h => ?_)
  · obtain ⟨k, n, p, rfl, q⟩ := h
    rfl
  obtain ⟨k, n, p, rfl, q⟩ := h
  refine ⟨_, (dss_cons (ds_if (dt_cmp (o_eqS) (dv 0) de_str (nomark _)) (dss_one (ds_ret (de_op o_sub de_int (dv 1)))) dss_nil)
  (dss_one (ds_ret de_int))), ?_⟩
  have e0 : (0 : Int) - n = -n := by omega
  cases k
  all_goals
    walk_at "rd"
    first
    | exact q
    | (dsimp only; rw [e0]; exact q)
abbrev s_law_high : Stmt := top 30
theorem sc_law_high : FnScope ["_law_name", "_law_number_here", "_law_place"] ["_law_name", "_law_number_here", "_law_place"] (defScope s_law_high) := ⟨rfl, rfl, rfl, by decide +kernel, rfl, by decide +kernel, by decide +kernel⟩
theorem ok_law_high (T : Txt K mg A) (F : Fun K "_law_high" "_law_high" s_law_high f fd) : FnOk P w K mg base CX0 1 f fd ["_law_name", "_law_number_here", "_law_place"] (PureSp K (S_high1)) := by
  refine okD F sc_law_high (fun ds Q h => ?_) (fun cdv A' outer s H E hr ds Q h => ?_)
  · obtain ⟨k, n, p, rfl, hn, q⟩ := h
    rfl
  obtain ⟨k, n, p, rfl, hn, q⟩ := h
  refine ⟨_, (dss_cons (ds_if (dt_cmp o_inS (dv 0) (de_lst (da_cons de_str (da_cons de_str da_nil))) (by with_unfolding_all rfl)) (dss_one (ds_ret (de_op o_sub (dv 1) de_int))) dss_nil)
  (dss_cons (ds_if (dt_cmp (o_eqS) (dv 0) de_str (nomark _)) (dss_one (ds_ret (de_op o_sub (de_op o_add (dv 1) (dv 2)) de_int))) dss_nil)
  (dss_cons (ds_if (dt_cmp (o_eqS) (dv 0) de_str (nomark _)) (dss_one (ds_ret (de_op o_mul (dv 1) (dv 1)))) dss_nil)
  (dss_one (ds_ret (dv 1)))))), ?_⟩
  obtain ⟨b1, b2⟩ := ok_bd hn
  cases k
  all_goals
    repeat (first | (walk_at "rd1") | refine ⟨small (by omega) (by omega) _, ?_⟩)
    exact q
abbrev s_law_figure : Stmt := top 31
theorem sc_law_figure : FnScope ["_law_name", "_law_number_here", "_law_place", "_law_cell", "_law_low_here", "_law_high_here", "_law_edge"] ["_law_name", "_law_number_here", "_law_place", "_law_cell"] (defScope s_law_figure) := ⟨rfl, rfl, rfl, by decide +kernel, rfl, by decide +kernel, by decide +kernel⟩
theorem ok_law_figure (T : Txt K mg A) (G__law_low : DOk P w K mg base 1 "_law_low" (S_low1)) (G__law_high : DOk P w K mg base 1 "_law_high" (S_high1)) (F : Fun K "_law_figure" "_law_figure" s_law_figure f fd) : FnOk P w K mg base CX0 2 f fd ["_law_name", "_law_number_here", "_law_place", "_law_cell"] (PureSp K (S_fig)) := by
  refine okD F sc_law_figure (fun ds Q h => ?_) (fun cdv A' outer s H E hr ds Q h => ?_)
  · obtain ⟨k, n, p, c, rfl, hn, q⟩ := h
    rfl
  obtain ⟨k, n, p, c, rfl, hn, q⟩ := h
  refine ⟨_, (dss_cons (ds_set (i := 4) sc_law_figure.nd rfl (Or.inl rfl) (de_call G__law_low (hr.mono (by decide)) rfl (da_cons (dv 0) (da_cons (dv 1) (da_cons (dv 2) da_nil)))))
  (dss_cons (ds_set (i := 5) sc_law_figure.nd rfl (Or.inl rfl) (de_call G__law_high (hr.mono (by decide)) rfl (da_cons (dv 0) (da_cons (dv 1) (da_cons (dv 2) da_nil)))))
  (dss_cons (ds_set (i := 6) sc_law_figure.nd rfl (Or.inl rfl) (de_op o_mod (de_op o_fdiv (dv 3) de_int) de_int))
  (dss_cons (ds_if (dt_cmp (o_lt) (dv 6) de_int (nomark _)) (dss_one (ds_ret (de_ix (de_lst (da_cons (dv 4) (da_cons (dv 5) (da_cons de_int da_nil)))) (dv 6) (fun _ _ => rfl)))) dss_nil)
  (dss_one (ds_ret (de_op o_add (dv 4) (de_op o_mod (dv 3) (de_op o_add (de_op o_sub (dv 5) (dv 4)) de_int))))))))), ?_⟩
  obtain ⟨hL, hH⟩ := low_le hn p
  have hp : (0 : Int) < k.high n p - k.low n p + 1 := by omega
  have f0 := Int.fmod_nonneg_of_pos c hp
  have f1 := Int.fmod_lt_of_pos c hp
  have a0 := Int.fmod_nonneg_of_pos (c.fdiv 7919) (show (0 : Int) < 7 by decide)
  have a1 := Int.fmod_lt_of_pos (c.fdiv 7919) (show (0 : Int) < 7 by decide)
  refine ⟨_, rfl, _, rfl, _, rfl, k, n, p, rfl, ?_⟩
  refine ⟨_, rfl, _, rfl, _, rfl, k, n, p, rfl, hn, ?_⟩
  walk_at "rd"
  refine ifB (fun h => ?_) (fun h => ?_)
  · have h := of_decide_eq_true h
    walk_at "rd"
    rcases (by omega : (c.fdiv 7919).fmod 7 = 0 ∨ (c.fdiv 7919).fmod 7 = 1 ∨ (c.fdiv 7919).fmod 7 = 2) with e | e | e
    · refine ⟨_, _, _, rfl, rfl, by rw [e]; rfl, q _ ⟨Int.le_refl _, by omega⟩⟩
    · refine ⟨_, _, _, rfl, rfl, by rw [e]; rfl, q _ ⟨by omega, Int.le_refl _⟩⟩
    · refine ⟨_, _, _, rfl, rfl, by rw [e]; rfl, q _ ⟨hL, hH⟩⟩
  · walk_at "rd"
    refine ⟨(by show k.high n p - k.low n p + 1 ≠ 0; omega), ?_⟩
    walk_at "rd"
    exact q _ ⟨by omega, by omega⟩
abbrev s_law_legal : Stmt := top 32
theorem sc_law_legal : FnScope ["_law_name", "_law_number_here", "_law_row", "_law_made", "_law_place"] ["_law_name", "_law_number_here", "_law_row"] (defScope s_law_legal) := ⟨rfl, rfl, rfl, by decide +kernel, rfl, by decide +kernel, by decide +kernel⟩
theorem ok_law_legal (T : Txt K mg A) (F : Fun K "_law_legal" "_law_legal" s_law_legal f fd) : FnOk P w K mg base CX0 1 f fd ["_law_name", "_law_number_here", "_law_row"] (PureSp K (S_leg)) := by
  refine okD F sc_law_legal (fun ds Q h => ?_) (fun cdv A' outer s H E hr ds Q h => ?_)
  · obtain ⟨k, n, r0, rfl, hn, hF0, hl, q⟩ := h
    rfl
  obtain ⟨k, n, r0, rfl, hn, hF0, hl, q⟩ := h
  refine ⟨_, (dss_cons (ds_setO (i := 3) sc_law_legal.nd rfl (Or.inl rfl) (df_list rfl T.n_list (dv 2)))
  (dss_join (ds_if (dt_cmp (o_eqS) (dv 0) de_str (nomark _)) (dss_one (ds_forD (j := 4) rfl sc_law_legal.nd rfl (Or.inl rfl) PassesOwn.never rfl T.range (da_cons (de_op o_sub (de_lenO 3 rfl T.len) de_int) (da_cons de_int (da_cons (de_neg de_int) da_nil))) (dss_one (ds_if (dt_cmp (o_eq hr) (de_ixO 3 (dv 4) (fun _ _ => rfl)) (dv 1) (nomark _)) (dss_one (ds_put 3 (de_op o_sub (dv 4) de_int) de_int)) dss_nil)))) dss_nil)
  (dss_cons (ds_while PassesOwn.never (DW.dt (dw_and (dt_cmp (o_gt) (de_lenO 3 rfl T.len) de_int (nomark _)) (dw_and1 (dt_cmp (o_eq hr) (de_ixO 3 (de_neg de_int) (fun _ _ => rfl)) de_int (nomark _))))) (dss_one (ds_pop 3)))
  (dss_one (ds_retO 3))))), ?_⟩
  have l0 := len_ints r0
  walk_at "rd"
  refine ⟨fun ρ => ∃ (r : List Int) (v4 : Sl), ρ = [.some (.str k.nam), .some (.int n), .some (rowD r0), .own (r.map Dt.int), v4] ∧ r.length = r0.length ∧ Fg k n r ∧ Fl k n r r.length, ?_, ?_⟩
  · by_cases hk : k = .falling
    · subst hk
      refine ⟨_, rfl, _, _, rfl, rfl, _, rfl, ifT rfl ?_⟩
      walk_at "rd"
      refine ⟨_, _, fun i ρ => ∃ (r : List Int) (v4 : Sl), ρ = [.some (.str Kd.falling.nam), .some (.int n), .some (rowD r0), .own (r.map Dt.int), v4] ∧ r.length = r0.length ∧ Fg .falling n r ∧ Fl .falling n r i, rfl, by omega, by omega, by decide, by decide, ⟨r0, _, rfl, rfl, hF0, fun _ q h1 h2 => by omega⟩, ?_, ?_⟩
      · rintro i ρ' hi ⟨r, v4, rfl, hr1, hF, hL⟩
        have lr := len_ints r
        obtain ⟨p, hp⟩ : ∃ p : Nat, p + i + 1 = r0.length := ⟨r0.length - 1 - i, by omega⟩
        have ep : ((List.map Dt.int r0).length : Int) - 1 - i = p := by omega
        rw [ep]
        have h0 : 0 < p := by omega
        refine ⟨_, rfl, _, rfl, _, _, rfl, atI_row (by omega) (by omega), _, rfl, rfl, rfl, _, rfl, ?_⟩
        rw [Int.toNat_natCast]
        have done : r.getD p 0 ≠ n ∨ r.getD (p - 1) 0 = 0 → Fl .falling n r (i + 1) := fun hz hk q h1 h2 h3 => by
          rcases (by omega : r.length ≤ q + 1 + i ∨ q + 1 = p) with z | z
          · exact hL hk q z h2 h3
          · subst z
            rcases hz with hz | hz
            · exact absurd h3 hz
            · exact hz
        refine ifB (fun h4 => ?_) (fun h4 => ⟨r, _, rfl, hr1, hF, done (.inl (of_neI h4))⟩)
        refine ⟨_, rfl, _, rfl, _, _, rfl, rfl, _, _, rfl, ixN_nat (by omega) (by rw [len_ints]; omega), ?_⟩
        have e1 : ((p : Int) - 1).toNat = p - 1 := by omega
        rw [e1, set_ints]
        refine ⟨r.set (p - 1) 0, _, rfl, by rw [List.length_set]; exact hr1, hF.put hn _, fun hk q h1 h2 h3 => ?_⟩
        rw [List.length_set] at h1 h2
        rcases (by omega : r.length ≤ q + 1 + i ∨ q + 1 = p) with z | z
        · exact (hL.put hn (show p - 1 + i < r.length by omega)) hk q (by rw [List.length_set]; exact z) (by rw [List.length_set]; exact h2) h3
        · subst z
          exact getD_set_eq (by omega)
      · rintro ρ' ⟨r, v4, rfl, hr1, hF, hL⟩
        exact ⟨r, v4, rfl, hr1, hF, fun hk q h1 h2 h3 => hL hk q (by omega) h2 h3⟩
    · have en : (k.nam == Str.ofString "falling") = false := by cases k <;> first | rfl | exact absurd rfl hk
      refine ⟨_, rfl, _, _, rfl, rfl, _, rfl, ifF en ⟨r0, _, rfl, rfl, hF0, fun hk' => ?_⟩⟩
      exact absurd (by cases k <;> first | rfl | cases hk') hk
  · rintro ρ' ⟨r, v4, rfl, hr1, hF, hL⟩
    refine while_trim rfl ?_
    have := trim_len r
    have hg : Lg k n r := ⟨hF, fun hk q h1 h2 => hL hk q (by omega) h1 h2⟩
    exact ⟨_, rfl, q _ hg.trim (by omega)⟩
abbrev s_law_row_by : Stmt := top 33
theorem sc_law_row_by : FnScope ["_law_name", "_law_number_here", "_law_cells", "_law_row"] ["_law_name", "_law_number_here", "_law_cells"] (defScope s_law_row_by) := ⟨rfl, rfl, rfl, by decide +kernel, rfl, by decide +kernel, by decide +kernel⟩
theorem ok_law_row_by (T : Txt K mg A) (G__law_figure : DOk P w K mg base 2 "_law_figure" (S_fig)) (G__law_legal : DOk P w K mg base 1 "_law_legal" (S_leg)) (F : Fun K "_law_row_by" "_law_row_by" s_law_row_by f fd) : FnOk P w K mg base CX0 3 f fd ["_law_name", "_law_number_here", "_law_cells"] (PureSp K (S_rowby)) := by
  refine okD F sc_law_row_by (fun ds Q h => ?_) (fun cdv A' outer s H E hr ds Q h => ?_)
  · obtain ⟨k, n, cs, rfl, hn, hl, q⟩ := h
    rfl
  obtain ⟨k, n, cs, rfl, hn, hl, q⟩ := h
  refine ⟨_, (dss_cons (ds_setCompRP (i := 3) (osc := defScope s_law_row_by) (N0 := ["_law_name", "_law_number_here", "_law_cells", "_law_row"]) (caps := ["_law_name", "_law_number_here", "_law_cells"]) (js := [0, 1, 2]) rfl (by decide +kernel) rfl rfl rfl sc_law_row_by.nd rfl (Or.inl rfl) rfl T.range (de_len rfl T.len (dv 2)) (fun _ _ _ _ _ => (de_call G__law_figure (hr.mono (by decide)) rfl (da_cons (dv 1) (da_cons (dv 2) (da_cons (dv 0) (da_cons (de_op o_mod (de_op o_mul (de_ix (dv 3) (dv 0) (fun _ _ => rfl)) de_int) de_int) da_nil)))))))
  (dss_one (ds_ret (de_call G__law_legal (hr.mono (by decide)) rfl (da_cons (dv 0) (da_cons (dv 1) (da_cons (dv 3) da_nil))))))), ?_⟩
  have ll := len_ints cs
  walk_at "rd"
  refine ⟨_, fun i es => ∃ r : List Int, es = r.map Dt.int ∧ r.length = i ∧ ∀ p, p < i → k.low n p ≤ r.getD p 0 ∧ r.getD p 0 ≤ k.high n p, rfl, by omega, by omega, ⟨[], rfl, rfl, fun p hp => absurd hp (Nat.not_lt_zero _)⟩, ?_, ?_⟩
  · rintro i es hi ⟨r, rfl, hlr, hp⟩
    have hi' : i < cs.length := by omega
    refine ⟨_, rfl, _, rfl, _, rfl, _, rfl, _, rfl, _, _, _, rfl, rfl, row_at hi', _, _, rfl, rfl, mulR (by decide), _, _, rfl, rfl, cmodN (by decide), ?_⟩
    refine ⟨k, n, i, _, rfl, hn, fun f hf => ?_⟩
    exact Fg.snoc hlr hp hf
  · rintro es ⟨r0, rfl, hlr, hp0⟩
    rw [Int.toNat_natCast, ll] at hlr hp0
    refine ⟨_, rfl, _, rfl, _, rfl, k, n, r0, rfl, hn, fun p hp => hp0 p (by omega), by omega, fun r' h1 h2 => q r' h1 (by omega)⟩
abbrev s_law_second : Stmt := top 38
theorem sc_law_second : FnScope ["_law_name", "_law_number_here", "_law_one", "_law_cells", "_law_change", "_law_row", "_law_at", "_law_k"] ["_law_name", "_law_number_here", "_law_one", "_law_cells", "_law_change"] (defScope s_law_second) := ⟨rfl, rfl, rfl, by decide +kernel, rfl, by decide +kernel, by decide +kernel⟩
theorem ok_law_second (T : Txt K mg A) (G__law_figure : DOk P w K mg base 2 "_law_figure" (S_fig)) (G__law_legal : DOk P w K mg base 1 "_law_legal" (S_leg)) (F : Fun K "_law_second" "_law_second" s_law_second f fd) : FnOk P w K mg base CX0 3 f fd ["_law_name", "_law_number_here", "_law_one", "_law_cells", "_law_change"] (PureSp K (S_second)) := by
  refine okD F sc_law_second (fun ds Q h => ?_) (fun cdv A' outer s H E hr ds Q h => ?_)
  · obtain ⟨k, n, r, cs, c, rfl, hn, hL, hl, hc, q⟩ := h
    rfl
  obtain ⟨k, n, r, cs, c, rfl, hn, hL, hl, hc, q⟩ := h
  refine ⟨_, (dss_cons (ds_setO (i := 5) sc_law_second.nd rfl (Or.inl rfl) (df_list rfl T.n_list (dv 2)))
  (dss_join (ds_if (DW.dt (dw_and (dt_cmp (o_lt) (de_op o_mod (dv 4) de_int) de_int (nomark _)) (dw_and1 (dt_cmp (o_gt) (de_lenO 5 rfl T.len) de_int (nomark _))))) (dss_cons (ds_set (i := 6) sc_law_second.nd rfl (Or.inl rfl) (de_op o_mod (de_op o_fdiv (dv 4) de_int) (de_lenO 5 rfl T.len)))
  (dss_join (ds_if (dt_cmp (o_eq hr) (de_op o_mod (dv 4) de_int) de_int (nomark _)) (dss_one (ds_set (i := 6) sc_law_second.nd rfl (Or.inl rfl) (de_max rfl rfl T.n_max (da_cons de_int (da_cons (de_op o_sub (de_op o_sub (de_lenO 5 rfl T.len) de_int) (de_op o_mod (de_op o_fdiv (dv 4) de_int) de_int)) da_nil))))) dss_nil)
  (dss_one (ds_put 5 (dv 6) (de_call G__law_figure (hr.mono (by decide)) rfl (da_cons (dv 0) (da_cons (dv 1) (da_cons (dv 6) (da_cons (de_op o_fdiv (dv 4) de_int) da_nil))))))))) (dss_one (ds_if (dt_cmp (o_eq hr) (de_op o_mod (dv 4) de_int) de_int (nomark _)) (dss_one (ds_forR2 (j := 7) rfl sc_law_second.nd rfl (Or.inl rfl) PassesOwn.never rfl T.range (da_cons (de_lenO 5 rfl T.len) (da_cons (de_min rfl rfl T.n_min (da_cons de_int (da_cons (de_op o_add (de_op o_add (de_lenO 5 rfl T.len) de_int) (de_op o_mod (de_op o_fdiv (dv 4) de_int) de_int)) da_nil))) da_nil)) (dss_one (ds_app 5 (de_call G__law_figure (hr.mono (by decide)) rfl (da_cons (dv 0) (da_cons (dv 1) (da_cons (dv 7) (da_cons (de_op o_fdiv (dv 4) (de_op o_add de_int (dv 7))) da_nil))))))))) (dss_one (ds_setCompR (i := 5) (osc := defScope s_law_second) (N0 := ["_law_name", "_law_number_here", "_law_one", "_law_cells", "_law_change", "_law_row", "_law_at", "_law_k"]) (caps := ["_law_name", "_law_number_here", "_law_cells"]) (js := [0, 1, 3]) rfl (by decide +kernel) rfl rfl rfl sc_law_second.nd rfl (Or.inl rfl) rfl T.range (de_len rfl T.len (dv 3)) (fun _ _ _ _ _ => (de_call G__law_figure (hr.mono (by decide)) rfl (da_cons (dv 1) (da_cons (dv 2) (da_cons (dv 0) (da_cons (de_op o_mod (de_op o_mul (de_ix (dv 3) (dv 0) (fun _ _ => rfl)) de_int) de_int) da_nil)))))))))))
  (dss_frz 5 (dss_one (ds_ret (de_call G__law_legal (hr.mono (by decide)) rfl (da_cons (dv 0) (da_cons (dv 1) (da_cons (dv 5) da_nil))))))))), ?_⟩
  have lr := len_ints r
  have lc := len_ints cs
  have f0 := Int.fmod_nonneg_of_pos (c.fdiv 5) (show (0 : Int) < 3 by decide)
  have f1 := Int.fmod_lt_of_pos (c.fdiv 5) (show (0 : Int) < 3 by decide)
  walk_at "rd"
  refine ⟨fun ρ => ∃ (r1 : List Int) (v6 v7 : Sl), ρ = [.some (.str k.nam), .some (.int n), .some (rowD r), .some (rowD cs), .some (.int c), .own (r1.map Dt.int), v6, v7] ∧ Fg k n r1 ∧ r1.length ≤ 200, ?_, ?_⟩
  · have el : dIfS (dTest (dOp gEq (dOp (gIC CModN fun i j => Dt.int (i.fmod j)) (dVar 4) (dC (Dt.int 5))) (dC (Dt.int 2)))) (dForR2 7 (dCons (dLenO 5) (dCons (dMin (dCons (dC (Dt.int 60)) (dCons (dOp (gI fun i j => Dt.int (i + j)) (dOp (gI fun i j => Dt.int (i + j)) (dLenO 5) (dC (Dt.int 1))) (dOp (gIC CModN fun i j => Dt.int (i.fmod j)) (dOp (gIC CDivN fun i j => Dt.int (i.fdiv j)) (dVar 4) (dC (Dt.int 5))) (dC (Dt.int 3)))) dNil))) dNil)) (dApp 5 (dCall S_fig (dCons (dVar 0) (dCons (dVar 1) (dCons (dVar 7) (dCons (dOp (gIC CDivN fun i j => Dt.int (i.fdiv j)) (dVar 4) (dOp (gI fun i j => Dt.int (i + j)) (dC (Dt.int 13)) (dVar 7))) dNil))))))) (dSetO 5 (dCompR [0, 1, 3] (dLen (dVar 3)) (dCall S_fig (dCons (dVar 1) (dCons (dVar 2) (dCons (dVar 0) (dCons (dOp (gIC CModN fun i j => Dt.int (i.fmod j)) (dOp (gIC IntMulOk fun i j => Dt.int (i * j)) (dIx (dVar 3) (dVar 0)) (dC (Dt.int 69621))) (dC (Dt.int 2147483629))) dNil))))))) { nx := fun ρ => ∃ (r1 : List Int) (v6 v7 : Sl), ρ = [.some (.str k.nam), .some (.int n), .some (rowD r), .some (rowD cs), .some (.int c), .own (r1.map Dt.int), v6, v7] ∧ Fg k n r1 ∧ r1.length ≤ 200, rt := Q } [.some (.str k.nam), .some (.int n), .some (rowD r), .some (rowD cs), .some (.int c), .own (r.map Dt.int), Sl.none, Sl.none] := by
      refine ⟨_, rfl, _, _, rfl, rfl, cmodN (by decide), rfl, rfl, _, rfl, ?_⟩
      refine ifB (fun h3 => ?_) (fun h3 => ?_)
      · walk_at "rd"
        have em : ∃ M : Nat, (if ((r.map Dt.int).length : Int) + 1 + (c.fdiv 5).fmod 3 < 60 then ((r.map Dt.int).length : Int) + 1 + (c.fdiv 5).fmod 3 else 60) = (M : Int) ∧ M ≤ 60 := by
          split
          · exact ⟨(((r.map Dt.int).length : Int) + 1 + (c.fdiv 5).fmod 3).toNat, by omega, by omega⟩
          · exact ⟨60, rfl, Nat.le_refl _⟩
        obtain ⟨M, em, hM⟩ := em
        refine ⟨_, _, fun i ρ => ∃ (r1 : List Int) (v7 : Sl), ρ = [.some (.str k.nam), .some (.int n), .some (rowD r), .some (rowD cs), .some (.int c), .own (r1.map Dt.int), Sl.none, v7] ∧ r1.length = r.length + i ∧ ∀ p, p < r.length + i → k.low n p ≤ r1.getD p 0 ∧ r1.getD p 0 ≤ k.high n p, rfl, by omega, by omega, ?_, ?_, ⟨r, _, rfl, rfl, hL.fig⟩, ?_, ?_⟩
        · rw [em]; omega
        · rw [em]; omega
        · rintro i ρ' hi ⟨r1, v7, rfl, hr1, hF⟩
          have hl1 := len_ints r1
          have ep : ((r.map Dt.int).length : Int) + (i : Int) = ((r.length + i : Nat) : Int) := by omega
          rw [ep]
          refine ⟨_, rfl, _, rfl, _, rfl, _, rfl, _, rfl, _, rfl, _, _, rfl, rfl, _, _, rfl, rfl, ⟨by omega, by omega⟩, k, n, r.length + i, _, rfl, hn, fun f hf => ?_⟩
          obtain ⟨r2, e2, l2, h2⟩ := Fg.snoc hr1 hF hf
          exact ⟨by omega, r2, _, by rw [e2]; rfl, by omega, fun p hp => h2 p (by omega)⟩
        · rintro ρ' ⟨r1, v7, rfl, hr1, hF⟩
          refine ⟨r1, _, _, rfl, fun p hp => hF p (by omega), ?_⟩
          rw [em] at hr1
          omega
      · walk_at "rd"
        refine ⟨_, fun i es => ∃ r : List Int, es = r.map Dt.int ∧ r.length = i ∧ ∀ p, p < i → k.low n p ≤ r.getD p 0 ∧ r.getD p 0 ≤ k.high n p, rfl, by omega, by omega, ⟨[], rfl, rfl, fun p hp => absurd hp (Nat.not_lt_zero _)⟩, ?_, ?_⟩
        · rintro i es hi ⟨r, rfl, hlr, hp⟩
          have hi' : i < cs.length := by omega
          refine ⟨_, rfl, _, rfl, _, rfl, _, rfl, _, rfl, _, _, _, rfl, rfl, row_at hi', _, _, rfl, rfl, mulR (by decide), _, _, rfl, rfl, cmodN (by decide), ?_⟩
          exact ⟨k, n, i, _, rfl, hn, fun f hf => Fg.snoc hlr hp hf⟩
        · rintro es ⟨r0, rfl, hlr, hp0⟩
          rw [Int.toNat_natCast, lc] at hlr hp0
          exact ⟨_, rfl, r0, _, _, rfl, fun p hp => hp0 p (by omega), by omega⟩
    refine ⟨_, rfl, _, _, rfl, rfl, cmodN (by decide), _, _, rfl, rfl, _, rfl, ?_⟩
    refine ifB (fun h1 => ?_) (fun h1 => ifF rfl el)
    refine ⟨_, rfl, _, _, rfl, rfl, _, rfl, ?_⟩
    refine ifB (fun h2 => ?_) (fun h2 => el)
    have h2 : (0 : Int) < ((r.map Dt.int).length : Int) := of_decide_eq_true h2
    have g0 := Int.fmod_nonneg_of_pos (c.fdiv 5) h2
    have g1 := Int.fmod_lt_of_pos (c.fdiv 5) h2
    refine ⟨_, rfl, _, _, rfl, rfl, cdivN (by decide), _, rfl, _, _, rfl, rfl, (show ((r.map Dt.int).length : Int) ≠ 0 by omega), ?_⟩
    refine ⟨fun ρ => ∃ at_ : Nat, ρ = [.some (.str k.nam), .some (.int n), .some (rowD r), .some (rowD cs), .some (.int c), .own (r.map Dt.int), .some (.int at_), Sl.none] ∧ at_ < r.length, ?_, ?_⟩
    · refine ⟨_, rfl, _, _, rfl, rfl, cmodN (by decide), rfl, rfl, _, rfl, ?_⟩
      refine ifB (fun h3 => ?_) (fun h3 => ?_)
      · walk_at "rd"
        have em : ∃ M : Nat, (if ((r.map Dt.int).length : Int) - 1 - (c.fdiv 5).fmod 3 > 0 then ((r.map Dt.int).length : Int) - 1 - (c.fdiv 5).fmod 3 else 0) = (M : Int) ∧ M < r.length := by
          split
          · exact ⟨(((r.map Dt.int).length : Int) - 1 - (c.fdiv 5).fmod 3).toNat, by omega, by omega⟩
          · exact ⟨0, rfl, by omega⟩
        obtain ⟨M, em, hM⟩ := em
        refine ⟨M, ?_, hM⟩
        rw [← em]
        rfl
      · refine ⟨((c.fdiv 5).fmod ((r.map Dt.int).length : Int)).toNat, ?_, by omega⟩
        rw [Int.toNat_of_nonneg g0]
        rfl
    · rintro ρ' ⟨at_, rfl, ha⟩
      refine ⟨_, rfl, _, rfl, _, rfl, _, rfl, _, rfl, _, _, rfl, rfl, cdivN (by decide), k, n, at_, _, rfl, hn, fun f hf => ?_⟩
      refine ⟨_, rfl, _, _, rfl, ixN_nat (by omega) (by rw [len_ints]; omega), ?_⟩
      rw [Int.toNat_natCast, set_ints]
      refine ⟨r.set at_ f, _, _, rfl, fun p hp => ?_, by rw [List.length_set]; omega⟩
      rw [List.length_set] at hp
      by_cases e : at_ = p
      · subst e
        rw [getD_set_eq hp]
        exact hf
      · rw [getD_set_ne e]
        exact hL.fig p hp
  · rintro ρ' ⟨r1, v6, v7, rfl, hF, hl1⟩
    exact ⟨_, rfl, _, rfl, _, rfl, _, rfl, k, n, r1, rfl, hn, hF, by omega, fun r' h1 h2 => q r' h1 (by omega)⟩
abbrev s_is_whole : Stmt := top 9
theorem sc_is_whole : FnScope ["value"] ["value"] (defScope s_is_whole) := ⟨rfl, rfl, rfl, by decide +kernel, rfl, by decide +kernel, by decide +kernel⟩
theorem ok_is_whole (T : Txt K mg A) (F : Fun K "is_whole" "is_whole" s_is_whole f fd) : FnOk P w K mg base CX0 1 f fd ["value"] (PureSp K (S_whole)) := by
  refine okD F sc_is_whole (fun ds Q h => ?_) (fun cdv A' outer s H E hr ds Q h => ?_)
  · obtain ⟨d, b, rfl, hw, q⟩ := h
    rfl
  obtain ⟨d, b, rfl, hw, q⟩ := h
  refine ⟨_, (dss_one (ds_ret (de_and (de_isi (T := .int) T.kt T.isinstance T.n_int PyProof.Rows.boot_int (dv 0)) (de_one (de_not (de_isi (T := .bool) T.kt T.isinstance T.n_bool PyProof.Rows.boot_bool (dv 0))))))), ?_⟩
  cases d <;> cases hw
  all_goals
    walk_at "rd"
    exact q
abbrev s_bounded : Stmt := top 11
theorem sc_bounded : FnScope ["number", "least", "most"] ["number", "least", "most"] (defScope s_bounded) := ⟨rfl, rfl, rfl, by decide +kernel, rfl, by decide +kernel, by decide +kernel⟩
theorem ok_bounded (T : Txt K mg A) (G_is_whole : DOk P w K mg base 1 "is_whole" (S_whole)) (F : Fun K "bounded" "bounded" s_bounded f fd) : FnOk P w K mg base CX0 2 f fd ["number", "least", "most"] (PureSp K (S_bounded)) := by
  refine okD F sc_bounded (fun ds Q h => ?_) (fun cdv A' outer s H E hr ds Q h => ?_)
  · obtain ⟨n, lo, hi, rfl, h1, h2, q⟩ := h
    rfl
  obtain ⟨n, lo, hi, rfl, h1, h2, q⟩ := h
  refine ⟨_, (dss_cons (ds_if (DW.dt (dw_or (dt_not (dt_val (de_call G_is_whole (hr.mono (by decide)) rfl (da_cons (dv 0) da_nil)))) (dw_or (dt_cmp (o_lt) (dv 0) (dv 1) (nomark _)) (dw_or1 (dt_cmp (o_gt) (dv 0) (dv 2) (nomark _)))))) (dss_one ds_never) dss_nil)
  (dss_one (ds_ret (dv 0)))), ?_⟩
  walk_at "rd"
  rw [decide_eq_false (by omega : ¬ n < lo)]
  walk_at "rd"
  rw [decide_eq_false (by omega : ¬ hi < n)]
  walk_at "rd"
  exact q
abbrev s_Plain_init : Stmt := inClass (top 13) 0
theorem sc_Plain_init : FnScope ["self", "base"] ["self", "base"] (defScope s_Plain_init) := ⟨rfl, rfl, rfl, by decide +kernel, rfl, by decide +kernel, by decide +kernel⟩
theorem ok_Plain_init (T : Txt K mg A) (G_bounded : DOk P w K mg base 2 "bounded" (S_bounded)) (F : Fun K "__init__" "Plain.__init__" s_Plain_init f fd) : FnOk P w K mg base CX0 3 f fd ["self", "base"] (spInitW A.Plain "base" (Kd.ok .plain)) := by
  refine init_ok F sc_Plain_init T.cl_Plain T.na_Plain (fun cdv A outer s H E hr => ?_)
  obtain ⟨te, p, l⟩ := ((de_call G_bounded (hr.mono (by decide)) rfl (da_cons (dv 1) (da_cons de_int (da_cons de_int da_nil)))) : DE (cxOf CX0 P w K mg base ["self", "base"] "Plain.__init__" (defScope s_Plain_init) f cdv A outer s H E).nox _ _)
  refine ⟨te, _, pss_one (ps_fld (pv 0) p rfl), l, fun i hi => ?_⟩
  exact ⟨_, rfl, _, _, _, rfl, hi.1, hi.2, rfl⟩
abbrev s_Below_init : Stmt := inClass (top 14) 0
theorem sc_Below_init : FnScope ["self", "base"] ["self", "base"] (defScope s_Below_init) := ⟨rfl, rfl, rfl, by decide +kernel, rfl, by decide +kernel, by decide +kernel⟩
theorem ok_Below_init (T : Txt K mg A) (G_bounded : DOk P w K mg base 2 "bounded" (S_bounded)) (F : Fun K "__init__" "Below.__init__" s_Below_init f fd) : FnOk P w K mg base CX0 3 f fd ["self", "base"] (spInitW A.Below "base" (Kd.ok .below)) := by
  refine init_ok F sc_Below_init T.cl_Below T.na_Below (fun cdv A outer s H E hr => ?_)
  obtain ⟨te, p, l⟩ := ((de_call G_bounded (hr.mono (by decide)) rfl (da_cons (dv 1) (da_cons de_int (da_cons de_int da_nil)))) : DE (cxOf CX0 P w K mg base ["self", "base"] "Below.__init__" (defScope s_Below_init) f cdv A outer s H E).nox _ _)
  refine ⟨te, _, pss_one (ps_fld (pv 0) p rfl), l, fun i hi => ?_⟩
  exact ⟨_, rfl, _, _, _, rfl, hi.1, hi.2, rfl⟩
abbrev s_Balanced_init : Stmt := inClass (top 15) 0
theorem sc_Balanced_init : FnScope ["self", "half"] ["self", "half"] (defScope s_Balanced_init) := ⟨rfl, rfl, rfl, by decide +kernel, rfl, by decide +kernel, by decide +kernel⟩
theorem ok_Balanced_init (T : Txt K mg A) (G_bounded : DOk P w K mg base 2 "bounded" (S_bounded)) (F : Fun K "__init__" "Balanced.__init__" s_Balanced_init f fd) : FnOk P w K mg base CX0 3 f fd ["self", "half"] (spInitW A.Balanced "half" (Kd.ok .balanced)) := by
  refine init_ok F sc_Balanced_init T.cl_Balanced T.na_Balanced (fun cdv A outer s H E hr => ?_)
  obtain ⟨te, p, l⟩ := ((de_call G_bounded (hr.mono (by decide)) rfl (da_cons (dv 1) (da_cons de_int (da_cons de_int da_nil)))) : DE (cxOf CX0 P w K mg base ["self", "half"] "Balanced.__init__" (defScope s_Balanced_init) f cdv A outer s H E).nox _ _)
  refine ⟨te, _, pss_one (ps_fld (pv 0) p rfl), l, fun i hi => ?_⟩
  exact ⟨_, rfl, _, _, _, rfl, hi.1, hi.2, rfl⟩
abbrev s_Growing_init : Stmt := inClass (top 16) 0
theorem sc_Growing_init : FnScope ["self", "first"] ["self", "first"] (defScope s_Growing_init) := ⟨rfl, rfl, rfl, by decide +kernel, rfl, by decide +kernel, by decide +kernel⟩
theorem ok_Growing_init (T : Txt K mg A) (G_bounded : DOk P w K mg base 2 "bounded" (S_bounded)) (F : Fun K "__init__" "Growing.__init__" s_Growing_init f fd) : FnOk P w K mg base CX0 3 f fd ["self", "first"] (spInitW A.Growing "first" (Kd.ok .growing)) := by
  refine init_ok F sc_Growing_init T.cl_Growing T.na_Growing (fun cdv A outer s H E hr => ?_)
  obtain ⟨te, p, l⟩ := ((de_call G_bounded (hr.mono (by decide)) rfl (da_cons (dv 1) (da_cons de_int (da_cons de_int da_nil)))) : DE (cxOf CX0 P w K mg base ["self", "first"] "Growing.__init__" (defScope s_Growing_init) f cdv A outer s H E).nox _ _)
  refine ⟨te, _, pss_one (ps_fld (pv 0) p rfl), l, fun i hi => ?_⟩
  exact ⟨_, rfl, _, _, _, rfl, hi.1, hi.2, rfl⟩
abbrev s_Falling_init : Stmt := inClass (top 17) 0
theorem sc_Falling_init : FnScope ["self", "most"] ["self", "most"] (defScope s_Falling_init) := ⟨rfl, rfl, rfl, by decide +kernel, rfl, by decide +kernel, by decide +kernel⟩
theorem ok_Falling_init (T : Txt K mg A) (G_bounded : DOk P w K mg base 2 "bounded" (S_bounded)) (F : Fun K "__init__" "Falling.__init__" s_Falling_init f fd) : FnOk P w K mg base CX0 3 f fd ["self", "most"] (spInitW A.Falling "most" (Kd.ok .falling)) := by
  refine init_ok F sc_Falling_init T.cl_Falling T.na_Falling (fun cdv A outer s H E hr => ?_)
  obtain ⟨te, p, l⟩ := ((de_call G_bounded (hr.mono (by decide)) rfl (da_cons (dv 1) (da_cons de_int (da_cons de_int da_nil)))) : DE (cxOf CX0 P w K mg base ["self", "most"] "Falling.__init__" (defScope s_Falling_init) f cdv A outer s H E).nox _ _)
  refine ⟨te, _, pss_one (ps_fld (pv 0) p rfl), l, fun i hi => ?_⟩
  exact ⟨_, rfl, _, _, _, rfl, hi.1, hi.2, rfl⟩
abbrev s_law_way : Stmt := top 36
theorem sc_law_way : FnScope ["_law_name", "_law_number_here"] ["_law_name", "_law_number_here"] (defScope s_law_way) := ⟨rfl, rfl, rfl, by decide +kernel, rfl, by decide +kernel, by decide +kernel⟩
theorem ok_law_way (T : Txt K mg A) (M_Plain : KOk P w K mg base 3 "Plain" A.Plain "base" (Kd.ok .plain)) (M_Below : KOk P w K mg base 3 "Below" A.Below "base" (Kd.ok .below)) (M_Balanced : KOk P w K mg base 3 "Balanced" A.Balanced "half" (Kd.ok .balanced)) (M_Growing : KOk P w K mg base 3 "Growing" A.Growing "first" (Kd.ok .growing)) (M_Falling : KOk P w K mg base 3 "Falling" A.Falling "most" (Kd.ok .falling)) (F : Fun K "_law_way" "_law_way" s_law_way f fd) : FnOk P w K mg base CX0 5 f fd ["_law_name", "_law_number_here"] (PureSp K (S_wayT A)) := by
  refine okD F sc_law_way (fun ds Q h => ?_) (fun cdv A' outer s H E hr ds Q h => ?_)
  · obtain ⟨k, n, rfl, hp, hn, q⟩ := h
    rfl
  obtain ⟨k, n, rfl, hp, hn, q⟩ := h
  refine ⟨_, (dss_cons (ds_if (dt_cmp (o_eqS) (dv 0) de_str (nomark _)) (dss_one (ds_ret (de_make M_Plain (hr.mono (by decide)) rfl (da_cons (dv 1) da_nil)))) dss_nil)
  (dss_cons (ds_if (dt_cmp (o_eqS) (dv 0) de_str (nomark _)) (dss_one (ds_ret (de_make M_Below (hr.mono (by decide)) rfl (da_cons (dv 1) da_nil)))) dss_nil)
  (dss_cons (ds_if (dt_cmp (o_eqS) (dv 0) de_str (nomark _)) (dss_one (ds_ret (de_make M_Balanced (hr.mono (by decide)) rfl (da_cons (dv 1) da_nil)))) dss_nil)
  (dss_cons (ds_if (dt_cmp (o_eqS) (dv 0) de_str (nomark _)) (dss_one (ds_ret (de_make M_Growing (hr.mono (by decide)) rfl (da_cons (dv 1) da_nil)))) dss_nil)
  (dss_one (ds_ret (de_make M_Falling (hr.mono (by decide)) rfl (da_cons (dv 1) da_nil)))))))), ?_⟩
  cases k
  all_goals first | exact absurd rfl hp | skip
  all_goals
    walk_at "rd"
    exact ⟨hn, q⟩
abbrev s_law_sign : Stmt := top 39
theorem sc_law_sign : FnScope ["_law_one", "_law_other"] ["_law_one", "_law_other"] (defScope s_law_sign) := ⟨rfl, rfl, rfl, by decide +kernel, rfl, by decide +kernel, by decide +kernel⟩
theorem ok_law_sign (T : Txt K mg A) (F : Fun K "_law_sign" "_law_sign" s_law_sign f fd) : FnOk P w K mg base CX0 1 f fd ["_law_one", "_law_other"] (PureSp K (S_sign)) := by
  refine okD F sc_law_sign (fun ds Q h => ?_) (fun cdv A' outer s H E hr ds Q h => ?_)
  · obtain ⟨a, b, rfl, q⟩ := h
    rfl
  obtain ⟨a, b, rfl, q⟩ := h
  refine ⟨_, (dss_cons (ds_if (dt_cmp (o_lt) (dv 0) (dv 1) (nomark _)) (dss_one (ds_ret (de_neg de_int))) dss_nil)
  (dss_cons (ds_if (dt_cmp (o_gt) (dv 0) (dv 1) (nomark _)) (dss_one (ds_ret de_int)) dss_nil)
  (dss_one (ds_ret de_int)))), ?_⟩
  unfold sg at q
  refine ⟨_, rfl, _, rfl, _, _, rfl, rfl, _, rfl, ifB (fun h => ?_) (fun h => ?_)⟩
  · rw [if_pos (of_decide_eq_true h)] at q
    exact ⟨_, rfl, q⟩
  · have h : ¬ a < b := of_decide_eq_false h
    rw [if_neg h] at q
    refine ⟨_, rfl, _, rfl, _, _, rfl, rfl, _, rfl, ifB (fun h => ?_) (fun h => ?_)⟩
    · rw [if_pos (of_decide_eq_true h)] at q
      exact q
    · rw [if_neg (of_decide_eq_false h)] at q
      exact q
abbrev s_law_weights : Stmt := top 34
theorem sc_law_weights : FnScope ["_law_name", "_law_number_here", "_law_many", "_law_found", "_law_lower", "_law_k", "_law_here"] ["_law_name", "_law_number_here", "_law_many"] (defScope s_law_weights) := ⟨rfl, rfl, rfl, by decide +kernel, rfl, by decide +kernel, by decide +kernel⟩
theorem ok_law_weights (T : Txt K mg A) (F : Fun K "_law_weights" "_law_weights" s_law_weights f fd) : FnOk P w K mg base CX0 1 f fd ["_law_name", "_law_number_here", "_law_many"] (PureSp K (S_wl)) := by
  refine okD F sc_law_weights (fun ds Q h => ?_) (fun cdv A' outer s H E hr ds Q h => ?_)
  · obtain ⟨k, n, m, rfl, hp, hn, hm, q⟩ := h
    rfl
  obtain ⟨k, n, m, rfl, hp, hn, hm, q⟩ := h
  refine ⟨_, (dss_cons (ds_setO (i := 3) sc_law_weights.nd rfl (Or.inl rfl) (df_lst (da_cons de_int da_nil)))
  (dss_cons (ds_set (i := 4) sc_law_weights.nd rfl (Or.inl rfl) de_int)
  (dss_cons (ds_forR (j := 5) rfl sc_law_weights.nd rfl (Or.inl rfl) PassesOwn.never rfl T.range (dv 2) (dss_cons (ds_set (i := 6) sc_law_weights.nd rfl (Or.inl rfl) (de_ixO 3 (de_neg de_int) (fun _ _ => rfl)))
  (dss_one (ds_if (dt_cmp (o_eqS) (dv 0) de_str (nomark _)) (dss_one (ds_app 3 (de_op o_mul (dv 6) (dv 1)))) (dss_one (ds_if (dt_cmp (o_eqS) (dv 0) de_str (nomark _)) (dss_one (ds_app 3 (de_op o_sub de_int (de_op o_mul (dv 6) (dv 1))))) (dss_one (ds_if (dt_cmp (o_eqS) (dv 0) de_str (nomark _)) (dss_one (ds_app 3 (de_op o_mul (dv 6) (de_op o_add (de_op o_mul de_int (dv 1)) de_int)))) (dss_one (ds_if (dt_cmp (o_eqS) (dv 0) de_str (nomark _)) (dss_one (ds_app 3 (de_op o_mul (dv 6) (de_op o_add (dv 1) (dv 5))))) (dss_cons (ds_app 3 (de_op o_add (de_op o_mul (dv 1) (dv 6)) (dv 4)))
  (dss_one (ds_set (i := 4) sc_law_weights.nd rfl (Or.inl rfl) (dv 6))))))))))))))
  (dss_one (ds_retO 3))))), ?_⟩
  walk_at "rd"
  have e1 : wtl k n (0 + 1) = [1] := by cases k <;> rfl
  refine ⟨_, fun i ρ => ∃ c v5 v6, ρ = [.some (.str k.nam), .some (.int n), .some (.int m), .own ((wtl k n (i + 1)).map Dt.int), .some (.int c), v5, v6] ∧ (k = .falling → c = (wtF n i).1), rfl, by omega, by omega, ⟨1, .none, .none, by rw [e1]; rfl, fun _ => rfl⟩, ?_, ?_⟩
  · rintro i ρ' hi ⟨c, v5, v6, rfl, hc⟩
    obtain ⟨b1, b2⟩ := ok_bd hn
    have ea : atI ((wtl k n (i + 1)).map Dt.int) (-1) = some (.int (wt k n i).re) := by rw [wtl_succ]; exact atI_last
    have hl := wtl_len k n (i + 1)
    have hl' := len_ints (wtl k n (i + 1))
    have ap : ∀ z : Int, z = (wt k n (i + 1)).re → (wtl k n (i + 1)).map Dt.int ++ [.int z] = (wtl k n (i + 1 + 1)).map Dt.int := fun z hz => by rw [hz, wtl_succ k n (i + 1), app_ints]
    refine ⟨_, rfl, _, rfl, _, _, rfl, ea, ?_⟩
    cases k
    all_goals first | exact absurd rfl hp | skip
    · repeat (first | (walk_at "rd1") | refine ⟨small (by omega) (by omega) _, ?_⟩)
      refine ⟨by omega, c, _, _, by rw [ap _ (by rw [wt_rat rfl, Int.mul_comm]; rfl)]; rfl, fun h => nomatch h⟩
    · repeat (first | (walk_at "rd1") | refine ⟨small (by omega) (by omega) _, ?_⟩)
      refine ⟨by omega, c, _, _, by rw [ap _ (by rw [wt_rat rfl, Int.mul_comm]; show 0 - n * _ = -n * _; rw [Int.neg_mul]; omega)]; rfl, fun h => nomatch h⟩
    · repeat (first | (walk_at "rd1") | refine ⟨small (by omega) (by omega) _, ?_⟩)
      refine ⟨by omega, c, _, _, by rw [ap _ (by rw [wt_rat rfl, Int.mul_comm]; rfl)]; rfl, fun h => nomatch h⟩
    · repeat (first | (walk_at "rd1") | refine ⟨small (by omega) (by omega) _, ?_⟩)
      refine ⟨by omega, c, _, _, by rw [ap _ (by rw [wt_rat rfl, Int.mul_comm]; rfl)]; rfl, fun h => nomatch h⟩
    · repeat (first | (walk_at "rd1") | refine ⟨small' (by omega) (by omega) _, ?_⟩)
      refine ⟨by omega, _, rfl, (wt .falling n i).re, _, _, by rw [ap _ (by rw [hc rfl]; rfl)]; rfl, fun _ => rfl⟩
  · rintro ρ' ⟨c, v5, v6, rfl, hc⟩
    rw [Int.toNat_natCast]
    exact ⟨_, rfl, q⟩
abbrev s_law_number : Stmt := top 35
theorem sc_law_number : FnScope ["_law_name", "_law_number_here", "_law_row", "_law_found", "_law_weight", "_law_figure_here"] ["_law_name", "_law_number_here", "_law_row"] (defScope s_law_number) := ⟨rfl, rfl, rfl, by decide +kernel, rfl, by decide +kernel, by decide +kernel⟩
theorem ok_law_number (T : Txt K mg A) (G__law_weights : DOk P w K mg base 1 "_law_weights" (S_wl)) (F : Fun K "_law_number" "_law_number" s_law_number f fd) : FnOk P w K mg base CX0 2 f fd ["_law_name", "_law_number_here", "_law_row"] (PureSp K (S_num)) := by
  refine okD F sc_law_number (fun ds Q h => ?_) (fun cdv A' outer s H E hr ds Q h => ?_)
  · obtain ⟨k, n, r, rfl, hp, hn, hl, hb, q⟩ := h
    rfl
  obtain ⟨k, n, r, rfl, hp, hn, hl, hb, q⟩ := h
  refine ⟨_, (dss_cons (ds_set (i := 3) sc_law_number.nd rfl (Or.inl rfl) de_int)
  (dss_cons (ds_for_zip (i := 4) (j := 5) rfl sc_law_number.nd rfl rfl (Or.inl rfl) (Or.inl rfl) PassesOwn.never rfl T.n_zip (da_cons (de_call G__law_weights (hr.mono (by decide)) rfl (da_cons (dv 0) (da_cons (dv 1) (da_cons (de_len rfl T.len (dv 2)) da_nil)))) (da_cons (dv 2) da_nil)) (dss_one (ds_set (i := 3) sc_law_number.nd rfl (Or.inl rfl) (de_op o_add (dv 3) (de_op o_mul (dv 4) (dv 5))))))
  (dss_one (ds_ret (dv 3))))), ?_⟩
  have ll := len_ints r
  refine ⟨_, rfl, _, rfl, _, rfl, _, rfl, k, n, _, rfl, hp, hn, by omega, _, rfl, ?_⟩
  have hwl := wtl_len k n ((r.map Dt.int).length + 1)
  have e0 : (wsum k n r 0).re = 0 := by cases k <;> first | rfl | exact absurd rfl hp
  refine ⟨_, _, _, _, fun i ρ => ∃ v4 v5, ρ = [.some (.str k.nam), .some (.int n), .some (rowD r), .some (.int (wsum k n r i).re), v4, v5], rfl, rfl, rfl, ⟨_, _, by rw [e0]; rfl⟩, ?_, ?_⟩
  · rintro i x y ρ' hx hy ⟨v4, v5, rfl⟩
    obtain ⟨rfl, hi1⟩ := get_ints hx
    obtain ⟨rfl, hi2⟩ := get_ints hy
    rw [hwl] at hi1
    rw [wtl_get hi1]
    have wb := wt_bd hn (j := i) (by omega)
    refine ⟨_, rfl, _, rfl, _, rfl, _, _, rfl, rfl, mulBig wb.1 (bdR_get hb i) (by omega), _, _, rfl, rfl, .some (.int (wt k n i).re), .some (.int (r.getD i 0)), ?_⟩
    have es : (wsum k n r (i + 1)).re = (wsum k n r i).re + (wt k n i).re * r.getD i 0 := by rw [wsum_wF, wF_succ_re hp, ← wsum_wF, Int.mul_comm]
    rw [es]
    rfl
  · rintro ρ' ⟨v4, v5, rfl⟩
    have em : min ((wtl k n ((r.map Dt.int).length + 1)).map Dt.int).length (r.map Dt.int).length = r.length := by rw [len_ints, hwl]; omega
    rw [em]
    exact ⟨_, rfl, q⟩
abbrev s_law_is : Stmt := top 40
theorem sc_law_is : FnScope ["_law_found", "_law_due"] ["_law_found", "_law_due"] (defScope s_law_is) := ⟨rfl, rfl, rfl, by decide +kernel, rfl, by decide +kernel, by decide +kernel⟩
theorem ok_law_is (T : Txt K mg A) (F : Fun K "_law_is" "_law_is" s_law_is f fd) : FnOk P w K mg base CX0 1 f fd ["_law_found", "_law_due"] (PureSp K (S_isI)) := by
  refine okD F sc_law_is (fun ds Q h => ?_) (fun cdv A' outer s H E hr ds Q h => ?_)
  · obtain ⟨a, rfl, q⟩ := h
    rfl
  obtain ⟨a, rfl, q⟩ := h
  refine ⟨_, (dss_one (ds_ret (de_and (de_isi (T := .int) T.kt T.isinstance T.n_int PyProof.Rows.boot_int (dv 0)) (de_and (de_not (de_isi (T := .bool) T.kt T.isinstance T.n_bool PyProof.Rows.boot_bool (dv 0))) (de_one (de_cmp (o_eq hr) (dv 0) (dv 1) (nomark _))))))), ?_⟩
  walk_at "rd"
  have e : eqD (.int a) (.int a) = true := eqI rfl
  rw [e]
  exact q
abbrev s_has_mosts_above_noughts_alone : Stmt := top 21
theorem sc_has_mosts_above_noughts_alone : FnScope ["way", "row", "place"] ["way", "row"] (defScope s_has_mosts_above_noughts_alone) := ⟨rfl, rfl, rfl, by decide +kernel, rfl, by decide +kernel, by decide +kernel⟩
theorem ok_has_mosts_above_noughts_alone (T : Txt K mg A) (F : Fun K "has_mosts_above_noughts_alone" "has_mosts_above_noughts_alone" s_has_mosts_above_noughts_alone f fd) : FnOk P w K mg base CX0 1 f fd ["way", "row"] (PureSp K (S_mosts A)) := by
  refine okD F sc_has_mosts_above_noughts_alone (fun ds Q h => ?_) (fun cdv A' outer s H E hr ds Q h => ?_)
  · obtain ⟨n, r, rfl, hn, hl, q⟩ := h
    rfl
  obtain ⟨n, r, rfl, hn, hl, q⟩ := h
  refine ⟨_, (dss_cons (ds_forR2 (j := 2) rfl sc_has_mosts_above_noughts_alone.nd rfl (Or.inl rfl) PassesOwn.never rfl T.range (da_cons de_int (da_cons (de_len rfl T.len (dv 1)) da_nil)) (dss_one (ds_if (DW.dt (dw_and (dt_cmp (o_eq hr) (de_ix (dv 1) (dv 2) (fun _ _ => rfl)) (de_fld (dv 0)) (nomark _)) (dw_and1 (dt_cmp (o_ne hr) (de_ix (dv 1) (de_op o_sub (dv 2) de_int) (fun _ _ => rfl)) de_int (nomark _))))) (dss_one (ds_ret de_bl)) dss_nil)))
  (dss_one (ds_ret de_bl))), ?_⟩
  walk_at "rd"
  have ll := len_ints r
  refine ⟨_, _, fun i ρ => ∃ v, ρ = [.some (wayD A .falling n), .some (rowD r), v] ∧ ∀ p : Nat, p < i → r.getD (p + 1) 0 = n → r.getD p 0 = 0, rfl, by decide, by decide, by omega, by omega, ⟨_, rfl, fun p hp => absurd hp (Nat.not_lt_zero _)⟩, ?_, ?_⟩
  · rintro i ρ' hi ⟨v, rfl, hp⟩
    rw [ll] at hi
    have e1 : (1 + (i : Int)).toNat = i + 1 := by omega
    have e2 : (1 + (i : Int) - 1).toNat = i := by omega
    refine ⟨_, rfl, _, rfl, _, _, _, rfl, rfl, atI_row (by omega) (by omega), _, rfl, _, _, _, rfl, rfl, T.cl_Falling, T.na_Falling, rfl, rfl, _, rfl, ?_⟩
    rw [e1]
    refine ifB (fun h => ?_) (fun h => ifF rfl ?_)
    · refine ⟨_, rfl, _, rfl, _, _, rfl, rfl, _, _, _, rfl, rfl, atI_row (by omega) (by omega), rfl, rfl, _, rfl, ?_⟩
      rw [e2]
      refine ifB (fun h' => ?_) (fun h' => ?_)
      · refine q false ⟨fun z => (Bool.false_ne_true z).elim, fun z => ?_⟩
        exact absurd (z i (by omega) (of_eqI h)) (of_neI (of_nT h'))
      · refine ⟨.some (.int (1 + i)), rfl, fun p hp' => ?_⟩
        rcases (by omega : p < i ∨ p = i) with z | z
        · exact hp p z
        · subst z
          exact fun _ => of_eqI (of_nF h')
    · refine ⟨.some (.int (1 + i)), rfl, fun p hp' => ?_⟩
      rcases (by omega : p < i ∨ p = i) with z | z
      · exact hp p z
      · subst z
        exact fun z => absurd z (of_neI h)
  · rintro ρ' ⟨v, rfl, hp⟩
    rw [ll] at hp
    exact q true ⟨fun _ p hp' => hp p (by omega), fun _ => rfl⟩
abbrev s_Way_low : Stmt := inClass (top 12) 1
theorem sc_Way_low : FnScope ["self", "place"] ["self", "place"] (defScope s_Way_low) := ⟨rfl, rfl, rfl, by decide +kernel, rfl, by decide +kernel, by decide +kernel⟩
theorem ok_Way_low (T : Txt K mg A) (F : Fun K "low" "Way.low" s_Way_low f fd) : FnOk P w K mg base CX0 1 f fd ["self", "place"] (PureSp K (S_zero)) := by
  refine okD F sc_Way_low (fun ds Q h => ?_) (fun cdv A' outer s H E hr ds Q h => ?_)
  · obtain ⟨o, p, rfl, q⟩ := h
    rfl
  obtain ⟨o, p, rfl, q⟩ := h
  refine ⟨_, (dss_one (ds_ret de_int)), ?_⟩
  exact q
abbrev s_Balanced_low : Stmt := inClass (top 15) 1
theorem sc_Balanced_low : FnScope ["self", "place"] ["self", "place"] (defScope s_Balanced_low) := ⟨rfl, rfl, rfl, by decide +kernel, rfl, by decide +kernel, by decide +kernel⟩
theorem ok_Balanced_low (T : Txt K mg A) (F : Fun K "low" "Balanced.low" s_Balanced_low f fd) : FnOk P w K mg base CX0 1 f fd ["self", "place"] (PureSp K (S_get A .balanced (Kd.low .balanced))) := by
  refine okD F sc_Balanced_low (fun ds Q h => ?_) (fun cdv A' outer s H E hr ds Q h => ?_)
  · obtain ⟨n, p, rfl, hn, q⟩ := h
    rfl
  obtain ⟨n, p, rfl, hn, q⟩ := h
  refine ⟨_, (dss_one (ds_ret (de_neg (de_fld (dv 0))))), ?_⟩
  exact ⟨_, rfl, _, _, _, rfl, rfl, T.cl_Balanced, T.na_Balanced, _, rfl, q⟩
abbrev s_Plain_high : Stmt := inClass (top 13) 1
theorem sc_Plain_high : FnScope ["self", "place"] ["self", "place"] (defScope s_Plain_high) := ⟨rfl, rfl, rfl, by decide +kernel, rfl, by decide +kernel, by decide +kernel⟩
theorem ok_Plain_high (T : Txt K mg A) (F : Fun K "high" "Plain.high" s_Plain_high f fd) : FnOk P w K mg base CX0 1 f fd ["self", "place"] (PureSp K (S_get A .plain (Kd.high .plain))) := by
  refine okD F sc_Plain_high (fun ds Q h => ?_) (fun cdv A' outer s H E hr ds Q h => ?_)
  · obtain ⟨n, p, rfl, hn, q⟩ := h
    rfl
  obtain ⟨n, p, rfl, hn, q⟩ := h
  refine ⟨_, (dss_one (ds_ret (de_op o_sub (de_fld (dv 0)) de_int))), ?_⟩
  exact ⟨_, rfl, _, _, _, rfl, rfl, T.cl_Plain, T.na_Plain, _, _, rfl, rfl, q⟩
abbrev s_Below_high : Stmt := inClass (top 14) 1
theorem sc_Below_high : FnScope ["self", "place"] ["self", "place"] (defScope s_Below_high) := ⟨rfl, rfl, rfl, by decide +kernel, rfl, by decide +kernel, by decide +kernel⟩
theorem ok_Below_high (T : Txt K mg A) (F : Fun K "high" "Below.high" s_Below_high f fd) : FnOk P w K mg base CX0 1 f fd ["self", "place"] (PureSp K (S_get A .below (Kd.high .below))) := by
  refine okD F sc_Below_high (fun ds Q h => ?_) (fun cdv A' outer s H E hr ds Q h => ?_)
  · obtain ⟨n, p, rfl, hn, q⟩ := h
    rfl
  obtain ⟨n, p, rfl, hn, q⟩ := h
  refine ⟨_, (dss_one (ds_ret (de_op o_sub (de_fld (dv 0)) de_int))), ?_⟩
  exact ⟨_, rfl, _, _, _, rfl, rfl, T.cl_Below, T.na_Below, _, _, rfl, rfl, q⟩
abbrev s_Balanced_high : Stmt := inClass (top 15) 2
theorem sc_Balanced_high : FnScope ["self", "place"] ["self", "place"] (defScope s_Balanced_high) := ⟨rfl, rfl, rfl, by decide +kernel, rfl, by decide +kernel, by decide +kernel⟩
theorem ok_Balanced_high (T : Txt K mg A) (F : Fun K "high" "Balanced.high" s_Balanced_high f fd) : FnOk P w K mg base CX0 1 f fd ["self", "place"] (PureSp K (S_get A .balanced (Kd.high .balanced))) := by
  refine okD F sc_Balanced_high (fun ds Q h => ?_) (fun cdv A' outer s H E hr ds Q h => ?_)
  · obtain ⟨n, p, rfl, hn, q⟩ := h
    rfl
  obtain ⟨n, p, rfl, hn, q⟩ := h
  refine ⟨_, (dss_one (ds_ret (de_fld (dv 0)))), ?_⟩
  exact ⟨_, rfl, _, _, _, rfl, rfl, T.cl_Balanced, T.na_Balanced, q⟩
abbrev s_Growing_high : Stmt := inClass (top 16) 1
theorem sc_Growing_high : FnScope ["self", "place"] ["self", "place"] (defScope s_Growing_high) := ⟨rfl, rfl, rfl, by decide +kernel, rfl, by decide +kernel, by decide +kernel⟩
theorem ok_Growing_high (T : Txt K mg A) (F : Fun K "high" "Growing.high" s_Growing_high f fd) : FnOk P w K mg base CX0 1 f fd ["self", "place"] (PureSp K (S_get A .growing (Kd.high .growing))) := by
  refine okD F sc_Growing_high (fun ds Q h => ?_) (fun cdv A' outer s H E hr ds Q h => ?_)
  · obtain ⟨n, p, rfl, hn, q⟩ := h
    rfl
  obtain ⟨n, p, rfl, hn, q⟩ := h
  refine ⟨_, (dss_one (ds_ret (de_op o_sub (de_op o_add (de_fld (dv 0)) (dv 1)) de_int))), ?_⟩
  exact ⟨_, rfl, _, _, _, rfl, rfl, T.cl_Growing, T.na_Growing, _, rfl, _, _, rfl, rfl, _, _, rfl, rfl, q⟩
abbrev s_Falling_high : Stmt := inClass (top 17) 1
theorem sc_Falling_high : FnScope ["self", "place"] ["self", "place"] (defScope s_Falling_high) := ⟨rfl, rfl, rfl, by decide +kernel, rfl, by decide +kernel, by decide +kernel⟩
theorem ok_Falling_high (T : Txt K mg A) (F : Fun K "high" "Falling.high" s_Falling_high f fd) : FnOk P w K mg base CX0 1 f fd ["self", "place"] (PureSp K (S_get A .falling (Kd.high .falling))) := by
  refine okD F sc_Falling_high (fun ds Q h => ?_) (fun cdv A' outer s H E hr ds Q h => ?_)
  · obtain ⟨n, p, rfl, hn, q⟩ := h
    rfl
  obtain ⟨n, p, rfl, hn, q⟩ := h
  refine ⟨_, (dss_one (ds_ret (de_fld (dv 0)))), ?_⟩
  exact ⟨_, rfl, _, _, _, rfl, rfl, T.cl_Falling, T.na_Falling, q⟩
abbrev s_Pairs_high : Stmt := inClass (top 18) 2
theorem sc_Pairs_high : FnScope ["self", "place"] ["self", "place"] (defScope s_Pairs_high) := ⟨rfl, rfl, rfl, by decide +kernel, rfl, by decide +kernel, by decide +kernel⟩
theorem ok_Pairs_high (T : Txt K mg A) (F : Fun K "high" "Pairs.high" s_Pairs_high f fd) : FnOk P w K mg base CX0 1 f fd ["self", "place"] (PureSp K (S_get A .pairs (Kd.high .pairs))) := by
  refine okD F sc_Pairs_high (fun ds Q h => ?_) (fun cdv A' outer s H E hr ds Q h => ?_)
  · obtain ⟨n, p, rfl, hn, q⟩ := h
    rfl
  obtain ⟨n, p, rfl, hn, q⟩ := h
  refine ⟨_, (dss_one (ds_ret (de_op o_mul (de_fld (dv 0)) (de_fld (dv 0))))), ?_⟩
  obtain ⟨h1, h2⟩ := ok_bd hn
  exact ⟨_, rfl, _, _, _, rfl, rfl, T.cl_Pairs, T.na_Pairs, _, rfl, _, _, _, rfl, rfl, T.cl_Pairs, T.na_Pairs, _, _, rfl, rfl, small (by omega) (by omega) _, q⟩
abbrev s_has_figures_alone : Stmt := top 20
theorem sc_has_figures_alone : FnScope ["way", "row", "place", "thing"] ["way", "row"] (defScope s_has_figures_alone) := ⟨rfl, rfl, rfl, by decide +kernel, rfl, by decide +kernel, by decide +kernel⟩
theorem ok_has_figures_alone (T : Txt K mg A) (HLo : ∀ k : Kd, MOk P w K mg base 1 (A.at k) "low" (S_get A k (k.low)) ∧ MOk P w K mg base 1 (A.at k) "high" (S_get A k (k.high))) (F : Fun K "has_figures_alone" "has_figures_alone" s_has_figures_alone f fd) : FnOk P w K mg base CX0 2 f fd ["way", "row"] (PureSp K (S_figs A)) := by
  refine okD F sc_has_figures_alone (fun ds Q h => ?_) (fun cdv A' outer s H E hr ds Q h => ?_)
  · obtain ⟨k, n, r, rfl, hn, hl, q⟩ := h
    rfl
  obtain ⟨k, n, r, rfl, hn, hl, q⟩ := h
  refine ⟨_, (dss_cons (ds_for_enumerate (i := 2) (j := 3) rfl sc_has_figures_alone.nd rfl rfl (Or.inl rfl) (Or.inl rfl) PassesOwn.never rfl T.n_enumerate (da_cons (dv 1) da_nil) (dss_one (ds_if (DW.dt (dw_or (dt_cmp (o_lt) (dv 3) (de_meth hr (dv 0) (da_cons (dv 2) da_nil)) (nomark _)) (dw_or1 (dt_cmp (o_gt) (dv 3) (de_meth hr (dv 0) (da_cons (dv 2) da_nil)) (nomark _))))) (dss_one (ds_ret de_bl)) dss_nil)))
  (dss_one (ds_ret de_bl))), ?_⟩
  obtain ⟨M1, M2⟩ := HLo k
  walk_at "rd"
  refine ⟨_, _, fun i ρ => ∃ v u, ρ = [.some (wayD A k n), .some (rowD r), v, u] ∧ ∀ p : Nat, p < i → k.low n p ≤ r.getD p 0 ∧ r.getD p 0 ≤ k.high n p, rfl, rfl, ⟨_, _, rfl, fun p hp => absurd hp (Nat.not_lt_zero _)⟩, ?_, ?_⟩
  · rintro i x ρ' hx ⟨v, u, rfl, hp⟩
    obtain ⟨rfl, hi⟩ := get_ints hx
    refine ⟨_, rfl, _, rfl, _, _, _, _, rfl, e_low k, M1.mono (by decide), _, rfl, n, i, rfl, hn, _, _, rfl, rfl, _, rfl, ?_⟩
    refine ifB (fun h => ifT rfl ?_) (fun h => ?_)
    · refine q false ⟨fun z => (Bool.false_ne_true z).elim, fun z => ?_⟩
      have := z i hi
      have h := of_decide_eq_true h
      omega
    · refine ⟨_, rfl, _, rfl, _, _, _, _, rfl, e_high k, M2.mono (by decide), _, rfl, n, i, rfl, hn, _, _, rfl, rfl, _, rfl, ?_⟩
      have h := of_decide_eq_false h
      refine ifB (fun h' => ?_) (fun h' => ?_)
      · refine q false ⟨fun z => (Bool.false_ne_true z).elim, fun z => ?_⟩
        have := z i hi
        have h' := of_decide_eq_true h'
        omega
      · have h' := of_decide_eq_false h'
        refine ⟨.some (.int i), .some (.int (r.getD i 0)), rfl, fun p hp' => ?_⟩
        rcases (by omega : p < i ∨ p = i) with z | z
        · exact hp p z
        · subst z
          omega
  · rintro ρ' ⟨v, u, rfl, hp⟩
    rw [len_ints] at hp
    exact q true ⟨fun _ => hp, fun _ => rfl⟩
abbrev s_is_writing : Stmt := top 22
theorem sc_is_writing : FnScope ["way", "row"] ["way", "row"] (defScope s_is_writing) := ⟨rfl, rfl, rfl, by decide +kernel, rfl, by decide +kernel, by decide +kernel⟩
theorem ok_is_writing (T : Txt K mg A) (G_has_mosts_above_noughts_alone : DOk P w K mg base 1 "has_mosts_above_noughts_alone" (S_mosts A)) (G_has_figures_alone : DOk P w K mg base 2 "has_figures_alone" (S_figs A)) (F : Fun K "is_writing" "is_writing" s_is_writing f fd) : FnOk P w K mg base CX0 3 f fd ["way", "row"] (PureSp K (S_isw A)) := by
  refine okD F sc_is_writing (fun ds Q h => ?_) (fun cdv A' outer s H E hr ds Q h => ?_)
  · obtain ⟨k, n, r, rfl, hn, hl, q⟩ := h
    rfl
  obtain ⟨k, n, r, rfl, hn, hl, q⟩ := h
  refine ⟨_, (dss_join (ds_if (DW.dt (dw_and (dt_tru (dv 1)) (dw_and1 (dt_cmp (o_eq hr) (de_ix (dv 1) (de_neg de_int) (fun _ _ => rfl)) de_int (nomark _))))) (dss_one (ds_ret de_bl)) dss_nil)
  (dss_join (ds_if (DW.dt (dw_and (dt_val (de_isiO T.isinstance T.gc_Falling (dv 0))) (dw_and1 (dt_not (dt_val (de_call G_has_mosts_above_noughts_alone (hr.mono (by decide)) rfl (da_cons (dv 0) (da_cons (dv 1) da_nil)))))))) (dss_one (ds_ret de_bl)) dss_nil)
  (dss_one (ds_ret (de_call G_has_figures_alone (hr.mono (by decide)) rfl (da_cons (dv 0) (da_cons (dv 1) da_nil))))))), ?_⟩
  refine ⟨fun ρ => ρ = [.some (wayD A k n), .some (rowD r)] ∧ (r = [] ∨ r.getD (r.length - 1) 0 ≠ 0), ?_, ?_⟩
  · walk_at "rd"
    rcases snoc_cases r with rfl | ⟨l, z, rfl⟩
    · exact ifF rfl (ifF rfl ⟨rfl, .inl rfl⟩)
    · have ez : (l ++ [z]).getD ((l ++ [z]).length - 1) 0 = z := by rw [List.length_append]; simp [List.getD_eq_getElem?_getD]
      refine ifT (by simp) ⟨_, rfl, _, rfl, _, _, _, rfl, rfl, atI_last, rfl, rfl, _, rfl, ?_⟩
      by_cases hz : z = 0
      · refine ifT (eqI hz) ?_
        rw [legal_f (fun L => by
          rcases L.end_ with h | h
          · simp at h
          · rw [ez] at h; exact h hz)] at q
        exact q
      · refine ifF (neI hz) ⟨rfl, .inr (by rw [ez]; exact hz)⟩
  · rintro ρ' ⟨rfl, hend⟩
    refine ⟨fun ρ => ρ = [.some (wayD A k n), .some (rowD r)] ∧ (k.isF = true → ∀ p, p + 1 < r.length → r.getD (p + 1) 0 = n → r.getD p 0 = 0), ?_, ?_⟩
    · refine ⟨_, rfl, _, _, _, _, rfl, isiAt T k, kiF T k, _, rfl, ?_⟩
      cases hk : k.isF with
      | false => exact ifF rfl (ifF rfl ⟨rfl, fun z => (Bool.false_ne_true z).elim⟩)
      | true =>
        have ek : k = .falling := by cases k <;> first | rfl | cases hk
        subst ek
        refine ifT rfl ⟨_, rfl, _, rfl, n, r, rfl, hn, hl, fun b hb => ⟨_, rfl, ?_⟩⟩
        cases b with
        | true => exact ifF rfl ⟨rfl, fun _ => hb.mp rfl⟩
        | false =>
          refine ifT rfl ?_
          rw [legal_f (fun L => Bool.false_ne_true (hb.mpr (L.fal rfl)))] at q
          exact q
    · rintro ρ' ⟨rfl, hf⟩
      refine ⟨_, rfl, _, rfl, k, n, r, rfl, hn, hl, fun b hb => ?_⟩
      cases b with
      | true => rw [legal_t ⟨hb.mp rfl, hf, hend⟩] at q; exact q
      | false => rw [legal_f (fun L => Bool.false_ne_true (hb.mpr L.fig))] at q; exact q
abbrev s_held_to_be_writings : Stmt := top 23
theorem sc_held_to_be_writings : FnScope ["way", "rows", "row"] ["way", "rows"] (defScope s_held_to_be_writings) := ⟨rfl, rfl, rfl, by decide +kernel, rfl, by decide +kernel, by decide +kernel⟩
theorem ok_held_to_be_writings (T : Txt K mg A) (G_is_writing : DOk P w K mg base 3 "is_writing" (S_isw A)) (F : Fun K "held_to_be_writings" "held_to_be_writings" s_held_to_be_writings f fd) : FnOk P w K mg base CX0 4 f fd ["way", "rows"] (PureSp K (S_held A)) := by
  refine okD F sc_held_to_be_writings (fun ds Q h => ?_) (fun cdv A' outer s H E hr ds Q h => ?_)
  · obtain ⟨k, n, rs, rfl, hn, hrs, q⟩ := h
    rfl
  obtain ⟨k, n, rs, rfl, hn, hrs, q⟩ := h
  refine ⟨_, (dss_one (ds_for (j := 2) rfl sc_held_to_be_writings.nd rfl (Or.inl rfl) PassesOwn.never (dv 1) (dss_one (ds_if (dt_not (dt_val (de_call G_is_writing (hr.mono (by decide)) rfl (da_cons (dv 0) (da_cons (dv 2) da_nil))))) (dss_one ds_never) dss_nil)))), ?_⟩
  refine ⟨_, rfl, _, fun i ρ => ∃ v, ρ = [.some (wayD A k n), .some (.lst (rs.map rowD)), v], rfl, ⟨_, rfl⟩, ?_, ?_⟩
  · rintro i e ρ' he ⟨v, rfl⟩
    obtain ⟨r, hm, rfl⟩ := List.mem_map.mp (List.mem_of_getElem? he)
    obtain ⟨hL, hl⟩ := hrs r hm
    refine ⟨_, rfl, _, rfl, k, n, r, rfl, hn, hl, _, rfl, ?_⟩
    rw [legal_t hL]
    exact ifF rfl ⟨_, rfl⟩
  · rintro ρ' ⟨v, rfl⟩
    exact q
abbrev s_thing_at : Stmt := top 7
theorem sc_thing_at : FnScope ["row", "place"] ["row", "place"] (defScope s_thing_at) := ⟨rfl, rfl, rfl, by decide +kernel, rfl, by decide +kernel, by decide +kernel⟩
theorem ok_thing_at (T : Txt K mg A) (F : Fun K "thing_at" "thing_at" s_thing_at f fd) : FnOk P w K mg base CX0 1 f fd ["row", "place"] (PureSp K (S_at)) := by
  refine okD F sc_thing_at (fun ds Q h => ?_) (fun cdv A' outer s H E hr ds Q h => ?_)
  · obtain ⟨xs, k, rfl, hk, q⟩ := h
    rfl
  obtain ⟨xs, k, rfl, hk, q⟩ := h
  refine ⟨_, (dss_cons (ds_if (dt_cmp (o_lt) (dv 1) (de_len rfl T.len (dv 0)) (nomark _)) (dss_one (ds_ret (de_ix (dv 0) (dv 1) (fun _ _ => rfl)))) dss_nil)
  (dss_one (ds_ret de_int))), ?_⟩
  have hl : ((xs.map Dt.int).length : Int) = xs.length := by rw [List.length_map]
  refine ⟨_, rfl, _, rfl, _, rfl, _, _, rfl, rfl, _, rfl, ite2 (fun h => ?_) (fun h => ?_)⟩
  · have h := of_decide_eq_true h
    rw [hl] at h
    exact ⟨_, rfl, _, rfl, _, _, _, rfl, rfl, atI_row hk h, q⟩
  · have h : ¬ k < ((xs.map Dt.int).length : Int) := fun z => h (decide_eq_true z)
    rw [hl] at h
    have e : xs.getD k.toNat 0 = 0 := by rw [List.getD_eq_getElem?_getD, List.getElem?_eq_none (by omega)]; rfl
    rw [e] at q
    exact q
abbrev s_parting : Stmt := top 25
theorem sc_parting : FnScope ["one", "other", "place"] ["one", "other"] (defScope s_parting) := ⟨rfl, rfl, rfl, by decide +kernel, rfl, by decide +kernel, by decide +kernel⟩
theorem ok_parting (T : Txt K mg A) (G_thing_at : DOk P w K mg base 1 "thing_at" (S_at)) (F : Fun K "parting" "parting" s_parting f fd) : FnOk P w K mg base CX0 2 f fd ["one", "other"] (PureSp K (S_part)) := by
  refine okD F sc_parting (fun ds Q h => ?_) (fun cdv A' outer s H E hr ds Q h => ?_)
  · obtain ⟨xs, ys, rfl, hx, hy, q⟩ := h
    rfl
  obtain ⟨xs, ys, rfl, hx, hy, q⟩ := h
  refine ⟨_, (dss_cons (ds_forD (j := 2) rfl sc_parting.nd rfl (Or.inl rfl) PassesOwn.never rfl T.range (da_cons (de_op o_sub (de_max rfl rfl T.n_max (da_cons (de_len rfl T.len (dv 0)) (da_cons (de_len rfl T.len (dv 1)) da_nil))) de_int) (da_cons (de_neg de_int) (da_cons (de_neg de_int) da_nil))) (dss_one (ds_if (dt_cmp (o_ne hr) (de_call G_thing_at (hr.mono (by decide)) rfl (da_cons (dv 0) (da_cons (dv 2) da_nil))) (de_call G_thing_at (hr.mono (by decide)) rfl (da_cons (dv 1) (da_cons (dv 2) da_nil))) (nomark _)) (dss_one (ds_ret (dv 2))) dss_nil)))
  (dss_one (ds_ret de_non))), ?_⟩
  have lx : (xs.map Dt.int).length = xs.length := List.length_map _
  have ly : (ys.map Dt.int).length = ys.length := List.length_map _
  walk_at "rd"
  have em : (if ((ys.map Dt.int).length : Int) > ((xs.map Dt.int).length : Int) then ((ys.map Dt.int).length : Int) else ((xs.map Dt.int).length : Int)) = ((max xs.length ys.length : Nat) : Int) := by
    rw [lx, ly]; split <;> omega
  rw [em]
  generalize hM : max xs.length ys.length = M at q
  refine ⟨_, _, fun i ρ => ∃ v, ρ = [.some (rowD xs), .some (rowD ys), v] ∧ pt xs ys M = pt xs ys (M - i), rfl, by omega, by omega, by decide, by decide, ⟨_, rfl, rfl⟩, ?_, ?_⟩
  · rintro i ρ' hi ⟨v, rfl, hp⟩
    have hi' : i < M := by omega
    have e1 : ((M : Int) - 1 - (i : Int)).toNat = M - i - 1 := by omega
    refine ⟨_, rfl, _, rfl, xs, _, rfl, by omega, _, rfl, _, rfl, ys, _, rfl, by omega, rfl, rfl, _, rfl, ?_⟩
    rw [e1]
    have e2 : M - i = (M - i - 1) + 1 := by omega
    have e3 : pt xs ys M = if xs.getD (M - i - 1) 0 = ys.getD (M - i - 1) 0 then pt xs ys (M - i - 1) else some (M - i - 1) := by
      rw [hp, e2]; rfl
    by_cases hd : xs.getD (M - i - 1) 0 = ys.getD (M - i - 1) 0
    · refine ifF (nT (eqI hd)) ?_
      refine ⟨_, rfl, ?_⟩
      rw [e3, if_pos hd]
      rfl
    · refine ifT (nF (neI hd)) ?_
      refine ⟨_, rfl, ?_⟩
      rw [e3, if_neg hd] at q
      have e4 : ((M - i - 1 : Nat) : Int) = (M : Int) - 1 - i := by omega
      have q : Q (.int ((M - i - 1 : Nat) : Int)) := q
      rw [e4] at q
      exact q
  · rintro ρ' ⟨v, rfl, hp⟩
    have e : M - ((M : Int) - 1 - (-1)).toNat = 0 := by omega
    rw [e] at hp
    rw [hp] at q
    exact q
abbrev s_order : Stmt := top 26
theorem sc_order : FnScope ["way", "one", "other", "place", "more"] ["way", "one", "other"] (defScope s_order) := ⟨rfl, rfl, rfl, by decide +kernel, rfl, by decide +kernel, by decide +kernel⟩
theorem ok_order (T : Txt K mg A) (G_held_to_be_writings : DOk P w K mg base 4 "held_to_be_writings" (S_held A)) (G_parting : DOk P w K mg base 2 "parting" (S_part)) (G_thing_at : DOk P w K mg base 1 "thing_at" (S_at)) (F : Fun K "order" "order" s_order f fd) : FnOk P w K mg base CX0 5 f fd ["way", "one", "other"] (PureSp K (S_order A)) := by
  refine okD F sc_order (fun ds Q h => ?_) (fun cdv A' outer s H E hr ds Q h => ?_)
  · obtain ⟨k, n, r, s, rfl, hp, hn, hr_, hs, lr, ls, q⟩ := h
    rfl
  obtain ⟨k, n, r, s, rfl, hp, hn, hr_, hs, lr, ls, q⟩ := h
  refine ⟨_, (dss_cons (ds_if (dt_val (de_isiO T.isinstance T.gc_Pairs (dv 0))) (dss_one ds_never) dss_nil)
  (dss_cons (ds_expr (de_call G_held_to_be_writings (hr.mono (by decide)) rfl (da_cons (dv 0) (da_cons (de_lst (da_cons (dv 1) (da_cons (dv 2) da_nil))) da_nil))))
  (dss_cons (ds_set (i := 3) sc_order.nd rfl (Or.inl rfl) (de_call G_parting (hr.mono (by decide)) rfl (da_cons (dv 1) (da_cons (dv 2) da_nil))))
  (dss_cons (ds_if (dt_isN (dv 3)) (dss_one (ds_ret de_int)) dss_nil)
  (dss_cons (ds_set (i := 4) sc_order.nd rfl (Or.inl rfl) (de_cmp (o_gt) (de_call G_thing_at (hr.mono (by decide)) rfl (da_cons (dv 1) (da_cons (dv 3) da_nil))) (de_call G_thing_at (hr.mono (by decide)) rfl (da_cons (dv 2) (da_cons (dv 3) da_nil))) (nomark _)))
  (dss_join (ds_if (DW.dt (dw_and (dt_val (de_isiO T.isinstance T.gc_Below (dv 0))) (dw_and1 (dt_cmp (o_eq hr) (de_op o_mod (dv 3) de_int) de_int (nomark _))))) (dss_one (ds_set (i := 4) sc_order.nd rfl (Or.inl rfl) (de_not (dv 4)))) dss_nil)
  (dss_one (ds_ret (de_ifExp (dt_val (dv 4)) de_int (de_neg de_int)))))))))), ?_⟩
  refine ⟨_, rfl, _, _, _, _, rfl, isiAt T k, kiP T k, _, rfl, ifF (by cases k <;> first | rfl | exact absurd rfl hp) ?_⟩
  refine ⟨_, rfl, _, rfl, _, rfl, rfl, k, n, [r, s], rfl, hn, fun r' h' => ?_, ?_⟩
  · rcases List.mem_cons.mp h' with rfl | h'
    · exact ⟨hr_, lr⟩
    · rw [List.mem_singleton.mp h']; exact ⟨hs, ls⟩
  refine ⟨_, rfl, _, rfl, r, s, rfl, lr, ls, ?_⟩
  cases hpt : pt r s (max r.length s.length) with
  | none =>
    rw [ord_none hr_ hs hpt] at q
    refine ⟨_, rfl, ?_⟩
    walk_at "rd"
    exact q
  | some p =>
    obtain ⟨hne, o1, o2⟩ := ord_some hp hn hr_ hs hpt
    generalize hsg : sg (worthR k n r).re (worthR k n s).re = z at q o1 o2
    refine ⟨_, rfl, ?_⟩
    walk_at "rd"
    refine ⟨by omega, ?_⟩
    walk_at "rd"
    refine ⟨by omega, ?_⟩
    walk_at "rd"
    rw [Int.toNat_natCast]
    refine ⟨fun ρ => ∃ b : Bool, ρ = [.some (wayD A k n), .some (rowD r), .some (rowD s), .some (.int p), .some (.bl b)] ∧ (b = true → z = 1) ∧ (b = false → z = -1), ?_, ?_⟩
    · refine ⟨_, rfl, _, _, _, _, rfl, isiAt T k, kiB T k, _, rfl, ?_⟩
      by_cases hk : k = .below
      · subst hk
        refine ifT rfl ?_
        refine ⟨_, rfl, _, _, rfl, rfl, cmodN (by decide), rfl, rfl, _, rfl, ?_⟩
        refine ifB (fun h => ?_) (fun h => ?_)
        · have h : (p : Int).fmod 2 = 1 := of_eqI h
          have hodd : p % 2 = 1 := by
            rw [Int.fmod_eq_emod_of_nonneg _ (by decide)] at h
            omega
          obtain ⟨a1, a2⟩ := o2 rfl hodd
          refine ⟨_, rfl, _, rfl, _, rfl, fun h1 => ?_, fun h1 => ?_⟩
          · have h1 : ¬ s.getD p 0 < r.getD p 0 := of_decide_eq_false (of_nT h1)
            exact a2 (by omega)
          · have h1 : s.getD p 0 < r.getD p 0 := of_decide_eq_true (of_nF h1)
            exact a1 h1
        · have h : (p : Int).fmod 2 ≠ 1 := of_neI h
          have hev : p % 2 = 0 := by
            rw [Int.fmod_eq_emod_of_nonneg _ (by decide)] at h
            omega
          obtain ⟨a1, a2⟩ := o1 (.inr hev)
          refine ⟨_, rfl, fun h1 => a1 (of_decide_eq_true h1), fun h1 => ?_⟩
          have h1 : ¬ s.getD p 0 < r.getD p 0 := of_decide_eq_false h1
          exact a2 (by omega)
      · refine ifF (by cases k <;> first | rfl | exact absurd rfl hk) (ifF rfl ?_)
        obtain ⟨a1, a2⟩ := o1 (.inl hk)
        refine ⟨_, rfl, fun h1 => a1 (of_decide_eq_true h1), fun h1 => ?_⟩
        have h1 : ¬ s.getD p 0 < r.getD p 0 := of_decide_eq_false h1
        exact a2 (by omega)
    · rintro ρ' ⟨b, rfl, h1, h2⟩
      refine ⟨_, rfl, _, rfl, ?_⟩
      refine ifB (fun h => ?_) (fun h => ?_)
      · rw [h1 h] at q
        exact q
      · rw [h2 h] at q
        exact ⟨_, rfl, q⟩
abbrev s_law : Stmt := top 41
theorem sc_law : FnScope ["_law_script", "_law_name", "_law_number_here", "_law_change", "_law_one", "_law_other", "_law_way_here", "_law_handed", "_law_due"] ["_law_script"] (defScope s_law) := ⟨rfl, rfl, rfl, by decide +kernel, rfl, by decide +kernel, by decide +kernel⟩
theorem ok_law (T : Txt K mg A) (G__law_chosen : DOk P w K mg base 1 "_law_chosen" (S_chosen)) (G__law_cell_at : DOk P w K mg base 1 "_law_cell_at" (S_cell)) (G__law_row_by : DOk P w K mg base 3 "_law_row_by" (S_rowby)) (G__law_second : DOk P w K mg base 3 "_law_second" (S_second)) (G__law_way : DOk P w K mg base 5 "_law_way" (S_wayT A)) (G__law_sign : DOk P w K mg base 1 "_law_sign" (S_sign)) (G__law_number : DOk P w K mg base 2 "_law_number" (S_num)) (G__law_is : DOk P w K mg base 1 "_law_is" (S_isI)) (G_order : DOk P w K mg base 5 "order" (S_order A)) (F : Fun K "law" "law" s_law f fd) : FnOk P w K mg base CX0 6 f fd ["_law_script"] (PureSp K (S_law)) := by
  refine okD F sc_law (fun ds Q h => ?_) (fun cdv A' outer s H E hr ds Q h => ?_)
  · obtain ⟨ns, rfl, hns, q⟩ := h
    rfl
  obtain ⟨ns, rfl, hns, q⟩ := h
  refine ⟨_, (dss_cons (ds_unp (i := 1) (j := 2) rfl sc_law.nd rfl rfl (Or.inl rfl) (Or.inl rfl) (de_call G__law_chosen (hr.mono (by decide)) rfl (da_cons (de_call G__law_cell_at (hr.mono (by decide)) rfl (da_cons (dv 0) (da_cons de_int da_nil))) da_nil)))
  (dss_cons (ds_set (i := 3) sc_law.nd rfl (Or.inl rfl) (de_op o_mod (de_op o_mul (de_call G__law_cell_at (hr.mono (by decide)) rfl (da_cons (dv 0) (da_cons de_int da_nil))) de_int) de_int))
  (dss_cons (ds_set (i := 4) sc_law.nd rfl (Or.inl rfl) (de_call G__law_row_by (hr.mono (by decide)) rfl (da_cons (dv 1) (da_cons (dv 2) (da_cons (de_slice (dv 0) (do_some de_int) (do_some de_int)) da_nil)))))
  (dss_join (ds_if (dt_cmp (o_gt) (de_op o_mod (dv 3) de_int) de_int (nomark _)) (dss_one (ds_set (i := 4) sc_law.nd rfl (Or.inl rfl) (de_call G__law_row_by (hr.mono (by decide)) rfl (da_cons (dv 1) (da_cons (dv 2) (da_cons (DF.de (df_sliceS (dv 0) (do_some de_int) (do_some de_int) (do_some de_int))) da_nil)))))) dss_nil)
  (dss_cons (ds_set (i := 5) sc_law.nd rfl (Or.inl rfl) (de_call G__law_second (hr.mono (by decide)) rfl (da_cons (dv 1) (da_cons (dv 2) (da_cons (dv 4) (da_cons (DF.de (df_sliceS (dv 0) (do_some de_int) (do_some de_int) (do_some de_int))) (da_cons (dv 3) da_nil)))))))
  (dss_cons (ds_set (i := 6) sc_law.nd rfl (Or.inl rfl) (de_call G__law_way (hr.mono (by decide)) rfl (da_cons (dv 1) (da_cons (dv 2) da_nil))))
  (dss_cons (ds_set (i := 7) sc_law.nd rfl (Or.inl rfl) (de_lst (da_cons (DF.de (df_list rfl T.n_list (dv 4))) (da_cons (DF.de (df_list rfl T.n_list (dv 5))) da_nil))))
  (dss_cons (ds_set (i := 8) sc_law.nd rfl (Or.inl rfl) (de_call G__law_sign (hr.mono (by decide)) rfl (da_cons (de_call G__law_number (hr.mono (by decide)) rfl (da_cons (dv 1) (da_cons (dv 2) (da_cons (dv 4) da_nil)))) (da_cons (de_call G__law_number (hr.mono (by decide)) rfl (da_cons (dv 1) (da_cons (dv 2) (da_cons (dv 5) da_nil)))) da_nil))))
  (dss_join (ds_if (DW.dt (dw_or (dt_not (dt_val (de_call G__law_is (hr.mono (by decide)) rfl (da_cons (de_call G_order (hr.mono (by decide)) rfl (da_cons (dv 6) (da_cons (de_ix (dv 7) de_int (fun _ _ => rfl)) (da_cons (de_ix (dv 7) de_int (fun _ _ => rfl)) da_nil)))) (da_cons (dv 8) da_nil))))) (dw_or1 (dt_not (dt_val (de_call G__law_is (hr.mono (by decide)) rfl (da_cons (de_call G_order (hr.mono (by decide)) rfl (da_cons (dv 6) (da_cons (de_ix (dv 7) de_int (fun _ _ => rfl)) (da_cons (de_ix (dv 7) de_int (fun _ _ => rfl)) da_nil)))) (da_cons (de_op o_sub de_int (dv 8)) da_nil)))))))) (dss_one (ds_ret de_bl)) dss_nil)
  (dss_join (ds_if (DW.dt (dw_or (dt_not (dt_val (de_call G__law_is (hr.mono (by decide)) rfl (da_cons (de_call G_order (hr.mono (by decide)) rfl (da_cons (dv 6) (da_cons (de_ix (dv 7) de_int (fun _ _ => rfl)) (da_cons (DF.de (df_list rfl T.n_list (dv 4))) da_nil)))) (da_cons de_int da_nil))))) (dw_or1 (dt_not (dt_val (de_call G__law_is (hr.mono (by decide)) rfl (da_cons (de_call G_order (hr.mono (by decide)) rfl (da_cons (dv 6) (da_cons (dv 5) (da_cons (de_ix (dv 7) de_int (fun _ _ => rfl)) da_nil)))) (da_cons de_int da_nil)))))))) (dss_one (ds_ret de_bl)) dss_nil)
  (dss_one (ds_ret (de_cmp (o_eq hr) (dv 7) (de_lst (da_cons (dv 4) (da_cons (dv 5) da_nil))) (nomark _)))))))))))))), ?_⟩
  walk_at "rd"
  refine ⟨Int.le_refl _, fun c0 => ?_⟩
  refine ⟨c0, rfl, fun k n hp hn => ?_⟩
  walk_at "rd"
  refine ⟨by decide, fun c1 => ?_⟩
  walk_at "rd"
  obtain ⟨cs, ec, lc, _⟩ := cut_ints ns (some 2) (some 62)
  refine ⟨k, n, cs, by unfold rowD; rw [← ec], hn, by omega, fun r0 hL0 hl0 => ?_⟩
  generalize hch : (c1 * 16807).fmod 2147483587 = ch
  refine ⟨fun ρ => ∃ r : List Int, ρ = [.some (.scr ns), .some (.str k.nam), .some (.int n), .some (.int ch), .some (rowD r), Sl.none, Sl.none, Sl.none, Sl.none] ∧ Legal k n r ∧ r.length ≤ 63, ?_, ?_⟩
  · refine ⟨_, rfl, _, _, rfl, rfl, cmodN (by decide), _, _, rfl, rfl, _, rfl, ifB (fun _ => ?_) (fun _ => ⟨r0, by rw [← hch]; rfl, hL0, by omega⟩)⟩
    refine ⟨_, rfl, _, rfl, _, rfl, _, rfl, _, rfl, _, rfl, by decide, _, rfl, fun es he hle => ?_⟩
    obtain ⟨zs, rfl⟩ := ints_in he
    rw [len_ints, len_ints] at hle
    exact ⟨k, n, zs, rfl, hn, by omega, fun r1 h1 h2 => ⟨r1, by rw [← hch]; rfl, h1, by omega⟩⟩
  · rintro ρ' ⟨r, rfl, hL, hl⟩
    refine ⟨_, rfl, _, rfl, _, rfl, _, rfl, _, rfl, _, rfl, _, rfl, by decide, _, rfl, fun es he hle => ?_⟩
    obtain ⟨zs, rfl⟩ := ints_in he
    rw [len_ints, len_ints] at hle
    refine ⟨_, rfl, k, n, r, zs, _, rfl, hn, hL, by omega, by omega, fun s hLs hls => ?_⟩
    refine ⟨_, rfl, _, rfl, k, n, rfl, hp, hn, ?_⟩
    refine ⟨_, rfl, _, rfl, _, rfl, _, rfl, rfl, ?_⟩
    refine ⟨_, rfl, _, rfl, _, rfl, k, n, r, rfl, hp, hn, by omega, fig_bd hn hL (by omega), _, rfl, _, rfl, _, rfl, k, n, s, rfl, hp, hn, by omega, fig_bd hn hLs (by omega), _, _, rfl, ?_⟩
    refine ⟨fun ρ => ρ = [.some (.scr ns), .some (.str k.nam), .some (.int n), .some (.int ch), .some (rowD r), .some (rowD s), .some (wayD A k n), .some (.lst [rowD r, rowD s]), .some (.int (sg (worthR k n r).re (worthR k n s).re))], ?_, ?_⟩
    · refine ⟨_, rfl, _, rfl, _, _, _, rfl, rfl, rfl, _, rfl, _, _, _, rfl, rfl, rfl, k, n, r, s, rfl, hp, hn, hL, hLs, by omega, by omega, ?_⟩
      refine ⟨_, rfl, _, rfl, _, rfl, ifF rfl ?_⟩
      refine ⟨_, rfl, _, rfl, _, _, _, rfl, rfl, rfl, _, rfl, _, _, _, rfl, rfl, rfl, k, n, s, r, rfl, hp, hn, hLs, hL, by omega, by omega, ?_⟩
      refine ⟨_, rfl, _, _, rfl, rfl, sg (worthR k n s).re (worthR k n r).re, by show [_, Dt.int (0 - _)] = _; rw [← sg_swap], _, rfl, ifF rfl rfl⟩
    · rintro ρ' rfl
      refine ⟨fun ρ => ρ = [.some (.scr ns), .some (.str k.nam), .some (.int n), .some (.int ch), .some (rowD r), .some (rowD s), .some (wayD A k n), .some (.lst [rowD r, rowD s]), .some (.int (sg (worthR k n r).re (worthR k n s).re))], ?_, ?_⟩
      · refine ⟨_, rfl, _, rfl, _, _, _, rfl, rfl, rfl, _, rfl, _, rfl, k, n, r, r, rfl, hp, hn, hL, hL, by omega, by omega, ?_⟩
        refine ⟨0, by rw [sg_self], _, rfl, ifF rfl ?_⟩
        refine ⟨_, rfl, _, rfl, _, rfl, _, _, _, rfl, rfl, rfl, k, n, s, s, rfl, hp, hn, hLs, hLs, by omega, by omega, ?_⟩
        exact ⟨0, by rw [sg_self], _, rfl, ifF rfl rfl⟩
      · rintro ρ' rfl
        have ok : okE 40 (.lst [rowD r, rowD s]) = true := by
          show (okE 39 (rowD r) && (okE 39 (rowD s) && true)) = true
          rw [okE_row9, okE_row9]
          rfl
        refine ⟨_, rfl, _, rfl, _, rfl, rfl, ok, ok, ?_⟩
        show Q (.bl (eqD (.lst [rowD r, rowD s]) (.lst [rowD r, rowD s])))
        rw [eqD_self 40 ok]
        exact q
end
section
variable (K : PySem.W.Frag)
def FX (n q : Str) (st : Stmt) (f : Addr) : Prop := ∃ oc od kV dc pm an cd ct sl, K.lookup f = some ⟨oc, od, .func (PySem.W.fnOf n q (defArgs st) (defBody st) (defScope st) .none kV dc pm an cd ct), sl⟩ ∧ PySem.W.codeIn K cd q = true ∧ PySem.W.keepIn K (.ref f) = true
def FD (n : Str) (st : Stmt) (f : Addr) : Prop := PySem.W.nsIn K mainGlobals n = some (some (.ref f)) ∧ FX K n n st f
def FM (n q : Str) (st : Stmt) (f : Addr) : Prop := PySem.W.isFn K (.ref f) = true ∧ FX K n q st f
def Fi (C : Addr) (n : Str) (f : Addr) : Prop := PySem.W.findIn K (.ref C) n = some (some (.ref f))
def Ki (C D : Addr) (b : Bool) : Prop := PySem.W.kitOne K (.ref C) (.ref D) = some b
def Zn (n : Str) : Prop := PySem.W.nsIn K mainGlobals n = some none
structure ClR (C : Addr) (x : Str) : Prop where
  cls : Cls K C
  mks : PySem.W.makesIn K C = true
  kc : PySem.W.keepIn K (.ref C) = true
  na : PySem.W.findIn K (.ref C) x = some none
structure IR (C : Addr) : Prop where
  ia : PySem.W.findIn K (.ref C) "__class__" = some (some (.builtin "object.__class__"))
  im : PySem.W.mroIn K C (.type "object") = some true
variable {K} {n q : Str} {st : Stmt} {f : Addr}
theorem FX.mk {oc od kV dc pm an cd ct sl} (l : K.lookup f = some ⟨oc, od, .func (PySem.W.fnOf n q (defArgs st) (defBody st) (defScope st) .none kV dc pm an cd ct), sl⟩) (c : PySem.W.codeIn K cd q = true) (k : PySem.W.keepIn K (.ref f) = true) : FX K n q st f := ⟨_, _, _, _, _, _, _, _, _, l, c, k⟩
theorem FX.get (r : FX K n q st f) (ps : List Str) (h : ∀ (kV doc pm : Value) (an : Option Addr) (cdv ct : Value) (us : List Value), us.length = ps.length → bindArgs (PySem.W.fnOf n q (defArgs st) (defBody st) (defScope st) .none kV doc pm an cdv ct) ⟨us, []⟩ = pure (ps.zip us)) : ∃ fd, Fun K n q st f fd ∧ Binds K fd ps [] :=
  let ⟨_, _, _, _, _, _, _, _, _, l, c, k⟩ := r; ⟨_, fun_mk l c k, (fun_mk l c k).binds h⟩
theorem FD.get (r : FD K n st f) {h : Heap} {mg : Str → Option Value} (X : K.In h) (G : h.Ns mainGlobals mg) (ps : List Str) (h : ∀ (kV doc pm : Value) (an : Option Addr) (cdv ct : Value) (us : List Value), us.length = ps.length → bindArgs (PySem.W.fnOf n n (defArgs st) (defBody st) (defScope st) .none kV doc pm an cdv ct) ⟨us, []⟩ = pure (ps.zip us)) : ∃ fd, mg n = some (.ref f) ∧ Fun K n n st f fd ∧ Binds K fd ps [] :=
  let ⟨fd, F, b⟩ := r.2.get ps h; ⟨fd, PySem.W.mg_of X G r.1, F, b⟩
theorem FM.get (r : FM K n q st f) (ps : List Str) (h : ∀ (kV doc pm : Value) (an : Option Addr) (cdv ct : Value) (us : List Value), us.length = ps.length → bindArgs (PySem.W.fnOf n q (defArgs st) (defBody st) (defScope st) .none kV doc pm an cdv ct) ⟨us, []⟩ = pure (ps.zip us)) : ∃ fd, Fun K n q st f fd ∧ Binds K fd ps [] := r.2.get ps h
end

theorem all_mk {l : PySem.W.OpenLaw} {w : World} {K : PySem.W.Frag} {h : Heap} {mg : Str → Option Value} {fa : Addr} (X : K.In h) (G : h.Ns mainGlobals mg) (hfa : mg "law" = some (.ref fa))
 {C_Plain C_Below C_Balanced C_Growing C_Falling C_Pairs f1 f2 f3 f4 f5 f6 f7 f8 f9 f10 f11 f12 f13 f14 f15 f16 f17 f18 f19 f20 f21 f22 f23 f24 f25 f26 f27 f28 f29 f30 f31 f32 f33 f34 f35 f36 : Addr}
 (aC_Plain : PySem.W.nsIn K mainGlobals "Plain" = some (some (.ref C_Plain)))
 (aC_Below : PySem.W.nsIn K mainGlobals "Below" = some (some (.ref C_Below)))
 (aC_Balanced : PySem.W.nsIn K mainGlobals "Balanced" = some (some (.ref C_Balanced)))
 (aC_Growing : PySem.W.nsIn K mainGlobals "Growing" = some (some (.ref C_Growing)))
 (aC_Falling : PySem.W.nsIn K mainGlobals "Falling" = some (some (.ref C_Falling)))
 (aC_Pairs : PySem.W.nsIn K mainGlobals "Pairs" = some (some (.ref C_Pairs)))
 (r1 : FD K "_law_chosen" s_law_chosen f1)
 (r2 : FD K "_law_cell_at" s_law_cell_at f2)
 (r3 : FD K "_law_low" s_law_low f3)
 (r4 : FD K "_law_high" s_law_high f4)
 (r5 : FD K "_law_figure" s_law_figure f5)
 (r6 : FD K "_law_legal" s_law_legal f6)
 (r7 : FD K "_law_row_by" s_law_row_by f7)
 (r8 : FD K "_law_second" s_law_second f8)
 (r9 : FD K "is_whole" s_is_whole f9)
 (r10 : FD K "bounded" s_bounded f10)
 (a11_Plain : Fi K C_Plain "__init__" f11)
 (r11 : FM K "__init__" "Plain.__init__" s_Plain_init f11)
 (a12_Below : Fi K C_Below "__init__" f12)
 (r12 : FM K "__init__" "Below.__init__" s_Below_init f12)
 (a13_Balanced : Fi K C_Balanced "__init__" f13)
 (r13 : FM K "__init__" "Balanced.__init__" s_Balanced_init f13)
 (a14_Growing : Fi K C_Growing "__init__" f14)
 (r14 : FM K "__init__" "Growing.__init__" s_Growing_init f14)
 (a15_Falling : Fi K C_Falling "__init__" f15)
 (r15 : FM K "__init__" "Falling.__init__" s_Falling_init f15)
 (r16 : FD K "_law_way" s_law_way f16)
 (r17 : FD K "_law_sign" s_law_sign f17)
 (r18 : FD K "_law_weights" s_law_weights f18)
 (r19 : FD K "_law_number" s_law_number f19)
 (r20 : FD K "_law_is" s_law_is f20)
 (r21 : FD K "has_mosts_above_noughts_alone" s_has_mosts_above_noughts_alone f21)
 (a22_Plain : Fi K C_Plain "low" f22)
 (a22_Below : Fi K C_Below "low" f22)
 (a22_Growing : Fi K C_Growing "low" f22)
 (a22_Falling : Fi K C_Falling "low" f22)
 (a22_Pairs : Fi K C_Pairs "low" f22)
 (r22 : FM K "low" "Way.low" s_Way_low f22)
 (a23_Balanced : Fi K C_Balanced "low" f23)
 (r23 : FM K "low" "Balanced.low" s_Balanced_low f23)
 (a24_Plain : Fi K C_Plain "high" f24)
 (r24 : FM K "high" "Plain.high" s_Plain_high f24)
 (a25_Below : Fi K C_Below "high" f25)
 (r25 : FM K "high" "Below.high" s_Below_high f25)
 (a26_Balanced : Fi K C_Balanced "high" f26)
 (r26 : FM K "high" "Balanced.high" s_Balanced_high f26)
 (a27_Growing : Fi K C_Growing "high" f27)
 (r27 : FM K "high" "Growing.high" s_Growing_high f27)
 (a28_Falling : Fi K C_Falling "high" f28)
 (r28 : FM K "high" "Falling.high" s_Falling_high f28)
 (a29_Pairs : Fi K C_Pairs "high" f29)
 (r29 : FM K "high" "Pairs.high" s_Pairs_high f29)
 (r30 : FD K "has_figures_alone" s_has_figures_alone f30)
 (r31 : FD K "is_writing" s_is_writing f31)
 (r32 : FD K "held_to_be_writings" s_held_to_be_writings f32)
 (r33 : FD K "thing_at" s_thing_at f33)
 (r34 : FD K "parting" s_parting f34)
 (r35 : FD K "order" s_order f35)
 (r36 : FD K "law" s_law f36)
 (c_Plain : ClR K C_Plain "base")
 (c_Below : ClR K C_Below "base")
 (c_Balanced : ClR K C_Balanced "half")
 (c_Growing : ClR K C_Growing "first")
 (c_Falling : ClR K C_Falling "most")
 (c_Pairs : ClR K C_Pairs "most")
 (i_Plain : IR K C_Plain)
 (ki_Plain_Pairs : Ki K C_Plain C_Pairs false)
 (ki_Plain_Falling : Ki K C_Plain C_Falling false)
 (ki_Plain_Below : Ki K C_Plain C_Below false)
 (i_Below : IR K C_Below)
 (ki_Below_Pairs : Ki K C_Below C_Pairs false)
 (ki_Below_Falling : Ki K C_Below C_Falling false)
 (ki_Below_Below : Ki K C_Below C_Below true)
 (i_Balanced : IR K C_Balanced)
 (ki_Balanced_Pairs : Ki K C_Balanced C_Pairs false)
 (ki_Balanced_Falling : Ki K C_Balanced C_Falling false)
 (ki_Balanced_Below : Ki K C_Balanced C_Below false)
 (i_Growing : IR K C_Growing)
 (ki_Growing_Pairs : Ki K C_Growing C_Pairs false)
 (ki_Growing_Falling : Ki K C_Growing C_Falling false)
 (ki_Growing_Below : Ki K C_Growing C_Below false)
 (i_Falling : IR K C_Falling)
 (ki_Falling_Pairs : Ki K C_Falling C_Pairs false)
 (ki_Falling_Falling : Ki K C_Falling C_Falling true)
 (ki_Falling_Below : Ki K C_Falling C_Below false)
 (i_Pairs : IR K C_Pairs)
 (ki_Pairs_Pairs : Ki K C_Pairs C_Pairs true)
 (ki_Pairs_Falling : Ki K C_Pairs C_Falling false)
 (ki_Pairs_Below : Ki K C_Pairs C_Below false)
 (in_ : PySem.W.specialIn K (.builtin "object.__class__") "__get__" = some (some (.builtin "getset_descriptor.__get__")))
 (it_ : PySem.W.takesIn K (.builtin "object.__class__") = some true)
 (z_isinstance : Zn K "isinstance")
 (z_int : Zn K "int")
 (z_bool : Zn K "bool")
 (z_list : Zn K "list")
 (z_len : Zn K "len")
 (z_range : Zn K "range")
 (z_zip : Zn K "zip")
 (z_enumerate : Zn K "enumerate")
 (z_min : Zn K "min")
 (z_max : Zn K "max") :
 ∃ fd : FuncData, (∀ (s : Shared) (v : Value), BindsTo s fd ⟨[v], []⟩ [("_law_script", v)]) ∧ ∀ base : Heap, K.In base → base.Ns mainGlobals mg → FnOk l.prog w K mg base CX0 6 fa fd ["_law_script"] (PureSp K (S_law)) := by
  let A : Adr := ⟨C_Plain, C_Below, C_Balanced, C_Growing, C_Falling, C_Pairs⟩
  have T : Txt K mg A := ⟨kitT K, PySem.W.mg_none_of X G z_isinstance, PySem.W.mg_none_of X G z_int, PySem.W.mg_none_of X G z_bool, PySem.W.mg_none_of X G z_list, PySem.W.mg_none_of X G z_len, PySem.W.mg_none_of X G z_range, PySem.W.mg_none_of X G z_zip, PySem.W.mg_none_of X G z_enumerate, PySem.W.mg_none_of X G z_min, PySem.W.mg_none_of X G z_max, c_Plain.cls, c_Plain.na, c_Below.cls, c_Below.na, c_Balanced.cls, c_Balanced.na, c_Growing.cls, c_Growing.na, c_Falling.cls, c_Falling.na, c_Pairs.cls, c_Pairs.na, PySem.W.mg_of X G aC_Pairs, PySem.W.mg_of X G aC_Falling, PySem.W.mg_of X G aC_Below, ⟨c_Plain.cls, i_Plain.1, in_, it_, i_Plain.2⟩, ki_Plain_Pairs, ki_Plain_Falling, ki_Plain_Below, ⟨c_Below.cls, i_Below.1, in_, it_, i_Below.2⟩, ki_Below_Pairs, ki_Below_Falling, ki_Below_Below, ⟨c_Balanced.cls, i_Balanced.1, in_, it_, i_Balanced.2⟩, ki_Balanced_Pairs, ki_Balanced_Falling, ki_Balanced_Below, ⟨c_Growing.cls, i_Growing.1, in_, it_, i_Growing.2⟩, ki_Growing_Pairs, ki_Growing_Falling, ki_Growing_Below, ⟨c_Falling.cls, i_Falling.1, in_, it_, i_Falling.2⟩, ki_Falling_Pairs, ki_Falling_Falling, ki_Falling_Below, ⟨c_Pairs.cls, i_Pairs.1, in_, it_, i_Pairs.2⟩, ki_Pairs_Pairs, ki_Pairs_Falling, ki_Pairs_Below⟩
  obtain ⟨_, m1, F1, b1⟩ := r1.get X G ["_law_cell"] fun _ _ _ _ _ _ us hl => match us, hl with | [_], _ => rfl
  obtain ⟨_, m2, F2, b2⟩ := r2.get X G ["_law_script", "_law_k"] fun _ _ _ _ _ _ us hl => match us, hl with | [_, _], _ => rfl
  obtain ⟨_, m3, F3, b3⟩ := r3.get X G ["_law_name", "_law_number_here", "_law_place"] fun _ _ _ _ _ _ us hl => match us, hl with | [_, _, _], _ => rfl
  obtain ⟨_, m4, F4, b4⟩ := r4.get X G ["_law_name", "_law_number_here", "_law_place"] fun _ _ _ _ _ _ us hl => match us, hl with | [_, _, _], _ => rfl
  obtain ⟨_, m5, F5, b5⟩ := r5.get X G ["_law_name", "_law_number_here", "_law_place", "_law_cell"] fun _ _ _ _ _ _ us hl => match us, hl with | [_, _, _, _], _ => rfl
  obtain ⟨_, m6, F6, b6⟩ := r6.get X G ["_law_name", "_law_number_here", "_law_row"] fun _ _ _ _ _ _ us hl => match us, hl with | [_, _, _], _ => rfl
  obtain ⟨_, m7, F7, b7⟩ := r7.get X G ["_law_name", "_law_number_here", "_law_cells"] fun _ _ _ _ _ _ us hl => match us, hl with | [_, _, _], _ => rfl
  obtain ⟨_, m8, F8, b8⟩ := r8.get X G ["_law_name", "_law_number_here", "_law_one", "_law_cells", "_law_change"] fun _ _ _ _ _ _ us hl => match us, hl with | [_, _, _, _, _], _ => rfl
  obtain ⟨_, m9, F9, b9⟩ := r9.get X G ["value"] fun _ _ _ _ _ _ us hl => match us, hl with | [_], _ => rfl
  obtain ⟨_, m10, F10, b10⟩ := r10.get X G ["number", "least", "most"] fun _ _ _ _ _ _ us hl => match us, hl with | [_, _, _], _ => rfl
  obtain ⟨_, F11, b11⟩ := r11.get ["self", "base"] fun _ _ _ _ _ _ us hl => match us, hl with | [_, _], _ => rfl
  obtain ⟨_, F12, b12⟩ := r12.get ["self", "base"] fun _ _ _ _ _ _ us hl => match us, hl with | [_, _], _ => rfl
  obtain ⟨_, F13, b13⟩ := r13.get ["self", "half"] fun _ _ _ _ _ _ us hl => match us, hl with | [_, _], _ => rfl
  obtain ⟨_, F14, b14⟩ := r14.get ["self", "first"] fun _ _ _ _ _ _ us hl => match us, hl with | [_, _], _ => rfl
  obtain ⟨_, F15, b15⟩ := r15.get ["self", "most"] fun _ _ _ _ _ _ us hl => match us, hl with | [_, _], _ => rfl
  obtain ⟨_, m16, F16, b16⟩ := r16.get X G ["_law_name", "_law_number_here"] fun _ _ _ _ _ _ us hl => match us, hl with | [_, _], _ => rfl
  obtain ⟨_, m17, F17, b17⟩ := r17.get X G ["_law_one", "_law_other"] fun _ _ _ _ _ _ us hl => match us, hl with | [_, _], _ => rfl
  obtain ⟨_, m18, F18, b18⟩ := r18.get X G ["_law_name", "_law_number_here", "_law_many"] fun _ _ _ _ _ _ us hl => match us, hl with | [_, _, _], _ => rfl
  obtain ⟨_, m19, F19, b19⟩ := r19.get X G ["_law_name", "_law_number_here", "_law_row"] fun _ _ _ _ _ _ us hl => match us, hl with | [_, _, _], _ => rfl
  obtain ⟨_, m20, F20, b20⟩ := r20.get X G ["_law_found", "_law_due"] fun _ _ _ _ _ _ us hl => match us, hl with | [_, _], _ => rfl
  obtain ⟨_, m21, F21, b21⟩ := r21.get X G ["way", "row"] fun _ _ _ _ _ _ us hl => match us, hl with | [_, _], _ => rfl
  obtain ⟨_, F22, b22⟩ := r22.get ["self", "place"] fun _ _ _ _ _ _ us hl => match us, hl with | [_, _], _ => rfl
  obtain ⟨_, F23, b23⟩ := r23.get ["self", "place"] fun _ _ _ _ _ _ us hl => match us, hl with | [_, _], _ => rfl
  obtain ⟨_, F24, b24⟩ := r24.get ["self", "place"] fun _ _ _ _ _ _ us hl => match us, hl with | [_, _], _ => rfl
  obtain ⟨_, F25, b25⟩ := r25.get ["self", "place"] fun _ _ _ _ _ _ us hl => match us, hl with | [_, _], _ => rfl
  obtain ⟨_, F26, b26⟩ := r26.get ["self", "place"] fun _ _ _ _ _ _ us hl => match us, hl with | [_, _], _ => rfl
  obtain ⟨_, F27, b27⟩ := r27.get ["self", "place"] fun _ _ _ _ _ _ us hl => match us, hl with | [_, _], _ => rfl
  obtain ⟨_, F28, b28⟩ := r28.get ["self", "place"] fun _ _ _ _ _ _ us hl => match us, hl with | [_, _], _ => rfl
  obtain ⟨_, F29, b29⟩ := r29.get ["self", "place"] fun _ _ _ _ _ _ us hl => match us, hl with | [_, _], _ => rfl
  obtain ⟨_, m30, F30, b30⟩ := r30.get X G ["way", "row"] fun _ _ _ _ _ _ us hl => match us, hl with | [_, _], _ => rfl
  obtain ⟨_, m31, F31, b31⟩ := r31.get X G ["way", "row"] fun _ _ _ _ _ _ us hl => match us, hl with | [_, _], _ => rfl
  obtain ⟨_, m32, F32, b32⟩ := r32.get X G ["way", "rows"] fun _ _ _ _ _ _ us hl => match us, hl with | [_, _], _ => rfl
  obtain ⟨_, m33, F33, b33⟩ := r33.get X G ["row", "place"] fun _ _ _ _ _ _ us hl => match us, hl with | [_, _], _ => rfl
  obtain ⟨_, m34, F34, b34⟩ := r34.get X G ["one", "other"] fun _ _ _ _ _ _ us hl => match us, hl with | [_, _], _ => rfl
  obtain ⟨_, m35, F35, b35⟩ := r35.get X G ["way", "one", "other"] fun _ _ _ _ _ _ us hl => match us, hl with | [_, _, _], _ => rfl
  obtain ⟨a36, _, _, kV, dc, pm, an, cd, ct, _, l36, c36, k36⟩ := r36
  cases hfa.symm.trans (PySem.W.mg_of X G a36)
  have F36 := fun_mk (st := s_law) l36 c36 k36
  refine ⟨PySem.W.fnOf "law" "law" (defArgs s_law) (defBody s_law) (defScope s_law) .none kV dc pm an cd ct, fun s v => .of_eq rfl, fun base _ _ => ?_⟩
  have G__law_chosen := DOk.mk' F1 m1 b1 (ok_law_chosen (P := l.prog) (w := w) (base := base) T F1)
  have G__law_cell_at := DOk.mk' F2 m2 b2 (ok_law_cell_at (P := l.prog) (w := w) (base := base) T F2)
  have G__law_low := DOk.mk' F3 m3 b3 (ok_law_low (P := l.prog) (w := w) (base := base) T F3)
  have G__law_high := DOk.mk' F4 m4 b4 (ok_law_high (P := l.prog) (w := w) (base := base) T F4)
  have G__law_figure := DOk.mk' F5 m5 b5 (ok_law_figure T G__law_low G__law_high F5)
  have G__law_legal := DOk.mk' F6 m6 b6 (ok_law_legal (P := l.prog) (w := w) (base := base) T F6)
  have G__law_row_by := DOk.mk' F7 m7 b7 (ok_law_row_by T G__law_figure G__law_legal F7)
  have G__law_second := DOk.mk' F8 m8 b8 (ok_law_second T G__law_figure G__law_legal F8)
  have G_is_whole := DOk.mk' F9 m9 b9 (ok_is_whole (P := l.prog) (w := w) (base := base) T F9)
  have G_bounded := DOk.mk' F10 m10 b10 (ok_bounded T G_is_whole F10)
  have M_Plain : KOk l.prog w K mg base 3 "Plain" A.Plain "base" (Kd.ok .plain) := ⟨_, _, _, PySem.W.mg_of X G aC_Plain, ⟨c_Plain.mks, a11_Plain, r11.1, c_Plain.kc⟩, b11, ok_Plain_init T G_bounded F11⟩
  have M_Below : KOk l.prog w K mg base 3 "Below" A.Below "base" (Kd.ok .below) := ⟨_, _, _, PySem.W.mg_of X G aC_Below, ⟨c_Below.mks, a12_Below, r12.1, c_Below.kc⟩, b12, ok_Below_init T G_bounded F12⟩
  have M_Balanced : KOk l.prog w K mg base 3 "Balanced" A.Balanced "half" (Kd.ok .balanced) := ⟨_, _, _, PySem.W.mg_of X G aC_Balanced, ⟨c_Balanced.mks, a13_Balanced, r13.1, c_Balanced.kc⟩, b13, ok_Balanced_init T G_bounded F13⟩
  have M_Growing : KOk l.prog w K mg base 3 "Growing" A.Growing "first" (Kd.ok .growing) := ⟨_, _, _, PySem.W.mg_of X G aC_Growing, ⟨c_Growing.mks, a14_Growing, r14.1, c_Growing.kc⟩, b14, ok_Growing_init T G_bounded F14⟩
  have M_Falling : KOk l.prog w K mg base 3 "Falling" A.Falling "most" (Kd.ok .falling) := ⟨_, _, _, PySem.W.mg_of X G aC_Falling, ⟨c_Falling.mks, a15_Falling, r15.1, c_Falling.kc⟩, b15, ok_Falling_init T G_bounded F15⟩
  have G__law_way := DOk.mk' F16 m16 b16 (ok_law_way T M_Plain M_Below M_Balanced M_Growing M_Falling F16)
  have G__law_sign := DOk.mk' F17 m17 b17 (ok_law_sign (P := l.prog) (w := w) (base := base) T F17)
  have G__law_weights := DOk.mk' F18 m18 b18 (ok_law_weights (P := l.prog) (w := w) (base := base) T F18)
  have G__law_number := DOk.mk' F19 m19 b19 (ok_law_number T G__law_weights F19)
  have G__law_is := DOk.mk' F20 m20 b20 (ok_law_is (P := l.prog) (w := w) (base := base) T F20)
  have G_has_mosts_above_noughts_alone := DOk.mk' F21 m21 b21 (ok_has_mosts_above_noughts_alone (P := l.prog) (w := w) (base := base) T F21)
  have N_Plain_low := MOk.mk (C := A.Plain) T.cl_Plain ⟨_, _, _, ⟨a22_Plain, r22.1, F22.kp⟩, b22, ok_Way_low (P := l.prog) (w := w) (base := base) T F22⟩
  have N_Below_low := MOk.mk (C := A.Below) T.cl_Below ⟨_, _, _, ⟨a22_Below, r22.1, F22.kp⟩, b22, ok_Way_low (P := l.prog) (w := w) (base := base) T F22⟩
  have N_Growing_low := MOk.mk (C := A.Growing) T.cl_Growing ⟨_, _, _, ⟨a22_Growing, r22.1, F22.kp⟩, b22, ok_Way_low (P := l.prog) (w := w) (base := base) T F22⟩
  have N_Falling_low := MOk.mk (C := A.Falling) T.cl_Falling ⟨_, _, _, ⟨a22_Falling, r22.1, F22.kp⟩, b22, ok_Way_low (P := l.prog) (w := w) (base := base) T F22⟩
  have N_Pairs_low := MOk.mk (C := A.Pairs) T.cl_Pairs ⟨_, _, _, ⟨a22_Pairs, r22.1, F22.kp⟩, b22, ok_Way_low (P := l.prog) (w := w) (base := base) T F22⟩
  have N_Balanced_low := MOk.mk (C := A.Balanced) T.cl_Balanced ⟨_, _, _, ⟨a23_Balanced, r23.1, F23.kp⟩, b23, ok_Balanced_low (P := l.prog) (w := w) (base := base) T F23⟩
  have N_Plain_high := MOk.mk (C := A.Plain) T.cl_Plain ⟨_, _, _, ⟨a24_Plain, r24.1, F24.kp⟩, b24, ok_Plain_high (P := l.prog) (w := w) (base := base) T F24⟩
  have N_Below_high := MOk.mk (C := A.Below) T.cl_Below ⟨_, _, _, ⟨a25_Below, r25.1, F25.kp⟩, b25, ok_Below_high (P := l.prog) (w := w) (base := base) T F25⟩
  have N_Balanced_high := MOk.mk (C := A.Balanced) T.cl_Balanced ⟨_, _, _, ⟨a26_Balanced, r26.1, F26.kp⟩, b26, ok_Balanced_high (P := l.prog) (w := w) (base := base) T F26⟩
  have N_Growing_high := MOk.mk (C := A.Growing) T.cl_Growing ⟨_, _, _, ⟨a27_Growing, r27.1, F27.kp⟩, b27, ok_Growing_high (P := l.prog) (w := w) (base := base) T F27⟩
  have N_Falling_high := MOk.mk (C := A.Falling) T.cl_Falling ⟨_, _, _, ⟨a28_Falling, r28.1, F28.kp⟩, b28, ok_Falling_high (P := l.prog) (w := w) (base := base) T F28⟩
  have N_Pairs_high := MOk.mk (C := A.Pairs) T.cl_Pairs ⟨_, _, _, ⟨a29_Pairs, r29.1, F29.kp⟩, b29, ok_Pairs_high (P := l.prog) (w := w) (base := base) T F29⟩
  have HLo : ∀ k : Kd, MOk l.prog w K mg base 1 (A.at k) "low" (S_get A k (k.low)) ∧ MOk l.prog w K mg base 1 (A.at k) "high" (S_get A k (k.high)) := fun k => match k with
    | .plain => ⟨N_Plain_low.imp fun ds Q ⟨n, p, e, _, q⟩ => ⟨_, _, e, q⟩, N_Plain_high⟩
    | .below => ⟨N_Below_low.imp fun ds Q ⟨n, p, e, _, q⟩ => ⟨_, _, e, q⟩, N_Below_high⟩
    | .balanced => ⟨N_Balanced_low, N_Balanced_high⟩
    | .growing => ⟨N_Growing_low.imp fun ds Q ⟨n, p, e, _, q⟩ => ⟨_, _, e, q⟩, N_Growing_high⟩
    | .falling => ⟨N_Falling_low.imp fun ds Q ⟨n, p, e, _, q⟩ => ⟨_, _, e, q⟩, N_Falling_high⟩
    | .pairs => ⟨N_Pairs_low.imp fun ds Q ⟨n, p, e, _, q⟩ => ⟨_, _, e, q⟩, N_Pairs_high⟩
  have G_has_figures_alone := DOk.mk' F30 m30 b30 (ok_has_figures_alone (P := l.prog) (w := w) (base := base) T HLo F30)
  have G_is_writing := DOk.mk' F31 m31 b31 (ok_is_writing T G_has_mosts_above_noughts_alone G_has_figures_alone F31)
  have G_held_to_be_writings := DOk.mk' F32 m32 b32 (ok_held_to_be_writings T G_is_writing F32)
  have G_thing_at := DOk.mk' F33 m33 b33 (ok_thing_at (P := l.prog) (w := w) (base := base) T F33)
  have G_parting := DOk.mk' F34 m34 b34 (ok_parting T G_thing_at F34)
  have G_order := DOk.mk' F35 m35 b35 (ok_order T G_held_to_be_writings G_parting G_thing_at F35)
  exact ok_law T G__law_chosen G__law_cell_at G__law_row_by G__law_second G__law_way G__law_sign G__law_number G__law_is G_order F36
theorem walk {l : PySem.W.OpenLaw} {q : Program} {loose : List Str} {XP : (Str → Option Value) → Heap → Prop} {YP : World → Heap → Prop} {d : DefRec} {K : Params → PySem.W.Frag} (hn : l.most = some 63) (hdf : d.params.defaults = [])
    (hY : ∀ (w : World) (h : Heap), YP w h → (K w.params).In h)
    (F : ∀ (w : World) (mg : Str → Option Value) (fa : Addr) (h : Heap), (K w.params).In h → h.Ns mainGlobals mg → mg d.name = some (.ref fa) →
      ∃ fd : FuncData, (∀ (s : Shared) (u : Value), BindsTo s fd ⟨[u], []⟩ [("_law_script", u)]) ∧ ∀ base : Heap, (K w.params).In base → base.Ns mainGlobals mg → FnOk l.prog w (K w.params) mg base CX0 6 fa fd ["_law_script"] (PureSp (K w.params) (S_law))) :
    PySem.W.WalkO q loose XP YP l.row.toRowW d [] (fun f vs => PySem.call f vs) :=
  L2.walk_of (n := 63) (k := 6) (x := "_law_script") (CX := fun _ => CX0) (sp := fun w => PureSp (K w.params) (S_law)) hn (by decide) hdf ⟨rfl, by decide, by decide⟩ hY F (fun w H a ns hl _ hS => ⟨⟨H, H, Same.refl H⟩, [.scr ns], fun d => d = .bl true, rfl, allIs_cons.mpr ⟨_, _, rfl, is_scr.mpr ⟨a, rfl, hS⟩, allIs_nil.mpr rfl⟩, ⟨ns, rfl, hl, rfl⟩, fun d v W' _ i e => by subst e; exact is_bl.mp i⟩) fun _ _ _ _ _ z => z
end My
local macro_rules | `(tactic| walk_at "fx") => `(tactic| (refine' My.FX.mk ?l ?c ?k; (case l => k_is); (case c => k_is); (case k => k_is)))
local macro_rules | `(tactic| walk_at "kk") => `(tactic| first | k_is | (delta My.Fi; k_is) | (delta My.Zn; k_is) | (delta My.Ki; kit_is) | (delta My.FD; refine ⟨?a, ?b⟩; (case a => k_is); (case b => walk_at "fx")) | (delta My.FM; refine ⟨?a, ?b⟩; (case a => k_is); (case b => walk_at "fx")) | (refine ⟨⟨?_, ?_, ?_, ?_⟩, ?_, ?_, ?_⟩ <;> k_is) | (refine ⟨?_, ?_⟩ <;> k_is))
open PySem PySem.W PyProof.Rows
set_option maxRecDepth 100000 in
set_option maxHeartbeats 0 in
theorem PySem.Challenge.cw_oddbases_k41_order_by_numbers_holds : PySem.Challenge.rw_oddbases_k41_order_by_numbers.Holds := by
  w_on; o_law
  refine holds_open (q := My.h_view_39) (loose := []) (Xt := (fun s => xlAt My.h_view_39 [] s && recOk (RowW.records (OpenRow.toRowW PySem.Challenge.rw_oddbases_k41_order_by_numbers.row)) s)) (XP := XL My.h_view_39 []) (Yf := Hook.obs (kHook My.h_heap_39 My.myAs My.myE)) (Ya := Hook.val (kHook My.h_heap_39 My.myAs My.myE)) (YP := Hook.says (kHook My.h_heap_39 My.myAs My.myE)) (N := 8378) My.left (Hook.of _) (Hook.keeps _) (fun s e => xl_of s (Bool.and_eq_true_iff.mp e).1) XL.keeps (by rfl) (by rfl) (by rfl) (fun s e => recFacts_of (Bool.and_eq_true_iff.mp e).2) (by rfl) (by first | assumption | decide +kernel) (by decide +kernel) ⟨rfl, rfl, rfl, rfl, rfl, by decide +kernel⟩ ?hw ?hc
  case hw => w_witness2
  k_fill
  refine My.walk (l := PySem.Challenge.rw_oddbases_k41_order_by_numbers) rfl rfl (fun w h Y => PySem.W.kIn_of Y) ?F
  case F =>
    intro w mg fa h KX G hmg
    refine' My.all_mk KX G hmg ?aC_Plain ?aC_Below ?aC_Balanced ?aC_Growing ?aC_Falling ?aC_Pairs ?r1 ?r2 ?r3 ?r4 ?r5 ?r6 ?r7 ?r8 ?r9 ?r10 ?a11_Plain ?r11 ?a12_Below ?r12 ?a13_Balanced ?r13 ?a14_Growing ?r14 ?a15_Falling ?r15 ?r16 ?r17 ?r18 ?r19 ?r20 ?r21 ?a22_Plain ?a22_Below ?a22_Growing ?a22_Falling ?a22_Pairs ?r22 ?a23_Balanced ?r23 ?a24_Plain ?r24 ?a25_Below ?r25 ?a26_Balanced ?r26 ?a27_Growing ?r27 ?a28_Falling ?r28 ?a29_Pairs ?r29 ?r30 ?r31 ?r32 ?r33 ?r34 ?r35 ?r36 ?c_Plain ?c_Below ?c_Balanced ?c_Growing ?c_Falling ?c_Pairs ?i_Plain ?ki_Plain_Pairs ?ki_Plain_Falling ?ki_Plain_Below ?i_Below ?ki_Below_Pairs ?ki_Below_Falling ?ki_Below_Below ?i_Balanced ?ki_Balanced_Pairs ?ki_Balanced_Falling ?ki_Balanced_Below ?i_Growing ?ki_Growing_Pairs ?ki_Growing_Falling ?ki_Growing_Below ?i_Falling ?ki_Falling_Pairs ?ki_Falling_Falling ?ki_Falling_Below ?i_Pairs ?ki_Pairs_Pairs ?ki_Pairs_Falling ?ki_Pairs_Below ?in_ ?it_ ?z_isinstance ?z_int ?z_bool ?z_list ?z_len ?z_range ?z_zip ?z_enumerate ?z_min ?z_max
    (case aC_Plain => walk_at "kk")
    (case aC_Below => walk_at "kk")
    (case aC_Balanced => walk_at "kk")
    (case aC_Growing => walk_at "kk")
    (case aC_Falling => walk_at "kk")
    (case aC_Pairs => walk_at "kk")
    (case r1 => walk_at "kk")
    (case r2 => walk_at "kk")
    (case r3 => walk_at "kk")
    (case r4 => walk_at "kk")
    (case r5 => walk_at "kk")
    (case r6 => walk_at "kk")
    (case r7 => walk_at "kk")
    (case r8 => walk_at "kk")
    (case r9 => walk_at "kk")
    (case r10 => walk_at "kk")
    (case a11_Plain => walk_at "kk")
    (case r11 => walk_at "kk")
    (case a12_Below => walk_at "kk")
    (case r12 => walk_at "kk")
    (case a13_Balanced => walk_at "kk")
    (case r13 => walk_at "kk")
    (case a14_Growing => walk_at "kk")
    (case r14 => walk_at "kk")
    (case a15_Falling => walk_at "kk")
    (case r15 => walk_at "kk")
    (case r16 => walk_at "kk")
    (case r17 => walk_at "kk")
    (case r18 => walk_at "kk")
    (case r19 => walk_at "kk")
    (case r20 => walk_at "kk")
    (case r21 => walk_at "kk")
    (case a22_Plain => walk_at "kk")
    (case a22_Below => walk_at "kk")
    (case a22_Growing => walk_at "kk")
    (case a22_Falling => walk_at "kk")
    (case a22_Pairs => walk_at "kk")
    (case r22 => walk_at "kk")
    (case a23_Balanced => walk_at "kk")
    (case r23 => walk_at "kk")
    (case a24_Plain => walk_at "kk")
    (case r24 => walk_at "kk")
    (case a25_Below => walk_at "kk")
    (case r25 => walk_at "kk")
    (case a26_Balanced => walk_at "kk")
    (case r26 => walk_at "kk")
    (case a27_Growing => walk_at "kk")
    (case r27 => walk_at "kk")
    (case a28_Falling => walk_at "kk")
    (case r28 => walk_at "kk")
    (case a29_Pairs => walk_at "kk")
    (case r29 => walk_at "kk")
    (case r30 => walk_at "kk")
    (case r31 => walk_at "kk")
    (case r32 => walk_at "kk")
    (case r33 => walk_at "kk")
    (case r34 => walk_at "kk")
    (case r35 => walk_at "kk")
    (case r36 => walk_at "kk")
    (case c_Plain => walk_at "kk")
    (case c_Below => walk_at "kk")
    (case c_Balanced => walk_at "kk")
    (case c_Growing => walk_at "kk")
    (case c_Falling => walk_at "kk")
    (case c_Pairs => walk_at "kk")
    (case i_Plain => walk_at "kk")
    (case ki_Plain_Pairs => walk_at "kk")
    (case ki_Plain_Falling => walk_at "kk")
    (case ki_Plain_Below => walk_at "kk")
    (case i_Below => walk_at "kk")
    (case ki_Below_Pairs => walk_at "kk")
    (case ki_Below_Falling => walk_at "kk")
    (case ki_Below_Below => walk_at "kk")
    (case i_Balanced => walk_at "kk")
    (case ki_Balanced_Pairs => walk_at "kk")
    (case ki_Balanced_Falling => walk_at "kk")
    (case ki_Balanced_Below => walk_at "kk")
    (case i_Growing => walk_at "kk")
    (case ki_Growing_Pairs => walk_at "kk")
    (case ki_Growing_Falling => walk_at "kk")
    (case ki_Growing_Below => walk_at "kk")
    (case i_Falling => walk_at "kk")
    (case ki_Falling_Pairs => walk_at "kk")
    (case ki_Falling_Falling => walk_at "kk")
    (case ki_Falling_Below => walk_at "kk")
    (case i_Pairs => walk_at "kk")
    (case ki_Pairs_Pairs => walk_at "kk")
    (case ki_Pairs_Falling => walk_at "kk")
    (case ki_Pairs_Below => walk_at "kk")
    (case in_ => walk_at "kk")
    (case it_ => walk_at "kk")
    (case z_isinstance => walk_at "kk")
    (case z_int => walk_at "kk")
    (case z_bool => walk_at "kk")
    (case z_list => walk_at "kk")
    (case z_len => walk_at "kk")
    (case z_range => walk_at "kk")
    (case z_zip => walk_at "kk")
    (case z_enumerate => walk_at "kk")
    (case z_min => walk_at "kk")
    (case z_max => walk_at "kk")
