import PyProof.Rows.All
import Wide.All
import OpenK.AllK
import Wide.FinOn
import Lean
import PyProof.EqAt
import PyProof.EqKinds
import PyProof.TupleCall
import PyProof.NeKinds
import PySem.Challenge.RW_oddbases_k58_writings_as_texts
set_option Elab.async false
set_option linter.all false
set_option maxRecDepth 100000
namespace L2
open PySem PySem.Spec PyProof.Rows

abbrev Key := Sum Int Str
def keyIs : Key → Value → Bool
  | .inl k, v => Value.isInt k v
  | .inr x, v => Value.isStrOf x v
def keyH (w : World) : Key → Int
  | .inl k => hashInt k
  | .inr x => hashStr w x
theorem keyIs_shape : ∀ {k : Key} {v : Value}, keyIs k v = true → (∃ i t, k = Sum.inl i ∧ v = Value.int i t) ∨ (∃ x t, k = Sum.inr x ∧ v = Value.str x t)
  | .inl i, v, h => by
    obtain ⟨t, e⟩ := Value.isInt_shape (k := i) (v := v) h
    exact .inl ⟨i, t, rfl, e⟩
  | .inr x, v, h => by
    obtain ⟨t, e⟩ := Value.isStrOf_shape (x := x) (v := v) h
    exact .inr ⟨x, t, rfl, e⟩
theorem key_ll (a b : Int) : decide ((Sum.inl a : Key) = Sum.inl b) = (a == b) := by
  by_cases e : a = b
  · subst e; simp
  · have h : ¬ (Sum.inl a : Key) = Sum.inl b := fun q => e (Sum.inl.inj q)
    rw [decide_eq_false h]
    exact (beq_eq_false_iff_ne.mpr e).symm
theorem key_rr (a b : Str) : decide ((Sum.inr a : Key) = Sum.inr b) = decide (a = b) := by
  by_cases e : a = b
  · subst e; simp
  · have h : ¬ (Sum.inr a : Key) = Sum.inr b := fun q => e (Sum.inr.inj q)
    rw [decide_eq_false h, decide_eq_false e]
theorem key_lr (a : Int) (b : Str) : decide ((Sum.inl a : Key) = Sum.inr b) = false := decide_eq_false (fun q => nomatch q)
theorem key_rl (a : Str) (b : Int) : decide ((Sum.inr a : Key) = Sum.inl b) = false := decide_eq_false (fun q => nomatch q)

def mixKind (prog : Program) (w : World) : PySem.KeyKind prog w Key where
  is := keyIs
  hash := keyH w
  inj := fun v a b ha hb => by
    rcases keyIs_shape ha with ⟨i, t, rfl, rfl⟩ | ⟨x, t, rfl, rfl⟩
    · rcases keyIs_shape hb with ⟨j, u, rfl, e⟩ | ⟨y, u, rfl, e⟩
      · injection e with e1 _; rw [e1]
      · exact nomatch e
    · rcases keyIs_shape hb with ⟨j, u, rfl, e⟩ | ⟨y, u, rfl, e⟩
      · exact nomatch e
      · injection e with e1 _; rw [e1]
  byValue := fun k v h => by
    rcases keyIs_shape h with ⟨i, t, rfl, rfl⟩ | ⟨x, t, rfl, rfl⟩ <;> rfl
  pyHash := fun hv h => by
    rcases keyIs_shape hv with ⟨i, t, rfl, rfl⟩ | ⟨x, t, rfl, rfl⟩
    · exact wpAny_pyHash_int h
    · exact wpAny_pyHash_str h
  eqBool := fun hu hv h => by
    rcases keyIs_shape hu with ⟨i, t, rfl, rfl⟩ | ⟨x, t, rfl, rfl⟩
    · rcases keyIs_shape hv with ⟨j, u, rfl, rfl⟩ | ⟨y, u, rfl, rfl⟩
      · rw [key_ll] at h; exact wpAny_eqBool_int h
      · rw [key_lr] at h; exact SeqAt.EqAt.int_str i t y u _ _ _ _ h
    · rcases keyIs_shape hv with ⟨j, u, rfl, rfl⟩ | ⟨y, u, rfl, rfl⟩
      · rw [key_rl] at h; exact SeqAt.EqAt.str_int x t j u _ _ _ _ h
      · rw [key_rr] at h; exact wpAny_eqBool_str h
  «strs» := fun k x t v h => by
    rcases keyIs_shape h with ⟨i, u, rfl, e⟩ | ⟨y, u, rfl, e⟩
    · exact nomatch e
    · injection e with e1 _
      subst e1
      cases v <;> rfl

end L2

namespace L2
open PySem PySem.Spec PyProof.Rows

inductive V where
  | non | bl (b : Bool) | int (i : Int) | str (x : Str) | byt (b : Array UInt8) | flt (b : UInt64) | ref (a : Addr) | ty (n : String)
  deriving DecidableEq

def RelV : V → Value → Prop
  | .non, u => u = Value.none
  | .bl b, u => u = Value.bool b
  | .int i, u => ∃ t, u = Value.int i t
  | .str x, u => ∃ t, u = Value.str x t
  | .byt b, u => ∃ t, u = Value.bytes b t
  | .flt b, u => ∃ t, u = Value.float b t
  | .ref a, u => u = Value.ref a
  | .ty n, u => u = Value.type n

abbrev Vals : List V → List Value → Prop := Paired RelV
theorem Vals.length {xs : List V} {us : List Value} (r : Vals xs us) : xs.length = us.length := Paired.length r
theorem Vals.get : ∀ {xs : List V} {us : List Value} {i : Nat} {x : V}, Vals xs us → xs[i]? = some x → ∃ u, us[i]? = some u ∧ RelV x u
  | _, _, _, _, .nil, e => by simp at e
  | _, _, 0, _, .cons r _, e => by simp at e; subst e; exact ⟨_, rfl, r⟩
  | _, _, i + 1, x, .cons _ t, e => by
    obtain ⟨u, h1, h2⟩ := Vals.get (i := i) (x := x) t (by simpa using e)
    exact ⟨u, by simpa using h1, h2⟩
theorem Vals.set {x : V} {u : Value} (r : RelV x u) : ∀ {xs : List V} {us : List Value} (i : Nat), Vals xs us → Vals (xs.set i x) (us.set i u)
  | _, _, _, .nil => .nil
  | _, _, 0, .cons _ t => .cons r t
  | _, _, i + 1, .cons q t => .cons q (Vals.set r i t)
theorem Vals.append : ∀ {xs ys : List V} {us ws : List Value}, Vals xs us → Vals ys ws → Vals (xs ++ ys) (us ++ ws)
  | _, _, _, _, .nil, s => s
  | _, _, _, _, .cons r t, s => .cons r (Vals.append t s)
theorem Vals.take : ∀ {xs : List V} {us : List Value} (n : Nat), Vals xs us → Vals (xs.take n) (us.take n)
  | _, _, 0, _ => .nil
  | _, _, _ + 1, .nil => .nil
  | _, _, n + 1, .cons r t => .cons r (Vals.take n t)
theorem Vals.drop : ∀ {xs : List V} {us : List Value} (n : Nat), Vals xs us → Vals (xs.drop n) (us.drop n)
  | _, _, 0, r => r
  | _, _, _ + 1, .nil => .nil
  | _, _, n + 1, .cons _ t => Vals.drop n t
theorem Vals.none_of : ∀ {xs : List V} {us : List Value} {i : Nat}, Vals xs us → xs[i]? = none → us[i]? = none := fun {xs us i} r e => by
  have h1 := r.length
  have h2 : xs.length ≤ i := List.getElem?_eq_none_iff.mp e
  exact List.getElem?_eq_none_iff.mpr (by omega)

def RelO : Option V → Option Value → Prop
  | some v, some u => RelV v u
  | none, none => True
  | _, _ => False
def KV {κ : Type} : List (κ × V) → List (κ × Value) → Prop := Paired fun (p : κ × V) (q : κ × Value) => p.1 = q.1 ∧ RelV p.2 q.2

def kV : Key → V
  | .inl i => .int i
  | .inr x => .str x

inductive HO where
  /-- a list -/
  | lst (xs : List V)
  /-- a tuple (never changes) -/
  | tup (xs : List V)
  /-- a dict whose keys are ints and texts; one whose keys are tuples of ints and texts (the empty one is both) -/
  | dK (kvs : List (Key × V)) | dT (kvs : List (List Key × V))
  /-- a set of ints: its members, its size -/
  | set (S : Int → Bool) (n : Nat)
  /-- an instance of the class at C, its dict at dx, its attributes -/
  | ins (C dx : Addr) (fs : List (Str × V))
  /-- the dict of the instance at x -/
  | own (x : Addr)
  /-- the dict of an exception -/
  | xd (fs : List (Str × V))
  /-- a bound method, f of x -/
  | met (f x : Addr)
  /-- a range object lo, lo + 1, .. below hi -/
  | rng (lo hi : Int)
  /-- a thing that is known to the object (the script; a dict while a loop walks it): read, never written while it is so -/
  | frz (o : Obj) (u : HO)
  /-- a code object's table -/
  | tbl (ps : Array Value)
  /-- any other thing, by what is true of its one object (a def of one's own: SetO a S n := HO.ext fun h => ..) -/
  | ext (φ : Heap → Prop)

abbrev Hp := Addr → Option HO
def upd (H : Hp) (a : Addr) (o : HO) : Hp := fun b => if b = a then some o else H b
theorem upd_same {H : Hp} {a : Addr} {o : HO} : upd H a o a = some o := by unfold upd; rw [if_pos rfl]
theorem upd_ne {H : Hp} {a b : Addr} {o : HO} (h : b ≠ a) : upd H a o b = H b := by unfold upd; rw [if_neg h]
theorem ne_of_none {H : Hp} {a b : Addr} {o : HO} (h : H a = some o) (h' : H b = none) : a ≠ b := by
  intro e; subst e; rw [h] at h'; cases h'

section
variable (P : Program) (w : World)
def ObjOk (H : Hp) (h : Heap) (a : Addr) : HO → Prop
  | .lst xs => xs.length ≤ sizeLine ∧ ∃ (its : List Value) (n : Nat), Vals xs its ∧ h.get? a = some { cls := .type "list", data := .seq its.toArray n }
  | .tup xs => xs.length ≤ sizeLine ∧ ∃ its : List Value, Vals xs its ∧ IsTup h a its.toArray
  | .dK kvs => kvs.length ≤ sizeLine ∧ (a == sysModules) = false ∧ ∃ vs, KV kvs vs ∧ h.DictOf (mixKind P w) a vs
  | .dT kvs => kvs.length ≤ sizeLine ∧ (a == sysModules) = false ∧ ∃ xs : List (List Key × Addr × Value),
      Paired (fun (p : List Key × V) (q : List Key × Addr × Value) => p.1 = q.1 ∧ H q.2.1 = some (.tup (p.1.map kV)) ∧ RelV p.2 q.2.2) kvs xs ∧
      ∃ o es ep, h.get? a = some o ∧ o.ExactDict ∧ o.data = .dict es ep ∧ es.toList = xs.map (entryOfKey (tupleKind (mixKind P w))) ∧ (xs.map (·.1)).Nodup
  | .set S n => h.SetOf (intKind P w) a S n
  | .ins C dx fs => H dx = some (.own a) ∧ fs.length ≤ 1000 ∧ dx ≠ a ∧ h.get? a = some (PySem.W.instObj C dx) ∧
      ∃ mA, h.Ns1 dx mA ∧ (∀ f, RelO (fs.lookup f) (mA f)) ∧ PySem.Within mA (fs.map (·.1))
  | .own _ => ∃ o, h.get? a = some o
  | .xd fs => ∃ mA, h.Ns1 a mA ∧ ∀ f, RelO (fs.lookup f) (mA f)
  | .rng lo hi => ∃ t u v, h.get? a = some { cls := .type "range", data := .fields #[.int lo t, .int hi u, .int 1 v] }
  | .frz o u => h.get? a = some o ∧ ObjOk H h a u
  | .tbl ps => h.get? a = some { cls := .none, data := .fields ps }
  | .met f x => h.get? a = some (PySem.W.methodObj (.ref f) (.ref x))
  | .ext φ => φ h ∧ (∃ o, h.get? a = some o) ∧ ∀ h1 h2 : Heap, φ h1 → (∀ o, h1.get? a = some o → h2.get? a = some o) → φ h2
def HOk (H : Hp) (h : Heap) : Prop := ∀ a o, H a = some o → ObjOk P w H h a o
end

section
variable {P : Program} {w : World} {H H' : Hp} {h h' : Heap} {a : Addr} {o : HO}
theorem ObjOk.lt (x : ObjOk P w H h a o) : a < h.objs.size := by
  cases o with
  | lst xs => obtain ⟨_, _, _, _, e⟩ := x; exact Heap.lt_size e
  | tup xs => obtain ⟨_, _, _, p⟩ := x; exact p.lt
  | dK kvs => obtain ⟨_, _, _, _, o, _, _, e, _⟩ := x; exact Heap.lt_size e
  | dT kvs => obtain ⟨_, _, _, _, o, _, _, e, _⟩ := x; exact Heap.lt_size e
  | set S n => obtain ⟨o, _, _, _, e, _⟩ := x; exact Heap.lt_size e
  | ins C dx fs => obtain ⟨_, _, _, e, _⟩ := x; exact Heap.lt_size e
  | own y => obtain ⟨_, e⟩ := x; exact Heap.lt_size e
  | xd fs => obtain ⟨_, ⟨_, _, _, e, _⟩, _⟩ := x; exact Heap.lt_size e
  | rng lo hi => obtain ⟨_, _, _, e⟩ := x; exact Heap.lt_size e
  | frz ob u => obtain ⟨e, _⟩ := x; exact Heap.lt_size e
  | tbl ps => exact Heap.lt_size (show h.get? a = some _ from x)
  | met f y => exact Heap.lt_size (show h.get? a = some _ from x)
  | ext φ => obtain ⟨_, ⟨_, e⟩, _⟩ := x; exact Heap.lt_size e
theorem Paired.mapP {α β : Type} {F G : α → β → Prop} : ∀ {l₁ : List α} {l₂ : List β}, Paired F l₁ l₂ → (∀ a b, F a b → G a b) → Paired G l₁ l₂
  | _, _, .nil, _ => .nil
  | _, _, .cons r t, f => .cons (f _ _ r) (Paired.mapP t f)
theorem ObjOk.stay (x : ObjOk P w H h a o) (k : ∀ b u, (b = a ∨ H b = some (.own a)) → h.get? b = some u → h'.get? b = some u)
    (ho : ∀ b, H b = some (.own a) → H' b = some (.own a)) (ht : ∀ b xs, H b = some (.tup xs) → H' b = some (.tup xs)) : ObjOk P w H' h' a o := by
  induction o with
  | lst xs => obtain ⟨z, its, n, r, e⟩ := x; exact ⟨z, its, n, r, k _ _ (.inl rfl) e⟩
  | tup xs => obtain ⟨z, its, r, ob, e, c⟩ := x; exact ⟨z, its, r, ob, k _ _ (.inl rfl) e, c⟩
  | dK kvs => obtain ⟨z, y, vs, r, ob, es, ep, e, c⟩ := x; exact ⟨z, y, vs, r, ob, es, ep, k _ _ (.inl rfl) e, c⟩
  | dT kvs =>
    obtain ⟨z, y, xs, r, ob, es, ep, e, c⟩ := x
    exact ⟨z, y, xs, Paired.mapP r fun p q z => ⟨z.1, ht _ _ z.2.1, z.2.2⟩, ob, es, ep, k _ _ (.inl rfl) e, c⟩
  | set S n => obtain ⟨ob, es, ep, t, e, c⟩ := x; exact ⟨ob, es, ep, t, k _ _ (.inl rfl) e, c⟩
  | ins C dx fs =>
    obtain ⟨d, z, ne, e, mA, ⟨od, es, ep, e2, c⟩, r⟩ := x
    exact ⟨ho _ d, z, ne, k _ _ (.inl rfl) e, mA, ⟨od, es, ep, k _ _ (.inr d) e2, c⟩, r⟩
  | own y => obtain ⟨ob, e⟩ := x; exact ⟨ob, k _ _ (.inl rfl) e⟩
  | xd fs => obtain ⟨mA, ⟨od, es, ep, e, c⟩, r⟩ := x; exact ⟨mA, ⟨od, es, ep, k _ _ (.inl rfl) e, c⟩, r⟩
  | rng lo hi => obtain ⟨t, u, v, e⟩ := x; exact ⟨t, u, v, k _ _ (.inl rfl) e⟩
  | frz ob u ih => obtain ⟨e, q⟩ := x; exact ⟨k _ _ (.inl rfl) e, ih q⟩
  | tbl ps =>
    have e : h.get? a = some { cls := .none, data := .fields ps } := x
    show h'.get? a = some { cls := .none, data := .fields ps }
    exact k a _ (.inl rfl) e
  | met f y =>
    have e : h.get? a = some (PySem.W.methodObj (.ref f) (.ref y)) := x
    show h'.get? a = some (PySem.W.methodObj (.ref f) (.ref y))
    exact k a _ (.inl rfl) e
  | ext φ => obtain ⟨p, ⟨o, e⟩, st⟩ := x; exact ⟨st _ _ p fun o q => k _ _ (.inl rfl) q, ⟨o, k _ _ (.inl rfl) e⟩, st⟩
theorem HOk.lt (x : HOk P w H h) (e : H a = some o) : a < h.objs.size := (x a o e).lt
theorem HOk.fresh (x : HOk P w H h) (e : h.objs.size ≤ a) : H a = none := by
  cases q : H a with
  | none => rfl
  | some u => exact absurd (Nat.lt_of_lt_of_le (x.lt q) e) (Nat.lt_irrefl _)
theorem HOk.kept (x : HOk P w H h) (k : ∀ b u, h.get? b = some u → h'.get? b = some u) : HOk P w H h' := fun a o e =>
  (x a o e).stay (fun b u _ q => k b u q) (fun _ q => q) fun _ _ q => q
theorem HOk.laid (x : HOk P w H h) (k : ∀ b u, h.get? b = some u → h'.get? b = some u) (hp : h.objs.size ≤ a) (new : ObjOk P w (upd H a o) h' a o) : HOk P w (upd H a o) h' := fun b u e => by
  have hn := x.fresh hp
  by_cases hb : b = a
  · subst hb; rw [upd_same] at e; cases e; exact new
  · rw [upd_ne hb] at e
    exact (x b u e).stay (fun c v _ q => k c v q) (fun c q => by rw [upd_ne (ne_of_none q hn)]; exact q) fun c xs q => by rw [upd_ne (ne_of_none q hn)]; exact q
end

def Rd (H : Hp) (a : Addr) (u : HO) : Prop := H a = some u ∨ ∃ o, H a = some (.frz o u)
theorem Rd.of {H : Hp} {a : Addr} {u : HO} (h : H a = some u) : Rd H a u := .inl h
theorem Rd.ok {P : Program} {w : World} {H : Hp} {h : Heap} {a : Addr} {u : HO} (r : Rd H a u) (x : HOk P w H h) : ObjOk P w H h a u := by
  rcases r with r | ⟨o, r⟩
  · exact x a u r
  · obtain ⟨_, q⟩ := x a _ r
    exact q
def Mut : Option HO → Prop
  | some (.lst _) => True
  | some (.dK _) => True
  | some (.dT _) => True
  | some (.set _ _) => True
  | some (.ins _ _ _) => True
  | some (.ext _) => True
  | _ => False
section
variable {P : Program} {w : World} {H : Hp} {h h' : Heap} {x e : Addr} {o' : HO}
theorem HOk.write (ok : HOk P w H h) (mu : Mut (H x)) (he : e = x ∨ H e = some (.own x)) (k : ∀ b u, b ≠ e → h.get? b = some u → h'.get? b = some u) (heo : ∃ u, h'.get? e = some u)
    (new : ObjOk P w (upd H x o') h' x o') : HOk P w (upd H x o') h' := fun b u q => by
  have nown : ∀ c y, H c = some (.own y) → c ≠ x := fun c y r z => by subst z; rw [r] at mu; exact mu
  have ntup : ∀ c xs, H c = some (.tup xs) → c ≠ x := fun c xs r z => by subst z; rw [r] at mu; exact mu
  by_cases hb : b = x
  · subst hb; rw [upd_same] at q; cases q; exact new
  · rw [upd_ne hb] at q
    by_cases hbe : b = e
    · have q' : H b = some (.own x) := by
        rcases he with z | z
        · exact absurd (hbe.trans z) hb
        · rw [hbe]; exact z
      rw [q] at q'; cases q'
      obtain ⟨v, hv⟩ := heo
      exact ⟨v, by rw [hbe]; exact hv⟩
    · refine (ok b u q).stay (fun c v hc r => k c v ?_ r) (fun c r => by rw [upd_ne (nown c b r)]; exact r) fun c xs r => by rw [upd_ne (ntup c xs r)]; exact r
      rcases hc with rfl | hc
      · exact hbe
      · rintro rfl
        rcases he with z | z
        · exact nown c b hc z
        · rw [hc] at z; cases z; exact hb rfl
end

structure Un (fs ex : List Addr) (H H' : Hp) (h h' : Heap) : Prop where
  keep : ∀ b o, h.get? b = some o → H b = none → b ∉ fs → b ∉ ex → h'.get? b = some o
  slot : ∀ b o, h.get? b = some o → H b = none → b ∈ fs → b ∉ ex → ∃ sl, h'.get? b = some { o with slots := sl }
  free : ∀ b o, h.get? b = some o → H b = none → b ∉ ex → H' b = none
  there : ∀ b o, h.get? b = some o → b ∉ ex → ∃ o', h'.get? b = some o'
  tups : ∀ b xs, H b = some (.tup xs) → H' b = some (.tup xs)
  frzs : ∀ b o u, H b = some (.frz o u) → H' b = some (.frz o u)
  tbls : ∀ b ps, H b = some (.tbl ps) → ∃ more, H' b = some (.tbl (ps ++ more))
section
variable {fs fs' ex ex' : List Addr} {H H1 H2 : Hp} {h h1 h2 h' : Heap} {a x e : Addr} {o : HO}
theorem Un.any (u : Un fs ex H H1 h h1) {b : Addr} {ob : Obj} (q : h.get? b = some ob) (n : H b = none) (hx : b ∉ ex) : ∃ sl, h1.get? b = some { ob with slots := sl } := by
  by_cases hb : b ∈ fs
  · exact u.slot b ob q n hb hx
  · exact ⟨ob.slots, u.keep b ob q n hb hx⟩
theorem Un.trans (a : Un fs ex H H1 h h1) (b : Un fs ex H1 H2 h1 h2) : Un fs ex H H2 h h2 where
  keep := fun c ob q n hc hx => b.keep c ob (a.keep c ob q n hc hx) (a.free c ob q n hx) hc hx
  slot := fun c ob q n hc hx => by
    obtain ⟨sl, e1⟩ := a.slot c ob q n hc hx
    obtain ⟨sl', e2⟩ := b.slot c _ e1 (a.free c ob q n hx) hc hx
    exact ⟨sl', e2⟩
  free := fun c ob q n hx => by
    obtain ⟨o', e1⟩ := a.there c ob q hx
    exact b.free c o' e1 (a.free c ob q n hx) hx
  there := fun c ob q hx => by
    obtain ⟨o', e1⟩ := a.there c ob q hx
    exact b.there c o' e1 hx
  tups := fun c xs q => b.tups c xs (a.tups c xs q)
  frzs := fun c ob xs q => b.frzs c ob xs (a.frzs c ob xs q)
  tbls := fun c ps q => by
    obtain ⟨m1, e1⟩ := a.tbls c ps q
    obtain ⟨m2, e2⟩ := b.tbls c _ e1
    exact ⟨m1 ++ m2, by rw [e2, Array.append_assoc]⟩
theorem Un.kept (k : ∀ b u, h.get? b = some u → h'.get? b = some u) : Un fs ex H H h h' :=
  ⟨fun b ob q _ _ _ => k b ob q, fun b ob q _ _ _ => ⟨ob.slots, k b ob q⟩, fun _ _ _ n _ => n, fun b ob q _ => ⟨ob, k b ob q⟩, fun _ _ q => q, fun _ _ _ q => q, fun _ ps q => ⟨#[], by rw [q]; simp⟩⟩
theorem Un.refl : Un fs ex H H h h := Un.kept fun _ _ q => q
theorem Un.laid (k : ∀ b u, h.get? b = some u → h'.get? b = some u) (hp : h.objs.size ≤ a) (hn : H a = none) : Un fs ex H (upd H a o) h h' where
  keep := fun b u q _ _ _ => k b u q
  slot := fun b u q _ _ _ => ⟨u.slots, k b u q⟩
  free := fun b u q n _ => by rw [upd_ne (Nat.ne_of_lt (Nat.lt_of_lt_of_le (Heap.lt_size q) hp))]; exact n
  there := fun b u q _ => ⟨u, k b u q⟩
  tups := fun b xs q => by rw [upd_ne (ne_of_none q hn)]; exact q
  frzs := fun b u xs q => by rw [upd_ne (ne_of_none q hn)]; exact q
  tbls := fun b ps q => ⟨#[], by rw [upd_ne (ne_of_none q hn), q]; simp⟩
theorem Un.write (mu : Mut (H x)) (he : e = x ∨ H e = some (.own x)) (k : ∀ b u, b ≠ e → h.get? b = some u → h'.get? b = some u) (heo : ∃ u, h'.get? e = some u) : Un fs ex H (upd H x o) h h' := by
  have hx : ∀ b, H b = none → b ≠ x := fun b n z => by subst z; rw [n] at mu; exact mu
  have hb : ∀ b, H b = none → b ≠ e := fun b n z => by
    subst z
    rcases he with r | r
    · exact hx b n r
    · rw [n] at r; cases r
  have hm : ∀ b u, H b = some u → ¬ Mut (some u) → b ≠ x := fun b u q nm z => by subst z; rw [q] at mu; exact nm mu
  refine ⟨fun b u q n _ _ => k b u (hb b n) q, fun b u q n _ _ => ⟨u.slots, k b u (hb b n) q⟩, fun b u q n _ => by rw [upd_ne (hx b n)]; exact n, fun b u q _ => ?_,
    fun b xs q => by rw [upd_ne (hm b _ q fun z => z)]; exact q, fun b u xs q => by rw [upd_ne (hm b _ q fun z => z)]; exact q, fun b ps q => ⟨#[], by rw [upd_ne (hm b _ q fun z => z), q]; simp⟩⟩
  by_cases hbe : b = e
  · subst hbe; exact heo
  · exact ⟨u, k b u hbe q⟩
theorem Un.mono (u : Un fs ex H H1 h h1) (hs : ∀ b ∈ fs, b ∈ fs') (hx : ∀ b ∈ ex, b ∈ ex') : Un fs' ex' H H1 h h1 :=
  ⟨fun b ob q n hb he => u.keep b ob q n (fun z => hb (hs b z)) fun z => he (hx b z), fun _ _ q n _ he => u.any q n fun z => he (hx _ z), fun b ob q n he => u.free b ob q n fun z => he (hx b z), fun b ob q he => u.there b ob q fun z => he (hx b z), u.tups, u.frzs, u.tbls⟩
end

def trk (h : Heap) (H : Hp) : List Addr := (List.range h.objs.size).filter fun a => (H a).isSome
def hidT (h : Heap) (H : Hp) : Heap := PySem.W.hideAll h (trk h H)
theorem hidT_size (h : Heap) (H : Hp) : (hidT h H).objs.size = h.objs.size := PySem.W.hideAll_size _ _
theorem hidT_get {h : Heap} {H : Hp} {b : Addr} {o : Obj} (e : h.get? b = some o) (n : H b = none) : (hidT h H).get? b = some o :=
  PySem.W.hideAll_get _ e fun hm => by
    have q : (H b).isSome = true := (List.mem_filter.mp hm).2
    rw [n] at q; simp at q
theorem of_hidT {h : Heap} {H : Hp} {b : Addr} {o : Obj} (e : (hidT h H).get? b = some o) : h.get? b = some o ∧ H b = none := by
  have e' : h.get? b = some o := PySem.W.of_hideAll (trk h H) e
  refine ⟨e', ?_⟩
  cases q : H b with
  | none => rfl
  | some x =>
    have hm : b ∈ trk h H := List.mem_filter.mpr ⟨List.mem_range.mpr (Heap.lt_size e'), by simp [q]⟩
    have z : (hidT h H).get? b = none := PySem.W.hideAll_none (trk h H) hm
    rw [z] at e; cases e

def allNews (g h : Heap) (L : Addr) : List (Addr × Obj) := (List.range h.objs.size).filterMap fun a => if a = L ∨ (g.get? a).isSome = true then none else (h.get? a).map fun o => (a, o)
def rest (g h : Heap) (L d : Addr) : List (Addr × Obj) := (allNews g h L).filter fun p => decide (p.1 ≠ d)
end L2

namespace L2
open PySem PySem.Spec PyProof.Rows

structure Mod (K : PySem.W.Frag) (mg : Str → Option Value) (base : Heap) : Prop where
  kin : K.In base
  glob : base.Ns mainGlobals mg
  blt : ∃ mb, base.Ns builtinsNs mb ∧ ∀ x : Str, x ≠ "__name__" → mb x = bootBuiltins x
  nolimit : base.NoLimit

structure Cx where
  prog : Program
  w : World
  K : PySem.W.Frag
  mg : Str → Option Value
  base : Heap
  A : Around
  N : List Str
  s₀ : Shared
  H₀ : Hp
  env : Env
  outer : List Env
  stack : List Env
  ex : List Addr
  fn : Str → Bool
  calm : Bool
  pn : List (Addr × Obj)
  xe : Value → Shared → Prop
def frs (l : List Env) : List Addr := l.filterMap (·.frame)
abbrev Cx.fs (X : Cx) : List Addr := frs X.outer

def Vis (sc : Scope) (x : Str) : Prop := sc.names.lookup x = some .local ∨ sc.names.lookup x = some .cell ∨ sc.names.lookup x = some .free
def Loc (sc : Scope) (x : Str) : Prop := sc.names.lookup x = some .local ∨ sc.names.lookup x = some .cell
def Look (env : Env) (h : Heap) (m : Str → Option Value) (x : Str) (u : Value) : Prop :=
  (env.kindOf x = some .local ∧ m x = some u) ∨ ((env.kindOf x = some .cell ∨ env.kindOf x = some .free) ∧ ∃ c, env.cells.lookup x = some c ∧ h.IsCell c (some u))

structure Cx.Ok (X : Cx) : Prop where
  mod : Mod X.K X.mg X.base
  kind : X.env.scope.kind = .function
  glob : X.env.globals = mainGlobals
  blt : X.env.builtins = builtinsNs
  above : X.s₀.heap.objs.size ≤ X.env.locals
  inj : ∀ x y c, X.env.cells.lookup x = some c → X.env.cells.lookup y = some c → x = y
  has : ∀ x, (X.env.kindOf x = some .cell ∨ X.env.kindOf x = some .free) → ∃ c, X.env.cells.lookup x = some c
  cab : ∀ x c, X.fn x = true → X.env.cells.lookup x = some c → X.s₀.heap.objs.size ≤ c
  hd : X.calm = true → X.A.handled = none
  frames : X.A.frames = some X.stack
  stk : X.stack = X.outer ∨ (X.stack = X.env :: X.outer ∧ X.env.frame = some X.env.locals)
  exf : ∀ b ∈ X.ex, b ≠ X.env.locals ∧ ∀ x c, X.env.cells.lookup x = some c → c ≠ b
  bs : ∀ b o, X.base.get? b = some o → X.s₀.heap.get? b = some o ∧ X.H₀ b = none
  bsz : X.base.objs.size ≤ X.s₀.heap.objs.size
  noex : ∀ b o, X.base.get? b = some o → b ∉ X.ex
  exfs : ∀ b ∈ X.ex, b ∉ X.fs
  funs : X.s₀.heap.FunFrames X.base X.outer
  frf : ∀ b ∈ X.fs, X.H₀ b = none

structure Inv (X : Cx) (pins : List (Addr × Obj)) (σ : List (Option V)) (H : Hp) (s : Shared) : Prop where
  ok : X.Ok
  os : s.os = X.s₀.os
  bare : AllBare s.gens
  base : Un X.fs X.ex X.H₀ H X.s₀.heap s.heap
  loc : ∃ m, s.heap.Ns X.env.locals m ∧ ∀ (i : Nat) (x : Str) (v : V), X.N[i]? = some x → σ[i]? = some (some v) → Vis X.env.scope x → ∃ u, RelV v u ∧ Look X.env s.heap m x u
  cell : ∀ x c, X.env.cells.lookup x = some c → ∃ v, s.heap.IsCell c v
  free : H X.env.locals = none
  freeC : ∀ x c, X.env.cells.lookup x = some c → H c = none
  pin : ∀ p ∈ X.pn ++ pins, s.heap.get? p.1 = some p.2 ∧ H p.1 = none ∧ p.1 ≠ X.env.locals ∧ p.1 ∉ X.fs ∧ ∀ v, p.2.data ≠ .cell v
  hok : HOk X.prog X.w H s.heap
  len : σ.length = X.N.length

section
variable {X : Cx} {pins : List (Addr × Obj)} {σ : List (Option V)} {H H' : Hp} {s : Shared} {h' : Heap}

theorem Cx.Ok.nofr (ok : X.Ok) {b : Addr} {o : Obj} (e : X.base.get? b = some o) : b ∉ X.fs := fun hb => by
  have := (ok.funs.mem hb).1
  rw [e] at this; cases this
theorem Inv.bs (I : Inv X pins σ H s) : ∀ b o, X.base.get? b = some o → s.heap.get? b = some o ∧ H b = none := fun b o e =>
  ⟨I.base.keep b o (I.ok.bs b o e).1 (I.ok.bs b o e).2 (I.ok.nofr e) (I.ok.noex b o e), I.base.free b o (I.ok.bs b o e).1 (I.ok.bs b o e).2 (I.ok.noex b o e)⟩
theorem Inv.bk (I : Inv X pins σ H s) : ∀ b o, X.base.get? b = some o → s.heap.get? b = some o := fun b o e => (I.bs b o e).1
theorem Inv.mod (I : Inv X pins σ H s) : Mod X.K X.mg X.base := I.ok.mod
theorem Inv.kIn (I : Inv X pins σ H s) : X.K.In s.heap := I.ok.mod.kin.keeps I.bk
theorem Inv.nolimit (I : Inv X pins σ H s) : s.heap.NoLimit := I.ok.mod.nolimit.keeps I.bk
theorem Inv.fr (I : Inv X pins σ H s) : ∃ m, Fr X.base X.env.locals s.heap m :=
  let ⟨m, hn, _⟩ := I.loc
  ⟨m, hn, I.bk, Nat.le_trans I.ok.bsz I.ok.above⟩
theorem Inv.lt (I : Inv X pins σ H s) : X.env.locals < s.heap.objs.size := let ⟨_, hn, _⟩ := I.loc; hn.lt
theorem Inv.sz (I : Inv X pins σ H s) : X.s₀.heap.objs.size ≤ s.heap.objs.size := Nat.le_trans I.ok.above (Nat.le_of_lt I.lt)
theorem Inv.nofs (I : Inv X pins σ H s) {a : Addr} (h : s.heap.objs.size ≤ a) : a ∉ X.fs := fun hb => by
  obtain ⟨_, o, ho, _⟩ := I.ok.funs.mem hb
  exact absurd (Nat.lt_of_lt_of_le (Heap.lt_size ho) (Nat.le_trans I.sz h)) (Nat.lt_irrefl _)
theorem Inv.cne (I : Inv X pins σ H s) : ∀ x c, X.env.cells.lookup x = some c → c ≠ X.env.locals := fun x c e z => by
  obtain ⟨v, o, ho, hd⟩ := I.cell x c e
  obtain ⟨m, ⟨o', es, ep, ho', hd', _⟩, _⟩ := I.loc
  rw [z, ho'] at ho; cases ho; rw [hd'] at hd; cases hd
theorem Inv.funs (I : Inv X pins σ H s) : s.heap.FunFrames X.base X.outer := by
  have all : ∀ (l : List Env), (∀ b ∈ frs l, b ∈ X.fs) → X.s₀.heap.FunFrames X.base l → s.heap.FunFrames X.base l := by
    intro l
    induction l with
    | nil => intro _ _; trivial
    | cons env r ih =>
      intro hs hl
      obtain ⟨hk, ⟨L, o, hf, hn, ho, hd⟩, hr⟩ := hl
      have hL : L ∈ X.fs := hs L (by unfold frs; rw [List.filterMap_cons, hf]; exact List.mem_cons_self)
      obtain ⟨sl, e⟩ := I.base.slot L o ho (I.ok.frf L hL) hL fun z => I.ok.exfs L z hL
      exact ⟨hk, ⟨L, _, hf, hn, e, hd⟩, ih (fun b hb => hs b (by unfold frs; rw [List.filterMap_cons, hf]; exact List.mem_cons_of_mem _ hb)) hr⟩
  exact all X.outer (fun _ hb => hb) I.ok.funs

theorem Inv.stack (I : Inv X pins σ H s) : s.heap.FunFrames X.base X.stack := by
  rcases I.ok.stk with e | ⟨e, hf⟩
  · rw [e]; exact I.funs
  · rw [e]
    obtain ⟨m, hn, _⟩ := I.loc
    refine .cons (by rw [I.ok.kind]; decide) hf hn ?_ I.funs
    exact Heap.get?_none_of_le (Nat.le_trans I.ok.bsz I.ok.above)
theorem Inv.stkSub (I : Inv X pins σ H s) : ∀ b ∈ frs X.stack, b ∈ X.env.locals :: X.fs := fun b hb => by
  rcases I.ok.stk with e | ⟨e, hf⟩
  · rw [e] at hb; exact List.mem_cons_of_mem _ hb
  · rw [e] at hb
    unfold frs at hb
    rw [List.filterMap_cons, hf] at hb
    exact hb
theorem Inv.stkFree (I : Inv X pins σ H s) : ∀ b ∈ frs X.stack, H b = none := fun b hb => by
  rcases List.mem_cons.mp (I.stkSub b hb) with e | hb
  · rw [e]; exact I.free
  · obtain ⟨_, o, ho, _⟩ := I.ok.funs.mem hb
    exact I.base.free b o ho (I.ok.frf b hb) fun z => I.ok.exfs b z hb

theorem Inv.step {g' : Array GenState} {t' : Nat} {d' : Drawn} {ch : List Addr} (I : Inv X pins σ H s)
    (hch : ∀ b ∈ ch, (b ∈ X.ex ∨ X.s₀.heap.objs.size ≤ b) ∧ b ≠ X.env.locals ∧ (∀ x c, X.env.cells.lookup x = some c → c ≠ b) ∧ ∀ p ∈ X.pn ++ pins, p.1 ≠ b)
    (keep : ∀ b o, b ≠ X.env.locals → b ∉ X.fs → b ∉ ch → s.heap.get? b = some o → H b = none → h'.get? b = some o)
    (slot : ∀ b o, b ≠ X.env.locals → b ∈ X.fs → b ∉ ch → s.heap.get? b = some o → H b = none → ∃ sl, h'.get? b = some { o with slots := sl }) (free : ∀ b o, b ∉ ch → s.heap.get? b = some o → H b = none → H' b = none)
    (there : ∀ b o, b ∉ ch → s.heap.get? b = some o → ∃ o', h'.get? b = some o')
    (tups : ∀ b xs, H b = some (.tup xs) → H' b = some (.tup xs)) (frzs : ∀ b o u, H b = some (.frz o u) → H' b = some (.frz o u)) (tbls : ∀ b ps, H b = some (.tbl ps) → ∃ more, H' b = some (.tbl (ps ++ more)))
    (ns : ∀ m, s.heap.Ns X.env.locals m → h'.Ns X.env.locals m) (hok : HOk X.prog X.w H' h') (hg : AllBare g') :
    Inv X pins σ H' { s with heap := h', gens := g', drawn := d', toks := t' } := by
  have neL : ∀ b o, X.s₀.heap.get? b = some o → b ≠ X.env.locals := fun b o e => Nat.ne_of_lt (Nat.lt_of_lt_of_le (Heap.lt_size e) I.ok.above)
  have neC : ∀ b o, X.s₀.heap.get? b = some o → b ∉ X.ex → b ∉ ch := fun b o e hx hb => by
    rcases (hch b hb).1 with z | z
    · exact hx z
    · exact absurd (Nat.lt_of_lt_of_le (Heap.lt_size e) z) (Nat.lt_irrefl _)
  have cellK : ∀ x c, X.env.cells.lookup x = some c → ∀ v, s.heap.IsCell c v → h'.IsCell c v := fun x c e v ⟨o, ho, hd⟩ => by
    have nch : c ∉ ch := fun z => (hch c z).2.2.1 x c e rfl
    by_cases hc : c ∈ X.fs
    · obtain ⟨sl, q⟩ := slot c o (I.cne x c e) hc nch ho (I.freeC x c e)
      exact ⟨_, q, hd⟩
    · exact ⟨o, keep c o (I.cne x c e) hc nch ho (I.freeC x c e), hd⟩
  refine ⟨I.ok, I.os, hg, ⟨fun b o e n hb hx => ?_, fun b o e n hb hx => ?_, fun b o e n hx => ?_, fun b o e hx => ?_, fun b xs e => tups b xs (I.base.tups b xs e), fun b o xs e => frzs b o xs (I.base.frzs b o xs e), fun b ps e => ?_⟩, ?_, fun x c e => ?_, ?_, fun x c e => ?_, fun p hp => ?_, hok, I.len⟩
  · exact keep b o (neL b o e) hb (neC b o e hx) (I.base.keep b o e n hb hx) (I.base.free b o e n hx)
  · obtain ⟨sl, e1⟩ := I.base.slot b o e n hb hx
    obtain ⟨sl', e2⟩ := slot b _ (neL b o e) hb (neC b o e hx) e1 (I.base.free b o e n hx)
    exact ⟨sl', e2⟩
  · obtain ⟨o', e1⟩ := I.base.there b o e hx
    exact free b o' (neC b o e hx) e1 (I.base.free b o e n hx)
  · obtain ⟨o', e1⟩ := I.base.there b o e hx
    exact there b o' (neC b o e hx) e1
  · obtain ⟨m1, e1⟩ := I.base.tbls b ps e
    obtain ⟨m2, e2⟩ := tbls b _ e1
    exact ⟨m1 ++ m2, by rw [e2, Array.append_assoc]⟩
  · obtain ⟨m, hn, hl⟩ := I.loc
    refine ⟨m, ns m hn, fun i x v e1 e2 e3 => ?_⟩
    obtain ⟨u, r, l⟩ := hl i x v e1 e2 e3
    refine ⟨u, r, ?_⟩
    rcases l with l | ⟨k, c, e, z⟩
    · exact .inl l
    · exact .inr ⟨k, c, e, cellK x c e _ z⟩
  · obtain ⟨v, z⟩ := I.cell x c e
    exact ⟨v, cellK x c e v z⟩
  · obtain ⟨m, ⟨o, _, _, ho, _⟩, _⟩ := I.loc
    exact free _ o (fun z => (hch _ z).2.1 rfl) ho I.free
  · obtain ⟨v, o, ho, hd⟩ := I.cell x c e
    exact free c o (fun z => (hch c z).2.2.1 x c e rfl) ho (I.freeC x c e)
  · obtain ⟨e, n, ne, nf, d⟩ := I.pin p hp
    have nch : p.1 ∉ ch := fun z => (hch p.1 z).2.2.2 p hp rfl
    exact ⟨keep p.1 p.2 ne nf nch e n, free p.1 p.2 nch e n, ne, nf, d⟩
theorem Inv.un {t' : Nat} (I : Inv X pins σ H s) (u : Un X.fs [] H H' s.heap h') (hok : HOk X.prog X.w H' h') : Inv X pins σ H' { s with heap := h', toks := t' } := by
  obtain ⟨m, ⟨o, es, ep, ho, r⟩, _⟩ := id I.loc
  obtain ⟨sl, hL⟩ := u.any ho I.free (by simp)
  exact I.step (g' := s.gens) (d' := s.drawn) (ch := []) (fun _ z => nomatch z) (fun b o _ hb _ e n => u.keep b o e n hb (by simp)) (fun b o _ hb _ e n => u.slot b o e n hb (by simp)) (fun b o _ e n => u.free b o e n (by simp)) (fun b o _ e => u.there b o e (by simp)) u.tups u.frzs u.tbls (fun m' hm => by
    obtain ⟨o', es', ep', ho', r'⟩ := hm
    rw [ho] at ho'; cases ho'
    exact ⟨_, es', ep', hL, r'⟩) hok I.bare
theorem Inv.call {g' : Array GenState} {t' : Nat} {d' : Drawn} {ch : List Addr} (I : Inv X pins σ H s) (u : Un (frs X.stack) ch H H' s.heap h') (hok : HOk X.prog X.w H' h') (hg : AllBare g')
    (hch : ∀ b ∈ ch, (b ∈ X.ex ∨ X.s₀.heap.objs.size ≤ b) ∧ b ≠ X.env.locals ∧ (∀ x c, X.env.cells.lookup x = some c → c ≠ b) ∧ ∀ p ∈ X.pn ++ pins, p.1 ≠ b) :
    Inv X pins σ H' { s with heap := h', gens := g', drawn := d', toks := t' } := by
  obtain ⟨m, ⟨o, es, ep, ho, r⟩, _⟩ := id I.loc
  obtain ⟨sl, hL⟩ := u.any ho I.free fun z => (hch _ z).2.1 rfl
  exact I.step (ch := ch) hch (fun b o hL hb hc e n => u.keep b o e n (fun z => (List.mem_cons.mp (I.stkSub b z)).elim hL hb) hc) (fun b o _ _ hc e n => u.any e n hc) (fun b o hc e n => u.free b o e n hc) (fun b o hc e => u.there b o e hc) u.tups u.frzs u.tbls (fun m' hm => by
    obtain ⟨o', es', ep', ho', r'⟩ := hm
    rw [ho] at ho'; cases ho'
    exact ⟨_, es', ep', hL, r'⟩) hok hg
theorem Inv.turned {t' : Nat} {it : Addr} (I : Inv X pins σ H s) (k : ∀ b o, b ≠ it → s.heap.get? b = some o → h'.get? b = some o) (hn : H it = none) (hL : it ≠ X.env.locals)
    (h1 : it ∈ X.ex ∨ X.s₀.heap.objs.size ≤ it) (h2 : ∀ x c, X.env.cells.lookup x = some c → c ≠ it) (h3 : ∀ p ∈ X.pn ++ pins, p.1 ≠ it) : Inv X pins σ H { s with heap := h', toks := t' } := by
  have nit : ∀ b u, H b = some u → b ≠ it := fun b u e z => by rw [z, hn] at e; cases e
  refine I.step (g' := s.gens) (d' := s.drawn) (ch := [it]) (fun b hb => ?_) (fun b o _ _ hc e _ => k b o (fun z => hc (by simp [z])) e) (fun b o _ _ hc e _ => ⟨o.slots, k b o (fun z => hc (by simp [z])) e⟩) (fun _ _ _ _ n => n)
    (fun b o hc e => ⟨o, k b o (fun z => hc (by simp [z])) e⟩) (fun _ _ e => e) (fun _ _ _ e => e) (fun b ps e => ⟨#[], by rw [e]; simp⟩) (fun m hm => ?_) (fun b u e => ?_) I.bare
  · have e : b = it := by simpa using hb
    subst e
    exact ⟨h1, hL, h2, h3⟩
  · obtain ⟨o, es, ep, ho, r⟩ := hm
    exact ⟨o, es, ep, k _ o (Ne.symm hL) ho, r⟩
  · refine (I.hok b u e).stay (fun c v hc q => k c v ?_ q) (fun _ q => q) fun _ _ q => q
    rcases hc with z | z
    · rw [z]; exact nit b u e
    · exact nit c _ z
theorem Inv.tok (I : Inv X pins σ H s) (t : Nat) : Inv X pins σ H { s with toks := t } := I.un (h' := s.heap) (t' := t) Un.refl I.hok
theorem Inv.kept {t' : Nat} (I : Inv X pins σ H s) (k : ∀ b u, s.heap.get? b = some u → h'.get? b = some u) : Inv X pins σ H { s with heap := h', toks := t' } := I.un (Un.kept k) (I.hok.kept k)
theorem Inv.laid {a : Addr} {o : HO} {t' : Nat} (I : Inv X pins σ H s) (k : ∀ b u, s.heap.get? b = some u → h'.get? b = some u) (hp : s.heap.objs.size ≤ a) (new : ObjOk X.prog X.w (upd H a o) h' a o) :
    Inv X pins σ (upd H a o) { s with heap := h', toks := t' } := I.un (Un.laid k hp (I.hok.fresh hp)) (I.hok.laid k hp new)
theorem Inv.write {x e : Addr} {o : HO} {t' : Nat} (I : Inv X pins σ H s) (mu : Mut (H x)) (he : e = x ∨ H e = some (.own x)) (k : ∀ b u, b ≠ e → s.heap.get? b = some u → h'.get? b = some u) (heo : ∃ u, h'.get? e = some u)
    (new : ObjOk X.prog X.w (upd H x o) h' x o) : Inv X pins σ (upd H x o) { s with heap := h', toks := t' } := I.un (Un.write mu he k heo) (I.hok.write mu he k heo new)
theorem Inv.weak {σ' : List (Option V)} (I : Inv X pins σ H s) (hl : σ'.length = σ.length) (w : ∀ (i : Nat) v, σ'[i]? = some (some v) → σ[i]? = some (some v)) : Inv X pins σ' H s :=
  ⟨I.ok, I.os, I.bare, I.base, let ⟨m, hn, hl'⟩ := I.loc; ⟨m, hn, fun i x v e1 e2 e3 => hl' i x v e1 (w i v e2) e3⟩, I.cell, I.free, I.freeC, I.pin, I.hok, hl.trans I.len⟩
theorem Inv.pins_of {pins' : List (Addr × Obj)} (I : Inv X pins σ H s) (h : ∀ p ∈ pins', s.heap.get? p.1 = some p.2 ∧ H p.1 = none ∧ p.1 ≠ X.env.locals ∧ p.1 ∉ X.fs ∧ ∀ v, p.2.data ≠ .cell v) : Inv X pins' σ H s :=
  ⟨I.ok, I.os, I.bare, I.base, I.loc, I.cell, I.free, I.freeC, fun p hp => (List.mem_append.mp hp).elim (fun z => I.pin p (List.mem_append_left _ z)) (h p), I.hok, I.len⟩

theorem nodup_ix {N : List Str} (hN : N.Nodup) {i j : Nat} {x : Str} (a : N[i]? = some x) (b : N[j]? = some x) : i = j := by
  obtain ⟨h1, e1⟩ := List.getElem?_eq_some_iff.mp a
  obtain ⟨h2, e2⟩ := List.getElem?_eq_some_iff.mp b
  exact (List.getElem_inj hN).mp (e1.trans e2.symm)

theorem store_ok2 {M : Model} {A : Around} {E : Value → Shared → Prop} {i : Nat} {x : Str} {v : V} {u : Value} {Q : Unit → Shared → Prop} (I : Inv X pins σ H s) (hN : X.N.Nodup) (hi : X.N[i]? = some x) (hx : Loc X.env.scope x) (r : RelV v u)
    (h : ∀ s', Inv X pins (σ.set i (some v)) H s' → (∃ a, Heap.SameBut a s.heap s'.heap ∧ (a = X.env.locals ∨ X.env.cells.lookup x = some a)) → Q () s') (hf : X.fn x = true ∨ X.env.scope.names.lookup x = some .local := by first | exact .inl rfl | exact .inr rfl | assumption) : wpAny M A (storeName X.env x u) Q E s := by
  obtain ⟨m, hn, hl⟩ := id I.loc
  have hcls : (X.env.scope.kind == .class || (X.env.scope.kind == .module && X.env.locals != X.env.globals)) = false := by rw [I.ok.kind]; rfl
  have hiσ : i < σ.length := by rw [I.len]; exact (List.getElem?_eq_some_iff.mp hi).1
  have cne := I.cne
  have tracked : ∀ {a : Addr} {h' : Heap}, (∃ o, s.heap.get? a = some o ∧ H a = none) → Heap.SameBut a s.heap h' → HOk X.prog X.w H h' := fun {a h'} ha hs b ob e => by
    obtain ⟨_, _, hfree⟩ := ha
    refine (I.hok b ob e).stay (fun c w' hc q => (hs.2 c ?_).trans q) (fun _ q => q) fun _ _ q => q
    rintro rfl
    rcases hc with rfl | hc
    · rw [hfree] at e; cases e
    · rw [hfree] at hc; cases hc
  rcases hx with hk | hk
  · refine wpAny_storeName_local hk hn (fun h' hn' hs => ?_) hcls
    obtain ⟨oL, _, _, hoL, _⟩ := id hn
    refine h _ ⟨I.ok, I.os, I.bare, ⟨fun b o e n hb hx => ?_, fun b o e n hb hx => ?_, I.base.free, fun b o e hx => ?_, I.base.tups, I.base.frzs, I.base.tbls⟩, ⟨_, hn', fun j y v' e1 e2 e3 => ?_⟩, fun y c e => ?_, I.free, I.freeC, fun p hp => ?_, tracked ⟨oL, hoL, I.free⟩ hs, by simpa using I.len⟩ ⟨_, hs, .inl rfl⟩
    · exact (hs.2 b (Nat.ne_of_lt (Nat.lt_of_lt_of_le (Heap.lt_size e) I.ok.above))).trans (I.base.keep b o e n hb hx)
    · obtain ⟨sl, e1⟩ := I.base.slot b o e n hb hx
      exact ⟨sl, (hs.2 b (Nat.ne_of_lt (Nat.lt_of_lt_of_le (Heap.lt_size e) I.ok.above))).trans e1⟩
    · obtain ⟨o', e1⟩ := I.base.there b o e hx
      exact ⟨o', (hs.2 b (Nat.ne_of_lt (Nat.lt_of_lt_of_le (Heap.lt_size e) I.ok.above))).trans e1⟩
    · by_cases hj : j = i
      · subst hj
        rw [hi] at e1; cases e1
        rw [List.getElem?_set_self hiσ] at e2
        cases e2
        exact ⟨u, r, .inl ⟨hk, by simp⟩⟩
      · rw [List.getElem?_set_ne (Ne.symm hj)] at e2
        obtain ⟨u', r', q⟩ := hl j y v' e1 e2 e3
        refine ⟨u', r', ?_⟩
        rcases q with ⟨k, e⟩ | ⟨k, c, e, z⟩
        · refine .inl ⟨k, ?_⟩
          have : y ≠ x := fun e => hj (nodup_ix hN e1 (e ▸ hi))
          simp [this, e]
        · exact .inr ⟨k, c, e, z.sameBut hs (cne y c e)⟩
    · obtain ⟨w', z⟩ := I.cell y c e
      exact ⟨w', z.sameBut hs (cne y c e)⟩
    · obtain ⟨e, n, ne, nf, d⟩ := I.pin p hp
      exact ⟨(hs.2 p.1 ne).trans e, n, ne, nf, d⟩
  · have hfn : X.fn x = true := by
      rcases hf with z | z
      · exact z
      · rw [z] at hk; cases hk
    obtain ⟨c, hc⟩ := I.ok.has x (.inl hk)
    obtain ⟨w', z⟩ := I.cell x c hc
    refine wpAny_storeName_cell I.ok.kind hk hc z (fun h' hc' hs => ?_)
    obtain ⟨oc, hoc, hocd⟩ := id z
    refine h { s with heap := h' } ⟨I.ok, I.os, I.bare, ⟨fun b o e n hb hx => ?_, fun b o e n hb hx => ?_, I.base.free, fun b o e hx => ?_, I.base.tups, I.base.frzs, I.base.tbls⟩, ⟨m, hn.sameBut hs (Ne.symm (cne x c hc)), fun j y v' e1 e2 e3 => ?_⟩, fun y c' e => ?_, I.free, I.freeC, fun p hp => ?_, tracked ⟨oc, hoc, I.freeC x c hc⟩ hs, by simpa using I.len⟩ ⟨c, hs, .inr hc⟩
    · exact (hs.2 b (Nat.ne_of_lt (Nat.lt_of_lt_of_le (Heap.lt_size e) (I.ok.cab x c hfn hc)))).trans (I.base.keep b o e n hb hx)
    · obtain ⟨sl, e1⟩ := I.base.slot b o e n hb hx
      exact ⟨sl, (hs.2 b (Nat.ne_of_lt (Nat.lt_of_lt_of_le (Heap.lt_size e) (I.ok.cab x c hfn hc)))).trans e1⟩
    · obtain ⟨o', e1⟩ := I.base.there b o e hx
      exact ⟨o', (hs.2 b (Nat.ne_of_lt (Nat.lt_of_lt_of_le (Heap.lt_size e) (I.ok.cab x c hfn hc)))).trans e1⟩
    · by_cases hj : j = i
      · subst hj
        rw [hi] at e1; cases e1
        rw [List.getElem?_set_self hiσ] at e2
        cases e2
        exact ⟨u, r, .inr ⟨.inl hk, c, hc, hc'⟩⟩
      · rw [List.getElem?_set_ne (Ne.symm hj)] at e2
        obtain ⟨u', r', q⟩ := hl j y v' e1 e2 e3
        refine ⟨u', r', ?_⟩
        rcases q with q | ⟨k, c', e, z'⟩
        · exact .inl q
        · refine .inr ⟨k, c', e, z'.sameBut hs ?_⟩
          rintro rfl
          exact hj (nodup_ix hN e1 (I.ok.inj _ _ _ e hc ▸ hi))
    · by_cases hcc : c' = c
      · subst hcc; exact ⟨_, hc'⟩
      · obtain ⟨w2, z2⟩ := I.cell y c' e
        exact ⟨w2, z2.sameBut hs hcc⟩
    · obtain ⟨e, n, ne, nf, d⟩ := I.pin p hp
      refine ⟨(hs.2 p.1 ?_).trans e, n, ne, nf, d⟩
      intro q
      rw [q, hoc] at e
      have q' : oc = p.2 := Option.some.inj e
      exact d w' (by rw [← q']; exact hocd)
theorem store_ok {M : Model} {A : Around} {E : Value → Shared → Prop} {i : Nat} {x : Str} {v : V} {u : Value} {Q : Unit → Shared → Prop} (I : Inv X pins σ H s) (hN : X.N.Nodup) (hi : X.N[i]? = some x) (hx : Loc X.env.scope x) (r : RelV v u)
    (h : ∀ s', Inv X pins (σ.set i (some v)) H s' → Q () s') (hf : X.fn x = true ∨ X.env.scope.names.lookup x = some .local := by first | exact .inl rfl | exact .inr rfl | assumption) : wpAny M A (storeName X.env x u) Q E s :=
  store_ok2 I hN hi hx r (fun s' I' _ => h s' I') hf
theorem Inv.call' {s' : Shared} {ch : List Addr} (I : Inv X pins σ H s) (ho : s'.os = s.os) (u : Un (frs X.stack) ch H H' s.heap s'.heap) (hok : HOk X.prog X.w H' s'.heap) (hg : AllBare s'.gens)
    (hch : ∀ b ∈ ch, (b ∈ X.ex ∨ X.s₀.heap.objs.size ≤ b) ∧ b ≠ X.env.locals ∧ (∀ x c, X.env.cells.lookup x = some c → c ≠ b) ∧ ∀ p ∈ X.pn ++ pins, p.1 ≠ b) : Inv X pins σ H' s' := by
  obtain ⟨h', g', d', t', o'⟩ := s'
  have e : o' = s.os := ho
  subst e
  exact I.call (g' := g') (t' := t') (d' := d') u hok hg hch
end

abbrev XK := Value → Option Addr → Hp → Prop
abbrev St := List (Option V)
abbrev VK := V → Hp → Prop
abbrev TE := St → Hp → VK → Prop
abbrev TT := St → Hp → (Bool → Hp → Prop) → Prop
abbrev TA := St → Hp → (List V → Hp → Prop) → Prop
structure Ends where
  nx : St → Hp → Prop
  rt : VK
  bk : St → Hp → Prop := fun _ _ => False
  ct : St → Hp → Prop := fun _ _ => False
abbrev TS := Ends → St → Hp → Prop

def EP (X : Cx) (pins : List (Addr × Obj)) (σ : St) (Q : VK) (u : Value) (s' : Shared) : Prop := ∃ v H', Inv X pins σ H' s' ∧ RelV v u ∧ Q v H'
def TP (X : Cx) (pins : List (Addr × Obj)) (σ : St) (Q : Bool → Hp → Prop) (b : Bool) (s' : Shared) : Prop := ∃ H', Inv X pins σ H' s' ∧ Q b H'
def AP (X : Cx) (pins : List (Addr × Obj)) (σ : St) (Q : List V → Hp → Prop) (us : List Value) (s' : Shared) : Prop := ∃ vs H', Inv X pins σ H' s' ∧ Vals vs us ∧ Q vs H'
def SP (X : Cx) (pins : List (Addr × Obj)) (D : Ends) (f : Flow) (s' : Shared) : Prop :=
  match f with
  | .next => ∃ σ' H', Inv X pins σ' H' s' ∧ D.nx σ' H'
  | .brk => ∃ σ' H', Inv X pins σ' H' s' ∧ D.bk σ' H'
  | .cont => ∃ σ' H', Inv X pins σ' H' s' ∧ D.ct σ' H'
  | .ret u => ∃ v σ' H', Inv X pins σ' H' s' ∧ RelV v u ∧ D.rt v H'

def PE (X : Cx) (e : Expr) (t : TE) : Prop :=
  ∀ (pins : List (Addr × Obj)) (s : Shared) (σ : St) (H : Hp) (Q : VK), Inv X pins σ H s → t σ H Q → wpAny (model X.prog X.w) X.A (eval e X.env) (EP X pins σ Q) X.xe s
def PT (X : Cx) (e : Expr) (t : TT) : Prop :=
  ∀ (pins : List (Addr × Obj)) (s : Shared) (σ : St) (H : Hp) (Q : Bool → Hp → Prop), Inv X pins σ H s → t σ H Q → wpAny (model X.prog X.w) X.A (isTrue e X.env (eval e X.env)) (TP X pins σ Q) X.xe s
def PW (X : Cx) (e : Expr) (t : TT) : Prop :=
  ∀ (whole : Sem Value) (pins : List (Addr × Obj)) (s : Shared) (σ : St) (H : Hp) (Q : Bool → Hp → Prop), Inv X pins σ H s → t σ H Q → wpAny (model X.prog X.w) X.A (isTrue e X.env whole) (TP X pins σ Q) X.xe s
theorem PW.pt {X : Cx} {e : Expr} {t : TT} (h : PW X e t) : PT X e t := h _
def PA (X : Cx) (es : List Expr) (t : TA) : Prop :=
  ∀ (pos : Pos) (pins : List (Addr × Obj)) (s : Shared) (σ : St) (H : Hp) (Q : List V → Hp → Prop), Inv X pins σ H s → t σ H Q → wpAny (model X.prog X.w) X.A (spliced (backTo pos (starEach es X.env))) (AP X pins σ Q) X.xe s
def PS (X : Cx) (st : Stmt) (t : TS) : Prop :=
  ∀ (pins : List (Addr × Obj)) (s : Shared) (σ : St) (H : Hp) (D : Ends), Inv X pins σ H s → t D σ H → wpAny (model X.prog X.w) X.A (exec st X.env) (SP X pins D) X.xe s
def PSs (X : Cx) (st : List Stmt) (t : TS) : Prop :=
  ∀ (pins : List (Addr × Obj)) (s : Shared) (σ : St) (H : Hp) (D : Ends), Inv X pins σ H s → t D σ H → wpAny (model X.prog X.w) X.A (execs st X.env) (SP X pins D) X.xe s
theorem thn {α : Type} {t : Sem α} {Q Q' : α → Shared → Prop} {M : Model} {A : Around} {E : Value → Shared → Prop} {s : Shared} (h : wpAny M A t Q E s) (hQ : ∀ a s, Q a s → Q' a s) : wpAny M A t Q' E s := wpAny_mono h hQ fun _ _ x => x
end L2

namespace L2
open PySem PySem.Spec PyProof.Rows
section
variable {X : Cx}

theorem bin {a b : Expr} {ta tb : TE} (ha : PE X a ta) (hb : PE X b tb) {pins : List (Addr × Obj)} {s : Shared} {σ : St} {H : Hp} {R : V → V → Hp → Prop} (I : Inv X pins σ H s) (h : ta σ H fun x H1 => tb σ H1 fun y H2 => R x y H2)
    {α : Type} {Q : α → Shared → Prop} {f : Value → Value → Sem α}
    (hf : ∀ v u s2 x y H2, Inv X pins σ H2 s2 → RelV x v → RelV y u → R x y H2 → wpAny (model X.prog X.w) X.A (f v u) Q X.xe s2) :
    wpAny (model X.prog X.w) X.A (eval a X.env) (fun v s₁ => wpAny (model X.prog X.w) X.A (eval b X.env) (fun u s₂ => wpAny (model X.prog X.w) X.A (f v u) Q X.xe s₂) X.xe s₁) X.xe s := by
  refine thn (ha pins s σ H _ I h) fun v s1 ⟨x, H1, I1, r1, q1⟩ => ?_
  refine thn (hb pins s1 σ H1 _ I1 q1) fun u s2 ⟨y, H2, I2, r2, q2⟩ => ?_
  exact hf v u s2 x y H2 I2 r1 r2 q2

def tVar (i : Nat) : TE := fun σ H Q => ∃ v, σ[i]? = some (some v) ∧ Q v H
def tC (v : V) : TE := fun _ H Q => Q v H
theorem pe_var {i : Nat} {x : Str} {pos : Pos} (hN : X.N[i]? = some x) (hv : Vis X.env.scope x) (hd : (x == ("__debug__" : Str)) = false := by decide) (hcd : (x == ("__classdict__" : Str)) = false := by decide) : PE X (.Name x pos) (tVar i) := by
  intro pins s σ H Q I h
  obtain ⟨v, e, h⟩ := h
  obtain ⟨m, hn, hl⟩ := I.loc
  obtain ⟨u, r, l⟩ := hl i x v hN e hv
  have fin : EP X pins σ Q u s := ⟨v, H, I, r, h⟩
  rcases l with ⟨hk, hm⟩ | ⟨hk, c, hc, hcell⟩
  · exact wpAny_Name (wpAny_loadName_local I.ok.kind hk hn hm fin) hd
  · rcases hk with hk | hk
    · exact wpAny_Name (wpAny_loadName_cell I.ok.kind hk hc hcell fin) hd
    · exact wpAny_Name (wpAny_loadName_free I.ok.kind hk hc hcell fin hcd) hd
theorem pe_int {i j pos} : PE X (.Constant (.int i) j pos) (tC (.int i)) := fun _ _ _ H _ I h => wpAny_Constant_int ⟨.int i, H, I.tok _, ⟨_, rfl⟩, h⟩
theorem pe_bl {b j pos} : PE X (.Constant (.bool b) j pos) (tC (.bl b)) := fun _ _ _ H _ I h => Constant_bool ⟨.bl b, H, I, rfl, h⟩
theorem pe_non {j pos} : PE X (.Constant .none j pos) (tC .non) := fun _ _ _ H _ I h => Constant_none ⟨.non, H, I, rfl, h⟩
theorem pe_str {x j pos} : PE X (.Constant (.str x) j pos) (tC (.str x)) := fun _ _ _ H _ I h => Calls.Constant_str ⟨.str x, H, I.tok _, ⟨_, rfl⟩, h⟩

def Gl (X : Cx) (x : Str) : Prop := X.env.kindOf x = some .globalImplicit
theorem ld_glob {E : Value → Shared → Prop} {pins : List (Addr × Obj)} {s : Shared} {σ : St} {H : Hp} {x : Str} {u : Value} {pos : Pos} {Q : Value → Shared → Prop} (I : Inv X pins σ H s) (hg : Gl X x) (hm : X.mg x = some u) (h : Q u s)
    (hd : (x == ("__debug__" : Str)) = false := by decide) : wpAny (model X.prog X.w) X.A (eval (.Name x pos) X.env) Q E s :=
  Calls.Name_function_global I.ok.kind hg (Calls.loadGlobal_global (by rw [I.ok.glob]; exact I.mod.glob.keeps I.bk) hm h) hd
theorem ld_blt {E : Value → Shared → Prop} {pins : List (Addr × Obj)} {s : Shared} {σ : St} {H : Hp} {x : Str} {u : Value} {pos : Pos} {Q : Value → Shared → Prop} (I : Inv X pins σ H s) (hg : Gl X x) (hm : X.mg x = none) (hv : bootBuiltins x = some u) (h : Q u s)
    (hn : x ≠ "__name__" := by decide) (hd : (x == ("__debug__" : Str)) = false := by decide) : wpAny (model X.prog X.w) X.A (eval (.Name x pos) X.env) Q E s := by
  obtain ⟨mb, h1, h2⟩ := I.mod.blt
  exact Calls.Name_function_global I.ok.kind hg (Calls.loadGlobal_builtin (by rw [I.ok.glob]; exact I.mod.glob.keeps I.bk) hm (by rw [I.ok.blt]; exact h1.keeps I.bk) ((h2 x hn).trans hv) h) hd
theorem pe_glob {x : Str} {v : V} {u : Value} {pos : Pos} (hg : Gl X x) (hm : X.mg x = some u) (r : RelV v u) (hd : (x == ("__debug__" : Str)) = false := by decide) : PE X (.Name x pos) (tC v) :=
  fun _ _ _ H _ I h => ld_glob I hg hm ⟨v, H, I, r, h⟩ hd
theorem pe_bltn {x : Str} {v : V} {u : Value} {pos : Pos} (hg : Gl X x) (hm : X.mg x = none) (hv : bootBuiltins x = some u) (r : RelV v u) (hn : x ≠ "__name__" := by decide) (hd : (x == ("__debug__" : Str)) = false := by decide) : PE X (.Name x pos) (tC v) :=
  fun _ _ _ H _ I h => ld_blt I hg hm hv ⟨v, H, I, r, h⟩ hn hd

variable {a b : Expr} {ta tb : TE} {pos : Pos}
def PC (X : Cx) (op : CmpOp) (a b : Expr) (t : TE) : Prop :=
  ∀ (pins : List (Addr × Obj)) (s : Shared) (σ : St) (H : Hp) (Q : VK), Inv X pins σ H s → t σ H Q →
    wpAny (model X.prog X.w) X.A (eval a X.env) (fun v s₁ => wpAny (model X.prog X.w) X.A (eval b X.env) (fun u s₂ => wpAny (model X.prog X.w) X.A (compareOp op v u) (EP X pins σ Q) X.xe s₂) X.xe s₁) X.xe s
theorem nobehind (b : Expr) {op : CmpOp} (h : op ≠ .In) (h2 : op ≠ .NotIn) : behindInMarks op b = false := by
  have e1 : (op == CmpOp.In) = false := by cases op <;> first | rfl | exact absurd rfl h
  have e2 : (op == CmpOp.NotIn) = false := by cases op <;> first | rfl | exact absurd rfl h2
  cases b <;> simp [behindInMarks, e1, e2]
def tIsN (ta : TE) : TE := fun σ H Q => ta σ H fun x H1 => Q (.bl (decide (x = .non))) H1
theorem RelV.none_iff {x : V} {v : Value} (r : RelV x v) : (v == Value.none) = decide (x = .non) := by
  cases x with
  | non => cases r; rfl
  | bl _ => cases r; rfl
  | int _ => obtain ⟨t, rfl⟩ := r; rfl
  | str _ => obtain ⟨t, rfl⟩ := r; rfl
  | byt _ => obtain ⟨t, rfl⟩ := r; rfl
  | flt _ => obtain ⟨t, rfl⟩ := r; rfl
  | ref _ => cases r; rfl
  | ty _ => cases r; rfl
theorem pc_isN {j pos'} (ha : PE X a ta) : PC X .Is a (.Constant .none j pos') (tIsN ta) := by
  intro pins s σ H Q I h
  refine thn (ha pins s σ H _ I h) fun v s1 ⟨x, H1, I1, r1, q1⟩ => ?_
  exact Constant_none (is_none_gen ⟨.bl _, H1, I1, by rw [r1.none_iff]; rfl, q1⟩)
def tB (t : TE) : TT := fun σ H Q => t σ H fun x H1 => ∃ c, x = .bl c ∧ Q c H1
theorem pt_cmp {op : CmpOp} {t : TE} (h : PC X op a b t) (h1 : behindInMarks op b = false := by first | exact nobehind _ (by decide) (by decide) | rfl) : PT X (.Compare a [op] [b] pos) (tB t) := by
  intro pins s σ H Q I hw
  refine wpAny_isTrue_Compare1 (thn (h pins s σ H _ I hw) fun v s1 h1 => thn h1 fun u s2 h2 => thn h2 fun c s3 ⟨x, H1, I1, r1, q1⟩ => ?_) h1
  obtain ⟨d, rfl, q⟩ := q1
  cases r1
  exact wpAny_truthy_bool ⟨H1, I1, q⟩
theorem pt_val {e : Expr} {t : TE} (h : PE X e t) (he : ∀ whole, isTrue e X.env whole = (do let v ← whole; standAt e.pos; holding [v] (truthy v)) := by intro _; rfl) : PT X e (tB t) := by
  intro pins s σ H Q I hw
  refine isTrue_plain (thn (h pins s σ H _ I hw) fun v s1 ⟨x, H1, I1, r1, q1⟩ => ?_) (he _)
  obtain ⟨d, rfl, q⟩ := q1
  cases r1
  exact wpAny_truthy_bool ⟨H1, I1, q⟩

variable {tA tB' : TT} {rest : List Expr}
def tAnd (t u : TT) : TT := fun σ H Q => t σ H fun c H1 => if c = true then u σ H1 Q else Q false H1
def tOr (t u : TT) : TT := fun σ H Q => t σ H fun c H1 => if c = true then Q true H1 else u σ H1 Q
def tNot (t : TT) : TT := fun σ H Q => t σ H fun c H1 => Q (!c) H1
theorem pw_and1 (ha : PT X a tA) : PW X (.BoolOp .And [a] pos) tA := by
  intro wh pins s σ H Q I h
  refine isTrue_and (thn (ha pins s σ H Q I h) fun c s1 e => ?_)
  cases c with
  | true => exact isTrue_and_nil e
  | false => exact e
theorem pw_or1 (ha : PT X a tA) : PW X (.BoolOp .Or [a] pos) tA := by
  intro wh pins s σ H Q I h
  refine isTrue_or (thn (ha pins s σ H Q I h) fun c s1 e => ?_)
  cases c with
  | false => exact isTrue_or_nil e
  | true => exact e
theorem pw_and (ha : PT X a tA) (hb : PW X (.BoolOp .And (b :: rest) pos) tB') : PW X (.BoolOp .And (a :: b :: rest) pos) (tAnd tA tB') := by
  intro wh pins s σ H Q I h
  refine isTrue_and (thn (ha pins s σ H _ I h) fun c s1 ⟨H1, I1, q1⟩ => ?_)
  cases c with
  | true => exact hb wh pins s1 σ H1 Q I1 q1
  | false => exact ⟨H1, I1, q1⟩
theorem pw_or (ha : PT X a tA) (hb : PW X (.BoolOp .Or (b :: rest) pos) tB') : PW X (.BoolOp .Or (a :: b :: rest) pos) (tOr tA tB') := by
  intro wh pins s σ H Q I h
  refine isTrue_or (thn (ha pins s σ H _ I h) fun c s1 ⟨H1, I1, q1⟩ => ?_)
  cases c with
  | true => exact ⟨H1, I1, q1⟩
  | false => exact hb wh pins s1 σ H1 Q I1 q1
theorem pt_not (ha : PT X a tA) : PT X (.UnaryOp .Not a pos) (tNot tA) := by
  intro pins s σ H Q I h
  exact isTrue_not (ha pins s σ H (fun c H1 => Q (!c) H1) I h)
def tAndV (ta tb : TE) : TE := fun σ H Q => ta σ H fun x H1 => ∃ c, x = .bl c ∧ if c = true then tb σ H1 Q else Q (.bl false) H1
def tOrV (ta tb : TE) : TE := fun σ H Q => ta σ H fun x H1 => ∃ c, x = .bl c ∧ if c = true then Q (.bl true) H1 else tb σ H1 Q
def tNotV (ta : TE) : TE := fun σ H Q => ta σ H fun x H1 => ∃ c, x = .bl c ∧ Q (.bl (!c)) H1
theorem pe_one {op} {t : TE} (h : PE X a t) : PE X (.BoolOp op [a] pos) t := fun pins s σ H Q I hw => BoolOp_one (h pins s σ H Q I hw)
theorem pe_and (ha : PE X a ta) (hb : PE X (.BoolOp .And (b :: rest) pos) tb) : PE X (.BoolOp .And (a :: b :: rest) pos) (tAndV ta tb) := by
  intro pins s σ H Q I h
  refine BoolOp_and (thn (ha pins s σ H _ I h) fun v s1 ⟨x, H1, I1, r1, q1⟩ => ?_)
  obtain ⟨c, rfl, q1⟩ := q1
  cases r1
  refine wpAny_truthy_bool ?_
  cases c with
  | true => exact hb pins s1 σ H1 Q I1 q1
  | false => exact ⟨.bl false, H1, I1, rfl, q1⟩
theorem pe_or (ha : PE X a ta) (hb : PE X (.BoolOp .Or (b :: rest) pos) tb) : PE X (.BoolOp .Or (a :: b :: rest) pos) (tOrV ta tb) := by
  intro pins s σ H Q I h
  refine BoolOp_or (thn (ha pins s σ H _ I h) fun v s1 ⟨x, H1, I1, r1, q1⟩ => ?_)
  obtain ⟨c, rfl, q1⟩ := q1
  cases r1
  refine wpAny_truthy_bool ?_
  cases c with
  | false => exact hb pins s1 σ H1 Q I1 q1
  | true => exact ⟨.bl true, H1, I1, rfl, q1⟩
theorem pe_not (ha : PE X a ta) : PE X (.UnaryOp .Not a pos) (tNotV ta) := by
  intro pins s σ H Q I h
  refine UnaryOp_ (thn (ha pins s σ H _ I h) fun v s1 ⟨x, H1, I1, r1, q1⟩ => ?_)
  obtain ⟨c, rfl, q1⟩ := q1
  cases r1
  exact not_of (wpAny_truthy_bool ⟨.bl (!c), H1, I1, rfl, q1⟩)
def tIf (t : TT) (ta tb : TE) : TE := fun σ H Q => t σ H fun c H1 => if c = true then ta σ H1 Q else tb σ H1 Q
theorem pe_ifExp {c : Expr} (hc : PT X c tA) (ha : PE X a ta) (hb : PE X b tb) : PE X (.IfExp c a b pos) (tIf tA ta tb) := by
  intro pins s σ H Q I h
  refine wpAny_IfExp (thn (hc pins s σ H _ I h) fun d s1 ⟨H1, I1, q1⟩ => ?_)
  cases d with
  | true => exact ha pins s1 σ H1 Q I1 q1
  | false => exact hb pins s1 σ H1 Q I1 q1
end
end L2

namespace L2
open PySem PySem.Spec PyProof.Rows

def SqL (K : PySem.W.Frag) (H : Hp) (a : Addr) (xs : List V) : Prop :=
  Rd H a (.lst xs) ∨
    ∃ (o : Obj) (its : Array Value) (n : Nat), K.lookup a = some o ∧ o.cls = .type "list" ∧ o.dict = none ∧ o.data = .seq its n ∧ its.size ≤ sizeLine ∧ Vals xs its.toList
def SqT (K : PySem.W.Frag) (H : Hp) (a : Addr) (xs : List V) : Prop :=
  Rd H a (.tup xs) ∨
    ∃ (o : Obj) (its : Array Value) (n : Nat), K.lookup a = some o ∧ o.cls = .type "tuple" ∧ o.data = .seq its n ∧ its.size ≤ sizeLine ∧ Vals xs its.toList
def absV : Value → Option V
  | .none => some .non
  | .bool b => some (.bl b)
  | .int i _ => some (.int i)
  | .str x _ => some (.str x)
  | .bytes b _ => some (.byt b)
  | .float b _ => some (.flt b)
  | .ref a => some (.ref a)
  | .type n => some (.ty n)
  | _ => none
theorem RelV.abs {x : V} {u : Value} (r : RelV x u) : absV u = some x := by
  cases x with
  | non => cases r; rfl
  | bl _ => cases r; rfl
  | int _ => obtain ⟨t, rfl⟩ := r; rfl
  | str _ => obtain ⟨t, rfl⟩ := r; rfl
  | byt _ => obtain ⟨t, rfl⟩ := r; rfl
  | flt _ => obtain ⟨t, rfl⟩ := r; rfl
  | ref _ => cases r; rfl
  | ty _ => cases r; rfl
theorem RelV.inj {x y : V} {u : Value} (r : RelV x u) (q : RelV y u) : x = y := Option.some.inj (r.abs.symm.trans q.abs)
theorem Vals.inj : ∀ {xs ys : List V} {us : List Value}, Vals xs us → Vals ys us → xs = ys
  | _, _, _, .nil, .nil => rfl
  | _, _, _, .cons r t, .cons r' t' => by rw [r.inj r', Vals.inj t t']
section
variable {X : Cx} {pins : List (Addr × Obj)} {σ : St} {H : Hp} {s : Shared} {a : Addr} {xs ys : List V}
theorem SqL.of {K : PySem.W.Frag} (h : H a = some (.lst xs)) : SqL K H a xs := .inl (.inl h)
theorem SqT.of {K : PySem.W.Frag} (h : H a = some (.tup xs)) : SqT K H a xs := .inl (.inl h)
theorem Inv.list (I : Inv X pins σ H s) (h : SqL X.K H a xs) : ∃ its : List Value, Vals xs its ∧ PlainL s.heap a its.toArray ∧ xs.length ≤ sizeLine := by
  rcases h with h | ⟨o, its, n, hk, hc, hd, hs, hz, r⟩
  · obtain ⟨z, its, n, r, e⟩ := h.ok I.hok
    exact ⟨its, r, ⟨_, n, e, rfl, rfl, rfl⟩, z⟩
  · refine ⟨its.toList, r, ⟨o, n, I.kIn a o hk, hc, hd, by simpa using hs⟩, ?_⟩
    have e := r.length
    simp only [Array.length_toList] at e
    omega
theorem Inv.tuple (I : Inv X pins σ H s) (h : SqT X.K H a xs) : ∃ its : List Value, Vals xs its ∧ IsTup s.heap a its.toArray ∧ xs.length ≤ sizeLine := by
  rcases h with h | ⟨o, its, n, hk, hc, hs, hz, r⟩
  · obtain ⟨z, its, r, p⟩ := h.ok I.hok
    exact ⟨its, r, p, z⟩
  · refine ⟨its.toList, r, ⟨o, I.kIn a o hk, hc, n, by simpa using hs⟩, ?_⟩
    have e := r.length
    simp only [Array.length_toList] at e
    omega
theorem Inv.list_inj (I : Inv X pins σ H s) (h : SqL X.K H a xs) (h' : SqL X.K H a ys) : xs = ys := by
  obtain ⟨its, r, ⟨o, n, e, _, _, d⟩, _⟩ := I.list h
  obtain ⟨its', r', ⟨o', n', e', _, _, d'⟩, _⟩ := I.list h'
  rw [e] at e'; cases e'
  rw [d] at d'
  injection d' with d1 _
  have : its = its' := by simpa using congrArg Array.toList d1
  subst this
  exact r.inj r'
end

abbrev Cx.wish (X : Cx) (E : Value → Shared → Prop) : Cx := { X with xe := E }
abbrev Cx.nox (X : Cx) : Cx := X.wish fun _ _ => False
theorem Cx.Ok.wish {X : Cx} (ok : X.Ok) (E : Value → Shared → Prop) : (X.wish E).Ok :=
  ⟨ok.mod, ok.kind, ok.glob, ok.blt, ok.above, ok.inj, ok.has, ok.cab, ok.hd, ok.frames, ok.stk, ok.exf, ok.bs, ok.bsz, ok.noex, ok.exfs, ok.funs, ok.frf⟩
theorem Cx.Ok.unwish {X : Cx} {E : Value → Shared → Prop} (ok : (X.wish E).Ok) : X.Ok :=
  ⟨ok.mod, ok.kind, ok.glob, ok.blt, ok.above, ok.inj, ok.has, ok.cab, ok.hd, ok.frames, ok.stk, ok.exf, ok.bs, ok.bsz, ok.noex, ok.exfs, ok.funs, ok.frf⟩
section
variable {X : Cx} {pins : List (Addr × Obj)} {σ : St} {H : Hp} {s : Shared} {E : Value → Shared → Prop}
theorem Inv.wish (I : Inv X pins σ H s) (E : Value → Shared → Prop) : Inv (X.wish E) pins σ H s := ⟨I.ok.wish E, I.os, I.bare, I.base, I.loc, I.cell, I.free, I.freeC, I.pin, I.hok, I.len⟩
theorem Inv.unwish (I : Inv (X.wish E) pins σ H s) : Inv X pins σ H s := ⟨I.ok.unwish, I.os, I.bare, I.base, I.loc, I.cell, I.free, I.freeC, I.pin, I.hok, I.len⟩
theorem SP.unwish {D : Ends} {f : Flow} {s' : Shared} (h : SP (X.wish E) pins D f s') : SP X pins D f s' := by
  cases f with
  | next => obtain ⟨σ', H', I, q⟩ := h; exact ⟨σ', H', I.unwish, q⟩
  | brk => obtain ⟨σ', H', I, q⟩ := h; exact ⟨σ', H', I.unwish, q⟩
  | cont => obtain ⟨σ', H', I, q⟩ := h; exact ⟨σ', H', I.unwish, q⟩
  | ret u => obtain ⟨v, σ', H', I, r, q⟩ := h; exact ⟨v, σ', H', I.unwish, r, q⟩
theorem PE.nox {e : Expr} {t : TE} (h : PE X.nox e t) : PE X e t := fun pins s σ H Q I hw =>
  wpAny_mono (h pins s σ H Q (I.wish _) hw) (fun _ _ ⟨v, H', I', r, q⟩ => ⟨v, H', I'.unwish, r, q⟩) fun _ _ z => False.elim z
theorem PT.nox {e : Expr} {t : TT} (h : PT X.nox e t) : PT X e t := fun pins s σ H Q I hw =>
  wpAny_mono (h pins s σ H Q (I.wish _) hw) (fun _ _ ⟨H', I', q⟩ => ⟨H', I'.unwish, q⟩) fun _ _ z => False.elim z
theorem PSs.nox {st : List Stmt} {t : TS} (h : PSs X.nox st t) : PSs X st t := fun pins s σ H D I hw =>
  wpAny_mono (h pins s σ H D (I.wish _) hw) (fun _ _ q => q.unwish) fun _ _ z => False.elim z
end

section
variable {X : Cx} {st : Stmt} {rest : List Stmt} {t u : TS} {e : Expr} {te : TE} {pos : Pos}
def tNext : TS := fun D σ H => D.nx σ H
def tSeq (t u : TS) : TS := fun D σ H => t { D with nx := u D } σ H
theorem pss_nil : PSs X [] tNext := fun _ _ σ H _ I h => wpAny_execs_nil ⟨σ, H, I, h⟩
theorem pss_cons (h1 : PS X st t) (h2 : PSs X rest u) : PSs X (st :: rest) (tSeq t u) := by
  intro pins s σ H D I h
  refine wpAny_execs_cons (thn (h1 pins s σ H { D with nx := u D } I h) fun f s1 q => ?_)
  cases f with
  | next =>
    obtain ⟨σ', H', I', q⟩ := q
    exact h2 pins s1 σ' H' D I' q
  | ret v => exact q
  | brk => exact q
  | cont => exact q
theorem pss_one (h1 : PS X st t) : PSs X [st] t := by
  intro pins s σ H D I h
  refine wpAny_execs_cons (thn (h1 pins s σ H D I h) fun f s1 q => ?_)
  cases f with
  | next => exact wpAny_execs_nil q
  | ret v => exact q
  | brk => exact q
  | cont => exact q
theorem Inv.quiet {pins : List (Addr × Obj)} {σ : St} {H : Hp} {s : Shared} (I : Inv X pins σ H s) : interactive X.env = false := by simp [interactive, I.ok.kind]
def tDrop (te : TE) : TS := fun D σ H => te σ H fun _ H1 => D.nx σ H1
theorem ps_expr (he : PE X e te) (hs : swapsWith e none pos.line X.env = pure false := by rfl) : PS X (.Expr e pos) (tDrop te) := by
  intro pins s σ H D I h
  exact wpAny_Expr_any (thn (he pins s σ H _ I h) fun v s1 ⟨x, H1, I1, r1, q1⟩ => ⟨σ, H1, I1, q1⟩) I.quiet hs
def tRet (te : TE) : TS := fun D σ H => te σ H D.rt
theorem ps_ret (he : PE X e te) : PS X (.Return (some e) pos) (tRet te) := by
  intro pins s σ H D I h
  exact wpAny_Return_some (thn (he pins s σ H _ I h) fun v s1 ⟨x, H1, I1, r1, q1⟩ => ⟨x, σ, H1, I1, r1, q1⟩)
def tIfS (c : TT) (t u : TS) : TS := fun D σ H => c σ H fun b H1 => if b = true then t D σ H1 else u D σ H1
theorem ps_if {c : Expr} {a b : List Stmt} {tc : TT} (hc : PT X c tc) (ha : PSs X a t) (hb : PSs X b u) : PS X (.If c a b pos) (tIfS tc t u) := by
  intro pins s σ H D I h
  refine wpAny_If (thn (hc pins s σ H _ I h) fun d s1 ⟨H1, I1, q1⟩ => ?_)
  cases d with
  | true => exact ha pins s1 σ H1 D I1 q1
  | false => exact hb pins s1 σ H1 D I1 q1
def tNever : TS := fun _ _ _ => False
theorem ps_never : PS X st tNever := fun _ _ _ _ _ _ h => h.elim
end

abbrev TG := V → St → Hp → (St → Hp → Prop) → Prop
abbrev TGs := List V → St → Hp → (St → Hp → Prop) → Prop
def PG (X : Cx) (target : Expr) (t : TG) : Prop :=
  ∀ (pins : List (Addr × Obj)) (s : Shared) (σ : St) (H : Hp) (v : V) (u : Value) (Q : St → Hp → Prop), Inv X pins σ H s → RelV v u → t v σ H Q →
    wpAny (model X.prog X.w) X.A (assign target X.env u) (fun _ s' => ∃ σ' H', Inv X pins σ' H' s' ∧ Q σ' H') X.xe s
def PGs (X : Cx) (ts : List Expr) (t : TGs) : Prop :=
  ∀ (pins : List (Addr × Obj)) (s : Shared) (σ : St) (H : Hp) (vs : List V) (us : List Value) (Q : St → Hp → Prop), Inv X pins σ H s → Vals vs us → t vs σ H Q →
    wpAny (model X.prog X.w) X.A (assignInOrder ((assignEach ts X.env).map (·.2)) us) (fun _ s' => ∃ σ' H', Inv X pins σ' H' s' ∧ Q σ' H') X.xe s
abbrev TSet := V → V → V → Hp → (Hp → Prop) → Prop
def PSet (X : Cx) (t : TSet) : Prop :=
  ∀ (pins : List (Addr × Obj)) (s : Shared) (σ : St) (H : Hp) (o i v : V) (ov iv u : Value) (Q : Hp → Prop), Inv X pins σ H s → RelV o ov → RelV i iv → RelV v u → t o i v H Q →
    wpAny (model X.prog X.w) X.A (setItem ov iv u) (fun _ s' => ∃ H', Inv X pins σ H' s' ∧ Q H') X.xe s
section
variable {X : Cx} {pos : Pos}
def gName (i : Nat) : TG := fun v σ H Q => Q (σ.set i (some v)) H
theorem pg_name {i : Nat} {x : Str} (hN : X.N.Nodup) (hi : X.N[i]? = some x) (hx : Loc X.env.scope x) (hf : X.fn x = true ∨ X.env.scope.names.lookup x = some .local := by first | exact .inl rfl | exact .inr rfl | assumption) : PG X (.Name x pos) (gName i) := by
  intro pins s σ H v u Q I r h
  exact wpAny_assign_Name (store_ok I hN hi hx r (fun s' I' => ⟨_, H, I', h⟩) hf)
def gNil : TGs := fun vs σ H Q => vs = [] ∧ Q σ H
def gCons (t : TG) (u : TGs) : TGs := fun vs σ H Q => ∃ v r, vs = v :: r ∧ t v σ H fun σ' H' => u r σ' H' Q
theorem pgs_nil : PGs X [] gNil := by
  intro pins s σ H vs us Q I r h
  obtain ⟨e, h⟩ := h
  subst e
  cases r
  exact assignInOrder_nil ⟨σ, H, I, h⟩
theorem pgs_cons {e : Expr} {es : List Expr} {t : TG} {u : TGs} (h1 : PG X e t) (h2 : PGs X es u)
    (hs : (assignEach (e :: es) X.env).map (·.2) = assign e X.env :: (assignEach es X.env).map (·.2) := by rfl) : PGs X (e :: es) (gCons t u) := by
  intro pins s σ H vs us Q I r h
  obtain ⟨v, vr, e1, h⟩ := h
  subst e1
  cases r with
  | cons r rr =>
    rw [hs]
    refine assignInOrder_cons (thn (h1 pins s σ H _ _ _ I r h) fun _ s1 ⟨σ1, H1, I1, q1⟩ => ?_)
    exact h2 pins s1 σ1 H1 _ _ Q I1 rr q1
def gTup (K : PySem.W.Frag) (n : Nat) (t : TGs) : TG := fun v σ H Q => ∃ a xs, v = .ref a ∧ SqT K H a xs ∧ xs.length = n ∧ t xs σ H Q
theorem pg_tup {es : List Expr} {k : Nat} {t : TGs} {n : Nat} (hc : X.calm = true) (h : PGs X es t)
    (hn : (assignEach es X.env).length = n := by rfl) (hst : (assignEach es X.env).findIdx? (·.1) = none := by rfl) : PG X (.Tuple es k pos) (gTup X.K n t) := by
  intro pins s σ H v u Q I r hw
  obtain ⟨a, xs, e1, hq, hl, hw⟩ := hw
  subst e1
  cases r
  obtain ⟨its, rv, ht, hz⟩ := I.tuple hq
  refine assign_Tuple_tuple (I.ok.hd hc) ht (by simp [hn, ← hl, rv.length]) hst fun h' hx => ?_
  have I1 : Inv X pins σ H { s with heap := h' } := I.kept (t' := s.toks) fun b o e => hx b o (Nat.ne_of_lt (Heap.lt_size e)) e
  exact h pins _ σ H xs _ Q I1 (by simpa using rv) hw
def gSub (to ti : TE) (t : TSet) : TG := fun v σ H Q => to σ H fun o H1 => ti σ H1 fun i H2 => t o i v H2 fun H3 => Q σ H3
theorem pg_sub {o i : Expr} {to ti : TE} {t : TSet} (ho : PE X o to) (hi : PE X i ti) (hs : PSet X t)
    (ha : ∀ v, assign (.Subscript o i pos) X.env v = (do
      let ov ← holding [v] (eval o X.env)
      let iv ← holding [v, ov] (eval i X.env)
      standAt pos
      holding [v, ov, iv] (setItem ov iv v)
      release [v, ov, iv] []) := by intro _; rfl) : PG X (.Subscript o i pos) (gSub to ti t) := by
  intro pins s σ H v u Q I r h
  rw [ha]
  refine wpAny_bind (wpAny_holding (thn (ho pins s σ H _ I h) fun ov s1 ⟨x, H1, I1, r1, q1⟩ => ?_))
  refine wpAny_bind (wpAny_holding (thn (hi pins s1 σ H1 _ I1 q1) fun iv s2 ⟨y, H2, I2, r2, q2⟩ => ?_))
  refine wpAny_bind (wpAny_standAt (wpAny_bind (wpAny_holding (thn (hs pins s2 σ H2 x y v ov iv u _ I2 r1 r2 r q2) fun _ s3 ⟨H3, I3, q3⟩ => ?_))))
  exact wpAny_release ⟨σ, H3, I3, q3⟩
def tAsg (te : TE) (g : TG) : TS := fun D σ H => te σ H fun x H1 => g x σ H1 D.nx
theorem ps_asg {tg e : Expr} {te : TE} {g : TG} (he : PE X e te) (hg : PG X tg g) (hs : swapsWithSole [tg] e pos.line X.env = pure false := by rfl) (hw : swappedStores [tg] e X.env = pure none := by rfl)
    (h1 : (assignEach [tg] X.env).map (·.2) = [assign tg X.env] := by rfl) : PS X (.Assign [tg] e pos) (tAsg te g) := by
  intro pins s σ H D I h
  refine wpAny_Assign_stores (thn (he pins s σ H _ I h) fun v s1 ⟨x, H1, I1, r1, q1⟩ => ?_) hs hw
  rw [h1]
  exact thn (hg pins s1 σ H1 x v _ I1 r1 q1) fun _ s2 q => q
theorem ps_set {i : Nat} {x : Str} {e : Expr} {te : TE} {pos' : Pos} (hN : X.N.Nodup) (hi : X.N[i]? = some x) (hx : Loc X.env.scope x) (he : PE X e te) (hs : swapsWith e (some (.Name x pos')) pos.line X.env = pure false := by rfl) (hf : X.fn x = true ∨ X.env.scope.names.lookup x = some .local := by first | exact .inl rfl | exact .inr rfl | assumption) :
    PS X (.Assign [.Name x pos'] e pos) (tAsg te (gName i)) := by
  intro pins s σ H D I h
  refine wpAny_Assign_Name (thn (he pins s σ H _ I h) fun v s1 ⟨y, H1, I1, r1, q1⟩ => ?_) hs
  exact store_ok I1 hN hi hx r1 (fun s2 I2 => ⟨_, H1, I2, q1⟩) hf
end

section
variable {X : Cx} {pos : Pos}
def tWhile (c : TT) (tb : TS) : TS := fun D σ H => ∃ W : Nat → St → Hp → Prop, (∃ m, W m σ H) ∧ ∀ m σ H, W m σ H →
  c σ H fun b H1 => if b = true then ∃ N : St → Hp → Prop, (∀ σ' H', N σ' H' → ∃ m', m' < m ∧ W m' σ' H') ∧ tb { D with nx := N, ct := N, bk := D.nx } σ H1 else D.nx σ H1
theorem ps_while {c : Expr} {body : List Stmt} {tc : TT} {tb : TS} (hp : PassesOwn (model X.prog X.w) X.A X.env X.xe) (hc : PT X c tc) (hb : PSs X body tb) : PS X (.While c body [] pos) (tWhile tc tb) := by
  intro pins s σ H D I h
  obtain ⟨W, ⟨m0, w0⟩, turn⟩ := h
  refine wpAny_While (codeAny_whileLoop (fun n s' => ∃ σ' H', Inv X pins σ' H' s' ∧ W n σ' H') ?_ m0 ⟨σ, H, I, w0⟩)
  rintro n s1 ⟨σ1, H1, I1, w1⟩
  refine wpAny_passesOwn hp (thn (hc pins s1 σ1 H1 _ I1 (turn n σ1 H1 w1)) fun b s2 ⟨H2, I2, q2⟩ => ?_)
  cases b with
  | true =>
    obtain ⟨N, hN, q2⟩ := q2
    rw [if_pos rfl]
    refine wpAny_passesOwn hp (thn (hb pins s2 σ1 H2 _ I2 q2) fun f s3 q3 => ?_)
    cases f with
    | next =>
      obtain ⟨σ3, H3, I3, n3⟩ := q3
      obtain ⟨m', hm, w3⟩ := hN σ3 H3 n3
      exact ⟨m', hm, σ3, H3, I3, w3⟩
    | cont =>
      obtain ⟨σ3, H3, I3, n3⟩ := q3
      obtain ⟨m', hm, w3⟩ := hN σ3 H3 n3
      exact ⟨m', hm, σ3, H3, I3, w3⟩
    | brk => exact q3
    | ret v => exact q3
  | false =>
    rw [if_neg Bool.false_ne_true]
    exact wpAny_execs_nil ⟨σ1, H2, I2, q2⟩
end

structure It where
  go : Nat → Hp → Prop
  yld : Nat → Hp → V → Hp → Prop
  stop : Nat → Hp → Prop
def FpOk (X : Cx) (pins : List (Addr × Obj)) (H : Hp) (b : Addr) : Prop :=
  H b = none ∧ b ≠ X.env.locals ∧ b ∉ X.fs ∧ (b ∈ X.ex ∨ X.s₀.heap.objs.size ≤ b) ∧ (∀ x c, X.env.cells.lookup x = some c → c ≠ b) ∧ ∀ p ∈ X.pn ++ pins, p.1 ≠ b
theorem Inv.fpOk {X : Cx} {pins : List (Addr × Obj)} {σ : St} {H H' : Hp} {s : Shared} {b : Addr} (I : Inv X pins σ H s) (hb : s.heap.objs.size ≤ b) (hn : H' b = none) : FpOk X pins H' b := by
  refine ⟨hn, Nat.ne_of_gt (Nat.lt_of_lt_of_le I.lt hb), I.nofs hb, .inr (Nat.le_trans I.sz hb), fun x c e z => ?_, fun p hp z => ?_⟩
  · obtain ⟨v, q⟩ := I.cell x c e
    exact absurd (Nat.lt_of_lt_of_le q.lt (by rw [z]; exact hb)) (Nat.lt_irrefl _)
  · exact absurd (Nat.lt_of_lt_of_le (Heap.lt_size (I.pin p hp).1) (by rw [z]; exact hb)) (Nat.lt_irrefl _)
structure Turn (P : Program) (w : World) (K : PySem.W.Frag) (tg : Expr) (J : It) (fp : List Addr) (it : Addr) (tn : Nat → Heap → Prop) : Prop where
  mem : it ∈ fp
  obj : ∀ i h, tn i h → ∀ b ∈ fp, ∃ o, h.get? b = some o ∧ ∀ v, o.data ≠ .cell v
  keep : ∀ i h h', tn i h → (∀ b ∈ fp, ∀ o, h.get? b = some o → h'.get? b = some o) → tn i h'
  item : ∀ (X : Cx), X.prog = P → X.w = w → X.K = K → X.calm = true → ∀ (i : Nat) (pins : List (Addr × Obj)) (s : Shared) (σ : St) (H : Hp) (E : Value → Shared → Prop), Inv X pins σ H s → (∀ b ∈ fp, FpOk X pins H b) → tn i s.heap → J.go i H →
    wpAny (model P w) X.A (pyNext (.ref it)) (fun r s1 => ∃ u, r = some u ∧
      wpAny (model P w) X.A (letOwnedTupleGo tg (.ref it) u) (fun _ s2 => ∃ x H', Inv X pins σ H' s2 ∧ RelV x u ∧ J.yld i H x H' ∧ tn (i + 1) s2.heap ∧ ∀ b ∈ fp, H' b = none) E s1) E s
  done : ∀ (X : Cx), X.prog = P → X.w = w → X.K = K → X.calm = true → ∀ (i : Nat) (pins : List (Addr × Obj)) (s : Shared) (σ : St) (H : Hp) (E : Value → Shared → Prop), Inv X pins σ H s → (∀ b ∈ fp, FpOk X pins H b) → tn i s.heap → J.stop i H →
    wpAny (model P w) X.A (pyNext (.ref it)) (fun r s1 => r = none ∧ Inv X pins σ H s1) E s
  self : ∀ (A : Around) (i : Nat) (s : Shared) (Q : Value → Shared → Prop) (E : Value → Shared → Prop), tn i s.heap → Q (.ref it) s → wpAny (model P w) A (pyIter (.ref it)) Q E s
abbrev TI := St → Hp → (It → Hp → Prop) → Prop
def PIE (X : Cx) (pins : List (Addr × Obj)) (σ : St) (tg : Expr) (R : It → Hp → Prop) (itv : Value) (s2 : Shared) : Prop :=
  ∃ (it : Addr) (fp : List Addr) (tn : Nat → Heap → Prop) (J : It) (H' : Hp), itv = .ref it ∧ Inv X pins σ H' s2 ∧ Turn X.prog X.w X.K tg J fp it tn ∧ tn 0 s2.heap ∧ (∀ b ∈ fp, FpOk X pins H' b) ∧ R J H'
def PI (X : Cx) (tg iter : Expr) (wi : TI) : Prop :=
  ∀ (pins : List (Addr × Obj)) (s : Shared) (σ : St) (H : Hp) (R : It → Hp → Prop), Inv X pins σ H s → wi σ H R →
    wpAny (model X.prog X.w) X.A (eval iter X.env) (fun v s1 => wpAny (model X.prog X.w) X.A (pyIter v) (PIE X pins σ tg R) X.xe s1) X.xe s

theorem go_of {M : Model} {A : Around} {E : Value → Shared → Prop} {s : Shared} {tg : Expr} {it : Addr} {u : Value} {o : Obj} {n : String} {vs : Array Value} {Q : Unit → Shared → Prop} (ho : s.heap.get? it = some o) (hc : o.cls = .type n) (hd : o.data = .fields vs)
    (hn : ["enumerate", "zip", "dict_itemiterator", "dict_reverseitemiterator", "odict_iterator", "itertools.zip_longest", "itertools.pairwise"].contains n = false) (hQ : Q () s) : wpAny M A (letOwnedTupleGo tg (.ref it) u) Q E s := by
  unfold letOwnedTupleGo
  cases tg <;> first
    | exact wpAny_pure hQ
    | (cases u <;> first
        | exact wpAny_pure hQ
        | (refine wpAny_bind (wpAny_load ho ?_)
           rw [hc, hd]
           show wpAny M A (if (["enumerate", "zip", "dict_itemiterator", "dict_reverseitemiterator", "odict_iterator", "itertools.zip_longest", "itertools.pairwise"].contains n && vs[0]? == some (rawInt _)) = true then _ else _) Q E s
           rw [if_neg (by intro h; rw [hn, Bool.false_and] at h; cases h)]
           exact wpAny_pure hQ))

def Itl (K : PySem.W.Frag) (a : Addr) : It :=
  ⟨fun i H => ∃ xs x, SqL K H a xs ∧ xs[i]? = some x, fun i H x H' => H' = H ∧ ∀ xs, SqL K H a xs → xs[i]? = some x, fun i H => ∃ xs, SqL K H a xs ∧ xs.length ≤ i⟩
def Itr (lo : Int) (n : Nat) : It := ⟨fun i _ => i < n, fun i H x H' => H' = H ∧ x = .int (lo + i), fun i _ => n ≤ i⟩
theorem turn_list {P : Program} {w : World} {K : PySem.W.Frag} {tg : Expr} (a it : Addr) : Turn P w K tg (Itl K a) [it] it (fun i h => h.IsListIter it a i) where
  mem := by simp
  obj := fun i h st b hb => by
    have e : b = it := by simpa using hb
    subst e
    obtain ⟨o, e, c, d⟩ := st
    exact ⟨o, e, fun v z => by rw [d] at z; cases z⟩
  keep := fun i h h' st k => st.at fun o e => k it (by simp) o e
  item := by
    intro X hP hw hK hc i pins s σ H E I hf st hg
    subst hP hw hK
    obtain ⟨xs, x, hq, hx⟩ := hg
    obtain ⟨its, rv, p, hz⟩ := I.list hq
    obtain ⟨u, hu, ru⟩ := rv.get hx
    obtain ⟨f0, f1, f2, f3, f4, f5⟩ := hf it (by simp)
    refine wpAny_pyNext_list_item st p.isList (x := u) (by simpa using hu) fun h' st' sb => ?_
    have I1 : Inv X pins σ H { s with heap := h' } := I.turned (t' := s.toks) (fun b o hb e => (sb.2 b hb).trans e) f0 f1 f3 f4 f5
    obtain ⟨o, e, c, d⟩ := id st'
    exact ⟨u, rfl, go_of (s := { s with heap := h' }) e c d (by decide) ⟨x, H, I1, ru, ⟨rfl, fun ys hy => by rw [I.list_inj hy hq]; exact hx⟩, st', fun b hb => (hf b hb).1⟩⟩
  done := by
    intro X hP hw hK hc i pins s σ H E I hf st hg
    subst hP hw hK
    obtain ⟨xs, hq, hx⟩ := hg
    obtain ⟨its, rv, p, hz⟩ := I.list hq
    obtain ⟨f0, f1, f2, f3, f4, f5⟩ := hf it (by simp)
    have hl := rv.length
    exact wpAny_pyNext_list_end (I.ok.hd hc) st p.isList (by simp; omega) fun h' eb => ⟨rfl, I.turned (t' := s.toks) (fun b o hb e => eb b o hb e) f0 f1 f3 f4 f5⟩
  self := fun _ _ _ _ _ st h => wpAny_pyIter_listiter st h
theorem turn_range {P : Program} {w : World} {K : PySem.W.Frag} {tg : Expr} (it : Addr) (lo : Int) (n : Nat) : Turn P w K tg (Itr lo n) [it] it (fun i h => IsRangeIter h it (lo + (i : Nat) * 1) ((n : Int) - (i : Nat)) 1) where
  mem := by simp
  obj := fun i h st b hb => by
    have e : b = it := by simpa using hb
    subst e
    exact ⟨_, st, fun v z => by
      have z' : Data.fields _ = Data.cell v := z
      cases z'⟩
  keep := fun i h h' st k => k it (by simp) _ st
  item := by
    intro X hP hw hK hc i pins s σ H E I hf st hg
    subst hP hw hK
    obtain ⟨f0, f1, f2, f3, f4, f5⟩ := hf it (by simp)
    have W := Walks.range (prog := X.prog) (w := X.w) (I.ok.hd hc) it lo 1 n
    refine W.item i s _ _ hg st fun v h' tk hv st' kk => ?_
    obtain ⟨t, rfl⟩ := hv
    have I1 : Inv X pins σ H { s with heap := h', toks := tk } := I.turned (fun b o hb e => kk b o (by simpa using hb) e) f0 f1 f3 f4 f5
    refine ⟨_, rfl, go_of (s := { s with heap := h', toks := tk }) (n := "range_iterator") st' rfl rfl (by decide) ⟨.int (lo + i), H, I1, ⟨t, ?_⟩, ⟨rfl, rfl⟩, st', fun b hb => (hf b hb).1⟩⟩
    rw [Int.mul_one]
  done := by
    intro X hP hw hK hc i pins s σ H E I hf st hg
    subst hP hw hK
    obtain ⟨f0, f1, f2, f3, f4, f5⟩ := hf it (by simp)
    exact wpAny_pyNext_range_end (I.ok.hd hc) st (by have : n ≤ i := hg; omega) fun h' eb => ⟨rfl, I.turned (t' := s.toks) (fun b o hb e => eb b o hb e) f0 f1 f3 f4 f5⟩
  self := fun _ _ _ _ _ st h => wpAny_pyIter_rangeiter st h
end L2

namespace L2
open PySem PySem.Spec PyProof.Rows
section
variable {X : Cx} {tg : Expr}
def iList (K : PySem.W.Frag) (tl : TE) : TI := fun σ H R => tl σ H fun x H1 => ∃ a, x = .ref a ∧ (∃ xs, SqL K H1 a xs) ∧ R (Itl K a) H1
theorem pi_list {l : Expr} {tl : TE} (hl : PE X l tl) : PI X tg l (iList X.K tl) := by
  intro pins s σ H R I h
  refine thn (hl pins s σ H _ I h) fun v s1 ⟨x, H1, I1, r1, q1⟩ => ?_
  obtain ⟨a, e, ⟨xs, hq⟩, q⟩ := q1
  subst e
  cases r1
  obtain ⟨its, rv, p, hz⟩ := I1.list hq
  refine wpAny_pyIter_list p.isList ?_
  refine ⟨s1.heap.objs.size, [s1.heap.objs.size], _, _, H1, rfl, I1.kept (t' := s1.toks) fun b o e => Heap.get?_push_of_some _ e, turn_list a _, ⟨_, Heap.get?_push_size _ rfl, rfl, rfl⟩, fun b hb => ?_, q⟩
  have e : b = s1.heap.objs.size := by simpa using hb
  subst e
  exact I1.fpOk (Nat.le_refl _) (I1.hok.fresh (Nat.le_refl _))
theorem range_it {pins : List (Addr × Obj)} {σ : St} {H : Hp} {s : Shared} {R : It → Hp → Prop} {E : Value → Shared → Prop} {lo hi : Int} {t u v : Tok} {tk : Nat} (I : Inv X pins σ H s) (h1 : -(2 ^ 62) ≤ lo) (h2 : lo < 2 ^ 62) (h3 : -(2 ^ 62) ≤ hi) (h4 : hi < 2 ^ 62)
    (q : R (Itr lo (hi - lo).toNat) H) : wpAny (model X.prog X.w) X.A (pyIter (.ref s.heap.objs.size)) (PIE X pins σ tg R) E { s with heap := s.heap.push { cls := .type "range", data := .fields #[.int lo t, .int hi u, .int 1 v] }, toks := tk } := by
  refine wpAny_pyIter_range (IsRange.new ..) (small_one h1 h2 h3 h4) ?_
  have I1 : Inv X pins σ H { s with heap := s.heap.push { cls := .type "range", data := .fields #[.int lo t, .int hi u, .int 1 v] }, toks := tk } := I.kept fun b o e => Heap.get?_push_of_some _ e
  refine ⟨(s.heap.push { cls := .type "range", data := .fields #[.int lo t, .int hi u, .int 1 v] }).objs.size, [(s.heap.push { cls := .type "range", data := .fields #[.int lo t, .int hi u, .int 1 v] }).objs.size], _, _, H, rfl,
    I1.kept (t' := tk) fun b o e => Heap.get?_push_of_some _ e, turn_range _ lo (hi - lo).toNat, ?_, fun b hb => ?_, q⟩
  · have e1 : lo + ((0 : Nat) : Int) * 1 = lo := by simp
    have e2 : (((hi - lo).toNat : Nat) : Int) - ((0 : Nat) : Int) = Builtin.Range.rangeSize lo hi 1 := by rw [rangeSize_one]; split <;> omega
    show IsRangeIter _ _ (lo + ((0 : Nat) : Int) * 1) ((((hi - lo).toNat : Nat) : Int) - ((0 : Nat) : Int)) 1
    rw [e1, e2]
    exact Heap.get?_push_size _ rfl
  · have e : b = (s.heap.push { cls := .type "range", data := .fields #[.int lo t, .int hi u, .int 1 v] }).objs.size := by simpa using hb
    subst e
    exact I1.fpOk (Nat.le_refl _) (I1.hok.fresh (Nat.le_refl _))
def iRng1 (ta : TA) : TI := fun σ H R => ta σ H fun vs H1 => ∃ j : Int, vs = [.int j] ∧ -(2 ^ 62) ≤ j ∧ j < 2 ^ 62 ∧ R (Itr 0 j.toNat) H1
def iRng2 (ta : TA) : TI := fun σ H R => ta σ H fun vs H1 => ∃ i j : Int, vs = [.int i, .int j] ∧ (-(2 ^ 62) ≤ i ∧ i < 2 ^ 62 ∧ -(2 ^ 62) ≤ j ∧ j < 2 ^ 62) ∧ R (Itr i (j - i).toNat) H1
theorem pi_range1 {a : Expr} {ta : TA} {p pos : Pos} (hg : Gl X "range") (hm : X.mg "range" = none) (ha : PA X [a] ta) (hs : starEach [a] X.env = [(false, eval a X.env)] := by rfl) : PI X tg (.Call (.Name "range" p) [a] [] pos) (iRng1 ta) := by
  intro pins s σ H R I h
  refine Call_ (ld_blt I hg hm boot_range (PyProof.Rows.callWith_type1 (thn (ha pos pins s σ H _ I h) fun us s1 ⟨vs, H1, I1, r1, q1⟩ => ?_) hs rfl))
  obtain ⟨j, e, q1, q2, q⟩ := q1
  subst e
  cases r1 with
  | cons r rr =>
    cases rr
    obtain ⟨t, rfl⟩ := r
    exact call_range_1 (range_it I1 (by omega) (by omega) q1 q2 (by simpa using q))
theorem pi_range2 {a b : Expr} {ta : TA} {p pos : Pos} (hg : Gl X "range") (hm : X.mg "range" = none) (ha : PA X [a, b] ta) (hs : starEach [a, b] X.env = [(false, eval a X.env), (false, eval b X.env)] := by rfl) (hs2 : starEach [b] X.env = [(false, eval b X.env)] := by rfl) :
    PI X tg (.Call (.Name "range" p) [a, b] [] pos) (iRng2 ta) := by
  intro pins s σ H R I h
  refine Call_ (ld_blt I hg hm boot_range (PyProof.Rows.callWith_type1 (thn (ha pos pins s σ H _ I h) fun us s1 ⟨vs, H1, I1, r1, q1⟩ => ?_) (by rw [hs, hs2]) (by rw [hs2]; rfl)))
  obtain ⟨i, j, e, ⟨q1, q2, q3, q4⟩, q⟩ := q1
  subst e
  cases r1 with
  | cons r rr =>
    cases rr with
    | cons r' rr =>
      cases rr
      obtain ⟨t, rfl⟩ := r
      obtain ⟨t', rfl⟩ := r'
      exact call_range_2 (range_it I1 q1 q2 q3 q4 q)

def tFor (wi : TI) (g : TG) (tb : TS) : TS := fun D σ H => wi σ H fun J H1 => ∃ W : Nat → Nat → St → Hp → Prop, (∃ m, W 0 m σ H1) ∧ ∀ i m σ H, W i m σ H →
  (J.stop i H ∧ D.nx σ H) ∨ (J.go i H ∧ ∃ N : St → Hp → Prop, (∀ σ' H', N σ' H' → ∃ m', m' < m ∧ W (i + 1) m' σ' H') ∧ ∀ x H', J.yld i H x H' → g x σ H' fun σ2 H2 => tb { D with nx := N, ct := N, bk := D.nx } σ2 H2)
def pinsAt (fp : List Addr) (h : Heap) : List (Addr × Obj) := fp.filterMap fun b => (h.get? b).map fun o => (b, o)
theorem mem_pinsAt {fp : List Addr} {h : Heap} {b : Addr} {o : Obj} (hb : b ∈ fp) (e : h.get? b = some o) : (b, o) ∈ pinsAt fp h := List.mem_filterMap.mpr ⟨b, hb, by rw [e]; rfl⟩
theorem of_pinsAt {fp : List Addr} {h : Heap} {p : Addr × Obj} (hp : p ∈ pinsAt fp h) : p.1 ∈ fp ∧ h.get? p.1 = some p.2 := by
  obtain ⟨b, hb, e⟩ := List.mem_filterMap.mp hp
  cases q : h.get? b with
  | none => rw [q] at e; cases e
  | some o =>
    rw [q] at e
    have e' : (b, o) = p := Option.some.inj e
    subst e'
    exact ⟨hb, q⟩
theorem Inv.pinned {pins : List (Addr × Obj)} {σ : St} {H : Hp} {s : Shared} {fp : List Addr} (I : Inv X pins σ H s) (hf : ∀ b ∈ fp, FpOk X pins H b) (ho : ∀ b ∈ fp, ∃ o, s.heap.get? b = some o ∧ ∀ v, o.data ≠ .cell v) : Inv X (pins ++ pinsAt fp s.heap) σ H s :=
  I.pins_of fun p hp => (List.mem_append.mp hp).elim (fun z => I.pin p (List.mem_append_right _ z)) fun z => by
    obtain ⟨hb, e⟩ := of_pinsAt z
    obtain ⟨f0, f1, f2, _⟩ := hf p.1 hb
    obtain ⟨o, e', d⟩ := ho p.1 hb
    rw [e] at e'; cases e'
    exact ⟨e, f0, f1, f2, d⟩
theorem Inv.unpinned {pins pl : List (Addr × Obj)} {σ : St} {H : Hp} {s : Shared} (I : Inv X (pins ++ pl) σ H s) : Inv X pins σ H s := I.pins_of fun p hp => I.pin p (List.mem_append_right _ (List.mem_append_left _ hp))
theorem ps_for {iter : Expr} {body : List Stmt} {wi : TI} {g : TG} {tb : TS} {pos : Pos} (hp : PassesOwn (model X.prog X.w) X.A X.env X.xe) (hc : X.calm = true) (hi : PI X tg iter wi) (hg : PG X tg g) (hb : PSs X body tb)
    (hs : ∀ x, foldedSetIterable iter X.env x = pure x := by intro _; rfl) : PS X (.For tg iter body [] pos) (tFor wi g tb) := by
  intro pins s σ H D I h
  refine wpAny_For (thn (hi pins s σ H _ I h) fun v s1 h1 => thn h1 fun itv s2 h2 => ?_) hs
  obtain ⟨it, fp, tn, J, H2, e, I2, T, st2, f2, W, ⟨m0, w0⟩, turn⟩ := h2
  subst e
  -- what stays true of the iterator's objects through the loop
  have stat : ∀ {H' : Hp}, (∀ b ∈ fp, H' b = none) → ∀ b ∈ fp, FpOk X pins H' b := fun hn b hb => ⟨hn b hb, (f2 b hb).2⟩
  refine codeAny_forLoop_any (fun n s' => ∃ i σ' H', Inv X pins σ' H' s' ∧ tn i s'.heap ∧ (∀ b ∈ fp, H' b = none) ∧ W i n σ' H') ?_ m0 ⟨0, σ, H2, I2, st2, fun b hb => (f2 b hb).1, w0⟩
  rintro n s3 ⟨i, σ3, H3, I3, st3, fr3, w3⟩
  rcases turn i n σ3 H3 w3 with ⟨stop, qn⟩ | ⟨go, N, hN, step⟩
  · refine wpAny_passesOwn hp (thn (T.done X rfl rfl rfl hc i pins s3 σ3 H3 X.xe I3 (stat fr3) st3 stop) fun r s4 ⟨hr, I4⟩ => ?_)
    subst hr
    exact wpAny_execs_nil ⟨σ3, H3, I4, qn⟩
  · refine wpAny_passesOwn hp (thn (T.item X rfl rfl rfl hc i pins s3 σ3 H3 X.xe I3 (stat fr3) st3 go) fun r s4 ⟨u, hr, h4⟩ => ?_)
    subst hr
    refine wpAny_passesOwn hp (thn h4 fun _ s5 ⟨x, H5, I5, r5, y5, st5, fr5⟩ => ?_)
    have I5' := I5.pinned (stat fr5) (T.obj _ _ st5)
    refine wpAny_passesOwn hp (thn (hg _ s5 σ3 H5 x u _ I5' r5 (step x H5 y5)) fun _ s6 ⟨σ6, H6, I6, q6⟩ => ?_)
    refine wpAny_passesOwn hp (thn (hb _ s6 σ6 H6 _ I6 q6) fun f s7 q7 => ?_)
    have again : ∀ {σ7 : St} {H7 : Hp}, Inv X (pins ++ pinsAt fp s5.heap) σ7 H7 s7 → N σ7 H7 → ∃ m, m < n ∧ ∃ i σ' H', Inv X pins σ' H' s7 ∧ tn i s7.heap ∧ (∀ b ∈ fp, H' b = none) ∧ W i m σ' H' := fun {σ7 H7} I7 n7 => by
      obtain ⟨m', hm, w7⟩ := hN σ7 H7 n7
      refine ⟨m', hm, i + 1, σ7, H7, I7.unpinned, T.keep _ _ _ st5 fun b hb o e => (I7.pin (b, o) (List.mem_append_right _ (List.mem_append_right _ (mem_pinsAt hb e)))).1, fun b hb => ?_, w7⟩
      obtain ⟨o, e, d⟩ := T.obj _ _ st5 b hb
      exact (I7.pin (b, o) (List.mem_append_right _ (List.mem_append_right _ (mem_pinsAt hb e)))).2.1
    cases f with
    | next => obtain ⟨σ7, H7, I7, n7⟩ := q7; exact again I7 n7
    | cont => obtain ⟨σ7, H7, I7, n7⟩ := q7; exact again I7 n7
    | brk => obtain ⟨σ7, H7, I7, q7⟩ := q7; exact ⟨σ7, H7, I7.unpinned, q7⟩
    | ret v => obtain ⟨x7, σ7, H7, I7, r7, q7⟩ := q7; exact ⟨x7, σ7, H7, I7.unpinned, r7, q7⟩
end

theorem for_list {K : PySem.W.Frag} {a : Addr} {xs : List V} {g : TG} {tb : TS} {D : Ends} {σ : St} {H : Hp} (Pv : Nat → St → Hp → Prop) (h0 : Pv 0 σ H) (hl : ∀ i σ H, i ≤ xs.length → Pv i σ H → SqL K H a xs)
    (hs : ∀ i x σ H, xs[i]? = some x → Pv i σ H → g x σ H fun σ2 H2 => tb { D with nx := Pv (i + 1), ct := Pv (i + 1), bk := D.nx } σ2 H2) (hd : ∀ σ H, Pv xs.length σ H → D.nx σ H) :
    ∃ W : Nat → Nat → St → Hp → Prop, (∃ m, W 0 m σ H) ∧ ∀ i m σ H, W i m σ H →
      ((Itl K a).stop i H ∧ D.nx σ H) ∨ ((Itl K a).go i H ∧ ∃ N : St → Hp → Prop, (∀ σ' H', N σ' H' → ∃ m', m' < m ∧ W (i + 1) m' σ' H') ∧ ∀ x H', (Itl K a).yld i H x H' → g x σ H' fun σ2 H2 => tb { D with nx := N, ct := N, bk := D.nx } σ2 H2) := by
  refine ⟨fun i m σ H => m = xs.length - i ∧ i ≤ xs.length ∧ Pv i σ H, ⟨xs.length, by simp, Nat.zero_le _, h0⟩, ?_⟩
  rintro i m σ H ⟨rfl, hi, p⟩
  have q := hl i σ H hi p
  by_cases hlt : i < xs.length
  · refine .inr ⟨⟨xs, xs[i], q, by simp [hlt]⟩, Pv (i + 1), fun σ' H' p' => ⟨xs.length - (i + 1), by omega, rfl, hlt, p'⟩, fun x H' y => ?_⟩
    obtain ⟨e, y⟩ := y
    subst e
    exact hs i x σ _ (y xs q) p
  · have e : i = xs.length := by omega
    subst e
    exact .inl ⟨⟨xs, q, Nat.le_refl _⟩, hd σ H p⟩
theorem for_range {lo : Int} {n : Nat} {g : TG} {tb : TS} {D : Ends} {σ : St} {H : Hp} (Pv : Nat → St → Hp → Prop) (h0 : Pv 0 σ H)
    (hs : ∀ i σ H, i < n → Pv i σ H → g (.int (lo + i)) σ H fun σ2 H2 => tb { D with nx := Pv (i + 1), ct := Pv (i + 1), bk := D.nx } σ2 H2) (hd : ∀ σ H, Pv n σ H → D.nx σ H) :
    ∃ W : Nat → Nat → St → Hp → Prop, (∃ m, W 0 m σ H) ∧ ∀ i m σ H, W i m σ H →
      ((Itr lo n).stop i H ∧ D.nx σ H) ∨ ((Itr lo n).go i H ∧ ∃ N : St → Hp → Prop, (∀ σ' H', N σ' H' → ∃ m', m' < m ∧ W (i + 1) m' σ' H') ∧ ∀ x H', (Itr lo n).yld i H x H' → g x σ H' fun σ2 H2 => tb { D with nx := N, ct := N, bk := D.nx } σ2 H2) := by
  refine ⟨fun i m σ H => m = n - i ∧ i ≤ n ∧ Pv i σ H, ⟨n, by simp, Nat.zero_le _, h0⟩, ?_⟩
  rintro i m σ H ⟨rfl, hi, p⟩
  by_cases hlt : i < n
  · refine .inr ⟨hlt, Pv (i + 1), fun σ' H' p' => ⟨n - (i + 1), by omega, rfl, hlt, p'⟩, fun x H' y => ?_⟩
    obtain ⟨e, y⟩ := y
    subst e y
    exact hs i σ _ hlt p
  · have e : i = n := by omega
    subst e
    exact .inl ⟨Nat.le_refl _, hd σ H p⟩
end L2

namespace L2
open PySem PySem.Spec PyProof.Rows

abbrev R2 := V → V → Hp → VK → Prop
def OpR (X : Cx) (f : Value → Value → Sem Value) (r : R2) : Prop :=
  ∀ (pins : List (Addr × Obj)) (s : Shared) (σ : St) (H : Hp) (x y : V) (v u : Value) (Q : VK), Inv X pins σ H s → RelV x v → RelV y u → r x y H Q →
    wpAny (model X.prog X.w) X.A (f v u) (EP X pins σ Q) X.xe s
def UnR (X : Cx) (f : Value → Sem Value) (r : V → Hp → VK → Prop) : Prop :=
  ∀ (pins : List (Addr × Obj)) (s : Shared) (σ : St) (H : Hp) (x : V) (v : Value) (Q : VK), Inv X pins σ H s → RelV x v → r x H Q →
    wpAny (model X.prog X.w) X.A (f v) (EP X pins σ Q) X.xe s
def CallR (X : Cx) (f : Value) (r : List V → Hp → VK → Prop) : Prop :=
  ∀ (pins : List (Addr × Obj)) (s : Shared) (σ : St) (H : Hp) (xs : List V) (us : List Value) (Q : VK), Inv X pins σ H s → Vals xs us → r xs H Q →
    wpAny (model X.prog X.w) X.A (call f us) (EP X pins σ Q) X.xe s
def TruR (X : Cx) (r : V → Hp → (Bool → Hp → Prop) → Prop) : Prop :=
  ∀ (pins : List (Addr × Obj)) (s : Shared) (σ : St) (H : Hp) (x : V) (v : Value) (Q : Bool → Hp → Prop), Inv X pins σ H s → RelV x v → r x H Q →
    wpAny (model X.prog X.w) X.A (truthy v) (TP X pins σ Q) X.xe s

def tOp (r : R2) (ta tb : TE) : TE := fun σ H Q => ta σ H fun x H1 => tb σ H1 fun y H2 => r x y H2 Q
def tUn (r : V → Hp → VK → Prop) (ta : TE) : TE := fun σ H Q => ta σ H fun x H1 => r x H1 Q
def rI (C : Int → Int → Prop) (g : Int → Int → V) : R2 := fun x y H Q => ∃ i j, x = .int i ∧ y = .int j ∧ C i j ∧ Q (g i j) H
def rI0 (g : Int → Int → V) : R2 := fun x y H Q => ∃ i j, x = .int i ∧ y = .int j ∧ Q (g i j) H
def rU (g : Int → V) : V → Hp → VK → Prop := fun x H Q => ∃ i, x = .int i ∧ Q (g i) H

section
variable {X : Cx} {a b c : Expr} {ta tb tc : TE} {pos : Pos}

theorem binT (ha : PE X a ta) (hb : PE X b tb) {pins : List (Addr × Obj)} {s : Shared} {σ : St} {H : Hp} {R : V → V → Hp → Prop} (I : Inv X pins σ H s)
    (h : ta σ H fun x H1 => tb σ H1 fun y H2 => R x y H2) {Q : Value → Shared → Prop} {f : Value → Value → Sem Value}
    (hf : ∀ v u s2 x y H2, Inv X pins σ H2 s2 → RelV x v → RelV y u → R x y H2 → wpAny (model X.prog X.w) X.A (f v u) Q X.xe s2) :
    wpAny (model X.prog X.w) X.A (eval a X.env) (fun v s₁ => wpAny (model X.prog X.w) X.A (eval b X.env) (fun u s₂ => wpAny (model X.prog X.w) X.A (f v u) Q X.xe s₂) X.xe s₁) X.xe s := by
  refine thn (ha pins s σ H _ I h) fun v s1 ⟨x, H1, I1, r1, q1⟩ => ?_
  refine thn (hb pins s1 σ H1 _ I1 q1) fun u s2 ⟨y, H2, I2, r2, q2⟩ => ?_
  exact hf v u s2 x y H2 I2 r1 r2 q2

theorem pe_op {op : Operator} {r : R2} (ho : OpR X (binaryOp op) r) (ha : PE X a ta) (hb : PE X b tb) : PE X (.BinOp a op b pos) (tOp r ta tb) := by
  intro pins s σ H Q I h
  exact wpAny_BinOp (binT ha hb I h fun v u s2 x y H2 I2 rx ry q => ho pins s2 σ H2 x y v u Q I2 rx ry q)
theorem pe_un {op : UnaryOp} {r : V → Hp → VK → Prop} (ho : UnR X (unaryOp op) r) (ha : PE X a ta) : PE X (.UnaryOp op a pos) (tUn r ta) := by
  intro pins s σ H Q I h
  exact UnaryOp_ (thn (ha pins s σ H _ I h) fun v s1 ⟨x, H1, I1, r1, q1⟩ => ho pins s1 σ H1 x v Q I1 r1 q1)
theorem opI {f : Value → Value → Sem Value} {C : Int → Int → Prop} {g : Int → Int → Int}
    (rule : ∀ (i j : Int) (t u : Tok) (s : Shared) (Q : Value → Shared → Prop) (E : Value → Shared → Prop), C i j → Q (.int (g i j) s.toks) { s with toks := s.toks + 1 } → wpAny (model X.prog X.w) X.A (f (.int i t) (.int j u)) Q E s) :
    OpR X f (rI C fun i j => .int (g i j)) := by
  intro pins s σ H x y v u Q I rx ry h
  obtain ⟨i, j, rfl, rfl, hc, q⟩ := h
  obtain ⟨t, rfl⟩ := rx
  obtain ⟨t', rfl⟩ := ry
  exact rule i j t t' s _ _ hc ⟨.int (g i j), H, I.tok _, ⟨_, rfl⟩, q⟩
theorem opI0 {f : Value → Value → Sem Value} {g : Int → Int → Int}
    (rule : ∀ (i j : Int) (t u : Tok) (s : Shared) (Q : Value → Shared → Prop) (E : Value → Shared → Prop), Q (.int (g i j) s.toks) { s with toks := s.toks + 1 } → wpAny (model X.prog X.w) X.A (f (.int i t) (.int j u)) Q E s) :
    OpR X f (rI0 fun i j => .int (g i j)) := by
  intro pins s σ H x y v u Q I rx ry h
  obtain ⟨i, j, rfl, rfl, q⟩ := h
  obtain ⟨t, rfl⟩ := rx
  obtain ⟨t', rfl⟩ := ry
  exact rule i j t t' s _ _ ⟨.int (g i j), H, I.tok _, ⟨_, rfl⟩, q⟩
theorem opB0 {f : Value → Value → Sem Value} {g : Int → Int → Bool}
    (rule : ∀ (i j : Int) (t u : Tok) (s : Shared) (Q : Value → Shared → Prop) (E : Value → Shared → Prop), Q (.bool (g i j)) s → wpAny (model X.prog X.w) X.A (f (.int i t) (.int j u)) Q E s) :
    OpR X f (rI0 fun i j => .bl (g i j)) := by
  intro pins s σ H x y v u Q I rx ry h
  obtain ⟨i, j, rfl, rfl, q⟩ := h
  obtain ⟨t, rfl⟩ := rx
  obtain ⟨t', rfl⟩ := ry
  exact rule i j t t' s _ _ ⟨.bl (g i j), H, I, rfl, q⟩

def CDivN (i j : Int) : Prop := j ≠ 0 ∧ j.natAbs < 1073741824
def CPow (i j : Int) : Prop := 0 ≤ j ∧ j ≤ 1000000 ∧ i.natAbs < 2 ^ 64
def CMul (i j : Int) : Prop := (-(2 ^ 64) < i ∧ i < 2 ^ 64) ∨ (-(2 ^ 64) < j ∧ j < 2 ^ 64)
theorem CMul.ok {i j : Int} (h : CMul i j) : IntMulOk i j := by
  rcases h with ⟨h1, h2⟩ | ⟨h1, h2⟩
  · exact .of_left (intBits_le_64 h1 h2)
  · exact .of_right (intBits_le_64 h1 h2)
theorem op_add : OpR X (binaryOp .Add) (rI0 fun i j => .int (i + j)) := opI0 fun _ _ _ _ _ _ _ q => add_int q
theorem op_sub : OpR X (binaryOp .Sub) (rI0 fun i j => .int (i - j)) := opI0 fun _ _ _ _ _ _ _ q => sub_int q
theorem op_fdivN : OpR X (binaryOp .FloorDiv) (rI CDivN fun i j => .int (i.fdiv j)) := opI fun _ _ _ _ _ _ _ hc q => floordiv_int hc.1 q (.inl (PyProof.noPylong_small hc.2))
theorem op_modN : OpR X (binaryOp .Mod) (rI (fun _ j => j ≠ 0) fun i j => .int (i.fmod j)) := opI fun _ _ _ _ _ _ _ hc q => mod_int' hc q
theorem op_pow : OpR X (binaryOp .Pow) (rI CPow fun i j => .int (i ^ j.toNat)) := opI fun _ _ _ _ _ _ _ hc q => pow_int_small hc.1 hc.2.1 hc.2.2 q
theorem unI {f : Value → Sem Value} {g : Int → Int}
    (rule : ∀ (i : Int) (t : Tok) (s : Shared) (Q : Value → Shared → Prop) (E : Value → Shared → Prop), Q (.int (g i) s.toks) { s with toks := s.toks + 1 } → wpAny (model X.prog X.w) X.A (f (.int i t)) Q E s) :
    UnR X f (rU fun i => .int (g i)) := by
  intro pins s σ H x v Q I rx h
  obtain ⟨i, rfl, q⟩ := h
  obtain ⟨t, rfl⟩ := rx
  exact rule i t s _ _ ⟨.int (g i), H, I.tok _, ⟨_, rfl⟩, q⟩
theorem un_neg : UnR X (unaryOp .USub) (rU fun i => .int (-i)) := unI fun _ _ _ _ _ q => neg_int q
end

def scal : V → V → Bool
  | .non, .non => true | .non, .int _ => true | .int _, .non => true | .non, .bl _ => true | .bl _, .non => true | .non, .str _ => true | .str _, .non => true
  | .int _, .int _ => true | .bl _, .bl _ => true | .str _, .str _ => true | .byt _, .byt _ => true
  | .int _, .str _ => true | .str _, .int _ => true | .bl _, .str _ => true | .str _, .bl _ => true
  | _, _ => false
def rEq : R2 := fun x y H Q => scal x y = true ∧ Q (.bl (decide (x = y))) H
def rNe : R2 := fun x y H Q => scal x y = true ∧ Q (.bl (!decide (x = y))) H

theorem dec_int {i j : Int} : decide (V.int i = V.int j) = (i == j) := by
  rw [Bool.eq_iff_iff]
  simp
theorem dec_bl {i j : Bool} : decide (V.bl i = V.bl j) = (i == j) := by
  rw [Bool.eq_iff_iff]
  simp
theorem dec_str {i j : Str} : decide (V.str i = V.str j) = (i == j) := by
  rw [Bool.eq_iff_iff]
  simp
theorem dec_byt {i j : Array UInt8} : decide (V.byt i = V.byt j) = (i.toList == j.toList) := by
  rw [Bool.eq_iff_iff]
  cases i
  cases j
  simp

section
variable {X : Cx} {a b c : Expr} {ta tb tc : TE} {pos : Pos}
theorem fin_bl {pins : List (Addr × Obj)} {σ : St} {H : Hp} {s : Shared} {Q : VK} {k k' : Bool} (I : Inv X pins σ H s) (q : Q (.bl k) H) (e : k = k') : EP X pins σ Q (.bool k') s := by
  subst e
  exact ⟨.bl k, H, I, rfl, q⟩
theorem op_eq : OpR X (compareOp .Eq) rEq := by
  intro pins s σ H x y v u Q I rx ry h
  obtain ⟨hs, q⟩ := h
  cases x with
  | non =>
    cases rx
    cases y with
    | non => cases ry; exact PySem.EqNone.eq_none_none (fin_bl I q (by simp))
    | bl j => cases ry; exact PySem.EqNone.eq_none_bool (fin_bl I q (by simp))
    | int j => obtain ⟨t', rfl⟩ := ry; exact PySem.EqNone.eq_none_int (fin_bl I q (by simp))
    | str j => obtain ⟨t', rfl⟩ := ry; exact PySem.EqNone.eq_none_str (fin_bl I q (by simp))
    | _ => exact absurd (show false = true from hs) Bool.false_ne_true
  | bl i =>
    cases rx
    cases y with
    | non => cases ry; exact PySem.EqNone.eq_bool_none (fin_bl I q (by simp))
    | bl j => cases ry; exact eq_bool (fin_bl I q dec_bl)
    | str j => obtain ⟨t', rfl⟩ := ry; exact PySem.EqMixed.eq_bool_str (fin_bl I q (by simp))
    | _ => exact absurd (show false = true from hs) Bool.false_ne_true
  | int i =>
    obtain ⟨t, rfl⟩ := rx
    cases y with
    | non => cases ry; exact PySem.EqNone.eq_int_none (fin_bl I q (by simp))
    | int j => obtain ⟨t', rfl⟩ := ry; exact eq_int (fin_bl I q dec_int)
    | str j => obtain ⟨t', rfl⟩ := ry; exact PySem.EqMixed.eq_int_str (fin_bl I q (by simp))
    | _ => exact absurd (show false = true from hs) Bool.false_ne_true
  | str i =>
    obtain ⟨t, rfl⟩ := rx
    cases y with
    | non => cases ry; exact PySem.EqNone.eq_str_none (fin_bl I q (by simp))
    | bl j => cases ry; exact PySem.EqMixed.eq_str_bool (fin_bl I q (by simp))
    | int j => obtain ⟨t', rfl⟩ := ry; exact PySem.EqMixed.eq_str_int (fin_bl I q (by simp))
    | str j => obtain ⟨t', rfl⟩ := ry; exact eq_str (fin_bl I q dec_str)
    | _ => exact absurd (show false = true from hs) Bool.false_ne_true
  | byt i =>
    obtain ⟨t, rfl⟩ := rx
    cases y with
    | byt j => obtain ⟨t', rfl⟩ := ry; exact PySem.W.eq_bytes (fin_bl I q dec_byt)
    | _ => exact absurd (show false = true from hs) Bool.false_ne_true
  | _ => cases y <;> exact absurd (show false = true from hs) Bool.false_ne_true
theorem op_ne : OpR X (compareOp .NotEq) rNe := by
  intro pins s σ H x y v u Q I rx ry h
  obtain ⟨hs, q⟩ := h
  cases x with
  | non =>
    cases rx
    cases y with
    | non => cases ry; exact PySem.EqNone.ne_none_none (fin_bl I q (by simp))
    | bl j => cases ry; exact PySem.EqNone.ne_none_bool (fin_bl I q (by simp))
    | int j => obtain ⟨t', rfl⟩ := ry; exact PySem.EqNone.ne_none_int (fin_bl I q (by simp))
    | str j => obtain ⟨t', rfl⟩ := ry; exact PySem.EqNone.ne_none_str (fin_bl I q (by simp))
    | _ => exact absurd (show false = true from hs) Bool.false_ne_true
  | bl i =>
    cases rx
    cases y with
    | non => cases ry; exact PySem.EqNone.ne_bool_none (fin_bl I q (by simp))
    | bl j => cases ry; exact ne_bool (fin_bl I q (congrArg not dec_bl))
    | str j => obtain ⟨t', rfl⟩ := ry; exact PySem.EqMixed.ne_bool_str (fin_bl I q (by simp))
    | _ => exact absurd (show false = true from hs) Bool.false_ne_true
  | int i =>
    obtain ⟨t, rfl⟩ := rx
    cases y with
    | non => cases ry; exact PySem.EqNone.ne_int_none (fin_bl I q (by simp))
    | int j => obtain ⟨t', rfl⟩ := ry; exact ne_int (fin_bl I q (congrArg not dec_int))
    | str j => obtain ⟨t', rfl⟩ := ry; exact PySem.EqMixed.ne_int_str (fin_bl I q (by simp))
    | _ => exact absurd (show false = true from hs) Bool.false_ne_true
  | str i =>
    obtain ⟨t, rfl⟩ := rx
    cases y with
    | non => cases ry; exact PySem.EqNone.ne_str_none (fin_bl I q (by simp))
    | bl j => cases ry; exact PySem.EqMixed.ne_str_bool (fin_bl I q (by simp))
    | int j => obtain ⟨t', rfl⟩ := ry; exact PySem.EqMixed.ne_str_int (fin_bl I q (by simp))
    | str j => obtain ⟨t', rfl⟩ := ry; exact ne_str (fin_bl I q (congrArg not dec_str))
    | _ => exact absurd (show false = true from hs) Bool.false_ne_true
  | byt i =>
    obtain ⟨t, rfl⟩ := rx
    cases y with
    | byt j => obtain ⟨t', rfl⟩ := ry; exact PySem.W.ne_bytes (fin_bl I q (congrArg not dec_byt))
    | _ => exact absurd (show false = true from hs) Bool.false_ne_true
  | _ => cases y <;> exact absurd (show false = true from hs) Bool.false_ne_true

theorem op_lt : OpR X (compareOp .Lt) (rI0 fun i j => .bl (decide (i < j))) := opB0 fun _ _ _ _ _ _ _ q => lt_int q
theorem op_le : OpR X (compareOp .LtE) (rI0 fun i j => .bl (decide (i ≤ j))) := opB0 fun _ _ _ _ _ _ _ q => le_int q
theorem op_gt : OpR X (compareOp .Gt) (rI0 fun i j => .bl (decide (j < i))) := opB0 fun _ _ _ _ _ _ _ q => gt_int q
theorem op_ge : OpR X (compareOp .GtE) (rI0 fun i j => .bl (decide (j ≤ i))) := opB0 fun _ _ _ _ _ _ _ q => ge_int q
theorem op_notin_str : OpR X (compareOp .NotIn) (fun x y H Q => ∃ i j, x = .str i ∧ y = .str j ∧ Q (.bl (!(!(Builtin.Str.occurrences j i 0 j.length 1).isEmpty))) H) := by
  intro pins s σ H x y v u Q I rx ry h
  obtain ⟨i, j, rfl, rfl, q⟩ := h
  obtain ⟨t, rfl⟩ := rx
  obtain ⟨t', rfl⟩ := ry
  exact notIn_str (fin_bl I q rfl)
theorem OpR.or {f : Value → Value → Sem Value} {r r' : R2} (h : OpR X f r) (h' : OpR X f r') : OpR X f (fun x y H Q => r x y H Q ∨ r' x y H Q) := by
  intro pins s σ H x y v u Q I rx ry q
  rcases q with q | q
  · exact h pins s σ H x y v u Q I rx ry q
  · exact h' pins s σ H x y v u Q I rx ry q

theorem nomark (b : Expr) {op : CmpOp} (h : op ≠ .In := by decide) (h2 : op ≠ .NotIn := by decide) : behindInMarks op b = false := by
  have e1 : (op == CmpOp.In) = false := by cases op <;> first | rfl | exact absurd rfl h
  have e2 : (op == CmpOp.NotIn) = false := by cases op <;> first | rfl | exact absurd rfl h2
  cases b <;> simp [behindInMarks, e1, e2]
theorem pe_cmpR {op : CmpOp} {r : R2} (ho : OpR X (compareOp op) r) (ha : PE X a ta) (hb : PE X b tb) (hm : behindInMarks op b = false) : PE X (.Compare a [op] [b] pos) (tOp r ta tb) := by
  intro pins s σ H Q I h
  exact wpAny_Compare1 (binT ha hb I h fun v u s2 x y H2 I2 rx ry q => ho pins s2 σ H2 x y v u Q I2 rx ry q) hm
def tTest (t : TE) : TT := fun σ H Q => t σ H fun x H' => ∃ k, x = .bl k ∧ Q k H'
theorem pt_cmpR {op : CmpOp} {r : R2} (ho : OpR X (compareOp op) r) (ha : PE X a ta) (hb : PE X b tb) (hm : behindInMarks op b = false) : PT X (.Compare a [op] [b] pos) (tTest (tOp r ta tb)) := by
  intro pins s σ H Q I h
  refine wpAny_isTrue_Compare1 (thn (ha pins s σ H _ I h) fun v s1 ⟨x, H1, I1, r1, q1⟩ => thn (hb pins s1 σ H1 _ I1 q1) fun u s2 ⟨y, H2, I2, r2, q2⟩ =>
    thn (ho pins s2 σ H2 x y v u _ I2 r1 r2 q2) fun c s3 ⟨z, H3, I3, r3, k, e, q3⟩ => ?_) hm
  subst e
  cases r3
  exact wpAny_truthy_bool ⟨H3, I3, q3⟩
def tChain (r r' : R2) (ta tb tc : TE) : TE := fun σ H Q => ta σ H fun x H1 => tb σ H1 fun y H2 => r x y H2 fun z H3 => ∃ k, z = .bl k ∧
  (if k = true then tc σ H3 fun w' H4 => r' y w' H4 Q else Q (.bl false) H3)
theorem pt_chain {op op' : CmpOp} {r r' : R2} (ho : OpR X (compareOp op) r) (ho' : OpR X (compareOp op') r') (ha : PE X a ta) (hb : PE X b tb) (hc : PE X c tc)
    (hm : lastMarks [op, op'] [b, c] = false := by with_unfolding_all rfl) : PT X (.Compare a [op, op'] [b, c] pos) (tTest (tChain r r' ta tb tc)) := by
  intro pins s σ H Q I h
  refine isTrue_chain (thn (ha pins s σ H _ I h) fun v s1 ⟨x, H1, I1, r1, q1⟩ => test_link (thn (hb pins s1 σ H1 _ I1 q1) fun u s2 ⟨y, H2, I2, r2, q2⟩ =>
    thn (ho pins s2 σ H2 x y v u _ I2 r1 r2 q2) fun d s3 ⟨z, H3, I3, r3, k, e, q3⟩ => ?_)) hm
  subst e
  cases r3
  refine wpAny_truthy_bool ?_
  cases k with
  | false =>
    obtain ⟨k', e', q'⟩ := q3
    cases e'
    exact ite_ff ⟨H3, I3, q'⟩
  | true =>
    refine ite_tt (test_last (thn (hc pins s3 σ H3 _ I3 q3) fun w' s4 ⟨z', H4, I4, r4, q4⟩ => thn (ho' pins s4 σ H4 y z' u w' _ I4 r2 r4 q4) fun d' s5 ⟨z2, H5, I5, r5, k2, e2, q5⟩ => ?_))
    subst e2
    cases r5
    exact wpAny_truthy_bool ⟨H5, I5, q5⟩

def TruV (K : PySem.W.Frag) (x : V) (H : Hp) (k : Bool) : Prop :=
  match x with
  | .non => k = false
  | .bl b => k = b
  | .int i => k = (i != 0)
  | .str y => y.length ≤ sizeLine ∧ k = ((y.length : Int) != 0)
  | .byt y => y.size ≤ sizeLine ∧ k = ((y.size : Int) != 0)
  | .ref p => (∃ xs, SqL K H p xs ∧ k = !xs.isEmpty) ∨ (∃ xs, SqT K H p xs ∧ k = !xs.isEmpty) ∨ ∃ kvs, H p = some (.dK kvs) ∧ k = !kvs.isEmpty
  | _ => False
theorem isEmpty_kv {κ : Type} {kvs : List (κ × V)} {vs : List (κ × Value)} (r : KV kvs vs) : (!vs.isEmpty) = !kvs.isEmpty := by
  cases r <;> rfl
theorem isEmpty_of {xs : List V} {its : List Value} (r : Vals xs its) : (!its.toArray.isEmpty) = !xs.isEmpty := by
  cases r <;> simp
theorem line63 : (sizeLine : Nat) < 2 ^ 63 := by rw [sizeLine_eq]; decide
theorem tru_ok : TruR X (fun x H Q => ∃ k, TruV X.K x H k ∧ Q k H) := by
  intro pins s σ H x v Q I rx h
  obtain ⟨k, e, q⟩ := h
  have hl := line63
  have hs : sizeLine = 16777216 := sizeLine_eq
  cases x with
  | non =>
    cases rx
    have e' : k = false := e
    subst e'
    exact truthy_none ⟨H, I, q⟩
  | bl b =>
    cases rx
    have e' : k = b := e
    subst e'
    exact wpAny_truthy_bool ⟨H, I, q⟩
  | int i =>
    obtain ⟨t, rfl⟩ := rx
    have e' : k = (i != 0) := e
    subst e'
    exact PySem.P.truthy_int ⟨H, I, q⟩
  | str y =>
    obtain ⟨t, rfl⟩ := rx
    obtain ⟨hy, e'⟩ : y.length ≤ sizeLine ∧ k = ((y.length : Int) != 0) := e
    subst e'
    exact PySem.P.truthy_str (by omega) ⟨H, I.tok _, q⟩
  | byt y =>
    obtain ⟨t, rfl⟩ := rx
    obtain ⟨hy, e'⟩ : y.size ≤ sizeLine ∧ k = ((y.size : Int) != 0) := e
    subst e'
    exact PySem.W.truthy_bytes (by omega) ⟨H, I.tok _, q⟩
  | ref p =>
    cases rx
    have e' : (∃ xs, SqL X.K H p xs ∧ k = !xs.isEmpty) ∨ (∃ xs, SqT X.K H p xs ∧ k = !xs.isEmpty) ∨ ∃ kvs, H p = some (.dK kvs) ∧ k = !kvs.isEmpty := e
    rcases e' with ⟨xs, hx, e'⟩ | ⟨xs, hx, e'⟩ | ⟨kvs, hx, e'⟩
    · subst e'
      obtain ⟨its, r, pl, hz⟩ := I.list hx
      have hlen := r.length
      exact wpAny_truthy_list pl.isList (by simp only [List.size_toArray]; omega) ⟨H, I.tok _, by rw [isEmpty_of r]; exact q⟩
    · subst e'
      obtain ⟨its, r, pl, hz⟩ := I.tuple hx
      have hlen := r.length
      exact truthy_tuple pl (by simp only [List.size_toArray]; omega) ⟨H, I.tok _, by rw [isEmpty_of r]; exact q⟩
    · subst e'
      obtain ⟨hz, hS, vs, r, m⟩ : kvs.length ≤ sizeLine ∧ (p == sysModules) = false ∧ ∃ vs, KV kvs vs ∧ s.heap.DictOf (mixKind X.prog X.w) p vs := I.hok p _ hx
      have hlen : kvs.length = vs.length := Paired.length r
      exact wpAny_truthy_dict hS m (by omega) ⟨H, I.tok _, by rw [isEmpty_kv r]; exact q⟩
  | _ => exact (show False from e).elim
theorem pt_truth (ha : PE X a ta) (he : ∀ whole, isTrue a X.env whole = (do let v ← whole; standAt a.pos; holding [v] (truthy v))) :
    PT X a (fun σ H Q => ta σ H fun x H' => ∃ k, TruV X.K x H' k ∧ Q k H') := by
  intro pins s σ H Q I h
  exact isTrue_plain (thn (ha pins s σ H _ I h) fun v s1 ⟨x, H1, I1, r1, q1⟩ => tru_ok pins s1 σ H1 x v Q I1 r1 q1) (he _)

theorem op_add_str : OpR X (binaryOp .Add) (fun x y H Q => ∃ i j, x = .str i ∧ y = .str j ∧ i.length + j.length ≤ sizeLine ∧ Q (.str (i ++ j)) H) := by
  intro pins s σ H x y v u Q I rx ry h
  obtain ⟨i, j, rfl, rfl, hz, q⟩ := h
  obtain ⟨t, rfl⟩ := rx
  obtain ⟨t', rfl⟩ := ry
  exact add_str (fun t' tk => ⟨.str (i ++ j), H, I.tok _, ⟨_, rfl⟩, q⟩) hz
def PlainIxT (b : Expr) : Prop := ∀ o i, subscripted b false o i = operate [o, i] (getItem o i)
theorem pe_item_str (ha : PE X a ta) (hb : PE X b tb) (hs : PlainIxT b) :
    PE X (.Subscript a b pos) (tOp (fun x y H Q => ∃ z i c, x = .str z ∧ y = .int i ∧ 0 ≤ i ∧ i < 2 ^ 63 ∧ i < z.length ∧ z.cps[i.toNat]? = some c ∧ Q (.str ⟨#[c]⟩) H) ta tb) := by
  intro pins s σ H Q I h
  refine Subscript_ (binT ha hb I h fun v u s2 x y H2 I2 rx ry q => ?_)
  obtain ⟨z, i, c, rfl, rfl, h0, h63, h1, hc, q⟩ := q
  obtain ⟨t, rfl⟩ := rx
  obtain ⟨t', rfl⟩ := ry
  have e : seqIndex? i z.length = some i.toNat := PySem.StrLaws.seqIndex_nonneg h0 h1
  exact tail_any (typeIs_str s2 z t) slot_str_getitem.lookup (getItem_str (c := c) (by
    have e1 : decide (i < -(2 ^ 63 : Int)) = false := decide_eq_false (by omega)
    have e2 : decide (i ≥ 2 ^ 63) = false := decide_eq_false (by omega)
    rw [e1, e2] <;> rfl) (by rw [e]; exact hc) ⟨.str ⟨#[c]⟩, H2, I2.tok _, ⟨_, rfl⟩, q⟩) (hs _ _)
theorem vals1 {x : V} {us : List Value} (r : Vals [x] us) : ∃ u, us = [u] ∧ RelV x u := by
  cases r with
  | cons r1 r2 => cases r2; exact ⟨_, rfl, r1⟩
theorem call_str_int : CallR X (.type "str") (fun xs H Q => ∃ i, xs = [.int i] ∧ i.natAbs.log2 < 1920 ∧ Q (.str (toString i)) H) := by
  intro pins s σ H xs us Q I r h
  obtain ⟨i, rfl, hz, q⟩ := h
  obtain ⟨u, rfl, t, rfl⟩ := vals1 r
  exact PySem.P.str_of_int hz ⟨.str _, H, I.tok _, ⟨_, rfl⟩, q⟩
end
end L2

namespace L2
open PySem PySem.Spec PyProof.Rows

structure ObjM (h : Heap) (x dx C : Addr) (mA : Str → Option Value) : Prop where
  obj : h.get? x = some (PySem.W.instObj C dx)
  ns : h.Ns1 dx mA
  ne : dx ≠ x

theorem lookIn_ns {h : Heap} {dx : Addr} {mA : Str → Option Value} (n : h.Ns1 dx mA) : ∃ od, h.get? dx = some od ∧ ∀ name, PySem.W.lookIn name od = some (mA name) := by
  obtain ⟨o, es, ep, ho, hd, hk, _, hm⟩ := n
  refine ⟨o, ho, fun name => ?_⟩
  have e := hm name
  unfold nsFind findBy at e
  rw [← Array.find?_toList] at e
  unfold PySem.W.lookIn
  rw [hd]
  dsimp only
  split
  · rename_i y q
    rw [q] at e
    exact congrArg some e
  · rename_i q
    rw [q] at e
    have a : es.toList.any (·.refKey) = false := by
      rw [List.any_eq_false]
      intro y hy
      obtain ⟨z, t, hkey⟩ := hk y (Array.mem_toList_iff.mp hy)
      simp [DictEntry.refKey, hkey]
    have a' : ¬ es.toList.any (·.refKey) = true := by rw [a]; exact Bool.false_ne_true
    rw [if_neg a']
    exact congrArg some e

theorem ObjM.look {h : Heap} {x dx C : Addr} {mA : Str → Option Value} (I : ObjM h x dx C mA) : ∃ od, PySem.W.InstAt h x (PySem.W.instObj C dx) C (some od) ∧ ∀ name, PySem.W.lookIn name od = some (mA name) :=
  let ⟨od, ho, hl⟩ := lookIn_ns I.ns
  ⟨od, ⟨I.obj, rfl, rfl, ho⟩, hl⟩

section
variable {prog : Program} {w : World} {A : Around} {E : Value → Shared → Prop} {s : Shared} {K : PySem.W.Frag} {x dx C f : Addr} {mA : Str → Option Value} {name : Str} {v : Value}

theorem get_map {expr : Bool} {Q : Value → Shared → Prop} (X : K.In s.heap) (I : ObjM s.heap x dx C mA) (hg : PySem.W.plainGet K C name = true) (hh : PySem.W.hasDictIn K C = true)
    (ha : PySem.W.findIn K (.ref C) name = some none) (hv : mA name = some v) (hv' : PySem.W.handedIn v = true) (h : Q v { s with toks := s.toks + 1 }) :
    wpAny (model prog w) A (getAttr (.ref x) name expr) Q E s := by
  obtain ⟨od, J, hl⟩ := I.look
  exact PySem.W.get_value X J (PySem.W.plainGet_of hg).1 (PySem.W.findObj_own hh ha rfl (by rw [hl, hv])) hv' h

theorem get_meth {pl : Sem Bool} {Q : Value × List Value → Shared → Prop} (X : K.In s.heap) (I : ObjM s.heap x dx C mA) (hg : PySem.W.plainGet K C name = true)
    (hf : PySem.W.findIn K (.ref C) name = some (some (.ref f))) (ht : PySem.W.isFn K (.ref f) = true) (hv : mA name = none) (h : Q (.ref f, [.ref x]) s) :
    wpAny (model prog w) A (getMethod (.ref x) name pl) Q E s := by
  obtain ⟨od, J, hl⟩ := I.look
  exact PySem.W.method_fn X J (PySem.W.plainGet_of hg).1 (PySem.W.plainGet_of hg).2 hf (beq_iff_eq.mp ht) (by show (PySem.W.lookIn name od).map (·.isSome) = some false; rw [hl, hv]; rfl) h

theorem set_map {ns : List Str} {Q : Unit → Shared → Prop} (X : K.In s.heap) (I : ObjM s.heap x dx C mA)
    (hs : PySem.W.findIn K (.ref C) "__setattr__" = some (some (.builtin "object.__setattr__"))) (hp : PySem.W.plainOver K C = true) (ht : PySem.W.takerIn K C name = some none) (hh : PySem.W.hasDictIn K C = true)
    (hw : PySem.Within mA ns) (hsz : ns.length ≤ sizeLine)
    (h : ∀ h', ObjM h' x dx C (fun y => if y = name then some v else mA y) → Heap.SameBut dx s.heap h' → Q () { s with heap := h', toks := s.toks + 2 }) :
    wpAny (model prog w) A (setAttr (.ref x) name v) Q E s := by
  obtain ⟨od, J, hl⟩ := I.look
  refine PySem.W.set_plain X J hs (PySem.W.osa_open (s := { s with toks := s.toks + 1 }) (r := none) X J hp ht fun b => ?_)
  obtain ⟨cd, hc, hd'⟩ := PySem.W.any_some hh
  have hx : s.heap.get? x = some ⟨.ref C, some dx, .plain, #[]⟩ := I.obj
  refine wpAny_bind (wpAny_pure (wpAny_bind (wpAny_bind (wpAny_loadPart hx (wpAny_bind (PySem.W.Looks.here (s := { s with toks := s.toks + 1 }) (PySem.W.looks_clsIn X hc) ?_))))))
  rw [hd']
  refine wpAny_pure (a := some dx) (wpAny_bind (wpAny_pure (wpAny_bind ?_)))
  refine wpAny_nsSet1 (s := { s with toks := s.toks + 1 }) I.ns fun h' hn2 hs2 => ?_
  obtain ⟨oD, esD, epD, hoD, hdD, hcD⟩ := hn2.count (PySem.Within.cons name v hw)
  refine wpAny_bind (wpAny_lookBehind hoD (by rw [hdD]; exact pastItsLine_dict (Nat.le_trans hcD (by rw [List.length_cons]; omega))) ?_)
  exact wpAny_pure (h _ ⟨(hs2.2 _ (Ne.symm I.ne)).trans I.obj, hn2, I.ne⟩ hs2)

theorem make_map {R : Result → Shared → Prop} {vs : List Value} {kw : List (Str × Value)} (X : K.In s.heap) (hm : PySem.W.makesIn K C = true)
    (hi : PySem.W.findIn K (.ref C) "__init__" = some (some (.ref f))) (hf : PySem.W.typeIn K (.ref f) = some (.type "function"))
    (h : codeAny (model prog w) (A.under (.builtin "type.__call__" ⟨.ref C :: vs, kw⟩)) (.call (.ref f) ⟨.ref (s.heap.objs.size + 1) :: vs, kw⟩) (PySem.W.InitBack (s.heap.objs.size + 1) R)
      { s with heap := (s.heap.push PySem.W.emptyDict).push (PySem.W.instObj C s.heap.objs.size) }) :
    codeAny (model prog w) A (.call (.ref C) ⟨vs, kw⟩) R s := by
  obtain ⟨hh, g, d, t, os⟩ := s
  exact PySem.W.make_core (PySem.W.makes_of X hm) (PySem.W.looks_findIn X hi) (fun self => PySem.W.bind_fn X self hf) (.inl rfl) h
end

def putF (f : Str) (v : V) : List (Str × V) → List (Str × V)
  | [] => [(f, v)]
  | (g, x) :: r => if g = f then (g, v) :: r else (g, x) :: putF f v r
theorem lookup_putF (f g : Str) (v : V) : ∀ fs : List (Str × V), (putF f v fs).lookup g = if g = f then some v else fs.lookup g
  | [] => by
    show List.lookup g [(f, v)] = _
    by_cases h : g = f
    · have hb : (g == f) = true := beq_iff_eq.mpr h
      simp only [List.lookup, hb, if_pos h]
    · have hb : (g == f) = false := beq_eq_false_iff_ne.mpr h
      simp only [List.lookup, hb, if_neg h]
  | (k, x) :: r => by
    have ih := lookup_putF f g v r
    rw [show putF f v ((k, x) :: r) = (if k = f then (k, v) :: r else (k, x) :: putF f v r) from rfl]
    by_cases hk : k = f
    · rw [if_pos hk]
      by_cases h : g = k
      · have hb : (g == k) = true := beq_iff_eq.mpr h
        simp only [List.lookup, hb, if_pos (h.trans hk)]
      · have hb : (g == k) = false := beq_eq_false_iff_ne.mpr h
        simp only [List.lookup, hb, if_neg (fun e : g = f => h (e.trans hk.symm))]
    · rw [if_neg hk]
      by_cases h : g = k
      · have hb : (g == k) = true := beq_iff_eq.mpr h
        simp only [List.lookup, hb, if_neg (fun e : g = f => hk (h.symm.trans e))]
      · have hb : (g == k) = false := beq_eq_false_iff_ne.mpr h
        simp only [List.lookup, hb]
        exact ih
theorem keys_putF (f : Str) (v : V) : ∀ fs : List (Str × V), f ∈ (putF f v fs).map (·.1) ∧ ∀ g, g ∈ fs.map (·.1) → g ∈ (putF f v fs).map (·.1)
  | [] => ⟨by simp [putF], fun g h => by simp at h⟩
  | (k, x) :: r => by
    obtain ⟨i1, i2⟩ := keys_putF f v r
    rw [show putF f v ((k, x) :: r) = (if k = f then (k, v) :: r else (k, x) :: putF f v r) from rfl]
    by_cases hk : k = f
    · rw [if_pos hk]
      subst hk
      exact ⟨by simp, fun g h => by simpa using h⟩
    · rw [if_neg hk]
      refine ⟨?_, fun g h => ?_⟩
      · rw [List.map_cons]
        exact List.mem_cons_of_mem _ i1
      · rw [List.map_cons] at h ⊢
        rcases List.mem_cons.mp h with e | e
        · exact List.mem_cons.mpr (.inl e)
        · exact List.mem_cons_of_mem _ (i2 g e)
theorem length_putF (f : Str) (v : V) : ∀ fs : List (Str × V), (putF f v fs).length ≤ fs.length + 1
  | [] => by simp [putF]
  | (k, x) :: r => by
    have ih := length_putF f v r
    rw [show putF f v ((k, x) :: r) = (if k = f then (k, v) :: r else (k, x) :: putF f v r) from rfl]
    by_cases hk : k = f
    · rw [if_pos hk, List.length_cons, List.length_cons]; omega
    · rw [if_neg hk, List.length_cons, List.length_cons]; omega

theorem RelO.some_of {v : V} {o : Option Value} (r : RelO (some v) o) : ∃ u, o = some u ∧ RelV v u := by
  cases o with
  | none => exact (show False from r).elim
  | some u => exact ⟨u, rfl, r⟩
theorem RelO.none_of {o : Option Value} (r : RelO none o) : o = none := by
  cases o with
  | none => rfl
  | some u => exact (show False from r).elim
theorem handed_of {v : V} {u : Value} (r : RelV v u) : PySem.W.handedIn u = true := by
  cases v with
  | non => cases (show u = Value.none from r); rfl
  | bl b => cases (show u = Value.bool b from r); rfl
  | int i => obtain ⟨t, e⟩ := (show ∃ t, u = Value.int i t from r); cases e; rfl
  | str x => obtain ⟨t, e⟩ := (show ∃ t, u = Value.str x t from r); cases e; rfl
  | byt b => obtain ⟨t, e⟩ := (show ∃ t, u = Value.bytes b t from r); cases e; rfl
  | flt b => obtain ⟨t, e⟩ := (show ∃ t, u = Value.float b t from r); cases e; rfl
  | ref a => cases (show u = Value.ref a from r); rfl
  | ty n => cases (show u = Value.type n from r); rfl

section
variable {P : Program} {w : World} {H H' : Hp} {h h' : Heap} {a C dx : Addr} {fs fs' : List (Str × V)}
theorem ins_get (hok : HOk P w H h) (e : H a = some (.ins C dx fs)) : ∃ mA, ObjM h a dx C mA ∧ (∀ f, RelO (fs.lookup f) (mA f)) ∧ PySem.Within mA (fs.map (·.1)) ∧ fs.length ≤ 1000 ∧ H dx = some (.own a) := by
  obtain ⟨d, z, ne, ob, mA, n, r, q⟩ := (show ObjOk P w H h a (.ins C dx fs) from hok a _ e)
  exact ⟨mA, ⟨ob, n, ne⟩, r, q, z, d⟩
end

structure Cls (K : PySem.W.Frag) (C : Addr) : Prop where
  pg : PySem.W.plainGet K C Str.empty = true
  hd : PySem.W.hasDictIn K C = true
  po : PySem.W.plainOver K C = true
  sa : PySem.W.findIn K (.ref C) "__setattr__" = some (some (.builtin "object.__setattr__"))
theorem Cls.get {K : PySem.W.Frag} {C : Addr} (c : Cls K C) (f : Str) : PySem.W.plainGet K C f = true := c.pg
def NoAttr (K : PySem.W.Frag) (C : Addr) (f : Str) : Prop := PySem.W.findIn K (.ref C) f = some none
theorem NoAttr.taker {K : PySem.W.Frag} {C : Addr} {f : Str} (n : NoAttr K C f) : PySem.W.takerIn K C f = some none := by
  unfold PySem.W.takerIn
  rw [show PySem.W.findIn K (.ref C) f = some none from n]
  rfl
structure Meth (K : PySem.W.Frag) (C : Addr) (m : Str) (f : Addr) : Prop where
  at_ : PySem.W.findIn K (.ref C) m = some (some (.ref f))
  fn : PySem.W.isFn K (.ref f) = true
  kp : PySem.W.keepIn K (.ref f) = true

section
variable {X : Cx} {pins : List (Addr × Obj)} {σ : St} {H : Hp} {s : Shared} {a C dx : Addr} {fs : List (Str × V)} {f : Str} {v : V} {A : Around} {E : Value → Shared → Prop}

theorem getattr_ok {b : Bool} {Q : Value → Shared → Prop} (I : Inv X pins σ H s) (e : H a = some (.ins C dx fs)) (c : Cls X.K C) (n : NoAttr X.K C f) (l : fs.lookup f = some v)
    (h : ∀ u s', Inv X pins σ H s' → RelV v u → Q u s') : wpAny (model X.prog X.w) A (getAttr (.ref a) f b) Q E s := by
  obtain ⟨mA, O, r, _, _, _⟩ := ins_get I.hok e
  obtain ⟨u, hu, ru⟩ := RelO.some_of (v := v) (o := mA f) (by rw [← l]; exact r f)
  exact get_map I.kIn O (c.get f) c.hd n hu (handed_of ru) (h u _ (I.tok _) ru)

theorem getmeth_ok {m : Str} {g : Addr} {pl : Sem Bool} {Q : Value × List Value → Shared → Prop} (I : Inv X pins σ H s) (e : H a = some (.ins C dx fs)) (c : Cls X.K C) (k : Meth X.K C m g) (l : fs.lookup m = none)
    (h : Q (.ref g, [.ref a]) s) : wpAny (model X.prog X.w) A (getMethod (.ref a) m pl) Q E s := by
  obtain ⟨mA, O, r, _, _, _⟩ := ins_get I.hok e
  have hn : mA m = none := RelO.none_of (by rw [← l]; exact r m)
  exact get_meth I.kIn O (c.get m) k.at_ k.fn hn h

theorem setattr_ok {y : V} {u : Value} {Q : Unit → Shared → Prop} (I : Inv X pins σ H s) (e : H a = some (.ins C dx fs)) (c : Cls X.K C) (n : NoAttr X.K C f) (hl : fs.length < 1000) (ry : RelV y u)
    (h : ∀ s', Inv X pins σ (upd H a (.ins C dx (putF f y fs))) s' → Q () s') : wpAny (model X.prog X.w) A (setAttr (.ref a) f u) Q E s := by
  obtain ⟨mA, O, r, wi, _, ho⟩ := ins_get I.hok e
  have hz : (fs.map (·.1)).length ≤ sizeLine := by rw [List.length_map, sizeLine_eq]; omega
  refine set_map I.kIn O c.sa c.po n.taker c.hd wi hz fun h' O' sb => h _ ?_
  have hd : ∃ o, h'.get? dx = some o := let ⟨o, _, _, e', _⟩ := O'.ns; ⟨o, e'⟩
  refine I.write (x := a) (e := dx) (by rw [e]; exact True.intro) (.inr ho) (fun b q hb z => (sb.2 b hb).trans z) hd ?_
  refine ⟨by rw [upd_ne O.ne]; exact ho, ?_, O.ne, O'.obj, _, O'.ns, fun g => ?_, fun g hg => ?_⟩
  · have := length_putF f y fs; omega
  · show RelO ((putF f y fs).lookup g) (if g = f then some u else mA g)
    rw [lookup_putF]
    by_cases q : g = f
    · rw [if_pos q, if_pos q]; exact ry
    · rw [if_neg q, if_neg q]; exact r g
  · by_cases q : g = f
    · rw [q]; exact (keys_putF f y fs).1
    · refine (keys_putF f y fs).2 g (wi g fun z => hg ?_)
      show (if g = f then some u else mA g) = none
      rw [if_neg q]; exact z

theorem Inv.made (I : Inv X pins σ H s) : Inv X pins σ (upd (upd H s.heap.objs.size (.own (s.heap.objs.size + 1))) (s.heap.objs.size + 1) (.ins C s.heap.objs.size []))
    { s with heap := (s.heap.push PySem.W.emptyDict).push (PySem.W.instObj C s.heap.objs.size) } := by
  have e1 : (s.heap.push PySem.W.emptyDict).get? s.heap.objs.size = some PySem.W.emptyDict := Heap.get?_push_size s.heap rfl
  have e2 : ((s.heap.push PySem.W.emptyDict).push (PySem.W.instObj C s.heap.objs.size)).get? (s.heap.objs.size + 1) = some (PySem.W.instObj C s.heap.objs.size) := by
    have := Heap.get?_push_size (s.heap.push PySem.W.emptyDict) (o := PySem.W.instObj C s.heap.objs.size) rfl
    rwa [Heap.size_push] at this
  have e3 : (s.heap.push PySem.W.emptyDict).Ns s.heap.objs.size (fun _ => none) := ⟨PySem.W.emptyDict, #[], _, e1, rfl, (fun e he => absurd he (by simp)), fun _ => rfl⟩
  have I1 := I.laid (a := s.heap.objs.size) (o := .own (s.heap.objs.size + 1)) (h' := s.heap.push PySem.W.emptyDict) (t' := s.toks) (fun b u q => Heap.get?_push_of_some _ q) (Nat.le_refl _) ⟨_, e1⟩
  refine I1.laid (a := s.heap.objs.size + 1) (o := .ins C s.heap.objs.size []) (t' := s.toks) (fun b u q => Heap.get?_push_of_some _ q) (Nat.le_of_eq (Heap.size_push _ _)) ?_
  have ne : s.heap.objs.size ≠ s.heap.objs.size + 1 := Nat.ne_of_lt (Nat.lt_succ_self _)
  refine ⟨by rw [upd_ne ne, upd_same], Nat.zero_le _, ne, e2, fun _ => none, (Heap.Ns1.of_empty e3).at fun o q => Heap.get?_push_of_some _ q, fun _ => True.intro, fun y hy => absurd rfl hy⟩

theorem attr_of {prog : Program} {w : World} {env : Env} {e : Expr} {f : Str} {pos : Pos} {s : Shared} {Q : Value → Shared → Prop} (hb : attributeBase e f env (eval e env) = eval e env)
    (h : wpAny (model prog w) A (eval e env) (fun o s₁ => wpAny (model prog w) A (getAttr o f true) Q E s₁) E s) : wpAny (model prog w) A (eval (.Attribute e f pos) env) Q E s :=
  Attribute_any_ h (by rw [arm_eval_Attribute, hb])
end

def tFld (K : PySem.W.Frag) (ta : TE) (f : Str) : TE := fun σ H Q => ta σ H fun x H1 => ∃ a C dx fs v, x = .ref a ∧ H1 a = some (.ins C dx fs) ∧ Cls K C ∧ NoAttr K C f ∧ fs.lookup f = some v ∧ Q v H1
def sFld (K : PySem.W.Frag) (ta tv : TE) (f : Str) : TS := fun D σ H => tv σ H fun y H1 => ta σ H1 fun x H2 => ∃ a C dx fs, x = .ref a ∧ H2 a = some (.ins C dx fs) ∧ Cls K C ∧ NoAttr K C f ∧ fs.length < 1000 ∧
  D.nx σ (upd H2 a (.ins C dx (putF f y fs)))
section
variable {X : Cx} {o e value : Expr} {f : Str} {pos pos' tpos : Pos} {ta tv : TE}
theorem pe_fld (he : PE X e ta) (hb : attributeBase e f X.env (eval e X.env) = eval e X.env) : PE X (.Attribute e f pos) (tFld X.K ta f) := by
  intro pins s σ H Q I h
  refine attr_of hb (thn (he pins s σ H _ I h) fun u s1 ⟨x, H1, I1, rx, a, C, dx, fs, v, ex, ea, c, n, l, q⟩ => ?_)
  subst ex
  obtain rfl : u = Value.ref a := rx
  exact getattr_ok I1 ea c n l fun u' s2 I2 ru => ⟨v, H1, I2, ru, q⟩
theorem ps_fld (ha : PE X o ta) (hv : PE X value tv) (hs : swapsWith value (some (.Attribute o f pos')) pos.line X.env = pure false) : PS X (.Assign [.Attribute o f pos'] value pos) (sFld X.K ta tv f) := by
  intro pins s σ H D I h
  refine plainObj_wpAny_Assign_Attribute (thn (hv pins s σ H _ I h) fun u s1 ⟨y, H1, I1, ry, q⟩ => thn (ha pins s1 σ H1 _ I1 q) fun ov s2 ⟨x, H2, I2, rx, a, C, dx, fs, ex, ea, c, n, l, q2⟩ => ?_) hs
  subst ex
  obtain rfl : ov = Value.ref a := rx
  exact setattr_ok I2 ea c n l ry fun s3 I3 => ⟨σ, _, I3, q2⟩
end

section
variable {X : Cx} {pins : List (Addr × Obj)} {σ : St} {H : Hp} {s : Shared} {A : Around} {E : Value → Shared → Prop} {Q : Value → Shared → Prop} {c : Value} {b : Bool}
inductive TyOf (K : PySem.W.Frag) (H : Hp) : V → Value → Prop where
  | non : TyOf K H .non (.type "NoneType")
  | bl (x : Bool) : TyOf K H (.bl x) (.type "bool")
  | int (i : Int) : TyOf K H (.int i) (.type "int")
  | str (x : Str) : TyOf K H (.str x) (.type "str")
  | flt (x : UInt64) : TyOf K H (.flt x) (.type "float")
  | lst {a : Addr} {xs : List V} (e : H a = some (.lst xs)) : TyOf K H (.ref a) (.type "list")
  | frz {a : Addr} {o : Obj} {xs : List V} (e : H a = some (.frz o (.lst xs))) : TyOf K H (.ref a) (.type "list")
  | tup {a : Addr} {xs : List V} (e : H a = some (.tup xs)) : TyOf K H (.ref a) (.type "tuple")
  | dK {a : Addr} {kvs : List (Key × V)} (e : H a = some (.dK kvs)) : TyOf K H (.ref a) (.type "dict")
  | dT {a : Addr} {kvs : List (List Key × V)} (e : H a = some (.dT kvs)) : TyOf K H (.ref a) (.type "dict")
  | ins {a C dx : Addr} {fs : List (Str × V)} (e : H a = some (.ins C dx fs)) (cl : Cls K C) (ha : PySem.W.findIn K (.ref C) "__class__" = some (some (.builtin "object.__class__")))
      (hn : PySem.W.specialIn K (.builtin "object.__class__") "__get__" = some (some (.builtin "getset_descriptor.__get__"))) (htk : PySem.W.takesIn K (.builtin "object.__class__") = some true)
      (hm : PySem.W.mroIn K C (.type "object") = some true) : TyOf K H (.ref a) (.ref C)
theorem isinst_ok {x : V} {u t : Value} (I : Inv X pins σ H s) (rx : RelV x u) (ty : TyOf X.K H x t) (e : PySem.W.kitOne X.K t c = some b) (h : ∀ tk, Q (.bool b) { s with toks := tk }) :
    wpAny (model X.prog X.w) A (call (.builtin "isinstance") [u, c]) Q E s := by
  cases ty with
  | non => cases (show u = Value.none from rx); exact PySem.W.kia_one PySem.W.kitx_none I.kIn True.intro e (fun z => nomatch z) h
  | bl y => cases (show u = Value.bool y from rx); exact PySem.W.kia_one PySem.W.kitx_bool I.kIn True.intro e (fun z => nomatch z) h
  | int i => obtain ⟨t, q⟩ := (show ∃ t, u = Value.int i t from rx); cases q; exact PySem.W.kia_one PySem.W.kitx_int I.kIn True.intro e (fun z => nomatch z) h
  | str y => obtain ⟨t, q⟩ := (show ∃ t, u = Value.str y t from rx); cases q; exact PySem.W.kia_one PySem.W.kitx_str I.kIn True.intro e (fun z => nomatch z) h
  | flt y => obtain ⟨t, q⟩ := (show ∃ t, u = Value.float y t from rx); cases q; exact PySem.W.kia_one PySem.W.kitx_float I.kIn True.intro e (fun z => nomatch z) h
  | @lst a xs ea =>
    cases (show u = Value.ref a from rx)
    obtain ⟨_, _, n, _, h1⟩ := (show ObjOk X.prog X.w H s.heap a (.lst xs) from I.hok a _ ea)
    exact PySem.W.kia_one PySem.W.kitx_list I.kIn ⟨_, h1, rfl⟩ e (fun z => nomatch z) h
  | @frz a ob xs ea =>
    cases (show u = Value.ref a from rx)
    obtain ⟨_, _, _, n, _, h1⟩ := (show ObjOk X.prog X.w H s.heap a (.frz ob (.lst xs)) from I.hok a _ ea)
    exact PySem.W.kia_one PySem.W.kitx_list I.kIn ⟨_, h1, rfl⟩ e (fun z => nomatch z) h
  | @tup a xs ea =>
    cases (show u = Value.ref a from rx)
    obtain ⟨_, _, _, p⟩ := (show ObjOk X.prog X.w H s.heap a (.tup xs) from I.hok a _ ea)
    obtain ⟨o, h1, h2, _⟩ := p
    exact PySem.W.kia_one PySem.W.kitx_tuple I.kIn ⟨o, h1, h2⟩ e (fun z => nomatch z) h
  | @dK a kvs ea =>
    cases (show u = Value.ref a from rx)
    obtain ⟨_, _, vs, _, p⟩ := (show ObjOk X.prog X.w H s.heap a (.dK kvs) from I.hok a _ ea)
    obtain ⟨o, es, ep, h1, h2, _⟩ := p
    exact PySem.W.kia_one PySem.W.kitx_dict I.kIn ⟨o, h1, h2.1⟩ e (fun z => nomatch z) h
  | @dT a kvs ea =>
    cases (show u = Value.ref a from rx)
    obtain ⟨_, _, xs, _, o, es, ep, h1, h2, _⟩ := (show ObjOk X.prog X.w H s.heap a (.dT kvs) from I.hok a _ ea)
    exact PySem.W.kia_one PySem.W.kitx_dict I.kIn ⟨o, h1, h2.1⟩ e (fun z => nomatch z) h
  | @ins a C dx fs ea cl ha hn htk hm =>
    cases (show u = Value.ref a from rx)
    obtain ⟨mA, O, _⟩ := ins_get I.hok ea
    obtain ⟨od, J, _⟩ := O.look
    exact PySem.W.kia_one (PySem.W.kitx_own (cl.get _) cl.hd ha hn htk hm) I.kIn J e (fun z => nomatch z) h
end
end L2

namespace L2
open PySem PySem.Spec PyProof.Rows

structure Room (k : Nat) (A : Around) : Prop where
  hd : A.handled = none
  dp : A.depth + 3 * k + 5 < recursionLimit
  un : A.units + 16 * k + 200 < cLine
theorem Room.mono {j k : Nat} {A : Around} (r : Room k A) (h : j ≤ k) : Room j A := ⟨r.hd, by have := r.dp; omega, by have := r.un; omega⟩
theorem Room.deeper {k : Nat} {A : Around} (r : Room (k + 1) A) (env : Env) : Room k (A.deeper env) :=
  ⟨r.hd, by have := r.dp; show A.depth + 1 + 3 * k + 5 < _; omega, by have := r.un; show A.units + 3 + 16 * k + 200 < _; omega⟩
theorem Room.in1 {k : Nat} {A : Around} (r : Room (k + 1) A) : Room k A.in1 :=
  ⟨r.hd, by have := r.dp; show A.depth + 3 * k + 5 < _; omega, by have := r.un; show A.units + 1 + 16 * k + 200 < _; omega⟩
theorem make_depth {A : Around} {C : Addr} {us : List Value} {kw : List (Str × Value)} : (A.under (.builtin "type.__call__" ⟨.ref C :: us, kw⟩)).depth = A.depth + 1 := by
  first | rfl | simp [Around.under, Code.weight, Code.isCreation, Code.isGuard, Code.isCaller, Code.frames, Code.isFrame, guardIds]
theorem make_units {A : Around} {C : Addr} {us : List Value} {kw : List (Str × Value)} : (A.under (.builtin "type.__call__" ⟨.ref C :: us, kw⟩)).units = A.units + 1 := by
  first | rfl | simp [Around.under, Code.cUnits, Code.frames, Code.isFrame]
theorem Room.make {k : Nat} {A : Around} (r : Room (k + 1) A) (C : Addr) (us : List Value) (kw : List (Str × Value)) : Room k (A.under (.builtin "type.__call__" ⟨.ref C :: us, kw⟩)) :=
  ⟨r.hd, by have := r.dp; rw [make_depth]; omega, by have := r.un; rw [make_units]; omega⟩
theorem Room.depth {k : Nat} {A : Around} (r : Room k A) : A.depth < recursionLimit := by have := r.dp; omega
theorem Room.units {k : Nat} {A : Around} (r : Room k A) : A.units + 64 < cLine := by have := r.un; omega
def tNil : TA := fun _ H Q => Q [] H
def tCons (ta : TE) (tr : TA) : TA := fun σ H Q => ta σ H fun x H1 => tr σ H1 fun xs H2 => Q (x :: xs) H2
section
variable {X : Cx} {e : Expr} {es : List Expr} {te : TE} {t : TA} {pos : Pos}
theorem pa_nil : PA X [] tNil := fun _ _ _ _ H Q I h => Calls.spliced_nil ⟨[], H, I, .nil, h⟩
theorem pa_cons (ha : PE X e te) (hr : PA X es t) (hs : starEach (e :: es) X.env = (false, eval e X.env) :: starEach es X.env := by rfl) : PA X (e :: es) (tCons te t) := by
  intro pos pins s σ H Q I h
  rw [hs]
  show wpAny _ _ (spliced ((false, eval e X.env) :: backTo pos (starEach es X.env))) _ _ s
  refine Calls.spliced_cons (thn (ha pins s σ H _ I h) fun u s1 ⟨x, H1, I1, r1, q1⟩ => ?_)
  exact thn (hr pos pins s1 σ H1 _ I1 q1) fun us s2 ⟨xs, H2, I2, r2, q2⟩ => ⟨x :: xs, H2, I2, .cons r1 r2, q2⟩

def tTup (t : TA) : TE := fun σ H Q => t σ H fun xs H1 => xs.length ≤ sizeLine ∧ ∀ p, H1 p = none → Q (.ref p) (upd H1 p (.tup xs))
def tLst (t : TA) : TE := fun σ H Q => t σ H fun xs H1 => xs.length ≤ sizeLine ∧ ∀ p, H1 p = none → Q (.ref p) (upd H1 p (.lst xs))
theorem pe_tup {x1} (h : PA X es t) : PE X (.Tuple es x1 pos) (tTup t) := by
  intro pins s σ H Q I hq
  refine wpAny_Tuple_spliced (thn (h pos pins s σ H _ I hq) fun us s1 ⟨xs, H1, I1, r, z, q⟩ => ⟨by rw [← r.length]; exact z, ?_⟩)
  have hf : H1 s1.heap.objs.size = none := I1.hok.fresh (Nat.le_refl _)
  refine ⟨.ref s1.heap.objs.size, upd H1 s1.heap.objs.size (.tup xs), I1.laid (t' := s1.toks) (fun b u e => Heap.get?_push_of_some _ e) (Nat.le_refl _) ?_, rfl, q _ hf⟩
  exact ⟨z, us, r, ⟨_, Heap.get?_push_size _ rfl, rfl, _, rfl⟩⟩
theorem pe_lst (h : PA X es t) : PE X (.List es pos) (tLst t) := by
  intro pins s σ H Q I hq
  refine wpAny_List_spliced (thn (h pos pins s σ H _ I hq) fun us s1 ⟨xs, H1, I1, r, z, q⟩ => ⟨by rw [← r.length]; exact z, ?_⟩)
  have hf : H1 s1.heap.objs.size = none := I1.hok.fresh (Nat.le_refl _)
  refine ⟨.ref s1.heap.objs.size, upd H1 s1.heap.objs.size (.lst xs), I1.laid (t' := s1.toks) (fun b u e => Heap.get?_push_of_some _ e) (Nat.le_refl _) ?_, rfl, q _ hf⟩
  exact ⟨z, us, 0, r, Heap.get?_push_size _ rfl⟩
end

abbrev Sp := List V → Hp → VK → XK → Prop
abbrev CXT := List Env → Hp → Shared → XK → Value → Shared → Prop

structure Env0 (P : Program) (w : World) (K : PySem.W.Frag) (mg : Str → Option Value) (base : Heap) (A : Around) (outer : List Env) (s : Shared) (H : Hp) : Prop where
  frames : A.frames = some outer
  mod : Mod K mg base
  bs : ∀ b o, base.get? b = some o → s.heap.get? b = some o ∧ H b = none
  bsz : base.objs.size ≤ s.heap.objs.size
  funs : s.heap.FunFrames base outer
  frf : ∀ b ∈ frs outer, H b = none
  hok : HOk P w H s.heap
  bare : AllBare s.gens
def CE (outer : List Env) (P : Program) (w : World) (H : Hp) (s : Shared) (Q : VK) (u : Value) (s' : Shared) : Prop :=
  ∃ v H', s'.os = s.os ∧ AllBare s'.gens ∧ Un (frs outer) [] H H' s.heap s'.heap ∧ HOk P w H' s'.heap ∧ RelV v u ∧ Q v H'
def CR (CX : CXT) (outer : List Env) (P : Program) (w : World) (H : Hp) (s : Shared) (Q : VK) (E : XK) (r : Result) (s' : Shared) : Prop :=
  match r with
  | .ok (.ret u) => CE outer P w H s Q u s'
  | .ok _ => False
  | .error e => CX outer H s E e s'
structure FnOk (P : Program) (w : World) (K : PySem.W.Frag) (mg : Str → Option Value) (base : Heap) (CX : CXT) (k : Nat) (f : Addr) (fd : FuncData) (ps : List Str) (sp : Sp) : Prop where
  len : ∀ vs H Q E, sp vs H Q E → vs.length = ps.length
  run : ∀ (A : Around) (outer : List Env) (s : Shared) (H : Hp) (args : Args) (us : List Value) (vs : List V) (Q : VK) (E : XK), Room k A → Env0 P w K mg base A outer s H → BindsTo s fd args (ps.zip us) → Vals vs us → sp vs H Q E →
    codeAny (model P w) A (.call (.ref f) args) (CR CX outer P w H s Q E) s
theorem FnOk.mono {P : Program} {w : World} {K : PySem.W.Frag} {mg : Str → Option Value} {base : Heap} {CX : CXT} {j k : Nat} {f : Addr} {fd : FuncData} {ps : List Str} {sp : Sp} (F : FnOk P w K mg base CX j f fd ps sp) (h : j ≤ k) :
    FnOk P w K mg base CX k f fd ps sp := ⟨F.len, fun A outer s H args us vs Q E hr => F.run A outer s H args us vs Q E (hr.mono h)⟩
theorem FnOk.imp {P : Program} {w : World} {K : PySem.W.Frag} {mg : Str → Option Value} {base : Heap} {CX : CXT} {k : Nat} {f : Addr} {fd : FuncData} {ps : List Str} {sp sp' : Sp} (F : FnOk P w K mg base CX k f fd ps sp)
    (h : ∀ vs H Q E, sp' vs H Q E → sp vs H Q E) : FnOk P w K mg base CX k f fd ps sp' :=
  ⟨fun vs H Q E q => F.len vs H Q E (h _ _ _ _ q), fun A outer s H args us vs Q E hr he hb hv hs => F.run A outer s H args us vs Q E hr he hb hv (h _ _ _ _ hs)⟩

theorem Env0.make {P : Program} {w : World} {K : PySem.W.Frag} {mg : Str → Option Value} {base : Heap} {A : Around} {outer : List Env} {s : Shared} {H : Hp} (e : Env0 P w K mg base A outer s H) (C : Addr) (us : List Value) (kw : List (Str × Value)) :
    Env0 P w K mg base (A.under (.builtin "type.__call__" ⟨.ref C :: us, kw⟩)) outer s H := ⟨by first | exact e.frames | (simpa [Around.under, Code.envs, Code.isFrame, pushEnvs] using e.frames), e.mod, e.bs, e.bsz, e.funs, e.frf, e.hok, e.bare⟩
theorem Env0.in1 {P : Program} {w : World} {K : PySem.W.Frag} {mg : Str → Option Value} {base : Heap} {A : Around} {outer : List Env} {s : Shared} {H : Hp} (e : Env0 P w K mg base A outer s H) :
    Env0 P w K mg base A.in1 outer s H := ⟨e.frames, e.mod, e.bs, e.bsz, e.funs, e.frf, e.hok, e.bare⟩

section
variable {X : Cx} {pins : List (Addr × Obj)} {σ : St} {H : Hp} {s s' : Shared}
theorem Inv.env0 (I : Inv X pins σ H s) : Env0 X.prog X.w X.K X.mg X.base X.A X.stack s H :=
  ⟨I.ok.frames, I.ok.mod, I.bs, Nat.le_trans I.ok.bsz I.sz, I.stack, I.stkFree, I.hok, I.bare⟩
theorem Inv.after {Q : VK} {u : Value} (I : Inv X pins σ H s) (h : CE X.stack X.prog X.w H s Q u s') : EP X pins σ Q u s' := by
  obtain ⟨v, H', os, bare, un, hok, r, q⟩ := h
  obtain ⟨hh, g, d, t, os'⟩ := s'
  obtain rfl : os' = s.os := os
  exact ⟨v, H', I.call (h' := hh) (g' := g) (d' := d) (t' := t) (ch := []) un hok bare (fun b z => absurd z (by simp)), r, q⟩
end

def tCall (sp : Sp) (dvs : List V) (E : XK) (t : TA) : TE := fun σ H Q => t σ H fun vs H1 => sp (vs ++ dvs) H1 Q E
def tMake (C : Addr) (sp : Sp) (dvs : List V) (E : XK) (t : TA) : TE := fun σ H Q => t σ H fun vs H1 => ∀ x dx, H1 x = none → H1 dx = none → dx ≠ x →
  sp (.ref x :: (vs ++ dvs)) (upd (upd H1 dx (.own x)) x (.ins C dx [])) (fun v H2 => v = .non ∧ Q (.ref x) H2) E

def Binds (K : PySem.W.Frag) (fd : FuncData) (ps : List Str) (ds : List Value) : Prop :=
  ∀ (s : Shared) (us : List Value), K.In s.heap → (us ++ ds).length = ps.length → BindsTo s fd ⟨us, []⟩ (ps.zip (us ++ ds))
theorem Binds.all {K : PySem.W.Frag} {fd : FuncData} {ps : List Str} (h : ∀ us : List Value, us.length = ps.length → bindArgs fd ⟨us, []⟩ = pure (ps.zip us)) : Binds K fd ps [] := fun s us _ hl => by
  rw [List.append_nil] at hl ⊢
  exact .of_eq (h us hl)

def Passes (CX : CXT) (X : Cx) (E : XK) : Prop := ∀ (pins : List (Addr × Obj)) (σ : St) (H : Hp) (s : Shared) (e : Value) (s' : Shared), Inv X pins σ H s → CX X.stack H s E e s' → X.xe e s'

section
variable {X : Cx} {CX : CXT} {k : Nat} {f C : Addr} {fd : FuncData} {ps : List Str} {sp : Sp} {dvs : List V} {ds : List Value} {E : XK} {x m : Str} {p pos apos : Pos} {e o : Expr} {es : List Expr} {ta : TE} {t : TA}

theorem run_fn {pins : List (Addr × Obj)} {σ : St} {H : Hp} {s : Shared} {Q : VK} {us : List Value} {vs : List V} (F : FnOk X.prog X.w X.K X.mg X.base CX k f fd ps sp) (hr : Room k X.A) (hb : Binds X.K fd ps ds) (hd : Vals dvs ds) (hx : Passes CX X E)
    (I : Inv X pins σ H s) (r : Vals vs us) (h : sp (vs ++ dvs) H Q E) : wpAny (model X.prog X.w) X.A (call (.ref f) us) (EP X pins σ Q) X.xe s := by
  have r2 : Vals (vs ++ dvs) (us ++ ds) := r.append hd
  have hl : (us ++ ds).length = ps.length := by rw [← r2.length]; exact F.len _ _ _ _ h
  refine wpAny_call (codeAny_mono (F.run X.A X.stack s H ⟨us, []⟩ (us ++ ds) (vs ++ dvs) Q E hr I.env0 (hb s us I.kIn hl) r2 h) fun r s' hq => ?_)
  cases r with
  | error e => exact hx pins σ H s e s' I hq
  | ok fl =>
    cases fl with
    | ret u => exact I.after hq
    | next => exact False.elim hq
    | brk => exact False.elim hq
    | cont => exact False.elim hq

theorem pe_call (F : FnOk X.prog X.w X.K X.mg X.base CX k f fd ps sp) (hr : Room k X.A) (hg : Gl X x) (hm : X.mg x = some (.ref f)) (hk : PySem.W.keepIn X.K (.ref f) = true) (hb : Binds X.K fd ps ds) (hd : Vals dvs ds) (hx : Passes CX X E)
    (ha : PA X (e :: es) t) (hdb : (x == ("__debug__" : Str)) = false := by decide) (he : starEach (e :: es) X.env = (false, eval e X.env) :: starEach es X.env := by rfl) (hpl : (backTo pos (starEach es X.env)).any (·.1) = false := by rfl) :
    PE X (.Call (.Name x p) (e :: es) [] pos) (tCall sp dvs E t) := by
  intro pins s σ H Q I h
  refine wpAny_Call_Name_kw (ld_glob I hg hm ?_ hdb)
  refine PySem.W.callWith_K (h₀ := X.base) I.ok.mod.kin hk (thn (ha pos pins s σ H _ I h) fun us s1 ⟨vs, H1, I1, r, q⟩ => ⟨I1.kIn, ?_⟩) he hpl
  exact run_fn F hr hb hd hx I1 r q
structure Mk (K : PySem.W.Frag) (C f : Addr) : Prop where
  makes : PySem.W.makesIn K C = true
  init : PySem.W.findIn K (.ref C) "__init__" = some (some (.ref f))
  fn : PySem.W.isFn K (.ref f) = true
  kp : PySem.W.keepIn K (.ref C) = true

theorem run_make {pins : List (Addr × Obj)} {σ : St} {H : Hp} {s : Shared} {Q : VK} {us : List Value} {vs : List V} (M : Mk X.K C f) (F : FnOk X.prog X.w X.K X.mg X.base CX k f fd ps sp) (hr : Room (k + 1) X.A) (hb : Binds X.K fd ps ds) (hd : Vals dvs ds)
    (hx : Passes CX X E) (I : Inv X pins σ H s) (r : Vals vs us)
    (h : ∀ x dx, H x = none → H dx = none → dx ≠ x → sp (.ref x :: (vs ++ dvs)) (upd (upd H dx (.own x)) x (.ins C dx [])) (fun v H2 => v = .non ∧ Q (.ref x) H2) E) :
    wpAny (model X.prog X.w) X.A (call (.ref C) us) (EP X pins σ Q) X.xe s := by
  have hq := h (s.heap.objs.size + 1) s.heap.objs.size (I.hok.fresh (Nat.le_succ _)) (I.hok.fresh (Nat.le_refl _)) (Nat.ne_of_lt (Nat.lt_succ_self _))
  have I2 := Inv.made (C := C) I
  have r2 : Vals (V.ref (s.heap.objs.size + 1) :: (vs ++ dvs)) (Value.ref (s.heap.objs.size + 1) :: (us ++ ds)) := .cons rfl (r.append hd)
  have hl : (Value.ref (s.heap.objs.size + 1) :: us ++ ds).length = ps.length := by
    have e := r2.length
    rw [F.len _ _ _ _ hq] at e
    exact e.symm
  refine wpAny_call (make_map (f := f) I.kIn M.makes M.init (beq_iff_eq.mp M.fn) (codeAny_mono (F.run _ X.stack _ _ ⟨Value.ref (s.heap.objs.size + 1) :: us, []⟩ (Value.ref (s.heap.objs.size + 1) :: (us ++ ds)) _ _ E (hr.make C us [])
    (I2.env0.make C us []) (hb _ (Value.ref (s.heap.objs.size + 1) :: us) I2.kIn hl) r2 hq) fun r s' hq' => ?_))
  cases r with
  | error e => exact hx pins σ _ _ e s' I2 hq'
  | ok fl =>
    cases fl with
    | ret u =>
      obtain ⟨v, H', I3, rv, ev, q3⟩ := I2.after hq'
      subst ev
      exact ⟨rv, ⟨V.ref (s.heap.objs.size + 1), H', I3, rfl, q3⟩⟩
    | next => exact False.elim hq'
    | brk => exact False.elim hq'
    | cont => exact False.elim hq'
theorem pe_make (M : Mk X.K C f) (F : FnOk X.prog X.w X.K X.mg X.base CX k f fd ps sp) (hr : Room (k + 1) X.A) (hg : Gl X x) (hm : X.mg x = some (.ref C)) (hb : Binds X.K fd ps ds) (hd : Vals dvs ds) (hx : Passes CX X E)
    (ha : PA X (e :: es) t) (hdb : (x == ("__debug__" : Str)) = false := by decide) (he : starEach (e :: es) X.env = (false, eval e X.env) :: starEach es X.env := by rfl) (hpl : (backTo pos (starEach es X.env)).any (·.1) = false := by rfl) :
    PE X (.Call (.Name x p) (e :: es) [] pos) (tMake C sp dvs E t) := by
  intro pins s σ H Q I h
  refine wpAny_Call_Name_kw (ld_glob I hg hm ?_ hdb)
  refine PySem.W.callWith_K (h₀ := X.base) I.ok.mod.kin M.kp (thn (ha pos pins s σ H _ I h) fun us s1 ⟨vs, H1, I1, r, q⟩ => ⟨I1.kIn, ?_⟩) he hpl
  exact run_make M F hr hb hd hx I1 r q
end

section
variable {X : Cx} {CX : CXT} {k : Nat} {f C : Addr} {fd : FuncData} {ps ks : List Str} {sp : Sp} {E : XK} {x m : Str} {p pos apos kpos : Pos} {e o : Expr} {es : List Expr} {kws : List Keyword} {te ta : TE} {t tk : TA} {nm : Option Str}
variable {g : List Value → List Value → List Value} {gV : List V → List V → List V}
end

structure FnScope (N P : List Str) (sc : Scope) : Prop where
  kind : sc.kind = .function
  co : sc.isCoroutine = false
  gen : sc.isGenerator = false
  nd : N.Nodup
  pre : N.take P.length = P
  par : ∀ x ∈ P, sc.names.lookup x = some .local ∨ sc.names.lookup x = some .cell
  nofree : ∀ y ∈ sc.names, y.2 ≠ .free

theorem bindL_out {kindOf : Str → Option NameKind} {x : Str} : ∀ {binds : List (Str × Value)} {m : Str → Option Value}, (∀ v, (x, v) ∉ binds) → bindL kindOf binds m x = m x
  | [], _, _ => rfl
  | (n, v) :: r, m, h => by
    unfold bindL
    rw [bindL_out fun w hw => h w (List.mem_cons_of_mem _ hw)]
    split
    · have : x ≠ n := by rintro rfl; exact h v List.mem_cons_self
      simp [this]
    · rfl
theorem bindC_out {kindOf : Str → Option NameKind} {x : Str} : ∀ {binds : List (Str × Value)} {m : Str → Option Value}, (∀ v, (x, v) ∉ binds) → bindC kindOf binds m x = m x
  | [], _, _ => rfl
  | (n, v) :: r, m, h => by
    unfold bindC
    rw [bindC_out fun w hw => h w (List.mem_cons_of_mem _ hw)]
    split
    · rfl
    · have : x ≠ n := by rintro rfl; exact h v List.mem_cons_self
      simp [this]
theorem bindL_get {kindOf : Str → Option NameKind} {x : Str} {v : Value} : ∀ {P : List Str} {vs : List Value} {i : Nat} {m : Str → Option Value}, P.Nodup → P[i]? = some x → vs[i]? = some v → kindOf x = some .local →
    bindL kindOf (P.zip vs) m x = some v
  | [], _, _, _, _, h, _, _ => by simp at h
  | _ :: _, [], _, _, _, _, h, _ => by simp at h
  | p :: P, w :: vs, 0, m, nd, h1, h2, hk => by
    simp at h1 h2; subst h1; subst h2
    show bindL kindOf ((p, w) :: P.zip vs) m p = _
    unfold bindL
    rw [bindL_out fun v hv => (List.nodup_cons.mp nd).1 (List.of_mem_zip hv).1, if_pos hk]
    simp
  | p :: P, w :: vs, i + 1, m, nd, h1, h2, hk => by
    show bindL kindOf ((p, w) :: P.zip vs) m x = _
    unfold bindL
    exact bindL_get (i := i) (List.nodup_cons.mp nd).2 (by simpa using h1) (by simpa using h2) hk
theorem bindC_get {kindOf : Str → Option NameKind} {x : Str} {v : Value} : ∀ {P : List Str} {vs : List Value} {i : Nat} {m : Str → Option Value}, P.Nodup → P[i]? = some x → vs[i]? = some v → kindOf x ≠ some .local →
    bindC kindOf (P.zip vs) m x = some v
  | [], _, _, _, _, h, _, _ => by simp at h
  | _ :: _, [], _, _, _, _, h, _ => by simp at h
  | p :: P, w :: vs, 0, m, nd, h1, h2, hk => by
    simp at h1 h2; subst h1; subst h2
    show bindC kindOf ((p, w) :: P.zip vs) m p = _
    unfold bindC
    rw [bindC_out fun v hv => (List.nodup_cons.mp nd).1 (List.of_mem_zip hv).1, if_neg hk]
    simp
  | p :: P, w :: vs, i + 1, m, nd, h1, h2, hk => by
    show bindC kindOf ((p, w) :: P.zip vs) m x = _
    unfold bindC
    exact bindC_get (i := i) (List.nodup_cons.mp nd).2 (by simpa using h1) (by simpa using h2) hk

def start (N : List Str) (vs : List V) : St := vs.map some ++ List.replicate (N.length - vs.length) none

def cxOf (CX : CXT) (P : Program) (w : World) (K : PySem.W.Frag) (mg : Str → Option Value) (base : Heap) (N : List Str) (qual : Str) (scope : Scope) (f : Addr) (cd : Value) (A : Around) (outer : List Env) (s : Shared) (H : Hp) (E : XK) : Cx where
  prog := P
  w := w
  K := K
  mg := mg
  base := base
  A := A.deeper (envOfC qual scope s.heap.objs.size f cd)
  N := N
  s₀ := s
  H₀ := H
  env := envOfC qual scope s.heap.objs.size f cd
  outer := outer
  stack := envOfC qual scope s.heap.objs.size f cd :: outer
  ex := []
  calm := true
  fn := fun _ => true
  pn := []
  xe := fun e s' => wpAny (model P w) (A.deeper (envOfC qual scope s.heap.objs.size f cd)) (leaving (envOfC qual scope s.heap.objs.size f cd) e) (fun _ s'' => CX outer H s E e s'') (fun e' s'' => CX outer H s E e' s'') s'

theorem cell_has {sc : Scope} {n : Nat} {x : Str} (h : sc.names.lookup x = some .cell) : ∃ c, (cellsFrom n sc.names []).lookup x = some c := by
  have q := PySem.W.cellsFrom_some sc.names n [] (.inl h)
  exact Option.isSome_iff_exists.mp q

theorem inv_start {CX : CXT} {P : Program} {w : World} {K : PySem.W.Frag} {mg : Str → Option Value} {base : Heap} {N ps : List Str} {qual : Str} {scope : Scope} {f : Addr} {cd : Value} {A : Around} {outer : List Env} {s s1 : Shared} {H : Hp} {E : XK} {us : List Value} {vs : List V}
    (S : FnScope N ps scope) (hd : A.handled = none) (e0 : Env0 P w K mg base A outer s H) (hl : vs.length = ps.length) (r : Vals vs us)
    (x : InCallC s s.heap.objs.size (bindL (envOfC qual scope s.heap.objs.size f cd).kindOf (ps.zip us) fun _ => none) (cellsFrom (s.heap.objs.size + 1) scope.names []) (bindC (envOfC qual scope s.heap.objs.size f cd).kindOf (ps.zip us) fun _ => none) s1) :
    Inv (cxOf CX P w K mg base N qual scope f cd A outer s H E) [] (start N vs) H s1 := by
  have hpl : ps.length ≤ N.length := by have := congrArg List.length S.pre; rw [List.length_take] at this; omega
  obtain ⟨h1, tk, rfl, hk⟩ := x.done
  have noA : ∀ b : Addr, b ∉ (cxOf CX P w K mg base N qual scope f cd A outer s H E).ex := fun b z => absurd (show b ∈ ([] : List Addr) from z) (by simp)
  refine ⟨⟨e0.mod, S.kind, rfl, rfl, Nat.le_refl _, fun y z c h1 h2 => ?_, fun y hy => ?_, fun y c _ h => ?_, fun _ => hd, Around.frames_deeper e0.frames, .inr ⟨rfl, rfl⟩, fun b z => absurd z (noA b), e0.bs, e0.bsz, fun b _ _ => noA b, fun b z => absurd z (noA b), e0.funs, e0.frf⟩,
    rfl, e0.bare, Un.kept hk, ⟨_, x.toInCall.ns, fun i y v h1 h2 h3 => ?_⟩, fun y c h => ⟨_, x.cell y c h⟩, e0.hok.fresh (Nat.le_refl _), fun y c h => ?_, fun p hp => absurd (show p ∈ ([] : List (Addr × Obj)) from hp) (by simp), e0.hok.kept hk, ?_⟩
  · exact name_of_addr x.apart (PySem.mem_of_lookup h1) (PySem.mem_of_lookup h2)
  · have hy : scope.names.lookup y = some .cell ∨ scope.names.lookup y = some .free := hy
    rcases hy with hy | hy
    · exact cell_has hy
    · exact absurd rfl (S.nofree _ (PySem.mem_of_lookup hy))
  · exact Nat.le_of_lt (x.above y c (PySem.mem_of_lookup h))
  · have hi : i < vs.length := by
      unfold start at h2
      by_cases hi : i < vs.length
      · exact hi
      · rw [List.getElem?_append_right (by simpa using hi)] at h2
        rw [List.getElem?_replicate] at h2
        split at h2 <;> cases h2
    have ha : vs[i]? = some v := by
      unfold start at h2
      rw [List.getElem?_append_left (by simpa using hi), List.getElem?_map] at h2
      cases e : vs[i]? with
      | none => rw [e] at h2; cases h2
      | some a => rw [e] at h2; cases h2; rfl
    obtain ⟨u, hu, rv⟩ := r.get ha
    have hp : ps[i]? = some y := by
      rw [← S.pre, List.getElem?_take_of_lt (by omega)]; exact h1
    have ndP : ps.Nodup := by rw [← S.pre]; exact S.nd.sublist (List.take_sublist _ _)
    refine ⟨u, rv, ?_⟩
    rcases S.par y (List.mem_of_getElem? hp) with k | k
    · exact .inl ⟨k, bindL_get ndP hp hu k⟩
    · obtain ⟨c, e⟩ := cell_has (n := s.heap.objs.size + 1) k
      refine .inr ⟨.inl k, c, e, ?_⟩
      have q := x.cell y c e
      rw [bindC_get ndP hp hu (by show scope.names.lookup y ≠ _; rw [k]; decide)] at q
      exact q
  · exact e0.hok.fresh (Nat.le_of_lt (x.above y c (PySem.mem_of_lookup h)))
  · unfold start
    show _ = N.length
    rw [List.length_append, List.length_map, List.length_replicate]
    omega

theorem fn_of {CX : CXT} {P : Program} {w : World} {K : PySem.W.Frag} {mg : Str → Option Value} {base : Heap} {k : Nat} {f : Addr} {name qual : Str} {params : Arguments} {body : List Stmt} {scope : Scope} {dV kV doc pm cdv ct oc : Value} {an od : Option Addr}
    {osl : Array (Option Value)} {N ps : List Str} {sp : Sp} (lk : K.lookup f = some ⟨oc, od, .func (PySem.W.fnOf name qual params body scope dV kV doc pm an cdv ct), osl⟩) (hcd : PySem.W.codeIn K cdv qual = true) (S : FnScope N ps scope)
    (len : ∀ vs H Q E, sp vs H Q E → vs.length = ps.length)
    (hbody : ∀ (A : Around) (outer : List Env) (s : Shared) (H : Hp) (vs : List V) (Q : VK) (E : XK), Room k (A.deeper (envOfC qual scope s.heap.objs.size f cdv)) → sp vs H Q E →
      ∃ t, PSs (cxOf CX P w K mg base N qual scope f cdv A outer s H E) body t ∧ t { nx := fun _ H' => Q .non H', rt := Q } (start N vs) H) :
    FnOk P w K mg base CX (k + 1) f (PySem.W.fnOf name qual params body scope dV kV doc pm an cdv ct) ps sp := by
  refine ⟨len, fun A outer s H args us vs Q E hr e0 hb r hsp => ?_⟩
  have hl := len _ _ _ _ hsp
  have KX : K.In s.heap := e0.mod.kin.keeps fun b o e => (e0.bs b o e).1
  have lim : s.heap.NoLimit := e0.mod.nolimit.keeps fun b o e => (e0.bs b o e).1
  have hkind : ∀ y ∈ ps.zip us, scope.names.lookup y.1 = some .local ∨ (scope.names.lookup y.1 = some .cell ∧ ((cellsFrom (s.heap.objs.size + 1) scope.names []).lookup y.1).isSome = true) := fun ⟨n, v⟩ hy => by
    rcases S.par n (List.of_mem_zip hy).1 with q | q
    · exact .inl q
    · exact .inr ⟨q, PySem.W.cellsFrom_some _ _ _ (.inl q)⟩
  refine codeAny_call_function hr.depth (KX _ _ lk) rfl S.co S.gen rfl (PySem.W.codeRec_of KX hcd) (hb _ _ _ _ ?_)
  refine wpAny_newFunctionEnv_cells S.kind hkind fun env he s1 x => ?_
  subst he
  refine ⟨lim.keeps x.toInCall.keep, codeAny_func ?_⟩
  obtain ⟨t, ht, hq⟩ := hbody A outer s H vs Q E (hr.deeper _) hsp
  have I : Inv (cxOf CX P w K mg base N qual scope f cdv A outer s H E) [] (start N vs) H s1 := inv_start S hr.hd e0 hl r x
  refine wpAny_mono (ht [] s1 (start N vs) H _ I hq) (fun fl s' hs => ?_) fun e s' hs => hs
  have fin : ∀ {σ' : St} {H' : Hp} {v : V} {u : Value}, Inv (cxOf CX P w K mg base N qual scope f cdv A outer s H E) [] σ' H' s' → RelV v u → Q v H' → CE outer P w H s Q u s' :=
    fun {σ' H' v u} J rv q => ⟨v, H', J.os, J.bare, J.base, J.hok, rv, q⟩
  cases fl with
  | ret u =>
    obtain ⟨v, σ', H', J, rv, q⟩ := hs
    exact fin J rv q
  | next =>
    obtain ⟨σ', H', J, q⟩ := hs
    exact fin (v := V.non) (u := Value.none) J rfl q
  | brk =>
    obtain ⟨_, _, _, q⟩ := hs
    exact False.elim q
  | cont =>
    obtain ⟨_, _, _, q⟩ := hs
    exact False.elim q
end L2

namespace L2
open PySem PySem.Spec PyProof.Rows
section
variable {X : Cx} {x : Str} {p pos : Pos} {e : Expr} {es : List Expr} {t : TA} {id T : String} {r : List V → Hp → VK → Prop}

def tCB (r : List V → Hp → VK → Prop) (t : TA) : TE := fun σ H Q => t σ H fun vs H1 => r vs H1 Q
theorem pe_callB (hc : CallR X (.builtin id) r) (hg : Gl X x) (hm : X.mg x = none) (hv : bootBuiltins x = some (.builtin id)) (ha : PA X (e :: es) t) (hn : x ≠ "__name__" := by decide) (hdb : (x == ("__debug__" : Str)) = false := by decide)
    (he : starEach (e :: es) X.env = (false, eval e X.env) :: starEach es X.env := by rfl) (hpl : (backTo pos (starEach es X.env)).any (·.1) = false := by rfl) : PE X (.Call (.Name x p) (e :: es) [] pos) (tCB r t) := by
  intro pins s σ H Q I h
  refine wpAny_Call_Name_kw (ld_blt I hg hm hv ?_ hn hdb)
  exact PyProof.Rows.callWith_builtin1 (thn (ha pos pins s σ H _ I h) fun us s1 ⟨vs, H1, I1, r1, q1⟩ => hc pins s1 σ H1 vs us Q I1 r1 q1) he hpl
theorem pe_callTy (hc : CallR X (.type T) r) (hg : Gl X x) (hm : X.mg x = none) (hv : bootBuiltins x = some (.type T)) (ha : PA X (e :: es) t) (hn : x ≠ "__name__" := by decide) (hdb : (x == ("__debug__" : Str)) = false := by decide)
    (he : starEach (e :: es) X.env = (false, eval e X.env) :: starEach es X.env := by rfl) (hpl : (backTo pos (starEach es X.env)).any (·.1) = false := by rfl) : PE X (.Call (.Name x p) (e :: es) [] pos) (tCB r t) := by
  intro pins s σ H Q I h
  refine wpAny_Call_Name_kw (ld_blt I hg hm hv ?_ hn hdb)
  exact PyProof.Rows.callWith_type1 (thn (ha pos pins s σ H _ I h) fun us s1 ⟨vs, H1, I1, r1, q1⟩ => hc pins s1 σ H1 vs us Q I1 r1 q1) he hpl
end
end L2

namespace HT
open PySem PyProof.Rows

section
open PySem.SeqAt
open PySem.AutoSeq1 (wpAny_loadPart')
open PySem.MeetsSeq PySem.MeetsSeq2 PySem.MeetsSeq3

end

section
variable {prog : Program} {w : World} {A : Around} {E : Value → Shared → Prop} {s : Shared}

def sIx (n d : Nat) : Option Int → Nat
  | none => d
  | some v => if v < 0 then (v + (n : Int)).toNat else min v.toNat n
theorem sIx_nat (n d k : Nat) : sIx n d (some (k : Int)) = min k n := by
  show (if (k : Int) < 0 then ((k : Int) + (n : Int)).toNat else min (k : Int).toNat n) = min k n
  rw [if_neg (by omega), Int.toNat_natCast]
end
end HT

namespace L2
open PySem PySem.Spec PyProof.Rows

abbrev TO := St → Hp → (Option Int → Hp → Prop) → Prop
def PO (X : Cx) (e : Option Expr) (t : TO) : Prop :=
  ∀ (pins : List (Addr × Obj)) (s : Shared) (σ : St) (H : Hp) (Q : Option Int → Hp → Prop), Inv X pins σ H s → t σ H Q →
    wpAny (model X.prog X.w) X.A (evalPart e X.env) (fun u s' => ∃ o H', Inv X pins σ H' s' ∧ IsPart u o ∧ Q o H') X.xe s
def tNoPart : TO := fun _ H Q => Q none H
def tPart (t : TE) : TO := fun σ H Q => t σ H fun x H1 => ∃ i, x = .int i ∧ Q (some i) H1

section
variable {X : Cx} {e : Expr} {te : TE} {lo hi : Option Expr} {tl th : TO} {pos p2 : Pos}

theorem po_none : PO X none tNoPart := by
  intro pins s σ H Q I h
  rw [evalPart_none]
  exact wpAny_pure ⟨none, H, I, .none, h⟩
theorem po_some (h : PE X e te) : PO X (some e) (tPart te) := by
  intro pins s σ H Q I hw
  rw [evalPart_some]
  refine thn (h pins s σ H _ I hw) fun u s1 ⟨x, H1, I1, r1, q1⟩ => ?_
  obtain ⟨i, rfl, q⟩ := q1
  obtain ⟨t, rfl⟩ := r1
  exact ⟨some i, H1, I1, .int i t, q⟩

def SlR (X : Cx) (r : V → Option Int → Option Int → Hp → VK → Prop) : Prop :=
  ∀ (pins : List (Addr × Obj)) (s : Shared) (σ : St) (H : Hp) (x : V) (v vl vu : Value) (lo hi : Option Int) (sl : Addr) (Q : VK), Inv X pins σ H s → RelV x v → s.heap.IsSliceOf sl vl vu .none → IsPart vl lo → IsPart vu hi → r x lo hi H Q →
    ∃ T id, typeLookup (.type T) "__getitem__" = pure (some (.builtin id)) ∧ s.TypeIs v T ∧ wpAny (model X.prog X.w) X.A (getItem v (.ref sl)) (EP X pins σ Q) X.xe s
theorem SlR.or {r r' : V → Option Int → Option Int → Hp → VK → Prop} (h : SlR X r) (h' : SlR X r') : SlR X (fun x lo hi H Q => r x lo hi H Q ∨ r' x lo hi H Q) := by
  intro pins s σ H x v vl vu lo hi sl Q I rx hs pl pu q
  rcases q with q | q
  · exact h pins s σ H x v vl vu lo hi sl Q I rx hs pl pu q
  · exact h' pins s σ H x v vl vu lo hi sl Q I rx hs pl pu q
def tSl (r : V → Option Int → Option Int → Hp → VK → Prop) (te : TE) (tl th : TO) : TE := fun σ H Q => te σ H fun x H1 => tl σ H1 fun l H2 => th σ H2 fun u H3 => r x l u H3 Q
theorem pe_slice {r : V → Option Int → Option Int → Hp → VK → Prop} (hr : SlR X r) (he : PE X e te) (hl : PO X lo tl) (hu : PO X hi th) : PE X (.Subscript e (.Slice lo hi none p2) pos) (tSl r te tl th) := by
  intro pins s σ H Q I h
  refine Subscript_ (thn (he pins s σ H _ I h) fun v s1 ⟨x, H1, I1, r1, q1⟩ => ?_)
  refine wpAny_Slice (thn (hl pins s1 σ H1 _ I1 q1) fun vl s2 ⟨l, H2, I2, pl, q2⟩ => thn (hu pins s2 σ H2 _ I2 q2) fun vu s3 ⟨u, H3, I3, pu, q3⟩ => ?_)
  rw [evalPart_none]
  refine wpAny_pure ?_
  have I4 : Inv X pins σ H3 { s3 with heap := s3.heap.push { cls := .type "slice", data := .fields #[vl, vu, .none] } } := I3.kept (t' := s3.toks) fun b ob q => Heap.get?_push_of_some _ q
  obtain ⟨T, id, hT, ht, hg⟩ := hr pins { s3 with heap := s3.heap.push { cls := .type "slice", data := .fields #[vl, vu, .none] } } σ H3 x v vl vu l u s3.heap.objs.size Q I4 r1 (Heap.IsSliceOf.new ..) pl pu q3
  show wpAny (model X.prog X.w) X.A (subscriptTail e (.Slice lo hi none p2) v (.ref s3.heap.objs.size)) (EP X pins σ Q) X.xe { s3 with heap := s3.heap.push { cls := .type "slice", data := .fields #[vl, vu, .none] } }
  exact tail_any (ops := [.ref s3.heap.objs.size, v]) ht hT hg (by with_unfolding_all rfl)

def cutV (xs : List V) (lo hi : Option Int) : List V := (xs.drop (HT.sIx xs.length 0 lo)).take (HT.sIx xs.length xs.length hi - HT.sIx xs.length 0 lo)
theorem cutV_length (xs : List V) (lo hi : Option Int) : (cutV xs lo hi).length ≤ xs.length := by
  unfold cutV
  rw [List.length_take, List.length_drop]
  omega
end
end L2

namespace L2
open PySem PySem.Spec PyProof.Rows

def ixN (n : Nat) (i : Int) : Option Nat := if 0 ≤ i then (if i < n then some i.toNat else none) else if -(n : Int) ≤ i then some (i + n).toNat else none
def atI {α : Type} (xs : List α) (i : Int) : Option α := (ixN xs.length i).bind fun j => xs[j]?
theorem ixN_seq {n : Nat} {i : Int} {j : Nat} (h : ixN n i = some j) : seqIndex? i n = some j ∧ j < n ∧ -(n : Int) ≤ i ∧ i < n := by
  unfold ixN at h
  by_cases h0 : 0 ≤ i
  · rw [if_pos h0] at h
    by_cases h1 : i < n
    · rw [if_pos h1] at h
      have e : i.toNat = j := Option.some.inj h
      exact ⟨by rw [seqIndex_of h0 h1, e], by omega, by omega, h1⟩
    · rw [if_neg h1] at h; cases h
  · rw [if_neg h0] at h
    by_cases h1 : -(n : Int) ≤ i
    · rw [if_pos h1] at h
      have e : (i + n).toNat = j := Option.some.inj h
      exact ⟨by rw [seqIndex_neg (by omega) h1, e], by omega, h1, by omega⟩
    · rw [if_neg h1] at h; cases h
theorem atI_get {α : Type} {xs : List α} {i : Int} {v : α} (h : atI xs i = some v) : ∃ j, seqIndex? i xs.length = some j ∧ xs[j]? = some v ∧ j < xs.length ∧ -(xs.length : Int) ≤ i ∧ i < xs.length := by
  unfold atI at h
  cases e : ixN xs.length i with
  | none => rw [e] at h; cases h
  | some j =>
    rw [e] at h
    obtain ⟨h1, h2, h3, h4⟩ := ixN_seq e
    exact ⟨j, h1, h, h2, h3, h4⟩
theorem atI_nat {α : Type} {xs : List α} {j : Nat} {v : α} (h : xs[j]? = some v) : atI xs (j : Int) = some v := by
  have hj : j < xs.length := (List.getElem?_eq_some_iff.mp h).1
  have e : ixN xs.length (j : Int) = some j := by
    unfold ixN
    rw [if_pos (by omega), if_pos (by omega)]; simp
  unfold atI; rw [e]; exact h
theorem atI_last {α : Type} (xs : List α) (v : α) : atI (xs ++ [v]) (-1) = some v := by
  have hl : (xs ++ [v]).length = xs.length + 1 := by simp
  have e : ixN (xs ++ [v]).length (-1) = some xs.length := by
    unfold ixN
    rw [hl, if_neg (by decide), if_pos (by omega)]
    congr 1
    omega
  unfold atI
  rw [e]
  show (xs ++ [v])[xs.length]? = some v
  simp

def PlainIx (b : Expr) : Prop := ∀ o i, subscripted b false o i = operate [o, i] (getItem o i)
def IxR (X : Cx) (r : R2) : Prop :=
  ∀ (value slice : Expr) (pins : List (Addr × Obj)) (s : Shared) (σ : St) (H : Hp) (x y : V) (v u : Value) (Q : VK), Inv X pins σ H s → RelV x v → RelV y u → r x y H Q →
    subscripted slice false v u = operate [v, u] (getItem v u) → wpAny (model X.prog X.w) X.A (subscriptTail value slice v u) (EP X pins σ Q) X.xe s
def MtR (X : Cx) (id : String) (r : V → List V → Hp → VK → Prop) : Prop :=
  ∀ (pins : List (Addr × Obj)) (s : Shared) (σ : St) (H : Hp) (x : V) (xs : List V) (v : Value) (us : List Value) (Q : VK), Inv X pins σ H s → RelV x v → Vals xs us → r x xs H Q →
    wpAny (model X.prog X.w) X.A (call (.builtin id) (v :: us)) (EP X pins σ Q) X.xe s
section
variable {X : Cx} {a b : Expr} {ta tb : TE} {pos : Pos}
theorem IxR.or {r r' : R2} (h : IxR X r) (h' : IxR X r') : IxR X (fun x y H Q => r x y H Q ∨ r' x y H Q) := by
  intro value slice pins s σ H x y v u Q I rx ry q hs
  rcases q with q | q
  · exact h value slice pins s σ H x y v u Q I rx ry q hs
  · exact h' value slice pins s σ H x y v u Q I rx ry q hs
theorem MtR.or {id : String} {r r' : V → List V → Hp → VK → Prop} (h : MtR X id r) (h' : MtR X id r') : MtR X id (fun x xs H Q => r x xs H Q ∨ r' x xs H Q) := by
  intro pins s σ H x xs v us Q I rx rs q
  rcases q with q | q
  · exact h pins s σ H x xs v us Q I rx rs q
  · exact h' pins s σ H x xs v us Q I rx rs q
theorem pe_ix {r : R2} (hr : IxR X r) (ha : PE X a ta) (hb : PE X b tb) (hs : PlainIx b) : PE X (.Subscript a b pos) (tOp r ta tb) := by
  intro pins s σ H Q I h
  exact Subscript_ (binT ha hb I h fun v u s2 x y H2 I2 rx ry q => hr a b pins s2 σ H2 x y v u Q I2 rx ry q (hs _ _))

def rIxL (K : PySem.W.Frag) : R2 := fun x y H Q => ∃ p xs i v, x = .ref p ∧ y = .int i ∧ SqL K H p xs ∧ atI xs i = some v ∧ Q v H
def rIxT (K : PySem.W.Frag) : R2 := fun x y H Q => ∃ p xs i v, x = .ref p ∧ y = .int i ∧ SqT K H p xs ∧ atI xs i = some v ∧ Q v H
def rIxS : R2 := fun x y H Q => ∃ z i c, x = .str z ∧ y = .int i ∧ z.length ≤ sizeLine ∧ atI z.cps.toList i = some c ∧ Q (.str ⟨#[c]⟩) H
theorem ix_list : IxR X (rIxL X.K) := by
  intro value slice pins s σ H x y v u Q I rx ry h hs
  obtain ⟨p, xs, i, z, rfl, rfl, hq, he, q⟩ := h
  cases rx
  obtain ⟨t, rfl⟩ := ry
  obtain ⟨its, r, pl, hz⟩ := I.list hq
  obtain ⟨j, h1, h2, h3, h4, h5⟩ := atI_get he
  obtain ⟨w, ew, rw'⟩ := r.get h2
  have hl := r.length
  have hn := line63
  have fin : EP X pins σ Q w s := ⟨z, H, I, rw', q⟩
  by_cases h0 : 0 ≤ i
  · have hj : i.toNat = j := by
      rw [seqIndex_of h0 h5] at h1
      exact Option.some.inj h1
    exact item_listR pl.isList h0 (by omega) (by rw [hj]; simpa using ew) fin hs
  · have hj : (i + (its.toArray.size : Int)).toNat = j := by
      rw [seqIndex_neg (by omega) h4] at h1
      rw [List.size_toArray, ← hl]
      exact Option.some.inj h1
    exact subscriptTail_builtinR (x := w) pl.isList.typeIs slot_list_getitem.lookup
      (wpAny_getItem_list_neg (Q := fun r s' => r = w ∧ EP X pins σ Q r s') pl.isList (by omega) (by rw [List.size_toArray] <;> omega) (by omega) (by rw [hj]; simpa using ew) ⟨rfl, fin⟩) hs
theorem ix_tup : IxR X (rIxT X.K) := by
  intro value slice pins s σ H x y v u Q I rx ry h hs
  obtain ⟨p, xs, i, z, rfl, rfl, hq, he, q⟩ := h
  cases rx
  obtain ⟨t, rfl⟩ := ry
  obtain ⟨its, r, pl, hz⟩ := I.tuple hq
  obtain ⟨j, h1, h2, h3, h4, h5⟩ := atI_get he
  obtain ⟨w, ew, rw'⟩ := r.get h2
  have hl := r.length
  have hn := line63
  have fin : EP X pins σ Q w s := ⟨z, H, I, rw', q⟩
  exact subscriptTail_builtinR (x := w) pl.typeIs slot_tuple_getitem.lookup
    (getItem_tuple (j := j) (Q := fun r s' => r = w ∧ EP X pins σ Q r s') pl (by omega) (by omega) (by rw [List.size_toArray, ← hl]; exact h1) (by simpa using ew) ⟨rfl, fin⟩) hs
theorem ix_str : IxR X rIxS := by
  intro value slice pins s σ H x y v u Q I rx ry h hs
  obtain ⟨z, i, c, rfl, rfl, hz, he, q⟩ := h
  obtain ⟨t, rfl⟩ := rx
  obtain ⟨t', rfl⟩ := ry
  obtain ⟨j, h1, h2, h3, h4, h5⟩ := atI_get he
  have hl : z.cps.toList.length = z.length := by simp [Str.length]
  rw [hl] at h1 h4 h5
  have hn := line63
  exact tail_any (typeIs_str s z t) slot_str_getitem.lookup (getItem_str (c := c) (by
    have e1 : decide (i < -(2 ^ 63 : Int)) = false := decide_eq_false (by omega)
    have e2 : decide (i ≥ 2 ^ 63) = false := decide_eq_false (by omega)
    rw [e1, e2, Bool.or_false]) (by rw [h1]; simpa using h2) ⟨.str ⟨#[c]⟩, H, I.tok _, ⟨_, rfl⟩, q⟩) hs
def rIx (K : PySem.W.Frag) : R2 := fun x y H Q => rIxL K x y H Q ∨ rIxT K x y H Q ∨ rIxS x y H Q
theorem ix_seq : IxR X (rIx X.K) := ix_list.or (ix_tup.or ix_str)

theorem mapSeq_set (its : List Value) (n j : Nat) (u : Value) : Obj.mapSeq (·.setIfInBounds j u) { cls := .type "list", data := .seq its.toArray n } = { cls := .type "list", data := .seq (its.set j u).toArray n } := by
  simp [Obj.mapSeq]
theorem Inv.lst {pins : List (Addr × Obj)} {σ : St} {H : Hp} {s : Shared} {p : Addr} {xs : List V} (I : Inv X pins σ H s) (h : H p = some (.lst xs)) :
    ∃ (its : List Value) (n : Nat), Vals xs its ∧ s.heap.get? p = some { cls := .type "list", data := .seq its.toArray n } ∧ xs.length ≤ sizeLine := by
  obtain ⟨z, its, n, r, e⟩ := I.hok p _ h
  exact ⟨its, n, r, e, z⟩
theorem Inv.lstUpd {pins : List (Addr × Obj)} {σ : St} {H : Hp} {s : Shared} {p : Addr} {xs ys : List V} {its its' : List Value} {n n' : Nat} {f : Obj → Obj} (I : Inv X pins σ H s) (h : H p = some (.lst xs))
    (ho : s.heap.get? p = some { cls := .type "list", data := .seq its.toArray n }) (hf : f { cls := .type "list", data := .seq its.toArray n } = { cls := .type "list", data := .seq its'.toArray n' }) (r : Vals ys its') (hz : ys.length ≤ sizeLine) (t : Nat) :
    Inv X pins σ (upd H p (.lst ys)) { s with heap := s.heap.update p f, toks := t } := by
  have e : (s.heap.update p f).get? p = some { cls := .type "list", data := .seq its'.toArray n' } := by
    rw [Heap.get?_update_self f ho (by rw [hf] <;> rfl), hf]
  refine I.write (x := p) (e := p) (by rw [h]; trivial) (.inl rfl) (fun b u hb q => (Heap.get?_update_other _ _ (Ne.symm hb)).trans q) ⟨_, e⟩ ?_
  exact ⟨hz, its', n', r, e⟩
def rSetL : V → V → V → Hp → (Hp → Prop) → Prop := fun o i v H Q => ∃ p xs k j, o = .ref p ∧ i = .int k ∧ H p = some (.lst xs) ∧ ixN xs.length k = some j ∧ Q (upd H p (.lst (xs.set j v)))
theorem set_list : PSet X rSetL := by
  intro pins s σ H o i v ov iv u Q I ro ri rv h
  obtain ⟨p, xs, k, j, rfl, rfl, hp, hj, q⟩ := h
  cases ro
  obtain ⟨t, rfl⟩ := ri
  obtain ⟨its, n, r, ho, hz⟩ := I.lst hp
  obtain ⟨h1, h2, h3, h4⟩ := ixN_seq hj
  have hl := r.length
  have hn := line63
  have I' : Inv X pins σ (upd H p (.lst (xs.set j v))) { s with heap := s.heap.update p (Obj.mapSeq (·.setIfInBounds j u)) } :=
    I.lstUpd hp ho (mapSeq_set its n j u) (r.set rv j) (by rw [List.length_set]; exact hz) s.toks
  by_cases h0 : 0 ≤ k
  · have hk : k.toNat = j := by
      rw [seqIndex_of h0 h4] at h1
      exact Option.some.inj h1
    exact PySem.W.ki_setAt ho h0 (by omega) (by rw [List.size_toArray, ← hl]; exact h4) (by rw [hk]; exact ⟨_, I', q⟩)
  · have hk : (k + (its.toArray.size : Int)).toNat = j := by
      rw [seqIndex_neg (by omega) h3] at h1
      rw [List.size_toArray, ← hl]
      exact Option.some.inj h1
    exact PySem.W.ki_setBack ho (by omega) (by rw [List.size_toArray, ← hl]; exact h3) (by omega) (by rw [hk]; exact ⟨_, I', q⟩)

theorem slice_bounds (lo hi : Option Int) (n : Nat) : (sliceBounds lo hi none n).1 = ((HT.sIx n 0 lo : Nat) : Int) ∧ (sliceBounds lo hi none n).2.1 = ((HT.sIx n n hi : Nat) : Int) ∧ (sliceBounds lo hi none n).2.2 = 1 := by
  refine ⟨?_, ?_, rfl⟩
  · cases lo with
    | none => simp [sliceBounds, HT.sIx]
    | some i =>
      simp only [sliceBounds, HT.sIx, Option.getD_none, show (1 : Int) > 0 by decide, if_true]
      by_cases h : i < 0
      · simp only [h, if_true] <;> omega
      · simp only [h, if_false] <;> omega
  · cases hi with
    | none => simp [sliceBounds, HT.sIx]
    | some i =>
      simp only [sliceBounds, HT.sIx, Option.getD_none, show (1 : Int) > 0 by decide, if_true]
      by_cases h : i < 0
      · simp only [h, if_true] <;> omega
      · simp only [h, if_false] <;> omega
theorem slicePick_cut (its : List Value) (lo hi : Option Int) : slicePick its.toArray lo hi none = ((its.drop (HT.sIx its.length 0 lo)).take (HT.sIx its.length its.length hi - HT.sIx its.length 0 lo)).toArray := by
  obtain ⟨h1, h2, h3⟩ := slice_bounds lo hi its.toArray.size
  unfold slicePick
  rw [h1, h2, h3]
  simp only [sliceRange_one, pick_run, List.size_toArray] <;> rfl
def rSlL (K : PySem.W.Frag) : V → Option Int → Option Int → Hp → VK → Prop := fun x lo hi H Q => ∃ a xs, x = .ref a ∧ SqL K H a xs ∧ ∀ p, H p = none → Q (.ref p) (upd H p (.lst (cutV xs lo hi)))
theorem sl_list : SlR X (rSlL X.K) := by
  intro pins s σ H x v vl vu lo hi sl Q I rx hs pl pu h
  obtain ⟨a, xs, rfl, hx, q⟩ := h
  cases rx
  obtain ⟨its, r, ht, hz⟩ := I.list hx
  have hlen := r.length
  refine ⟨"list", _, slot_list_getitem.lookup, ht.isList.typeIs, ?_⟩
  refine wpAny_getItem_list_slice ht.isList hs pl pu .none (by simp) ?_ (by rw [List.size_toArray] <;> omega)
  rw [slicePick_cut, ← hlen]
  refine ⟨.ref s.heap.objs.size, _, I.laid (t' := s.toks) (o := .lst (cutV xs lo hi)) (fun b ob q => Heap.get?_push_of_some _ q) (Nat.le_refl _) ?_, rfl, q _ (I.hok.fresh (Nat.le_refl _))⟩
  exact ⟨Nat.le_trans (cutV_length xs lo hi) hz, _, 0, (r.drop (HT.sIx xs.length 0 lo)).take (HT.sIx xs.length xs.length hi - HT.sIx xs.length 0 lo), Heap.get?_push_size _ rfl⟩

def flatV : V → Bool
  | .non => true
  | .bl _ => true
  | .int _ => true
  | .str _ => true
  | _ => false
def eqV : V → V → Bool
  | .non, .non => true
  | .bl a, .bl b => a == b
  | .bl a, .int b => (if a then 1 else 0) == b
  | .int a, .bl b => a == (if b then 1 else 0)
  | .int a, .int b => a == b
  | .str a, .str b => a == b
  | _, _ => false
theorem eqAt_V {A : Around} {s : Shared} {y x : V} {u v : Value} (ry : RelV y u) (rx : RelV x v) (fy : flatV y = true) (fx : flatV x = true) : SeqAt.EqAt A s u v (eqV y x) := by
  cases y with
  | non =>
    cases ry
    cases x with
    | non => cases rx; exact SeqAt.EqAt.same _
    | bl b => cases rx; exact SeqAt.EqAt.none_bool b
    | int b => obtain ⟨t, rfl⟩ := rx; exact SeqAt.EqAt.none_int b t
    | str b => obtain ⟨t, rfl⟩ := rx; exact SeqAt.EqAt.none_str b t
    | _ => exact absurd (show false = true from fx) Bool.false_ne_true
  | bl a =>
    cases ry
    cases x with
    | non => cases rx; exact SeqAt.EqAt.bool_none a
    | bl b => cases rx; exact SeqAt.EqAt.bool_bool a b
    | int b => obtain ⟨t, rfl⟩ := rx; exact SeqAt.EqAt.bool_int a b t
    | str b => obtain ⟨t, rfl⟩ := rx; exact SeqAt.EqAt.bool_str a b t
    | _ => exact absurd (show false = true from fx) Bool.false_ne_true
  | int a =>
    obtain ⟨t', rfl⟩ := ry
    cases x with
    | non => cases rx; exact SeqAt.EqAt.int_none a t'
    | bl b => cases rx; exact SeqAt.EqAt.int_bool a t' b
    | int b => obtain ⟨t, rfl⟩ := rx; exact SeqAt.EqAt.int_int a t' b t
    | str b => obtain ⟨t, rfl⟩ := rx; exact SeqAt.EqAt.int_str a t' b t
    | _ => exact absurd (show false = true from fx) Bool.false_ne_true
  | str a =>
    obtain ⟨t', rfl⟩ := ry
    cases x with
    | non => cases rx; exact SeqAt.EqAt.str_none a t'
    | bl b => cases rx; exact SeqAt.EqAt.str_bool a t' b
    | int b => obtain ⟨t, rfl⟩ := rx; exact SeqAt.EqAt.str_int a t' b t
    | str b => obtain ⟨t, rfl⟩ := rx; exact SeqAt.EqAt.str_str a t' b t
    | _ => exact absurd (show false = true from fx) Bool.false_ne_true
  | _ => exact absurd (show false = true from fy) Bool.false_ne_true
def eqU (x : V) (u : Value) : Bool := match u with
  | .none => eqV .non x
  | .bool b => eqV (.bl b) x
  | .int i _ => eqV (.int i) x
  | .str z _ => eqV (.str z) x
  | _ => false
theorem eqU_of {x y : V} {u : Value} (r : RelV y u) (f : flatV y = true) : eqU x u = eqV y x := by
  cases y with
  | non => cases r; rfl
  | bl b => cases r; rfl
  | int i => obtain ⟨t, rfl⟩ := r; rfl
  | str z => obtain ⟨t, rfl⟩ := r; rfl
  | _ => exact absurd (show false = true from f) Bool.false_ne_true
theorem any_eqU {x : V} : ∀ {xs : List V} {us : List Value}, Vals xs us → xs.all flatV = true → us.any (eqU x) = xs.any fun y => eqV y x
  | _, _, .nil, _ => rfl
  | y :: xs, u :: us, .cons r t, f => by
    rw [List.all_cons, Bool.and_eq_true] at f
    rw [List.any_cons, List.any_cons, eqU_of r f.1, any_eqU t f.2]
theorem mem_eqAt {A : Around} {s : Shared} {x : V} {v : Value} (rx : RelV x v) (fx : flatV x = true) : ∀ {xs : List V} {us : List Value}, Vals xs us → xs.all flatV = true → ∀ u ∈ us, SeqAt.EqAt A s u v (eqU x u)
  | _, _, .nil, _ => fun u hu => by cases hu
  | y :: xs, u :: us, .cons r t, f => fun u' hu => by
    rw [List.all_cons, Bool.and_eq_true] at f
    rcases List.mem_cons.mp hu with rfl | hu
    · rw [eqU_of r f.1]; exact eqAt_V r rx f.1 fx
    · exact mem_eqAt rx fx t f.2 u' hu
def inV (x : V) (xs : List V) : Bool := xs.any fun y => eqV y x
def rIn (K : PySem.W.Frag) (neg : Bool) : R2 := fun x y H Q => ∃ p xs, y = .ref p ∧ (SqL K H p xs ∨ SqT K H p xs) ∧ flatV x = true ∧ xs.all flatV = true ∧ Q (.bl (if neg then !inV x xs else inV x xs)) H
theorem op_in_seq : OpR X (compareOp .In) (rIn X.K false) := by
  intro pins s σ H x y v u Q I rx ry h
  obtain ⟨p, xs, rfl, hq, fx, fs, q⟩ := h
  cases ry
  rcases hq with hq | hq
  · obtain ⟨its, r, pl, hz⟩ := I.list hq
    refine SeqAt.in_listAt (eqU x) pl.isList (fun w hw => mem_eqAt rx fx r fs w (by simpa using hw)) ⟨.bl _, H, I, rfl, ?_⟩
    rw [show its.toArray.any (eqU x) = its.any (eqU x) by simp, any_eqU r fs]
    exact q
  · obtain ⟨its, r, pl, hz⟩ := I.tuple hq
    refine SeqAt.in_tupleAt (eqU x) pl (fun w hw => mem_eqAt rx fx r fs w (by simpa using hw)) ⟨.bl _, H, I, rfl, ?_⟩
    rw [show its.toArray.any (eqU x) = its.any (eqU x) by simp, any_eqU r fs]
    exact q
theorem call_len_seq : CallR X (.builtin "len") (fun xs H Q => ∃ p ys, xs = [.ref p] ∧ (SqL X.K H p ys ∨ SqT X.K H p ys) ∧ Q (.int ys.length) H) := by
  intro pins s σ H xs us Q I r h
  obtain ⟨p, ys, rfl, hq, q⟩ := h
  obtain ⟨u, rfl, rx⟩ := vals1 r
  cases rx
  have hn := line63
  rcases hq with hq | hq
  · obtain ⟨its, r', pl, hz⟩ := I.list hq
    have hlen := r'.length
    exact Calls.call_len_list pl.isList (by simp only [List.size_toArray] <;> omega) ⟨.int ys.length, H, I.tok _, ⟨s.toks + 1, by rw [List.size_toArray, hlen]⟩, q⟩
  · obtain ⟨its, r', pl, hz⟩ := I.tuple hq
    have hlen := r'.length
    exact len_tuple pl (by simp only [List.size_toArray] <;> omega) ⟨.int ys.length, H, I.tok _, ⟨s.toks + 1, by rw [List.size_toArray, hlen]⟩, q⟩
theorem call_len_str : CallR X (.builtin "len") (fun xs H Q => ∃ z, xs = [.str z] ∧ z.length ≤ sizeLine ∧ Q (.int z.length) H) := by
  intro pins s σ H xs us Q I r h
  obtain ⟨z, rfl, hz, q⟩ := h
  obtain ⟨u, rfl, t, rfl⟩ := vals1 r
  have hn := line63
  exact len_str (by omega) ⟨.int z.length, H, I.tok _, ⟨_, rfl⟩, q⟩
theorem CallR.or {f : Value} {r r' : List V → Hp → VK → Prop} (h : CallR X f r) (h' : CallR X f r') : CallR X f (fun xs H Q => r xs H Q ∨ r' xs H Q) := by
  intro pins s σ H xs us Q I rs q
  rcases q with q | q
  · exact h pins s σ H xs us Q I rs q
  · exact h' pins s σ H xs us Q I rs q
theorem call_list_of : CallR X (.type "list") (fun xs H Q => ∃ p ys, xs = [.ref p] ∧ (SqL X.K H p ys ∨ SqT X.K H p ys) ∧ ∀ l, H l = none → Q (.ref l) (upd H l (.lst ys))) := by
  intro pins s σ H xs us Q I r h
  obtain ⟨p, ys, rfl, hq, q⟩ := h
  obtain ⟨u, rfl, rx⟩ := vals1 r
  cases rx
  have fin : ∀ (its : List Value), Vals ys its → ys.length ≤ sizeLine → ∀ (h' : Heap) (c' : Nat), (∀ b o', s.heap.get? b = some o' → h'.get? b = some o') →
      h'.get? s.heap.objs.size = some { cls := .type "list", dict := none, data := .seq its.toArray c', slots := #[] } → EP X pins σ Q (.ref s.heap.objs.size) { s with heap := h' } := fun its r' hz h' c' kp e =>
    ⟨.ref s.heap.objs.size, _, I.laid (t' := s.toks) kp (Nat.le_refl _) (show ObjOk X.prog X.w _ h' _ (.lst ys) from ⟨hz, its, c', r', e⟩), rfl, q _ (I.hok.fresh (Nat.le_refl _))⟩
  rcases hq with hq | hq
  · obtain ⟨its, r', pl, hz⟩ := I.list hq
    have hlen := r'.length
    obtain ⟨o, ho, hc, n, hd⟩ := pl.isList
    exact call_list_seq p (.inl rfl) ho hc hd (fun h' c' kp e => fin its r' hz h' c' kp e) (by simp only [List.size_toArray] <;> omega)
  · obtain ⟨its, r', pl, hz⟩ := I.tuple hq
    have hlen := r'.length
    obtain ⟨o, ho, hc, n, hd⟩ := pl
    exact call_list_seq p (.inr rfl) ho hc hd (fun h' c' kp e => fin its r' hz h' c' kp e) (by simp only [List.size_toArray] <;> omega)
def tyV (K : PySem.W.Frag) (T : String) (x : V) (H : Hp) : Prop := match x with
  | .str _ => T = "str"
  | .int _ => T = "int"
  | .ref p => (T = "list" ∧ ∃ xs, SqL K H p xs) ∨ (T = "tuple" ∧ ∃ o, K.lookup p = some o ∧ o.cls = .type "tuple" ∧ o.dict = none) ∨
      (T = "dict" ∧ ((∃ kvs, H p = some (.dK kvs)) ∨ ∃ kvs, H p = some (.dT kvs))) ∨ (T = "set" ∧ ∃ S n, H p = some (.set S n))
  | _ => False
theorem tyV_is {pins : List (Addr × Obj)} {σ : St} {H : Hp} {s : Shared} {T : String} {x : V} {v : Value} (I : Inv X pins σ H s) (r : RelV x v) (ty : tyV X.K T x H) :
    s.TypeIs v T ∧ ∀ a, v = .ref a → ∃ ob, s.heap.get? a = some ob ∧ ob.dict = none := by
  cases x with
  | str z =>
    obtain ⟨t, rfl⟩ := r
    cases (show T = "str" from ty)
    exact ⟨typeIs_str s z t, fun _ e => nomatch e⟩
  | int i =>
    obtain ⟨t, rfl⟩ := r
    cases (show T = "int" from ty)
    exact ⟨typeIs_int s i t, fun _ e => nomatch e⟩
  | ref p =>
    cases r
    rcases ty with ⟨rfl, xs, hq⟩ | ⟨rfl, o, hk, hc, hd⟩ | ⟨rfl, hk⟩ | ⟨rfl, S, n, hk⟩
    · obtain ⟨its, _, pl, _⟩ := I.list hq
      refine ⟨pl.isList.typeIs, fun a e => ?_⟩
      cases e
      obtain ⟨o, n, e, c, hd, _⟩ := pl
      exact ⟨o, e, hd⟩
    · refine ⟨⟨o, I.kIn p o hk, hc⟩, fun a e => ?_⟩
      cases e
      exact ⟨o, I.kIn _ o hk, hd⟩
    · have z : ∃ o, s.heap.get? p = some o ∧ o.ExactDict := by
        rcases hk with ⟨kvs, hk⟩ | ⟨kvs, hk⟩
        · obtain ⟨_, _, _, _, o, _, _, e, ex, _⟩ := I.hok p _ hk
          exact ⟨o, e, ex⟩
        · obtain ⟨_, _, _, _, o, _, _, e, ex, _⟩ := I.hok p _ hk
          exact ⟨o, e, ex⟩
      obtain ⟨o, e, ex⟩ := z
      refine ⟨⟨o, e, ex.1⟩, fun a e2 => ?_⟩
      cases e2
      exact ⟨o, e, ex.2.1⟩
    · obtain ⟨o, _, _, _, e, ex, _⟩ := I.hok p _ hk
      refine ⟨⟨o, e, ex.1⟩, fun a e2 => ?_⟩
      cases e2
      exact ⟨o, e, ex.2.1⟩
  | _ => exact False.elim ty
def tBM0 (K : PySem.W.Frag) (T : String) (r : V → List V → Hp → VK → Prop) (to : TE) : TE := fun σ H Q => to σ H fun x H1 => tyV K T x H1 ∧ r x [] H1 Q
def tBM (K : PySem.W.Frag) (T : String) (r : V → List V → Hp → VK → Prop) (to : TE) (t : TA) : TE := fun σ H Q => to σ H fun x H1 => tyV K T x H1 ∧ t σ H1 fun xs H2 => r x xs H2 Q
variable {o e : Expr} {es : List Expr} {to : TE} {t : TA} {name : Str} {apos cpos : Pos} {T id : String} {r : V → List V → Hp → VK → Prop}
theorem pe_bm0 (pa : PlainAttrs T) (slot : Slot T name id) (hty : typeOf (.builtin id) = pure (.type "method_descriptor")) (hm : MtR X id r) (ho : PE X o to)
    (hbase : attributeBase o name X.env (eval o X.env) = eval o X.env := by rfl) (hline : (apos.endLine == cpos.line) = true := by rfl) : PE X (.Call (.Attribute o name apos) [] [] cpos) (tBM0 X.K T r to) := by
  intro pins s σ H Q I h
  refine wpAny_Call_method0_late hbase hline (thn (ho pins s σ H _ I h) fun v s1 ⟨x, H1, I1, r1, ty, q1⟩ => ?_)
  obtain ⟨h1, h2⟩ := tyV_is I1 r1 ty
  exact ⟨T, id, pa, slot, hty, h1, h2, Calls.callWith_builtin rfl (PySem.evalArgs_none (hm pins s1 σ H1 x [] v [] Q I1 r1 .nil q1))⟩
theorem pe_bm (pa : PlainAttrs T) (slot : Slot T name id) (hty : typeOf (.builtin id) = pure (.type "method_descriptor")) (hm : MtR X id r) (ho : PE X o to) (ha : PA X (e :: es) t)
    (hbase : attributeBase o name X.env (eval o X.env) = eval o X.env := by rfl)
    (hfew : ((backTo cpos (starEach (e :: es) X.env)).all (fun x => !x.1) && (backToKw cpos (keywordEach [] X.env)).all (fun x => x.1.isSome)
      && decide ((e :: es).length + ([] : List Keyword).length + (if ([] : List Keyword).isEmpty then 0 else 1) < 30)) = true := by rfl)
    (hline : (apos.endLine == cpos.line) = true := by rfl) (hs : starEach (e :: es) X.env = (false, eval e X.env) :: starEach es X.env := by rfl) (hplain : (backTo cpos (starEach es X.env)).any (·.1) = false := by rfl) :
    PE X (.Call (.Attribute o name apos) (e :: es) [] cpos) (tBM X.K T r to t) := by
  intro pins s σ H Q I h
  refine wpAny_Call_method_late hbase hfew hline rfl (thn (ho pins s σ H _ I h) fun v s1 ⟨x, H1, I1, r1, ty, q1⟩ => ?_)
  obtain ⟨h1, h2⟩ := tyV_is I1 r1 ty
  refine ⟨T, id, pa, slot, hty, h1, h2, ?_⟩
  have hA := ha cpos pins s1 σ H1 _ I1 q1
  rw [hs] at hA ⊢
  refine Calls.callWith_builtin (by show (false || (backTo cpos (starEach es X.env)).any (·.1)) = false; rw [hplain] <;> rfl) (Calls.evalArgs_plain ?_)
  exact thn hA fun us s2 ⟨vs, H2, I2, r2, q2⟩ => hm pins s2 σ H2 x vs v us Q I2 r1 r2 q2
/- xs.append(e), list.index on a module's tuple .. are MtR facts of 06m -/
end
end L2

namespace L2
open PySem PySem.Spec PyProof.Rows

def MtM (X : Cx) (id : String) (r : V → List V → Hp → VK → Prop) : Prop :=
  ∀ (pins : List (Addr × Obj)) (s : Shared) (σ : St) (H : Hp) (x : V) (xs : List V) (v : Value) (us : List Value) (Q : VK), Inv X pins σ H s → RelV x v → Vals xs us → r x xs H Q →
    wpAny (model X.prog X.w) X.A (call (.builtin id) (v :: us)) (EP X pins σ Q) X.xe s

theorem Vals.one : ∀ {x : V} {us : List Value}, Vals [x] us → ∃ u, us = [u] ∧ RelV x u
  | _, _, .cons r .nil => ⟨_, rfl, r⟩
theorem Vals.two : ∀ {x y : V} {us : List Value}, Vals [x, y] us → ∃ u v, us = [u, v] ∧ RelV x u ∧ RelV y v
  | _, _, _, .cons r (.cons q .nil) => ⟨_, _, rfl, r, q⟩
theorem Vals.zero : ∀ {us : List Value}, Vals [] us → us = []
  | _, .nil => rfl
theorem Vals.dropLast {xs : List V} {us : List Value} (h : Vals xs us) : Vals xs.dropLast us.dropLast := by
  induction h with
  | nil => exact .nil
  | cons r t ih =>
    cases t with
    | nil => exact .nil
    | cons q t' => exact .cons r ih
theorem Vals.eraseIdx : ∀ {xs : List V} {us : List Value} (i : Nat), Vals xs us → Vals (xs.eraseIdx i) (us.eraseIdx i)
  | _, _, _, .nil => .nil
  | _, _, 0, .cons _ t => t
  | _, _, i + 1, .cons r t => .cons r (Vals.eraseIdx i t)
theorem Vals.reverse {xs : List V} {us : List Value} (h : Vals xs us) : Vals xs.reverse us.reverse := by
  induction h with
  | nil => exact .nil
  | cons r t ih => rw [List.reverse_cons, List.reverse_cons]; exact Vals.append ih (.cons r .nil)
theorem erase_last {α : Type} (l : List α) : l.eraseIdx (l.length - 1) = l.dropLast := by
  induction l with
  | nil => rfl
  | cons a r ih =>
    cases r with
    | nil => rfl
    | cons b r =>
      have e : (a :: b :: r).length - 1 = ((b :: r).length - 1) + 1 := by
        have h1 : (a :: b :: r).length = r.length + 2 := rfl
        have h2 : (b :: r).length = r.length + 1 := rfl
        omega
      rw [e, List.eraseIdx_cons_succ, ih]
      all_goals rfl
section
variable {X : Cx} {pins : List (Addr × Obj)} {σ : St} {H : Hp} {s : Shared} {l b : Addr} {xs ys zs : List V}

theorem Inv.lset {its its' : List Value} {n : Nat} {f : Array Value → Array Value} {t' : Nat} (I : Inv X pins σ H s) (hH : H l = some (.lst xs))
    (e : s.heap.get? l = some { cls := .type "list", data := .seq its.toArray n }) (hf : f its.toArray = its'.toArray) (hv : Vals ys its') (hz : ys.length ≤ sizeLine) :
    Inv X pins σ (upd H l (.lst ys)) { s with heap := s.heap.update l (Obj.mapSeq f), toks := t' } := by
  have q := PySem.IsL.update e f
  rw [hf] at q
  refine I.write (x := l) (e := l) (by rw [hH]; exact trivial) (.inl rfl) (fun b' u hb hu => (Heap.get?_update_other s.heap (Obj.mapSeq f) (Ne.symm hb)).trans hu) ⟨_, q⟩ ?_
  exact ⟨hz, its', _, hv, q⟩
theorem Inv.lnew {its : List Value} {t' : Nat} (I : Inv X pins σ H s) (hv : Vals ys its) (hz : ys.length ≤ sizeLine) :
    Inv X pins σ (upd H s.heap.objs.size (.lst ys)) { s with heap := s.heap.push { cls := .type "list", data := .seq its.toArray }, toks := t' } :=
  I.laid (fun _ _ q => Heap.get?_push_of_some _ q) (Nat.le_refl _) ⟨hz, its, 0, hv, Heap.get?_push_size _ rfl⟩
theorem Inv.fresh (I : Inv X pins σ H s) : H s.heap.objs.size = none := I.hok.fresh (Nat.le_refl _)
theorem Inv.lstM (I : Inv X pins σ H s) (hH : H l = some (.lst xs)) : xs.length ≤ sizeLine ∧ ∃ (its : List Value) (n : Nat), Vals xs its ∧ xs.length = its.length ∧ s.heap.get? l = some { cls := .type "list", data := .seq its.toArray n } := by
  obtain ⟨z, its, n, r, e⟩ := I.hok l _ hH
  exact ⟨z, its, n, r, r.length, e⟩

end

section
variable {X : Cx}

def rAppend : V → List V → Hp → VK → Prop := fun x vs H Q => ∃ l xs y, x = .ref l ∧ vs = [y] ∧ H l = some (.lst xs) ∧ xs.length < sizeLine ∧ Q .non (upd H l (.lst (xs ++ [y])))
theorem mt_append : MtM X "list.append" rAppend := by
  intro pins s σ H x vs v us Q I rx rv h
  obtain ⟨l, xs, y, rfl, rfl, hH, hz, q⟩ := h
  cases rx
  obtain ⟨u, rfl, ru⟩ := rv.one
  obtain ⟨z, its, n, r, hl, e⟩ := I.lstM hH
  refine call_meets F.slot_list_append ⟨_, e, rfl⟩ F.entry_list_append (F.args_list_append_2 _ _) (PySem.list_append l its.toArray n u (by rw [List.size_toArray]; omega)) ⟨e, ?_⟩
  refine ⟨.non, _, I.lset (its' := its ++ [u]) hH e (by simp) (r.append (.cons ru .nil)) ?_, rfl, q⟩
  rw [List.length_append, List.length_singleton]
  omega

def rPop : V → List V → Hp → VK → Prop := fun x vs H Q => ∃ l xs y, x = .ref l ∧ vs = [] ∧ H l = some (.lst xs) ∧ xs[xs.length - 1]? = some y ∧ Q y (upd H l (.lst xs.dropLast))
theorem mt_pop : MtM X "list.pop" rPop := by
  intro pins s σ H x vs v us Q I rx rv h
  obtain ⟨l, xs, y, rfl, rfl, hH, hy, q⟩ := h
  cases rx
  have hus := rv.zero
  subst hus
  obtain ⟨z, its, n, r, hl, e⟩ := I.lstM hH
  obtain ⟨u, hu, ru⟩ := r.get hy
  have hy' : its.toArray[its.toArray.size - 1]? = some u := by
    show its.toArray[its.length - 1]? = some u
    rw [← Array.getElem?_toList, ← hl]
    exact hu
  refine call_meets F.slot_list_pop ⟨_, e, rfl⟩ F.entry_list_pop (F.args_list_pop_1 _) (MeetsSeq.list_pop_last l its.toArray n u hy' (by rw [List.size_toArray]; omega)) ⟨e, ?_⟩
  refine ⟨y, _, I.lset (its' := its.dropLast) hH e ?_ r.dropLast ?_, ru, q⟩
  · show its.toArray.eraseIdxIfInBounds (its.toArray.size - 1) = its.dropLast.toArray
    rw [List.size_toArray, List.eraseIdxIfInBounds_toArray, erase_last]
  · rw [List.length_dropLast]
    omega

def rReverse : V → List V → Hp → VK → Prop := fun x vs H Q => ∃ l xs, x = .ref l ∧ vs = [] ∧ H l = some (.lst xs) ∧ Q .non (upd H l (.lst xs.reverse))
theorem mt_reverse : MtM X "list.reverse" rReverse := by
  intro pins s σ H x vs v us Q I rx rv h
  obtain ⟨l, xs, rfl, rfl, hH, q⟩ := h
  cases rx
  have hus := rv.zero
  subst hus
  obtain ⟨z, its, n, r, hl, e⟩ := I.lstM hH
  refine call_meets F.slot_list_reverse ⟨_, e, rfl⟩ F.entry_list_reverse (F.args_list_reverse_1 _) (AutoSeq1.list_reverse_list_0 l its.toArray n (by rw [List.size_toArray]; omega)) ⟨e, ?_⟩
  refine ⟨.non, _, I.lset (its' := its.reverse) hH e (by simp) r.reverse ?_, rfl, q⟩
  rw [List.length_reverse]
  omega

end

section
variable {prog : Program} {w : World} {A : Around} {E : Value → Shared → Prop} {s : Shared}
set_option maxRecDepth 100000 in
end

section
variable {X : Cx}
end
end L2

namespace Att
open PySem PySem.W PySem.Calls PyProof.Rows

theorem ints_of_wellAll {P : Params} {h : Heap} : ∀ (ns : List Int) (vs : List Value), WellAll P h vs (ns.map WData.int) → IntsAre vs ns := by
  intro ns
  induction ns with
  | nil =>
    intro vs w
    rw [List.map_nil] at w
    cases w
    exact .nil
  | cons n ns ih =>
    intro vs w
    rw [List.map_cons] at w
    cases w with
    | cons a b =>
      cases a
      exact .cons _ _ (ih _ b)

theorem script_of {l : OpenLaw} {n : Nat} (hn : l.most = some n) {P : Params} {h : Heap} {args : List WData} {vals : List Value}
    (hpre : l.row.toRowW.claim.pre args = true) (hwl : WellAll P h vals args) :
    ∃ a vs ns, vals = [Value.ref a] ∧ args = [WData.list (ns.map WData.int)] ∧ h.get? a = some { cls := .type "list", data := .seq vs.toArray } ∧ IntsAre vs ns ∧ ns.length ≤ n := by
  have hsh : WShape.hasAll [] args [.list .int] = true := (pre_splitW hpre).1
  have hc : l.pre.holds [] { args := args } = true := (pre_splitW hpre).2
  obtain ⟨d, r, rfl, h1, h2⟩ := hasAllW_cons hsh
  obtain rfl := hasAllW_nil h2
  obtain ⟨xs, rfl, h3⟩ := hasW_list h1
  obtain ⟨ns, rfl⟩ := items_int h3
  have hlen : ns.length ≤ n := by
    unfold OpenLaw.pre at hc
    have h4 : (WTm.not (.lt (.lit (.int (n : Int))) (.len (.arg 0)))).holds [] { args := [.list (ns.map .int)] } = true := by
      have h4 := (holds_andW hc).1
      rw [hn] at h4
      exact h4
    have h5 := condW_of h4 (w_not (w_lt w_lit (w_len_list (w_arg rfl))))
    rw [List.length_map] at h5
    refine Nat.le_of_not_lt fun q => ?_
    have q' : (n : Int) < ((ns.length : Nat) : Int) := by omega
    first
      | (rw [decide_eq_true q'] at h5; exact absurd h5 (by decide))
      | (simp at h5; omega)
  cases hwl with
  | cons w1 w2 =>
    cases w2
    cases w1 with
    | list ho hall => exact ⟨_, _, ns, rfl, rfl, ho, ints_of_wellAll ns _ hall, hlen⟩

theorem post_true (l : OpenLaw) (args : List WData) : l.row.toRowW.claim.post args (.bool true) args = true :=
  postW_of (r := l.row.toRowW) (X := (true == true))
    (show WShape.has [] (.bool true) .bool = true by first | rfl | decide | simp [WShape.has, WShape.arms, WShape.armsAll])
    (show (WTm.eq .res (.lit (.bool true))).value [] { args := args, res := some (.bool true), after := args } = some (.bool (true == true)) from w_eq_bool (w_res rfl) w_lit) rfl

theorem attach_call {l : OpenLaw} {n : Nat} {q : Program} {loose : List Str} {XP : (Str → Option Value) → Heap → Prop} {YP : World → Heap → Prop} {d : DefRec}
    (hn : l.most = some n) (hdf : d.params.defaults = [])
    (call : ∀ (w : World) (s₀ s₁ : Shared) (mg mb : Str → Option Value) (fa : Addr) (o : Obj) (pm cd doc : Value) (a : Addr) (vs : List Value) (ns : List Int),
      Ground q loose [] XP w s₀ mg mb s₁.heap → YP w s₁.heap →
      s₁.heap.get? fa = some o → o.data = .func (docDef d.name d.params d.body d.scope pm cd doc) → s₁.heap.CodeRec cd d.name → mg d.name = some (.ref fa) →
      s₁.heap.get? a = some { cls := .type "list", data := .seq vs.toArray } → IntsAre vs ns → ns.length ≤ n → s₁.gens = #[] →
      codeAny (model l.prog w) callerA (.call (.ref fa) ⟨[.ref a], []⟩) (fun r s' => r = .ok (.ret (.bool true)) ∧ OldK s₁.heap s'.heap ∧ s'.os = s₁.os ∧ AllBare s'.gens) s₁) :
    WalkO q loose XP YP l.row.toRowW d [] (fun f vs => PySem.call f vs) := by
  intro w s₀ s₁ mg mb G Y fa o pm cd doc dV kV ho hd hcd hD hmg hg args vals as hpre hlay hrd hwl hlo
  obtain rfl : dV = .none := Dflts.none hD hdf
  obtain rfl : kV = .none := Dflts.noKw hD
  obtain ⟨a, vs, ns, rfl, rfl, hobj, hints, hlen⟩ := script_of hn hpre hwl
  refine enter_call (codeAny_mono (call w s₀ s₁ mg mb fa o pm cd doc a vs ns G Y ho (fd_plain hd) hcd hmg hobj hints hlen hg) fun r s' hq => ?_)
  obtain ⟨rfl, h2, h3, h4⟩ := hq
  exact ⟨.inl ⟨.bool true, .bool true, [], rfl, fun _ => rfl, .bool true, post_true l _, fun _ => ⟨List.Pairwise.nil, fun _ hm => (nomatch hm)⟩⟩, h2, h3, h4⟩

section
variable {prog : Program} {w : World} {A : Around} {E : Value → Shared → Prop} {s : Shared} {K : Frag}

def ledger (h : Heap) (L d : Addr) : List (Addr × Obj) := (List.range h.objs.size).filterMap fun a => if a = L ∨ a = d then none else (h.get? a).map fun o => (a, o)
end
end Att

namespace L2
open PySem PySem.Spec PyProof.Rows

theorem vals_ints : ∀ {vs : List Value} {ns : List Int}, IntsAre vs ns → Vals (ns.map V.int) vs
  | _, _, .nil => .nil
  | _, _, .cons n t h => .cons ⟨t, rfl⟩ (vals_ints h)

def Only (H : Hp) : Prop := ∀ b, H b = none ∨ ∃ o xs, H b = some (.frz o (.lst xs))

theorem law_call {P : Program} {w : World} {K : PySem.W.Frag} {mg mb : Str → Option Value} {CX : CXT} {k : Nat} {fa a : Addr} {fd : FuncData} {x : Str} {sp : Sp} {s₁ : Shared} {vs : List Value} {ns : List Int}
    (KX : K.In s₁.heap) (hns : s₁.heap.Ns mainGlobals mg) (hb : s₁.heap.Ns builtinsNs mb) (hbb : ∀ x : Str, x ≠ "__name__" → mb x = bootBuiltins x) (hlim : s₁.heap.NoLimit) (hg : s₁.gens = #[])
    (ha : s₁.heap.get? a = some { cls := .type "list", data := .seq vs.toArray }) (hi : IntsAre vs ns) (hl : ns.length ≤ sizeLine) (hr : Room k callerA)
    (F : ∀ base : Heap, K.In base → base.Ns mainGlobals mg → FnOk P w K mg base CX k fa fd [x] sp) (hbind : ∀ (s : Shared) (u : Value), BindsTo s fd ⟨[u], []⟩ [(x, u)])
    (hsp : ∀ H : Hp, Only H → SqL K H a (ns.map V.int) → sp [.ref a] H (fun v _ => v = .bl true) fun _ _ _ => False)
    (hCX : ∀ H e s', CX [] H s₁ (fun _ _ _ => False) e s' → False) :
    codeAny (model P w) callerA (.call (.ref fa) ⟨[.ref a], []⟩) (fun r s' => r = .ok (.ret (.bool true)) ∧ OldK s₁.heap s'.heap ∧ s'.os = s₁.os ∧ AllBare s'.gens) s₁ := by
  have rv := vals_ints hi
  have lenV := hi.length
  -- from an abstract heap in which nothing but the script may be tracked
  have core : ∀ H : Hp, Only H → SqL K H a (ns.map V.int) → HOk P w H s₁.heap → (∀ b, H b ≠ none → b = a) → (H a ≠ none → K.lookup a = none) →
      codeAny (model P w) callerA (.call (.ref fa) ⟨[.ref a], []⟩) (fun r s' => r = .ok (.ret (.bool true)) ∧ OldK s₁.heap s'.heap ∧ s'.os = s₁.os ∧ AllBare s'.gens) s₁ := by
    intro H hO hS hok hA hK
    have base_of : ∀ {b : Addr} {o : Obj}, s₁.heap.get? b = some o → H b = none → (hidT s₁.heap H).get? b = some o := fun e n => hidT_get e n
    have noA : ∀ {b : Addr} {o : Obj} {es : Array DictEntry} {ep : Nat}, s₁.heap.get? b = some o → o.data = .dict es ep → H b = none := fun {b o es ep} e d => by
      cases q : H b with
      | none => rfl
      | some u =>
        have e' : b = a := hA b (by rw [q]; simp)
        subst e'
        rw [ha] at e; cases e
        have d' : Data.seq vs.toArray _ = Data.dict es ep := d
        cases d'
    have nsK : ∀ {b : Addr} {m : Str → Option Value}, s₁.heap.Ns b m → (hidT s₁.heap H).Ns b m := fun {b m} ⟨o, es, ep, e, d, r⟩ => ⟨o, es, ep, base_of e (noA e d), d, r⟩
    have hKb : K.In (hidT s₁.heap H) := fun b o e => base_of (KX b o e) (by
      cases q : H b with
      | none => rfl
      | some u =>
        have e' : b = a := hA b (by rw [q]; simp)
        subst e'
        rw [hK (by rw [q]; simp)] at e; cases e)
    have hM : Mod K mg (hidT s₁.heap H) := ⟨hKb, nsK hns, ⟨mb, nsK hb, hbb⟩, let ⟨mc, h1, h2⟩ := hlim; ⟨mc, nsK h1, h2⟩⟩
    have e0 : Env0 P w K mg (hidT s₁.heap H) callerA [] s₁ H := ⟨rfl, hM, fun b o e => of_hidT e, Nat.le_of_eq (hidT_size _ _), trivial, fun b hb => absurd (show b ∈ ([] : List Addr) from hb) (by simp), hok, .of_eq hg⟩
    refine codeAny_mono ((F _ hKb (nsK hns)).run callerA [] s₁ H ⟨[.ref a], []⟩ [.ref a] [.ref a] _ _ hr e0 (hbind s₁ (.ref a)) (.cons rfl .nil) (hsp H hO hS)) fun r s' h => ?_
    cases r with
    | error e => exact (hCX H e s' h).elim
    | ok fl =>
      cases fl with
      | next => exact False.elim h
      | brk => exact False.elim h
      | cont => exact False.elim h
      | ret u =>
        obtain ⟨v, H', os, bare, un, hok', r', q⟩ := h
        have q' : v = .bl true := q
        subst q'
        obtain rfl : u = Value.bool true := r'
        refine ⟨rfl, OldK.of_keep fun b o e => ?_, os, bare⟩
        cases q : H b with
        | none => exact un.keep b o e q (by intro z; exact absurd (show b ∈ ([] : List Addr) from z) (by simp)) (by simp)
        | some u =>
          rcases hO b with z | ⟨ob, xs, z⟩
          · rw [q] at z; cases z
          · have z2 := un.frzs b ob _ z
            obtain ⟨e1, _⟩ := hok b _ z
            obtain ⟨e2, _⟩ := hok' b _ z2
            rw [e] at e1; cases e1
            exact e2
  cases hk : K.lookup a with
  | some o =>
    -- the script is one of the module's own objects
    have e := KX a o hk
    rw [ha] at e
    cases e
    refine core (fun _ => none) (fun _ => .inl rfl) (.inr ⟨_, vs.toArray, _, hk, rfl, rfl, rfl, by rw [List.size_toArray, lenV]; exact hl, by simpa using rv⟩) (fun b u z => by have z' : (none : Option HO) = some u := z; cases z') (fun b z => absurd rfl z) fun z => absurd rfl z
  | none =>
    refine core (fun b => if b = a then some (.frz { cls := .type "list", data := .seq vs.toArray } (.lst (ns.map V.int))) else none) (fun b => ?_) (.inl (.inr ⟨{ cls := .type "list", data := .seq vs.toArray }, if_pos rfl⟩)) (fun b u z => ?_) (fun b z => ?_) fun _ => hk
    · by_cases hb : b = a
      · exact .inr ⟨_, _, if_pos hb⟩
      · exact .inl (if_neg hb)
    · by_cases hb : b = a
      · have z' := (if_pos hb).symm.trans z
        cases z'
        subst hb
        exact ⟨ha, by rw [List.length_map]; exact hl, vs, _, rv, ha⟩
      · have z' := (if_neg hb).symm.trans z
        cases z'
    · by_cases hb : b = a
      · exact hb
      · exact absurd (if_neg hb) z
end L2

namespace L2
open PySem PySem.Spec PyProof.Rows

abbrev KOf {K : PySem.W.Frag} {h : Heap} (_ : K.In h) : PySem.W.Frag := K

theorem walk_of {l : PySem.W.OpenLaw} {n k : Nat} {q : Program} {loose : List Str} {XP : (Str → Option Value) → Heap → Prop} {YP : World → Heap → Prop} {d : DefRec} {K : Params → PySem.W.Frag} {CX : World → CXT} {sp : World → Sp} {x : Str}
    (hn : l.most = some n) (hn2 : n ≤ sizeLine) (hdf : d.params.defaults = []) (hr : Room k callerA)
    (hY : ∀ (w : World) (h : Heap), YP w h → (K w.params).In h)
    (F : ∀ (w : World) (mg : Str → Option Value) (fa : Addr) (h : Heap), (K w.params).In h → h.Ns mainGlobals mg → mg d.name = some (.ref fa) →
      ∃ fd : FuncData, (∀ (s : Shared) (u : Value), BindsTo s fd ⟨[u], []⟩ [(x, u)]) ∧
        ∀ base : Heap, (K w.params).In base → base.Ns mainGlobals mg → FnOk l.prog w (K w.params) mg base (CX w) k fa fd [x] (sp w))
    (hsp : ∀ (w : World) (H : Hp) (a : Addr) (ns : List Int), ns.length ≤ n → Only H → SqL (K w.params) H a (ns.map V.int) → sp w [.ref a] H (fun v _ => v = .bl true) fun _ _ _ => False)
    (hCX : ∀ (w : World) (H : Hp) (s : Shared) (e : Value) (s' : Shared), CX w [] H s (fun _ _ _ => False) e s' → False) :
    PySem.W.WalkO q loose XP YP l.row.toRowW d [] (fun f vs => PySem.call f vs) := by
  refine Att.attach_call hn hdf fun w s₀ s₁ mg mb fa o pm cd doc a vs ns G Y ho hd hcd hmg hobj hints hlen hg => ?_
  have KX := hY w _ Y
  obtain ⟨fd, hb, hF⟩ := F w mg fa _ KX G.T.g hmg
  exact law_call KX G.T.g G.T.b G.T.builtins G.T.nolimit hg hobj hints (Nat.le_trans hlen hn2) hr hF hb (fun H hO hS => hsp w H a ns hlen hO hS) fun H e s' => hCX w H s₁ e s'
end L2


namespace L2
open PySem PySem.Spec PyProof.Rows

def inClass (s : Stmt) (j : Nat) : Stmt := match s with
  | .ClassDef _ _ _ body _ _ _ _ _ _ _ => body.getD j (.Pass ⟨0, 0, 0, 0⟩)
  | _ => .Pass ⟨0, 0, 0, 0⟩
def defArgs (s : Stmt) : Arguments := match s with
  | .FunctionDef _ a _ _ _ _ _ _ _ _ => a
  | _ => { posonlyargs := [], args := [], vararg := none, kwonlyargs := [], kw_defaults := [], kwarg := none, defaults := [] }
def defBody (s : Stmt) : List Stmt := match s with
  | .FunctionDef _ _ b _ _ _ _ _ _ _ => b
  | _ => []
def defScope (s : Stmt) : Scope := match s with
  | .FunctionDef _ _ _ _ _ _ sc _ _ _ => sc
  | _ => { kind := .function, names := [], isGenerator := false, isCoroutine := false }

abbrev CX0 : CXT := fun _ _ _ _ _ _ => False
abbrev E0 : XK := fun _ _ _ => False
theorem pass0 {X : Cx} : Passes CX0 X E0 := fun _ _ _ _ _ _ _ h => h.elim

structure Fun (K : PySem.W.Frag) (x qual : Str) (st : Stmt) (f : Addr) (fd : FuncData) : Prop where
  ex : ∃ (oc : Value) (od : Option Addr) (kV doc pm : Value) (an : Option Addr) (cdv ct : Value) (osl : Array (Option Value)),
    fd = PySem.W.fnOf x qual (defArgs st) (defBody st) (defScope st) .none kV doc pm an cdv ct ∧ K.lookup f = some ⟨oc, od, .func fd, osl⟩ ∧ PySem.W.codeIn K cdv qual = true
  kp : PySem.W.keepIn K (.ref f) = true
section
variable {P : Program} {w : World} {K : PySem.W.Frag} {mg : Str → Option Value} {base : Heap}
theorem Fun.ok {x qual : Str} {st : Stmt} {f : Addr} {fd : FuncData} {N ps : List Str} {k : Nat} {sp : Sp} (F : Fun K x qual st f fd) (S : FnScope N ps (defScope st)) (len : ∀ vs H Q E, sp vs H Q E → vs.length = ps.length)
    (hbody : ∀ (cdv : Value) (A : Around) (outer : List Env) (s : Shared) (H : Hp) (vs : List V) (Q : VK) (E : XK), Room k (A.deeper (envOfC qual (defScope st) s.heap.objs.size f cdv)) → sp vs H Q E →
      ∃ t, PSs (cxOf CX0 P w K mg base N qual (defScope st) f cdv A outer s H E).nox (defBody st) t ∧ t { nx := fun _ H' => Q .non H', rt := Q } (start N vs) H) : FnOk P w K mg base CX0 (k + 1) f fd ps sp := by
  obtain ⟨oc, od, kV, doc, pm, an, cdv, ct, osl, rfl, lk, hcd⟩ := F.ex
  refine fn_of lk hcd S len fun A outer s H vs Q E hr hsp => ?_
  obtain ⟨t, h, q⟩ := hbody cdv A outer s H vs Q E hr hsp
  exact ⟨t, h.nox, q⟩
theorem Fun.binds {x qual : Str} {st : Stmt} {f : Addr} {fd : FuncData} {ps : List Str} (F : Fun K x qual st f fd)
    (h : ∀ (kV doc pm : Value) (an : Option Addr) (cdv ct : Value) (us : List Value), us.length = ps.length → bindArgs (PySem.W.fnOf x qual (defArgs st) (defBody st) (defScope st) .none kV doc pm an cdv ct) ⟨us, []⟩ = pure (ps.zip us)) : Binds K fd ps [] := by
  obtain ⟨oc, od, kV, doc, pm, an, cdv, ct, osl, rfl, lk, hcd⟩ := F.ex
  exact .all (h kV doc pm an cdv ct)
theorem fun_mk {x qual : Str} {st : Stmt} {f : Addr} {oc : Value} {od an : Option Addr} {osl : Array (Option Value)} {kV doc pm cdv ct : Value} (l : K.lookup f = some ⟨oc, od, .func (PySem.W.fnOf x qual (defArgs st) (defBody st) (defScope st) .none kV doc pm an cdv ct), osl⟩)
    (c : PySem.W.codeIn K cdv qual = true) (k : PySem.W.keepIn K (.ref f) = true) : Fun K x qual st f (PySem.W.fnOf x qual (defArgs st) (defBody st) (defScope st) .none kV doc pm an cdv ct) := ⟨⟨oc, od, kV, doc, pm, an, cdv, ct, osl, rfl, l, c⟩, k⟩
end
section
variable {X : Cx}
theorem pv (i : Nat) {x : Str} {pos : Pos} (hN : X.N[i]? = some x := by rfl) (hv : Vis X.env.scope x := by first | exact Or.inl rfl | exact Or.inr (Or.inl rfl) | exact Or.inr (Or.inr rfl)) (hd : (x == ("__debug__" : Str)) = false := by decide)
    (hcd : (x == ("__classdict__" : Str)) = false := by decide) : PE X (.Name x pos) (tVar i) := pe_var hN hv hd hcd
end

theorem iteF {A B : Prop} (h : B) : if false = true then A else B := by
  rw [if_neg Bool.false_ne_true]
  exact h
theorem iteT {A B : Prop} (h : A) : if true = true then A else B := by
  rw [if_pos rfl]
  exact h
theorem ite2 {c A B : Prop} [Decidable c] (h1 : c → A) (h2 : ¬ c → B) : if c then A else B := by
  by_cases h : c
  · rw [if_pos h]
    exact h1 h
  · rw [if_neg h]
    exact h2 h
def Same (H H' : Hp) : Prop := ∀ b o, H b = some o → H' b = some o
theorem Same.refl (H : Hp) : Same H H := fun _ _ h => h
theorem Same.trans {H H1 H2 : Hp} (a : Same H H1) (b : Same H1 H2) : Same H H2 := fun c o h => b c o (a c o h)
theorem Same.free {H H' : Hp} (e : Same H H') {l : Addr} (h : H' l = Option.none) : H l = Option.none := by
  cases q : H l with
  | none => rfl
  | some o =>
    rw [e l o q] at h
    cases h
theorem Same.seq {K : PySem.W.Frag} {H H' : Hp} {a : Addr} {xs : List V} (e : Same H H') (h : SqL K H a xs) : SqL K H' a xs := by
  rcases h with (h | ⟨o, h⟩) | h
  · exact .inl (.inl (e _ _ h))
  · exact .inl (.inr ⟨o, e _ _ h⟩)
  · exact .inr h

end L2

set_option maxRecDepth 1000000
set_option maxHeartbeats 0
open PySem in
def My.top (i : Nat) : Stmt := PySem.Challenge.pw_oddbases_k58_writings_as_texts.main.body.getD i (.Pass ⟨0, 0, 0, 0⟩)
noncomputable section
open PySem My
namespace My
abbrev v_ : Option Value := some (.ref 6)
abbrev g_ : Array GenState := ⟨[]⟩
abbrev d_ := @Drawn.mk 0 0 0 0
abbrev P_ := @Pos.mk
abbrev N_ (o : Params → Obj) (a b : Params → W.BT) (x : Params) : W.BT := .node (o x) (a x) (b x)
abbrev Z_ (_ : Params) : W.BT := .nil
abbrev L_ (o : Params → Obj) := N_ o Z_ Z_
theorem sg_ {tb p w n₀ ann b} {n : Nat} {s s' : W.SharedT} {t : Thread} {f : Flow} {c : Code} {q : Pos} (h : W.segRunT tb p w n₀ ann b n s t = some (f, s', c, q)) : W.segRun tb p w n₀ ann b n s.abs t = some (f, s'.abs, c, q) := W.segRun_of h
abbrev p_ (a : String) (b : Nat) : Value := .str (.ofString a) b
abbrev j_ (a : Int) (b : Nat) : Value := .int a b
abbrev r_ (a : Nat) : Value := .ref a
abbrev e_ (x : Params) (a : String) (b : Nat) (v : Value) : DictEntry := ⟨PyData.keyHash x (.ofString a), .str (.ofString a) b, v⟩
abbrev t0 (a1 : String) (a3 : Nat) (a7 : String) (a8 a9 : Nat) (x : Params) : Obj := (@Obj.mk (.type "function") none (@Data.func (@FuncData.mk (.ofString a1) (.ofString a1) (L2.defArgs (My.top a3)) (@FuncBody.stmts (L2.defBody (My.top a3))) (L2.defScope (My.top a3)) 3 (@List.nil (@Prod @Str @Nat)) .none .none .none (p_ a7 a8) none (r_ a9) .none 0)) #[])
abbrev t1 (a1 : String) (a2 : Nat) (a3 : String) (a4 a6 : Nat) (a7 a9 : Int) (a17 a20 a21 a22 a23 : Nat) (a24 : Int) (a29 : Nat) (x : Params) : Obj := (@Obj.mk (.type "code") none (@Data.fields (List.toArray [(p_ a1 a2), (p_ a3 a4), (p_ "/claim/cut.py" a6), (j_ a7 0), (j_ a9 0), (j_ 0 0), (j_ 0 0), (j_ 3 0), (r_ a17), (.bool @Bool.true), (j_ 181 0), (r_ a20), .none, (r_ a21), (r_ a22), (r_ a23), (j_ a24 0), (j_ a7 0), (p_ "/claim/cut.py" a29)])) #[])
abbrev t2 (a0 : String) (a2 : Nat) (x : Params) : Obj := (@Obj.mk .none none (@Data.func (@FuncData.mk (.ofString a0) (.ofString a0) (L2.defArgs (My.top a2)) (@FuncBody.stmts (L2.defBody (My.top a2))) (L2.defScope (My.top a2)) 0 (@List.nil (@Prod @Str @Nat)) .none .none .none .none none .none .none 0)) #[])
abbrev t3 (x : Params) : Obj := (@Obj.mk (.type "tuple") none (@Data.seq #[] 0) #[])
abbrev t4 (x : Params) : Obj := (@Obj.mk .none none (@Data.fields #[]) #[])
abbrev t5 (a1 : String) (a2 : Nat) (a3 : String) (a4 : Nat) (a5 : String) (a6 : Nat) (a7 : String) (a8 : Nat) (a9 : String) (a10 : Nat) (a11 : String) (a12 : Nat) (x : Params) : Obj := (@Obj.mk (.type "tuple") none (@Data.seq (List.toArray [(p_ a1 a2), (p_ a3 a4), (p_ a5 a6), (p_ a7 a8), (p_ a9 a10), (p_ a11 a12)]) 0) #[])
abbrev t6 (a1 : String) (a2 : Nat) (a3 : String) (a4 : Nat) (a5 : String) (a6 : Nat) (x : Params) : Obj := (@Obj.mk (.type "tuple") none (@Data.seq (List.toArray [(p_ a1 a2), (p_ a3 a4), (p_ a5 a6)]) 0) #[])
abbrev t7 (a1 : String) (a2 a4 a6 : Nat) (a7 a9 : Int) (a17 a20 a21 : Nat) (a22 : Int) (a27 : Nat) (x : Params) : Obj := (@Obj.mk (.type "code") none (@Data.fields (List.toArray [(p_ a1 a2), (p_ a1 a4), (p_ "/claim/cut.py" a6), (j_ a7 0), (j_ a9 0), (j_ 0 0), (j_ 0 0), (j_ 3 0), (r_ a17), (.bool @Bool.true), (j_ 181 0), (r_ a20), .none, .none, .none, (r_ a21), (j_ a22 0), (j_ a7 0), (p_ "/claim/cut.py" a27)])) #[])
abbrev t8 (a1 : String) (a2 : Nat) (a3 : String) (a4 : Nat) (x : Params) : Obj := (@Obj.mk (.type "tuple") none (@Data.seq (List.toArray [(p_ a1 a2), (p_ a3 a4)]) 0) #[])
abbrev t9 (a1 : String) (a2 : Nat) (x : Params) : Obj := (@Obj.mk (.type "tuple") none (@Data.seq (List.toArray [(p_ a1 a2)]) 0) #[])
abbrev t10 (a1 : String) (a2 : Nat) (a3 : String) (a4 : Nat) (a5 : String) (a6 : Nat) (a7 : String) (a8 : Nat) (x : Params) : Obj := (@Obj.mk (.type "tuple") none (@Data.seq (List.toArray [(p_ a1 a2), (p_ a3 a4), (p_ a5 a6), (p_ a7 a8)]) 0) #[])
abbrev t11 (a2 : Nat) (x : Params) : Obj := (@Obj.mk (.type "builtin_function_or_method") none (@Data.fields (List.toArray [(.builtin "object.__init_subclass__"), (r_ a2)])) #[])
abbrev t12 (a1 : Nat) (x : Params) : Obj := (@Obj.mk (.type "super") none (@Data.fields (List.toArray [(r_ a1), (r_ a1), (r_ a1)])) #[])
abbrev t13 (a1 : String) (a3 a6 a8 a10 a12 : Nat) (x : Params) : Obj := (@Obj.mk (.type "type") none (@Data.cls (@ClassData.mk (.ofString a1) [(r_ 157)] [(r_ a3), (r_ 157), (.type "object")] a6 (.ofString a1) @Bool.true [] [] @Bool.false (@Option.none @Bool) @Bool.false)) (@List.toArray (@Option @Value) [(some (r_ a8)), none, (some (p_ a1 a10)), (some (p_ a1 a12)), (some (.builtin "object.__new__")), (some (.bool @Bool.true))]))
abbrev t14 (a1 a2 : String) (a3 a4 a12 : Nat) (x : Params) : Obj := (@Obj.mk (.type "function") none (@Data.func (@FuncData.mk (.ofString a1) (.ofString a2) (L2.defArgs (L2.inClass (My.top a3) a4)) (@FuncBody.stmts (L2.defBody (L2.inClass (My.top a3) a4))) (L2.defScope (L2.inClass (My.top a3) a4)) 3 (@List.nil (@Prod @Str @Nat)) .none .none .none (p_ "oddbases.ways" 295) none (r_ a12) .none 0)) #[])
abbrev t15 (a0 a1 : String) (a2 a3 : Nat) (x : Params) : Obj := (@Obj.mk .none none (@Data.func (@FuncData.mk (.ofString a0) (.ofString a1) (L2.defArgs (L2.inClass (My.top a2) a3)) (@FuncBody.stmts (L2.defBody (L2.inClass (My.top a2) a3))) (L2.defScope (L2.inClass (My.top a2) a3)) 0 (@List.nil (@Prod @Str @Nat)) .none .none .none .none none .none .none 0)) #[])
abbrev t16 (a1 a3 : Nat) (a4 : String) (a5 : Nat) (x : Params) : Obj := (@Obj.mk (.type "frame") none @Data.plain (@List.toArray (@Option @Value) [(some (r_ a1)), (some (r_ 3)), (some (r_ a3)), none, (some (p_ a4 a5)), none, (some (r_ 0))]))
abbrev t17 (a1 : String) (a2 a4 a6 : Nat) (a7 : Int) (a17 a20 : Nat) (a21 : Int) (a26 : Nat) (x : Params) : Obj := (@Obj.mk (.type "code") none (@Data.fields (List.toArray [(p_ a1 a2), (p_ a1 a4), (p_ "/claim/cut.py" a6), (j_ a7 0), (j_ 0 0), (j_ 0 0), (j_ 0 0), (j_ 0 0), (r_ a17), (.bool @Bool.false), (j_ 181 0), (r_ a20), .none, .none, .none, .none, (j_ a21 0), (j_ a7 0), (p_ "/claim/cut.py" a26)])) #[])
abbrev t18 (a0 : Int) (a4 : Nat) (a5 : Int) (a9 : Nat) (a10 : Int) (a14 : Nat) (a15 : Int) (a19 : Nat) (a20 : Int) (a24 : Nat) (a25 : Int) (a29 : Nat) (x : Params) : Obj := (@Obj.mk .none none (@Data.fields (List.toArray [(j_ a0 0), (j_ 4 0), (r_ a4), (j_ a5 0), (j_ 4 0), (r_ a9), (j_ a10 0), (j_ 4 0), (r_ a14), (j_ a15 0), (j_ 4 0), (r_ a19), (j_ a20 0), (j_ 4 0), (r_ a24), (j_ a25 0), (j_ 4 0), (r_ a29)])) #[])
abbrev t19 (a3 a8 : Nat) (a9 : String) (a10 a13 : Nat) (a14 : Int) (a15 : Nat) (a16 : String) (a18 a19 : Nat) (a20 : String) (a22 a23 : Nat) (a24 : String) (a26 a27 : Nat) (a28 : String) (a30 a31 a34 a35 a38 a39 a42 a43 : Nat) (x : Params) : Obj := (@Obj.mk (.type "dict") none (@Data.dict (List.toArray [(e_ x "__module__" a3 (p_ "oddbases.ways" 295)), (e_ x "__qualname__" a8 (p_ a9 a10)), (e_ x "__firstlineno__" a13 (j_ a14 a15)), (e_ x a16 a18 (r_ a19)), (e_ x a20 a22 (r_ a23)), (e_ x a24 a26 (r_ a27)), (e_ x a28 a30 (r_ a31)), (e_ x "split" a34 (r_ a35)), (e_ x "has" a38 (r_ a39)), (e_ x "__static_attributes__" a42 (r_ a43))]) 10) #[])
abbrev t20 (x : Params) : Obj := (@Obj.mk (.type "builtin_function_or_method") none (@Data.fields (List.toArray [(.builtin "type.__prepare__"), (.type "type")])) #[])
abbrev t21 (a1 : Nat) (x : Params) : Obj := (@Obj.mk (.type "tuple") none (@Data.seq (List.toArray [(r_ a1)]) 0) #[])
abbrev t22 (a3 a8 : Nat) (a9 : Int) (a10 a13 a14 : Nat) (a15 : String) (a17 a18 : Nat) (a19 : String) (a21 a22 a25 a26 : Nat) (a27 : String) (a29 a30 a33 a34 a37 : Nat) (x : Params) : Obj := (@Obj.mk (.type "dict") none (@Data.dict (List.toArray [(e_ x "__module__" a3 (p_ "oddbases.ways" 295)), (e_ x "__firstlineno__" a8 (j_ a9 a10)), (e_ x "__init__" a13 (r_ a14)), (e_ x a15 a17 (r_ a18)), (e_ x a19 a21 (r_ a22)), (e_ x "ratio" a25 (r_ a26)), (e_ x a27 a29 (r_ a30)), (e_ x "__static_attributes__" a33 (r_ a34)), (e_ x "__doc__" a37 .none)]) 2) #[])
abbrev t23 (a0 : Int) (a4 : Nat) (a5 : Int) (a9 : Nat) (a10 : Int) (a14 : Nat) (a15 : Int) (a19 : Nat) (a20 : Int) (a24 : Nat) (x : Params) : Obj := (@Obj.mk .none none (@Data.fields (List.toArray [(j_ a0 0), (j_ 4 0), (r_ a4), (j_ a5 0), (j_ 4 0), (r_ a9), (j_ a10 0), (j_ 4 0), (r_ a14), (j_ a15 0), (j_ 4 0), (r_ a19), (j_ a20 0), (j_ 4 0), (r_ a24)])) #[])
abbrev t24 (a3 a8 : Nat) (a9 : String) (a10 a13 : Nat) (a14 : Int) (a15 a18 a19 : Nat) (a20 : String) (a22 a23 : Nat) (a24 : String) (a26 a27 a30 a31 : Nat) (a32 : String) (a34 a35 a38 a39 : Nat) (x : Params) : Obj := (@Obj.mk (.type "dict") none (@Data.dict (List.toArray [(e_ x "__module__" a3 (p_ "oddbases.ways" 295)), (e_ x "__qualname__" a8 (p_ a9 a10)), (e_ x "__firstlineno__" a13 (j_ a14 a15)), (e_ x "__init__" a18 (r_ a19)), (e_ x a20 a22 (r_ a23)), (e_ x a24 a26 (r_ a27)), (e_ x "ratio" a30 (r_ a31)), (e_ x a32 a34 (r_ a35)), (e_ x "__static_attributes__" a38 (r_ a39))]) 9) #[])
abbrev t25 (a3 a8 : Nat) (a9 : Int) (a10 a13 a14 a17 a18 a21 a22 a25 a26 a29 : Nat) (x : Params) : Obj := (@Obj.mk (.type "dict") none (@Data.dict (List.toArray [(e_ x "__module__" a3 (p_ "oddbases.ways" 295)), (e_ x "__firstlineno__" a8 (j_ a9 a10)), (e_ x "__init__" a13 (r_ a14)), (e_ x "high" a17 (r_ a18)), (e_ x "ratio" a21 (r_ a22)), (e_ x "__static_attributes__" a25 (r_ a26)), (e_ x "__doc__" a29 .none)]) 2) #[])
abbrev t26 (a0 : Int) (a4 : Nat) (a5 : Int) (a9 : Nat) (a10 : Int) (a14 : Nat) (x : Params) : Obj := (@Obj.mk .none none (@Data.fields (List.toArray [(j_ a0 0), (j_ 4 0), (r_ a4), (j_ a5 0), (j_ 4 0), (r_ a9), (j_ a10 0), (j_ 4 0), (r_ a14)])) #[])
abbrev t27 (a3 a8 : Nat) (a9 : String) (a10 a13 : Nat) (a14 : Int) (a15 a18 a19 a22 a23 a26 a27 a30 a31 : Nat) (x : Params) : Obj := (@Obj.mk (.type "dict") none (@Data.dict (List.toArray [(e_ x "__module__" a3 (p_ "oddbases.ways" 295)), (e_ x "__qualname__" a8 (p_ a9 a10)), (e_ x "__firstlineno__" a13 (j_ a14 a15)), (e_ x "__init__" a18 (r_ a19)), (e_ x "high" a22 (r_ a23)), (e_ x "ratio" a26 (r_ a27)), (e_ x "__static_attributes__" a30 (r_ a31))]) 7) #[])
abbrev t28 (a2 a3 : Nat) (x : Params) : Obj := (@Obj.mk (.type "getset_descriptor") none (@Data.fields (List.toArray [(p_ "__weakref__" a2), (r_ a3), (.builtin "ExceptionGroup.__weakref__"), .none])) #[])
abbrev t29 (a1 : String) (a3 a9 a11 a13 a15 : Nat) (x : Params) : Obj := (@Obj.mk (.type "type") none (@Data.cls (@ClassData.mk (.ofString a1) [(r_ 31)] [(r_ a3), (r_ 31), (.type "ValueError"), (.type "Exception"), (.type "BaseException"), (.type "object")] a9 (.ofString a1) @Bool.true [] [] @Bool.false (@Option.none @Bool) @Bool.false)) (@List.toArray (@Option @Value) [(some (r_ a11)), none, (some (p_ a1 a13)), (some (p_ a1 a15)), (some (.builtin "ValueError.__new__")), (some (.bool @Bool.true))]))
abbrev t30 (a3 a8 : Nat) (a9 : Int) (a10 a13 a14 a17 : Nat) (x : Params) : Obj := (@Obj.mk (.type "dict") none (@Data.dict (List.toArray [(e_ x "__module__" a3 (p_ "oddbases.errors" 194)), (e_ x "__firstlineno__" a8 (j_ a9 a10)), (e_ x "__static_attributes__" a13 (r_ a14)), (e_ x "__doc__" a17 .none)]) 2) #[])
abbrev t31 (a3 a8 : Nat) (a9 : String) (a10 a13 : Nat) (a14 : Int) (a15 a18 a19 : Nat) (x : Params) : Obj := (@Obj.mk (.type "dict") none (@Data.dict (List.toArray [(e_ x "__module__" a3 (p_ "oddbases.errors" 194)), (e_ x "__qualname__" a8 (p_ a9 a10)), (e_ x "__firstlineno__" a13 (j_ a14 a15)), (e_ x "__static_attributes__" a18 (r_ a19))]) 4) #[])
abbrev U2 (x : Params) : DictEntry := (e_ x "__annotations__" 170 (r_ 6))
abbrev U1 (x : Params) : DictEntry := (e_ x "__file__" 173 (p_ "/claim/cut.py" 172))
abbrev U0 (x : Params) : DictEntry := (e_ x "__loader__" 168 (.builtin "__main__.__loader__#opaque"))
def o637 := t0 "law" 48 "law_oddbases_k58_writings_as_texts" 782 567
def o636 := t1 "law" 894 "law" 895 896 328 1 562 563 564 565 566 905 906
def o635 := t2 "law" 48
def o634 := t3
def o633 (x : Params) : Obj := (@Obj.mk (.type "tuple") none (@Data.seq (List.toArray [(p_ "_law_script" 897), (p_ "_law_own" 898), (p_ "_law_way_here" 899), (p_ "_law_row" 900), (p_ "_law_handed" 901), (p_ "_law_text" 902), (p_ "_law_cell" 903), (p_ "_law_k" 904)]) 0) #[])
def o632 := t4
def o630 := t0 "_law_spoilt" 47 "law_oddbases_k58_writings_as_texts" 782 560
def o629 := t1 "_law_spoilt" 882 "_law_spoilt" 883 884 315 3 555 556 557 558 559 891 892
def o628 := t2 "_law_spoilt" 47
def o626 := t5 "_law_row" 885 "_law_text" 886 "_law_cell" 887 "_law_way_here" 888 "_law_at" 889 "_law_changed" 890
def o623 := t0 "_law_read" 46 "law_oddbases_k58_writings_as_texts" 782 553
def o622 := t1 "_law_read" 870 "_law_read" 871 872 301 3 548 549 550 551 552 879 880
def o621 := t2 "_law_read" 46
def o619 := t5 "_law_way_here" 873 "_law_own" 874 "_law_text" 875 "_law_found" 876 "_law_refused" 877 "_law_due" 878
def o616 := t0 "_law_alike" 45 "law_oddbases_k58_writings_as_texts" 782 546
def o615 := t1 "_law_alike" 861 "_law_alike" 862 863 294 2 541 542 543 544 545 867 868
def o614 := t2 "_law_alike" 45
def o612 := t6 "_law_found" 864 "_law_due" 865 "_law_k" 866
def o609 := t0 "_law_row_of" 44 "law_oddbases_k58_writings_as_texts" 782 539
def o608 := t7 "_law_row_of" 855 856 857 285 2 536 537 538 858 859
def o607 := t2 "_law_row_of" 44
def o604 := t0 "_law_whole_of" 43 "law_oddbases_k58_writings_as_texts" 782 534
def o603 := t1 "_law_whole_of" 846 "_law_whole_of" 847 848 273 1 529 530 531 532 533 852 853
def o602 := t2 "_law_whole_of" 43
def o600 := t6 "_law_text" 849 "_law_figures" 850 "_law_sign" 851
def o597 := t0 "_law_is_writing" 42 "law_oddbases_k58_writings_as_texts" 782 527
def o596 := t1 "_law_is_writing" 837 "_law_is_writing" 838 839 266 2 522 523 524 525 526 843 844
def o595 := t2 "_law_is_writing" 42
def o593 := t6 "_law_way_here" 840 "_law_row" 841 "_law_k" 842
def o590 := t0 "_law_shown" 41 "law_oddbases_k58_writings_as_texts" 782 520
def o589 := t7 "_law_shown" 831 832 833 262 1 517 518 519 834 835
def o588 := t2 "_law_shown" 41
def o585 := t0 "_law_drawn" 40 "law_oddbases_k58_writings_as_texts" 782 515
def o584 := t1 "_law_drawn" 816 "_law_drawn" 817 818 248 2 510 511 512 513 514 828 829
def o583 := t2 "_law_drawn" 40
def o581 (x : Params) : Obj := (@Obj.mk (.type "tuple") none (@Data.seq (List.toArray [(p_ "_law_way_here" 819), (p_ "_law_cells" 820), (p_ "_law_row" 821), (p_ "_law_cell" 822), (p_ "_law_mixed" 823), (p_ "_law_low_here" 824), (p_ "_law_high_here" 825), (p_ "_law_free" 826), (p_ "_law_figure" 827)]) 0) #[])
def o578 := t0 "_law_high" 39 "law_oddbases_k58_writings_as_texts" 782 508
def o577 := t1 "_law_high" 808 "_law_high" 809 810 240 2 503 504 505 506 507 813 814
def o576 := t2 "_law_high" 39
def o574 := t8 "_law_way_here" 811 "_law_place" 812
def o571 := t0 "_law_low" 38 "law_oddbases_k58_writings_as_texts" 782 501
def o570 := t1 "_law_low" 801 "_law_low" 802 803 236 1 496 497 498 499 500 805 806
def o569 := t2 "_law_low" 38
def o567 := t9 "_law_way_here" 804
def o564 := t0 "_law_way" 37 "law_oddbases_k58_writings_as_texts" 782 494
def o563 := t1 "_law_way" 792 "_law_way" 793 794 226 1 489 490 491 492 493 798 799
def o562 := t2 "_law_way" 37
def o560 := t6 "_law_cell" 795 "_law_kind" 796 "_law_number" 797
def o555 := t0 "_law_cell_at" 36 "law_oddbases_k58_writings_as_texts" 782 487
def o554 := t1 "_law_cell_at" 784 "_law_cell_at" 785 786 222 2 482 483 484 485 486 789 790
def o553 := t2 "_law_cell_at" 36
def o551 := t8 "_law_script" 787 "_law_k" 788
def o548 := t0 "way_read" 34 "oddbases.texts" 722 480
def o547 := t1 "way_read" 773 "way_read" 774 775 214 1 475 476 477 478 479 779 780
def o546 := t2 "way_read" 34
def o544 := t6 "text" 776 "name" 777 "number" 778
def o541 := t0 "way_made" 33 "oddbases.texts" 722 473
def o540 := t1 "way_made" 765 "way_made" 766 767 200 2 468 469 470 471 472 770 771
def o539 := t2 "way_made" 33
def o537 := t8 "name" 768 "number" 769
def o534 := t0 "row_read" 32 "oddbases.texts" 722 466
def o533 := t7 "row_read" 759 760 761 192 2 463 464 465 762 763
def o532 := t2 "row_read" 32
def o529 := t0 "whole_read" 31 "oddbases.texts" 722 461
def o528 := t1 "whole_read" 751 "whole_read" 752 753 185 1 456 457 458 459 460 756 757
def o527 := t2 "whole_read" 31
def o525 := t8 "text" 754 "figures" 755
def o522 := t0 "has_figures_alone" 29 "oddbases.texts" 722 454
def o521 := t1 "has_figures_alone" 742 "has_figures_alone" 743 744 179 1 449 450 451 452 453 747 748
def o520 := t2 "has_figures_alone" 29
def o518 := t8 "text" 745 "sign" 746
def o515 := t0 "row_shown" 28 "oddbases.texts" 722 447
def o514 := t7 "row_shown" 736 737 738 175 1 444 445 446 739 740
def o513 := t2 "row_shown" 28
def o510 := t0 "whole_shown" 27 "oddbases.texts" 722 442
def o509 := t1 "whole_shown" 726 "whole_shown" 727 728 163 1 437 438 439 440 441 733 734
def o508 := t2 "whole_shown" 27
def o506 := t10 "number" 729 "limit" 730 "parts" 731 "rest" 732
def o503 := t0 "is_writing" 24 "oddbases.writings" 692 435
def o502 := t1 "is_writing" 714 "is_writing" 715 716 155 2 430 431 432 433 434 719 720
def o501 := t2 "is_writing" 24
def o499 := t8 "way" 717 "row" 718
def o496 := t0 "has_mosts_above_noughts_alone" 23 "oddbases.writings" 692 428
def o495 := t1 "has_mosts_above_noughts_alone" 705 "has_mosts_above_noughts_alone" 706 707 150 2 423 424 425 426 427 711 712
def o494 := t2 "has_mosts_above_noughts_alone" 23
def o492 := t6 "way" 708 "row" 709 "place" 710
def o489 := t0 "has_figures_alone" 21 "oddbases.writings" 692 421
def o488 := t1 "has_figures_alone" 694 "has_figures_alone" 695 696 144 2 416 417 418 419 420 701 702
def o487 := t2 "has_figures_alone" 21
def o485 := t10 "way" 697 "row" 698 "place" 699 "thing" 700
def o480 := t11 413
def o479 := t12 413
def o478 := t13 "Pairs" 413 412 362 623 631
def o477 (x : Params) : Obj := (@Obj.mk (.type "dict") none (@Data.dict (List.toArray [(e_ x "__module__" 630 (p_ "oddbases.ways" 295)), (e_ x "__firstlineno__" 634 (j_ 120 633)), (e_ x "__init__" 642 (r_ 375)), (e_ x "nought" 649 (r_ 382)), (e_ x "high" 657 (r_ 389)), (e_ x "ratio" 665 (r_ 396)), (e_ x "split" 678 (r_ 403)), (e_ x "has" 686 (r_ 410)), (e_ x "__static_attributes__" 688 (r_ 411)), (e_ x "__doc__" 689 .none)]) 2) #[])
def o476 := t9 "most" 687
def o475 := t14 "has" "Pairs.has" 19 5 409
def o474 := t1 "has" 679 "Pairs.has" 680 681 141 2 404 405 406 407 408 684 685
def o473 := t15 "has" "Pairs.has" 19 5
def o471 := t8 "self" 682 "number" 683
def o468 := t14 "split" "Pairs.split" 19 4 402
def o467 := t1 "split" 666 "Pairs.split" 667 668 134 3 397 398 399 400 401 676 677
def o466 := t15 "split" "Pairs.split" 19 4
def o464 (x : Params) : Obj := (@Obj.mk (.type "tuple") none (@Data.seq (List.toArray [(p_ "self" 669), (p_ "total" 670), (p_ "place" 671), (p_ "pair" 672), (p_ "figures" 673), (p_ "figure" 674), (p_ "turned" 675)]) 0) #[])
def o461 := t14 "ratio" "Pairs.ratio" 19 3 395
def o460 := t1 "ratio" 658 "Pairs.ratio" 659 660 131 2 390 391 392 393 394 663 664
def o459 := t15 "ratio" "Pairs.ratio" 19 3
def o457 := t8 "self" 661 "place" 662
def o454 := t14 "high" "Pairs.high" 19 2 388
def o453 := t1 "high" 650 "Pairs.high" 651 652 128 2 383 384 385 386 387 655 656
def o452 := t15 "high" "Pairs.high" 19 2
def o450 := t8 "self" 653 "place" 654
def o447 := t14 "nought" "Pairs.nought" 19 1 381
def o446 := t1 "nought" 643 "Pairs.nought" 644 645 125 1 376 377 378 379 380 647 648
def o445 := t15 "nought" "Pairs.nought" 19 1
def o443 := t9 "self" 646
def o440 := t14 "__init__" "Pairs.__init__" 19 0 374
def o439 := t1 "__init__" 635 "Pairs.__init__" 636 637 122 2 369 370 371 372 373 640 641
def o438 := t15 "__init__" "Pairs.__init__" 19 0
def o436 := t8 "self" 638 "most" 639
def o433 := t16 367 364 "oddbases.ways" 295
def o432 := t17 "Pairs" 625 626 627 120 365 366 628 629
def o431 := t18 122 374 125 381 128 388 131 395 134 402 141 409
def o429 := t19 630 632 "Pairs" 631 634 120 633 "__init__" 642 375 "nought" 649 382 "high" 657 389 "ratio" 665 396 678 403 686 410 688 411
def o428 := t20
def o427 := t21 157
def o423 := t11 359
def o422 := t12 359
def o421 := t13 "Falling" 359 358 315 565 573
def o420 := t22 572 576 104 575 584 328 "high" 592 335 "weights" 600 342 608 349 "split" 617 356 619 357 620
def o419 := t9 "most" 618
def o418 := t14 "split" "Falling.split" 18 4 355
def o417 := t1 "split" 609 "Falling.split" 610 611 118 3 350 351 352 353 354 615 616
def o416 := t15 "split" "Falling.split" 18 4
def o414 := t6 "self" 612 "total" 613 "place" 614
def o411 := t14 "ratio" "Falling.ratio" 18 3 348
def o410 := t1 "ratio" 601 "Falling.ratio" 602 603 115 2 343 344 345 346 347 606 607
def o409 := t15 "ratio" "Falling.ratio" 18 3
def o407 := t8 "self" 604 "place" 605
def o404 := t14 "weights" "Falling.weights" 18 2 341
def o403 := t1 "weights" 593 "Falling.weights" 594 595 112 2 336 337 338 339 340 598 599
def o402 := t15 "weights" "Falling.weights" 18 2
def o400 := t8 "self" 596 "many" 597
def o397 := t14 "high" "Falling.high" 18 1 334
def o396 := t1 "high" 585 "Falling.high" 586 587 109 2 329 330 331 332 333 590 591
def o395 := t15 "high" "Falling.high" 18 1
def o393 := t8 "self" 588 "place" 589
def o390 := t14 "__init__" "Falling.__init__" 18 0 327
def o389 := t1 "__init__" 577 "Falling.__init__" 578 579 106 2 322 323 324 325 326 582 583
def o388 := t15 "__init__" "Falling.__init__" 18 0
def o386 := t8 "self" 580 "most" 581
def o383 := t16 320 317 "oddbases.ways" 295
def o382 := t17 "Falling" 567 568 569 104 318 319 570 571
def o381 := t23 106 327 109 334 112 341 115 348 118 355
def o379 := t24 572 574 "Falling" 573 576 104 575 584 328 "high" 592 335 "weights" 600 342 608 349 "split" 617 356 619 357
def o373 := t11 312
def o372 := t12 312
def o371 := t13 "Growing" 312 311 282 524 532
def o370 := t25 531 535 94 534 543 295 551 302 559 309 561 310 562
def o369 := t9 "first" 560
def o368 := t14 "ratio" "Growing.ratio" 17 2 308
def o367 := t1 "ratio" 552 "Growing.ratio" 553 554 102 2 303 304 305 306 307 557 558
def o366 := t15 "ratio" "Growing.ratio" 17 2
def o364 := t8 "self" 555 "place" 556
def o361 := t14 "high" "Growing.high" 17 1 301
def o360 := t1 "high" 544 "Growing.high" 545 546 99 2 296 297 298 299 300 549 550
def o359 := t15 "high" "Growing.high" 17 1
def o357 := t8 "self" 547 "place" 548
def o354 := t14 "__init__" "Growing.__init__" 17 0 294
def o353 := t1 "__init__" 536 "Growing.__init__" 537 538 96 2 289 290 291 292 293 541 542
def o352 := t15 "__init__" "Growing.__init__" 17 0
def o350 := t8 "self" 539 "first" 540
def o347 := t16 287 284 "oddbases.ways" 295
def o346 := t17 "Growing" 526 527 528 94 285 286 529 530
def o345 := t26 96 294 99 301 102 308
def o343 := t27 531 533 "Growing" 532 535 94 534 543 295 551 302 559 309 561 310
def o337 := t11 279
def o336 := t12 279
def o335 := t13 "Balanced" 279 278 235 467 475
def o334 := t22 474 478 78 477 486 248 "low" 494 255 "high" 502 262 510 269 "has" 518 276 520 277 521
def o333 := t9 "half" 519
def o332 := t14 "has" "Balanced.has" 16 4 275
def o331 := t1 "has" 511 "Balanced.has" 512 513 92 2 270 271 272 273 274 516 517
def o330 := t15 "has" "Balanced.has" 16 4
def o328 := t8 "self" 514 "number" 515
def o325 := t14 "ratio" "Balanced.ratio" 16 3 268
def o324 := t1 "ratio" 503 "Balanced.ratio" 504 505 89 2 263 264 265 266 267 508 509
def o323 := t15 "ratio" "Balanced.ratio" 16 3
def o321 := t8 "self" 506 "place" 507
def o318 := t14 "high" "Balanced.high" 16 2 261
def o317 := t1 "high" 495 "Balanced.high" 496 497 86 2 256 257 258 259 260 500 501
def o316 := t15 "high" "Balanced.high" 16 2
def o314 := t8 "self" 498 "place" 499
def o311 := t14 "low" "Balanced.low" 16 1 254
def o310 := t1 "low" 487 "Balanced.low" 488 489 83 2 249 250 251 252 253 492 493
def o309 := t15 "low" "Balanced.low" 16 1
def o307 := t8 "self" 490 "place" 491
def o304 := t14 "__init__" "Balanced.__init__" 16 0 247
def o303 := t1 "__init__" 479 "Balanced.__init__" 480 481 80 2 242 243 244 245 246 484 485
def o302 := t15 "__init__" "Balanced.__init__" 16 0
def o300 := t8 "self" 482 "half" 483
def o297 := t16 240 237 "oddbases.ways" 295
def o296 := t17 "Balanced" 469 470 471 78 238 239 472 473
def o295 := t23 80 247 83 254 86 261 89 268 92 275
def o293 := t24 474 476 "Balanced" 475 478 78 477 486 248 "low" 494 255 "high" 502 262 510 269 "has" 518 276 520 277
def o287 := t11 232
def o286 := t12 232
def o285 := t13 "Below" 232 231 195 418 426
def o284 (x : Params) : Obj := (@Obj.mk (.type "dict") none (@Data.dict (List.toArray [(e_ x "__module__" 425 (p_ "oddbases.ways" 295)), (e_ x "__firstlineno__" 429 (j_ 65 428)), (e_ x "__init__" 437 (r_ 208)), (e_ x "high" 445 (r_ 215)), (e_ x "ratio" 453 (r_ 222)), (e_ x "has" 461 (r_ 229)), (e_ x "__static_attributes__" 463 (r_ 230)), (e_ x "__doc__" 464 .none)]) 2) #[])
def o283 := t9 "base" 462
def o282 := t14 "has" "Below.has" 15 3 228
def o281 := t1 "has" 454 "Below.has" 455 456 76 2 223 224 225 226 227 459 460
def o280 := t15 "has" "Below.has" 15 3
def o278 := t8 "self" 457 "number" 458
def o275 := t14 "ratio" "Below.ratio" 15 2 221
def o274 := t1 "ratio" 446 "Below.ratio" 447 448 73 2 216 217 218 219 220 451 452
def o273 := t15 "ratio" "Below.ratio" 15 2
def o271 := t8 "self" 449 "place" 450
def o268 := t14 "high" "Below.high" 15 1 214
def o267 := t1 "high" 438 "Below.high" 439 440 70 2 209 210 211 212 213 443 444
def o266 := t15 "high" "Below.high" 15 1
def o264 := t8 "self" 441 "place" 442
def o261 := t14 "__init__" "Below.__init__" 15 0 207
def o260 := t1 "__init__" 430 "Below.__init__" 431 432 67 2 202 203 204 205 206 435 436
def o259 := t15 "__init__" "Below.__init__" 15 0
def o257 := t8 "self" 433 "base" 434
def o254 := t16 200 197 "oddbases.ways" 295
def o253 := t17 "Below" 420 421 422 65 198 199 423 424
def o252 (x : Params) : Obj := (@Obj.mk .none none (@Data.fields (List.toArray [(j_ 67 0), (j_ 4 0), (r_ 207), (j_ 70 0), (j_ 4 0), (r_ 214), (j_ 73 0), (j_ 4 0), (r_ 221), (j_ 76 0), (j_ 4 0), (r_ 228)])) #[])
def o250 (x : Params) : Obj := (@Obj.mk (.type "dict") none (@Data.dict (List.toArray [(e_ x "__module__" 425 (p_ "oddbases.ways" 295)), (e_ x "__qualname__" 427 (p_ "Below" 426)), (e_ x "__firstlineno__" 429 (j_ 65 428)), (e_ x "__init__" 437 (r_ 208)), (e_ x "high" 445 (r_ 215)), (e_ x "ratio" 453 (r_ 222)), (e_ x "has" 461 (r_ 229)), (e_ x "__static_attributes__" 463 (r_ 230))]) 8) #[])
def o244 := t11 192
def o243 := t12 192
def o242 := t13 "Plain" 192 191 162 377 385
def o241 := t25 384 388 55 387 396 175 404 182 412 189 414 190 415
def o240 := t9 "base" 413
def o239 := t14 "ratio" "Plain.ratio" 14 2 188
def o238 := t1 "ratio" 405 "Plain.ratio" 406 407 63 2 183 184 185 186 187 410 411
def o237 := t15 "ratio" "Plain.ratio" 14 2
def o235 := t8 "self" 408 "place" 409
def o232 := t14 "high" "Plain.high" 14 1 181
def o231 := t1 "high" 397 "Plain.high" 398 399 60 2 176 177 178 179 180 402 403
def o230 := t15 "high" "Plain.high" 14 1
def o228 := t8 "self" 400 "place" 401
def o225 := t14 "__init__" "Plain.__init__" 14 0 174
def o224 := t1 "__init__" 389 "Plain.__init__" 390 391 57 2 169 170 171 172 173 394 395
def o223 := t15 "__init__" "Plain.__init__" 14 0
def o221 := t8 "self" 392 "base" 393
def o218 := t16 167 164 "oddbases.ways" 295
def o217 := t17 "Plain" 379 380 381 55 165 166 382 383
def o216 := t26 57 174 60 181 63 188
def o214 := t27 384 386 "Plain" 385 388 55 387 396 175 404 182 412 189 414 190
def o208 := t11 157
def o207 := t12 157
def o206 := t28 372 157
def o205 (x : Params) : Obj := (@Obj.mk (.type "getset_descriptor") none (@Data.fields (List.toArray [(p_ "__dict__" 370), (r_ 157), (.builtin "function.__dict__"), (.builtin "function.__dict__#set")])) #[])
def o426 (x : Params) : Obj := (@Obj.mk (.type "type") none (@Data.cls (@ClassData.mk (.ofString "Way") [(.type "object")] [(r_ 157), (.type "object")] 156 (.ofString "Way") @Bool.true [] [(r_ 192), (r_ 232), (r_ 279), (r_ 312), (r_ 359), (r_ 413)] @Bool.false (@Option.none @Bool) @Bool.false)) (@List.toArray (@Option @Value) [none, none, (some (p_ "Way" 306)), (some (p_ "Way" 314)), (some (.builtin "object.__new__")), (some (.bool @Bool.true))]))
def o203 (x : Params) : Obj := (@Obj.mk (.type "dict") none (@Data.dict (List.toArray [(e_ x "__module__" 313 (p_ "oddbases.ways" 295)), (e_ x "__firstlineno__" 317 (j_ 33 316)), (e_ x "nought" 324 (r_ 119)), (e_ x "low" 332 (r_ 126)), (e_ x "weights" 340 (r_ 133)), (e_ x "weight" 348 (r_ 140)), (e_ x "split" 360 (r_ 147)), (e_ x "has" 368 (r_ 154)), (e_ x "__static_attributes__" 369 (r_ 155)), (e_ x "__dict__" 371 (r_ 158)), (e_ x "__weakref__" 373 (r_ 159)), (e_ x "__doc__" 374 .none)]) 4) #[])
def o201 := t14 "has" "Way.has" 13 5 153
def o200 := t1 "has" 361 "Way.has" 362 363 53 2 148 149 150 151 152 366 367
def o199 := t15 "has" "Way.has" 13 5
def o197 := t8 "self" 364 "number" 365
def o194 := t14 "split" "Way.split" 13 4 146
def o193 := t1 "split" 349 "Way.split" 350 351 47 3 141 142 143 144 145 358 359
def o192 := t15 "split" "Way.split" 13 4
def o190 := t5 "self" 352 "total" 353 "place" 354 "low" 355 "figures" 356 "figure" 357
def o187 := t14 "weight" "Way.weight" 13 3 139
def o186 := t1 "weight" 341 "Way.weight" 342 343 44 2 134 135 136 137 138 346 347
def o185 := t15 "weight" "Way.weight" 13 3
def o183 := t8 "self" 344 "place" 345
def o180 := t14 "weights" "Way.weights" 13 2 132
def o179 := t1 "weights" 333 "Way.weights" 334 335 41 2 127 128 129 130 131 338 339
def o178 := t15 "weights" "Way.weights" 13 2
def o176 := t8 "self" 336 "many" 337
def o173 := t14 "low" "Way.low" 13 1 125
def o172 := t1 "low" 325 "Way.low" 326 327 38 2 120 121 122 123 124 330 331
def o171 := t15 "low" "Way.low" 13 1
def o169 := t8 "self" 328 "place" 329
def o166 := t14 "nought" "Way.nought" 13 0 118
def o165 := t1 "nought" 318 "Way.nought" 319 320 35 1 113 114 115 116 117 322 323
def o164 := t15 "nought" "Way.nought" 13 0
def o162 := t9 "self" 321
def o159 := t16 111 108 "oddbases.ways" 295
def o158 := t17 "Way" 308 309 310 33 109 110 311 312
def o157 := t18 35 118 38 125 41 132 44 139 47 146 53 153
def o155 := t19 313 315 "Way" 314 317 33 316 "nought" 324 119 "low" 332 126 "weights" 340 133 "weight" 348 140 360 147 368 154 369 155
def o150 := t0 "bounded" 12 "oddbases.ways" 295 104
def o149 := t1 "bounded" 297 "bounded" 298 299 29 3 99 100 101 102 103 303 304
def o148 := t2 "bounded" 12
def o146 := t6 "number" 300 "least" 301 "most" 302
def o143 := t0 "multiplied" 10 "oddbases.pairs" 262 97
def o142 := t1 "multiplied" 285 "multiplied" 286 287 22 2 92 93 94 95 96 292 293
def o141 := t2 "multiplied" 10
def o139 := t10 "one" 288 "other" 289 "left" 290 "right" 291
def o136 := t0 "as_pair" 9 "oddbases.pairs" 262 90
def o135 := t1 "as_pair" 278 "as_pair" 279 280 18 1 85 86 87 88 89 282 283
def o134 := t2 "as_pair" 9
def o132 := t9 "number" 281
def o129 := t0 "is_pair" 8 "oddbases.pairs" 262 83
def o128 := t1 "is_pair" 271 "is_pair" 272 273 16 1 78 79 80 81 82 275 276
def o127 := t2 "is_pair" 8
def o125 := t9 "value" 274
def o122 := t0 "is_whole" 7 "oddbases.pairs" 262 76
def o121 := t1 "is_whole" 264 "is_whole" 265 266 14 1 71 72 73 74 75 268 269
def o120 := t2 "is_whole" 7
def o118 := t9 "value" 267
def o115 := t11 68
def o114 := t12 68
def o113 := t29 "NoText" 68 67 59 246 254
def o112 := t30 253 257 11 256 258 66 259
def o110 := t16 64 61 "oddbases.errors" 194
def o109 := t17 "NoText" 248 249 250 11 62 63 251 252
def o106 := t31 253 255 "NoText" 254 257 11 256 258 66
def o104 := t21 31
def o100 := t11 56
def o99 := t12 56
def o98 := t29 "NoRatio" 56 55 47 230 238
def o97 := t30 237 241 9 240 242 54 243
def o95 := t16 52 49 "oddbases.errors" 194
def o94 := t17 "NoRatio" 232 233 234 9 50 51 235 236
def o91 := t31 237 239 "NoRatio" 238 241 9 240 242 54
def o85 := t11 44
def o84 := t12 44
def o83 := t29 "NoWay" 44 43 35 214 222
def o82 := t30 221 225 7 224 226 42 227
def o80 := t16 40 37 "oddbases.errors" 194
def o79 := t17 "NoWay" 216 217 218 7 38 39 219 220
def o76 := t31 221 223 "NoWay" 222 225 7 224 226 42
def o70 := t11 31
def o69 := t12 31
def o68 := t28 209 31
def o103 (x : Params) : Obj := (@Obj.mk (.type "type") none (@Data.cls (@ClassData.mk (.ofString "OddError") [(.type "ValueError")] [(r_ 31), (.type "ValueError"), (.type "Exception"), (.type "BaseException"), (.type "object")] 30 (.ofString "OddError") @Bool.true [] [(r_ 44), (r_ 56), (r_ 68)] @Bool.false (@Option.none @Bool) @Bool.false)) (@List.toArray (@Option @Value) [(some (r_ 22)), none, (some (p_ "OddError" 196)), (some (p_ "OddError" 204)), (some (.builtin "ValueError.__new__")), (some (.bool @Bool.true))]))
def o66 (x : Params) : Obj := (@Obj.mk (.type "dict") none (@Data.dict (List.toArray [(e_ x "__module__" 203 (p_ "oddbases.errors" 194)), (e_ x "__firstlineno__" 207 (j_ 5 206)), (e_ x "__static_attributes__" 208 (r_ 29)), (e_ x "__weakref__" 210 (r_ 32)), (e_ x "__doc__" 211 .none)]) 3) #[])
def o64 := t16 27 24 "oddbases.errors" 194
def o63 := t17 "OddError" 198 199 200 5 25 26 201 202
def o60 := t31 203 205 "OddError" 204 207 5 206 208 29
def o58 (x : Params) : Obj := (@Obj.mk (.type "tuple") none (@Data.seq (List.toArray [(.type "ValueError")]) 0) #[])
def o57 := t0 "_wall" 0 "__main__" 164 20
def o56 := t1 "_wall" 187 "_wall" 188 189 1 1 15 16 17 18 19 191 192
def o55 := t2 "_wall" 0
def o53 := t9 "k" 190
def o46 := t16 13 3 "__main__" 164
def o45 := t17 "<module>" 182 183 184 1 11 12 185 186
def o557 (x : Params) : Obj := (@Obj.mk .none none (@Data.fields (List.toArray ((j_ 1 0) :: (j_ 0 0) :: (r_ 20) :: (j_ 5 0) :: (j_ 0 0) :: (r_ 27) :: (j_ 7 0) :: (j_ 0 0) :: (r_ 40) :: (j_ 9 0) :: (j_ 0 0) :: (r_ 52) :: (j_ 11 0) :: (j_ 0 0) :: (r_ 64) :: (j_ 14 0) :: (j_ 0 0) :: (r_ 76) :: (j_ 16 0) :: (j_ 0 0) :: (r_ 83) :: (j_ 18 0) :: (j_ 0 0) :: (r_ 90) :: (j_ 22 0) :: (j_ 0 0) :: (r_ 97) :: (j_ 29 0) :: (j_ 0 0) :: (r_ 104) :: (j_ 33 0) :: (j_ 0 0) :: (r_ 111) :: (j_ 55 0) :: (j_ 0 0) :: (r_ 167) :: (j_ 65 0) :: (j_ 0 0) :: (r_ 200) :: (j_ 78 0) :: (j_ 0 0) :: (r_ 240) :: (j_ 94 0) :: (j_ 0 0) :: (r_ 287) :: (j_ 104 0) :: (j_ 0 0) :: (r_ 320) :: (j_ 120 0) :: (j_ 0 0) :: (r_ 367) :: (j_ 144 0) :: (j_ 0 0) :: (r_ 421) :: (j_ 150 0) :: (j_ 0 0) :: (r_ 428) :: (j_ 155 0) :: (j_ 0 0) :: (r_ 435) :: (j_ 163 0) :: (j_ 0 0) :: (r_ 442) :: (j_ 175 0) :: (j_ 0 0) :: (r_ 447) :: (j_ 179 0) :: (j_ 0 0) :: (r_ 454) :: (j_ 185 0) :: (j_ 0 0) :: (r_ 461) :: (j_ 192 0) :: (j_ 0 0) :: (r_ 466) :: (j_ 200 0) :: (j_ 0 0) :: (r_ 473) :: (j_ 214 0) :: (j_ 0 0) :: (r_ 480) :: (j_ 222 0) :: (j_ 0 0) :: (r_ 487) :: (j_ 226 0) :: (j_ 0 0) :: (r_ 494) :: (j_ 236 0) :: (j_ 0 0) :: (r_ 501) :: (j_ 240 0) :: (j_ 0 0) :: (r_ 508) :: (j_ 248 0) :: (j_ 0 0) :: (r_ 515) :: (j_ 262 0) :: (j_ 0 0) :: (r_ 520) :: (j_ 266 0) :: (j_ 0 0) :: (r_ 527) :: (j_ 273 0) :: (j_ 0 0) :: (r_ 534) :: (j_ 285 0) :: (j_ 0 0) :: (r_ 539) :: (j_ 294 0) :: (j_ 0 0) :: (r_ 546) :: (j_ 301 0) :: (j_ 0 0) :: (r_ 553) :: (j_ 315 0) :: (j_ 0 0) :: (r_ 560) :: (j_ 328 0) :: (j_ 0 0) :: (r_ 567) :: []))) #[])
def o556 (x : Params) : Obj := (@Obj.mk (.type "dict") none (@Data.dict (List.toArray [(e_ x "__name__" 165 (p_ "law_oddbases_k58_writings_as_texts" 782)), (e_ x "__doc__" 166 .none), (e_ x "__package__" 167 .none), (U0 x), (e_ x "__spec__" 169 .none), (U2 x), (e_ x "__builtins__" 171 (r_ 4)), (U1 x), (e_ x "__cached__" 174 .none), (e_ x "_wall" 193 (r_ 21)), (e_ x "OddError" 213 (r_ 31)), (e_ x "NoWay" 229 (r_ 44)), (e_ x "NoRatio" 245 (r_ 56)), (e_ x "NoText" 261 (r_ 68)), (e_ x "is_whole" 270 (r_ 77)), (e_ x "is_pair" 277 (r_ 84)), (e_ x "as_pair" 284 (r_ 91)), (e_ x "multiplied" 294 (r_ 98)), (e_ x "bounded" 305 (r_ 105)), (e_ x "Way" 376 (r_ 157)), (e_ x "Plain" 417 (r_ 192)), (e_ x "Below" 466 (r_ 232)), (e_ x "Balanced" 523 (r_ 279)), (e_ x "Growing" 564 (r_ 312)), (e_ x "Falling" 622 (r_ 359)), (e_ x "Pairs" 691 (r_ 413)), (e_ x "has_figures_alone" 703 (r_ 455)), (e_ x "has_figures_alone_writings" 704 (r_ 422)), (e_ x "has_mosts_above_noughts_alone" 713 (r_ 429)), (e_ x "is_writing" 721 (r_ 436)), (e_ x "FIGURES" 725 (p_ "0123456789" 724)), (e_ x "whole_shown" 735 (r_ 443)), (e_ x "row_shown" 741 (r_ 448)), (e_ x "has_figures_alone_texts" 750 (r_ 455)), (e_ x "whole_read" 758 (r_ 462)), (e_ x "row_read" 764 (r_ 467)), (e_ x "way_made" 772 (r_ 474)), (e_ x "way_read" 781 (r_ 481)), (e_ x "_law_cell_at" 791 (r_ 488)), (e_ x "_law_way" 800 (r_ 495)), (e_ x "_law_low" 807 (r_ 502)), (e_ x "_law_high" 815 (r_ 509)), (e_ x "_law_drawn" 830 (r_ 516)), (e_ x "_law_shown" 836 (r_ 521)), (e_ x "_law_is_writing" 845 (r_ 528)), (e_ x "_law_whole_of" 854 (r_ 535)), (e_ x "_law_row_of" 860 (r_ 540)), (e_ x "_law_alike" 869 (r_ 547)), (e_ x "_law_read" 881 (r_ 554)), (e_ x "_law_spoilt" 893 (r_ 561)), (e_ x "law" 907 (r_ 568))]) 51) #[])
def o425 (x : Params) : Obj := (@Obj.mk .none none (@Data.fields (List.toArray [(j_ 1 0), (j_ 0 0), (r_ 20), (j_ 5 0), (j_ 0 0), (r_ 27), (j_ 7 0), (j_ 0 0), (r_ 40), (j_ 9 0), (j_ 0 0), (r_ 52), (j_ 11 0), (j_ 0 0), (r_ 64), (j_ 14 0), (j_ 0 0), (r_ 76), (j_ 16 0), (j_ 0 0), (r_ 83), (j_ 18 0), (j_ 0 0), (r_ 90), (j_ 22 0), (j_ 0 0), (r_ 97), (j_ 29 0), (j_ 0 0), (r_ 104), (j_ 33 0), (j_ 0 0), (r_ 111), (j_ 55 0), (j_ 0 0), (r_ 167), (j_ 65 0), (j_ 0 0), (r_ 200), (j_ 78 0), (j_ 0 0), (r_ 240), (j_ 94 0), (j_ 0 0), (r_ 287), (j_ 104 0), (j_ 0 0), (r_ 320), (j_ 120 0), (j_ 0 0), (r_ 367)])) #[])
def o424 (x : Params) : Obj := (@Obj.mk (.type "dict") none (@Data.dict (List.toArray [(e_ x "__name__" 165 (p_ "oddbases.ways" 295)), (e_ x "__doc__" 166 .none), (e_ x "__package__" 167 .none), (U0 x), (e_ x "__spec__" 169 .none), (U2 x), (e_ x "__builtins__" 171 (r_ 4)), (U1 x), (e_ x "__cached__" 174 .none), (e_ x "_wall" 193 (r_ 21)), (e_ x "OddError" 213 (r_ 31)), (e_ x "NoWay" 229 (r_ 44)), (e_ x "NoRatio" 245 (r_ 56)), (e_ x "NoText" 261 (r_ 68)), (e_ x "is_whole" 270 (r_ 77)), (e_ x "is_pair" 277 (r_ 84)), (e_ x "as_pair" 284 (r_ 91)), (e_ x "multiplied" 294 (r_ 98)), (e_ x "bounded" 305 (r_ 105)), (e_ x "Way" 376 (r_ 157)), (e_ x "Plain" 417 (r_ 192)), (e_ x "Below" 466 (r_ 232)), (e_ x "Balanced" 523 (r_ 279)), (e_ x "Growing" 564 (r_ 312)), (e_ x "Falling" 622 (r_ 359)), (e_ x "Pairs" 691 (r_ 413))]) 26) #[])
def o210 (x : Params) : Obj := (@Obj.mk .none none (@Data.fields (List.toArray [(j_ 1 0), (j_ 0 0), (r_ 20), (j_ 5 0), (j_ 0 0), (r_ 27), (j_ 7 0), (j_ 0 0), (r_ 40), (j_ 9 0), (j_ 0 0), (r_ 52), (j_ 11 0), (j_ 0 0), (r_ 64), (j_ 14 0), (j_ 0 0), (r_ 76), (j_ 16 0), (j_ 0 0), (r_ 83), (j_ 18 0), (j_ 0 0), (r_ 90), (j_ 22 0), (j_ 0 0), (r_ 97), (j_ 29 0), (j_ 0 0), (r_ 104), (j_ 33 0), (j_ 0 0), (r_ 111), (j_ 55 0), (j_ 0 0), (r_ 167)])) #[])
def o211 (x : Params) : Obj := (@Obj.mk (.type "type") none (@Data.cls (@ClassData.mk (.ofString "Way") [(.type "object")] [(r_ 157), (.type "object")] 156 (.ofString "Way") @Bool.true [] [(r_ 192)] @Bool.false (@Option.none @Bool) @Bool.false)) (@List.toArray (@Option @Value) [none, none, (some (p_ "Way" 306)), (some (p_ "Way" 314)), (some (.builtin "object.__new__")), (some (.bool @Bool.true))]))
def o209 (x : Params) : Obj := (@Obj.mk (.type "dict") none (@Data.dict (List.toArray [(e_ x "__name__" 165 (p_ "oddbases.ways" 295)), (e_ x "__doc__" 166 .none), (e_ x "__package__" 167 .none), (U0 x), (e_ x "__spec__" 169 .none), (U2 x), (e_ x "__builtins__" 171 (r_ 4)), (U1 x), (e_ x "__cached__" 174 .none), (e_ x "_wall" 193 (r_ 21)), (e_ x "OddError" 213 (r_ 31)), (e_ x "NoWay" 229 (r_ 44)), (e_ x "NoRatio" 245 (r_ 56)), (e_ x "NoText" 261 (r_ 68)), (e_ x "is_whole" 270 (r_ 77)), (e_ x "is_pair" 277 (r_ 84)), (e_ x "as_pair" 284 (r_ 91)), (e_ x "multiplied" 294 (r_ 98)), (e_ x "bounded" 305 (r_ 105)), (e_ x "Way" 376 (r_ 157)), (e_ x "Plain" 417 (r_ 192))]) 21) #[])
abbrev Y2 := N_ o634 (L_ o632) Z_
abbrev Y1 := N_ o634 (L_ o634) Z_
abbrev Y0 := N_ o632 (L_ o634) (L_ o632)
def myAs : List Nat := ((nat_lit 2) :: (nat_lit 3) :: (nat_lit 15) :: (nat_lit 17) :: (nat_lit 18) :: (nat_lit 20) :: (nat_lit 21) :: (nat_lit 22) :: (nat_lit 29) :: (nat_lit 30) :: (nat_lit 31) :: (nat_lit 32) :: (nat_lit 35) :: (nat_lit 42) :: (nat_lit 43) :: (nat_lit 44) :: (nat_lit 47) :: (nat_lit 54) :: (nat_lit 55) :: (nat_lit 56) :: (nat_lit 59) :: (nat_lit 66) :: (nat_lit 67) :: (nat_lit 68) :: (nat_lit 71) :: (nat_lit 73) :: (nat_lit 74) :: (nat_lit 76) :: (nat_lit 77) :: (nat_lit 78) :: (nat_lit 80) :: (nat_lit 81) :: (nat_lit 83) :: (nat_lit 84) :: (nat_lit 85) :: (nat_lit 87) :: (nat_lit 88) :: (nat_lit 90) :: (nat_lit 91) :: (nat_lit 92) :: (nat_lit 94) :: (nat_lit 95) :: (nat_lit 97) :: (nat_lit 98) :: (nat_lit 99) :: (nat_lit 101) :: (nat_lit 102) :: (nat_lit 104) :: (nat_lit 105) :: (nat_lit 113) :: (nat_lit 115) :: (nat_lit 116) :: (nat_lit 118) :: (nat_lit 119) :: (nat_lit 120) :: (nat_lit 122) :: (nat_lit 123) :: (nat_lit 125) :: (nat_lit 126) :: (nat_lit 127) :: (nat_lit 129) :: (nat_lit 130) :: (nat_lit 132) :: (nat_lit 133) :: (nat_lit 134) :: (nat_lit 136) :: (nat_lit 137) :: (nat_lit 139) :: (nat_lit 140) :: (nat_lit 141) :: (nat_lit 143) :: (nat_lit 144) :: (nat_lit 146) :: (nat_lit 147) :: (nat_lit 148) :: (nat_lit 150) :: (nat_lit 151) :: (nat_lit 153) :: (nat_lit 154) :: (nat_lit 155) :: (nat_lit 156) :: (nat_lit 157) :: (nat_lit 158) :: (nat_lit 159) :: (nat_lit 162) :: (nat_lit 169) :: (nat_lit 171) :: (nat_lit 172) :: (nat_lit 174) :: (nat_lit 175) :: (nat_lit 176) :: (nat_lit 178) :: (nat_lit 179) :: (nat_lit 181) :: (nat_lit 182) :: (nat_lit 183) :: (nat_lit 185) :: (nat_lit 186) :: (nat_lit 188) :: (nat_lit 189) :: (nat_lit 190) :: (nat_lit 191) :: (nat_lit 192) :: (nat_lit 195) :: (nat_lit 202) :: (nat_lit 204) :: (nat_lit 205) :: (nat_lit 207) :: (nat_lit 208) :: (nat_lit 209) :: (nat_lit 211) :: (nat_lit 212) :: (nat_lit 214) :: (nat_lit 215) :: (nat_lit 216) :: (nat_lit 218) :: (nat_lit 219) :: (nat_lit 221) :: (nat_lit 222) :: (nat_lit 223) :: (nat_lit 225) :: (nat_lit 226) :: (nat_lit 228) :: (nat_lit 229) :: (nat_lit 230) :: (nat_lit 231) :: (nat_lit 232) :: (nat_lit 235) :: (nat_lit 242) :: (nat_lit 244) :: (nat_lit 245) :: (nat_lit 247) :: (nat_lit 248) :: (nat_lit 249) :: (nat_lit 251) :: (nat_lit 252) :: (nat_lit 254) :: (nat_lit 255) :: (nat_lit 256) :: (nat_lit 258) :: (nat_lit 259) :: (nat_lit 261) :: (nat_lit 262) :: (nat_lit 263) :: (nat_lit 265) :: (nat_lit 266) :: (nat_lit 268) :: (nat_lit 269) :: (nat_lit 270) :: (nat_lit 272) :: (nat_lit 273) :: (nat_lit 275) :: (nat_lit 276) :: (nat_lit 277) :: (nat_lit 278) :: (nat_lit 279) :: (nat_lit 282) :: (nat_lit 289) :: (nat_lit 291) :: (nat_lit 292) :: (nat_lit 294) :: (nat_lit 295) :: (nat_lit 296) :: (nat_lit 298) :: (nat_lit 299) :: (nat_lit 301) :: (nat_lit 302) :: (nat_lit 303) :: (nat_lit 305) :: (nat_lit 306) :: (nat_lit 308) :: (nat_lit 309) :: (nat_lit 310) :: (nat_lit 311) :: (nat_lit 312) :: (nat_lit 315) :: (nat_lit 322) :: (nat_lit 324) :: (nat_lit 325) :: (nat_lit 327) :: (nat_lit 328) :: (nat_lit 329) :: (nat_lit 331) :: (nat_lit 332) :: (nat_lit 334) :: (nat_lit 335) :: (nat_lit 336) :: (nat_lit 338) :: (nat_lit 339) :: (nat_lit 341) :: (nat_lit 342) :: (nat_lit 343) :: (nat_lit 345) :: (nat_lit 346) :: (nat_lit 348) :: (nat_lit 349) :: (nat_lit 350) :: (nat_lit 352) :: (nat_lit 353) :: (nat_lit 355) :: (nat_lit 356) :: (nat_lit 357) :: (nat_lit 358) :: (nat_lit 359) :: (nat_lit 362) :: (nat_lit 369) :: (nat_lit 371) :: (nat_lit 372) :: (nat_lit 374) :: (nat_lit 375) :: (nat_lit 376) :: (nat_lit 378) :: (nat_lit 379) :: (nat_lit 381) :: (nat_lit 382) :: (nat_lit 383) :: (nat_lit 385) :: (nat_lit 386) :: (nat_lit 388) :: (nat_lit 389) :: (nat_lit 390) :: (nat_lit 392) :: (nat_lit 393) :: (nat_lit 395) :: (nat_lit 396) :: (nat_lit 397) :: (nat_lit 399) :: (nat_lit 400) :: (nat_lit 402) :: (nat_lit 403) :: (nat_lit 404) :: (nat_lit 406) :: (nat_lit 407) :: (nat_lit 409) :: (nat_lit 410) :: (nat_lit 411) :: (nat_lit 412) :: (nat_lit 413) :: (nat_lit 416) :: (nat_lit 418) :: (nat_lit 419) :: (nat_lit 421) :: (nat_lit 422) :: (nat_lit 423) :: (nat_lit 425) :: (nat_lit 426) :: (nat_lit 428) :: (nat_lit 429) :: (nat_lit 430) :: (nat_lit 432) :: (nat_lit 433) :: (nat_lit 435) :: (nat_lit 436) :: (nat_lit 437) :: (nat_lit 439) :: (nat_lit 440) :: (nat_lit 442) :: (nat_lit 443) :: (nat_lit 444) :: (nat_lit 447) :: (nat_lit 448) :: (nat_lit 449) :: (nat_lit 451) :: (nat_lit 452) :: (nat_lit 454) :: (nat_lit 455) :: (nat_lit 456) :: (nat_lit 458) :: (nat_lit 459) :: (nat_lit 461) :: (nat_lit 462) :: (nat_lit 463) :: (nat_lit 466) :: (nat_lit 467) :: (nat_lit 468) :: (nat_lit 470) :: (nat_lit 471) :: (nat_lit 473) :: (nat_lit 474) :: (nat_lit 475) :: (nat_lit 477) :: (nat_lit 478) :: (nat_lit 480) :: (nat_lit 481) :: (nat_lit 482) :: (nat_lit 484) :: (nat_lit 485) :: (nat_lit 487) :: (nat_lit 488) :: (nat_lit 489) :: (nat_lit 491) :: (nat_lit 492) :: (nat_lit 494) :: (nat_lit 495) :: (nat_lit 496) :: (nat_lit 498) :: (nat_lit 499) :: (nat_lit 501) :: (nat_lit 502) :: (nat_lit 503) :: (nat_lit 505) :: (nat_lit 506) :: (nat_lit 508) :: (nat_lit 509) :: (nat_lit 510) :: (nat_lit 512) :: (nat_lit 513) :: (nat_lit 515) :: (nat_lit 516) :: (nat_lit 517) :: (nat_lit 520) :: (nat_lit 521) :: (nat_lit 522) :: (nat_lit 524) :: (nat_lit 525) :: (nat_lit 527) :: (nat_lit 528) :: (nat_lit 529) :: (nat_lit 531) :: (nat_lit 532) :: (nat_lit 534) :: (nat_lit 535) :: (nat_lit 536) :: (nat_lit 539) :: (nat_lit 540) :: (nat_lit 541) :: (nat_lit 543) :: (nat_lit 544) :: (nat_lit 546) :: (nat_lit 547) :: (nat_lit 548) :: (nat_lit 550) :: (nat_lit 551) :: (nat_lit 553) :: (nat_lit 554) :: (nat_lit 555) :: (nat_lit 557) :: (nat_lit 558) :: (nat_lit 560) :: (nat_lit 561) :: (nat_lit 562) :: (nat_lit 564) :: (nat_lit 565) :: (nat_lit 567) :: (nat_lit 568) :: [])
def h_heap_39 : PySem.Params → PySem.W.Frag := fun x =>
(nat_lit 2, (@W.boot_o_2 x)) ::
(nat_lit 3, (o556 x)) ::
(nat_lit 15, (o634 x)) ::
(nat_lit 17, (o53 x)) ::
(nat_lit 18, (o634 x)) ::
(nat_lit 20, (o56 x)) ::
(nat_lit 21, (o57 x)) ::
(nat_lit 22, (o58 x)) ::
(nat_lit 29, (o634 x)) ::
(nat_lit 30, (o66 x)) ::
(nat_lit 31, (o103 x)) ::
(nat_lit 32, (o68 x)) ::
(nat_lit 35, (o104 x)) ::
(nat_lit 42, (o634 x)) ::
(nat_lit 43, (o82 x)) ::
(nat_lit 44, (o83 x)) ::
(nat_lit 47, (o104 x)) ::
(nat_lit 54, (o634 x)) ::
(nat_lit 55, (o97 x)) ::
(nat_lit 56, (o98 x)) ::
(nat_lit 59, (o104 x)) ::
(nat_lit 66, (o634 x)) ::
(nat_lit 67, (o112 x)) ::
(nat_lit 68, (o113 x)) ::
(nat_lit 71, (o634 x)) ::
(nat_lit 73, (o118 x)) ::
(nat_lit 74, (o634 x)) ::
(nat_lit 76, (o121 x)) ::
(nat_lit 77, (o122 x)) ::
(nat_lit 78, (o634 x)) ::
(nat_lit 80, (o125 x)) ::
(nat_lit 81, (o634 x)) ::
(nat_lit 83, (o128 x)) ::
(nat_lit 84, (o129 x)) ::
(nat_lit 85, (o634 x)) ::
(nat_lit 87, (o132 x)) ::
(nat_lit 88, (o634 x)) ::
(nat_lit 90, (o135 x)) ::
(nat_lit 91, (o136 x)) ::
(nat_lit 92, (o634 x)) ::
(nat_lit 94, (o139 x)) ::
(nat_lit 95, (o634 x)) ::
(nat_lit 97, (o142 x)) ::
(nat_lit 98, (o143 x)) ::
(nat_lit 99, (o634 x)) ::
(nat_lit 101, (o146 x)) ::
(nat_lit 102, (o634 x)) ::
(nat_lit 104, (o149 x)) ::
(nat_lit 105, (o150 x)) ::
(nat_lit 113, (o634 x)) ::
(nat_lit 115, (o162 x)) ::
(nat_lit 116, (o634 x)) ::
(nat_lit 118, (o165 x)) ::
(nat_lit 119, (o166 x)) ::
(nat_lit 120, (o634 x)) ::
(nat_lit 122, (o169 x)) ::
(nat_lit 123, (o634 x)) ::
(nat_lit 125, (o172 x)) ::
(nat_lit 126, (o173 x)) ::
(nat_lit 127, (o634 x)) ::
(nat_lit 129, (o176 x)) ::
(nat_lit 130, (o634 x)) ::
(nat_lit 132, (o179 x)) ::
(nat_lit 133, (o180 x)) ::
(nat_lit 134, (o634 x)) ::
(nat_lit 136, (o183 x)) ::
(nat_lit 137, (o634 x)) ::
(nat_lit 139, (o186 x)) ::
(nat_lit 140, (o187 x)) ::
(nat_lit 141, (o634 x)) ::
(nat_lit 143, (o190 x)) ::
(nat_lit 144, (o634 x)) ::
(nat_lit 146, (o193 x)) ::
(nat_lit 147, (o194 x)) ::
(nat_lit 148, (o634 x)) ::
(nat_lit 150, (o197 x)) ::
(nat_lit 151, (o634 x)) ::
(nat_lit 153, (o200 x)) ::
(nat_lit 154, (o201 x)) ::
(nat_lit 155, (o634 x)) ::
(nat_lit 156, (o203 x)) ::
(nat_lit 157, (o426 x)) ::
(nat_lit 158, (o205 x)) ::
(nat_lit 159, (o206 x)) ::
(nat_lit 162, (o427 x)) ::
(nat_lit 169, (o634 x)) ::
(nat_lit 171, (o221 x)) ::
(nat_lit 172, (o634 x)) ::
(nat_lit 174, (o224 x)) ::
(nat_lit 175, (o225 x)) ::
(nat_lit 176, (o634 x)) ::
(nat_lit 178, (o228 x)) ::
(nat_lit 179, (o634 x)) ::
(nat_lit 181, (o231 x)) ::
(nat_lit 182, (o232 x)) ::
(nat_lit 183, (o634 x)) ::
(nat_lit 185, (o235 x)) ::
(nat_lit 186, (o634 x)) ::
(nat_lit 188, (o238 x)) ::
(nat_lit 189, (o239 x)) ::
(nat_lit 190, (o240 x)) ::
(nat_lit 191, (o241 x)) ::
(nat_lit 192, (o242 x)) ::
(nat_lit 195, (o427 x)) ::
(nat_lit 202, (o634 x)) ::
(nat_lit 204, (o257 x)) ::
(nat_lit 205, (o634 x)) ::
(nat_lit 207, (o260 x)) ::
(nat_lit 208, (o261 x)) ::
(nat_lit 209, (o634 x)) ::
(nat_lit 211, (o264 x)) ::
(nat_lit 212, (o634 x)) ::
(nat_lit 214, (o267 x)) ::
(nat_lit 215, (o268 x)) ::
(nat_lit 216, (o634 x)) ::
(nat_lit 218, (o271 x)) ::
(nat_lit 219, (o634 x)) ::
(nat_lit 221, (o274 x)) ::
(nat_lit 222, (o275 x)) ::
(nat_lit 223, (o634 x)) ::
(nat_lit 225, (o278 x)) ::
(nat_lit 226, (o634 x)) ::
(nat_lit 228, (o281 x)) ::
(nat_lit 229, (o282 x)) ::
(nat_lit 230, (o283 x)) ::
(nat_lit 231, (o284 x)) ::
(nat_lit 232, (o285 x)) ::
(nat_lit 235, (o427 x)) ::
(nat_lit 242, (o634 x)) ::
(nat_lit 244, (o300 x)) ::
(nat_lit 245, (o634 x)) ::
(nat_lit 247, (o303 x)) ::
(nat_lit 248, (o304 x)) ::
(nat_lit 249, (o634 x)) ::
(nat_lit 251, (o307 x)) ::
(nat_lit 252, (o634 x)) ::
(nat_lit 254, (o310 x)) ::
(nat_lit 255, (o311 x)) ::
(nat_lit 256, (o634 x)) ::
(nat_lit 258, (o314 x)) ::
(nat_lit 259, (o634 x)) ::
(nat_lit 261, (o317 x)) ::
(nat_lit 262, (o318 x)) ::
(nat_lit 263, (o634 x)) ::
(nat_lit 265, (o321 x)) ::
(nat_lit 266, (o634 x)) ::
(nat_lit 268, (o324 x)) ::
(nat_lit 269, (o325 x)) ::
(nat_lit 270, (o634 x)) ::
(nat_lit 272, (o328 x)) ::
(nat_lit 273, (o634 x)) ::
(nat_lit 275, (o331 x)) ::
(nat_lit 276, (o332 x)) ::
(nat_lit 277, (o333 x)) ::
(nat_lit 278, (o334 x)) ::
(nat_lit 279, (o335 x)) ::
(nat_lit 282, (o427 x)) ::
(nat_lit 289, (o634 x)) ::
(nat_lit 291, (o350 x)) ::
(nat_lit 292, (o634 x)) ::
(nat_lit 294, (o353 x)) ::
(nat_lit 295, (o354 x)) ::
(nat_lit 296, (o634 x)) ::
(nat_lit 298, (o357 x)) ::
(nat_lit 299, (o634 x)) ::
(nat_lit 301, (o360 x)) ::
(nat_lit 302, (o361 x)) ::
(nat_lit 303, (o634 x)) ::
(nat_lit 305, (o364 x)) ::
(nat_lit 306, (o634 x)) ::
(nat_lit 308, (o367 x)) ::
(nat_lit 309, (o368 x)) ::
(nat_lit 310, (o369 x)) ::
(nat_lit 311, (o370 x)) ::
(nat_lit 312, (o371 x)) ::
(nat_lit 315, (o427 x)) ::
(nat_lit 322, (o634 x)) ::
(nat_lit 324, (o386 x)) ::
(nat_lit 325, (o634 x)) ::
(nat_lit 327, (o389 x)) ::
(nat_lit 328, (o390 x)) ::
(nat_lit 329, (o634 x)) ::
(nat_lit 331, (o393 x)) ::
(nat_lit 332, (o634 x)) ::
(nat_lit 334, (o396 x)) ::
(nat_lit 335, (o397 x)) ::
(nat_lit 336, (o634 x)) ::
(nat_lit 338, (o400 x)) ::
(nat_lit 339, (o634 x)) ::
(nat_lit 341, (o403 x)) ::
(nat_lit 342, (o404 x)) ::
(nat_lit 343, (o634 x)) ::
(nat_lit 345, (o407 x)) ::
(nat_lit 346, (o634 x)) ::
(nat_lit 348, (o410 x)) ::
(nat_lit 349, (o411 x)) ::
(nat_lit 350, (o634 x)) ::
(nat_lit 352, (o414 x)) ::
(nat_lit 353, (o634 x)) ::
(nat_lit 355, (o417 x)) ::
(nat_lit 356, (o418 x)) ::
(nat_lit 357, (o419 x)) ::
(nat_lit 358, (o420 x)) ::
(nat_lit 359, (o421 x)) ::
(nat_lit 362, (o427 x)) ::
(nat_lit 369, (o634 x)) ::
(nat_lit 371, (o436 x)) ::
(nat_lit 372, (o634 x)) ::
(nat_lit 374, (o439 x)) ::
(nat_lit 375, (o440 x)) ::
(nat_lit 376, (o634 x)) ::
(nat_lit 378, (o443 x)) ::
(nat_lit 379, (o634 x)) ::
(nat_lit 381, (o446 x)) ::
(nat_lit 382, (o447 x)) ::
(nat_lit 383, (o634 x)) ::
(nat_lit 385, (o450 x)) ::
(nat_lit 386, (o634 x)) ::
(nat_lit 388, (o453 x)) ::
(nat_lit 389, (o454 x)) ::
(nat_lit 390, (o634 x)) ::
(nat_lit 392, (o457 x)) ::
(nat_lit 393, (o634 x)) ::
(nat_lit 395, (o460 x)) ::
(nat_lit 396, (o461 x)) ::
(nat_lit 397, (o634 x)) ::
(nat_lit 399, (o464 x)) ::
(nat_lit 400, (o634 x)) ::
(nat_lit 402, (o467 x)) ::
(nat_lit 403, (o468 x)) ::
(nat_lit 404, (o634 x)) ::
(nat_lit 406, (o471 x)) ::
(nat_lit 407, (o634 x)) ::
(nat_lit 409, (o474 x)) ::
(nat_lit 410, (o475 x)) ::
(nat_lit 411, (o476 x)) ::
(nat_lit 412, (o477 x)) ::
(nat_lit 413, (o478 x)) ::
(nat_lit 416, (o634 x)) ::
(nat_lit 418, (o485 x)) ::
(nat_lit 419, (o634 x)) ::
(nat_lit 421, (o488 x)) ::
(nat_lit 422, (o489 x)) ::
(nat_lit 423, (o634 x)) ::
(nat_lit 425, (o492 x)) ::
(nat_lit 426, (o634 x)) ::
(nat_lit 428, (o495 x)) ::
(nat_lit 429, (o496 x)) ::
(nat_lit 430, (o634 x)) ::
(nat_lit 432, (o499 x)) ::
(nat_lit 433, (o634 x)) ::
(nat_lit 435, (o502 x)) ::
(nat_lit 436, (o503 x)) ::
(nat_lit 437, (o634 x)) ::
(nat_lit 439, (o506 x)) ::
(nat_lit 440, (o634 x)) ::
(nat_lit 442, (o509 x)) ::
(nat_lit 443, (o510 x)) ::
(nat_lit 444, (o634 x)) ::
(nat_lit 447, (o514 x)) ::
(nat_lit 448, (o515 x)) ::
(nat_lit 449, (o634 x)) ::
(nat_lit 451, (o518 x)) ::
(nat_lit 452, (o634 x)) ::
(nat_lit 454, (o521 x)) ::
(nat_lit 455, (o522 x)) ::
(nat_lit 456, (o634 x)) ::
(nat_lit 458, (o525 x)) ::
(nat_lit 459, (o634 x)) ::
(nat_lit 461, (o528 x)) ::
(nat_lit 462, (o529 x)) ::
(nat_lit 463, (o634 x)) ::
(nat_lit 466, (o533 x)) ::
(nat_lit 467, (o534 x)) ::
(nat_lit 468, (o634 x)) ::
(nat_lit 470, (o537 x)) ::
(nat_lit 471, (o634 x)) ::
(nat_lit 473, (o540 x)) ::
(nat_lit 474, (o541 x)) ::
(nat_lit 475, (o634 x)) ::
(nat_lit 477, (o544 x)) ::
(nat_lit 478, (o634 x)) ::
(nat_lit 480, (o547 x)) ::
(nat_lit 481, (o548 x)) ::
(nat_lit 482, (o634 x)) ::
(nat_lit 484, (o551 x)) ::
(nat_lit 485, (o634 x)) ::
(nat_lit 487, (o554 x)) ::
(nat_lit 488, (o555 x)) ::
(nat_lit 489, (o634 x)) ::
(nat_lit 491, (o560 x)) ::
(nat_lit 492, (o634 x)) ::
(nat_lit 494, (o563 x)) ::
(nat_lit 495, (o564 x)) ::
(nat_lit 496, (o634 x)) ::
(nat_lit 498, (o567 x)) ::
(nat_lit 499, (o634 x)) ::
(nat_lit 501, (o570 x)) ::
(nat_lit 502, (o571 x)) ::
(nat_lit 503, (o634 x)) ::
(nat_lit 505, (o574 x)) ::
(nat_lit 506, (o634 x)) ::
(nat_lit 508, (o577 x)) ::
(nat_lit 509, (o578 x)) ::
(nat_lit 510, (o634 x)) ::
(nat_lit 512, (o581 x)) ::
(nat_lit 513, (o634 x)) ::
(nat_lit 515, (o584 x)) ::
(nat_lit 516, (o585 x)) ::
(nat_lit 517, (o634 x)) ::
(nat_lit 520, (o589 x)) ::
(nat_lit 521, (o590 x)) ::
(nat_lit 522, (o634 x)) ::
(nat_lit 524, (o593 x)) ::
(nat_lit 525, (o634 x)) ::
(nat_lit 527, (o596 x)) ::
(nat_lit 528, (o597 x)) ::
(nat_lit 529, (o634 x)) ::
(nat_lit 531, (o600 x)) ::
(nat_lit 532, (o634 x)) ::
(nat_lit 534, (o603 x)) ::
(nat_lit 535, (o604 x)) ::
(nat_lit 536, (o634 x)) ::
(nat_lit 539, (o608 x)) ::
(nat_lit 540, (o609 x)) ::
(nat_lit 541, (o634 x)) ::
(nat_lit 543, (o612 x)) ::
(nat_lit 544, (o634 x)) ::
(nat_lit 546, (o615 x)) ::
(nat_lit 547, (o616 x)) ::
(nat_lit 548, (o634 x)) ::
(nat_lit 550, (o619 x)) ::
(nat_lit 551, (o634 x)) ::
(nat_lit 553, (o622 x)) ::
(nat_lit 554, (o623 x)) ::
(nat_lit 555, (o634 x)) ::
(nat_lit 557, (o626 x)) ::
(nat_lit 558, (o634 x)) ::
(nat_lit 560, (o629 x)) ::
(nat_lit 561, (o630 x)) ::
(nat_lit 562, (o634 x)) ::
(nat_lit 564, (o633 x)) ::
(nat_lit 565, (o634 x)) ::
(nat_lit 567, (o636 x)) ::
(nat_lit 568, (o637 x)) :: []
def h_view_39 : PySem.Program := { PySem.Challenge.pw_oddbases_k58_writings_as_texts with main := { PySem.Challenge.pw_oddbases_k58_writings_as_texts.main with body := [My.top 0, My.top 2, My.top 3, My.top 4, My.top 5, My.top 7, My.top 8, My.top 9, My.top 10, My.top 12, My.top 13, My.top 14, My.top 15, My.top 16, My.top 17, My.top 18, My.top 19, My.top 22, My.top 23, My.top 24, My.top 26, My.top 27, My.top 28, My.top 29, My.top 30, My.top 31, My.top 32, My.top 33, My.top 34, My.top 36, My.top 37, My.top 38, My.top 39, My.top 40, My.top 41, My.top 42, My.top 43, My.top 44, My.top 45, My.top 46, My.top 47, My.top 48] } }
def h_heap_638 : ((x : @Params) → @Heap) := (fun x => (@Heap.mk (@Array.mk @Obj ((@W.boot_o_0 x) :: (@W.boot_o_1 x) :: (@W.boot_o_2 x) :: (o556 x) :: (@W.boot_o_4 x) :: (@W.boot_o_5 x) :: (@W.boot_o_6 x) :: (@W.boot_o_7 x) :: (@W.boot_o_8 x) :: (@W.boot_o_9 x) :: (@W.boot_o_10 x) :: (o634 x) :: (o557 x) :: (o45 x) :: (o46 x) :: (o634 x) :: (o632 x) :: (o53 x) :: (o634 x) :: (o55 x) :: (o56 x) :: (o57 x) :: (o58 x) :: (o428 x) :: (o60 x) :: (o634 x) :: (o632 x) :: (o63 x) :: (o64 x) :: (o634 x) :: (o66 x) :: (o103 x) :: (o68 x) :: (o69 x) :: (o70 x) :: (o104 x) :: (o428 x) :: (o76 x) :: (o634 x) :: (o632 x) :: (o79 x) :: (o80 x) :: (o634 x) :: (o82 x) :: (o83 x) :: (o84 x) :: (o85 x) :: (o104 x) :: (o428 x) :: (o91 x) :: (o634 x) :: (o632 x) :: (o94 x) :: (o95 x) :: (o634 x) :: (o97 x) :: (o98 x) :: (o99 x) :: (o100 x) :: (o104 x) :: (o428 x) :: (o106 x) :: (o634 x) :: (o632 x) :: (o109 x) :: (o110 x) :: (o634 x) :: (o112 x) :: (o113 x) :: (o114 x) :: (o115 x) :: (o634 x) :: (o632 x) :: (o118 x) :: (o634 x) :: (o120 x) :: (o121 x) :: (o122 x) :: (o634 x) :: (o632 x) :: (o125 x) :: (o634 x) :: (o127 x) :: (o128 x) :: (o129 x) :: (o634 x) :: (o632 x) :: (o132 x) :: (o634 x) :: (o134 x) :: (o135 x) :: (o136 x) :: (o634 x) :: (o632 x) :: (o139 x) :: (o634 x) :: (o141 x) :: (o142 x) :: (o143 x) :: (o634 x) :: (o632 x) :: (o146 x) :: (o634 x) :: (o148 x) :: (o149 x) :: (o150 x) :: (o634 x) :: (o428 x) :: (o155 x) :: (o634 x) :: (o157 x) :: (o158 x) :: (o159 x) :: (o634 x) :: (o632 x) :: (o162 x) :: (o634 x) :: (o164 x) :: (o165 x) :: (o166 x) :: (o634 x) :: (o632 x) :: (o169 x) :: (o634 x) :: (o171 x) :: (o172 x) :: (o173 x) :: (o634 x) :: (o632 x) :: (o176 x) :: (o634 x) :: (o178 x) :: (o179 x) :: (o180 x) :: (o634 x) :: (o632 x) :: (o183 x) :: (o634 x) :: (o185 x) :: (o186 x) :: (o187 x) :: (o634 x) :: (o632 x) :: (o190 x) :: (o634 x) :: (o192 x) :: (o193 x) :: (o194 x) :: (o634 x) :: (o632 x) :: (o197 x) :: (o634 x) :: (o199 x) :: (o200 x) :: (o201 x) :: (o634 x) :: (o203 x) :: (o426 x) :: (o205 x) :: (o206 x) :: (o207 x) :: (o208 x) :: (o427 x) :: (o428 x) :: (o214 x) :: (o634 x) :: (o216 x) :: (o217 x) :: (o218 x) :: (o634 x) :: (o632 x) :: (o221 x) :: (o634 x) :: (o223 x) :: (o224 x) :: (o225 x) :: (o634 x) :: (o632 x) :: (o228 x) :: (o634 x) :: (o230 x) :: (o231 x) :: (o232 x) :: (o634 x) :: (o632 x) :: (o235 x) :: (o634 x) :: (o237 x) :: (o238 x) :: (o239 x) :: (o240 x) :: (o241 x) :: (o242 x) :: (o243 x) :: (o244 x) :: (o427 x) :: (o428 x) :: (o250 x) :: (o634 x) :: (o252 x) :: (o253 x) :: (o254 x) :: (o634 x) :: (o632 x) :: (o257 x) :: (o634 x) :: (o259 x) :: (o260 x) :: (o261 x) :: (o634 x) :: (o632 x) :: (o264 x) :: (o634 x) :: (o266 x) :: (o267 x) :: (o268 x) :: (o634 x) :: (o632 x) :: (o271 x) :: (o634 x) :: (o273 x) :: (o274 x) :: (o275 x) :: (o634 x) :: (o632 x) :: (o278 x) :: (o634 x) :: (o280 x) :: (o281 x) :: (o282 x) :: (o283 x) :: (o284 x) :: (o285 x) :: (o286 x) :: (o287 x) :: (o427 x) :: (o428 x) :: (o293 x) :: (o634 x) :: (o295 x) :: (o296 x) :: (o297 x) :: (o634 x) :: (o632 x) :: (o300 x) :: (o634 x) :: (o302 x) :: (o303 x) :: (o304 x) :: (o634 x) :: (o632 x) :: (o307 x) :: (o634 x) :: (o309 x) :: (o310 x) :: (o311 x) :: (o634 x) :: (o632 x) :: (o314 x) :: (o634 x) :: (o316 x) :: (o317 x) :: (o318 x) :: (o634 x) :: (o632 x) :: (o321 x) :: (o634 x) :: (o323 x) :: (o324 x) :: (o325 x) :: (o634 x) :: (o632 x) :: (o328 x) :: (o634 x) :: (o330 x) :: (o331 x) :: (o332 x) :: (o333 x) :: (o334 x) :: (o335 x) :: (o336 x) :: (o337 x) :: (o427 x) :: (o428 x) :: (o343 x) :: (o634 x) :: (o345 x) :: (o346 x) :: (o347 x) :: (o634 x) :: (o632 x) :: (o350 x) :: (o634 x) :: (o352 x) :: (o353 x) :: (o354 x) :: (o634 x) :: (o632 x) :: (o357 x) :: (o634 x) :: (o359 x) :: (o360 x) :: (o361 x) :: (o634 x) :: (o632 x) :: (o364 x) :: (o634 x) :: (o366 x) :: (o367 x) :: (o368 x) :: (o369 x) :: (o370 x) :: (o371 x) :: (o372 x) :: (o373 x) :: (o427 x) :: (o428 x) :: (o379 x) :: (o634 x) :: (o381 x) :: (o382 x) :: (o383 x) :: (o634 x) :: (o632 x) :: (o386 x) :: (o634 x) :: (o388 x) :: (o389 x) :: (o390 x) :: (o634 x) :: (o632 x) :: (o393 x) :: (o634 x) :: (o395 x) :: (o396 x) :: (o397 x) :: (o634 x) :: (o632 x) :: (o400 x) :: (o634 x) :: (o402 x) :: (o403 x) :: (o404 x) :: (o634 x) :: (o632 x) :: (o407 x) :: (o634 x) :: (o409 x) :: (o410 x) :: (o411 x) :: (o634 x) :: (o632 x) :: (o414 x) :: (o634 x) :: (o416 x) :: (o417 x) :: (o418 x) :: (o419 x) :: (o420 x) :: (o421 x) :: (o422 x) :: (o423 x) :: (o427 x) :: (o428 x) :: (o429 x) :: (o634 x) :: (o431 x) :: (o432 x) :: (o433 x) :: (o634 x) :: (o632 x) :: (o436 x) :: (o634 x) :: (o438 x) :: (o439 x) :: (o440 x) :: (o634 x) :: (o632 x) :: (o443 x) :: (o634 x) :: (o445 x) :: (o446 x) :: (o447 x) :: (o634 x) :: (o632 x) :: (o450 x) :: (o634 x) :: (o452 x) :: (o453 x) :: (o454 x) :: (o634 x) :: (o632 x) :: (o457 x) :: (o634 x) :: (o459 x) :: (o460 x) :: (o461 x) :: (o634 x) :: (o632 x) :: (o464 x) :: (o634 x) :: (o466 x) :: (o467 x) :: (o468 x) :: (o634 x) :: (o632 x) :: (o471 x) :: (o634 x) :: (o473 x) :: (o474 x) :: (o475 x) :: (o476 x) :: (o477 x) :: (o478 x) :: (o479 x) :: (o480 x) :: (o634 x) :: (o632 x) :: (o485 x) :: (o634 x) :: (o487 x) :: (o488 x) :: (o489 x) :: (o634 x) :: (o632 x) :: (o492 x) :: (o634 x) :: (o494 x) :: (o495 x) :: (o496 x) :: (o634 x) :: (o632 x) :: (o499 x) :: (o634 x) :: (o501 x) :: (o502 x) :: (o503 x) :: (o634 x) :: (o632 x) :: (o506 x) :: (o634 x) :: (o508 x) :: (o509 x) :: (o510 x) :: (o634 x) :: (o632 x) :: (o513 x) :: (o514 x) :: (o515 x) :: (o634 x) :: (o632 x) :: (o518 x) :: (o634 x) :: (o520 x) :: (o521 x) :: (o522 x) :: (o634 x) :: (o632 x) :: (o525 x) :: (o634 x) :: (o527 x) :: (o528 x) :: (o529 x) :: (o634 x) :: (o632 x) :: (o532 x) :: (o533 x) :: (o534 x) :: (o634 x) :: (o632 x) :: (o537 x) :: (o634 x) :: (o539 x) :: (o540 x) :: (o541 x) :: (o634 x) :: (o632 x) :: (o544 x) :: (o634 x) :: (o546 x) :: (o547 x) :: (o548 x) :: (o634 x) :: (o632 x) :: (o551 x) :: (o634 x) :: (o553 x) :: (o554 x) :: (o555 x) :: (o634 x) :: (o632 x) :: (o560 x) :: (o634 x) :: (o562 x) :: (o563 x) :: (o564 x) :: (o634 x) :: (o632 x) :: (o567 x) :: (o634 x) :: (o569 x) :: (o570 x) :: (o571 x) :: (o634 x) :: (o632 x) :: (o574 x) :: (o634 x) :: (o576 x) :: (o577 x) :: (o578 x) :: (o634 x) :: (o632 x) :: (o581 x) :: (o634 x) :: (o583 x) :: (o584 x) :: (o585 x) :: (o634 x) :: (o632 x) :: (o588 x) :: (o589 x) :: (o590 x) :: (o634 x) :: (o632 x) :: (o593 x) :: (o634 x) :: (o595 x) :: (o596 x) :: (o597 x) :: (o634 x) :: (o632 x) :: (o600 x) :: (o634 x) :: (o602 x) :: (o603 x) :: (o604 x) :: (o634 x) :: (o632 x) :: (o607 x) :: (o608 x) :: (o609 x) :: (o634 x) :: (o632 x) :: (o612 x) :: (o634 x) :: (o614 x) :: (o615 x) :: (o616 x) :: (o634 x) :: (o632 x) :: (o619 x) :: (o634 x) :: (o621 x) :: (o622 x) :: (o623 x) :: (o634 x) :: (o632 x) :: (o626 x) :: (o634 x) :: (o628 x) :: (o629 x) :: (o630 x) :: (o634 x) :: (o632 x) :: (o633 x) :: (o634 x) :: (o635 x) :: (o636 x) :: (o637 x) :: [])) (@Life.mk [] [] [] 0 (@List.nil (@Prod @Nat @Nat)) [] @Bool.false #[] [] 0 @Bool.false @Bool.false @Bool.false (0 : Int) [(2000 : Int), (10 : Int), (10 : Int)] @Bool.false 0 @Bool.true [] [] 0 @Bool.false)))
def h_env_41 : @Env := (@Env.mk (@Module.scope (@Program.main ((@W.OpenRow.toRowW (@W.OpenLaw.row @Challenge.rw_oddbases_k58_writings_as_texts))).1)) @mainNs @mainNs (@List.nil (@Prod @Str @Addr)) @Str.empty (@Option.none @Addr) (r_ 13) (@some @Addr (@OfNat.ofNat @Addr 14 (@instOfNatNat 14))) (@OfNat.ofNat @Addr 0 (@instOfNatNat 0)))
def h_tree_637 := N_ W.boot_o_0 (N_ W.boot_o_1 (N_ o556 (N_ W.boot_o_7 (N_ o634 (N_ o103 (N_ o632 (N_ o634 (N_ o311 (L_ o632) Z_) (L_ o634)) (N_ o241 (L_ o381) (L_ o514))) (N_ o634 (N_ o206 (N_ o346 (L_ o612) Z_) (L_ o480)) (N_ o634 (L_ o632) (L_ o546)))) (N_ o104 (N_ o632 (N_ o190 (N_ o632 (L_ o596) Z_) (L_ o464)) (N_ o260 (L_ o397) (L_ o634))) (N_ o158 (N_ o225 (N_ o634 (L_ o628) Z_) (L_ o632)) (N_ o295 (L_ o432) (L_ o564))))) (N_ o428 (N_ o632 (N_ o634 (N_ o632 (N_ o634 (L_ o588) Z_) (L_ o632)) (N_ o252 (L_ o389) (L_ o522))) (N_ o148 (N_ o217 (N_ o354 (L_ o634) Z_) (L_ o634)) (N_ o284 (L_ o421) (L_ o554)))) (N_ o97 (N_ o132 (N_ o634 (N_ o335 (L_ o604) Z_) (L_ o634)) (N_ o268 (L_ o634) (L_ o634))) (N_ o166 (N_ o634 (N_ o370 (L_ o636) Z_) (L_ o506)) (N_ o303 (L_ o440) (L_ o634)))))) (N_ o634 (N_ o55 (N_ o104 (N_ o112 (N_ o178 (N_ o634 (L_ o584) Z_) (L_ o452)) (N_ o427 (L_ o632) (L_ o518))) (N_ o634 (N_ o428 (N_ o350 (L_ o616) Z_) (L_ o634)) (N_ o280 (L_ o417) (L_ o632)))) (N_ o632 (N_ o128 (N_ o194 (N_ o331 (L_ o600) Z_) (L_ o468)) (N_ o264 (L_ o634) (L_ o534))) (N_ o162 (N_ o634 (N_ o366 (L_ o632) Z_) (L_ o502)) (N_ o632 (L_ o436) (L_ o634))))) (N_ o63 (N_ o82 (N_ o120 (N_ o186 (N_ o323 (L_ o632) Z_) (L_ o460)) (N_ o632 (L_ o393) (L_ o634))) (N_ o428 (N_ o221 Y1 (L_ o494)) (N_ o427 (L_ o428) (L_ o560)))) (N_ o104 (N_ o136 (N_ o634 (N_ o428 (L_ o608) Z_) (L_ o476)) (N_ o634 (L_ o409) (L_ o634))) (N_ o634 (N_ o237 (L_ o427) (L_ o510)) (N_ o307 (L_ o634) (L_ o576))))))) (N_ W.boot_o_5 (N_ W.boot_o_9 (N_ o53 (N_ o69 (N_ o110 (N_ o176 (N_ o632 (L_ o634) Z_) (L_ o450)) (N_ o243 (L_ o383) (L_ o634))) (N_ o142 (N_ o208 (N_ o634 (L_ o614) Z_) (L_ o632)) (N_ o278 (L_ o634) (L_ o548)))) (N_ o91 (N_ o634 (N_ o192 Y1 (L_ o466)) (N_ o634 (L_ o632) (L_ o532))) (N_ o634 (N_ o632 (N_ o364 (L_ o630) Z_) (L_ o634)) (N_ o297 (L_ o634) (L_ o632))))) (N_ o634 (N_ o80 (N_ o118 (N_ o634 (N_ o321 (L_ o590) Z_) (L_ o634)) (N_ o254 (L_ o634) (L_ o632))) (N_ o150 (N_ o634 (N_ o632 (L_ o622) Z_) (L_ o492)) (N_ o286 (L_ o423) (L_ o634)))) (N_ o99 (N_ o134 (N_ o200 (N_ o337 (L_ o632) Z_) (L_ o474)) (N_ o632 (L_ o407) (L_ o540))) (N_ o632 (N_ o235 (L_ o372) (L_ o508)) (N_ o634 (L_ o632) (L_ o574)))))) (N_ o45 (N_ o57 (N_ o76 (N_ o114 (N_ o180 (N_ o317 (L_ o634) Z_) (L_ o454)) (N_ o250 (L_ o634) (L_ o520))) (N_ o146 (N_ o634 (N_ o352 (L_ o632) Z_) (L_ o488)) (N_ o282 (L_ o419) (L_ o634)))) (N_ o95 (N_ o634 (N_ o632 (N_ o333 (L_ o602) Z_) (L_ o632)) (N_ o266 (L_ o403) (L_ o632))) (N_ o164 (N_ o231 (N_ o368 (L_ o634) Z_) (L_ o634)) (N_ o634 (L_ o438) (L_ o570))))) (N_ o634 (N_ o84 (N_ o122 (N_ o634 (N_ o325 (L_ o634) Z_) (L_ o634)) (N_ o634 (L_ o395) (L_ o528))) (N_ o634 (N_ o223 (N_ o360 (L_ o626) Z_) (L_ o496)) (N_ o293 (L_ o634) (L_ o562)))) (N_ o106 (N_ o632 (N_ o426 Y1 (L_ o478)) (N_ o274 (L_ o411) (L_ o544))) (N_ o172 (N_ o239 (L_ o379) (L_ o632)) (N_ o309 (L_ o446) (L_ o578)))))))) (N_ W.boot_o_2 (N_ W.boot_o_4 (N_ W.boot_o_8 (N_ o632 (N_ o68 (N_ o109 (N_ o632 (N_ o634 (L_ o581) Z_) (L_ o632)) (N_ o242 (L_ o382) (L_ o515))) (N_ o141 (N_ o207 (N_ o347 (L_ o634) Z_) (L_ o634)) (N_ o632 (L_ o414) (L_ o547)))) (N_ o428 (N_ o125 (N_ o634 (N_ o328 (L_ o597) Z_) (L_ o634)) (N_ o261 (L_ o634) (L_ o632))) (N_ o159 (N_ o634 (N_ o632 (L_ o629) Z_) (L_ o499)) (N_ o296 (L_ o433) (L_ o634))))) (N_ o60 (N_ o79 (N_ o632 (N_ o183 (N_ o632 (L_ o589) Z_) (L_ o457)) (N_ o253 (L_ o390) (L_ o634))) (N_ o149 (N_ o218 (N_ o634 (L_ o621) Z_) (L_ o632)) (N_ o285 (L_ o422) (L_ o555)))) (N_ o98 (N_ o634 (N_ o199 (N_ o336 (L_ o634) Z_) (L_ o473)) (N_ o634 (L_ o632) (L_ o539))) (N_ o634 (N_ o632 (N_ o371 (L_ o637) Z_) (L_ o634)) (N_ o304 (L_ o634) (L_ o632)))))) (N_ o557 (N_ o56 (N_ o428 (N_ o113 (N_ o179 (N_ o316 (L_ o585) Z_) (L_ o453)) (N_ o428 (L_ o386) (L_ o634))) (N_ o632 (N_ o214 Y1 (L_ o487)) (N_ o281 (L_ o418) (L_ o551)))) (N_ o94 (N_ o129 (N_ o634 (N_ o332 (L_ o634) Z_) (L_ o634)) (N_ o634 (L_ o402) (L_ o634))) (N_ o634 (N_ o230 (N_ o367 (L_ o633) Z_) (L_ o503)) (N_ o300 (L_ o634) (L_ o569))))) (N_ o64 (N_ o83 (N_ o121 (N_ o187 (N_ o324 (L_ o593) Z_) (L_ o461)) (N_ o257 (L_ o634) (L_ o527))) (N_ o155 (N_ o634 (N_ o359 (L_ o632) Z_) (L_ o495)) (N_ o428 (L_ o429) (L_ o634)))) (N_ o428 (N_ o634 (N_ o203 (N_ o343 (L_ o609) Z_) (L_ o477)) (N_ o273 (L_ o410) (L_ o632))) (N_ o171 (N_ o238 (L_ o428) (L_ o634)) (N_ o634 (L_ o445) (L_ o577))))))) (N_ W.boot_o_6 (N_ W.boot_o_10 (N_ o634 (N_ o70 (N_ o634 (N_ o634 (N_ o314 (L_ o583) Z_) (L_ o634)) (N_ o244 (L_ o634) (L_ o632))) (N_ o143 (N_ o427 (N_ o632 (L_ o615) Z_) (L_ o485)) (N_ o634 (L_ o416) (L_ o634)))) (N_ o634 (N_ o127 (N_ o193 (N_ o330 (L_ o632) Z_) (L_ o467)) (N_ o632 (L_ o400) (L_ o533))) (N_ o632 (N_ o228 Y1 (L_ o501)) (N_ o634 (L_ o632) (L_ o567))))) (N_ o632 (N_ o634 (N_ o634 (N_ o185 Y1 (L_ o459)) (N_ o634 (L_ o632) (L_ o525))) (N_ o634 (N_ o632 (N_ o357 (L_ o623) Z_) (L_ o634)) (N_ o287 (L_ o427) (L_ o632)))) (N_ o100 (N_ o135 (N_ o201 (N_ o427 (L_ o607) Z_) (L_ o475)) (N_ o271 (L_ o634) (L_ o541))) (N_ o169 (N_ o634 (L_ o373) (L_ o509)) (N_ o632 (L_ o443) (L_ o634)))))) (N_ o46 (N_ o58 (N_ o634 (N_ o115 (N_ o634 (N_ o318 (L_ o632) Z_) (L_ o634)) (N_ o634 (L_ o388) (L_ o521))) (N_ o634 (N_ o216 (N_ o353 (L_ o619) Z_) (L_ o489)) (N_ o283 (L_ o420) (L_ o553)))) (N_ o634 (N_ o632 (N_ o197 (N_ o334 (L_ o603) Z_) (L_ o471)) (N_ o267 (L_ o404) (L_ o537))) (N_ o165 (N_ o232 (N_ o369 (L_ o635) Z_) (L_ o632)) (N_ o302 (L_ o439) (L_ o571))))) (N_ o66 (N_ o85 (N_ o634 (N_ o632 (N_ o634 (L_ o595) Z_) (L_ o632)) (N_ o259 (L_ o396) (L_ o529))) (N_ o157 (N_ o224 (N_ o361 (L_ o634) Z_) (L_ o634)) (N_ o634 (L_ o431) (L_ o563)))) (N_ o634 (N_ o139 (N_ o205 (N_ o345 (L_ o632) Z_) (L_ o479)) (N_ o275 (L_ o634) (L_ o634))) (N_ o173 (N_ o240 (L_ o634) (L_ o513)) (N_ o310 (L_ o447) (L_ o634))))))))
def h_sts_481 : (@List @Stmt) := [My.top 20, My.top 21, My.top 22, My.top 23, My.top 24, My.top 25, My.top 26, My.top 27, My.top 28, My.top 29, My.top 30, My.top 31, My.top 32, My.top 33, My.top 34, My.top 35, My.top 36, My.top 37, My.top 38, My.top 39, My.top 40, My.top 41, My.top 42, My.top 43, My.top 44, My.top 45, My.top 46, My.top 47, My.top 48]
def h_tree_480 := N_ W.boot_o_0 (N_ W.boot_o_1 (N_ o424 (N_ W.boot_o_7 (N_ o634 (N_ o103 (N_ o632 (N_ o634 (L_ o311) (L_ o634)) (N_ o241 (L_ o381) Z_)) (N_ o634 (N_ o206 (L_ o346) (L_ o480)) Y2)) (N_ o104 (N_ o632 (N_ o190 (L_ o632) (L_ o464)) (N_ o260 (L_ o397) Z_)) (N_ o158 (N_ o225 (L_ o634) Z_) (N_ o295 (L_ o432) Z_)))) (N_ o428 (N_ o632 (N_ o634 Y0 (N_ o252 (L_ o389) Z_)) (N_ o148 (N_ o217 (L_ o354) Z_) (N_ o284 (L_ o421) Z_))) (N_ o97 (N_ o132 (N_ o634 (L_ o335) (L_ o634)) (N_ o268 (L_ o634) Z_)) (N_ o166 (N_ o634 (L_ o370) Z_) (N_ o303 (L_ o440) Z_))))) (N_ o634 (N_ o55 (N_ o104 (N_ o112 (N_ o178 (L_ o634) (L_ o452)) (N_ o427 (L_ o632) Z_)) (N_ o634 (N_ o428 (L_ o350) Z_) (N_ o280 (L_ o417) Z_))) (N_ o632 (N_ o128 (N_ o194 (L_ o331) (L_ o468)) (N_ o264 (L_ o634) Z_)) (N_ o162 (N_ o634 (L_ o366) Z_) (N_ o632 (L_ o436) Z_)))) (N_ o63 (N_ o82 (N_ o120 (N_ o186 (L_ o323) (L_ o460)) (N_ o632 (L_ o393) Z_)) (N_ o428 (N_ o221 (L_ o634) Z_) (N_ o427 (L_ o428) Z_))) (N_ o104 (N_ o136 (N_ o634 (L_ o428) (L_ o476)) (N_ o634 (L_ o409) Z_)) (N_ o634 (N_ o237 (L_ o427) Z_) (N_ o307 (L_ o634) Z_)))))) (N_ W.boot_o_5 (N_ W.boot_o_9 (N_ o53 (N_ o69 (N_ o110 (N_ o176 (L_ o632) (L_ o450)) (N_ o243 (L_ o383) Z_)) (N_ o142 (N_ o208 (L_ o634) Z_) (N_ o278 (L_ o634) Z_))) (N_ o91 (N_ o634 (N_ o192 (L_ o634) (L_ o466)) Y2) (N_ o634 (N_ o632 (L_ o364) Z_) (N_ o297 (L_ o634) Z_)))) (N_ o634 (N_ o80 (N_ o118 (N_ o634 (L_ o321) (L_ o634)) (N_ o254 (L_ o634) Z_)) (N_ o150 Y2 (N_ o286 (L_ o423) Z_))) (N_ o99 (N_ o134 (N_ o200 (L_ o337) (L_ o474)) (N_ o632 (L_ o407) Z_)) (N_ o632 (N_ o235 (L_ o372) Z_) Y2)))) (N_ o45 (N_ o57 (N_ o76 (N_ o114 (N_ o180 (L_ o317) (L_ o454)) (N_ o250 (L_ o634) Z_)) (N_ o146 (N_ o634 (L_ o352) Z_) (N_ o282 (L_ o419) Z_))) (N_ o95 (N_ o634 (N_ o632 (L_ o333) (L_ o632)) (N_ o266 (L_ o403) Z_)) (N_ o164 (N_ o231 (L_ o368) Z_) (N_ o634 (L_ o438) Z_)))) (N_ o634 (N_ o84 (N_ o122 (N_ o634 (L_ o325) (L_ o634)) (N_ o634 (L_ o395) Z_)) (N_ o634 (N_ o223 (L_ o360) Z_) (N_ o293 (L_ o634) Z_))) (N_ o106 (N_ o632 (N_ o426 (L_ o634) (L_ o478)) (N_ o274 (L_ o411) Z_)) (N_ o172 (N_ o239 (L_ o379) Z_) (N_ o309 (L_ o446) Z_))))))) (N_ W.boot_o_2 (N_ W.boot_o_4 (N_ W.boot_o_8 (N_ o632 (N_ o68 (N_ o109 Y0 (N_ o242 (L_ o382) Z_)) (N_ o141 (N_ o207 (L_ o347) Z_) (N_ o632 (L_ o414) Z_))) (N_ o428 (N_ o125 (N_ o634 (L_ o328) (L_ o634)) (N_ o261 (L_ o634) Z_)) (N_ o159 Y2 (N_ o296 (L_ o433) Z_)))) (N_ o60 (N_ o79 (N_ o632 (N_ o183 (L_ o632) (L_ o457)) (N_ o253 (L_ o390) Z_)) (N_ o149 (N_ o218 (L_ o634) Z_) (N_ o285 (L_ o422) Z_))) (N_ o98 (N_ o634 (N_ o199 (L_ o336) (L_ o473)) Y2) (N_ o634 (N_ o632 (L_ o371) Z_) (N_ o304 (L_ o634) Z_))))) (N_ o425 (N_ o56 (N_ o428 (N_ o113 (N_ o179 (L_ o316) (L_ o453)) (N_ o428 (L_ o386) Z_)) (N_ o632 (N_ o214 (L_ o634) Z_) (N_ o281 (L_ o418) Z_))) (N_ o94 (N_ o129 (N_ o634 (L_ o332) (L_ o634)) (N_ o634 (L_ o402) Z_)) (N_ o634 (N_ o230 (L_ o367) Z_) (N_ o300 (L_ o634) Z_)))) (N_ o64 (N_ o83 (N_ o121 (N_ o187 (L_ o324) (L_ o461)) (N_ o257 (L_ o634) Z_)) (N_ o155 (N_ o634 (L_ o359) Z_) (N_ o428 (L_ o429) Z_))) (N_ o428 (N_ o634 (N_ o203 (L_ o343) (L_ o477)) (N_ o273 (L_ o410) Z_)) (N_ o171 (N_ o238 (L_ o428) Z_) (N_ o634 (L_ o445) Z_)))))) (N_ W.boot_o_6 (N_ W.boot_o_10 (N_ o634 (N_ o70 (N_ o634 (N_ o634 (L_ o314) (L_ o634)) (N_ o244 (L_ o634) Z_)) (N_ o143 (N_ o427 (L_ o632) Z_) (N_ o634 (L_ o416) Z_))) (N_ o634 (N_ o127 (N_ o193 (L_ o330) (L_ o467)) (N_ o632 (L_ o400) Z_)) (N_ o632 (N_ o228 (L_ o634) Z_) Y2))) (N_ o632 (N_ o634 (N_ o634 (N_ o185 (L_ o634) (L_ o459)) Y2) (N_ o634 (N_ o632 (L_ o357) Z_) (N_ o287 (L_ o427) Z_))) (N_ o100 (N_ o135 (N_ o201 (L_ o427) (L_ o475)) (N_ o271 (L_ o634) Z_)) (N_ o169 (N_ o634 (L_ o373) Z_) (N_ o632 (L_ o443) Z_))))) (N_ o46 (N_ o58 (N_ o634 (N_ o115 (N_ o634 (L_ o318) (L_ o634)) (N_ o634 (L_ o388) Z_)) (N_ o634 (N_ o216 (L_ o353) Z_) (N_ o283 (L_ o420) Z_))) (N_ o634 (N_ o632 (N_ o197 (L_ o334) (L_ o471)) (N_ o267 (L_ o404) Z_)) (N_ o165 (N_ o232 (L_ o369) Z_) (N_ o302 (L_ o439) Z_)))) (N_ o66 (N_ o85 (N_ o634 Y0 (N_ o259 (L_ o396) Z_)) (N_ o157 (N_ o224 (L_ o361) Z_) (N_ o634 (L_ o431) Z_))) (N_ o634 (N_ o139 (N_ o205 (L_ o345) (L_ o479)) (N_ o275 (L_ o634) Z_)) (N_ o173 (N_ o240 (L_ o634) Z_) (N_ o310 (L_ o447) Z_)))))))
def h_sts_245 : (@List @Stmt) := [My.top 15, My.top 16, My.top 17, My.top 18, My.top 19]
def h_tree_244 := N_ W.boot_o_0 (N_ W.boot_o_1 (N_ o209 (N_ W.boot_o_7 (N_ o634 (N_ o103 (N_ o632 (L_ o634) (L_ o241)) (N_ o634 (L_ o206) Z_)) (N_ o104 (N_ o632 (L_ o190) Z_) (N_ o158 (L_ o225) Z_))) (N_ o428 (N_ o632 Y2 (N_ o148 (L_ o217) Z_)) (N_ o97 (N_ o132 (L_ o634) Z_) (N_ o166 (L_ o634) Z_)))) (N_ o634 (N_ o55 (N_ o104 (N_ o112 (L_ o178) Z_) (N_ o634 (L_ o428) Z_)) (N_ o632 (N_ o128 (L_ o194) Z_) (N_ o162 (L_ o634) Z_))) (N_ o63 (N_ o82 (N_ o120 (L_ o186) Z_) (N_ o428 (L_ o221) Z_)) (N_ o104 (N_ o136 (L_ o634) Z_) (N_ o634 (L_ o237) Z_))))) (N_ W.boot_o_5 (N_ W.boot_o_9 (N_ o53 (N_ o69 (N_ o110 (L_ o176) (L_ o243)) (N_ o142 (L_ o208) Z_)) (N_ o91 (N_ o634 (L_ o192) Z_) Y2)) (N_ o634 (N_ o80 (N_ o118 (L_ o634) Z_) (N_ o150 (L_ o634) Z_)) (N_ o99 (N_ o134 (L_ o200) Z_) (N_ o632 (L_ o235) Z_)))) (N_ o45 (N_ o57 (N_ o76 (N_ o114 (L_ o180) Z_) (N_ o146 (L_ o634) Z_)) (N_ o95 Y2 (N_ o164 (L_ o231) Z_))) (N_ o634 (N_ o84 (N_ o122 (L_ o634) Z_) (N_ o634 (L_ o223) Z_)) (N_ o106 (N_ o632 (L_ o211) Z_) (N_ o172 (L_ o239) Z_)))))) (N_ W.boot_o_2 (N_ W.boot_o_4 (N_ W.boot_o_8 (N_ o632 (N_ o68 (N_ o109 (L_ o632) (L_ o242)) (N_ o141 (L_ o207) Z_)) (N_ o428 (N_ o125 (L_ o634) Z_) (N_ o159 (L_ o634) Z_))) (N_ o60 (N_ o79 (N_ o632 (L_ o183) Z_) (N_ o149 (L_ o218) Z_)) (N_ o98 (N_ o634 (L_ o199) Z_) Y2))) (N_ o210 (N_ o56 (N_ o428 (N_ o113 (L_ o179) Z_) (N_ o632 (L_ o214) Z_)) (N_ o94 (N_ o129 (L_ o634) Z_) (N_ o634 (L_ o230) Z_))) (N_ o64 (N_ o83 (N_ o121 (L_ o187) Z_) (N_ o155 (L_ o634) Z_)) (N_ o428 (N_ o634 (L_ o203) Z_) (N_ o171 (L_ o238) Z_))))) (N_ W.boot_o_6 (N_ W.boot_o_10 (N_ o634 (N_ o70 (N_ o634 (L_ o634) (L_ o244)) (N_ o143 (L_ o427) Z_)) (N_ o634 (N_ o127 (L_ o193) Z_) (N_ o632 (L_ o228) Z_))) (N_ o632 (N_ o634 (N_ o634 (L_ o185) Z_) Y2) (N_ o100 (N_ o135 (L_ o201) Z_) (N_ o169 (L_ o634) Z_)))) (N_ o46 (N_ o58 (N_ o634 (N_ o115 (L_ o634) Z_) (N_ o634 (L_ o216) Z_)) (N_ o634 (N_ o632 (L_ o197) Z_) (N_ o165 (L_ o232) Z_))) (N_ o66 (N_ o85 Y2 (N_ o157 (L_ o224) Z_)) (N_ o634 (N_ o139 (L_ o205) Z_) (N_ o173 (L_ o240) Z_))))))
def h_sts_49 : (@List @Stmt) := [My.top 0, My.top 1, My.top 2, My.top 3, My.top 4, My.top 5, My.top 6, My.top 7, My.top 8, My.top 9, My.top 10, My.top 11, My.top 12, My.top 13, My.top 14]
def h_tree_47 := N_ W.boot_o_0 (N_ W.boot_o_1 (N_ W.boot_o_3 (L_ W.boot_o_7) (L_ o634)) (N_ W.boot_o_5 (L_ W.boot_o_9) (L_ o45))) (N_ W.boot_o_2 (N_ W.boot_o_4 (L_ W.boot_o_8) (L_ o632)) (N_ W.boot_o_6 (L_ W.boot_o_10) (L_ o46)))
def h_heap_46 : ((x : @Params) → @Heap) := (fun x => (@Heap.mk (@Array.mk @Obj [(@W.boot_o_0 x), (@W.boot_o_1 x), (@W.boot_o_2 x), (@W.boot_o_3 x), (@W.boot_o_4 x), (@W.boot_o_5 x), (@W.boot_o_6 x), (@W.boot_o_7 x), (@W.boot_o_8 x), (@W.boot_o_9 x), (@W.boot_o_10 x), (o634 x), (o632 x), (o45 x), (o46 x)]) (@Life.mk [] [] [] 0 (@List.nil (@Prod @Nat @Nat)) [] @Bool.false #[] [] 0 @Bool.false @Bool.false @Bool.false (0 : Int) [(2000 : Int), (10 : Int), (10 : Int)] @Bool.false 0 @Bool.true [] [] 0 @Bool.false)))
abbrev k4 := (@Life.mk [] [] [] 0 (@List.nil (@Prod @Nat @Nat)) [] @Bool.false #[] [] 0 @Bool.false @Bool.false @Bool.false (0 : Int) [(2000 : Int), (10 : Int), (10 : Int)] @Bool.false 0 @Bool.true [] [] 0 @Bool.false)
abbrev S_ (t : Params → W.BT) (n k : Nat) (w : World) (o : OsState) : W.SharedT := W.SharedT.mk (t w.params) n k4 g_ d_ k o
abbrev k0 (x0 : World) (x1 : OsState) := (@Shared.mk (@h_heap_638 x0.params) g_ d_ 908 x1)
abbrev k1 := (@W.OpenRow.toRowW (@W.OpenLaw.row @Challenge.rw_oddbases_k58_writings_as_texts))
abbrev k2 := (@Prod (@Prod (@List (@Option @FnShape)) @Bool) (@Prod (@List (@Option @PyProof.Rows.PlainShape)) (@Prod (@List (@Option (@Prod @PyProof.Rows.PlainShape @Bool))) (@Prod (@Prod (@List (@Option @FnShape)) @Bool) (@List (@Prod (@Option (@Prod (@List (@Option @FnShape)) @Bool)) (@Option (@Prod @PyProof.Rows.PlainShape @Bool))))))))
abbrev k3 := (@W.looseW @h_view_39 [(.ofString "has_figures_alone_writings"), (.ofString "has_figures_alone_texts")])
abbrev k5 := (@Bool.true, ((@pinGoodD (@PyProof.Rows.drecsOf @h_view_39)), ((@PyProof.Rows.plainGoodE @h_view_39 k3), ((@PyProof.Rows.plainGoodD @h_view_39 [(.ofString "has_figures_alone_writings"), (.ofString "has_figures_alone_texts")]), ((@W.wideGood @h_view_39), (@W.clsGoodW @h_view_39 [(.ofString "has_figures_alone_writings"), (.ofString "has_figures_alone_texts")]))))))
abbrev k6 (x0 : World) (x1 : OsState) := (@W.clsSeenW @h_view_39 [(.ofString "has_figures_alone_writings"), (.ofString "has_figures_alone_texts")] (k0 x0 x1))
abbrev k7 (x0 : World) (x1 : OsState) := (@PyProof.Rows.plainSeenD @h_view_39 [(.ofString "has_figures_alone_writings"), (.ofString "has_figures_alone_texts")] (k0 x0 x1))
abbrev k8 (x0 : World) (x1 : OsState) := (@ite @Bool (@Eq @Bool @Bool.true @Bool.true) (@instDecidableEqBool @Bool.true @Bool.true) (@BEq.beq @Nat (@instBEqOfDecidableEq @Nat @instDecidableEqNat) (@Array.size @GenState (@Shared.gens (k0 x0 x1))) 0) (@Bool.not (@leftWithCleanup (@Shared.gens (k0 x0 x1)))))
abbrev k9 := (@List (@Prod (@Option (@Prod (@List (@Option @FnShape)) @Bool)) (@Option (@Prod @PyProof.Rows.PlainShape @Bool))))
abbrev k10 (x0 : World) (x1 : OsState) := (@Bool.and (@Bool.and (@Bool.and (@W.staticsOk (@importedModules (@Module.body (@Program.main (k1).1))) (@W.boot_heap x0.params) (@h_heap_638 x0.params)) (@W.namesBound (k1).1 (@h_heap_638 x0.params))) (@W.gensDone (k0 x0 x1))) (@W.laidKept (@W.boot_heap x0.params) (@h_heap_638 x0.params)))
abbrev k11 := (@W.clsGoodW @h_view_39 [(.ofString "has_figures_alone_writings"), (.ofString "has_figures_alone_texts")])
abbrev k12 := (@Code.body (@W.behindTheImports (k1).1) @h_env_41)
abbrev k13 := (@PyProof.Rows.plainGoodD @h_view_39 [(.ofString "has_figures_alone_writings"), (.ofString "has_figures_alone_texts")])
abbrev k14 := (@Prod (@Prod (@Option @Str) (@List (@Prod @Str @Value))) (@Prod @Bool (@Prod @Bool k2)))
abbrev k15 := (@Eq.refl (@List @Addr) My.myAs)
abbrev k16 := (@importedModules (@Module.body (@Program.main (k1).1)))
abbrev k17 (x0 : World) (x1 : OsState) := (@pinSeenD @h_view_39 (@PyProof.Rows.drecsOf @h_view_39) (k0 x0 x1))
abbrev k18 (x0 : World) (x1 : OsState) := (@PyProof.Rows.plainSeenE @h_view_39 k3 (k0 x0 x1))
abbrev k19 := (@W.openGood @h_view_39 [(.ofString "has_figures_alone_writings"), (.ofString "has_figures_alone_texts")])
abbrev k20 := (@Prod (@List (@Option @FnShape)) @Bool)
abbrev k21 := (@List.nil (@Prod @Str @W.WData))
abbrev k22 (x0 : World) (x1 : OsState) := (@W.wideSeen @h_view_39 (k0 x0 x1))
abbrev k23 := (@List (@Option (@Prod @PyProof.Rows.PlainShape @Bool)))
abbrev k24 (x0 : World) (x1 : OsState) := (S_ h_tree_244 195 418 x0 x1)
abbrev k25 (x0 : World) (x1 : OsState) := (S_ h_tree_480 416 692 x0 x1)
abbrev k26 := (@Nat.add 12 (@Nat.add 1 (@Nat.add 1730 (@Nat.add 1811 (@Nat.add 762 2)))))
abbrev k27 (x0 : World) (x1 : OsState) := (S_ h_tree_47 15 187 x0 x1)
abbrev k28 := (@Prod @Flow (@Prod @W.SharedT (@Prod @Code @Pos)))
abbrev k29 (x0 : World) (x1 : OsState) := (@Shared.mk (@h_heap_46 x0.params) g_ d_ 187 x1)
abbrev k30 (x0 : World) (x1 : OsState) := (@PyProof.Rows.tablesOk @h_view_39 (@Shared.heap (k0 x0 x1)))
abbrev k31 (x0 : World) (x1 : OsState) := (@PyProof.Rows.tabsOk @h_view_39 (k0 x0 x1))
abbrev k32 (x0 : World) (x1 : OsState) := (@Heap.accountedOkI (@Shared.heap (k0 x0 x1)) k16)
abbrev k33 (x0 : World) (x1 : OsState) := (S_ h_tree_637 569 908 x0 x1)
abbrev k34 (x0 : World) (x1 : OsState) := (@Heap.isNs (@Shared.heap (k0 x0 x1)) @mainGlobals)
abbrev k35 (x0 : World) (x1 : OsState) := (@Heap.isNs (@Shared.heap (k0 x0 x1)) @builtinsNs)
abbrev k36 := (@PyProof.Rows.plainGoodE @h_view_39 k3)
abbrev k37 (x0 : World) (x1 : OsState) := (@Shared.mk (@W.boot_heap x0.params) g_ @W.boot_drawn @W.boot_toks x1)
abbrev k38 := (@Thread.mk (@denote @treeTable k12) k12 (P_ 0 0 0 0) [(@W.topFrame (P_ 0 0 0 0))])
abbrev k39 := (@PyProof.Rows.clssOf @h_view_39 k3)
abbrev k40 := (@Prod @Flow (@Prod @Shared (@Prod @Code @Pos)))
abbrev kh0 := (@W.kHook @h_heap_39 My.myAs (fun x0 => (@id (@Eq (@List @Addr) My.myAs (@List.map (@Prod @Addr @Obj) @Addr (fun (x1 : (@Prod @Addr @Obj)) => (@Prod.fst @Addr @Obj x1)) (@h_heap_39 x0))) k15)))
theorem pf_673 : ((x0 : World) → (@Eq ((x1 : OsState) → (@W.Hook.α kh0)) (fun x1 => (@W.Hook.obs kh0 (k0 x0 x1))) (fun x1 => (@W.Hook.val kh0 x0)))) := by intros; kernel_rfl
theorem pf_663 : ((x0 : World) → (@Eq ((x1 : OsState) → k9) (fun x1 => (k6 x0 x1)) (fun x1 => k11))) := by intros; kernel_rfl
theorem pf_661 : ((x0 : World) → (@Eq ((x1 : OsState) → k20) (fun x1 => (k22 x0 x1)) (fun x1 => (@W.wideGood @h_view_39)))) := by intros; kernel_rfl
theorem pf_664 : ((x0 : World) → ((x1 : OsState) → (@Eq (@Prod k20 k9) ((k22 x0 x1), (k6 x0 x1)) ((@W.wideGood @h_view_39), k11)))) := (fun x0 => (fun x1 => (@W.looks_pair k20 k9 (k22 x0 x1) (@W.wideGood @h_view_39) (k6 x0 x1) k11 ((fun x2 => (fun x3 => (congrFun (My.pf_661 x2) x3))) x0 x1) ((fun x2 => (fun x3 => (congrFun (My.pf_663 x2) x3))) x0 x1))))
theorem pf_659 : ((x0 : World) → (@Eq ((x1 : OsState) → k23) (fun x1 => (k7 x0 x1)) (fun x1 => k13))) := by intros; kernel_rfl
theorem pf_665 : ((x0 : World) → ((x1 : OsState) → (@Eq (@Prod k23 (@Prod k20 k9)) ((k7 x0 x1), ((k22 x0 x1), (k6 x0 x1))) (k13, ((@W.wideGood @h_view_39), k11))))) := (fun x0 => (fun x1 => (@W.looks_pair k23 (@Prod k20 k9) (k7 x0 x1) k13 ((k22 x0 x1), (k6 x0 x1)) ((@W.wideGood @h_view_39), k11) ((fun x2 => (fun x3 => (congrFun (My.pf_659 x2) x3))) x0 x1) (@My.pf_664 x0 x1))))
theorem pf_657 : ((x0 : World) → (@Eq ((x1 : OsState) → (@List (@Option @PyProof.Rows.PlainShape))) (fun x1 => (k18 x0 x1)) (fun x1 => k36))) := by intros; kernel_rfl
theorem pf_666 : ((x0 : World) → ((x1 : OsState) → (@Eq (@Prod (@List (@Option @PyProof.Rows.PlainShape)) (@Prod k23 (@Prod k20 k9))) ((k18 x0 x1), ((k7 x0 x1), ((k22 x0 x1), (k6 x0 x1)))) (k36, (k13, ((@W.wideGood @h_view_39), k11)))))) := (fun x0 => (fun x1 => (@W.looks_pair (@List (@Option @PyProof.Rows.PlainShape)) (@Prod k23 (@Prod k20 k9)) (k18 x0 x1) k36 ((k7 x0 x1), ((k22 x0 x1), (k6 x0 x1))) (k13, ((@W.wideGood @h_view_39), k11)) ((fun x2 => (fun x3 => (congrFun (My.pf_657 x2) x3))) x0 x1) (@My.pf_665 x0 x1))))
theorem pf_655 : ((x0 : World) → (@Eq ((x1 : OsState) → k20) (fun x1 => (k17 x0 x1)) (fun x1 => (@pinGoodD (@PyProof.Rows.drecsOf @h_view_39))))) := by intros; kernel_rfl
theorem pf_667 : ((x0 : World) → ((x1 : OsState) → (@Eq k2 ((k17 x0 x1), ((k18 x0 x1), ((k7 x0 x1), ((k22 x0 x1), (k6 x0 x1))))) ((@pinGoodD (@PyProof.Rows.drecsOf @h_view_39)), (k36, (k13, ((@W.wideGood @h_view_39), k11))))))) := (fun x0 => (fun x1 => (@W.looks_pair k20 (@Prod (@List (@Option @PyProof.Rows.PlainShape)) (@Prod k23 (@Prod k20 k9))) (k17 x0 x1) (@pinGoodD (@PyProof.Rows.drecsOf @h_view_39)) ((k18 x0 x1), ((k7 x0 x1), ((k22 x0 x1), (k6 x0 x1)))) (k36, (k13, ((@W.wideGood @h_view_39), k11))) ((fun x2 => (fun x3 => (congrFun (My.pf_655 x2) x3))) x0 x1) (@My.pf_666 x0 x1))))
theorem pf_653 : ((x0 : World) → (@Eq ((x1 : OsState) → @Bool) (fun x1 => (k31 x0 x1)) (fun x1 => @Bool.true))) := by intros; kernel_rfl
theorem pf_668 : ((x0 : World) → ((x1 : OsState) → (@Eq (@Prod @Bool k2) ((k31 x0 x1), ((k17 x0 x1), ((k18 x0 x1), ((k7 x0 x1), ((k22 x0 x1), (k6 x0 x1)))))) k5))) := (fun x0 => (fun x1 => (@W.looks_pair @Bool k2 (k31 x0 x1) @Bool.true ((k17 x0 x1), ((k18 x0 x1), ((k7 x0 x1), ((k22 x0 x1), (k6 x0 x1))))) ((@pinGoodD (@PyProof.Rows.drecsOf @h_view_39)), (k36, (k13, ((@W.wideGood @h_view_39), k11)))) ((fun x2 => (fun x3 => (congrFun (My.pf_653 x2) x3))) x0 x1) (@My.pf_667 x0 x1))))
theorem pf_651 : ((x0 : World) → (@Eq ((x1 : OsState) → @Bool) (fun x1 => (@Bool.and (@Bool.and (@Bool.and (@Bool.and (@Bool.and (@Bool.and (@Heap.keysOk (@Shared.heap (k0 x0 x1)) k3 (@List.map @DefRec @Str (fun (x2 : @DefRec) => (@DefRec.name x2)) (@PyProof.Rows.recsOf @h_view_39)) (@List.map (@Prod @Str @PyData) @Str (fun (x2 : (@Prod @Str @PyData)) => (@Prod.fst @Str @PyData x2)) (@PyProof.Rows.litsOf @h_view_39)) (@List.map @ClsRec @Str (fun (x2 : @ClsRec) => (@ClsRec.name x2)) k39)) (k32 x0 x1)) (k34 x0 x1)) (k35 x0 x1)) (k30 x0 x1)) ((fun (x2 : @Shared) => (@Bool.and (@W.xlAt @h_view_39 k21 x2) (@W.recOk (@W.RowW.records k1) x2))) (k0 x0 x1))) (k8 x0 x1))) (fun x1 => @Bool.true))) := by intros; kernel_rfl
theorem pf_669 : ((x0 : World) → ((x1 : OsState) → (@Eq (@Prod @Bool (@Prod @Bool k2)) ((@Bool.and (@Bool.and (@Bool.and (@Bool.and (@Bool.and (@Bool.and (@Heap.keysOk (@Shared.heap (k0 x0 x1)) k3 (@List.map @DefRec @Str (fun (x2 : @DefRec) => (@DefRec.name x2)) (@PyProof.Rows.recsOf @h_view_39)) (@List.map (@Prod @Str @PyData) @Str (fun (x2 : (@Prod @Str @PyData)) => (@Prod.fst @Str @PyData x2)) (@PyProof.Rows.litsOf @h_view_39)) (@List.map @ClsRec @Str (fun (x2 : @ClsRec) => (@ClsRec.name x2)) k39)) (k32 x0 x1)) (k34 x0 x1)) (k35 x0 x1)) (k30 x0 x1)) ((fun (x2 : @Shared) => (@Bool.and (@W.xlAt @h_view_39 k21 x2) (@W.recOk (@W.RowW.records k1) x2))) (k0 x0 x1))) (k8 x0 x1)), ((k31 x0 x1), ((k17 x0 x1), ((k18 x0 x1), ((k7 x0 x1), ((k22 x0 x1), (k6 x0 x1))))))) (@Bool.true, k5)))) := (fun x0 => (fun x1 => (@W.looks_pair @Bool (@Prod @Bool k2) (@Bool.and (@Bool.and (@Bool.and (@Bool.and (@Bool.and (@Bool.and (@Heap.keysOk (@Shared.heap (k0 x0 x1)) k3 (@List.map @DefRec @Str (fun (x2 : @DefRec) => (@DefRec.name x2)) (@PyProof.Rows.recsOf @h_view_39)) (@List.map (@Prod @Str @PyData) @Str (fun (x2 : (@Prod @Str @PyData)) => (@Prod.fst @Str @PyData x2)) (@PyProof.Rows.litsOf @h_view_39)) (@List.map @ClsRec @Str (fun (x2 : @ClsRec) => (@ClsRec.name x2)) k39)) (k32 x0 x1)) (k34 x0 x1)) (k35 x0 x1)) (k30 x0 x1)) ((fun (x2 : @Shared) => (@Bool.and (@W.xlAt @h_view_39 k21 x2) (@W.recOk (@W.RowW.records k1) x2))) (k0 x0 x1))) (k8 x0 x1)) @Bool.true ((k31 x0 x1), ((k17 x0 x1), ((k18 x0 x1), ((k7 x0 x1), ((k22 x0 x1), (k6 x0 x1)))))) k5 ((fun x2 => (fun x3 => (congrFun (My.pf_651 x2) x3))) x0 x1) (@My.pf_668 x0 x1))))
theorem pf_649 : ((x0 : World) → (@Eq ((x1 : OsState) → (@Prod (@Option @Str) (@List (@Prod @Str @Value)))) (fun x1 => (@Heap.bltView (@Shared.heap (k0 x0 x1)))) (fun x1 => @bltViewBooted))) := by intros; kernel_rfl
theorem pf_670 : ((x0 : World) → ((x1 : OsState) → (@Eq k14 ((@Heap.bltView (@Shared.heap (k0 x0 x1))), ((@Bool.and (@Bool.and (@Bool.and (@Bool.and (@Bool.and (@Bool.and (@Heap.keysOk (@Shared.heap (k0 x0 x1)) k3 (@List.map @DefRec @Str (fun (x2 : @DefRec) => (@DefRec.name x2)) (@PyProof.Rows.recsOf @h_view_39)) (@List.map (@Prod @Str @PyData) @Str (fun (x2 : (@Prod @Str @PyData)) => (@Prod.fst @Str @PyData x2)) (@PyProof.Rows.litsOf @h_view_39)) (@List.map @ClsRec @Str (fun (x2 : @ClsRec) => (@ClsRec.name x2)) k39)) (k32 x0 x1)) (k34 x0 x1)) (k35 x0 x1)) (k30 x0 x1)) ((fun (x2 : @Shared) => (@Bool.and (@W.xlAt @h_view_39 k21 x2) (@W.recOk (@W.RowW.records k1) x2))) (k0 x0 x1))) (k8 x0 x1)), ((k31 x0 x1), ((k17 x0 x1), ((k18 x0 x1), ((k7 x0 x1), ((k22 x0 x1), (k6 x0 x1)))))))) (@bltViewBooted, (@Bool.true, k5))))) := (fun x0 => (fun x1 => (@W.looks_pair (@Prod (@Option @Str) (@List (@Prod @Str @Value))) (@Prod @Bool (@Prod @Bool k2)) (@Heap.bltView (@Shared.heap (k0 x0 x1))) @bltViewBooted ((@Bool.and (@Bool.and (@Bool.and (@Bool.and (@Bool.and (@Bool.and (@Heap.keysOk (@Shared.heap (k0 x0 x1)) k3 (@List.map @DefRec @Str (fun (x2 : @DefRec) => (@DefRec.name x2)) (@PyProof.Rows.recsOf @h_view_39)) (@List.map (@Prod @Str @PyData) @Str (fun (x2 : (@Prod @Str @PyData)) => (@Prod.fst @Str @PyData x2)) (@PyProof.Rows.litsOf @h_view_39)) (@List.map @ClsRec @Str (fun (x2 : @ClsRec) => (@ClsRec.name x2)) k39)) (k32 x0 x1)) (k34 x0 x1)) (k35 x0 x1)) (k30 x0 x1)) ((fun (x2 : @Shared) => (@Bool.and (@W.xlAt @h_view_39 k21 x2) (@W.recOk (@W.RowW.records k1) x2))) (k0 x0 x1))) (k8 x0 x1)), ((k31 x0 x1), ((k17 x0 x1), ((k18 x0 x1), ((k7 x0 x1), ((k22 x0 x1), (k6 x0 x1))))))) (@Bool.true, k5) ((fun x2 => (fun x3 => (congrFun (My.pf_649 x2) x3))) x0 x1) (@My.pf_669 x0 x1))))
theorem pf_647 : ((x0 : World) → (@Eq ((x1 : OsState) → @PyProof.Rows.Seen) (fun x1 => (@PyProof.Rows.seen (@List.map @DefRec @Str (fun (x2 : @DefRec) => (@DefRec.name x2)) (@PyProof.Rows.recsOf @h_view_39)) (@PyProof.Rows.ownsOf @h_view_39) [] (@Shared.mk (@Shared.heap (k0 x0 x1)) #[] (@Shared.drawn (k0 x0 x1)) (@Shared.toks (k0 x0 x1)) (@Shared.os (k0 x0 x1))))) (fun x1 => (@PyProof.Rows.expectedOf @h_view_39)))) := by intros; kernel_rfl
theorem pf_671 : ((x0 : World) → ((x1 : OsState) → (@Eq (@Prod @PyProof.Rows.Seen k14) (@W.openSeen @h_view_39 [(.ofString "has_figures_alone_writings"), (.ofString "has_figures_alone_texts")] k16 (fun (x2 : @Shared) => (@Bool.and (@W.xlAt @h_view_39 k21 x2) (@W.recOk (@W.RowW.records k1) x2))) @Bool.true (k0 x0 x1)) k19))) := (fun x0 => (fun x1 => (@W.looks_pair @PyProof.Rows.Seen k14 (@PyProof.Rows.seen (@List.map @DefRec @Str (fun (x2 : @DefRec) => (@DefRec.name x2)) (@PyProof.Rows.recsOf @h_view_39)) (@PyProof.Rows.ownsOf @h_view_39) [] (@Shared.mk (@Shared.heap (k0 x0 x1)) #[] (@Shared.drawn (k0 x0 x1)) (@Shared.toks (k0 x0 x1)) (@Shared.os (k0 x0 x1)))) (@PyProof.Rows.expectedOf @h_view_39) ((@Heap.bltView (@Shared.heap (k0 x0 x1))), ((@Bool.and (@Bool.and (@Bool.and (@Bool.and (@Bool.and (@Bool.and (@Heap.keysOk (@Shared.heap (k0 x0 x1)) k3 (@List.map @DefRec @Str (fun (x2 : @DefRec) => (@DefRec.name x2)) (@PyProof.Rows.recsOf @h_view_39)) (@List.map (@Prod @Str @PyData) @Str (fun (x2 : (@Prod @Str @PyData)) => (@Prod.fst @Str @PyData x2)) (@PyProof.Rows.litsOf @h_view_39)) (@List.map @ClsRec @Str (fun (x2 : @ClsRec) => (@ClsRec.name x2)) k39)) (k32 x0 x1)) (k34 x0 x1)) (k35 x0 x1)) (k30 x0 x1)) ((fun (x2 : @Shared) => (@Bool.and (@W.xlAt @h_view_39 k21 x2) (@W.recOk (@W.RowW.records k1) x2))) (k0 x0 x1))) (k8 x0 x1)), ((k31 x0 x1), ((k17 x0 x1), ((k18 x0 x1), ((k7 x0 x1), ((k22 x0 x1), (k6 x0 x1)))))))) (@bltViewBooted, (@Bool.true, k5)) ((fun x2 => (fun x3 => (congrFun (My.pf_647 x2) x3))) x0 x1) (@My.pf_670 x0 x1))))
theorem pf_674 : ((x0 : World) → ((x1 : OsState) → (@Eq (@Prod (@Prod @PyProof.Rows.Seen k14) (@W.Hook.α kh0)) ((@W.openSeen @h_view_39 [(.ofString "has_figures_alone_writings"), (.ofString "has_figures_alone_texts")] k16 (fun (x2 : @Shared) => (@Bool.and (@W.xlAt @h_view_39 k21 x2) (@W.recOk (@W.RowW.records k1) x2))) @Bool.true (k0 x0 x1)), (@W.Hook.obs kh0 (k0 x0 x1))) (k19, (@W.Hook.val kh0 x0))))) := (fun x0 => (fun x1 => (@W.looks_pair (@Prod @PyProof.Rows.Seen k14) (@W.Hook.α kh0) (@W.openSeen @h_view_39 [(.ofString "has_figures_alone_writings"), (.ofString "has_figures_alone_texts")] k16 (fun (x2 : @Shared) => (@Bool.and (@W.xlAt @h_view_39 k21 x2) (@W.recOk (@W.RowW.records k1) x2))) @Bool.true (k0 x0 x1)) k19 (@W.Hook.obs kh0 (k0 x0 x1)) (@W.Hook.val kh0 x0) (@My.pf_671 x0 x1) ((fun x2 => (fun x3 => (congrFun (My.pf_673 x2) x3))) x0 x1))))
theorem pf_645 : ((x0 : World) → (@Eq ((x1 : OsState) → @Bool) (fun x1 => (k10 x0 x1)) (fun x1 => @Bool.true))) := by intros; kernel_rfl
theorem pf_675 : ((x0 : World) → ((x1 : OsState) → (@Eq (@Prod @Bool (@Prod (@Prod @PyProof.Rows.Seen k14) (@W.Hook.α kh0))) ((k10 x0 x1), ((@W.openSeen @h_view_39 [(.ofString "has_figures_alone_writings"), (.ofString "has_figures_alone_texts")] k16 (fun (x2 : @Shared) => (@Bool.and (@W.xlAt @h_view_39 k21 x2) (@W.recOk (@W.RowW.records k1) x2))) @Bool.true (k0 x0 x1)), (@W.Hook.obs kh0 (k0 x0 x1)))) (@Bool.true, (k19, (@W.Hook.val kh0 x0)))))) := (fun x0 => (fun x1 => (@W.looks_pair @Bool (@Prod (@Prod @PyProof.Rows.Seen k14) (@W.Hook.α kh0)) (k10 x0 x1) @Bool.true ((@W.openSeen @h_view_39 [(.ofString "has_figures_alone_writings"), (.ofString "has_figures_alone_texts")] k16 (fun (x2 : @Shared) => (@Bool.and (@W.xlAt @h_view_39 k21 x2) (@W.recOk (@W.RowW.records k1) x2))) @Bool.true (k0 x0 x1)), (@W.Hook.obs kh0 (k0 x0 x1))) (k19, (@W.Hook.val kh0 x0)) ((fun x2 => (fun x3 => (congrFun (My.pf_645 x2) x3))) x0 x1) (@My.pf_674 x0 x1))))
theorem pf_640 : ((x0 : World) → (@Eq ((x1 : OsState) → (@Option @Shared)) (fun x1 => (@W.topRun @treeTable (k1).1 x0 11 v_ 2 (@W.SharedT.abs (k33 x0 x1)) (@Thread.mk (@W.doneF @Flow.next) k12 (P_ 328 0 340 15) [(@W.topFrame (P_ 0 0 0 0))]))) (fun x1 => (@some @Shared (k0 x0 x1))))) := by intros; kernel_rfl
theorem pf_49 : ((x0 : World) → (@Eq ((x1 : OsState) → (@Option k40)) (fun x1 => (@W.segRun @treeTable (k1).1 x0 11 v_ 1 1 (k29 x0 x1) (@W.blockOf (@W.behindTheImports (k1).1) @h_env_41 k12 (P_ 0 0 0 0) [(@W.topFrame (P_ 0 0 0 0))]))) (fun x1 => (@some k40 (@Flow.next, ((@W.SharedT.abs (k27 x0 x1)), (k12, (P_ 0 0 0 0)))))))) := by intros; kernel_rfl
theorem pf_47 : ((x0 : World) → (@Eq ((x1 : OsState) → (@Option (@Prod @Shared @Thread))) (fun x1 => (@W.topGo @treeTable (k1).1 x0 11 v_ 12 (k37 x0 x1) (@W.topStub (k1).1))) (fun x1 => (@some (@Prod @Shared @Thread) ((k29 x0 x1), k38))))) := by intros; kernel_rfl
theorem pf_245 : ((x0 : World) → (@Eq ((x1 : OsState) → (@Option k28)) (fun x1 => (@W.segRunT @treeTable (k1).1 x0 11 v_ 1 1730 (k27 x0 x1) (@W.piecesOf @h_sts_49 @h_env_41 k12 (P_ 0 0 0 0) [(@W.topFrame (P_ 0 0 0 0))]))) (fun x1 => (@some k28 (@Flow.next, ((k24 x0 x1), (k12, (P_ 55 0 64 24)))))))) := by intros; kernel_rfl
theorem pf_481 : ((x0 : World) → (@Eq ((x1 : OsState) → (@Option k28)) (fun x1 => (@W.segRunT @treeTable (k1).1 x0 11 v_ 1 1811 (k24 x0 x1) (@W.piecesOf @h_sts_245 @h_env_41 k12 (P_ 55 0 64 24) [(@W.topFrame (P_ 0 0 0 0))]))) (fun x1 => (@some k28 (@Flow.next, ((k25 x0 x1), (k12, (P_ 120 0 142 30)))))))) := by intros; kernel_rfl
theorem pf_638 : ((x0 : World) → (@Eq ((x1 : OsState) → (@Option k28)) (fun x1 => (@W.segRunT @treeTable (k1).1 x0 11 v_ 1 762 (k25 x0 x1) (@W.piecesOf @h_sts_481 @h_env_41 k12 (P_ 120 0 142 30) [(@W.topFrame (P_ 0 0 0 0))]))) (fun x1 => (@some k28 (@Flow.next, ((k33 x0 x1), (k12, (P_ 328 0 340 15)))))))) := by intros; kernel_rfl
theorem pf_641 : ((x0 : World) → ((x1 : OsState) → (@Eq (@Option @Shared) (@W.topRun @treeTable (k1).1 x0 11 v_ k26 (k37 x0 x1) (@W.topStub (k1).1)) (@some @Shared (k0 x0 x1))))) := (fun x0 => (fun x1 => (@W.go_top @treeTable (k1).1 x0 11 v_ 12 (@Nat.add 1 (@Nat.add 1730 (@Nat.add 1811 (@Nat.add 762 2)))) (k37 x0 x1) (k29 x0 x1) (k0 x0 x1) (@W.topStub (k1).1) k38 (congrFun (My.pf_47 x0) x1) (@W.piece_block @treeTable (k1).1 x0 11 v_ @h_env_41 (P_ 0 0 0 0) 1 (@Nat.add 1730 (@Nat.add 1811 (@Nat.add 762 2))) (k29 x0 x1) (@W.SharedT.abs (k27 x0 x1)) (k0 x0 x1) (@W.behindTheImports (k1).1) k12 (P_ 0 0 0 0) (P_ 0 0 0 0) (congrFun (My.pf_49 x0) x1) (@W.piece_app @treeTable (k1).1 x0 11 v_ @h_env_41 (P_ 0 0 0 0) 1730 (@Nat.add 1811 (@Nat.add 762 2)) (@W.SharedT.abs (k27 x0 x1)) (@W.SharedT.abs (k24 x0 x1)) (k0 x0 x1) @h_sts_49 (@HAppend.hAppend (@List @Stmt) (@List @Stmt) (@List @Stmt) (@instHAppendOfAppend (@List @Stmt) (@List.instAppend @Stmt)) @h_sts_245 (@HAppend.hAppend (@List @Stmt) (@List @Stmt) (@List @Stmt) (@instHAppendOfAppend (@List @Stmt) (@List.instAppend @Stmt)) @h_sts_481 [])) k12 (P_ 0 0 0 0) (P_ 55 0 64 24) (My.sg_ (congrFun (My.pf_245 x0) x1)) (@W.piece_app @treeTable (k1).1 x0 11 v_ @h_env_41 (P_ 0 0 0 0) 1811 (@Nat.add 762 2) (@W.SharedT.abs (k24 x0 x1)) (@W.SharedT.abs (k25 x0 x1)) (k0 x0 x1) @h_sts_245 (@HAppend.hAppend (@List @Stmt) (@List @Stmt) (@List @Stmt) (@instHAppendOfAppend (@List @Stmt) (@List.instAppend @Stmt)) @h_sts_481 []) k12 (P_ 55 0 64 24) (P_ 120 0 142 30) (My.sg_ (congrFun (My.pf_481 x0) x1)) (@W.piece_app @treeTable (k1).1 x0 11 v_ @h_env_41 (P_ 0 0 0 0) 762 2 (@W.SharedT.abs (k25 x0 x1)) (@W.SharedT.abs (k33 x0 x1)) (k0 x0 x1) @h_sts_481 [] k12 (P_ 120 0 142 30) (P_ 328 0 340 15) (My.sg_ (congrFun (My.pf_638 x0) x1)) (congrFun (My.pf_640 x0) x1))))))))
theorem pf_643 : ((x0 : World) → (@Eq (@Prod @Bool (@Prod @Nat (@Option @Value))) ((@Bool.and (@Heap.isNs (@W.boot_heap x0.params) @mainGlobals) (@BEq.beq @Nat (@instBEqOfDecidableEq @Nat @instDecidableEqNat) (@Array.size @GenState g_) 0)), ((@Array.size @Obj (@Heap.objs (@W.boot_heap x0.params))), (@Heap.nsMap (@W.boot_heap x0.params) @mainGlobals (.ofString "__annotations__")))) (@Bool.true, (11, v_)))) := by intros; kernel_rfl
theorem pf_43 : ((x0 : @Shared) → (@Eq (@Option @Shared) (@fenceModules? (k1).1 x0) (@some @Shared x0))) := by intros; kernel_rfl
theorem pf_42 : (@Eq @Program (@W.opening (k1).1) (@W.plainProg (@Scope.names (@Module.scope (@Program.main (k1).1))))) := by intros; kernel_rfl
theorem left : (@W.LeftO (k1).1 @h_view_39 [(.ofString "has_figures_alone_writings"), (.ofString "has_figures_alone_texts")] (fun (x0 : @Shared) => (@Bool.and (@W.xlAt @h_view_39 k21 x0) (@W.recOk (@W.RowW.records k1) x0))) (@W.Hook.α kh0) (@W.Hook.obs kh0) (@W.Hook.val kh0) 8706 @Bool.true) := (@W.LeftO.of_pieces (k1).1 @h_view_39 [(.ofString "has_figures_alone_writings"), (.ofString "has_figures_alone_texts")] (fun (x0 : @Shared) => (@Bool.and (@W.xlAt @h_view_39 k21 x0) (@W.recOk (@W.RowW.records k1) x0))) (@W.Hook.α kh0) (@W.Hook.obs kh0) (@W.Hook.val kh0) 8706 @Bool.true @W.boot_heap @h_heap_638 g_ g_ @W.boot_drawn d_ @W.boot_toks 908 11 v_ k26 (@W.boot_open (k1).1 8706 @My.pf_42 (@of_decide_eq_true (@Eq @Bool (@Nat.ble 600 8706) @Bool.true) (@instDecidableEqBool (@Nat.ble 600 8706) @Bool.true) (@id (@Eq @Bool (@Decidable.decide (@Eq @Bool (@Nat.ble 600 8706) @Bool.true) (@instDecidableEqBool (@Nat.ble 600 8706) @Bool.true)) @Bool.true) (@Eq.refl @Bool @Bool.true))) @My.pf_43) @My.pf_643 @My.pf_641 (@of_decide_eq_true (@Eq @Bool (@Nat.ble k26 8706) @Bool.true) (@instDecidableEqBool (@Nat.ble k26 8706) @Bool.true) (@id (@Eq @Bool (@Decidable.decide (@Eq @Bool (@Nat.ble k26 8706) @Bool.true) (@instDecidableEqBool (@Nat.ble k26 8706) @Bool.true)) @Bool.true) (@Eq.refl @Bool @Bool.true))) (fun x0 => (@funext @OsState (fun x1 => (@Prod @Bool (@Prod (@Prod @PyProof.Rows.Seen k14) (@W.Hook.α kh0)))) (fun x1 => ((k10 x0 x1), ((@W.openSeen @h_view_39 [(.ofString "has_figures_alone_writings"), (.ofString "has_figures_alone_texts")] k16 (fun (x2 : @Shared) => (@Bool.and (@W.xlAt @h_view_39 k21 x2) (@W.recOk (@W.RowW.records k1) x2))) @Bool.true (k0 x0 x1)), (@W.Hook.obs kh0 (k0 x0 x1))))) (fun x1 => (@Bool.true, (k19, (@W.Hook.val kh0 x0)))) (fun x1 => (@My.pf_675 x0 x1)))))
end My
end
theorem My.myE : ∀ P, My.myAs = (My.h_heap_39 P).map (·.1) := fun _ => by kernel_rfl
set_option maxRecDepth 100000

set_option maxHeartbeats 4000000
namespace OD
open PySem PySem.Spec PyProof.Rows L2
abbrev St := L2.St
noncomputable def Zx (X : Cx) : Hp := if X.stack.length = X.outer.length ∨ X.fn "" = false then (fun _ => none) else X.H₀
theorem zx_def {CX : CXT} {P : Program} {w : World} {K : PySem.W.Frag} {mg : Str → Option Value} {base : Heap} {N : List Str} {qual : Str} {scope : Scope} {f : Addr} {cd : Value} {A : Around} {outer : List Env} {s : Shared} {H : Hp} {E : XK} : Zx (cxOf CX P w K mg base N qual scope f cd A outer s H E) = H := if_neg (fun z => z.elim (Nat.succ_ne_self _) (fun z => Bool.noConfusion z))
theorem zx_stk {X : Cx} (h : X.stack.length ≠ X.outer.length) (hf : X.fn "" = true := by rfl) : Zx X = X.H₀ := if_neg (fun z => z.elim h (fun z => by rw [hf] at z; cases z))
variable {Z : Hp}

inductive Dt where
  | non | bl (b : Bool) | int (i : Int) | str (x : Str) | tup (ds : List Dt) | lst (ds : List Dt) | scr (ns : List Int) | way (C : Addr) (f : Str) (n : Int) | exc (C : Addr)
def excAt (a C : Addr) : Heap → Prop := fun h => ∃ o, h.get? a = some o ∧ o.cls = .ref C

mutual
/-- the value v stands for the data in the heap H -/
def Is (K : PySem.W.Frag) (H : Hp) : Dt → V → Prop
  | .non, v => v = .non
  | .bl b, v => v = .bl b
  | .int i, v => v = .int i
  | .str x, v => v = .str x
  | .tup ds, v => ∃ a xs, v = .ref a ∧ H a = some (.tup xs) ∧ AllIs K H ds xs
  | .lst ds, v => ∃ a xs, v = .ref a ∧ H a = some (.lst xs) ∧ AllIs K H ds xs
  | .scr ns, v => ∃ a, v = .ref a ∧ SqL K H a (ns.map V.int)
  | .way C f n, v => ∃ a dx, v = .ref a ∧ H a = some (.ins C dx [(f, .int n)])
  | .exc C, v => ∃ a, v = .ref a ∧ H a = some (.ext (excAt a C))
def AllIs (K : PySem.W.Frag) (H : Hp) : List Dt → List V → Prop
  | [], xs => xs = []
  | d :: ds, xs => ∃ x r, xs = x :: r ∧ Is K H d x ∧ AllIs K H ds r
end
variable {K : PySem.W.Frag} {H H' H1 H2 : Hp}
theorem is_non {v : V} : Is K H .non v ↔ v = .non := by unfold Is; exact Iff.rfl
theorem is_bl {b : Bool} {v : V} : Is K H (.bl b) v ↔ v = .bl b := by unfold Is; exact Iff.rfl
theorem is_int {i : Int} {v : V} : Is K H (.int i) v ↔ v = .int i := by unfold Is; exact Iff.rfl
theorem is_str {x : Str} {v : V} : Is K H (.str x) v ↔ v = .str x := by unfold Is; exact Iff.rfl
theorem is_tup {ds : List Dt} {v : V} : Is K H (.tup ds) v ↔ ∃ a xs, v = .ref a ∧ H a = some (.tup xs) ∧ AllIs K H ds xs := by
  constructor
  · intro h; unfold Is at h; exact h
  · intro h; unfold Is; exact h
theorem is_lst {ds : List Dt} {v : V} : Is K H (.lst ds) v ↔ ∃ a xs, v = .ref a ∧ H a = some (.lst xs) ∧ AllIs K H ds xs := by
  constructor
  · intro h; unfold Is at h; exact h
  · intro h; unfold Is; exact h
theorem is_scr {ns : List Int} {v : V} : Is K H (.scr ns) v ↔ ∃ a, v = .ref a ∧ SqL K H a (ns.map V.int) := by
  constructor
  · intro h; unfold Is at h; exact h
  · intro h; unfold Is; exact h
theorem is_way {C : Addr} {f : Str} {n : Int} {v : V} : Is K H (.way C f n) v ↔ ∃ a dx, v = .ref a ∧ H a = some (.ins C dx [(f, .int n)]) := by
  constructor
  · intro h; unfold Is at h; exact h
  · intro h; unfold Is; exact h
theorem is_exc {C : Addr} {v : V} : Is K H (.exc C) v ↔ ∃ a, v = .ref a ∧ H a = some (.ext (excAt a C)) := by
  constructor
  · intro h; unfold Is at h; exact h
  · intro h; unfold Is; exact h
theorem allIs_nil {xs : List V} : AllIs K H [] xs ↔ xs = [] := by unfold AllIs; exact Iff.rfl
theorem allIs_cons {d : Dt} {ds : List Dt} {xs : List V} : AllIs K H (d :: ds) xs ↔ ∃ x r, xs = x :: r ∧ Is K H d x ∧ AllIs K H ds r := by
  constructor
  · intro h; unfold AllIs at h; exact h
  · intro h; unfold AllIs; exact h
mutual
theorem Is.mono0 (s : Same H H') : ∀ {d : Dt} {v : V}, Is K H d v → Is K H' d v
  | .non, _, h => is_non.mpr (is_non.mp h)
  | .bl _, _, h => is_bl.mpr (is_bl.mp h)
  | .int _, _, h => is_int.mpr (is_int.mp h)
  | .str _, _, h => is_str.mpr (is_str.mp h)
  | .tup ds, _, h => by
    obtain ⟨a, xs, e, h1, h2⟩ := is_tup.mp h
    exact is_tup.mpr ⟨a, xs, e, s _ _ h1, AllIs.mono0 s h2⟩
  | .lst ds, _, h => by
    obtain ⟨a, xs, e, h1, h2⟩ := is_lst.mp h
    exact is_lst.mpr ⟨a, xs, e, s _ _ h1, AllIs.mono0 s h2⟩
  | .scr ns, _, h => by
    obtain ⟨a, e, h1⟩ := is_scr.mp h
    exact is_scr.mpr ⟨a, e, s.seq h1⟩
  | .way C f n, _, h => by
    obtain ⟨a, dx, e, h1⟩ := is_way.mp h
    exact is_way.mpr ⟨a, dx, e, s _ _ h1⟩
  | .exc C, _, h => by
    obtain ⟨a, e, h1⟩ := is_exc.mp h
    exact is_exc.mpr ⟨a, e, s _ _ h1⟩
theorem AllIs.mono0 (s : Same H H') : ∀ {ds : List Dt} {xs : List V}, AllIs K H ds xs → AllIs K H' ds xs
  | [], _, h => allIs_nil.mpr (allIs_nil.mp h)
  | d :: ds, _, h => by
    obtain ⟨x, r, e, h1, h2⟩ := allIs_cons.mp h
    exact allIs_cons.mpr ⟨x, r, e, Is.mono0 s h1, AllIs.mono0 s h2⟩
end
theorem AllIs.length : ∀ {ds : List Dt} {xs : List V}, AllIs K H ds xs → ds.length = xs.length
  | [], _, h => by rw [allIs_nil.mp h]; rfl
  | d :: ds, _, h => by
    obtain ⟨x, r, rfl, _, h2⟩ := allIs_cons.mp h
    rw [List.length_cons, List.length_cons, AllIs.length h2]
theorem AllIs.get : ∀ {ds : List Dt} {xs : List V} {i : Nat} {d : Dt}, AllIs K H ds xs → ds[i]? = some d → ∃ v, xs[i]? = some v ∧ Is K H d v
  | [], _, _, _, _, e => by simp at e
  | d :: ds, _, 0, d', h, e => by
    obtain ⟨x, r, rfl, h1, h2⟩ := allIs_cons.mp h
    simp at e; subst e
    exact ⟨x, rfl, h1⟩
  | d :: ds, _, i + 1, d', h, e => by
    obtain ⟨x, r, rfl, h1, h2⟩ := allIs_cons.mp h
    obtain ⟨v, e1, e2⟩ := AllIs.get (i := i) h2 (by simpa using e)
    exact ⟨v, by simpa using e1, e2⟩
theorem AllIs.get' : ∀ {ds : List Dt} {xs : List V} {i : Nat} {v : V}, AllIs K H ds xs → xs[i]? = some v → ∃ d, ds[i]? = some d ∧ Is K H d v
  | [], _, _, _, h, e => by rw [allIs_nil.mp h] at e; simp at e
  | d :: ds, _, 0, v, h, e => by
    obtain ⟨x, r, rfl, h1, h2⟩ := allIs_cons.mp h
    simp at e; subst e
    exact ⟨d, rfl, h1⟩
  | d :: ds, _, i + 1, v, h, e => by
    obtain ⟨x, r, rfl, h1, h2⟩ := allIs_cons.mp h
    obtain ⟨v, e1, e2⟩ := AllIs.get' (i := i) h2 (by simpa using e)
    exact ⟨v, by simpa using e1, e2⟩
theorem AllIs.append : ∀ {ds es : List Dt} {xs ys : List V}, AllIs K H ds xs → AllIs K H es ys → AllIs K H (ds ++ es) (xs ++ ys)
  | [], _, _, _, h, h' => by rw [allIs_nil.mp h]; exact h'
  | d :: ds, _, _, _, h, h' => by
    obtain ⟨x, r, rfl, h1, h2⟩ := allIs_cons.mp h
    exact allIs_cons.mpr ⟨x, _, rfl, h1, AllIs.append h2 h'⟩
theorem AllIs.drop : ∀ {ds : List Dt} {xs : List V} (n : Nat), AllIs K H ds xs → AllIs K H (ds.drop n) (xs.drop n)
  | _, _, 0, h => h
  | [], _, n + 1, h => by rw [allIs_nil.mp h]; exact allIs_nil.mpr rfl
  | d :: ds, _, n + 1, h => by
    obtain ⟨x, r, rfl, h1, h2⟩ := allIs_cons.mp h
    exact AllIs.drop n h2
theorem AllIs.take : ∀ {ds : List Dt} {xs : List V} (n : Nat), AllIs K H ds xs → AllIs K H (ds.take n) (xs.take n)
  | _, _, 0, _ => allIs_nil.mpr rfl
  | [], _, n + 1, h => by rw [allIs_nil.mp h]; exact allIs_nil.mpr rfl
  | d :: ds, _, n + 1, h => by
    obtain ⟨x, r, rfl, h1, h2⟩ := allIs_cons.mp h
    exact allIs_cons.mpr ⟨x, _, rfl, h1, AllIs.take n h2⟩
theorem AllIs.ints : ∀ {ns : List Int}, AllIs K H (ns.map Dt.int) (ns.map V.int)
  | [] => allIs_nil.mpr rfl
  | n :: ns => allIs_cons.mpr ⟨.int n, _, rfl, is_int.mpr rfl, AllIs.ints⟩
theorem AllIs.atI {ds : List Dt} {xs : List V} {i : Int} {d : Dt} (h : AllIs K H ds xs) (e : L2.atI ds i = some d) : ∃ v, L2.atI xs i = some v ∧ Is K H d v := by
  unfold L2.atI at e ⊢
  rw [← h.length]
  cases q : ixN ds.length i with
  | none => rw [q] at e; cases e
  | some j =>
    rw [q] at e
    exact h.get e
theorem AllIs.one {d : Dt} {xs : List V} (h : AllIs K H [d] xs) : ∃ v, xs = [v] ∧ Is K H d v := by
  obtain ⟨x, r, rfl, h1, h2⟩ := allIs_cons.mp h
  rw [allIs_nil.mp h2]
  exact ⟨x, rfl, h1⟩
theorem AllIs.two {d e : Dt} {xs : List V} (h : AllIs K H [d, e] xs) : ∃ v u, xs = [v, u] ∧ Is K H d v ∧ Is K H e u := by
  obtain ⟨x, r, rfl, h1, h2⟩ := allIs_cons.mp h
  obtain ⟨u, rfl, h3⟩ := h2.one
  exact ⟨x, u, rfl, h1, h3⟩

theorem same_new {p : Addr} (h : H p = none) (o : HO) : Same H (upd H p o) := fun b u q => by rw [upd_ne (ne_of_none q h)]; exact q

structure Vw where
  g : Hp
  h : Hp
  sub : Same g h
structure Le (W W' : Vw) : Prop where
  g : Same W.g W'.g
  h : Same W.h W'.h
  n : ∀ a, W.h a ≠ none → W.g a = none → W'.g a = none
theorem Le.refl (W : Vw) : Le W W := ⟨Same.refl _, Same.refl _, fun _ _ h => h⟩
theorem Le.trans {W W1 W2 : Vw} (a : Le W W1) (b : Le W1 W2) : Le W W2 :=
  ⟨a.g.trans b.g, a.h.trans b.h, fun c h1 h2 => b.n c (fun z => h1 (a.h.free z)) (a.n c h1 h2)⟩
theorem Is.mono {W W' : Vw} {d : Dt} {v : V} (h : Is K W.g d v) (s : Le W W') : Is K W'.g d v := Is.mono0 s.g h
theorem AllIs.mono {W W' : Vw} {d : List Dt} {v : List V} (h : AllIs K W.g d v) (s : Le W W') : AllIs K W'.g d v := AllIs.mono0 s.g h
def Vw.new (W : Vw) (p : Addr) (o : HO) : Vw := ⟨upd W.g p o, upd W.h p o, fun b u q => by
  by_cases e : b = p
  · subst e; rw [upd_same] at q ⊢; exact q
  · rw [upd_ne e] at q ⊢; exact W.sub _ _ q⟩
theorem le_new {W : Vw} {p : Addr} (hp : W.h p = none) (o : HO) : Le W (W.new p o) :=
  ⟨same_new (W.sub.free hp) o, same_new hp o, fun a h1 h2 => by
    have : a ≠ p := fun e => h1 (e ▸ hp)
    show upd W.g p o a = none
    rw [upd_ne this]; exact h2⟩
def Vw.mine (W : Vw) (p : Addr) (o : HO) (hp : W.g p = none) : Vw := ⟨W.g, upd W.h p o, fun b u q => by
  have : b ≠ p := fun e => by rw [e, hp] at q; cases q
  rw [upd_ne this]; exact W.sub _ _ q⟩
theorem le_mine {W : Vw} {p : Addr} (hp : W.h p = none) (o : HO) : Le W (W.mine p o (W.sub.free hp)) :=
  ⟨Same.refl _, same_new hp o, fun _ _ h => h⟩
def Vw.frz (W : Vw) (p : Addr) (o : HO) (hp : W.h p = some o) : Vw := ⟨upd W.g p o, W.h, fun b u q => by
  by_cases e : b = p
  · subst e; rw [upd_same] at q; rw [hp]; exact q
  · rw [upd_ne e] at q; exact W.sub _ _ q⟩

inductive Sl where | none | some (d : Dt) | own (ds : List Dt) | arg (a : Addr) (ds : List Dt)
abbrev DS := List Sl
structure Rl (K : PySem.W.Frag) (Z F : Hp) (W : Vw) (ρ : DS) (σ : St) : Prop where
  len : ρ.length = σ.length
  at_ : ∀ (i : Nat) (d : Dt), ρ[i]? = some (.some d) → ∃ v, σ[i]? = some (some v) ∧ Is K W.g d v
  ow : ∀ (i : Nat) (ds : List Dt), ρ[i]? = some (.own ds) → ∃ a xs, σ[i]? = some (some (.ref a)) ∧ W.h a = some (.lst xs) ∧ W.g a = none ∧ F a = none ∧ AllIs K W.g ds xs
  ne : ∀ (i j : Nat) (ds es : List Dt), i ≠ j → ρ[i]? = some (.own ds) → ρ[j]? = some (.own es) → σ[i]? ≠ σ[j]?
  fr : Same F W.h
  z : Same Z F
  ar : ∀ (i : Nat) (a : Addr) (ds : List Dt), ρ[i]? = some (.arg a ds) → (∃ xs, σ[i]? = some (some (.ref a)) ∧ W.h a = some (.lst xs) ∧ W.g a = none ∧ F a = none ∧ AllIs K W.g ds xs) ∧ (∀ (j : Nat) (es : List Dt), ρ[j]? = some (.own es) → σ[j]? ≠ some (some (.ref a))) ∧ ∀ (j : Nat) (b : Addr) (es : List Dt), ρ[j]? = some (.arg b es) → j = i
variable {F : Hp} {W W' : Vw}
theorem Rl.mono {ρ : DS} {σ : St} (r : Rl K Z F W ρ σ) (s : Le W W') : Rl K Z F W' ρ σ :=
  ⟨r.len, fun i d e => let ⟨v, h1, h2⟩ := r.at_ i d e; ⟨v, h1, h2.mono s⟩,
   fun i ds e => let ⟨a, xs, h1, h2, h3, h4, h5⟩ := r.ow i ds e; ⟨a, xs, h1, s.h _ _ h2, s.n a (by rw [h2]; intro z; cases z) h3, h4, h5.mono s⟩, r.ne, r.fr.trans s.h, r.z,
   fun i a ds e => let ⟨⟨xs, h1, h2, h3, h4, h5⟩, k1, k2⟩ := r.ar i a ds e; ⟨⟨xs, h1, s.h _ _ h2, s.n a (by rw [h2]; intro z; cases z) h3, h4, h5.mono s⟩, k1, k2⟩⟩
theorem set_get {α : Type} {l : List α} {i j : Nat} {x y : α} (q : (l.set i x)[j]? = some y) : (i = j ∧ i < l.length ∧ x = y) ∨ (i ≠ j ∧ l[j]? = some y) := by
  by_cases hij : i = j
  · subst hij
    by_cases hl : i < l.length
    · rw [List.getElem?_set_self hl] at q
      exact .inl ⟨rfl, hl, Option.some.inj q⟩
    · rw [List.getElem?_eq_none (by rw [List.length_set]; omega)] at q
      cases q
  · rw [List.getElem?_set_ne hij] at q
    exact .inr ⟨hij, q⟩
theorem Rl.set {ρ : DS} {σ : St} (r : Rl K Z F W ρ σ) {d : Dt} {v : V} (i : Nat) (h : Is K W.g d v) : Rl K Z F W (ρ.set i (.some d)) (σ.set i (some v)) := by
  refine ⟨by rw [List.length_set, List.length_set]; exact r.len, fun j e q => ?_, fun j ds q => ?_, fun j k ds es hjk q1 q2 => ?_, r.fr, r.z, fun j a ds q => ?_⟩
  · rcases set_get q with ⟨rfl, hl, e1⟩ | ⟨hij, q⟩
    · cases e1
      exact ⟨v, by rw [List.getElem?_set_self (by rw [← r.len]; exact hl)], h⟩
    · rw [List.getElem?_set_ne hij]
      exact r.at_ j e q
  · rcases set_get q with ⟨_, _, e1⟩ | ⟨hij, q⟩
    · cases e1
    · rw [List.getElem?_set_ne hij]
      exact r.ow j ds q
  · rcases set_get q1 with ⟨_, _, e1⟩ | ⟨hij, q1⟩
    · cases e1
    rcases set_get q2 with ⟨_, _, e1⟩ | ⟨hik, q2⟩
    · cases e1
    rw [List.getElem?_set_ne hij, List.getElem?_set_ne hik]
    exact r.ne j k ds es hjk q1 q2
  · rcases set_get q with ⟨_, _, e1⟩ | ⟨hij, q⟩
    · cases e1
    obtain ⟨⟨xs, h1, h2⟩, k1, k2⟩ := r.ar j a ds q
    refine ⟨⟨xs, by rw [List.getElem?_set_ne hij]; exact h1, h2⟩, fun k es q' => ?_, fun k c es q' => ?_⟩
    · rcases set_get q' with ⟨_, _, e1⟩ | ⟨hik, q'⟩
      · cases e1
      rw [List.getElem?_set_ne hik]
      exact k1 k es q'
    · rcases set_get q' with ⟨_, _, e1⟩ | ⟨hik, q'⟩
      · cases e1
      exact k2 k c es q'
theorem Rl.own {ρ : DS} {σ : St} (r : Rl K Z F W ρ σ) (s : Le W W') {p : Addr} {xs : List V} {ds : List Dt} (i : Nat) (h0 : W.h p = none) (h1 : W'.h p = some (.lst xs)) (h2 : W'.g p = none) (h3 : AllIs K W'.g ds xs) :
    Rl K Z F W' (ρ.set i (.own ds)) (σ.set i (some (.ref p))) := by
  have r' := r.mono s
  have nep : ∀ (j : Nat) (es : List Dt), ρ[j]? = some (Sl.own es) → σ[j]? ≠ some (some (V.ref p)) := fun j es q z => by
    obtain ⟨a, ys, e1, e2, _⟩ := r.ow j es q
    rw [z] at e1
    cases e1
    rw [h0] at e2
    cases e2
  refine ⟨by rw [List.length_set, List.length_set]; exact r.len, fun j e q => ?_, fun j es q => ?_, fun j k es es' hjk q1 q2 => ?_, r'.fr, r.z, fun j a fs q => ?_⟩
  · rcases set_get q with ⟨_, _, e1⟩ | ⟨hij, q⟩
    · cases e1
    · rw [List.getElem?_set_ne hij]
      exact r'.at_ j e q
  · rcases set_get q with ⟨rfl, hl, e1⟩ | ⟨hij, q⟩
    · cases e1
      exact ⟨p, xs, by rw [List.getElem?_set_self (by rw [← r.len]; exact hl)], h1, h2, r.fr.free h0, h3⟩
    · rw [List.getElem?_set_ne hij]
      exact r'.ow j es q
  · rcases set_get q1 with ⟨rfl, hl, e1⟩ | ⟨hij, q1⟩
    · rcases set_get q2 with ⟨rfl, _, _⟩ | ⟨hik, q2⟩
      · exact absurd rfl hjk
      · rw [List.getElem?_set_self (by rw [← r.len]; exact hl), List.getElem?_set_ne hik]
        exact fun z => nep k es' q2 z.symm
    · rcases set_get q2 with ⟨rfl, hl, _⟩ | ⟨hik, q2⟩
      · rw [List.getElem?_set_self (by rw [← r.len]; exact hl), List.getElem?_set_ne hij]
        exact nep j es q1
      · rw [List.getElem?_set_ne hij, List.getElem?_set_ne hik]
        exact r.ne j k es es' hjk q1 q2
  · rcases set_get q with ⟨_, _, e1⟩ | ⟨hij, q⟩
    · cases e1
    obtain ⟨⟨ys, g1, g2⟩, k1, k2⟩ := r'.ar j a fs q
    obtain ⟨⟨_, _, g3, _⟩, _, _⟩ := r.ar j a fs q
    refine ⟨⟨ys, by rw [List.getElem?_set_ne hij]; exact g1, g2⟩, fun k es q' => ?_, fun k c es q' => ?_⟩
    · rcases set_get q' with ⟨rfl, hl, e1⟩ | ⟨hik, q'⟩
      · rw [List.getElem?_set_self (by rw [← r.len]; exact hl)]
        intro z
        cases z
        rw [h0] at g3
        cases g3
      · rw [List.getElem?_set_ne hik]
        exact k1 k es q'
    · rcases set_get q' with ⟨_, _, e1⟩ | ⟨hik, q'⟩
      · cases e1
      exact k2 k c es q'
theorem Rl.put {ρ : DS} {σ : St} (r : Rl K Z F W ρ σ) {i : Nat} {ds es : List Dt} {a : Addr} {ys : List V} (hi : ρ[i]? = some (.own ds)) (ha : σ[i]? = some (some (.ref a))) (hg : W.g a = none) (hF : F a = none) (h3 : AllIs K W.g es ys) :
    Rl K Z F (W.mine a (.lst ys) hg) (ρ.set i (.own es)) σ := by
  have hl : i < ρ.length := by
    rcases Nat.lt_or_ge i ρ.length with h | h
    · exact h
    · rw [List.getElem?_eq_none h] at hi; cases hi
  have other : ∀ j fs, j ≠ i → ρ[j]? = some (.own fs) → σ[j]? ≠ some (some (.ref a)) := fun j fs hj q z => r.ne j i fs ds hj q hi (z.trans ha.symm)
  refine ⟨by rw [List.length_set]; exact r.len, fun j e q => ?_, fun j fs q => ?_, fun j k fs fs' hjk q1 q2 => ?_, fun p o q => ?_, r.z, fun j c fs q => ?_⟩
  · rcases set_get q with ⟨_, _, e1⟩ | ⟨hij, q⟩
    · cases e1
    · exact r.at_ j e q
  · rcases set_get q with ⟨rfl, _, e1⟩ | ⟨hij, q⟩
    · cases e1
      exact ⟨a, ys, ha, upd_same, hg, hF, h3⟩
    · obtain ⟨b, xs, e1, e2, e3, e4, e5⟩ := r.ow j fs q
      have hb : b ≠ a := fun z => other j fs (fun z => hij z.symm) q (z ▸ e1)
      exact ⟨b, xs, e1, (upd_ne hb).trans e2, e3, e4, e5⟩
  · have k1 : ∃ gs, ρ[j]? = some (.own gs) := by
      rcases set_get q1 with ⟨rfl, _, _⟩ | ⟨_, q⟩
      · exact ⟨_, hi⟩
      · exact ⟨_, q⟩
    have k2 : ∃ gs, ρ[k]? = some (.own gs) := by
      rcases set_get q2 with ⟨rfl, _, _⟩ | ⟨_, q⟩
      · exact ⟨_, hi⟩
      · exact ⟨_, q⟩
    obtain ⟨_, k1⟩ := k1
    obtain ⟨_, k2⟩ := k2
    exact r.ne j k _ _ hjk k1 k2
  · have e : p ≠ a := fun e => by rw [e, hF] at q; cases q
    exact (upd_ne (H := W.h) (o := .lst ys) e).trans (r.fr p o q)
  · rcases set_get q with ⟨_, _, e1⟩ | ⟨hij, q⟩
    · cases e1
    obtain ⟨⟨ys', g1, g2, g3, g4, g5⟩, k1, k2⟩ := r.ar j c fs q
    have hc : c ≠ a := fun z => k1 i ds hi (by rw [z]; exact ha)
    refine ⟨⟨ys', g1, (upd_ne hc).trans g2, g3, g4, g5⟩, fun k es' q' => ?_, fun k c' es' q' => ?_⟩
    · rcases set_get q' with ⟨rfl, _, _⟩ | ⟨_, q'⟩
      · exact k1 i ds hi
      · exact k1 k es' q'
    · rcases set_get q' with ⟨_, _, e1⟩ | ⟨hik, q'⟩
      · cases e1
      exact k2 k c' es' q'
theorem Rl.frz {ρ : DS} {σ : St} (r : Rl K Z F W ρ σ) {i : Nat} {ds : List Dt} {a : Addr} {xs : List V} (hi : ρ[i]? = some (.own ds)) (ha : σ[i]? = some (some (.ref a))) (hh : W.h a = some (.lst xs)) (hg : W.g a = none) (h3 : AllIs K W.g ds xs) :
    Rl K Z F (W.frz a _ hh) (ρ.set i (.some (.lst ds))) σ := by
  have sg : Same W.g (upd W.g a (.lst xs)) := same_new hg _
  have other : ∀ j fs, j ≠ i → ρ[j]? = some (.own fs) → σ[j]? ≠ some (some (.ref a)) := fun j fs hj q z => r.ne j i fs ds hj q hi (z.trans ha.symm)
  refine ⟨by rw [List.length_set]; exact r.len, fun j e q => ?_, fun j fs q => ?_, fun j k fs fs' hjk q1 q2 => ?_, r.fr, r.z, fun j c fs q => ?_⟩
  · rcases set_get q with ⟨rfl, _, e1⟩ | ⟨hij, q⟩
    · cases e1
      exact ⟨_, ha, is_lst.mpr ⟨a, xs, rfl, upd_same, AllIs.mono0 sg h3⟩⟩
    · obtain ⟨v, e1, e2⟩ := r.at_ j e q
      exact ⟨v, e1, Is.mono0 sg e2⟩
  · rcases set_get q with ⟨_, _, e1⟩ | ⟨hij, q⟩
    · cases e1
    · obtain ⟨b, ys, e1, e2, e3, e4, e5⟩ := r.ow j fs q
      have hb : b ≠ a := fun z => other j fs (fun z => hij z.symm) q (z ▸ e1)
      exact ⟨b, ys, e1, e2, (upd_ne hb).trans e3, e4, AllIs.mono0 sg e5⟩
  · rcases set_get q1 with ⟨_, _, e1⟩ | ⟨_, q1⟩
    · cases e1
    rcases set_get q2 with ⟨_, _, e1⟩ | ⟨_, q2⟩
    · cases e1
    exact r.ne j k _ _ hjk q1 q2
  · rcases set_get q with ⟨_, _, e1⟩ | ⟨hij, q⟩
    · cases e1
    obtain ⟨⟨ys', g1, g2, g3, g4, g5⟩, k1, k2⟩ := r.ar j c fs q
    have hc : c ≠ a := fun z => k1 i ds hi (by rw [z]; exact ha)
    refine ⟨⟨ys', g1, g2, (upd_ne hc).trans g3, g4, AllIs.mono0 sg g5⟩, fun k es' q' => ?_, fun k c' es' q' => ?_⟩
    · rcases set_get q' with ⟨_, _, e1⟩ | ⟨_, q'⟩
      · cases e1
      · exact k1 k es' q'
    · rcases set_get q' with ⟨_, _, e1⟩ | ⟨hik, q'⟩
      · cases e1
      exact k2 k c' es' q'
def dstart (n : Nat) (ds : List Dt) : DS := ds.map Sl.some ++ List.replicate (n - ds.length) Sl.none
theorem Rl.start {N : List Str} {ds : List Dt} {vs : List V} (h : AllIs K W.g ds vs) (hz : Same Z W.h) : Rl K Z W.h W (dstart N.length ds) (L2.start N vs) := by
  have hl := h.length
  have cls : ∀ (i : Nat) (y : Sl), (dstart N.length ds)[i]? = some y → (∃ d, ds[i]? = some d ∧ y = .some d) ∨ y = .none := fun i y e => by
    unfold dstart at e
    by_cases hi : i < ds.length
    · rw [List.getElem?_append_left (by rw [List.length_map]; exact hi), List.getElem?_map] at e
      cases q : ds[i]? with
      | none => rw [q] at e; cases e
      | some d' =>
        rw [q] at e
        exact .inl ⟨d', rfl, (Option.some.inj e).symm⟩
    · rw [List.getElem?_append_right (by rw [List.length_map]; omega), List.getElem?_replicate] at e
      split at e
      · exact .inr (Option.some.inj e).symm
      · cases e
  refine ⟨by unfold L2.start dstart; rw [List.length_append, List.length_append, List.length_map, List.length_map, List.length_replicate, List.length_replicate, hl], fun i d e => ?_, fun i es e => ?_, fun i j es fs _ e _ => ?_, Same.refl _, hz, fun i a es e => ?_⟩
  · rcases cls i _ e with ⟨d', q, e1⟩ | e1
    · cases e1
      obtain ⟨v, h1, h2⟩ := h.get q
      refine ⟨v, ?_, h2⟩
      have hi : i < ds.length := by
        rcases Nat.lt_or_ge i ds.length with h | h
        · exact h
        · rw [List.getElem?_eq_none h] at q; cases q
      unfold L2.start
      rw [List.getElem?_append_left (by rw [List.length_map, ← hl]; exact hi), List.getElem?_map, h1]
      rfl
    · cases e1
  · rcases cls i _ e with ⟨d', q, e1⟩ | e1
    · cases e1
    · cases e1
  · rcases cls i _ e with ⟨d', q, e1⟩ | e1
    · cases e1
    · cases e1
  · rcases cls i _ e with ⟨d', q, e1⟩ | e1
    · cases e1
    · cases e1

abbrev DTE := DS → (Dt → Prop) → Prop
abbrev DTT := DS → (Bool → Prop) → Prop
abbrev DTA := DS → (List Dt → Prop) → Prop
def LiE (K : PySem.W.Frag) (Z : Hp) (te : TE) (t : DTE) : Prop :=
  ∀ {F : Hp} (ρ : DS) (σ : St) (H : Vw) (Q : Dt → Prop), Rl K Z F H ρ σ → t ρ Q → ∀ R : VK, (∀ d v H', Le H H' → Is K H'.g d v → Q d → R v H'.h) → te σ H.h R
def LiT (K : PySem.W.Frag) (Z : Hp) (te : TT) (t : DTT) : Prop :=
  ∀ {F : Hp} (ρ : DS) (σ : St) (H : Vw) (Q : Bool → Prop), Rl K Z F H ρ σ → t ρ Q → ∀ R : Bool → Hp → Prop, (∀ d H', Le H H' → Q d → R d H'.h) → te σ H.h R
def LiA (K : PySem.W.Frag) (Z : Hp) (te : TA) (t : DTA) : Prop :=
  ∀ {F : Hp} (ρ : DS) (σ : St) (H : Vw) (Q : List Dt → Prop), Rl K Z F H ρ σ → t ρ Q → ∀ R : List V → Hp → Prop, (∀ d v H', Le H H' → AllIs K H'.g d v → Q d → R v H'.h) → te σ H.h R
def DE (X : Cx) (e : Expr) (t : DTE) : Prop := ∃ te, PE X e te ∧ LiE X.K (Zx X) te t
def DT (X : Cx) (e : Expr) (t : DTT) : Prop := ∃ te, PT X e te ∧ LiT X.K (Zx X) te t
def DW (X : Cx) (e : Expr) (t : DTT) : Prop := ∃ te, PW X e te ∧ LiT X.K (Zx X) te t
def DA (X : Cx) (es : List Expr) (t : DTA) : Prop := ∃ te, PA X es te ∧ LiA X.K (Zx X) te t
theorem DW.dt {X : Cx} {e : Expr} {t : DTT} (h : DW X e t) : DT X e t := let ⟨te, h1, h2⟩ := h; ⟨te, h1.pt, h2⟩

def dVar (i : Nat) : DTE := fun ρ Q => ∃ d, ρ[i]? = some (.some d) ∧ Q d
def dC (d : Dt) : DTE := fun _ Q => Q d
section
variable {X : Cx} {a b c : Expr} {ta tb tc : DTE} {pos : Pos}
theorem dv (i : Nat) {x : Str} {pos : Pos} (hN : X.N[i]? = some x := by rfl) (hv : Vis X.env.scope x := by first | exact Or.inl rfl | exact Or.inr (Or.inl rfl) | exact Or.inr (Or.inr rfl)) (hd : (x == ("__debug__" : Str)) = false := by decide)
    (hcd : (x == ("__classdict__" : Str)) = false := by decide) : DE X (.Name x pos) (dVar i) :=
  ⟨tVar i, pe_var hN hv hd hcd, fun ρ σ H Q r h R k => by
    obtain ⟨d, e, q⟩ := h
    obtain ⟨v, h1, h2⟩ := r.at_ i d e
    exact ⟨v, h1, k d v H (Le.refl H) h2 q⟩⟩
theorem lic {v : V} {d : Dt} (h : ∀ H : Vw, Is K H.g d v) : LiE K Z (tC v) (dC d) := fun ρ σ H Q r q R k => k d v H (Le.refl H) (h H) q
theorem de_int {i j pos} : DE X (.Constant (.int i) j pos) (dC (.int i)) := ⟨_, pe_int, lic fun _ => is_int.mpr rfl⟩
theorem de_bl {b j pos} : DE X (.Constant (.bool b) j pos) (dC (.bl b)) := ⟨_, pe_bl, lic fun _ => is_bl.mpr rfl⟩
theorem de_non {j pos} : DE X (.Constant .none j pos) (dC .non) := ⟨_, pe_non, lic fun _ => is_non.mpr rfl⟩
theorem de_str {x j pos} : DE X (.Constant (.str x) j pos) (dC (.str x)) := ⟨_, pe_str, lic fun _ => is_str.mpr rfl⟩

def DOp (X : Cx) (f : Value → Value → Sem Value) (g : Dt → Dt → (Dt → Prop) → Prop) : Prop :=
  ∃ r, OpR X f r ∧ ∀ (H : Vw) (x y : V) (d e : Dt) (Q : Dt → Prop), Is X.K H.g d x → Is X.K H.g e y → g d e Q → ∀ R : VK, (∀ d v H', Le H H' → Is X.K H'.g d v → Q d → R v H'.h) → r x y H.h R
def dOp (g : Dt → Dt → (Dt → Prop) → Prop) (ta tb : DTE) : DTE := fun ρ Q => ta ρ fun d => tb ρ fun e => g d e Q
theorem liOp {te tf : TE} {r : R2} {g : Dt → Dt → (Dt → Prop) → Prop} (ha : LiE K Z te ta) (hb : LiE K Z tf tb)
    (hg : ∀ (H : Vw) (x y : V) (d e : Dt) (Q : Dt → Prop), Is K H.g d x → Is K H.g e y → g d e Q → ∀ R : VK, (∀ d v H', Le H H' → Is K H'.g d v → Q d → R v H'.h) → r x y H.h R) : LiE K Z (tOp r te tf) (dOp g ta tb) :=
  fun ρ σ H Q rl h R k => ha ρ σ H _ rl h _ fun d v H1 s1 i1 q1 => hb ρ σ H1 _ (rl.mono s1) q1 _ fun e u H2 s2 i2 q2 =>
    hg H2 v u d e Q (i1.mono s2) i2 q2 R fun d' v' H3 s3 i3 q3 => k d' v' H3 ((s1.trans s2).trans s3) i3 q3
theorem de_op {op : Operator} {g : Dt → Dt → (Dt → Prop) → Prop} (ho : DOp X (binaryOp op) g) (ha : DE X a ta) (hb : DE X b tb) : DE X (.BinOp a op b pos) (dOp g ta tb) := by
  obtain ⟨r, h1, h2⟩ := ho
  obtain ⟨te, p1, l1⟩ := ha
  obtain ⟨tf, p2, l2⟩ := hb
  exact ⟨_, pe_op h1 p1 p2, liOp l1 l2 h2⟩
theorem de_cmp {op : CmpOp} {g : Dt → Dt → (Dt → Prop) → Prop} (ho : DOp X (compareOp op) g) (ha : DE X a ta) (hb : DE X b tb) (hm : behindInMarks op b = false) : DE X (.Compare a [op] [b] pos) (dOp g ta tb) := by
  obtain ⟨r, h1, h2⟩ := ho
  obtain ⟨te, p1, l1⟩ := ha
  obtain ⟨tf, p2, l2⟩ := hb
  exact ⟨_, pe_cmpR h1 p1 p2 hm, liOp l1 l2 h2⟩
def dTest (t : DTE) : DTT := fun ρ Q => t ρ fun d => ∃ k, d = .bl k ∧ Q k
theorem liTest {te : TE} {t : DTE} (h : LiE K Z te t) : LiT K Z (tTest te) (dTest t) := fun ρ σ H Q r q R k =>
  h ρ σ H _ r q _ fun d v H1 s1 i1 ⟨b, e, qb⟩ => by
    subst e
    exact ⟨b, is_bl.mp i1, k b H1 s1 qb⟩
theorem dt_cmp {op : CmpOp} {g : Dt → Dt → (Dt → Prop) → Prop} (ho : DOp X (compareOp op) g) (ha : DE X a ta) (hb : DE X b tb) (hm : behindInMarks op b = false) : DT X (.Compare a [op] [b] pos) (dTest (dOp g ta tb)) := by
  obtain ⟨r, h1, h2⟩ := ho
  obtain ⟨te, p1, l1⟩ := ha
  obtain ⟨tf, p2, l2⟩ := hb
  exact ⟨_, pt_cmpR h1 p1 p2 hm, liTest (liOp l1 l2 h2)⟩
theorem dt_val {e : Expr} {t : DTE} (h : DE X e t) (he : ∀ whole, isTrue e X.env whole = (do let v ← whole; standAt e.pos; holding [v] (truthy v)) := by intro _; rfl) : DT X e (dTest t) := by
  obtain ⟨te, p, l⟩ := h
  exact ⟨_, pt_val p he, liTest l⟩
def dChain (g g' : Dt → Dt → (Dt → Prop) → Prop) (ta tb tc : DTE) : DTE := fun ρ Q => ta ρ fun d => tb ρ fun e => g d e fun z => ∃ k, z = .bl k ∧ (if k = true then tc ρ fun w => g' e w Q else Q (.bl false))
theorem liChain {te tf tg : TE} {r r' : R2} {g g' : Dt → Dt → (Dt → Prop) → Prop} (ha : LiE K Z te ta) (hb : LiE K Z tf tb) (hc : LiE K Z tg tc)
    (hg : ∀ (H : Vw) (x y : V) (d e : Dt) (Q : Dt → Prop), Is K H.g d x → Is K H.g e y → g d e Q → ∀ R : VK, (∀ d v H', Le H H' → Is K H'.g d v → Q d → R v H'.h) → r x y H.h R)
    (hg' : ∀ (H : Vw) (x y : V) (d e : Dt) (Q : Dt → Prop), Is K H.g d x → Is K H.g e y → g' d e Q → ∀ R : VK, (∀ d v H', Le H H' → Is K H'.g d v → Q d → R v H'.h) → r' x y H.h R) : LiE K Z (tChain r r' te tf tg) (dChain g g' ta tb tc) :=
  fun ρ σ H Q rl h R k => ha ρ σ H _ rl h _ fun d v H1 s1 i1 q1 => hb ρ σ H1 _ (rl.mono s1) q1 _ fun e u H2 s2 i2 q2 =>
    hg H2 v u d e _ (i1.mono s2) i2 q2 _ fun d' v' H3 s3 i3 ⟨z, ez, q3⟩ => by
      subst ez
      refine ⟨z, is_bl.mp i3, ?_⟩
      cases z with
      | false => exact k _ _ H3 ((s1.trans s2).trans s3) (is_bl.mpr rfl) q3
      | true => exact hc ρ σ H3 _ (rl.mono ((s1.trans s2).trans s3)) q3 _ fun w x H4 s4 i4 q4 => hg' H4 u x e w Q (i2.mono (s3.trans s4)) i4 q4 R fun d5 v5 H5 s5 i5 q5 => k d5 v5 H5 (((s1.trans s2).trans (s3.trans s4)).trans s5) i5 q5
theorem dt_chain {op op' : CmpOp} {g g' : Dt → Dt → (Dt → Prop) → Prop} (ho : DOp X (compareOp op) g) (ho' : DOp X (compareOp op') g') (ha : DE X a ta) (hb : DE X b tb) (hc : DE X c tc)
    (hm : lastMarks [op, op'] [b, c] = false := by with_unfolding_all rfl) : DT X (.Compare a [op, op'] [b, c] pos) (dTest (dChain g g' ta tb tc)) := by
  obtain ⟨r, h1, h2⟩ := ho
  obtain ⟨r', h3, h4⟩ := ho'
  obtain ⟨te, p1, l1⟩ := ha
  obtain ⟨tf, p2, l2⟩ := hb
  obtain ⟨tg, p3, l3⟩ := hc
  exact ⟨_, pt_chain h1 h3 p1 p2 p3 hm, liTest (liChain l1 l2 l3 h2 h4)⟩

variable {tA tB : DTT} {rest : List Expr}
def dAnd (t u : DTT) : DTT := fun ρ Q => t ρ fun c => if c = true then u ρ Q else Q false
def dOr (t u : DTT) : DTT := fun ρ Q => t ρ fun c => if c = true then Q true else u ρ Q
def dNot (t : DTT) : DTT := fun ρ Q => t ρ fun c => Q (!c)
theorem dw_and1 (ha : DT X a tA) : DW X (.BoolOp .And [a] pos) tA := let ⟨_, p, l⟩ := ha; ⟨_, pw_and1 p, l⟩
theorem dw_or1 (ha : DT X a tA) : DW X (.BoolOp .Or [a] pos) tA := let ⟨_, p, l⟩ := ha; ⟨_, pw_or1 p, l⟩
theorem dw_and (ha : DT X a tA) (hb : DW X (.BoolOp .And (b :: rest) pos) tB) : DW X (.BoolOp .And (a :: b :: rest) pos) (dAnd tA tB) := by
  obtain ⟨te, p1, l1⟩ := ha
  obtain ⟨tf, p2, l2⟩ := hb
  refine ⟨_, pw_and p1 p2, fun ρ σ H Q r h R k => l1 ρ σ H _ r h _ fun c H1 s1 q1 => ?_⟩
  cases c with
  | true => exact l2 ρ σ H1 Q (r.mono s1) q1 R fun d H2 s2 q2 => k d H2 (s1.trans s2) q2
  | false => exact k _ H1 s1 q1
theorem dw_or (ha : DT X a tA) (hb : DW X (.BoolOp .Or (b :: rest) pos) tB) : DW X (.BoolOp .Or (a :: b :: rest) pos) (dOr tA tB) := by
  obtain ⟨te, p1, l1⟩ := ha
  obtain ⟨tf, p2, l2⟩ := hb
  refine ⟨_, pw_or p1 p2, fun ρ σ H Q r h R k => l1 ρ σ H _ r h _ fun c H1 s1 q1 => ?_⟩
  cases c with
  | false => exact l2 ρ σ H1 Q (r.mono s1) q1 R fun d H2 s2 q2 => k d H2 (s1.trans s2) q2
  | true => exact k _ H1 s1 q1
theorem dt_not (ha : DT X a tA) : DT X (.UnaryOp .Not a pos) (dNot tA) := by
  obtain ⟨te, p1, l1⟩ := ha
  exact ⟨_, pt_not p1, fun ρ σ H Q r h R k => l1 ρ σ H _ r h _ fun c H1 s1 q1 => k _ H1 s1 q1⟩
def dAndV (ta tb : DTE) : DTE := fun ρ Q => ta ρ fun d => ∃ c, d = .bl c ∧ if c = true then tb ρ Q else Q (.bl false)
def dOrV (ta tb : DTE) : DTE := fun ρ Q => ta ρ fun d => ∃ c, d = .bl c ∧ if c = true then Q (.bl true) else tb ρ Q
def dNotV (ta : DTE) : DTE := fun ρ Q => ta ρ fun d => ∃ c, d = .bl c ∧ Q (.bl (!c))
theorem de_one {op} {t : DTE} (h : DE X a t) : DE X (.BoolOp op [a] pos) t := let ⟨_, p, l⟩ := h; ⟨_, pe_one p, l⟩
theorem de_and (ha : DE X a ta) (hb : DE X (.BoolOp .And (b :: rest) pos) tb) : DE X (.BoolOp .And (a :: b :: rest) pos) (dAndV ta tb) := by
  obtain ⟨te, p1, l1⟩ := ha
  obtain ⟨tf, p2, l2⟩ := hb
  refine ⟨_, pe_and p1 p2, fun ρ σ H Q r h R k => l1 ρ σ H _ r h _ fun d v H1 s1 i1 ⟨c, e, q1⟩ => ?_⟩
  subst e
  refine ⟨c, is_bl.mp i1, ?_⟩
  cases c with
  | true => exact l2 ρ σ H1 Q (r.mono s1) q1 R fun d v H2 s2 i2 q2 => k d v H2 (s1.trans s2) i2 q2
  | false => exact k _ _ H1 s1 (is_bl.mpr rfl) q1
theorem de_or (ha : DE X a ta) (hb : DE X (.BoolOp .Or (b :: rest) pos) tb) : DE X (.BoolOp .Or (a :: b :: rest) pos) (dOrV ta tb) := by
  obtain ⟨te, p1, l1⟩ := ha
  obtain ⟨tf, p2, l2⟩ := hb
  refine ⟨_, pe_or p1 p2, fun ρ σ H Q r h R k => l1 ρ σ H _ r h _ fun d v H1 s1 i1 ⟨c, e, q1⟩ => ?_⟩
  subst e
  refine ⟨c, is_bl.mp i1, ?_⟩
  cases c with
  | false => exact l2 ρ σ H1 Q (r.mono s1) q1 R fun d v H2 s2 i2 q2 => k d v H2 (s1.trans s2) i2 q2
  | true => exact k _ _ H1 s1 (is_bl.mpr rfl) q1
theorem de_not (ha : DE X a ta) : DE X (.UnaryOp .Not a pos) (dNotV ta) := by
  obtain ⟨te, p1, l1⟩ := ha
  refine ⟨_, pe_not p1, fun ρ σ H Q r h R k => l1 ρ σ H _ r h _ fun d v H1 s1 i1 ⟨c, e, q1⟩ => ?_⟩
  subst e
  exact ⟨c, is_bl.mp i1, k _ _ H1 s1 (is_bl.mpr rfl) q1⟩
def dIf (t : DTT) (ta tb : DTE) : DTE := fun ρ Q => t ρ fun c => if c = true then ta ρ Q else tb ρ Q
theorem de_ifExp {c : Expr} (hc : DT X c tA) (ha : DE X a ta) (hb : DE X b tb) : DE X (.IfExp c a b pos) (dIf tA ta tb) := by
  obtain ⟨tt, p0, l0⟩ := hc
  obtain ⟨te, p1, l1⟩ := ha
  obtain ⟨tf, p2, l2⟩ := hb
  refine ⟨_, pe_ifExp p0 p1 p2, fun ρ σ H Q r h R k => l0 ρ σ H _ r h _ fun c H1 s1 q1 => ?_⟩
  cases c with
  | true => exact l1 ρ σ H1 Q (r.mono s1) q1 R fun d v H2 s2 i2 q2 => k d v H2 (s1.trans s2) i2 q2
  | false => exact l2 ρ σ H1 Q (r.mono s1) q1 R fun d v H2 s2 i2 q2 => k d v H2 (s1.trans s2) i2 q2
end

section
variable {X : Cx} {a b c : Expr} {ta tb tc : DTE} {pos : Pos}
def gI (g : Int → Int → Dt) : Dt → Dt → (Dt → Prop) → Prop := fun d e Q => ∃ i j, d = .int i ∧ e = .int j ∧ Q (g i j)
def gIC (C : Int → Int → Prop) (g : Int → Int → Dt) : Dt → Dt → (Dt → Prop) → Prop := fun d e Q => ∃ i j, d = .int i ∧ e = .int j ∧ C i j ∧ Q (g i j)
theorem dop_I0 {f : Value → Value → Sem Value} {g : Int → Int → Int} (h : OpR X f (rI0 fun i j => .int (g i j))) : DOp X f (gI fun i j => .int (g i j)) := by
  refine ⟨_, h, fun H x y d e Q i1 i2 q R k => ?_⟩
  obtain ⟨i, j, rfl, rfl, q⟩ := q
  exact ⟨i, j, is_int.mp i1, is_int.mp i2, k _ _ H (Le.refl H) (is_int.mpr rfl) q⟩
theorem dop_B0 {f : Value → Value → Sem Value} {g : Int → Int → Bool} (h : OpR X f (rI0 fun i j => .bl (g i j))) : DOp X f (gI fun i j => .bl (g i j)) := by
  refine ⟨_, h, fun H x y d e Q i1 i2 q R k => ?_⟩
  obtain ⟨i, j, rfl, rfl, q⟩ := q
  exact ⟨i, j, is_int.mp i1, is_int.mp i2, k _ _ H (Le.refl H) (is_bl.mpr rfl) q⟩
theorem dop_IC {f : Value → Value → Sem Value} {C : Int → Int → Prop} {g : Int → Int → Int} (h : OpR X f (rI C fun i j => .int (g i j))) : DOp X f (gIC C fun i j => .int (g i j)) := by
  refine ⟨_, h, fun H x y d e Q i1 i2 q R k => ?_⟩
  obtain ⟨i, j, rfl, rfl, hc, q⟩ := q
  exact ⟨i, j, is_int.mp i1, is_int.mp i2, hc, k _ _ H (Le.refl H) (is_int.mpr rfl) q⟩
theorem op_mulB : OpR X (binaryOp .Mult) (rI IntMulOk fun i j => .int (i * j)) := opI fun _ _ _ _ _ _ _ hc q => mul_int q hc
theorem o_add : DOp X (binaryOp .Add) (gI fun i j => .int (i + j)) := dop_I0 op_add
theorem o_sub : DOp X (binaryOp .Sub) (gI fun i j => .int (i - j)) := dop_I0 op_sub
theorem o_mul : DOp X (binaryOp .Mult) (gIC IntMulOk fun i j => .int (i * j)) := dop_IC op_mulB
theorem o_fdiv : DOp X (binaryOp .FloorDiv) (gIC CDivN fun i j => .int (i.fdiv j)) := dop_IC op_fdivN
def CModN (_ j : Int) : Prop := j ≠ 0
theorem o_mod : DOp X (binaryOp .Mod) (gIC CModN fun i j => .int (i.fmod j)) := dop_IC (C := CModN) op_modN
theorem cdivN {c n : Int} (h : (n != 0 && decide (n.natAbs < 1073741824)) = true) : CDivN c n := by
  rw [Bool.and_eq_true, bne_iff_ne, decide_eq_true_iff] at h
  exact h
theorem cmodN {c n : Int} (h : (n != 0) = true) : CModN c n := bne_iff_ne.mp h
theorem cpowN {c n : Int} (h : (decide (0 ≤ n) && (decide (n ≤ 1000000) && decide (c.natAbs < 18446744073709551616))) = true) : CPow c n := by
  rw [Bool.and_eq_true, Bool.and_eq_true, decide_eq_true_iff, decide_eq_true_iff, decide_eq_true_iff] at h
  exact h
theorem mulR {c n : Int} (h : decide (n.natAbs < 9223372036854775808) = true) : IntMulOk c n := by
  rw [decide_eq_true_iff] at h
  exact .of_right (intBits_le_64 (by omega) (by omega))
theorem mulL {c n : Int} (h : decide (n.natAbs < 9223372036854775808) = true) : IntMulOk n c := by
  rw [decide_eq_true_iff] at h
  exact .of_left (intBits_le_64 (by omega) (by omega))
theorem o_pow : DOp X (binaryOp .Pow) (gIC CPow fun i j => .int (i ^ j.toNat)) := dop_IC op_pow
theorem o_lt : DOp X (compareOp .Lt) (gI fun i j => .bl (decide (i < j))) := dop_B0 op_lt
theorem o_le : DOp X (compareOp .LtE) (gI fun i j => .bl (decide (i ≤ j))) := dop_B0 op_le
theorem o_gt : DOp X (compareOp .Gt) (gI fun i j => .bl (decide (j < i))) := dop_B0 op_gt
theorem o_ge : DOp X (compareOp .GtE) (gI fun i j => .bl (decide (j ≤ i))) := dop_B0 op_ge
def dNeg (ta : DTE) : DTE := fun ρ Q => ta ρ fun d => ∃ i, d = .int i ∧ Q (.int (-i))
theorem de_neg (ha : DE X a ta) : DE X (.UnaryOp .USub a pos) (dNeg ta) := by
  obtain ⟨te, p1, l1⟩ := ha
  refine ⟨_, pe_un un_neg p1, fun ρ σ H Q r h R k => l1 ρ σ H _ r h _ fun d v H1 s1 i1 ⟨i, e, q1⟩ => ?_⟩
  subst e
  exact ⟨i, is_int.mp i1, k _ _ H1 s1 (is_int.mpr rfl) q1⟩
def dNil : DTA := fun _ Q => Q []
def dCons (te : DTE) (t : DTA) : DTA := fun ρ Q => te ρ fun d => t ρ fun ds => Q (d :: ds)
variable {es : List Expr} {t : DTA}
theorem da_nil : DA X [] dNil := ⟨_, pa_nil, fun ρ σ H Q r h R k => k [] [] H (Le.refl H) (allIs_nil.mpr rfl) h⟩
theorem da_cons (ha : DE X a ta) (hr : DA X es t) (hs : starEach (a :: es) X.env = (false, eval a X.env) :: starEach es X.env := by rfl) : DA X (a :: es) (dCons ta t) := by
  obtain ⟨te, p1, l1⟩ := ha
  obtain ⟨tf, p2, l2⟩ := hr
  exact ⟨_, pa_cons p1 p2 hs, fun ρ σ H Q r h R k => l1 ρ σ H _ r h _ fun d v H1 s1 i1 q1 => l2 ρ σ H1 _ (r.mono s1) q1 _ fun ds vs H2 s2 i2 q2 =>
    k (d :: ds) (v :: vs) H2 (s1.trans s2) (allIs_cons.mpr ⟨v, vs, rfl, i1.mono s2, i2⟩) q2⟩
def dTup (t : DTA) : DTE := fun ρ Q => t ρ fun ds => Nat.ble ds.length 1000 = true ∧ Q (.tup ds)
def dLst (t : DTA) : DTE := fun ρ Q => t ρ fun ds => Nat.ble ds.length 1000 = true ∧ Q (.lst ds)
theorem de_tup {x1} (h : DA X es t) : DE X (.Tuple es x1 pos) (dTup t) := by
  obtain ⟨te, p1, l1⟩ := h
  refine ⟨_, pe_tup p1, fun ρ σ H Q r h R k => l1 ρ σ H _ r h _ fun ds vs H1 s1 i1 ⟨hl, q1⟩ => ⟨?_, fun p hp => ?_⟩⟩
  · rw [← i1.length]; exact Nat.le_trans (Nat.le_of_ble_eq_true hl) (by decide)
  · have s := le_new hp (.tup vs)
    exact k _ _ _ (s1.trans s) (is_tup.mpr ⟨p, vs, rfl, upd_same, i1.mono s⟩) q1
theorem de_lst (h : DA X es t) : DE X (.List es pos) (dLst t) := by
  obtain ⟨te, p1, l1⟩ := h
  refine ⟨_, pe_lst p1, fun ρ σ H Q r h R k => l1 ρ σ H _ r h _ fun ds vs H1 s1 i1 ⟨hl, q1⟩ => ⟨?_, fun p hp => ?_⟩⟩
  · rw [← i1.length]; exact Nat.le_trans (Nat.le_of_ble_eq_true hl) (by decide)
  · have s := le_new hp (.lst vs)
    exact k _ _ _ (s1.trans s) (is_lst.mpr ⟨p, vs, rfl, upd_same, i1.mono s⟩) q1

def seqOf : Dt → Option (List Dt)
  | .tup ds => some ds
  | .lst ds => some ds
  | .scr ns => some (ns.map .int)
  | _ => none
theorem seq_is {H : Vw} {d : Dt} {v : V} {ds : List Dt} (h : Is K H.g d v) (e : seqOf d = some ds) : ∃ a xs, v = .ref a ∧ (SqL K H.h a xs ∨ SqT K H.h a xs) ∧ AllIs K H.g ds xs := by
  cases d with
  | tup es =>
    obtain rfl : es = ds := Option.some.inj e
    obtain ⟨a, xs, rfl, h1, h2⟩ := is_tup.mp h
    exact ⟨a, xs, rfl, .inr (.of (H.sub _ _ h1)), h2⟩
  | lst es =>
    obtain rfl : es = ds := Option.some.inj e
    obtain ⟨a, xs, rfl, h1, h2⟩ := is_lst.mp h
    exact ⟨a, xs, rfl, .inl (.of (H.sub _ _ h1)), h2⟩
  | scr ns =>
    obtain rfl : ns.map Dt.int = ds := Option.some.inj e
    obtain ⟨a, rfl, h1⟩ := is_scr.mp h
    exact ⟨a, _, rfl, .inl (H.sub.seq h1), AllIs.ints⟩
  | _ => cases e
def dIx (ta tb : DTE) : DTE := fun ρ Q => ta ρ fun d => tb ρ fun e => ∃ ds i d', seqOf d = some ds ∧ e = .int i ∧ atI ds i = some d' ∧ Q d'
theorem de_ix (ha : DE X a ta) (hb : DE X b tb) (hs : PlainIx b) : DE X (.Subscript a b pos) (dIx ta tb) := by
  obtain ⟨te, p1, l1⟩ := ha
  obtain ⟨tf, p2, l2⟩ := hb
  refine ⟨_, pe_ix ix_seq p1 p2 hs, fun ρ σ H Q r h R k => l1 ρ σ H _ r h _ fun d v H1 s1 i1 q1 => l2 ρ σ H1 _ (r.mono s1) q1 _ fun e u H2 s2 i2 q2 => ?_⟩
  obtain ⟨ds, i, d', e1, e2, e3, q⟩ := q2
  subst e2
  obtain ⟨p, xs, e4, h1, h2⟩ := seq_is (i1.mono s2) e1
  obtain ⟨w, e5, h3⟩ := h2.atI e3
  rcases h1 with h1 | h1
  · exact .inl ⟨p, xs, i, w, e4, is_int.mp i2, h1, e5, k d' w H2 (s1.trans s2) h3 q⟩
  · exact .inr (.inl ⟨p, xs, i, w, e4, is_int.mp i2, h1, e5, k d' w H2 (s1.trans s2) h3 q⟩)
def dLen (t : DTE) : DTE := fun ρ Q => t ρ fun d => ∃ ds, seqOf d = some ds ∧ Q (.int ds.length)
theorem de_len {p : Pos} (hg : Gl X "len") (hm : X.mg "len" = none) (ha : DE X a ta) (hs : starEach [a] X.env = (false, eval a X.env) :: starEach [] X.env := by rfl) (hpl : (backTo pos (starEach [] X.env)).any (·.1) = false := by rfl) :
    DE X (.Call (.Name "len" p) [a] [] pos) (dLen ta) := by
  obtain ⟨te, p1, l1⟩ := ha
  refine ⟨_, pe_callB call_len_seq hg hm PySem.boot_len (pa_cons p1 pa_nil hs) (by decide) (by decide) hs hpl, fun ρ σ H Q r h R k => l1 ρ σ H _ r h _ fun d v H1 s1 i1 ⟨ds, e, q⟩ => ?_⟩
  obtain ⟨a, xs, rfl, h1, h2⟩ := seq_is i1 e
  exact ⟨a, xs, rfl, h1, by rw [← h2.length]; exact k _ _ H1 s1 (is_int.mpr rfl) q⟩
def cutD (xs : List Dt) (lo hi : Option Int) : List Dt := (xs.drop (HT.sIx xs.length 0 lo)).take (HT.sIx xs.length xs.length hi - HT.sIx xs.length 0 lo)
theorem AllIs.cut {G : Hp} {ds : List Dt} {xs : List V} (h : AllIs K G ds xs) (lo hi : Option Int) : AllIs K G (cutD ds lo hi) (cutV xs lo hi) := by
  unfold cutD cutV
  rw [← h.length]
  exact (h.drop _).take _
abbrev DTO := DS → (Option Int → Prop) → Prop
def DO (X : Cx) (e : Option Expr) (t : DTO) : Prop := ∃ te, PO X e te ∧ ∀ {F : Hp} (ρ : DS) (σ : St) (H : Vw) (Q : Option Int → Prop), Rl X.K (Zx X) F H ρ σ → t ρ Q → ∀ R : Option Int → Hp → Prop, (∀ o H', Le H H' → Q o → R o H'.h) → te σ H.h R
def dNoPart : DTO := fun _ Q => Q none
def dPart (t : DTE) : DTO := fun ρ Q => t ρ fun d => ∃ i, d = .int i ∧ Q (some i)
theorem do_none : DO X none dNoPart := ⟨_, po_none, fun ρ σ H Q r h R k => k none H (Le.refl H) h⟩
theorem do_some (ha : DE X a ta) : DO X (some a) (dPart ta) := by
  obtain ⟨te, p1, l1⟩ := ha
  refine ⟨_, po_some p1, fun ρ σ H Q r h R k => l1 ρ σ H _ r h _ fun d v H1 s1 i1 ⟨i, e, q⟩ => ?_⟩
  subst e
  exact ⟨i, is_int.mp i1, k _ H1 s1 q⟩
def listOf : Dt → Option (List Dt)
  | .lst ds => some ds
  | .scr ns => some (ns.map .int)
  | _ => none
theorem list_is {H : Vw} {d : Dt} {v : V} {ds : List Dt} (h : Is K H.g d v) (e : listOf d = some ds) : ∃ a xs, v = .ref a ∧ SqL K H.h a xs ∧ AllIs K H.g ds xs := by
  cases d with
  | lst es =>
    obtain rfl : es = ds := Option.some.inj e
    obtain ⟨a, xs, rfl, h1, h2⟩ := is_lst.mp h
    exact ⟨a, xs, rfl, .of (H.sub _ _ h1), h2⟩
  | scr ns =>
    obtain rfl : ns.map Dt.int = ds := Option.some.inj e
    obtain ⟨a, rfl, h1⟩ := is_scr.mp h
    exact ⟨a, _, rfl, H.sub.seq h1, AllIs.ints⟩
  | _ => cases e
def dSl (te : DTE) (tl th : DTO) : DTE := fun ρ Q => te ρ fun d => tl ρ fun l => th ρ fun u => ∃ ds, listOf d = some ds ∧ Q (.lst (cutD ds l u))
theorem de_slice {lo hi : Option Expr} {tl th : DTO} {p2 : Pos} (ha : DE X a ta) (hl : DO X lo tl) (hu : DO X hi th) : DE X (.Subscript a (.Slice lo hi none p2) pos) (dSl ta tl th) := by
  obtain ⟨te, p1, l1⟩ := ha
  obtain ⟨tf, p2, l2⟩ := hl
  obtain ⟨tg, p3, l3⟩ := hu
  refine ⟨_, pe_slice sl_list p1 p2 p3, fun ρ σ H Q r h R k => l1 ρ σ H _ r h _ fun d v H1 s1 i1 q1 => l2 ρ σ H1 _ (r.mono s1) q1 _ fun l H2 s2 q2 => l3 ρ σ H2 _ (r.mono (s1.trans s2)) q2 _ fun u H3 s3 ⟨ds, e, q⟩ => ?_⟩
  obtain ⟨a, xs, rfl, h1, h2⟩ := list_is (i1.mono (s2.trans s3)) e
  refine ⟨a, xs, rfl, h1, fun p hp => ?_⟩
  have s := le_new hp (.lst (cutV xs l u))
  exact k _ _ _ (((s1.trans s2).trans s3).trans s) (is_lst.mpr ⟨p, _, rfl, upd_same, (h2.cut l u).mono s⟩) q
end

def LiF (K : PySem.W.Frag) (Z : Hp) (te : TE) (t : DTE) : Prop :=
  ∀ {F : Hp} (ρ : DS) (σ : St) (H : Vw) (Q : Dt → Prop), Rl K Z F H ρ σ → t ρ Q → ∀ R : VK,
    (∀ es p xs H', Le H H' → H.h p = none → H'.h p = some (.lst xs) → H'.g p = none → AllIs K H'.g es xs → Q (.lst es) → R (.ref p) H'.h) → te σ H.h R
def DF (X : Cx) (e : Expr) (t : DTE) : Prop := ∃ te, PE X e te ∧ LiF X.K (Zx X) te t
theorem le_frz {H H' : Vw} {p : Addr} {o : HO} (s : Le H H') (h0 : H.h p = none) (h1 : H'.h p = some o) (h2 : H'.g p = none) : Le H (H'.frz p o h1) :=
  ⟨s.g.trans (same_new h2 o), s.h, fun a z1 z2 => by
    have : a ≠ p := fun e => z1 (e ▸ h0)
    show upd H'.g p o a = none
    rw [upd_ne this]; exact s.n a z1 z2⟩
section
variable {X : Cx} {a b c e : Expr} {ta tb tc : DTE} {t : DTA} {pos p0 p1 p2 : Pos} {es : List Expr}
theorem DF.de {t : DTE} (h : DF X e t) : DE X e t := by
  obtain ⟨te, p, l⟩ := h
  exact ⟨te, p, fun ρ σ H Q r h R k => l ρ σ H Q r h R fun es q xs H' s h0 h1 h2 i z => k (.lst es) (.ref q) (H'.frz q _ h1) (le_frz s h0 h1 h2) (is_lst.mpr ⟨q, xs, rfl, upd_same, AllIs.mono0 (same_new h2 _) i⟩) z⟩
theorem df_lst (h : DA X es t) : DF X (.List es pos) (dLst t) := by
  obtain ⟨te, p1, l1⟩ := h
  refine ⟨_, pe_lst p1, fun ρ σ H Q r h R k => l1 ρ σ H _ r h _ fun ds vs H1 s1 i1 ⟨hl, q1⟩ => ⟨?_, fun p hp => ?_⟩⟩
  · rw [← i1.length]; exact Nat.le_trans (Nat.le_of_ble_eq_true hl) (by decide)
  · exact k ds p vs (H1.mine p (.lst vs) (H1.sub.free hp)) (s1.trans (le_mine hp _)) (s1.h.free hp) upd_same (H1.sub.free hp) i1 q1
def dList (ta : DTE) : DTE := fun ρ Q => ta ρ fun d => ∃ ds, seqOf d = some ds ∧ Q (.lst ds)
theorem df_list (hg : Gl X "list") (hm : X.mg "list" = none) (ha : DE X a ta) (hs : starEach [a] X.env = (false, eval a X.env) :: starEach [] X.env := by rfl) (hpl : (backTo pos (starEach [] X.env)).any (·.1) = false := by rfl) :
    DF X (.Call (.Name "list" p0) [a] [] pos) (dList ta) := by
  obtain ⟨te, p1, l1⟩ := ha
  refine ⟨_, pe_callTy call_list_of hg hm PyProof.Rows.boot_list (pa_cons p1 pa_nil hs) (by decide) (by decide) hs hpl, fun ρ σ H Q r h R k => l1 ρ σ H _ r h _ fun d v H1 s1 i1 ⟨ds, e, q⟩ => ?_⟩
  obtain ⟨a, xs, rfl, h1, h2⟩ := seq_is i1 e
  exact ⟨a, xs, rfl, h1, fun p hp => k _ p _ (H1.mine p _ (H1.sub.free hp)) (s1.trans (le_mine hp _)) (s1.h.free hp) upd_same (H1.sub.free hp) h2 q⟩

variable {i : Nat} {x : Str}
def dLenO (i : Nat) : DTE := fun ρ Q => ∃ ds, ρ[i]? = some (.own ds) ∧ Q (.int ds.length)
theorem de_lenO (i : Nat) (hg : Gl X "len") (hm : X.mg "len" = none) (hN : X.N[i]? = some x := by rfl) (hv : Vis X.env.scope x := by first | exact Or.inl rfl | exact Or.inr (Or.inl rfl) | exact Or.inr (Or.inr rfl)) (hd : (x == ("__debug__" : Str)) = false := by decide)
    (hcd : (x == ("__classdict__" : Str)) = false := by decide) (hs : starEach [.Name x p1] X.env = (false, eval (.Name x p1) X.env) :: starEach [] X.env := by rfl) (hpl : (backTo pos (starEach [] X.env)).any (·.1) = false := by rfl) :
    DE X (.Call (.Name "len" p0) [.Name x p1] [] pos) (dLenO i) := by
  refine ⟨_, pe_callB call_len_seq hg hm PySem.boot_len (pa_cons (pe_var hN hv hd hcd) pa_nil hs) (by decide) (by decide) hs hpl, fun ρ σ H Q r h R k => ?_⟩
  obtain ⟨ds, e, q⟩ := h
  obtain ⟨a, xs, e1, e2, e3, e4, e5⟩ := r.ow i ds e
  exact ⟨.ref a, e1, a, xs, rfl, .inl (.of e2), by rw [← e5.length]; exact k _ _ H (Le.refl H) (is_int.mpr rfl) q⟩
def dIxO (i : Nat) (tb : DTE) : DTE := fun ρ Q => ∃ ds, ρ[i]? = some (.own ds) ∧ tb ρ fun e => ∃ k d, e = .int k ∧ atI ds k = some d ∧ Q d
theorem de_ixO (i : Nat) (hb : DE X b tb) (hs : PlainIx b) (hN : X.N[i]? = some x := by rfl) (hv : Vis X.env.scope x := by first | exact Or.inl rfl | exact Or.inr (Or.inl rfl) | exact Or.inr (Or.inr rfl)) (hd : (x == ("__debug__" : Str)) = false := by decide)
    (hcd : (x == ("__classdict__" : Str)) = false := by decide) : DE X (.Subscript (.Name x p1) b pos) (dIxO i tb) := by
  obtain ⟨tf, p2, l2⟩ := hb
  refine ⟨_, pe_ix ix_list (pe_var hN hv hd hcd) p2 hs, fun ρ σ H Q r h R k => ?_⟩
  obtain ⟨ds, e, h⟩ := h
  obtain ⟨a, xs, e1, e2, e3, e4, e5⟩ := r.ow i ds e
  refine ⟨.ref a, e1, l2 ρ σ H _ r h _ fun e u H2 s2 i2 ⟨n, d, en, ed, q⟩ => ?_⟩
  subst en
  obtain ⟨v, ev, iv⟩ := e5.atI ed
  exact ⟨a, xs, n, v, rfl, is_int.mp i2, .of (s2.h _ _ e2), ev, k d v H2 s2 (iv.mono s2) q⟩
theorem allIs_empty {G : Hp} {ds : List Dt} {xs : List V} (h : AllIs K G ds xs) : (!xs.isEmpty) = !ds.isEmpty := by
  cases ds with
  | nil => rw [allIs_nil.mp h]; rfl
  | cons d ds => obtain ⟨x, r, rfl, _⟩ := allIs_cons.mp h; rfl
def dTru (ta : DTE) : DTT := fun ρ Q => ta ρ fun d => ∃ ds, listOf d = some ds ∧ Q (!ds.isEmpty)
theorem dt_tru (ha : DE X a ta) (he : ∀ whole, isTrue a X.env whole = (do let v ← whole; standAt a.pos; holding [v] (truthy v)) := by intro _; rfl) : DT X a (dTru ta) := by
  obtain ⟨te, p1, l1⟩ := ha
  refine ⟨_, pt_truth p1 he, fun ρ σ H Q r h R k => l1 ρ σ H _ r h _ fun d v H1 s1 i1 ⟨ds, e, q⟩ => ?_⟩
  obtain ⟨a, xs, rfl, h1, h2⟩ := list_is i1 e
  exact ⟨!ds.isEmpty, .inl ⟨xs, h1, (allIs_empty h2).symm⟩, k _ H1 s1 q⟩

def fz : Sl → Sl
  | .own ds => .some (.lst ds)
  | .arg _ ds => .some (.lst ds)
  | s => s
open Classical in
theorem Rl.bor {ρ : DS} {σ : St} (r : Rl K Z F W ρ σ) : ∃ W' : Vw, W'.h = W.h ∧ Same W.g W'.g ∧ Rl K Z F W' (ρ.map fz) σ ∧ ∀ a o, W'.g a = some o → W.g a = some o ∨ ∃ xs, o = .lst xs := by
  let ow : Addr → Prop := fun a => ∃ (i : Nat) (ds : List Dt), (ρ[i]? = some (Sl.own ds) ∧ σ[i]? = some (some (V.ref a))) ∨ ρ[i]? = some (Sl.arg a ds)
  have own_at : ∀ a, ow a → W.g a = none := fun a ⟨i, ds, h⟩ => by
    rcases h with ⟨e, ea⟩ | e
    · obtain ⟨b, xs, e1, _, e3, _⟩ := r.ow i ds e
      rw [ea] at e1
      cases e1
      exact e3
    · exact (r.ar i a ds e).1.choose_spec.2.2.1
  let g : Hp := fun a => if ow a then W.h a else W.g a
  have gs : Same W.g g := fun b o q => by
    show (if ow b then W.h b else W.g b) = some o
    by_cases hb : ow b
    · rw [own_at b hb] at q; cases q
    · rw [if_neg hb]; exact q
  have sub : Same g W.h := fun b o q => by
    have q' : (if ow b then W.h b else W.g b) = some o := q
    by_cases hb : ow b
    · rw [if_pos hb] at q'; exact q'
    · rw [if_neg hb] at q'; exact W.sub _ _ q'
  have cls : ∀ (i : Nat) (y : Sl), (ρ.map fz)[i]? = some y → (∃ d, ρ[i]? = some (.some d) ∧ y = .some d) ∨ (∃ ds, (ρ[i]? = some (.own ds) ∨ ∃ a, ρ[i]? = some (.arg a ds)) ∧ y = .some (.lst ds)) ∨ y = .none := fun i y e => by
    rw [List.getElem?_map] at e
    cases q : ρ[i]? with
    | none => rw [q] at e; cases e
    | some z =>
      rw [q] at e
      have e' := (Option.some.inj e).symm
      cases z with
      | none => exact .inr (.inr e')
      | some d => exact .inl ⟨d, rfl, e'⟩
      | own ds => exact .inr (.inl ⟨ds, .inl rfl, e'⟩)
      | arg a ds => exact .inr (.inl ⟨ds, .inr ⟨a, rfl⟩, e'⟩)
  have gl : ∀ a o, g a = some o → W.g a = some o ∨ ∃ xs, o = HO.lst xs := fun a o q => by
    have q' : (if ow a then W.h a else W.g a) = some o := q
    by_cases hb : ow a
    · rw [if_pos hb] at q'
      obtain ⟨i, ds, h⟩ := hb
      rcases h with ⟨e, ea⟩ | e
      · obtain ⟨b, xs, e1, e2, _⟩ := r.ow i ds e
        rw [ea] at e1
        cases e1
        rw [e2] at q'
        exact .inr ⟨xs, (Option.some.inj q').symm⟩
      · obtain ⟨⟨xs, _, e2, _⟩, _, _⟩ := r.ar i a ds e
        rw [e2] at q'
        exact .inr ⟨xs, (Option.some.inj q').symm⟩
    · rw [if_neg hb] at q'
      exact .inl q'
  refine ⟨⟨g, W.h, sub⟩, rfl, gs, ⟨by rw [List.length_map]; exact r.len, fun i d e => ?_, fun i ds e => ?_, fun i j ds es _ e _ => ?_, r.fr, r.z, fun i a ds e => ?_⟩, gl⟩
  · rcases cls i _ e with ⟨d', q, e1⟩ | ⟨ds, q, e1⟩ | e1
    · cases e1
      obtain ⟨v, h1, h2⟩ := r.at_ i d q
      exact ⟨v, h1, Is.mono0 gs h2⟩
    · cases e1
      rcases q with q | ⟨b, q⟩
      · obtain ⟨b, xs, e1, e2, e3, e4, e5⟩ := r.ow i ds q
        have hb : ow b := ⟨i, ds, .inl ⟨q, e1⟩⟩
        exact ⟨_, e1, is_lst.mpr ⟨b, xs, rfl, (if_pos hb).trans e2, AllIs.mono0 gs e5⟩⟩
      · obtain ⟨⟨xs, e1, e2, e3, e4, e5⟩, _, _⟩ := r.ar i b ds q
        have hb : ow b := ⟨i, ds, .inr q⟩
        exact ⟨_, e1, is_lst.mpr ⟨b, xs, rfl, (if_pos hb).trans e2, AllIs.mono0 gs e5⟩⟩
    · cases e1
  · rcases cls i _ e with ⟨d', q, e1⟩ | ⟨ds, q, e1⟩ | e1 <;> cases e1
  · rcases cls i _ e with ⟨d', q, e1⟩ | ⟨ds, q, e1⟩ | e1 <;> cases e1
  · rcases cls i _ e with ⟨d', q, e1⟩ | ⟨ds, q, e1⟩ | e1 <;> cases e1
theorem bor_back {H W' H1 : Vw} (e : W'.h = H.h) (s1 : Le W' H1) (sg : Same H.g W'.g) : ∃ H2 : Vw, H2.h = H1.h ∧ H2.g = H.g ∧ Le H H2 :=
  ⟨⟨H.g, H1.h, (sg.trans s1.g).trans H1.sub⟩, rfl, rfl, Same.refl _, e ▸ s1.h, fun _ _ h => h⟩
def dBorT (t : DTT) : DTT := fun ρ Q => t (ρ.map fz) Q
theorem dt_bor {t : DTT} (h : DT X e t) : DT X e (dBorT t) := by
  obtain ⟨te, p, l⟩ := h
  refine ⟨te, p, fun ρ σ H Q r hq R k => ?_⟩
  obtain ⟨W', e, sg, r', _⟩ := r.bor
  have := l (ρ.map fz) σ W' Q r' hq R fun b H1 s1 q1 => by
    obtain ⟨H2, e2, _, s2⟩ := bor_back e s1 sg
    rw [← e2]
    exact k b H2 s2 q1
  rw [e] at this
  exact this
def scalD : Dt → Bool
  | .non => true | .bl _ => true | .int _ => true | .str _ => true | _ => false
end

abbrev DSp := List Dt → (Dt → Prop) → Prop
def PureSp (K : PySem.W.Frag) (S : DSp) : Sp := fun vs H Q _ => ∃ (W : Vw) (ds : List Dt) (Qd : Dt → Prop), W.h = H ∧ AllIs K W.g ds vs ∧ S ds Qd ∧ ∀ d v W', Le W W' → Is K W'.g d v → Qd d → Q v W'.h
def FreshSp (K : PySem.W.Frag) (S : DSp) : Sp := fun vs H Q _ => ∃ (W : Vw) (ds : List Dt) (Qd : Dt → Prop), W.h = H ∧ AllIs K W.g ds vs ∧ S ds Qd ∧
  ∀ es p xs W', Le W W' → W.h p = none → W'.h p = some (.lst xs) → W'.g p = none → AllIs K W'.g es xs → Qd (.lst es) → Q (.ref p) W'.h
structure DOk (P : Program) (w : World) (K : PySem.W.Frag) (mg : Str → Option Value) (base : Heap) (n : Nat) (x : Str) (S : DSp) : Prop where
  ex : ∃ f fd ps, mg x = some (.ref f) ∧ PySem.W.keepIn K (.ref f) = true ∧ Binds K fd ps [] ∧ FnOk P w K mg base CX0 n f fd ps (PureSp K S)
structure FOk (P : Program) (w : World) (K : PySem.W.Frag) (mg : Str → Option Value) (base : Heap) (n : Nat) (x : Str) (S : DSp) : Prop where
  ex : ∃ f fd ps, mg x = some (.ref f) ∧ PySem.W.keepIn K (.ref f) = true ∧ Binds K fd ps [] ∧ FnOk P w K mg base CX0 n f fd ps (FreshSp K S)
structure MOk (P : Program) (w : World) (K : PySem.W.Frag) (mg : Str → Option Value) (base : Heap) (n : Nat) (C : Addr) (m : Str) (S : DSp) : Prop where
  cl : Cls K C
  ex : ∃ f fd ps, Meth K C m f ∧ Binds K fd ps [] ∧ FnOk P w K mg base CX0 n f fd ps (PureSp K S)
structure FMOk (P : Program) (w : World) (K : PySem.W.Frag) (mg : Str → Option Value) (base : Heap) (n : Nat) (C : Addr) (m : Str) (S : DSp) : Prop where
  cl : Cls K C
  ex : ∃ f fd ps, Meth K C m f ∧ Binds K fd ps [] ∧ FnOk P w K mg base CX0 n f fd ps (FreshSp K S)
section
variable {X : Cx} {a b c e o : Expr} {ta tb tc : DTE} {pos p apos : Pos} {es : List Expr} {t : DTA} {n : Nat} {x m : Str} {S : DSp}
def dCall (S : DSp) (t : DTA) : DTE := fun ρ Q => t ρ fun ds => S ds Q
theorem de_call (G : DOk X.prog X.w X.K X.mg X.base n x S) (hr : Room n X.A) (hg : Gl X x) (ha : DA X (e :: es) t) (hdb : (x == ("__debug__" : Str)) = false := by decide)
    (he : starEach (e :: es) X.env = (false, eval e X.env) :: starEach es X.env := by rfl) (hpl : (backTo pos (starEach es X.env)).any (·.1) = false := by rfl) : DE X (.Call (.Name x p) (e :: es) [] pos) (dCall S t) := by
  obtain ⟨f, fd, ps, hm, hk, hb, F⟩ := G.ex
  obtain ⟨te, p1, l1⟩ := ha
  refine ⟨_, pe_call F hr hg hm hk hb .nil pass0 p1 hdb he hpl, fun ρ σ H Q r h R k => l1 ρ σ H _ r h _ fun ds vs H1 s1 i1 q1 => ?_⟩
  rw [List.append_nil]
  exact ⟨H1, ds, Q, rfl, i1, q1, fun d v H2 s2 i2 q2 => k d v H2 (s1.trans s2) i2 q2⟩
theorem df_call (G : FOk X.prog X.w X.K X.mg X.base n x S) (hr : Room n X.A) (hg : Gl X x) (ha : DA X (e :: es) t) (hdb : (x == ("__debug__" : Str)) = false := by decide)
    (he : starEach (e :: es) X.env = (false, eval e X.env) :: starEach es X.env := by rfl) (hpl : (backTo pos (starEach es X.env)).any (·.1) = false := by rfl) : DF X (.Call (.Name x p) (e :: es) [] pos) (dCall S t) := by
  obtain ⟨f, fd, ps, hm, hk, hb, F⟩ := G.ex
  obtain ⟨te, p1, l1⟩ := ha
  refine ⟨_, pe_call F hr hg hm hk hb .nil pass0 p1 hdb he hpl, fun ρ σ H Q r h R k => l1 ρ σ H _ r h _ fun ds vs H1 s1 i1 q1 => ?_⟩
  rw [List.append_nil]
  exact ⟨H1, ds, Q, rfl, i1, q1, fun es p xs H2 s2 h0 h1 h2 i2 q2 => k es p xs H2 (s1.trans s2) (s1.h.free h0) h1 h2 i2 q2⟩
def tMethD (X : Cx) (n : Nat) (m : Str) (ta : TE) (t : TA) : TE := fun σ H Q => ta σ H fun x H1 => ∃ a dx fs C f fd ps sp, x = .ref a ∧ H1 a = some (.ins C dx fs) ∧ fs.lookup m = none ∧ Cls X.K C ∧ Meth X.K C m f ∧ Binds X.K fd ps [] ∧
  FnOk X.prog X.w X.K X.mg X.base CX0 n f fd ps sp ∧ t σ H1 fun vs H2 => sp (x :: vs) H2 Q E0
theorem pe_methD {pl : Sem Bool} {te : TE} {tt : TA} (he : PE X o te) (hr : Room n X.A) (ha : PA X (e :: es) tt)
    (hst : starEach (e :: es) X.env = (false, eval e X.env) :: starEach es X.env := by rfl) (hpl : (backTo pos (starEach es X.env)).any (·.1) = false := by rfl)
    (ht : eval (.Call (.Attribute o m apos) (e :: es) [] pos) X.env = (do
      let ov ← eval o X.env
      standAt apos.atName
      let (f, first) ← holding [ov] (getMethod ov m pl)
      callWith pos f first (backTo pos (starEach (e :: es) X.env)) (backToKw pos (keywordEach [] X.env))) := by rfl) :
    PE X (.Call (.Attribute o m apos) (e :: es) [] pos) (tMethD X n m te tt) := by
  intro pins s σ H Q I h
  refine PySem.W.methodCall_KW (pl := pl) (thn (he pins s σ H _ I h) fun u s1 ⟨x, H1, I1, rx, a, dx, fs, C, f, fd, ps, sp, ex, ea, l, c, hm, hb, F, q⟩ => ?_) ht
  subst ex
  obtain rfl : u = Value.ref a := rx
  refine getmeth_ok I1 ea c hm l ?_
  refine PySem.W.callWith_K (first := [.ref a]) (h₀ := X.base) I.ok.mod.kin hm.kp (thn (ha pos pins s1 σ H1 _ I1 q) fun us s2 ⟨vs, H2, I2, r, q2⟩ => ⟨I2.kIn, ?_⟩) hst hpl
  exact run_fn (us := .ref a :: us) (vs := .ref a :: vs) (dvs := []) (E := E0) F hr hb .nil pass0 I2 (.cons rfl r) (by rw [List.append_nil]; exact q2)
def dMeth (X : Cx) (n : Nat) (m : Str) (ta : DTE) (t : DTA) : DTE := fun ρ Q => ta ρ fun d => ∃ C f k S, d = .way C f k ∧ (m == f) = false ∧ MOk X.prog X.w X.K X.mg X.base n C m S ∧ t ρ fun ds => S (d :: ds) Q
theorem de_meth {pl : Sem Bool} (hr : Room n X.A) (he : DE X o ta) (ha : DA X (e :: es) t)
    (hst : starEach (e :: es) X.env = (false, eval e X.env) :: starEach es X.env := by rfl) (hpl : (backTo pos (starEach es X.env)).any (·.1) = false := by rfl)
    (ht : eval (.Call (.Attribute o m apos) (e :: es) [] pos) X.env = (do
      let ov ← eval o X.env
      standAt apos.atName
      let (f, first) ← holding [ov] (getMethod ov m pl)
      callWith pos f first (backTo pos (starEach (e :: es) X.env)) (backToKw pos (keywordEach [] X.env))) := by rfl) :
    DE X (.Call (.Attribute o m apos) (e :: es) [] pos) (dMeth X n m ta t) := by
  obtain ⟨te, p0, l0⟩ := he
  obtain ⟨tt, p1, l1⟩ := ha
  refine ⟨_, pe_methD (pl := pl) p0 hr p1 hst hpl ht, fun ρ σ H Q r h R k => l0 ρ σ H _ r h _ fun d v H1 s1 i1 ⟨C, f, z, S, ed, hne, M, q1⟩ => ?_⟩
  subst ed
  obtain ⟨a, dx, rfl, ha⟩ := is_way.mp i1
  obtain ⟨g, fd, ps, hm, hb, F⟩ := M.ex
  refine ⟨a, dx, _, C, g, fd, ps, _, rfl, H1.sub _ _ ha, by simp [List.lookup, hne], M.cl, hm, hb, F, l1 ρ σ H1 _ (r.mono s1) q1 _ fun ds vs H2 s2 i2 q2 => ?_⟩
  exact ⟨H2, _, Q, rfl, allIs_cons.mpr ⟨_, _, rfl, i1.mono s2, i2⟩, q2, fun d v H3 s3 i3 q3 => k d v H3 ((s1.trans s2).trans s3) i3 q3⟩
def dFld (K : PySem.W.Frag) (f : Str) (ta : DTE) : DTE := fun ρ Q => ta ρ fun d => ∃ C g k, d = .way C g k ∧ (f == g) = true ∧ Cls K C ∧ NoAttr K C f ∧ Q (.int k)
theorem de_fld {f : Str} (ha : DE X a ta) (hb : attributeBase a f X.env (eval a X.env) = eval a X.env := by rfl) : DE X (.Attribute a f pos) (dFld X.K f ta) := by
  obtain ⟨te, p1, l1⟩ := ha
  refine ⟨_, pe_fld p1 hb, fun ρ σ H Q r h R k => l1 ρ σ H _ r h _ fun d v H1 s1 i1 ⟨C, g, z, ed, hfg, hc, hn, q1⟩ => ?_⟩
  subst ed
  obtain ⟨p, dx, rfl, hp⟩ := is_way.mp i1
  exact ⟨p, C, dx, _, .int z, rfl, H1.sub _ _ hp, hc, hn, by simp [List.lookup, hfg], k _ _ H1 s1 (is_int.mpr rfl) q1⟩
def spInitW (C : Addr) (f : Str) (ok : Int → Prop) : Sp := fun vs H Q _ => ∃ p dx i, vs = [.ref p, .int i] ∧ H p = some (.ins C dx []) ∧ ok i ∧ ∀ H' : Hp, H' p = some (.ins C dx [(f, .int i)]) → (∀ b o, H b = some o → b ≠ p → H' b = some o) → Q .non H'
structure KOk (P : Program) (w : World) (K : PySem.W.Frag) (mg : Str → Option Value) (base : Heap) (n : Nat) (x : Str) (C : Addr) (f : Str) (ok : Int → Prop) : Prop where
  ex : ∃ g fd ps, mg x = some (.ref C) ∧ Mk K C g ∧ Binds K fd ps [] ∧ FnOk P w K mg base CX0 n g fd ps (spInitW C f ok)
def dMake (C : Addr) (f : Str) (ok : Int → Prop) (t : DTA) : DTE := fun ρ Q => t ρ fun ds => ∃ i, ds = [.int i] ∧ ok i ∧ Q (.way C f i)
theorem de_make {C : Addr} {f : Str} {ok : Int → Prop} (G : KOk X.prog X.w X.K X.mg X.base n x C f ok) (hr : Room (n + 1) X.A) (hg : Gl X x) (ha : DA X (e :: es) t) (hdb : (x == ("__debug__" : Str)) = false := by decide)
    (he : starEach (e :: es) X.env = (false, eval e X.env) :: starEach es X.env := by rfl) (hpl : (backTo pos (starEach es X.env)).any (·.1) = false := by rfl) : DE X (.Call (.Name x p) (e :: es) [] pos) (dMake C f ok t) := by
  obtain ⟨g, fd, ps, hm, M, hb, F⟩ := G.ex
  obtain ⟨te, p1, l1⟩ := ha
  refine ⟨_, pe_make M F hr hg hm hb .nil pass0 p1 hdb he hpl, fun ρ σ H Q r h R k => l1 ρ σ H _ r h _ fun ds vs H1 s1 i1 ⟨i, ed, hok, q1⟩ y dy ny ndy ne => ?_⟩
  subst ed
  obtain ⟨v, rfl, hv⟩ := i1.one
  obtain rfl := is_int.mp hv
  refine ⟨y, dy, i, rfl, upd_same, hok, fun H' e1 e2 => ⟨rfl, ?_⟩⟩
  have keep : Same H1.h H' := fun b o hb => e2 b o (by rw [upd_ne (ne_of_none hb ny), upd_ne (ne_of_none hb ndy)]; exact hb) (ne_of_none hb ny)
  have gy : H1.g y = none := H1.sub.free ny
  exact k _ _ ⟨upd H1.g y (.ins C dy [(f, .int i)]), H', fun b u q => by
      by_cases e : b = y
      · subst e; rw [upd_same] at q; rw [e1]; exact q
      · rw [upd_ne e] at q; exact keep _ _ (H1.sub _ _ q)⟩
    (s1.trans ⟨same_new gy _, keep, fun a z1 z2 => by
      have : a ≠ y := fun e => z1 (e ▸ ny)
      show upd H1.g y _ a = none
      rw [upd_ne this]; exact z2⟩) (is_way.mpr ⟨y, dy, rfl, upd_same⟩) q1

structure KitT (K : PySem.W.Frag) : Prop where
  ib : PySem.W.kitOne K (.type "int") (.type "bool") = some false
  it : PySem.W.kitOne K (.type "int") (.type "tuple") = some false
  il : PySem.W.kitOne K (.type "int") (.type "list") = some false
  bi : PySem.W.kitOne K (.type "bool") (.type "int") = some true
  bt : PySem.W.kitOne K (.type "bool") (.type "tuple") = some false
  bl : PySem.W.kitOne K (.type "bool") (.type "list") = some false
  ti : PySem.W.kitOne K (.type "tuple") (.type "int") = some false
  tb : PySem.W.kitOne K (.type "tuple") (.type "bool") = some false
  tl : PySem.W.kitOne K (.type "tuple") (.type "list") = some false
  li : PySem.W.kitOne K (.type "list") (.type "int") = some false
  lb : PySem.W.kitOne K (.type "list") (.type "bool") = some false
  lt : PySem.W.kitOne K (.type "list") (.type "tuple") = some false
theorem kit_same {K : PySem.W.Frag} {t : Value} : PySem.W.kitOne K t t = some true := by
  unfold PySem.W.kitOne
  rw [if_pos (beq_self_eq_true t)]
theorem kit_bb {K : PySem.W.Frag} {t c : String} {b : Bool} (h1 : (Value.type t == Value.type c) = false) (h2 : PySem.W.kitMeta c = true) (h3 : (fastBuiltinMro t).map (·.contains (Value.type c)) = some b) : PySem.W.kitOne K (.type t) (.type c) = some b := by
  unfold PySem.W.kitOne PySem.W.kitCls
  rw [if_neg (by rw [h1]; decide)]
  show (if PySem.W.kitMeta c = true then PySem.W.subIn K (.type t) (.type c) else none) = some b
  rw [if_pos h2]
  exact h3
theorem kitT (K : PySem.W.Frag) : KitT K := by
  constructor <;> exact kit_bb (by decide +kernel) (by decide +kernel) (by decide +kernel)
inductive TyN where | int | bool | tuple | list
def TyN.str : TyN → String
  | .int => "int" | .bool => "bool" | .tuple => "tuple" | .list => "list"
def isiD : Dt → TyN → Option Bool
  | .int _, .int => some true | .int _, .bool => some false | .int _, .tuple => some false | .int _, .list => some false
  | .bl _, .int => some true | .bl _, .bool => some true | .bl _, .tuple => some false | .bl _, .list => some false
  | .tup _, .int => some false | .tup _, .bool => some false | .tup _, .tuple => some true | .tup _, .list => some false
  | .lst _, .int => some false | .lst _, .bool => some false | .lst _, .tuple => some false | .lst _, .list => some true
  | _, _ => none
theorem isi_ty {H : Vw} {d : Dt} {v : V} {T : TyN} {b : Bool} (kt : KitT K) (h : Is K H.g d v) (e : isiD d T = some b) : ∃ tv, TyOf K H.h v tv ∧ PySem.W.kitOne K tv (.type T.str) = some b := by
  cases d with
  | int i =>
    obtain rfl := is_int.mp h
    refine ⟨_, .int i, ?_⟩
    cases T <;> (obtain rfl := Option.some.inj e; first | exact kit_same | exact kt.ib | exact kt.it | exact kt.il)
  | bl i =>
    obtain rfl := is_bl.mp h
    refine ⟨_, .bl i, ?_⟩
    cases T <;> (obtain rfl := Option.some.inj e; first | exact kit_same | exact kt.bi | exact kt.bt | exact kt.bl)
  | tup ds =>
    obtain ⟨a, xs, rfl, h1, _⟩ := is_tup.mp h
    refine ⟨_, .tup (H.sub _ _ h1), ?_⟩
    cases T <;> (obtain rfl := Option.some.inj e; first | exact kit_same | exact kt.ti | exact kt.tb | exact kt.tl)
  | lst ds =>
    obtain ⟨a, xs, rfl, h1, _⟩ := is_lst.mp h
    refine ⟨_, .lst (H.sub _ _ h1), ?_⟩
    cases T <;> (obtain rfl := Option.some.inj e; first | exact kit_same | exact kt.li | exact kt.lb | exact kt.lt)
  | _ => cases T <;> cases e
theorem call_isi : CallR X (.builtin "isinstance") (fun xs H Q => ∃ v T tv b, xs = [v, .ty T] ∧ TyOf X.K H v tv ∧ PySem.W.kitOne X.K tv (.type T) = some b ∧ Q (.bl b) H) := by
  intro pins s σ H xs us Q I r h
  obtain ⟨v, T, tv, b, rfl, hty, hk, q⟩ := h
  cases r with
  | cons r1 r2 =>
    cases r2 with
    | cons r3 r4 =>
      cases r4
      cases r3
      exact isinst_ok I r1 hty hk fun tk => ⟨.bl b, H, I.tok _, rfl, q⟩
def dIsi (T : TyN) (ta : DTE) : DTE := fun ρ Q => ta ρ fun d => ∃ b, isiD d T = some b ∧ Q (.bl b)
theorem de_isi {T : TyN} {y : Str} {p' : Pos} (kt : KitT X.K) (hm : X.mg "isinstance" = none) (hmc : X.mg y = none) (hv : bootBuiltins y = some (.type T.str)) (ha : DE X a ta)
    (hg : Gl X "isinstance" := by rfl) (hgc : Gl X y := by rfl) (hny : y ≠ "__name__" := by decide) (hdy : (y == ("__debug__" : Str)) = false := by decide)
    (hs : starEach [a, .Name y p'] X.env = (false, eval a X.env) :: starEach [.Name y p'] X.env := by rfl) (hs2 : starEach [.Name y p'] X.env = (false, eval (.Name y p') X.env) :: starEach [] X.env := by rfl)
    (hpl : (backTo pos (starEach [.Name y p'] X.env)).any (·.1) = false := by rfl) :
    DE X (.Call (.Name "isinstance" p) [a, .Name y p'] [] pos) (dIsi T ta) := by
  obtain ⟨te, p1, l1⟩ := ha
  have pc : PE X (.Name y p') (tC (.ty T.str)) := pe_bltn hgc hmc hv rfl hny hdy
  refine ⟨_, pe_callB call_isi hg hm boot_isinstance (pa_cons p1 (pa_cons pc pa_nil hs2) hs) (by decide) (by decide) hs hpl, fun ρ σ H Q r h R k => l1 ρ σ H _ r h _ fun d v H1 s1 i1 ⟨b, e, q⟩ => ?_⟩
  obtain ⟨tv, h1, h2⟩ := isi_ty kt i1 e
  exact ⟨v, T.str, tv, b, rfl, h1, h2, k _ _ H1 s1 (is_bl.mpr rfl) q⟩
end

structure DEnds where
  nx : DS → Prop
  rt : Dt → Prop
  bk : DS → Prop := fun _ => False
  ct : DS → Prop := fun _ => False
abbrev DTS := DEnds → DS → Prop
structure At (K : PySem.W.Frag) (Z : Hp) (W0 : Vw) (G : Hp) (W : Vw) (ρ : DS) (σ : St) : Prop where
  le : Le W0 W
  gs : Same G W.g
  rl : Rl K Z W0.h W ρ σ
inductive Fr where | d | l | t (a b : Bool)
def NewL (K : PySem.W.Frag) (F : Hp) (W : Vw) (d : Dt) (v : V) : Prop := ∃ es p xs, d = .lst es ∧ v = .ref p ∧ F p = none ∧ W.h p = some (.lst xs) ∧ W.g p = none ∧ AllIs K W.g es xs
def Prt (K : PySem.W.Frag) (F : Hp) (W : Vw) (b : Bool) (d : Dt) (v : V) : Prop := match b with
  | false => Is K W.g d v
  | true => NewL K F W d v ∨ scalD d = true ∧ Is K W.g d v
def Tld (K : PySem.W.Frag) (F : Hp) (W : Vw) : Fr → Dt → V → Prop
  | .d, d, v => Is K W.g d v
  | .l, d, v => NewL K F W d v
  | .t a b, d, v => ∃ d1 d2 q u1 u2, d = .tup [d1, d2] ∧ v = .ref q ∧ W.g q = some (.tup [u1, u2]) ∧ Prt K F W a d1 u1 ∧ Prt K F W b d2 u2 ∧ (∀ es fs, a = true → b = true → d1 = .lst es → d2 = .lst fs → u1 ≠ u2)
structure Sim (K : PySem.W.Frag) (Z : Hp) (fr : Fr) (W0 : Vw) (G : Hp) (D : DEnds) (D' : Ends) : Prop where
  nx : ∀ ρ σ W', At K Z W0 G W' ρ σ → D.nx ρ → D'.nx σ W'.h
  tl : ∀ d v W', Le W0 W' → Tld K W0.h W' fr d v → D.rt d → D'.rt v W'.h
  bk : ∀ ρ σ W', At K Z W0 G W' ρ σ → D.bk ρ → D'.bk σ W'.h
  ct : ∀ ρ σ W', At K Z W0 G W' ρ σ → D.ct ρ → D'.ct σ W'.h
theorem NewL.le {F G : Hp} {W : Vw} {d : Dt} {v : V} (h : NewL K F W d v) (z : ∀ p, F p = none → G p = none) : NewL K G W d v :=
  let ⟨es, p, xs, h1, h2, h3, h4⟩ := h; ⟨es, p, xs, h1, h2, z p h3, h4⟩
theorem Sim.rf {Z : Hp} {fr : Fr} {W0 : Vw} {G : Hp} {D : DEnds} {D' : Ends} (s : Sim K Z fr W0 G D D') (hf : fr = .d ∨ fr = .l) (es : List Dt) (p : Addr) (xs : List V) (W' : Vw) (le : Le W0 W') (h0 : W0.h p = none) (h1 : W'.h p = some (.lst xs)) (h2 : W'.g p = none) (h3 : AllIs K W'.g es xs) (q : D.rt (.lst es)) : D'.rt (.ref p) W'.h := by
  rcases hf with rfl | rfl
  · exact s.tl (.lst es) (.ref p) (W'.frz p _ h1) (le_frz le h0 h1 h2) (is_lst.mpr ⟨p, xs, rfl, upd_same, AllIs.mono0 (same_new h2 _) h3⟩) q
  · exact s.tl (.lst es) (.ref p) W' le ⟨es, p, xs, rfl, rfl, h0, h1, h2, h3⟩ q
section
variable {W0 : Vw} {G G' : Hp} {ρ : DS} {σ : St} {fr : Fr}
theorem At.step (a : At K Z W0 G W ρ σ) (s : Le W W') : At K Z W0 G W' ρ σ := ⟨a.le.trans s, a.gs.trans s.g, a.rl.mono s⟩
theorem At.set (a : At K Z W0 G W ρ σ) {d : Dt} {v : V} (i : Nat) (h : Is K W.g d v) : At K Z W0 G W (ρ.set i (.some d)) (σ.set i (some v)) := ⟨a.le, a.gs, a.rl.set i h⟩
theorem At.weak (a : At K Z W0 G W ρ σ) (s : Same G' G) : At K Z W0 G' W ρ σ := ⟨a.le, s.trans a.gs, a.rl⟩
theorem At.own (a : At K Z W0 G W ρ σ) (s : Le W W') {p : Addr} {xs : List V} {ds : List Dt} (i : Nat) (h0 : W.h p = none) (h1 : W'.h p = some (.lst xs)) (h2 : W'.g p = none) (h3 : AllIs K W'.g ds xs) :
    At K Z W0 G W' (ρ.set i (.own ds)) (σ.set i (some (.ref p))) := ⟨a.le.trans s, a.gs.trans s.g, a.rl.own s i h0 h1 h2 h3⟩
theorem At.put (at_ : At K Z W0 G W ρ σ) {i : Nat} {ds es : List Dt} {a : Addr} {ys : List V} (hi : ρ[i]? = some (.own ds)) (ha : σ[i]? = some (some (.ref a))) (hg : W.g a = none) (hF : W0.h a = none) (h3 : AllIs K W.g es ys) :
    At K Z W0 G (W.mine a (.lst ys) hg) (ρ.set i (.own es)) σ :=
  ⟨⟨at_.le.g, fun b o q => by
      have : b ≠ a := fun e => by rw [e, hF] at q; cases q
      show upd W.h a _ b = some o
      rw [upd_ne this]; exact at_.le.h _ _ q, at_.le.n⟩, at_.gs, at_.rl.put hi ha hg hF h3⟩
theorem At.frz (at_ : At K Z W0 G W ρ σ) {i : Nat} {ds : List Dt} {a : Addr} {xs : List V} (hi : ρ[i]? = some (.own ds)) (ha : σ[i]? = some (some (.ref a))) (hh : W.h a = some (.lst xs)) (hg : W.g a = none) (hF : W0.h a = none) (h3 : AllIs K W.g ds xs) :
    At K Z W0 G (W.frz a _ hh) (ρ.set i (.some (.lst ds))) σ :=
  ⟨le_frz at_.le hF hh hg, at_.gs.trans (same_new hg _), at_.rl.frz hi ha hh hg h3⟩
theorem Sim.weak {D : DEnds} {D' : Ends} (h : Sim K Z fr W0 G' D D') (s : Same G' G) : Sim K Z fr W0 G D D' :=
  ⟨fun ρ σ W' a => h.nx ρ σ W' (a.weak s), h.tl, fun ρ σ W' a => h.bk ρ σ W' (a.weak s), fun ρ σ W' a => h.ct ρ σ W' (a.weak s)⟩
end
def LiS (K : PySem.W.Frag) (Z : Hp) (fr : Fr) (ts : TS) (t : DTS) : Prop := ∀ (W0 : Vw) (G : Hp) (ρ : DS) (σ : St) (W : Vw) (D : DEnds) (D' : Ends), At K Z W0 G W ρ σ → Sim K Z fr W0 G D D' → t D ρ → ts D' σ W.h
def DSt (X : Cx) (fr : Fr) (st : Stmt) (t : DTS) : Prop := ∃ ts, PS X st ts ∧ LiS X.K (Zx X) fr ts t
def DSs (X : Cx) (fr : Fr) (sts : List Stmt) (t : DTS) : Prop := ∃ ts, PSs X sts ts ∧ LiS X.K (Zx X) fr ts t
def dNext : DTS := fun D ρ => D.nx ρ
def dSeq (t u : DTS) : DTS := fun D ρ => t { D with nx := u D } ρ
def dRet (te : DTE) : DTS := fun D ρ => te ρ D.rt
def dRetO (i : Nat) : DTS := fun D ρ => ∃ ds, ρ[i]? = some (.own ds) ∧ D.rt (.lst ds)
def dSet (i : Nat) (te : DTE) : DTS := fun D ρ => te ρ fun d => D.nx (ρ.set i (.some d))
def dSetO (i : Nat) (te : DTE) : DTS := fun D ρ => te ρ fun d => ∃ ds, d = .lst ds ∧ D.nx (ρ.set i (.own ds))
def dIfS (c : DTT) (t u : DTS) : DTS := fun D ρ => c ρ fun b => if b = true then t D ρ else u D ρ
def dNever : DTS := fun _ _ => False
def dForL (j : Nat) (te : DTE) (tb : DTS) : DTS := fun D ρ => te ρ fun d => ∃ (ds : List Dt) (Pv : Nat → DS → Prop), listOf d = some ds ∧ Pv 0 ρ ∧
  (∀ i e ρ', ds[i]? = some e → Pv i ρ' → tb { D with nx := Pv (i + 1), ct := Pv (i + 1), bk := D.nx } (ρ'.set j (.some e))) ∧ ∀ ρ', Pv ds.length ρ' → D.nx ρ'
def dForR (j : Nat) (te : DTE) (tb : DTS) : DTS := fun D ρ => te ρ fun d => ∃ (n : Int) (Pv : Nat → DS → Prop), d = .int n ∧ -(2 ^ 62) ≤ n ∧ n < 2 ^ 62 ∧ Pv 0 ρ ∧
  (∀ (i : Nat) ρ', i < n.toNat → Pv i ρ' → tb { D with nx := Pv (i + 1), ct := Pv (i + 1), bk := D.nx } (ρ'.set j (.some (.int i)))) ∧ ∀ ρ', Pv n.toNat ρ' → D.nx ρ'
def dForR2 (j : Nat) (ta : DTA) (tb : DTS) : DTS := fun D ρ => ta ρ fun ds => ∃ (m n : Int) (Pv : Nat → DS → Prop), ds = [.int m, .int n] ∧ -(2 ^ 62) ≤ m ∧ m < 2 ^ 62 ∧ -(2 ^ 62) ≤ n ∧ n < 2 ^ 62 ∧ Pv 0 ρ ∧
  (∀ (i : Nat) ρ', i < (n - m).toNat → Pv i ρ' → tb { D with nx := Pv (i + 1), ct := Pv (i + 1), bk := D.nx } (ρ'.set j (.some (.int (m + i))))) ∧ ∀ ρ', Pv (n - m).toNat ρ' → D.nx ρ'
def dWhile (c : DTT) (tb : DTS) : DTS := fun D ρ => ∃ Pv : Nat → DS → Prop, (∃ m, Pv m ρ) ∧ ∀ m ρ', Pv m ρ' →
  c ρ' fun b => if b = true then tb { D with nx := fun ρ2 => ∃ m', m' < m ∧ Pv m' ρ2, ct := fun ρ2 => ∃ m', m' < m ∧ Pv m' ρ2, bk := D.nx } ρ' else D.nx ρ'
section
variable {X : Cx} {fr : Fr} {st : Stmt} {rest : List Stmt} {t u : DTS} {e : Expr} {te : DTE} {pos p0 p1 p2 : Pos}
theorem dss_nil : DSs X fr [] dNext := ⟨_, pss_nil, fun W0 G ρ σ W D D' a s h => s.nx ρ σ W a h⟩
theorem dss_cons (h1 : DSt X fr st t) (h2 : DSs X fr rest u) : DSs X fr (st :: rest) (dSeq t u) := by
  obtain ⟨ts, p1, l1⟩ := h1
  obtain ⟨us, p2, l2⟩ := h2
  exact ⟨_, pss_cons p1 p2, fun W0 G ρ σ W D D' a s h => l1 W0 G ρ σ W { D with nx := u D } { D' with nx := us D' } a ⟨fun ρ' σ' W' a' q => l2 W0 G ρ' σ' W' D D' a' s q, s.tl, s.bk, s.ct⟩ h⟩
theorem dss_one (h : DSt X fr st t) : DSs X fr [st] t := let ⟨_, p, l⟩ := h; ⟨_, pss_one p, l⟩
def dFrz (i : Nat) (t : DTS) : DTS := fun D ρ => ∃ ds, ρ[i]? = some (.own ds) ∧ t D (ρ.set i (.some (.lst ds)))
theorem dss_frz (i : Nat) (h : DSs X fr rest t) : DSs X fr rest (dFrz i t) := by
  obtain ⟨ts, p, l⟩ := h
  refine ⟨ts, p, fun W0 G ρ σ W D D' a s h => ?_⟩
  obtain ⟨ds, e, q⟩ := h
  obtain ⟨b, xs, e1, e2, e3, e4, e5⟩ := a.rl.ow i ds e
  exact l W0 G _ σ (W.frz b _ e2) D D' (a.frz e e1 e2 e3 e4 e5) s q
theorem ds_ret (h : DE X e te) : DSt X .d (.Return (some e) pos) (dRet te) := by
  obtain ⟨tt, p, l⟩ := h
  exact ⟨_, ps_ret p, fun W0 G ρ σ W D D' a s h => l ρ σ W _ a.rl h _ fun d v W1 s1 i1 q1 => s.tl d v W1 (a.le.trans s1) i1 q1⟩
theorem ds_retF (h : DF X e te) (hf : fr = .d ∨ fr = .l := by first | exact .inl rfl | exact .inr rfl) : DSt X fr (.Return (some e) pos) (dRet te) := by
  obtain ⟨tt, p, l⟩ := h
  exact ⟨_, ps_ret p, fun W0 G ρ σ W D D' a s h => l ρ σ W _ a.rl h _ fun es q xs W1 s1 h0 h1 h2 i1 q1 => s.rf hf es q xs W1 (a.le.trans s1) (a.le.h.free h0) h1 h2 i1 q1⟩
theorem ds_retO (i : Nat) {x : Str} (hN : X.N[i]? = some x := by rfl) (hv : Vis X.env.scope x := by first | exact Or.inl rfl | exact Or.inr (Or.inl rfl) | exact Or.inr (Or.inr rfl)) (hd : (x == ("__debug__" : Str)) = false := by decide)
    (hcd : (x == ("__classdict__" : Str)) = false := by decide) (hf : fr = .d ∨ fr = .l := by first | exact .inl rfl | exact .inr rfl) : DSt X fr (.Return (some (.Name x p0)) pos) (dRetO i) := by
  refine ⟨_, ps_ret (pe_var hN hv hd hcd), fun W0 G ρ σ W D D' a s h => ?_⟩
  obtain ⟨ds, e, q⟩ := h
  obtain ⟨b, xs, e1, e2, e3, e4, e5⟩ := a.rl.ow i ds e
  exact ⟨.ref b, e1, s.rf hf ds b xs W a.le e4 e2 e3 e5 q⟩
theorem ds_set {i : Nat} {x : Str} {pos' : Pos} (hN : X.N.Nodup) (hi : X.N[i]? = some x) (hx : Loc X.env.scope x) (h : DE X e te) (hs : swapsWith e (some (.Name x pos')) pos.line X.env = pure false := by rfl) (hf : X.fn x = true ∨ X.env.scope.names.lookup x = some .local := by first | exact .inl rfl | exact .inr rfl | assumption) :
    DSt X fr (.Assign [.Name x pos'] e pos) (dSet i te) := by
  obtain ⟨tt, p, l⟩ := h
  exact ⟨_, ps_set hN hi hx p hs hf, fun W0 G ρ σ W D D' a s h => l ρ σ W _ a.rl h _ fun d v W1 s1 i1 q1 => s.nx _ _ W1 ((a.step s1).set i i1) q1⟩
theorem ds_setO {i : Nat} {x : Str} {pos' : Pos} (hN : X.N.Nodup) (hi : X.N[i]? = some x) (hx : Loc X.env.scope x) (h : DF X e te) (hs : swapsWith e (some (.Name x pos')) pos.line X.env = pure false := by rfl) (hf : X.fn x = true ∨ X.env.scope.names.lookup x = some .local := by first | exact .inl rfl | exact .inr rfl | assumption) :
    DSt X fr (.Assign [.Name x pos'] e pos) (dSetO i te) := by
  obtain ⟨tt, p, l⟩ := h
  refine ⟨_, ps_set hN hi hx p hs hf, fun W0 G ρ σ W D D' a s h => l ρ σ W _ a.rl h _ fun es q xs W1 s1 h0 h1 h2 i1 ⟨ds, ed, q1⟩ => ?_⟩
  cases ed
  exact s.nx _ _ W1 (a.own s1 i h0 h1 h2 i1) q1
theorem ds_if {c : Expr} {a b : List Stmt} {tc : DTT} (hc : DT X c tc) (ha : DSs X fr a t) (hb : DSs X fr b u) : DSt X fr (.If c a b pos) (dIfS tc t u) := by
  obtain ⟨t0, p0, l0⟩ := hc
  obtain ⟨t1, p1, l1⟩ := ha
  obtain ⟨t2, p2, l2⟩ := hb
  refine ⟨_, ps_if p0 p1 p2, fun W0 G ρ σ W D D' a s h => l0 ρ σ W _ a.rl h _ fun k W1 s1 q1 => ?_⟩
  cases k with
  | true => exact l1 W0 G ρ σ W1 D D' (a.step s1) s q1
  | false => exact l2 W0 G ρ σ W1 D D' (a.step s1) s q1
theorem ds_never : DSt X fr st dNever := ⟨_, ps_never, fun _ _ _ _ _ _ _ _ _ h => h.elim⟩
def InL (K : PySem.W.Frag) (Z : Hp) (W0 W1 : Vw) (Pv : DS → Prop) (σ : St) (H : Hp) : Prop := ∃ (ρ : DS) (W : Vw), W.h = H ∧ At K Z W0 W1.g W ρ σ ∧ Pv ρ
theorem sim_loop {K : PySem.W.Frag} {W0 W1 : Vw} {G : Hp} {D : DEnds} {D' : Ends} {Pv : DS → Prop} (s : Sim K Z fr W0 G D D') (hg : Same G W1.g) :
    Sim K Z fr W0 W1.g { D with nx := Pv, ct := Pv, bk := D.nx } { D' with nx := InL K Z W0 W1 Pv, ct := InL K Z W0 W1 Pv, bk := D'.nx } :=
  ⟨fun ρ3 σ3 W3 a3 q3 => ⟨ρ3, W3, rfl, a3, q3⟩, s.tl, fun ρ3 σ3 W3 a3 q3 => s.nx ρ3 σ3 W3 (a3.weak hg) q3, fun ρ3 σ3 W3 a3 q3 => ⟨ρ3, W3, rfl, a3, q3⟩⟩
theorem At.now {K : PySem.W.Frag} {W0 : Vw} {G : Hp} {W : Vw} {ρ : DS} {σ : St} (a : At K Z W0 G W ρ σ) : At K Z W0 W.g W ρ σ := ⟨a.le, Same.refl _, a.rl⟩
theorem ds_for {j : Nat} {x : Str} {iter : Expr} {body : List Stmt} {tb : DTS} {px : Pos} (hc : X.calm = true) (hN : X.N.Nodup) (hi : X.N[j]? = some x) (hx : Loc X.env.scope x) (hp : PassesOwn (model X.prog X.w) X.A X.env X.xe)
    (h : DE X iter te) (hb : DSs X fr body tb) (hs : ∀ x, foldedSetIterable iter X.env x = pure x := by intro _; rfl)
    (hf : X.fn x = true ∨ X.env.scope.names.lookup x = some .local := by first | exact .inl rfl | exact .inr rfl | assumption) : DSt X fr (.For (.Name x px) iter body [] pos) (dForL j te tb) := by
  obtain ⟨tt, p, l⟩ := h
  obtain ⟨tbs, p2, l2⟩ := hb
  refine ⟨_, ps_for hp hc (pi_list p) (pg_name hN hi hx hf) p2 hs, fun W0 G ρ σ W D D' at_ s h => l ρ σ W _ at_.rl h _ fun d v W1 s1 i1 ⟨ds, Pv, el, h0, ht, hd⟩ => ?_⟩
  have hg : Same G W1.g := at_.gs.trans s1.g
  have hq : ∃ a xs, v = .ref a ∧ (∀ W2 : Vw, Same W1.g W2.g → SqL X.K W2.h a xs) ∧ AllIs X.K W1.g ds xs := by
    cases d with
    | lst es =>
      obtain rfl : es = ds := Option.some.inj el
      obtain ⟨a, xs, rfl, h1, h2⟩ := is_lst.mp i1
      exact ⟨a, xs, rfl, fun W2 s2 => .of (W2.sub _ _ (s2 _ _ h1)), h2⟩
    | scr ns =>
      obtain rfl : ns.map Dt.int = ds := Option.some.inj el
      obtain ⟨a, rfl, h1⟩ := is_scr.mp i1
      exact ⟨a, _, rfl, fun W2 s2 => W2.sub.seq (s2.seq h1), AllIs.ints⟩
    | _ => cases el
  obtain ⟨a, xs, rfl, hq, ha⟩ := hq
  refine ⟨a, rfl, ⟨xs, hq W1 (Same.refl _)⟩, for_list (K := X.K) (a := a) (xs := xs) (fun i => InL X.K (Zx X) W0 W1 (Pv i)) ⟨ρ, W1, rfl, (at_.step s1).now, h0⟩ (fun i σ' H' _ ⟨_, W2, e2, a2, _⟩ => e2 ▸ hq W2 a2.gs) ?_ ?_⟩
  · rintro i x σ' _ hi ⟨ρ', W2, rfl, a2, hp2⟩
    obtain ⟨e, he, ie⟩ := ha.get' hi
    exact l2 W0 W1.g _ _ W2 { D with nx := Pv (i + 1), ct := Pv (i + 1), bk := D.nx } _ (a2.set j (Is.mono0 a2.gs ie)) (sim_loop s hg) (ht i e ρ' he hp2)
  · rintro σ' _ ⟨ρ', W2, rfl, a2, hp2⟩
    exact s.nx ρ' σ' W2 (a2.weak hg) (hd ρ' (by rw [ha.length]; exact hp2))
theorem ds_forR {j : Nat} {x : Str} {a : Expr} {body : List Stmt} {tb : DTS} {px p0 pos1 : Pos} (hc : X.calm = true) (hN : X.N.Nodup) (hi : X.N[j]? = some x) (hx : Loc X.env.scope x) (hp : PassesOwn (model X.prog X.w) X.A X.env X.xe)
    (hg : Gl X "range") (hm : X.mg "range" = none) (h : DE X a te) (hb : DSs X fr body tb) (hs : ∀ x, foldedSetIterable (.Call (.Name "range" p0) [a] [] pos1) X.env x = pure x := by intro _; rfl)
    (hst : starEach [a] X.env = [(false, eval a X.env)] := by rfl) (hst2 : starEach [a] X.env = (false, eval a X.env) :: starEach [] X.env := by rfl)
    (hf : X.fn x = true ∨ X.env.scope.names.lookup x = some .local := by first | exact .inl rfl | exact .inr rfl | assumption) : DSt X fr (.For (.Name x px) (.Call (.Name "range" p0) [a] [] pos1) body [] pos) (dForR j te tb) := by
  obtain ⟨tt, p, l⟩ := h
  obtain ⟨tbs, p2, l2⟩ := hb
  refine ⟨_, ps_for hp hc (pi_range1 hg hm (pa_cons p pa_nil hst2) hst) (pg_name hN hi hx hf) p2 hs, fun W0 G ρ σ W D D' at_ s h => l ρ σ W _ at_.rl h _ fun d v W1 s1 i1 ⟨n, Pv, ed, n1, n2, h0, ht, hd⟩ => ?_⟩
  subst ed
  have hg : Same G W1.g := at_.gs.trans s1.g
  refine ⟨n, by rw [is_int.mp i1], n1, n2, for_range (lo := 0) (n := n.toNat) (fun i => InL X.K (Zx X) W0 W1 (Pv i)) ⟨ρ, W1, rfl, (at_.step s1).now, h0⟩ ?_ ?_⟩
  · rintro i σ' _ hi ⟨ρ', W2, rfl, a2, hp2⟩
    have ez : (0 : Int) + (i : Int) = (i : Int) := Int.zero_add _
    rw [ez]
    exact l2 W0 W1.g _ _ W2 { D with nx := Pv (i + 1), ct := Pv (i + 1), bk := D.nx } _ (a2.set j (is_int.mpr rfl)) (sim_loop s hg) (ht i ρ' hi hp2)
  · rintro σ' _ ⟨ρ', W2, rfl, a2, hp2⟩
    exact s.nx ρ' σ' W2 (a2.weak hg) (hd ρ' hp2)
theorem ds_while {c : Expr} {body : List Stmt} {tc : DTT} {tb : DTS} (hp : PassesOwn (model X.prog X.w) X.A X.env X.xe) (hc : DT X c tc) (hb : DSs X fr body tb) : DSt X fr (.While c body [] pos) (dWhile tc tb) := by
  obtain ⟨t0, p0, l0⟩ := hc
  obtain ⟨tbs, p2, l2⟩ := hb
  refine ⟨_, ps_while hp p0 p2, fun W0 G ρ σ W D D' at_ s h => ?_⟩
  obtain ⟨Pv, ⟨m0, h0⟩, ht⟩ := h
  refine ⟨fun m => InL X.K (Zx X) W0 W (Pv m), ⟨m0, ρ, W, rfl, at_.now, h0⟩, ?_⟩
  rintro m σ' _ ⟨ρ', W2, rfl, a2, hp2⟩
  refine l0 ρ' σ' W2 _ a2.rl (ht m ρ' hp2) _ fun b W3 s3 q3 => ?_
  have a3 := a2.step s3
  cases b with
  | true =>
    refine ⟨InL X.K (Zx X) W0 W (fun ρ2 => ∃ m', m' < m ∧ Pv m' ρ2), fun σ4 H4 ⟨ρ4, W4, e4, a4, m', hm, p4⟩ => ⟨m', hm, ρ4, W4, e4, a4, p4⟩, ?_⟩
    exact l2 W0 W.g _ _ W3 { D with nx := fun ρ2 => ∃ m', m' < m ∧ Pv m' ρ2, ct := fun ρ2 => ∃ m', m' < m ∧ Pv m' ρ2, bk := D.nx } _ a3 (sim_loop s at_.gs) q3
  | false => exact s.nx ρ' σ' W3 (a3.weak at_.gs) q3

variable {i : Nat} {x : Str}
def dApp (i : Nat) (te : DTE) : DTS := fun D ρ => ∃ ds, ρ[i]? = some (.own ds) ∧ te ρ fun d => ds.length ≤ 100000 ∧ D.nx (ρ.set i (.own (ds ++ [d])))
theorem ds_app (i : Nat) (h : DE X e te) (hN : X.N[i]? = some x := by rfl) (hv : Vis X.env.scope x := by first | exact Or.inl rfl | exact Or.inr (Or.inl rfl) | exact Or.inr (Or.inr rfl)) (hd : (x == ("__debug__" : Str)) = false := by decide)
    (hcd : (x == ("__classdict__" : Str)) = false := by decide) (hst : starEach [e] X.env = (false, eval e X.env) :: starEach [] X.env := by rfl) (hpl : (backTo p2 (starEach [] X.env)).any (·.1) = false := by rfl)
    (hfew : ((backTo p2 (starEach [e] X.env)).all (fun x => !x.1) && (backToKw p2 (keywordEach [] X.env)).all (fun x => x.1.isSome)
      && decide ([e].length + ([] : List Keyword).length + (if ([] : List Keyword).isEmpty then 0 else 1) < 30)) = true := by rfl)
    (hbase : attributeBase (.Name x p0) "append" X.env (eval (.Name x p0) X.env) = eval (.Name x p0) X.env := by rfl) (hline : (p1.endLine == p2.line) = true := by rfl)
    (hs : swapsWith (.Call (.Attribute (.Name x p0) "append" p1) [e] [] p2) none pos.line X.env = pure false := by rfl) :
    DSt X fr (.Expr (.Call (.Attribute (.Name x p0) "append" p1) [e] [] p2) pos) (dApp i te) := by
  obtain ⟨tt, p, l⟩ := h
  refine ⟨_, ps_expr (pe_bm PySem.F.plainAttrs_list PySem.F.slot_list_append PySem.F.type_list_append mt_append (pe_var hN hv hd hcd) (pa_cons p pa_nil hst) hbase hfew hline hst hpl) hs, fun W0 G ρ σ W D D' at_ s h => ?_⟩
  obtain ⟨ds, ei, h⟩ := h
  obtain ⟨b, xs, e1, e2, e3, e4, e5⟩ := at_.rl.ow i ds ei
  refine ⟨.ref b, e1, .inl ⟨rfl, xs, .of e2⟩, l ρ σ W _ at_.rl h _ fun d v W1 s1 i1 ⟨hl, q1⟩ => ?_⟩
  have a1 := at_.step s1
  have hg1 : W1.g b = none := s1.n b (by rw [e2]; intro z; cases z) e3
  refine ⟨b, xs, v, rfl, rfl, s1.h _ _ e2, by rw [← e5.length]; exact Nat.lt_of_le_of_lt hl (by decide), ?_⟩
  exact s.nx _ _ _ (a1.put ei e1 hg1 e4 ((e5.mono s1).append (allIs_cons.mpr ⟨v, [], rfl, i1, allIs_nil.mpr rfl⟩))) q1
theorem AllIs.dropLast {G : Hp} {ds : List Dt} {xs : List V} (h : AllIs K G ds xs) : AllIs K G ds.dropLast xs.dropLast := by
  rw [List.dropLast_eq_take, List.dropLast_eq_take, h.length]
  exact h.take _
theorem AllIs.reverse {G : Hp} : ∀ {ds : List Dt} {xs : List V}, AllIs K G ds xs → AllIs K G ds.reverse xs.reverse
  | [], _, h => by rw [allIs_nil.mp h]; exact allIs_nil.mpr rfl
  | d :: ds, _, h => by
    obtain ⟨x, r, rfl, h1, h2⟩ := allIs_cons.mp h
    rw [List.reverse_cons, List.reverse_cons]
    exact (AllIs.reverse h2).append (allIs_cons.mpr ⟨x, [], rfl, h1, allIs_nil.mpr rfl⟩)
theorem AllIs.set {G : Hp} : ∀ {ds : List Dt} {xs : List V} {d : Dt} {v : V} (j : Nat), AllIs K G ds xs → Is K G d v → AllIs K G (ds.set j d) (xs.set j v)
  | [], _, _, _, _, h, _ => by rw [allIs_nil.mp h]; exact allIs_nil.mpr rfl
  | d :: ds, _, _, _, 0, h, i => by
    obtain ⟨x, r, rfl, h1, h2⟩ := allIs_cons.mp h
    exact allIs_cons.mpr ⟨_, _, rfl, i, h2⟩
  | d :: ds, _, _, _, j + 1, h, i => by
    obtain ⟨x, r, rfl, h1, h2⟩ := allIs_cons.mp h
    exact allIs_cons.mpr ⟨_, _, rfl, h1, AllIs.set j h2 i⟩
def dPop (i : Nat) : DTS := fun D ρ => ∃ ds, ρ[i]? = some (.own ds) ∧ ds.isEmpty = false ∧ D.nx (ρ.set i (.own ds.dropLast))
theorem ds_pop (i : Nat) (hN : X.N[i]? = some x := by rfl) (hv : Vis X.env.scope x := by first | exact Or.inl rfl | exact Or.inr (Or.inl rfl) | exact Or.inr (Or.inr rfl)) (hd : (x == ("__debug__" : Str)) = false := by decide)
    (hcd : (x == ("__classdict__" : Str)) = false := by decide)
    (hbase : attributeBase (.Name x p0) "pop" X.env (eval (.Name x p0) X.env) = eval (.Name x p0) X.env := by rfl) (hline : (p1.endLine == p2.line) = true := by rfl)
    (hs : swapsWith (.Call (.Attribute (.Name x p0) "pop" p1) [] [] p2) none pos.line X.env = pure false := by rfl) :
    DSt X fr (.Expr (.Call (.Attribute (.Name x p0) "pop" p1) [] [] p2) pos) (dPop i) := by
  refine ⟨_, ps_expr (pe_bm0 PySem.F.plainAttrs_list PySem.F.slot_list_pop PySem.F.type_list_pop mt_pop (pe_var hN hv hd hcd) hbase hline) hs, fun W0 G ρ σ W D D' at_ s h => ?_⟩
  obtain ⟨ds, ei, hne, q1⟩ := h
  obtain ⟨b, xs, e1, e2, e3, e4, e5⟩ := at_.rl.ow i ds ei
  have hx : xs ≠ [] := fun z => by
    have := e5.length
    rw [z] at this
    rw [List.length_eq_zero_iff.mp this] at hne
    cases hne
  have hlt : xs.length - 1 < xs.length := by
    have := List.length_pos_iff.mpr hx
    omega
  exact ⟨.ref b, e1, .inl ⟨rfl, xs, .of e2⟩, b, xs, xs[xs.length - 1], rfl, rfl, e2, List.getElem?_eq_getElem hlt, s.nx _ _ _ (at_.put ei e1 e3 e4 e5.dropLast) q1⟩
def dRev (i : Nat) : DTS := fun D ρ => ∃ ds, ρ[i]? = some (.own ds) ∧ D.nx (ρ.set i (.own ds.reverse))
theorem ds_rev (i : Nat) (hN : X.N[i]? = some x := by rfl) (hv : Vis X.env.scope x := by first | exact Or.inl rfl | exact Or.inr (Or.inl rfl) | exact Or.inr (Or.inr rfl)) (hd : (x == ("__debug__" : Str)) = false := by decide)
    (hcd : (x == ("__classdict__" : Str)) = false := by decide)
    (hbase : attributeBase (.Name x p0) "reverse" X.env (eval (.Name x p0) X.env) = eval (.Name x p0) X.env := by rfl) (hline : (p1.endLine == p2.line) = true := by rfl)
    (hs : swapsWith (.Call (.Attribute (.Name x p0) "reverse" p1) [] [] p2) none pos.line X.env = pure false := by rfl) :
    DSt X fr (.Expr (.Call (.Attribute (.Name x p0) "reverse" p1) [] [] p2) pos) (dRev i) := by
  refine ⟨_, ps_expr (pe_bm0 PySem.F.plainAttrs_list PySem.F.slot_list_reverse PySem.F.type_list_reverse mt_reverse (pe_var hN hv hd hcd) hbase hline) hs, fun W0 G ρ σ W D D' at_ s h => ?_⟩
  obtain ⟨ds, ei, q1⟩ := h
  obtain ⟨b, xs, e1, e2, e3, e4, e5⟩ := at_.rl.ow i ds ei
  exact ⟨.ref b, e1, .inl ⟨rfl, xs, .of e2⟩, b, xs, rfl, rfl, e2, s.nx _ _ _ (at_.put ei e1 e3 e4 e5.reverse) q1⟩
def dPut (i : Nat) (ti te : DTE) : DTS := fun D ρ => ∃ ds, ρ[i]? = some (.own ds) ∧ te ρ fun d => ti ρ fun z => ∃ n j, z = .int n ∧ ixN ds.length n = some j ∧ D.nx (ρ.set i (.own (ds.set j d)))
theorem ds_put (i : Nat) {k : Expr} {ti : DTE} (hk : DE X k ti) (h : DE X e te) (hN : X.N[i]? = some x := by rfl) (hv : Vis X.env.scope x := by first | exact Or.inl rfl | exact Or.inr (Or.inl rfl) | exact Or.inr (Or.inr rfl)) (hd : (x == ("__debug__" : Str)) = false := by decide)
    (hcd : (x == ("__classdict__" : Str)) = false := by decide)
    (ha : ∀ v, assign (.Subscript (.Name x p0) k p1) X.env v = (do
      let ov ← holding [v] (eval (.Name x p0) X.env)
      let iv ← holding [v, ov] (eval k X.env)
      standAt p1
      holding [v, ov, iv] (setItem ov iv v)
      release [v, ov, iv] []) := by intro _; rfl)
    (hs : swapsWithSole [.Subscript (.Name x p0) k p1] e pos.line X.env = pure false := by rfl) (hw : swappedStores [.Subscript (.Name x p0) k p1] e X.env = pure none := by rfl)
    (h1 : (assignEach [.Subscript (.Name x p0) k p1] X.env).map (·.2) = [assign (.Subscript (.Name x p0) k p1) X.env] := by rfl) :
    DSt X fr (.Assign [.Subscript (.Name x p0) k p1] e pos) (dPut i ti te) := by
  obtain ⟨tt, p, l⟩ := h
  obtain ⟨tk, pk, lk⟩ := hk
  refine ⟨_, ps_asg p (pg_sub (pe_var hN hv hd hcd) pk set_list ha) hs hw h1, fun W0 G ρ σ W D D' at_ s h => ?_⟩
  obtain ⟨ds, ei, h⟩ := h
  refine l ρ σ W _ at_.rl h _ fun d v W1 s1 i1 q1 => ?_
  have a1 := at_.step s1
  obtain ⟨b, xs, e1, e2, e3, e4, e5⟩ := a1.rl.ow i ds ei
  refine ⟨.ref b, e1, lk ρ σ W1 _ a1.rl q1 _ fun z u W2 s2 i2 ⟨n, j, ez, ej, q2⟩ => ?_⟩
  subst ez
  have a2 := a1.step s2
  have hg2 : W2.g b = none := s2.n b (by rw [e2]; intro z; cases z) e3
  refine ⟨b, xs, n, j, rfl, is_int.mp i2, s2.h _ _ e2, by rw [← e5.length]; exact ej, ?_⟩
  exact s.nx _ _ _ (a2.put ei e1 hg2 e4 ((e5.mono s2).set j (i1.mono s2))) q2
end

section
variable {P : Program} {w : World} {K : PySem.W.Frag} {mg : Str → Option Value} {base : Heap}
theorem at_start {W : Vw} {N : List Str} {ds : List Dt} {vs : List V} (ia : AllIs K W.g ds vs) (hz : Z = W.h) : At K Z W W.g W (dstart N.length ds) (start N vs) := ⟨Le.refl W, Same.refl _, Rl.start ia (hz ▸ Same.refl _)⟩
theorem okD {x qual : Str} {st : Stmt} {f : Addr} {fd : FuncData} {N ps : List Str} {k : Nat} {S : DSp} (F : Fun K x qual st f fd) (sc : FnScope N ps (defScope st)) (len : ∀ ds Q, S ds Q → ds.length = ps.length)
    (hbody : ∀ (cdv : Value) (A : Around) (outer : List Env) (s : Shared) (H : Hp) (E : XK), Room k (A.deeper (envOfC qual (defScope st) s.heap.objs.size f cdv)) → ∀ (ds : List Dt) (Q : Dt → Prop), S ds Q →
      ∃ t, DSs (cxOf CX0 P w K mg base N qual (defScope st) f cdv A outer s H E).nox .d (defBody st) t ∧ t { nx := fun _ => Q .non, rt := Q } (dstart N.length ds)) : FnOk P w K mg base CX0 (k + 1) f fd ps (PureSp K S) := by
  refine F.ok sc (fun vs H Q E h => ?_) (fun cdv A outer s H vs Q E hr h => ?_)
  · obtain ⟨W, ds, Qd, _, ia, hS, _⟩ := h
    rw [← ia.length]
    exact len ds Qd hS
  obtain ⟨W, ds, Qd, rfl, ia, hS, kk⟩ := h
  obtain ⟨t, ⟨ts, p, l⟩, ht⟩ := hbody cdv A outer s W.h E hr ds Qd hS
  refine ⟨ts, p, l W W.g (dstart N.length ds) (start N vs) W { nx := fun _ => Qd .non, rt := Qd } _ (at_start ia (zx_stk (Nat.succ_ne_self _))) ⟨fun ρ σ W' a q => kk .non .non W' a.le (is_non.mpr rfl) q, fun d v W' s' i' q => kk d v W' s' i' q, fun _ _ _ _ q => q.elim, fun _ _ _ _ q => q.elim⟩ ht⟩
theorem okF {x qual : Str} {st : Stmt} {f : Addr} {fd : FuncData} {N ps : List Str} {k : Nat} {S : DSp} (F : Fun K x qual st f fd) (sc : FnScope N ps (defScope st)) (len : ∀ ds Q, S ds Q → ds.length = ps.length)
    (hbody : ∀ (cdv : Value) (A : Around) (outer : List Env) (s : Shared) (H : Hp) (E : XK), Room k (A.deeper (envOfC qual (defScope st) s.heap.objs.size f cdv)) → ∀ (ds : List Dt) (Q : Dt → Prop), S ds Q →
      ∃ t, DSs (cxOf CX0 P w K mg base N qual (defScope st) f cdv A outer s H E).nox .l (defBody st) t ∧ t { nx := fun _ => False, rt := Q } (dstart N.length ds)) : FnOk P w K mg base CX0 (k + 1) f fd ps (FreshSp K S) := by
  refine F.ok sc (fun vs H Q E h => ?_) (fun cdv A outer s H vs Q E hr h => ?_)
  · obtain ⟨W, ds, Qd, _, ia, hS, _⟩ := h
    rw [← ia.length]
    exact len ds Qd hS
  obtain ⟨W, ds, Qd, rfl, ia, hS, kk⟩ := h
  obtain ⟨t, ⟨ts, p, l⟩, ht⟩ := hbody cdv A outer s W.h E hr ds Qd hS
  exact ⟨ts, p, l W W.g (dstart N.length ds) (start N vs) W { nx := fun _ => False, rt := Qd } _ (at_start ia (zx_stk (Nat.succ_ne_self _))) ⟨fun ρ σ W' a q => q.elim, fun d v W' s' ⟨es, p, xs, e1, e2, e3, e4, e5, e6⟩ q => by subst e1; subst e2; exact kk es p xs W' s' e3 e4 e5 e6 q, fun _ _ _ _ q => q.elim, fun _ _ _ _ q => q.elim⟩ ht⟩
theorem DOk.mk' {x qual : Str} {st : Stmt} {f : Addr} {fd : FuncData} {ps : List Str} {n : Nat} {S : DSp} (F : Fun K x qual st f fd) (hm : mg x = some (.ref f)) (hb : Binds K fd ps []) (h : FnOk P w K mg base CX0 n f fd ps (PureSp K S)) : DOk P w K mg base n x S :=
  ⟨f, fd, ps, hm, F.kp, hb, h⟩
theorem FOk.mk' {x qual : Str} {st : Stmt} {f : Addr} {fd : FuncData} {ps : List Str} {n : Nat} {S : DSp} (F : Fun K x qual st f fd) (hm : mg x = some (.ref f)) (hb : Binds K fd ps []) (h : FnOk P w K mg base CX0 n f fd ps (FreshSp K S)) : FOk P w K mg base n x S :=
  ⟨f, fd, ps, hm, F.kp, hb, h⟩
theorem DOk.mono {x : Str} {m n : Nat} {S : DSp} (h : DOk P w K mg base m x S) (hl : m ≤ n) : DOk P w K mg base n x S :=
  let ⟨f, fd, ps, h1, h2, h3, h4⟩ := h.ex; ⟨f, fd, ps, h1, h2, h3, h4.mono hl⟩
theorem FOk.mono {x : Str} {m n : Nat} {S : DSp} (h : FOk P w K mg base m x S) (hl : m ≤ n) : FOk P w K mg base n x S :=
  let ⟨f, fd, ps, h1, h2, h3, h4⟩ := h.ex; ⟨f, fd, ps, h1, h2, h3, h4.mono hl⟩
theorem MOk.mono {C : Addr} {x : Str} {m n : Nat} {S : DSp} (h : MOk P w K mg base m C x S) (hl : m ≤ n) : MOk P w K mg base n C x S :=
  ⟨h.cl, let ⟨f, fd, ps, h1, h3, h4⟩ := h.ex; ⟨f, fd, ps, h1, h3, h4.mono hl⟩⟩
theorem FMOk.mono {C : Addr} {x : Str} {m n : Nat} {S : DSp} (h : FMOk P w K mg base m C x S) (hl : m ≤ n) : FMOk P w K mg base n C x S :=
  ⟨h.cl, let ⟨f, fd, ps, h1, h3, h4⟩ := h.ex; ⟨f, fd, ps, h1, h3, h4.mono hl⟩⟩
theorem MOk.imp {C : Addr} {x : Str} {n : Nat} {S S' : DSp} (h : MOk P w K mg base n C x S) (hi : ∀ ds Q, S' ds Q → S ds Q) : MOk P w K mg base n C x S' :=
  ⟨h.cl, let ⟨f, fd, ps, h1, h3, h4⟩ := h.ex; ⟨f, fd, ps, h1, h3, h4.imp fun vs H Q E ⟨W, ds, Qd, a, b, c, d⟩ => ⟨W, ds, Qd, a, b, hi _ _ c, d⟩⟩⟩
theorem FMOk.imp {C : Addr} {x : Str} {n : Nat} {S S' : DSp} (h : FMOk P w K mg base n C x S) (hi : ∀ ds Q, S' ds Q → S ds Q) : FMOk P w K mg base n C x S' :=
  ⟨h.cl, let ⟨f, fd, ps, h1, h3, h4⟩ := h.ex; ⟨f, fd, ps, h1, h3, h4.imp fun vs H Q E ⟨W, ds, Qd, a, b, c, d⟩ => ⟨W, ds, Qd, a, b, hi _ _ c, d⟩⟩⟩
theorem DOk.imp {x : Str} {n : Nat} {S S' : DSp} (h : DOk P w K mg base n x S) (hi : ∀ ds Q, S' ds Q → S ds Q) : DOk P w K mg base n x S' :=
  let ⟨f, fd, ps, h1, h2, h3, h4⟩ := h.ex; ⟨f, fd, ps, h1, h2, h3, h4.imp fun vs H Q E ⟨W, ds, Qd, a, b, c, d⟩ => ⟨W, ds, Qd, a, b, hi _ _ c, d⟩⟩
theorem init_ok {qual : Str} {st : Stmt} {g C : Addr} {fd : FuncData} {y f : Str} {k : Nat} {ok : Int → Prop} (F : Fun K "__init__" qual st g fd) (sc : FnScope ["self", y] ["self", y] (defScope st)) (cl : Cls K C) (na : NoAttr K C f)
    (hbody : ∀ (cdv : Value) (A : Around) (outer : List Env) (s : Shared) (H : Hp) (E : XK), Room k (A.deeper (envOfC qual (defScope st) s.heap.objs.size g cdv)) →
      ∃ te t, PSs (cxOf CX0 P w K mg base ["self", y] qual (defScope st) g cdv A outer s H E).nox (defBody st) (sFld K (tVar 0) te f) ∧ LiE K (Zx (cxOf CX0 P w K mg base ["self", y] qual (defScope st) g cdv A outer s H E)) te t ∧ ∀ i, ok i → t [.none, .some (.int i)] fun d => d = .int i) :
    FnOk P w K mg base CX0 (k + 1) g fd ["self", y] (spInitW C f ok) := by
  refine F.ok sc (fun vs H Q E h => ?_) (fun cdv A outer s H vs Q E hr h => ?_)
  · obtain ⟨p, dx, i, rfl, _⟩ := h
    rfl
  obtain ⟨p, dx, i, rfl, hp, hok, q⟩ := h
  obtain ⟨te, t, ps, l, ht⟩ := hbody cdv A outer s H E hr
  rw [zx_def] at l
  refine ⟨_, ps, l (F := H) [.none, .some (.int i)] _ ⟨H, H, Same.refl H⟩ _ ⟨rfl, fun j d e => ?_, fun j ds e => ?_, fun j j' ds es _ e _ => ?_, Same.refl H, Same.refl H, fun j a ds e => ?_⟩ (ht i hok) _ fun d v W1 s1 i1 ed => ?_⟩
  · match j, e with
    | 0, e => cases e
    | 1, e =>
      have e' : Dt.int i = d := by cases e; rfl
      subst e'
      exact ⟨.int i, rfl, is_int.mpr rfl⟩
    | j + 2, e => cases e
  · match j, e with
    | 0, e => cases e
    | 1, e => cases e
    | j + 2, e => cases e
  · match j, e with
    | 0, e => cases e
    | 1, e => cases e
    | j + 2, e => cases e
  · match j, e with
    | 0, e => cases e
    | 1, e => cases e
    | j + 2, e => cases e
  · subst ed
    obtain rfl := is_int.mp i1
    refine ⟨.ref p, rfl, p, C, dx, [], rfl, s1.h _ _ hp, cl, na, (by show 0 < 1000; decide), ?_⟩
    refine q _ upd_same fun b o hb hbp => ?_
    rw [upd_ne hbp]
    exact s1.h _ _ hb
end
end OD

namespace OD
open PySem PySem.Spec PyProof.Rows L2
mutual
/-- Python's == of data -/
def eqD : Dt → Dt → Bool
  | .non, .non => true
  | .bl a, .bl b => a == b
  | .bl a, .int b => (if a then (1 : Int) else 0) == b
  | .int a, .bl b => a == (if b then (1 : Int) else 0)
  | .int a, .int b => a == b
  | .str a, .str b => a == b
  | .tup ds, .tup es => eqDs ds es
  | .lst ds, .lst es => eqDs ds es
  | _, _ => false
def eqDs : List Dt → List Dt → Bool
  | [], [] => true
  | d :: ds, e :: es => eqD d e && eqDs ds es
  | _, _ => false
end
def okE : Nat → Dt → Bool
  | _, .non => true
  | _, .bl _ => true
  | _, .int _ => true
  | _, .str _ => true
  | n + 1, .tup ds => ds.all (okE n)
  | n + 1, .lst ds => ds.all (okE n)
  | _, _ => false
theorem eqD_int (a b : Int) : eqD (.int a) (.int b) = (a == b) := by unfold eqD; rfl
theorem eqD_bl (a b : Bool) : eqD (.bl a) (.bl b) = (a == b) := by unfold eqD; rfl
theorem eqD_str (a b : Str) : eqD (.str a) (.str b) = (a == b) := by unfold eqD; rfl
theorem eqD_tup (ds es : List Dt) : eqD (.tup ds) (.tup es) = eqDs ds es := by rw [eqD]
theorem eqD_lst (ds es : List Dt) : eqD (.lst ds) (.lst es) = eqDs ds es := by rw [eqD]
theorem eqDs_nil : eqDs [] [] = true := by unfold eqDs; rfl
theorem eqDs_cons (d e : Dt) (ds es : List Dt) : eqDs (d :: ds) (e :: es) = (eqD d e && eqDs ds es) := by rw [eqDs]
theorem eqDs_nil_cons (e : Dt) (es : List Dt) : eqDs [] (e :: es) = false := by unfold eqDs; rfl
theorem eqDs_cons_nil (e : Dt) (es : List Dt) : eqDs (e :: es) [] = false := by unfold eqDs; rfl
theorem eqDs_range : ∀ ds es : List Dt, (((List.range (min ds.length es.length)).all fun j => eqD (ds.getD j .non) (es.getD j .non)) && (ds.length == es.length)) = eqDs ds es
  | [], [] => by rw [eqDs_nil]; rfl
  | [], e :: es => by
    rw [eqDs_nil_cons]
    have h : ((([] : List Dt).length == (e :: es).length)) = false := by simp
    rw [h, Bool.and_false]
  | d :: ds, [] => by
    rw [eqDs_cons_nil]
    have h : (((d :: ds).length == ([] : List Dt).length)) = false := by simp
    rw [h, Bool.and_false]
  | d :: ds, e :: es => by
    have ih := eqDs_range ds es
    rw [eqDs_cons, ← ih]
    have hm : min (d :: ds).length (e :: es).length = min ds.length es.length + 1 := by
      rw [List.length_cons, List.length_cons]; omega
    rw [hm, List.range_succ_eq_map, List.all_cons, List.all_map, Bool.and_assoc]
    have hl : ((d :: ds).length == (e :: es).length) = (ds.length == es.length) := by
      rw [List.length_cons, List.length_cons]
      rw [Bool.eq_iff_iff, beq_iff_eq, beq_iff_eq]
      omega
    rw [hl]
    rfl
theorem eqDs_lens {ds es : List Dt} (h : ds.length ≠ es.length) : eqDs ds es = false := by
  rw [← eqDs_range ds es]
  have h : (ds.length == es.length) = false := beq_eq_false_iff_ne.mpr h
  rw [h, Bool.and_false]
theorem eqDs_all {ds es : List Dt} (h : ds.length = es.length) : ((List.range ds.length).all fun j => eqD (ds.getD j .non) (es.getD j .non)) = eqDs ds es := by
  rw [← eqDs_range ds es]
  have h' : (ds.length == es.length) = true := beq_iff_eq.mpr h
  rw [h', Bool.and_true, ← h, Nat.min_self]
theorem eqDs_self : ∀ {ds : List Dt}, (∀ d ∈ ds, eqD d d = true) → eqDs ds ds = true
  | [], _ => eqDs_nil
  | d :: ds, h => by
    rw [eqDs_cons, h d List.mem_cons_self, eqDs_self fun e he => h e (List.mem_cons_of_mem _ he)]
    rfl
theorem eqD_self : ∀ (n : Nat) {d : Dt}, okE n d = true → eqD d d = true := by
  intro n
  induction n with
  | zero =>
    intro d h
    cases d with
    | non => unfold eqD; rfl
    | bl b => rw [eqD_bl]; exact beq_self_eq_true _
    | int b => rw [eqD_int]; exact beq_self_eq_true _
    | str b => rw [eqD_str]; exact beq_self_eq_true _
    | _ => simp [okE] at h
  | succ n ih =>
    intro d h
    cases d with
    | non => unfold eqD; rfl
    | bl b => rw [eqD_bl]; exact beq_self_eq_true _
    | int b => rw [eqD_int]; exact beq_self_eq_true _
    | str b => rw [eqD_str]; exact beq_self_eq_true _
    | tup ds =>
      rw [eqD_tup]
      have h' : ∀ d ∈ ds, okE n d = true := by simpa [okE] using h
      exact eqDs_self fun d hd => ih (h' d hd)
    | lst ds =>
      rw [eqD_lst]
      have h' : ∀ d ∈ ds, okE n d = true := by simpa [okE] using h
      exact eqDs_self fun d hd => ih (h' d hd)
    | _ => simp [okE] at h
example : eqD (.int ((2 : Nat) : Int)) (.int 2) = true := by rfl
section
variable {X : Cx} {pins : List (Addr × Obj)} {σ : St} {K : PySem.W.Frag} {H : Hp} {s : Shared}
theorem eqs_of : ∀ {ds es : List Dt} {xs : List V}, (∀ d e v, d ∈ ds → e ∈ es → Is K H d v → Is K H e v → eqD d e = true) → AllIs K H ds xs → AllIs K H es xs → eqDs ds es = true
  | [], es, xs, ih, i1, i2 => by
    obtain rfl := allIs_nil.mp i1
    cases es with
    | nil => exact eqDs_nil
    | cons e es => obtain ⟨_, _, z, _⟩ := allIs_cons.mp i2; cases z
  | d :: ds, es, xs, ih, i1, i2 => by
    obtain ⟨x, r, rfl, j1, j2⟩ := allIs_cons.mp i1
    cases es with
    | nil => cases allIs_nil.mp i2
    | cons e es =>
      obtain ⟨y, r', z, k1, k2⟩ := allIs_cons.mp i2
      cases z
      rw [eqDs_cons, ih d e x List.mem_cons_self List.mem_cons_self j1 k1, eqs_of (fun d' e' v' hd he => ih d' e' v' (List.mem_cons_of_mem _ hd) (List.mem_cons_of_mem _ he)) j2 k2]
      rfl
def flatD : Dt → Bool
  | .non => true
  | .bl _ => true
  | .int _ => true
  | .str _ => true
  | _ => false
def vD : Dt → V
  | .bl b => .bl b
  | .int i => .int i
  | .str x => .str x
  | _ => .non
theorem is_flat {d : Dt} {v : V} (h : flatD d = true) (i : Is K H d v) : v = vD d := by
  cases d <;> first | exact is_non.mp i | exact is_bl.mp i | exact is_int.mp i | exact is_str.mp i | cases h
theorem flat_V {d : Dt} (h : flatD d = true) : flatV (vD d) = true := by cases d <;> first | rfl | cases h
theorem flat_ref {d : Dt} {a : Addr} (h : flatD d = true) (e : vD d = .ref a) : False := by cases d <;> first | cases e | cases h
theorem eqV_self {v : V} (h : flatV v = true) : eqV v v = true := by cases v <;> first | rfl | exact beq_self_eq_true _ | cases h
theorem eqD_flat {d e : Dt} (h1 : flatD d = true) (h2 : flatD e = true) : eqD d e = eqV (vD d) (vD e) := by cases d <;> first | exact absurd h1 Bool.false_ne_true | (cases e <;> first | exact absurd h2 Bool.false_ne_true | rfl)
theorem eqD_ft {d : Dt} {es : List Dt} (h : flatD d = true) : eqD d (.tup es) = false ∧ eqD (.tup es) d = false ∧ eqD d (.lst es) = false ∧ eqD (.lst es) d = false := by
  cases d <;> first | exact ⟨rfl, rfl, rfl, rfl⟩ | cases h
theorem shape {n : Nat} {d : Dt} (h : okE n d = true) : flatD d = true ∨ ∃ m ds, n = m + 1 ∧ (d = .tup ds ∨ d = .lst ds) ∧ ∀ d ∈ ds, okE m d = true := by
  cases d with
  | non => exact .inl rfl
  | bl b => exact .inl rfl
  | int b => exact .inl rfl
  | str b => exact .inl rfl
  | tup ds =>
    cases n with
    | zero => simp [okE] at h
    | succ m => exact .inr ⟨m, ds, rfl, .inl rfl, by simpa [okE] using h⟩
  | lst ds =>
    cases n with
    | zero => simp [okE] at h
    | succ m => exact .inr ⟨m, ds, rfl, .inr rfl, by simpa [okE] using h⟩
  | _ => cases n <;> simp [okE] at h
theorem eq_same : ∀ (n : Nat) {d e : Dt} {v : V}, okE n d = true → okE n e = true → Is K H d v → Is K H e v → eqD d e = true := by
  intro n
  induction n with
  | zero =>
    intro d e v h1 h2 i1 i2
    rcases shape h1 with f1 | ⟨m, ds, z, _⟩
    · rcases shape h2 with f2 | ⟨m, ds, z, _⟩
      · rw [eqD_flat f1 f2, ← is_flat f1 i1, ← is_flat f2 i2]
        exact eqV_self (by rw [is_flat f1 i1]; exact flat_V f1)
      · cases z
    · cases z
  | succ n ih =>
    intro d e v h1 h2 i1 i2
    rcases shape h1 with f1 | ⟨m, ds, z, hk, hd⟩
    · rcases shape h2 with f2 | ⟨m, es, z, hk, he⟩
      · rw [eqD_flat f1 f2, ← is_flat f1 i1, ← is_flat f2 i2]
        exact eqV_self (by rw [is_flat f1 i1]; exact flat_V f1)
      · obtain rfl := is_flat f1 i1
        rcases hk with rfl | rfl
        · obtain ⟨_, _, e, _⟩ := is_tup.mp i2; exact (flat_ref f1 e).elim
        · obtain ⟨_, _, e, _⟩ := is_lst.mp i2; exact (flat_ref f1 e).elim
    · cases z
      rcases shape h2 with f2 | ⟨m, es, z, hk2, he⟩
      · obtain rfl := is_flat f2 i2
        rcases hk with rfl | rfl
        · obtain ⟨_, _, e, _⟩ := is_tup.mp i1; exact (flat_ref f2 e).elim
        · obtain ⟨_, _, e, _⟩ := is_lst.mp i1; exact (flat_ref f2 e).elim
      · cases z
        rcases hk with rfl | rfl
        · obtain ⟨a, xs, rfl, hx, ha⟩ := is_tup.mp i1
          rcases hk2 with rfl | rfl
          · obtain ⟨b, ys, eb, hy, hb⟩ := is_tup.mp i2
            cases eb
            rw [hx] at hy
            cases hy
            rw [eqD_tup]
            exact eqs_of (fun d e v q1 q2 => ih (hd d q1) (he e q2)) ha hb
          · obtain ⟨b, ys, eb, hy, hb⟩ := is_lst.mp i2
            cases eb
            rw [hx] at hy
            cases hy
        · obtain ⟨a, xs, rfl, hx, ha⟩ := is_lst.mp i1
          rcases hk2 with rfl | rfl
          · obtain ⟨b, ys, eb, hy, hb⟩ := is_tup.mp i2
            cases eb
            rw [hx] at hy
            cases hy
          · obtain ⟨b, ys, eb, hy, hb⟩ := is_lst.mp i2
            cases eb
            rw [hx] at hy
            cases hy
            rw [eqD_lst]
            exact eqs_of (fun d e v q1 q2 => ih (hd d q1) (he e q2)) ha hb
section
variable {A : Around}
open SeqAt
theorem flat_tupE {d : Dt} {v : Value} {b : Addr} {its : Array Value} (f : flatD d = true) (q : RelV (vD d) v) (t : s.heap.IsTuple b its) (hA : A.units < cLine) :
    (EqAt A s v (.ref b) false ∧ EqAt A s (.ref b) v false) ∧ (RcAt A s v (.ref b) false ∧ RcNeAt A s v (.ref b) true) ∧ RcAt A s (.ref b) v false ∧ RcNeAt A s (.ref b) v true := by
  cases d with
  | non => cases q; exact ⟨⟨.none_tuple t hA, .tuple_none t hA⟩, ⟨.none_tuple t hA, .none_tuple t hA⟩, .tuple_none t hA, .tuple_none t hA⟩
  | bl a => cases q; exact ⟨⟨.bool_tuple a t hA, .tuple_bool a t hA⟩, ⟨.bool_tuple a t hA, .bool_tuple a t hA⟩, .tuple_bool a t hA, .tuple_bool a t hA⟩
  | int a => obtain ⟨u, rfl⟩ := q; exact ⟨⟨.int_tuple a u t hA, .tuple_int a u t hA⟩, ⟨.int_tuple a u t hA, .int_tuple a u t hA⟩, .tuple_int a u t hA, .tuple_int a u t hA⟩
  | str a => obtain ⟨u, rfl⟩ := q; exact ⟨⟨.str_tuple a u t hA, .tuple_str a u t hA⟩, ⟨.str_tuple a u t hA, .str_tuple a u t hA⟩, .tuple_str a u t hA, .tuple_str a u t hA⟩
  | _ => cases f
theorem flat_lstE {d : Dt} {v : Value} {b : Addr} {its : Array Value} (f : flatD d = true) (q : RelV (vD d) v) (t : s.heap.IsList b its) (hA : A.units < cLine) :
    (EqAt A s v (.ref b) false ∧ EqAt A s (.ref b) v false) ∧ (RcAt A s v (.ref b) false ∧ RcNeAt A s v (.ref b) true) ∧ RcAt A s (.ref b) v false ∧ RcNeAt A s (.ref b) v true := by
  cases d with
  | non => cases q; exact ⟨⟨.none_list t hA, .list_none t hA⟩, ⟨.none_list t hA, .none_list t hA⟩, .list_none t hA, .list_none t hA⟩
  | bl a => cases q; exact ⟨⟨.bool_list a t hA, .list_bool a t hA⟩, ⟨.bool_list a t hA, .bool_list a t hA⟩, .list_bool a t hA, .list_bool a t hA⟩
  | int a => obtain ⟨u, rfl⟩ := q; exact ⟨⟨.int_list a u t hA, .list_int a u t hA⟩, ⟨.int_list a u t hA, .int_list a u t hA⟩, .list_int a u t hA, .list_int a u t hA⟩
  | str a => obtain ⟨u, rfl⟩ := q; exact ⟨⟨.str_list a u t hA, .list_str a u t hA⟩, ⟨.str_list a u t hA, .str_list a u t hA⟩, .list_str a u t hA, .list_str a u t hA⟩
  | _ => cases f
theorem flat_rc {d e : Dt} {v u : Value} (f1 : flatD d = true) (f2 : flatD e = true) (q1 : RelV (vD d) v) (q2 : RelV (vD e) u) : RcAt A s v u (eqD d e) ∧ RcNeAt A s v u (!eqD d e) := by
  cases d with
  | non =>
    cases q1
    cases e with
    | non => cases q2; exact ⟨.none_none, .none_none⟩
    | bl b => cases q2; exact ⟨.none_bool b, .none_bool b⟩
    | int b => obtain ⟨t, rfl⟩ := q2; exact ⟨.none_int b t, .none_int b t⟩
    | str b => obtain ⟨t, rfl⟩ := q2; exact ⟨.none_str b t, .none_str b t⟩
    | _ => cases f2
  | bl a =>
    cases q1
    cases e with
    | non => cases q2; exact ⟨.bool_none a, .bool_none a⟩
    | bl b => cases q2; exact ⟨.bool_bool a b, .bool_bool a b⟩
    | int b => obtain ⟨t, rfl⟩ := q2; exact ⟨.bool_int a b t, .bool_int a b t⟩
    | str b => obtain ⟨t, rfl⟩ := q2; exact ⟨.bool_str a b t, .bool_str a b t⟩
    | _ => cases f2
  | int a =>
    obtain ⟨ta, rfl⟩ := q1
    cases e with
    | non => cases q2; exact ⟨.int_none a ta, .int_none a ta⟩
    | bl b => cases q2; exact ⟨.int_bool a ta b, .int_bool a ta b⟩
    | int b => obtain ⟨t, rfl⟩ := q2; exact ⟨.int_int a ta b t, .int_int a ta b t⟩
    | str b => obtain ⟨t, rfl⟩ := q2; exact ⟨.int_str a ta b t, .int_str a ta b t⟩
    | _ => cases f2
  | str a =>
    obtain ⟨ta, rfl⟩ := q1
    cases e with
    | non => cases q2; exact ⟨.str_none a ta, .str_none a ta⟩
    | bl b => cases q2; exact ⟨.str_bool a ta b, .str_bool a ta b⟩
    | int b => obtain ⟨t, rfl⟩ := q2; exact ⟨.str_int a ta b t, .str_int a ta b t⟩
    | str b => obtain ⟨t, rfl⟩ := q2; exact ⟨.str_str a ta b t, .str_str a ta b t⟩
    | _ => cases f2
  | _ => cases f1
end
theorem items_eq {n : Nat} {A : Around} {ds es : List Dt} {xs ys : List V} {its its2 : List Value}
    (ih : ∀ {d e : Dt} {x y : V} {v u : Value}, okE n d = true → okE n e = true → Is K H d x → Is K H e y → RelV x v → RelV y u → SeqAt.EqAt A s v u (eqD d e))
    (hd : ∀ d ∈ ds, okE n d = true) (he : ∀ d ∈ es, okE n d = true) (a1 : AllIs K H ds xs) (a2 : AllIs K H es ys) (r1 : Vals xs its) (r2 : Vals ys its2) :
    ∀ j (h1 : j < its.toArray.size) (h2 : j < its2.toArray.size), SeqAt.EqAt A s its.toArray[j] its2.toArray[j] (eqD (ds.getD j .non) (es.getD j .non)) := by
  intro j h1 h2
  have l1 := a1.length.trans r1.length
  have l2 := a2.length.trans r2.length
  rw [List.size_toArray] at h1 h2
  have g1 : ds[j]? = some ds[j] := List.getElem?_eq_getElem (by omega)
  have g2 : es[j]? = some es[j] := List.getElem?_eq_getElem (by omega)
  obtain ⟨x, e1, i1⟩ := a1.get g1
  obtain ⟨y, e2, i2⟩ := a2.get g2
  obtain ⟨v, e3, q1⟩ := r1.get e1
  obtain ⟨u, e4, q2⟩ := r2.get e2
  have f1 : ds.getD j .non = ds[j] := by rw [List.getD_eq_getElem?_getD, g1]; rfl
  have f2 : es.getD j .non = es[j] := by rw [List.getD_eq_getElem?_getD, g2]; rfl
  have f3 : its.toArray[j] = v := by
    have z : its[j]? = some its[j] := List.getElem?_eq_getElem h1
    rw [z] at e3
    simpa using Option.some.inj e3
  have f4 : its2.toArray[j] = u := by
    have z : its2[j]? = some its2[j] := List.getElem?_eq_getElem h2
    rw [z] at e4
    simpa using Option.some.inj e4
  rw [f1, f2, f3, f4]
  exact ih (hd _ (List.mem_of_getElem? g1)) (he _ (List.mem_of_getElem? g2)) i1 i2 q1 q2
theorem eq_at (I : Inv X pins σ H s) : ∀ (n : Nat) {A : Around} {d e : Dt} {x y : V} {v u : Value}, A.units + n < cLine → okE n d = true → okE n e = true → Is X.K H d x → Is X.K H e y → RelV x v → RelV y u → SeqAt.EqAt A s v u (eqD d e) := by
  intro n
  induction n with
  | zero =>
    intro A d e x y v u hu h1 h2 i1 i2 q1 q2
    rcases shape h1 with f1 | ⟨m, ds, z, _⟩
    · rcases shape h2 with f2 | ⟨m, ds, z, _⟩
      · rw [eqD_flat f1 f2]
        rw [is_flat f1 i1] at q1
        rw [is_flat f2 i2] at q2
        exact eqAt_V q1 q2 (flat_V f1) (flat_V f2)
      · cases z
    · cases z
  | succ n ih =>
    intro A d e x y v u hu h1 h2 i1 i2 q1 q2
    have hA : A.units < cLine := by omega
    have hu' : A.in1.units + n < cLine := by show A.units + 1 + n < cLine; omega
    rcases shape h1 with f1 | ⟨m, ds, z, hk, hd⟩
    · rw [is_flat f1 i1] at q1
      rcases shape h2 with f2 | ⟨m, es, z, rfl | rfl, he⟩
      · rw [eqD_flat f1 f2]
        rw [is_flat f2 i2] at q2
        exact eqAt_V q1 q2 (flat_V f1) (flat_V f2)
      · obtain ⟨b, ys, rfl, hy, hb⟩ := is_tup.mp i2
        obtain ⟨its2, r2, t2, _⟩ := I.tuple (.of hy)
        cases q2
        rw [(eqD_ft f1).1]
        exact (flat_tupE f1 q1 t2 hA).1.1
      · obtain ⟨b, ys, rfl, hy, hb⟩ := is_lst.mp i2
        obtain ⟨its2, r2, t2, _⟩ := I.list (.of hy)
        cases q2
        rw [(eqD_ft f1).2.2.1]
        exact (flat_lstE f1 q1 t2.isList hA).1.1
    · cases z
      rcases hk with rfl | rfl
      · obtain ⟨a, xs, rfl, hx, ha⟩ := is_tup.mp i1
        obtain ⟨its, r1, t1, _⟩ := I.tuple (.of hx)
        cases q1
        rcases shape h2 with f2 | ⟨m, es, z, rfl | rfl, he⟩
        · rw [is_flat f2 i2] at q2
          rw [(eqD_ft f2).2.1]
          exact (flat_tupE f2 q2 t1 hA).1.2
        · cases z
          have i2' := i2
          obtain ⟨b, ys, rfl, hy, hb⟩ := is_tup.mp i2
          obtain ⟨its2, r2, t2, _⟩ := I.tuple (.of hy)
          cases q2
          by_cases hab : a = b
          · subst hab
            rw [eq_same _ h1 h2 i1 i2']
            exact SeqAt.EqAt.same _
          · have q := SeqAt.RcAt.tuples t1 t2 hA (items_eq (fun {d e x y v u} => ih (A := A.in1) hu') hd he ha hb r1 r2)
            rw [List.size_toArray, List.size_toArray, ← r1.length, ← r2.length, ← ha.length, ← hb.length, eqDs_range] at q
            rw [eqD_tup]
            exact .of_refs hab q
        · obtain ⟨b, ys, rfl, hy, hb⟩ := is_lst.mp i2
          obtain ⟨its2, r2, t2, _⟩ := I.list (.of hy)
          cases q2
          exact SeqAt.EqAt.tuple_list t1 t2.isList hA
      · obtain ⟨a, xs, rfl, hx, ha⟩ := is_lst.mp i1
        obtain ⟨its, r1, t1, _⟩ := I.list (.of hx)
        cases q1
        rcases shape h2 with f2 | ⟨m, es, z, rfl | rfl, he⟩
        · rw [is_flat f2 i2] at q2
          rw [(eqD_ft f2).2.2.2]
          exact (flat_lstE f2 q2 t1.isList hA).1.2
        · obtain ⟨b, ys, rfl, hy, hb⟩ := is_tup.mp i2
          obtain ⟨its2, r2, t2, _⟩ := I.tuple (.of hy)
          cases q2
          exact SeqAt.EqAt.list_tuple t1.isList t2 hA
        · cases z
          have i2' := i2
          obtain ⟨b, ys, rfl, hy, hb⟩ := is_lst.mp i2
          obtain ⟨its2, r2, t2, _⟩ := I.list (.of hy)
          cases q2
          by_cases hab : a = b
          · subst hab
            rw [eq_same _ h1 h2 i1 i2']
            exact SeqAt.EqAt.same _
          · rw [eqD_lst]
            have l1 := ha.length.trans r1.length
            have l2 := hb.length.trans r2.length
            by_cases hl : ds.length = es.length
            · have q := SeqAt.RcAt.lists t1.isList t2.isList (by rw [List.size_toArray, List.size_toArray]; omega) hA (items_eq (fun {d e x y v u} => ih (A := A.in1) hu') hd he ha hb r1 r2)
              rw [List.size_toArray, ← l1, eqDs_all hl] at q
              exact .of_refs hab q
            · have q := SeqAt.RcAt.lists_lengths t1.isList t2.isList (by rw [List.size_toArray, List.size_toArray, bne_iff_ne]; omega) hA
              rw [eqDs_lens hl]
              exact .of_refs hab q
theorem rc_at (I : Inv X pins σ H s) {n : Nat} {A : Around} {d e : Dt} {x y : V} {v u : Value} (hu : A.units + (n + 1) < cLine) (h1 : okE (n + 1) d = true) (h2 : okE (n + 1) e = true) (i1 : Is X.K H d x) (i2 : Is X.K H e y) (q1 : RelV x v) (q2 : RelV y u) :
    SeqAt.RcAt A s v u (eqD d e) ∧ SeqAt.RcNeAt A s v u (!eqD d e) := by
  have hA : A.units < cLine := by omega
  have hu' : A.in1.units + n < cLine := by show A.units + 1 + n < cLine; omega
  have ih := fun {d e : Dt} {x y : V} {v u : Value} => eq_at I n (A := A.in1) (d := d) (e := e) (x := x) (y := y) (v := v) (u := u) hu'
  rcases shape h1 with f1 | ⟨m, ds, z, hk, hd⟩
  · rw [is_flat f1 i1] at q1
    rcases shape h2 with f2 | ⟨m, es, z, rfl | rfl, he⟩
    · rw [is_flat f2 i2] at q2
      exact flat_rc f1 f2 q1 q2
    · obtain ⟨b, ys, rfl, hy, hb⟩ := is_tup.mp i2
      obtain ⟨its2, r2, t2, _⟩ := I.tuple (.of hy)
      cases q2
      rw [(eqD_ft f1).1]
      exact (flat_tupE f1 q1 t2 hA).2.1
    · obtain ⟨b, ys, rfl, hy, hb⟩ := is_lst.mp i2
      obtain ⟨its2, r2, t2, _⟩ := I.list (.of hy)
      cases q2
      rw [(eqD_ft f1).2.2.1]
      exact (flat_lstE f1 q1 t2.isList hA).2.1
  · cases z
    rcases hk with rfl | rfl
    · obtain ⟨a, xs, rfl, hx, ha⟩ := is_tup.mp i1
      obtain ⟨its, r1, t1, _⟩ := I.tuple (.of hx)
      cases q1
      rcases shape h2 with f2 | ⟨m, es, z, rfl | rfl, he⟩
      · rw [is_flat f2 i2] at q2
        rw [(eqD_ft f2).2.1]
        exact (flat_tupE f2 q2 t1 hA).2.2
      · cases z
        obtain ⟨b, ys, rfl, hy, hb⟩ := is_tup.mp i2
        obtain ⟨its2, r2, t2, _⟩ := I.tuple (.of hy)
        cases q2
        have it := items_eq (A := A.in1) ih hd he ha hb r1 r2
        have q := SeqAt.RcAt.tuples t1 t2 hA it
        have q' := SeqAt.RcNeAt.tuples t1 t2 hA it
        rw [List.size_toArray, List.size_toArray, ← r1.length, ← r2.length, ← ha.length, ← hb.length, eqDs_range] at q q'
        rw [eqD_tup]
        exact ⟨q, q'⟩
      · obtain ⟨b, ys, rfl, hy, hb⟩ := is_lst.mp i2
        obtain ⟨its2, r2, t2, _⟩ := I.list (.of hy)
        cases q2
        exact ⟨SeqAt.RcAt.tuple_list t1 t2.isList hA, SeqAt.RcNeAt.tuple_list t1 t2.isList hA⟩
    · obtain ⟨a, xs, rfl, hx, ha⟩ := is_lst.mp i1
      obtain ⟨its, r1, t1, _⟩ := I.list (.of hx)
      cases q1
      rcases shape h2 with f2 | ⟨m, es, z, rfl | rfl, he⟩
      · rw [is_flat f2 i2] at q2
        rw [(eqD_ft f2).2.2.2]
        exact (flat_lstE f2 q2 t1.isList hA).2.2
      · obtain ⟨b, ys, rfl, hy, hb⟩ := is_tup.mp i2
        obtain ⟨its2, r2, t2, _⟩ := I.tuple (.of hy)
        cases q2
        exact ⟨SeqAt.RcAt.list_tuple t1.isList t2 hA, SeqAt.RcNeAt.list_tuple t1.isList t2 hA⟩
      · cases z
        obtain ⟨b, ys, rfl, hy, hb⟩ := is_lst.mp i2
        obtain ⟨its2, r2, t2, _⟩ := I.list (.of hy)
        cases q2
        rw [eqD_lst]
        have l1 := ha.length.trans r1.length
        have l2 := hb.length.trans r2.length
        by_cases hl : ds.length = es.length
        · have it := items_eq (A := A.in1) ih hd he ha hb r1 r2
          have q := SeqAt.RcAt.lists t1.isList t2.isList (by rw [List.size_toArray, List.size_toArray]; omega) hA it
          have q' := SeqAt.RcNeAt.lists t1.isList t2.isList (by rw [List.size_toArray, List.size_toArray]; omega) hA it
          rw [List.size_toArray, ← l1, eqDs_all hl] at q q'
          exact ⟨q, q'⟩
        · have q := SeqAt.RcAt.lists_lengths t1.isList t2.isList (by rw [List.size_toArray, List.size_toArray, bne_iff_ne]; omega) hA
          have q' := SeqAt.RcNeAt.lists_lengths t1.isList t2.isList (by rw [List.size_toArray, List.size_toArray, bne_iff_ne]; omega) hA
          rw [eqDs_lens hl]
          exact ⟨q, q'⟩
def gEq : Dt → Dt → (Dt → Prop) → Prop := fun d e Q => okE 40 d = true ∧ okE 40 e = true ∧ Q (.bl (eqD d e))
def gNe : Dt → Dt → (Dt → Prop) → Prop := fun d e Q => okE 40 d = true ∧ okE 40 e = true ∧ Q (.bl (!eqD d e))
theorem o_eq {k : Nat} (hr : Room k X.A) : DOp X (compareOp .Eq) gEq := by
  refine ⟨fun x y H Q => ∃ d e, Is X.K H d x ∧ Is X.K H e y ∧ okE 40 d = true ∧ okE 40 e = true ∧ Q (.bl (eqD d e)) H, fun pins s σ H x y v u Q I rx ry h => ?_, fun H x y d e Q i1 i2 q R k => ⟨d, e, Is.mono0 H.sub i1, Is.mono0 H.sub i2, q.1, q.2.1, k _ _ H (Le.refl H) (is_bl.mpr rfl) q.2.2⟩⟩
  obtain ⟨d, e, i1, i2, h1, h2, q⟩ := h
  have hu := hr.units
  exact (rc_at (n := 39) I (A := X.A) (by omega) h1 h2 i1 i2 rx ry).1 _ _ _ _ ⟨.bl _, H, I, rfl, q⟩
theorem o_ne {k : Nat} (hr : Room k X.A) : DOp X (compareOp .NotEq) gNe := by
  refine ⟨fun x y H Q => ∃ d e, Is X.K H d x ∧ Is X.K H e y ∧ okE 40 d = true ∧ okE 40 e = true ∧ Q (.bl (!eqD d e)) H, fun pins s σ H x y v u Q I rx ry h => ?_, fun H x y d e Q i1 i2 q R k => ⟨d, e, Is.mono0 H.sub i1, Is.mono0 H.sub i2, q.1, q.2.1, k _ _ H (Le.refl H) (is_bl.mpr rfl) q.2.2⟩⟩
  obtain ⟨d, e, i1, i2, h1, h2, q⟩ := h
  have hu := hr.units
  exact (rc_at (n := 39) I (A := X.A) (by omega) h1 h2 i1 i2 rx ry).2 _ _ _ _ ⟨.bl _, H, I, rfl, q⟩
end
end OD

namespace OD
open PySem PySem.Spec PyProof.Rows L2
def cxComp (X : Cx) (scope : Scope) (x : Str) (C : Addr) (s : Shared) (H : Hp) (fp : List Addr) (pins : List (Addr × Obj)) : Cx where
  prog := X.prog
  w := X.w
  K := X.K
  mg := X.mg
  base := X.base
  A := X.A
  N := [x]
  s₀ := s
  H₀ := H
  env := compEnv scope C X.env
  outer := X.stack
  stack := X.stack
  ex := fp
  fn := fun _ => true
  calm := X.calm
  pn := X.pn ++ pins
  xe := fun _ _ => False
structure CompSc (scope : Scope) (x : Str) : Prop where
  free : ∀ y ∈ scope.names, y.2 ≠ .free
  cell : ∀ y ∈ scope.names, y.2 ≠ .cell
  kind : scope.kind = .function
  names : ∀ y ∈ scope.names, y.2 = .local → scope.names.lookup y.1 = some .local
  loc : scope.names.lookup x = some .local
section
variable {X : Cx} {pins : List (Addr × Obj)} {σ : St} {H : Hp} {s : Shared} {scope : Scope} {x : Str} {fp : List Addr}
theorem inv_comp {h₁ : Heap} {t : Nat} {m : Str → Option Value} (I : Inv X pins σ H s) (S : CompSc scope x) (hfp : ∀ b ∈ fp, FpOk X pins H b) (hob : ∀ b ∈ fp, ∃ o, s.heap.get? b = some o)
    (hn : h₁.Ns s.heap.objs.size m) (hk : ∀ b o, s.heap.get? b = some o → h₁.get? b = some o) : Inv (cxComp X scope x s.heap.objs.size s H fp pins) [] [none] H { s with heap := h₁, toks := t } := by
  refine ⟨⟨I.ok.mod, S.kind, I.ok.glob, I.ok.blt, Nat.le_refl _, fun y z c h1 _ => ?_, fun y hy => ?_, fun y c _ h => ?_, I.ok.hd, I.ok.frames, .inl rfl, fun b hb => ⟨?_, fun y c h => ?_⟩, I.bs, Nat.le_trans I.ok.bsz I.sz, fun b o e hb => ?_, fun b hb z => ?_, I.stack, I.stkFree⟩,
    rfl, I.bare, Un.kept hk, ⟨_, hn, fun i y v _ h2 _ => ?_⟩, fun y c h => ?_, I.hok.fresh (Nat.le_refl _), fun y c h => ?_, fun p hp => ?_, I.hok.kept hk, rfl⟩
  · cases h1
  · have hy : scope.names.lookup y = some .cell ∨ scope.names.lookup y = some .free := hy
    rcases hy with hy | hy
    · exact absurd rfl (S.cell _ (PySem.mem_of_lookup hy))
    · exact absurd rfl (S.free _ (PySem.mem_of_lookup hy))
  · cases h
  · obtain ⟨o, e⟩ := hob b hb
    exact Nat.ne_of_lt (Heap.lt_size e)
  · cases h
  · obtain ⟨_, _, _, h4, _⟩ := hfp b hb
    rcases h4 with h4 | h4
    · exact I.ok.noex b o e h4
    · exact absurd (Nat.lt_of_lt_of_le (Heap.lt_size e) (Nat.le_trans I.ok.bsz h4)) (Nat.lt_irrefl _)
  · obtain ⟨_, h2, h3, _⟩ := hfp b hb
    rcases List.mem_cons.mp (I.stkSub b z) with q | q
    · exact h2 q
    · exact h3 q
  · match i, h2 with
    | 0, h2 => cases h2
    | i + 1, h2 => cases h2
  · cases h
  · cases h
  · have hp : p ∈ X.pn ++ pins := by
      rcases List.mem_append.mp hp with q | q
      · exact q
      · cases q
    obtain ⟨h1, h2, h3, h4, h5⟩ := I.pin p hp
    refine ⟨hk _ _ h1, h2, Nat.ne_of_lt (Heap.lt_size h1), fun z => ?_, h5⟩
    rcases List.mem_cons.mp (I.stkSub _ z) with q | q
    · exact h3 q
    · exact h4 q
theorem inv_back {C : Addr} {σ' : St} {H' : Hp} {s' : Shared} (I : Inv X pins σ H s) (hfp : ∀ b ∈ fp, FpOk X pins H b) (I' : Inv (cxComp X scope x C s H fp pins) [] σ' H' s') : Inv X pins σ H' s' :=
  I.call' (ch := fp) I'.os I'.base I'.hok I'.bare fun b hb => by
    obtain ⟨_, h2, _, h4, h5, h6⟩ := hfp b hb
    exact ⟨h4, h2, h5, h6⟩
end
end OD

namespace OD
variable {Z : Hp}
open PySem PySem.Spec PyProof.Rows L2
section
variable {X : Cx} {pins : List (Addr × Obj)} {σ : St} {H : Hp} {s : Shared} {h' : Heap}
theorem fp_ch {ch : List Addr} (hn : ∀ b ∈ ch, FpOk X pins H b) : ∀ b ∈ ch, (b ∈ X.ex ∨ X.s₀.heap.objs.size ≤ b) ∧ b ≠ X.env.locals ∧ (∀ x c, X.env.cells.lookup x = some c → c ≠ b) ∧ ∀ p ∈ X.pn ++ pins, p.1 ≠ b := fun b hb => by
  obtain ⟨_, h2, _, h4, h5, h6⟩ := hn b hb
  exact ⟨h4, h2, h5, h6⟩
theorem inv_turned {ch : List Addr} {t' : Nat} (I : Inv X pins σ H s) (hn : ∀ b ∈ ch, FpOk X pins H b) (k : ∀ b o, b ∉ ch → s.heap.get? b = some o → h'.get? b = some o) : Inv X pins σ H { s with heap := h', toks := t' } := by
  have nit : ∀ b u, H b = some u → b ∉ ch := fun b u e z => by rw [(hn b z).1] at e; cases e
  refine I.step (g' := s.gens) (d' := s.drawn) (ch := ch) (fp_ch hn) (fun b o _ _ hc e _ => k b o hc e) (fun b o _ _ hc e _ => ⟨o.slots, k b o hc e⟩) (fun _ _ _ _ n => n)
    (fun b o hc e => ⟨o, k b o hc e⟩) (fun _ _ e => e) (fun _ _ _ e => e) (fun b ps e => ⟨#[], by rw [e]; simp⟩) (fun m hm => ?_) (fun b u e => ?_) I.bare
  · obtain ⟨o, es, ep, ho, r⟩ := hm
    exact ⟨o, es, ep, k _ o (fun z => (hn _ z).2.1 rfl) ho, r⟩
  · refine (I.hok b u e).stay (fun c v hc q => k c v ?_ q) (fun _ q => q) fun _ _ q => q
    rcases hc with z | z
    · rw [z]; exact nit b u e
    · exact nit c _ z
theorem inv_turnedT {ch : List Addr} {t' : Nat} {T : Addr} {xs : List V} (I : Inv X pins σ H s) (hn : ∀ b ∈ ch, FpOk X pins H b) (k : ∀ b o, b ∉ ch → s.heap.get? b = some o → h'.get? b = some o) (hT : s.heap.objs.size ≤ T)
    (new : ObjOk X.prog X.w (upd H T (.tup xs)) h' T (.tup xs)) : Inv X pins σ (upd H T (.tup xs)) { s with heap := h', toks := t' } := by
  have nit : ∀ b u, H b = some u → b ∉ ch := fun b u e z => by rw [(hn b z).1] at e; cases e
  have fT : H T = none := I.hok.fresh hT
  have old : ∀ b o, s.heap.get? b = some o → b ≠ T := fun b o e => Nat.ne_of_lt (Nat.lt_of_lt_of_le (Heap.lt_size e) hT)
  have up : ∀ b u, H b = some u → upd H T (.tup xs) b = some u := fun b u e => (upd_ne (ne_of_none e fT)).trans e
  refine I.step (g' := s.gens) (d' := s.drawn) (ch := ch) (fp_ch hn) (fun b o _ _ hc e _ => k b o hc e) (fun b o _ _ hc e _ => ⟨o.slots, k b o hc e⟩) (fun b o _ e n => (upd_ne (old b o e)).trans n)
    (fun b o hc e => ⟨o, k b o hc e⟩) (fun b xs e => up b _ e) (fun b o u e => up b _ e) (fun b ps e => ⟨#[], by rw [up b _ e]; simp⟩) (fun m hm => ?_) (fun b u e => ?_) I.bare
  · obtain ⟨o, es, ep, ho, r⟩ := hm
    exact ⟨o, es, ep, k _ o (fun z => (hn _ z).2.1 rfl) ho, r⟩
  · by_cases hb : b = T
    · subst hb
      rw [upd_same] at e
      cases e
      exact new
    · rw [upd_ne hb] at e
      refine (I.hok b u e).stay (fun c v hc q => k c v ?_ q) (fun c q => up c _ q) fun c ys q => up c _ q
      rcases hc with z | z
      · rw [z]; exact nit b u e
      · exact nit c _ z
end
section
variable {X : Cx}
end

section
variable {X : Cx} {fr : Fr} {ta : DTA} {tb : DTS} {pos : Pos}
theorem list_g {K : PySem.W.Frag} {W1 : Vw} {d : Dt} {v : V} {ds : List Dt} (i1 : Is K W1.g d v) (el : listOf d = some ds) : ∃ a xs, v = .ref a ∧ (∀ W2 : Vw, Same W1.g W2.g → SqL K W2.h a xs) ∧ AllIs K W1.g ds xs := by
  cases d with
  | lst es =>
    obtain rfl : es = ds := Option.some.inj el
    obtain ⟨a, xs, rfl, h1, h2⟩ := is_lst.mp i1
    exact ⟨a, xs, rfl, fun W2 s2 => .of (W2.sub _ _ (s2 _ _ h1)), h2⟩
  | scr ns =>
    obtain rfl : ns.map Dt.int = ds := Option.some.inj el
    obtain ⟨a, rfl, h1⟩ := is_scr.mp i1
    exact ⟨a, _, rfl, fun W2 s2 => W2.sub.seq (s2.seq h1), AllIs.ints⟩
  | _ => cases el
def liftE (K : PySem.W.Frag) (t : DTE) : TE := fun σ H R => ∃ (F : Hp) (ρ : DS) (W : Vw) (Q : Dt → Prop), W.h = H ∧ Rl K (fun _ => none) F W ρ σ ∧ t ρ Q ∧ ∀ d v W', Le W W' → Is K W'.g d v → Q d → R v W'.h
theorem DE.up {e : Expr} {t : DTE} (h : DE X e t) (hz : X.stack.length = X.outer.length := by rfl) : PE X e (liftE X.K t) := by
  obtain ⟨te, p, l⟩ := h
  intro pins s σ H R I q
  obtain ⟨F, ρ, W, Q, rfl, r, h, k⟩ := q
  have r' : Rl X.K (Zx X) F W ρ σ := by unfold Zx; rw [if_pos (Or.inl hz)]; exact r
  exact p pins s σ W.h R I (l ρ σ W Q r' h R k)
theorem li_lift {K : PySem.W.Frag} {t : DTE} : LiE K (fun _ => none) (liftE K t) t := fun ρ σ H Q r h R k => ⟨_, ρ, H, Q, rfl, r, h, k⟩
theorem LiF.le {K : PySem.W.Frag} {te : TE} {t : DTE} (l : LiF K Z te t) : LiE K Z te t := fun ρ σ H Q r h R k => l ρ σ H Q r h R fun es q xs H' s h0 h1 h2 i z => k (.lst es) (.ref q) (H'.frz q _ h1) (le_frz s h0 h1 h2) (is_lst.mpr ⟨q, xs, rfl, upd_same, AllIs.mono0 (same_new h2 _) i⟩) z
def compOk (scope : Scope) (x : Str) : Bool := scope.names.all (fun y => y.2 != .free && y.2 != .cell && (y.2 != .local || scope.names.lookup y.1 == some .local)) && (scope.kind == .function) && (scope.names.lookup x == some .local)
theorem compSc {scope : Scope} {x : Str} (h : compOk scope x = true) : CompSc scope x := by
  unfold compOk at h
  rw [Bool.and_eq_true, Bool.and_eq_true, List.all_eq_true] at h
  obtain ⟨⟨h1, h2⟩, h3⟩ := h
  refine ⟨fun y hy e => ?_, fun y hy e => ?_, eq_of_beq h2, fun y hy e => ?_, eq_of_beq h3⟩
  · have := h1 y hy
    rw [e] at this
    have : (false && _) = true := this
    rw [Bool.false_and] at this
    cases this
  · have := h1 y hy
    rw [e] at this
    have : (true && false && _) = true := this
    rw [Bool.and_false, Bool.false_and] at this
    cases this
  · have := h1 y hy
    rw [e, Bool.and_eq_true] at this
    exact eq_of_beq this.2
variable {scope : Scope} {x : Str} {elt iter : Expr} {px : Pos} {tl te : DTE}
end
end OD

namespace OD
variable {Z : Hp}
open PySem PySem.Spec PyProof.Rows L2
def Ite (K : PySem.W.Frag) (l : Addr) : It :=
  ⟨fun i H => ∃ xs x, SqL K H l xs ∧ xs[i]? = some x,
   fun i H v H' => ∃ T x, v = .ref T ∧ H T = none ∧ H' = upd H T (.tup [.int i, x]) ∧ ∀ xs, SqL K H l xs → xs[i]? = some x,
   fun i H => ∃ xs, SqL K H l xs ∧ xs.length ≤ i⟩
def tnEnum (l e it : Addr) (i : Nat) (h : Heap) : Prop := (∃ old, IsEnum h e it (i : Int) old) ∧ h.IsListIter it l i
theorem turn_enum {P : Program} {w : World} {K : PySem.W.Frag} {elts : List Expr} {x1} {tpos : Pos} (l e it : Addr) (hne : e ≠ it) : Turn P w K (.Tuple elts x1 tpos) (Ite K l) [e, it] e (tnEnum l e it) where
  mem := by simp
  obj := fun i h ⟨⟨old, h1⟩, ⟨o4, e4, c4, d4⟩⟩ b hb => by
    simp only [List.mem_cons, List.not_mem_nil, or_false] at hb
    rcases hb with rfl | rfl
    · exact ⟨_, h1, fun v z => by cases z⟩
    · exact ⟨_, e4, fun v z => by rw [d4] at z; cases z⟩
  keep := fun i h h' ⟨⟨old, h1⟩, ⟨o4, e4, c4⟩⟩ k => ⟨⟨old, k e (by simp) _ h1⟩, ⟨o4, k it (by simp) _ e4, c4⟩⟩
  item := fun X hP hw hK hc i pins s σ H E I hfp ⟨⟨old, h1⟩, h4⟩ ⟨xs, x, q1, e1⟩ => by
    subst hP hw hK
    obtain ⟨its1, r1, p1, z1⟩ := I.list q1
    obtain ⟨u, eu, ru⟩ := r1.get e1
    refine wpAny_pyNext_enum_item h1 h4 p1.isList (x := u) (by simpa using eu) hne fun h' a1 a2 a3 a4 a5 => ?_
    refine ⟨_, rfl, wpAny_letOwnedTupleGo_enum a1 fun h'' b1 b2 => ?_⟩
    have ne : ∀ b ∈ [e, it], b ≠ s.heap.objs.size := fun b hb => by
      simp only [List.mem_cons, List.not_mem_nil, or_false] at hb
      obtain ⟨o4, e4, _⟩ := id h4
      rcases hb with rfl | rfl
      · exact Nat.ne_of_lt (Heap.lt_size h1)
      · exact Nat.ne_of_lt (Heap.lt_size e4)
    have en : e ≠ s.heap.objs.size := ne e (by simp)
    have aT := b2.extBut _ _ (Ne.symm en) a3
    have I' : Inv X pins σ (upd H s.heap.objs.size (.tup [.int i, x])) { s with heap := h'', toks := s.toks + 1 } := inv_turnedT (ch := [e, it]) (t' := s.toks + 1) I hfp (fun b o hb q => by
        simp only [List.mem_cons, List.not_mem_nil, or_false, not_or] at hb
        exact b2.extBut b o hb.1 (a5 b o hb.1 hb.2 q)) (Nat.le_refl _) ⟨by show 2 ≤ sizeLine; rw [sizeLine_eq]; decide, [.int i s.toks, u], .cons ⟨_, rfl⟩ (.cons ru .nil), _, aT, rfl, _, rfl⟩
    refine ⟨.ref s.heap.objs.size, _, I', rfl, ⟨_, x, rfl, I.fresh, rfl, fun xs' q => ?_⟩, ⟨⟨u, ?_⟩, a2.extBut b2.extBut (Ne.symm hne)⟩, fun b hb => ?_⟩
    · rw [I.list_inj q q1]; exact e1
    · have : ((i + 1 : Nat) : Int) = (i : Int) + 1 := by omega
      show IsEnum h'' e it ((i + 1 : Nat) : Int) u
      rw [this]
      exact b1
    · exact (upd_ne (ne b hb)).trans (hfp b hb).1
  done := fun X hP hw hK hc i pins s σ H E I hfp ⟨⟨old, h1⟩, h4⟩ ⟨xs, q1, e1⟩ => by
    subst hP hw hK
    obtain ⟨its1, r1, p1, z1⟩ := I.list q1
    refine wpAny_pyNext_enum_end (I.ok.hd hc) h1 h4 p1.isList ?_ fun h' hk => ⟨rfl, ?_⟩
    · have := r1.length
      simp; omega
    · exact inv_turned (ch := [e, it]) (t' := s.toks) I hfp fun b o hb q => by
        simp only [List.mem_cons, List.not_mem_nil, or_false, not_or] at hb
        exact hk b o hb.2 q
  self := fun A i s Q E ⟨⟨old, h1⟩, _⟩ q => wpAny_pyIter_enum h1 q
def iEnum (K : PySem.W.Frag) (ta : TA) : TI := fun σ H R => ta σ H fun vs H1 => ∃ l xs, vs = [.ref l] ∧ SqL K H1 l xs ∧ R (Ite K l) H1
section
variable {X : Cx}
theorem boot_enum : bootBuiltins "enumerate" = some (.type "enumerate") := by decide +kernel
theorem pi_enum {a : Expr} {ta : TA} {p pos : Pos} {elts : List Expr} {x1} {tpos : Pos} (hg : Gl X "enumerate") (hm : X.mg "enumerate" = none) (ha : PA X [a] ta) (hs : starEach [a] X.env = (false, eval a X.env) :: starEach [] X.env := by rfl)
    (hpl : (backTo pos (starEach [] X.env)).any (·.1) = false := by rfl) : PI X (.Tuple elts x1 tpos) (.Call (.Name "enumerate" p) [a] [] pos) (iEnum X.K ta) := by
  intro pins s σ H R I h
  refine Call_ (ld_blt I hg hm boot_enum (PyProof.Rows.callWith_type1 (thn (ha pos pins s σ H _ I h) fun us s1 ⟨vs, H1, I1, r1, q1⟩ => ?_) hs hpl))
  obtain ⟨l, xs, e, q1, q⟩ := q1
  subst e
  obtain ⟨u, rfl, ru⟩ := r1.one
  cases ru
  obtain ⟨its1, r1, p1, z1⟩ := I1.list q1
  refine call_enumerate_list p1.isList fun h' b1 b2 b3 b4 => ?_
  have I2 : Inv X pins σ H1 { s1 with heap := h' } := I1.kept (t' := s1.toks) b4
  refine wpAny_pyIter_enum b1 ⟨s1.heap.objs.size + 1, [s1.heap.objs.size + 1, s1.heap.objs.size], _, _, H1, rfl, I2, turn_enum l (s1.heap.objs.size + 1) s1.heap.objs.size (Nat.succ_ne_self _), ⟨⟨_, b1⟩, b2⟩, fun b hb => ?_, q⟩
  have hb' : s1.heap.objs.size ≤ b := by
    simp only [List.mem_cons, List.not_mem_nil, or_false] at hb
    rcases hb with rfl | rfl
    · exact Nat.le_add_right _ _
    · exact Nat.le_refl _
  have f := I1.fpOk hb' (I1.hok.fresh hb')
  exact f
theorem for_enum {K : PySem.W.Frag} {l : Addr} {xs : List V} {g : TG} {tb : TS} {D : Ends} {σ : St} {H : Hp} (Pv : Nat → St → Hp → Prop) (h0 : Pv 0 σ H) (hl : ∀ i σ H, Pv i σ H → SqL K H l xs)
    (hs : ∀ (i : Nat) x T σ H, xs[i]? = some x → H T = none → Pv i σ H → g (.ref T) σ (upd H T (.tup [.int i, x])) fun σ2 H2 => tb { D with nx := Pv (i + 1), ct := Pv (i + 1), bk := D.nx } σ2 H2) (hd : ∀ σ H, Pv xs.length σ H → D.nx σ H) :
    ∃ W : Nat → Nat → St → Hp → Prop, (∃ m, W 0 m σ H) ∧ ∀ i m σ H, W i m σ H →
      ((Ite K l).stop i H ∧ D.nx σ H) ∨ ((Ite K l).go i H ∧ ∃ N : St → Hp → Prop, (∀ σ' H', N σ' H' → ∃ m', m' < m ∧ W (i + 1) m' σ' H') ∧ ∀ x H', (Ite K l).yld i H x H' → g x σ H' fun σ2 H2 => tb { D with nx := N, ct := N, bk := D.nx } σ2 H2) := by
  refine ⟨fun i m σ H => m = xs.length - i ∧ i ≤ xs.length ∧ Pv i σ H, ⟨_, rfl, Nat.zero_le _, h0⟩, ?_⟩
  rintro i m σ H ⟨rfl, hi, p⟩
  have q1 := hl i σ H p
  by_cases hlt : i < xs.length
  · have g1 : xs[i]? = some xs[i] := List.getElem?_eq_getElem hlt
    refine .inr ⟨⟨xs, xs[i], q1, g1⟩, Pv (i + 1), fun σ' H' p' => ⟨xs.length - (i + 1), by omega, rfl, hlt, p'⟩, fun v H' y => ?_⟩
    obtain ⟨T, x, rfl, hT, rfl, e1⟩ := y
    exact hs i x T σ H (e1 xs q1) hT p
  · have e : i = xs.length := by omega
    subst e
    exact .inl ⟨⟨xs, q1, Nat.le_refl _⟩, hd σ H p⟩
end
section
variable {X : Cx} {fr : Fr} {ta : DTA} {tb : DTS} {pos p0 p1 p2 : Pos}
def dForE (i j : Nat) (ta : DTA) (tb : DTS) : DTS := fun D ρ => ta ρ fun ds => ∃ (d : Dt) (xs : List Dt) (Pv : Nat → DS → Prop), ds = [d] ∧ listOf d = some xs ∧ Pv 0 ρ ∧
  (∀ (n : Nat) x ρ', xs[n]? = some x → Pv n ρ' → tb { D with nx := Pv (n + 1), ct := Pv (n + 1), bk := D.nx } ((ρ'.set i (.some (.int n))).set j (.some x))) ∧ ∀ ρ', Pv xs.length ρ' → D.nx ρ'
theorem ds_for_enumerate {i j : Nat} {x y : Str} {a : Expr} {body : List Stmt} {px py pt p0 pos1 : Pos} {kt : Nat} (hc : X.calm = true) (hN : X.N.Nodup) (hi : X.N[i]? = some x) (hj : X.N[j]? = some y) (hx : Loc X.env.scope x) (hy : Loc X.env.scope y) (hp : PassesOwn (model X.prog X.w) X.A X.env X.xe)
    (hg : Gl X "enumerate") (hm : X.mg "enumerate" = none) (ha : DA X [a] ta) (hb : DSs X fr body tb) (hs : ∀ z, foldedSetIterable (.Call (.Name "enumerate" p0) [a] [] pos1) X.env z = pure z := by intro _; rfl)
    (hst : starEach [a] X.env = (false, eval a X.env) :: starEach [] X.env := by rfl) (hpl : (backTo pos1 (starEach [] X.env)).any (·.1) = false := by rfl)
    (hf : X.fn x = true ∨ X.env.scope.names.lookup x = some .local := by first | exact .inl rfl | exact .inr rfl | assumption) (hf2 : X.fn y = true ∨ X.env.scope.names.lookup y = some .local := by first | exact .inl rfl | exact .inr rfl | assumption) :
    DSt X fr (.For (.Tuple [.Name x px, .Name y py] kt pt) (.Call (.Name "enumerate" p0) [a] [] pos1) body [] pos) (dForE i j ta tb) := by
  obtain ⟨tt, p, l⟩ := ha
  obtain ⟨tbs, p2, l2⟩ := hb
  refine ⟨_, ps_for hp hc (pi_enum hg hm p hst hpl) (pg_tup hc (pgs_cons (pg_name hN hi hx hf) (pgs_cons (pg_name hN hj hy hf2) pgs_nil))) p2 hs, fun W0 G ρ σ W D D' at_ s h => l ρ σ W _ at_.rl h _ fun ds vs W1 s1 i1 ⟨d, xs, Pv, ed, el1, h0, ht, hd⟩ => ?_⟩
  subst ed
  obtain ⟨v1, rfl, j1⟩ := i1.one
  have hg1 : Same G W1.g := at_.gs.trans s1.g
  obtain ⟨l1, us, rfl, hq1, ha1⟩ := list_g j1 el1
  refine ⟨l1, us, rfl, hq1 W1 (Same.refl _), for_enum (K := X.K) (xs := us) (fun n => InL X.K (Zx X) W0 W1 (Pv n)) ⟨ρ, W1, rfl, (at_.step s1).now, h0⟩ (fun n σ' H' ⟨_, W2, e2, a2, _⟩ => e2 ▸ hq1 W2 a2.gs) ?_ ?_⟩
  · rintro n u T σ' _ hu hT ⟨ρ', W2, rfl, a2, hp2⟩
    obtain ⟨x', ex, ix⟩ := ha1.get' hu
    have s3 := le_new hT (.tup [.int n, u])
    have a3 := a2.step s3
    refine ⟨T, _, rfl, .of upd_same, rfl, .int n, [u], rfl, u, [], rfl, rfl, ?_⟩
    exact l2 W0 W1.g _ _ (W2.new T (.tup [.int n, u])) { D with nx := Pv (n + 1), ct := Pv (n + 1), bk := D.nx } _ ((a3.set i (is_int.mpr rfl)).set j (Is.mono0 a3.gs ix)) (sim_loop s hg1) (ht n x' ρ' ex hp2)
  · rintro σ' _ ⟨ρ', W2, rfl, a2, hp2⟩
    exact s.nx ρ' σ' W2 (a2.weak hg1) (hd ρ' (by rw [ha1.length]; exact hp2))
theorem ds_forR2 {j : Nat} {x : Str} {a b : Expr} {body : List Stmt} {px p0 pos1 : Pos} (hc : X.calm = true) (hN : X.N.Nodup) (hi : X.N[j]? = some x) (hx : Loc X.env.scope x) (hp : PassesOwn (model X.prog X.w) X.A X.env X.xe)
    (hg : Gl X "range") (hm : X.mg "range" = none) (h : DA X [a, b] ta) (hb : DSs X fr body tb) (hs : ∀ x, foldedSetIterable (.Call (.Name "range" p0) [a, b] [] pos1) X.env x = pure x := by intro _; rfl)
    (hst : starEach [a, b] X.env = [(false, eval a X.env), (false, eval b X.env)] := by rfl) (hst2 : starEach [b] X.env = [(false, eval b X.env)] := by rfl)
    (hf : X.fn x = true ∨ X.env.scope.names.lookup x = some .local := by first | exact .inl rfl | exact .inr rfl | assumption) : DSt X fr (.For (.Name x px) (.Call (.Name "range" p0) [a, b] [] pos1) body [] pos) (dForR2 j ta tb) := by
  obtain ⟨tt, p, l⟩ := h
  obtain ⟨tbs, p2, l2⟩ := hb
  refine ⟨_, ps_for hp hc (pi_range2 hg hm p hst hst2) (pg_name hN hi hx hf) p2 hs, fun W0 G ρ σ W D D' at_ s h => l ρ σ W _ at_.rl h _ fun ds vs W1 s1 i1 ⟨m, n, Pv, ed, m1, m2, n1, n2, h0, ht, hd⟩ => ?_⟩
  subst ed
  obtain ⟨v1, v2, rfl, j1, j2⟩ := i1.two
  have hg1 : Same G W1.g := at_.gs.trans s1.g
  refine ⟨m, n, by rw [is_int.mp j1, is_int.mp j2], ⟨m1, m2, n1, n2⟩, for_range (lo := m) (n := (n - m).toNat) (fun i => InL X.K (Zx X) W0 W1 (Pv i)) ⟨ρ, W1, rfl, (at_.step s1).now, h0⟩ ?_ ?_⟩
  · rintro i σ' _ hi ⟨ρ', W2, rfl, a2, hp2⟩
    exact l2 W0 W1.g _ _ W2 { D with nx := Pv (i + 1), ct := Pv (i + 1), bk := D.nx } _ (a2.set j (is_int.mpr rfl)) (sim_loop s hg1) (ht i ρ' hi hp2)
  · rintro σ' _ ⟨ρ', W2, rfl, a2, hp2⟩
    exact s.nx ρ' σ' W2 (a2.weak hg1) (hd ρ' hp2)
structure IsiOk (K : PySem.W.Frag) (C : Addr) : Prop where
  cl : Cls K C
  ha : PySem.W.findIn K (.ref C) "__class__" = some (some (.builtin "object.__class__"))
  hn : PySem.W.specialIn K (.builtin "object.__class__") "__get__" = some (some (.builtin "getset_descriptor.__get__"))
  htk : PySem.W.takesIn K (.builtin "object.__class__") = some true
  hm : PySem.W.mroIn K C (.type "object") = some true
theorem call_isiO : CallR X (.builtin "isinstance") (fun xs H Q => ∃ v D tv b, xs = [v, .ref D] ∧ TyOf X.K H v tv ∧ PySem.W.kitOne X.K tv (.ref D) = some b ∧ Q (.bl b) H) := by
  intro pins s σ H xs us Q I r h
  obtain ⟨v, D, tv, b, rfl, hty, hk, q⟩ := h
  cases r with
  | cons r1 r2 =>
    cases r2 with
    | cons r3 r4 =>
      cases r4
      cases r3
      exact isinst_ok I r1 hty hk fun tk => ⟨.bl b, H, I.tok _, rfl, q⟩
def dIsiO (K : PySem.W.Frag) (D : Addr) (ta : DTE) : DTE := fun ρ Q => ta ρ fun d => ∃ C f n b, d = .way C f n ∧ IsiOk K C ∧ PySem.W.kitOne K (.ref C) (.ref D) = some b ∧ Q (.bl b)
theorem de_isiO {a : Expr} {t : DTE} {y : Str} {p' : Pos} {D : Addr} (hm : X.mg "isinstance" = none) (hmc : X.mg y = some (.ref D)) (ha : DE X a t)
    (hg : Gl X "isinstance" := by rfl) (hgc : Gl X y := by rfl) (hdy : (y == ("__debug__" : Str)) = false := by decide)
    (hs : starEach [a, .Name y p'] X.env = (false, eval a X.env) :: starEach [.Name y p'] X.env := by rfl) (hs2 : starEach [.Name y p'] X.env = (false, eval (.Name y p') X.env) :: starEach [] X.env := by rfl)
    (hpl : (backTo pos (starEach [.Name y p'] X.env)).any (·.1) = false := by rfl) :
    DE X (.Call (.Name "isinstance" p0) [a, .Name y p'] [] pos) (dIsiO X.K D t) := by
  obtain ⟨te, p1, l1⟩ := ha
  have pc : PE X (.Name y p') (tC (.ref D)) := pe_glob hgc hmc rfl hdy
  refine ⟨_, pe_callB call_isiO hg hm boot_isinstance (pa_cons p1 (pa_cons pc pa_nil hs2) hs) (by decide) (by decide) hs hpl, fun ρ σ H Q r h R k => l1 ρ σ H _ r h _ fun d v H1 s1 i1 ⟨C, f, n, b, ed, ok, e, q⟩ => ?_⟩
  subst ed
  obtain ⟨p, dx, rfl, hp⟩ := is_way.mp i1
  exact ⟨_, D, _, b, rfl, .ins (H1.sub _ _ hp) ok.cl ok.ha ok.hn ok.htk ok.hm, e, k _ _ H1 s1 (is_bl.mpr rfl) q⟩
end
end OD

namespace OD
variable {Z : Hp}
open PySem PySem.Spec PyProof.Rows L2
section
variable {X : Cx} {tg : Expr}
variable {fr : Fr} {ta : DTA} {tb : DTS} {te : DTE} {pos p0 p1 p2 : Pos}
def isNon : Dt → Bool
  | .non => true
  | _ => false
theorem isNon_iff {K : PySem.W.Frag} {H : Hp} {d : Dt} {v : V} (h : Is K H d v) : decide (v = .non) = isNon d := by
  cases d with
  | non => rw [is_non.mp h]; rfl
  | bl b => rw [is_bl.mp h]; rfl
  | int b => rw [is_int.mp h]; rfl
  | str b => rw [is_str.mp h]; rfl
  | tup b => obtain ⟨a, xs, rfl, _⟩ := is_tup.mp h; rfl
  | lst b => obtain ⟨a, xs, rfl, _⟩ := is_lst.mp h; rfl
  | scr b => obtain ⟨a, rfl, _⟩ := is_scr.mp h; rfl
  | way b _ _ => obtain ⟨a, xs, rfl, _⟩ := is_way.mp h; rfl
  | exc b => obtain ⟨a, rfl, _⟩ := is_exc.mp h; rfl
def dIsNo (ta : DTE) : DTE := fun ρ Q => ta ρ fun d => Q (.bl (isNon d))
theorem dt_isN {a : Expr} {j pos'} (ha : DE X a te) : DT X (.Compare a [.Is] [.Constant .none j pos'] pos) (dTest (dIsNo te)) := by
  obtain ⟨t1, p1, l1⟩ := ha
  refine ⟨_, pt_cmp (pc_isN p1), liTest (te := tIsN t1) (t := dIsNo te) fun ρ σ H Q r h R k => l1 ρ σ H _ r h _ fun d v H1 s1 i1 q => k (.bl (isNon d)) (.bl (decide (v = .non))) H1 s1 (is_bl.mpr (by rw [isNon_iff i1])) q⟩
end
end OD

namespace OD
variable {Z : Hp}
open PySem PySem.Spec PyProof.Rows L2
section
variable {X : Cx} {a : Expr} {te : TE} {tl th ts : TO} {lo hi : Option Expr} {st : Expr} {pos p2 : Pos} {ta : DTE} {dl dh dt : DTO}
def Itv (K : PySem.W.Frag) (a : Addr) : It :=
  ⟨fun i H => ∃ xs x, SqL K H a xs ∧ xs.reverse[i]? = some x, fun i H x H' => H' = H ∧ ∀ xs, SqL K H a xs → xs.reverse[i]? = some x, fun i H => ∃ xs, SqL K H a xs ∧ xs.length ≤ i⟩
def tnRev (l it : Addr) (n : Nat) (i : Nat) (h : Heap) : Prop := i ≤ n ∧ h.IsRevIter it l ((n : Int) - 1 - (i : Int))
theorem rev_get {α : Type} {xs : List α} {i : Nat} {x : α} (h : xs.reverse[i]? = some x) : i < xs.length ∧ xs[xs.length - 1 - i]? = some x := by
  have hi : i < xs.reverse.length := by
    rcases Nat.lt_or_ge i xs.reverse.length with q | q
    · exact q
    · rw [List.getElem?_eq_none q] at h; cases h
  rw [List.length_reverse] at hi
  rw [List.getElem?_reverse hi] at h
  exact ⟨hi, h⟩
theorem turn_rev {P : Program} {w : World} {K : PySem.W.Frag} {tg : Expr} (l it : Addr) (n : Nat) : Turn P w K tg ⟨fun i H => ∃ xs x, xs.length = n ∧ SqL K H l xs ∧ xs.reverse[i]? = some x, (Itv K l).yld, fun i H => ∃ xs, xs.length = n ∧ SqL K H l xs ∧ xs.length ≤ i⟩ [it] it (tnRev l it n) where
  mem := by simp
  obj := fun i h ⟨_, o, e, c, d⟩ b hb => by
    have e' : b = it := by simpa using hb
    subst e'
    exact ⟨o, e, fun v z => by rw [d] at z; cases z⟩
  keep := fun i h h' ⟨hi, o, e, c⟩ k => ⟨hi, o, k it (by simp) _ e, c⟩
  item := by
    intro X hP hw hK hc i pins s σ H E I hf st hg
    subst hP hw hK
    obtain ⟨xs, x, hn, hq, hx⟩ := hg
    obtain ⟨hi, st⟩ := st
    obtain ⟨hi2, hx2⟩ := rev_get hx
    obtain ⟨its, rv, p, hz⟩ := I.list hq
    obtain ⟨u, hu, ru⟩ := rv.get hx2
    obtain ⟨f0, f1, f2, f3, f4, f5⟩ := hf it (by simp)
    have e1 : (n : Int) - 1 - (i : Int) = ((xs.length - 1 - i : Nat) : Int) := by omega
    rw [e1] at st
    refine wpAny_pyNext_rev_item st p.isList (x := u) (by simpa using hu) fun h' st' sb => ?_
    have I1 : Inv X pins σ H { s with heap := h' } := I.turned (t' := s.toks) (fun b o hb e => (sb.2 b hb).trans e) f0 f1 f3 f4 f5
    obtain ⟨o, e, c, d⟩ := id st'
    refine ⟨u, rfl, go_of (s := { s with heap := h' }) e c d (by decide) ⟨x, H, I1, ru, ⟨rfl, fun ys hy => by rw [I.list_inj hy hq]; exact hx⟩, ⟨by omega, ?_⟩, fun b hb => (hf b hb).1⟩⟩
    have e2 : (n : Int) - 1 - ((i + 1 : Nat) : Int) = ((xs.length - 1 - i : Nat) : Int) - 1 := by omega
    rw [e2]
    exact st'
  done := by
    intro X hP hw hK hc i pins s σ H E I hf st hg
    subst hP hw hK
    obtain ⟨xs, hn, hq, hx⟩ := hg
    obtain ⟨hi, st⟩ := st
    obtain ⟨f0, f1, f2, f3, f4, f5⟩ := hf it (by simp)
    have e1 : (n : Int) - 1 - (i : Int) = -1 := by omega
    rw [e1] at st
    exact wpAny_pyNext_rev_end (I.ok.hd hc) st fun h' eb => ⟨rfl, I.turned (t' := s.toks) (fun b o hb e => eb b o hb e) f0 f1 f3 f4 f5⟩
  self := fun _ _ _ _ _ st h => wpAny_pyIter_revIter st.2 h
def iRev (K : PySem.W.Frag) (ta : TA) : TI := fun σ H R => ta σ H fun vs H1 => ∃ l xs, vs = [.ref l] ∧ SqL K H1 l xs ∧ R ⟨fun i H => ∃ ys x, ys.length = xs.length ∧ SqL K H l ys ∧ ys.reverse[i]? = some x, (Itv K l).yld, fun i H => ∃ ys, ys.length = xs.length ∧ SqL K H l ys ∧ ys.length ≤ i⟩ H1
theorem boot_rev : bootBuiltins "reversed" = some (.type "reversed") := by decide +kernel
theorem pi_rev {a : Expr} {ta : TA} {p pos : Pos} {tg : Expr} (hg : Gl X "reversed") (hm : X.mg "reversed" = none) (ha : PA X [a] ta) (hs : starEach [a] X.env = (false, eval a X.env) :: starEach [] X.env := by rfl)
    (hpl : (backTo pos (starEach [] X.env)).any (·.1) = false := by rfl) : PI X tg (.Call (.Name "reversed" p) [a] [] pos) (iRev X.K ta) := by
  intro pins s σ H R I h
  refine Call_ (ld_blt I hg hm boot_rev (PyProof.Rows.callWith_type1 (thn (ha pos pins s σ H _ I h) fun us s1 ⟨vs, H1, I1, r1, q1⟩ => ?_) hs hpl))
  obtain ⟨l, xs, e, q1, q⟩ := q1
  subst e
  obtain ⟨u, rfl, ru⟩ := r1.one
  cases ru
  obtain ⟨its1, r1, p1, z1⟩ := I1.list q1
  refine call_reversed_list p1.isList ?_
  have I2 : Inv X pins σ H1 { s1 with heap := s1.heap.push (revObj l ((its1.toArray.size : Int) - 1)) } := I1.kept (t' := s1.toks) fun b o e => Heap.get?_push_of_some _ e
  have st : (s1.heap.push (revObj l ((its1.toArray.size : Int) - 1))).IsRevIter s1.heap.objs.size l ((xs.length : Int) - 1 - ((0 : Nat) : Int)) := by
    have e : (xs.length : Int) - 1 - ((0 : Nat) : Int) = (its1.toArray.size : Int) - 1 := by rw [List.size_toArray, ← r1.length]; omega
    rw [e]
    exact ⟨_, Heap.get?_push_size _ rfl, rfl, rfl⟩
  refine wpAny_pyIter_revIter (s := { s1 with heap := s1.heap.push (revObj l ((its1.toArray.size : Int) - 1)) }) st ⟨s1.heap.objs.size, [s1.heap.objs.size], _, _, H1, rfl, I2, turn_rev l s1.heap.objs.size xs.length, ⟨Nat.zero_le _, st⟩, fun b hb => ?_, q⟩
  have e : b = s1.heap.objs.size := by simpa using hb
  subst e
  exact I1.fpOk (Nat.le_refl _) (I1.hok.fresh (Nat.le_refl _))
variable {fr : Fr} {tA : DTA} {tb : DTS} {p0 p1 : Pos}
theorem AllIs.rev {K : PySem.W.Frag} {H : Hp} : ∀ {ds : List Dt} {xs : List V}, AllIs K H ds xs → AllIs K H ds.reverse xs.reverse
  | [], _, h => by rw [allIs_nil.mp h]; exact allIs_nil.mpr rfl
  | d :: ds, _, h => by
    obtain ⟨x, r, rfl, h1, h2⟩ := allIs_cons.mp h
    rw [List.reverse_cons, List.reverse_cons]
    exact (AllIs.rev h2).append (allIs_cons.mpr ⟨x, [], rfl, h1, allIs_nil.mpr rfl⟩)
def CDivG (i j : Int) : Prop := j ≠ 0 ∧ Builtin.divisionGoesByPylong i j = false
theorem o_fdivG : DOp X (binaryOp .FloorDiv) (gIC CDivG fun i j => .int (i.fdiv j)) := dop_IC (C := CDivG) (opI fun _ _ _ _ _ _ _ hc q => floordiv_int hc.1 q (.inl hc.2))
theorem cdivG {c n : Int} (h0 : n ≠ 0) (h : n.natAbs < 2 ^ 9000) : CDivG c n := ⟨h0, PyProof.noPylong_of_log2 ((Nat.log2_lt (by omega)).mpr h)⟩
def dSeqJ (t u : DTS) : DTS := fun D ρ => ∃ P : DS → Prop, t { D with nx := P } ρ ∧ ∀ ρ', P ρ' → u D ρ'
theorem dss_join {sst : Stmt} {rest : List Stmt} {t u : DTS} (h1 : DSt X fr sst t) (h2 : DSs X fr rest u) : DSs X fr (sst :: rest) (dSeqJ t u) := by
  obtain ⟨ts, p1, l1⟩ := h1
  obtain ⟨us, p2, l2⟩ := h2
  refine ⟨_, pss_cons p1 p2, fun W0 G ρ σ W D D' a s h => ?_⟩
  obtain ⟨P, h, k⟩ := h
  exact l1 W0 G ρ σ W { D with nx := P } { D' with nx := us D' } a ⟨fun ρ' σ' W' a' q => l2 W0 G ρ' σ' W' D D' a' s (k ρ' q), s.tl, s.bk, s.ct⟩ h
end
end OD

namespace OD
open PySem PySem.Spec PyProof.Rows L2
section
variable {X : Cx} {ta : DTE} {pos p0 : Pos}
end
end OD

namespace OD
variable {Z : Hp}
open PySem PySem.Spec PyProof.Rows L2
section
variable {X : Cx} {K : PySem.W.Frag} {H : Hp}
def gS (f : Str → Str → Dt) : Dt → Dt → (Dt → Prop) → Prop := fun d e Q => ∃ x y, d = .str x ∧ e = .str y ∧ Q (f x y)
theorem dec_strV {x y : Str} : decide (V.str x = V.str y) = (x == y) := by
  rw [Bool.eq_iff_iff]
  simp
theorem o_eqS : DOp X (compareOp .Eq) (gS fun x y => .bl (x == y)) := by
  refine ⟨_, op_eq, fun H x y d e Q i1 i2 ⟨a, b, ed, ee, q⟩ R k => ?_⟩
  subst ed
  subst ee
  obtain rfl := is_str.mp i1
  obtain rfl := is_str.mp i2
  refine ⟨rfl, ?_⟩
  rw [dec_strV]
  exact k _ _ H (Le.refl H) (is_bl.mpr rfl) q
theorem o_neS : DOp X (compareOp .NotEq) (gS fun x y => .bl (!(x == y))) := by
  refine ⟨_, op_ne, fun H x y d e Q i1 i2 ⟨a, b, ed, ee, q⟩ R k => ?_⟩
  subst ed
  subst ee
  obtain rfl := is_str.mp i1
  obtain rfl := is_str.mp i2
  refine ⟨rfl, ?_⟩
  rw [dec_strV]
  exact k _ _ H (Le.refl H) (is_bl.mpr rfl) q
def allStrs : List Dt → Option (List Str)
  | [] => some []
  | .str i :: r => (allStrs r).map (i :: ·)
  | _ => none
theorem allStrs_is : ∀ {ds : List Dt} {ns : List Str} {xs : List V}, allStrs ds = some ns → AllIs K H ds xs → xs = ns.map V.str
  | [], ns, xs, e, h => by
    cases e
    exact allIs_nil.mp h
  | d :: ds, ns, xs, e, h => by
    cases d with
    | str i =>
      obtain ⟨ms, e1, e2⟩ := Option.map_eq_some_iff.mp (show (allStrs ds).map (i :: ·) = some ns from e)
      obtain ⟨x, r, rfl, h1, h2⟩ := allIs_cons.mp h
      rw [allStrs_is e1 h2, is_str.mp h1, ← e2]
      rfl
    | _ => cases e
theorem inV_strs (i : Str) : ∀ ns : List Str, inV (.str i) (ns.map V.str) = ns.any fun a => a == i
  | [] => rfl
  | n :: ns => by
    have ih := inV_strs i ns
    unfold inV at ih ⊢
    rw [List.map_cons, List.any_cons, List.any_cons, ih]
    rfl
theorem flat_strs : ∀ ns : List Str, (ns.map V.str).all flatV = true
  | [] => rfl
  | n :: ns => by rw [List.map_cons, List.all_cons, flat_strs ns]; rfl
theorem o_inS : DOp X (compareOp .In) (fun d e Q => ∃ i ds ns, d = .str i ∧ seqOf e = some ds ∧ allStrs ds = some ns ∧ Q (.bl (ns.any fun a => a == i))) := by
  refine ⟨_, op_in_seq, fun H x y d e Q i1 i2 q R k => ?_⟩
  obtain ⟨i, ds, ns, rfl, e1, e2, q⟩ := q
  obtain ⟨p, xs, rfl, h1, h2⟩ := seq_is i2 e1
  obtain rfl := allStrs_is e2 h2
  obtain rfl := is_str.mp i1
  refine ⟨p, _, rfl, h1, rfl, flat_strs ns, ?_⟩
  show R (.bl (inV (.str i) (ns.map V.str))) H.h
  rw [inV_strs]
  exact k _ _ H (Le.refl H) (is_bl.mpr rfl) q
end
section
variable {X : Cx} {fr : Fr} {te : DTE} {tb : DTS} {pos p0 p1 p2 : Pos}
end
end OD

namespace OD
variable {Z : Hp}
open PySem PySem.Spec PyProof.Rows L2
def capV (σ : St) (js : List Nat) : St := js.map fun j => (σ[j]?).getD none
section
variable {X : Cx} {pins : List (Addr × Obj)} {σ : St} {H : Hp} {s : Shared} {scope : Scope} {cl : List (Str × Addr)} {x : Str} {caps : List Str} {js : List Nat} {fp : List Addr}
end
def clOf (cells : List (Str × Addr)) (names : List (Str × NameKind)) : List (Str × Addr) := (names.filterMap fun y => if y.2 == .free then (cells.lookup y.1).map (y.1, ·) else none).reverse
theorem mem_lookup {α : Type} {y : Str} {c : α} : ∀ {l : List (Str × α)}, (y, c) ∈ l → ∃ c', l.lookup y = some c'
  | [], h => nomatch h
  | (z, d) :: r, h => by
    rw [List.lookup_cons]
    cases q : y == z with
    | true => exact ⟨d, rfl⟩
    | false =>
      rcases List.mem_cons.mp h with e | e
      · cases e
        rw [beq_self_eq_true] at q
        cases q
      · exact mem_lookup e
theorem mem_clOf {cells : List (Str × Addr)} {names : List (Str × NameKind)} {y : Str} {c : Addr} : (y, c) ∈ clOf cells names ↔ (y, NameKind.free) ∈ names ∧ cells.lookup y = some c := by
  unfold clOf
  rw [List.mem_reverse, List.mem_filterMap]
  constructor
  · rintro ⟨⟨z, k⟩, hz, e⟩
    split at e
    · rename_i hk
      obtain rfl := eq_of_beq hk
      obtain ⟨d, hd, e⟩ := Option.map_eq_some_iff.mp e
      cases e
      exact ⟨hz, hd⟩
    · cases e
  · rintro ⟨h1, h2⟩
    exact ⟨(y, .free), h1, by show Option.map _ (List.lookup y cells) = _; rw [h2]; rfl⟩
theorem clos_of {scope : Scope} {env : Env} (h : ∀ y, (y, NameKind.free) ∈ scope.names → ∃ c, env.cells.lookup y = some c) : closureFor scope env = pure (clOf env.cells scope.names) := by
  have key : ∀ (names : List (Str × NameKind)) (acc : List (Str × Addr)), (∀ y, (y, NameKind.free) ∈ names → ∃ c, env.cells.lookup y = some c) →
      (forIn names acc fun x r => (if x.2 == NameKind.free then do let c ← cellOf env x.1; pure (ForInStep.yield ((x.1, c) :: r)) else pure (ForInStep.yield r) : Sem (ForInStep (List (Str × Addr))))) = (pure (clOf env.cells names ++ acc) : Sem (List (Str × Addr))) := by
    intro names
    induction names with
    | nil => intro acc _; rfl
    | cons a r ih =>
      intro acc ha
      obtain ⟨n, k⟩ := a
      rw [List.forIn_cons]
      cases hk : k == NameKind.free with
      | true =>
        obtain rfl := eq_of_beq hk
        obtain ⟨c, hc⟩ := ha n List.mem_cons_self
        have e1 : cellOf env n = pure c := by unfold cellOf; rw [hc]
        have e2 : clOf env.cells ((n, NameKind.free) :: r) = clOf env.cells r ++ [(n, c)] := by
          unfold clOf
          rw [List.filterMap_cons_some (b := (n, c)) (by show Option.map _ (List.lookup n env.cells) = _; rw [hc]; rfl), List.reverse_cons]
        show (do let c ← cellOf env n; pure (ForInStep.yield ((n, c) :: acc)) : Sem _) >>= _ = _
        rw [e1, pure_bind, pure_bind, e2, List.append_assoc]
        exact ih ((n, c) :: acc) fun y hy => ha y (List.mem_cons_of_mem _ hy)
      | false =>
        have e2 : clOf env.cells ((n, k) :: r) = clOf env.cells r := by
          unfold clOf
          rw [List.filterMap_cons_none (by show (if (k == NameKind.free) = true then _ else none) = none; rw [hk]; rfl)]
        show (pure (ForInStep.yield acc) : Sem _) >>= _ = _
        rw [pure_bind, e2]
        exact ih acc fun y hy => ha y (List.mem_cons_of_mem _ hy)
  have := key scope.names [] h
  rw [List.append_nil] at this
  unfold closureFor
  rw [← this]
  exact (bind_pure _).trans rfl
theorem lookup_relabel_free {env : Env} (hk : env.scope.kind = .function) : ∀ {names : List (Str × NameKind)} {x : Str}, names.lookup x = some .free → env.scope.names.lookup x = some .cell →
    (names.map fun (n, k) => if (k == NameKind.free && env.scope.kind == .function && env.kindOf n == some .cell) then (n, NameKind.cell) else (n, k)).lookup x = some .cell
  | [], _, h, _ => by simp at h
  | (n, k) :: r, x, h, he => by
    have ih := @lookup_relabel_free env hk r x
    show List.lookup x ((if (k == NameKind.free && env.scope.kind == .function && env.kindOf n == some .cell) = true then (n, NameKind.cell) else (n, k)) :: _) = _
    cases hx : x == n with
    | true =>
      obtain rfl := eq_of_beq hx
      simp only [List.lookup_cons, hx] at h
      cases h
      have e : env.kindOf x = some .cell := he
      rw [hk, e]
      simp [List.lookup_cons]
    | false =>
      simp only [List.lookup_cons, hx] at h
      by_cases hc : (k == NameKind.free && env.scope.kind == .function && env.kindOf n == some .cell) = true
      · rw [if_pos hc]; simp only [List.lookup_cons, hx]; exact ih h he
      · rw [if_neg hc]; simp only [List.lookup_cons, hx]; exact ih h he
def capS (ρ : DS) (js : List Nat) : DS := js.map fun j => match (ρ[j]? : Option Sl) with
  | Option.some (Sl.some d) => Sl.some d
  | _ => Sl.none
section
variable {X : Cx} {fr : Fr} {osc scope : Scope} {x : Str} {caps : List Str} {js : List Nat} {N0 : List Str} {L : Addr} {a elt : Expr} {ta te : DTE} {px p0 pos pos1 : Pos}
end
section
variable {X : Cx} {a : Expr} {p0 pos : Pos}
theorem boot_intT : bootBuiltins "int" = some (.type "int") := by decide +kernel
end
end OD

namespace OD
variable {Z : Hp}
open PySem PySem.Spec PyProof.Rows L2
section
variable {X : Cx} {fr : Fr} {osc scope : Scope} {x : Str} {caps : List Str} {js : List Nat} {N0 : List Str} {L : Addr} {iter elt : Expr} {ta te : DTE} {px pos : Pos}
end
end OD

namespace L2
open PySem PySem.Spec PyProof.Rows
section
variable {P : Program} {w : World} {H H' : Hp} {h B : Heap}
theorem HOk.part (x : HOk P w H h) (k : ∀ b u, H b ≠ none → h.get? b = some u → B.get? b = some u) : HOk P w H B := fun a o e =>
  (x a o e).stay (fun b u hb q => k b u (fun z => by rcases hb with rfl | y; (rw [e] at z; cases z); (rw [y] at z; cases z)) q) (fun _ q => q) fun _ _ q => q
theorem ObjOk.there {a : Addr} {o : HO} (x : ObjOk P w H h a o) : ∃ u, h.get? a = some u := by
  cases o with
  | lst xs => obtain ⟨_, _, _, _, e⟩ := x; exact ⟨_, e⟩
  | tup xs => obtain ⟨_, _, _, o, e, _⟩ := x; exact ⟨_, e⟩
  | dK kvs => obtain ⟨_, _, _, _, o, _, _, e, _⟩ := x; exact ⟨_, e⟩
  | dT kvs => obtain ⟨_, _, _, _, o, _, _, e, _⟩ := x; exact ⟨_, e⟩
  | set S n => obtain ⟨o, _, _, _, e, _⟩ := x; exact ⟨_, e⟩
  | ins C dx fs => obtain ⟨_, _, _, e, _⟩ := x; exact ⟨_, e⟩
  | own y => exact x
  | xd fs => obtain ⟨_, ⟨_, _, _, e, _⟩, _⟩ := x; exact ⟨_, e⟩
  | rng lo hi => obtain ⟨_, _, _, e⟩ := x; exact ⟨_, e⟩
  | frz ob u => obtain ⟨e, _⟩ := x; exact ⟨_, e⟩
  | tbl ps => exact ⟨_, (show h.get? a = some _ from x)⟩
  | met f y => exact ⟨_, (show h.get? a = some _ from x)⟩
  | ext φ => obtain ⟨_, e, _⟩ := x; exact e
end
structure Flies (P : Program) (w : World) (stack : List Env) (H : Hp) (h0 : Heap) (H' : Hp) (e : Addr) (cls : Value) (h : Heap) : Prop where
  ex : ∃ B a0, Heap.FlyingW B stack e cls a0 h ∧ (∀ b o, h0.get? b = some o → H b = none → b ∉ frs stack → B.get? b = some o) ∧ (∀ b o, h0.get? b = some o → b ∉ frs stack → ∃ o', B.get? b = some o') ∧ HOk P w H' B
  slot : ∀ b o, h0.get? b = some o → b ∈ frs stack → ∃ sl, h.get? b = some { o with slots := sl }
  free : ∀ b o, h0.get? b = some o → H b = none → H' b = none
  tups : ∀ b xs, H b = some (.tup xs) → H' b = some (.tup xs)
  frzs : ∀ b o u, H b = some (.frz o u) → H' b = some (.frz o u)
  tbls : ∀ b ps, H b = some (.tbl ps) → ∃ more, H' b = some (.tbl (ps ++ more))
  new : h0.get? e = none
section
variable {P : Program} {w : World} {stack : List Env} {H H' : Hp} {h0 h : Heap} {e : Addr} {cls : Value}
theorem Flies.un (f : Flies P w stack H h0 H' e cls h) : Un (frs stack) [] H H' h0 h := by
  obtain ⟨B, a0, ⟨st, _, _, _⟩, k1, k2, _⟩ := f.ex
  refine ⟨fun b o q n hb _ => st b o (k1 b o q n hb), fun b o q _ hb _ => f.slot b o q hb, fun b o q n _ => f.free b o q n, fun b o q _ => ?_, f.tups, f.frzs, f.tbls⟩
  by_cases hb : b ∈ frs stack
  · obtain ⟨sl, z⟩ := f.slot b o q hb
    exact ⟨_, z⟩
  · obtain ⟨o', z⟩ := k2 b o q hb
    exact ⟨o', st b o' z⟩
theorem Flies.hok (f : Flies P w stack H h0 H' e cls h) : HOk P w H' h := by
  obtain ⟨B, a0, ⟨st, _, _, _⟩, _, _, k3⟩ := f.ex
  exact k3.kept st
theorem Flies.go (f : Flies P w stack H h0 H' e cls h) : ∃ B a0, Heap.FlyingW B stack e cls a0 h ∧ ∀ h', Heap.FlyingW B stack e cls a0 h' → h.UpToSlots h' → Flies P w stack H h0 H' e cls h' := by
  obtain ⟨B, a0, fl, k1, k2, k3⟩ := f.ex
  refine ⟨B, a0, fl, fun h' fl' up => ⟨⟨B, a0, fl', k1, k2, k3⟩, fun b o q hb => ?_, f.free, f.tups, f.frzs, f.tbls, f.new⟩⟩
  obtain ⟨sl, z⟩ := f.slot b o q hb
  obtain ⟨_, ob, ho, hd⟩ := fl.2.2.1.mem hb
  rw [z] at ho
  cases ho
  obtain ⟨sl', z'⟩ := up b _ z hd
  exact ⟨sl', z'⟩
end
section
variable {X : Cx} {pins : List (Addr × Obj)} {σ : St} {H H' : Hp} {s s' : Shared} {M : Model} {E : Value → Shared → Prop} {e : Addr} {cls : Value}
theorem Inv.neL (I : Inv X pins σ H s) {b : Addr} {o : Obj} (q : X.s₀.heap.get? b = some o) : b ≠ X.env.locals := Nat.ne_of_lt (Nat.lt_of_lt_of_le (Heap.lt_size q) I.ok.above)
theorem fly_made {vs : List Value} {h1 : Heap} {Q : Unit → Shared → Prop} (I : Inv X pins σ H s) (hstk : X.stack = X.env :: X.outer) (hf : X.env.frame = some X.env.locals) (hex : X.ex = []) (hx : Heap.MadeExcOf s.heap h1 e cls vs)
    (hQ : ∀ h', Flies X.prog X.w X.outer X.H₀ X.s₀.heap H e cls h' → Q () { s with heap := h' }) : wpAny M X.A (leaving X.env (.ref e)) Q E { s with heap := h1 } := by
  have hfr : X.A.frames = some (X.env :: X.outer) := by rw [← hstk]; exact I.ok.frames
  have hfs : frs X.stack = X.env.locals :: frs X.outer := by rw [hstk]; unfold frs; rw [List.filterMap_cons, hf]
  have hl : s.heap.FunFrames (PySem.W.hideAll s.heap (frs X.stack)) (X.env :: X.outer) := by
    have z := I.stack
    rw [hstk] at z
    refine PySem.W.funFrames_hide z fun env he a ha => ?_
    rw [hstk]
    exact List.mem_filterMap.mpr ⟨env, he, ha⟩
  have nx : ∀ b, b ∉ X.ex := fun b z => by rw [hex] at z; cases z
  have nst : ∀ b o, X.s₀.heap.get? b = some o → b ∉ frs X.outer → b ∉ frs X.stack := fun b o q nb z => by
    rw [hfs] at z
    rcases List.mem_cons.mp z with z | z
    · exact I.neL q z
    · exact nb z
  refine PySem.wpAny_leaves_madeW (s := { s with heap := h1 }) (h := s.heap) (base := PySem.W.hideAll s.heap (frs X.stack)) hfr hf (fun b o q => PySem.W.of_hideAll _ q) hl hx fun h' t x1 x2 x3 x4 => hQ h' ⟨⟨_, _, x1, fun b o q n nb => ?_, fun b o q nb => ?_, ?_⟩, fun b o q hb => ?_, fun b o q n => I.base.free b o q n (nx b), I.base.tups, I.base.frzs, I.base.tbls, ?_⟩
  · exact PySem.W.hideAll_get _ (I.base.keep b o q n nb (nx b)) (nst b o q nb)
  · obtain ⟨o', z⟩ := I.base.there b o q (nx b)
    exact ⟨o', PySem.W.hideAll_get _ z (nst b o q nb)⟩
  · exact I.hok.part fun b u hb q => PySem.W.hideAll_get _ q fun z => hb (I.stkFree b z)
  · obtain ⟨sl, z⟩ := I.base.slot b o q (I.ok.frf b hb) hb (nx b)
    obtain ⟨_, ob, ho, hd⟩ := I.funs.mem hb
    rw [z] at ho
    cases ho
    obtain ⟨sl', z'⟩ := x4 b _ (hx.keeps b _ z) hd
    exact ⟨sl', z'⟩
  · cases q : X.s₀.heap.get? e with
    | none => rfl
    | some o =>
      obtain ⟨o', z⟩ := I.base.there e o q (nx e)
      rw [hx.new] at z; cases z
theorem fly_on {Q : Unit → Shared → Prop} (I : Inv X pins σ H s) (hstk : X.stack = X.env :: X.outer) (hf : X.env.frame = some X.env.locals) (hex : X.ex = []) (f : Flies X.prog X.w X.stack H s.heap H' e cls s'.heap)
    (hQ : ∀ h', Flies X.prog X.w X.outer X.H₀ X.s₀.heap H' e cls h' → Q () { s' with heap := h' }) : wpAny M X.A (leaving X.env (.ref e)) Q E s' := by
  have hfr : X.A.frames = some (X.env :: X.outer) := by rw [← hstk]; exact I.ok.frames
  have hfs : frs X.stack = X.env.locals :: frs X.outer := by rw [hstk]; unfold frs; rw [List.filterMap_cons, hf]
  have nx : ∀ b, b ∉ X.ex := fun b z => by rw [hex] at z; cases z
  have nst : ∀ b o, X.s₀.heap.get? b = some o → b ∉ frs X.outer → b ∉ frs X.stack := fun b o q nb z => by
    rw [hfs] at z
    rcases List.mem_cons.mp z with z | z
    · exact I.neL q z
    · exact nb z
  obtain ⟨B, a0, fl, k1, k2, k3⟩ := f.ex
  have fl' := fl
  rw [hstk] at fl'
  refine PySem.wpAny_leaves_onW hfr hf fl' fun h' x1 x2 => hQ h' ⟨⟨B, a0, x1, fun b o q n nb => ?_, fun b o q nb => ?_, k3⟩, fun b o q hb => ?_, fun b o q n => ?_, fun b xs q => f.tups b xs (I.base.tups b xs q), fun b o u q => f.frzs b o u (I.base.frzs b o u q), fun b ps q => ?_, ?_⟩
  · exact k1 b o (I.base.keep b o q n nb (nx b)) (I.base.free b o q n (nx b)) (nst b o q nb)
  · obtain ⟨o', z⟩ := I.base.there b o q (nx b)
    exact k2 b o' z (nst b o q nb)
  · obtain ⟨sl, z⟩ := I.base.slot b o q (I.ok.frf b hb) hb (nx b)
    have hb' : b ∈ frs X.stack := by rw [hfs]; exact List.mem_cons_of_mem _ hb
    obtain ⟨sl', z'⟩ := f.slot b _ z hb'
    obtain ⟨_, ob, ho, hd⟩ := fl.2.2.1.mem hb'
    rw [z'] at ho
    cases ho
    obtain ⟨sl2, z2⟩ := x2 b _ z' hd
    exact ⟨sl2, z2⟩
  · obtain ⟨o', z⟩ := I.base.there b o q (nx b)
    exact f.free b o' z (I.base.free b o q n (nx b))
  · obtain ⟨m1, e1⟩ := I.base.tbls b ps q
    obtain ⟨m2, e2⟩ := f.tbls b _ e1
    exact ⟨m1 ++ m2, by rw [e2, Array.append_assoc]⟩
  · cases q : X.s₀.heap.get? e with
    | none => rfl
    | some o =>
      obtain ⟨o', z⟩ := I.base.there e o q (nx e)
      rw [f.new] at z; cases z
end
def ExcK (K : PySem.W.Frag) (C : Addr) : Prop := PySem.W.excIn K C [.type "ValueError", .type "Exception", .type "BaseException", .type "object"] "ValueError.__new__" = true
theorem exc_obj {K : PySem.W.Frag} {h : Heap} {C : Addr} (X : K.In h) (q : ExcK K C) : ∃ bm N nm qn bs hdct sn sub ab col dd k0 k1 k2 k3 k5 mN, h.get? C = some (excClassObj nm qn C N bs bm hdct sn sub ab col dd k0 k1 k2 k3 k5 "ValueError.__new__") ∧ h.Ns N mN ∧ mN "__init__" = none ∧ OwnTail h [.type "ValueError", .type "Exception", .type "BaseException", .type "object"] bm := by
  unfold ExcK PySem.W.excIn at q
  split at q
  · rename_i d1 cl s1 look
    split at q
    · rename_i C1 tl w0 w1 w2 w3 nid w5 em es
      simp only [Bool.and_eq_true, Bool.not_eq_true', beq_iff_eq] at q
      obtain ⟨⟨⟨⟨⟨rfl, rfl⟩, q1⟩, q2⟩, q3⟩, q4⟩ := q
      obtain ⟨a1, a2, a3, a4, a5, a6, a7, a8, a9, b1, b2⟩ := cl
      dsimp only at em q1 q3 q4
      subst em q1
      obtain rfl : s1 = #[w0, w1, w2, w3, some (.builtin "ValueError.__new__"), w5] := by
        obtain ⟨l⟩ := s1
        simp only at es; rw [es]
      exact ⟨tl, a4, a1, a5, a2, a6, a7, a8, a9, b1, d1, w0, w1, w2, w3, w5, _, X _ _ look, .of_isNs (PySem.W.isNs_of_in X q3), PySem.W.nsMap_none_of_in X q3 q4, PySem.W.tail_of_in X q2⟩
    · cases q
  · cases q
def XOk (X : Cx) (C : Addr) (H : Hp) : Prop := ∀ (pins : List (Addr × Obj)) (σ : St) (s : Shared) (h1 : Heap) (e : Addr) (vs : List Value), Inv X pins σ H s → Heap.MadeExcOf s.heap h1 e (.ref C) vs → X.xe (.ref e) { s with heap := h1 }
def sRaise (X : Cx) (C : Addr) (te : TE) : TS := fun _ σ H => te σ H fun _ H1 => XOk X C H1
theorem ps_raise {X : Cx} {C : Addr} {x : Str} {a : Expr} {te : TE} {np cpos pos : Pos} (hc : X.calm = true) (hg : Gl X x) (hm : X.mg x = some (.ref C)) (hC : ExcK X.K C) (ha : PE X a te)
    (hdb : (x == ("__debug__" : Str)) = false := by decide) (he : starEach [a] X.env = (false, eval a X.env) :: starEach [] X.env := by rfl) : PS X (.Raise (some (.Call (.Name x np) [a] [] cpos)) none pos) (sRaise X C te) := by
  intro pins s σ H D I h
  obtain ⟨bm, N, nm, qn, bs, hdct, sn, sub, ab, col, dd, k0, k1, k2, k3, k5, mN, hO, hN, hni, T⟩ := exc_obj I.ok.mod.kin hC
  refine PySem.wpAny_Raise_call_subU (C := C) (nm := nm) (q := qn) (N := N) (bs := bs) (bm := bm) (hdct := hdct) (sn := sn) (sub := sub) (ab := ab) (col := col) (dd := dd) (k0 := k0) (k1 := k1) (k2 := k2) (k3 := k3) (k5 := k5)
    PySem.F.excBase_ValueError (by decide) PySem.F.excBase_ValueError (mN := mN) (T.hasType PySem.F.excBase_ValueError.hasBase) (I.ok.hd hc) (by rw [he]; rfl) hni (ld_glob I hg hm ⟨rfl, ?_⟩ hdb)
  have z := pa_cons ha pa_nil he cpos pins s σ H (fun us H1 => us.length = 1 ∧ XOk X C H1) I (show te σ H (fun x H1 => [x].length = 1 ∧ XOk X C H1) from by
    have h : te σ H (fun _ H1 => XOk X C H1) := h
    simpa using h)
  rw [he] at z ⊢
  refine Calls.evalArgs_plain (thn z fun vs s1 ⟨us, H1, I1, r, hl, q⟩ => ⟨rfl, ?_, I1.bk _ _ hO, hN.keeps I1.bk, T.keeps I1.bk, fun h' e hx => q pins σ s1 h' e vs I1 hx⟩)
  show vs.length ≤ _
  rw [← r.length, hl]
  decide
def CX1 (P : Program) (w : World) : CXT := fun outer H s E e s' => ∃ a C H', e = .ref a ∧ s'.os = s.os ∧ AllBare s'.gens ∧ Flies P w outer H s.heap H' a (.ref C) s'.heap ∧ E (.ref C) none H'
section
variable {P : Program} {w : World} {K : PySem.W.Frag} {mg : Str → Option Value} {base : Heap} {N : List Str} {qual : Str} {scope : Scope} {f C : Addr} {cd : Value} {A : Around} {outer : List Env} {s : Shared} {H H1 : Hp} {E : XK}
theorem xok_of (h : E (.ref C) none H1) : XOk (cxOf (CX1 P w) P w K mg base N qual scope f cd A outer s H E) C H1 := fun pins σ s' h1 e vs I hx =>
  fly_made (X := cxOf (CX1 P w) P w K mg base N qual scope f cd A outer s H E) I rfl rfl rfl hx fun h' fl => ⟨e, C, H1, rfl, I.os, I.bare, fl, h⟩
end
section
variable {X : Cx} {CX : CXT} {k : Nat} {f C : Addr} {fd : FuncData} {ps : List Str} {sp : Sp} {dvs : List V} {ds : List Value} {x y : Str} {p pos : Pos} {e : Expr} {es : List Expr} {t : TA}
def XPx (X : Cx) (pins : List (Addr × Obj)) (σ : St) (E : XK) (e : Value) (s' : Shared) : Prop := ∃ a C H' H1 s1, e = .ref a ∧ Inv X pins σ H1 s1 ∧ s'.os = s1.os ∧ AllBare s'.gens ∧ Flies X.prog X.w X.stack H1 s1.heap H' a (.ref C) s'.heap ∧ E (.ref C) none H'
theorem call_x (F : FnOk X.prog X.w X.K X.mg X.base (CX1 X.prog X.w) k f fd ps sp) (hr : Room k X.A) (hg : Gl X x) (hm : X.mg x = some (.ref f)) (hk : PySem.W.keepIn X.K (.ref f) = true) (hb : Binds X.K fd ps [])
    (ha : PA X.nox (e :: es) t) {pins : List (Addr × Obj)} {s : Shared} {σ : St} {H : Hp} {Q : VK} {E : XK} (I : Inv X pins σ H s) (h : t σ H fun vs H1 => sp vs H1 Q E)
    (hdb : (x == ("__debug__" : Str)) = false := by decide) (he : starEach (e :: es) X.env = (false, eval e X.env) :: starEach es X.env := by rfl) (hpl : (backTo pos (starEach es X.env)).any (·.1) = false := by rfl) :
    wpAny (model X.prog X.w) X.A (eval (.Call (.Name x p) (e :: es) [] pos) X.env) (EP X pins σ Q) (XPx X pins σ E) s := by
  refine wpAny_Call_Name_kw (ld_glob I hg hm ?_ hdb)
  refine PySem.W.callWith_K (h₀ := X.base) I.ok.mod.kin hk (wpAny_mono (ha pos pins s σ H _ (I.wish _) h) (fun us s1 ⟨vs, H1, I1, r, q⟩ => ⟨I1.unwish.kIn, ?_⟩) fun _ _ z => z.elim) he hpl
  have I1 := I1.unwish
  have hl : us.length = ps.length := by rw [← r.length]; exact F.len _ _ _ _ q
  refine wpAny_call (codeAny_mono (F.run X.A X.stack s1 H1 ⟨us, []⟩ us vs Q E hr I1.env0 ?_ r q) fun rr s' hq => ?_)
  · have z := hb s1 us I1.kIn (by rw [List.append_nil]; exact hl)
    rw [List.append_nil] at z
    exact z
  cases rr with
  | error e =>
    obtain ⟨a, C, H', ee, os, bare, fl, z⟩ := hq
    exact ⟨a, C, H', H1, s1, ee, I1, os, bare, fl, z⟩
  | ok fl =>
    cases fl with
    | ret u => exact I1.after hq
    | next => exact False.elim hq
    | brk => exact False.elim hq
    | cont => exact False.elim hq
end
abbrev TB := (St → Hp → Prop) → XK → St → Hp → Prop
def PB (X : Cx) (body : List Stmt) (t : TB) : Prop := ∀ (pins : List (Addr × Obj)) (s : Shared) (σ : St) (H : Hp) (nx : St → Hp → Prop) (E : XK), Inv X pins σ H s → t nx E σ H →
  wpAny (model X.prog X.w) X.A (execs body X.env) (fun f s' => f = .next ∧ ∃ σ' H', Inv X pins σ' H' s' ∧ nx σ' H') (XPx X pins σ E) s
def Cx.inH (X : Cx) (a : Addr) : Cx := { X with A := X.A.mark (some (.ref a)), calm := false, xe := fun _ _ => False }
section
variable {X : Cx} {pins : List (Addr × Obj)} {σ : St} {H : Hp} {s : Shared} {a : Addr}
theorem Inv.inH (I : Inv X pins σ H s) (a : Addr) : Inv (X.inH a) pins σ H s :=
  ⟨⟨I.ok.mod, I.ok.kind, I.ok.glob, I.ok.blt, I.ok.above, I.ok.inj, I.ok.has, I.ok.cab, fun z => Bool.noConfusion z, I.ok.frames, I.ok.stk, I.ok.exf, I.ok.bs, I.ok.bsz, I.ok.noex, I.ok.exfs, I.ok.funs, I.ok.frf⟩, I.os, I.bare, I.base, I.loc, I.cell, I.free, I.freeC, I.pin, I.hok, I.len⟩
theorem Inv.outH (ok : X.Ok) (I : Inv (X.inH a) pins σ H s) : Inv X pins σ H s := ⟨ok, I.os, I.bare, I.base, I.loc, I.cell, I.free, I.freeC, I.pin, I.hok, I.len⟩
theorem SP.outH {D : Ends} {f : Flow} {s' : Shared} (ok : X.Ok) (h : SP (X.inH a) pins D f s') : SP X pins D f s' := by
  cases f with
  | next => obtain ⟨σ', H', I, q⟩ := h; exact ⟨σ', H', I.outH ok, q⟩
  | brk => obtain ⟨σ', H', I, q⟩ := h; exact ⟨σ', H', I.outH ok, q⟩
  | cont => obtain ⟨σ', H', I, q⟩ := h; exact ⟨σ', H', I.outH ok, q⟩
  | ret u => obtain ⟨v, σ', H', I, r, q⟩ := h; exact ⟨v, σ', H', I.outH ok, r, q⟩
end
section
variable {X : Cx} {t : TB} {th : TS} {y : Str} {c : Value} {py hpos pos : Pos} {body : List Stmt} {b₀ : Stmt} {suite : List Stmt}
def sTry (K : PySem.W.Frag) (c : Value) (t : TB) (th : TS) : TS := fun D σ H => t D.nx (fun cls _ H' => PySem.W.exmOne K cls c = some true ∧ th D σ H') σ H
theorem ps_try (hstk : X.stack = X.env :: X.outer) (hf : X.env.frame = some X.env.locals) (hb : PB X body t) (hh : ∀ a, PSs (X.inH a) (b₀ :: suite) th) (hg : Gl X y) (hm : X.mg y = some c) (hd : (y == ("__debug__" : Str)) = false := by decide) :
    PS X (.Try body [.ExceptHandler (some (.Name y py)) none (b₀ :: suite) hpos] [] [] pos) (sTry X.K c t th) := by
  intro pins s σ H D I h
  have hfr : X.A.frames = some (X.env :: X.outer) := by rw [← hstk]; exact I.ok.frames
  refine wpAny_Try_except (wpAny_mono (hb pins s σ H _ _ I h) (fun f s1 ⟨ef, σ', H', I', q⟩ => ?_) fun e s1 hx => ?_)
  · subst ef
    exact wpAny_execs_nil ⟨σ', H', I', q⟩
  · obtain ⟨a, C, H', H1, s2, rfl, I1, os, bare, fl, hex, hth⟩ := hx
    obtain ⟨B, a0, fl0, go⟩ := fl.go
    have inv : ∀ h', Heap.FlyingW B X.stack a (.ref C) a0 h' → s1.heap.UpToSlots h' → Inv X pins σ H' { s1 with heap := h' } := fun h' x1 x2 =>
      have f' := go h' x1 x2
      I1.call' (s' := { s1 with heap := h' }) os f'.un f'.hok bare (fun _ z => nomatch z)
    rw [hstk] at fl0
    refine wpAny_looks_onW hfr hf fl0 fun h4 held4 up4 => ?_
    refine wpAny_landsW held4 fun h5 fl5 up5 => ?_
    have I5 := inv h5 (by rw [hstk]; exact fl5) (up4.trans up5)
    obtain ⟨ob, hob, hoc⟩ := fl5.there
    have ty : PySem.W.Looks (model X.prog X.w) h5 (typeOf (.ref a)) (.ref C) := by rw [← hoc]; exact (PySem.W.Looks.ld hob).andThen .now
    refine wpAny_handleBy_cons (codeAny_handlers_test (ld_glob (X := X.inH a) (I5.inH a) hg hm ((PySem.W.exm_one I5.kIn ty hex).here ?_) hd)) (by intro q; cases q)
    refine codeAny_handlers_suite ?_
    refine lands_againW fl5 fun h6 fl6 up6 => ?_
    have I6 := inv h6 (by rw [hstk]; exact fl6) ((up4.trans up5).trans up6)
    exact wpAny_mono (hh a pins _ σ H' D (I6.inH a) hth) (fun f s3 q => SP.outH I.ok q) fun _ _ z => z.elim
end
section
variable {X : Cx} {pins : List (Addr × Obj)} {σ : St} {H : Hp} {s : Shared}
end
section
variable {X : Cx} {t : TB} {th : TS} {y n : Str} {j : Nat} {c : Value} {py hpos pos : Pos} {body : List Stmt} {b₀ : Stmt} {suite : List Stmt}
end
end L2
namespace L2
open PySem PySem.Spec PyProof.Rows PySem.W PySem.Builtin PySem.Builtin.ObjectAttr PySem.Builtin.Getset_descriptor
structure IsxOk (K : PySem.W.Frag) (C : Addr) : Prop where
  ga : PySem.W.findIn K (.ref C) "__getattribute__" = some (some (.builtin "BaseException.__getattribute__"))
  gn : PySem.W.findIn K (.ref C) "__getattr__" = some none
  ha : PySem.W.findIn K (.ref C) "__class__" = some (some (.builtin "object.__class__"))
  hn : PySem.W.specialIn K (.builtin "object.__class__") "__get__" = some (some (.builtin "getset_descriptor.__get__"))
  htk : PySem.W.takesIn K (.builtin "object.__class__") = some true
  hm : PySem.W.mroIn K C (.type "object") = some true
  hb : PySem.W.mroIn K C (.type "BaseException") = some true
section
variable {prog : Program} {w : World} {A : Around} {E : Value → Shared → Prop} {s : Shared} {K : PySem.W.Frag} {a C : Addr} {oa : Obj}
end
end L2
namespace OD
open PySem PySem.Spec PyProof.Rows L2
variable {Z : Hp}
def XOn (X : Cx) (C : Addr) (H' : Hp) : Prop := ∀ (pins : List (Addr × Obj)) (σ : L2.St) (H : Hp) (s : Shared) (a : Addr) (s' : Shared), Inv X pins σ H s → s'.os = s.os → AllBare s'.gens → Flies X.prog X.w X.stack H s.heap H' a (.ref C) s'.heap → X.xe (.ref a) s'
def Ecan (X : Cx) : XK := fun cls _ H' => ∃ C, cls = .ref C ∧ XOn X C H'
theorem pass_can {X : Cx} : Passes (CX1 X.prog X.w) X (Ecan X) := fun pins σ H s e s' I ⟨a, C, H', ee, os, bare, fl, C', ec, h⟩ => by
  cases ec
  subst ee
  exact h pins σ H s a s' I os bare fl
def Rz (X : Cx) (C : Addr) : Prop := ∀ H', Same (Zx X) H' → XOk X C H' ∧ XOn X C H'
section
variable {P : Program} {w : World} {K : PySem.W.Frag} {mg : Str → Option Value} {base : Heap} {N : List Str} {qual : Str} {scope : Scope} {f C : Addr} {cd : Value} {A : Around} {outer : List Env} {s : Shared} {H H1 : Hp} {E : XK}
theorem rz_of (h : ∀ H', Same H H' → E (.ref C) none H') : Rz (cxOf (CX1 P w) P w K mg base N qual scope f cd A outer s H E) C := fun H' z => by
  rw [zx_def] at z
  refine ⟨xok_of (h H' z), fun pins σ H2 s2 a s' I os bare fl => ?_⟩
  exact fly_on (X := cxOf (CX1 P w) P w K mg base N qual scope f cd A outer s H E) I rfl rfl rfl fl fun h' fl' => ⟨a, C, H', rfl, os.trans I.os, bare, fl', h H' z⟩
end
abbrev DSpX := List Dt → (Dt → Prop) → (Addr → Prop) → Prop
def PureSpX (K : PySem.W.Frag) (S : DSpX) : Sp := fun vs H Q E => ∃ (W : Vw) (ds : List Dt) (Qd : Dt → Prop) (Ed : Addr → Prop), W.h = H ∧ AllIs K W.g ds vs ∧ S ds Qd Ed ∧ (∀ d v W', Le W W' → Is K W'.g d v → Qd d → Q v W'.h) ∧ ∀ C H', Same W.h H' → Ed C → E (.ref C) none H'
def FreshSpX (K : PySem.W.Frag) (S : DSpX) : Sp := fun vs H Q E => ∃ (W : Vw) (ds : List Dt) (Qd : Dt → Prop) (Ed : Addr → Prop), W.h = H ∧ AllIs K W.g ds vs ∧ S ds Qd Ed ∧
  (∀ es p xs W', Le W W' → W.h p = none → W'.h p = some (.lst xs) → W'.g p = none → AllIs K W'.g es xs → Qd (.lst es) → Q (.ref p) W'.h) ∧ ∀ C H', Same W.h H' → Ed C → E (.ref C) none H'
structure DOkX (P : Program) (w : World) (K : PySem.W.Frag) (mg : Str → Option Value) (base : Heap) (n : Nat) (x : Str) (S : DSpX) : Prop where
  ex : ∃ f fd ps, mg x = some (.ref f) ∧ PySem.W.keepIn K (.ref f) = true ∧ Binds K fd ps [] ∧ FnOk P w K mg base (CX1 P w) n f fd ps (PureSpX K S)
structure FOkX (P : Program) (w : World) (K : PySem.W.Frag) (mg : Str → Option Value) (base : Heap) (n : Nat) (x : Str) (S : DSpX) : Prop where
  ex : ∃ f fd ps, mg x = some (.ref f) ∧ PySem.W.keepIn K (.ref f) = true ∧ Binds K fd ps [] ∧ FnOk P w K mg base (CX1 P w) n f fd ps (FreshSpX K S)
section
variable {P : Program} {w : World} {K : PySem.W.Frag} {mg : Str → Option Value} {base : Heap}
theorem Fun.okX {CX : CXT} {x qual : Str} {st : Stmt} {f : Addr} {fd : FuncData} {N ps : List Str} {k : Nat} {sp : Sp} (F : Fun K x qual st f fd) (S : FnScope N ps (defScope st)) (len : ∀ vs H Q E, sp vs H Q E → vs.length = ps.length)
    (hbody : ∀ (cdv : Value) (A : Around) (outer : List Env) (s : Shared) (H : Hp) (vs : List V) (Q : VK) (E : XK), Room k (A.deeper (envOfC qual (defScope st) s.heap.objs.size f cdv)) → sp vs H Q E →
      ∃ t, PSs (cxOf CX P w K mg base N qual (defScope st) f cdv A outer s H E) (defBody st) t ∧ t { nx := fun _ H' => Q .non H', rt := Q } (start N vs) H) : FnOk P w K mg base CX (k + 1) f fd ps sp := by
  obtain ⟨oc, od, kV, doc, pm, an, cdv, ct, osl, rfl, lk, hcd⟩ := F.ex
  exact fn_of lk hcd S len fun A outer s H vs Q E hr h => hbody cdv A outer s H vs Q E hr h
theorem okDX {x qual : Str} {st : Stmt} {f : Addr} {fd : FuncData} {N ps : List Str} {k : Nat} {S : DSpX} (F : Fun K x qual st f fd) (sc : FnScope N ps (defScope st)) (len : ∀ ds Q R, S ds Q R → ds.length = ps.length)
    (hbody : ∀ (cdv : Value) (A : Around) (outer : List Env) (s : Shared) (H : Hp) (E : XK), Room k (A.deeper (envOfC qual (defScope st) s.heap.objs.size f cdv)) → ∀ (ds : List Dt) (Q : Dt → Prop) (R : Addr → Prop), S ds Q R →
      (∀ C, R C → Rz (cxOf (CX1 P w) P w K mg base N qual (defScope st) f cdv A outer s H E) C) →
      ∃ t, DSs (cxOf (CX1 P w) P w K mg base N qual (defScope st) f cdv A outer s H E) .d (defBody st) t ∧ t { nx := fun _ => Q .non, rt := Q } (dstart N.length ds)) : FnOk P w K mg base (CX1 P w) (k + 1) f fd ps (PureSpX K S) := by
  refine Fun.okX F sc (fun vs H Q E h => ?_) (fun cdv A outer s H vs Q E hr h => ?_)
  · obtain ⟨W, ds, Qd, Ed, _, ia, hS, _⟩ := h
    rw [← ia.length]
    exact len ds Qd Ed hS
  obtain ⟨W, ds, Qd, Ed, rfl, ia, hS, kk, ke⟩ := h
  obtain ⟨t, ⟨ts, p, l⟩, ht⟩ := hbody cdv A outer s W.h E hr ds Qd Ed hS fun C hC => rz_of fun H' z => ke C H' z hC
  refine ⟨ts, p, l W W.g (dstart N.length ds) (start N vs) W { nx := fun _ => Qd .non, rt := Qd } _ (at_start ia (zx_stk (Nat.succ_ne_self _))) ⟨fun ρ σ W' a q => kk .non .non W' a.le (is_non.mpr rfl) q, fun d v W' s' i' q => kk d v W' s' i' q, fun _ _ _ _ q => q.elim, fun _ _ _ _ q => q.elim⟩ ht⟩
theorem DOkX.mk' {x qual : Str} {st : Stmt} {f : Addr} {fd : FuncData} {ps : List Str} {n : Nat} {S : DSpX} (F : Fun K x qual st f fd) (hm : mg x = some (.ref f)) (hb : Binds K fd ps []) (h : FnOk P w K mg base (CX1 P w) n f fd ps (PureSpX K S)) : DOkX P w K mg base n x S :=
  ⟨f, fd, ps, hm, F.kp, hb, h⟩
theorem FOkX.mk' {x qual : Str} {st : Stmt} {f : Addr} {fd : FuncData} {ps : List Str} {n : Nat} {S : DSpX} (F : Fun K x qual st f fd) (hm : mg x = some (.ref f)) (hb : Binds K fd ps []) (h : FnOk P w K mg base (CX1 P w) n f fd ps (FreshSpX K S)) : FOkX P w K mg base n x S :=
  ⟨f, fd, ps, hm, F.kp, hb, h⟩
theorem DOkX.mono {x : Str} {m n : Nat} {S : DSpX} (h : DOkX P w K mg base m x S) (hl : m ≤ n) : DOkX P w K mg base n x S :=
  let ⟨f, fd, ps, h1, h2, h3, h4⟩ := h.ex; ⟨f, fd, ps, h1, h2, h3, h4.mono hl⟩
theorem FOkX.mono {x : Str} {m n : Nat} {S : DSpX} (h : FOkX P w K mg base m x S) (hl : m ≤ n) : FOkX P w K mg base n x S :=
  let ⟨f, fd, ps, h1, h2, h3, h4⟩ := h.ex; ⟨f, fd, ps, h1, h2, h3, h4.mono hl⟩
end
section
variable {X : Cx} {e a : Expr} {es : List Expr} {t : DTA} {ta : DTE} {n : Nat} {x y : Str} {S : DSpX} {p pos np cpos : Pos} {fr : Fr} {C : Addr}
theorem rl_zx {F : Hp} {W : Vw} {ρ : DS} {σ : L2.St} {K : PySem.W.Frag} (r : Rl K Z F W ρ σ) : Same Z W.h := r.z.trans r.fr
def dCallX (X : Cx) (S : DSpX) (t : DTA) : DTE := fun ρ Q => t ρ fun ds => S ds Q (Rz X)
theorem de_callX (G : DOkX X.prog X.w X.K X.mg X.base n x S) (hr : Room n X.A) (hg : Gl X x) (ha : DA X (e :: es) t) (hdb : (x == ("__debug__" : Str)) = false := by decide)
    (he : starEach (e :: es) X.env = (false, eval e X.env) :: starEach es X.env := by rfl) (hpl : (backTo pos (starEach es X.env)).any (·.1) = false := by rfl) : DE X (.Call (.Name x p) (e :: es) [] pos) (dCallX X S t) := by
  obtain ⟨f, fd, ps, hm, hk, hb, F⟩ := G.ex
  obtain ⟨te, p1, l1⟩ := ha
  refine ⟨_, pe_call F hr hg hm hk hb .nil pass_can p1 hdb he hpl, fun ρ σ H Q r h R k => l1 ρ σ H _ r h _ fun ds vs H1 s1 i1 q1 => ?_⟩
  rw [List.append_nil]
  exact ⟨H1, ds, Q, Rz X, rfl, i1, q1, fun d v H2 s2 i2 q2 => k d v H2 (s1.trans s2) i2 q2, fun C H' s' hC => ⟨C, rfl, (hC H' (((rl_zx r).trans s1.h).trans s')).2⟩⟩
theorem df_callX (G : FOkX X.prog X.w X.K X.mg X.base n x S) (hr : Room n X.A) (hg : Gl X x) (ha : DA X (e :: es) t) (hdb : (x == ("__debug__" : Str)) = false := by decide)
    (he : starEach (e :: es) X.env = (false, eval e X.env) :: starEach es X.env := by rfl) (hpl : (backTo pos (starEach es X.env)).any (·.1) = false := by rfl) : DF X (.Call (.Name x p) (e :: es) [] pos) (dCallX X S t) := by
  obtain ⟨f, fd, ps, hm, hk, hb, F⟩ := G.ex
  obtain ⟨te, p1, l1⟩ := ha
  refine ⟨_, pe_call F hr hg hm hk hb .nil pass_can p1 hdb he hpl, fun ρ σ H Q r h R k => l1 ρ σ H _ r h _ fun ds vs H1 s1 i1 q1 => ?_⟩
  rw [List.append_nil]
  exact ⟨H1, ds, Q, Rz X, rfl, i1, q1, fun es p xs H2 s2 h0 h1 h2 i2 q2 => k es p xs H2 (s1.trans s2) (s1.h.free h0) h1 h2 i2 q2, fun C H' s' hC => ⟨C, rfl, (hC H' (((rl_zx r).trans s1.h).trans s')).2⟩⟩
def dRaise (X : Cx) (C : Addr) (ta : DTE) : DTS := fun _ ρ => ta ρ fun _ => Rz X C
theorem ds_raise (hc : X.calm = true) (hg : Gl X x) (hm : X.mg x = some (.ref C)) (hC : ExcK X.K C) (ha : DE X a ta) (hdb : (x == ("__debug__" : Str)) = false := by decide)
    (he : starEach [a] X.env = (false, eval a X.env) :: starEach [] X.env := by rfl) : DSt X fr (.Raise (some (.Call (.Name x np) [a] [] cpos)) none pos) (dRaise X C ta) := by
  obtain ⟨te, p1, l1⟩ := ha
  exact ⟨_, ps_raise hc hg hm hC p1 hdb he, fun W0 G ρ σ W D D' at_ s h => l1 ρ σ W _ at_.rl h _ fun d v W1 s1 i1 q1 => (q1 W1.h ((rl_zx at_.rl).trans s1.h)).1⟩
def liftS (K : PySem.W.Frag) (Z : Hp) (fr : Fr) (t : DTS) : TS := fun D' σ H => ∃ (W0 : Vw) (G : Hp) (ρ : DS) (W : Vw) (D : DEnds), W.h = H ∧ At K Z W0 G W ρ σ ∧ Sim K Z fr W0 G D D' ∧ t D ρ
theorem DSs.up {sts : List Stmt} {t : DTS} (h : DSs X fr sts t) : PSs X sts (liftS X.K (Zx X) fr t) := by
  obtain ⟨ts, p, l⟩ := h
  intro pins s σ H D' I q
  obtain ⟨W0, G, ρ, W, D, rfl, a, sm, ht⟩ := q
  exact p pins s σ W.h D' I (l W0 G ρ σ W D D' a sm ht)
def Vw.at (W : Vw) (H' : Hp) (s : Same W.h H') : Vw := ⟨W.g, H', W.sub.trans s⟩
theorem le_at {W : Vw} {H' : Hp} (s : Same W.h H') : Le W (W.at H' s) := ⟨Same.refl _, s, fun _ _ h => h⟩
def dTry (K : PySem.W.Frag) (c : Value) (S : DSpX) (t : DTA) (th : DTS) : DTS := fun D ρ => t ρ fun ds => S ds (fun _ => D.nx ρ) fun C => PySem.W.exmOne K (.ref C) c = some true ∧ th D ρ
variable {b₀ : Stmt} {suite : List Stmt} {th : DTS} {c : Value} {py hpos epos tpos : Pos}
theorem pb_expr {f : Addr} {fd : FuncData} {ps : List Str} {sp : Sp} {te : TA} (F : FnOk X.prog X.w X.K X.mg X.base (CX1 X.prog X.w) n f fd ps sp) (hr : Room n X.A) (hg : Gl X x) (hm : X.mg x = some (.ref f)) (hk : PySem.W.keepIn X.K (.ref f) = true) (hb : Binds X.K fd ps []) (ha : PA X.nox (e :: es) te)
    (hs : swapsWith (.Call (.Name x p) (e :: es) [] pos) none epos.line X.env = pure false := by rfl) (hdb : (x == ("__debug__" : Str)) = false := by decide)
    (he : starEach (e :: es) X.env = (false, eval e X.env) :: starEach es X.env := by rfl) (hpl : (backTo pos (starEach es X.env)).any (·.1) = false := by rfl) :
    PB X [.Expr (.Call (.Name x p) (e :: es) [] pos) epos] (fun nx E σ H => te σ H fun vs H1 => sp vs H1 (fun _ H2 => nx σ H2) E) := by
  intro pins s σ H nx E I h
  refine wpAny_execs_cons (wpAny_Expr_any (thn (call_x F hr hg hm hk hb ha I h hdb he hpl) fun v s1 ⟨x, H1, I1, r1, q1⟩ => ?_) I.quiet hs)
  exact wpAny_execs_nil ⟨rfl, σ, H1, I1, q1⟩
theorem ds_try (hstk : X.stack = X.env :: X.outer) (hf : X.env.frame = some X.env.locals) (G : DOkX X.prog X.w X.K X.mg X.base n x S) (hr : Room n X.A) (hg : Gl X x) (ha : DA X.nox (e :: es) t) (hh : ∀ a, DSs (X.inH a) fr (b₀ :: suite) th) (hgy : Gl X y) (hmy : X.mg y = some c)
    (hs : swapsWith (.Call (.Name x p) (e :: es) [] pos) none epos.line X.env = pure false := by rfl) (hdb : (x == ("__debug__" : Str)) = false := by decide) (hdy : (y == ("__debug__" : Str)) = false := by decide)
    (he : starEach (e :: es) X.env = (false, eval e X.env) :: starEach es X.env := by rfl) (hpl : (backTo pos (starEach es X.env)).any (·.1) = false := by rfl) :
    DSt X fr (.Try [.Expr (.Call (.Name x p) (e :: es) [] pos) epos] [.ExceptHandler (some (.Name y py)) none (b₀ :: suite) hpos] [] [] tpos) (dTry X.K c S t th) := by
  obtain ⟨f, fd, ps, hm, hk, hb, F⟩ := G.ex
  obtain ⟨te, p1, l1⟩ := ha
  refine ⟨_, ps_try (th := liftS X.K (Zx X) fr th) hstk hf (pb_expr F hr hg hm hk hb p1 hs hdb he hpl) (fun a => (hh a).up) hgy hmy hdy, fun W0 G ρ σ W D D' at_ s h => ?_⟩
  refine l1 ρ σ W _ at_.rl h _ fun ds vs W1 s1 i1 q1 => ⟨W1, ds, _, _, rfl, i1, q1, fun d v W2 s2 i2 q2 => s.nx ρ σ W2 ((at_.step s1).step s2) q2, fun C H' s' ⟨e1, e2⟩ => ⟨e1, W0, G, ρ, W1.at H' s', D, rfl, (at_.step s1).step (le_at s'), s, e2⟩⟩
end
section
variable {X : Cx} {e : Expr} {es : List Expr} {t : DTA} {n : Nat} {x y m : Str} {i j : Nat} {S : DSpX} {p pos py hpos epos tpos : Pos} {fr : Fr} {b₀ : Stmt} {suite : List Stmt} {th : DTS} {c : Value}
theorem pb_set {f : Addr} {fd : FuncData} {ps : List Str} {sp : Sp} {te : TA} (hN : X.N.Nodup) (hi : X.N[i]? = some m) (hx : Loc X.env.scope m) (F : FnOk X.prog X.w X.K X.mg X.base (CX1 X.prog X.w) n f fd ps sp) (hr : Room n X.A) (hg : Gl X x) (hm : X.mg x = some (.ref f)) (hk : PySem.W.keepIn X.K (.ref f) = true) (hb : Binds X.K fd ps []) (ha : PA X.nox (e :: es) te)
    (hs : swapsWith (.Call (.Name x p) (e :: es) [] pos) (some (.Name m py)) epos.line X.env = pure false := by rfl) (hdb : (x == ("__debug__" : Str)) = false := by decide)
    (he : starEach (e :: es) X.env = (false, eval e X.env) :: starEach es X.env := by rfl) (hpl : (backTo pos (starEach es X.env)).any (·.1) = false := by rfl) (hf : X.fn m = true ∨ X.env.scope.names.lookup m = some .local := by first | exact .inl rfl | exact .inr rfl | assumption) :
    PB X [.Assign [.Name m py] (.Call (.Name x p) (e :: es) [] pos) epos] (fun nx E σ H => te σ H fun vs H1 => sp vs H1 (fun v H2 => nx (σ.set i (some v)) H2) E) := by
  intro pins s σ H nx E I h
  refine wpAny_execs_cons (wpAny_Assign_Name (thn (call_x F hr hg hm hk hb ha I h hdb he hpl) fun v s1 ⟨y, H1, I1, r1, q1⟩ => ?_) hs)
  exact store_ok I1 hN hi hx r1 (fun s2 I2 => wpAny_execs_nil ⟨rfl, _, H1, I2, q1⟩) hf
def dTrySetO (K : PySem.W.Frag) (c : Value) (i : Nat) (S : DSpX) (t : DTA) (th : DTS) : DTS := fun D ρ => t ρ fun ds => S ds (fun d => ∃ es, d = .lst es ∧ D.nx (ρ.set i (.own es))) fun C => PySem.W.exmOne K (.ref C) c = some true ∧ th D ρ
theorem ds_trySetFO {m2 : Str} {pm : Pos} (hstk : X.stack = X.env :: X.outer) (hf : X.env.frame = some X.env.locals) (hN : X.N.Nodup) (hi : X.N[i]? = some m) (hx : Loc X.env.scope m) (G : FOkX X.prog X.w X.K X.mg X.base n x S) (hr : Room n X.A) (hg : Gl X x) (ha : DA X.nox (e :: es) t) (hh : ∀ a, DSs (X.inH a) fr (b₀ :: suite) th) (hgy : Gl X y) (hmy : X.mg y = some c)
    (hs : swapsWith (.Call (.Name x p) (e :: es) [] pos) (some (.Name m pm)) epos.line X.env = pure false := by rfl) (hdb : (x == ("__debug__" : Str)) = false := by decide) (hdy : (y == ("__debug__" : Str)) = false := by decide)
    (he : starEach (e :: es) X.env = (false, eval e X.env) :: starEach es X.env := by rfl) (hpl : (backTo pos (starEach es X.env)).any (·.1) = false := by rfl) (hfm : X.fn m = true ∨ X.env.scope.names.lookup m = some .local := by first | exact .inl rfl | exact .inr rfl | assumption) :
    DSt X fr (.Try [.Assign [.Name m pm] (.Call (.Name x p) (e :: es) [] pos) epos] [.ExceptHandler (some (.Name y py)) none (b₀ :: suite) hpos] [] [] tpos) (dTrySetO X.K c i S t th) := by
  obtain ⟨f, fd, ps, hm, hk, hb, F⟩ := G.ex
  obtain ⟨te, p1, l1⟩ := ha
  refine ⟨_, ps_try (th := liftS X.K (Zx X) fr th) hstk hf (pb_set hN hi hx F hr hg hm hk hb p1 hs hdb he hpl hfm) (fun a => (hh a).up) hgy hmy hdy, fun W0 G ρ σ W D D' at_ s h => ?_⟩
  exact l1 ρ σ W _ at_.rl h _ fun ds vs W1 s1 i1 q1 => ⟨W1, ds, _, _, rfl, i1, q1, fun es q xs W2 s2 h0 h1 h2 i2 ⟨es', ee, q2⟩ => by cases ee; exact s.nx _ _ W2 ((at_.step s1).own s2 i h0 h1 h2 i2) q2, fun C H' s' ⟨e1, e2⟩ => ⟨e1, W0, G, ρ, W1.at H' s', D, rfl, (at_.step s1).step (le_at s'), s, e2⟩⟩
end
end OD

namespace OD
variable {Z : Hp}
open PySem PySem.Spec PyProof.Rows L2
def cxCompG (X : Cx) (scope : Scope) (cl : List (Str × Addr)) (bs caps : List Str) (C : Addr) (s : Shared) (H : Hp) (fp : List Addr) (pins : List (Addr × Obj)) : Cx where
  prog := X.prog
  w := X.w
  K := X.K
  mg := X.mg
  base := X.base
  A := X.A
  N := bs ++ caps
  s₀ := s
  H₀ := H
  env := compEnvC scope cl C X.env
  outer := X.stack
  stack := X.stack
  ex := fp
  fn := fun y => bs.contains y
  calm := X.calm
  pn := X.pn ++ pins
  xe := fun _ _ => False
structure CompScG (X : Cx) (scope : Scope) (cl : List (Str × Addr)) (bs caps : List Str) (js : List Nat) : Prop where
  clos : closureFor scope X.env = pure cl
  sub : ∀ y c, cl.lookup y = some c → X.env.cells.lookup y = some c
  has : ∀ y, ((relabel scope X.env).names.lookup y = some .cell ∨ (relabel scope X.env).names.lookup y = some .free) → ∃ c, cl.lookup y = some c
  nox : ∀ x ∈ bs, cl.lookup x = none
  cell : ∀ y ∈ scope.names, y.2 ≠ .cell
  kind : scope.kind = .function
  names : ∀ y ∈ scope.names, y.2 = .local → scope.names.lookup y.1 = some .local
  loc : ∀ x ∈ bs, scope.names.lookup x = some .local
  nd : (bs ++ caps).Nodup
  len : js.length = caps.length
  at_ : ∀ (k : Nat) y, caps[k]? = some y → ∃ j, js[k]? = some j ∧ X.N[j]? = some y
  cap : ∀ y ∈ caps, (relabel scope X.env).names.lookup y = some .cell ∧ X.env.scope.names.lookup y = some .cell
theorem codeAny_compLoop_any {prog : Program} {w : World} {A : Around} {s : Shared} {elt target iter : Expr} {ifs : List Expr} {scope : Scope} {pos : Pos} {it acc : Value} {env : Env} {R : Result → Shared → Prop} (I : Nat → Shared → Prop)
    (turn : ∀ n s, I n s → wpAny (model prog w) A (pyNext it) (fun r s₁ => match r with
      | none => R (.ok .next) s₁
      | some v => wpAny (model prog w) A (letOwnedTupleGo target it v) (fun _ s₁' => wpAny (model prog w) A (assign target env v) (fun _ s₂ =>
          wpAny (model prog w) A (forIn ifs true fun c r => if r = true then do let ok ← isTrue c env (eval c env); pure (ForInStep.yield ok) else pure (ForInStep.yield r)) (fun ok s₃ =>
            if ok = true then wpAny (model prog w) A (eval elt env) (fun x s₄ =>
              wpAny (model prog w) A (call (.builtin "list.append") [acc, x]) (fun _ s₅ => ∃ m, m < n ∧ I m s₅) (notedBy (model prog w) A env fun e s' => R (.error e) s') s₄) (notedBy (model prog w) A env fun e s' => R (.error e) s') s₃
            else ∃ m, m < n ∧ I m s₃) (notedBy (model prog w) A env fun e s' => R (.error e) s') s₂)
          (notedBy (model prog w) A env fun e s' => R (.error e) s') s₁') (notedBy (model prog w) A env fun e s' => R (.error e) s') s₁) (notedBy (model prog w) A env fun e s' => R (.error e) s') s)
    (n : Nat) (h : I n s) : codeAny (model prog w) A (.compLoop (.ListComp elt [⟨target, iter, ifs, 0⟩] scope pos) 0 it acc env) R s := by
  refine codeAny_loop rfl I (fun n s hI => ?_) n h
  show wpAny _ A ((compTurn (.ListComp elt [⟨target, iter, ifs, 0⟩] scope pos) 0 it acc env).onRaise (fun x => do noteFrame x env; theTreesLotGoes x)) _ _ s
  refine wpAny_noted ?_
  rw [compTurn_list]
  refine wpAny_bind (wpAny_standAt (wpAny_bind (wpAny_mono (turn n s hI) (fun r s₁ h₁ => ?_) fun _ _ h' => h')))
  cases r with
  | none => exact wpAny_pure h₁
  | some v =>
    refine wpAny_bind (wpAny_mono h₁ (fun _ s₁' h₁' => ?_) fun _ _ h' => h')
    refine wpAny_bind (wpAny_mono h₁' (fun _ s₂ h₂ => wpAny_bind (wpAny_mono h₂ (fun ok s₃ h₃ => ?_) fun _ _ h' => h')) fun _ _ h' => h')
    cases ok with
    | false => exact wpAny_pure ⟨rfl, h₃⟩
    | true =>
      exact wpAny_bind (wpAny_bind (wpAny_mono h₃ (fun x s₄ h₄ => wpAny_bind (wpAny_mono h₄ (fun _ s₅ h₅ => wpAny_pure (wpAny_pure ⟨rfl, h₅⟩)) fun _ _ h' => h')) fun _ _ h' => h'))
def PC (X : Cx) (ifs : List Expr) (t : TT) : Prop :=
  ∀ (pins : List (Addr × Obj)) (s : Shared) (σ : St) (H : Hp) (Q : Bool → Hp → Prop) (E : Value → Shared → Prop), (∀ v s, X.xe v s → E v s) → Inv X pins σ H s → t σ H Q →
    wpAny (model X.prog X.w) X.A (forIn ifs true fun c r => if r = true then do let ok ← isTrue c X.env (eval c X.env); pure (ForInStep.yield ok) else pure (ForInStep.yield r)) (TP X pins σ Q) E s
theorem pc_nil {X : Cx} : PC X [] (fun _ H Q => Q true H) := fun _ _ _ H _ _ _ I h => wpAny_tests_nil ⟨H, I, h⟩
section
variable {X : Cx} {pins : List (Addr × Obj)} {σ : St} {H : Hp} {s : Shared} {scope : Scope} {cl : List (Str × Addr)} {bs caps : List Str} {js : List Nat} {fp : List Addr}
theorem inv_compG {h₁ : Heap} {t : Nat} {m : Str → Option Value} (I : Inv X pins σ H s) (S : CompScG X scope cl bs caps js) (hfp : ∀ b ∈ fp, FpOk X pins H b) (hob : ∀ b ∈ fp, ∃ o, s.heap.get? b = some o)
    (hn : h₁.Ns s.heap.objs.size m) (hk : ∀ b o, s.heap.get? b = some o → h₁.get? b = some o) : Inv (cxCompG X scope cl bs caps s.heap.objs.size s H fp pins) [] (bs.map (fun _ => none) ++ capV σ js) H { s with heap := h₁, toks := t } := by
  refine ⟨⟨I.ok.mod, S.kind, I.ok.glob, I.ok.blt, Nat.le_refl _, fun y z c h1 h2 => ?_, fun y hy => ?_, fun y c hf h => ?_, I.ok.hd, I.ok.frames, .inl rfl, fun b hb => ⟨?_, fun y c h => ?_⟩, I.bs, Nat.le_trans I.ok.bsz I.sz, fun b o e hb => ?_, fun b hb z => ?_, I.stack, I.stkFree⟩,
    rfl, I.bare, Un.kept hk, ⟨_, hn, fun i y v h1 h2 h3 => ?_⟩, fun y c h => ?_, I.hok.fresh (Nat.le_refl _), fun y c h => ?_, fun p hp => ?_, I.hok.kept hk, ?_⟩
  · exact I.ok.inj y z c (S.sub y c h1) (S.sub z c h2)
  · exact S.has y hy
  · have hf : y ∈ bs := List.contains_iff_mem.mp hf
    have h : cl.lookup y = some c := h
    rw [S.nox y hf] at h
    cases h
  · obtain ⟨o, e⟩ := hob b hb
    exact Nat.ne_of_lt (Heap.lt_size e)
  · exact (hfp b hb).2.2.2.2.1 y c (S.sub y c h)
  · obtain ⟨_, _, _, h4, _⟩ := hfp b hb
    rcases h4 with h4 | h4
    · exact I.ok.noex b o e h4
    · exact absurd (Nat.lt_of_lt_of_le (Heap.lt_size e) (Nat.le_trans I.ok.bsz h4)) (Nat.lt_irrefl _)
  · obtain ⟨_, h2, h3, _⟩ := hfp b hb
    rcases List.mem_cons.mp (I.stkSub b z) with q | q
    · exact h2 q
    · exact h3 q
  · by_cases hi : i < bs.length
    · rw [List.getElem?_append_left (by rw [List.length_map]; exact hi), List.getElem?_map] at h2
      obtain ⟨_, _, e⟩ := Option.map_eq_some_iff.mp h2
      cases e
    · have hi : bs.length ≤ i := Nat.le_of_not_lt hi
      have h1 : (bs ++ caps)[i]? = some y := h1
      rw [List.getElem?_append_right hi] at h1
      rw [List.getElem?_append_right (by rw [List.length_map]; exact hi), List.length_map] at h2
      obtain ⟨j, hj, hN⟩ := S.at_ _ y h1
      have hv : σ[j]? = some (some v) := by
        unfold capV at h2
        rw [List.getElem?_map, hj] at h2
        have h2 : (σ[j]?).getD none = some v := Option.some.inj h2
        cases q : σ[j]? with
        | none => rw [q] at h2; cases h2
        | some w => rw [q] at h2; exact congrArg some h2
      obtain ⟨c1, c2⟩ := S.cap y (List.mem_of_getElem? h1)
      obtain ⟨m0, _, hl⟩ := I.loc
      obtain ⟨u, ru, lk⟩ := hl j y v hN hv (.inr (.inl c2))
      refine ⟨u, ru, .inr ⟨.inl c1, ?_⟩⟩
      obtain ⟨c, hc⟩ := S.has y (.inl c1)
      rcases lk with ⟨lk, _⟩ | ⟨_, c', hc', hcell⟩
      · have lk : X.env.scope.names.lookup y = some .local := lk
        rw [c2] at lk
        cases lk
      · have e := S.sub y c hc
        rw [hc'] at e
        cases e
        obtain ⟨o, ho, hd⟩ := hcell
        exact ⟨_, hc, o, hk _ _ ho, hd⟩
  · obtain ⟨v, o, ho, hd⟩ := I.cell y c (S.sub y c h)
    exact ⟨v, o, hk _ _ ho, hd⟩
  · exact I.freeC y c (S.sub y c h)
  · have hp : p ∈ X.pn ++ pins := by
      rcases List.mem_append.mp hp with q | q
      · exact q
      · cases q
    obtain ⟨h1, h2, h3, h4, h5⟩ := I.pin p hp
    refine ⟨hk _ _ h1, h2, Nat.ne_of_lt (Heap.lt_size h1), fun z => ?_, h5⟩
    rcases List.mem_cons.mp (I.stkSub _ z) with q | q
    · exact h3 q
    · exact h4 q
  · show (bs.map (fun _ => none) ++ capV σ js).length = (bs ++ caps).length
    unfold capV
    rw [List.length_append, List.length_append, List.length_map, List.length_map, S.len]
theorem inv_backG {C : Addr} {σ' : St} {H' : Hp} {s' : Shared} (I : Inv X pins σ H s) (hfp : ∀ b ∈ fp, FpOk X pins H b) (I' : Inv (cxCompG X scope cl bs caps C s H fp pins) [] σ' H' s') : Inv X pins σ H' s' :=
  I.call' (ch := fp) I'.os I'.base I'.hok I'.bare fun b hb => by
    obtain ⟨_, h2, _, h4, h5, h6⟩ := hfp b hb
    exact ⟨h4, h2, h5, h6⟩
def rCompG (gt : TG) (tt : TT) (te : TE) (k : Nat) (τ : St) (Q : V → Hp → Prop) : It → Hp → Prop := fun J H1 => ∃ n : Nat, n < sizeLine ∧ ∀ D, H1 D = none → ∃ (Pv : Nat → List V → Hp → Prop) (Nx : Nat → V → List V → Hp → Prop),
  Pv 0 [] (upd H1 D (.lst [])) ∧ (∀ i ys H2, i ≤ n → Pv i ys H2 → H2 D = some (.lst ys) ∧ ys.length ≤ i) ∧
  (∀ i ys H2, i < n → Pv i ys H2 → J.go i H2 ∧ ∀ v H3, J.yld i H2 v H3 → Nx i v ys H3) ∧ (∀ ys H2, Pv n ys H2 → J.stop n H2) ∧
  (∀ i v ys H2 (σ0 : St), i < n → Nx i v ys H2 → σ0.length = k → gt v (σ0 ++ τ) H2 fun σ1 H3 => (∃ σ2 : St, σ1 = σ2 ++ τ ∧ σ2.length = k) ∧ tt σ1 H3 fun b H4 =>
    if b = true then te σ1 H4 fun y H5 => H5 D = some (.lst ys) ∧ Pv (i + 1) (ys ++ [y]) (upd H5 D (.lst (ys ++ [y]))) else Pv (i + 1) ys H4) ∧ ∀ ys H2, Pv n ys H2 → Q (.ref D) H2
def tCompG (wi : TI) (gt : TG) (tt : TT) (te : TE) (k : Nat) (js : List Nat) : TE := fun σ H Q => wi σ H (rCompG gt tt te k (capV σ js) Q)
theorem comp_blockG {elt tg iter : Expr} {ifs : List Expr} {pos : Pos} {it D : Addr} {n : Nat} {J : It} {Nx : Nat → V → List V → Hp → Prop} {τ : St} {tn : Nat → Heap → Prop} {gt : TG} {tt : TT} {te : TE} {R : Result → Shared → Prop} {s₄ : Shared} {Pv : Nat → List V → Hp → Prop} {C : Addr} (hc : X.calm = true)
    (hg : PG (cxCompG X scope cl bs caps C s H fp pins) tg gt) (ht' : PC (cxCompG X scope cl bs caps C s H fp pins) ifs tt)
    (he : PE (cxCompG X scope cl bs caps C s H fp pins) elt te) {σ0 : St} (hσ0 : σ0.length = bs.length) (I : Inv (cxCompG X scope cl bs caps C s H fp pins) [] (σ0 ++ τ) H s₄) (T : Turn X.prog X.w X.K tg J fp it tn) (t0 : tn 0 s₄.heap)
    (hfp : ∀ b ∈ fp, FpOk (cxCompG X scope cl bs caps C s H fp pins) [] H b) (hn : n < sizeLine)
    (h0 : Pv 0 [] H) (hl : ∀ i ys H2, i ≤ n → Pv i ys H2 → H2 D = some (.lst ys) ∧ ys.length ≤ i)
    (hgo : ∀ i ys H2, i < n → Pv i ys H2 → J.go i H2 ∧ ∀ v H3, J.yld i H2 v H3 → Nx i v ys H3) (hst : ∀ ys H2, Pv n ys H2 → J.stop n H2)
    (ht : ∀ i v ys H2 (σ0 : St), i < n → Nx i v ys H2 → σ0.length = bs.length → gt v (σ0 ++ τ) H2 fun σ1 H3 => (∃ σ2 : St, σ1 = σ2 ++ τ ∧ σ2.length = bs.length) ∧ tt σ1 H3 fun b H4 =>
      if b = true then te σ1 H4 fun y H5 => H5 D = some (.lst ys) ∧ Pv (i + 1) (ys ++ [y]) (upd H5 D (.lst (ys ++ [y]))) else Pv (i + 1) ys H4)
    (hR : ∀ σ' H' ys s', Inv (cxCompG X scope cl bs caps C s H fp pins) [] σ' H' s' → Pv n ys H' → R (.ok .next) s') :
    codeAny (model X.prog X.w) X.A (.compStart (.ListComp elt [⟨tg, iter, ifs, 0⟩] scope pos) 0 (.ref it) (.ref D) (compEnvC scope cl C X.env)) R s₄ := by
  have loop : codeAny (model X.prog X.w) X.A (.compLoop (.ListComp elt [⟨tg, iter, ifs, 0⟩] scope pos) 0 (.ref it) (.ref D) (compEnvC scope cl C X.env)) R s₄ := by
    refine codeAny_compLoop_any (fun k s' => ∃ i ys, ∃ σ1 : St, ∃ H', k = n + 1 - i ∧ i ≤ n ∧ σ1.length = bs.length ∧ Inv (cxCompG X scope cl bs caps C s H fp pins) [] (σ1 ++ τ) H' s' ∧ tn i s'.heap ∧ (∀ b ∈ fp, FpOk (cxCompG X scope cl bs caps C s H fp pins) [] H' b) ∧ Pv i ys H') ?_ (n + 1) ⟨0, [], σ0, H, rfl, Nat.zero_le _, hσ0, I, t0, hfp, h0⟩
    rintro k s' ⟨i, ys, σ1, H', rfl, hi, hσ1, I', tn', hfp', hp⟩
    obtain ⟨q2, q3⟩ := hl i ys H' hi hp
    by_cases hlt : i < n
    · obtain ⟨g, gy⟩ := hgo i ys H' hlt hp
      refine wpAny_mono (T.item (cxCompG X scope cl bs caps C s H fp pins) rfl rfl rfl hc i [] s' (σ1 ++ τ) H' (notedBy (model X.prog X.w) X.A (compEnvC scope cl C X.env) fun e s' => R (.error e) s') I' hfp' tn' g) (fun r s1 ⟨u, er, hq⟩ => ?_) fun _ _ z => z
      subst er
      refine wpAny_mono hq (fun _ s1' hq' => ?_) fun _ _ z => z
      obtain ⟨v, H1, I1, rv, yv, tn1, fn1⟩ := hq'
      have hv := gy v H1 yv
      have hfp1 : ∀ b ∈ fp, FpOk (cxCompG X scope cl bs caps C s H fp pins) [] H1 b := fun b hb => ⟨fn1 b hb, (hfp' b hb).2⟩
      have hpin : ∀ b ∈ fp, ∃ o, s1'.heap.get? b = some o ∧ ∀ v, o.data ≠ .cell v := T.obj (i + 1) s1'.heap tn1
      have IP : Inv (cxCompG X scope cl bs caps C s H fp pins) (pinsAt fp s1'.heap) (σ1 ++ τ) H1 s1' := by
        have := I1.pinned hfp1 hpin
        rw [List.nil_append] at this
        exact this
      refine wpAny_mono (hg (pinsAt fp s1'.heap) s1' (σ1 ++ τ) H1 v u _ IP rv (ht i v ys H1 σ1 hlt hv hσ1)) (fun _ s2 h2 => ?_) fun _ _ z => z.elim
      obtain ⟨σ2', H2, I2, ⟨σ2, e2, l2⟩, w2⟩ := h2
      subst e2
      refine wpAny_mono (ht' (pinsAt fp s1'.heap) s2 (σ2 ++ τ) H2 _ (fun _ _ => False) (fun _ _ z => z) I2 w2) (fun b s3 h3 => ?_) fun _ _ z => z.elim
      obtain ⟨H3, I3, w3⟩ := h3
      have pinned : ∀ {s4 : Shared} {H4 : Hp} {σ4 : St}, Inv (cxCompG X scope cl bs caps C s H fp pins) (pinsAt fp s1'.heap) σ4 H4 s4 → ∀ b ∈ fp, ∀ o, s1'.heap.get? b = some o → s4.heap.get? b = some o ∧ H4 b = none := fun I4 b hb o e =>
        have z := I4.pin (b, o) (List.mem_append_right _ (mem_pinsAt hb e))
        ⟨z.1, z.2.1⟩
      cases b with
      | false =>
        have w3 : Pv (i + 1) ys H3 := w3
        show ∃ m, m < n + 1 - i ∧ _
        refine ⟨n + 1 - (i + 1), by omega, i + 1, ys, σ2, H3, rfl, hlt, l2, I3.pins_of (fun p z => nomatch z), T.keep _ _ _ tn1 fun b hb o e => (pinned I3 b hb o e).1, fun b hb => ⟨?_, (hfp' b hb).2⟩, w3⟩
        obtain ⟨o, e, _⟩ := hpin b hb
        exact (pinned I3 b hb o e).2
      | true =>
        show wpAny _ _ _ _ _ _
        refine wpAny_mono (he (pinsAt fp s1'.heap) s3 (σ2 ++ τ) H3 _ I3 w3) (fun y s4 h4 => ?_) fun _ _ z => z.elim
        obtain ⟨y', H4, I4, ry, hD, hp4⟩ := h4
        refine wpAny_mono (mt_append (X := cxCompG X scope cl bs caps C s H fp pins) (pinsAt fp s1'.heap) s4 (σ2 ++ τ) H4 (.ref D) [y'] (.ref D) [y] (fun _ H5 => H5 = upd H4 D (.lst (ys ++ [y']))) I4 rfl (.cons ry .nil) ⟨D, ys, y', rfl, rfl, hD, by omega, rfl⟩) (fun _ s5 h5 => ?_) fun _ _ z => z.elim
        obtain ⟨_, H5, I5, _, e5⟩ := h5
        subst e5
        refine ⟨n + 1 - (i + 1), by omega, i + 1, ys ++ [y'], σ2, _, rfl, hlt, l2, I5.pins_of (fun p z => nomatch z), T.keep _ _ _ tn1 fun b hb o e => (pinned I5 b hb o e).1, fun b hb => ⟨?_, (hfp' b hb).2⟩, hp4⟩
        obtain ⟨o, e, _⟩ := hpin b hb
        exact (pinned I5 b hb o e).2
    · have e : i = n := by omega
      subst e
      refine wpAny_mono (T.done (cxCompG X scope cl bs caps C s H fp pins) rfl rfl rfl hc i [] s' (σ1 ++ τ) H' (fun _ _ => False) I' hfp' tn' (hst ys H' hp)) (fun r s1 ⟨er, I1⟩ => ?_) fun _ _ z => z.elim
      subst er
      exact hR _ H' ys s1 I1 hp
  exact codeAny_compStart_list loop (T.self X.A 0 s₄ _ _ t0 loop)
theorem comp_fromG {elt tg iter : Expr} {ifs : List Expr} {pos : Pos} {gt : TG} {tt : TT} {te : TE} {Q : V → Hp → Prop} {s2 : Shared} {it : Addr} {tn : Nat → Heap → Prop} {J : It} {H' : Hp} {RR : Value → Addr → Result → Shared → Prop} {E : Value → Shared → Prop} (hc : X.calm = true) (S : CompScG X scope cl bs caps js)
    (hg : ∀ C s H fp pins, PG (cxCompG X scope cl bs caps C s H fp pins) tg gt) (ht' : ∀ C s H fp pins, PC (cxCompG X scope cl bs caps C s H fp pins) ifs tt)
    (he : ∀ C s H fp pins, PE (cxCompG X scope cl bs caps C s H fp pins) elt te) (I2 : Inv X pins σ H' s2) (T : Turn X.prog X.w X.K tg J fp it tn) (t0 : tn 0 s2.heap) (hfp : ∀ b ∈ fp, FpOk X pins H' b) (hr : rCompG gt tt te bs.length (capV σ js) Q J H')
    (hRR : ∀ D C H3 s', Inv X pins σ H3 s' → (∃ m, s'.heap.Ns C m) → H3 C = none → C ≠ X.env.locals → X.s₀.heap.objs.size ≤ C → (∀ y c, X.env.cells.lookup y = some c → c ≠ C) → (∀ p ∈ X.pn ++ pins, p.1 ≠ C) → Q (.ref D) H3 →
      RR (.ref D) C (.ok .next) s') :
    wpAny (model X.prog X.w) X.A (newList []) (fun acc s₃ => wpAny (model X.prog X.w) X.A (newFunctionEnv scope X.env.globals cl [] X.env.qual none .none (some X.env)) (fun cenv s₄ =>
      codeAny (model X.prog X.w) X.A (.compStart (.ListComp elt [⟨tg, iter, ifs, 0⟩] scope pos) 0 (.ref it) acc { cenv with scope := relabel scope X.env }) (RR acc cenv.locals) s₄) E s₃) E s2 := by
  obtain ⟨n, hn, hD⟩ := hr
  obtain ⟨Pv, Nx, h0, hl, hgo, hst, ht, hd⟩ := hD s2.heap.objs.size I2.fresh
  refine wpAny_newObj_type (wpAny_newFunctionEnv S.cell (by intro y hy; simp at hy) (fun h₁ hns₁ hsb₁ => ?_) S.kind)
  dsimp only at hns₁ hsb₁ ⊢
  have I3 : Inv X pins σ (upd H' s2.heap.objs.size (.lst [])) { s2 with heap := s2.heap.push { cls := .type "list", data := .seq ([] : List Value).toArray } } := I2.lnew (its := []) (t' := s2.toks) .nil (by show 0 ≤ sizeLine; omega)
  have hob := T.obj 0 s2.heap t0
  have keep : ∀ b o, (s2.heap.push { cls := .type "list", data := .seq ([] : List Value).toArray }).get? b = some o → h₁.get? b = some o := fun b o e =>
    hsb₁.extBut b o (Nat.ne_of_lt (Heap.lt_size e)) (Heap.get?_push_of_some _ e)
  have fp3 : ∀ b ∈ fp, FpOk X pins (upd H' s2.heap.objs.size (.lst [])) b := fun b hb => by
    obtain ⟨o, e, _⟩ := hob b hb
    exact ⟨(upd_ne (Nat.ne_of_lt (Heap.lt_size e))).trans (hfp b hb).1, (hfp b hb).2⟩
  have IY := inv_compG (t := s2.toks + ([] : List (Str × Value)).length) I3 S fp3 (fun b hb => by
    obtain ⟨o, e, _⟩ := hob b hb
    exact ⟨o, Heap.get?_push_of_some _ e⟩) hns₁ keep
  refine comp_blockG (D := s2.heap.objs.size) (n := n) (Nx := Nx) (Pv := Pv) hc (hg _ _ _ _ _) (ht' _ _ _ _ _) (he _ _ _ _ _) (List.length_map _) IY T (T.keep _ _ _ t0 fun b hb o e => keep b o (Heap.get?_push_of_some _ e)) (fun b hb => ?_) hn h0 hl hgo hst ht (fun σ' H3 ys s' I' hp => ?_)
  · obtain ⟨f1, f2, f3, f4, f5, f6⟩ := fp3 b hb
    obtain ⟨o, e, _⟩ := hob b hb
    refine ⟨f1, Nat.ne_of_lt (Heap.lt_size (Heap.get?_push_of_some _ e)), fun z => ?_, .inl hb, fun y c h => f5 y c (S.sub y c h), fun p hp => ?_⟩
    · rcases List.mem_cons.mp (I3.stkSub b z) with q | q
      · exact f2 q
      · exact f3 q
    · rcases List.mem_append.mp hp with q | q
      · exact f6 p q
      · cases q
  · obtain ⟨m, hn, _⟩ := I'.loc
    refine hRR _ _ H3 s' (inv_backG I3 fp3 I') ⟨m, hn⟩ I'.free (Nat.ne_of_gt I3.lt) I3.sz (fun y c h z => ?_) (fun p hp z => ?_) (hd ys H3 hp)
    · obtain ⟨v, q⟩ := I3.cell y c h
      exact absurd q.lt (by rw [z]; exact Nat.lt_irrefl _)
    · exact absurd (Heap.lt_size (I3.pin p hp).1) (by rw [z]; exact Nat.lt_irrefl _)
theorem pe_compG {elt tg iter : Expr} {ifs : List Expr} {pos : Pos} {wi : TI} {gt : TG} {tt : TT} {te : TE} (hc : X.calm = true) (S : CompScG X scope cl bs caps js) (hl : PI X tg iter wi) (hg : ∀ C s H fp pins, PG (cxCompG X scope cl bs caps C s H fp pins) tg gt)
    (ht' : ∀ C s H fp pins, PC (cxCompG X scope cl bs caps C s H fp pins) ifs tt) (he : ∀ C s H fp pins, PE (cxCompG X scope cl bs caps C s H fp pins) elt te)
    (hs : ∀ y, foldedSetIterable iter X.env y = pure y := by intro _; rfl) : PE X (.ListComp elt [⟨tg, iter, ifs, 0⟩] scope pos) (tCompG wi gt tt te bs.length js) := by
  intro pins s σ H Q I h
  rw [eval_ListComp]
  refine wpAny_comprehension_free (use := none) rfl hs S.clos S.kind S.names (thn (hl pins s σ H (rCompG gt tt te bs.length (capV σ js) Q) I h) fun v s1 h1 => thn h1 fun itv s2 h2 => ?_)
  obtain ⟨it, fp, tn, J, H', rfl, I2, T, t0, hfp, hr⟩ := h2
  refine comp_fromG (RR := fun acc C => compPost (model X.prog X.w) X.A X.xe none (EP X pins σ Q) acc C) hc S hg ht' he I2 T t0 hfp hr ?_
  intro D C H3 s' I' ⟨m, hn⟩ hC h1 h2 h3 h4 q
  exact ⟨m, hn, fun h' hs' => ⟨.ref D, H3, I'.turned (it := C) (fun b o hb e => hs'.extBut b o hb e) hC h1 (.inr h2) h3 h4, rfl, q⟩⟩
theorem ps_setCompG {elt tg iter : Expr} {ifs : List Expr} {y : Str} {i : Nat} {py pos spos : Pos} {wi : TI} {gt : TG} {tt : TT} {te : TE} (hc : X.calm = true) (S : CompScG X scope cl bs caps js) (hN : X.N.Nodup) (hi : X.N[i]? = some y) (hy : Loc X.env.scope y) (hl : PI X tg iter wi) (hg : ∀ C s H fp pins, PG (cxCompG X scope cl bs caps C s H fp pins) tg gt)
    (ht' : ∀ C s H fp pins, PC (cxCompG X scope cl bs caps C s H fp pins) ifs tt) (he : ∀ C s H fp pins, PE (cxCompG X scope cl bs caps C s H fp pins) elt te)
    (hsw : swapsWith (.ListComp elt [⟨tg, iter, ifs, 0⟩] scope pos) (some (.Name y py)) spos.line X.env = pure true) (hs : ∀ y, foldedSetIterable iter X.env y = pure y := by intro _; rfl)
    (hf : X.fn y = true ∨ X.env.scope.names.lookup y = some .local := by first | exact .inl rfl | exact .inr rfl | assumption) :
    PS X (.Assign [.Name y py] (.ListComp elt [⟨tg, iter, ifs, 0⟩] scope pos) spos) (tAsg (tCompG wi gt tt te bs.length js) (gName i)) := by
  intro pins s σ H D I h
  rw [exec_Assign_Name_used _ _ _ _ hsw]
  refine wpAny_bind (wpAny_standAt (wpAny_bind ?_))
  show wpAny _ X.A (do let _ ← comprehension (.ListComp elt [⟨tg, iter, ifs, 0⟩] scope pos) scope X.env _ (newList []) false (eval iter X.env) (some (assign (.Name y py) X.env))) _ _ s
  refine wpAny_bind (wpAny_mono (wpAny_comprehension_free (use := some (assign (.Name y py) X.env)) (Q := fun _ s' => SP X pins D .next s') rfl hs S.clos S.kind S.names (thn (hl pins s σ H (rCompG gt tt te bs.length (capV σ js) fun v H1 => gName i v σ H1 D.nx) I h) fun v s1 h1 => thn h1 fun itv s2 h2 => ?_))
    (fun _ s' hq => wpAny_pure (wpAny_pure hq)) fun _ _ e => e)
  obtain ⟨it, fp, tn, J, H', rfl, I2, T, t0, hfp, hr⟩ := h2
  refine comp_fromG (RR := fun acc C => compPost (model X.prog X.w) X.A X.xe (some (assign (.Name y py) X.env)) (fun _ s' => SP X pins D .next s') acc C) hc S hg ht' he I2 T t0 hfp hr ?_
  intro A C H3 s' I' ⟨m, hn⟩ hC h1 h2 h3 h4 q
  refine wpAny_assign_Name (store_ok2 I' hN hi hy (v := .ref A) rfl (fun s3 I3 ⟨b, hb, hbb⟩ => ?_) hf)
  have hCb : C ≠ b := by
    rcases hbb with e | e
    · rw [e]; exact h1
    · exact fun z => h3 y b e z.symm
  exact ⟨m, hn.sameBut hb hCb, fun h' hs' => ⟨_, H3, I3.turned (it := C) (fun b o hb e => hs'.extBut b o hb e) hC h1 (.inr h2) h3 h4, q⟩⟩
end
end OD
namespace OD
variable {Z : Hp}
open PySem PySem.Spec PyProof.Rows L2
def compOkG (osc scope : Scope) (bs caps : List Str) (js : List Nat) (N : List Str) : Bool :=
  scope.names.all (fun y => y.2 != .cell && (y.2 != .local || scope.names.lookup y.1 == some .local) && (y.2 != .free || (osc.names.lookup y.1 == some .cell && !bs.contains y.1))) && (scope.kind == .function) && (osc.kind == .function) && bs.all (fun x => scope.names.lookup x == some .local) &&
  decide (bs ++ caps).Nodup && (js.map (fun j => N[j]?) == caps.map some) && caps.all (fun y => scope.names.lookup y == some .free && osc.names.lookup y == some .cell)
theorem compScG {X : Cx} {osc scope : Scope} {bs : List Str} {caps : List Str} {js : List Nat} {L : Addr} (h : compOkG osc scope bs caps js X.N = true) (he : X.env.scope = osc) (hc : X.env.cells = cellsFrom (L + 1) osc.names []) : CompScG X scope (clOf X.env.cells scope.names) bs caps js := by
  unfold compOkG at h
  simp only [Bool.and_eq_true] at h
  obtain ⟨⟨⟨⟨⟨⟨h1, h2⟩, h3⟩, h4⟩, h5⟩, h6⟩, h7⟩ := h
  rw [List.all_eq_true] at h1 h4 h7
  have hfree : ∀ y, (y, NameKind.free) ∈ scope.names → osc.names.lookup y = some .cell ∧ bs.contains y = false := fun y hy => by
    have q := h1 _ hy
    rw [Bool.and_eq_true, Bool.and_eq_true] at q
    have q : (osc.names.lookup y == some .cell && !bs.contains y) = true := q.2
    rw [Bool.and_eq_true] at q
    exact ⟨eq_of_beq q.1, by cases z : bs.contains y with | false => rfl | true => rw [z] at q; cases q.2⟩
  have hcell : ∀ y, osc.names.lookup y = some .cell → ∃ c, X.env.cells.lookup y = some c := fun y hy => by rw [hc]; exact cell_has hy
  have hfc : ∀ y, (y, NameKind.free) ∈ scope.names → ∃ c, X.env.cells.lookup y = some c := fun y hy => hcell y (hfree y hy).1
  have hk : X.env.scope.kind = .function := by rw [he]; exact eq_of_beq h3
  have hj : js.map (fun j => X.N[j]?) = caps.map some := eq_of_beq h6
  refine ⟨clos_of hfc, fun y c q => (mem_clOf.mp (PySem.mem_of_lookup q)).2, fun y q => ?_, fun x hx => ?_, fun y hy e => ?_, eq_of_beq h2, fun y hy e => ?_, fun x hx => eq_of_beq (h4 x hx), of_decide_eq_true h5, ?_, fun k y q => ?_, fun y hy => ?_⟩
  · have : (y, NameKind.free) ∈ scope.names := by
      have mem : ∃ k, (y, k) ∈ (relabel scope X.env).names ∧ (k = .cell ∨ k = .free) := by
        rcases q with q | q
        · exact ⟨_, PySem.mem_of_lookup q, .inl rfl⟩
        · exact ⟨_, PySem.mem_of_lookup q, .inr rfl⟩
      obtain ⟨k, hm, hk'⟩ := mem
      obtain ⟨⟨n, k0⟩, hn, e⟩ := List.mem_map.mp hm
      have ncell : k0 ≠ .cell := fun z => by
        have q := h1 _ hn
        rw [Bool.and_eq_true, Bool.and_eq_true] at q
        exact absurd z (bne_iff_ne.mp q.1.1)
      dsimp only at e
      split at e
      · rename_i hz
        rw [Bool.and_eq_true, Bool.and_eq_true] at hz
        obtain rfl := eq_of_beq hz.1.1
        cases e
        exact hn
      · cases e
        rcases hk' with z | z
        · exact absurd z ncell
        · rw [z] at hn; exact hn
    obtain ⟨c, hc'⟩ := hfc y this
    exact mem_lookup (mem_clOf.mpr ⟨this, hc'⟩)
  · cases q : (clOf X.env.cells scope.names).lookup x with
    | none => rfl
    | some c =>
      have z := (hfree x (mem_clOf.mp (PySem.mem_of_lookup q)).1).2
      rw [List.contains_iff_mem.mpr hx] at z
      cases z
  · have q := h1 y hy
    rw [Bool.and_eq_true, Bool.and_eq_true] at q
    exact absurd e (bne_iff_ne.mp q.1.1)
  · have q := h1 y hy
    rw [Bool.and_eq_true, Bool.and_eq_true, e] at q
    exact eq_of_beq (show (scope.names.lookup y.1 == some .local) = true from q.1.2)
  · have := congrArg List.length hj
    rwa [List.length_map, List.length_map] at this
  · have e : (js.map fun j => X.N[j]?)[k]? = (caps.map some)[k]? := by rw [hj]
    rw [List.getElem?_map, List.getElem?_map, q] at e
    obtain ⟨j, hj1, hj2⟩ := Option.map_eq_some_iff.mp e
    exact ⟨j, hj1, hj2⟩
  · have q := h7 y hy
    rw [Bool.and_eq_true] at q
    have q2 : X.env.scope.names.lookup y = some .cell := by rw [he]; exact eq_of_beq q.2
    exact ⟨lookup_relabel_free hk (eq_of_beq q.1) q2, q2⟩
theorem rl_caps {K : PySem.W.Frag} {F : Hp} {W W2 : Vw} {ρ : DS} {σ : St} {js : List Nat} {ds : List Dt} {vs : List V} (r : Rl K Z F W ρ σ) (s2 : Same W.g W2.g) (i : AllIs K W2.g ds vs) : Rl K (fun _ => none) W2.h W2 (ds.map Sl.some ++ capS ρ js) (vs.map some ++ capV σ js) := by
  have no : ∀ (j : Nat) (es : List Dt), (ds.map Sl.some ++ capS ρ js)[j]? = some (.own es) → False := fun j es q => by
    have q := List.mem_of_getElem? q
    rcases List.mem_append.mp q with q | q
    · obtain ⟨_, _, e⟩ := List.mem_map.mp q
      cases e
    · unfold capS at q
      obtain ⟨j, _, e⟩ := List.mem_map.mp q
      split at e <;> cases e
  have noA : ∀ (j : Nat) (a : Addr) (es : List Dt), (ds.map Sl.some ++ capS ρ js)[j]? = some (.arg a es) → False := fun j a es q => by
    have q := List.mem_of_getElem? q
    rcases List.mem_append.mp q with q | q
    · obtain ⟨_, _, e⟩ := List.mem_map.mp q
      cases e
    · unfold capS at q
      obtain ⟨j, _, e⟩ := List.mem_map.mp q
      split at e <;> cases e
  refine ⟨by unfold capS capV; rw [List.length_append, List.length_append, List.length_map, List.length_map, List.length_map, List.length_map, i.length], fun j e q => ?_, fun j ds q => (no j ds q).elim, fun j j' ds ds' _ q _ => (no j ds q).elim, Same.refl _, (fun _ _ q => nomatch q), fun j a ds q => (noA j a ds q).elim⟩
  by_cases hj : j < ds.length
  · rw [List.getElem?_append_left (by rw [List.length_map]; exact hj), List.getElem?_map] at q
    obtain ⟨d, hd, e1⟩ := Option.map_eq_some_iff.mp q
    cases e1
    obtain ⟨v, hv, iv⟩ := i.get hd
    exact ⟨v, by rw [List.getElem?_append_left (by rw [List.length_map, ← i.length]; exact hj), List.getElem?_map, hv]; rfl, iv⟩
  · have hj : ds.length ≤ j := Nat.le_of_not_lt hj
    rw [List.getElem?_append_right (by rw [List.length_map]; exact hj), List.length_map] at q
    rw [List.getElem?_append_right (by rw [List.length_map, ← i.length]; exact hj), List.length_map, ← i.length]
    unfold capS at q
    rw [List.getElem?_map] at q
    obtain ⟨k, hk, e2⟩ := Option.map_eq_some_iff.mp q
    split at e2
    · rename_i d' hd
      cases e2
      obtain ⟨u, hu, iu⟩ := r.at_ k e hd
      refine ⟨u, ?_, Is.mono0 s2 iu⟩
      unfold capV
      rw [List.getElem?_map, hk]
      show some ((σ[k]?).getD none) = _
      rw [hu]
      rfl
    · cases e2
abbrev DTI := DS → (Nat → (Nat → Dt → Prop) → Prop) → Prop
def LiI (K : PySem.W.Frag) (Z : Hp) (wi : TI) (di : DTI) : Prop := ∀ {F : Hp} (ρ : DS) (σ : St) (W : Vw) (Q : Nat → (Nat → Dt → Prop) → Prop), Rl K Z F W ρ σ → di ρ Q → ∀ R : It → Hp → Prop,
  (∀ (J : It) (n : Nat) (vals : Nat → Dt → Prop) (W1 : Vw), Le W W1 → n ≤ 100000 → (∀ W2 : Vw, Same W1.g W2.g → (∀ i, i < n → J.go i W2.h ∧ ∀ v H3, J.yld i W2.h v H3 → ∃ W3 : Vw, Le W2 W3 ∧ W3.h = H3 ∧ ∃ e, vals i e ∧ Is K W3.g e v) ∧ J.stop n W2.h) → Q n vals → R J W1.h) → wi σ W.h R
def DI (X : Cx) (tg iter : Expr) (di : DTI) : Prop := ∃ wi, PI X tg iter wi ∧ LiI X.K (Zx X) wi di
def LiG (K : PySem.W.Frag) (k : Nat) (gt : TG) (dg : Dt → List Dt → Prop) : Prop := ∀ (e : Dt) (v : V) (σ0 τ : St) (W : Vw) (as : List Dt), σ0.length = k → Is K W.g e v → dg e as → ∀ Q : St → Hp → Prop,
  (∀ vs, AllIs K W.g as vs → vs.length = k → Q (vs.map some ++ τ) W.h) → gt v (σ0 ++ τ) W.h Q
def dOne : Dt → List Dt → Prop := fun e as => as = [e]
theorem lig_one {K : PySem.W.Frag} : LiG K 1 (gName 0) dOne := by
  rintro e v σ0 τ W as hl i rfl Q q
  match σ0, hl with
  | [a], _ => exact q [v] (allIs_cons.mpr ⟨v, [], rfl, i, allIs_nil.mpr rfl⟩) rfl
def DC (X : Cx) (ifs : List Expr) (t : DTT) : Prop := ∃ tt, PC X ifs tt ∧ LiT X.K (Zx X) tt t
def dEach : DTT := fun _ Q => Q true
theorem dc_nil {X : Cx} : DC X [] dEach := ⟨_, pc_nil, fun _ _ W _ _ h _ k => k true W (Le.refl W) h⟩
def liftT (K : PySem.W.Frag) (t : DTT) : TT := fun σ H R => ∃ (F : Hp) (ρ : DS) (W : Vw) (Q : Bool → Prop), W.h = H ∧ Rl K (fun _ => none) F W ρ σ ∧ t ρ Q ∧ ∀ d W', Le W W' → Q d → R d W'.h
theorem DC.up {X : Cx} {ifs : List Expr} {t : DTT} (h : DC X ifs t) (hz : X.stack.length = X.outer.length := by rfl) : PC X ifs (liftT X.K t) := by
  obtain ⟨te, p, l⟩ := h
  intro pins s σ H R E hE I q
  obtain ⟨F, ρ, W, Q, rfl, r, h, k⟩ := q
  have r' : Rl X.K (Zx X) F W ρ σ := by unfold Zx; rw [if_pos (Or.inl hz)]; exact r
  exact p pins s σ W.h R E hE I (l ρ σ W Q r' h R k)
theorem li_liftT {K : PySem.W.Frag} {t : DTT} : LiT K (fun _ => none) (liftT K t) t := fun ρ σ H Q r h R k => ⟨_, ρ, H, Q, rfl, r, h, k⟩
def dCompG (js : List Nat) (di : DTI) (dg : Dt → List Dt → Prop) (tt : DTT) (te : DTE) : DTE := fun ρ Q => di ρ fun n vals => ∃ Pv : Nat → List Dt → Prop, Pv 0 [] ∧
  (∀ (i : Nat) e es, i < n → vals i e → Pv i es → ∃ as, dg e as ∧ tt (as.map Sl.some ++ capS ρ js) fun b => if b = true then te (as.map Sl.some ++ capS ρ js) fun y => Pv (i + 1) (es ++ [y]) else Pv (i + 1) es) ∧ ∀ es, Pv n es → Q (.lst es)
theorem li_compG {K : PySem.W.Frag} {wi : TI} {gt : TG} {tt : TT} {te : TE} {di : DTI} {dg : Dt → List Dt → Prop} {dt : DTT} {u : DTE} {k : Nat} {js : List Nat} (h1 : LiI K Z wi di) (hg : LiG K k gt dg) (ht' : LiT K (fun _ => none) tt dt) (h2 : LiE K (fun _ => none) te u) : LiF K Z (tCompG wi gt tt te k js) (dCompG js di dg dt u) := by
  intro F ρ σ H Q r h R kk
  refine h1 ρ σ H _ r h _ fun J n vals W1 s1 hn hJ ⟨Pv, h0, ht, hd⟩ => ?_
  have r1 := r.mono s1
  refine ⟨n, Nat.lt_of_le_of_lt hn (by decide), fun D hD => ?_⟩
  have gD : W1.g D = none := W1.sub.free hD
  have stp : ∀ {W2 W3 : Vw} {ys : List V} {es : List Dt}, Same W1.g W2.g ∧ Same W1.h (fun b => if b = D then none else W2.h b) ∧ (∀ b, W1.h b ≠ none → W1.g b = none → W2.g b = none) ∧ W2.h D = some (.lst ys) ∧ W2.g D = none ∧ AllIs K W2.g es ys → Le W2 W3 →
      Same W1.g W3.g ∧ Same W1.h (fun b => if b = D then none else W3.h b) ∧ (∀ b, W1.h b ≠ none → W1.g b = none → W3.g b = none) ∧ W3.h D = some (.lst ys) ∧ W3.g D = none ∧ AllIs K W3.g es ys := by
    rintro W2 W3 ys es ⟨s2, sh, sn, q1, q2, q3⟩ s3
    refine ⟨s2.trans s3.g, fun b o q => ?_, fun b z1 z2 => ?_, s3.h _ _ q1, s3.n D (by rw [q1]; intro z; cases z) q2, q3.mono s3⟩
    · have q' : (if b = D then none else W2.h b) = some o := sh b o q
      have hb : b ≠ D := fun e => by rw [e, hD] at q; cases q
      rw [if_neg hb] at q'
      show (if b = D then none else W3.h b) = some o
      rw [if_neg hb]
      exact s3.h _ _ q'
    · have hb : b ≠ D := fun e => z1 (e ▸ hD)
      have z3 := sn b z1 z2
      refine s3.n b ?_ z3
      cases q : W1.h b with
      | none => exact absurd q z1
      | some o =>
        have q' : (if b = D then none else W2.h b) = some o := sh b o q
        rw [if_neg hb] at q'
        rw [q']
        intro z; cases z
  refine ⟨fun i ys H2 => ∃ (W2 : Vw) (es : List Dt), W2.h = H2 ∧ (Same W1.g W2.g ∧ Same W1.h (fun b => if b = D then none else W2.h b) ∧ (∀ b, W1.h b ≠ none → W1.g b = none → W2.g b = none) ∧ W2.h D = some (.lst ys) ∧ W2.g D = none ∧ AllIs K W2.g es ys) ∧ ys.length ≤ i ∧ Pv i es, fun i v ys H2 => ∃ (W2 : Vw) (es : List Dt) (e : Dt), W2.h = H2 ∧ (Same W1.g W2.g ∧ Same W1.h (fun b => if b = D then none else W2.h b) ∧ (∀ b, W1.h b ≠ none → W1.g b = none → W2.g b = none) ∧ W2.h D = some (.lst ys) ∧ W2.g D = none ∧ AllIs K W2.g es ys) ∧ ys.length ≤ i ∧ Pv i es ∧ vals i e ∧ Is K W2.g e v, ?_, ?_, ?_, ?_, ?_, ?_⟩
  · refine ⟨W1.mine D (.lst []) gD, [], rfl, ⟨Same.refl _, fun b o q => ?_, fun b _ q => q, upd_same, gD, allIs_nil.mpr rfl⟩, Nat.le_refl _, h0⟩
    have hb : b ≠ D := fun e => by rw [e, hD] at q; cases q
    show (if b = D then none else upd W1.h D (.lst []) b) = some o
    rw [if_neg hb, upd_ne hb]
    exact q
  · rintro i ys _ _ ⟨W2, es, rfl, ⟨s2, _, _, q1, q2, _⟩, q4, _⟩
    exact ⟨q1, q4⟩
  · rintro i ys _ hi ⟨W2, es, rfl, hW2, q4, q5⟩
    obtain ⟨g1, g2⟩ := (hJ W2 hW2.1).1 i hi
    refine ⟨g1, fun v H3 y => ?_⟩
    obtain ⟨W3, s3, e3, e, he, ie⟩ := g2 v H3 y
    exact ⟨W3, es, e, e3, stp hW2 s3, q4, q5, he, ie⟩
  · rintro ys _ ⟨W2, es, rfl, ⟨s2, _⟩, _⟩
    exact (hJ W2 s2).2
  · rintro i v ys _ σ0 hi ⟨W2, es, e, rfl, hW2, q4, q5, he, ie⟩ hσ0
    obtain ⟨as, da, w⟩ := ht i e es hi he q5
    refine hg e v σ0 _ W2 as hσ0 ie da _ fun vs ivs lvs => ⟨⟨vs.map some, rfl, by rw [List.length_map]; exact lvs⟩, ?_⟩
    refine ht' (F := W2.h) (as.map Sl.some ++ capS ρ js) (vs.map some ++ capV σ js) W2 _ (rl_caps r1 hW2.1 ivs) w _ fun b W3 s3 w3 => ?_
    have hW3 := stp hW2 s3
    cases b with
    | false => exact ⟨W3, es, rfl, hW3, Nat.le_succ_of_le q4, w3⟩
    | true =>
      show te _ _ _
      refine h2 (F := W3.h) (as.map Sl.some ++ capS ρ js) (vs.map some ++ capV σ js) W3 _ (rl_caps r1 hW3.1 (ivs.mono s3)) w3 _ fun y w W4 s4 i4 q6 => ?_
      obtain ⟨a1, a2, a3, a4, a5, a6⟩ := stp hW3 s4
      refine ⟨a4, W4.mine D (.lst (ys ++ [w])) a5, es ++ [y], rfl, ⟨a1, fun b o q => ?_, a3, upd_same, a5, a6.append (allIs_cons.mpr ⟨w, [], rfl, i4, allIs_nil.mpr rfl⟩)⟩, by rw [List.length_append]; exact Nat.succ_le_succ q4, q6⟩
      have q' : (if b = D then none else W4.h b) = some o := a2 b o q
      have hb : b ≠ D := fun e => by rw [e, hD] at q; cases q
      rw [if_neg hb] at q'
      show (if b = D then none else upd W4.h D (.lst (ys ++ [w])) b) = some o
      rw [if_neg hb, upd_ne hb]
      exact q'
  · rintro ys _ ⟨W2, es, rfl, ⟨s2, sh, sn, q1, q2, q3⟩, _, q5⟩
    refine kk es D ys W2 (s1.trans ⟨s2, fun b o q => ?_, sn⟩) (s1.h.free hD) q1 q2 q3 (hd es q5)
    have q' : (if b = D then none else W2.h b) = some o := sh b o q
    have hb : b ≠ D := fun e => by rw [e, hD] at q; cases q
    rwa [if_neg hb] at q'
section
variable {X : Cx} {fr : Fr} {osc scope : Scope} {bs caps : List Str} {js : List Nat} {N0 : List Str} {L : Addr} {tg iter elt a : Expr} {ifs : List Expr} {ta te : DTE} {di : DTI} {tt : DTT} {dg : Dt → List Dt → Prop} {gt : TG} {px p0 pos pos1 : Pos}
theorem df_compG (hc : X.calm = true) (S : compOkG osc scope bs caps js N0 = true) (hN0 : X.N = N0) (he' : X.env.scope = osc) (hcs : X.env.cells = cellsFrom (L + 1) osc.names []) (hl : DI X tg iter di)
    (hg : ∀ C s H fp pins, PG (cxCompG X scope (clOf X.env.cells scope.names) bs caps C s H fp pins) tg gt) (lg : LiG X.K bs.length gt dg)
    (ht : ∀ C s H fp pins, DC (cxCompG X scope (clOf X.env.cells scope.names) bs caps C s H fp pins) ifs tt)
    (he : ∀ C s H fp pins, DE (cxCompG X scope (clOf X.env.cells scope.names) bs caps C s H fp pins) elt te) (hs : ∀ y, foldedSetIterable iter X.env y = pure y := by intro _; rfl) :
    DF X (.ListComp elt [⟨tg, iter, ifs, 0⟩] scope pos) (dCompG js di dg tt te) := by
  obtain ⟨wi, p, l⟩ := hl
  exact ⟨_, pe_compG hc (compScG (hN0 ▸ S) he' hcs) p hg (fun C s H fp pins => (ht C s H fp pins).up) (fun C s H fp pins => (he C s H fp pins).up) hs, li_compG l lg li_liftT li_lift⟩
theorem ds_setCompGP {y : Str} {i : Nat} {py spos : Pos} (hc : X.calm = true) (S : compOkG osc scope bs caps js N0 = true) (hN0 : X.N = N0) (he' : X.env.scope = osc) (hcs : X.env.cells = cellsFrom (L + 1) osc.names []) (hN : X.N.Nodup) (hi : X.N[i]? = some y) (hy : Loc X.env.scope y) (hl : DI X tg iter di)
    (hg : ∀ C s H fp pins, PG (cxCompG X scope (clOf X.env.cells scope.names) bs caps C s H fp pins) tg gt) (lg : LiG X.K bs.length gt dg)
    (ht : ∀ C s H fp pins, DC (cxCompG X scope (clOf X.env.cells scope.names) bs caps C s H fp pins) ifs tt)
    (he : ∀ C s H fp pins, DE (cxCompG X scope (clOf X.env.cells scope.names) bs caps C s H fp pins) elt te)
    (hsw : swapsWith (.ListComp elt [⟨tg, iter, ifs, 0⟩] scope pos) (some (.Name y py)) spos.line X.env = pure true := by rfl) (hs : ∀ y, foldedSetIterable iter X.env y = pure y := by intro _; rfl)
    (hf : X.fn y = true ∨ X.env.scope.names.lookup y = some .local := by first | exact .inl rfl | exact .inr rfl | assumption) :
    DSt X fr (.Assign [.Name y py] (.ListComp elt [⟨tg, iter, ifs, 0⟩] scope pos) spos) (dSet i (dCompG js di dg tt te)) := by
  obtain ⟨wi, p, l⟩ := hl
  exact ⟨_, ps_setCompG (te := liftE X.K te) (tt := liftT X.K tt) hc (compScG (hN0 ▸ S) he' hcs) hN hi hy p hg (fun C s H fp pins => (ht C s H fp pins).up) (fun C s H fp pins => (he C s H fp pins).up) hsw hs hf, fun W0 G ρ σ W D D' a s h => LiF.le (li_compG l lg (li_liftT (t := tt)) (li_lift (t := te))) ρ σ W _ a.rl h _ fun d v W1 s1 i1 q1 => s.nx _ _ W1 ((a.step s1).set i i1) q1⟩
end
end OD

namespace OD
variable {Z : Hp}
open PySem PySem.Spec PyProof.Rows L2
section
variable {K : PySem.W.Frag} {F : Hp} {W W' W0 : Vw}
theorem NewL.mono {d : Dt} {v : V} (h : NewL K F W d v) (s : Le W W') : NewL K F W' d v := by
  obtain ⟨es, p, xs, h1, h2, h3, h4, h5, h6⟩ := h
  exact ⟨es, p, xs, h1, h2, h3, s.h _ _ h4, s.n p (by rw [h4]; intro z; cases z) h5, h6.mono s⟩
theorem Prt.mono {b : Bool} {d : Dt} {v : V} (h : Prt K F W b d v) (s : Le W W') : Prt K F W' b d v := by
  cases b with
  | false => exact Is.mono h s
  | true =>
    rcases h with h | ⟨h1, h2⟩
    · exact .inl (h.mono s)
    · exact .inr ⟨h1, Is.mono h2 s⟩
theorem Prt.frz {b : Bool} {d : Dt} {u : V} (le : Le W0 W) (h : Prt K W0.h W b d u) : ∃ W1 : Vw, W1.h = W.h ∧ Same W.g W1.g ∧ Le W0 W1 ∧ Is K W1.g d u ∧
    ∀ b2 d2 u2, Prt K W0.h W b2 d2 u2 → (∀ es fs, b = true → b2 = true → d = .lst es → d2 = .lst fs → u ≠ u2) → Prt K W0.h W1 b2 d2 u2 := by
  cases b with
  | false => exact ⟨W, rfl, Same.refl _, le, h, fun _ _ _ k _ => k⟩
  | true =>
    rcases h with ⟨es, p, xs, rfl, rfl, h3, h4, h5, h6⟩ | ⟨_, h2⟩
    · refine ⟨W.frz p _ h4, rfl, same_new h5 _, le_frz le h3 h4 h5, is_lst.mpr ⟨p, xs, rfl, upd_same, AllIs.mono0 (same_new h5 _) h6⟩, fun b2 d2 u2 k ne => ?_⟩
      cases b2 with
      | false => exact Is.mono0 (same_new h5 _) k
      | true =>
        rcases k with ⟨fs, q, ys, rfl, rfl, k3, k4, k5, k6⟩ | ⟨k1, k2⟩
        · have hq : q ≠ p := fun z => ne es fs rfl rfl rfl rfl (by rw [z])
          exact .inl ⟨fs, q, ys, rfl, rfl, k3, k4, (upd_ne hq).trans k5, AllIs.mono0 (same_new h5 _) k6⟩
        · exact .inr ⟨k1, Is.mono0 (same_new h5 _) k2⟩
    · exact ⟨W, rfl, Same.refl _, le, h2, fun _ _ _ k _ => k⟩
theorem Tld.frz {fr : Fr} {d : Dt} {v : V} (le : Le W0 W) (h : Tld K W0.h W fr d v) : ∃ W1 : Vw, W1.h = W.h ∧ Le W0 W1 ∧ Is K W1.g d v := by
  match fr, h with
  | .d, h => exact ⟨W, rfl, le, h⟩
  | .l, ⟨es, p, xs, e1, e2, h3, h4, h5, h6⟩ =>
    subst e1; subst e2
    exact ⟨W.frz p _ h4, rfl, le_frz le h3 h4 h5, is_lst.mpr ⟨p, xs, rfl, upd_same, AllIs.mono0 (same_new h5 _) h6⟩⟩
  | .t a b, ⟨d1, d2, q, u1, u2, e1, e2, hq, p1, p2, ne⟩ =>
    subst e1; subst e2
    obtain ⟨W1, e1, s1, le1, i1, k1⟩ := p1.frz le
    obtain ⟨W2, e2, s2, le2, i2, _⟩ := (k1 b d2 u2 p2 ne).frz le1
    exact ⟨W2, e2.trans e1, le2, is_tup.mpr ⟨q, _, rfl, s2 _ _ (s1 _ _ hq), allIs_cons.mpr ⟨u1, _, rfl, Is.mono0 s2 i1, allIs_cons.mpr ⟨u2, _, rfl, i2, allIs_nil.mpr rfl⟩⟩⟩⟩
end
def TldSp (K : PySem.W.Frag) (fr : Fr) (S : DSp) : Sp := fun vs H Q _ => ∃ (W : Vw) (ds : List Dt) (Qd : Dt → Prop), W.h = H ∧ AllIs K W.g ds vs ∧ S ds Qd ∧ ∀ d v W', Le W W' → Tld K W.h W' fr d v → Qd d → Q v W'.h
def TldSpX (K : PySem.W.Frag) (fr : Fr) (S : DSpX) : Sp := fun vs H Q E => ∃ (W : Vw) (ds : List Dt) (Qd : Dt → Prop) (Ed : Addr → Prop), W.h = H ∧ AllIs K W.g ds vs ∧ S ds Qd Ed ∧
  (∀ d v W', Le W W' → Tld K W.h W' fr d v → Qd d → Q v W'.h) ∧ ∀ C H', Same W.h H' → Ed C → E (.ref C) none H'
structure TOk (P : Program) (w : World) (K : PySem.W.Frag) (mg : Str → Option Value) (base : Heap) (n : Nat) (x : Str) (fr : Fr) (S : DSp) : Prop where
  ex : ∃ f fd ps, mg x = some (.ref f) ∧ PySem.W.keepIn K (.ref f) = true ∧ Binds K fd ps [] ∧ FnOk P w K mg base CX0 n f fd ps (TldSp K fr S)
structure TOkX (P : Program) (w : World) (K : PySem.W.Frag) (mg : Str → Option Value) (base : Heap) (n : Nat) (x : Str) (fr : Fr) (S : DSpX) : Prop where
  ex : ∃ f fd ps, mg x = some (.ref f) ∧ PySem.W.keepIn K (.ref f) = true ∧ Binds K fd ps [] ∧ FnOk P w K mg base (CX1 P w) n f fd ps (TldSpX K fr S)
section
variable {P : Program} {w : World} {K : PySem.W.Frag} {mg : Str → Option Value} {base : Heap} {fr : Fr}
theorem TOk.mk' {x qual : Str} {st : Stmt} {f : Addr} {fd : FuncData} {ps : List Str} {n : Nat} {S : DSp} (F : Fun K x qual st f fd) (hm : mg x = some (.ref f)) (hb : Binds K fd ps []) (h : FnOk P w K mg base CX0 n f fd ps (TldSp K fr S)) : TOk P w K mg base n x fr S :=
  ⟨f, fd, ps, hm, F.kp, hb, h⟩
theorem TOkX.mk' {x qual : Str} {st : Stmt} {f : Addr} {fd : FuncData} {ps : List Str} {n : Nat} {S : DSpX} (F : Fun K x qual st f fd) (hm : mg x = some (.ref f)) (hb : Binds K fd ps []) (h : FnOk P w K mg base (CX1 P w) n f fd ps (TldSpX K fr S)) : TOkX P w K mg base n x fr S :=
  ⟨f, fd, ps, hm, F.kp, hb, h⟩
end
section
variable {X : Cx} {fr : Fr} {a b : Bool} {e e1 e2 : Expr} {es : List Expr} {t t1 t2 : DTE} {ta : DTA} {n : Nat} {x y : Str} {S : DSp} {SX : DSpX} {p pos p0 p1 p2 : Pos} {i j : Nat}
def slP : Bool → Dt → Sl
  | true, .lst es => .own es
  | _, d => .some d
theorem Rl.ownN {K : PySem.W.Frag} {F : Hp} {W : Vw} {ρ : DS} {σ : St} (r : Rl K Z F W ρ σ) {p : Addr} {xs : List V} {ds : List Dt} (i : Nat) (nep : ∀ (j : Nat) (es : List Dt), ρ[j]? = some (Sl.own es) → σ[j]? ≠ some (some (V.ref p))) (nea : ∀ (j : Nat) (a : Addr) (es : List Dt), ρ[j]? = some (Sl.arg a es) → a ≠ p)
    (hF : F p = none) (h1 : W.h p = some (.lst xs)) (h2 : W.g p = none) (h3 : AllIs K W.g ds xs) : Rl K Z F W (ρ.set i (.own ds)) (σ.set i (some (.ref p))) := by
  refine ⟨by rw [List.length_set, List.length_set]; exact r.len, fun j e q => ?_, fun j es q => ?_, fun j k es es' hjk q1 q2 => ?_, r.fr, r.z, fun j a fs q => ?_⟩
  · rcases set_get q with ⟨_, _, e1⟩ | ⟨hij, q⟩
    · cases e1
    · rw [List.getElem?_set_ne hij]
      exact r.at_ j e q
  · rcases set_get q with ⟨rfl, hl, e1⟩ | ⟨hij, q⟩
    · cases e1
      exact ⟨p, xs, by rw [List.getElem?_set_self (by rw [← r.len]; exact hl)], h1, h2, hF, h3⟩
    · rw [List.getElem?_set_ne hij]
      exact r.ow j es q
  · rcases set_get q1 with ⟨rfl, hl, e1⟩ | ⟨hij, q1⟩
    · rcases set_get q2 with ⟨rfl, _, _⟩ | ⟨hik, q2⟩
      · exact absurd rfl hjk
      · rw [List.getElem?_set_self (by rw [← r.len]; exact hl), List.getElem?_set_ne hik]
        exact fun z => nep k es' q2 z.symm
    · rcases set_get q2 with ⟨rfl, hl, _⟩ | ⟨hik, q2⟩
      · rw [List.getElem?_set_self (by rw [← r.len]; exact hl), List.getElem?_set_ne hij]
        exact nep j es q1
      · rw [List.getElem?_set_ne hij, List.getElem?_set_ne hik]
        exact r.ne j k es es' hjk q1 q2
  · rcases set_get q with ⟨_, _, e1⟩ | ⟨hij, q⟩
    · cases e1
    obtain ⟨⟨ys, g1, g2⟩, k1, k2⟩ := r.ar j a fs q
    refine ⟨⟨ys, by rw [List.getElem?_set_ne hij]; exact g1, g2⟩, fun k es q' => ?_, fun k c es q' => ?_⟩
    · rcases set_get q' with ⟨rfl, hl, e1⟩ | ⟨hik, q'⟩
      · rw [List.getElem?_set_self (by rw [← r.len]; exact hl)]
        intro z
        cases z
        exact nea j _ fs q rfl
      · rw [List.getElem?_set_ne hik]
        exact k1 k es q'
    · rcases set_get q' with ⟨_, _, e1⟩ | ⟨hik, q'⟩
      · cases e1
      exact k2 k c es q'
theorem Rl.part {K : PySem.W.Frag} {F F' : Hp} {W : Vw} {ρ : DS} {σ : St} (r : Rl K Z F W ρ σ) {b : Bool} {d : Dt} {v : V} (i : Nat) (h : Prt K F' W b d v) (hF : ∀ p, F' p = none → F p = none)
    (nep : ∀ (p : Addr) (j : Nat) (es fs : List Dt), b = true → d = .lst fs → v = .ref p → F' p = none → ρ[j]? = some (Sl.own es) → σ[j]? ≠ some (some (V.ref p))) (nea : ∀ (p : Addr) (j : Nat) (a : Addr) (es : List Dt), F' p = none → ρ[j]? = some (Sl.arg a es) → a ≠ p) :
    Rl K Z F W (ρ.set i (slP b d)) (σ.set i (some v)) := by
  cases b with
  | false => cases d <;> exact r.set i h
  | true =>
    rcases h with ⟨es, p, xs, rfl, rfl, h3, h4, h5, h6⟩ | ⟨z, h2⟩
    · exact r.ownN i (fun j fs e => nep p j fs es rfl rfl rfl h3 e) (fun j a fs e => nea p j a fs h3 e) (hF p h3) h4 h5 h6
    · cases d <;> first | exact r.set i h2 | cases z
end
end OD

namespace L2
open PySem PySem.Spec PyProof.Rows
def Cx.arg (X : Cx) : Cx := { X with fn := fun y => !(y == "") }
section
variable {X : Cx} {pins : List (Addr × Obj)} {σ : St} {H : Hp} {s : Shared}
theorem Inv.arg (I : Inv X pins σ H s) (hf : ∀ y, X.fn y = true) : Inv X.arg pins σ H s :=
  ⟨⟨I.ok.mod, I.ok.kind, I.ok.glob, I.ok.blt, I.ok.above, I.ok.inj, I.ok.has, fun x c _ => I.ok.cab x c (hf x), I.ok.hd, I.ok.frames, I.ok.stk, I.ok.exf, I.ok.bs, I.ok.bsz, I.ok.noex, I.ok.exfs, I.ok.funs, I.ok.frf⟩, I.os, I.bare, I.base, I.loc, I.cell, I.free, I.freeC, I.pin, I.hok, I.len⟩
end
end L2
namespace OD
variable {Z : Hp}
open PySem PySem.Spec PyProof.Rows L2
def Vw.del (W : Vw) (a : Addr) (hg : W.g a = none) : Vw := ⟨W.g, fun b => if b = a then none else W.h b, fun b o q => by
  have : b ≠ a := fun e => by rw [e, hg] at q; cases q
  show (if b = a then none else W.h b) = some o
  rw [if_neg this]
  exact W.sub _ _ q⟩
abbrev ASp := Dt → List Dt → List Dt → (List Dt → Prop) → Prop
def ArgSp (K : PySem.W.Frag) (S : ASp) : Sp := fun vs H Q _ => ∃ (W : Vw) (d0 : Dt) (es0 ds : List Dt) (Qd : List Dt → Prop) (v0 : V) (a : Addr) (xs vs' : List V) (hg : W.g a = none), W.h = H ∧ vs = v0 :: .ref a :: vs' ∧ W.h a = some (.lst xs) ∧ Is K W.g d0 v0 ∧ AllIs K W.g es0 xs ∧ AllIs K W.g ds vs' ∧ S d0 es0 ds Qd ∧
  ∀ es ys W', Le (W.del a hg) W' → W'.h a = some (.lst ys) → W'.g a = none → AllIs K W'.g es ys → Qd es → Q .non W'.h
structure AOk (P : Program) (w : World) (K : PySem.W.Frag) (mg : Str → Option Value) (base : Heap) (n : Nat) (x : Str) (S : ASp) : Prop where
  ex : ∃ f fd ps, mg x = some (.ref f) ∧ PySem.W.keepIn K (.ref f) = true ∧ Binds K fd ps [] ∧ FnOk P w K mg base CX0 n f fd ps (ArgSp K S)
section
variable {P : Program} {w : World} {K : PySem.W.Frag} {mg : Str → Option Value} {base : Heap}
theorem AOk.mk' {x qual : Str} {st : Stmt} {f : Addr} {fd : FuncData} {ps : List Str} {n : Nat} {S : ASp} (F : Fun K x qual st f fd) (hm : mg x = some (.ref f)) (hb : Binds K fd ps []) (h : FnOk P w K mg base CX0 n f fd ps (ArgSp K S)) : AOk P w K mg base n x S :=
  ⟨f, fd, ps, hm, F.kp, hb, h⟩
end
section
variable {X : Cx} {fr : Fr} {e e0 k : Expr} {es : List Expr} {t te tk : DTE} {ta : DTA} {n : Nat} {x y : Str} {S : ASp} {p pos p0 p1 p2 p3 : Pos} {i : Nat}
end
end OD

namespace OD
variable {Z : Hp}
open PySem PySem.Spec PyProof.Rows L2
section
variable {X : Cx} {tg : Expr}
variable {a b c : Expr} {ta : DTA} {p0 pos1 : Pos}
end
end OD

namespace L2
open PySem PySem.Spec PyProof.Rows
section
variable {X : Cx}
end
end L2
namespace OD
variable {Z : Hp}
open PySem PySem.Spec PyProof.Rows L2
abbrev DTB := Prop → (Addr → Prop) → DS → Prop
section
variable {X : Cx} {e : Expr} {es : List Expr} {t : DTA} {n : Nat} {x y m : Str} {j : Nat} {S : DSpX} {p pos py hpos epos tpos : Pos} {fr : Fr} {th : DTS} {c : Value} {b₀ : Stmt} {suite body : List Stmt} {d : DTB}
end
end OD

namespace OD
open PySem L2
variable {X : Cx} {e : Expr} {t : DTE}
end OD

namespace OD
open PySem L2 PyProof.Rows
section
variable {Z F : Hp} {K : PySem.W.Frag} {W W' W0 : Vw} {G : Hp} {ρ : DS} {σ : L2.St}
theorem snoc_get {α : Type} {l : List α} {x y : α} {i : Nat} (q : (l ++ [x])[i]? = some y) : l[i]? = some y ∨ (i = l.length ∧ x = y) := by
  rcases Nat.lt_trichotomy i l.length with h | h | h
  · rw [List.getElem?_append_left h] at q; exact .inl q
  · subst h
    rw [List.getElem?_append_right (Nat.le_refl _), Nat.sub_self] at q
    exact .inr ⟨rfl, Option.some.inj q⟩
  · rw [List.getElem?_eq_none (by rw [List.length_append]; show l.length + 1 ≤ i; omega)] at q
    cases q
theorem get_lt {α : Type} {l : List α} {y : α} {i : Nat} (q : l[i]? = some y) : i < l.length := by
  rcases Nat.lt_or_ge i l.length with h | h
  · exact h
  · rw [List.getElem?_eq_none h] at q; cases q
theorem snoc_lt {α : Type} {l : List α} {x y : α} {i : Nat} (q : l[i]? = some y) : (l ++ [x])[i]? = some y := by rw [List.getElem?_append_left (get_lt q)]; exact q
theorem snoc_ne {α : Type} {l : List α} {x : α} {i : Nat} (h : i < l.length) : (l ++ [x])[i]? = l[i]? := List.getElem?_append_left h
theorem Rl.push (r : Rl K Z F W ρ σ) : Rl K Z F W (ρ ++ [Sl.none]) (σ ++ [none]) := by
  have hs : ∀ i y, ρ[i]? = some y → (σ ++ [none])[i]? = σ[i]? := fun i y q => snoc_ne (by rw [← r.len]; exact get_lt q)
  have cl : ∀ i y, (ρ ++ [Sl.none])[i]? = some y → y ≠ Sl.none → ρ[i]? = some y := fun i y q hy => by
    rcases snoc_get q with q | ⟨_, e⟩
    · exact q
    · exact absurd e.symm hy
  refine ⟨by rw [List.length_append, List.length_append, r.len]; rfl, fun i d q => ?_, fun i ds q => ?_, fun i k ds es hik q1 q2 => ?_, r.fr, r.z, fun i c ds q => ?_⟩
  · have q := cl i _ q (fun z => nomatch z)
    rw [hs i _ q]; exact r.at_ i d q
  · have q := cl i _ q (fun z => nomatch z)
    rw [hs i _ q]; exact r.ow i ds q
  · have q1 := cl i _ q1 (fun z => nomatch z)
    have q2 := cl k _ q2 (fun z => nomatch z)
    rw [hs i _ q1, hs k _ q2]; exact r.ne i k ds es hik q1 q2
  · have q := cl i _ q (fun z => nomatch z)
    obtain ⟨⟨xs, h1, h2⟩, k1, k2⟩ := r.ar i c ds q
    refine ⟨⟨xs, by rw [hs i _ q]; exact h1, h2⟩, fun k es q' => ?_, fun k b es q' => k2 k b es (cl k _ q' (fun z => nomatch z))⟩
    have q' := cl k _ q' (fun z => nomatch z)
    rw [hs k _ q']; exact k1 k es q'
theorem Rl.snocOff {x : Sl} {o : Option V} (r : Rl K Z F W (ρ ++ [x]) (σ ++ [o])) : Rl K Z F W ρ σ := by
  have len : ρ.length = σ.length := by have := r.len; rw [List.length_append, List.length_append] at this; exact Nat.succ.inj this
  have hs : ∀ i y, ρ[i]? = some y → (σ ++ [o])[i]? = σ[i]? := fun i y q => snoc_ne (by rw [← len]; exact get_lt q)
  refine ⟨len, fun i d q => ?_, fun i ds q => ?_, fun i k ds es hik q1 q2 => ?_, r.fr, r.z, fun i c ds q => ?_⟩
  · rw [← hs i _ q]; exact r.at_ i d (snoc_lt q)
  · rw [← hs i _ q]; exact r.ow i ds (snoc_lt q)
  · rw [← hs i _ q1, ← hs k _ q2]; exact r.ne i k ds es hik (snoc_lt q1) (snoc_lt q2)
  · obtain ⟨⟨xs, h1, h2⟩, k1, k2⟩ := r.ar i c ds (snoc_lt q)
    exact ⟨⟨xs, by rw [← hs i _ q]; exact h1, h2⟩, fun k es q' => by rw [← hs k _ q']; exact k1 k es (snoc_lt q'), fun k b es q' => k2 k b es (snoc_lt q')⟩
theorem snoc_set {α : Type} {l : List α} {x y : α} {n : Nat} (h : n = l.length) : (l ++ [x]).set n y = l ++ [y] := by
  subst h
  rw [List.set_append_right _ _ (Nat.le_refl _), Nat.sub_self]; rfl
theorem snoc_at {α : Type} {l : List α} {x : α} {n : Nat} (h : n = l.length) : (l ++ [x])[n]? = some x := by
  subst h
  rw [List.getElem?_append_right (Nat.le_refl _), Nat.sub_self]; rfl
structure TAt (K : PySem.W.Frag) (Z : Hp) (W0 : Vw) (G : Hp) (W : Vw) (ρ : DS) (σ : L2.St) (i : Nat) (es : List Dt) (d : Dt) : Prop where
  ex : ∃ p q v, At K Z W0 G W (ρ ++ [.own es]) (σ ++ [some (.ref p)]) ∧ σ[i]? = some (some (.ref q)) ∧ W.g q = some (.tup [.ref p, v]) ∧ Is K W.g d v
variable {i : Nat} {es : List Dt} {d : Dt}
theorem TAt.step (t : TAt K Z W0 G W ρ σ i es d) (s : Le W W') : TAt K Z W0 G W' ρ σ i es d :=
  let ⟨p, q, v, a, h1, h2, h3⟩ := t.ex; ⟨p, q, v, a.step s, h1, s.g _ _ h2, h3.mono s⟩
theorem TAt.bor (t : TAt K Z W0 G W ρ σ i es d) : ∃ W' : Vw, W'.h = W.h ∧ Same W.g W'.g ∧ Rl K Z W0.h W' ((ρ.set i (.some (.tup [.lst es, d]))).map fz) σ := by
  obtain ⟨p, q, v, a, h1, h2, h3⟩ := t.ex
  have len : ρ.length = σ.length := by have := a.rl.len; rw [List.length_append, List.length_append] at this; exact Nat.succ.inj this
  obtain ⟨b, xs, e1, e2, e3, e4, e5⟩ := a.rl.ow ρ.length es (snoc_at rfl)
  rw [snoc_at len] at e1
  cases e1
  have r1 := a.rl.frz (snoc_at rfl) (snoc_at len) e2 e3 e5
  rw [snoc_set rfl] at r1
  have sg : Same W.g (W.frz p _ e2).g := same_new e3 _
  have r2 := r1.snocOff.set (d := .tup [.lst es, d]) (v := .ref q) i (is_tup.mpr ⟨q, _, rfl, sg _ _ h2, allIs_cons.mpr ⟨_, _, rfl, is_lst.mpr ⟨p, xs, rfl, upd_same, AllIs.mono0 sg e5⟩, allIs_cons.mpr ⟨v, _, rfl, Is.mono0 sg h3, allIs_nil.mpr rfl⟩⟩⟩)
  have es : σ.set i (some (.ref q)) = σ := by
    apply List.ext_getElem?
    intro j
    by_cases hj : i = j
    · subst hj; rw [List.getElem?_set_self (get_lt h1)]; exact h1.symm
    · rw [List.getElem?_set_ne hj]
  rw [es] at r2
  obtain ⟨W', f1, f2, f3, _⟩ := r2.bor
  exact ⟨W', f1, sg.trans f2, f3⟩
abbrev DTG := List Dt → Dt → DTS
end
section
variable {X : Cx} {fr : Fr} {st : Stmt} {rest : List Stmt} {t : DTE} {u : DTS} {ug : DTG} {e : Expr} {te : DTE} {pos p0 p1 p2 p3 pos' : Pos} {i j : Nat} {x y : Str}
end
end OD

namespace OD
open PySem L2
section
variable {js : List Nat} {ta te : DTE} {X : Cx} {e : Expr} {fr : Fr} {st : Stmt} {i : Nat}
theorem each_t {s : DS} {P R : Prop} : (dEach s fun b => if b = true then P else R) = P := by show (if true = true then P else R) = P; rw [if_pos rfl]
end
end OD

namespace L2
open PySem PySem.Spec PyProof.Rows
section
variable {X : Cx} {o e : Expr} {es : List Expr} {n : Nat} {m x : Str} {pos p apos py epos : Pos} {i : Nat}
end
end L2
namespace OD
variable {Z : Hp}
open PySem PySem.Spec PyProof.Rows L2
structure MOkX (P : Program) (w : World) (K : PySem.W.Frag) (mg : Str → Option Value) (base : Heap) (n : Nat) (C : Addr) (m : Str) (S : DSpX) : Prop where
  cl : Cls K C
  ex : ∃ f fd ps, Meth K C m f ∧ Binds K fd ps [] ∧ FnOk P w K mg base (CX1 P w) n f fd ps (PureSpX K S)
theorem MOkX.mono {P : Program} {w : World} {K : PySem.W.Frag} {mg : Str → Option Value} {base : Heap} {C : Addr} {x : Str} {m n : Nat} {S : DSpX} (h : MOkX P w K mg base m C x S) (hl : m ≤ n) : MOkX P w K mg base n C x S :=
  let ⟨f, fd, ps, a, b, c⟩ := h.ex; ⟨h.cl, f, fd, ps, a, b, c.mono hl⟩
abbrev DTC := (DS → Prop) → (Addr → Prop) → DS → Prop
section
variable {X : Cx} {o e : Expr} {es : List Expr} {t : DTA} {ta : DTE} {n : Nat} {x y m z : Str} {i j : Nat} {S : DSpX} {p pos py hpos epos tpos apos : Pos} {fr : Fr} {th : DTS} {c : Value} {b₀ : Stmt} {suite body : List Stmt} {d : DTC}
end
end OD

namespace OD
variable {Z : Hp}
open PySem PySem.Spec PyProof.Rows L2
section
variable {X : Cx} {a b : Expr} {ta : DTA} {te : DTE} {p0 pos pos1 tpos : Pos} {elts : List Expr} {x1 : Nat}
end
end OD

namespace OD
open PySem L2 PyProof.Rows
def MvSp (K : PySem.W.Frag) (S : DSp) : Sp := fun vs H Q _ => ∃ (W : Vw) (d0 : Dt) (es0 ds : List Dt) (Qd : Dt → Prop) (v0 : V) (a : Addr) (xs vs' : List V) (hg : W.g a = none), W.h = H ∧ vs = v0 :: .ref a :: vs' ∧ W.h a = some (.lst xs) ∧ Is K W.g d0 v0 ∧ AllIs K W.g es0 xs ∧ AllIs K W.g ds vs' ∧ S (d0 :: .lst es0 :: ds) Qd ∧
  ∀ es p ys W', Le (W.del a hg) W' → (W.del a hg).h p = none → W'.h p = some (.lst ys) → W'.g p = none → AllIs K W'.g es ys → Qd (.lst es) → Q (.ref p) W'.h
structure VOk (P : Program) (w : World) (K : PySem.W.Frag) (mg : Str → Option Value) (base : Heap) (n : Nat) (x : Str) (S : DSp) : Prop where
  ex : ∃ f fd ps, mg x = some (.ref f) ∧ PySem.W.keepIn K (.ref f) = true ∧ Binds K fd ps [] ∧ FnOk P w K mg base CX0 n f fd ps (MvSp K S)
section
variable {P : Program} {w : World} {K : PySem.W.Frag} {mg : Str → Option Value} {base : Heap}
theorem VOk.mk' {x qual : Str} {st : Stmt} {f : Addr} {fd : FuncData} {ps : List Str} {n : Nat} {S : DSp} (F : Fun K x qual st f fd) (hm : mg x = some (.ref f)) (hb : Binds K fd ps []) (h : FnOk P w K mg base CX0 n f fd ps (MvSp K S)) : VOk P w K mg base n x S :=
  ⟨f, fd, ps, hm, F.kp, hb, h⟩
end
section
variable {X : Cx} {e0 e1 : Expr} {es : List Expr} {t tf : DTE} {ta : DTA} {n : Nat} {x : Str} {S : DSp} {p pos : Pos}
def dIsiS (ta : DTE) : DTE := fun ρ Q => ta ρ fun d => ∃ x, d = .str x ∧ Q (.bl true)
theorem de_isiS {a : Expr} {ta : DTE} {p' : Pos} (hm : X.mg "isinstance" = none) (hmc : X.mg "str" = none) (ha : DE X a ta)
    (hg : Gl X "isinstance" := by rfl) (hgc : Gl X "str" := by rfl)
    (hs : starEach [a, .Name "str" p'] X.env = (false, eval a X.env) :: starEach [.Name "str" p'] X.env := by rfl) (hs2 : starEach [.Name "str" p'] X.env = (false, eval (.Name "str" p') X.env) :: starEach [] X.env := by rfl)
    (hpl : (backTo pos (starEach [.Name "str" p'] X.env)).any (·.1) = false := by rfl) :
    DE X (.Call (.Name "isinstance" p) [a, .Name "str" p'] [] pos) (dIsiS ta) := by
  obtain ⟨te, p1, l1⟩ := ha
  have pc : PE X (.Name "str" p') (tC (.ty "str")) := pe_bltn hgc hmc PyProof.Rows.boot_str rfl (by decide) (by decide)
  refine ⟨_, pe_callB call_isi hg hm boot_isinstance (pa_cons p1 (pa_cons pc pa_nil hs2) hs) (by decide) (by decide) hs hpl, fun ρ σ H Q r h R k => l1 ρ σ H _ r h _ fun d v H1 s1 i1 ⟨x, e, q⟩ => ?_⟩
  subst e
  obtain rfl := is_str.mp i1
  exact ⟨.str x, "str", _, true, rfl, .str x, kit_same, k _ _ H1 s1 (is_bl.mpr rfl) q⟩
end
end OD

namespace L2
open PySem PySem.Spec PyProof.Rows
section
variable {X : Cx} {a b : Expr} {ta tb : TE} {x1 x2 : Str} {p1 p2 p3 p4 pos : Pos}
end
end L2
namespace OD
open PySem PySem.Spec PyProof.Rows L2
section
variable {X : Cx} {a b : Expr} {ta tb : DTE} {x1 x2 : Str} {p1 p2 p3 p4 pos : Pos}
end
section
variable {X : Cx} {e : Expr} {es : List Expr} {t : DTA} {n : Nat} {x : Str} {p pos : Pos}
end
section
variable {P : Program} {w : World} {K : PySem.W.Frag} {mg : Str → Option Value} {base : Heap}
end
end OD

namespace OD
variable {Z : Hp}
open PySem PySem.Spec PyProof.Rows L2
section
variable {X : Cx} {tg : Expr}
variable {a b c : Expr} {ta : DTA} {p0 pos1 : Pos}
end
end OD
namespace L2
open PySem PySem.Spec PyProof.Rows
section
variable {prog : Program} {w : World} {A : Around} {E : Value → Shared → Prop} {s : Shared}
end
section
variable {X : Cx} {pos : Pos}
end
end L2
namespace OD
open PySem PySem.Spec PyProof.Rows L2
section
variable {X : Cx} {fr : Fr} {e : Expr} {te : DTE} {pos : Pos}
end
end OD

namespace L2
open PySem PySem.Spec PyProof.Rows
section
variable {X : Cx}
theorem Vals.oneS {x : Str} {us : List Value} (h : Vals [.str x] us) : ∃ t, us = [.str x t] := by
  obtain ⟨u, rfl, t, rfl⟩ := h.one
  exact ⟨t, rfl⟩
theorem mt_starts : MtR X "str.startswith" (fun x vs H Q => ∃ z y, x = .str z ∧ vs = [.str y] ∧ Q (.bl (Txt.startswith z y)) H) := by
  intro pins s σ H x vs v us Q I rx rv h
  obtain ⟨z, y, rfl, rfl, q⟩ := h
  obtain ⟨t, rfl⟩ := rx
  obtain ⟨u, rfl⟩ := rv.oneS
  exact call_gives PySem.F.slot_str_startswith (typeIs_str s z t) PySem.F.entry_str_startswith (PySem.F.args_str_startswith_2 _ _) (gives_str_startswith z y t u) ⟨.bl _, H, I, rfl, q⟩
theorem mt_rstripC : MtR X "str.rstrip" (fun x vs H Q => ∃ z y, x = .str z ∧ vs = [.str y] ∧ z.length ≤ sizeLine ∧ Q (.str (Txt.rstripChars z y)) H) := by
  intro pins s σ H x vs v us Q I rx rv h
  obtain ⟨z, y, rfl, rfl, hl, q⟩ := h
  obtain ⟨t, rfl⟩ := rx
  obtain ⟨u, rfl⟩ := rv.oneS
  exact call_gives PySem.F.slot_str_rstrip (typeIs_str s z t) PySem.F.entry_str_rstrip (PySem.F.args_str_rstrip_2 _ _) (gives_str_rstrip_chars z y t u) (post_val_or_made (fun _ => fits_stripped _ _ _ hl) fun t' k => ⟨.str _, H, I.tok _, ⟨_, rfl⟩, q⟩)
def rSlS : V → Option Int → Option Int → Hp → VK → Prop := fun x lo hi H Q => ∃ z, x = .str z ∧ z.length ≤ sizeLine ∧ Q (.str (Txt.slice z lo hi)) H
theorem part_is {v : Value} {o : Option Int} (h : IsPart v o) : ∃ l : Option (Int × Tok), partValue l = v ∧ l.map (·.1) = o := by
  cases h with
  | none => exact ⟨none, rfl, rfl⟩
  | int i t => exact ⟨some (i, t), rfl, rfl⟩
theorem sl_str : SlR X rSlS := by
  intro pins s σ H x v vl vu lo hi sl Q I rx hs pl pu h
  obtain ⟨z, rfl, hl, q⟩ := h
  obtain ⟨t, rfl⟩ := rx
  obtain ⟨l, rfl, el⟩ := part_is pl
  obtain ⟨u, rfl, eu⟩ := part_is pu
  have hs' : s.heap.IsSlice sl l u none := hs
  refine ⟨"str", _, PySem.F.slot_str_getitem.lookup, typeIs_str s z t, wpAny_getItem_str_slice hs' rfl ?_⟩
  have key : ∀ t' k, EP X pins σ Q (.str (Txt.slice z (l.map (·.1)) (u.map (·.1))) t') { s with toks := k } := fun t' k => ⟨.str _, H, I.tok _, ⟨_, rfl⟩, by rw [el, eu]; exact q⟩
  exact post_val_or_str ⟨Nat.le_trans (Txt.slice_le z _ _) hl, key⟩
end
end L2
namespace OD
open PySem PySem.Spec PyProof.Rows L2
section
variable {X : Cx} {a b e : Expr} {ta tb t : DTE} {p pos p0 : Pos} {x : Str}
def gCatS : Dt → Dt → (Dt → Prop) → Prop := fun d e Q => ∃ x y, d = .str x ∧ e = .str y ∧ x.length + y.length ≤ 16777216 ∧ Q (.str (x ++ y))
theorem o_catS : DOp X (binaryOp .Add) gCatS := by
  refine ⟨_, op_add_str, fun H x y d e Q i1 i2 ⟨u, v, ed, ee, hl, q⟩ R k => ?_⟩
  subst ed
  subst ee
  exact ⟨u, v, is_str.mp i1, is_str.mp i2, by rw [sizeLine_eq]; exact hl, k _ _ H (Le.refl H) (is_str.mpr rfl) q⟩
def occ (y x : Str) : Bool := !(Builtin.Str.occurrences x y 0 x.length 1).isEmpty
theorem o_notinT : DOp X (compareOp .NotIn) (gS fun y x => .bl (!occ y x)) := by
  refine ⟨_, op_notin_str, fun H x y d e Q i1 i2 ⟨u, v, ed, ee, q⟩ R k => ?_⟩
  subst ed
  subst ee
  exact ⟨u, v, is_str.mp i1, is_str.mp i2, k _ _ H (Le.refl H) (is_bl.mpr rfl) q⟩
def dLenS (ta : DTE) : DTE := fun ρ Q => ta ρ fun d => ∃ x, d = .str x ∧ x.length ≤ 16777216 ∧ Q (.int x.length)
theorem de_lenS (hg : Gl X "len") (hm : X.mg "len" = none) (ha : DE X a ta) (hs : starEach [a] X.env = (false, eval a X.env) :: starEach [] X.env := by rfl) (hpl : (backTo pos (starEach [] X.env)).any (·.1) = false := by rfl) :
    DE X (.Call (.Name "len" p0) [a] [] pos) (dLenS ta) := by
  obtain ⟨te, p1, l1⟩ := ha
  refine ⟨_, pe_callB call_len_str hg hm PySem.boot_len (pa_cons p1 pa_nil hs) (by decide) (by decide) hs hpl, fun ρ σ H Q r h R k => l1 ρ σ H _ r h _ fun d v H1 s1 i1 ⟨x, ed, hl, q⟩ => ?_⟩
  subst ed
  exact ⟨x, by rw [is_str.mp i1], by rw [sizeLine_eq]; exact hl, k _ _ H1 s1 (is_int.mpr rfl) q⟩
def dStr (ta : DTE) : DTE := fun ρ Q => ta ρ fun d => ∃ i : Int, d = .int i ∧ i.natAbs.log2 < 1920 ∧ Q (.str (toString i))
theorem de_strI (hg : Gl X "str") (hm : X.mg "str" = none) (ha : DE X a ta) (hs : starEach [a] X.env = (false, eval a X.env) :: starEach [] X.env := by rfl) (hpl : (backTo pos (starEach [] X.env)).any (·.1) = false := by rfl) :
    DE X (.Call (.Name "str" p0) [a] [] pos) (dStr ta) := by
  obtain ⟨te, p1, l1⟩ := ha
  refine ⟨_, pe_callTy call_str_int hg hm PyProof.Rows.boot_str (pa_cons p1 pa_nil hs) (by decide) (by decide) hs hpl, fun ρ σ H Q r h R k => l1 ρ σ H _ r h _ fun d v H1 s1 i1 ⟨i, ed, hl, q⟩ => ?_⟩
  subst ed
  exact ⟨i, by rw [is_int.mp i1], hl, k _ _ H1 s1 (is_str.mpr rfl) q⟩
def dItS (ta tb : DTE) : DTE := dOp (fun d e Q => ∃ x i c, d = .str x ∧ e = .int i ∧ 0 ≤ i ∧ i < 2 ^ 63 ∧ i < x.length ∧ x.cps[i.toNat]? = some c ∧ Q (.str ⟨#[c]⟩)) ta tb
theorem de_itS (ha : DE X a ta) (hb : DE X b tb) (hs : PlainIxT b := by intro _ _; rfl) : DE X (.Subscript a b pos) (dItS ta tb) := by
  obtain ⟨te, p1, l1⟩ := ha
  obtain ⟨tf, p2, l2⟩ := hb
  refine ⟨_, pe_item_str p1 p2 hs, liOp l1 l2 fun H x y d e Q i1 i2 ⟨z, i, c, ed, ee, h0, h1, h2, hc, q⟩ R k => ?_⟩
  subst ed
  subst ee
  exact ⟨z, i, c, is_str.mp i1, is_int.mp i2, h0, h1, h2, hc, k _ _ H (Le.refl H) (is_str.mpr rfl) q⟩
theorem de_gstr {y : Str} {tk : Tok} (hg : Gl X x) (hm : X.mg x = some (.str y tk)) (hd : (x == ("__debug__" : Str)) = false := by decide) : DE X (.Name x pos) (dC (.str y)) :=
  ⟨_, pe_glob hg hm (v := .str y) ⟨tk, rfl⟩ hd, fun ρ σ H Q r h R k => k (.str y) (.str y) H (Le.refl H) (is_str.mpr rfl) h⟩
def dMt (f : Str → Str → Dt) (ta tb : DTE) : DTE := fun ρ Q => ta ρ fun d => ∃ x, d = .str x ∧ x.length ≤ 16777216 ∧ tb ρ fun e => ∃ y, e = .str y ∧ Q (f x y)
variable {apos cpos : Pos}
theorem de_starts (ha : DE X a ta) (hb : DE X b tb) (hbase : attributeBase a "startswith" X.env (eval a X.env) = eval a X.env := by rfl)
    (hfew : ((backTo cpos (starEach [b] X.env)).all (fun x => !x.1) && (backToKw cpos (keywordEach [] X.env)).all (fun x => x.1.isSome)
      && decide ([b].length + ([] : List Keyword).length + (if ([] : List Keyword).isEmpty then 0 else 1) < 30)) = true := by rfl)
    (hline : (apos.endLine == cpos.line) = true := by rfl) (hs : starEach [b] X.env = (false, eval b X.env) :: starEach [] X.env := by rfl) (hpl : (backTo cpos (starEach [] X.env)).any (·.1) = false := by rfl) :
    DE X (.Call (.Attribute a "startswith" apos) [b] [] cpos) (dMt (fun x y => .bl (Txt.startswith x y)) ta tb) := by
  obtain ⟨te, p1, l1⟩ := ha
  obtain ⟨tf, p2, l2⟩ := hb
  refine ⟨_, pe_bm PySem.F.plainAttrs_str PySem.F.slot_str_startswith PySem.F.type_str_startswith mt_starts p1 (pa_cons p2 pa_nil hs) hbase hfew hline hs hpl, fun ρ σ H Q r h R k => l1 ρ σ H _ r h _ fun d v H1 s1 i1 ⟨x, ed, hl, q1⟩ => ?_⟩
  subst ed
  obtain rfl := is_str.mp i1
  refine ⟨rfl, l2 ρ σ H1 _ (r.mono s1) q1 _ fun e u H2 s2 i2 ⟨y, ee, q2⟩ => ?_⟩
  subst ee
  obtain rfl := is_str.mp i2
  exact ⟨x, y, rfl, rfl, k _ _ H2 (s1.trans s2) (is_bl.mpr rfl) q2⟩
theorem de_rstripC (ha : DE X a ta) (hb : DE X b tb) (hbase : attributeBase a "rstrip" X.env (eval a X.env) = eval a X.env := by rfl)
    (hfew : ((backTo cpos (starEach [b] X.env)).all (fun x => !x.1) && (backToKw cpos (keywordEach [] X.env)).all (fun x => x.1.isSome)
      && decide ([b].length + ([] : List Keyword).length + (if ([] : List Keyword).isEmpty then 0 else 1) < 30)) = true := by rfl)
    (hline : (apos.endLine == cpos.line) = true := by rfl) (hs : starEach [b] X.env = (false, eval b X.env) :: starEach [] X.env := by rfl) (hpl : (backTo cpos (starEach [] X.env)).any (·.1) = false := by rfl) :
    DE X (.Call (.Attribute a "rstrip" apos) [b] [] cpos) (dMt (fun x y => .str (Txt.rstripChars x y)) ta tb) := by
  obtain ⟨te, p1, l1⟩ := ha
  obtain ⟨tf, p2, l2⟩ := hb
  refine ⟨_, pe_bm PySem.F.plainAttrs_str PySem.F.slot_str_rstrip PySem.F.type_str_rstrip mt_rstripC p1 (pa_cons p2 pa_nil hs) hbase hfew hline hs hpl, fun ρ σ H Q r h R k => l1 ρ σ H _ r h _ fun d v H1 s1 i1 ⟨x, ed, hl, q1⟩ => ?_⟩
  subst ed
  obtain rfl := is_str.mp i1
  refine ⟨rfl, l2 ρ σ H1 _ (r.mono s1) q1 _ fun e u H2 s2 i2 ⟨y, ee, q2⟩ => ?_⟩
  subst ee
  obtain rfl := is_str.mp i2
  exact ⟨x, y, rfl, rfl, by rw [sizeLine_eq]; exact hl, k _ _ H2 (s1.trans s2) (is_str.mpr rfl) q2⟩
def dSlT (te : DTE) (tl th : DTO) : DTE := fun ρ Q => te ρ fun d => tl ρ fun l => th ρ fun u => ∃ x, d = .str x ∧ x.length ≤ 16777216 ∧ Q (.str (Txt.slice x l u))
theorem de_sliceT {lo hi : Option Expr} {tl th : DTO} {p2 : Pos} (ha : DE X a ta) (hl : DO X lo tl) (hu : DO X hi th) : DE X (.Subscript a (.Slice lo hi none p2) pos) (dSlT ta tl th) := by
  obtain ⟨te, p1, l1⟩ := ha
  obtain ⟨tf, p2, l2⟩ := hl
  obtain ⟨tg, p3, l3⟩ := hu
  refine ⟨_, pe_slice sl_str p1 p2 p3, fun ρ σ H Q r h R k => l1 ρ σ H _ r h _ fun d v H1 s1 i1 q1 => l2 ρ σ H1 _ (r.mono s1) q1 _ fun l H2 s2 q2 => l3 ρ σ H2 _ (r.mono (s1.trans s2)) q2 _ fun u H3 s3 ⟨x, ed, hx, q⟩ => ?_⟩
  subst ed
  exact ⟨x, is_str.mp i1, by rw [sizeLine_eq]; exact hx, k _ _ H3 ((s1.trans s2).trans s3) (is_str.mpr rfl) q⟩
end
end OD
namespace L2
open PySem PySem.Spec PyProof.Rows
def ItS (z : Str) : It := ⟨fun i _ => i < z.cps.size, fun i H x H' => H' = H ∧ ∃ c, z.cps[i]? = some c ∧ x = .str ⟨#[c]⟩, fun i _ => z.cps.size ≤ i⟩
theorem turn_ascii {P : Program} {w : World} {K : PySem.W.Frag} {tg : Expr} (it : Addr) (z : Str) (t : Tok) : Turn P w K tg (ItS z) [it] it (fun i h => h.IsStrIter it "str_ascii_iterator" z t i) where
  mem := by simp
  obj := fun i h st b hb => by
    have e : b = it := by simpa using hb
    subst e
    obtain ⟨o, e, c, d⟩ := st
    exact ⟨o, e, fun v z => by rw [d] at z; cases z⟩
  keep := fun i h h' st k => by
    obtain ⟨o, e, r⟩ := st
    exact ⟨o, k it (by simp) o e, r⟩
  item := by
    intro X hP hw hK hc i pins s σ H E I hf st hg
    subst hP hw hK
    obtain ⟨f0, f1, f2, f3, f4, f5⟩ := hf it (by simp)
    have hg : i < z.cps.size := hg
    have W := Walks.strAscii (prog := X.prog) (w := X.w) (I.ok.hd hc) it z t
    refine W.item i s _ _ hg st fun v h' tk hv st' kk => ?_
    obtain ⟨c, u, ec, rfl⟩ := hv
    have I1 : Inv X pins σ H { s with heap := h', toks := tk } := I.turned (fun b o hb e => kk b o (by simpa using hb) e) f0 f1 f3 f4 f5
    obtain ⟨o, e, cl, d⟩ := id st'
    exact ⟨_, rfl, go_of (s := { s with heap := h', toks := tk }) e cl d (by decide) ⟨.str ⟨#[c]⟩, H, I1, ⟨u, rfl⟩, ⟨rfl, c, ec, rfl⟩, st', fun b hb => (hf b hb).1⟩⟩
  done := by
    intro X hP hw hK hc i pins s σ H E I hf st hg
    subst hP hw hK
    obtain ⟨f0, f1, f2, f3, f4, f5⟩ := hf it (by simp)
    have hg : z.cps.size ≤ i := hg
    exact wpAny_pyNext_ascii_end (I.ok.hd hc) st (by simp; omega) fun h' eb => ⟨rfl, I.turned (t' := s.toks) (fun b o hb e => eb b o hb e) f0 f1 f3 f4 f5⟩
  self := fun _ _ _ _ _ st h => wpAny_pyIter_striter_ascii st h
section
variable {X : Cx} {tg : Expr}
def iTxt (tl : TE) : TI := fun σ H R => tl σ H fun v H1 => ∃ z, v = .str z ∧ z.cps.all (· < 128) = true ∧ R (ItS z) H1
theorem pi_txt {l : Expr} {tl : TE} (hl : PE X l tl) : PI X tg l (iTxt tl) := by
  intro pins s σ H R I h
  refine thn (hl pins s σ H _ I h) fun v s1 ⟨x, H1, I1, r1, q1⟩ => ?_
  obtain ⟨z, e, ha, q⟩ := q1
  subst e
  obtain ⟨t, rfl⟩ := r1
  refine wpAny_pyIter_ascii ha ?_
  refine ⟨s1.heap.objs.size, [s1.heap.objs.size], _, _, H1, rfl, I1.kept (t' := s1.toks) fun b o e => Heap.get?_push_of_some _ e, turn_ascii _ z t, ⟨_, Heap.get?_push_size _ rfl, rfl, rfl⟩, fun b hb => ?_, q⟩
  have e : b = s1.heap.objs.size := by simpa using hb
  subst e
  exact I1.fpOk (Nat.le_refl _) (I1.hok.fresh (Nat.le_refl _))
theorem for_txt {z : Str} {g : TG} {tb : TS} {D : Ends} {σ : St} {H : Hp} (Pv : Nat → St → Hp → Prop) (h0 : Pv 0 σ H)
    (hs : ∀ i c σ H, z.cps[i]? = some c → Pv i σ H → g (.str ⟨#[c]⟩) σ H fun σ2 H2 => tb { D with nx := Pv (i + 1), ct := Pv (i + 1), bk := D.nx } σ2 H2) (hd : ∀ σ H, Pv z.cps.size σ H → D.nx σ H) :
    ∃ W : Nat → Nat → St → Hp → Prop, (∃ m, W 0 m σ H) ∧ ∀ i m σ H, W i m σ H →
      ((ItS z).stop i H ∧ D.nx σ H) ∨ ((ItS z).go i H ∧ ∃ N : St → Hp → Prop, (∀ σ' H', N σ' H' → ∃ m', m' < m ∧ W (i + 1) m' σ' H') ∧ ∀ x H', (ItS z).yld i H x H' → g x σ H' fun σ2 H2 => tb { D with nx := N, ct := N, bk := D.nx } σ2 H2) := by
  refine ⟨fun i m σ H => m = z.cps.size - i ∧ i ≤ z.cps.size ∧ Pv i σ H, ⟨z.cps.size, by simp, Nat.zero_le _, h0⟩, ?_⟩
  rintro i m σ H ⟨rfl, hi, p⟩
  by_cases hlt : i < z.cps.size
  · refine .inr ⟨hlt, Pv (i + 1), fun σ' H' p' => ⟨z.cps.size - (i + 1), by omega, rfl, hlt, p'⟩, fun x H' y => ?_⟩
    obtain ⟨e, c, ec, y⟩ := y
    subst e y
    exact hs i c σ _ ec p
  · have e : i = z.cps.size := by omega
    subst e
    exact .inl ⟨Nat.le_refl _, hd σ H p⟩
end
end L2
namespace OD
open PySem PySem.Spec PyProof.Rows L2
section
variable {X : Cx} {fr : Fr} {te : DTE} {pos : Pos}
def dForT (j : Nat) (te : DTE) (tb : DTS) : DTS := fun D ρ => te ρ fun d => ∃ (x : Str) (Pv : Nat → DS → Prop), d = .str x ∧ x.cps.all (· < 128) = true ∧ Pv 0 ρ ∧
  (∀ i c ρ', x.cps[i]? = some c → Pv i ρ' → tb { D with nx := Pv (i + 1), ct := Pv (i + 1), bk := D.nx } (ρ'.set j (.some (.str ⟨#[c]⟩)))) ∧ ∀ ρ', Pv x.cps.size ρ' → D.nx ρ'
theorem ds_forT {j : Nat} {x : Str} {a : Expr} {body : List Stmt} {tb : DTS} {px : Pos} (hc : X.calm = true) (hN : X.N.Nodup) (hi : X.N[j]? = some x) (hx : Loc X.env.scope x) (hp : PassesOwn (model X.prog X.w) X.A X.env X.xe)
    (h : DE X a te) (hb : DSs X fr body tb) (hs : ∀ x, foldedSetIterable a X.env x = pure x := by intro _; rfl)
    (hf : X.fn x = true ∨ X.env.scope.names.lookup x = some .local := by first | exact .inl rfl | exact .inr rfl | assumption) : DSt X fr (.For (.Name x px) a body [] pos) (dForT j te tb) := by
  obtain ⟨tt, p, l⟩ := h
  obtain ⟨tbs, p2, l2⟩ := hb
  refine ⟨_, ps_for hp hc (pi_txt p) (pg_name hN hi hx hf) p2 hs, fun W0 G ρ σ W D D' at_ s h => l ρ σ W _ at_.rl h _ fun d v W1 s1 i1 ⟨z, Pv, ed, hz, h0, ht, hd⟩ => ?_⟩
  subst ed
  have hg : Same G W1.g := at_.gs.trans s1.g
  refine ⟨z, is_str.mp i1, hz, for_txt (fun i => InL X.K (Zx X) W0 W1 (Pv i)) ⟨ρ, W1, rfl, (at_.step s1).now, h0⟩ ?_ ?_⟩
  · rintro i c σ' _ ec ⟨ρ', W2, rfl, a2, hp2⟩
    exact l2 W0 W1.g _ _ W2 { D with nx := Pv (i + 1), ct := Pv (i + 1), bk := D.nx } _ (a2.set j (is_str.mpr rfl)) (sim_loop s hg) (ht i c ρ' ec hp2)
  · rintro σ' _ ⟨ρ', W2, rfl, a2, hp2⟩
    exact s.nx ρ' σ' W2 (a2.weak hg) (hd ρ' hp2)
end
end OD

namespace OD
open PySem
local macro_rules | `(tactic| walk_at "ws") => `(tactic| any_goals (first | assumption | wp_step))
def isDg (c : Nat) : Prop := 48 ≤ c ∧ c ≤ 57
def dgs (l : List Nat) : Nat := l.foldl (fun a c => a * 10 + (c - 48)) 0
def dgVal : List Nat → Int
  | 45 :: r => -(dgs r : Int)
  | l => dgs l
def Numl (l : List Nat) : Prop := l = [48] ∨ ∃ c r, 49 ≤ c ∧ c ≤ 57 ∧ (∀ x ∈ r, isDg x) ∧ (l = c :: r ∨ l = 45 :: c :: r)
theorem Numl.mem {l : List Nat} (h : Numl l) : ∀ c ∈ l, 45 ≤ c ∧ c ≤ 57 := by
  rcases h with rfl | ⟨c, r, c1, c2, hr, rfl | rfl⟩
  · intro c hc
    rw [List.mem_singleton.mp hc]; decide
  · intro x hx
    rcases List.mem_cons.mp hx with rfl | hx
    · omega
    · have := hr x hx
      unfold isDg at this; omega
  · intro x hx
    rcases List.mem_cons.mp hx with rfl | hx
    · decide
    rcases List.mem_cons.mp hx with rfl | hx
    · omega
    · have := hr x hx
      unfold isDg at this; omega
theorem ten {c : Nat} (h : isDg c) : c = 48 ∨ c = 49 ∨ c = 50 ∨ c = 51 ∨ c = 52 ∨ c = 53 ∨ c = 54 ∨ c = 55 ∨ c = 56 ∨ c = 57 := by
  unfold isDg at h; omega
theorem takeWhile_all {p : Nat → Bool} : ∀ {l : List Nat}, (∀ x ∈ l, p x = true) → l.takeWhile p = l
  | [], _ => rfl
  | c :: r, h => by rw [List.takeWhile_cons, if_pos (h c List.mem_cons_self), takeWhile_all fun x hx => h x (List.mem_cons_of_mem _ hx)]
theorem fold_dg {f : Array Nat × Bool → Nat → Option (Array Nat × Bool)} (hf : ∀ a b c, isDg c → f (a, b) c = some (a.push (c - 48), true)) : ∀ (l : List Nat) (a : Array Nat) (b : Bool), (∀ x ∈ l, isDg x) → l.foldlM f (a, b) = some (a ++ (l.map (· - 48)).toArray, b || !l.isEmpty)
  | [], a, b, _ => by simp
  | c :: r, a, b, h => by
    rw [List.foldlM_cons, hf a b c (h c List.mem_cons_self)]
    show r.foldlM f (a.push (c - 48), true) = _
    rw [fold_dg hf r _ _ fun x hx => h x (List.mem_cons_of_mem _ hx)]
    simp
theorem drop_last {p : Nat → Bool} (hp : ∀ c, isDg c → p c = false) : ∀ (l : List Nat), (∀ x ∈ l, isDg x) → l ≠ [] → (l.reverse.dropWhile p).reverse = l := fun l h hn => by
  cases e : l.reverse with
  | nil => simp at e; exact absurd e hn
  | cons c r =>
    rw [List.dropWhile_cons, hp c (h c (by rw [← List.mem_reverse, e]; exact List.mem_cons_self))]
    simp only [Bool.false_eq_true, if_false]
    rw [← e, List.reverse_reverse]
theorem numl_core {N : Type} {R inv lib : N} {tl : Nat → N} {val : Int → N} {p : Nat → Bool} {f : Array Nat × Bool → Nat → Option (Array Nat × Bool)} {g : Array Nat × Bool → Option (Array Nat)} {cs : List Nat} {neg : Bool}
    (hR : R = (match (cs.reverse.dropWhile p).reverse.foldlM f (#[], false) >>= g with
      | none => inv
      | some ds => if (![2, 4, 8, 16, 32].contains 10 && 0 != 0 && decide (ds.size > 0)) = true then tl ds.size else if (10 == 10 && decide (ds.size > 6000)) = true then lib else
        if (false && ds.foldl (fun acc d => acc * 10 + d) 0 != 0) = true then inv else val (if neg = true then -((ds.foldl (fun acc d => acc * 10 + d) 0 : Nat) : Int) else ((ds.foldl (fun acc d => acc * 10 + d) 0 : Nat) : Int))))
    (hf : ∀ a b c, isDg c → f (a, b) c = some (a.push (c - 48), true)) (hp : ∀ c, isDg c → p c = false) (hg : ∀ a, g (a, true) = some a) (hd : ∀ x ∈ cs, isDg x) (hn : cs ≠ []) (hl : cs.length ≤ 640) :
    R = val (if neg = true then -(dgs cs : Int) else dgs cs) := by
  rw [hR, drop_last hp cs hd hn, fold_dg hf cs _ _ hd]
  have e : (false || !cs.isEmpty) = true := by cases cs <;> first | rfl | exact absurd rfl hn
  rw [e]
  show (match g (#[] ++ (cs.map (· - 48)).toArray, true) with | none => inv | some ds => _) = _
  rw [hg]
  have sz : (#[] ++ (cs.map (· - 48)).toArray : Array Nat).size = cs.length := by simp
  have fo : (#[] ++ (cs.map (· - 48)).toArray : Array Nat).foldl (fun acc d => acc * 10 + d) 0 = dgs cs := by simp [dgs, List.foldl_map]
  show (if (![2, 4, 8, 16, 32].contains 10 && 0 != 0 && decide ((#[] ++ (cs.map (· - 48)).toArray : Array Nat).size > 0)) = true then _ else _) = _
  rw [if_neg (by simp), if_neg (by rw [sz]; simp; omega), if_neg (by simp), fo]
theorem meets_int_new_str (x : Str) (t : Tok) (hx : Numl x.cps.toList) (hl : x.cps.toList.length ≤ 640) :
    Meets (Builtin.«int.__new__» ⟨[.type "int", .str x t], []⟩) (Made.int (dgVal x.cps.toList)).spec :=
  Meets.of_wp fun prog w A R s h => by
    obtain ⟨hp, g, d, tk, os⟩ := s
    have hm := hx.mem
    have ha : x.cps.all (· < 128) = true := by
      rw [← Array.all_toList, List.all_eq_true]
      intro c hc
      have := hm c hc
      exact decide_eq_true (by omega)
    have hz : x.cps.toList.takeWhile (· != 0) = x.cps.toList := takeWhile_all fun c hc => by
      have := hm c hc
      simp
      omega
    clear hm
    have f1 := F.conv_sub_int
    have f2 := F.madeHere_int
    have f3 : typeLookup (.type "str") "__int__" = pure none := by rw [typeLookup_type, builtinLookup_eq_fast]; kernel_rfl
    have f4 : typeLookup (.type "str") "__index__" = pure none := by rw [typeLookup_type, builtinLookup_eq_fast]; kernel_rfl
    have f5 : typeLookup (.type "str") "__trunc__" = pure none := by rw [typeLookup_type, builtinLookup_eq_fast]; kernel_rfl
    iterate 48 walk_at "ws"
    simp only [ha, if_true]
    repeat walk_at "ws"
    simp only [hz, hl, if_true]
    repeat walk_at "ws"
    generalize x.cps.toList = l at *
    rcases hx with rfl | ⟨c, r, c1, c2, hr, rfl | rfl⟩
    · split
      · rename_i heq
        injection heq
      · rename_i heq
        injection heq
      · rename_i heq
        injection heq with heq
        subst heq
        repeat walk_at "ws"
        exact ⟨_, rfl, h⟩
      · rename_i heq
        injection heq
    all_goals
      have nn : c = 49 ∨ c = 50 ∨ c = 51 ∨ c = 52 ∨ c = 53 ∨ c = 54 ∨ c = 55 ∨ c = 56 ∨ c = 57 := by omega
      have hd : ∀ x ∈ c :: r, isDg x := fun x hx => by
        rcases List.mem_cons.mp hx with rfl | hx
        · exact ⟨by omega, by omega⟩
        · exact hr x hx
      have hl' : (c :: r).length ≤ 640 := by simp only [List.length_cons] at hl ⊢; omega
    · have hv : (if false = true then -(dgs (c :: r) : Int) else dgs (c :: r)) = dgVal (c :: r) := by
        rcases nn with rfl | rfl | rfl | rfl | rfl | rfl | rfl | rfl | rfl <;> rfl
      split
      all_goals
        rename_i heq
        have e := (numl_core (neg := false) (cs := c :: r) (by rcases nn with rfl | rfl | rfl | rfl | rfl | rfl | rfl | rfl | rfl <;> rfl) (fun a b c h => by rcases ten h with rfl | rfl | rfl | rfl | rfl | rfl | rfl | rfl | rfl | rfl <;> rfl) (fun c h => by rcases ten h with rfl | rfl | rfl | rfl | rfl | rfl | rfl | rfl | rfl | rfl <;> rfl) (fun a => rfl) hd (fun z => nomatch z) hl').symm.trans heq
      · injection e
      · injection e
      · injection e with e
        rw [hv] at e
        subst e
        repeat walk_at "ws"
        exact ⟨_, rfl, h⟩
      · injection e
    · split
      all_goals
        rename_i heq
        have e := (numl_core (neg := true) (cs := c :: r) (by rcases nn with rfl | rfl | rfl | rfl | rfl | rfl | rfl | rfl | rfl <;> rfl) (fun a b c h => by rcases ten h with rfl | rfl | rfl | rfl | rfl | rfl | rfl | rfl | rfl | rfl <;> rfl) (fun c h => by rcases ten h with rfl | rfl | rfl | rfl | rfl | rfl | rfl | rfl | rfl | rfl <;> rfl) (fun a => rfl) hd (fun z => nomatch z) hl').symm.trans heq
      · injection e
      · injection e
      · injection e with e
        subst e
        repeat walk_at "ws"
        exact ⟨_, rfl, h⟩
      · injection e
end OD
namespace L2
open PySem PySem.Spec PyProof.Rows
section
variable {X : Cx}
theorem call_int_str : CallR X (.type "int") (fun xs H Q => ∃ z, xs = [.str z] ∧ OD.Numl z.cps.toList ∧ z.cps.toList.length ≤ 640 ∧ Q (.int (OD.dgVal z.cps.toList)) H) := by
  intro pins s σ H xs us Q I r h
  obtain ⟨z, rfl, hn, hl, q⟩ := h
  obtain ⟨t, rfl⟩ := r.oneS
  exact call_int_1 (OD.meets_int_new_str z t hn hl) ⟨rfl, .int _, H, I.tok _, ⟨_, rfl⟩, q⟩
theorem mt_zfill : MtR X "str.zfill" (fun x vs H Q => ∃ z i, x = .str z ∧ vs = [.int i] ∧ PadOk i = true ∧ z.length ≤ sizeLine ∧ Q (.str (Txt.zfill z i)) H) := by
  intro pins s σ H x vs v us Q I rx rv h
  obtain ⟨z, i, rfl, rfl, hp, hz, q⟩ := h
  obtain ⟨t, rfl⟩ := rx
  obtain ⟨u, rfl, t', rfl⟩ := vals1 rv
  exact call_gives PySem.F.slot_str_zfill (typeIs_str s z t) PySem.F.entry_str_zfill (PySem.F.args_str_zfill_2 _ _) (gives_str_zfill z i t t' (PadOk.parts hp).1 (PadOk.parts hp).2) (post_val_or_made (fits_zfilled (PadOk.parts hp).2) fun t2 k => ⟨.str _, H, I.tok _, ⟨_, rfl⟩, q⟩)
theorem vals_strs : ∀ {ts : List Str} {us : List Value}, Vals (ts.map V.str) us → ∃ l, us = strValues l ∧ l.map (·.1) = ts
  | [], us, h => by cases h; exact ⟨[], rfl, rfl⟩
  | x :: ts, us, h => by
    cases h with
    | cons r h =>
      obtain ⟨t, rfl⟩ := r
      obtain ⟨l, rfl, e⟩ := vals_strs h
      exact ⟨(x, t) :: l, rfl, by rw [List.map_cons, e]⟩
theorem mt_join : MtR X "str.join" (fun x vs H Q => ∃ z p ts, x = .str z ∧ vs = [.ref p] ∧ SqL X.K H p (ts.map V.str) ∧ JoinOk z ts = true ∧ Q (.str (Txt.join z ts)) H) := by
  intro pins s σ H x vs v us Q I rx rv h
  obtain ⟨z, p, ts, rfl, rfl, hq, hok, q⟩ := h
  obtain ⟨t, rfl⟩ := rx
  obtain ⟨u, rfl, ru⟩ := rv.one
  cases ru
  obtain ⟨its, r, pl, hz⟩ := I.list hq
  obtain ⟨l, rfl, rfl⟩ := vals_strs r
  exact SC.join pl.isList rfl hok fun t' k => ⟨.str _, H, I.tok _, ⟨_, rfl⟩, q⟩
theorem strs_vals : ∀ (tk : Nat) (ts : List Str), Vals (ts.map V.str) (strsFrom tk ts)
  | _, [] => .nil
  | tk, x :: r => .cons ⟨tk, rfl⟩ (strs_vals (tk + 1) r)
theorem mt_split : MtR X "str.split" (fun x vs H Q => ∃ z y, x = .str z ∧ vs = [.str y] ∧ (y.length == 0) = false ∧ z.length ≤ 100000 ∧ ∀ p, H p = none → Q (.ref p) (upd H p (.lst ((Txt.split z y).map V.str)))) := by
  intro pins s σ H x vs v us Q I rx rv h
  obtain ⟨z, y, rfl, rfl, hy, hz, q⟩ := h
  obtain ⟨t, rfl⟩ := rx
  obtain ⟨u, rfl⟩ := rv.oneS
  have hs : z.length ≤ sizeLine := by rw [sizeLine_eq]; omega
  have q := q _ I.fresh
  unfold Txt.split at q
  cases h1 : (decide (z.length < y.length) || decide (Builtin.Str.strKind z < Builtin.Str.strKind y))
  · rw [h1, if_neg Bool.false_ne_true] at q
    cases hf : (Builtin.Str.occurrences z y 0 z.length (z.length + 1)).isEmpty
    · rw [hf, if_neg Bool.false_ne_true] at q
      have hn : (Builtin.Str.partsBetween z (Builtin.Str.occurrences z y 0 z.length (z.length + 1)) y.length).length ≤ sizeLine := by
        rw [length_partsBetween, sizeLine_eq]
        have := StrLaws.occ_length_le z y 0 z.length (z.length + 1)
        omega
      refine call_meets PySem.F.slot_str_split (typeIs_str s z t) PySem.F.entry_str_split (PySem.F.args_str_split_2 _ _) (meets_str_split_sep z y t u h1 hy hf hs hn) ?_
      exact ⟨.ref _, _, I.lnew (strs_vals _ _) (by rw [List.length_map]; exact hn), rfl, q⟩
    · rw [hf, if_pos rfl] at q
      refine call_meets PySem.F.slot_str_split (typeIs_str s z t) PySem.F.entry_str_split (PySem.F.args_str_split_2 _ _) (meets_str_split_not_found z y t u h1 hy hf) ?_
      exact ⟨.ref _, _, I.lnew (its := [Value.str z t]) (t' := s.toks) (ys := [V.str z]) (.cons ⟨t, rfl⟩ .nil) (by rw [sizeLine_eq]; show 1 ≤ 16777216; decide), rfl, q⟩
  · rw [h1, if_pos rfl] at q
    refine call_meets PySem.F.slot_str_split (typeIs_str s z t) PySem.F.entry_str_split (PySem.F.args_str_split_2 _ _) (meets_str_split_cannot_occur z y t u h1) ?_
    exact ⟨.ref _, _, I.lnew (its := [Value.str z t]) (t' := s.toks) (ys := [V.str z]) (.cons ⟨t, rfl⟩ .nil) (by rw [sizeLine_eq]; show 1 ≤ 16777216; decide), rfl, q⟩
end
end L2
namespace OD
open PySem PySem.Spec PyProof.Rows L2
section
variable {X : Cx} {a b e : Expr} {ta tb t : DTE} {p pos p0 : Pos} {x : Str}
theorem de_gstrE {y : Str} (hg : Gl X x) (hm : ∃ tk, X.mg x = some (.str y tk)) (hd : (x == ("__debug__" : Str)) = false := by decide) : DE X (.Name x pos) (dC (.str y)) := by
  obtain ⟨tk, hm⟩ := hm
  exact de_gstr hg hm hd
def dIntS (ta : DTE) : DTE := fun ρ Q => ta ρ fun d => ∃ x : Str, d = .str x ∧ Numl x.cps.toList ∧ x.cps.toList.length ≤ 640 ∧ Q (.int (dgVal x.cps.toList))
theorem de_intS (hg : Gl X "int") (hm : X.mg "int" = none) (ha : DE X a ta) (hs : starEach [a] X.env = (false, eval a X.env) :: starEach [] X.env := by rfl) (hpl : (backTo pos (starEach [] X.env)).any (·.1) = false := by rfl) :
    DE X (.Call (.Name "int" p0) [a] [] pos) (dIntS ta) := by
  obtain ⟨te, p1, l1⟩ := ha
  refine ⟨_, pe_callTy call_int_str hg hm boot_intT (pa_cons p1 pa_nil hs) (by decide) (by decide) hs hpl, fun ρ σ H Q r h R k => l1 ρ σ H _ r h _ fun d v H1 s1 i1 ⟨x, ed, hn, hl, q⟩ => ?_⟩
  subst ed
  exact ⟨x, by rw [is_str.mp i1], hn, hl, k _ _ H1 s1 (is_int.mpr rfl) q⟩
variable {apos cpos : Pos}
def dZf (ta tb : DTE) : DTE := fun ρ Q => ta ρ fun d => ∃ x, d = .str x ∧ x.length ≤ 16777216 ∧ tb ρ fun e => ∃ i, e = .int i ∧ PadOk i = true ∧ Q (.str (Txt.zfill x i))
theorem de_zfill (ha : DE X a ta) (hb : DE X b tb) (hbase : attributeBase a "zfill" X.env (eval a X.env) = eval a X.env := by rfl)
    (hfew : ((backTo cpos (starEach [b] X.env)).all (fun x => !x.1) && (backToKw cpos (keywordEach [] X.env)).all (fun x => x.1.isSome)
      && decide ([b].length + ([] : List Keyword).length + (if ([] : List Keyword).isEmpty then 0 else 1) < 30)) = true := by rfl)
    (hline : (apos.endLine == cpos.line) = true := by rfl) (hs : starEach [b] X.env = (false, eval b X.env) :: starEach [] X.env := by rfl) (hpl : (backTo cpos (starEach [] X.env)).any (·.1) = false := by rfl) :
    DE X (.Call (.Attribute a "zfill" apos) [b] [] cpos) (dZf ta tb) := by
  obtain ⟨te, p1, l1⟩ := ha
  obtain ⟨tf, p2, l2⟩ := hb
  refine ⟨_, pe_bm PySem.F.plainAttrs_str PySem.F.slot_str_zfill PySem.F.type_str_zfill mt_zfill p1 (pa_cons p2 pa_nil hs) hbase hfew hline hs hpl, fun ρ σ H Q r h R k => l1 ρ σ H _ r h _ fun d v H1 s1 i1 ⟨x, ed, hl, q1⟩ => ?_⟩
  subst ed
  obtain rfl := is_str.mp i1
  refine ⟨rfl, l2 ρ σ H1 _ (r.mono s1) q1 _ fun e u H2 s2 i2 ⟨y, ee, hp, q2⟩ => ?_⟩
  subst ee
  obtain rfl := is_int.mp i2
  exact ⟨x, y, rfl, rfl, hp, by rw [sizeLine_eq]; exact hl, k _ _ H2 (s1.trans s2) (is_str.mpr rfl) q2⟩
def dJoin (ta tb : DTE) : DTE := fun ρ Q => ta ρ fun d => ∃ x, d = .str x ∧ tb ρ fun e => ∃ ts : List Str, listOf e = some (ts.map Dt.str) ∧ JoinOk x ts = true ∧ Q (.str (Txt.join x ts))
theorem all_strs {K : PySem.W.Frag} {H : Hp} : ∀ {ts : List Str} {xs : List V}, AllIs K H (ts.map Dt.str) xs → xs = ts.map V.str
  | [], xs, h => allIs_nil.mp h
  | x :: ts, xs, h => by
    obtain ⟨v, r, rfl, h1, h2⟩ := allIs_cons.mp h
    rw [all_strs h2, is_str.mp h1]
    rfl
theorem de_join (ha : DE X a ta) (hb : DE X b tb) (hbase : attributeBase a "join" X.env (eval a X.env) = eval a X.env := by rfl)
    (hfew : ((backTo cpos (starEach [b] X.env)).all (fun x => !x.1) && (backToKw cpos (keywordEach [] X.env)).all (fun x => x.1.isSome)
      && decide ([b].length + ([] : List Keyword).length + (if ([] : List Keyword).isEmpty then 0 else 1) < 30)) = true := by rfl)
    (hline : (apos.endLine == cpos.line) = true := by rfl) (hs : starEach [b] X.env = (false, eval b X.env) :: starEach [] X.env := by rfl) (hpl : (backTo cpos (starEach [] X.env)).any (·.1) = false := by rfl) :
    DE X (.Call (.Attribute a "join" apos) [b] [] cpos) (dJoin ta tb) := by
  obtain ⟨te, p1, l1⟩ := ha
  obtain ⟨tf, p2, l2⟩ := hb
  refine ⟨_, pe_bm PySem.F.plainAttrs_str PySem.F.slot_str_join PySem.F.type_str_join mt_join p1 (pa_cons p2 pa_nil hs) hbase hfew hline hs hpl, fun ρ σ H Q r h R k => l1 ρ σ H _ r h _ fun d v H1 s1 i1 ⟨x, ed, q1⟩ => ?_⟩
  subst ed
  obtain rfl := is_str.mp i1
  refine ⟨rfl, l2 ρ σ H1 _ (r.mono s1) q1 _ fun e u H2 s2 i2 ⟨ts, ee, hok, q2⟩ => ?_⟩
  obtain ⟨p, xs, rfl, h1, h2⟩ := list_is i2 ee
  obtain rfl := all_strs h2
  exact ⟨x, p, ts, rfl, rfl, h1, hok, k _ _ H2 (s1.trans s2) (is_str.mpr rfl) q2⟩
def dSplit (ta tb : DTE) : DTE := fun ρ Q => ta ρ fun d => ∃ x, d = .str x ∧ x.length ≤ 100000 ∧ tb ρ fun e => ∃ y, e = .str y ∧ (y.length == 0) = false ∧ Q (.lst ((Txt.split x y).map Dt.str))
theorem strs_all {K : PySem.W.Frag} {H : Hp} : ∀ ts : List Str, AllIs K H (ts.map Dt.str) (ts.map V.str)
  | [] => allIs_nil.mpr rfl
  | x :: ts => allIs_cons.mpr ⟨_, _, rfl, is_str.mpr rfl, strs_all ts⟩
theorem df_split (ha : DE X a ta) (hb : DE X b tb) (hbase : attributeBase a "split" X.env (eval a X.env) = eval a X.env := by rfl)
    (hfew : ((backTo cpos (starEach [b] X.env)).all (fun x => !x.1) && (backToKw cpos (keywordEach [] X.env)).all (fun x => x.1.isSome)
      && decide ([b].length + ([] : List Keyword).length + (if ([] : List Keyword).isEmpty then 0 else 1) < 30)) = true := by rfl)
    (hline : (apos.endLine == cpos.line) = true := by rfl) (hs : starEach [b] X.env = (false, eval b X.env) :: starEach [] X.env := by rfl) (hpl : (backTo cpos (starEach [] X.env)).any (·.1) = false := by rfl) :
    DF X (.Call (.Attribute a "split" apos) [b] [] cpos) (dSplit ta tb) := by
  obtain ⟨te, p1, l1⟩ := ha
  obtain ⟨tf, p2, l2⟩ := hb
  refine ⟨_, pe_bm PySem.F.plainAttrs_str PySem.F.slot_str_split PySem.F.type_str_split mt_split p1 (pa_cons p2 pa_nil hs) hbase hfew hline hs hpl, fun ρ σ H Q r h R k => l1 ρ σ H _ r h _ fun d v H1 s1 i1 ⟨x, ed, hl, q1⟩ => ?_⟩
  subst ed
  obtain rfl := is_str.mp i1
  refine ⟨rfl, l2 ρ σ H1 _ (r.mono s1) q1 _ fun e u H2 s2 i2 ⟨y, ee, hy, q2⟩ => ?_⟩
  subst ee
  obtain rfl := is_str.mp i2
  refine ⟨x, y, rfl, rfl, hy, hl, fun p hp => ?_⟩
  exact k _ p _ (H2.mine p _ (H2.sub.free hp)) ((s1.trans s2).trans (le_mine hp _)) ((s1.trans s2).h.free hp) upd_same (H2.sub.free hp) (strs_all _) q2
def optI : Option Int → Dt
  | none => .non
  | some i => .int i
def optV : Option Int → V
  | none => .non
  | some i => .int i
theorem all_opts {K : PySem.W.Frag} {H : Hp} : ∀ {os : List (Option Int)} {xs : List V}, AllIs K H (os.map optI) xs → xs = os.map optV
  | [], xs, h => allIs_nil.mp h
  | o :: os, xs, h => by
    obtain ⟨v, r, rfl, h1, h2⟩ := allIs_cons.mp h
    rw [all_opts h2]
    cases o with
    | none => rw [is_non.mp h1]; rfl
    | some i => rw [is_int.mp h1]; rfl
theorem flat_opts : ∀ os : List (Option Int), (os.map optV).all flatV = true
  | [] => rfl
  | o :: os => by rw [List.map_cons, List.all_cons, flat_opts os]; cases o <;> rfl
theorem inV_opts : ∀ os : List (Option Int), inV .non (os.map optV) = os.any Option.isNone
  | [] => rfl
  | o :: os => by
    have ih := inV_opts os
    unfold inV at ih ⊢
    rw [List.map_cons, List.any_cons, List.any_cons, ih]
    cases o <;> rfl
theorem o_inN : DOp X (compareOp .In) (fun d e Q => ∃ ds, ∃ os : List (Option Int), d = .non ∧ seqOf e = some ds ∧ ds = os.map optI ∧ Q (.bl (os.any Option.isNone))) := by
  refine ⟨_, op_in_seq, fun H x y d e Q i1 i2 q R k => ?_⟩
  obtain ⟨ds, os, rfl, e1, rfl, q⟩ := q
  obtain ⟨p, xs, rfl, h1, h2⟩ := seq_is i2 e1
  obtain rfl := all_opts h2
  obtain rfl := is_non.mp i1
  refine ⟨p, _, rfl, h1, rfl, flat_opts os, ?_⟩
  show R (.bl (inV .non (os.map optV))) H.h
  rw [inV_opts]
  exact k _ _ H (Le.refl H) (is_bl.mpr rfl) q
end
end OD

namespace PySem
open Sem (wp)
section
variable {A : Around} {R : Result → Shared → Prop} {s : Shared} {w : World} {prog : Program}
end
end PySem
namespace PySem
open Sem (wp)
section
variable {A : Around} {R : Result → Shared → Prop} {s : Shared} {w : World} {prog : Program}
end
end PySem
namespace L2
open PySem PySem.Spec PyProof.Rows
section
variable {X : Cx} {a : Expr} {p0 p1 pos pos1 : Pos}
end
end L2
namespace OD
open PySem PySem.Spec PyProof.Rows L2
section
variable {X : Cx} {a : Expr} {ta : DTE} {p0 p1 pos pos1 : Pos}
end
end OD
namespace PySem
open Sem (wp)
section
variable {A : Around} {R : Result → Shared → Prop} {s : Shared} {w : World} {prog : Program}
end
end PySem
namespace L2
open PySem PySem.Spec PyProof.Rows
section
variable {X : Cx}
end
end L2
namespace OD
open PySem PySem.Spec PyProof.Rows L2
section
variable {X : Cx}
end
end OD

namespace L2
open PySem PySem.Spec PyProof.Rows
structure Held (P : Program) (w : World) (stack : List Env) (H : Hp) (h0 : Heap) (H' : Hp) (e : Addr) (cls : Value) (L : Addr) (h : Heap) : Prop where
  ex : ∃ B a0, Heap.HeldW B stack e cls a0 L h ∧ (∀ b o, h0.get? b = some o → H b = none → b ∉ frs stack → B.get? b = some o) ∧ (∀ b o, h0.get? b = some o → b ∉ frs stack → ∃ o', B.get? b = some o') ∧ HOk P w H' B
  slot : ∀ b o, h0.get? b = some o → b ∈ frs stack → ∃ sl, h.get? b = some { o with slots := sl }
  free : ∀ b o, h0.get? b = some o → H b = none → H' b = none
  tups : ∀ b xs, H b = some (.tup xs) → H' b = some (.tup xs)
  frzs : ∀ b o u, H b = some (.frz o u) → H' b = some (.frz o u)
  tbls : ∀ b ps, H b = some (.tbl ps) → ∃ more, H' b = some (.tbl (ps ++ more))
  new : h0.get? e = none
theorem noteFrame_frame {e : Value} {env env' : Env} (h : env'.frame = env.frame) : noteFrame e env' = noteFrame e env := by
  unfold noteFrame PySem.frameOf
  rw [h]
theorem passOn_frame {α : Type} {what : String} {e : Value} {env env' : Env} (h : env'.frame = env.frame) : (PySem.passOn what e env' : Sem α) = PySem.passOn what e env := by
  unfold PySem.passOn
  rw [h]
section
variable {P : Program} {w : World} {stack : List Env} {H H' : Hp} {h0 h : Heap} {e L : Addr} {cls : Value}
theorem FunFrames.less {h h' B B' : Heap} (k : ∀ b, B.get? b = none → B'.get? b = none) : ∀ {l : List Env}, (∀ b ∈ l.filterMap (·.frame), h'.get? b = h.get? b) → h.FunFrames B l → h'.FunFrames B' l
  | [], _, _ => trivial
  | env :: rest, hk, ⟨h1, ⟨L, o, h2, h3, h4, h5⟩, h6⟩ => by
    have hm : L ∈ (env :: rest).filterMap (·.frame) := List.mem_filterMap.mpr ⟨env, List.mem_cons_self, h2⟩
    refine ⟨h1, ⟨L, o, h2, k L h3, (hk L hm).trans h4, h5⟩, FunFrames.less k (fun b hb => hk b ?_) h6⟩
    obtain ⟨x, x1, x2⟩ := List.mem_filterMap.mp hb
    exact List.mem_filterMap.mpr ⟨x, List.mem_cons_of_mem _ x1, x2⟩
theorem wpAny_passOn_heldW {α : Type} {M : Model} {A : Around} {E : Value → Shared → Prop} {s : Shared} {base : Heap} {l : List Env} {env : Env} {a0 : Value} {what : String} {Q : α → Shared → Prop} (hf : env.frame = some L) (hh : Heap.HeldW base l e cls a0 L s.heap)
    (hE : ∀ h', Heap.HeldW base l e cls a0 L h' → (∀ b o, s.heap.get? b = some o → (∀ vs, o.data ≠ .fields vs) → h'.get? b = some o) → E (.ref e) { s with heap := h' }) : wpAny M A (PySem.passOn what (.ref e) env : Sem α) Q E s := by
  obtain ⟨f1, f2, hl, oe, vs, T, oT, ts, he, hcls, hd, h1, hnT, hTe, hT, hdT, h3⟩ := hh
  have hsz3 : 3 < ts.size := (Array.getElem?_eq_some_iff.mp h3).1
  have other : ∀ b, b ≠ T → (s.heap.update T (Obj.mapFields (·.setIfInBounds 3 (rawInt L)))).get? b = s.heap.get? b := fun b hb => Heap.get?_update_other _ _ (Ne.symm hb)
  have noRecord : ∀ b o, s.heap.get? b = some o → (∀ vs, o.data ≠ .fields vs) → b ≠ T := fun b o hb hnf q => by
    rw [q, hT] at hb; injection hb with hb; subst hb; exact hnf ts hdT
  unfold PySem.passOn setFlight
  refine wpAny_bind (wpAny_field he hd h1 ?_)
  rw [if_neg (show ¬ ((Value.ref T == Value.none) = true) from by simp)]
  refine wpAny_bind (wpAny_bind (wpAny_field he hd h1 ?_))
  rw [if_pos (show (Value.ref T != Value.none) = true from by simp), hf]
  refine wpAny_setField hT hdT hsz3 (wpAny_throw (hE _ ?_ fun b o hb hnf => (other b (noRecord b o hb hnf)).trans hb))
  refine ⟨fun b o hbo => (other b fun q => by rw [q, hnT] at hbo; cases hbo).trans (f1 b o hbo), f2, hl.of_keeps fun b o hb hnf => ⟨o, (other b (noRecord b o hb hnf)).trans hb, rfl⟩, ?_⟩
  exact ⟨oe, vs, T, _, _, (other e (Ne.symm hTe)).trans he, hcls, hd, h1, hnT, hTe, Heap.get?_update_self _ hT (Obj.isFreed_of_fields (Obj.data_mapFields hdT _)), Obj.data_mapFields hdT _, by simp [hsz3]⟩
theorem HeldW.letGo {base h h' : Heap} {l : List Env} {a0 : Value} {C : Addr} (hh : Heap.HeldW base l e cls a0 L h) (hC : ∃ m, h.Ns C m) (hl : C ∉ l.filterMap (·.frame)) (sb : Heap.SameBut C h h') : Heap.HeldW (PySem.W.hideAll base [C]) l e cls a0 L h' := by
  obtain ⟨f1, f2, f3, oe, vs, T, oT, ts, he, hcls, hd, h1, hnT, hTe, hT, hdT, h3⟩ := hh
  obtain ⟨m, oC, es, ep, hoC, hdC, _⟩ := hC
  have notC : ∀ b o vs, h.get? b = some o → o.data = .fields vs → b ≠ C := fun b o vs hb hv z => by
    rw [z, hoC] at hb
    cases hb
    rw [hdC] at hv
    cases hv
  have hn : ∀ b, base.get? b = none → (PySem.W.hideAll base [C]).get? b = none := fun b z => by
    cases q : (PySem.W.hideAll base [C]).get? b with
    | none => rfl
    | some o => rw [PySem.W.of_hideAll _ q] at z; cases z
  refine ⟨fun b o q => ?_, hn e f2, FunFrames.less hn (fun b hb => sb.2 b fun z => hl (z ▸ hb)) f3, oe, vs, T, oT, ts, (sb.2 e (notC e oe vs he hd)).trans he, hcls, hd, h1, hn T hnT, hTe, (sb.2 T (notC T oT ts hT hdT)).trans hT, hdT, h3⟩
  have q' := PySem.W.of_hideAll _ q
  refine (sb.2 b fun z => ?_).trans (f1 b o q')
  rw [PySem.W.hideAll_none [C] (List.mem_singleton.mpr z)] at q
  cases q
end
section
variable {X : Cx} {pins : List (Addr × Obj)} {σ : St} {H H' : Hp} {s s' : Shared} {M : Model} {E : Value → Shared → Prop} {e : Addr} {cls : Value}
theorem held_leaves {Q : Unit → Shared → Prop} (I : Inv X pins σ H s) (hstk : X.stack = X.env :: X.outer) (hf : X.env.frame = some X.env.locals) (f : Held X.prog X.w X.stack X.H₀ X.s₀.heap H' e cls X.env.locals s'.heap)
    (hQ : ∀ h', Flies X.prog X.w X.outer X.H₀ X.s₀.heap H' e cls h' → Q () { s' with heap := h' }) : wpAny M X.A (leaving X.env (.ref e)) Q E s' := by
  have hfs : frs X.stack = X.env.locals :: frs X.outer := by rw [hstk]; unfold frs; rw [List.filterMap_cons, hf]
  have nst : ∀ b o, X.s₀.heap.get? b = some o → b ∉ frs X.outer → b ∉ frs X.stack := fun b o q nb z => by
    rw [hfs] at z
    rcases List.mem_cons.mp z with z | z
    · exact I.neL q z
    · exact nb z
  obtain ⟨B, a0, hh, k1, k2, k3⟩ := f.ex
  have hm := hh.2.2.1
  rw [hstk] at hh
  unfold leaving
  refine wpAny_bind (wpAny_noteFrame_againW hf hh.2.2.2 (wpAny_landsW hh fun h' hfl up => hQ h' ?_))
  obtain ⟨q1, q2, ⟨_, _, q3⟩, q4⟩ := hfl
  refine ⟨⟨B, a0, ⟨q1, q2, q3, q4⟩, fun b o q n nb => k1 b o q n (nst b o q nb), fun b o q nb => k2 b o q (nst b o q nb), k3⟩, fun b o q hb => ?_, f.free, f.tups, f.frzs, f.tbls, f.new⟩
  have hb' : b ∈ frs X.stack := by rw [hfs]; exact List.mem_cons_of_mem _ hb
  obtain ⟨sl, z⟩ := f.slot b o q hb'
  obtain ⟨_, ob, ho, hd⟩ := hm.mem hb'
  rw [z] at ho
  cases ho
  obtain ⟨sl', z'⟩ := up b _ z hd
  exact ⟨sl', z'⟩
end
end L2
namespace OD
open PySem PySem.Spec PyProof.Rows L2
section
variable {X : Cx} {pins pins1 : List (Addr × Obj)} {σ σ1 : L2.St} {H3 H1 H' : Hp} {s3 s1 s' : Shared} {scope : Scope} {x : Str} {fp : List Addr} {C a : Addr} {cls : Value}
theorem comp_held (I3 : Inv X pins σ H3 s3) (hex : X.ex = []) (hstk : X.stack = X.env :: X.outer) (hf : X.env.frame = some X.env.locals) (hfp : ∀ b ∈ fp, FpOk X pins H3 b) (I1 : Inv (cxComp X scope x C s3 H3 fp pins) pins1 σ1 H1 s1) (fl : Flies X.prog X.w X.stack H1 s1.heap H' a cls s'.heap) :
    C ∉ frs X.stack ∧ ∃ B a0, Heap.FlyingW B X.stack a cls a0 s'.heap ∧ (∃ m, ∀ h4, B.StaysIn h4 → h4.Ns C m) ∧ ∀ h4 h5 h6, Heap.HeldW B X.stack a cls a0 X.env.locals h4 → s'.heap.UpToSlots h4 → Heap.SameBut C h4 h5 → Heap.HeldW (PySem.W.hideAll B [C]) X.stack a cls a0 X.env.locals h6 →
      (∀ b o, h5.get? b = some o → (∀ vs, o.data ≠ .fields vs) → h6.get? b = some o) → Held X.prog X.w X.stack X.H₀ X.s₀.heap H' a cls X.env.locals h6 := by
  obtain ⟨B, a0, flW, k1, k2, k3⟩ := fl.ex
  have nC : C ∉ frs X.stack := fun z => by
    obtain ⟨_, ob, ho, _⟩ := I3.stack.mem z
    exact absurd (Nat.lt_of_lt_of_le (Heap.lt_size ho) (show s3.heap.objs.size ≤ C from I1.ok.above)) (Nat.lt_irrefl _)
  refine ⟨nC, B, a0, flW, ?_, fun h4 h5 h6 _ up sb hh6 kp => ?_⟩
  · obtain ⟨m, ⟨o, es, ep, ho, hdt, hm⟩, _⟩ := I1.loc
    exact ⟨m, fun h4 st => ⟨o, es, ep, st C o (k1 C o ho I1.free nC), hdt, hm⟩⟩
  have hfs : frs X.stack = X.env.locals :: frs X.outer := by rw [hstk]; unfold frs; rw [List.filterMap_cons, hf]
  have nx : ∀ b, b ∉ X.ex := fun b z => by rw [hex] at z; cases z
  have sub : ∀ b, b ∉ frs X.stack → b ∉ frs X.outer := fun b nb z => nb (by rw [hfs]; exact List.mem_cons_of_mem _ z)
  have nfp : ∀ b o, X.s₀.heap.get? b = some o → b ∉ fp := fun b o q hb => by
    obtain ⟨_, _, _, h4, _⟩ := hfp b hb
    rcases h4 with h4 | h4
    · exact nx b h4
    · exact absurd (Heap.lt_size q) (Nat.not_lt.mpr h4)
  have ab : s3.heap.objs.size ≤ C := I1.ok.above
  have neC : ∀ b o, s3.heap.get? b = some o → b ≠ C := fun b o q => Nat.ne_of_lt (Nat.lt_of_lt_of_le (Heap.lt_size q) ab)
  have hid : ∀ b o, B.get? b = some o → b ≠ C → (PySem.W.hideAll B [C]).get? b = some o := fun b o q n => PySem.W.hideAll_get _ q fun z => n (List.mem_singleton.mp z)
  have fC : H' C = none := by
    obtain ⟨m, ⟨o, _, _, ho, _⟩, _⟩ := I1.loc
    exact fl.free C o ho I1.free
  refine ⟨⟨_, a0, hh6, fun b o q n nb => ?_, fun b o q nb => ?_, ?_⟩, fun b o q hb => ?_, fun b o q n => ?_, fun b xs q => fl.tups b xs (I1.base.tups b xs (I3.base.tups b xs q)), fun b o u q => fl.frzs b o u (I1.base.frzs b o u (I3.base.frzs b o u q)), fun b ps q => ?_, ?_⟩
  · have q3 := I3.base.keep b o q n (sub b nb) (nx b)
    have n3 := I3.base.free b o q n (nx b)
    have q1 := I1.base.keep b o q3 n3 nb (nfp b o q)
    have n1 := I1.base.free b o q3 n3 (nfp b o q)
    exact hid b o (k1 b o q1 n1 nb) (neC b o q3)
  · obtain ⟨o1, q3⟩ := I3.base.there b o q (nx b)
    obtain ⟨o2, q1⟩ := I1.base.there b o1 q3 (nfp b o q)
    obtain ⟨o3, z⟩ := k2 b o2 q1 nb
    exact ⟨o3, hid b o3 z (neC b o1 q3)⟩
  · exact k3.part fun b u hb q => hid b u q fun z => hb (z ▸ fC)
  · have hb2 : b ∈ frs X.outer := by
      rw [hfs] at hb
      rcases List.mem_cons.mp hb with z | z
      · exact absurd z (I3.neL q)
      · exact z
    obtain ⟨l1, q3⟩ := I3.base.slot b o q (I3.ok.frf b hb2) hb2 (nx b)
    obtain ⟨l2, q1⟩ := I1.base.slot b _ q3 (I3.stkFree b hb) hb (nfp b o q)
    obtain ⟨l3, q2⟩ := fl.slot b _ q1 hb
    obtain ⟨_, ob, ho, hd⟩ := flW.2.2.1.mem hb
    rw [q2] at ho
    cases ho
    obtain ⟨l4, q4⟩ := up b _ q2 hd
    exact ⟨l4, kp b _ ((sb.2 b (neC b _ q3)).trans q4) hd⟩
  · obtain ⟨o1, q3⟩ := I3.base.there b o q (nx b)
    obtain ⟨o2, q1⟩ := I1.base.there b o1 q3 (nfp b o q)
    exact fl.free b o2 q1 (I1.base.free b o1 q3 (I3.base.free b o q n (nx b)) (nfp b o q))
  · obtain ⟨m1, e1⟩ := I3.base.tbls b ps q
    obtain ⟨m2, e2⟩ := I1.base.tbls b _ e1
    obtain ⟨m3, e3⟩ := fl.tbls b _ e2
    exact ⟨m1 ++ (m2 ++ m3), by rw [e3]; simp only [Array.append_assoc]⟩
  · cases q : X.s₀.heap.get? a with
    | none => rfl
    | some o =>
      obtain ⟨o1, q3⟩ := I3.base.there a o q (nx a)
      obtain ⟨o2, q1⟩ := I1.base.there a o1 q3 (nfp a o q)
      rw [fl.new] at q1; cases q1
end
def XOh (X : Cx) (C : Addr) (H' : Hp) : Prop := ∀ (pins : List (Addr × Obj)) (σ : L2.St) (H : Hp) (s : Shared) (a : Addr) (s' : Shared), Inv X pins σ H s → s'.os = s.os → AllBare s'.gens → Held X.prog X.w X.stack X.H₀ X.s₀.heap H' a (.ref C) X.env.locals s'.heap → X.xe (.ref a) s'
def RzH (X : Cx) (C : Addr) : Prop := Rz X C ∧ ∀ H', Same (Zx X) H' → XOh X C H'
section
variable {P : Program} {w : World} {K : PySem.W.Frag} {mg : Str → Option Value} {base : Heap} {N : List Str} {qual : Str} {scope : Scope} {f C : Addr} {cd : Value} {A : Around} {outer : List Env} {s : Shared} {H H1 : Hp} {E : XK}
theorem rzH_of (h : ∀ H', Same H H' → E (.ref C) none H') : RzH (cxOf (CX1 P w) P w K mg base N qual scope f cd A outer s H E) C := ⟨rz_of h, fun H' z pins σ H2 s2 a s' I os bare fl => by
  rw [zx_def] at z
  exact held_leaves (X := cxOf (CX1 P w) P w K mg base N qual scope f cd A outer s H E) I rfl rfl fl fun h' fl' => ⟨a, C, H', rfl, os.trans I.os, bare, fl', h H' z⟩⟩
end
abbrev TEX := L2.St → Hp → VK → XK → Prop
def PEX (X : Cx) (e : Expr) (t : TEX) : Prop := ∀ (pins : List (Addr × Obj)) (s : Shared) (σ : L2.St) (H : Hp) (Q : VK) (E : XK), Inv X pins σ H s → t σ H Q E → wpAny (model X.prog X.w) X.A (eval e X.env) (EP X pins σ Q) (XPx X pins σ E) s
theorem pex_call {X : Cx} {k : Nat} {f : Addr} {fd : FuncData} {ps : List Str} {sp : Sp} {x : Str} {p pos : Pos} {e : Expr} {es : List Expr} {t : TA} (F : FnOk X.prog X.w X.K X.mg X.base (CX1 X.prog X.w) k f fd ps sp) (hr : Room k X.A) (hg : Gl X x) (hm : X.mg x = some (.ref f)) (hk : PySem.W.keepIn X.K (.ref f) = true) (hb : Binds X.K fd ps [])
    (ha : PA X.nox (e :: es) t) (hdb : (x == ("__debug__" : Str)) = false := by decide) (he : starEach (e :: es) X.env = (false, eval e X.env) :: starEach es X.env := by rfl) (hpl : (backTo pos (starEach es X.env)).any (·.1) = false := by rfl) :
    PEX X (.Call (.Name x p) (e :: es) [] pos) (fun σ H Q E => t σ H fun vs H1 => sp vs H1 Q E) := fun _ _ _ _ _ _ I h => call_x F hr hg hm hk hb ha I h hdb he hpl
def rCompX (K : PySem.W.Frag) (te : TEX) (Q : V → Hp → Prop) (E : XK) : It → Hp → Prop := fun J H1 => ∃ a xs, J = Itl K a ∧ SqL K H1 a xs ∧ xs.length < sizeLine ∧ ∀ D, H1 D = none → ∃ Pv : Nat → List V → Hp → Prop,
  Pv 0 [] (upd H1 D (.lst [])) ∧ (∀ i ys H2, i ≤ xs.length → Pv i ys H2 → SqL K H2 a xs ∧ H2 D = some (.lst ys) ∧ ys.length = i) ∧
  (∀ i v ys H2, xs[i]? = some v → Pv i ys H2 → te [some v] H2 (fun y H3 => H3 D = some (.lst ys) ∧ Pv (i + 1) (ys ++ [y]) (upd H3 D (.lst (ys ++ [y])))) E) ∧ ∀ ys H2, Pv xs.length ys H2 → Q (.ref D) H2
section
variable {X : Cx} {pins : List (Addr × Obj)} {σ : L2.St} {H : Hp} {s : Shared} {scope : Scope} {x : Str} {fp : List Addr}
theorem comp_blockX {elt iter : Expr} {px pos : Pos} {a it D : Addr} {xs : List V} {tn : Nat → Heap → Prop} {te : TEX} {E : XK} {R : Result → Shared → Prop} {s₄ : Shared} {Pv : Nat → List V → Hp → Prop} {C : Addr} (hc : X.calm = true) (S : CompSc scope x)
    (he : PEX (cxComp X scope x C s H fp pins) elt te) (I : Inv (cxComp X scope x C s H fp pins) [] [none] H s₄) (T : Turn X.prog X.w X.K (.Name x px) (Itl X.K a) fp it tn) (t0 : tn 0 s₄.heap)
    (hfp : ∀ b ∈ fp, FpOk (cxComp X scope x C s H fp pins) [] H b) (hx : xs.length < sizeLine)
    (h0 : Pv 0 [] H) (hl : ∀ i ys H2, i ≤ xs.length → Pv i ys H2 → SqL X.K H2 a xs ∧ H2 D = some (.lst ys) ∧ ys.length = i)
    (ht : ∀ i v ys H2, xs[i]? = some v → Pv i ys H2 → te [some v] H2 (fun y H3 => H3 D = some (.lst ys) ∧ Pv (i + 1) (ys ++ [y]) (upd H3 D (.lst (ys ++ [y])))) E)
    (hRe : ∀ pins1 σ1 e s', XPx (cxComp X scope x C s H fp pins) pins1 σ1 E e s' → notedBy (model X.prog X.w) X.A (compEnv scope C X.env) (fun e s' => R (.error e) s') e s')
    (hR : ∀ σ' H' ys s', Inv (cxComp X scope x C s H fp pins) [] σ' H' s' → Pv xs.length ys H' → R (.ok .next) s') :
    codeAny (model X.prog X.w) X.A (.compStart (.ListComp elt [⟨.Name x px, iter, [], 0⟩] scope pos) 0 (.ref it) (.ref D) (compEnv scope C X.env)) R s₄ := by
  have loop : codeAny (model X.prog X.w) X.A (.compLoop (.ListComp elt [⟨.Name x px, iter, [], 0⟩] scope pos) 0 (.ref it) (.ref D) (compEnv scope C X.env)) R s₄ := by
    refine codeAny_compLoop_list (fun n s' => ∃ i ys σ' H', n = xs.length + 1 - i ∧ i ≤ xs.length ∧ Inv (cxComp X scope x C s H fp pins) [] σ' H' s' ∧ tn i s'.heap ∧ (∀ b ∈ fp, FpOk (cxComp X scope x C s H fp pins) [] H' b) ∧ Pv i ys H' ∧ σ'.length = 1) ?_ (xs.length + 1) ⟨0, [], [none], H, rfl, Nat.zero_le _, I, t0, hfp, h0, rfl⟩
    rintro n s' ⟨i, ys, σ', H', rfl, hi, I', tn', hfp', hp, hσ⟩
    obtain ⟨q1, q2, q3⟩ := hl i ys H' hi hp
    by_cases hlt : i < xs.length
    · have g : xs[i]? = some xs[i] := List.getElem?_eq_getElem hlt
      refine wpAny_mono (T.item (cxComp X scope x C s H fp pins) rfl rfl rfl hc i [] s' σ' H' (fun _ _ => False) I' hfp' tn' ⟨xs, xs[i], q1, g⟩) (fun r s1 ⟨u, er, hq⟩ => ?_) fun _ _ z => z.elim
      subst er
      show wpAny (model X.prog X.w) X.A (assign (.Name x px) (compEnv scope C X.env) u) _ _ s1
      intro Γ p hΓ
      have hq' : ∃ v H1, Inv (cxComp X scope x C s H fp pins) [] σ' H1 s1 ∧ RelV v u ∧ (Itl X.K a).yld i H' v H1 ∧ tn (i + 1) s1.heap ∧ ∀ b ∈ fp, H1 b = none := hq Γ p hΓ
      obtain ⟨v, H1, I1, rv, ⟨eH, yv⟩, tn1, fn1⟩ := hq'
      subst eH
      refine (?_ : wpAny (model X.prog X.w) X.A (assign (.Name x px) (compEnv scope C X.env) u) _ _ s1) Γ p hΓ
      have hv : xs[i]? = some v := yv xs q1
      obtain ⟨v0, eσ⟩ : ∃ v0, σ' = [v0] := by
        match σ', hσ with
        | [v0], _ => exact ⟨v0, rfl⟩
      subst eσ
      have hpin : ∀ b ∈ fp, ∃ o, s1.heap.get? b = some o ∧ ∀ v, o.data ≠ .cell v := T.obj (i + 1) s1.heap tn1
      have IP : Inv (cxComp X scope x C s H fp pins) (pinsAt fp s1.heap) [v0] H1 s1 := by
        have := I1.pinned hfp' hpin
        rw [List.nil_append] at this
        exact this
      refine wpAny_mono (pg_name (X := cxComp X scope x C s H fp pins) (i := 0) (x := x) (pos := px) (by simp [cxComp]) rfl (.inl S.loc) (.inl rfl) (pinsAt fp s1.heap) s1 [v0] H1 v u (fun σ2 H2 => σ2 = [some v] ∧ H2 = H1) IP rv ⟨rfl, rfl⟩) (fun _ s2 h2 => ?_) fun _ _ z => z.elim
      obtain ⟨σ2, H2, I2, e1, e2⟩ := h2
      subst e1
      subst e2
      refine wpAny_mono (he (pinsAt fp s1.heap) s2 [some v] H2 _ _ I2 (ht i v ys H2 hv hp)) (fun y s3 h3 => ?_) fun e s3 h3 => hRe _ _ e s3 h3
      obtain ⟨y', H3, I3, ry, hD, hp3⟩ := h3
      refine wpAny_mono (mt_append (X := cxComp X scope x C s H fp pins) (pinsAt fp s1.heap) s3 [some v] H3 (.ref D) [y'] (.ref D) [y] (fun _ H4 => H4 = upd H3 D (.lst (ys ++ [y']))) I3 rfl (.cons ry .nil) ⟨D, ys, y', rfl, rfl, hD, by omega, rfl⟩) (fun _ s4 h4 => ?_) fun _ _ z => z.elim
      obtain ⟨_, H4, I4, _, e4⟩ := h4
      subst e4
      have pinned : ∀ b ∈ fp, ∀ o, s1.heap.get? b = some o → s4.heap.get? b = some o ∧ (upd H3 D (.lst (ys ++ [y']))) b = none := fun b hb o e =>
        have z := I4.pin (b, o) (List.mem_append_right _ (mem_pinsAt hb e))
        ⟨z.1, z.2.1⟩
      refine ⟨xs.length + 1 - (i + 1), by omega, i + 1, ys ++ [y'], [some v], _, rfl, hlt, I4.pins_of (fun p z => nomatch z), T.keep _ _ _ tn1 fun b hb o e => (pinned b hb o e).1, fun b hb => ⟨?_, (hfp' b hb).2⟩, hp3, rfl⟩
      obtain ⟨o, e, _⟩ := hpin b hb
      exact (pinned b hb o e).2
    · have e : i = xs.length := by omega
      subst e
      refine wpAny_mono (T.done (cxComp X scope x C s H fp pins) rfl rfl rfl hc xs.length [] s' σ' H' (fun _ _ => False) I' hfp' tn' ⟨xs, q1, Nat.le_refl _⟩) (fun r s1 ⟨er, I1⟩ => ?_) fun _ _ z => z.elim
      subst er
      exact hR σ' H' ys s1 I1 hp
  exact codeAny_compStart_list loop (T.self X.A 0 s₄ _ _ t0 loop)
theorem comp_fromX {elt iter : Expr} {px pos : Pos} {te : TEX} {Q : V → Hp → Prop} {EX : XK} {s2 : Shared} {it : Addr} {tn : Nat → Heap → Prop} {J : It} {H' : Hp} {RR : Value → Env → Result → Shared → Prop} {E : Value → Shared → Prop} (hc : X.calm = true) (S : CompSc scope x)
    (hex : X.ex = []) (hstk : X.stack = X.env :: X.outer) (hfr : X.env.frame = some X.env.locals) (hX : ∀ cls o H', EX cls o H' → ∃ C, cls = .ref C ∧ XOh X C H')
    (he : ∀ C s H fp pins, PEX (cxComp X scope x C s H fp pins) elt te) (I2 : Inv X pins σ H' s2) (T : Turn X.prog X.w X.K (.Name x px) J fp it tn) (t0 : tn 0 s2.heap) (hfp : ∀ b ∈ fp, FpOk X pins H' b) (hr : rCompX X.K te Q EX J H')
    (hRe : ∀ D C e s', (∃ m, s'.heap.Ns C m ∧ ∀ h', Heap.SameBut C s'.heap h' → ∀ {α : Type} (Q : α → Shared → Prop), wpAny (model X.prog X.w) X.A (PySem.passOn "comprehension.variables-let-go" e (compEnv scope C X.env) : Sem α) Q X.xe { s' with heap := h' }) → RR D (compEnv scope C X.env) (.error e) s')
    (hRR : ∀ D C H3 s', Inv X pins σ H3 s' → (∃ m, s'.heap.Ns C m) → H3 C = none → C ≠ X.env.locals → X.s₀.heap.objs.size ≤ C → (∀ y c, X.env.cells.lookup y = some c → c ≠ C) → (∀ p ∈ X.pn ++ pins, p.1 ≠ C) → Q (.ref D) H3 →
      RR (.ref D) (compEnv scope C X.env) (.ok .next) s') :
    wpAny (model X.prog X.w) X.A (newList []) (fun acc s₃ => wpAny (model X.prog X.w) X.A (newFunctionEnv scope X.env.globals [] [] X.env.qual none .none (some X.env)) (fun cenv s₄ =>
      codeAny (model X.prog X.w) X.A (.compStart (.ListComp elt [⟨.Name x px, iter, [], 0⟩] scope pos) 0 (.ref it) acc { cenv with scope := scope }) (RR acc { cenv with scope := scope }) s₄) E s₃) E s2 := by
  obtain ⟨a, xs, rfl, hq, hx, hD⟩ := hr
  obtain ⟨Pv, h0, hl, ht, hd⟩ := hD s2.heap.objs.size I2.fresh
  refine wpAny_newObj_type (wpAny_newFunctionEnv S.cell (by intro y hy; simp at hy) (fun h₁ hns₁ hsb₁ => ?_) S.kind)
  dsimp only at hns₁ hsb₁ ⊢
  have I3 : Inv X pins σ (upd H' s2.heap.objs.size (.lst [])) { s2 with heap := s2.heap.push { cls := .type "list", data := .seq ([] : List Value).toArray } } := I2.lnew (its := []) (t' := s2.toks) .nil (by show 0 ≤ sizeLine; omega)
  have hob := T.obj 0 s2.heap t0
  have keep : ∀ b o, (s2.heap.push { cls := .type "list", data := .seq ([] : List Value).toArray }).get? b = some o → h₁.get? b = some o := fun b o e =>
    hsb₁.extBut b o (Nat.ne_of_lt (Heap.lt_size e)) (Heap.get?_push_of_some _ e)
  have fp3 : ∀ b ∈ fp, FpOk X pins (upd H' s2.heap.objs.size (.lst [])) b := fun b hb => by
    obtain ⟨o, e, _⟩ := hob b hb
    exact ⟨(upd_ne (Nat.ne_of_lt (Heap.lt_size e))).trans (hfp b hb).1, (hfp b hb).2⟩
  have IY := inv_comp (x := x) (t := s2.toks + ([] : List (Str × Value)).length) I3 S fp3 (fun b hb => by
    obtain ⟨o, e, _⟩ := hob b hb
    exact ⟨o, Heap.get?_push_of_some _ e⟩) hns₁ keep
  refine comp_blockX (a := a) (D := s2.heap.objs.size) (xs := xs) (Pv := Pv) (E := EX) hc S (he _ _ _ _ _) IY T (T.keep _ _ _ t0 fun b hb o e => keep b o (Heap.get?_push_of_some _ e)) (fun b hb => ?_) hx h0 hl ht (fun pins1 σ1 e s' hxp => ?_) (fun σ' H3 ys s' I' hp => ?_)
  · obtain ⟨f1, f2, f3, f4, f5, f6⟩ := fp3 b hb
    obtain ⟨o, e, _⟩ := hob b hb
    refine ⟨f1, Nat.ne_of_lt (Heap.lt_size (Heap.get?_push_of_some _ e)), fun z => ?_, .inl hb, fun y c h => (by cases h), fun p hp => ?_⟩
    · rcases List.mem_cons.mp (I3.stkSub b z) with q | q
      · exact f2 q
      · exact f3 q
    · rcases List.mem_append.mp hp with q | q
      · exact f6 p q
      · cases q
  · obtain ⟨ae, Ce, He, H1, s1, rfl, I1, os, bare, fl, hE⟩ := hxp
    obtain ⟨Cx', ec, hxo⟩ := hX _ _ _ hE
    cases ec
    obtain ⟨nC, B, a0, flW, ⟨m4, hm4⟩, done⟩ := comp_held I3 hex hstk hfr fp3 I1 fl
    have hfrm : X.A.frames = some (X.env :: X.outer) := by rw [← hstk]; exact I2.ok.frames
    have flW' := flW
    rw [hstk] at flW'
    show wpAny _ _ (noteFrame (.ref ae) (compEnv scope _ X.env)) _ _ s'
    rw [noteFrame_frame (env' := compEnv scope _ X.env) (env := X.env) rfl]
    refine wpAny_looks_onW hfrm hfr flW' fun h4 hh4 up4 => hRe _ _ _ _ ?_
    rw [← hstk] at hh4
    refine ⟨m4, hm4 h4 hh4.1, fun h5 sb {α} Q' => ?_⟩
    rw [passOn_frame (env' := compEnv scope _ X.env) (env := X.env) rfl]
    exact wpAny_passOn_heldW hfr (HeldW.letGo hh4 ⟨m4, hm4 h4 hh4.1⟩ nC sb) fun h6 hh6 kp => hxo _ _ _ _ ae _ I3 (os.trans I1.os) bare (done h4 h5 h6 hh4 up4 sb hh6 kp)
  · obtain ⟨m, hn, _⟩ := I'.loc
    refine hRR _ _ H3 s' (inv_back I3 fp3 I') ⟨m, hn⟩ I'.free (Nat.ne_of_gt I3.lt) I3.sz (fun y c h z => ?_) (fun p hp z => ?_) (hd ys H3 hp)
    · obtain ⟨v, q⟩ := I3.cell y c h
      exact absurd q.lt (by rw [z]; exact Nat.lt_irrefl _)
    · exact absurd (Heap.lt_size (I3.pin p hp).1) (by rw [z]; exact Nat.lt_irrefl _)
def Ehx (X : Cx) : XK := fun cls _ H' => ∃ C, cls = .ref C ∧ XOh X C H'
def sCompX (X : Cx) (tl : TE) (te : TEX) (i : Nat) : TS := fun D σ H => tl σ H fun v H1 => ∃ a, v = .ref a ∧ (∃ xs, SqL X.K H1 a xs) ∧ rCompX X.K te (fun v H2 => gName i v σ H2 D.nx) (Ehx X) (Itl X.K a) H1
theorem ps_setCompX {elt iter : Expr} {y : Str} {i : Nat} {px py pos spos : Pos} {tl : TE} {te : TEX} (hc : X.calm = true) (hex : X.ex = []) (hstk : X.stack = X.env :: X.outer) (hfr : X.env.frame = some X.env.locals) (S : CompSc scope x) (hN : X.N.Nodup) (hi : X.N[i]? = some y) (hy : Loc X.env.scope y) (hl : PE X iter tl) (he : ∀ C s H fp pins, PEX (cxComp X scope x C s H fp pins) elt te)
    (hsw : swapsWith (.ListComp elt [⟨.Name x px, iter, [], 0⟩] scope pos) (some (.Name y py)) spos.line X.env = pure true) (hs : ∀ y, foldedSetIterable iter X.env y = pure y := by intro _; rfl)
    (hf : X.fn y = true ∨ X.env.scope.names.lookup y = some .local := by first | exact .inl rfl | exact .inr rfl | assumption) :
    PS X (.Assign [.Name y py] (.ListComp elt [⟨.Name x px, iter, [], 0⟩] scope pos) spos) (sCompX X tl te i) := by
  intro pins s σ H D I h
  rw [exec_Assign_Name_used _ _ _ _ hsw]
  refine wpAny_bind (wpAny_standAt (wpAny_bind ?_))
  show wpAny _ X.A (do let _ ← comprehension (.ListComp elt [⟨.Name x px, iter, [], 0⟩] scope pos) scope X.env _ (newList []) false (eval iter X.env) (some (assign (.Name y py) X.env))) _ _ s
  refine wpAny_bind (wpAny_mono (wpAny_comprehension_use (Q := fun _ s' => SP X pins D .next s') rfl hs S.free S.kind S.names (thn (pi_list (tg := .Name x px) hl pins s σ H (rCompX X.K te (fun v H1 => gName i v σ H1 D.nx) (Ehx X)) I h) fun v s1 h1 => thn h1 fun itv s2 h2 => ?_))
    (fun _ s' hq => wpAny_pure (wpAny_pure hq)) fun _ _ e => e)
  obtain ⟨it, fp, tn, J, H', rfl, I2, T, t0, hfp, hr⟩ := h2
  refine comp_fromX (RR := fun acc cenv r s' => match r with
      | .ok _ => wpAny (model X.prog X.w) X.A (assign (.Name y py) X.env acc) (fun _ s'' => ∃ m, s''.heap.Ns cenv.locals m ∧ ∀ h', Heap.SameBut cenv.locals s''.heap h' → SP X pins D .next { s'' with heap := h' }) X.xe s'
      | .error x => ∃ m, s'.heap.Ns cenv.locals m ∧ ∀ h', Heap.SameBut cenv.locals s'.heap h' → wpAny (model X.prog X.w) X.A (PySem.passOn "comprehension.variables-let-go" x cenv) (fun _ s' => SP X pins D .next s') X.xe { s' with heap := h' }) hc S hex hstk hfr (fun _ _ _ z => z) he I2 T t0 hfp hr ?_ ?_
  · rintro D' C e s' ⟨m, hn, hp⟩
    exact ⟨m, hn, fun h' sb => hp h' sb _⟩
  intro A C H3 s' I' ⟨m, hn⟩ hC h1 h2 h3 h4 q
  refine wpAny_assign_Name (store_ok2 I' hN hi hy (v := .ref A) rfl (fun s3 I3 ⟨b, hb, hbb⟩ => ?_) hf)
  have hCb : C ≠ b := by
    rcases hbb with e | e
    · rw [e]; exact h1
    · exact fun z => h3 y b e z.symm
  exact ⟨m, hn.sameBut hb hCb, fun h' hs' => ⟨_, H3, I3.turned (it := C) (fun b o hb e => hs'.extBut b o hb e) hC h1 (.inr h2) h3 h4, q⟩⟩
end
section
variable {Z : Hp} {X : Cx} {fr : Fr} {scope : Scope} {x g : Str} {iter : Expr} {px pv pf pos cpos : Pos} {tl : DTE} {S : DSpX} {n : Nat}
def dCompX (X : Cx) (S : DSpX) (ta : DTE) : DTE := fun ρ Q => ta ρ fun d => ∃ (ds : List Dt) (Pv : Nat → List Dt → Prop), listOf d = some ds ∧ ds.length ≤ 100000 ∧ Pv 0 [] ∧
  (∀ i e es, ds[i]? = some e → Pv i es → S [e] (fun y => Pv (i + 1) (es ++ [y])) (RzH X)) ∧ ∀ es, Pv ds.length es → Q (.lst es)
theorem ds_setCompX {y : Str} {i : Nat} {py spos : Pos} (hc : X.calm = true) (hex : X.ex = []) (hstk : X.stack = X.env :: X.outer) (hfr : X.env.frame = some X.env.locals) (Sc : compOk scope x = true) (hN : X.N.Nodup) (hi : X.N[i]? = some y) (hy : Loc X.env.scope y) (hl : DE X iter tl)
    (G : DOkX X.prog X.w X.K X.mg X.base n g S) (hr : Room n X.A) (hg : ∀ C s H fp pins, Gl (cxComp X scope x C s H fp pins) g) (hxd : (x == ("__debug__" : Str)) = false := by decide) (hxc : (x == ("__classdict__" : Str)) = false := by decide) (hdb : (g == ("__debug__" : Str)) = false := by decide)
    (hsw : swapsWith (.ListComp (.Call (.Name g pf) [.Name x pv] [] cpos) [⟨.Name x px, iter, [], 0⟩] scope pos) (some (.Name y py)) spos.line X.env = pure true := by rfl) (hs : ∀ y, foldedSetIterable iter X.env y = pure y := by intro _; rfl)
    (hf : X.fn y = true ∨ X.env.scope.names.lookup y = some .local := by first | exact .inl rfl | exact .inr rfl | assumption) :
    DSt X fr (.Assign [.Name y py] (.ListComp (.Call (.Name g pf) [.Name x pv] [] cpos) [⟨.Name x px, iter, [], 0⟩] scope pos) spos) (dSetO i (dCompX X S tl)) := by
  obtain ⟨f, fd, ps, hm, hk, hb, F⟩ := G.ex
  obtain ⟨tt, p, l⟩ := hl
  have sc := compSc Sc
  refine ⟨_, ps_setCompX (te := fun σ H Q E => tCons (tVar 0) tNil σ H fun vs H1 => PureSpX X.K S vs H1 Q E) hc hex hstk hfr sc hN hi hy p (fun C s H fp pins => pex_call F hr (hg C s H fp pins) hm hk hb (pa_cons (pe_var (i := 0) rfl (.inl sc.loc) hxd hxc) pa_nil) hdb) hsw hs hf, fun W0 G0 ρ σ W D D' a s h => ?_⟩
  refine l ρ σ W _ a.rl h _ fun d v W1 s1 i1 ⟨ds, Pv, el, hlen, h0, ht, hd⟩ => ?_
  obtain ⟨aa, xs, rfl, hq, ha⟩ := list_g i1 el
  have zx : Same (Zx X) W1.h := (rl_zx a.rl).trans s1.h
  refine ⟨aa, rfl, ⟨xs, hq W1 (Same.refl _)⟩, aa, xs, rfl, hq W1 (Same.refl _), by rw [← ha.length]; exact Nat.lt_of_le_of_lt hlen (by decide), fun D1 hD => ?_⟩
  have gD : W1.g D1 = none := W1.sub.free hD
  refine ⟨fun i ys H2 => ∃ (W2 : Vw) (es : List Dt), W2.h = H2 ∧ Same W1.g W2.g ∧ Same W1.h (fun b => if b = D1 then none else W2.h b) ∧ (∀ b, W1.h b ≠ none → W1.g b = none → W2.g b = none) ∧ W2.h D1 = some (.lst ys) ∧ W2.g D1 = none ∧ AllIs X.K W2.g es ys ∧ ys.length = i ∧ Pv i es, ?_, ?_, ?_, ?_⟩
  · refine ⟨W1.mine D1 (.lst []) gD, [], rfl, Same.refl _, fun b o q => ?_, fun b _ q => q, upd_same, gD, allIs_nil.mpr rfl, rfl, h0⟩
    have hb : b ≠ D1 := fun e => by rw [e, hD] at q; cases q
    show (if b = D1 then none else upd W1.h D1 (.lst []) b) = some o
    rw [if_neg hb, upd_ne hb]
    exact q
  · rintro i ys _ _ ⟨W2, es, rfl, s2, _, _, q1, q2, _, q4, _⟩
    exact ⟨hq W2 s2, q1, q4⟩
  · rintro i v ys _ hv ⟨W2, es, rfl, s2, sh, sn, q1, q2, q3, q4, q5⟩
    obtain ⟨e, he, ie⟩ := ha.get' hv
    have zx2 : Same (Zx X) W2.h := fun b o q => by
      have q' := sh b o (zx b o q)
      have hb : b ≠ D1 := fun e => by have z := zx b o q; rw [e, hD] at z; cases z
      dsimp only at q'
      rwa [if_neg hb] at q'
    refine ⟨v, rfl, W2, [e], _, _, rfl, allIs_cons.mpr ⟨v, [], rfl, Is.mono0 s2 ie, allIs_nil.mpr rfl⟩, ht i e es he q5, fun y w W3 s3 i3 q6 => ?_, fun C H' s' hC => ⟨C, rfl, hC.2 H' (zx2.trans s')⟩⟩
    have g3 : W3.g D1 = none := s3.n D1 (by rw [q1]; intro z; cases z) q2
    refine ⟨s3.h _ _ q1, W3.mine D1 (.lst (ys ++ [w])) g3, es ++ [y], rfl, s2.trans s3.g, fun b o q => ?_, fun b z1 z2 => ?_, upd_same, g3, (q3.mono s3).append (allIs_cons.mpr ⟨w, [], rfl, i3, allIs_nil.mpr rfl⟩), by rw [List.length_append, q4]; rfl, q6⟩
    · have q' : (if b = D1 then none else W2.h b) = some o := sh b o q
      have hb : b ≠ D1 := fun e => by rw [e, hD] at q; cases q
      rw [if_neg hb] at q'
      show (if b = D1 then none else upd W3.h D1 (.lst (ys ++ [w])) b) = some o
      rw [if_neg hb, upd_ne hb]
      exact s3.h _ _ q'
    · have hb : b ≠ D1 := fun e => z1 (e ▸ hD)
      have z3 := sn b z1 z2
      refine s3.n b ?_ z3
      cases q : W1.h b with
      | none => exact absurd q z1
      | some o =>
        have q' : (if b = D1 then none else W2.h b) = some o := sh b o q
        rw [if_neg hb] at q'
        rw [q']
        intro z; cases z
  · rintro ys _ ⟨W2, es, rfl, s2, sh, sn, q1, q2, q3, _, q5⟩
    obtain ⟨ds', ed, q6⟩ := hd es (by rw [ha.length]; exact q5)
    cases ed
    refine s.nx _ _ W2 (a.own (s1.trans ⟨s2, fun b o q => ?_, sn⟩) i (s1.h.free hD) q1 q2 q3) q6
    have q' : (if b = D1 then none else W2.h b) = some o := sh b o q
    have hb : b ≠ D1 := fun e => by rw [e, hD] at q; cases q
    rwa [if_neg hb] at q'
end
section
variable {P : Program} {w : World} {K : PySem.W.Frag} {mg : Str → Option Value} {base : Heap}
theorem okFXH {x qual : Str} {st : Stmt} {f : Addr} {fd : FuncData} {N ps : List Str} {k : Nat} {S : DSpX} (F : Fun K x qual st f fd) (sc : FnScope N ps (defScope st)) (len : ∀ ds Q R, S ds Q R → ds.length = ps.length)
    (hbody : ∀ (cdv : Value) (A : Around) (outer : List Env) (s : Shared) (H : Hp) (E : XK), Room k (A.deeper (envOfC qual (defScope st) s.heap.objs.size f cdv)) → ∀ (ds : List Dt) (Q : Dt → Prop) (R : Addr → Prop), S ds Q R →
      (∀ C, R C → RzH (cxOf (CX1 P w) P w K mg base N qual (defScope st) f cdv A outer s H E) C) →
      ∃ t, DSs (cxOf (CX1 P w) P w K mg base N qual (defScope st) f cdv A outer s H E) .l (defBody st) t ∧ t { nx := fun _ => False, rt := Q } (dstart N.length ds)) : FnOk P w K mg base (CX1 P w) (k + 1) f fd ps (FreshSpX K S) := by
  refine Fun.okX F sc (fun vs H Q E h => ?_) (fun cdv A outer s H vs Q E hr h => ?_)
  · obtain ⟨W, ds, Qd, Ed, _, ia, hS, _⟩ := h
    rw [← ia.length]
    exact len ds Qd Ed hS
  obtain ⟨W, ds, Qd, Ed, rfl, ia, hS, kk, ke⟩ := h
  obtain ⟨t, ⟨ts, p, l⟩, ht⟩ := hbody cdv A outer s W.h E hr ds Qd Ed hS fun C hC => rzH_of fun H' z => ke C H' z hC
  exact ⟨ts, p, l W W.g (dstart N.length ds) (start N vs) W { nx := fun _ => False, rt := Qd } _ (at_start ia (zx_stk (Nat.succ_ne_self _))) ⟨fun ρ σ W' a q => q.elim, fun d v W' s' ⟨es, p, xs, e1, e2, e3, e4, e5, e6⟩ q => by subst e1; subst e2; exact kk es p xs W' s' e3 e4 e5 e6 q, fun _ _ _ _ q => q.elim, fun _ _ _ _ q => q.elim⟩ ht⟩
end
section
variable {X : Cx} {fr : Fr} {a e : Expr} {tg : Expr} {ta : DTA} {te : DTE} {p0 pos pos1 rpos tpos : Pos} {h₀ : ExceptHandler} {hs : List ExceptHandler}
def dRevI (ta : DTA) : DTI := fun ρ Q => ta ρ fun ds => ∃ d xs, ds = [d] ∧ listOf d = some xs ∧ xs.length ≤ 100000 ∧ Q xs.length fun i e => xs.reverse[i]? = some e
theorem di_rev (hg : Gl X "reversed") (hm : X.mg "reversed" = none) (h : DA X [a] ta) (hst : starEach [a] X.env = (false, eval a X.env) :: starEach [] X.env := by rfl) (hpl : (backTo pos1 (starEach [] X.env)).any (·.1) = false := by rfl) : DI X tg (.Call (.Name "reversed" p0) [a] [] pos1) (dRevI ta) := by
  obtain ⟨te, p, l⟩ := h
  refine ⟨_, pi_rev hg hm p hst hpl, fun ρ σ W Q r h R k => l ρ σ W _ r h _ fun ds vs W1 s1 i1 ⟨d, xs, ed, el, hl, q⟩ => ?_⟩
  subst ed
  obtain ⟨v1, rfl, j1⟩ := i1.one
  obtain ⟨l1, us, rfl, hq, ha⟩ := list_g j1 el
  refine ⟨l1, us, rfl, hq W1 (Same.refl _), k _ _ _ W1 s1 hl (fun W2 s2 => ⟨fun i hi => ?_, ?_⟩) q⟩
  · rw [ha.length] at hi
    have hv : us.reverse[i]? = some (us.reverse[i]'(by rw [List.length_reverse]; exact hi)) := List.getElem?_eq_getElem _
    refine ⟨⟨us, _, rfl, hq W2 s2, hv⟩, fun v' H3 ⟨e1, e2⟩ => ⟨W2, Le.refl _, e1.symm, ?_⟩⟩
    obtain ⟨e, he, ie⟩ := ha.rev.get' (e2 us (hq W2 s2))
    exact ⟨e, he, Is.mono0 s2 ie⟩
  · exact ⟨us, rfl, hq W2 s2, by rw [ha.length]; exact Nat.le_refl _⟩
theorem ds_tryRetN (he : DE X.nox e te) : DSt X .d (.Try [.Return (some e) rpos] (h₀ :: hs) [] [] tpos) (dRet te) := by
  obtain ⟨tt, p, l⟩ := he
  refine ⟨tRet tt, fun pins s σ H D I h => ?_, fun W0 G ρ σ W D D' a s h => l ρ σ W _ a.rl h _ fun d v W1 s1 i1 q1 => s.tl d v W1 (a.le.trans s1) i1 q1⟩
  refine wpAny_Try_except (wpAny_execs_cons (wpAny_Return_some (wpAny_mono (p pins s σ H _ (I.wish _) h) (fun v s1 ⟨x, H1, I1, r1, q1⟩ => ?_) fun _ _ z => z.elim)))
  exact ⟨x, σ, H1, I1.unwish, r1, q1⟩
end
end OD

namespace L2
open PySem PySem.Spec PyProof.Rows
section
variable {X : Cx}
end
end L2
namespace OD
open PySem PySem.Spec PyProof.Rows L2
section
variable {X : Cx} {a : Expr} {ta : DTE} {p0 pos : Pos}
end
end OD

namespace My
open PySem L2 OD

local macro_rules | `(tactic| walk_at "sc") => `(tactic| exact ⟨rfl, rfl, rfl, by decide +kernel, rfl, by decide +kernel, by decide +kernel⟩)
local macro_rules | `(tactic| walk_at "ln") => `(tactic| (intros; rename_i h; repeat (first | (obtain ⟨e, _⟩ := h; subst e; rfl) | obtain ⟨_, h⟩ := h)))
local macro_rules | `(tactic| walk_at "rd1") => `(tactic| first | refine ⟨_, rfl, ?_⟩ | refine ⟨_, _, rfl, rfl, ?_⟩ | refine ⟨_, _, _, _, rfl, rfl, rfl, ?_⟩ | refine ⟨_, _, _, rfl, rfl, rfl, ?_⟩ | refine iteT ?_ | refine iteF ?_ | refine ⟨rfl, rfl, ?_⟩ | refine ⟨rfl, ?_⟩ | refine ⟨cdivN (by decide), ?_⟩ | refine ⟨cmodN (by decide), ?_⟩ | refine ⟨cpowN (by decide), ?_⟩ | refine ⟨mulR (by decide), ?_⟩ | refine ⟨mulL (by decide), ?_⟩ | refine ⟨_, _, rfl, ?_⟩)
local macro_rules | `(tactic| walk_at "rd") => `(tactic| repeat (walk_at "rd1"))
theorem ifT {b : Bool} {A B : Prop} (e : b = true) (h : A) : if b = true then A else B := by rw [if_pos e]; exact h
theorem ifF {b : Bool} {A B : Prop} (e : b = false) (h : B) : if b = true then A else B := by rw [if_neg (by rw [e]; exact Bool.false_ne_true)]; exact h
theorem ifB {b : Bool} {A B : Prop} (h1 : b = true → A) (h2 : b = false → B) : if b = true then A else B := by
  cases b with
  | true => exact ifT rfl (h1 rfl)
  | false => exact ifF rfl (h2 rfl)
theorem eqI {a b : Int} (h : a = b) : eqD (.int a) (.int b) = true := by rw [eqD_int]; exact beq_iff_eq.mpr h
theorem neI {a b : Int} (h : a ≠ b) : eqD (.int a) (.int b) = false := by rw [eqD_int]; exact beq_eq_false_iff_ne.mpr h
theorem of_eqI {a b : Int} (h : eqD (.int a) (.int b) = true) : a = b := by rw [eqD_int] at h; exact beq_iff_eq.mp h
theorem of_neI {a b : Int} (h : eqD (.int a) (.int b) = false) : a ≠ b := by rw [eqD_int] at h; exact beq_eq_false_iff_ne.mp h
theorem nT {b : Bool} (h : b = true) : (!b) = false := by rw [h]; rfl
theorem nF {b : Bool} (h : b = false) : (!b) = true := by rw [h]; rfl
theorem of_nT {b : Bool} (h : (!b) = true) : b = false := by cases b <;> first | rfl | cases h
theorem of_nF {b : Bool} (h : (!b) = false) : b = true := by cases b <;> first | rfl | cases h
def rowD (ns : List Int) : Dt := .lst (ns.map Dt.int)
def trim (ns : List Int) : List Int := (ns.reverse.dropWhile (· == 0)).reverse
def S_cell : DSp := fun ds Q => ∃ ns k, ds = [.scr ns, .int k] ∧ 0 ≤ k ∧ ∀ z : Int, Q (.int z)
def S_law : DSp := fun ds Q => ∃ ns : List Int, ds = [.scr ns] ∧ ns.length ≤ 63 ∧ Q (.bl true)
theorem atI_row {xs : List Int} {k : Int} (h0 : 0 ≤ k) (h : k < xs.length) : atI (xs.map Dt.int) k = some (.int (xs.getD k.toNat 0)) := by
  have e : ((k.toNat : Nat) : Int) = k := Int.toNat_of_nonneg h0
  have hl : k.toNat < xs.length := by omega
  have := atI_nat (j := k.toNat) (xs := xs.map Dt.int) (v := .int (xs.getD k.toNat 0)) (by
    rw [List.getElem?_map, List.getElem?_eq_getElem hl, List.getD_eq_getElem?_getD, List.getElem?_eq_getElem hl]
    rfl)
  rwa [e] at this
theorem row_at {ns : List Int} {i : Nat} (h : i < ns.length) : atI (ns.map Dt.int) (i : Int) = some (.int (ns.getD i 0)) := by
  refine atI_nat ?_
  rw [List.getElem?_map, List.getElem?_eq_getElem h, List.getD_eq_getElem?_getD, List.getElem?_eq_getElem h]
  rfl
theorem ixN_nat {n : Nat} {k : Int} (h0 : 0 ≤ k) (h : k < n) : ixN n k = some k.toNat := by
  unfold ixN
  rw [if_pos h0, if_pos h]
theorem ixN_neg1 {n : Nat} (h : 0 < n) : ixN n (-1) = some (n - 1) := by
  unfold ixN
  rw [if_neg (by decide), if_pos (by omega)]
  congr 1
  omega
theorem atI_last {xs : List Int} {z : Int} : atI ((xs ++ [z]).map Dt.int) (-1) = some (.int z) := by
  unfold atI
  rw [ixN_neg1 (by rw [List.length_map, List.length_append]; exact Nat.succ_pos _)]
  show ((xs ++ [z]).map Dt.int)[((xs ++ [z]).map Dt.int).length - 1]? = _
  rw [List.length_map, List.length_append, List.map_append, List.getElem?_append_right (by rw [List.length_map]; exact Nat.le_of_eq (Nat.add_sub_cancel ..).symm)]
  rw [List.length_map, show xs.length + [z].length - 1 - xs.length = 0 by simp]
  rfl
theorem all_ok {ns : List Int} {n : Nat} : (ns.map Dt.int).all (okE n) = true := by
  rw [List.all_eq_true]
  intro x hx
  obtain ⟨z, _, e⟩ := List.mem_map.mp hx
  subst e
  cases n <;> rfl
theorem okE_row (ns : List Int) : okE 40 (rowD ns) = true := all_ok (n := 39)
theorem cut_ints (ms : List Int) (lo hi : Option Int) : ∃ ms' : List Int, cutD (ms.map Dt.int) lo hi = ms'.map Dt.int ∧ ms'.length ≤ ms.length ∧ ∀ z ∈ ms', z ∈ ms := by
  unfold cutD
  rw [← List.map_drop, ← List.map_take]
  refine ⟨_, rfl, ?_, fun t ht => List.mem_of_mem_drop (List.mem_of_mem_take ht)⟩
  rw [List.length_take, List.length_drop]
  omega
theorem get_ints {ns : List Int} {i : Nat} {x : Dt} (h : (ns.map Dt.int)[i]? = some x) : x = .int (ns.getD i 0) ∧ i < ns.length := by
  rw [List.getElem?_map] at h
  cases q : ns[i]? with
  | none => rw [q] at h; cases h
  | some z =>
    rw [q] at h
    have hl : i < ns.length := by
      rcases Nat.lt_or_ge i ns.length with h | h
      · exact h
      · rw [List.getElem?_eq_none h] at q; cases q
    rw [List.getD_eq_getElem?_getD, q]
    exact ⟨(Option.some.inj h).symm, hl⟩
theorem app_ints (xs : List Int) (z : Int) : xs.map Dt.int ++ [.int z] = (xs ++ [z]).map Dt.int := by rw [List.map_append]; rfl
theorem set_ints (xs : List Int) (j : Nat) (z : Int) : (xs.map Dt.int).set j (.int z) = (xs.set j z).map Dt.int := by rw [List.map_set]
theorem drop_ints (xs : List Int) : (xs.map Dt.int).dropLast = xs.dropLast.map Dt.int := by rw [List.map_dropLast]
theorem len_ints (xs : List Int) : (xs.map Dt.int).length = xs.length := List.length_map _
theorem trim_nil : trim [] = [] := rfl
theorem trim_zero (xs : List Int) : trim (xs ++ [0]) = trim xs := by
  unfold trim
  rw [List.reverse_append]
  rfl
theorem trim_ne {xs : List Int} {z : Int} (h : z ≠ 0) : trim (xs ++ [z]) = xs ++ [z] := by
  unfold trim
  rw [List.reverse_append]
  show (List.dropWhile _ (z :: xs.reverse)).reverse = _
  rw [List.dropWhile_cons, if_neg (by simpa using h), List.reverse_cons, List.reverse_reverse]
theorem snoc_cases (xs : List Int) : xs = [] ∨ ∃ l z, xs = l ++ [z] := by
  rcases List.eq_nil_or_concat xs with h | ⟨l, z, h⟩
  · exact .inl h
  · exact .inr ⟨l, z, by rw [h, List.concat_eq_append]⟩
theorem trim_len (xs : List Int) : (trim xs).length ≤ xs.length := by
  unfold trim
  rw [List.length_reverse]
  refine Nat.le_trans (List.dropWhile_sublist _).length_le ?_
  rw [List.length_reverse]
  exact Nat.le_refl _
inductive Kd where | plain | below | balanced | growing | falling | pairs
def Kd.num : Kd → Int
  | .plain => 0 | .below => 1 | .balanced => 2 | .growing => 3 | .falling => 4 | .pairs => 5
def Kd.fld : Kd → Str
  | .plain => "base" | .below => "base" | .balanced => "half" | .growing => "first" | .falling => "most" | .pairs => "most"
def Kd.lo : Kd → Int
  | .plain => 2 | .below => 2 | .balanced => 1 | .growing => 2 | .falling => 1 | .pairs => 1
def Kd.hi : Kd → Int
  | .plain => 60 | .below => 60 | .balanced => 30 | .growing => 60 | .falling => 9 | .pairs => 9
def Kd.ok (k : Kd) (n : Int) : Prop := k.lo ≤ n ∧ n ≤ k.hi
def whole : Dt → Option Bool
  | .int _ => some true
  | .bl _ => some false
  | .tup _ => some false
  | .lst _ => some false
  | _ => none
def S_whole : DSp := fun ds Q => ∃ d b, ds = [d] ∧ whole d = some b ∧ Q (.bl b)
def S_bounded : DSp := fun ds Q => ∃ n lo hi, ds = [.int n, .int lo, .int hi] ∧ lo ≤ n ∧ n ≤ hi ∧ Q (.int n)
inductive Nm where | i (n : Int) | p (a b : Int)
def Nm.dt : Nm → Dt
  | .i n => .int n
  | .p a b => .tup [.int a, .int b]
theorem small {n : Int} (h0 : -1000000 ≤ n) (h1 : n ≤ 1000000) (c : Int) : IntMulOk c n := mulR (by rw [decide_eq_true_iff]; omega)
def Kd.five : Kd → Bool
  | .falling => false | _ => true
def Kd.low : Kd → Int → Int → Int
  | .balanced, n, _ => -n
  | _, _, _ => 0
def Kd.high : Kd → Int → Int → Int
  | .plain, n, _ => n - 1
  | .below, n, _ => n - 1
  | .balanced, n, _ => n
  | .growing, n, p => n + p - 1
  | .falling, n, _ => n
  | .pairs, n, _ => n * n
def Kd.zero : Kd → Nm
  | .pairs => .p 0 0
  | _ => .i 0
theorem ok_bd {k : Kd} {n : Int} (h : k.ok n) : 1 ≤ n ∧ n ≤ 60 := by
  obtain ⟨h1, h2⟩ := h
  cases k <;> simp only [Kd.lo, Kd.hi] at * <;> omega
def Kd.isF : Kd → Bool
  | .falling => true
  | _ => false
structure Legal (k : Kd) (n : Int) (r : List Int) : Prop where
  fig : ∀ p, p < r.length → k.low n p ≤ r.getD p 0 ∧ r.getD p 0 ≤ k.high n p
  fal : k.isF = true → ∀ p, p + 1 < r.length → r.getD (p + 1) 0 = n → r.getD p 0 = 0
  end_ : r = [] ∨ r.getD (r.length - 1) 0 ≠ 0
open Classical in
noncomputable def legal (k : Kd) (n : Int) (r : List Int) : Bool := decide (Legal k n r)
open Classical in
theorem legal_t {k : Kd} {n : Int} {r : List Int} (h : Legal k n r) : legal k n r = true := by unfold legal; exact decide_eq_true h
open Classical in
theorem legal_f {k : Kd} {n : Int} {r : List Int} (h : ¬ Legal k n r) : legal k n r = false := by unfold legal; exact decide_eq_false h
structure Lg (k : Kd) (n : Int) (r : List Int) : Prop where
  fig : ∀ p, p < r.length → k.low n p ≤ r.getD p 0 ∧ r.getD p 0 ≤ k.high n p
  fal : k.isF = true → ∀ p, p + 1 < r.length → r.getD (p + 1) 0 = n → r.getD p 0 = 0
theorem low_le {k : Kd} {n : Int} (h : k.ok n) (p : Nat) : k.low n p ≤ 0 ∧ 0 ≤ k.high n p := by
  obtain ⟨h1, h2⟩ := h
  cases k <;> simp only [Kd.lo, Kd.hi, Kd.low, Kd.high] at * <;> first | omega | exact ⟨Int.le_refl _, Int.mul_nonneg (by omega) (by omega)⟩
theorem getD_snoc_lt {r : List Int} {z : Int} {p : Nat} (h : p < r.length) : (r ++ [z]).getD p 0 = r.getD p 0 := by
  rw [List.getD_eq_getElem?_getD, List.getD_eq_getElem?_getD, List.getElem?_append_left h]
theorem getD_snoc_eq {r : List Int} {z : Int} : (r ++ [z]).getD r.length 0 = z := by
  rw [List.getD_eq_getElem?_getD, List.getElem?_append_right (Nat.le_refl _)]
  simp
theorem Lg.nil (k : Kd) (n : Int) : Lg k n [] := ⟨fun p h => absurd h (Nat.not_lt_zero _), fun _ p h => absurd h (Nat.not_lt_zero _)⟩
theorem Lg.pop {k : Kd} {n : Int} {r : List Int} {z : Int} (h : Lg k n (r ++ [z])) : Lg k n r := by
  refine ⟨fun p hp => ?_, fun hk p hp => ?_⟩
  · have := h.fig p (by rw [List.length_append]; omega)
    rwa [getD_snoc_lt hp] at this
  · have := h.fal hk p (by rw [List.length_append]; omega)
    rwa [getD_snoc_lt hp, getD_snoc_lt (by omega)] at this
theorem Lg.trim {k : Kd} {n : Int} : ∀ {r : List Int}, Lg k n r → Legal k n (trim r) := by
  intro r
  generalize hl : r.length = m
  induction m generalizing r with
  | zero =>
    intro h
    obtain rfl : r = [] := List.length_eq_zero_iff.mp hl
    exact ⟨h.fig, h.fal, .inl rfl⟩
  | succ m ih =>
    intro h
    rcases snoc_cases r with rfl | ⟨l, z, rfl⟩
    · cases hl
    · by_cases hz : z = 0
      · subst hz
        rw [trim_zero]
        exact ih (by rw [List.length_append] at hl; exact Nat.succ.inj hl) h.pop
      · rw [trim_ne hz]
        exact ⟨h.fig, h.fal, .inr (by rw [List.length_append]; exact fun e => hz (by rw [← e]; exact getD_snoc_eq.symm))⟩
theorem Lg.push {k : Kd} {n z : Int} {r : List Int} (h : Lg k n r) (hz : k.low n r.length ≤ z ∧ z ≤ k.high n r.length) (hf : k.isF = true → z = n → r = [] ∨ r.getD (r.length - 1) 0 = 0) : Lg k n (r ++ [z]) := by
  refine ⟨fun p hp => ?_, fun hk p hp e => ?_⟩
  · rw [List.length_append] at hp
    rcases (by simp at hp; omega : p < r.length ∨ p = r.length) with q | q
    · rw [getD_snoc_lt q]; exact h.fig p q
    · subst q; rw [getD_snoc_eq]; exact hz
  · rw [List.length_append] at hp
    rcases (by simp at hp; omega : p + 1 < r.length ∨ p + 1 = r.length) with q | q
    · rw [getD_snoc_lt q] at e
      rw [getD_snoc_lt (by omega)]
      exact h.fal hk p q e
    · rw [q, getD_snoc_eq] at e
      rw [getD_snoc_lt (by omega)]
      rcases hf hk e with z | z
      · rw [z] at q; cases q
      · rw [show r.length - 1 = p by omega] at z; exact z
theorem getD_set_ne {r : List Int} {i j : Nat} {z : Int} (h : i ≠ j) : (r.set i z).getD j 0 = r.getD j 0 := by
  rw [List.getD_eq_getElem?_getD, List.getD_eq_getElem?_getD, List.getElem?_set_ne h]
theorem getD_set_eq {r : List Int} {i : Nat} {z : Int} (h : i < r.length) : (r.set i z).getD i 0 = z := by
  rw [List.getD_eq_getElem?_getD, List.getElem?_set_self h]
  rfl
theorem Lg.zero {k : Kd} {n : Int} {r : List Int} (hn : k.ok n) (h : Lg k n r) : Lg k n (r.set (r.length - 1) 0) := by
  refine ⟨fun p hp => ?_, fun hk p hp e => ?_⟩
  · rw [List.length_set] at hp
    by_cases q : r.length - 1 = p
    · subst q; rw [getD_set_eq hp]; exact low_le hn _
    · rw [getD_set_ne q]; exact h.fig p hp
  · rw [List.length_set] at hp
    have n1 : n ≠ 0 := by have := hn.1; cases k <;> simp only [Kd.lo] at this <;> omega
    by_cases q : r.length - 1 = p + 1
    · rw [← q, getD_set_eq (by omega)] at e; exact absurd e.symm n1
    · rw [getD_set_ne q] at e
      rw [getD_set_ne (by omega)]
      exact h.fal hk p hp e
def tl (x : Str) : List Nat := x.cps.toList
theorem str_ext {x y : Str} (h : tl x = tl y) : x = y := by
  cases x; cases y
  unfold tl at h
  simp only at h
  congr 1
  exact Array.ext' h
def asc (x : Str) : Prop := ∀ c ∈ tl x, c < 128
theorem asc_all {x : Str} (h : asc x) : x.cps.all (· < 128) = true := by
  rw [← Array.all_toList, List.all_eq_true]
  exact fun c hc => decide_eq_true (h c hc)
theorem tl_len (x : Str) : (tl x).length = x.length := by unfold tl; simp [Str.length]
theorem tl_app (x y : Str) : tl (x ++ y) = tl x ++ tl y := by
  show (x.cps ++ y.cps).toList = _
  simp [tl]
theorem asc_app {x y : Str} (hx : asc x) (hy : asc y) : asc (x ++ y) := fun c hc => by
  rw [tl_app] at hc
  rcases List.mem_append.mp hc with h | h
  · exact hx c h
  · exact hy c h
theorem slice_mem {x : Str} {l u : Option Int} {c : Nat} (h : c ∈ tl (Txt.slice x l u)) : c ∈ tl x := by
  unfold Txt.slice tl at h
  split at h
  · exact h
  · simp only [List.mem_filterMap] at h
    obtain ⟨i, _, hi⟩ := h
    have hi : (tl x)[i]? = some c := by unfold tl; rw [Array.getElem?_toList]; exact hi
    exact List.mem_of_getElem? hi
theorem asc_slice {x : Str} {l u : Option Int} (h : asc x) : asc (Txt.slice x l u) := fun c hc => h c (slice_mem hc)
theorem slice_len (x : Str) (l u : Option Int) : (Txt.slice x l u).length ≤ x.length := Txt.slice_le x l u
theorem slice_from {x : Str} {i : Int} (h0 : 0 ≤ i) (h1 : i ≤ (tl x).length) : tl (Txt.slice x (some i) none) = (tl x).drop i.toNat := by
  have e : Txt.slice x (some i) none = StrLaws.sliceText x (some i) none := rfl
  rw [e, StrLaws.sliceText_from ⟨h0, h1⟩]
  show (((tl x).drop i.toNat).take ((((tl x).length : Nat) : Int) - i).toNat) = _
  rw [List.take_of_length_le]
  rw [List.length_drop]; omega
theorem slice_to {x : Str} {j : Int} (h0 : 0 ≤ j) (h1 : j ≤ (tl x).length) : tl (Txt.slice x none (some j)) = (tl x).take j.toNat := by
  have e : Txt.slice x none (some j) = StrLaws.sliceText x none (some j) := rfl
  rw [e, StrLaws.sliceText_to ⟨h0, h1⟩]
  show (((tl x).drop 0).take (j - 0).toNat) = _
  rw [List.drop_zero, Int.sub_zero]
theorem beq_tl (x y : Str) : (x == y) = decide (tl x = tl y) := by
  by_cases h : x = y
  · subst h; simp
  · rw [beq_eq_false_iff_ne.mpr h, decide_eq_false fun z => h (str_ext z)]
theorem starts_dash (x : Str) : Txt.startswith x "-" = decide ((tl x).head? = some 45) := by
  unfold Txt.startswith Builtin.Str.subAt
  have e : (("-" : Str)).cps = #[45] := by decide +kernel
  have el : (("-" : Str)).length = 1 := by decide +kernel
  rw [e, el]
  obtain ⟨⟨l⟩⟩ := x
  cases l with
  | nil => rfl
  | cons c r =>
    show (decide (0 + 1 ≤ r.length + 1) && ((⟨c :: r⟩ : Array Nat).extract 0 (0 + 1) == #[45])) = decide (some c = some 45)
    rw [decide_eq_true (by omega), Bool.true_and]
    have e2 : (⟨c :: r⟩ : Array Nat).extract 0 (0 + 1) = #[c] := by simp
    rw [e2]
    by_cases h : c = 45
    · subst h; rfl
    · rw [decide_eq_false (by simpa using h)]
      simpa using h
theorem slice1_dash (x : Str) : (Txt.slice x none (some 1) == ("-" : Str)) = decide ((tl x).head? = some 45) := by
  rw [beq_tl]
  have e : tl ("-" : Str) = [45] := by decide +kernel
  rw [e]
  cases h : tl x with
  | nil =>
    have : tl (Txt.slice x none (some 1)) = [] := by
      apply List.eq_nil_iff_forall_not_mem.mpr
      intro c hc
      have := slice_mem hc
      rw [h] at this; cases this
    rw [this]; rfl
  | cons c r =>
    rw [slice_to (by decide) (by rw [h, List.length_cons]; omega), h]
    show decide ([c] = [45]) = decide (some c = some 45)
    simp
theorem occ_fig (c : Nat) : occ ⟨#[c]⟩ "0123456789" = (decide (48 ≤ c) && decide (c ≤ 57)) := by
  unfold occ
  rw [StrLaws.found_one]
  have e : (("0123456789" : Str)).cps.toList = [48, 49, 50, 51, 52, 53, 54, 55, 56, 57] := by decide +kernel
  rw [e]
  by_cases h : 48 ≤ c ∧ c ≤ 57
  · rw [decide_eq_true h.1, decide_eq_true h.2]
    rcases (by omega : c = 48 ∨ c = 49 ∨ c = 50 ∨ c = 51 ∨ c = 52 ∨ c = 53 ∨ c = 54 ∨ c = 55 ∨ c = 56 ∨ c = 57) with rfl | rfl | rfl | rfl | rfl | rfl | rfl | rfl | rfl | rfl <;> rfl
  · have : c ∉ [48, 49, 50, 51, 52, 53, 54, 55, 56, 57] := fun hc => h (by simp at hc; omega)
    rw [decide_eq_false this]
    by_cases h1 : 48 ≤ c
    · rw [decide_eq_true h1, decide_eq_false (by omega)]; rfl
    · rw [decide_eq_false h1]; rfl
def figB (c : Nat) : Bool := decide (48 ≤ c) && decide (c ≤ 57)
theorem figB_iff {c : Nat} : figB c = true ↔ isDg c := by
  unfold figB isDg
  rw [Bool.and_eq_true, decide_eq_true_iff, decide_eq_true_iff]
def fg (x : Str) : List Nat := if (tl x).head? = some 45 then (tl x).drop 1 else tl x
open Classical in
noncomputable def wv (x : Str) : Option Int := if Numl (tl x) ∧ (fg x).length ≤ 60 then some (dgVal (tl x)) else none
theorem fg_of {x : Str} {f : List Nat} (hf : f = fg x) : (tl x = f ∧ (tl x).head? ≠ some 45) ∨ tl x = 45 :: f := by
  subst hf
  unfold fg
  by_cases h : (tl x).head? = some 45
  · rw [if_pos h]
    cases e : tl x with
    | nil => rw [e] at h; cases h
    | cons c r => rw [e] at h; cases h; exact .inr rfl
  · rw [if_neg h]; exact .inl ⟨rfl, h⟩
theorem numl_iff {x : Str} {f : List Nat} (hf : f = fg x) : Numl (tl x) ↔ (f ≠ [] ∧ (∀ c ∈ f, isDg c) ∧ (f.head? = some 48 → tl x = [48])) := by
  constructor
  · intro h
    rcases h with h | ⟨c, r, c1, c2, hr, h | h⟩
    · have e : f = [48] := by rw [hf]; unfold fg; rw [h]; rfl
      subst e
      exact ⟨fun z => (nomatch z), fun c hc => by rw [List.mem_singleton.mp hc]; exact ⟨by decide, by decide⟩, fun _ => h⟩
    · have e : f = c :: r := by
        rw [hf]; unfold fg; rw [h, if_neg]
        intro z
        have : c = 45 := Option.some.inj z
        omega
      subst e
      refine ⟨fun z => (nomatch z), fun x hx => ?_, fun z => absurd (Option.some.inj z) (by omega)⟩
      rcases List.mem_cons.mp hx with rfl | hx
      · exact ⟨by omega, by omega⟩
      · exact hr x hx
    · have e : f = c :: r := by rw [hf]; unfold fg; rw [h]; rfl
      subst e
      refine ⟨fun z => (nomatch z), fun x hx => ?_, fun z => absurd (Option.some.inj z) (by omega)⟩
      rcases List.mem_cons.mp hx with rfl | hx
      · exact ⟨by omega, by omega⟩
      · exact hr x hx
  · rintro ⟨h1, h2, h3⟩
    cases f with
    | nil => exact absurd rfl h1
    | cons c r =>
      by_cases hc : c = 48
      · subst hc; exact .inl (h3 rfl)
      · have d := h2 c List.mem_cons_self
        unfold isDg at d
        refine .inr ⟨c, r, by omega, by omega, fun x hx => h2 x (List.mem_cons_of_mem _ hx), ?_⟩
        rcases fg_of hf with ⟨e, _⟩ | e
        · exact .inl e
        · exact .inr e
def dg (n : Nat) : List Nat := (Nat.toDigits 10 n).map Char.toNat
theorem tl_of (s : String) : tl (Str.ofString s) = s.toList.map Char.toNat := by unfold tl; rw [PySem.Str.ofString_eq_toList]
theorem tl_nat (n : Nat) : tl (Str.ofString (toString (n : Int))) = dg n := by
  rw [tl_of]
  have e : (toString (n : Int)) = Nat.repr n := rfl
  rw [e, Nat.toList_repr]; rfl
theorem tl_neg (n : Nat) (h : 0 < n) : tl (Str.ofString (toString (-(n : Int)))) = 45 :: dg n := by
  rw [tl_of]
  obtain ⟨m, rfl⟩ : ∃ m, n = m + 1 := ⟨n - 1, by omega⟩
  have e : (toString (-((m + 1 : Nat) : Int))) = "-" ++ Nat.repr (m + 1) := rfl
  rw [e, String.toList_append, Nat.toList_repr]; rfl
theorem dg_fig (n : Nat) : ∀ c ∈ dg n, isDg c := fun c hc => by
  obtain ⟨d, hd, rfl⟩ := List.mem_map.mp hc
  have := Nat.isDigit_of_mem_toDigits (b := 10) (by decide) (by decide) hd
  unfold Char.isDigit at this
  rw [Bool.and_eq_true, decide_eq_true_iff, decide_eq_true_iff] at this
  exact ⟨this.1, this.2⟩
theorem dg_small {d : Nat} (h : d < 10) : dg d = [48 + d] := by
  unfold dg
  rw [Nat.toDigits_of_lt_base h]
  rcases (by omega : d = 0 ∨ d = 1 ∨ d = 2 ∨ d = 3 ∨ d = 4 ∨ d = 5 ∨ d = 6 ∨ d = 7 ∨ d = 8 ∨ d = 9) with rfl | rfl | rfl | rfl | rfl | rfl | rfl | rfl | rfl | rfl <;> rfl
theorem dg_step {n d : Nat} (hn : 0 < n) (hd : d < 10) : dg (10 * n + d) = dg n ++ dg d := by
  unfold dg
  rw [← Nat.toDigits_append_toDigits (by decide) hn hd, List.map_append]
def padF (k : Nat) (l : List Nat) : List Nat := List.replicate (k - l.length) 48 ++ l
theorem dg_parts {q : Nat} (hq : 0 < q) : ∀ (k r : Nat), r < 10 ^ (k + 1) → dg (q * 10 ^ (k + 1) + r) = dg q ++ padF (k + 1) (dg r)
  | 0, r, h => by
    rw [show q * 10 ^ (0 + 1) + r = 10 * q + r by rw [Nat.zero_add, Nat.pow_one, Nat.mul_comm], dg_step hq h, dg_small h]
    rfl
  | k + 1, r, h => by
    obtain ⟨r1, d, rfl, hd⟩ : ∃ r1 d, r = 10 * r1 + d ∧ d < 10 := ⟨r / 10, r % 10, by omega, Nat.mod_lt _ (by decide)⟩
    have hp : 10 ^ (k + 1 + 1) = 10 * 10 ^ (k + 1) := Nat.pow_succ'
    have h1 : r1 < 10 ^ (k + 1) := by omega
    have e : q * 10 ^ (k + 1 + 1) + (10 * r1 + d) = 10 * (q * 10 ^ (k + 1) + r1) + d := by rw [hp]; grind
    have pos : 0 < q * 10 ^ (k + 1) + r1 := by
      have := Nat.mul_pos hq (Nat.pow_pos (n := k + 1) (show 0 < 10 by decide))
      omega
    rw [e, dg_step pos hd, dg_parts hq k r1 h1, List.append_assoc]
    congr 1
    unfold padF
    rcases Nat.eq_zero_or_pos r1 with rfl | hr
    · rw [Nat.mul_zero, Nat.zero_add, dg_small hd, dg_small (by decide : 0 < 10)]
      show List.replicate (k + 1 - 1) 48 ++ [48 + 0] ++ [48 + d] = List.replicate (k + 1 + 1 - 1) 48 ++ [48 + d]
      rw [Nat.add_sub_cancel, Nat.add_sub_cancel, List.replicate_succ' (n := k)]
    · rw [dg_step hr hd, List.length_append, dg_small hd, List.append_assoc]
      show List.replicate (k + 1 - (dg r1).length) 48 ++ _ = List.replicate (k + 1 + 1 - ((dg r1).length + 1)) 48 ++ _
      rw [show k + 1 + 1 - ((dg r1).length + 1) = k + 1 - (dg r1).length by omega]
theorem dg_len {n k : Nat} (hk : 0 < k) (h : n < 10 ^ k) : (dg n).length ≤ k := by
  unfold dg
  rw [List.length_map]
  exact (Nat.length_toDigits_le_iff (by decide) hk).mpr h
theorem dg_head (n : Nat) : ∃ c r, dg n = c :: r ∧ isDg c := by
  cases e : dg n with
  | nil => unfold dg at e; exact absurd (List.map_eq_nil_iff.mp e) Nat.toDigits_ne_nil
  | cons c r => exact ⟨c, r, rfl, dg_fig n c (by rw [e]; exact List.mem_cons_self)⟩
theorem tl_zfill {x : Str} {k : Nat} {c : Nat} {r : List Nat} (h : tl x = c :: r) (hc : isDg c) : tl (Txt.zfill x (k : Int)) = padF k (tl x) := by
  have hl := tl_len x
  unfold Txt.zfill
  split
  · rename_i hk
    have : k - (tl x).length = 0 := by omega
    unfold padF; rw [this]; rfl
  · rename_i hk
    unfold zfilled
    have e0 : x.cps[0]? = some c := by
      have : x.cps.toList[0]? = some c := by show (tl x)[0]? = _; rw [h]; rfl
      simpa using this
    rw [e0]
    have key : (match some c with | some 43 | some 45 => Builtin.Str.strSub x 0 1 ++ Builtin.Str.padded (Builtin.Str.strSub x 1 x.length) ((k : Int).toNat - x.length) 0 48 | _ => Builtin.Str.padded x ((k : Int).toNat - x.length) 0 48) = Builtin.Str.padded x ((k : Int).toNat - x.length) 0 48 := by
      rcases ten hc with rfl | rfl | rfl | rfl | rfl | rfl | rfl | rfl | rfl | rfl <;> rfl
    refine (congrArg tl key).trans ?_
    unfold Builtin.Str.padded padF
    show (Array.replicate _ 48 ++ x.cps ++ Array.replicate 0 48).toList = _
    rw [hl]
    simp [tl]
theorem tl_join : ∀ ts : List Str, tl (Txt.join ("" : Str) ts) = (ts.map tl).flatten
  | [] => rfl
  | [x] => by
    show tl (Builtin.Str.glued _ [x]) = _
    rw [StrLaws.glued_eq_join]
    show tl x = _
    simp
  | x :: y :: r => by
    have ih := tl_join (y :: r)
    have e1 : Txt.join ("" : Str) (x :: y :: r) = x ++ ("" : Str) ++ Txt.join ("" : Str) (y :: r) := by
      show Builtin.Str.glued _ _ = _ ++ _ ++ Builtin.Str.glued _ _
      rw [StrLaws.glued_eq_join, StrLaws.glued_eq_join]; rfl
    rw [e1, tl_app, tl_app, ih]
    have e2 : tl ("" : Str) = [] := by decide +kernel
    rw [e2, List.append_nil]
    show _ = (tl x :: (y :: r).map tl).flatten
    rw [List.flatten_cons]
def shw (i : Int) : Str := Str.ofString (toString i)
def S_shown0 : DSp := fun ds Q => ∃ n : Nat, ds = [.int n] ∧ n < 2 ^ 1800 ∧ Q (.str (shw n))
def S_shownW : DSp := fun ds Q => ∃ i : Int, ds = [.int i] ∧ i.natAbs < 2 ^ 1800 ∧ Q (.str (shw i))
theorem log_lt {n : Nat} {k : Nat} (hk : 0 < k) (h : n < 2 ^ k) : n.log2 < k := by
  rcases Nat.eq_zero_or_pos n with rfl | hp
  · exact hk
  · exact (Nat.log2_lt (by omega)).mpr h
theorem shw_neg {n : Nat} (h : 0 < n) : shw (-(n : Int)) = ("-" : Str) ++ shw n := by
  apply str_ext
  unfold shw
  rw [tl_app, tl_neg n h, tl_nat]
  have e : tl ("-" : Str) = [45] := by decide +kernel
  rw [e]; rfl
theorem shw_len (i : Int) {k : Nat} (hk : 0 < k) (h : i.natAbs < 10 ^ k) : (shw i).length ≤ k + 1 := by
  rw [← tl_len]
  rcases (by omega : 0 ≤ i ∨ i < 0) with hi | hi
  · obtain ⟨n, rfl⟩ := Int.eq_ofNat_of_zero_le hi
    unfold shw; rw [tl_nat]
    have := dg_len hk (n := n) (by omega)
    omega
  · obtain ⟨n, rfl, hn⟩ : ∃ n : Nat, i = -(n : Int) ∧ 0 < n := ⟨i.natAbs, by omega, by omega⟩
    unfold shw; rw [tl_neg n hn]
    have := dg_len hk (n := n) (by omega)
    rw [List.length_cons]; omega
theorem shw_asc (i : Int) : asc (shw i) := fun c hc => by
  rcases (by omega : 0 ≤ i ∨ i < 0) with hi | hi
  · obtain ⟨n, rfl⟩ := Int.eq_ofNat_of_zero_le hi
    unfold shw at hc; rw [tl_nat] at hc
    have := dg_fig n c hc
    unfold isDg at this; omega
  · obtain ⟨n, rfl, hn⟩ : ∃ n : Nat, i = -(n : Int) ∧ 0 < n := ⟨i.natAbs, by omega, by omega⟩
    unfold shw at hc; rw [tl_neg n hn] at hc
    rcases List.mem_cons.mp hc with rfl | hc
    · decide
    · have := dg_fig n c hc
      unfold isDg at this; omega
theorem big60 : (10 : Int) ^ Int.toNat 60 = ((10 ^ 60 : Nat) : Int) := by decide
theorem fm_nat (a b : Nat) : ((a : Int)).fmod (b : Int) = ((a % b : Nat) : Int) := by rw [Int.fmod_eq_emod_of_nonneg _ (Int.natCast_nonneg b)]; rfl
theorem fd_nat (a b : Nat) : ((a : Int)).fdiv (b : Int) = ((a / b : Nat) : Int) := by rw [Int.fdiv_eq_ediv_of_nonneg _ (Int.natCast_nonneg b)]; rfl
theorem shw_parts {n r : Nat} {ps : List Str} (h : dg n = dg r ++ (ps.reverse.map tl).flatten) : Txt.join ("" : Str) (ps ++ [shw r]).reverse = shw n := by
  apply str_ext
  rw [tl_join, List.reverse_append]
  show (tl (shw r) :: ps.reverse.map tl).flatten = tl (shw n)
  rw [List.flatten_cons]
  unfold shw
  rw [tl_nat, tl_nat, h]
theorem shw_next {n r : Nat} {ps : List Str} (h : dg n = dg r ++ (ps.reverse.map tl).flatten) (hr : 10 ^ 60 ≤ r) : dg n = dg (r / 10 ^ 60) ++ ((ps ++ [Txt.zfill (shw ((r % 10 ^ 60 : Nat) : Int)) ((60 : Nat) : Int)]).reverse.map tl).flatten := by
  obtain ⟨c, l, e, hc⟩ := dg_head (r % 10 ^ 60)
  have e1 : tl (Txt.zfill (shw ((r % 10 ^ 60 : Nat) : Int)) ((60 : Nat) : Int)) = padF 60 (dg (r % 10 ^ 60)) := by
    rw [tl_zfill (x := shw ((r % 10 ^ 60 : Nat) : Int)) (k := 60) (c := c) (r := l) (by unfold shw; rw [tl_nat]; exact e) hc]
    unfold shw
    rw [tl_nat]
  have e2 := dg_parts (q := r / 10 ^ 60) (Nat.div_pos hr (by decide)) 59 (r % 10 ^ 60) (Nat.mod_lt _ (by decide))
  rw [Nat.mul_comm, Nat.div_add_mod] at e2
  rw [h, e2, List.reverse_append]
  show _ = _ ++ (tl _ :: ps.reverse.map tl).flatten
  rw [List.flatten_cons, e1, List.append_assoc]
theorem join_ok {ts : List Str} (h1 : ∀ y ∈ ts, y.length ≤ 61) (h2 : ts.length ≤ 2000) : JoinOk ("" : Str) ts = true := by
  have e : (("" : Str)).length = 0 := by decide +kernel
  have := StrLaws.joinFits (sep := ("" : Str)) (texts := ts) (B := 61) h1 (by rw [e]; omega)
  unfold JoinOk
  rw [this]; rfl
theorem zf_len {r : Nat} (h : r < 10 ^ 60) : (Txt.zfill (shw (r : Int)) ((60 : Nat) : Int)).length ≤ 61 := by
  obtain ⟨c, l, e, hc⟩ := dg_head r
  rw [← tl_len, tl_zfill (x := shw (r : Int)) (k := 60) (c := c) (r := l) (by unfold shw; rw [tl_nat]; exact e) hc]
  unfold padF shw
  rw [tl_nat, List.length_append, List.length_replicate]
  have := dg_len (by decide : 0 < 60) h
  omega
theorem pow_two_lt {k n r : Nat} (h : r * 2 ^ k ≤ n) (hr : k = 0 ∨ 1 ≤ r) (hn : n < 2 ^ 1800) : k ≤ 1800 := by
  rcases hr with rfl | hr
  · decide
  · have : 2 ^ k ≤ n := Nat.le_trans (by have := Nat.mul_le_mul_right (2 ^ k) hr; rwa [Nat.one_mul] at this) h
    exact Nat.le_of_lt ((Nat.pow_lt_pow_iff_right (by decide)).mp (Nat.lt_of_le_of_lt this hn))
def allFg (x : Str) : Bool := (tl x).all figB
def S_alone : DSp := fun ds Q => ∃ x, ds = [.str x] ∧ asc x ∧ Q (.bl (allFg x))
theorem allFg_iff {x : Str} : allFg x = true ↔ ∀ c ∈ tl x, isDg c := by
  unfold allFg
  rw [List.all_eq_true]
  exact ⟨fun h c hc => figB_iff.mp (h c hc), fun h c hc => figB_iff.mpr (h c hc)⟩
theorem wv_some {x : Str} (h : Numl (tl x)) (hl : (fg x).length ≤ 60) : wv x = some (dgVal (tl x)) := if_pos ⟨h, hl⟩
theorem wv_none {x : Str} (h : ¬ (Numl (tl x) ∧ (fg x).length ≤ 60)) : wv x = none := if_neg h
theorem str_nil {f : Str} : (f == ("" : Str)) = decide (tl f = []) := by
  rw [beq_tl]
  have e : tl ("" : Str) = [] := by decide +kernel
  rw [e]
theorem cps_head {f : Str} {c : Nat} {r : List Nat} (h : tl f = c :: r) : f.cps[Int.toNat 0]? = some c := by
  have : f.cps.toList[0]? = some c := by show (tl f)[0]? = _; rw [h]; rfl
  simpa using this
theorem one_nought (c : Nat) : ((⟨#[c]⟩ : Str) == ("0" : Str)) = decide (c = 48) := by
  rw [beq_tl]
  have e : tl ("0" : Str) = [48] := by decide +kernel
  rw [e]
  show decide ([c] = [48]) = _
  simp
theorem is_nought (x : Str) : (x == ("0" : Str)) = decide (tl x = [48]) := by
  rw [beq_tl]
  have e : tl ("0" : Str) = [48] := by decide +kernel
  rw [e]
theorem sub_mem {x : Str} {i j c : Nat} (h : c ∈ tl (Builtin.Str.strSub x i j)) : c ∈ tl x := by
  have e : tl (Builtin.Str.strSub x i j) = ((tl x).take j).drop i := by
    show (x.cps.extract i j).toList = _
    rw [Array.toList_extract, List.extract_eq_drop_take, List.drop_take]; rfl
  rw [e] at h
  exact List.mem_of_mem_take (List.mem_of_mem_drop h)
theorem split_mem {x y p : Str} (h : p ∈ Txt.split x y) : p.length ≤ x.length ∧ ∀ c ∈ tl p, c ∈ tl x := by
  unfold Txt.split at h
  split at h
  · rw [List.mem_singleton.mp h]; exact ⟨Nat.le_refl _, fun _ z => z⟩
  split at h
  · rw [List.mem_singleton.mp h]; exact ⟨Nat.le_refl _, fun _ z => z⟩
  · unfold Builtin.Str.partsBetween at h
    obtain ⟨⟨a, b⟩, _, rfl⟩ := List.mem_map.mp h
    exact ⟨strSub_length_le x a b, fun c hc => sub_mem hc⟩
theorem split_len (x y : Str) : (Txt.split x y).length ≤ x.length + 2 := by
  unfold Txt.split
  split
  · show 1 ≤ _; omega
  split
  · show 1 ≤ _; omega
  · rw [length_partsBetween]
    have := StrLaws.occ_length_le x y 0 x.length (x.length + 1)
    omega
def Kd.nam : Kd → Str
  | .plain => .ofString "plain"
  | .below => .ofString "below"
  | .balanced => .ofString "balanced"
  | .growing => .ofString "growing"
  | .falling => .ofString "falling"
  | .pairs => .ofString "pairs"
def wayT (k : Kd) (n : Int) : Dt := .tup [.str k.nam, .int n]
def rsh (r : List Int) : Str := if r = [] then "0" else Txt.join "." (r.reverse.map shw)
open Classical in
noncomputable def lwv (x : Str) : Option Int := if Numl (tl x) then some (dgVal (tl x)) else none
noncomputable def pts (v : Str → Option Int) (x : Str) : List (Option Int) := (Txt.split x ".").reverse.map v
noncomputable def rvv (v : Str → Option Int) (k : Kd) (n : Int) (x : Str) : Option (List Int) :=
  if tl x = [48] then some [] else if (pts v x).any Option.isNone = true then none else if legal k n ((pts v x).filterMap id) = true then some ((pts v x).filterMap id) else none
def optR : Option (List Int) → Dt
  | none => .non
  | some r => rowD r
theorem join_dot {ts : List Str} (h1 : ∀ y ∈ ts, y.length ≤ 61) (h2 : ts.length ≤ 2000) : JoinOk ("." : Str) ts = true := by
  have e : (("." : Str)).length = 1 := by decide +kernel
  have := StrLaws.joinFits (sep := ("." : Str)) (texts := ts) (B := 61) h1 (by rw [e]; omega)
  unfold JoinOk
  rw [this]; rfl
theorem join_mem (sep : Str) {c : Nat} : ∀ {ts : List Str}, c ∈ tl (Txt.join sep ts) → c ∈ tl sep ∨ ∃ t ∈ ts, c ∈ tl t
  | [], h => by
    have e : Txt.join sep [] = ("" : Str) := by
      show Builtin.Str.glued _ _ = _
      rw [StrLaws.glued_eq_join]; rfl
    have e2 : tl ("" : Str) = [] := by decide +kernel
    rw [e, e2] at h
    cases h
  | [x], h => by
    have e : Txt.join sep [x] = x := by
      show Builtin.Str.glued _ _ = _
      rw [StrLaws.glued_eq_join]; rfl
    rw [e] at h
    exact .inr ⟨x, List.mem_cons_self, h⟩
  | x :: y :: r, h => by
    have e1 : Txt.join sep (x :: y :: r) = x ++ sep ++ Txt.join sep (y :: r) := by
      show Builtin.Str.glued _ _ = _ ++ _ ++ Builtin.Str.glued _ _
      rw [StrLaws.glued_eq_join, StrLaws.glued_eq_join]; rfl
    rw [e1, tl_app, tl_app] at h
    rcases List.mem_append.mp h with h | h
    · rcases List.mem_append.mp h with h | h
      · exact .inr ⟨x, List.mem_cons_self, h⟩
      · exact .inl h
    · rcases join_mem sep h with h | ⟨t, ht, hc⟩
      · exact .inl h
      · exact .inr ⟨t, List.mem_cons_of_mem _ ht, hc⟩
theorem rsh_asc (r : List Int) : asc (rsh r) := fun c hc => by
  unfold rsh at hc
  split at hc
  · have : ∀ c ∈ tl ("0" : Str), c < 128 := by decide +kernel
    exact this c hc
  · rcases join_mem _ hc with h | ⟨t, ht, h⟩
    · have : ∀ c ∈ tl ("." : Str), c < 128 := by decide +kernel
      exact this c h
    · obtain ⟨z, _, rfl⟩ := List.mem_map.mp ht
      exact shw_asc z c h
theorem sum_le {ts : List Str} {B : Nat} : (∀ y ∈ ts, y.length ≤ B) → (ts.map (·.length)).sum ≤ ts.length * B := by
  induction ts with
  | nil => intro _; exact Nat.zero_le _
  | cons x r ih =>
    intro h
    have h1 := h x List.mem_cons_self
    have h2 := ih fun y hy => h y (List.mem_cons_of_mem _ hy)
    rw [List.map_cons, List.sum_cons, List.length_cons, Nat.succ_mul]
    omega
theorem rsh_len {r : List Int} (hl : r.length ≤ 60) (hb : ∀ z ∈ r, z.natAbs < 1000) : (rsh r).length ≤ 300 := by
  unfold rsh
  split
  · have : (("0" : Str)).length = 1 := by decide +kernel
    omega
  · have e : (("." : Str)).length = 1 := by decide +kernel
    have h1 : (Txt.join ("." : Str) (r.reverse.map shw)).length ≤ ((r.reverse.map shw).map (·.length)).sum + (r.reverse.map shw).length * (("." : Str)).length := by
      show (Builtin.Str.glued _ _).length ≤ _
      rw [StrLaws.glued_eq_join]
      exact StrLaws.join_length_le ("." : Str) (r.reverse.map shw)
    have h2 := sum_le (ts := r.reverse.map shw) (B := 4) fun y hy => by
      obtain ⟨z, hz, rfl⟩ := List.mem_map.mp hy
      exact shw_len (k := 3) z (by decide) (hb z (List.mem_reverse.mp hz))
    rw [e] at h1
    rw [List.length_map, List.length_reverse] at h1 h2
    omega
theorem leg_small {k : Kd} {n : Int} {r : List Int} (hn : k.ok n) (h : ∀ p, p < r.length → k.low n p ≤ r.getD p 0 ∧ r.getD p 0 ≤ k.high n p) (hl : r.length ≤ 700) : ∀ z ∈ r, z.natAbs < 1000 := fun z hz => by
  obtain ⟨p, hp, e⟩ := List.getElem_of_mem hz
  obtain ⟨f1, f2⟩ := h p hp
  rw [List.getD_eq_getElem?_getD, List.getElem?_eq_getElem hp, e] at f1 f2
  have f1 : k.low n p ≤ z := f1
  have f2 : z ≤ k.high n p := f2
  obtain ⟨b1, b2⟩ := hn
  cases k <;> simp only [Kd.lo, Kd.hi, Kd.low, Kd.high] at * <;> first | omega | (have := Int.mul_le_mul b2 b2 (by omega) (by omega); omega)
theorem fold_ge : ∀ (l : List Nat) (a : Nat), a * 10 ^ l.length ≤ l.foldl (fun a c => a * 10 + (c - 48)) a
  | [], a => by simp
  | c :: l, a => by
    show a * 10 ^ (l.length + 1) ≤ l.foldl (fun a c => a * 10 + (c - 48)) (a * 10 + (c - 48))
    refine Nat.le_trans ?_ (fold_ge l _)
    have := Nat.mul_le_mul_right (10 ^ l.length) (show a * 10 ≤ a * 10 + (c - 48) by omega)
    rw [Nat.pow_succ', ← Nat.mul_assoc]
    exact this
theorem dgs_ge {c : Nat} {r : List Nat} (h : 49 ≤ c) : 10 ^ r.length ≤ dgs (c :: r) := by
  show _ ≤ r.foldl (fun a c => a * 10 + (c - 48)) (0 * 10 + (c - 48))
  refine Nat.le_trans ?_ (fold_ge r _)
  have := Nat.mul_le_mul_right (10 ^ r.length) (show 1 ≤ 0 * 10 + (c - 48) by omega)
  rwa [Nat.one_mul] at this
theorem wv_lwv {x : Str} : wv x = lwv x ∨ (wv x = none ∧ ∃ v, lwv x = some v ∧ 1000 ≤ v.natAbs) := by
  unfold wv lwv
  by_cases h : Numl (tl x)
  · by_cases h2 : (fg x).length ≤ 60
    · rw [if_pos ⟨h, h2⟩, if_pos h]; exact .inl rfl
    · rw [if_neg (fun z => h2 z.2), if_pos h]
      refine .inr ⟨rfl, _, rfl, ?_⟩
      have big : ∀ {c : Nat} {r : List Nat}, 49 ≤ c → 60 < (c :: r).length → 1000 ≤ dgs (c :: r) := fun {c r} hc hl => by
        rw [List.length_cons] at hl
        exact Nat.le_trans (Nat.le_trans (by decide : 1000 ≤ 10 ^ 4) (Nat.pow_le_pow_right (by decide) (show 4 ≤ r.length by omega))) (dgs_ge hc)
      rcases h with h | ⟨c, r, c1, c2, hr, h | h⟩
      · exfalso; apply h2; unfold fg; rw [h]; decide
      · have hf : fg x = c :: r := by
          unfold fg; rw [h, if_neg]
          intro z
          have : c = 45 := Option.some.inj z
          omega
        rw [h]
        have e : dgVal (c :: r) = (dgs (c :: r) : Int) := by
          unfold dgVal
          split
          · rename_i heq; injection heq with h1 h2; omega
          · rfl
        rw [e, Int.natAbs_natCast]
        exact big c1 (by rw [← hf]; omega)
      · have hf : fg x = c :: r := by unfold fg; rw [h]; rfl
        rw [h]
        show 1000 ≤ (-(dgs (c :: r) : Int)).natAbs
        rw [Int.natAbs_neg, Int.natAbs_natCast]
        exact big c1 (by rw [← hf]; omega)
  · rw [if_neg (fun z => h z.1), if_neg h]; exact .inl rfl
theorem pts_len (v : Str → Option Int) (x : Str) : (pts v x).length ≤ x.length + 2 := by
  unfold pts
  rw [List.length_map, List.length_reverse]
  exact split_len x _
theorem rvv_eq {k : Kd} {n : Int} (hn : k.ok n) {x : Str} (hl : x.length ≤ 620) : rvv lwv k n x = rvv wv k n x := by
  unfold rvv
  by_cases h0 : tl x = [48]
  · rw [if_pos h0, if_pos h0]
  rw [if_neg h0, if_neg h0]
  by_cases hall : ∀ p ∈ Txt.split x ".", wv p = lwv p
  · have e : pts lwv x = pts wv x := by
      unfold pts
      exact List.map_congr_left fun p hp => (hall p (List.mem_reverse.mp hp)).symm
    rw [e]
  · obtain ⟨p, hp, hne⟩ : ∃ p ∈ Txt.split x ".", wv p ≠ lwv p := by
      apply Classical.byContradiction
      intro z
      exact hall fun p hp => Classical.byContradiction fun q => z ⟨p, hp, q⟩
    obtain ⟨hw, v, hv, big⟩ := (wv_lwv (x := p)).resolve_left hne
    have a1 : (pts wv x).any Option.isNone = true := List.any_eq_true.mpr ⟨none, List.mem_map.mpr ⟨p, List.mem_reverse.mpr hp, hw⟩, rfl⟩
    rw [if_pos a1]
    by_cases a2 : (pts lwv x).any Option.isNone = true
    · rw [if_pos a2]
    · rw [if_neg a2, if_neg]
      intro hleg
      have hv2 : v ∈ (pts lwv x).filterMap id := List.mem_filterMap.mpr ⟨some v, List.mem_map.mpr ⟨p, List.mem_reverse.mpr hp, hv⟩, rfl⟩
      have hL : Legal k n ((pts lwv x).filterMap id) := by
        apply Classical.byContradiction
        intro z
        rw [legal_f z] at hleg
        cases hleg
      have hll : ((pts lwv x).filterMap id).length ≤ 700 := Nat.le_trans (List.length_filterMap_le _ _) (by have := pts_len lwv x; omega)
      have := leg_small hn hL.fig hll v hv2
      omega
theorem all_some {l : List (Option Int)} (h : l.any Option.isNone = false) : l = (l.filterMap id).map some := by
  induction l with
  | nil => rfl
  | cons o r ih =>
    rw [List.any_cons, Bool.or_eq_false_iff] at h
    cases o with
    | none => cases h.1
    | some v =>
      show some v :: r = some v :: (r.filterMap id).map some
      rw [← ih h.2]
theorem some_vals (vs : List Int) : (vs.map some).filterMap id = vs ∧ (vs.map some).any Option.isNone = false := by
  induction vs with
  | nil => exact ⟨rfl, rfl⟩
  | cons v r ih =>
    show v :: (r.map some).filterMap id = v :: r ∧ (false || (r.map some).any Option.isNone) = false
    rw [ih.1, ih.2]
    exact ⟨rfl, rfl⟩
theorem nam_fig : ∀ n : Fin 61, 1 ≤ n.val → (dg n.val).all figB = true ∧ (dg n.val).head? ≠ some 48 ∧ dgs (dg n.val) = n.val ∧ (dg n.val).length ≤ 2 := by decide +kernel
theorem nam_strip : ∀ n : Fin 61, 1 ≤ n.val → ∀ x ∈ [Str.ofString "plain", Str.ofString "below", Str.ofString "balanced", Str.ofString "growing", Str.ofString "falling", Str.ofString "pairs"], Txt.rstripChars (x ++ ⟨(dg n.val).toArray⟩) (Str.ofString "0123456789") = x := by decide +kernel
theorem wv_nat {m : Nat} (h1 : 1 ≤ m) (h2 : m ≤ 60) : wv (shw (m : Int)) = some (m : Int) := by
  obtain ⟨d1, d2, d3, d4⟩ := nam_fig ⟨m, by omega⟩ h1
  have d1 : ∀ c ∈ dg m, isDg c := dg_fig m
  have et : tl (shw (m : Int)) = dg m := by unfold shw; exact tl_nat m
  obtain ⟨c, r, ec, hc⟩ := dg_head m
  have hc' := hc
  unfold isDg at hc'
  have hd : (tl (shw (m : Int))).head? ≠ some 45 := by
    rw [et, ec]
    intro z
    have : c = 45 := Option.some.inj z
    omega
  have ef : fg (shw (m : Int)) = dg m := by unfold fg; rw [if_neg hd, et]
  have hn : Numl (tl (shw (m : Int))) := (numl_iff ef.symm).mpr ⟨(by rw [ec]; exact List.cons_ne_nil _ _), d1, fun z => absurd z d2⟩
  rw [wv_some hn (by rw [ef]; exact Nat.le_trans d4 (by decide)), et]
  have e : dgVal (dg m) = (dgs (dg m) : Int) := by
    rw [ec]
    unfold dgVal
    split
    · rename_i heq; injection heq with h1 h2; omega
    · rfl
  rw [e, d3]
theorem while_trimB {i : Nat} {D : DEnds} {ρ : DS} {ms : List Int} (hi : ρ[i]? = some (.own (ms.map Dt.int))) (q : D.nx (ρ.set i (.own ((trim ms).map Dt.int)))) :
    dWhile (dBorT (dAnd (dTest (dOp gNe (dVar i) (dLst dNil))) (dTest (dOp gEq (dIx (dVar i) (dNeg (dC (Dt.int 1)))) (dC (Dt.int 0)))))) (dPop i) D ρ := by
  have hl : i < ρ.length := by
    rcases Nat.lt_or_ge i ρ.length with h | h
    · exact h
    · rw [List.getElem?_eq_none h] at hi; cases hi
  refine ⟨fun m ρ' => ∃ l : List Int, ρ' = ρ.set i (.own (l.map Dt.int)) ∧ l.length = m ∧ trim l = trim ms, ⟨_, ms, ?_, rfl, rfl⟩, ?_⟩
  · apply List.ext_getElem?
    intro j
    by_cases hj : i = j
    · subst hj; rw [List.getElem?_set_self hl]; exact hi
    · rw [List.getElem?_set_ne hj]
  · rintro m ρ' ⟨l, rfl, rfl, ht⟩
    have hg : (ρ.set i (.own (l.map Dt.int)))[i]? = some (.own (l.map Dt.int)) := List.getElem?_set_self hl
    have hg' : ((ρ.set i (.own (l.map Dt.int))).map fz)[i]? = some (.some (.lst (l.map Dt.int))) := by rw [List.getElem?_map, hg]; rfl
    refine ⟨_, hg', rfl, okE_row _, rfl, _, rfl, ?_⟩
    rcases snoc_cases l with rfl | ⟨l', z, rfl⟩
    · refine ifF rfl (ifF rfl ?_)
      rw [← ht, trim_nil] at q
      exact q
    · refine ifT (by cases l' <;> rfl) ?_
      refine ⟨_, hg', _, rfl, _, _, _, rfl, rfl, atI_last, rfl, rfl, _, rfl, ?_⟩
      by_cases hz : z = 0
      · refine ifT (eqI hz) ?_
        subst hz
        refine ⟨_, hg, by simp, l'.length, by rw [List.length_append]; exact Nat.lt_succ_self _, l', ?_, rfl, ?_⟩
        · rw [drop_ints, List.dropLast_concat, List.set_set]
        · rw [← ht, trim_zero]
      · refine ifF (neI hz) ?_
        rw [← ht, trim_ne hz] at q
        exact q
theorem seven_fig {lo hi f m : Int} (l1 : lo ≤ 0) (l2 : 0 ≤ hi) (x0 : lo ≤ f) (x1 : f ≤ hi) : ∃ g, atI [Dt.int lo, .int hi, .int 0, .int f, .int f, .int f, .int f] (m.fmod 7) = some (.int g) ∧ lo ≤ g ∧ g ≤ hi := by
  have a0 := Int.fmod_nonneg_of_pos m (show (0 : Int) < 7 by decide)
  have a1 := Int.fmod_lt_of_pos m (show (0 : Int) < 7 by decide)
  rcases (by omega : m.fmod 7 = 0 ∨ m.fmod 7 = 1 ∨ m.fmod 7 = 2 ∨ m.fmod 7 = 3 ∨ m.fmod 7 = 4 ∨ m.fmod 7 = 5 ∨ m.fmod 7 = 6) with e | e | e | e | e | e | e <;> rw [e]
  · exact ⟨_, rfl, Int.le_refl _, by omega⟩
  · exact ⟨_, rfl, by omega, Int.le_refl _⟩
  · exact ⟨_, rfl, l1, l2⟩
  all_goals exact ⟨_, rfl, x0, x1⟩
theorem lwv_some {x : Str} (h : Numl (tl x)) : lwv x = some (dgVal (tl x)) := if_pos h
theorem lwv_none {x : Str} (h : ¬ Numl (tl x)) : lwv x = none := if_neg h
theorem dot_ok : ((("." : Str)).length == 0) = false := by decide +kernel
theorem asc_split {x p : Str} (hx : asc x) (h : p ∈ Txt.split x ".") : asc p := fun c hc => hx c ((split_mem h).2 c hc)
theorem rvv_nought {v : Str → Option Int} {k : Kd} {n : Int} {x : Str} (h : tl x = [48]) : rvv v k n x = some [] := if_pos h
theorem rvv_part {v : Str → Option Int} {k : Kd} {n : Int} {x p : Str} (h : tl x ≠ [48]) (hp : p ∈ Txt.split x ".") (hv : v p = none) : rvv v k n x = none := by
  have a1 : (pts v x).any Option.isNone = true := List.any_eq_true.mpr ⟨none, List.mem_map.mpr ⟨p, List.mem_reverse.mpr hp, hv⟩, rfl⟩
  unfold rvv
  rw [if_neg h, if_pos a1]
theorem rvv_vals {v : Str → Option Int} {k : Kd} {n : Int} {x : Str} {vs : List Int} (h : tl x ≠ [48]) (hv : pts v x = vs.map some) : rvv v k n x = if legal k n vs = true then some vs else none := by
  unfold rvv
  rw [if_neg h, hv, (some_vals vs).1, (some_vals vs).2, if_neg Bool.false_ne_true]
theorem rvv_len {v : Str → Option Int} {k : Kd} {n : Int} {x : Str} {r : List Int} (h : rvv v k n x = some r) : r.length ≤ x.length + 2 := by
  unfold rvv at h
  split at h
  · cases h; exact Nat.zero_le _
  split at h
  · cases h
  split at h
  · cases h
    exact Nat.le_trans (List.length_filterMap_le _ _) (pts_len v x)
  · cases h
theorem sign8_len : ((". 0a-,1 " : Str)).length = 8 := by decide +kernel
theorem sign8_at (z : Int) : ∃ c, ((". 0a-,1 " : Str)).cps[(z.fmod 8).toNat]? = some c ∧ c < 128 := by
  have s0 := Int.fmod_nonneg_of_pos z (show (0 : Int) < 8 by decide)
  have s1 := Int.fmod_lt_of_pos z (show (0 : Int) < 8 by decide)
  have e : ((". 0a-,1 " : Str)).cps = #[46, 32, 48, 97, 45, 44, 49, 32] := by decide +kernel
  rw [e]
  generalize hk : (z.fmod 8).toNat = k
  rcases (by omega : k = 0 ∨ k = 1 ∨ k = 2 ∨ k = 3 ∨ k = 4 ∨ k = 5 ∨ k = 6 ∨ k = 7) with rfl | rfl | rfl | rfl | rfl | rfl | rfl | rfl <;> exact ⟨_, rfl, by decide⟩
theorem two_at (i : Int) : ∃ m, atI [Dt.int 48271, .int 69621] (i.fmod 2) = some (.int m) ∧ 0 ≤ m ∧ m ≤ 100000 := by
  have s0 := Int.fmod_nonneg_of_pos i (show (0 : Int) < 2 by decide)
  have s1 := Int.fmod_lt_of_pos i (show (0 : Int) < 2 by decide)
  rcases (by omega : i.fmod 2 = 0 ∨ i.fmod 2 = 1) with e | e <;> rw [e]
  · exact ⟨_, rfl, by decide, by decide⟩
  · exact ⟨_, rfl, by decide, by decide⟩
theorem nil_dot : asc ("0." : Str) ∧ (("0." : Str)).length = 2 := ⟨by intro c hc; revert c; decide +kernel, by decide +kernel⟩
theorem cut_58 (xs : List Dt) : (cutD xs (some 2) (some 60)).length ≤ 58 := by
  unfold cutD
  have e1 : HT.sIx xs.length 0 (some 2) = min 2 xs.length := HT.sIx_nat _ _ 2
  have e2 : HT.sIx xs.length xs.length (some 60) = min 60 xs.length := HT.sIx_nat _ _ 60
  rw [e1, e2, List.length_take]
  omega
theorem each_t {ρ : DS} {Q : Bool → Prop} (h : Q true) : dEach ρ Q := h
def S_rsh : DSp := fun ds Q => ∃ r, ds = [rowD r] ∧ r.length ≤ 100 ∧ (∀ z ∈ r, z.natAbs < 1000) ∧ Q (.str (rsh r))
def S_wayN : DSp := fun ds Q => ∃ c : Int, ds = [.int c] ∧ ∀ k n, Kd.ok k n → Q (wayT k n)
def S_lowN : DSp := fun ds Q => ∃ k n, ds = [wayT k n] ∧ Q (.int (k.low n 0))
def S_highN : DSp := fun ds Q => ∃ k n p, ds = [wayT k n, .int p] ∧ Kd.ok k n ∧ Q (.int (k.high n p))
def S_drawn : DSp := fun ds Q => ∃ k n cs, ds = [wayT k n, rowD cs] ∧ Kd.ok k n ∧ cs.length ≤ 100 ∧ ∀ r, Legal k n r → r.length ≤ cs.length → Q (rowD r)
def S_lisw : DSp := fun ds Q => ∃ k n r, ds = [wayT k n, rowD r] ∧ Kd.ok k n ∧ r.length ≤ 1000 ∧ Q (.bl (legal k n r))
def S_lwhole : DSp := fun ds Q => ∃ x, ds = [.str x] ∧ asc x ∧ x.length ≤ 620 ∧ Q (optI (lwv x))
def S_lrow : DSp := fun ds Q => ∃ k n x, ds = [wayT k n, .str x] ∧ Kd.ok k n ∧ asc x ∧ x.length ≤ 620 ∧ Q (optR (rvv lwv k n x))
def S_lalike : DSp := fun ds Q => ∃ r, ds = [rowD r, rowD r] ∧ r.length ≤ 1000 ∧ Q (.bl true)
def S_lspo : DSp := fun ds Q => ∃ r x, ∃ z : Int, ds = [rowD r, .str x, .int z] ∧ r.length ≤ 60 ∧ (∀ z ∈ r, z.natAbs < 1000) ∧ asc x ∧ x.length ≤ 300 ∧ ∀ y, asc y → y.length ≤ 620 → Q (.str y)
structure Adr where
  Plain : Addr
  Below : Addr
  Balanced : Addr
  Growing : Addr
  Falling : Addr
  Pairs : Addr
  NoWay : Addr
  NoText : Addr
structure Txt (K : PySem.W.Frag) (mg : Str → Option Value) (A : Adr) : Prop where
  kt : KitT K
  isinstance : mg "isinstance" = none
  n_int : mg "int" = none
  n_bool : mg "bool" = none
  n_tuple : mg "tuple" = none
  n_list : mg "list" = none
  len : mg "len" = none
  range : mg "range" = none
  n_enumerate : mg "enumerate" = none
  n_reversed : mg "reversed" = none
  n_str : mg "str" = none
  gs_FIGURES : ∃ tk, mg "FIGURES" = some (.str "0123456789" tk)
  cl_Plain : Cls K A.Plain
  na_Plain : NoAttr K A.Plain "base"
  cl_Below : Cls K A.Below
  na_Below : NoAttr K A.Below "base"
  cl_Balanced : Cls K A.Balanced
  na_Balanced : NoAttr K A.Balanced "half"
  cl_Growing : Cls K A.Growing
  na_Growing : NoAttr K A.Growing "first"
  cl_Falling : Cls K A.Falling
  na_Falling : NoAttr K A.Falling "most"
  cl_Pairs : Cls K A.Pairs
  na_Pairs : NoAttr K A.Pairs "most"
  gc_Falling : mg "Falling" = some (.ref A.Falling)
  isi_Plain : IsiOk K A.Plain
  ki_Plain_Falling : PySem.W.kitOne K (.ref A.Plain) (.ref A.Falling) = some false
  isi_Below : IsiOk K A.Below
  ki_Below_Falling : PySem.W.kitOne K (.ref A.Below) (.ref A.Falling) = some false
  isi_Balanced : IsiOk K A.Balanced
  ki_Balanced_Falling : PySem.W.kitOne K (.ref A.Balanced) (.ref A.Falling) = some false
  isi_Growing : IsiOk K A.Growing
  ki_Growing_Falling : PySem.W.kitOne K (.ref A.Growing) (.ref A.Falling) = some false
  isi_Falling : IsiOk K A.Falling
  ki_Falling_Falling : PySem.W.kitOne K (.ref A.Falling) (.ref A.Falling) = some true
  isi_Pairs : IsiOk K A.Pairs
  ki_Pairs_Falling : PySem.W.kitOne K (.ref A.Pairs) (.ref A.Falling) = some false
  gc_NoWay : mg "NoWay" = some (.ref A.NoWay)
  gc_NoText : mg "NoText" = some (.ref A.NoText)
  ex_NoText : ExcK K A.NoText
  ix_NoText : IsxOk K A.NoText
  em_NoText_NoWay : PySem.W.exmOne K (.ref A.NoText) (.ref A.NoWay) = some false
  em_NoText_NoText : PySem.W.exmOne K (.ref A.NoText) (.ref A.NoText) = some true
  kx_NoText_NoWay : PySem.W.kitOne K (.ref A.NoText) (.ref A.NoWay) = some false
  kx_NoText_NoText : PySem.W.kitOne K (.ref A.NoText) (.ref A.NoText) = some true
def Adr.at (A : Adr) : Kd → Addr
  | .plain => A.Plain | .below => A.Below | .balanced => A.Balanced | .growing => A.Growing | .falling => A.Falling | .pairs => A.Pairs
def wayD (A : Adr) (k : Kd) (n : Int) : Dt := .way (A.at k) k.fld n
def S_get (A : Adr) (k : Kd) (g : Int → Int → Int) : DSp := fun ds Q => ∃ n p, ds = [wayD A k n, .int p] ∧ k.ok n ∧ Q (.int (g n p))
def S_zero : DSp := fun ds Q => ∃ o p, ds = [o, p] ∧ Q (.int 0)
theorem isiAt {K : PySem.W.Frag} {mg : Str → Option Value} {A : Adr} (T : Txt K mg A) (k : Kd) : IsiOk K (A.at k) := by
  cases k
  · exact T.isi_Plain
  · exact T.isi_Below
  · exact T.isi_Balanced
  · exact T.isi_Growing
  · exact T.isi_Falling
  · exact T.isi_Pairs
theorem kiF {K : PySem.W.Frag} {mg : Str → Option Value} {A : Adr} (T : Txt K mg A) (k : Kd) : PySem.W.kitOne K (.ref (A.at k)) (.ref A.Falling) = some k.isF := by
  cases k
  · exact T.ki_Plain_Falling
  · exact T.ki_Below_Falling
  · exact T.ki_Balanced_Falling
  · exact T.ki_Growing_Falling
  · exact T.ki_Falling_Falling
  · exact T.ki_Pairs_Falling
def S_isw (A : Adr) : DSp := fun ds Q => ∃ k n r, ds = [wayD A k n, rowD r] ∧ k.ok n ∧ r.length ≤ 1000 ∧ Q (.bl (legal k n r))
def S_figs (A : Adr) : DSp := fun ds Q => ∃ k n r, ds = [wayD A k n, rowD r] ∧ k.ok n ∧ r.length ≤ 1000 ∧ ∀ b : Bool, (b = true ↔ ∀ p, p < r.length → k.low n p ≤ r.getD p 0 ∧ r.getD p 0 ≤ k.high n p) → Q (.bl b)
def S_mosts (A : Adr) : DSp := fun ds Q => ∃ n r, ds = [wayD A .falling n, rowD r] ∧ Kd.falling.ok n ∧ r.length ≤ 1000 ∧ ∀ b : Bool, (b = true ↔ ∀ p, p + 1 < r.length → r.getD (p + 1) 0 = n → r.getD p 0 = 0) → Q (.bl b)
theorem e_low (k : Kd) : (("low" : Str) == k.fld) = false := by cases k <;> decide +kernel
theorem e_high (k : Kd) : (("high" : Str) == k.fld) = false := by cases k <;> decide +kernel
def S_wread (A : Adr) : DSpX := fun ds Q R => ∃ x, ds = [.str x] ∧ asc x ∧ x.length ≤ 5000 ∧ (∀ i, wv x = some i → Q (.int i)) ∧ (wv x = none → R A.NoText)
def S_rread (A : Adr) : DSpX := fun ds Q R => ∃ k n x, ds = [wayD A k n, .str x] ∧ Kd.ok k n ∧ asc x ∧ x.length ≤ 620 ∧ (∀ r, rvv wv k n x = some r → Q (rowD r)) ∧ (rvv wv k n x = none → R A.NoText)
def S_wmade (A : Adr) : DSp := fun ds Q => ∃ k n, ds = [.str (Kd.nam k), .int n] ∧ k.ok n ∧ Q (wayD A k n)
def S_waytx (A : Adr) : DSp := fun ds Q => ∃ k n, ds = [.str (Kd.nam k ++ shw n)] ∧ k.ok n ∧ Q (wayD A k n)
def S_lread (A : Adr) : DSp := fun ds Q => ∃ k n x, ds = [wayD A k n, wayT k n, .str x] ∧ Kd.ok k n ∧ asc x ∧ x.length ≤ 620 ∧ Q (.bl true)
section
variable {P : Program} {w : World} {K : PySem.W.Frag} {mg : Str → Option Value} {base : Heap} {f : Addr} {fd : FuncData} {A : Adr}
abbrev s_law_way : Stmt := top 37
theorem sc_law_way : FnScope ["_law_cell", "_law_kind", "_law_number"] ["_law_cell"] (defScope s_law_way) := by walk_at "sc"
theorem ok_law_way (T : Txt K mg A) (F : Fun K "_law_way" "_law_way" s_law_way f fd) : FnOk P w K mg base CX0 1 f fd ["_law_cell"] (PureSp K (S_wayN)) := by
  refine okD F sc_law_way (by walk_at "ln") fun _ _ _ _ _ _ hr ds Q h => ?_
  obtain ⟨c, rfl, q⟩ := h
  refine ⟨_, (dss_cons (ds_set (i := 1) sc_law_way.nd rfl (Or.inl rfl) (de_op o_mod (dv 0) de_int))
  (dss_cons (ds_set (i := 2) sc_law_way.nd rfl (Or.inl rfl) (de_op o_fdiv (dv 0) de_int))
  (dss_cons (ds_if (dt_cmp (o_lt) (dv 1) de_int (nomark _)) (dss_one (ds_ret (de_tup (da_cons (de_ix (de_lst (da_cons de_str (da_cons de_str da_nil))) (dv 1) (fun _ _ => rfl)) (da_cons (de_op o_add de_int (de_op o_mod (dv 2) de_int)) da_nil))))) dss_nil)
  (dss_cons (ds_if (dt_cmp (o_eq hr) (dv 1) de_int (nomark _)) (dss_one (ds_ret (de_tup (da_cons de_str (da_cons (de_op o_add de_int (de_op o_mod (dv 2) de_int)) da_nil))))) dss_nil)
  (dss_cons (ds_if (dt_cmp (o_eq hr) (dv 1) de_int (nomark _)) (dss_one (ds_ret (de_tup (da_cons de_str (da_cons (de_op o_add de_int (de_op o_mod (dv 2) de_int)) da_nil))))) dss_nil)
  (dss_one (ds_ret (de_tup (da_cons (de_ix (de_lst (da_cons de_str (da_cons de_str da_nil))) (de_op o_sub (dv 1) de_int) (fun _ _ => rfl)) (da_cons (de_op o_add de_int (de_op o_mod (dv 2) de_int)) da_nil)))))))))), ?_⟩
  have a0 := Int.fmod_nonneg_of_pos c (show (0 : Int) < 6 by decide)
  have a1 := Int.fmod_lt_of_pos c (show (0 : Int) < 6 by decide)
  have b0 := Int.fmod_nonneg_of_pos (c.fdiv 6) (show (0 : Int) < 59 by decide)
  have b1 := Int.fmod_lt_of_pos (c.fdiv 6) (show (0 : Int) < 59 by decide)
  have c0 := Int.fmod_nonneg_of_pos (c.fdiv 6) (show (0 : Int) < 30 by decide)
  have c1 := Int.fmod_lt_of_pos (c.fdiv 6) (show (0 : Int) < 30 by decide)
  have d0 := Int.fmod_nonneg_of_pos (c.fdiv 6) (show (0 : Int) < 9 by decide)
  have d1 := Int.fmod_lt_of_pos (c.fdiv 6) (show (0 : Int) < 9 by decide)
  refine ⟨_, rfl, _, _, rfl, rfl, cmodN (by decide), ?_⟩
  dsimp only
  generalize c.fmod 6 = j at *
  rcases (by omega : j = 0 ∨ j = 1 ∨ j = 2 ∨ j = 3 ∨ j = 4 ∨ j = 5) with rfl | rfl | rfl | rfl | rfl | rfl
  all_goals repeat (first | (walk_at "rd1") | refine ⟨_, _, _, rfl, rfl, rfl, ?_⟩)
  · exact q .plain _ ⟨by show (2 : Int) ≤ 2 + _; omega, by show 2 + _ ≤ (60 : Int); omega⟩
  · exact q .below _ ⟨by show (2 : Int) ≤ 2 + _; omega, by show 2 + _ ≤ (60 : Int); omega⟩
  · exact q .balanced _ ⟨by show (1 : Int) ≤ 1 + _; omega, by show 1 + _ ≤ (30 : Int); omega⟩
  · exact q .growing _ ⟨by show (2 : Int) ≤ 2 + _; omega, by show 2 + _ ≤ (60 : Int); omega⟩
  · exact q .falling _ ⟨by show (1 : Int) ≤ 1 + _; omega, by show 1 + _ ≤ (9 : Int); omega⟩
  · exact q .pairs _ ⟨by show (1 : Int) ≤ 1 + _; omega, by show 1 + _ ≤ (9 : Int); omega⟩
abbrev s_law_cell_at : Stmt := top 36
theorem sc_law_cell_at : FnScope ["_law_script", "_law_k"] ["_law_script", "_law_k"] (defScope s_law_cell_at) := by walk_at "sc"
theorem ok_law_cell_at (T : Txt K mg A) (F : Fun K "_law_cell_at" "_law_cell_at" s_law_cell_at f fd) : FnOk P w K mg base CX0 1 f fd ["_law_script", "_law_k"] (PureSp K (S_cell)) := by
  refine okD F sc_law_cell_at (by walk_at "ln") fun _ _ _ _ _ _ hr ds Q h => ?_
  obtain ⟨ns, k, rfl, hk, q⟩ := h
  refine ⟨_, (dss_cons (ds_if (dt_cmp (o_lt) (dv 1) (de_len rfl T.len (dv 0)) (nomark _)) (dss_one (ds_ret (de_ix (dv 0) (dv 1) (fun _ _ => rfl)))) dss_nil)
  (dss_one (ds_ret de_int))), ?_⟩
  walk_at "rd"
  refine ite2 (fun hlt => ?_) (fun _ => q 0)
  have hlt : k < (ns.map Dt.int).length := of_decide_eq_true hlt
  rw [List.length_map] at hlt
  exact ⟨_, rfl, _, rfl, _, _, _, rfl, rfl, atI_row hk hlt, q _⟩
abbrev s_has_figures_alone_texts : Stmt := top 29
theorem sc_has_figures_alone_texts : FnScope ["text", "sign"] ["text"] (defScope s_has_figures_alone_texts) := by walk_at "sc"
theorem ok_has_figures_alone_texts (T : Txt K mg A) (F : Fun K "has_figures_alone" "has_figures_alone" s_has_figures_alone_texts f fd) : FnOk P w K mg base CX0 1 f fd ["text"] (PureSp K (S_alone)) := by
  refine okD F sc_has_figures_alone_texts (by walk_at "ln") fun _ _ _ _ _ _ hr ds Q h => ?_
  obtain ⟨x, rfl, hx, q⟩ := h
  refine ⟨_, (dss_cons (ds_forT (j := 1) rfl sc_has_figures_alone_texts.nd rfl (Or.inl rfl) PassesOwn.never (dv 0) (dss_one (ds_if (dt_cmp o_notinT (dv 1) (de_gstrE rfl T.gs_FIGURES) (by with_unfolding_all rfl)) (dss_one (ds_ret de_bl)) dss_nil)))
  (dss_one (ds_ret de_bl))), ?_⟩
  refine ⟨_, rfl, x, fun i ρ => ∃ v, ρ = [.some (.str x), v] ∧ ∀ c ∈ (tl x).take i, figB c = true, rfl, asc_all hx, ⟨_, rfl, fun c hc => by cases hc⟩, ?_, ?_⟩
  · rintro i c ρ' hc ⟨v, rfl, hb⟩
    have hc' : (tl x)[i]? = some c := by unfold tl; rw [Array.getElem?_toList]; exact hc
    refine ⟨_, rfl, _, _, rfl, rfl, _, rfl, ?_⟩
    rw [occ_fig]
    refine ifB (fun h => ?_) (fun h => ⟨_, rfl, fun c' hc2 => ?_⟩)
    · have : allFg x = false := by
        rw [← Bool.not_eq_true]
        intro z
        have := List.all_eq_true.mp z c (List.mem_of_getElem? hc')
        unfold figB at this
        rw [this] at h; cases h
      rw [this] at q
      exact q
    · rw [List.take_succ, hc'] at hc2
      rcases List.mem_append.mp hc2 with h2 | h2
      · exact hb c' h2
      · rw [List.mem_singleton.mp h2]
        exact of_nF h
  · rintro ρ' ⟨v, rfl, hb⟩
    have : allFg x = true := List.all_eq_true.mpr fun c hc => hb c (by
      rw [List.take_of_length_le (by unfold tl; simp)]; exact hc)
    rw [this] at q
    exact q
abbrev s_whole_read : Stmt := top 31
theorem sc_whole_read : FnScope ["text", "figures"] ["text"] (defScope s_whole_read) := by walk_at "sc"
theorem ok_whole_read (T : Txt K mg A) (G_has_figures_alone_texts : DOk P w K mg base 1 "has_figures_alone_texts" (S_alone)) (F : Fun K "whole_read" "whole_read" s_whole_read f fd) : FnOk P w K mg base (CX1 P w) 2 f fd ["text"] (PureSpX K (S_wread A)) := by
  refine okDX F sc_whole_read (by walk_at "ln") fun _ _ _ _ _ _ hr ds Q R h rz => ?_
  obtain ⟨x, rfl, hx, hl, q, hR⟩ := h
  refine ⟨_, (dss_cons (ds_set (i := 1) sc_whole_read.nd rfl (Or.inl rfl) (de_ifExp (dt_val (de_starts (dv 0) de_str)) (de_sliceT (dv 0) (do_some de_int) do_none) (dv 0)))
  (dss_join (ds_if (DW.dt (dw_or (dt_cmp (o_eqS) (dv 1) de_str (nomark _)) (dw_or (dt_cmp (o_gt) (de_lenS rfl T.len (dv 1)) de_int (nomark _)) (dw_or1 (dt_not (dt_val (de_call G_has_figures_alone_texts (hr.mono (by decide)) rfl (da_cons (dv 1) da_nil)))))))) (dss_one (ds_raise rfl rfl T.gc_NoText T.ex_NoText de_str)) dss_nil)
  (dss_join (ds_if (DW.dt (dw_and (dt_cmp (o_eqS) (de_itS (dv 1) de_int) de_str (nomark _)) (dw_and1 (dt_cmp (o_neS) (dv 0) de_str (nomark _))))) (dss_one (ds_raise rfl rfl T.gc_NoText T.ex_NoText de_str)) dss_nil)
  (dss_one (ds_ret (de_intS rfl T.n_int (dv 0))))))), ?_⟩
  have hxl := tl_len x
  have hx60 : (fg x).length ≤ 60 → x.length ≤ 61 := fun h => by
    rw [← hxl]
    rcases fg_of (x := x) rfl with ⟨e, _⟩ | e
    · rw [e]; omega
    · rw [e, List.length_cons]; omega
  refine ⟨_, rfl, _, rfl, by omega, _, rfl, _, rfl, ?_⟩
  rw [starts_dash]
  refine ifB (fun h => ?_) (fun h => ?_)
  · have h := of_decide_eq_true h
    have h1 : 1 ≤ (tl x).length := by
      cases e : tl x with
      | nil => rw [e] at h; cases h
      | cons c r => rw [List.length_cons]; omega
    refine ⟨_, rfl, _, rfl, _, rfl, by omega, ?_⟩
    obtain ⟨f, hf⟩ : ∃ f, Txt.slice x (some 1) none = f := ⟨_, rfl⟩
    have t1 : tl f = fg x := by rw [← hf, slice_from (by decide) (by omega)]; unfold fg; rw [if_pos h]; rfl
    have a1 : asc f := hf ▸ asc_slice hx
    have l1 : f.length ≤ 5000 := by have := slice_len x (some 1) none; rw [hf] at this; omega
    rw [hf]
    have hfl := tl_len f
    refine ⟨fun ρ => ρ = [.some (.str x), .some (.str f)] ∧ fg x ≠ [] ∧ (fg x).length ≤ 60 ∧ ∀ c ∈ fg x, isDg c, ?_, ?_⟩
    · refine ⟨_, rfl, _, _, rfl, rfl, _, rfl, ?_⟩
      rw [str_nil, t1]
      refine ifB (fun h => ifT rfl (rz _ (hR (wv_none fun z => ((numl_iff rfl).mp z.1).1 (of_decide_eq_true h))))) (fun h => ?_)
      refine ⟨_, rfl, _, rfl, by omega, _, _, rfl, rfl, _, rfl, ifB (fun h2 => ifT rfl (rz _ (hR (wv_none fun z => ?_)))) (fun h2 => ?_)⟩
      · have h2 : (60 : Int) < (f.length : Int) := of_decide_eq_true h2
        have := z.2
        rw [← t1] at this
        omega
      have h2 : ¬ (60 : Int) < (f.length : Int) := of_decide_eq_false h2
      refine ⟨_, rfl, f, rfl, a1, _, rfl, ifB (fun h3 => (rz _ (hR (wv_none fun z => ?_)))) (fun h3 => ⟨rfl, of_decide_eq_false h, by rw [← t1]; omega, by rw [← t1]; exact allFg_iff.mp (of_nF h3)⟩)⟩
      have z2 := ((numl_iff rfl).mp z.1).2.1
      rw [← t1] at z2
      rw [allFg_iff.mpr z2] at h3
      cases h3
    rintro ρ ⟨rfl, f1, f2, f3⟩
    obtain ⟨c, r, ec⟩ : ∃ c r, fg x = c :: r := by
      cases e : fg x with
      | nil => exact absurd e f1
      | cons c r => exact ⟨c, r, rfl⟩
    refine ⟨fun ρ => ρ = [.some (.str x), .some (.str f)] ∧ (c = 48 → tl x = [48]), ?_, ?_⟩
    · refine ⟨_, rfl, _, _, c, rfl, rfl, by decide, by decide, by rw [← tl_len, t1, ec, List.length_cons]; omega, cps_head (t1.trans ec), _, _, rfl, rfl, _, rfl, ?_⟩
      rw [one_nought]
      refine ifB (fun h => ?_) (fun h => ifF rfl ⟨rfl, fun z => absurd z (of_decide_eq_false h)⟩)
      refine ⟨_, rfl, _, _, rfl, rfl, _, rfl, ?_⟩
      rw [is_nought]
      refine ifB (fun h2 => rz _ (hR (wv_none fun z => ?_))) (fun h2 => ⟨rfl, fun _ => of_decide_eq_true (of_nF h2)⟩)
      have z3 := ((numl_iff rfl).mp z.1).2.2 (by rw [ec, of_decide_eq_true h]; rfl)
      rw [decide_eq_true z3] at h2
      cases h2
    rintro ρ ⟨rfl, hc⟩
    have hn : Numl (tl x) := (numl_iff rfl).mpr ⟨f1, f3, fun z => hc (by rw [ec] at z; exact Option.some.inj z)⟩
    exact ⟨_, rfl, x, rfl, hn, by show (tl x).length ≤ 640; rw [hxl]; have := hx60 f2; omega, q _ (wv_some hn f2)⟩
  · refine ⟨_, rfl, ?_⟩
    have t1 : tl x = fg x := by unfold fg; rw [if_neg (of_decide_eq_false h)]
    have a1 := hx
    have l1 := hl
    have hfl := tl_len x
    refine ⟨fun ρ => ρ = [.some (.str x), .some (.str x)] ∧ fg x ≠ [] ∧ (fg x).length ≤ 60 ∧ ∀ c ∈ fg x, isDg c, ?_, ?_⟩
    · refine ⟨_, rfl, _, _, rfl, rfl, _, rfl, ?_⟩
      rw [str_nil, t1]
      refine ifB (fun h => ifT rfl (rz _ (hR (wv_none fun z => ((numl_iff rfl).mp z.1).1 (of_decide_eq_true h))))) (fun h => ?_)
      refine ⟨_, rfl, _, rfl, by omega, _, _, rfl, rfl, _, rfl, ifB (fun h2 => ifT rfl (rz _ (hR (wv_none fun z => ?_)))) (fun h2 => ?_)⟩
      · have h2 : (60 : Int) < (x.length : Int) := of_decide_eq_true h2
        have := z.2
        rw [← t1] at this
        omega
      have h2 : ¬ (60 : Int) < (x.length : Int) := of_decide_eq_false h2
      refine ⟨_, rfl, x, rfl, a1, _, rfl, ifB (fun h3 => (rz _ (hR (wv_none fun z => ?_)))) (fun h3 => ⟨rfl, of_decide_eq_false h, by rw [← t1]; omega, by rw [← t1]; exact allFg_iff.mp (of_nF h3)⟩)⟩
      have z2 := ((numl_iff rfl).mp z.1).2.1
      rw [← t1] at z2
      rw [allFg_iff.mpr z2] at h3
      cases h3
    rintro ρ ⟨rfl, f1, f2, f3⟩
    obtain ⟨c, r, ec⟩ : ∃ c r, fg x = c :: r := by
      cases e : fg x with
      | nil => exact absurd e f1
      | cons c r => exact ⟨c, r, rfl⟩
    refine ⟨fun ρ => ρ = [.some (.str x), .some (.str x)] ∧ (c = 48 → tl x = [48]), ?_, ?_⟩
    · refine ⟨_, rfl, _, _, c, rfl, rfl, by decide, by decide, by rw [← tl_len, t1, ec, List.length_cons]; omega, cps_head (t1.trans ec), _, _, rfl, rfl, _, rfl, ?_⟩
      rw [one_nought]
      refine ifB (fun h => ?_) (fun h => ifF rfl ⟨rfl, fun z => absurd z (of_decide_eq_false h)⟩)
      refine ⟨_, rfl, _, _, rfl, rfl, _, rfl, ?_⟩
      rw [is_nought]
      refine ifB (fun h2 => rz _ (hR (wv_none fun z => ?_))) (fun h2 => ⟨rfl, fun _ => of_decide_eq_true (of_nF h2)⟩)
      have z3 := ((numl_iff rfl).mp z.1).2.2 (by rw [ec, of_decide_eq_true h]; rfl)
      rw [decide_eq_true z3] at h2
      cases h2
    rintro ρ ⟨rfl, hc⟩
    have hn : Numl (tl x) := (numl_iff rfl).mpr ⟨f1, f3, fun z => hc (by rw [ec] at z; exact Option.some.inj z)⟩
    exact ⟨_, rfl, x, rfl, hn, by show (tl x).length ≤ 640; rw [hxl]; have := hx60 f2; omega, q _ (wv_some hn f2)⟩
abbrev s_is_whole : Stmt := top 7
theorem sc_is_whole : FnScope ["value"] ["value"] (defScope s_is_whole) := by walk_at "sc"
theorem ok_is_whole (T : Txt K mg A) (F : Fun K "is_whole" "is_whole" s_is_whole f fd) : FnOk P w K mg base CX0 1 f fd ["value"] (PureSp K (S_whole)) := by
  refine okD F sc_is_whole (by walk_at "ln") fun _ _ _ _ _ _ hr ds Q h => ?_
  obtain ⟨d, b, rfl, hw, q⟩ := h
  refine ⟨_, (dss_one (ds_ret (de_and (de_isi (T := .int) T.kt T.isinstance T.n_int PyProof.Rows.boot_int (dv 0)) (de_one (de_not (de_isi (T := .bool) T.kt T.isinstance T.n_bool PyProof.Rows.boot_bool (dv 0))))))), ?_⟩
  cases d <;> cases hw
  all_goals
    walk_at "rd"
    exact q
abbrev s_bounded : Stmt := top 12
theorem sc_bounded : FnScope ["number", "least", "most"] ["number", "least", "most"] (defScope s_bounded) := by walk_at "sc"
theorem ok_bounded (T : Txt K mg A) (G_is_whole : DOk P w K mg base 1 "is_whole" (S_whole)) (F : Fun K "bounded" "bounded" s_bounded f fd) : FnOk P w K mg base CX0 2 f fd ["number", "least", "most"] (PureSp K (S_bounded)) := by
  refine okD F sc_bounded (by walk_at "ln") fun _ _ _ _ _ _ hr ds Q h => ?_
  obtain ⟨n, lo, hi, rfl, h1, h2, q⟩ := h
  refine ⟨_, (dss_cons (ds_if (DW.dt (dw_or (dt_not (dt_val (de_call G_is_whole (hr.mono (by decide)) rfl (da_cons (dv 0) da_nil)))) (dw_or (dt_cmp (o_lt) (dv 0) (dv 1) (nomark _)) (dw_or1 (dt_cmp (o_gt) (dv 0) (dv 2) (nomark _)))))) (dss_one ds_never) dss_nil)
  (dss_one (ds_ret (dv 0)))), ?_⟩
  walk_at "rd"
  rw [decide_eq_false (by omega : ¬ n < lo)]
  walk_at "rd"
  rw [decide_eq_false (by omega : ¬ hi < n)]
  walk_at "rd"
  exact q
abbrev s_Plain_init : Stmt := inClass (top 14) 0
theorem sc_Plain_init : FnScope ["self", "base"] ["self", "base"] (defScope s_Plain_init) := by walk_at "sc"
theorem ok_Plain_init (T : Txt K mg A) (G_bounded : DOk P w K mg base 2 "bounded" (S_bounded)) (F : Fun K "__init__" "Plain.__init__" s_Plain_init f fd) : FnOk P w K mg base CX0 3 f fd ["self", "base"] (spInitW A.Plain "base" (Kd.ok .plain)) := by
  refine init_ok F sc_Plain_init T.cl_Plain T.na_Plain (fun cdv A outer s H E hr => ?_)
  obtain ⟨te, p, l⟩ := ((de_call G_bounded (hr.mono (by decide)) rfl (da_cons (dv 1) (da_cons de_int (da_cons de_int da_nil)))) : DE (cxOf CX0 P w K mg base ["self", "base"] "Plain.__init__" (defScope s_Plain_init) f cdv A outer s H E).nox _ _)
  refine ⟨te, _, pss_one (ps_fld (pv 0) p rfl), l, fun i hi => ?_⟩
  exact ⟨_, rfl, _, _, _, rfl, hi.1, hi.2, rfl⟩
abbrev s_Below_init : Stmt := inClass (top 15) 0
theorem sc_Below_init : FnScope ["self", "base"] ["self", "base"] (defScope s_Below_init) := by walk_at "sc"
theorem ok_Below_init (T : Txt K mg A) (G_bounded : DOk P w K mg base 2 "bounded" (S_bounded)) (F : Fun K "__init__" "Below.__init__" s_Below_init f fd) : FnOk P w K mg base CX0 3 f fd ["self", "base"] (spInitW A.Below "base" (Kd.ok .below)) := by
  refine init_ok F sc_Below_init T.cl_Below T.na_Below (fun cdv A outer s H E hr => ?_)
  obtain ⟨te, p, l⟩ := ((de_call G_bounded (hr.mono (by decide)) rfl (da_cons (dv 1) (da_cons de_int (da_cons de_int da_nil)))) : DE (cxOf CX0 P w K mg base ["self", "base"] "Below.__init__" (defScope s_Below_init) f cdv A outer s H E).nox _ _)
  refine ⟨te, _, pss_one (ps_fld (pv 0) p rfl), l, fun i hi => ?_⟩
  exact ⟨_, rfl, _, _, _, rfl, hi.1, hi.2, rfl⟩
abbrev s_Balanced_init : Stmt := inClass (top 16) 0
theorem sc_Balanced_init : FnScope ["self", "half"] ["self", "half"] (defScope s_Balanced_init) := by walk_at "sc"
theorem ok_Balanced_init (T : Txt K mg A) (G_bounded : DOk P w K mg base 2 "bounded" (S_bounded)) (F : Fun K "__init__" "Balanced.__init__" s_Balanced_init f fd) : FnOk P w K mg base CX0 3 f fd ["self", "half"] (spInitW A.Balanced "half" (Kd.ok .balanced)) := by
  refine init_ok F sc_Balanced_init T.cl_Balanced T.na_Balanced (fun cdv A outer s H E hr => ?_)
  obtain ⟨te, p, l⟩ := ((de_call G_bounded (hr.mono (by decide)) rfl (da_cons (dv 1) (da_cons de_int (da_cons de_int da_nil)))) : DE (cxOf CX0 P w K mg base ["self", "half"] "Balanced.__init__" (defScope s_Balanced_init) f cdv A outer s H E).nox _ _)
  refine ⟨te, _, pss_one (ps_fld (pv 0) p rfl), l, fun i hi => ?_⟩
  exact ⟨_, rfl, _, _, _, rfl, hi.1, hi.2, rfl⟩
abbrev s_Growing_init : Stmt := inClass (top 17) 0
theorem sc_Growing_init : FnScope ["self", "first"] ["self", "first"] (defScope s_Growing_init) := by walk_at "sc"
theorem ok_Growing_init (T : Txt K mg A) (G_bounded : DOk P w K mg base 2 "bounded" (S_bounded)) (F : Fun K "__init__" "Growing.__init__" s_Growing_init f fd) : FnOk P w K mg base CX0 3 f fd ["self", "first"] (spInitW A.Growing "first" (Kd.ok .growing)) := by
  refine init_ok F sc_Growing_init T.cl_Growing T.na_Growing (fun cdv A outer s H E hr => ?_)
  obtain ⟨te, p, l⟩ := ((de_call G_bounded (hr.mono (by decide)) rfl (da_cons (dv 1) (da_cons de_int (da_cons de_int da_nil)))) : DE (cxOf CX0 P w K mg base ["self", "first"] "Growing.__init__" (defScope s_Growing_init) f cdv A outer s H E).nox _ _)
  refine ⟨te, _, pss_one (ps_fld (pv 0) p rfl), l, fun i hi => ?_⟩
  exact ⟨_, rfl, _, _, _, rfl, hi.1, hi.2, rfl⟩
abbrev s_Falling_init : Stmt := inClass (top 18) 0
theorem sc_Falling_init : FnScope ["self", "most"] ["self", "most"] (defScope s_Falling_init) := by walk_at "sc"
theorem ok_Falling_init (T : Txt K mg A) (G_bounded : DOk P w K mg base 2 "bounded" (S_bounded)) (F : Fun K "__init__" "Falling.__init__" s_Falling_init f fd) : FnOk P w K mg base CX0 3 f fd ["self", "most"] (spInitW A.Falling "most" (Kd.ok .falling)) := by
  refine init_ok F sc_Falling_init T.cl_Falling T.na_Falling (fun cdv A outer s H E hr => ?_)
  obtain ⟨te, p, l⟩ := ((de_call G_bounded (hr.mono (by decide)) rfl (da_cons (dv 1) (da_cons de_int (da_cons de_int da_nil)))) : DE (cxOf CX0 P w K mg base ["self", "most"] "Falling.__init__" (defScope s_Falling_init) f cdv A outer s H E).nox _ _)
  refine ⟨te, _, pss_one (ps_fld (pv 0) p rfl), l, fun i hi => ?_⟩
  exact ⟨_, rfl, _, _, _, rfl, hi.1, hi.2, rfl⟩
abbrev s_Pairs_init : Stmt := inClass (top 19) 0
theorem sc_Pairs_init : FnScope ["self", "most"] ["self", "most"] (defScope s_Pairs_init) := by walk_at "sc"
theorem ok_Pairs_init (T : Txt K mg A) (G_bounded : DOk P w K mg base 2 "bounded" (S_bounded)) (F : Fun K "__init__" "Pairs.__init__" s_Pairs_init f fd) : FnOk P w K mg base CX0 3 f fd ["self", "most"] (spInitW A.Pairs "most" (Kd.ok .pairs)) := by
  refine init_ok F sc_Pairs_init T.cl_Pairs T.na_Pairs (fun cdv A outer s H E hr => ?_)
  obtain ⟨te, p, l⟩ := ((de_call G_bounded (hr.mono (by decide)) rfl (da_cons (dv 1) (da_cons de_int (da_cons de_int da_nil)))) : DE (cxOf CX0 P w K mg base ["self", "most"] "Pairs.__init__" (defScope s_Pairs_init) f cdv A outer s H E).nox _ _)
  refine ⟨te, _, pss_one (ps_fld (pv 0) p rfl), l, fun i hi => ?_⟩
  exact ⟨_, rfl, _, _, _, rfl, hi.1, hi.2, rfl⟩
abbrev s_way_made : Stmt := top 33
theorem sc_way_made : FnScope ["name", "number"] ["name", "number"] (defScope s_way_made) := by walk_at "sc"
theorem ok_way_made (T : Txt K mg A) (M_Plain : KOk P w K mg base 3 "Plain" A.Plain "base" (Kd.ok .plain)) (M_Below : KOk P w K mg base 3 "Below" A.Below "base" (Kd.ok .below)) (M_Balanced : KOk P w K mg base 3 "Balanced" A.Balanced "half" (Kd.ok .balanced)) (M_Growing : KOk P w K mg base 3 "Growing" A.Growing "first" (Kd.ok .growing)) (M_Falling : KOk P w K mg base 3 "Falling" A.Falling "most" (Kd.ok .falling)) (M_Pairs : KOk P w K mg base 3 "Pairs" A.Pairs "most" (Kd.ok .pairs)) (F : Fun K "way_made" "way_made" s_way_made f fd) : FnOk P w K mg base CX0 5 f fd ["name", "number"] (PureSp K (S_wmade A)) := by
  refine okD F sc_way_made (by walk_at "ln") fun _ _ _ _ _ _ hr ds Q h => ?_
  obtain ⟨k, n, rfl, hn, q⟩ := h
  refine ⟨_, (dss_cons (ds_if (dt_cmp (o_eqS) (dv 0) de_str (nomark _)) (dss_one (ds_ret (de_make M_Plain (hr.mono (by decide)) rfl (da_cons (dv 1) da_nil)))) dss_nil)
  (dss_cons (ds_if (dt_cmp (o_eqS) (dv 0) de_str (nomark _)) (dss_one (ds_ret (de_make M_Below (hr.mono (by decide)) rfl (da_cons (dv 1) da_nil)))) dss_nil)
  (dss_cons (ds_if (dt_cmp (o_eqS) (dv 0) de_str (nomark _)) (dss_one (ds_ret (de_make M_Balanced (hr.mono (by decide)) rfl (da_cons (dv 1) da_nil)))) dss_nil)
  (dss_cons (ds_if (dt_cmp (o_eqS) (dv 0) de_str (nomark _)) (dss_one (ds_ret (de_make M_Growing (hr.mono (by decide)) rfl (da_cons (dv 1) da_nil)))) dss_nil)
  (dss_cons (ds_if (dt_cmp (o_eqS) (dv 0) de_str (nomark _)) (dss_one (ds_ret (de_make M_Falling (hr.mono (by decide)) rfl (da_cons (dv 1) da_nil)))) dss_nil)
  (dss_cons (ds_if (dt_cmp (o_eqS) (dv 0) de_str (nomark _)) (dss_one (ds_ret (de_make M_Pairs (hr.mono (by decide)) rfl (da_cons (dv 1) da_nil)))) dss_nil)
  (dss_one ds_never))))))), ?_⟩
  cases k
  all_goals
    walk_at "rd"
    exact ⟨hn, q⟩
abbrev s_way_read : Stmt := top 34
theorem sc_way_read : FnScope ["text", "name", "number"] ["text"] (defScope s_way_read) := by walk_at "sc"
theorem ok_way_read (T : Txt K mg A) (G_whole_read : DOkX P w K mg base 2 "whole_read" (S_wread A)) (G_way_made : DOk P w K mg base 5 "way_made" (S_wmade A)) (F : Fun K "way_read" "way_read" s_way_read f fd) : FnOk P w K mg base CX0 6 f fd ["text"] (PureSp K (S_waytx A)) := by
  refine okD F sc_way_read (by walk_at "ln") fun _ _ _ _ _ _ hr ds Q h => ?_
  obtain ⟨k, n, rfl, hn, q⟩ := h
  refine ⟨_, (dss_cons (ds_set (i := 1) sc_way_read.nd rfl (Or.inl rfl) (de_rstripC (dv 0) (de_gstrE rfl T.gs_FIGURES)))
  (dss_cons (ds_set (i := 2) sc_way_read.nd rfl (Or.inl rfl) (de_callX G_whole_read (hr.mono (by decide)) rfl (da_cons (de_sliceT (dv 0) (do_some (de_lenS rfl T.len (dv 1))) do_none) da_nil)))
  (dss_one (ds_tryRetN (de_call G_way_made (hr.mono (by decide)) rfl (da_cons (dv 1) (da_cons (dv 2) da_nil))))))), ?_⟩
  obtain ⟨b1, b2⟩ := ok_bd hn
  obtain ⟨m, rfl⟩ : ∃ m : Nat, n = m := ⟨n.toNat, by omega⟩
  have m1 : 1 ≤ m := by obtain ⟨x1, _⟩ := hn; cases k <;> simp only [Kd.lo] at x1 <;> omega
  have m2 : m ≤ 60 := by obtain ⟨_, x1⟩ := hn; cases k <;> simp only [Kd.hi] at x1 <;> omega
  have es : shw (m : Int) = ⟨(dg m).toArray⟩ := str_ext (by unfold shw; rw [tl_nat]; rfl)
  have hst : Txt.rstripChars (k.nam ++ shw (m : Int)) (Str.ofString "0123456789") = k.nam := by
    rw [es]
    exact nam_strip ⟨m, by omega⟩ m1 k.nam (by cases k <;> simp [Kd.nam])
  have ln : k.nam.length ≤ 8 := by cases k <;> decide +kernel
  have lw := shw_len (k := 2) (m : Int) (by decide) (by rw [Int.natAbs_natCast]; omega)
  have le : ∀ u v : Str, (u ++ v).length = u.length + v.length := fun u v => by rw [← tl_len, tl_app, List.length_append, tl_len, tl_len]
  have hsl : Txt.slice (k.nam ++ shw (m : Int)) (some (k.nam.length : Int)) none = shw (m : Int) := str_ext (by
    rw [slice_from (by omega) (by rw [tl_app, List.length_append, tl_len]; omega), tl_app, Int.toNat_natCast, ← tl_len, List.drop_left])
  refine ⟨_, rfl, _, rfl, by rw [le]; omega, _, rfl, ?_⟩
  dsimp only
  rw [hst]
  refine ⟨_, rfl, _, rfl, _, rfl, by omega, _, rfl, _, rfl, by rw [le]; omega, ?_⟩
  rw [hsl]
  refine ⟨_, rfl, shw_asc _, by omega, fun i hi => ?_, fun hnone => ?_⟩
  · rw [wv_nat m1 m2] at hi
    cases hi
    exact ⟨_, rfl, _, rfl, k, _, rfl, hn, q⟩
  · rw [wv_nat m1 m2] at hnone
    cases hnone
abbrev s_law_low : Stmt := top 38
theorem sc_law_low : FnScope ["_law_way_here"] ["_law_way_here"] (defScope s_law_low) := by walk_at "sc"
theorem ok_law_low (T : Txt K mg A) (F : Fun K "_law_low" "_law_low" s_law_low f fd) : FnOk P w K mg base CX0 1 f fd ["_law_way_here"] (PureSp K (S_lowN)) := by
  refine okD F sc_law_low (by walk_at "ln") fun _ _ _ _ _ _ hr ds Q h => ?_
  obtain ⟨k, n, rfl, q⟩ := h
  refine ⟨_, (dss_cons (ds_if (dt_cmp (o_eqS) (de_ix (dv 0) de_int (fun _ _ => rfl)) de_str (nomark _)) (dss_one (ds_ret (de_op o_sub de_int (de_ix (dv 0) de_int (fun _ _ => rfl))))) dss_nil)
  (dss_one (ds_ret de_int))), ?_⟩
  have e0 : (0 : Int) - n = -n := by omega
  cases k
  all_goals
    walk_at "rd"
    first
    | exact q
    | (dsimp only; rw [e0]; exact q)
abbrev s_law_high : Stmt := top 39
theorem sc_law_high : FnScope ["_law_way_here", "_law_place"] ["_law_way_here", "_law_place"] (defScope s_law_high) := by walk_at "sc"
theorem ok_law_high (T : Txt K mg A) (F : Fun K "_law_high" "_law_high" s_law_high f fd) : FnOk P w K mg base CX0 1 f fd ["_law_way_here", "_law_place"] (PureSp K (S_highN)) := by
  refine okD F sc_law_high (by walk_at "ln") fun _ _ _ _ _ _ hr ds Q h => ?_
  obtain ⟨k, n, p, rfl, hn, q⟩ := h
  refine ⟨_, (dss_cons (ds_if (dt_cmp o_inS (de_ix (dv 0) de_int (fun _ _ => rfl)) (de_tup (da_cons de_str (da_cons de_str da_nil))) (by with_unfolding_all rfl)) (dss_one (ds_ret (de_op o_sub (de_ix (dv 0) de_int (fun _ _ => rfl)) de_int))) dss_nil)
  (dss_cons (ds_if (dt_cmp (o_eqS) (de_ix (dv 0) de_int (fun _ _ => rfl)) de_str (nomark _)) (dss_one (ds_ret (de_op o_sub (de_op o_add (de_ix (dv 0) de_int (fun _ _ => rfl)) (dv 1)) de_int))) dss_nil)
  (dss_cons (ds_if (dt_cmp (o_eqS) (de_ix (dv 0) de_int (fun _ _ => rfl)) de_str (nomark _)) (dss_one (ds_ret (de_op o_mul (de_ix (dv 0) de_int (fun _ _ => rfl)) (de_ix (dv 0) de_int (fun _ _ => rfl))))) dss_nil)
  (dss_one (ds_ret (de_ix (dv 0) de_int (fun _ _ => rfl))))))), ?_⟩
  obtain ⟨b1, b2⟩ := ok_bd hn
  cases k
  all_goals
    repeat (first | (walk_at "rd1") | refine ⟨small (by omega) (by omega) _, ?_⟩)
    exact q
abbrev s_law_drawn : Stmt := top 40
theorem sc_law_drawn : FnScope ["_law_way_here", "_law_cells", "_law_row", "_law_cell", "_law_mixed", "_law_low_here", "_law_high_here", "_law_free", "_law_figure"] ["_law_way_here", "_law_cells"] (defScope s_law_drawn) := by walk_at "sc"
theorem ok_law_drawn (T : Txt K mg A) (G__law_low : DOk P w K mg base 1 "_law_low" (S_lowN)) (G__law_high : DOk P w K mg base 1 "_law_high" (S_highN)) (F : Fun K "_law_drawn" "_law_drawn" s_law_drawn f fd) : FnOk P w K mg base CX0 2 f fd ["_law_way_here", "_law_cells"] (FreshSp K (S_drawn)) := by
  refine okF F sc_law_drawn (by walk_at "ln") fun _ _ _ _ _ _ hr ds Q h => ?_
  obtain ⟨k, n, cs, rfl, hn, hl, q⟩ := h
  refine ⟨_, (dss_cons (ds_setO (i := 2) sc_law_drawn.nd rfl (Or.inl rfl) (df_lst da_nil))
  (dss_cons (ds_for (j := 3) rfl sc_law_drawn.nd rfl (Or.inl rfl) PassesOwn.never (dv 1) (dss_cons (ds_set (i := 4) sc_law_drawn.nd rfl (Or.inl rfl) (de_op o_mod (de_op o_mul (dv 3) de_int) de_int))
  (dss_cons (ds_set (i := 5) sc_law_drawn.nd rfl (Or.inl rfl) (de_call G__law_low (hr.mono (by decide)) rfl (da_cons (dv 0) da_nil)))
  (dss_cons (ds_set (i := 6) sc_law_drawn.nd rfl (Or.inl rfl) (de_call G__law_high (hr.mono (by decide)) rfl (da_cons (dv 0) (da_cons (de_lenO 2 rfl T.len) da_nil))))
  (dss_cons (ds_set (i := 7) sc_law_drawn.nd rfl (Or.inl rfl) (de_op o_add (dv 5) (de_op o_mod (de_op o_fdiv (dv 4) de_int) (de_op o_add (de_op o_sub (dv 6) (dv 5)) de_int))))
  (dss_cons (ds_set (i := 8) sc_law_drawn.nd rfl (Or.inl rfl) (de_ix (de_lst (da_cons (dv 5) (da_cons (dv 6) (da_cons de_int (da_cons (dv 7) (da_cons (dv 7) (da_cons (dv 7) (da_cons (dv 7) da_nil)))))))) (de_op o_mod (dv 4) de_int) (fun _ _ => rfl)))
  (dss_join (ds_if (DW.dt (dw_and (dt_cmp (o_eqS) (de_ix (dv 0) de_int (fun _ _ => rfl)) de_str (nomark _)) (dw_and (dt_cmp (o_eq hr) (dv 8) (de_ix (dv 0) de_int (fun _ _ => rfl)) (nomark _)) (dw_and (dt_cmp (o_gt) (de_lenO 2 rfl T.len) de_int (nomark _)) (dw_and1 (dt_cmp (o_ne hr) (de_ixO 2 (de_neg de_int) (fun _ _ => rfl)) de_int (nomark _))))))) (dss_one (ds_set (i := 8) sc_law_drawn.nd rfl (Or.inl rfl) (de_op o_sub (de_ix (dv 0) de_int (fun _ _ => rfl)) de_int))) dss_nil)
  (dss_one (ds_app 2 (dv 8))))))))))
  (dss_cons (ds_while PassesOwn.never (dt_bor (DW.dt (dw_and (dt_cmp (o_ne hr) (dv 2) (de_lst da_nil) (nomark _)) (dw_and1 (dt_cmp (o_eq hr) (de_ix (dv 2) (de_neg de_int) (fun _ _ => rfl)) de_int (nomark _)))))) (dss_one (ds_pop 2)))
  (dss_one (ds_retO 2))))), ?_⟩
  have ll := len_ints cs
  obtain ⟨b1, b2⟩ := ok_bd hn
  walk_at "rd"
  refine ⟨_, fun i ρ => ∃ (r : List Int) (v3 v4 v5 v6 v7 v8 : Sl), ρ = [.some (wayT k n), .some (rowD cs), .own (r.map Dt.int), v3, v4, v5, v6, v7, v8] ∧ r.length = i ∧ Lg k n r, rfl, ⟨[], _, _, _, _, _, _, rfl, rfl, Lg.nil k n⟩, ?_, ?_⟩
  · rintro i e ρ' he ⟨r, v3, v4, v5, v6, v7, v8, rfl, hlr, hL⟩
    have he : (cs.map Dt.int)[i]? = some e := he
    rw [List.getElem?_map] at he
    obtain ⟨c, hc, rfl⟩ := Option.map_eq_some_iff.mp he
    have hi : i < cs.length := (List.getElem?_eq_some_iff.mp hc).1
    have lr := len_ints r
    refine ⟨_, rfl, _, _, rfl, rfl, small (by decide) (by decide) _, _, _, rfl, rfl, cmodN (by decide), ?_⟩
    dsimp only
    generalize (c * 48271).fmod 2147483647 = m
    refine ⟨_, rfl, k, n, rfl, ?_⟩
    refine ⟨_, rfl, _, rfl, k, n, _, rfl, hn, ?_⟩
    rw [lr, hlr]
    have el : k.low n 0 = k.low n i := by cases k <;> rfl
    rw [el]
    obtain ⟨l1, l2⟩ := low_le hn i
    have hp0 : (0 : Int) < k.high n i - k.low n i + 1 := by omega
    have f0 := Int.fmod_nonneg_of_pos (m.fdiv 7) hp0
    have f1 := Int.fmod_lt_of_pos (m.fdiv 7) hp0
    obtain ⟨g, eg, hg⟩ := seven_fig (m := m) l1 l2 (f := k.low n i + (m.fdiv 7).fmod (k.high n i - k.low n i + 1)) (by omega) (by omega)
    walk_at "rd"
    refine ⟨(by show k.high n i - k.low n i + 1 ≠ 0; omega), ?_⟩
    walk_at "rd"
    refine ⟨_, _, _, rfl, rfl, eg, ?_⟩
    refine ⟨fun ρ => ∃ (g' : Int) (v3 v4 v5 v6 v7 : Sl), ρ = [.some (wayT k n), .some (rowD cs), .own (r.map Dt.int), v3, v4, v5, v6, v7, .some (.int g')] ∧ Lg k n (r ++ [g']), ?_, ?_⟩
    · refine ⟨_, rfl, _, _, _, rfl, rfl, rfl, _, _, rfl, rfl, _, rfl, ?_⟩
      have hg' : k.low n r.length ≤ g ∧ g ≤ k.high n r.length := by rw [hlr]; exact hg
      by_cases hk : k = .falling
      · subst hk
        refine ifT rfl ?_
        refine ⟨_, rfl, _, rfl, _, _, _, rfl, rfl, rfl, rfl, rfl, _, rfl, ifB (fun h1 => ?_) (fun h1 => ?_)⟩
        rotate_left
        · exact ifF rfl ⟨g, _, _, _, _, _, rfl, hL.push hg' fun _ e => absurd (eqI e) (by rw [h1]; exact Bool.false_ne_true)⟩
        refine ⟨_, rfl, _, _, rfl, rfl, _, rfl, ?_⟩
        rcases snoc_cases r with rfl | ⟨r', z, rfl⟩
        · exact ifF rfl (ifF rfl ⟨g, _, _, _, _, _, rfl, hL.push hg' fun _ _ => .inl rfl⟩)
        · have ez : (r' ++ [z]).getD ((r' ++ [z]).length - 1) 0 = z := by rw [List.length_append]; simp [List.getD_eq_getElem?_getD]
          refine ifT (by rw [decide_eq_true_iff, List.length_map, List.length_append]; simp) ?_
          refine ⟨_, rfl, _, rfl, _, _, rfl, atI_last, rfl, rfl, _, rfl, ?_⟩
          by_cases hz : z = 0
          · refine ifF (nT (eqI hz)) ?_
            exact ⟨g, _, _, _, _, _, rfl, hL.push hg' fun _ _ => .inr (by rw [ez]; exact hz)⟩
          · refine ifT (nF (neI hz)) ?_
            refine ⟨_, rfl, _, _, _, rfl, rfl, rfl, _, _, rfl, rfl, n - 1, _, _, _, _, _, rfl, hL.push ⟨?_, ?_⟩ fun _ e => ?_⟩
            · show (0 : Int) ≤ n - 1
              have : (1 : Int) ≤ n := hn.1
              omega
            · show n - 1 ≤ n
              omega
            · omega
      · refine ifF (by cases k <;> first | rfl | exact absurd rfl hk) (ifF rfl ⟨g, _, _, _, _, _, rfl, hL.push hg' fun hf => absurd (by cases k <;> first | rfl | cases hf) hk⟩)
    · rintro ρ ⟨g', w3, w4, w5, w6, w7, rfl, hL'⟩
      refine ⟨_, rfl, _, rfl, by rw [len_ints]; omega, r ++ [g'], w3, w4, w5, w6, w7, .some (.int g'), ?_, by rw [List.length_append, hlr]; rfl, hL'⟩
      rw [← app_ints]
      rfl
  · rintro ρ' ⟨r, v3, v4, v5, v6, v7, v8, rfl, hl0, hL⟩
    refine while_trimB rfl ?_
    have := trim_len r
    exact ⟨_, rfl, q _ hL.trim (by omega)⟩
abbrev s_whole_shown : Stmt := top 27
theorem sc_whole_shown : FnScope ["number", "limit", "parts", "rest"] ["number"] (defScope s_whole_shown) := by walk_at "sc"
theorem ok_whole_shown_0 (T : Txt K mg A) (F : Fun K "whole_shown" "whole_shown" s_whole_shown f fd) : FnOk P w K mg base CX0 1 f fd ["number"] (PureSp K (S_shown0)) := by
  refine okD F sc_whole_shown (by walk_at "ln") fun _ _ _ _ _ _ hr ds Q h => ?_
  obtain ⟨n, rfl, hn, q⟩ := h
  refine ⟨_, (dss_cons (ds_if (dt_cmp (o_lt) (dv 0) de_int (nomark _)) (dss_one ds_never) dss_nil)
  (dss_cons (ds_set (i := 1) sc_whole_shown.nd rfl (Or.inl rfl) (de_op o_pow de_int de_int))
  (dss_cons (ds_setO (i := 2) sc_whole_shown.nd rfl (Or.inl rfl) (df_lst da_nil))
  (dss_cons (ds_set (i := 3) sc_whole_shown.nd rfl (Or.inl rfl) (dv 0))
  (dss_cons (ds_while PassesOwn.never (dt_cmp (o_ge) (dv 3) (dv 1) (nomark _)) (dss_cons (ds_app 2 (de_zfill (de_strI rfl T.n_str (de_op o_mod (dv 3) (dv 1))) de_int))
  (dss_one (ds_set (i := 3) sc_whole_shown.nd rfl (Or.inl rfl) (de_op o_fdivG (dv 3) (dv 1))))))
  (dss_cons (ds_app 2 (de_strI rfl T.n_str (dv 3)))
  (dss_cons (ds_rev 2)
  (dss_frz 2 (dss_one (ds_ret (de_join de_str (dv 2)))))))))))), ?_⟩
  refine ⟨_, rfl, _, _, rfl, rfl, _, rfl, ifF (decide_eq_false (by omega)) ?_⟩
  walk_at "rd"
  refine ⟨fun r ρ => ∃ ps : List Str, ρ = [.some (.int n), .some (.int (10 ^ Int.toNat 60)), .own (ps.map Dt.str), .some (.int r)] ∧ dg n = dg r ++ (ps.reverse.map tl).flatten ∧ (∀ y ∈ ps, y.length ≤ 61) ∧ r * 2 ^ ps.length ≤ n ∧ (ps.length = 0 ∨ 1 ≤ r), ⟨n, [], rfl, by simp, (fun y hy => nomatch hy), by simp, .inl rfl⟩, ?_⟩
  rintro r ρ' ⟨ps, rfl, hd, hp, hk, h1⟩
  have hps := pow_two_lt hk h1 hn
  have lp : (ps.map Dt.str).length = ps.length := List.length_map _
  refine ⟨_, rfl, _, rfl, _, _, rfl, rfl, _, rfl, ?_⟩
  rw [big60]
  refine ifB (fun h => ?_) (fun h => ?_)
  · have hr : 10 ^ 60 ≤ r := Int.ofNat_le.mp (of_decide_eq_true h)
    have hlt : r % 10 ^ 60 < 10 ^ 60 := Nat.mod_lt _ (by decide)
    refine ⟨_, rfl, _, rfl, _, rfl, _, _, rfl, rfl, (by show ((10 ^ 60 : Nat) : Int) ≠ 0; decide), ?_⟩
    dsimp only
    rw [fm_nat]
    refine ⟨_, rfl, Nat.lt_trans (log_lt (k := 200) (by decide) (Nat.lt_trans (by rw [Int.natAbs_natCast]; exact hlt) (by decide))) (by decide), _, rfl, Nat.le_trans (shw_len (k := 60) _ (by decide) (by rw [Int.natAbs_natCast]; exact hlt)) (by decide), _, rfl, rfl, by rw [lp]; omega, ?_⟩
    refine ⟨_, rfl, _, rfl, _, _, rfl, rfl, cdivG (by decide) (by decide), ?_⟩
    dsimp only
    rw [fd_nat]
    have hq : 0 < r / 10 ^ 60 := Nat.div_pos hr (by decide)
    have hm := Nat.div_mul_le_self r (10 ^ 60)
    have h2 : r / 10 ^ 60 * 2 ≤ r := Nat.le_trans (Nat.mul_le_mul_left _ (by decide)) hm
    refine ⟨r / 10 ^ 60, Nat.div_lt_self (by omega) (by decide), ps ++ [Txt.zfill (shw ((r % 10 ^ 60 : Nat) : Int)) ((60 : Nat) : Int)], by rw [List.map_append]; rfl, shw_next hd hr, fun y hy => ?_, ?_, .inr hq⟩
    · rcases List.mem_append.mp hy with hy | hy
      · exact hp y hy
      · rw [List.mem_singleton.mp hy]; exact zf_len hlt
    · have e3 : 2 ^ (ps.length + 1) = 2 * 2 ^ ps.length := Nat.pow_succ'
      rw [List.length_append, List.length_singleton, e3, ← Nat.mul_assoc]
      exact Nat.le_trans (Nat.mul_le_mul_right _ h2) hk
  · have hr : ¬ ((10 ^ 60 : Nat) : Int) ≤ (r : Int) := of_decide_eq_false h
    have hr : r < 10 ^ 60 := by omega
    have hl := shw_len (k := 60) (r : Int) (by decide) (by rw [Int.natAbs_natCast]; exact hr)
    refine ⟨_, rfl, _, rfl, _, rfl, Nat.lt_trans (log_lt (k := 200) (by decide) (Nat.lt_trans (by rw [Int.natAbs_natCast]; exact hr) (by decide))) (by decide), by rw [lp]; omega, ?_⟩
    refine ⟨_, rfl, _, rfl, _, rfl, _, rfl, (ps ++ [shw r]).reverse, ?_, join_ok (fun y hy => ?_) (by rw [List.length_reverse, List.length_append]; show _ + 1 ≤ _; omega), ?_⟩
    · rw [List.map_reverse, List.map_append]; rfl
    · rcases List.mem_append.mp (List.mem_reverse.mp hy) with hy | hy
      · exact hp y hy
      · rw [List.mem_singleton.mp hy]; exact hl
    · rw [shw_parts hd]; exact q
theorem ok_whole_shown (T : Txt K mg A) (G_whole_shown : DOk P w K mg base 1 "whole_shown" (S_shown0)) (F : Fun K "whole_shown" "whole_shown" s_whole_shown f fd) : FnOk P w K mg base CX0 2 f fd ["number"] (PureSp K (S_shownW)) := by
  refine okD F sc_whole_shown (by walk_at "ln") fun _ _ _ _ _ _ hr ds Q h => ?_
  obtain ⟨i, rfl, hi, q⟩ := h
  refine ⟨_, (dss_cons (ds_if (dt_cmp (o_lt) (dv 0) de_int (nomark _)) (dss_one (ds_ret (de_op o_catS de_str (de_call G_whole_shown (hr.mono (by decide)) rfl (da_cons (de_neg (dv 0)) da_nil))))) dss_nil)
  (dss_cons (ds_set (i := 1) sc_whole_shown.nd rfl (Or.inl rfl) (de_op o_pow de_int de_int))
  (dss_cons (ds_setO (i := 2) sc_whole_shown.nd rfl (Or.inl rfl) (df_lst da_nil))
  (dss_cons (ds_set (i := 3) sc_whole_shown.nd rfl (Or.inl rfl) (dv 0))
  (dss_cons (ds_while PassesOwn.never (dt_cmp (o_ge) (dv 3) (dv 1) (nomark _)) (dss_cons (ds_app 2 (de_zfill (de_strI rfl T.n_str (de_op o_mod (dv 3) (dv 1))) de_int))
  (dss_one (ds_set (i := 3) sc_whole_shown.nd rfl (Or.inl rfl) (de_op o_fdivG (dv 3) (dv 1))))))
  (dss_cons (ds_app 2 (de_strI rfl T.n_str (dv 3)))
  (dss_cons (ds_rev 2)
  (dss_frz 2 (dss_one (ds_ret (de_join de_str (dv 2)))))))))))), ?_⟩
  refine ⟨_, rfl, _, _, rfl, rfl, _, rfl, ifB (fun h => ?_) (fun h => ?_)⟩
  · have h0 : i < 0 := of_decide_eq_true h
    obtain ⟨n, rfl, hn⟩ : ∃ n : Nat, i = -(n : Int) ∧ 0 < n := ⟨i.natAbs, by omega, by omega⟩
    rw [shw_neg hn] at q
    have hn2 : n < 2 ^ 1800 := by rw [Int.natAbs_neg, Int.natAbs_natCast] at hi; exact hi
    refine ⟨_, rfl, _, rfl, n, by rw [Int.neg_neg], hn2, _, _, rfl, rfl, ?_, q⟩
    have e : (("-" : Str)).length = 1 := by decide +kernel
    have := shw_len (k := 1800) (n : Int) (by decide) (by rw [Int.natAbs_natCast]; exact Nat.lt_of_lt_of_le hn2 (Nat.pow_le_pow_left (by decide) _))
    rw [e]; omega
  · have h0 : ¬ i < 0 := of_decide_eq_false h
    obtain ⟨n, rfl⟩ := Int.eq_ofNat_of_zero_le (show 0 ≤ i by omega)
    have hn : n < 2 ^ 1800 := by rw [Int.natAbs_natCast] at hi; exact hi
    walk_at "rd"
    refine ⟨fun r ρ => ∃ ps : List Str, ρ = [.some (.int n), .some (.int (10 ^ Int.toNat 60)), .own (ps.map Dt.str), .some (.int r)] ∧ dg n = dg r ++ (ps.reverse.map tl).flatten ∧ (∀ y ∈ ps, y.length ≤ 61) ∧ r * 2 ^ ps.length ≤ n ∧ (ps.length = 0 ∨ 1 ≤ r), ⟨n, [], rfl, by simp, (fun y hy => nomatch hy), by simp, .inl rfl⟩, ?_⟩
    rintro r ρ' ⟨ps, rfl, hd, hp, hk, h1⟩
    have hps := pow_two_lt hk h1 hn
    have lp : (ps.map Dt.str).length = ps.length := List.length_map _
    refine ⟨_, rfl, _, rfl, _, _, rfl, rfl, _, rfl, ?_⟩
    rw [big60]
    refine ifB (fun h => ?_) (fun h => ?_)
    · have hr : 10 ^ 60 ≤ r := Int.ofNat_le.mp (of_decide_eq_true h)
      have hlt : r % 10 ^ 60 < 10 ^ 60 := Nat.mod_lt _ (by decide)
      refine ⟨_, rfl, _, rfl, _, rfl, _, _, rfl, rfl, (by show ((10 ^ 60 : Nat) : Int) ≠ 0; decide), ?_⟩
      dsimp only
      rw [fm_nat]
      refine ⟨_, rfl, Nat.lt_trans (log_lt (k := 200) (by decide) (Nat.lt_trans (by rw [Int.natAbs_natCast]; exact hlt) (by decide))) (by decide), _, rfl, Nat.le_trans (shw_len (k := 60) _ (by decide) (by rw [Int.natAbs_natCast]; exact hlt)) (by decide), _, rfl, rfl, by rw [lp]; omega, ?_⟩
      refine ⟨_, rfl, _, rfl, _, _, rfl, rfl, cdivG (by decide) (by decide), ?_⟩
      dsimp only
      rw [fd_nat]
      have hq : 0 < r / 10 ^ 60 := Nat.div_pos hr (by decide)
      have hm := Nat.div_mul_le_self r (10 ^ 60)
      have h2 : r / 10 ^ 60 * 2 ≤ r := Nat.le_trans (Nat.mul_le_mul_left _ (by decide)) hm
      refine ⟨r / 10 ^ 60, Nat.div_lt_self (by omega) (by decide), ps ++ [Txt.zfill (shw ((r % 10 ^ 60 : Nat) : Int)) ((60 : Nat) : Int)], by rw [List.map_append]; rfl, shw_next hd hr, fun y hy => ?_, ?_, .inr hq⟩
      · rcases List.mem_append.mp hy with hy | hy
        · exact hp y hy
        · rw [List.mem_singleton.mp hy]; exact zf_len hlt
      · have e3 : 2 ^ (ps.length + 1) = 2 * 2 ^ ps.length := Nat.pow_succ'
        rw [List.length_append, List.length_singleton, e3, ← Nat.mul_assoc]
        exact Nat.le_trans (Nat.mul_le_mul_right _ h2) hk
    · have hr : ¬ ((10 ^ 60 : Nat) : Int) ≤ (r : Int) := of_decide_eq_false h
      have hr : r < 10 ^ 60 := by omega
      have hl := shw_len (k := 60) (r : Int) (by decide) (by rw [Int.natAbs_natCast]; exact hr)
      refine ⟨_, rfl, _, rfl, _, rfl, Nat.lt_trans (log_lt (k := 200) (by decide) (Nat.lt_trans (by rw [Int.natAbs_natCast]; exact hr) (by decide))) (by decide), by rw [lp]; omega, ?_⟩
      refine ⟨_, rfl, _, rfl, _, rfl, _, rfl, (ps ++ [shw r]).reverse, ?_, join_ok (fun y hy => ?_) (by rw [List.length_reverse, List.length_append]; show _ + 1 ≤ _; omega), ?_⟩
      · rw [List.map_reverse, List.map_append]; rfl
      · rcases List.mem_append.mp (List.mem_reverse.mp hy) with hy | hy
        · exact hp y hy
        · rw [List.mem_singleton.mp hy]; exact hl
      · rw [shw_parts hd]; exact q
abbrev s_row_shown : Stmt := top 28
theorem sc_row_shown : FnScope ["row"] ["row"] (defScope s_row_shown) := by walk_at "sc"
theorem ok_row_shown (T : Txt K mg A) (G_whole_shown : DOk P w K mg base 2 "whole_shown" (S_shownW)) (F : Fun K "row_shown" "row_shown" s_row_shown f fd) : FnOk P w K mg base CX0 3 f fd ["row"] (PureSp K (S_rsh)) := by
  refine okD F sc_row_shown (by walk_at "ln") fun _ _ _ _ _ _ hr ds Q h => ?_
  obtain ⟨r, rfl, hl, hb, q⟩ := h
  refine ⟨_, (dss_cons (ds_if (dt_not (dt_tru (dv 0))) (dss_one (ds_ret de_str)) dss_nil)
  (dss_one (ds_ret (de_join de_str (DF.de (df_compG (L := 0) (osc := defScope s_row_shown) (N0 := ["row"]) (bs := ["figure"]) (caps := []) (js := []) rfl (by decide +kernel) rfl rfl rfl (di_rev rfl T.n_reversed (da_cons (dv 0) da_nil)) (fun _ _ _ _ _ => (pg_name (i := 0) (show List.Nodup [("figure" : Str)] by decide +kernel) rfl (Or.inl (lookup_relabel_local rfl)) (.inl rfl))) lig_one (fun _ _ _ _ _ => dc_nil) (fun _ _ _ _ _ => (de_call G_whole_shown (hr.mono (by decide)) rfl (da_cons (dv 0) da_nil))))))))), ?_⟩
  have ll := len_ints r
  refine ⟨_, rfl, _, rfl, ifB (fun h => ?_) (fun h => ?_)⟩
  · have e : r = [] := by cases r with | nil => rfl | cons a b => cases h
    have e2 : rsh r = "0" := by unfold rsh; rw [if_pos e]
    rw [e2] at q
    exact q
  · have e : r ≠ [] := fun z => by subst z; cases h
    have e2 : rsh r = Txt.join "." (r.reverse.map shw) := by unfold rsh; rw [if_neg e]
    rw [e2] at q
    refine ⟨_, rfl, _, rfl, _, _, rfl, rfl, by omega, fun i es => es = (r.reverse.take i).map fun z => Dt.str (shw z), rfl, ?_, ?_⟩
    · rintro i e' es hi he rfl
      have he : (r.map Dt.int).reverse[i]? = some e' := he
      rw [← List.map_reverse, List.getElem?_map] at he
      obtain ⟨z, hz, rfl⟩ := Option.map_eq_some_iff.mp he
      have hzm : z ∈ r := List.mem_reverse.mp (List.mem_of_getElem? hz)
      refine ⟨_, rfl, each_t (ifT rfl ?_)⟩
      refine ⟨_, rfl, z, rfl, Nat.lt_of_lt_of_le (hb z hzm) (by decide), ?_⟩
      show _ ++ [_] = ((r.reverse.take (i + 1)).map fun z => Dt.str (shw z))
      rw [List.take_succ, hz, List.map_append]
      rfl
    · rintro es rfl
      refine ⟨r.reverse.map shw, ?_, join_dot (fun y hy => ?_) (by rw [List.length_map, List.length_reverse]; omega), q⟩
      · show some _ = _
        rw [List.take_of_length_le (by rw [List.length_reverse, ll]; exact Nat.le_refl _), List.map_map]
        rfl
      · obtain ⟨z, hz, rfl⟩ := List.mem_map.mp hy
        have := shw_len (k := 3) z (by decide) (hb z (List.mem_reverse.mp hz))
        omega
abbrev s_law_shown : Stmt := top 41
theorem sc_law_shown : FnScope ["_law_row"] ["_law_row"] (defScope s_law_shown) := by walk_at "sc"
theorem ok_law_shown (T : Txt K mg A) (F : Fun K "_law_shown" "_law_shown" s_law_shown f fd) : FnOk P w K mg base CX0 1 f fd ["_law_row"] (PureSp K (S_rsh)) := by
  refine okD F sc_law_shown (by walk_at "ln") fun _ _ _ _ _ _ hr ds Q h => ?_
  obtain ⟨r, rfl, hl, hb, q⟩ := h
  refine ⟨_, (dss_cons (ds_if (dt_cmp (o_eq hr) (dv 0) (de_lst da_nil) (nomark _)) (dss_one (ds_ret de_str)) dss_nil)
  (dss_one (ds_ret (de_join de_str (DF.de (df_compG (L := 0) (osc := defScope s_law_shown) (N0 := ["_law_row"]) (bs := ["_law_figure"]) (caps := []) (js := []) rfl (by decide +kernel) rfl rfl rfl (di_rev rfl T.n_reversed (da_cons (dv 0) da_nil)) (fun _ _ _ _ _ => (pg_name (i := 0) (show List.Nodup [("_law_figure" : Str)] by decide +kernel) rfl (Or.inl (lookup_relabel_local rfl)) (.inl rfl))) lig_one (fun _ _ _ _ _ => dc_nil) (fun _ _ _ _ _ => (de_strI rfl T.n_str (dv 0))))))))), ?_⟩
  have ll := len_ints r
  refine ⟨_, rfl, rfl, okE_row _, rfl, _, rfl, ifB (fun h => ?_) (fun h => ?_)⟩
  · have e : r = [] := by cases r with | nil => rfl | cons a b => cases h
    have e2 : rsh r = "0" := by unfold rsh; rw [if_pos e]
    rw [e2] at q
    exact q
  · have e : r ≠ [] := fun z => by subst z; cases h
    have e2 : rsh r = Txt.join "." (r.reverse.map shw) := by unfold rsh; rw [if_neg e]
    rw [e2] at q
    refine ⟨_, rfl, _, rfl, _, _, rfl, rfl, by omega, fun i es => es = (r.reverse.take i).map fun z => Dt.str (shw z), rfl, ?_, ?_⟩
    · rintro i e' es hi he rfl
      have he : (r.map Dt.int).reverse[i]? = some e' := he
      rw [← List.map_reverse, List.getElem?_map] at he
      obtain ⟨z, hz, rfl⟩ := Option.map_eq_some_iff.mp he
      have hzm : z ∈ r := List.mem_reverse.mp (List.mem_of_getElem? hz)
      refine ⟨_, rfl, each_t (ifT rfl ?_)⟩
      refine ⟨_, rfl, z, rfl, Nat.lt_of_le_of_lt (Nat.log2_le_self _) (Nat.lt_trans (hb z hzm) (by decide)), ?_⟩
      show _ ++ [_] = ((r.reverse.take (i + 1)).map fun z => Dt.str (shw z))
      rw [List.take_succ, hz, List.map_append]
      rfl
    · rintro es rfl
      refine ⟨r.reverse.map shw, ?_, join_dot (fun y hy => ?_) (by rw [List.length_map, List.length_reverse]; omega), q⟩
      · show some _ = _
        rw [List.take_of_length_le (by rw [List.length_reverse, ll]; exact Nat.le_refl _), List.map_map]
        rfl
      · obtain ⟨z, hz, rfl⟩ := List.mem_map.mp hy
        have := shw_len (k := 3) z (by decide) (hb z (List.mem_reverse.mp hz))
        omega
abbrev s_has_mosts_above_noughts_alone : Stmt := top 23
theorem sc_has_mosts_above_noughts_alone : FnScope ["way", "row", "place"] ["way", "row"] (defScope s_has_mosts_above_noughts_alone) := by walk_at "sc"
theorem ok_has_mosts_above_noughts_alone (T : Txt K mg A) (F : Fun K "has_mosts_above_noughts_alone" "has_mosts_above_noughts_alone" s_has_mosts_above_noughts_alone f fd) : FnOk P w K mg base CX0 1 f fd ["way", "row"] (PureSp K (S_mosts A)) := by
  refine okD F sc_has_mosts_above_noughts_alone (by walk_at "ln") fun _ _ _ _ _ _ hr ds Q h => ?_
  obtain ⟨n, r, rfl, hn, hl, q⟩ := h
  refine ⟨_, (dss_cons (ds_forR2 (j := 2) rfl sc_has_mosts_above_noughts_alone.nd rfl (Or.inl rfl) PassesOwn.never rfl T.range (da_cons de_int (da_cons (de_len rfl T.len (dv 1)) da_nil)) (dss_one (ds_if (DW.dt (dw_and (dt_cmp (o_eq hr) (de_ix (dv 1) (dv 2) (fun _ _ => rfl)) (de_fld (dv 0)) (nomark _)) (dw_and1 (dt_cmp (o_ne hr) (de_ix (dv 1) (de_op o_sub (dv 2) de_int) (fun _ _ => rfl)) de_int (nomark _))))) (dss_one (ds_ret de_bl)) dss_nil)))
  (dss_one (ds_ret de_bl))), ?_⟩
  walk_at "rd"
  have ll := len_ints r
  refine ⟨_, _, fun i ρ => ∃ v, ρ = [.some (wayD A .falling n), .some (rowD r), v] ∧ ∀ p : Nat, p < i → r.getD (p + 1) 0 = n → r.getD p 0 = 0, rfl, by decide, by decide, by omega, by omega, ⟨_, rfl, fun p hp => absurd hp (Nat.not_lt_zero _)⟩, ?_, ?_⟩
  · rintro i ρ' hi ⟨v, rfl, hp⟩
    rw [ll] at hi
    have e1 : (1 + (i : Int)).toNat = i + 1 := by omega
    have e2 : (1 + (i : Int) - 1).toNat = i := by omega
    refine ⟨_, rfl, _, rfl, _, _, _, rfl, rfl, atI_row (by omega) (by omega), _, rfl, _, _, _, rfl, rfl, T.cl_Falling, T.na_Falling, rfl, rfl, _, rfl, ?_⟩
    rw [e1]
    refine ifB (fun h => ?_) (fun h => ifF rfl ?_)
    · refine ⟨_, rfl, _, rfl, _, _, rfl, rfl, _, _, _, rfl, rfl, atI_row (by omega) (by omega), rfl, rfl, _, rfl, ?_⟩
      rw [e2]
      refine ifB (fun h' => ?_) (fun h' => ?_)
      · refine q false ⟨fun z => (Bool.false_ne_true z).elim, fun z => ?_⟩
        exact absurd (z i (by omega) (of_eqI h)) (of_neI (of_nT h'))
      · refine ⟨.some (.int (1 + i)), rfl, fun p hp' => ?_⟩
        rcases (by omega : p < i ∨ p = i) with z | z
        · exact hp p z
        · subst z
          exact fun _ => of_eqI (of_nF h')
    · refine ⟨.some (.int (1 + i)), rfl, fun p hp' => ?_⟩
      rcases (by omega : p < i ∨ p = i) with z | z
      · exact hp p z
      · subst z
        exact fun z => absurd z (of_neI h)
  · rintro ρ' ⟨v, rfl, hp⟩
    rw [ll] at hp
    exact q true ⟨fun _ p hp' => hp p (by omega), fun _ => rfl⟩
abbrev s_Way_low : Stmt := inClass (top 13) 1
theorem sc_Way_low : FnScope ["self", "place"] ["self", "place"] (defScope s_Way_low) := by walk_at "sc"
theorem ok_Way_low (T : Txt K mg A) (F : Fun K "low" "Way.low" s_Way_low f fd) : FnOk P w K mg base CX0 1 f fd ["self", "place"] (PureSp K (S_zero)) := by
  refine okD F sc_Way_low (by walk_at "ln") fun _ _ _ _ _ _ hr ds Q h => ?_
  obtain ⟨o, p, rfl, q⟩ := h
  refine ⟨_, (dss_one (ds_ret de_int)), ?_⟩
  exact q
abbrev s_Balanced_low : Stmt := inClass (top 16) 1
theorem sc_Balanced_low : FnScope ["self", "place"] ["self", "place"] (defScope s_Balanced_low) := by walk_at "sc"
theorem ok_Balanced_low (T : Txt K mg A) (F : Fun K "low" "Balanced.low" s_Balanced_low f fd) : FnOk P w K mg base CX0 1 f fd ["self", "place"] (PureSp K (S_get A .balanced (Kd.low .balanced))) := by
  refine okD F sc_Balanced_low (by walk_at "ln") fun _ _ _ _ _ _ hr ds Q h => ?_
  obtain ⟨n, p, rfl, hn, q⟩ := h
  refine ⟨_, (dss_one (ds_ret (de_neg (de_fld (dv 0))))), ?_⟩
  exact ⟨_, rfl, _, _, _, rfl, rfl, T.cl_Balanced, T.na_Balanced, _, rfl, q⟩
abbrev s_Plain_high : Stmt := inClass (top 14) 1
theorem sc_Plain_high : FnScope ["self", "place"] ["self", "place"] (defScope s_Plain_high) := by walk_at "sc"
theorem ok_Plain_high (T : Txt K mg A) (F : Fun K "high" "Plain.high" s_Plain_high f fd) : FnOk P w K mg base CX0 1 f fd ["self", "place"] (PureSp K (S_get A .plain (Kd.high .plain))) := by
  refine okD F sc_Plain_high (by walk_at "ln") fun _ _ _ _ _ _ hr ds Q h => ?_
  obtain ⟨n, p, rfl, hn, q⟩ := h
  refine ⟨_, (dss_one (ds_ret (de_op o_sub (de_fld (dv 0)) de_int))), ?_⟩
  exact ⟨_, rfl, _, _, _, rfl, rfl, T.cl_Plain, T.na_Plain, _, _, rfl, rfl, q⟩
abbrev s_Below_high : Stmt := inClass (top 15) 1
theorem sc_Below_high : FnScope ["self", "place"] ["self", "place"] (defScope s_Below_high) := by walk_at "sc"
theorem ok_Below_high (T : Txt K mg A) (F : Fun K "high" "Below.high" s_Below_high f fd) : FnOk P w K mg base CX0 1 f fd ["self", "place"] (PureSp K (S_get A .below (Kd.high .below))) := by
  refine okD F sc_Below_high (by walk_at "ln") fun _ _ _ _ _ _ hr ds Q h => ?_
  obtain ⟨n, p, rfl, hn, q⟩ := h
  refine ⟨_, (dss_one (ds_ret (de_op o_sub (de_fld (dv 0)) de_int))), ?_⟩
  exact ⟨_, rfl, _, _, _, rfl, rfl, T.cl_Below, T.na_Below, _, _, rfl, rfl, q⟩
abbrev s_Balanced_high : Stmt := inClass (top 16) 2
theorem sc_Balanced_high : FnScope ["self", "place"] ["self", "place"] (defScope s_Balanced_high) := by walk_at "sc"
theorem ok_Balanced_high (T : Txt K mg A) (F : Fun K "high" "Balanced.high" s_Balanced_high f fd) : FnOk P w K mg base CX0 1 f fd ["self", "place"] (PureSp K (S_get A .balanced (Kd.high .balanced))) := by
  refine okD F sc_Balanced_high (by walk_at "ln") fun _ _ _ _ _ _ hr ds Q h => ?_
  obtain ⟨n, p, rfl, hn, q⟩ := h
  refine ⟨_, (dss_one (ds_ret (de_fld (dv 0)))), ?_⟩
  exact ⟨_, rfl, _, _, _, rfl, rfl, T.cl_Balanced, T.na_Balanced, q⟩
abbrev s_Growing_high : Stmt := inClass (top 17) 1
theorem sc_Growing_high : FnScope ["self", "place"] ["self", "place"] (defScope s_Growing_high) := by walk_at "sc"
theorem ok_Growing_high (T : Txt K mg A) (F : Fun K "high" "Growing.high" s_Growing_high f fd) : FnOk P w K mg base CX0 1 f fd ["self", "place"] (PureSp K (S_get A .growing (Kd.high .growing))) := by
  refine okD F sc_Growing_high (by walk_at "ln") fun _ _ _ _ _ _ hr ds Q h => ?_
  obtain ⟨n, p, rfl, hn, q⟩ := h
  refine ⟨_, (dss_one (ds_ret (de_op o_sub (de_op o_add (de_fld (dv 0)) (dv 1)) de_int))), ?_⟩
  exact ⟨_, rfl, _, _, _, rfl, rfl, T.cl_Growing, T.na_Growing, _, rfl, _, _, rfl, rfl, _, _, rfl, rfl, q⟩
abbrev s_Falling_high : Stmt := inClass (top 18) 1
theorem sc_Falling_high : FnScope ["self", "place"] ["self", "place"] (defScope s_Falling_high) := by walk_at "sc"
theorem ok_Falling_high (T : Txt K mg A) (F : Fun K "high" "Falling.high" s_Falling_high f fd) : FnOk P w K mg base CX0 1 f fd ["self", "place"] (PureSp K (S_get A .falling (Kd.high .falling))) := by
  refine okD F sc_Falling_high (by walk_at "ln") fun _ _ _ _ _ _ hr ds Q h => ?_
  obtain ⟨n, p, rfl, hn, q⟩ := h
  refine ⟨_, (dss_one (ds_ret (de_fld (dv 0)))), ?_⟩
  exact ⟨_, rfl, _, _, _, rfl, rfl, T.cl_Falling, T.na_Falling, q⟩
abbrev s_Pairs_high : Stmt := inClass (top 19) 2
theorem sc_Pairs_high : FnScope ["self", "place"] ["self", "place"] (defScope s_Pairs_high) := by walk_at "sc"
theorem ok_Pairs_high (T : Txt K mg A) (F : Fun K "high" "Pairs.high" s_Pairs_high f fd) : FnOk P w K mg base CX0 1 f fd ["self", "place"] (PureSp K (S_get A .pairs (Kd.high .pairs))) := by
  refine okD F sc_Pairs_high (by walk_at "ln") fun _ _ _ _ _ _ hr ds Q h => ?_
  obtain ⟨n, p, rfl, hn, q⟩ := h
  refine ⟨_, (dss_one (ds_ret (de_op o_mul (de_fld (dv 0)) (de_fld (dv 0))))), ?_⟩
  obtain ⟨h1, h2⟩ := ok_bd hn
  exact ⟨_, rfl, _, _, _, rfl, rfl, T.cl_Pairs, T.na_Pairs, _, rfl, _, _, _, rfl, rfl, T.cl_Pairs, T.na_Pairs, _, _, rfl, rfl, small (by omega) (by omega) _, q⟩
abbrev s_has_figures_alone_writings : Stmt := top 21
theorem sc_has_figures_alone_writings : FnScope ["way", "row", "place", "thing"] ["way", "row"] (defScope s_has_figures_alone_writings) := by walk_at "sc"
theorem ok_has_figures_alone_writings (T : Txt K mg A) (HLo : ∀ k : Kd, MOk P w K mg base 1 (A.at k) "low" (S_get A k (k.low)) ∧ MOk P w K mg base 1 (A.at k) "high" (S_get A k (k.high))) (F : Fun K "has_figures_alone" "has_figures_alone" s_has_figures_alone_writings f fd) : FnOk P w K mg base CX0 2 f fd ["way", "row"] (PureSp K (S_figs A)) := by
  refine okD F sc_has_figures_alone_writings (by walk_at "ln") fun _ _ _ _ _ _ hr ds Q h => ?_
  obtain ⟨k, n, r, rfl, hn, hl, q⟩ := h
  refine ⟨_, (dss_cons (ds_for_enumerate (i := 2) (j := 3) rfl sc_has_figures_alone_writings.nd rfl rfl (Or.inl rfl) (Or.inl rfl) PassesOwn.never rfl T.n_enumerate (da_cons (dv 1) da_nil) (dss_one (ds_if (DW.dt (dw_or (dt_cmp (o_lt) (dv 3) (de_meth hr (dv 0) (da_cons (dv 2) da_nil)) (nomark _)) (dw_or1 (dt_cmp (o_gt) (dv 3) (de_meth hr (dv 0) (da_cons (dv 2) da_nil)) (nomark _))))) (dss_one (ds_ret de_bl)) dss_nil)))
  (dss_one (ds_ret de_bl))), ?_⟩
  obtain ⟨M1, M2⟩ := HLo k
  walk_at "rd"
  refine ⟨_, _, fun i ρ => ∃ v u, ρ = [.some (wayD A k n), .some (rowD r), v, u] ∧ ∀ p : Nat, p < i → k.low n p ≤ r.getD p 0 ∧ r.getD p 0 ≤ k.high n p, rfl, rfl, ⟨_, _, rfl, fun p hp => absurd hp (Nat.not_lt_zero _)⟩, ?_, ?_⟩
  · rintro i x ρ' hx ⟨v, u, rfl, hp⟩
    obtain ⟨rfl, hi⟩ := get_ints hx
    refine ⟨_, rfl, _, rfl, _, _, _, _, rfl, e_low k, M1.mono (by decide), _, rfl, n, i, rfl, hn, _, _, rfl, rfl, _, rfl, ?_⟩
    refine ifB (fun h => ifT rfl ?_) (fun h => ?_)
    · refine q false ⟨fun z => (Bool.false_ne_true z).elim, fun z => ?_⟩
      have := z i hi
      have h := of_decide_eq_true h
      omega
    · refine ⟨_, rfl, _, rfl, _, _, _, _, rfl, e_high k, M2.mono (by decide), _, rfl, n, i, rfl, hn, _, _, rfl, rfl, _, rfl, ?_⟩
      have h := of_decide_eq_false h
      refine ifB (fun h' => ?_) (fun h' => ?_)
      · refine q false ⟨fun z => (Bool.false_ne_true z).elim, fun z => ?_⟩
        have := z i hi
        have h' := of_decide_eq_true h'
        omega
      · have h' := of_decide_eq_false h'
        refine ⟨.some (.int i), .some (.int (r.getD i 0)), rfl, fun p hp' => ?_⟩
        rcases (by omega : p < i ∨ p = i) with z | z
        · exact hp p z
        · subst z
          omega
  · rintro ρ' ⟨v, u, rfl, hp⟩
    rw [len_ints] at hp
    exact q true ⟨fun _ => hp, fun _ => rfl⟩
abbrev s_is_writing : Stmt := top 24
theorem sc_is_writing : FnScope ["way", "row"] ["way", "row"] (defScope s_is_writing) := by walk_at "sc"
theorem ok_is_writing (T : Txt K mg A) (G_has_mosts_above_noughts_alone : DOk P w K mg base 1 "has_mosts_above_noughts_alone" (S_mosts A)) (G_has_figures_alone_writings : DOk P w K mg base 2 "has_figures_alone_writings" (S_figs A)) (F : Fun K "is_writing" "is_writing" s_is_writing f fd) : FnOk P w K mg base CX0 3 f fd ["way", "row"] (PureSp K (S_isw A)) := by
  refine okD F sc_is_writing (by walk_at "ln") fun _ _ _ _ _ _ hr ds Q h => ?_
  obtain ⟨k, n, r, rfl, hn, hl, q⟩ := h
  refine ⟨_, (dss_join (ds_if (DW.dt (dw_and (dt_tru (dv 1)) (dw_and1 (dt_cmp (o_eq hr) (de_ix (dv 1) (de_neg de_int) (fun _ _ => rfl)) de_int (nomark _))))) (dss_one (ds_ret de_bl)) dss_nil)
  (dss_join (ds_if (DW.dt (dw_and (dt_val (de_isiO T.isinstance T.gc_Falling (dv 0))) (dw_and1 (dt_not (dt_val (de_call G_has_mosts_above_noughts_alone (hr.mono (by decide)) rfl (da_cons (dv 0) (da_cons (dv 1) da_nil)))))))) (dss_one (ds_ret de_bl)) dss_nil)
  (dss_one (ds_ret (de_call G_has_figures_alone_writings (hr.mono (by decide)) rfl (da_cons (dv 0) (da_cons (dv 1) da_nil))))))), ?_⟩
  refine ⟨fun ρ => ρ = [.some (wayD A k n), .some (rowD r)] ∧ (r = [] ∨ r.getD (r.length - 1) 0 ≠ 0), ?_, ?_⟩
  · walk_at "rd"
    rcases snoc_cases r with rfl | ⟨l, z, rfl⟩
    · exact ifF rfl (ifF rfl ⟨rfl, .inl rfl⟩)
    · have ez : (l ++ [z]).getD ((l ++ [z]).length - 1) 0 = z := by rw [List.length_append]; simp [List.getD_eq_getElem?_getD]
      refine ifT (by simp) ⟨_, rfl, _, rfl, _, _, _, rfl, rfl, atI_last, rfl, rfl, _, rfl, ?_⟩
      by_cases hz : z = 0
      · refine ifT (eqI hz) ?_
        rw [legal_f (fun L => by
          rcases L.end_ with h | h
          · simp at h
          · rw [ez] at h; exact h hz)] at q
        exact q
      · refine ifF (neI hz) ⟨rfl, .inr (by rw [ez]; exact hz)⟩
  · rintro ρ' ⟨rfl, hend⟩
    refine ⟨fun ρ => ρ = [.some (wayD A k n), .some (rowD r)] ∧ (k.isF = true → ∀ p, p + 1 < r.length → r.getD (p + 1) 0 = n → r.getD p 0 = 0), ?_, ?_⟩
    · refine ⟨_, rfl, _, _, _, _, rfl, isiAt T k, kiF T k, _, rfl, ?_⟩
      cases hk : k.isF with
      | false => exact ifF rfl (ifF rfl ⟨rfl, fun z => (Bool.false_ne_true z).elim⟩)
      | true =>
        have ek : k = .falling := by cases k <;> first | rfl | cases hk
        subst ek
        refine ifT rfl ⟨_, rfl, _, rfl, n, r, rfl, hn, hl, fun b hb => ⟨_, rfl, ?_⟩⟩
        cases b with
        | true => exact ifF rfl ⟨rfl, fun _ => hb.mp rfl⟩
        | false =>
          refine ifT rfl ?_
          rw [legal_f (fun L => Bool.false_ne_true (hb.mpr (L.fal rfl)))] at q
          exact q
    · rintro ρ' ⟨rfl, hf⟩
      refine ⟨_, rfl, _, rfl, k, n, r, rfl, hn, hl, fun b hb => ?_⟩
      cases b with
      | true => rw [legal_t ⟨hb.mp rfl, hf, hend⟩] at q; exact q
      | false => rw [legal_f (fun L => Bool.false_ne_true (hb.mpr L.fig))] at q; exact q
abbrev s_row_read : Stmt := top 32
theorem sc_row_read : FnScope ["way", "text", "row"] ["way", "text"] (defScope s_row_read) := by walk_at "sc"
theorem ok_row_read (T : Txt K mg A) (G_whole_read : DOkX P w K mg base 2 "whole_read" (S_wread A)) (G_is_writing : DOk P w K mg base 3 "is_writing" (S_isw A)) (F : Fun K "row_read" "row_read" s_row_read f fd) : FnOk P w K mg base (CX1 P w) 4 f fd ["way", "text"] (FreshSpX K (S_rread A)) := by
  refine okFXH F sc_row_read (by walk_at "ln") fun _ _ _ _ _ _ hr ds Q R h rzh => ?_
  have rz := fun C h => (rzh C h).1
  obtain ⟨k, n, x, rfl, hn, hx, hl, q, hR⟩ := h
  refine ⟨_, (dss_cons (ds_if (dt_cmp (o_eqS) (dv 1) de_str (nomark _)) (dss_one (ds_retF (df_lst da_nil))) dss_nil)
  (dss_cons (ds_setCompX (i := 2) rfl rfl rfl rfl (by decide +kernel) sc_row_read.nd rfl (Or.inl rfl) (DF.de (df_split (dv 1) de_str)) G_whole_read (hr.mono (by decide)) (fun _ _ _ _ _ => rfl))
  (dss_cons (ds_rev 2)
  (dss_cons (ds_if (dt_bor (dt_not (dt_val (de_call G_is_writing (hr.mono (by decide)) rfl (da_cons (dv 0) (da_cons (dv 2) da_nil)))))) (dss_one (ds_raise rfl rfl T.gc_NoText T.ex_NoText de_str)) dss_nil)
  (dss_one (ds_retO 2)))))), ?_⟩
  refine ⟨_, rfl, _, _, rfl, rfl, _, rfl, ?_⟩
  rw [is_nought]
  refine ifB (fun h0 => ?_) (fun h0 => ?_)
  · exact ⟨rfl, q [] (rvv_nought (of_decide_eq_true h0))⟩
  have h0 := of_decide_eq_false h0
  have hsl := split_len x "."
  refine ⟨_, rfl, _, rfl, by omega, _, rfl, dot_ok, _, fun i es => ∃ vs : List Int, es = vs.map Dt.int ∧ ((Txt.split x ".").take i).map wv = vs.map some, rfl, by rw [List.length_map]; omega, ⟨[], rfl, rfl⟩, ?_, ?_⟩
  · rintro i e es he ⟨vs, rfl, hv⟩
    have he : ((Txt.split x ".").map Dt.str)[i]? = some e := he
    rw [List.getElem?_map] at he
    obtain ⟨p, hp, rfl⟩ := Option.map_eq_some_iff.mp he
    have hpm := List.mem_of_getElem? hp
    have hpl := (split_mem hpm).1
    refine ⟨p, rfl, asc_split hx hpm, by omega, fun v hvp => ⟨vs ++ [v], app_ints vs v, ?_⟩, fun hvp => rzh _ (hR (rvv_part h0 hpm hvp))⟩
    rw [List.take_succ, hp, List.map_append, hv, List.map_append]
    show _ ++ [wv p] = _
    rw [hvp]
    rfl
  · rintro es ⟨vs, rfl, hv⟩
    rw [List.length_map, List.take_length] at hv
    have hvl : vs.length = (Txt.split x ".").length := by
      have := congrArg List.length hv
      rw [List.length_map, List.length_map] at this
      exact this.symm
    have hpt : pts wv x = vs.reverse.map some := by
      unfold pts
      rw [List.map_reverse, hv, ← List.map_reverse]
    refine ⟨_, rfl, _, rfl, ?_⟩
    rw [← List.map_reverse]
    have hrv := rvv_vals (k := k) (n := n) h0 hpt
    refine ⟨_, rfl, _, rfl, k, n, vs.reverse, rfl, hn, by rw [List.length_reverse]; omega, _, rfl, ?_⟩
    cases hlg : legal k n vs.reverse with
    | true =>
      rw [hlg] at hrv
      refine ifF rfl ?_
      exact ⟨_, rfl, q _ hrv⟩
    | false =>
      rw [hlg] at hrv
      refine ifT rfl ?_
      exact rz _ (hR hrv)
abbrev s_law_whole_of : Stmt := top 43
theorem sc_law_whole_of : FnScope ["_law_text", "_law_figures", "_law_sign"] ["_law_text"] (defScope s_law_whole_of) := by walk_at "sc"
theorem ok_law_whole_of (T : Txt K mg A) (F : Fun K "_law_whole_of" "_law_whole_of" s_law_whole_of f fd) : FnOk P w K mg base CX0 1 f fd ["_law_text"] (PureSp K (S_lwhole)) := by
  refine okD F sc_law_whole_of (by walk_at "ln") fun _ _ _ _ _ _ hr ds Q h => ?_
  obtain ⟨x, rfl, hx, hl, q⟩ := h
  refine ⟨_, (dss_cons (ds_set (i := 1) sc_law_whole_of.nd rfl (Or.inl rfl) (dv 0))
  (dss_join (ds_if (dt_cmp (o_eqS) (de_sliceT (dv 0) do_none (do_some de_int)) de_str (nomark _)) (dss_one (ds_set (i := 1) sc_law_whole_of.nd rfl (Or.inl rfl) (de_sliceT (dv 0) (do_some de_int) do_none))) dss_nil)
  (dss_cons (ds_if (dt_not (dt_chain (o_le) (o_le) de_int (de_lenS rfl T.len (dv 1)) de_int)) (dss_one (ds_ret de_non)) dss_nil)
  (dss_cons (ds_forT (j := 2) rfl sc_law_whole_of.nd rfl (Or.inl rfl) PassesOwn.never (dv 1) (dss_one (ds_if (dt_cmp o_notinT (dv 2) de_str (by with_unfolding_all rfl)) (dss_one (ds_ret de_non)) dss_nil)))
  (dss_join (ds_if (DW.dt (dw_and (dt_cmp (o_eqS) (de_itS (dv 1) de_int) de_str (nomark _)) (dw_and1 (dt_cmp (o_neS) (dv 0) de_str (nomark _))))) (dss_one (ds_ret de_non)) dss_nil)
  (dss_one (ds_ret (de_intS rfl T.n_int (dv 0))))))))), ?_⟩
  have hxl := tl_len x
  have q0 : ¬ Numl (tl x) → Q .non := fun z => by rw [lwv_none z] at q; exact q
  refine ⟨_, rfl, fun ρ => ∃ f, ρ = [.some (.str x), .some (.str f), .none] ∧ tl f = fg x ∧ asc f ∧ f.length ≤ 620, ?_, ?_⟩
  · refine ⟨_, rfl, _, rfl, _, rfl, by omega, _, _, rfl, rfl, _, rfl, ?_⟩
    rw [slice1_dash]
    refine ifB (fun h => ?_) (fun h => ⟨x, rfl, by unfold fg; rw [if_neg (of_decide_eq_false h)], hx, hl⟩)
    have h := of_decide_eq_true h
    have h1 : 1 ≤ (tl x).length := by
      cases e : tl x with
      | nil => rw [e] at h; cases h
      | cons c r => rw [List.length_cons]; omega
    have sl := slice_len x (some 1) none
    exact ⟨_, rfl, _, rfl, _, rfl, by omega, _, rfl, by rw [slice_from (by decide) (by omega)]; unfold fg; rw [if_pos h]; rfl, asc_slice hx, by omega⟩
  rintro ρ ⟨f, rfl, t1, a1, l1⟩
  have hfl := tl_len f
  refine ⟨_, rfl, _, rfl, by omega, _, _, rfl, rfl, _, rfl, ifB (fun h1 => ?_) (fun h1 => ⟨_, rfl, ifT rfl (q0 fun z => ((numl_iff rfl).mp z).1 ?_)⟩)⟩
  rotate_left
  · have h1 : ¬ (1 : Int) ≤ (f.length : Int) := of_decide_eq_false h1
    rw [← t1]
    exact List.length_eq_zero_iff.mp (by omega)
  have h1 : (1 : Int) ≤ (f.length : Int) := of_decide_eq_true h1
  refine ⟨_, _, rfl, rfl, _, rfl, ifB (fun h2 => q0 fun z => ?_) (fun h2 => ?_)⟩
  · have h2 := of_decide_eq_false (of_nT h2)
    omega
  have h2 := of_decide_eq_true (of_nF h2)
  refine ⟨_, rfl, f, fun i ρ => ∃ v, ρ = [.some (.str x), .some (.str f), v] ∧ ∀ c ∈ (tl f).take i, figB c = true, rfl, asc_all a1, ⟨_, rfl, fun c hc => by cases hc⟩, ?_, ?_⟩
  · rintro i c ρ' hc ⟨v, rfl, hb⟩
    have hc' : (tl f)[i]? = some c := by unfold tl; rw [Array.getElem?_toList]; exact hc
    refine ⟨_, rfl, _, _, rfl, rfl, _, rfl, ?_⟩
    rw [occ_fig]
    refine ifB (fun h => q0 fun z => ?_) (fun h => ⟨_, rfl, fun c' hc2 => ?_⟩)
    · have := ((numl_iff rfl).mp z).2.1 c (by rw [← t1]; exact List.mem_of_getElem? hc')
      have := figB_iff.mpr this
      unfold figB at this
      rw [this] at h; cases h
    · rw [List.take_succ, hc'] at hc2
      rcases List.mem_append.mp hc2 with h2 | h2
      · exact hb c' h2
      · rw [List.mem_singleton.mp h2]
        exact of_nF h
  rintro ρ' ⟨v, rfl, hb⟩
  have f3 : ∀ c ∈ fg x, isDg c := fun c hc => figB_iff.mp (hb c (by
    rw [List.take_of_length_le (by unfold tl; simp), t1]; exact hc))
  obtain ⟨c, r, ec⟩ : ∃ c r, fg x = c :: r := by
    cases e : fg x with
    | nil => rw [e] at t1; rw [t1] at hfl; simp at hfl; omega
    | cons c r => exact ⟨c, r, rfl⟩
  have f1 : fg x ≠ [] := by rw [ec]; exact fun z => nomatch z
  refine ⟨fun ρ => ρ = [.some (.str x), .some (.str f), v] ∧ (c = 48 → tl x = [48]), ?_, ?_⟩
  · refine ⟨_, rfl, _, _, c, rfl, rfl, by decide, by decide, by omega, cps_head (t1.trans ec), _, _, rfl, rfl, _, rfl, ?_⟩
    rw [one_nought]
    refine ifB (fun h => ?_) (fun h => ifF rfl ⟨rfl, fun z => absurd z (of_decide_eq_false h)⟩)
    refine ⟨_, rfl, _, _, rfl, rfl, _, rfl, ?_⟩
    rw [is_nought]
    refine ifB (fun h2 => q0 fun z => ?_) (fun h2 => ⟨rfl, fun _ => of_decide_eq_true (of_nF h2)⟩)
    have z3 := ((numl_iff rfl).mp z).2.2 (by rw [ec, of_decide_eq_true h]; rfl)
    rw [decide_eq_true z3] at h2
    cases h2
  rintro ρ ⟨rfl, hc⟩
  have hn : Numl (tl x) := (numl_iff rfl).mpr ⟨f1, f3, fun z => hc (by rw [ec] at z; exact Option.some.inj z)⟩
  refine ⟨_, rfl, x, rfl, hn, ?_, ?_⟩
  · show (tl x).length ≤ 640
    omega
  · rw [lwv_some hn] at q; exact q
abbrev s_law_is_writing : Stmt := top 42
theorem sc_law_is_writing : FnScope ["_law_way_here", "_law_row", "_law_k"] ["_law_way_here", "_law_row"] (defScope s_law_is_writing) := by walk_at "sc"
theorem ok_law_is_writing (T : Txt K mg A) (G__law_low : DOk P w K mg base 1 "_law_low" (S_lowN)) (G__law_high : DOk P w K mg base 1 "_law_high" (S_highN)) (F : Fun K "_law_is_writing" "_law_is_writing" s_law_is_writing f fd) : FnOk P w K mg base CX0 2 f fd ["_law_way_here", "_law_row"] (PureSp K (S_lisw)) := by
  refine okD F sc_law_is_writing (by walk_at "ln") fun _ _ _ _ _ _ hr ds Q h => ?_
  obtain ⟨k, n, r, rfl, hn, hl, q⟩ := h
  refine ⟨_, (dss_cons (ds_forR (j := 2) rfl sc_law_is_writing.nd rfl (Or.inl rfl) PassesOwn.never rfl T.range (de_len rfl T.len (dv 1)) (dss_cons (ds_if (dt_not (dt_chain (o_le) (o_le) (de_call G__law_low (hr.mono (by decide)) rfl (da_cons (dv 0) da_nil)) (de_ix (dv 1) (dv 2) (fun _ _ => rfl)) (de_call G__law_high (hr.mono (by decide)) rfl (da_cons (dv 0) (da_cons (dv 2) da_nil))))) (dss_one (ds_ret de_bl)) dss_nil)
  (dss_one (ds_if (DW.dt (dw_and (dt_cmp (o_eqS) (de_ix (dv 0) de_int (fun _ _ => rfl)) de_str (nomark _)) (dw_and (dt_cmp (o_eq hr) (de_ix (dv 1) (dv 2) (fun _ _ => rfl)) (de_ix (dv 0) de_int (fun _ _ => rfl)) (nomark _)) (dw_and (dt_cmp (o_gt) (dv 2) de_int (nomark _)) (dw_and1 (dt_cmp (o_ne hr) (de_ix (dv 1) (de_op o_sub (dv 2) de_int) (fun _ _ => rfl)) de_int (nomark _))))))) (dss_one (ds_ret de_bl)) dss_nil))))
  (dss_one (ds_ret (de_or (de_cmp (o_eq hr) (dv 1) (de_lst da_nil) (nomark _)) (de_one (de_cmp (o_ne hr) (de_ix (dv 1) (de_neg de_int) (fun _ _ => rfl)) de_int (nomark _))))))), ?_⟩
  have ll := len_ints r
  have qf : ¬ Legal k n r → Q (.bl false) := fun z => by rw [legal_f z] at q; exact q
  walk_at "rd"
  refine ⟨_, fun i ρ => ∃ v, ρ = [.some (wayT k n), .some (rowD r), v] ∧ (∀ p, p < i → k.low n p ≤ r.getD p 0 ∧ r.getD p 0 ≤ k.high n p) ∧ (k.isF = true → ∀ p, p + 1 < i → r.getD (p + 1) 0 = n → r.getD p 0 = 0), rfl, by omega, by omega, ⟨_, rfl, fun p hp => absurd hp (Nat.not_lt_zero _), fun _ p hp => absurd hp (Nat.not_lt_zero _)⟩, ?_, ?_⟩
  · rintro i ρ' hi ⟨v, rfl, h1, h2⟩
    have hi' : i < r.length := by omega
    have el : k.low n 0 = k.low n i := by cases k <;> rfl
    refine ⟨_, rfl, k, n, rfl, _, rfl, _, rfl, _, _, _, rfl, rfl, row_at hi', _, _, rfl, rfl, _, rfl, ?_⟩
    rw [el]
    refine ifB (fun g1 => ?_) (fun g1 => ?_)
    rotate_left
    · have g1 := of_decide_eq_false g1
      refine ⟨_, rfl, ifT rfl (qf fun L => g1 (L.fig i hi').1)⟩
    have g1 := of_decide_eq_true g1
    refine ⟨_, rfl, _, rfl, k, n, _, rfl, hn, _, _, rfl, rfl, _, rfl, ?_⟩
    refine ifB (fun g2 => qf fun L => of_decide_eq_false (of_nT g2) (L.fig i hi').2) (fun g2 => ?_)
    have g2 := of_decide_eq_true (of_nF g2)
    have h1' : ∀ p, p < i + 1 → k.low n p ≤ r.getD p 0 ∧ r.getD p 0 ≤ k.high n p := fun p hp => by
      rcases (by omega : p < i ∨ p = i) with z | z
      · exact h1 p z
      · subst z; exact ⟨g1, g2⟩
    have done : (k.isF = true → r.getD i 0 = n → ∀ p, p + 1 = i → r.getD p 0 = 0) → (k.isF = true → ∀ p, p + 1 < i + 1 → r.getD (p + 1) 0 = n → r.getD p 0 = 0) := fun z hk p hp e => by
      rcases (by omega : p + 1 < i ∨ p + 1 = i) with y | y
      · exact h2 hk p y e
      · exact z hk (by rw [← y]; exact e) p y
    refine ⟨_, rfl, _, _, _, rfl, rfl, rfl, _, _, rfl, rfl, _, rfl, ?_⟩
    by_cases hk : k = .falling
    · subst hk
      refine ifT rfl ?_
      refine ⟨_, rfl, _, rfl, _, _, _, rfl, rfl, row_at hi', _, rfl, _, _, _, rfl, rfl, rfl, rfl, rfl, _, rfl, ifB (fun e1 => ?_) (fun e1 => ?_)⟩
      rotate_left
      · exact ifF rfl ⟨_, rfl, h1', done fun _ e => absurd (eqI e) (by rw [e1]; exact Bool.false_ne_true)⟩
      refine ⟨_, rfl, _, _, rfl, rfl, _, rfl, ifB (fun e2 => ?_) (fun e2 => ?_)⟩
      rotate_left
      · exact ifF rfl ⟨_, rfl, h1', done fun _ _ p hp => absurd (of_decide_eq_false e2) (by omega)⟩
      have e2 : (0 : Int) < i := of_decide_eq_true e2
      obtain ⟨j, rfl⟩ : ∃ j, i = j + 1 := ⟨i - 1, by omega⟩
      have ej : ((j + 1 : Nat) : Int) - 1 = (j : Int) := by omega
      refine ⟨_, rfl, _, rfl, _, _, rfl, rfl, _, _, _, rfl, rfl, (by rw [ej]; exact row_at (by omega)), rfl, rfl, _, rfl, ifB (fun e3 => ?_) (fun e3 => ?_)⟩
      · refine qf fun L => ?_
        have z := L.fal rfl j hi' (of_eqI e1)
        rw [eqI z] at e3
        cases e3
      · exact ⟨_, rfl, h1', done fun _ _ p hp => by obtain rfl : p = j := (by omega); exact of_eqI (of_nF e3)⟩
    · exact ifF (by cases k <;> first | rfl | exact absurd rfl hk) (ifF rfl ⟨_, rfl, h1', done fun hf => absurd (by cases k <;> first | rfl | cases hf) hk⟩)
  · rintro ρ' ⟨v, rfl, h1, h2⟩
    have en : (((r.map Dt.int).length : Int)).toNat = r.length := by omega
    rw [en] at h1 h2
    walk_at "rd"
    refine ⟨okE_row _, rfl, _, rfl, ?_⟩
    rcases snoc_cases r with rfl | ⟨l, z, rfl⟩
    · refine ifT rfl ?_
      rw [legal_t ⟨h1, h2, .inl rfl⟩] at q
      exact q
    · have ez : (l ++ [z]).getD ((l ++ [z]).length - 1) 0 = z := by rw [List.length_append]; simp [List.getD_eq_getElem?_getD]
      refine ifF (by cases l <;> rfl) ?_
      refine ⟨_, rfl, _, rfl, _, _, _, rfl, rfl, atI_last, rfl, rfl, ?_⟩
      by_cases hz : z = 0
      · rw [legal_f (fun L => by
          rcases L.end_ with h | h
          · simp at h
          · rw [ez] at h; exact h hz)] at q
        rw [show eqD (.int z) (.int 0) = true from eqI hz]
        exact q
      · rw [legal_t ⟨h1, h2, .inr (by rw [ez]; exact hz)⟩] at q
        rw [show eqD (.int z) (.int 0) = false from neI hz]
        exact q
abbrev s_law_row_of : Stmt := top 44
theorem sc_law_row_of : FnScope ["_law_way_here", "_law_text", "_law_row"] ["_law_way_here", "_law_text"] (defScope s_law_row_of) := by walk_at "sc"
theorem ok_law_row_of (T : Txt K mg A) (G__law_whole_of : DOk P w K mg base 1 "_law_whole_of" (S_lwhole)) (G__law_is_writing : DOk P w K mg base 2 "_law_is_writing" (S_lisw)) (F : Fun K "_law_row_of" "_law_row_of" s_law_row_of f fd) : FnOk P w K mg base CX0 3 f fd ["_law_way_here", "_law_text"] (PureSp K (S_lrow)) := by
  refine okD F sc_law_row_of (by walk_at "ln") fun _ _ _ _ _ _ hr ds Q h => ?_
  obtain ⟨k, n, x, rfl, hn, hx, hl, q⟩ := h
  refine ⟨_, (dss_cons (ds_if (dt_not (dt_val (de_isiS T.isinstance T.n_str (dv 1)))) (dss_one (ds_ret de_non)) dss_nil)
  (dss_cons (ds_if (dt_cmp (o_eqS) (dv 1) de_str (nomark _)) (dss_one (ds_ret (de_lst da_nil))) dss_nil)
  (dss_cons (ds_setCompGP (i := 2) (L := 0) (osc := defScope s_law_row_of) (N0 := ["_law_way_here", "_law_text", "_law_row"]) (bs := ["_law_part"]) (caps := []) (js := []) rfl (by decide +kernel) rfl rfl rfl sc_law_row_of.nd rfl (Or.inl rfl) (di_rev rfl T.n_reversed (da_cons (DF.de (df_split (dv 1) de_str)) da_nil)) (fun _ _ _ _ _ => (pg_name (i := 0) (show List.Nodup [("_law_part" : Str)] by decide +kernel) rfl (Or.inl (lookup_relabel_local rfl)) (.inl rfl))) lig_one (fun _ _ _ _ _ => dc_nil) (fun _ _ _ _ _ => (de_call G__law_whole_of (hr.mono (by decide)) rfl (da_cons (dv 0) da_nil))))
  (dss_join (ds_if (DW.dt (dw_or (dt_cmp o_inN de_non (dv 2) (by with_unfolding_all rfl)) (dw_or1 (dt_not (dt_val (de_call G__law_is_writing (hr.mono (by decide)) rfl (da_cons (dv 0) (da_cons (dv 2) da_nil)))))))) (dss_one (ds_ret de_non)) dss_nil)
  (dss_one (ds_ret (dv 2))))))), ?_⟩
  refine ⟨_, rfl, _, rfl, _, rfl, ifF rfl ?_⟩
  refine ⟨_, rfl, _, _, rfl, rfl, _, rfl, ?_⟩
  rw [is_nought]
  refine ifB (fun h0 => ?_) (fun h0 => ?_)
  · rw [rvv_nought (of_decide_eq_true h0)] at q
    exact ⟨rfl, q⟩
  have h0 := of_decide_eq_false h0
  have hsl := split_len x "."
  refine ⟨_, rfl, _, rfl, by omega, _, rfl, dot_ok, _, _, rfl, rfl, by rw [List.length_map]; omega, fun i es => es = (((Txt.split x ".").reverse.take i).map lwv).map optI, rfl, ?_, ?_⟩
  · rintro i e es hi he rfl
    have he : ((Txt.split x ".").map Dt.str).reverse[i]? = some e := he
    rw [← List.map_reverse, List.getElem?_map] at he
    obtain ⟨p, hp, rfl⟩ := Option.map_eq_some_iff.mp he
    have hpm := List.mem_reverse.mp (List.mem_of_getElem? hp)
    have hpl := (split_mem hpm).1
    refine ⟨_, rfl, each_t (ifT rfl ?_)⟩
    refine ⟨_, rfl, p, rfl, asc_split hx hpm, by omega, ?_⟩
    show _ ++ [_] = ((((Txt.split x ".").reverse.take (i + 1)).map lwv).map optI)
    rw [List.take_succ, hp, List.map_append, List.map_append]
    rfl
  · rintro es rfl
    rw [List.take_of_length_le (by rw [List.length_reverse, List.length_map]; exact Nat.le_refl _)]
    rw [show (Txt.split x ".").reverse.map lwv = pts lwv x from rfl]
    have hpl := pts_len lwv x
    refine ⟨fun ρ => ρ = [.some (wayT k n), .some (.str x), .some (rowD ((pts lwv x).filterMap id))] ∧ rvv lwv k n x = some ((pts lwv x).filterMap id), ?_, ?_⟩
    · refine ⟨_, rfl, _, pts lwv x, rfl, rfl, rfl, _, rfl, ?_⟩
      cases ha : (pts lwv x).any Option.isNone with
      | true =>
        refine ifT rfl (ifT rfl ?_)
        have : rvv lwv k n x = none := by unfold rvv; rw [if_neg h0, if_pos ha]
        rw [this] at q
        exact q
      | false =>
        have hs := all_some ha
        generalize hvs : (pts lwv x).filterMap id = vs at *
        have hrv := rvv_vals (k := k) (n := n) h0 hs
        have hvl : vs.length ≤ 1000 := by
          have := congrArg List.length hs
          rw [List.length_map] at this
          omega
        have eD : (pts lwv x).map optI = vs.map Dt.int := by rw [hs, List.map_map]; rfl
        refine ifF rfl ?_
        rw [eD]
        refine ⟨_, rfl, _, rfl, k, n, vs, rfl, hn, hvl, _, rfl, ?_⟩
        cases hlg : legal k n vs with
        | true =>
          rw [hlg] at hrv
          exact ifF rfl ⟨rfl, hrv⟩
        | false =>
          rw [hlg] at hrv
          refine ifT rfl ?_
          have hrv : rvv lwv k n x = none := hrv
          rw [hrv] at q
          exact q
    · rintro ρ ⟨rfl, hrv⟩
      rw [hrv] at q
      exact ⟨_, rfl, q⟩
abbrev s_law_alike : Stmt := top 45
theorem sc_law_alike : FnScope ["_law_found", "_law_due", "_law_k"] ["_law_found", "_law_due"] (defScope s_law_alike) := by walk_at "sc"
theorem ok_law_alike (T : Txt K mg A) (F : Fun K "_law_alike" "_law_alike" s_law_alike f fd) : FnOk P w K mg base CX0 1 f fd ["_law_found", "_law_due"] (PureSp K (S_lalike)) := by
  refine okD F sc_law_alike (by walk_at "ln") fun _ _ _ _ _ _ hr ds Q h => ?_
  obtain ⟨r, rfl, hl, q⟩ := h
  refine ⟨_, (dss_join (ds_if (DW.dt (dw_or (dt_not (dt_val (de_isi (T := .list) T.kt T.isinstance T.n_list PyProof.Rows.boot_list (dv 0)))) (dw_or1 (dt_cmp (o_ne hr) (de_len rfl T.len (dv 0)) (de_len rfl T.len (dv 1)) (nomark _))))) (dss_one (ds_ret de_bl)) dss_nil)
  (dss_cons (ds_forR (j := 2) rfl sc_law_alike.nd rfl (Or.inl rfl) PassesOwn.never rfl T.range (de_len rfl T.len (dv 1)) (dss_one (ds_if (DW.dt (dw_or (dt_not (dt_val (de_isi (T := .int) T.kt T.isinstance T.n_int PyProof.Rows.boot_int (de_ix (dv 0) (dv 2) (fun _ _ => rfl))))) (dw_or (dt_val (de_isi (T := .bool) T.kt T.isinstance T.n_bool PyProof.Rows.boot_bool (de_ix (dv 0) (dv 2) (fun _ _ => rfl)))) (dw_or1 (dt_cmp (o_ne hr) (de_ix (dv 0) (dv 2) (fun _ _ => rfl)) (de_ix (dv 1) (dv 2) (fun _ _ => rfl)) (nomark _)))))) (dss_one (ds_ret de_bl)) dss_nil)))
  (dss_one (ds_ret de_bl)))), ?_⟩
  have ll := len_ints r
  refine ⟨fun ρ => ρ = [.some (rowD r), .some (rowD r), .none], ?_, ?_⟩
  · walk_at "rd"
    exact ifF (nT (eqI rfl)) rfl
  · rintro ρ rfl
    walk_at "rd"
    refine ⟨_, fun i ρ => ∃ v, ρ = [.some (rowD r), .some (rowD r), v], rfl, by omega, by omega, ⟨_, rfl⟩, ?_, ?_⟩
    · rintro i ρ' hi ⟨v, rfl⟩
      have hi' : i < r.length := by omega
      refine ⟨_, rfl, _, rfl, _, _, _, rfl, rfl, row_at hi', _, rfl, _, rfl, ifF rfl ?_⟩
      refine ⟨_, rfl, _, rfl, _, _, _, rfl, rfl, row_at hi', _, rfl, _, rfl, ifF rfl ?_⟩
      refine ⟨_, rfl, _, rfl, _, _, _, rfl, rfl, row_at hi', _, rfl, _, rfl, _, _, _, rfl, rfl, row_at hi', rfl, rfl, _, rfl, ifF (nT (eqI rfl)) ⟨_, rfl⟩⟩
    · rintro ρ' ⟨v, rfl⟩
      exact q
abbrev s_law_read : Stmt := top 46
theorem sc_law_read : FnScope ["_law_way_here", "_law_own", "_law_text", "_law_found", "_law_refused", "_law_due"] ["_law_way_here", "_law_own", "_law_text"] (defScope s_law_read) := by walk_at "sc"
theorem ok_law_read (T : Txt K mg A) (G_row_read : FOkX P w K mg base 4 "row_read" (S_rread A)) (G__law_row_of : DOk P w K mg base 3 "_law_row_of" (S_lrow)) (G__law_alike : DOk P w K mg base 1 "_law_alike" (S_lalike)) (F : Fun K "_law_read" "_law_read" s_law_read f fd) : FnOk P w K mg base CX0 5 f fd ["_law_way_here", "_law_own", "_law_text"] (PureSp K (S_lread A)) := by
  refine okD F sc_law_read (by walk_at "ln") fun _ _ _ _ _ _ hr ds Q h => ?_
  obtain ⟨k, n, x, rfl, hn, hx, hl, q⟩ := h
  refine ⟨_, (dss_cons (ds_set (i := 3) sc_law_read.nd rfl (Or.inl rfl) de_non)
  (dss_cons (ds_set (i := 4) sc_law_read.nd rfl (Or.inl rfl) de_bl)
  (dss_cons (ds_trySetFO (i := 3) (m2 := "") rfl rfl sc_law_read.nd rfl (Or.inl rfl) G_row_read (hr.mono (by decide)) rfl (da_cons (dv 0) (da_cons (dv 2) da_nil)) (fun _ => (dss_one (ds_set (i := 4) sc_law_read.nd rfl (Or.inl rfl) de_bl))) rfl T.gc_NoText)
  (dss_cons (ds_set (i := 5) sc_law_read.nd rfl (Or.inl rfl) (de_call G__law_row_of (hr.mono (by decide)) rfl (da_cons (dv 1) (da_cons (dv 2) da_nil))))
  (dss_cons (ds_if (dt_isN (dv 5)) (dss_one (ds_ret (dv 4))) dss_nil)
  (dss_join (ds_if (dt_bor (DW.dt (dw_or (dt_val (dv 4)) (dw_or1 (dt_not (dt_val (de_call G__law_alike (hr.mono (by decide)) rfl (da_cons (dv 3) (da_cons (dv 5) da_nil))))))))) (dss_one (ds_ret de_bl)) dss_nil)
  (dss_cons (ds_app 3 de_int)
  (dss_one (ds_ret (de_call G__law_alike (hr.mono (by decide)) rfl (da_cons (DF.de (df_callX G_row_read (hr.mono (by decide)) rfl (da_cons (dv 0) (da_cons (dv 2) da_nil)))) (da_cons (dv 5) da_nil)))))))))))), ?_⟩
  have hrv := rvv_eq hn hl
  refine ⟨_, rfl, _, rfl, k, n, x, rfl, hn, hx, hl, fun r hr => ?_, fun hr => ?_⟩
  · have hrl := rvv_len hr
    have lr := len_ints r
    refine ⟨_, rfl, ?_⟩
    refine ⟨_, rfl, _, rfl, k, n, x, rfl, hn, hx, hl, ?_⟩
    rw [hrv, hr]
    refine ⟨_, rfl, _, rfl, ifF rfl ?_⟩
    refine ⟨fun ρ => ρ = [.some (wayD A k n), .some (wayT k n), .some (.str x), .own (r.map Dt.int), .some (.bl false), .some (rowD r)], ?_, ?_⟩
    · refine ⟨_, rfl, _, rfl, ifF rfl ?_⟩
      exact ⟨_, rfl, _, rfl, r, rfl, by omega, _, rfl, ifF rfl rfl⟩
    rintro ρ rfl
    refine ⟨_, rfl, by omega, ?_⟩
    refine ⟨_, rfl, _, rfl, k, n, x, rfl, hn, hx, hl, fun r2 h2 => ?_, fun h2 => ?_⟩
    · rw [hr] at h2
      cases h2
      exact ⟨_, rfl, r, rfl, by omega, q⟩
    · rw [hr] at h2
      cases h2
  · refine ⟨T.em_NoText_NoText, ?_⟩
    refine ⟨_, rfl, _, rfl, k, n, x, rfl, hn, hx, hl, ?_⟩
    rw [hrv, hr]
    walk_at "rd"
    exact q
abbrev s_law_spoilt : Stmt := top 47
theorem sc_law_spoilt : FnScope ["_law_row", "_law_text", "_law_cell", "_law_way_here", "_law_at", "_law_changed"] ["_law_row", "_law_text", "_law_cell"] (defScope s_law_spoilt) := by walk_at "sc"
theorem ok_law_spoilt (T : Txt K mg A) (G__law_shown : DOk P w K mg base 1 "_law_shown" (S_rsh)) (F : Fun K "_law_spoilt" "_law_spoilt" s_law_spoilt f fd) : FnOk P w K mg base CX0 2 f fd ["_law_row", "_law_text", "_law_cell"] (PureSp K (S_lspo)) := by
  refine okD F sc_law_spoilt (by walk_at "ln") fun _ _ _ _ _ _ hr ds Q h => ?_
  obtain ⟨r, x, z, rfl, hl, hb, hx, hxl, q⟩ := h
  refine ⟨_, (dss_cons (ds_set (i := 3) sc_law_spoilt.nd rfl (Or.inl rfl) (de_op o_mod (dv 2) de_int))
  (dss_cons (ds_set (i := 2) sc_law_spoilt.nd rfl (Or.inl rfl) (de_op o_fdiv (dv 2) de_int))
  (dss_cons (ds_set (i := 4) sc_law_spoilt.nd rfl (Or.inl rfl) (de_op o_mod (de_op o_fdiv (dv 2) de_int) (de_op o_add (de_lenS rfl T.len (dv 1)) de_int)))
  (dss_cons (ds_if (dt_cmp (o_eq hr) (dv 3) de_int (nomark _)) (dss_one (ds_ret (de_op o_catS (de_op o_catS (de_sliceT (dv 1) do_none (do_some (dv 4))) (de_itS de_str (de_op o_mod (dv 2) de_int))) (de_sliceT (dv 1) (do_some (dv 4)) do_none)))) dss_nil)
  (dss_cons (ds_if (dt_cmp (o_eq hr) (dv 3) de_int (nomark _)) (dss_one (ds_ret (de_op o_catS de_str (dv 1)))) dss_nil)
  (dss_join (ds_if (DW.dt (dw_or (dt_cmp (o_eq hr) (dv 3) de_int (nomark _)) (dw_or1 (dt_cmp (o_eq hr) (dv 0) (de_lst da_nil) (nomark _))))) (dss_one (ds_ret (de_op o_catS (de_sliceT (dv 1) do_none (do_some (dv 4))) (de_sliceT (dv 1) (do_some (de_op o_add (dv 4) de_int)) do_none)))) dss_nil)
  (dss_cons (ds_setO (i := 5) sc_law_spoilt.nd rfl (Or.inl rfl) (df_list rfl T.n_list (dv 0)))
  (dss_cons (ds_put 5 (de_op o_mod (de_op o_fdiv (dv 2) de_int) (de_len rfl T.len (dv 0))) (de_op o_sub (de_op o_mod (de_op o_fdiv (dv 2) de_int) de_int) de_int))
  (dss_frz 5 (dss_one (ds_ret (de_call G__law_shown (hr.mono (by decide)) rfl (da_cons (dv 5) da_nil))))))))))))), ?_⟩
  refine ⟨_, rfl, _, _, rfl, rfl, cmodN (by decide), ?_⟩
  refine ⟨_, rfl, _, _, rfl, rfl, cdivN (by decide), ?_⟩
  dsimp only
  generalize z.fmod 4 = w
  generalize z.fdiv 4 = z'
  obtain ⟨c, ec, hc⟩ := sign8_at z'
  have s0 := Int.fmod_nonneg_of_pos z' (show (0 : Int) < 8 by decide)
  have s1 := Int.fmod_lt_of_pos z' (show (0 : Int) < 8 by decide)
  have hs : asc ⟨#[c]⟩ := fun d hd => by rw [List.mem_singleton.mp (show d ∈ [c] from hd)]; exact hc
  have l0 : (⟨#[c]⟩ : Str).length = 1 := rfl
  have ll := len_ints r
  refine ⟨_, rfl, _, _, rfl, rfl, cdivN (by decide), _, rfl, _, rfl, by omega, _, _, rfl, rfl, _, _, rfl, rfl, (by show (x.length : Int) + 1 ≠ 0; omega), ?_⟩
  dsimp only
  generalize (z'.fdiv 16).fmod ((x.length : Int) + 1) = a
  have la := slice_len x none (some a)
  have lb := slice_len x (some a) none
  have lc := slice_len x (some (a + 1)) none
  have aa := asc_slice (l := none) (u := some a) hx
  have ab := asc_slice (l := some a) (u := none) hx
  have ac := asc_slice (l := some (a + 1)) (u := none) hx
  have le : ∀ u v : Str, (u ++ v).length = u.length + v.length := fun u v => by rw [← tl_len, tl_app, List.length_append, tl_len, tl_len]
  refine ⟨_, rfl, rfl, rfl, _, rfl, ifB (fun _ => ?_) (fun _ => ?_)⟩
  · refine ⟨_, rfl, _, rfl, _, rfl, _, rfl, by omega, _, rfl, _, _, rfl, rfl, cmodN (by decide), _, _, c, rfl, rfl, s0, by omega, by rw [sign8_len]; exact s1, ec, _, _, rfl, rfl, by rw [l0]; omega, _, rfl, _, rfl, _, rfl, _, rfl, by omega, _, _, rfl, rfl, by rw [le, l0]; omega, ?_⟩
    exact q _ (asc_app (asc_app aa hs) ab) (by rw [le, le, l0]; omega)
  refine ⟨_, rfl, rfl, rfl, _, rfl, ifB (fun _ => ?_) (fun _ => ?_)⟩
  · exact ⟨_, rfl, _, _, rfl, rfl, by rw [nil_dot.2]; omega, q _ (asc_app nil_dot.1 hx) (by rw [le, nil_dot.2]; omega)⟩
  refine ⟨fun ρ => ρ = [.some (rowD r), .some (.str x), .some (.int z'), .some (.int w), .some (.int a), .none] ∧ r ≠ [], ?_, ?_⟩
  · refine ⟨_, rfl, rfl, rfl, _, rfl, ifB (fun _ => ?_) (fun _ => ?_)⟩
    · refine ifT rfl ?_
      refine ⟨_, rfl, _, rfl, _, rfl, _, rfl, by omega, _, rfl, _, rfl, _, _, rfl, rfl, _, rfl, _, rfl, by omega, _, _, rfl, rfl, by omega, ?_⟩
      exact q _ (asc_app aa ac) (by rw [le]; omega)
    · refine ⟨_, rfl, rfl, okE_row _, rfl, _, rfl, ifB (fun h => ?_) (fun h => ⟨rfl, fun z => by subst z; cases h⟩)⟩
      refine ⟨_, rfl, _, rfl, _, rfl, _, rfl, by omega, _, rfl, _, rfl, _, _, rfl, rfl, _, rfl, _, rfl, by omega, _, _, rfl, rfl, by omega, ?_⟩
      exact q _ (asc_app aa ac) (by rw [le]; omega)
  · rintro ρ ⟨rfl, hne⟩
    have hpos : 0 < r.length := by
      cases r with
      | nil => exact absurd rfl hne
      | cons _ _ => exact Nat.succ_pos _
    have f0 := Int.fmod_nonneg_of_pos (z'.fdiv 64) (show (0 : Int) < ((r.map Dt.int).length : Int) by omega)
    have f1 := Int.fmod_lt_of_pos (z'.fdiv 64) (show (0 : Int) < ((r.map Dt.int).length : Int) by omega)
    have g0 := Int.fmod_nonneg_of_pos (z'.fdiv 7) (show (0 : Int) < 140 by decide)
    have g1 := Int.fmod_lt_of_pos (z'.fdiv 7) (show (0 : Int) < 140 by decide)
    refine ⟨_, rfl, _, rfl, _, rfl, ?_⟩
    refine ⟨_, rfl, _, rfl, _, _, rfl, rfl, cdivN (by decide), _, _, rfl, rfl, cmodN (by decide), _, _, rfl, rfl, _, rfl, _, _, rfl, rfl, cdivN (by decide), _, rfl, _, rfl, _, _, rfl, rfl, (by show ((r.map Dt.int).length : Int) ≠ 0; omega), _, _, rfl, ixN_nat f0 f1, ?_⟩
    dsimp only
    rw [set_ints]
    refine ⟨_, rfl, _, rfl, _, rfl, by rw [List.length_set]; omega, fun y hy => ?_, q _ (rsh_asc _) (Nat.le_trans (rsh_len (by rw [List.length_set]; exact hl) fun y hy => ?_) (by decide))⟩
    all_goals
      rcases List.mem_or_eq_of_mem_set hy with h | h
      · exact hb y h
      · rw [h]; omega
abbrev s_law : Stmt := top 48
theorem sc_law : FnScope ["_law_script", "_law_own", "_law_way_here", "_law_row", "_law_handed", "_law_text", "_law_cell", "_law_k"] ["_law_script"] (defScope s_law) := by walk_at "sc"
theorem ok_law (T : Txt K mg A) (G__law_way : DOk P w K mg base 1 "_law_way" (S_wayN)) (G__law_cell_at : DOk P w K mg base 1 "_law_cell_at" (S_cell)) (G_way_read : DOk P w K mg base 6 "way_read" (S_waytx A)) (G__law_drawn : FOk P w K mg base 2 "_law_drawn" (S_drawn)) (G_row_shown : DOk P w K mg base 3 "row_shown" (S_rsh)) (G__law_shown : DOk P w K mg base 1 "_law_shown" (S_rsh)) (G__law_read : DOk P w K mg base 5 "_law_read" (S_lread A)) (G__law_spoilt : DOk P w K mg base 2 "_law_spoilt" (S_lspo)) (F : Fun K "law" "law" s_law f fd) : FnOk P w K mg base CX0 7 f fd ["_law_script"] (PureSp K (S_law)) := by
  refine okD F sc_law (by walk_at "ln") fun _ _ _ _ _ _ hr ds Q h => ?_
  obtain ⟨ns, rfl, hns, q⟩ := h
  refine ⟨_, (dss_cons (ds_set (i := 1) sc_law.nd rfl (Or.inl rfl) (de_call G__law_way (hr.mono (by decide)) rfl (da_cons (de_call G__law_cell_at (hr.mono (by decide)) rfl (da_cons (dv 0) (da_cons de_int da_nil))) da_nil)))
  (dss_cons (ds_set (i := 2) sc_law.nd rfl (Or.inl rfl) (de_call G_way_read (hr.mono (by decide)) rfl (da_cons (de_op o_catS (de_ix (dv 1) de_int (fun _ _ => rfl)) (de_strI rfl T.n_str (de_ix (dv 1) de_int (fun _ _ => rfl)))) da_nil)))
  (dss_cons (ds_set (i := 3) sc_law.nd rfl (Or.inl rfl) (DF.de (df_call G__law_drawn (hr.mono (by decide)) rfl (da_cons (dv 1) (da_cons (de_slice (dv 0) (do_some de_int) (do_some de_int)) da_nil)))))
  (dss_cons (ds_set (i := 4) sc_law.nd rfl (Or.inl rfl) (DF.de (df_list rfl T.n_list (dv 3))))
  (dss_cons (ds_set (i := 5) sc_law.nd rfl (Or.inl rfl) (de_call G_row_shown (hr.mono (by decide)) rfl (da_cons (dv 4) da_nil)))
  (dss_join (ds_if (DW.dt (dw_or (dt_not (dt_val (de_isiS T.isinstance T.n_str (dv 5)))) (dw_or (dt_cmp (o_neS) (dv 5) (de_call G__law_shown (hr.mono (by decide)) rfl (da_cons (dv 3) da_nil)) (nomark _)) (dw_or (dt_cmp (o_ne hr) (dv 4) (dv 3) (nomark _)) (dw_or1 (dt_not (dt_val (de_call G__law_read (hr.mono (by decide)) rfl (da_cons (dv 2) (da_cons (dv 1) (da_cons (dv 5) da_nil))))))))))) (dss_one (ds_ret de_bl)) dss_nil)
  (dss_cons (ds_set (i := 6) sc_law.nd rfl (Or.inl rfl) (de_call G__law_cell_at (hr.mono (by decide)) rfl (da_cons (dv 0) (da_cons de_int da_nil))))
  (dss_cons (ds_forR (j := 7) rfl sc_law.nd rfl (Or.inl rfl) PassesOwn.never rfl T.range de_int (dss_one (ds_if (dt_not (dt_val (de_call G__law_read (hr.mono (by decide)) rfl (da_cons (dv 2) (da_cons (dv 1) (da_cons (de_call G__law_spoilt (hr.mono (by decide)) rfl (da_cons (dv 3) (da_cons (dv 5) (da_cons (de_op o_mod (de_op o_mul (de_op o_add (dv 6) (de_op o_mul (dv 7) (dv 7))) (de_ix (de_lst (da_cons de_int (da_cons de_int da_nil))) (de_op o_mod (dv 7) de_int) (fun _ _ => rfl))) de_int) da_nil)))) da_nil)))))) (dss_one (ds_ret de_bl)) dss_nil)))
  (dss_one (ds_ret de_bl)))))))))), ?_⟩
  obtain ⟨cs, ec, lc, _⟩ := cut_ints ns (some 2) (some 60)
  have l58 := cut_58 (ns.map Dt.int)
  rw [ec, len_ints] at l58
  refine ⟨_, rfl, ns, 0, rfl, Int.le_refl _, fun c0 => ⟨c0, rfl, fun k n hn => ?_⟩⟩
  obtain ⟨b1, b2⟩ := ok_bd hn
  have ln : k.nam.length ≤ 8 := by cases k <;> decide +kernel
  have hna : n.natAbs < 10 ^ 3 := by obtain ⟨x1, x2⟩ := hn; cases k <;> simp only [Kd.lo, Kd.hi] at x1 x2 <;> omega
  have lw : (shw n).length ≤ 4 := shw_len (k := 3) n (by decide) hna
  refine ⟨_, rfl, _, _, _, rfl, rfl, rfl, _, rfl, _, _, _, rfl, rfl, rfl, _, rfl, Nat.lt_of_le_of_lt (Nat.log2_le_self _) (Nat.lt_trans hna (by decide)), _, _, rfl, rfl, by show k.nam.length + (shw n).length ≤ _; omega, k, n, rfl, hn, ?_⟩
  refine ⟨_, rfl, _, rfl, _, rfl, _, rfl, _, rfl, ?_⟩
  rw [ec]
  refine ⟨k, n, cs, rfl, hn, by omega, fun r hL hlr => ?_⟩
  have hsm := leg_small hn hL.fig (by omega)
  have hrl := rsh_len (r := r) (by omega) hsm
  refine ⟨_, rfl, _, rfl, ?_⟩
  refine ⟨_, rfl, r, rfl, by omega, hsm, ?_⟩
  refine ⟨fun ρ => ρ = [.some (.scr ns), .some (wayT k n), .some (wayD A k n), .some (rowD r), .some (rowD r), .some (.str (rsh r)), .none, .none], ?_, ?_⟩
  · refine ⟨_, rfl, _, rfl, _, rfl, ifF rfl ?_⟩
    refine ⟨_, rfl, _, rfl, r, rfl, by omega, hsm, _, _, rfl, rfl, _, rfl, ?_⟩
    rw [beq_self_eq_true]
    refine ifF rfl ?_
    refine ⟨_, rfl, _, rfl, okE_row _, okE_row _, _, rfl, ifF (nT (eqD_self 40 (okE_row _))) ?_⟩
    exact ⟨_, rfl, _, rfl, _, rfl, k, n, rsh r, rfl, hn, rsh_asc r, by omega, _, rfl, ifF rfl rfl⟩
  rintro ρ rfl
  refine ⟨_, rfl, ns, 1, rfl, by decide, fun c1 => ?_⟩
  refine ⟨_, fun i ρ => ∃ v, ρ = [.some (.scr ns), .some (wayT k n), .some (wayD A k n), .some (rowD r), .some (rowD r), .some (.str (rsh r)), .some (.int c1), v], rfl, by decide, by decide, ⟨_, rfl⟩, ?_, ?_⟩
  · rintro i ρ' hi ⟨v, rfl⟩
    have hi : i < 8 := hi
    obtain ⟨m, em, m0, m1⟩ := two_at (i : Int)
    refine ⟨_, rfl, _, rfl, _, rfl, _, rfl, _, rfl, _, rfl, _, rfl, _, _, rfl, rfl, small (by omega) (by omega) _, _, _, rfl, rfl, rfl, _, rfl, _, _, rfl, rfl, cmodN (by decide), _, _, _, rfl, rfl, em, _, _, rfl, rfl, small (by omega) (by omega) _, _, _, rfl, rfl, cmodN (by decide), ?_⟩
    refine ⟨r, rsh r, _, rfl, by omega, hsm, rsh_asc r, by omega, fun y hy hyl => ?_⟩
    refine ⟨k, n, y, rfl, hn, hy, hyl, _, rfl, ifF rfl ⟨_, rfl⟩⟩
  · rintro ρ' ⟨v, rfl⟩
    exact q
end
def BA (n q : Str) (st : Stmt) (ps : List Str) (us : List Value) : Prop := ∀ (kV doc pm : Value) (an : Option Addr) (cdv ct : Value), bindArgs (PySem.W.fnOf n q (defArgs st) (defBody st) (defScope st) .none kV doc pm an cdv ct) ⟨us, []⟩ = pure (ps.zip us)
def BZ (n q : Str) (st : Stmt) (ps : List Str) : Prop := ∀ us : List Value, us.length = ps.length → BA n q st ps us
theorem bz1 {n q : Str} {st : Stmt} {ps : List Str} (hl : ps.length = 1) (h : ∀ u0 : Value, BA n q st ps [u0]) : BZ n q st ps := fun us e => match us, e.trans hl with | [_], _ => h _
theorem bz2 {n q : Str} {st : Stmt} {ps : List Str} (hl : ps.length = 2) (h : ∀ u0 u1 : Value, BA n q st ps [u0, u1]) : BZ n q st ps := fun us e => match us, e.trans hl with | [_, _], _ => h _ _
theorem bz3 {n q : Str} {st : Stmt} {ps : List Str} (hl : ps.length = 3) (h : ∀ u0 u1 u2 : Value, BA n q st ps [u0, u1, u2]) : BZ n q st ps := fun us e => match us, e.trans hl with | [_, _, _], _ => h _ _ _
section
variable (K : PySem.W.Frag)
def FX (n q : Str) (st : Stmt) (f : Addr) : Prop := ∃ oc od kV dc pm an cd ct sl, K.lookup f = some ⟨oc, od, .func (PySem.W.fnOf n q (defArgs st) (defBody st) (defScope st) .none kV dc pm an cd ct), sl⟩ ∧ PySem.W.codeIn K cd q = true ∧ PySem.W.keepIn K (.ref f) = true
def FD (n : Str) (st : Stmt) (f : Addr) : Prop := PySem.W.nsIn K mainGlobals n = some (some (.ref f)) ∧ FX K n n st f
def FE (g n : Str) (st : Stmt) (f : Addr) : Prop := PySem.W.nsIn K mainGlobals g = some (some (.ref f)) ∧ FX K n n st f
def FM (n q : Str) (st : Stmt) (f : Addr) : Prop := PySem.W.isFn K (.ref f) = true ∧ FX K n q st f
def Fi (C : Addr) (n : Str) (f : Addr) : Prop := PySem.W.findIn K (.ref C) n = some (some (.ref f))
def Ki (C D : Addr) (b : Bool) : Prop := PySem.W.kitOne K (.ref C) (.ref D) = some b
def Gc (n : Str) (C : Addr) : Prop := PySem.W.nsIn K mainGlobals n = some (some (.ref C))
def Gs (n y : Str) (t : Tok) : Prop := PySem.W.nsIn K mainGlobals n = some (some (.str y t))
def Zn (n : Str) : Prop := PySem.W.nsIn K mainGlobals n = some none
structure ClR (C : Addr) (x : Str) : Prop where
  cls : Cls K C
  mks : PySem.W.makesIn K C = true
  kc : PySem.W.keepIn K (.ref C) = true
  na : PySem.W.findIn K (.ref C) x = some none
structure IR (C : Addr) : Prop where
  ia : PySem.W.findIn K (.ref C) "__class__" = some (some (.builtin "object.__class__"))
  im : PySem.W.mroIn K C (.type "object") = some true
variable {K} {n q : Str} {st : Stmt} {f : Addr}
theorem FX.mk {oc od kV dc pm an cd ct sl} (l : K.lookup f = some ⟨oc, od, .func (PySem.W.fnOf n q (defArgs st) (defBody st) (defScope st) .none kV dc pm an cd ct), sl⟩) (c : PySem.W.codeIn K cd q = true) (k : PySem.W.keepIn K (.ref f) = true) : FX K n q st f := ⟨_, _, _, _, _, _, _, _, _, l, c, k⟩
theorem FX.get (r : FX K n q st f) (ps : List Str) (h : BZ n q st ps) : ∃ fd, Fun K n q st f fd ∧ Binds K fd ps [] :=
  let ⟨_, _, _, _, _, _, _, _, _, l, c, k⟩ := r; ⟨_, fun_mk l c k, (fun_mk l c k).binds fun a b c d e f us z => h us z a b c d e f⟩
theorem FD.get (r : FD K n st f) {h : Heap} {mg : Str → Option Value} (X : K.In h) (G : h.Ns mainGlobals mg) (ps : List Str) (h : BZ n n st ps) : ∃ fd, mg n = some (.ref f) ∧ Fun K n n st f fd ∧ Binds K fd ps [] :=
  let ⟨fd, F, b⟩ := r.2.get ps h; ⟨fd, PySem.W.mg_of X G r.1, F, b⟩
theorem FE.get {g : Str} (r : FE K g n st f) {h : Heap} {mg : Str → Option Value} (X : K.In h) (G : h.Ns mainGlobals mg) (ps : List Str) (h : BZ n n st ps) : ∃ fd, mg g = some (.ref f) ∧ Fun K n n st f fd ∧ Binds K fd ps [] :=
  let ⟨fd, F, b⟩ := r.2.get ps h; ⟨fd, PySem.W.mg_of X G r.1, F, b⟩
theorem mkr (l : PySem.W.OpenLaw) (w : World) (base : Heap) {mg : Str → Option Value} {C : Addr} {k : Nat} {fd : FuncData} {ps : List Str} {S : DSp} (c : Cls K C) (a : Fi K C n f) (r : FM K n q st f) (F : Fun K n q st f fd) (b : Binds K fd ps []) (o : FnOk l.prog w K mg base CX0 k f fd ps (PureSp K S)) : MOk l.prog w K mg base k C n S := .mk c ⟨_, _, _, ⟨a, r.1, F.kp⟩, b, o⟩
theorem FM.get (r : FM K n q st f) (ps : List Str) (h : BZ n q st ps) : ∃ fd, Fun K n q st f fd ∧ Binds K fd ps [] := r.2.get ps h
end

theorem all_mk {l : PySem.W.OpenLaw} {w : World} {K : PySem.W.Frag} {h : Heap} {mg : Str → Option Value} {fa : Addr} (X : K.In h) (G : h.Ns mainGlobals mg) (hfa : mg "law" = some (.ref fa))
 {C_Plain C_Below C_Balanced C_Growing C_Falling C_Pairs C_NoWay C_NoText f1 f2 f3 f4 f5 f6 f7 f8 f9 f10 f11 f12 f13 f14 f15 f16 f17 f18 f19 f20 f21 f22 f23 f24 f25 f26 f27 f28 f29 f30 f31 f32 f33 f34 f35 f36 f37 f38 f39 : Addr} {t_FIGURES : Tok}
 (aC_Plain : Gc K "Plain" C_Plain)
 (aC_Below : Gc K "Below" C_Below)
 (aC_Balanced : Gc K "Balanced" C_Balanced)
 (aC_Growing : Gc K "Growing" C_Growing)
 (aC_Falling : Gc K "Falling" C_Falling)
 (aC_Pairs : Gc K "Pairs" C_Pairs)
 (aC_NoWay : Gc K "NoWay" C_NoWay)
 (aC_NoText : Gc K "NoText" C_NoText)
 (r1 : FD K "_law_way" s_law_way f1)
 (r2 : FD K "_law_cell_at" s_law_cell_at f2)
 (r3 : FE K "has_figures_alone_texts" "has_figures_alone" s_has_figures_alone_texts f3)
 (r4 : FD K "whole_read" s_whole_read f4)
 (r5 : FD K "is_whole" s_is_whole f5)
 (r6 : FD K "bounded" s_bounded f6)
 (a7_Plain : Fi K C_Plain "__init__" f7)
 (r7 : FM K "__init__" "Plain.__init__" s_Plain_init f7)
 (a8_Below : Fi K C_Below "__init__" f8)
 (r8 : FM K "__init__" "Below.__init__" s_Below_init f8)
 (a9_Balanced : Fi K C_Balanced "__init__" f9)
 (r9 : FM K "__init__" "Balanced.__init__" s_Balanced_init f9)
 (a10_Growing : Fi K C_Growing "__init__" f10)
 (r10 : FM K "__init__" "Growing.__init__" s_Growing_init f10)
 (a11_Falling : Fi K C_Falling "__init__" f11)
 (r11 : FM K "__init__" "Falling.__init__" s_Falling_init f11)
 (a12_Pairs : Fi K C_Pairs "__init__" f12)
 (r12 : FM K "__init__" "Pairs.__init__" s_Pairs_init f12)
 (r13 : FD K "way_made" s_way_made f13)
 (r14 : FD K "way_read" s_way_read f14)
 (r15 : FD K "_law_low" s_law_low f15)
 (r16 : FD K "_law_high" s_law_high f16)
 (r17 : FD K "_law_drawn" s_law_drawn f17)
 (r18 : FD K "whole_shown" s_whole_shown f18)
 (r19 : FD K "row_shown" s_row_shown f19)
 (r20 : FD K "_law_shown" s_law_shown f20)
 (r21 : FD K "has_mosts_above_noughts_alone" s_has_mosts_above_noughts_alone f21)
 (a22_Plain : Fi K C_Plain "low" f22)
 (a22_Below : Fi K C_Below "low" f22)
 (a22_Growing : Fi K C_Growing "low" f22)
 (a22_Falling : Fi K C_Falling "low" f22)
 (a22_Pairs : Fi K C_Pairs "low" f22)
 (r22 : FM K "low" "Way.low" s_Way_low f22)
 (a23_Balanced : Fi K C_Balanced "low" f23)
 (r23 : FM K "low" "Balanced.low" s_Balanced_low f23)
 (a24_Plain : Fi K C_Plain "high" f24)
 (r24 : FM K "high" "Plain.high" s_Plain_high f24)
 (a25_Below : Fi K C_Below "high" f25)
 (r25 : FM K "high" "Below.high" s_Below_high f25)
 (a26_Balanced : Fi K C_Balanced "high" f26)
 (r26 : FM K "high" "Balanced.high" s_Balanced_high f26)
 (a27_Growing : Fi K C_Growing "high" f27)
 (r27 : FM K "high" "Growing.high" s_Growing_high f27)
 (a28_Falling : Fi K C_Falling "high" f28)
 (r28 : FM K "high" "Falling.high" s_Falling_high f28)
 (a29_Pairs : Fi K C_Pairs "high" f29)
 (r29 : FM K "high" "Pairs.high" s_Pairs_high f29)
 (r30 : FE K "has_figures_alone_writings" "has_figures_alone" s_has_figures_alone_writings f30)
 (r31 : FD K "is_writing" s_is_writing f31)
 (r32 : FD K "row_read" s_row_read f32)
 (r33 : FD K "_law_whole_of" s_law_whole_of f33)
 (r34 : FD K "_law_is_writing" s_law_is_writing f34)
 (r35 : FD K "_law_row_of" s_law_row_of f35)
 (r36 : FD K "_law_alike" s_law_alike f36)
 (r37 : FD K "_law_read" s_law_read f37)
 (r38 : FD K "_law_spoilt" s_law_spoilt f38)
 (r39 : FD K "law" s_law f39)
 (c_Plain : ClR K C_Plain "base")
 (c_Below : ClR K C_Below "base")
 (c_Balanced : ClR K C_Balanced "half")
 (c_Growing : ClR K C_Growing "first")
 (c_Falling : ClR K C_Falling "most")
 (c_Pairs : ClR K C_Pairs "most")
 (i_Plain : IR K C_Plain)
 (ki_Plain_Falling : Ki K C_Plain C_Falling false)
 (i_Below : IR K C_Below)
 (ki_Below_Falling : Ki K C_Below C_Falling false)
 (i_Balanced : IR K C_Balanced)
 (ki_Balanced_Falling : Ki K C_Balanced C_Falling false)
 (i_Growing : IR K C_Growing)
 (ki_Growing_Falling : Ki K C_Growing C_Falling false)
 (i_Falling : IR K C_Falling)
 (ki_Falling_Falling : Ki K C_Falling C_Falling true)
 (i_Pairs : IR K C_Pairs)
 (ki_Pairs_Falling : Ki K C_Pairs C_Falling false)
 (in_ : PySem.W.specialIn K (.builtin "object.__class__") "__get__" = some (some (.builtin "getset_descriptor.__get__")))
 (it_ : PySem.W.takesIn K (.builtin "object.__class__") = some true)
 (ex_NoText : ExcK K C_NoText)
 (ix_NoText : IsxOk K C_NoText)
 (em_NoText_NoWay : PySem.W.exmOne K (.ref C_NoText) (.ref C_NoWay) = some false)
 (em_NoText_NoText : PySem.W.exmOne K (.ref C_NoText) (.ref C_NoText) = some true)
 (kx_NoText_NoWay : Ki K C_NoText C_NoWay false)
 (kx_NoText_NoText : Ki K C_NoText C_NoText true)
 (g_FIGURES : Gs K "FIGURES" "0123456789" t_FIGURES)
 (z_isinstance : Zn K "isinstance")
 (z_int : Zn K "int")
 (z_bool : Zn K "bool")
 (z_tuple : Zn K "tuple")
 (z_list : Zn K "list")
 (z_len : Zn K "len")
 (z_range : Zn K "range")
 (z_enumerate : Zn K "enumerate")
 (z_reversed : Zn K "reversed")
 (z_str : Zn K "str") :
 ∃ fd : FuncData, (∀ (s : Shared) (v : Value), BindsTo s fd ⟨[v], []⟩ [("_law_script", v)]) ∧ ∀ base : Heap, K.In base → base.Ns mainGlobals mg → FnOk l.prog w K mg base CX0 7 fa fd ["_law_script"] (PureSp K (S_law)) := by
  have mn {n : Str} (z : Zn K n) := PySem.W.mg_none_of X G z
  have mo {n : Str} {C : Addr} (z : Gc K n C) := PySem.W.mg_of X G z
  let A : Adr := ⟨C_Plain, C_Below, C_Balanced, C_Growing, C_Falling, C_Pairs, C_NoWay, C_NoText⟩
  have T : Txt K mg A := ⟨kitT K, mn z_isinstance, mn z_int, mn z_bool, mn z_tuple, mn z_list, mn z_len, mn z_range, mn z_enumerate, mn z_reversed, mn z_str, ⟨_, PySem.W.mg_of X G g_FIGURES⟩, c_Plain.cls, c_Plain.na, c_Below.cls, c_Below.na, c_Balanced.cls, c_Balanced.na, c_Growing.cls, c_Growing.na, c_Falling.cls, c_Falling.na, c_Pairs.cls, c_Pairs.na, mo aC_Falling, ⟨c_Plain.cls, i_Plain.1, in_, it_, i_Plain.2⟩, ki_Plain_Falling, ⟨c_Below.cls, i_Below.1, in_, it_, i_Below.2⟩, ki_Below_Falling, ⟨c_Balanced.cls, i_Balanced.1, in_, it_, i_Balanced.2⟩, ki_Balanced_Falling, ⟨c_Growing.cls, i_Growing.1, in_, it_, i_Growing.2⟩, ki_Growing_Falling, ⟨c_Falling.cls, i_Falling.1, in_, it_, i_Falling.2⟩, ki_Falling_Falling, ⟨c_Pairs.cls, i_Pairs.1, in_, it_, i_Pairs.2⟩, ki_Pairs_Falling, mo aC_NoWay, mo aC_NoText, ex_NoText, ix_NoText, em_NoText_NoWay, em_NoText_NoText, kx_NoText_NoWay, kx_NoText_NoText⟩
  obtain ⟨_, m1, F1, b1⟩ := r1.get X G ["_law_cell"] (bz1 rfl fun _ _ _ _ _ _ _ => rfl)
  obtain ⟨_, m2, F2, b2⟩ := r2.get X G ["_law_script", "_law_k"] (bz2 rfl fun _ _ _ _ _ _ _ _ => rfl)
  obtain ⟨_, m3, F3, b3⟩ := r3.get X G ["text"] (bz1 rfl fun _ _ _ _ _ _ _ => rfl)
  obtain ⟨_, m4, F4, b4⟩ := r4.get X G ["text"] (bz1 rfl fun _ _ _ _ _ _ _ => rfl)
  obtain ⟨_, m5, F5, b5⟩ := r5.get X G ["value"] (bz1 rfl fun _ _ _ _ _ _ _ => rfl)
  obtain ⟨_, m6, F6, b6⟩ := r6.get X G ["number", "least", "most"] (bz3 rfl fun _ _ _ _ _ _ _ _ _ => rfl)
  obtain ⟨_, F7, b7⟩ := r7.get ["self", "base"] (bz2 rfl fun _ _ _ _ _ _ _ _ => rfl)
  obtain ⟨_, F8, b8⟩ := r8.get ["self", "base"] (bz2 rfl fun _ _ _ _ _ _ _ _ => rfl)
  obtain ⟨_, F9, b9⟩ := r9.get ["self", "half"] (bz2 rfl fun _ _ _ _ _ _ _ _ => rfl)
  obtain ⟨_, F10, b10⟩ := r10.get ["self", "first"] (bz2 rfl fun _ _ _ _ _ _ _ _ => rfl)
  obtain ⟨_, F11, b11⟩ := r11.get ["self", "most"] (bz2 rfl fun _ _ _ _ _ _ _ _ => rfl)
  obtain ⟨_, F12, b12⟩ := r12.get ["self", "most"] (bz2 rfl fun _ _ _ _ _ _ _ _ => rfl)
  obtain ⟨_, m13, F13, b13⟩ := r13.get X G ["name", "number"] (bz2 rfl fun _ _ _ _ _ _ _ _ => rfl)
  obtain ⟨_, m14, F14, b14⟩ := r14.get X G ["text"] (bz1 rfl fun _ _ _ _ _ _ _ => rfl)
  obtain ⟨_, m15, F15, b15⟩ := r15.get X G ["_law_way_here"] (bz1 rfl fun _ _ _ _ _ _ _ => rfl)
  obtain ⟨_, m16, F16, b16⟩ := r16.get X G ["_law_way_here", "_law_place"] (bz2 rfl fun _ _ _ _ _ _ _ _ => rfl)
  obtain ⟨_, m17, F17, b17⟩ := r17.get X G ["_law_way_here", "_law_cells"] (bz2 rfl fun _ _ _ _ _ _ _ _ => rfl)
  obtain ⟨_, m18, F18, b18⟩ := r18.get X G ["number"] (bz1 rfl fun _ _ _ _ _ _ _ => rfl)
  obtain ⟨_, m19, F19, b19⟩ := r19.get X G ["row"] (bz1 rfl fun _ _ _ _ _ _ _ => rfl)
  obtain ⟨_, m20, F20, b20⟩ := r20.get X G ["_law_row"] (bz1 rfl fun _ _ _ _ _ _ _ => rfl)
  obtain ⟨_, m21, F21, b21⟩ := r21.get X G ["way", "row"] (bz2 rfl fun _ _ _ _ _ _ _ _ => rfl)
  obtain ⟨_, F22, b22⟩ := r22.get ["self", "place"] (bz2 rfl fun _ _ _ _ _ _ _ _ => rfl)
  obtain ⟨_, F23, b23⟩ := r23.get ["self", "place"] (bz2 rfl fun _ _ _ _ _ _ _ _ => rfl)
  obtain ⟨_, F24, b24⟩ := r24.get ["self", "place"] (bz2 rfl fun _ _ _ _ _ _ _ _ => rfl)
  obtain ⟨_, F25, b25⟩ := r25.get ["self", "place"] (bz2 rfl fun _ _ _ _ _ _ _ _ => rfl)
  obtain ⟨_, F26, b26⟩ := r26.get ["self", "place"] (bz2 rfl fun _ _ _ _ _ _ _ _ => rfl)
  obtain ⟨_, F27, b27⟩ := r27.get ["self", "place"] (bz2 rfl fun _ _ _ _ _ _ _ _ => rfl)
  obtain ⟨_, F28, b28⟩ := r28.get ["self", "place"] (bz2 rfl fun _ _ _ _ _ _ _ _ => rfl)
  obtain ⟨_, F29, b29⟩ := r29.get ["self", "place"] (bz2 rfl fun _ _ _ _ _ _ _ _ => rfl)
  obtain ⟨_, m30, F30, b30⟩ := r30.get X G ["way", "row"] (bz2 rfl fun _ _ _ _ _ _ _ _ => rfl)
  obtain ⟨_, m31, F31, b31⟩ := r31.get X G ["way", "row"] (bz2 rfl fun _ _ _ _ _ _ _ _ => rfl)
  obtain ⟨_, m32, F32, b32⟩ := r32.get X G ["way", "text"] (bz2 rfl fun _ _ _ _ _ _ _ _ => rfl)
  obtain ⟨_, m33, F33, b33⟩ := r33.get X G ["_law_text"] (bz1 rfl fun _ _ _ _ _ _ _ => rfl)
  obtain ⟨_, m34, F34, b34⟩ := r34.get X G ["_law_way_here", "_law_row"] (bz2 rfl fun _ _ _ _ _ _ _ _ => rfl)
  obtain ⟨_, m35, F35, b35⟩ := r35.get X G ["_law_way_here", "_law_text"] (bz2 rfl fun _ _ _ _ _ _ _ _ => rfl)
  obtain ⟨_, m36, F36, b36⟩ := r36.get X G ["_law_found", "_law_due"] (bz2 rfl fun _ _ _ _ _ _ _ _ => rfl)
  obtain ⟨_, m37, F37, b37⟩ := r37.get X G ["_law_way_here", "_law_own", "_law_text"] (bz3 rfl fun _ _ _ _ _ _ _ _ _ => rfl)
  obtain ⟨_, m38, F38, b38⟩ := r38.get X G ["_law_row", "_law_text", "_law_cell"] (bz3 rfl fun _ _ _ _ _ _ _ _ _ => rfl)
  obtain ⟨a39, _, _, kV, dc, pm, an, cd, ct, _, l39, c39, k39⟩ := r39
  cases hfa.symm.trans (PySem.W.mg_of X G a39)
  have F39 := fun_mk (st := s_law) l39 c39 k39
  refine ⟨PySem.W.fnOf "law" "law" (defArgs s_law) (defBody s_law) (defScope s_law) .none kV dc pm an cd ct, fun s v => .of_eq rfl, fun base _ _ => ?_⟩
  have G__law_way := DOk.mk' F1 m1 b1 (ok_law_way (P := l.prog) (w := w) (base := base) T F1)
  have G__law_cell_at := DOk.mk' F2 m2 b2 (ok_law_cell_at (P := l.prog) (w := w) (base := base) T F2)
  have G_has_figures_alone_texts : DOk l.prog w K mg base 1 "has_figures_alone_texts" (S_alone) := ⟨_, _, _, m3, F3.kp, b3, ok_has_figures_alone_texts (P := l.prog) (w := w) (base := base) T F3⟩
  have G_whole_read := DOkX.mk' F4 m4 b4 (ok_whole_read T G_has_figures_alone_texts F4)
  have G_is_whole := DOk.mk' F5 m5 b5 (ok_is_whole (P := l.prog) (w := w) (base := base) T F5)
  have G_bounded := DOk.mk' F6 m6 b6 (ok_bounded T G_is_whole F6)
  have M_Plain : KOk l.prog w K mg base 3 "Plain" A.Plain "base" (Kd.ok .plain) := ⟨_, _, _, mo aC_Plain, ⟨c_Plain.mks, a7_Plain, r7.1, c_Plain.kc⟩, b7, ok_Plain_init T G_bounded F7⟩
  have M_Below : KOk l.prog w K mg base 3 "Below" A.Below "base" (Kd.ok .below) := ⟨_, _, _, mo aC_Below, ⟨c_Below.mks, a8_Below, r8.1, c_Below.kc⟩, b8, ok_Below_init T G_bounded F8⟩
  have M_Balanced : KOk l.prog w K mg base 3 "Balanced" A.Balanced "half" (Kd.ok .balanced) := ⟨_, _, _, mo aC_Balanced, ⟨c_Balanced.mks, a9_Balanced, r9.1, c_Balanced.kc⟩, b9, ok_Balanced_init T G_bounded F9⟩
  have M_Growing : KOk l.prog w K mg base 3 "Growing" A.Growing "first" (Kd.ok .growing) := ⟨_, _, _, mo aC_Growing, ⟨c_Growing.mks, a10_Growing, r10.1, c_Growing.kc⟩, b10, ok_Growing_init T G_bounded F10⟩
  have M_Falling : KOk l.prog w K mg base 3 "Falling" A.Falling "most" (Kd.ok .falling) := ⟨_, _, _, mo aC_Falling, ⟨c_Falling.mks, a11_Falling, r11.1, c_Falling.kc⟩, b11, ok_Falling_init T G_bounded F11⟩
  have M_Pairs : KOk l.prog w K mg base 3 "Pairs" A.Pairs "most" (Kd.ok .pairs) := ⟨_, _, _, mo aC_Pairs, ⟨c_Pairs.mks, a12_Pairs, r12.1, c_Pairs.kc⟩, b12, ok_Pairs_init T G_bounded F12⟩
  have G_way_made := DOk.mk' F13 m13 b13 (ok_way_made T M_Plain M_Below M_Balanced M_Growing M_Falling M_Pairs F13)
  have G_way_read := DOk.mk' F14 m14 b14 (ok_way_read T G_whole_read G_way_made F14)
  have G__law_low := DOk.mk' F15 m15 b15 (ok_law_low (P := l.prog) (w := w) (base := base) T F15)
  have G__law_high := DOk.mk' F16 m16 b16 (ok_law_high (P := l.prog) (w := w) (base := base) T F16)
  have G__law_drawn := FOk.mk' F17 m17 b17 (ok_law_drawn T G__law_low G__law_high F17)
  have G_whole_shown := DOk.mk' F18 m18 b18 (ok_whole_shown_0 (P := l.prog) (w := w) (base := base) T F18)
  have G_whole_shown := DOk.mk' F18 m18 b18 (ok_whole_shown (P := l.prog) (w := w) (base := base) T G_whole_shown F18)
  have G_row_shown := DOk.mk' F19 m19 b19 (ok_row_shown T G_whole_shown F19)
  have G__law_shown := DOk.mk' F20 m20 b20 (ok_law_shown (P := l.prog) (w := w) (base := base) T F20)
  have G_has_mosts_above_noughts_alone := DOk.mk' F21 m21 b21 (ok_has_mosts_above_noughts_alone (P := l.prog) (w := w) (base := base) T F21)
  have N_Plain_low := mkr l w base T.cl_Plain a22_Plain r22 F22 b22 (ok_Way_low T F22)
  have N_Below_low := mkr l w base T.cl_Below a22_Below r22 F22 b22 (ok_Way_low T F22)
  have N_Growing_low := mkr l w base T.cl_Growing a22_Growing r22 F22 b22 (ok_Way_low T F22)
  have N_Falling_low := mkr l w base T.cl_Falling a22_Falling r22 F22 b22 (ok_Way_low T F22)
  have N_Pairs_low := mkr l w base T.cl_Pairs a22_Pairs r22 F22 b22 (ok_Way_low T F22)
  have N_Balanced_low := mkr l w base T.cl_Balanced a23_Balanced r23 F23 b23 (ok_Balanced_low T F23)
  have N_Plain_high := mkr l w base T.cl_Plain a24_Plain r24 F24 b24 (ok_Plain_high T F24)
  have N_Below_high := mkr l w base T.cl_Below a25_Below r25 F25 b25 (ok_Below_high T F25)
  have N_Balanced_high := mkr l w base T.cl_Balanced a26_Balanced r26 F26 b26 (ok_Balanced_high T F26)
  have N_Growing_high := mkr l w base T.cl_Growing a27_Growing r27 F27 b27 (ok_Growing_high T F27)
  have N_Falling_high := mkr l w base T.cl_Falling a28_Falling r28 F28 b28 (ok_Falling_high T F28)
  have N_Pairs_high := mkr l w base T.cl_Pairs a29_Pairs r29 F29 b29 (ok_Pairs_high T F29)
  have HLo : ∀ k : Kd, MOk l.prog w K mg base 1 (A.at k) "low" (S_get A k (k.low)) ∧ MOk l.prog w K mg base 1 (A.at k) "high" (S_get A k (k.high)) := fun k => match k with
    | .plain => ⟨N_Plain_low.imp fun ds Q ⟨n, p, e, _, q⟩ => ⟨_, _, e, q⟩, N_Plain_high⟩
    | .below => ⟨N_Below_low.imp fun ds Q ⟨n, p, e, _, q⟩ => ⟨_, _, e, q⟩, N_Below_high⟩
    | .balanced => ⟨N_Balanced_low, N_Balanced_high⟩
    | .growing => ⟨N_Growing_low.imp fun ds Q ⟨n, p, e, _, q⟩ => ⟨_, _, e, q⟩, N_Growing_high⟩
    | .falling => ⟨N_Falling_low.imp fun ds Q ⟨n, p, e, _, q⟩ => ⟨_, _, e, q⟩, N_Falling_high⟩
    | .pairs => ⟨N_Pairs_low.imp fun ds Q ⟨n, p, e, _, q⟩ => ⟨_, _, e, q⟩, N_Pairs_high⟩
  have G_has_figures_alone_writings : DOk l.prog w K mg base 2 "has_figures_alone_writings" (S_figs A) := ⟨_, _, _, m30, F30.kp, b30, ok_has_figures_alone_writings (P := l.prog) (w := w) (base := base) T HLo F30⟩
  have G_is_writing := DOk.mk' F31 m31 b31 (ok_is_writing T G_has_mosts_above_noughts_alone G_has_figures_alone_writings F31)
  have G_row_read := FOkX.mk' F32 m32 b32 (ok_row_read T G_whole_read G_is_writing F32)
  have G__law_whole_of := DOk.mk' F33 m33 b33 (ok_law_whole_of (P := l.prog) (w := w) (base := base) T F33)
  have G__law_is_writing := DOk.mk' F34 m34 b34 (ok_law_is_writing T G__law_low G__law_high F34)
  have G__law_row_of := DOk.mk' F35 m35 b35 (ok_law_row_of T G__law_whole_of G__law_is_writing F35)
  have G__law_alike := DOk.mk' F36 m36 b36 (ok_law_alike (P := l.prog) (w := w) (base := base) T F36)
  have G__law_read := DOk.mk' F37 m37 b37 (ok_law_read T G_row_read G__law_row_of G__law_alike F37)
  have G__law_spoilt := DOk.mk' F38 m38 b38 (ok_law_spoilt T G__law_shown F38)
  exact ok_law T G__law_way G__law_cell_at G_way_read G__law_drawn G_row_shown G__law_shown G__law_read G__law_spoilt F39
theorem walk {l : PySem.W.OpenLaw} {q : Program} {loose : List Str} {XP : (Str → Option Value) → Heap → Prop} {YP : World → Heap → Prop} {d : DefRec} {K : Params → PySem.W.Frag} (hn : l.most = some 63) (hdf : d.params.defaults = [])
    (hY : ∀ (w : World) (h : Heap), YP w h → (K w.params).In h)
    (F : ∀ (w : World) (mg : Str → Option Value) (fa : Addr) (h : Heap), (K w.params).In h → h.Ns mainGlobals mg → mg d.name = some (.ref fa) →
      ∃ fd : FuncData, (∀ (s : Shared) (u : Value), BindsTo s fd ⟨[u], []⟩ [("_law_script", u)]) ∧ ∀ base : Heap, (K w.params).In base → base.Ns mainGlobals mg → FnOk l.prog w (K w.params) mg base CX0 7 fa fd ["_law_script"] (PureSp (K w.params) (S_law))) :
    PySem.W.WalkO q loose XP YP l.row.toRowW d [] (fun f vs => PySem.call f vs) :=
  L2.walk_of (n := 63) (k := 7) (x := "_law_script") (CX := fun _ => CX0) (sp := fun w => PureSp (K w.params) (S_law)) hn (by decide) hdf ⟨rfl, by decide, by decide⟩ hY F (fun w H a ns hl _ hS => ⟨⟨H, H, Same.refl H⟩, [.scr ns], fun d => d = .bl true, rfl, allIs_cons.mpr ⟨_, _, rfl, is_scr.mpr ⟨a, rfl, hS⟩, allIs_nil.mpr rfl⟩, ⟨ns, rfl, hl, rfl⟩, fun d v W' _ i e => by subst e; exact is_bl.mp i⟩) fun _ _ _ _ _ z => z
end My
local macro_rules | `(tactic| walk_at "fx") => `(tactic| (refine' My.FX.mk ?l ?c ?k; (case l => k_is); (case c => k_is); (case k => k_is)))
local macro_rules | `(tactic| walk_at "kk") => `(tactic| first | k_is | kit_is | kts_exm | (delta L2.ExcK; k_exc) | (delta My.Fi; k_is) | (delta My.Zn; k_is) | (delta My.Gs; k_is) | (delta My.Gc; k_is) | (delta My.Ki; kit_is) | (delta My.FD; refine ⟨?a, ?b⟩; (case a => k_is); (case b => walk_at "fx")) | (delta My.FE; refine ⟨?a, ?b⟩; (case a => k_is); (case b => walk_at "fx")) | (delta My.FM; refine ⟨?a, ?b⟩; (case a => k_is); (case b => walk_at "fx")) | (refine ⟨⟨?_, ?_, ?_, ?_⟩, ?_, ?_, ?_⟩ <;> k_is) | (refine ⟨?_, ?_, ?_, ?_, ?_, ?_, ?_⟩ <;> k_is) | (refine ⟨?_, ?_⟩ <;> k_is))
open PySem PySem.W PyProof.Rows
set_option maxRecDepth 100000 in
set_option maxHeartbeats 0 in
theorem PySem.Challenge.cw_oddbases_k58_writings_as_texts_holds : PySem.Challenge.rw_oddbases_k58_writings_as_texts.Holds := by
  w_on; o_law
  refine holds_open (q := My.h_view_39) (loose := ["has_figures_alone_writings", "has_figures_alone_texts"]) (Xt := (fun s => xlAt My.h_view_39 [] s && recOk (RowW.records (OpenRow.toRowW PySem.Challenge.rw_oddbases_k58_writings_as_texts.row)) s)) (XP := XL My.h_view_39 []) (Yf := Hook.obs (kHook My.h_heap_39 My.myAs My.myE)) (Ya := Hook.val (kHook My.h_heap_39 My.myAs My.myE)) (YP := Hook.says (kHook My.h_heap_39 My.myAs My.myE)) (N := 8706) My.left (Hook.of _) (Hook.keeps _) (fun s e => xl_of s (Bool.and_eq_true_iff.mp e).1) XL.keeps (by rfl) (by rfl) (by rfl) (fun s e => recFacts_of (Bool.and_eq_true_iff.mp e).2) (by rfl) (by first | assumption | decide +kernel) (by decide +kernel) ⟨rfl, rfl, rfl, rfl, rfl, by decide +kernel⟩ ?hw ?hc
  case hw => w_witness2
  k_fill
  refine My.walk (l := PySem.Challenge.rw_oddbases_k58_writings_as_texts) rfl rfl (fun w h Y => PySem.W.kIn_of Y) ?F
  case F =>
    intro w mg fa h KX G hmg
    refine' My.all_mk KX G hmg ?aC_Plain ?aC_Below ?aC_Balanced ?aC_Growing ?aC_Falling ?aC_Pairs ?aC_NoWay ?aC_NoText ?r1 ?r2 ?r3 ?r4 ?r5 ?r6 ?a7_Plain ?r7 ?a8_Below ?r8 ?a9_Balanced ?r9 ?a10_Growing ?r10 ?a11_Falling ?r11 ?a12_Pairs ?r12 ?r13 ?r14 ?r15 ?r16 ?r17 ?r18 ?r19 ?r20 ?r21 ?a22_Plain ?a22_Below ?a22_Growing ?a22_Falling ?a22_Pairs ?r22 ?a23_Balanced ?r23 ?a24_Plain ?r24 ?a25_Below ?r25 ?a26_Balanced ?r26 ?a27_Growing ?r27 ?a28_Falling ?r28 ?a29_Pairs ?r29 ?r30 ?r31 ?r32 ?r33 ?r34 ?r35 ?r36 ?r37 ?r38 ?r39 ?c_Plain ?c_Below ?c_Balanced ?c_Growing ?c_Falling ?c_Pairs ?i_Plain ?ki_Plain_Falling ?i_Below ?ki_Below_Falling ?i_Balanced ?ki_Balanced_Falling ?i_Growing ?ki_Growing_Falling ?i_Falling ?ki_Falling_Falling ?i_Pairs ?ki_Pairs_Falling ?in_ ?it_ ?ex_NoText ?ix_NoText ?em_NoText_NoWay ?em_NoText_NoText ?kx_NoText_NoWay ?kx_NoText_NoText ?g_FIGURES ?z_isinstance ?z_int ?z_bool ?z_tuple ?z_list ?z_len ?z_range ?z_enumerate ?z_reversed ?z_str
    case aC_Plain | aC_Below | aC_Balanced | aC_Growing | aC_Falling | aC_Pairs | aC_NoWay | aC_NoText | r1 | r2 | r3 | r4 | r5 | r6 | a7_Plain | r7 | a8_Below | r8 | a9_Balanced | r9 | a10_Growing | r10 | a11_Falling | r11 | a12_Pairs | r12 | r13 | r14 | r15 | r16 | r17 | r18 | r19 | r20 | r21 | a22_Plain | a22_Below | a22_Growing | a22_Falling | a22_Pairs | r22 | a23_Balanced | r23 | a24_Plain | r24 | a25_Below | r25 | a26_Balanced | r26 | a27_Growing | r27 | a28_Falling | r28 | a29_Pairs | r29 | r30 | r31 | r32 | r33 | r34 | r35 | r36 | r37 | r38 | r39 | c_Plain | c_Below | c_Balanced | c_Growing | c_Falling | c_Pairs | i_Plain | ki_Plain_Falling | i_Below | ki_Below_Falling | i_Balanced | ki_Balanced_Falling | i_Growing | ki_Growing_Falling | i_Falling | ki_Falling_Falling | i_Pairs | ki_Pairs_Falling | in_ | it_ | ex_NoText | ix_NoText | em_NoText_NoWay | em_NoText_NoText | kx_NoText_NoWay | kx_NoText_NoText | g_FIGURES | z_isinstance | z_int | z_bool | z_tuple | z_list | z_len | z_range | z_enumerate | z_reversed | z_str => walk_at "kk"
